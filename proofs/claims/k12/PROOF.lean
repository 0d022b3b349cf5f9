import PyProof.Rows.All
import Wide.All
import OpenK.AllK
import Wide.FinOn
import HandS.ForMost
import HandS.Walk
import HandS.Wide
import HandS.Gcd
import HandS.Property
import HandS.Star
import HandS.IsInst
import HandS.OwnEq
import HandS.Style
import HandS.Defaults
import HandS.MakeKw
import HandS.MakeKwOnly
import KE.KMathG
import HandS.DictComp
import HandS.SortInts
import HandS.SortKw
import HandS.TryOnly
import KE.GoesMore
import HandS.SetFor
import HandS.Strs
import HandS.Conv
import HandS.SetBool
import HandS.Rev
import HandS.WideBits
import HandS.TupAny
import KE.KTupSum
import HandS.Iter
import HandS.WordsDict
import HandS.Zip
import HandS.Flow
import PySem.Challenge.RW_boxrows_k12_rows_with_many_rounds
set_option Elab.async false
set_option linter.all false
set_option maxRecDepth 100000
set_option maxHeartbeats 4000000
/-! Z1: data without addresses (D), a store of mutable lists (cells), what represents them on the abstract heap, and readings over them (ZE, ZT, ZA, ZS) that the layer's readings refine. -/
namespace Z
open PySem L2

/-- data: what a value is, all the way down; cell n: the n-th mutable object; scr: the script; ins: an instance that never changes -/
inductive D where
  | non | bl (b : Bool) | int (i : Int) | str (x : Str) | ty (n : String)
  | tup (ds : List D) | lst (ds : List D) | ins (c : Nat) (ds : List D) | cell (n : Nat) | scr (ns : List Int) | cls (c : Nat) | dct (ks : List Int) (ds : List D) | ktup (ns : List Int)
/-- what a cell holds -/
inductive O where
  | lst (ds : List D)
  | ins (c : Nat) (fs : List (Str × D))
  | dct (ks : List Int) (ds : List D)
abbrev Store := List O
/-- the classes: where each stands, its attributes in order -/
structure CI where
  adr : Nat → Addr
  nms : Nat → List Str

section
variable (K : PySem.W.Frag) (C : CI) (S A : List Addr) (H : Hp)
mutual
inductive Rep : V → D → Prop where
  | non : Rep .non .non
  | bl (b : Bool) : Rep (.bl b) (.bl b)
  | int (i : Int) : Rep (.int i) (.int i)
  | str (x : Str) : Rep (.str x) (.str x)
  | ty (n : String) : Rep (.ty n) (.ty n)
  | tup {a : Addr} {xs : List V} {ds : List D} (h : H a = some (.tup xs)) (hA : a ∉ A) (hS : a ∉ S) (r : RepL xs ds) : Rep (.ref a) (.tup ds)
  | lst {a : Addr} {xs : List V} {ds : List D} (h : H a = some (.lst xs)) (hA : a ∉ A) (hS : a ∉ S) (r : RepL xs ds) : Rep (.ref a) (.lst ds)
  | ins {a dx : Addr} {c : Nat} {xs : List V} {ds : List D} (h : H a = some (.ins (C.adr c) dx ((C.nms c).zip xs))) (hA : a ∉ A) (hS : a ∉ S) (hl : xs.length = (C.nms c).length) (r : RepL xs ds) : Rep (.ref a) (.ins c ds)
  | cell {a : Addr} {n : Nat} (h : A[n]? = some a) : Rep (.ref a) (.cell n)
  | dct {a : Addr} {ks : List Int} {xs : List V} {ds : List D} (h : Rd H a (.dK ((ks.map Sum.inl).zip xs))) (hA : a ∉ A) (hS : a ∉ S) (hl : xs.length = ks.length) (r : RepL xs ds) : Rep (.ref a) (.dct ks ds)
  | cls (c : Nat) : Rep (.ref (C.adr c)) (.cls c)
  | ktup {a : Addr} {ns : List Int} (h : ∃ (o : Obj) (its : Array Value) (n : Nat), K.lookup a = some o ∧ o.cls = .type "tuple" ∧ o.data = .seq its n ∧ its.size ≤ sizeLine ∧ Vals (ns.map V.int) its.toList) : Rep (.ref a) (.ktup ns)
  | scr {a : Addr} {ns : List Int} (h : (∃ o, H a = some (.frz o (.lst (ns.map V.int)))) ∧ a ∉ A ∧ a ∉ S ∨ (∃ (o : Obj) (its : Array Value) (n : Nat), K.lookup a = some o ∧ o.cls = .type "list" ∧ o.dict = none ∧ o.data = .seq its n ∧ its.size ≤ sizeLine ∧ Vals (ns.map V.int) its.toList)) : Rep (.ref a) (.scr ns)
inductive RepL : List V → List D → Prop where
  | nil : RepL [] []
  | cons {v : V} {vs : List V} {d : D} {ds : List D} (h : Rep v d) (r : RepL vs ds) : RepL (v :: vs) (d :: ds)
end
/-- what stands at a cell's address -/
def CellAt (a : Addr) : O → Prop
  | .lst ds => ∃ xs, H a = some (.lst xs) ∧ RepL K C S A H xs ds
  | .ins c fs => ∃ dx xs, H a = some (.ins (C.adr c) dx xs) ∧ xs.map (·.1) = fs.map (·.1) ∧ RepL K C S A H (xs.map (·.2)) (fs.map (·.2))
  | .dct ks ds => ∃ xs, H a = some (.dK ((ks.map Sum.inl).zip xs)) ∧ xs.length = ks.length ∧ RepL K C S A H xs ds
/-- cells: the n-th address holds the n-th content -/
structure Cells (Δ : Store) : Prop where
  len : A.length = Δ.length
  nd : A.Nodup
  dj : ∀ a ∈ A, a ∉ S
  as : ∀ a ∈ S, H a ≠ none
  at_ : ∀ (n : Nat) (a : Addr) (o : O), A[n]? = some a → Δ[n]? = some o → CellAt K C S A H a o
/-- slots -/
structure Slots (σ : L2.St) (Γ : List (Option D)) : Prop where
  len : σ.length = Γ.length
  at_ : ∀ (i : Nat) (d : D), Γ[i]? = some (some d) → ∃ v, σ[i]? = some (some v) ∧ Rep K C S A H v d
end
/-- the heap goes on: new cells B, all but the cells kept -/
structure Ext (A : List Addr) (H : Hp) (A' : List Addr) (H' : Hp) : Prop where
  pre : ∃ B, A' = A ++ B ∧ ∀ b ∈ B, H b = none
  keep : ∀ a o, a ∉ A → H a = some o → H' a = some o
  trk : ∀ a, H' a = none → H a = none

theorem Ext.refl (A : List Addr) (H : Hp) : Ext A H A H := ⟨⟨[], by simp, by simp⟩, fun _ _ _ h => h, fun _ h => h⟩
theorem Ext.trans {A A1 A2 : List Addr} {H H1 H2 : Hp} (e : Ext A H A1 H1) (f : Ext A1 H1 A2 H2) : Ext A H A2 H2 := by
  obtain ⟨B, hB, nB⟩ := e.pre
  obtain ⟨B', hB', nB'⟩ := f.pre
  refine ⟨⟨B ++ B', by rw [hB', hB, List.append_assoc], fun b hb => ?_⟩, fun a o ha h => ?_, fun a h => e.trk a (f.trk a h)⟩
  · rcases List.mem_append.mp hb with hb | hb
    · exact nB b hb
    · exact e.trk b (nB' b hb)
  · refine f.keep a o ?_ (e.keep a o ha h)
    rw [hB]
    intro hm
    rcases List.mem_append.mp hm with hm | hm
    · exact ha hm
    · rw [nB a hm] at h
      cases h
/-- a new object -/
theorem Ext.new {A : List Addr} {H : Hp} {p : Addr} {o : HO} (h : H p = none) : Ext A H A (upd H p o) := by
  refine ⟨⟨[], by simp, by simp⟩, fun a u _ e => by rw [upd_ne (ne_of_none e h)]; exact e, fun a e => ?_⟩
  by_cases q : a = p
  · subst q; exact h
  · rw [upd_ne q] at e; exact e
/-- a new object, made a cell -/
theorem Ext.newCell {A : List Addr} {H : Hp} {p : Addr} {o : HO} (h : H p = none) : Ext A H (A ++ [p]) (upd H p o) := by
  refine ⟨⟨[p], rfl, by simp [h]⟩, fun a u _ e => by rw [upd_ne (ne_of_none e h)]; exact e, fun a e => ?_⟩
  by_cases q : a = p
  · subst q; exact h
  · rw [upd_ne q] at e; exact e
/-- a cell is written -/
theorem Ext.write {A : List Addr} {H : Hp} {p : Addr} {o : HO} (hp : p ∈ A) (h : H p ≠ none) : Ext A H A (upd H p o) := by
  refine ⟨⟨[], by simp, by simp⟩, fun a u ha e => ?_, fun a e => ?_⟩
  · rw [upd_ne (fun q => ha (by rw [q]; exact hp))]; exact e
  · by_cases q : a = p
    · subst q; rw [upd_same] at e; cases e
    · rw [upd_ne q] at e; exact e
section
variable {K : PySem.W.Frag} {C : CI} {S S' A A' : List Addr} {H H' : Hp}
/-- the weakest going on that keeps what is represented -/
structure Mo (S A : List Addr) (H : Hp) (S' A' : List Addr) (H' : Hp) : Prop where
  pre : ∃ B, A' = A ++ B ∧ ∀ b ∈ B, H b = none
  sub : ∀ b ∈ S', b ∈ S ∨ H b = none
  keep : ∀ a o, a ∉ A → a ∉ S → H a = some o → H' a = some o
theorem Ext.mo (e : Ext A H A' H') : Mo S A H S A' H' := ⟨e.pre, fun _ h => .inl h, fun a o h1 _ h => e.keep a o h1 h⟩
theorem Mo.notA (m : Mo S A H S' A' H') {a : Addr} {o : HO} (ha : a ∉ A) (h : H a = some o) : a ∉ A' := by
  obtain ⟨B, hB, nB⟩ := m.pre
  rw [hB]
  intro hm
  rcases List.mem_append.mp hm with hm | hm
  · exact ha hm
  · rw [nB a hm] at h
    cases h
theorem Mo.notS (m : Mo S A H S' A' H') {a : Addr} {o : HO} (ha : a ∉ S) (h : H a = some o) : a ∉ S' := fun hm => by
  rcases m.sub a hm with hm | hm
  · exact ha hm
  · rw [hm] at h; cases h
mutual
theorem Rep.mono (m : Mo S A H S' A' H') : ∀ (d : D) {v : V}, Rep K C S A H v d → Rep K C S' A' H' v d
  | .non, _, h => by cases h; exact .non
  | .bl b, _, h => by cases h; exact .bl b
  | .int i, _, h => by cases h; exact .int i
  | .str x, _, h => by cases h; exact .str x
  | .ty n, _, h => by cases h; exact .ty n
  | .cls c, _, h => by cases h; exact .cls c
  | .ktup ns, _, h => by cases h with | ktup h => exact .ktup h
  | .tup ds, _, h => by
    cases h with
    | tup h hA hS r => exact .tup (m.keep _ _ hA hS h) (m.notA hA h) (m.notS hS h) (RepL.mono m ds r)
  | .lst ds, _, h => by
    cases h with
    | lst h hA hS r => exact .lst (m.keep _ _ hA hS h) (m.notA hA h) (m.notS hS h) (RepL.mono m ds r)
  | .ins c ds, _, h => by
    cases h with
    | ins h hA hS hl r => exact .ins (m.keep _ _ hA hS h) (m.notA hA h) (m.notS hS h) hl (RepL.mono m ds r)
  | .dct ks ds, _, h => by
    cases h with
    | dct h hA hS hl r =>
      rcases h with h | ⟨o, h⟩
      · exact .dct (.inl (m.keep _ _ hA hS h)) (m.notA hA h) (m.notS hS h) hl (RepL.mono m ds r)
      · exact .dct (.inr ⟨o, m.keep _ _ hA hS h⟩) (m.notA hA h) (m.notS hS h) hl (RepL.mono m ds r)
  | .cell n, _, h => by
    cases h with
    | cell h =>
      obtain ⟨B, hB, _⟩ := m.pre
      refine .cell ?_
      rw [hB, List.getElem?_append_left (List.getElem?_eq_some_iff.mp h).1]
      exact h
  | .scr ns, _, h => by
    cases h with
    | scr h =>
      refine .scr ?_
      rcases h with ⟨⟨o, h⟩, hA, hS⟩ | h
      · exact .inl ⟨⟨o, m.keep _ _ hA hS h⟩, m.notA hA h, m.notS hS h⟩
      · exact .inr h
theorem RepL.mono (m : Mo S A H S' A' H') : ∀ (ds : List D) {vs : List V}, RepL K C S A H vs ds → RepL K C S' A' H' vs ds
  | [], _, h => by cases h; exact .nil
  | d :: ds, _, h => by
    cases h with
    | cons h r => exact .cons (Rep.mono m d h) (RepL.mono m ds r)
end
theorem Rep.ext {v : V} {d : D} (e : Ext A H A' H') (h : Rep K C S A H v d) : Rep K C S A' H' v d := Rep.mono e.mo d h
theorem RepL.ext {vs : List V} {ds : List D} (e : Ext A H A' H') (h : RepL K C S A H vs ds) : RepL K C S A' H' vs ds := RepL.mono e.mo ds h
theorem RepL.length : ∀ {vs : List V} {ds : List D}, RepL K C S A H vs ds → vs.length = ds.length
  | _, _, .nil => rfl
  | _, _, .cons _ r => congrArg (· + 1) (RepL.length r)
theorem RepL.get : ∀ {vs : List V} {ds : List D} {i : Nat} {d : D}, RepL K C S A H vs ds → ds[i]? = some d → ∃ v, vs[i]? = some v ∧ Rep K C S A H v d
  | _, _, _, _, .nil, e => by simp at e
  | _, _, 0, _, .cons h _, e => by simp at e; subst e; exact ⟨_, rfl, h⟩
  | _, _, i + 1, _, .cons _ r, e => by
    obtain ⟨v, h1, h2⟩ := RepL.get (i := i) r (by simpa using e)
    exact ⟨v, by simpa using h1, h2⟩
theorem RepL.getV : ∀ {vs : List V} {ds : List D} {i : Nat} {v : V}, RepL K C S A H vs ds → vs[i]? = some v → ∃ d, ds[i]? = some d ∧ Rep K C S A H v d
  | _, _, _, _, .nil, e => by simp at e
  | _, _, 0, _, .cons h _, e => by simp at e; subst e; exact ⟨_, rfl, h⟩
  | _, _, i + 1, _, .cons _ r, e => by
    obtain ⟨v, h1, h2⟩ := RepL.getV (i := i) r (by simpa using e)
    exact ⟨v, by simpa using h1, h2⟩
theorem RepL.append : ∀ {vs ws : List V} {ds es : List D}, RepL K C S A H vs ds → RepL K C S A H ws es → RepL K C S A H (vs ++ ws) (ds ++ es)
  | _, _, _, _, .nil, q => q
  | _, _, _, _, .cons h r, q => .cons h (RepL.append r q)
theorem RepL.take : ∀ {vs : List V} {ds : List D} (n : Nat), RepL K C S A H vs ds → RepL K C S A H (vs.take n) (ds.take n)
  | _, _, 0, _ => .nil
  | _, _, _ + 1, .nil => .nil
  | _, _, n + 1, .cons h r => .cons h (RepL.take n r)
theorem RepL.drop : ∀ {vs : List V} {ds : List D} (n : Nat), RepL K C S A H vs ds → RepL K C S A H (vs.drop n) (ds.drop n)
  | _, _, 0, r => r
  | _, _, _ + 1, .nil => .nil
  | _, _, n + 1, .cons _ r => RepL.drop n r
theorem RepL.reverse : ∀ {vs : List V} {ds : List D}, RepL K C S A H vs ds → RepL K C S A H vs.reverse ds.reverse
  | _, _, .nil => .nil
  | _, _, .cons h r => by
    rw [List.reverse_cons, List.reverse_cons]
    exact RepL.append (RepL.reverse r) (.cons h .nil)
theorem RepL.set : ∀ {vs : List V} {ds : List D} {v : V} {d : D} (i : Nat), Rep K C S A H v d → RepL K C S A H vs ds → RepL K C S A H (vs.set i v) (ds.set i d)
  | _, _, _, _, _, _, .nil => .nil
  | _, _, _, _, 0, q, .cons _ r => .cons q r
  | _, _, _, _, i + 1, q, .cons h r => .cons h (RepL.set i q r)
theorem RepL.repl (k : Nat) {vs : List V} {ds : List D} (r : RepL K C S A H vs ds) : RepL K C S A H (List.replicate k vs).flatten (List.replicate k ds).flatten := by
  induction k with
  | zero => exact .nil
  | succ k ih =>
    rw [List.replicate_succ, List.replicate_succ, List.flatten_cons, List.flatten_cons]
    exact RepL.append r ih
theorem Slots.ext {σ : L2.St} {Γ : List (Option D)} (e : Ext A H A' H') (h : Slots K C S A H σ Γ) : Slots K C S A' H' σ Γ :=
  ⟨h.len, fun i d q => by obtain ⟨v, h1, h2⟩ := h.at_ i d q; exact ⟨v, h1, h2.ext e⟩⟩
theorem Slots.mono {σ : L2.St} {Γ : List (Option D)} (m : Mo S A H S' A' H') (h : Slots K C S A H σ Γ) : Slots K C S' A' H' σ Γ :=
  ⟨h.len, fun i d q => by obtain ⟨v, h1, h2⟩ := h.at_ i d q; exact ⟨v, h1, Rep.mono m d h2⟩⟩
theorem Slots.set {σ : L2.St} {Γ : List (Option D)} {v : V} {d : D} (h : Slots K C S A H σ Γ) (i : Nat) (r : Rep K C S A H v d) : Slots K C S A H (σ.set i (some v)) (Γ.set i (some d)) := by
  refine ⟨by rw [List.length_set, List.length_set]; exact h.len, fun j e q => ?_⟩
  by_cases hj : j = i
  · subst hj
    have hlt : j < Γ.length := by
      have := (List.getElem?_eq_some_iff.mp q).1
      rw [List.length_set] at this
      exact this
    rw [List.getElem?_set_self hlt] at q
    cases q
    exact ⟨v, List.getElem?_set_self (by rw [h.len]; exact hlt), r⟩
  · rw [List.getElem?_set_ne (Ne.symm hj)] at q
    obtain ⟨w, h1, h2⟩ := h.at_ j e q
    exact ⟨w, by rw [List.getElem?_set_ne (Ne.symm hj)]; exact h1, h2⟩
/-- a cell's content, where its object is kept -/
theorem CellAt.mono {a : Addr} {o : O} (m : Mo S A H S' A' H') (k : ∀ u, H a = some u → H' a = some u) (h : CellAt K C S A H a o) : CellAt K C S' A' H' a o := by
  cases o with
  | lst ds =>
    obtain ⟨xs, e, r⟩ := h
    exact ⟨xs, k _ e, RepL.mono m ds r⟩
  | ins c fs =>
    obtain ⟨dx, xs, e, q, r⟩ := h
    exact ⟨dx, xs, k _ e, q, RepL.mono m _ r⟩
  | dct ks ds =>
    obtain ⟨xs, e, q, r⟩ := h
    exact ⟨xs, k _ e, q, RepL.mono m ds r⟩
theorem CellAt.trk {a : Addr} {o : O} (h : CellAt K C S A H a o) : H a ≠ none := by
  cases o with
  | lst ds =>
    obtain ⟨xs, e, r⟩ := h
    rw [e]; simp
  | ins c fs =>
    obtain ⟨dx, xs, e, q, r⟩ := h
    rw [e]; simp
  | dct ks ds =>
    obtain ⟨xs, e, q, r⟩ := h
    rw [e]; simp
/-- the cells, behind something that kept all tracked objects (and made nothing a cell) -/
theorem Cells.kept {Δ : Store} (h : Cells K C S A H Δ) (k : ∀ a o, H a = some o → H' a = some o) : Cells K C S A H' Δ := by
  refine ⟨h.len, h.nd, h.dj, fun a ha => ?_, fun n a o h1 h2 => ?_⟩
  · cases q : H a with
    | none => exact absurd q (h.as a ha)
    | some o => rw [k a o q]; simp
  · exact (h.at_ n a o h1 h2).mono ⟨⟨[], by simp, by simp⟩, fun _ h => .inl h, fun a o _ _ q => k a o q⟩ (k a)
end

/-! ### readings over data -/
abbrev Env := List (Option D)
abbrev ZE := Env → Store → (D → Store → Prop) → Prop
abbrev ZT := Env → Store → (Bool → Store → Prop) → Prop
abbrev ZA := Env → Store → (List D → Store → Prop) → Prop
structure ZEnds where
  nx : Env → Store → Prop
  rt : D → Store → Prop
  bk : Env → Store → Prop := fun _ _ => False
  ct : Env → Store → Prop := fun _ _ => False
abbrev ZS := ZEnds → Env → Store → Prop

def RefE (K : PySem.W.Frag) (C : CI) (te : TE) (z : ZE) : Prop := ∀ (S A : List Addr) (σ : L2.St) (H : Hp) (Γ : Env) (Δ : Store) (P : D → Store → Prop) (Q : VK), Slots K C S A H σ Γ → Cells K C S A H Δ → z Γ Δ P →
  (∀ v d A' H' Δ', Ext A H A' H' → Cells K C S A' H' Δ' → Rep K C S A' H' v d → P d Δ' → Q v H') → te σ H Q
def RefT (K : PySem.W.Frag) (C : CI) (tt : TT) (z : ZT) : Prop := ∀ (S A : List Addr) (σ : L2.St) (H : Hp) (Γ : Env) (Δ : Store) (P : Bool → Store → Prop) (Q : Bool → Hp → Prop), Slots K C S A H σ Γ → Cells K C S A H Δ → z Γ Δ P →
  (∀ b A' H' Δ', Ext A H A' H' → Cells K C S A' H' Δ' → P b Δ' → Q b H') → tt σ H Q
def RefA (K : PySem.W.Frag) (C : CI) (ta : TA) (z : ZA) : Prop := ∀ (S A : List Addr) (σ : L2.St) (H : Hp) (Γ : Env) (Δ : Store) (P : List D → Store → Prop) (Q : List V → Hp → Prop), Slots K C S A H σ Γ → Cells K C S A H Δ → z Γ Δ P →
  (∀ vs ds A' H' Δ', Ext A H A' H' → Cells K C S A' H' Δ' → RepL K C S A' H' vs ds → P ds Δ' → Q vs H') → ta σ H Q
/-- what a wish over slots and heap says where the wish over data is Z -/
def NxOk (K : PySem.W.Frag) (C : CI) (S A : List Addr) (H : Hp) (Z : Env → Store → Prop) (N : L2.St → Hp → Prop) : Prop :=
  ∀ σ' A' H' Γ' Δ', Ext A H A' H' → Slots K C S A' H' σ' Γ' → Cells K C S A' H' Δ' → Z Γ' Δ' → N σ' H'
structure EndsOk (K : PySem.W.Frag) (C : CI) (S A : List Addr) (H : Hp) (Z : ZEnds) (N : Ends) : Prop where
  nx : NxOk K C S A H Z.nx N.nx
  bk : NxOk K C S A H Z.bk N.bk
  ct : NxOk K C S A H Z.ct N.ct
  rt : ∀ v d A' H' Δ', Ext A H A' H' → Cells K C S A' H' Δ' → Rep K C S A' H' v d → Z.rt d Δ' → N.rt v H'
def RefS (K : PySem.W.Frag) (C : CI) (ts : TS) (z : ZS) : Prop := ∀ (S A : List Addr) (σ : L2.St) (H : Hp) (Γ : Env) (Δ : Store) (Z : ZEnds) (N : Ends), Slots K C S A H σ Γ → Cells K C S A H Δ → z Z Γ Δ → EndsOk K C S A H Z N → ts N σ H
section
variable {K : PySem.W.Frag} {C : CI} {S A A' : List Addr} {H H' : Hp}
theorem NxOk.ext {Z : Env → Store → Prop} {N : L2.St → Hp → Prop} (h : NxOk K C S A H Z N) (e : Ext A H A' H') : NxOk K C S A' H' Z N :=
  fun σ' A2 H2 Γ' Δ' e2 s c z => h σ' A2 H2 Γ' Δ' (e.trans e2) s c z
theorem EndsOk.ext {Z : ZEnds} {N : Ends} (h : EndsOk K C S A H Z N) (e : Ext A H A' H') : EndsOk K C S A' H' Z N :=
  ⟨h.nx.ext e, h.bk.ext e, h.ct.ext e, fun v d A2 H2 Δ' e2 c r z => h.rt v d A2 H2 Δ' (e.trans e2) c r z⟩
end

/-! ### the judgements: a piece of syntax and its reading over data -/
structure EZ (C : CI) (X : Cx) (e : Expr) (z : ZE) : Prop where
  ex : ∃ te, PE X e te ∧ RefE X.K C te z
structure TZ (C : CI) (X : Cx) (e : Expr) (z : ZT) : Prop where
  ex : ∃ tt, PT X e tt ∧ RefT X.K C tt z
structure WZ (C : CI) (X : Cx) (e : Expr) (z : ZT) : Prop where
  ex : ∃ tt, PW X e tt ∧ RefT X.K C tt z
structure AZ (C : CI) (X : Cx) (es : List Expr) (z : ZA) : Prop where
  ex : ∃ ta, PA X es ta ∧ RefA X.K C ta z
structure SZ (C : CI) (X : Cx) (st : Stmt) (z : ZS) : Prop where
  ex : ∃ ts, PS X st ts ∧ RefS X.K C ts z
structure SZs (C : CI) (X : Cx) (st : List Stmt) (z : ZS) : Prop where
  ex : ∃ ts, PSs X st ts ∧ RefS X.K C ts z
theorem WZ.tz {C : CI} {X : Cx} {e : Expr} {z : ZT} (h : WZ C X e z) : TZ C X e z := by
  obtain ⟨t, h1, h2⟩ := h.ex
  exact ⟨t, h1.pt, h2⟩
end Z

/-! Z2: expressions over data. -/
namespace Z
open PySem L2

abbrev ZR1 := D → Store → (D → Store → Prop) → Prop
abbrev ZR2 := D → D → Store → (D → Store → Prop) → Prop
abbrev ZRC := List D → Store → (D → Store → Prop) → Prop
def Ref1 (K : PySem.W.Frag) (C : CI) (r : V → Hp → VK → Prop) (z : ZR1) : Prop := ∀ (S A : List Addr) (H : Hp) (Δ : Store) (x : V) (dx : D) (P : D → Store → Prop) (Q : VK), Cells K C S A H Δ → Rep K C S A H x dx → z dx Δ P →
  (∀ v d A' H' Δ', Ext A H A' H' → Cells K C S A' H' Δ' → Rep K C S A' H' v d → P d Δ' → Q v H') → r x H Q
def Ref2 (K : PySem.W.Frag) (C : CI) (r : R2) (z : ZR2) : Prop := ∀ (S A : List Addr) (H : Hp) (Δ : Store) (x y : V) (dx dy : D) (P : D → Store → Prop) (Q : VK), Cells K C S A H Δ → Rep K C S A H x dx → Rep K C S A H y dy → z dx dy Δ P →
  (∀ v d A' H' Δ', Ext A H A' H' → Cells K C S A' H' Δ' → Rep K C S A' H' v d → P d Δ' → Q v H') → r x y H Q
def RefC (K : PySem.W.Frag) (C : CI) (r : List V → Hp → VK → Prop) (z : ZRC) : Prop := ∀ (S A : List Addr) (H : Hp) (Δ : Store) (xs : List V) (ds : List D) (P : D → Store → Prop) (Q : VK), Cells K C S A H Δ → RepL K C S A H xs ds → z ds Δ P →
  (∀ v d A' H' Δ', Ext A H A' H' → Cells K C S A' H' Δ' → Rep K C S A' H' v d → P d Δ' → Q v H') → r xs H Q

/-! ### names, constants -/
def zVar (i : Nat) : ZE := fun Γ Δ P => ∃ d, Γ[i]? = some (some d) ∧ P d Δ
def zC (d : D) : ZE := fun _ Δ P => P d Δ
section
variable {C : CI} {X : Cx}
theorem ez_var (i : Nat) {x : Str} {pos : Pos} (hN : X.N[i]? = some x := by rfl) (hv : Vis X.env.scope x := by first | exact Or.inl rfl | exact Or.inr (Or.inl rfl) | exact Or.inr (Or.inr rfl)) (hd : (x == ("__debug__" : Str)) = false := by decide)
    (hcd : (x == ("__classdict__" : Str)) = false := by decide) : EZ C X (.Name x pos) (zVar i) := by
  refine ⟨tVar i, pe_var hN hv hd hcd, fun S A σ H Γ Δ P Q hs hc hz k => ?_⟩
  obtain ⟨d, e, p⟩ := hz
  obtain ⟨v, h1, h2⟩ := hs.at_ i d e
  exact ⟨v, h1, k v d A H Δ (Ext.refl _ _) hc h2 p⟩
theorem ref_c {K : PySem.W.Frag} {v : V} {d : D} (h : ∀ S A H, Rep K C S A H v d) : RefE K C (tC v) (zC d) := fun S A σ H Γ Δ P Q hs hc hz k => k v d A H Δ (Ext.refl _ _) hc (h S A H) hz
theorem ez_int {i j pos} : EZ C X (.Constant (.int i) j pos) (zC (.int i)) := ⟨_, pe_int, ref_c fun _ _ _ => .int i⟩
theorem ez_bl {b j pos} : EZ C X (.Constant (.bool b) j pos) (zC (.bl b)) := ⟨_, pe_bl, ref_c fun _ _ _ => .bl b⟩
theorem ez_non {j pos} : EZ C X (.Constant .none j pos) (zC .non) := ⟨_, pe_non, ref_c fun _ _ _ => .non⟩
theorem ez_str {x j pos} : EZ C X (.Constant (.str x) j pos) (zC (.str x)) := ⟨_, pe_str, ref_c fun _ _ _ => .str x⟩
/-- a module's constant, an int -/
theorem ez_gint {x : Str} {i : Int} {t : Tok} {pos : Pos} (hm : X.mg x = some (.int i t)) (hg : Gl X x := by rfl) (hd : (x == ("__debug__" : Str)) = false := by decide) : EZ C X (.Name x pos) (zC (.int i)) :=
  ⟨_, pe_glob (v := .int i) hg hm ⟨t, rfl⟩ hd, ref_c fun _ _ _ => .int i⟩
/-- a built-in type's name as a value -/
theorem ez_ty {x : Str} {n : String} {pos : Pos} (hm : X.mg x = none) (hv : bootBuiltins x = some (.type n)) (hg : Gl X x := by rfl) (hn : x ≠ "__name__" := by decide) (hd : (x == ("__debug__" : Str)) = false := by decide) : EZ C X (.Name x pos) (zC (.ty n)) :=
  ⟨_, pe_bltn (v := .ty n) hg hm hv rfl hn hd, ref_c fun _ _ _ => .ty n⟩

/-! ### operators -/
def zOp (r : ZR2) (za zb : ZE) : ZE := fun Γ Δ P => za Γ Δ fun x Δ1 => zb Γ Δ1 fun y Δ2 => r x y Δ2 P
def zUn (r : ZR1) (za : ZE) : ZE := fun Γ Δ P => za Γ Δ fun x Δ1 => r x Δ1 P
theorem ref_op {K : PySem.W.Frag} {r : R2} {z : ZR2} {ta tb : TE} {za zb : ZE} (hr : Ref2 K C r z) (ha : RefE K C ta za) (hb : RefE K C tb zb) : RefE K C (tOp r ta tb) (zOp z za zb) := fun S A σ H Γ Δ P Q hs hc hz k =>
  ha S A σ H Γ Δ _ _ hs hc hz fun x dx A1 H1 Δ1 e1 c1 r1 hz1 => hb S A1 σ H1 Γ Δ1 _ _ (hs.ext e1) c1 hz1 fun y dy A2 H2 Δ2 e2 c2 r2 hz2 =>
    hr S A2 H2 Δ2 x y dx dy P Q c2 (r1.ext e2) r2 hz2 fun v d A3 H3 Δ3 e3 c3 r3 p => k v d A3 H3 Δ3 ((e1.trans e2).trans e3) c3 r3 p
theorem ref_un {K : PySem.W.Frag} {r : V → Hp → VK → Prop} {z : ZR1} {ta : TE} {za : ZE} (hr : Ref1 K C r z) (ha : RefE K C ta za) : RefE K C (tUn r ta) (zUn z za) := fun S A σ H Γ Δ P Q hs hc hz k =>
  ha S A σ H Γ Δ _ _ hs hc hz fun x dx A1 H1 Δ1 e1 c1 r1 hz1 => hr S A1 H1 Δ1 x dx P Q c1 r1 hz1 fun v d A3 H3 Δ3 e3 c3 r3 p => k v d A3 H3 Δ3 (e1.trans e3) c3 r3 p
variable {a b c : Expr} {za zb zc : ZE} {pos : Pos}
/-- an operator's rule: what it does by values, and over data -/
structure OpZ (C : CI) (X : Cx) (f : Value → Value → Sem Value) (z : ZR2) : Prop where
  ex : ∃ r, OpR X f r ∧ Ref2 X.K C r z
theorem ez_op {op : Operator} {z : ZR2} (ho : OpZ C X (binaryOp op) z) (ha : EZ C X a za) (hb : EZ C X b zb) : EZ C X (.BinOp a op b pos) (zOp z za zb) := by
  obtain ⟨r, o1, o2⟩ := ho.ex
  obtain ⟨ta, a1, a2⟩ := ha.ex
  obtain ⟨tb, b1, b2⟩ := hb.ex
  exact ⟨_, pe_op o1 a1 b1, ref_op o2 a2 b2⟩
def zI0 (g : Int → Int → D) : ZR2 := fun x y Δ P => ∃ i j, x = .int i ∧ y = .int j ∧ P (g i j) Δ
def zI (Cd : Int → Int → Prop) (g : Int → Int → D) : ZR2 := fun x y Δ P => ∃ i j, x = .int i ∧ y = .int j ∧ Cd i j ∧ P (g i j) Δ
theorem ref_I0 {K : PySem.W.Frag} {g : Int → Int → V} {g' : Int → Int → D} (hg : ∀ i j S A H, Rep K C S A H (g i j) (g' i j)) : Ref2 K C (rI0 g) (zI0 g') := fun S A H Δ x y dx dy P Q hc rx ry hz k => by
  obtain ⟨i, j, rfl, rfl, p⟩ := hz
  cases rx
  cases ry
  exact ⟨i, j, rfl, rfl, k _ _ A H Δ (Ext.refl _ _) hc (hg i j S A H) p⟩
theorem ref_I {K : PySem.W.Frag} {Cd : Int → Int → Prop} {g : Int → Int → V} {g' : Int → Int → D} (hg : ∀ i j S A H, Rep K C S A H (g i j) (g' i j)) : Ref2 K C (rI Cd g) (zI Cd g') := fun S A H Δ x y dx dy P Q hc rx ry hz k => by
  obtain ⟨i, j, rfl, rfl, q, p⟩ := hz
  cases rx
  cases ry
  exact ⟨i, j, rfl, rfl, q, k _ _ A H Δ (Ext.refl _ _) hc (hg i j S A H) p⟩
theorem oz_add : OpZ C X (binaryOp .Add) (zI0 fun i j => .int (i + j)) := ⟨_, op_add, ref_I0 fun _ _ _ _ _ => .int _⟩
theorem oz_sub : OpZ C X (binaryOp .Sub) (zI0 fun i j => .int (i - j)) := ⟨_, op_sub, ref_I0 fun _ _ _ _ _ => .int _⟩
/-- a product that the machine makes -/
def MulOk (i j : Int) : Prop := IntMulOk i j
theorem op_mulA : OpR X (binaryOp .Mult) (rI IntMulOk fun i j => .int (i * j)) := opI fun _ _ _ _ _ _ _ hc q => PyProof.Rows.mul_int q hc
theorem oz_mul : OpZ C X (binaryOp .Mult) (zI MulOk fun i j => .int (i * j)) := ⟨_, op_mulA, ref_I fun _ _ _ _ _ => .int _⟩
theorem oz_fdiv : OpZ C X (binaryOp .FloorDiv) (zI CDivW fun i j => .int (i / j)) := ⟨_, op_fdivW, ref_I fun _ _ _ _ _ => .int _⟩
theorem oz_mod : OpZ C X (binaryOp .Mod) (zI (fun _ j => 0 < j) fun i j => .int (i % j)) := ⟨_, op_mod, ref_I fun _ _ _ _ _ => .int _⟩
theorem oz_pow : OpZ C X (binaryOp .Pow) (zI CPow fun i j => .int (i ^ j.toNat)) := ⟨_, op_pow, ref_I fun _ _ _ _ _ => .int _⟩
/-- products by sizes -/
theorem MulOk.l {i j : Int} (h1 : -(2 ^ 64) < i) (h2 : i < 2 ^ 64) : MulOk i j := CMul.ok (.inl ⟨h1, h2⟩)
theorem MulOk.r {i j : Int} (h1 : -(2 ^ 64) < j) (h2 : j < 2 ^ 64) : MulOk i j := CMul.ok (.inr ⟨h1, h2⟩)
theorem MulOk.w {i j : Int} (a b : Nat) (ha : i.natAbs < 2 ^ a) (hb : j.natAbs < 2 ^ b) (h0 : 0 < a := by decide) (h1 : 0 < b := by decide) (h : a + b ≤ 1000000 := by decide) : MulOk i j := (wide_mul ha hb h0 h1 h).ok
def zNeg : ZR1 := fun x Δ P => ∃ i, x = .int i ∧ P (.int (-i)) Δ
theorem ez_neg (ha : EZ C X a za) : EZ C X (.UnaryOp .USub a pos) (zUn zNeg za) := by
  obtain ⟨ta, a1, a2⟩ := ha.ex
  refine ⟨_, pe_un un_neg a1, ref_un (fun S A H Δ x dx P Q hc rx hz k => ?_) a2⟩
  obtain ⟨i, rfl, p⟩ := hz
  cases rx
  exact ⟨i, rfl, k _ _ A H Δ (Ext.refl _ _) hc (.int _) p⟩

/-! ### comparisons -/
theorem oz_lt : OpZ C X (compareOp .Lt) (zI0 fun i j => .bl (decide (i < j))) := ⟨_, op_lt, ref_I0 fun _ _ _ _ _ => .bl _⟩
theorem oz_le : OpZ C X (compareOp .LtE) (zI0 fun i j => .bl (decide (i ≤ j))) := ⟨_, op_le, ref_I0 fun _ _ _ _ _ => .bl _⟩
theorem oz_gt : OpZ C X (compareOp .Gt) (zI0 fun i j => .bl (decide (j < i))) := ⟨_, op_gt, ref_I0 fun _ _ _ _ _ => .bl _⟩
theorem oz_ge : OpZ C X (compareOp .GtE) (zI0 fun i j => .bl (decide (j ≤ i))) := ⟨_, op_ge, ref_I0 fun _ _ _ _ _ => .bl _⟩
def isNon : D → Bool
  | .non => true
  | _ => false
def zIsN : ZR2 := fun x y Δ P => y = .non ∧ P (.bl (isNon x)) Δ
def zNotN : ZR2 := fun x y Δ P => y = .non ∧ P (.bl (!isNon x)) Δ
theorem Rep.isNon {K : PySem.W.Frag} {S A : List Addr} {H : Hp} {x : V} {d : D} (r : Rep K C S A H x d) : decide (x = .non) = isNon d := by
  cases r <;> first | rfl | simp [Z.isNon]
theorem oz_isN : OpZ C X (compareOp .Is) zIsN := ⟨_, op_isN, fun S A H Δ x y dx dy P Q hc rx ry hz k => by
  obtain ⟨rfl, p⟩ := hz
  cases ry
  refine ⟨rfl, k _ _ A H Δ (Ext.refl _ _) hc ?_ p⟩
  rw [rx.isNon]
  exact .bl _⟩
theorem oz_notN : OpZ C X (compareOp .IsNot) zNotN := ⟨_, op_notN, fun S A H Δ x y dx dy P Q hc rx ry hz k => by
  obtain ⟨rfl, p⟩ := hz
  cases ry
  refine ⟨rfl, k _ _ A H Δ (Ext.refl _ _) hc ?_ p⟩
  rw [rx.isNon]
  exact .bl _⟩

/-! ### plain data: == -/
mutual
def pd : D → PyData
  | .non => .none
  | .bl b => .bool b
  | .int i => .int i
  | .str x => .str x
  | .tup ds => .tuple (pds ds)
  | .lst ds => .list (pds ds)
  | _ => .none
def pds : List D → List PyData
  | [] => []
  | d :: ds => pd d :: pds ds
end
mutual
def plainD : D → Bool
  | .non | .bl _ | .int _ | .str _ => true
  | .tup ds | .lst ds => plainDs ds
  | _ => false
def plainDs : List D → Bool
  | [] => true
  | d :: ds => plainD d && plainDs ds
end
section
variable {K : PySem.W.Frag} {S A : List Addr} {H : Hp}
mutual
theorem Rep.dp : ∀ (d : D) {v : V}, plainD d = true → Rep K C S A H v d → Dp K H v (pd d)
  | .non, _, _, r => by cases r; exact .non
  | .bl b, _, _, r => by cases r; exact .bl b
  | .int i, _, _, r => by cases r; exact .int i
  | .str x, _, _, r => by cases r; exact .str x
  | .tup ds, _, h, r => by cases r with | tup h1 _ _ r => exact .tup (SqT.of h1) (RepL.dp ds h r)
  | .lst ds, _, h, r => by cases r with | lst h1 _ _ r => exact .lst (SqL.of h1) (RepL.dp ds h r)
  | .ty _, _, h, _ => by cases h
  | .ins _ _, _, h, _ => by cases h
  | .cell _, _, h, _ => by cases h
  | .scr _, _, h, _ => by cases h
  | .cls _, _, h, _ => by cases h
  | .dct _ _, _, h, _ => by cases h
  | .ktup _, _, h, _ => by cases h
theorem RepL.dp : ∀ (ds : List D) {vs : List V}, plainDs ds = true → RepL K C S A H vs ds → DpAll K H vs (pds ds)
  | [], _, _, r => by cases r; exact .nil
  | d :: ds, _, h, r => by
    cases r with
    | cons h1 r =>
      have h' : (plainD d && plainDs ds) = true := h
      rw [Bool.and_eq_true] at h'
      exact .cons (Rep.dp d h'.1 h1) (RepL.dp ds h'.2 r)
end
end
/-- what a value is at the top: a cell's content -/
def rd (Δ : Store) : D → D
  | .cell n => match Δ[n]? with
    | some (.lst ds) => .lst ds
    | _ => .cell n
  | .scr ns => .lst (ns.map D.int)
  | d => d
def shp (d : D) : Bool := plainD d && SeqAt.shaped (pd d)
def eqD (x y : D) : Bool := PyData.eqv (pd x) (pd y)
def zEq : ZR2 := fun x y Δ P => shp (rd Δ x) = true ∧ shp (rd Δ y) = true ∧ P (.bl (eqD (rd Δ x) (rd Δ y))) Δ
def zNe : ZR2 := fun x y Δ P => shp (rd Δ x) = true ∧ shp (rd Δ y) = true ∧ P (.bl (!eqD (rd Δ x) (rd Δ y))) Δ
theorem plain_ints : ∀ ns : List Int, plainDs (ns.map D.int) = true
  | [] => rfl
  | n :: ns => by
    show (plainD (.int n) && plainDs (ns.map D.int)) = true
    rw [plain_ints ns]
    rfl
theorem pds_ints {K : PySem.W.Frag} {H : Hp} : ∀ ns : List Int, DpAll K H (ns.map V.int) (pds (ns.map D.int))
  | [] => .nil
  | n :: ns => .cons (.int n) (pds_ints ns)
theorem dp_rd {K : PySem.W.Frag} {S A : List Addr} {H : Hp} {Δ : Store} {x : V} {d : D} (hc : Cells K C S A H Δ) (r : Rep K C S A H x d) (h : plainD (rd Δ d) = true) : Dp K H x (pd (rd Δ d)) := by
  cases r with
  | cell e =>
    rename_i a n
    unfold rd at h ⊢
    cases q : Δ[n]? with
    | none =>
      simp only [q] at h
      cases h
    | some o =>
      cases o with
      | ins _ _ => simp only [q] at h; cases h
      | dct _ _ => simp only [q] at h; cases h
      | lst ds =>
        simp only [q] at h ⊢
        obtain ⟨xs, h1, h2⟩ := hc.at_ n a _ e q
        exact .lst (SqL.of h1) (RepL.dp ds h h2)
  | scr e =>
    rename_i a ns
    refine .lst ?_ (pds_ints ns)
    rcases e with ⟨⟨o, e⟩, _⟩ | e
    · exact .inl (.inr ⟨o, e⟩)
    · exact .inr e
  | non => exact .non
  | bl b => exact .bl b
  | int i => exact .int i
  | str x => exact .str x
  | ty n => cases h
  | cls n => cases h
  | tup h1 h2 h3 r => exact Rep.dp _ h (.tup h1 h2 h3 r)
  | lst h1 h2 h3 r => exact Rep.dp _ h (.lst h1 h2 h3 r)
  | ins _ _ _ _ _ => cases h
  | dct _ _ _ _ _ => cases h
  | ktup _ => cases h
theorem oz_eq (hu : X.A.units + 64 < cLine) : OpZ C X (compareOp .Eq) zEq := ⟨_, op_eqD hu, fun S A H Δ x y dx dy P Q hc rx ry hz k => by
  obtain ⟨h1, h2, p⟩ := hz
  have g1 := Bool.and_eq_true_iff.mp h1
  have g2 := Bool.and_eq_true_iff.mp h2
  exact ⟨_, _, dp_rd hc rx g1.1, dp_rd hc ry g2.1, g1.2, g2.2, k _ _ A H Δ (Ext.refl _ _) hc (.bl _) p⟩⟩
theorem oz_ne (hu : X.A.units + 64 < cLine) : OpZ C X (compareOp .NotEq) zNe := ⟨_, op_neD hu, fun S A H Δ x y dx dy P Q hc rx ry hz k => by
  obtain ⟨h1, h2, p⟩ := hz
  have g1 := Bool.and_eq_true_iff.mp h1
  have g2 := Bool.and_eq_true_iff.mp h2
  exact ⟨_, _, dp_rd hc rx g1.1, dp_rd hc ry g2.1, g1.2, g2.2, k _ _ A H Δ (Ext.refl _ _) hc (.bl _) p⟩⟩

/-! ### in, not in: flat items -/
def toV : D → V
  | .bl b => .bl b
  | .int i => .int i
  | .str x => .str x
  | _ => .non
def flatD : D → Bool
  | .non | .bl _ | .int _ | .str _ => true
  | _ => false
/-- the items of a list or a tuple -/
def seqD (Δ : Store) : D → Option (List D)
  | .tup ds => some ds
  | .lst ds => some ds
  | .cell n => match Δ[n]? with
    | some (.lst ds) => some ds
    | _ => none
  | .scr ns => some (ns.map D.int)
  | .ktup ns => some (ns.map D.int)
  | _ => none
theorem Rep.toV {K : PySem.W.Frag} {S A : List Addr} {H : Hp} {x : V} {d : D} (r : Rep K C S A H x d) (h : flatD d = true) : x = Z.toV d ∧ flatV x = true := by
  cases r <;> first | exact ⟨rfl, rfl⟩ | cases h
theorem RepL.toV {K : PySem.W.Frag} {S A : List Addr} {H : Hp} : ∀ {xs : List V} {ds : List D}, RepL K C S A H xs ds → ds.all flatD = true → xs = ds.map Z.toV ∧ xs.all flatV = true
  | _, _, .nil, _ => ⟨rfl, rfl⟩
  | _, _, .cons h r, q => by
    rw [List.all_cons, Bool.and_eq_true] at q
    obtain ⟨h1, h2⟩ := Rep.toV h q.1
    obtain ⟨h3, h4⟩ := RepL.toV r q.2
    exact ⟨by rw [List.map_cons, ← h1, ← h3], by rw [List.all_cons, h2, h4] <;> rfl⟩
theorem repL_ints {K : PySem.W.Frag} {S A : List Addr} {H : Hp} : ∀ ns : List Int, RepL K C S A H (ns.map V.int) (ns.map D.int)
  | [] => .nil
  | n :: ns => .cons (.int n) (repL_ints ns)
/-- a sequence by its items, to be read -/
theorem Rep.seq {K : PySem.W.Frag} {S A : List Addr} {H : Hp} {Δ : Store} {x : V} {d : D} {ds : List D} (hc : Cells K C S A H Δ) (r : Rep K C S A H x d) (h : seqD Δ d = some ds) :
    ∃ p xs, x = .ref p ∧ (SqL K H p xs ∨ SqT K H p xs) ∧ RepL K C S A H xs ds := by
  cases r with
  | tup h1 h2 h3 r => cases h; exact ⟨_, _, rfl, .inr (SqT.of h1), r⟩
  | lst h1 h2 h3 r => cases h; exact ⟨_, _, rfl, .inl (SqL.of h1), r⟩
  | cell e =>
    rename_i a n
    unfold seqD at h
    cases q : Δ[n]? with
    | none => simp only [q] at h; cases h
    | some o =>
      cases o with
      | ins _ _ => simp only [q] at h; cases h
      | dct _ _ => simp only [q] at h; cases h
      | lst es =>
        simp only [q] at h
        cases h
        obtain ⟨xs, h1, h2⟩ := hc.at_ n a _ e q
        exact ⟨a, xs, rfl, .inl (SqL.of h1), h2⟩
  | scr e =>
    rename_i a ns
    cases h
    refine ⟨a, _, rfl, .inl ?_, repL_ints ns⟩
    rcases e with ⟨⟨o, e⟩, _⟩ | e
    · exact .inl (.inr ⟨o, e⟩)
    · exact .inr e
  | ktup e =>
    cases h
    exact ⟨_, _, rfl, .inr (.inr e), repL_ints _⟩
  | _ => cases h
def inD (x : D) (ds : List D) : Bool := inV (toV x) (ds.map toV)
def zIn : ZR2 := fun x y Δ P => ∃ ds, seqD Δ y = some ds ∧ flatD x = true ∧ ds.all flatD = true ∧ P (.bl (inD x ds)) Δ
def zNotIn : ZR2 := fun x y Δ P => ∃ ds, seqD Δ y = some ds ∧ flatD x = true ∧ ds.all flatD = true ∧ P (.bl (!inD x ds)) Δ
theorem oz_in : OpZ C X (compareOp .In) zIn := ⟨_, op_in_seq, fun S A H Δ x y dx dy P Q hc rx ry hz k => by
  obtain ⟨ds, e, f1, f2, p⟩ := hz
  obtain ⟨pa, xs, rfl, hq, r⟩ := Rep.seq hc ry e
  obtain ⟨g1, g2⟩ := Rep.toV rx f1
  obtain ⟨g3, g4⟩ := RepL.toV r f2
  refine ⟨pa, xs, rfl, hq, g2, g4, k _ _ A H Δ (Ext.refl _ _) hc ?_ p⟩
  rw [g1, g3]
  exact .bl _⟩
theorem oz_notIn : OpZ C X (compareOp .NotIn) zNotIn := ⟨_, op_notIn_seq, fun S A H Δ x y dx dy P Q hc rx ry hz k => by
  obtain ⟨ds, e, f1, f2, p⟩ := hz
  obtain ⟨pa, xs, rfl, hq, r⟩ := Rep.seq hc ry e
  obtain ⟨g1, g2⟩ := Rep.toV rx f1
  obtain ⟨g3, g4⟩ := RepL.toV r f2
  refine ⟨pa, xs, rfl, hq, g2, g4, k _ _ A H Δ (Ext.refl _ _) hc ?_ p⟩
  rw [g1, g3]
  exact .bl _⟩

/-! ### comparisons as values and tests; chains -/
theorem ez_cmp {op : CmpOp} {z : ZR2} (ho : OpZ C X (compareOp op) z) (ha : EZ C X a za) (hb : EZ C X b zb) (hm : behindInMarks op b = false := by first | exact nomark _ | rfl | with_unfolding_all rfl) : EZ C X (.Compare a [op] [b] pos) (zOp z za zb) := by
  obtain ⟨r, o1, o2⟩ := ho.ex
  obtain ⟨ta, a1, a2⟩ := ha.ex
  obtain ⟨tb, b1, b2⟩ := hb.ex
  exact ⟨_, pe_cmpR o1 a1 b1 hm, ref_op o2 a2 b2⟩
def zTest (z : ZE) : ZT := fun Γ Δ P => z Γ Δ fun d Δ1 => ∃ k, d = .bl k ∧ P k Δ1
theorem ref_test {K : PySem.W.Frag} {ta : TE} {za : ZE} (ha : RefE K C ta za) : RefT K C (tTest ta) (zTest za) := fun S A σ H Γ Δ P Q hs hc hz k =>
  ha S A σ H Γ Δ _ _ hs hc hz fun v d A1 H1 Δ1 e1 c1 r1 hz1 => by
    obtain ⟨b, rfl, p⟩ := hz1
    cases r1
    exact ⟨b, rfl, k b A1 H1 Δ1 e1 c1 p⟩
theorem tz_cmp {op : CmpOp} {z : ZR2} (ho : OpZ C X (compareOp op) z) (ha : EZ C X a za) (hb : EZ C X b zb) (hm : behindInMarks op b = false := by first | exact nomark _ | rfl | with_unfolding_all rfl) : TZ C X (.Compare a [op] [b] pos) (zTest (zOp z za zb)) := by
  obtain ⟨r, o1, o2⟩ := ho.ex
  obtain ⟨ta, a1, a2⟩ := ha.ex
  obtain ⟨tb, b1, b2⟩ := hb.ex
  exact ⟨_, pt_cmpR o1 a1 b1 hm, ref_test (ref_op o2 a2 b2)⟩
/-- an expression that gives a bool, as a test -/
theorem tz_val {e : Expr} {z : ZE} (h : EZ C X e z) (he : ∀ whole, isTrue e X.env whole = (do let v ← whole; standAt e.pos; holding [v] (truthy v)) := by intro _; rfl) : TZ C X e (zTest z) := by
  obtain ⟨te, e1, e2⟩ := h.ex
  exact ⟨_, pt_val e1 he, ref_test e2⟩
def zChain (r r' : ZR2) (za zb zc : ZE) : ZE := fun Γ Δ P => za Γ Δ fun x Δ1 => zb Γ Δ1 fun y Δ2 => r x y Δ2 fun z Δ3 => ∃ k, z = .bl k ∧ (k = true → zc Γ Δ3 fun w Δ4 => r' y w Δ4 P) ∧ (k = false → P (.bl false) Δ3)
theorem ref_chain {K : PySem.W.Frag} {r r' : R2} {z z' : ZR2} {ta tb tc : TE} (hr : Ref2 K C r z) (hr' : Ref2 K C r' z') (ha : RefE K C ta za) (hb : RefE K C tb zb) (hc' : RefE K C tc zc) : RefE K C (tChain r r' ta tb tc) (zChain z z' za zb zc) := fun S A σ H Γ Δ P Q hs hc hz k =>
  ha S A σ H Γ Δ _ _ hs hc hz fun x dx A1 H1 Δ1 e1 c1 r1 hz1 => hb S A1 σ H1 Γ Δ1 _ _ (hs.ext e1) c1 hz1 fun y dy A2 H2 Δ2 e2 c2 r2 hz2 =>
    hr S A2 H2 Δ2 x y dx dy _ _ c2 (r1.ext e2) r2 hz2 fun v d A3 H3 Δ3 e3 c3 r3 p => by
      obtain ⟨b, rfl, p1, p2⟩ := p
      cases r3
      refine ⟨b, rfl, ?_⟩
      have e13 := (e1.trans e2).trans e3
      cases b with
      | false => exact iteF (k _ _ A3 H3 Δ3 e13 c3 (.bl _) (p2 rfl))
      | true => exact iteT (hc' S A3 σ H3 Γ Δ3 _ _ (hs.ext e13) c3 (p1 rfl) fun w dw A4 H4 Δ4 e4 c4 r4 p4 => hr' S A4 H4 Δ4 y w dy dw P Q c4 ((r2.ext e3).ext e4) r4 p4 fun v d A5 H5 Δ5 e5 c5 r5 p5 => k v d A5 H5 Δ5 ((e13.trans e4).trans e5) c5 r5 p5)
theorem ez_chain {op op' : CmpOp} {z z' : ZR2} (ho : OpZ C X (compareOp op) z) (ho' : OpZ C X (compareOp op') z') (ha : EZ C X a za) (hb : EZ C X b zb) (hc : EZ C X c zc) (hm : lastMarks [op, op'] [b, c] = false := by with_unfolding_all rfl) :
    EZ C X (.Compare a [op, op'] [b, c] pos) (zChain z z' za zb zc) := by
  obtain ⟨r, o1, o2⟩ := ho.ex
  obtain ⟨r', o1', o2'⟩ := ho'.ex
  obtain ⟨ta, a1, a2⟩ := ha.ex
  obtain ⟨tb, b1, b2⟩ := hb.ex
  obtain ⟨tc, c1, c2⟩ := hc.ex
  exact ⟨_, pe_chain o1 o1' a1 b1 c1 hm, ref_chain o2 o2' a2 b2 c2⟩
theorem tz_chain {op op' : CmpOp} {z z' : ZR2} (ho : OpZ C X (compareOp op) z) (ho' : OpZ C X (compareOp op') z') (ha : EZ C X a za) (hb : EZ C X b zb) (hc : EZ C X c zc) (hm : lastMarks [op, op'] [b, c] = false := by with_unfolding_all rfl) :
    TZ C X (.Compare a [op, op'] [b, c] pos) (zTest (zChain z z' za zb zc)) := by
  obtain ⟨r, o1, o2⟩ := ho.ex
  obtain ⟨r', o1', o2'⟩ := ho'.ex
  obtain ⟨ta, a1, a2⟩ := ha.ex
  obtain ⟨tb, b1, b2⟩ := hb.ex
  obtain ⟨tc, c1, c2⟩ := hc.ex
  exact ⟨_, pt_chain o1 o1' a1 b1 c1 hm, ref_test (ref_chain o2 o2' a2 b2 c2)⟩

/-! ### and, or, not, if -/
variable {tA tB' : ZT} {rest : List Expr}
def zAnd (t u : ZT) : ZT := fun Γ Δ P => t Γ Δ fun c Δ1 => (c = true → u Γ Δ1 P) ∧ (c = false → P false Δ1)
def zOr (t u : ZT) : ZT := fun Γ Δ P => t Γ Δ fun c Δ1 => (c = true → P true Δ1) ∧ (c = false → u Γ Δ1 P)
def zNot (t : ZT) : ZT := fun Γ Δ P => t Γ Δ fun c Δ1 => P (!c) Δ1
theorem wz_and1 (ha : TZ C X a tA) : WZ C X (.BoolOp .And [a] pos) tA := by
  obtain ⟨t, h1, h2⟩ := ha.ex
  exact ⟨t, pw_and1 h1, h2⟩
theorem wz_or1 (ha : TZ C X a tA) : WZ C X (.BoolOp .Or [a] pos) tA := by
  obtain ⟨t, h1, h2⟩ := ha.ex
  exact ⟨t, pw_or1 h1, h2⟩
theorem wz_and (ha : TZ C X a tA) (hb : WZ C X (.BoolOp .And (b :: rest) pos) tB') : WZ C X (.BoolOp .And (a :: b :: rest) pos) (zAnd tA tB') := by
  obtain ⟨t, a1, a2⟩ := ha.ex
  obtain ⟨u, b1, b2⟩ := hb.ex
  refine ⟨_, pw_and a1 b1, fun S A σ H Γ Δ P Q hs hc hz k => a2 S A σ H Γ Δ _ _ hs hc hz fun c A1 H1 Δ1 e1 c1 hz1 => ?_⟩
  cases c with
  | true => exact iteT (b2 S A1 σ H1 Γ Δ1 P Q (hs.ext e1) c1 (hz1.1 rfl) fun d A2 H2 Δ2 e2 c2 p => k d A2 H2 Δ2 (e1.trans e2) c2 p)
  | false => exact iteF (k _ A1 H1 Δ1 e1 c1 (hz1.2 rfl))
theorem wz_or (ha : TZ C X a tA) (hb : WZ C X (.BoolOp .Or (b :: rest) pos) tB') : WZ C X (.BoolOp .Or (a :: b :: rest) pos) (zOr tA tB') := by
  obtain ⟨t, a1, a2⟩ := ha.ex
  obtain ⟨u, b1, b2⟩ := hb.ex
  refine ⟨_, pw_or a1 b1, fun S A σ H Γ Δ P Q hs hc hz k => a2 S A σ H Γ Δ _ _ hs hc hz fun c A1 H1 Δ1 e1 c1 hz1 => ?_⟩
  cases c with
  | true => exact iteT (k _ A1 H1 Δ1 e1 c1 (hz1.1 rfl))
  | false => exact iteF (b2 S A1 σ H1 Γ Δ1 P Q (hs.ext e1) c1 (hz1.2 rfl) fun d A2 H2 Δ2 e2 c2 p => k d A2 H2 Δ2 (e1.trans e2) c2 p)
theorem tz_not (ha : TZ C X a tA) : TZ C X (.UnaryOp .Not a pos) (zNot tA) := by
  obtain ⟨t, a1, a2⟩ := ha.ex
  exact ⟨_, pt_not a1, fun S A σ H Γ Δ P Q hs hc hz k => a2 S A σ H Γ Δ _ _ hs hc hz fun c A1 H1 Δ1 e1 c1 hz1 => k _ A1 H1 Δ1 e1 c1 hz1⟩
/-- values -/
def zAndV (za zb : ZE) : ZE := fun Γ Δ P => za Γ Δ fun x Δ1 => ∃ c, x = .bl c ∧ (c = true → zb Γ Δ1 P) ∧ (c = false → P (.bl false) Δ1)
def zOrV (za zb : ZE) : ZE := fun Γ Δ P => za Γ Δ fun x Δ1 => ∃ c, x = .bl c ∧ (c = true → P (.bl true) Δ1) ∧ (c = false → zb Γ Δ1 P)
def zNotV (za : ZE) : ZE := fun Γ Δ P => za Γ Δ fun x Δ1 => ∃ c, x = .bl c ∧ P (.bl (!c)) Δ1
theorem ez_one {op} {z : ZE} (h : EZ C X a z) : EZ C X (.BoolOp op [a] pos) z := by
  obtain ⟨t, h1, h2⟩ := h.ex
  exact ⟨t, pe_one h1, h2⟩
theorem ez_and (ha : EZ C X a za) (hb : EZ C X (.BoolOp .And (b :: rest) pos) zb) : EZ C X (.BoolOp .And (a :: b :: rest) pos) (zAndV za zb) := by
  obtain ⟨t, a1, a2⟩ := ha.ex
  obtain ⟨u, b1, b2⟩ := hb.ex
  refine ⟨_, pe_and a1 b1, fun S A σ H Γ Δ P Q hs hc hz k => a2 S A σ H Γ Δ _ _ hs hc hz fun x dx A1 H1 Δ1 e1 c1 r1 hz1 => ?_⟩
  obtain ⟨c, rfl, p1, p2⟩ := hz1
  cases r1
  refine ⟨c, rfl, ?_⟩
  cases c with
  | true => exact iteT (b2 S A1 σ H1 Γ Δ1 P Q (hs.ext e1) c1 (p1 rfl) fun v d A2 H2 Δ2 e2 c2 r2 p => k v d A2 H2 Δ2 (e1.trans e2) c2 r2 p)
  | false => exact iteF (k _ _ A1 H1 Δ1 e1 c1 (.bl _) (p2 rfl))
theorem ez_or (ha : EZ C X a za) (hb : EZ C X (.BoolOp .Or (b :: rest) pos) zb) : EZ C X (.BoolOp .Or (a :: b :: rest) pos) (zOrV za zb) := by
  obtain ⟨t, a1, a2⟩ := ha.ex
  obtain ⟨u, b1, b2⟩ := hb.ex
  refine ⟨_, pe_or a1 b1, fun S A σ H Γ Δ P Q hs hc hz k => a2 S A σ H Γ Δ _ _ hs hc hz fun x dx A1 H1 Δ1 e1 c1 r1 hz1 => ?_⟩
  obtain ⟨c, rfl, p1, p2⟩ := hz1
  cases r1
  refine ⟨c, rfl, ?_⟩
  cases c with
  | false => exact iteF (b2 S A1 σ H1 Γ Δ1 P Q (hs.ext e1) c1 (p2 rfl) fun v d A2 H2 Δ2 e2 c2 r2 p => k v d A2 H2 Δ2 (e1.trans e2) c2 r2 p)
  | true => exact iteT (k _ _ A1 H1 Δ1 e1 c1 (.bl _) (p1 rfl))
theorem ez_not (ha : EZ C X a za) : EZ C X (.UnaryOp .Not a pos) (zNotV za) := by
  obtain ⟨t, a1, a2⟩ := ha.ex
  refine ⟨_, pe_not a1, fun S A σ H Γ Δ P Q hs hc hz k => a2 S A σ H Γ Δ _ _ hs hc hz fun x dx A1 H1 Δ1 e1 c1 r1 hz1 => ?_⟩
  obtain ⟨c, rfl, p⟩ := hz1
  cases r1
  exact ⟨c, rfl, k _ _ A1 H1 Δ1 e1 c1 (.bl _) p⟩
def zIf (t : ZT) (za zb : ZE) : ZE := fun Γ Δ P => t Γ Δ fun c Δ1 => (c = true → za Γ Δ1 P) ∧ (c = false → zb Γ Δ1 P)
theorem ez_if {c : Expr} (hc : TZ C X c tA) (ha : EZ C X a za) (hb : EZ C X b zb) : EZ C X (.IfExp c a b pos) (zIf tA za zb) := by
  obtain ⟨t, t1, t2⟩ := hc.ex
  obtain ⟨ta, a1, a2⟩ := ha.ex
  obtain ⟨tb, b1, b2⟩ := hb.ex
  refine ⟨_, pe_ifExp t1 a1 b1, fun S A σ H Γ Δ P Q hs hc hz k => t2 S A σ H Γ Δ _ _ hs hc hz fun d A1 H1 Δ1 e1 c1 hz1 => ?_⟩
  cases d with
  | true => exact iteT (a2 S A1 σ H1 Γ Δ1 P Q (hs.ext e1) c1 (hz1.1 rfl) fun v d A2 H2 Δ2 e2 c2 r2 p => k v d A2 H2 Δ2 (e1.trans e2) c2 r2 p)
  | false => exact iteF (b2 S A1 σ H1 Γ Δ1 P Q (hs.ext e1) c1 (hz1.2 rfl) fun v d A2 H2 Δ2 e2 c2 r2 p => k v d A2 H2 Δ2 (e1.trans e2) c2 r2 p)

/-! ### argument lists, displays -/
variable {e : Expr} {es : List Expr} {ze : ZE} {zs : ZA}
def zNil : ZA := fun _ Δ P => P [] Δ
def zCons (z : ZE) (zs : ZA) : ZA := fun Γ Δ P => z Γ Δ fun d Δ1 => zs Γ Δ1 fun ds Δ2 => P (d :: ds) Δ2
theorem az_nil : AZ C X [] zNil := ⟨_, pa_nil, fun S A σ H Γ Δ P Q hs hc hz k => k [] [] A H Δ (Ext.refl _ _) hc .nil hz⟩
theorem az_cons (ha : EZ C X e ze) (hr : AZ C X es zs) (hst : starEach (e :: es) X.env = (false, eval e X.env) :: starEach es X.env := by rfl) : AZ C X (e :: es) (zCons ze zs) := by
  obtain ⟨t, a1, a2⟩ := ha.ex
  obtain ⟨u, b1, b2⟩ := hr.ex
  exact ⟨_, pa_cons a1 b1 hst, fun S A σ H Γ Δ P Q hs hc hz k => a2 S A σ H Γ Δ _ _ hs hc hz fun x dx A1 H1 Δ1 e1 c1 r1 hz1 =>
    b2 S A1 σ H1 Γ Δ1 _ _ (hs.ext e1) c1 hz1 fun vs ds A2 H2 Δ2 e2 c2 r2 p => k _ _ A2 H2 Δ2 (e1.trans e2) c2 (.cons (r1.ext e2) r2) p⟩
def zTup (zs : ZA) : ZE := fun Γ Δ P => zs Γ Δ fun ds Δ1 => ds.length ≤ 100000 ∧ P (.tup ds) Δ1
def zLst (zs : ZA) : ZE := fun Γ Δ P => zs Γ Δ fun ds Δ1 => ds.length ≤ 100000 ∧ P (.lst ds) Δ1
/-- a display that is changed later -/
def zLstC (zs : ZA) : ZE := fun Γ Δ P => zs Γ Δ fun ds Δ1 => ds.length ≤ 100000 ∧ P (.cell Δ1.length) (Δ1 ++ [.lst ds])
theorem sz100 {n : Nat} (h : n ≤ 100000) : n ≤ sizeLine := Nat.le_trans h (by decide)
section
variable {K : PySem.W.Frag} {S A : List Addr} {H : Hp} {Δ : Store}
theorem Cells.new (hc : Cells K C S A H Δ) {p : Addr} {o : HO} (h : H p = none) : Cells K C S A (upd H p o) Δ := hc.kept fun a u e => by rw [upd_ne (ne_of_none e h)]; exact e
theorem Cells.fresh (hc : Cells K C S A H Δ) {p : Addr} (h : H p = none) : p ∉ A := fun hp => by
  obtain ⟨n, hn⟩ := List.mem_iff_getElem?.mp hp
  have hl : n < Δ.length := by rw [← hc.len]; exact (List.getElem?_eq_some_iff.mp hn).1
  exact (hc.at_ n p _ hn (List.getElem?_eq_getElem hl)).trk h
theorem Cells.aside (hc : Cells K C S A H Δ) {p : Addr} (h : H p = none) : p ∉ S := fun hp => hc.as p hp h
end
theorem ez_tup {x1} (h : AZ C X es zs) : EZ C X (.Tuple es x1 pos) (zTup zs) := by
  obtain ⟨t, h1, h2⟩ := h.ex
  refine ⟨_, pe_tup h1, fun S A σ H Γ Δ P Q hs hc hz k => h2 S A σ H Γ Δ _ _ hs hc hz fun vs ds A1 H1 Δ1 e1 c1 r1 hz1 => ?_⟩
  refine ⟨sz100 (by rw [r1.length]; exact hz1.1), fun p hp => ?_⟩
  exact k _ _ A1 _ Δ1 (e1.trans (Ext.new hp)) (c1.new hp) (.tup upd_same (c1.fresh hp) (c1.aside hp) (r1.ext (Ext.new hp))) hz1.2
theorem ez_lst (h : AZ C X es zs) : EZ C X (.List es pos) (zLst zs) := by
  obtain ⟨t, h1, h2⟩ := h.ex
  refine ⟨_, pe_lst h1, fun S A σ H Γ Δ P Q hs hc hz k => h2 S A σ H Γ Δ _ _ hs hc hz fun vs ds A1 H1 Δ1 e1 c1 r1 hz1 => ?_⟩
  refine ⟨sz100 (by rw [r1.length]; exact hz1.1), fun p hp => ?_⟩
  exact k _ _ A1 _ Δ1 (e1.trans (Ext.new hp)) (c1.new hp) (.lst upd_same (c1.fresh hp) (c1.aside hp) (r1.ext (Ext.new hp))) hz1.2
section
variable {K : PySem.W.Frag} {S A : List Addr} {H : Hp} {Δ : Store}
/-- a new object becomes a cell -/
theorem Cells.newO (hc : Cells K C S A H Δ) {p : Addr} {u : HO} {o : O} (h : H p = none) (r : CellAt K C S (A ++ [p]) (upd H p u) p o) : Cells K C S (A ++ [p]) (upd H p u) (Δ ++ [o]) := by
  have e := Ext.newCell (A := A) (o := u) h
  refine ⟨by rw [List.length_append, List.length_append, hc.len] <;> rfl, ?_, ?_, ?_, ?_⟩
  · refine List.nodup_append.mpr ⟨hc.nd, by simp, fun a ha b hb => ?_⟩
    rw [List.mem_singleton] at hb
    subst hb
    exact fun q => hc.fresh h (q ▸ ha)
  · intro a ha
    rcases List.mem_append.mp ha with ha | ha
    · exact hc.dj a ha
    · rw [List.mem_singleton] at ha
      subst ha
      exact hc.aside h
  · intro a ha q
    exact hc.as a ha (e.trk a q)
  · intro n a w h1 h2
    by_cases hn : n < A.length
    · rw [List.getElem?_append_left hn] at h1
      rw [List.getElem?_append_left (by rw [← hc.len]; exact hn)] at h2
      exact (hc.at_ n a w h1 h2).mono e.mo fun y q => by rw [upd_ne (ne_of_none q h)]; exact q
    · have hn2 : n = A.length := by
        have := (List.getElem?_eq_some_iff.mp h1).1
        rw [List.length_append] at this
        simp at this
        omega
      subst hn2
      rw [List.getElem?_append_right (Nat.le_refl _), Nat.sub_self] at h1
      rw [hc.len, List.getElem?_append_right (Nat.le_refl _), Nat.sub_self] at h2
      simp at h1 h2
      subst h1
      subst h2
      exact r
theorem Cells.newCell (hc : Cells K C S A H Δ) {p : Addr} {xs : List V} {ds : List D} (h : H p = none) (r : RepL K C S A H xs ds) : Cells K C S (A ++ [p]) (upd H p (.lst xs)) (Δ ++ [.lst ds]) :=
  hc.newO h ⟨xs, upd_same, r.ext (Ext.newCell h)⟩
/-- a cell's content is replaced -/
theorem Cells.putO (hc : Cells K C S A H Δ) {n : Nat} {p : Addr} {u : HO} {o : O} (h : A[n]? = some p) (r : CellAt K C S A (upd H p u) p o) : Cells K C S A (upd H p u) (Δ.set n o) ∧ Ext A H A (upd H p u) := by
  have hl : n < Δ.length := by rw [← hc.len]; exact (List.getElem?_eq_some_iff.mp h).1
  have hp : p ∈ A := List.mem_of_getElem? h
  have hne : H p ≠ none := (hc.at_ n p _ h (List.getElem?_eq_getElem hl)).trk
  have e : Ext A H A (upd H p u) := Ext.write hp hne
  refine ⟨⟨by rw [List.length_set]; exact hc.len, hc.nd, hc.dj, fun a ha q => hc.as a ha (e.trk a q), fun m a w h1 h2 => ?_⟩, e⟩
  by_cases hm : m = n
  · subst hm
    rw [h] at h1
    cases h1
    rw [List.getElem?_set_self hl] at h2
    cases h2
    exact r
  · rw [List.getElem?_set_ne (Ne.symm hm)] at h2
    have hap : a ≠ p := fun q => hm (by
      subst q
      obtain ⟨l1, q1⟩ := List.getElem?_eq_some_iff.mp h1
      obtain ⟨l2, q2⟩ := List.getElem?_eq_some_iff.mp h
      exact (List.getElem_inj hc.nd).mp (q1.trans q2.symm))
    exact (hc.at_ m a w h1 h2).mono e.mo fun y q => by rw [upd_ne hap]; exact q
theorem Cells.put (hc : Cells K C S A H Δ) {n : Nat} {p : Addr} {xs : List V} {ds : List D} (h : A[n]? = some p) (r : RepL K C S A H xs ds) : Cells K C S A (upd H p (.lst xs)) (Δ.set n (.lst ds)) ∧ Ext A H A (upd H p (.lst xs)) := by
  have hl : n < Δ.length := by rw [← hc.len]; exact (List.getElem?_eq_some_iff.mp h).1
  have hp : p ∈ A := List.mem_of_getElem? h
  have e : Ext A H A (upd H p (.lst xs)) := Ext.write hp (hc.at_ n p _ h (List.getElem?_eq_getElem hl)).trk
  exact hc.putO h ⟨xs, upd_same, r.ext e⟩
end
theorem ez_lstC (h : AZ C X es zs) : EZ C X (.List es pos) (zLstC zs) := by
  obtain ⟨t, h1, h2⟩ := h.ex
  refine ⟨_, pe_lst h1, fun S A σ H Γ Δ P Q hs hc hz k => h2 S A σ H Γ Δ _ _ hs hc hz fun vs ds A1 H1 Δ1 e1 c1 r1 hz1 => ?_⟩
  refine ⟨sz100 (by rw [r1.length]; exact hz1.1), fun p hp => ?_⟩
  refine k _ _ (A1 ++ [p]) _ _ (e1.trans (Ext.newCell hp)) (c1.newCell hp r1) (.cell ?_) hz1.2
  rw [← c1.len, List.getElem?_append_right (Nat.le_refl _), Nat.sub_self]
  rfl

/-! ### subscripts, slices -/
def zIx : ZR2 := fun x y Δ P => ∃ ds i d, y = .int i ∧ seqD Δ x = some ds ∧ atI ds i = some d ∧ P d Δ
theorem atI_rep {K : PySem.W.Frag} {S A : List Addr} {H : Hp} {xs : List V} {ds : List D} {i : Int} {d : D} (r : RepL K C S A H xs ds) (h : atI ds i = some d) : ∃ v, atI xs i = some v ∧ Rep K C S A H v d := by
  unfold atI at h ⊢
  rw [r.length]
  cases q : ixN ds.length i with
  | none => rw [q] at h; cases h
  | some j =>
    rw [q] at h
    obtain ⟨v, h1, h2⟩ := r.get (show ds[j]? = some d from h)
    exact ⟨v, h1, h2⟩
theorem ez_ix (ha : EZ C X a za) (hb : EZ C X b zb) (hp : PlainIx b := by exact fun _ _ => rfl) : EZ C X (.Subscript a b pos) (zOp zIx za zb) := by
  obtain ⟨ta, a1, a2⟩ := ha.ex
  obtain ⟨tb, b1, b2⟩ := hb.ex
  refine ⟨_, pe_ix (ix_list.or ix_tup) a1 b1 hp, ref_op (fun S A H Δ x y dx dy P Q hc rx ry hz k => ?_) a2 b2⟩
  obtain ⟨ds, i, d, rfl, e, g, p⟩ := hz
  obtain ⟨pa, xs, rfl, hq, r⟩ := Rep.seq hc rx e
  cases ry
  obtain ⟨v, h1, h2⟩ := atI_rep r g
  have fin := k v d A H Δ (Ext.refl _ _) hc h2 p
  rcases hq with hq | hq
  · exact .inl ⟨pa, xs, i, v, rfl, rfl, hq, h1, fin⟩
  · exact .inr ⟨pa, xs, i, v, rfl, rfl, hq, h1, fin⟩
abbrev ZO := Env → Store → (Option Int → Store → Prop) → Prop
structure OZ (C : CI) (X : Cx) (e : Option Expr) (z : ZO) : Prop where
  ex : ∃ t, PO X e t ∧ ∀ (S A : List Addr) (σ : L2.St) (H : Hp) (Γ : Env) (Δ : Store) (P : Option Int → Store → Prop) (Q : Option Int → Hp → Prop), Slots X.K C S A H σ Γ → Cells X.K C S A H Δ → z Γ Δ P →
    (∀ o A' H' Δ', Ext A H A' H' → Cells X.K C S A' H' Δ' → P o Δ' → Q o H') → t σ H Q
def zNoPart : ZO := fun _ Δ P => P none Δ
def zPart (z : ZE) : ZO := fun Γ Δ P => z Γ Δ fun d Δ1 => ∃ i, d = .int i ∧ P (some i) Δ1
theorem oz_none : OZ C X none zNoPart := ⟨_, po_none, fun S A σ H Γ Δ P Q hs hc hz k => k none A H Δ (Ext.refl _ _) hc hz⟩
theorem oz_some {z : ZE} (h : EZ C X e z) : OZ C X (some e) (zPart z) := by
  obtain ⟨t, h1, h2⟩ := h.ex
  refine ⟨_, po_some h1, fun S A σ H Γ Δ P Q hs hc hz k => h2 S A σ H Γ Δ _ _ hs hc hz fun v d A1 H1 Δ1 e1 c1 r1 hz1 => ?_⟩
  obtain ⟨i, rfl, p⟩ := hz1
  cases r1
  exact ⟨i, rfl, k _ A1 H1 Δ1 e1 c1 p⟩
/-- the items from lo to hi -/
def cutD (xs : List D) (lo hi : Option Int) : List D := (xs.drop (HT.sIx xs.length 0 lo)).take (HT.sIx xs.length xs.length hi - HT.sIx xs.length 0 lo)
def zSl (z : ZE) (zl zh : ZO) : ZE := fun Γ Δ P => z Γ Δ fun x Δ1 => zl Γ Δ1 fun l Δ2 => zh Γ Δ2 fun u Δ3 => ∃ ds, (x = .lst ds ∨ (∃ n, x = .cell n ∧ Δ3[n]? = some (.lst ds)) ∨ ∃ ns, x = .scr ns ∧ ds = ns.map D.int) ∧ P (.lst (cutD ds l u)) Δ3
theorem ez_sl {lo hi : Option Expr} {zl zh : ZO} {p2 : Pos} (ha : EZ C X a za) (hl : OZ C X lo zl) (hh : OZ C X hi zh) : EZ C X (.Subscript a (.Slice lo hi none p2) pos) (zSl za zl zh) := by
  obtain ⟨t, a1, a2⟩ := ha.ex
  obtain ⟨tl, l1, l2⟩ := hl.ex
  obtain ⟨th, u1, u2⟩ := hh.ex
  refine ⟨_, pe_slice sl_list a1 l1 u1, fun S A σ H Γ Δ P Q hs hc hz k => a2 S A σ H Γ Δ _ _ hs hc hz fun x dx A1 H1 Δ1 e1 c1 r1 hz1 => ?_⟩
  refine l2 S A1 σ H1 Γ Δ1 _ _ (hs.ext e1) c1 hz1 fun l A2 H2 Δ2 e2 c2 hz2 => u2 S A2 σ H2 Γ Δ2 _ _ ((hs.ext e1).ext e2) c2 hz2 fun u A3 H3 Δ3 e3 c3 hz3 => ?_
  obtain ⟨ds, hd, p⟩ := hz3
  have r3 := (r1.ext e2).ext e3
  have hq : ∃ pa xs, x = .ref pa ∧ SqL X.K H3 pa xs ∧ RepL X.K C S A3 H3 xs ds := by
    rcases hd with rfl | ⟨n, rfl, hd⟩ | ⟨ns, rfl, rfl⟩
    · cases r3 with
      | lst g1 _ _ g4 => exact ⟨_, _, rfl, SqL.of g1, g4⟩
    · cases r3 with
      | cell g =>
        obtain ⟨xs, g1, g2⟩ := c3.at_ n _ _ g hd
        exact ⟨_, _, rfl, SqL.of g1, g2⟩
    · cases r3 with
      | scr g =>
        refine ⟨_, _, rfl, ?_, repL_ints ns⟩
        rcases g with ⟨⟨o, g⟩, _⟩ | g
        · exact .inl (.inr ⟨o, g⟩)
        · exact .inr g
  obtain ⟨pa, xs, rfl, hS, r⟩ := hq
  have hcut : RepL X.K C S A3 H3 (cutV xs l u) (cutD ds l u) := by
    unfold cutV cutD
    rw [r.length]
    exact (r.drop _).take _
  refine ⟨pa, xs, rfl, hS, fun q hq => ?_⟩
  have e4 := Ext.new (A := A3) (o := .lst (cutV xs l u)) hq
  exact k _ _ A3 _ Δ3 (((e1.trans e2).trans e3).trans e4) (c3.new hq) (.lst upd_same (c3.fresh hq) (c3.aside hq) (hcut.ext e4)) p
/-- a list of the Δ's that is not the script, to be joined -/
def lstD (Δ : Store) : D → Option (List D)
  | .lst ds => some ds
  | .cell n => match Δ[n]? with
    | some (.lst ds) => some ds
    | _ => none
  | _ => none
theorem Rep.lst_ {K : PySem.W.Frag} {S A : List Addr} {H : Hp} {Δ : Store} {x : V} {d : D} {ds : List D} (hc : Cells K C S A H Δ) (r : Rep K C S A H x d) (h : lstD Δ d = some ds) :
    ∃ p xs, x = .ref p ∧ H p = some (.lst xs) ∧ RepL K C S A H xs ds := by
  cases r with
  | lst h1 h2 h3 r => cases h; exact ⟨_, _, rfl, h1, r⟩
  | cell e =>
    rename_i a n
    unfold lstD at h
    cases q : Δ[n]? with
    | none => simp only [q] at h; cases h
    | some o =>
      cases o with
      | ins _ _ => simp only [q] at h; cases h
      | dct _ _ => simp only [q] at h; cases h
      | lst es =>
        simp only [q] at h
        cases h
        obtain ⟨xs, h1, h2⟩ := hc.at_ n a _ e q
        exact ⟨a, xs, rfl, h1, h2⟩
  | _ => cases h
/-- xs + ys | ints -/
def zAddA : ZR2 := fun x y Δ P => (∃ i j, x = .int i ∧ y = .int j ∧ P (.int (i + j)) Δ) ∨ ∃ ds es, lstD Δ x = some ds ∧ lstD Δ y = some es ∧ ds.length + es.length ≤ 100000 ∧ P (.lst (ds ++ es)) Δ
theorem OpR.or {f : Value → Value → Sem Value} {r r' : R2} (h : OpR X f r) (h' : OpR X f r') : OpR X f (fun x y H Q => r x y H Q ∨ r' x y H Q) := fun pins s σ H x y v u Q I rx ry q => q.elim (h pins s σ H x y v u Q I rx ry) (h' pins s σ H x y v u Q I rx ry)
def zCat : ZR2 := fun x y Δ P => ∃ ds es, lstD Δ x = some ds ∧ lstD Δ y = some es ∧ ds.length + es.length ≤ 100000 ∧ P (.lst (ds ++ es)) Δ
theorem ref_cat {K : PySem.W.Frag} : Ref2 K C rCat zCat := fun S A H Δ x y dx dy P Q hc rx ry hz k => by
  obtain ⟨ds, es, h1, h2, hl, p⟩ := hz
  obtain ⟨a, xs, rfl, g1, g2⟩ := Rep.lst_ hc rx h1
  obtain ⟨b, ys, rfl, g3, g4⟩ := Rep.lst_ hc ry h2
  refine ⟨a, b, xs, ys, rfl, rfl, g1, g3, sz100 (by rw [g2.length, g4.length]; exact hl), fun q hq => ?_⟩
  have e := Ext.new (A := A) (o := .lst (xs ++ ys)) hq
  exact k _ _ A _ Δ e (hc.new hq) (.lst upd_same (hc.fresh hq) (hc.aside hq) ((g2.append g4).ext e)) p
theorem oz_cat : OpZ C X (binaryOp .Add) zCat := ⟨_, op_cat, ref_cat⟩
theorem oz_addA : OpZ C X (binaryOp .Add) zAddA := ⟨_, op_add.or op_cat, fun S A H Δ x y dx dy P Q hc rx ry hz k => by
  rcases hz with ⟨i, j, h1, h2, p⟩ | hz
  · exact .inl (ref_I0 (g' := fun i j => .int (i + j)) (fun i j _ _ _ => .int _) S A H Δ x y dx dy P Q hc rx ry ⟨i, j, h1, h2, p⟩ k)
  · exact .inr (ref_cat S A H Δ x y dx dy P Q hc rx ry hz k)⟩
def zRepeat : ZR2 := fun x y Δ P => ∃ ds k, lstD Δ x = some ds ∧ y = .int k ∧ -(2 ^ 63) ≤ k ∧ k < 2 ^ 63 ∧ ds.length * k.toNat ≤ 100000 ∧ P (.lst (List.replicate k.toNat ds).flatten) Δ
theorem oz_rep : OpZ C X (binaryOp .Mult) zRepeat := ⟨_, op_rep, fun S A H Δ x y dx dy P Q hc rx ry hz k => by
  obtain ⟨ds, i, h1, rfl, h2, h3, hl, p⟩ := hz
  obtain ⟨a, xs, rfl, g1, g2⟩ := Rep.lst_ hc rx h1
  cases ry
  refine ⟨a, i, xs, rfl, rfl, g1, h2, h3, sz100 (by rw [g2.length]; exact hl), fun q hq => ?_⟩
  have e := Ext.new (A := A) (o := .lst (List.replicate i.toNat xs).flatten) hq
  exact k _ _ A _ Δ e (hc.new hq) (.lst upd_same (hc.fresh hq) (hc.aside hq) ((g2.repl _).ext e)) p⟩
end
end Z

/-! Z3: statements, loops, comprehensions, calls of defs and built-ins over data. -/
namespace Z
open PySem L2

/-! ### targets -/
abbrev ZG := D → Env → Store → (Env → Store → Prop) → Prop
abbrev ZGs := List D → Env → Store → (Env → Store → Prop) → Prop
def RefG (K : PySem.W.Frag) (C : CI) (g : TG) (z : ZG) : Prop := ∀ (S A : List Addr) (σ : L2.St) (H : Hp) (Γ : Env) (Δ : Store) (v : V) (d : D) (P : Env → Store → Prop) (Q : L2.St → Hp → Prop), Slots K C S A H σ Γ → Cells K C S A H Δ → Rep K C S A H v d → z d Γ Δ P →
  NxOk K C S A H P Q → g v σ H Q
def RefGs (K : PySem.W.Frag) (C : CI) (g : TGs) (z : ZGs) : Prop := ∀ (S A : List Addr) (σ : L2.St) (H : Hp) (Γ : Env) (Δ : Store) (vs : List V) (ds : List D) (P : Env → Store → Prop) (Q : L2.St → Hp → Prop), Slots K C S A H σ Γ → Cells K C S A H Δ → RepL K C S A H vs ds → z ds Γ Δ P →
  NxOk K C S A H P Q → g vs σ H Q
structure GZ (C : CI) (X : Cx) (e : Expr) (g : TG) (z : ZG) : Prop where
  pg : PG X e g
  ref : RefG X.K C g z
structure GsZ (C : CI) (X : Cx) (es : List Expr) (g : TGs) (z : ZGs) : Prop where
  pg : PGs X es g
  ref : RefGs X.K C g z
def zgName (i : Nat) : ZG := fun d Γ Δ P => P (Γ.set i (some d)) Δ
def zgNil : ZGs := fun ds Γ Δ P => ds = [] ∧ P Γ Δ
def zgCons (g : ZG) (gs : ZGs) : ZGs := fun ds Γ Δ P => ∃ d r, ds = d :: r ∧ g d Γ Δ fun Γ' Δ' => gs r Γ' Δ' P
def zgTup (n : Nat) (gs : ZGs) : ZG := fun d Γ Δ P => ∃ ds, d = .tup ds ∧ ds.length = n ∧ gs ds Γ Δ P
def zgSub (zo zi : ZE) : ZG := fun d Γ Δ P => zo Γ Δ fun o Δ1 => zi Γ Δ1 fun y Δ2 => ∃ n ds i j, o = .cell n ∧ Δ2[n]? = some (.lst ds) ∧ y = .int i ∧ ixN ds.length i = some j ∧ P Γ (Δ2.set n (.lst (ds.set j d)))
section
variable {C : CI} {X : Cx} {pos : Pos}
theorem gz_name {i : Nat} {x : Str} (hN : X.N.Nodup) (hi : X.N[i]? = some x) (hx : Loc X.env.scope x := by first | exact Or.inl rfl | exact Or.inr rfl) (hf : X.fn x = true ∨ X.env.scope.names.lookup x = some .local := by first | exact .inl rfl | exact .inr rfl | assumption) : GZ C X (.Name x pos) (gName i) (zgName i) :=
  ⟨pg_name hN hi hx hf, fun S A σ H Γ Δ v d P Q hs hc r hz k => k _ A H _ Δ (Ext.refl _ _) (hs.set i r) hc hz⟩
theorem gsz_nil : GsZ C X [] gNil zgNil := ⟨pgs_nil, fun S A σ H Γ Δ vs ds P Q hs hc r hz k => by
  obtain ⟨rfl, p⟩ := hz
  cases r
  exact ⟨rfl, k _ A H _ Δ (Ext.refl _ _) hs hc p⟩⟩
theorem gsz_cons {e : Expr} {es : List Expr} {g : TG} {gs : TGs} {z : ZG} {zs : ZGs} (h : GZ C X e g z) (hr : GsZ C X es gs zs) (hst : (assignEach (e :: es) X.env).map (·.2) = assign e X.env :: (assignEach es X.env).map (·.2) := by rfl) : GsZ C X (e :: es) (gCons g gs) (zgCons z zs) :=
  ⟨pgs_cons h.pg hr.pg hst, fun S A σ H Γ Δ vs ds P Q hs hc r hz k => by
    obtain ⟨d, rest, rfl, p⟩ := hz
    cases r with
    | cons r1 r2 =>
      exact ⟨_, _, rfl, h.ref S A σ H Γ Δ _ d _ _ hs hc r1 p fun σ' A' H' Γ' Δ' e1 s1 c1 p1 => hr.ref S A' σ' H' Γ' Δ' _ rest P Q s1 c1 (r2.ext e1) p1 (k.ext e1)⟩⟩
theorem gz_tup {es : List Expr} {k : Nat} {gs : TGs} {zs : ZGs} {n : Nat} (h : GsZ C X es gs zs) (hc : X.calm = true := by rfl) (hn : (assignEach es X.env).length = n := by rfl) (hst : (assignEach es X.env).findIdx? (·.1) = none := by rfl) : GZ C X (.Tuple es k pos) (gTup X.K n gs) (zgTup n zs) :=
  ⟨pg_tup hc h.pg hn hst, fun S A σ H Γ Δ v d P Q hs hc r hz k => by
    obtain ⟨ds, rfl, hl, p⟩ := hz
    cases r with
    | tup h1 h2 h3 r => exact ⟨_, _, rfl, SqT.of h1, by rw [r.length]; exact hl, h.ref S A σ H Γ Δ _ ds P Q hs hc r p k⟩⟩
theorem gz_sub {o i : Expr} {zo zi : ZE} (ho : EZ C X o zo) (hi : EZ C X i zi) (ha : ∀ v, assign (.Subscript o i pos) X.env v = (do
      let ov ← holding [v] (eval o X.env)
      let iv ← holding [v, ov] (eval i X.env)
      standAt pos
      holding [v, ov, iv] (setItem ov iv v)
      release [v, ov, iv] []) := by intro _; rfl) : ∃ g, GZ C X (.Subscript o i pos) g (zgSub zo zi) := by
  obtain ⟨to, o1, o2⟩ := ho.ex
  obtain ⟨ti, i1, i2⟩ := hi.ex
  refine ⟨_, pg_sub o1 i1 set_list ha, fun S A σ H Γ Δ v d P Q hs hc r hz k => o2 S A σ H Γ Δ _ _ hs hc hz fun ov od A1 H1 Δ1 e1 c1 r1 hz1 => i2 S A1 σ H1 Γ Δ1 _ _ (hs.ext e1) c1 hz1 fun iv id A2 H2 Δ2 e2 c2 r2 hz2 => ?_⟩
  obtain ⟨n, ds, i, j, rfl, hd, rfl, hj, p⟩ := hz2
  cases r2
  cases r1.ext e2 with
  | cell g =>
    obtain ⟨xs, g1, g2⟩ := c2.at_ n _ _ g hd
    have q := c2.put g (g2.set j (r.ext (e1.trans e2)))
    exact ⟨_, xs, i, j, rfl, rfl, g1, by rw [g2.length]; exact hj, k σ A2 _ Γ _ ((e1.trans e2).trans q.2) ((hs.ext (e1.trans e2)).ext q.2) q.1 p⟩
end

/-! ### statements -/
def zNext : ZS := fun Z Γ Δ => Z.nx Γ Δ
def zSeq (t u : ZS) : ZS := fun Z Γ Δ => t { Z with nx := u Z } Γ Δ
def zBreak : ZS := fun Z Γ Δ => Z.bk Γ Δ
def zCont : ZS := fun Z Γ Δ => Z.ct Γ Δ
def zDrop (z : ZE) : ZS := fun Z Γ Δ => z Γ Δ fun _ Δ1 => Z.nx Γ Δ1
def zRet (z : ZE) : ZS := fun Z Γ Δ => z Γ Δ Z.rt
def zRetN : ZS := fun Z _ Δ => Z.rt .non Δ
def zIfS (t : ZT) (a b : ZS) : ZS := fun Z Γ Δ => t Γ Δ fun c Δ1 => (c = true → a Z Γ Δ1) ∧ (c = false → b Z Γ Δ1)
def zNever : ZS := fun _ _ _ => False
def zAsg (z : ZE) (g : ZG) : ZS := fun Z Γ Δ => z Γ Δ fun d Δ1 => g d Γ Δ1 Z.nx
def zPar (i j : Nat) (za : ZA) : ZS := fun Z Γ Δ => za Γ Δ fun ds Δ1 => ∃ a b, ds = [a, b] ∧ Z.nx ((Γ.set i (some a)).set j (some b)) Δ1
def zWhile (t : ZT) (zs : ZS) : ZS := fun Z Γ Δ => ∃ W : Nat → Env → Store → Prop, (∃ m, W m Γ Δ) ∧ ∀ m Γ Δ, W m Γ Δ → t Γ Δ fun b Δ1 =>
  (b = true → zs { Z with nx := fun Γ' Δ' => ∃ m', m' < m ∧ W m' Γ' Δ', ct := fun Γ' Δ' => ∃ m', m' < m ∧ W m' Γ' Δ', bk := Z.nx } Γ Δ1) ∧ (b = false → Z.nx Γ Δ1)
section
variable {C : CI} {X : Cx} {st : Stmt} {rest : List Stmt} {t u : ZS} {e : Expr} {ze : ZE} {pos : Pos}
theorem szs_nil : SZs C X [] zNext := ⟨_, pss_nil, fun S A σ H Γ Δ Z N hs hc hz k => k.nx σ A H Γ Δ (Ext.refl _ _) hs hc hz⟩
theorem szs_cons (h1 : SZ C X st t) (h2 : SZs C X rest u) : SZs C X (st :: rest) (zSeq t u) := by
  obtain ⟨a, a1, a2⟩ := h1.ex
  obtain ⟨b, b1, b2⟩ := h2.ex
  exact ⟨_, pss_cons a1 b1, fun S A σ H Γ Δ Z N hs hc hz k => a2 S A σ H Γ Δ { Z with nx := u Z } { N with nx := b N } hs hc hz
    ⟨fun σ' A' H' Γ' Δ' e s c z => b2 S A' σ' H' Γ' Δ' Z N s c z (k.ext e), k.bk, k.ct, k.rt⟩⟩
theorem szs_one (h1 : SZ C X st t) : SZs C X [st] t := by
  obtain ⟨a, a1, a2⟩ := h1.ex
  exact ⟨_, pss_one a1, a2⟩
theorem szs_never {sts : List Stmt} : SZs C X sts zNever := ⟨_, pss_never, fun S A σ H Γ Δ Z N hs hc hz k => hz.elim⟩
theorem sz_never : SZ C X st zNever := ⟨_, ps_never, fun S A σ H Γ Δ Z N hs hc hz k => hz.elim⟩
theorem sz_pass : SZ C X (.Pass pos) zNext := ⟨_, ps_pass, fun S A σ H Γ Δ Z N hs hc hz k => k.nx σ A H Γ Δ (Ext.refl _ _) hs hc hz⟩
theorem sz_break : SZ C X (.Break pos) zBreak := ⟨_, ps_break, fun S A σ H Γ Δ Z N hs hc hz k => k.bk σ A H Γ Δ (Ext.refl _ _) hs hc hz⟩
theorem sz_continue : SZ C X (.Continue pos) zCont := ⟨_, ps_continue, fun S A σ H Γ Δ Z N hs hc hz k => k.ct σ A H Γ Δ (Ext.refl _ _) hs hc hz⟩
theorem sz_expr (h : EZ C X e ze) (hs : swapsWith e none pos.line X.env = pure false := by rfl) : SZ C X (.Expr e pos) (zDrop ze) := by
  obtain ⟨t, h1, h2⟩ := h.ex
  exact ⟨_, ps_expr h1 hs, fun S A σ H Γ Δ Z N hs hc hz k => h2 S A σ H Γ Δ _ _ hs hc hz fun v d A' H' Δ' e c r p => k.nx σ A' H' Γ Δ' e (hs.ext e) c p⟩
theorem sz_ret (h : EZ C X e ze) : SZ C X (.Return (some e) pos) (zRet ze) := by
  obtain ⟨t, h1, h2⟩ := h.ex
  exact ⟨_, ps_ret h1, fun S A σ H Γ Δ Z N hs hc hz k => h2 S A σ H Γ Δ _ _ hs hc hz fun v d A' H' Δ' e c r p => k.rt v d A' H' Δ' e c r p⟩
theorem sz_retN : SZ C X (.Return none pos) zRetN := ⟨_, ps_retN, fun S A σ H Γ Δ Z N hs hc hz k => k.rt _ _ A H Δ (Ext.refl _ _) hc .non hz⟩
theorem sz_if {c : Expr} {a b : List Stmt} {zc : ZT} (hc : TZ C X c zc) (ha : SZs C X a t) (hb : SZs C X b u) : SZ C X (.If c a b pos) (zIfS zc t u) := by
  obtain ⟨tc, c1, c2⟩ := hc.ex
  obtain ⟨ta, a1, a2⟩ := ha.ex
  obtain ⟨tb, b1, b2⟩ := hb.ex
  refine ⟨_, ps_if c1 a1 b1, fun S A σ H Γ Δ Z N hs hc hz k => c2 S A σ H Γ Δ _ _ hs hc hz fun d A1 H1 Δ1 e1 c1 hz1 => ?_⟩
  cases d with
  | true => exact iteT (a2 S A1 σ H1 Γ Δ1 Z N (hs.ext e1) c1 (hz1.1 rfl) (k.ext e1))
  | false => exact iteF (b2 S A1 σ H1 Γ Δ1 Z N (hs.ext e1) c1 (hz1.2 rfl) (k.ext e1))
theorem ref_asg {K : PySem.W.Frag} {te : TE} {g : TG} {zg : ZG} (h : RefE K C te ze) (hg : RefG K C g zg) : RefS K C (tAsg te g) (zAsg ze zg) := fun S A σ H Γ Δ Z N hs hc hz k =>
  h S A σ H Γ Δ _ _ hs hc hz fun v d A1 H1 Δ1 e1 c1 r1 p => hg S A1 σ H1 Γ Δ1 v d Z.nx N.nx (hs.ext e1) c1 r1 p (k.nx.ext e1)
theorem sz_asg {tg : Expr} {g : TG} {zg : ZG} (h : EZ C X e ze) (hg : GZ C X tg g zg) (hs : swapsWithSole [tg] e pos.line X.env = pure false := by rfl) (hw : swappedStores [tg] e X.env = pure none := by rfl)
    (h1 : (assignEach [tg] X.env).map (·.2) = [assign tg X.env] := by rfl) : SZ C X (.Assign [tg] e pos) (zAsg ze zg) := by
  obtain ⟨t, a1, a2⟩ := h.ex
  exact ⟨_, ps_asg a1 hg.pg hs hw h1, ref_asg a2 hg.ref⟩
theorem sz_asgSub {tg : Expr} {zg : ZG} (h : EZ C X e ze) (hg : ∃ g, GZ C X tg g zg) (hs : swapsWithSole [tg] e pos.line X.env = pure false := by rfl) (hw : swappedStores [tg] e X.env = pure none := by rfl)
    (h1 : (assignEach [tg] X.env).map (·.2) = [assign tg X.env] := by rfl) : SZ C X (.Assign [tg] e pos) (zAsg ze zg) := by
  obtain ⟨g, hg⟩ := hg
  exact sz_asg h hg hs hw h1
theorem sz_set {i : Nat} {x : Str} {pos' : Pos} (hN : X.N.Nodup) (h : EZ C X e ze) (hi : X.N[i]? = some x := by rfl) (hx : Loc X.env.scope x := by first | exact Or.inl rfl | exact Or.inr rfl) (hs : swapsWith e (some (.Name x pos')) pos.line X.env = pure false := by rfl)
    (hf : X.fn x = true ∨ X.env.scope.names.lookup x = some .local := by first | exact .inl rfl | exact .inr rfl | assumption) : SZ C X (.Assign [.Name x pos'] e pos) (zAsg ze (zgName i)) := by
  obtain ⟨t, a1, a2⟩ := h.ex
  exact ⟨_, ps_set hN hi hx a1 hs hf, ref_asg a2 (gz_name (C := C) (pos := pos') hN hi hx hf).ref⟩
theorem sz_par {i j : Nat} {x y : Str} {a b : Expr} {za : ZA} {px py pt : Pos} {kt k2 pt2} (hN : X.N.Nodup) (hi : X.N[i]? = some x) (hj : X.N[j]? = some y) (hij : i ≠ j)
    (hx : X.env.scope.names.lookup x = some .local) (hy : X.env.scope.names.lookup y = some .local) (ha : AZ C X [a, b] za)
    (hw : swappedStores [.Tuple [.Name x px, .Name y py] kt pt] (.Tuple [a, b] k2 pt2) X.env = pure (some [x, y]) := by rfl)
    (hs : swapsWithSole [.Tuple [.Name x px, .Name y py] kt pt] (.Tuple [a, b] k2 pt2) pos.line X.env = pure false := by rfl) (hc : X.calm = true := by rfl) :
    SZ C X (.Assign [.Tuple [.Name x px, .Name y py] kt pt] (.Tuple [a, b] k2 pt2) pos) (zPar i j za) := by
  obtain ⟨t, a1, a2⟩ := ha.ex
  refine ⟨_, ps_par hc hN hi hj hij hx hy a1 hw hs, fun S A σ H Γ Δ Z N hs hc hz k => a2 S A σ H Γ Δ _ _ hs hc hz fun vs ds A1 H1 Δ1 e1 c1 r1 p => ?_⟩
  obtain ⟨a, b, rfl, p⟩ := p
  cases r1 with
  | cons r1 r2 =>
    cases r2 with
    | cons r2 r3 =>
      cases r3
      exact ⟨_, _, rfl, k.nx _ A1 H1 _ Δ1 e1 (((hs.ext e1).set i r1).set j r2) c1 p⟩
theorem sz_while {c : Expr} {body : List Stmt} {zc : ZT} {zb : ZS} (hc : TZ C X c zc) (hb : SZs C X body zb) (hp : PassesOwn (model X.prog X.w) X.A X.env X.xe := by exact PassesOwn.never) : SZ C X (.While c body [] pos) (zWhile zc zb) := by
  obtain ⟨tc, c1, c2⟩ := hc.ex
  obtain ⟨tb, b1, b2⟩ := hb.ex
  refine ⟨_, ps_while hp c1 b1, fun S A σ H Γ Δ Z N hs hc hz k => ?_⟩
  obtain ⟨W, ⟨m0, w0⟩, hW⟩ := hz
  refine ⟨fun m σ' H' => ∃ A' Γ' Δ', Ext A H A' H' ∧ Slots X.K C S A' H' σ' Γ' ∧ Cells X.K C S A' H' Δ' ∧ W m Γ' Δ', ⟨m0, A, Γ, Δ, Ext.refl _ _, hs, hc, w0⟩, ?_⟩
  rintro m σ' H' ⟨A', Γ', Δ', e, s, c, w⟩
  refine c2 S A' σ' H' Γ' Δ' _ _ s c (hW m Γ' Δ' w) fun b A1 H1 Δ1 e1 c1 p => ?_
  cases b with
  | false => exact iteF (k.nx σ' A1 H1 Γ' Δ1 (e.trans e1) (s.ext e1) c1 (p.2 rfl))
  | true =>
    refine iteT ⟨fun σ2 H2 => ∃ A2 Γ2 Δ2, Ext A H A2 H2 ∧ Slots X.K C S A2 H2 σ2 Γ2 ∧ Cells X.K C S A2 H2 Δ2 ∧ ∃ m', m' < m ∧ W m' Γ2 Δ2, ?_, ?_⟩
    · rintro σ2 H2 ⟨A2, Γ2, Δ2, e2, s2, c2, m', hm, w'⟩
      exact ⟨m', hm, A2, Γ2, Δ2, e2, s2, c2, w'⟩
    · refine b2 S A1 σ' H1 Γ' Δ1 _ _ (s.ext e1) c1 (p.1 rfl) ⟨?_, ?_, ?_, ?_⟩
      · exact fun σ2 A2 H2 Γ2 Δ2 e2 s2 c2 q => ⟨A2, Γ2, Δ2, (e.trans e1).trans e2, s2, c2, q⟩
      · exact k.nx.ext (e.trans e1)
      · exact fun σ2 A2 H2 Γ2 Δ2 e2 s2 c2 q => ⟨A2, Γ2, Δ2, (e.trans e1).trans e2, s2, c2, q⟩
      · exact fun v d A2 H2 Δ2 e2 c2 r q => k.rt v d A2 H2 Δ2 ((e.trans e1).trans e2) c2 r q

/-! ### what is walked -/
abbrev ZI := Env → Store → (List D → Store → Prop) → Prop
def RefI (K : PySem.W.Frag) (C : CI) (wi : TI) (zi : ZI) : Prop := ∀ (S A : List Addr) (σ : L2.St) (H : Hp) (Γ : Env) (Δ : Store) (P : List D → Store → Prop) (R : It → Hp → Prop), Slots K C S A H σ Γ → Cells K C S A H Δ → zi Γ Δ P →
  (∀ (J : It) (n : Nat) (G : Hp → Prop) (Y : Nat → Hp → V → Hp → Prop) (items : List D) (A' : List Addr) (H' : Hp) (Δ' : Store), Ext A H A' H' → Cells K C S A' H' Δ' → P items Δ' → n = items.length → Walk J n G Y →
    (∀ S2 A2 H2, Mo S A' H' S2 A2 H2 → G H2) →
    (∀ S2 A2 H2 Δ2 i x H3, i < n → Mo S A' H' S2 A2 H2 → Cells K C S2 A2 H2 Δ2 → Y i H2 x H3 → ∃ d, items[i]? = some d ∧ (∀ a o, H2 a = some o → H3 a = some o) ∧ Rep K C S2 A2 H3 x d) → R J H') → wi σ H R
structure IZ (C : CI) (X : Cx) (tg iter : Expr) (zi : ZI) : Prop where
  ex : ∃ wi, PI X tg iter wi ∧ RefI X.K C wi zi
theorem Ext.kept {A : List Addr} {H H' : Hp} (k : ∀ a o, H a = some o → H' a = some o) : Ext A H A H' := ⟨⟨[], by simp, by simp⟩, fun a o _ h => k a o h, fun a h => by
  cases q : H a with
  | none => rfl
  | some o => rw [k a o q] at h; cases h⟩
/-- a list (its own, or the script) -/
def ziList (z : ZE) : ZI := fun Γ Δ P => z Γ Δ fun d Δ1 => (∃ ds, d = .lst ds ∧ P ds Δ1) ∨ ∃ ns, d = .scr ns ∧ P (ns.map D.int) Δ1
theorem iz_list {tg iter : Expr} {z : ZE} (h : EZ C X iter z) : IZ C X tg iter (ziList z) := by
  obtain ⟨t, h1, h2⟩ := h.ex
  refine ⟨_, pi_list h1, fun S A σ H Γ Δ P R hs hc hz k => h2 S A σ H Γ Δ _ _ hs hc hz fun v d A1 H1 Δ1 e1 c1 r1 p => ?_⟩
  rcases p with ⟨ds, rfl, p⟩ | ⟨ns, rfl, p⟩
  · cases r1 with
    | lst g1 g2 g3 g4 =>
      rename_i a xs
      refine ⟨a, rfl, ⟨xs, SqL.of g1⟩, ?_⟩
      refine k (Itl X.K a) xs.length (fun H => SqL X.K H a xs) (YAt xs) ds A1 H1 Δ1 e1 c1 p g4.length walk_list (fun S2 A2 H2 m => SqL.of (m.keep _ _ g2 g3 g1)) fun S2 A2 H2 Δ2 i x H3 hi m c2 y => ?_
      obtain ⟨rfl, y⟩ := y
      obtain ⟨d, q1, q2⟩ := (RepL.mono m ds g4).getV y
      exact ⟨d, q1, fun _ _ h => h, q2⟩
  · cases r1 with
    | scr g =>
      rename_i a
      refine ⟨a, rfl, ?_, ?_⟩
      · rcases g with ⟨⟨o, g⟩, _⟩ | g
        · exact ⟨_, .inl (.inr ⟨o, g⟩)⟩
        · exact ⟨_, .inr g⟩
      · refine k (Itl X.K a) (ns.map V.int).length (fun H => SqL X.K H a (ns.map V.int)) (YAt (ns.map V.int)) (ns.map D.int) A1 H1 Δ1 e1 c1 p (by rw [List.length_map, List.length_map]) walk_list (fun S2 A2 H2 m => ?_) fun S2 A2 H2 Δ2 i x H3 hi m c2 y => ?_
        · rcases g with ⟨⟨o, g⟩, gA, gS⟩ | g
          · exact .inl (.inr ⟨o, m.keep _ _ gA gS g⟩)
          · exact .inr g
        · obtain ⟨rfl, y⟩ := y
          obtain ⟨d, q1, q2⟩ := (repL_ints (K := X.K) (C := C) (S := S2) (A := A2) (H := H3) ns).getV y
          exact ⟨d, q1, fun _ _ h => h, q2⟩
/-- a tuple -/
def ziTup (z : ZE) : ZI := fun Γ Δ P => z Γ Δ fun d Δ1 => ∃ ds, d = .tup ds ∧ P ds Δ1
theorem iz_tup {tg iter : Expr} {z : ZE} (h : EZ C X iter z) : IZ C X tg iter (ziTup z) := by
  obtain ⟨t, h1, h2⟩ := h.ex
  refine ⟨_, pi_tup h1, fun S A σ H Γ Δ P R hs hc hz k => h2 S A σ H Γ Δ _ _ hs hc hz fun v d A1 H1 Δ1 e1 c1 r1 p => ?_⟩
  obtain ⟨ds, rfl, p⟩ := p
  cases r1 with
  | tup g1 g2 g3 g4 =>
    rename_i a xs
    refine ⟨a, rfl, ⟨xs, SqT.of g1⟩, ?_⟩
    refine k (Itt X.K a) xs.length (fun H => SqT X.K H a xs) (YAt xs) ds A1 H1 Δ1 e1 c1 p g4.length walk_tup (fun S2 A2 H2 m => SqT.of (m.keep _ _ g2 g3 g1)) fun S2 A2 H2 Δ2 i x H3 hi m c2 y => ?_
    obtain ⟨rfl, y⟩ := y
    obtain ⟨d, q1, q2⟩ := (RepL.mono m ds g4).getV y
    exact ⟨d, q1, fun _ _ h => h, q2⟩
/-- lo, lo + 1, .. below hi -/
def rangeD (lo hi : Int) : List D := (List.range (hi - lo).toNat).map fun (i : Nat) => D.int (lo + ((i : Nat) : Int))
theorem rangeD_len (lo hi : Int) : (rangeD lo hi).length = (hi - lo).toNat := by unfold rangeD; rw [List.length_map, List.length_range]
def ziR1 (z : ZA) : ZI := fun Γ Δ P => z Γ Δ fun ds Δ1 => ∃ n, ds = [.int n] ∧ -(2 ^ 62) ≤ n ∧ n < 2 ^ 62 ∧ P (rangeD 0 n) Δ1
def ziR2 (z : ZA) : ZI := fun Γ Δ P => z Γ Δ fun ds Δ1 => ∃ a b, ds = [.int a, .int b] ∧ -(2 ^ 62) ≤ a ∧ a < 2 ^ 62 ∧ -(2 ^ 62) ≤ b ∧ b < 2 ^ 62 ∧ P (rangeD a b) Δ1
theorem range_get {lo hi : Int} {i : Nat} (h : i < (hi - lo).toNat) : (rangeD lo hi)[i]? = some (.int (lo + (i : Int))) := by
  unfold rangeD
  rw [List.getElem?_map, List.getElem?_range h] <;> rfl
theorem ref_range {K : PySem.W.Frag} {S A A1 : List Addr} {H H1 : Hp} {Δ1 : Store} {P : List D → Store → Prop} {R : It → Hp → Prop} {lo hi : Int} (e1 : Ext A H A1 H1) (c1 : Cells K C S A1 H1 Δ1) (p : P (rangeD lo hi) Δ1)
    (k : ∀ (J : It) (n : Nat) (G : Hp → Prop) (Y : Nat → Hp → V → Hp → Prop) (items : List D) (A' : List Addr) (H' : Hp) (Δ' : Store), Ext A H A' H' → Cells K C S A' H' Δ' → P items Δ' → n = items.length → Walk J n G Y →
    (∀ S2 A2 H2, Mo S A' H' S2 A2 H2 → G H2) →
    (∀ S2 A2 H2 Δ2 i x H3, i < n → Mo S A' H' S2 A2 H2 → Cells K C S2 A2 H2 Δ2 → Y i H2 x H3 → ∃ d, items[i]? = some d ∧ (∀ a o, H2 a = some o → H3 a = some o) ∧ Rep K C S2 A2 H3 x d) → R J H') : R (Itr lo (hi - lo).toNat) H1 := by
  refine k (Itr lo (hi - lo).toNat) _ (fun _ => True) _ _ A1 H1 Δ1 e1 c1 p (rangeD_len lo hi).symm walk_range (fun _ _ _ _ => trivial) fun S2 A2 H2 Δ2 i x H3 hi' m c2 y => ?_
  obtain ⟨rfl, rfl⟩ := y
  exact ⟨_, range_get hi', fun _ _ h => h, .int _⟩
theorem iz_r1 {tg a : Expr} {z : ZA} {p pos : Pos} (h : AZ C X [a] z) (hm : X.mg "range" = none) (hg : Gl X "range" := by rfl) (hs : starEach [a] X.env = [(false, eval a X.env)] := by rfl) : IZ C X tg (.Call (.Name "range" p) [a] [] pos) (ziR1 z) := by
  obtain ⟨t, h1, h2⟩ := h.ex
  refine ⟨_, pi_range1 hg hm h1 hs, fun S A σ H Γ Δ P R hs hc hz k => h2 S A σ H Γ Δ _ _ hs hc hz fun vs ds A1 H1 Δ1 e1 c1 r1 p => ?_⟩
  obtain ⟨n, rfl, g1, g2, p⟩ := p
  cases r1 with
  | cons r1 r2 =>
    cases r1
    cases r2
    refine ⟨n, rfl, g1, g2, ?_⟩
    have q := ref_range (R := R) e1 c1 p k
    rw [Int.sub_zero] at q
    exact q
theorem iz_r2 {tg a b : Expr} {z : ZA} {p pos : Pos} (h : AZ C X [a, b] z) (hm : X.mg "range" = none) (hg : Gl X "range" := by rfl) (hs : starEach [a, b] X.env = [(false, eval a X.env), (false, eval b X.env)] := by rfl) (hs2 : starEach [b] X.env = [(false, eval b X.env)] := by rfl) :
    IZ C X tg (.Call (.Name "range" p) [a, b] [] pos) (ziR2 z) := by
  obtain ⟨t, h1, h2⟩ := h.ex
  refine ⟨_, pi_range2 hg hm h1 hs hs2, fun S A σ H Γ Δ P R hs hc hz k => h2 S A σ H Γ Δ _ _ hs hc hz fun vs ds A1 H1 Δ1 e1 c1 r1 p => ?_⟩
  obtain ⟨a, b, rfl, g1, g2, g3, g4, p⟩ := p
  cases r1 with
  | cons r1 r2 =>
    cases r1
    cases r2 with
    | cons r2 r3 =>
      cases r2
      cases r3
      exact ⟨a, b, rfl, ⟨g1, g2, g3, g4⟩, ref_range (R := R) e1 c1 p k⟩

/-! ### for -/
def loopZ (body : D → ZS) (Z : ZEnds) : List D → Env → Store → Prop
  | [], Γ, Δ => Z.nx Γ Δ
  | x :: xs, Γ, Δ => body x { Z with nx := loopZ body Z xs, ct := loopZ body Z xs, bk := Z.nx } Γ Δ
def zFor (zi : ZI) (g : ZG) (zs : ZS) : ZS := fun Z Γ Δ => zi Γ Δ fun items Δ1 => loopZ (fun x Z' Γ' Δ' => g x Γ' Δ' fun Γ2 Δ2 => zs Z' Γ2 Δ2) Z items Γ Δ1
theorem sz_for {tg iter : Expr} {body : List Stmt} {zi : ZI} {g : TG} {zg : ZG} {zb : ZS} (hi : IZ C X tg iter zi) (hg : GZ C X tg g zg) (hb : SZs C X body zb) (hp : PassesOwn (model X.prog X.w) X.A X.env X.xe := by exact PassesOwn.never) (hc : X.calm = true := by rfl)
    (hs : ∀ x, foldedSetIterable iter X.env x = pure x := by intro _; rfl) : SZ C X (.For tg iter body [] pos) (zFor zi zg zb) := by
  obtain ⟨wi, i1, i2⟩ := hi.ex
  obtain ⟨tb, b1, b2⟩ := hb.ex
  refine ⟨_, ps_for hp hc i1 hg.pg b1 hs, fun S A σ H Γ Δ Z N hs hc hz k => i2 S A σ H Γ Δ _ _ hs hc hz fun J n G Y items A1 H1 Δ1 e1 c1 p hn w hG hY => ?_⟩
  refine for_it w (fun i σ2 H2 => ∃ A2 Γ2 Δ2, Ext A1 H1 A2 H2 ∧ Slots X.K C S A2 H2 σ2 Γ2 ∧ Cells X.K C S A2 H2 Δ2 ∧ loopZ (fun x Z' Γ' Δ' => zg x Γ' Δ' fun Γ2 Δ2 => zb Z' Γ2 Δ2) Z (items.drop i) Γ2 Δ2)
    ⟨A1, Γ, Δ1, Ext.refl _ _, hs.ext e1, c1, p⟩ (fun i σ2 H2 _ ⟨A2, Γ2, Δ2, e2, _, _, _⟩ => hG S A2 H2 e2.mo) ?_ ?_
  · rintro i x σ2 H2 H3 hi ⟨A2, Γ2, Δ2, e2, s2, c2, q⟩ y
    obtain ⟨d, q1, q2, q3⟩ := hY S A2 H2 Δ2 i x H3 hi e2.mo c2 y
    have hd : items.drop i = d :: items.drop (i + 1) := by
      obtain ⟨hl, q⟩ := List.getElem?_eq_some_iff.mp q1
      rw [← q]
      exact List.drop_eq_getElem_cons hl
    rw [hd] at q
    have e3 : Ext A2 H2 A2 H3 := Ext.kept q2
    refine hg.ref S A2 σ2 H3 Γ2 Δ2 x d _ _ (s2.ext e3) (c2.kept q2) q3 q fun σ4 A4 H4 Γ4 Δ4 e4 s4 c4 p4 => ?_
    have e14 := (e2.trans e3).trans e4
    refine b2 S A4 σ4 H4 Γ4 Δ4 _ _ s4 c4 p4 ⟨?_, ?_, ?_, ?_⟩
    · exact fun σ5 A5 H5 Γ5 Δ5 e5 s5 c5 p5 => ⟨A5, Γ5, Δ5, e14.trans e5, s5, c5, p5⟩
    · exact k.nx.ext (e1.trans e14)
    · exact fun σ5 A5 H5 Γ5 Δ5 e5 s5 c5 p5 => ⟨A5, Γ5, Δ5, e14.trans e5, s5, c5, p5⟩
    · exact fun v d A5 H5 Δ5 e5 c5 r5 p5 => k.rt v d A5 H5 Δ5 ((e1.trans e14).trans e5) c5 r5 p5
  · rintro σ2 H2 ⟨A2, Γ2, Δ2, e2, s2, c2, q⟩
    rw [hn, List.drop_length] at q
    exact k.nx σ2 A2 H2 Γ2 Δ2 (e1.trans e2) s2 c2 q
end
end Z

/-! Z4: comprehensions, zip, enumerate, calls of defs and built-ins over data. -/
namespace Z
open PySem L2

/-! ### slots forgotten -/
def wipeZ (Γ : Env) : List Nat → Env
  | [] => Γ
  | v :: vs => (wipeZ Γ vs).set v none
theorem wipeZ_length (Γ : Env) : ∀ vs : List Nat, (wipeZ Γ vs).length = Γ.length
  | [] => rfl
  | v :: vs => by unfold wipeZ; rw [List.length_set, wipeZ_length Γ vs]
theorem wipeZ_some {Γ : Env} {i : Nat} {d : D} : ∀ {vs : List Nat}, (wipeZ Γ vs)[i]? = some (some d) → Γ[i]? = some (some d) ∧ i ∉ vs
  | [], h => ⟨h, by simp⟩
  | v :: vs, h => by
    unfold wipeZ at h
    by_cases e : i = v
    · subst e
      by_cases hl : i < (wipeZ Γ vs).length
      · rw [List.getElem?_set_self hl] at h; cases h
      · rw [List.getElem?_eq_none (by rw [List.length_set]; omega)] at h; cases h
    · rw [List.getElem?_set_ne (Ne.symm e)] at h
      obtain ⟨h1, h2⟩ := wipeZ_some h
      exact ⟨h1, by simp [e, h2]⟩
theorem wipe_get {σ : L2.St} {i : Nat} : ∀ {vs : List Nat}, i ∉ vs → (wipe σ vs)[i]? = σ[i]?
  | [], _ => rfl
  | v :: vs, h => by
    unfold wipe
    have h1 : i ≠ v := fun e => h (by simp [e])
    rw [List.getElem?_set_ne (Ne.symm h1)]
    exact wipe_get fun q => h (List.mem_cons_of_mem _ q)
theorem wipe_in {σ : L2.St} {i : Nat} : ∀ {vs : List Nat}, i ∈ vs → (wipe σ vs)[i]? = if i < σ.length then some none else none
  | v :: vs, h => by
    unfold wipe
    by_cases e : i = v
    · subst e
      by_cases hl : i < σ.length
      · rw [List.getElem?_set_self (by rw [wipe_length]; exact hl), if_pos hl]
      · rw [List.getElem?_eq_none (by rw [List.length_set, wipe_length]; omega), if_neg hl]
    · rw [List.getElem?_set_ne (Ne.symm e)]
      exact wipe_in ((List.mem_cons.mp h).resolve_left e)
theorem wipe_ext {σ τ : L2.St} {vs : List Nat} (hl : σ.length = τ.length) (h : ∀ i, i ∉ vs → σ[i]? = τ[i]?) : wipe σ vs = wipe τ vs := by
  refine List.ext_getElem? fun i => ?_
  by_cases hi : i ∈ vs
  · rw [wipe_in hi, wipe_in hi, hl]
  · rw [wipe_get hi, wipe_get hi]; exact h i hi
theorem wipe_wipe (σ : L2.St) (vs : List Nat) : wipe (wipe σ vs) vs = wipe σ vs := wipe_ext (wipe_length σ vs) fun i hi => wipe_get hi
theorem wipe_set {σ : L2.St} {i : Nat} {x : Option V} {vs : List Nat} (hi : i ∈ vs) : wipe (σ.set i x) vs = wipe σ vs :=
  wipe_ext (by rw [List.length_set]) fun j hj => by rw [List.getElem?_set_ne (fun e => hj (by rw [← e]; exact hi))]
theorem Slots.wipe {K : PySem.W.Frag} {C : CI} {S A : List Addr} {H : Hp} {σ : L2.St} {Γ : Env} (h : Slots K C S A H σ Γ) (vs : List Nat) : Slots K C S A H (L2.wipe σ vs) (wipeZ Γ vs) := by
  refine ⟨by rw [wipe_length, wipeZ_length]; exact h.len, fun i d q => ?_⟩
  obtain ⟨h1, h2⟩ := wipeZ_some q
  obtain ⟨v, g1, g2⟩ := h.at_ i d h1
  exact ⟨v, by rw [wipe_get h2]; exact g1, g2⟩
/-- a target that stores into the slots vs alone -/
def Own (g : TG) (vs : List Nat) : Prop := ∀ x σ H Q, g x σ H Q → g x σ H fun σ2 H2 => wipe σ2 vs = wipe σ vs ∧ Q σ2 H2
def Owns (g : TGs) (vs : List Nat) : Prop := ∀ xs σ H Q, g xs σ H Q → g xs σ H fun σ2 H2 => wipe σ2 vs = wipe σ vs ∧ Q σ2 H2
theorem own_name {i : Nat} {vs : List Nat} (h : i ∈ vs) : Own (gName i) vs := fun _ _ _ _ q => ⟨wipe_set h, q⟩
theorem owns_nil {vs : List Nat} : Owns gNil vs := fun _ _ _ _ q => ⟨q.1, rfl, q.2⟩
theorem gName_eq {i : Nat} {x : V} {σ : L2.St} {H : Hp} {Q : L2.St → Hp → Prop} : gName i x σ H Q = Q (σ.set i (some x)) H := rfl
theorem owns_cons {i : Nat} {gs : TGs} {vs : List Nat} (h : i ∈ vs) (hs : Owns gs vs) : Owns (gCons (gName i) gs) vs := fun xs σ H Q q => by
  obtain ⟨v, r, e, q⟩ := q
  refine ⟨v, r, e, ?_⟩
  have q' : gs r (σ.set i (some v)) H Q := q
  have := hs _ _ _ _ q'
  rw [wipe_set h] at this
  exact this
theorem own_tup {K : PySem.W.Frag} {n : Nat} {gs : TGs} {vs : List Nat} (h : Owns gs vs) : Own (gTup K n gs) vs := fun x σ H Q q => by
  obtain ⟨a, xs, e, h1, h2, q⟩ := q
  exact ⟨a, xs, e, h1, h2, h _ _ _ _ q⟩

/-! ### a list comprehension -/
abbrev ZTs := ZT
def zYes : ZT := fun _ Δ P => P true Δ
structure TsZ (C : CI) (X : Cx) (es : List Expr) (z : ZT) : Prop where
  ex : ∃ tt, PTs X es tt ∧ RefT X.K C tt z
def compZ (zg : ZG) (zt : ZT) (ze : ZE) (Γ0 : Env) (P : D → Store → Prop) : List D → List D → Store → Prop
  | [], acc, Δ => P (.lst acc) Δ
  | x :: xs, acc, Δ => zg x Γ0 Δ fun Γ2 Δ2 => zt Γ2 Δ2 fun b Δ3 => (b = true → ze Γ2 Δ3 fun y Δ4 => acc.length < 100000 ∧ compZ zg zt ze Γ0 P xs (acc ++ [y]) Δ4) ∧ (b = false → compZ zg zt ze Γ0 P xs acc Δ3)
def zLc (zi : ZI) (zg : ZG) (zt : ZT) (ze : ZE) (vs : List Nat) : ZE := fun Γ Δ P => zi Γ Δ fun items Δ1 => compZ zg zt ze (wipeZ Γ vs) P items [] Δ1
theorem lt_line {n : Nat} (h : n < 100000) : n < sizeLine := Nat.lt_of_lt_of_le h (by decide)
theorem ref_lc {K : PySem.W.Frag} {C : CI} {wi : TI} {g : TG} {tt : TT} {te : TE} {vs : List Nat} {zi : ZI} {zg : ZG} {zt : ZT} {ze : ZE} (hi : RefI K C wi zi) (hg : RefG K C g zg) (ho : Own g vs) (ht : RefT K C tt zt) (he : RefE K C te ze) :
    RefE K C (tLc wi g tt te vs) (zLc zi zg zt ze vs) := fun S A σ H Γ Δ P Q hs hc hz k => hi S A σ H Γ Δ _ _ hs hc hz fun J n G Y items A1 H1 Δ1 e1 c1 p hn w hG hY q hq => by
  have s1 := hs.ext e1
  -- the list at q is set aside
  have mo0 : Mo S A1 H1 (q :: S) A1 (upd H1 q (.lst [])) := ⟨⟨[], by simp, by simp⟩, fun b hb => by
    rcases List.mem_cons.mp hb with rfl | hb
    · exact .inr hq
    · exact .inl hb, fun a o _ _ h => by rw [upd_ne (ne_of_none h hq)]; exact h⟩
  have cells0 : Cells K C (q :: S) A1 (upd H1 q (.lst [])) Δ1 := by
    refine ⟨c1.len, c1.nd, fun a ha hb => ?_, fun a ha h => ?_, fun n a o h1 h2 => (c1.at_ n a o h1 h2).mono mo0 fun u h => by rw [upd_ne (ne_of_none h hq)]; exact h⟩
    · rcases List.mem_cons.mp hb with rfl | hb
      · exact c1.fresh hq ha
      · exact c1.dj a ha hb
    · rcases List.mem_cons.mp ha with rfl | ha
      · rw [upd_same] at h; cases h
      · exact c1.as a ha ((Ext.new (A := A1) hq).trk a h)
  refine lc_it w (fun i H2 => ∃ A2 Δ2 acc accV, Ext A1 H1 A2 H2 ∧ Mo S A1 H1 (q :: S) A2 H2 ∧ Cells K C (q :: S) A2 H2 Δ2 ∧ H2 q = some (.lst accV) ∧ RepL K C (q :: S) A2 H2 accV acc ∧ compZ zg zt ze (wipeZ Γ vs) P (items.drop i) acc Δ2)
    ⟨A1, Δ1, [], [], Ext.new hq, mo0, cells0, upd_same, .nil, p⟩ (fun i H2 _ ⟨A2, Δ2, acc, accV, _, m, _⟩ => hG _ A2 H2 m) ?_ ?_
  · rintro i x H2 H3 hi2 ⟨A2, Δ2, acc, accV, e2, m2, c2, hqv, hacc, hp⟩ y
    obtain ⟨d, q1, q2, q3⟩ := hY _ A2 H2 Δ2 i x H3 hi2 m2 c2 y
    have hd : items.drop i = d :: items.drop (i + 1) := by
      obtain ⟨hl, q⟩ := List.getElem?_eq_some_iff.mp q1
      rw [← q]
      exact List.drop_eq_getElem_cons hl
    rw [hd] at hp
    have e3 : Ext A2 H2 A2 H3 := Ext.kept q2
    have s3 : Slots K C (q :: S) A2 H3 (wipe σ vs) (wipeZ Γ vs) := ((s1.mono m2).ext e3).wipe vs
    have fin : g x (wipe σ vs) H3 fun σ2 H4 => wipe σ2 vs = wipe (wipe σ vs) vs ∧ tt σ2 H4 fun b H5 =>
        if b = true then te σ2 H5 fun y H6 => ∃ acc, H6 q = some (.lst acc) ∧ acc.length < sizeLine ∧ ∃ A2 Δ2 acc' accV, Ext A1 H1 A2 (upd H6 q (.lst (acc ++ [y]))) ∧ Mo S A1 H1 (q :: S) A2 (upd H6 q (.lst (acc ++ [y]))) ∧ Cells K C (q :: S) A2 (upd H6 q (.lst (acc ++ [y]))) Δ2 ∧
          (upd H6 q (.lst (acc ++ [y]))) q = some (.lst accV) ∧ RepL K C (q :: S) A2 (upd H6 q (.lst (acc ++ [y]))) accV acc' ∧ compZ zg zt ze (wipeZ Γ vs) P (items.drop (i + 1)) acc' Δ2
        else ∃ A2 Δ2 acc accV, Ext A1 H1 A2 H5 ∧ Mo S A1 H1 (q :: S) A2 H5 ∧ Cells K C (q :: S) A2 H5 Δ2 ∧ H5 q = some (.lst accV) ∧ RepL K C (q :: S) A2 H5 accV acc ∧ compZ zg zt ze (wipeZ Γ vs) P (items.drop (i + 1)) acc Δ2 := by
      refine ho _ _ _ _ (hg (q :: S) A2 (wipe σ vs) H3 (wipeZ Γ vs) Δ2 x d _ _ s3 (c2.kept q2) q3 hp fun σ4 A4 H4 Γ4 Δ4 e4 s4 c4 p4 => ?_)
      refine ht (q :: S) A4 σ4 H4 Γ4 Δ4 _ _ s4 c4 p4 fun b A5 H5 Δ5 e5 c5 p5 => ?_
      have e25 := (e3.trans e4).trans e5
      have e15 := e2.trans e25
      have hq2 : q ∉ A2 := fun h => c2.dj q h List.mem_cons_self
      have hq5 : H5 q = some (.lst accV) := e25.keep q _ hq2 hqv
      have m5 : Mo S A1 H1 (q :: S) A5 H5 := ⟨e15.pre, m2.sub, fun a o h1 _ h3 => e15.keep a o h1 h3⟩
      cases b with
      | false => exact iteF ⟨A5, Δ5, acc, accV, e15, m5, c5, hq5, hacc.ext e25, p5.2 rfl⟩
      | true =>
        refine iteT (he (q :: S) A5 σ4 H5 Γ4 Δ5 _ _ (s4.ext e5) c5 (p5.1 rfl) fun y dy A6 H6 Δ6 e6 c6 r6 p6 => ?_)
        have e16 := e15.trans e6
        have hq5' : q ∉ A5 := fun h => c5.dj q h List.mem_cons_self
        have hq6' : q ∉ A6 := fun h => c6.dj q h List.mem_cons_self
        have hq6 : H6 q = some (.lst accV) := e6.keep q _ hq5' hq5
        have hacc6 := (hacc.ext e25).ext e6
        have mo7 : Mo (q :: S) A6 H6 (q :: S) A6 (upd H6 q (.lst (accV ++ [y]))) := ⟨⟨[], by simp, by simp⟩, fun _ h => .inl h, fun a o _ h2 h3 => by
          rw [upd_ne (fun h => h2 (by rw [h]; exact List.mem_cons_self))]; exact h3⟩
        have nq : ∀ a o, H1 a = some o → a ≠ q := fun a o h => ne_of_none h hq
        refine ⟨accV, hq6, lt_line (by rw [hacc6.length]; exact p6.1), A6, Δ6, acc ++ [dy], accV ++ [y], ?_, ?_, ?_, upd_same, ?_, p6.2⟩
        · exact ⟨e16.pre, fun a o h1 h2 => by rw [upd_ne (nq a o h2)]; exact e16.keep a o h1 h2, fun a h => by
            by_cases hb : a = q
            · subst hb; exact hq
            · rw [upd_ne hb] at h; exact e16.trk a h⟩
        · exact ⟨e16.pre, m2.sub, fun a o h1 _ h3 => by rw [upd_ne (nq a o h3)]; exact e16.keep a o h1 h3⟩
        · refine ⟨c6.len, c6.nd, c6.dj, fun a ha h => ?_, fun n a o h1 h2 => (c6.at_ n a o h1 h2).mono mo7 fun u h => ?_⟩
          · by_cases hb : a = q
            · subst hb; rw [upd_same] at h; cases h
            · rw [upd_ne hb] at h; exact c6.as a ha h
          · rw [upd_ne (fun hb => hq6' (by rw [← hb]; exact List.mem_of_getElem? h1))]; exact h
        · exact (RepL.append hacc6 (.cons r6 .nil)).mono mo7 _
    rw [wipe_wipe] at fin
    exact fin
  · rintro H2 ⟨A2, Δ2, acc, accV, e2, m2, c2, hqv, hacc, hp⟩
    rw [hn, List.drop_length] at hp
    have hq2 : q ∉ A2 := fun h => c2.dj q h List.mem_cons_self
    have mo8 : Mo (q :: S) A2 H2 S A2 H2 := ⟨⟨[], by simp, by simp⟩, fun b hb => .inl (List.mem_cons_of_mem _ hb), fun _ _ _ _ h => h⟩
    refine k _ _ A2 H2 Δ2 (e1.trans e2) ⟨c2.len, c2.nd, fun a ha hb => c2.dj a ha (List.mem_cons_of_mem _ hb), fun a ha => c2.as a (List.mem_cons_of_mem _ ha), fun n a o h1 h2 => (c2.at_ n a o h1 h2).mono mo8 fun _ h => h⟩
      (.lst hqv hq2 (c1.aside hq) (RepL.mono mo8 _ hacc)) hp
section
variable {C : CI} {X : Cx}
theorem tsz_nil : TsZ C X [] zYes := ⟨_, pts_nil, fun S A σ H Γ Δ P Q hs hc hz k => k true A H Δ (Ext.refl _ _) hc hz⟩
theorem tsz_one {c : Expr} {z : ZT} (h : TZ C X c z) : TsZ C X [c] z := by
  obtain ⟨t, h1, h2⟩ := h.ex
  exact ⟨t, pts_one h1, h2⟩
/-- what stands in a comprehension's block, whatever the block's own frame is -/
structure BlkZ (C : CI) (X : Cx) (scope : Scope) (tg : Expr) (ifs : List Expr) (elt : Expr) (g : TG) (zg : ZG) (zt : ZT) (ze : ZE) : Prop where
  ex : ∃ tt te, (∀ (s : Shared) (H : Hp) (Ca : Addr) (cl : List (Str × Addr)) (fp : List Addr), PG (X.blk s H scope (compEnvC scope cl Ca X.env) fp) tg g ∧ PTs (X.blk s H scope (compEnvC scope cl Ca X.env) fp) ifs tt ∧ PE (X.blk s H scope (compEnvC scope cl Ca X.env) fp) elt te) ∧
    RefG X.K C g zg ∧ RefT X.K C tt zt ∧ RefE X.K C te ze
theorem ez_lc {elt tg iter : Expr} {ifs : List Expr} {scope : Scope} {own : List (Str × Nat)} {pos : Pos} {zi : ZI} {g : TG} {zg : ZG} {zt : ZT} {ze : ZE} (hN : X.N.Nodup) (hi : IZ C X tg iter zi) (ok : BlkOk X.N X.env.scope scope own) (ho : Own g (own.map (·.2))) (hb : BlkZ C X scope tg ifs elt g zg zt ze)
    (hc : X.calm = true := by rfl) (hs : ∀ x, foldedSetIterable iter X.env x = pure x := by intro _; rfl) : EZ C X (.ListComp elt [⟨tg, iter, ifs, 0⟩] scope pos) (zLc zi zg zt ze (own.map (·.2))) := by
  obtain ⟨wi, i1, i2⟩ := hi.ex
  obtain ⟨tt, te, b1, b2, b3, b4⟩ := hb.ex
  exact ⟨_, pe_lc hc hN i1 ok (fun s H Ca cl fp => (b1 s H Ca cl fp).1) (fun s H Ca cl fp => (b1 s H Ca cl fp).2.1) (fun s H Ca cl fp => (b1 s H Ca cl fp).2.2) hs, ref_lc i2 b2 ho b3 b4⟩
theorem sz_setLc {i : Nat} {y : Str} {py : Pos} {elt tg iter : Expr} {ifs : List Expr} {scope : Scope} {own : List (Str × Nat)} {pos spos : Pos} {zi : ZI} {g : TG} {zg : ZG} {zt : ZT} {ze : ZE} (hN : X.N.Nodup) (hy : X.N[i]? = some y) (hyl : X.env.scope.names.lookup y = some .local)
    (hsw : swapsWith (.ListComp elt [⟨tg, iter, ifs, 0⟩] scope pos) (some (.Name y py)) spos.line X.env = pure true) (hi : IZ C X tg iter zi) (ok : BlkOk X.N X.env.scope scope own) (ho : Own g (own.map (·.2))) (hb : BlkZ C X scope tg ifs elt g zg zt ze)
    (hc : X.calm = true := by rfl) (hs : ∀ x, foldedSetIterable iter X.env x = pure x := by intro _; rfl) : SZ C X (.Assign [.Name y py] (.ListComp elt [⟨tg, iter, ifs, 0⟩] scope pos) spos) (zAsg (zLc zi zg zt ze (own.map (·.2))) (zgName i)) := by
  obtain ⟨wi, i1, i2⟩ := hi.ex
  obtain ⟨tt, te, b1, b2, b3, b4⟩ := hb.ex
  exact ⟨_, ps_setLc hc hN hy hyl hsw i1 ok (fun s H Ca cl fp => (b1 s H Ca cl fp).1) (fun s H Ca cl fp => (b1 s H Ca cl fp).2.1) (fun s H Ca cl fp => (b1 s H Ca cl fp).2.2) hs, ref_asg (ref_lc i2 b2 ho b3 b4) (gz_name (C := C) (pos := py) hN hy (.inl hyl) (.inr hyl)).ref⟩

/-! ### calls of defs -/
/-- a def's promise over data: W says of the arguments, the store and a wish what must hold ahead -/
def SpZ (K : PySem.W.Frag) (C : CI) (W : ZRC) : Sp := fun vs H Q _ => ∃ S A Δ ds P, RepL K C S A H vs ds ∧ Cells K C S A H Δ ∧ W ds Δ P ∧ ∀ v d A' H' Δ', Ext A H A' H' → Cells K C S A' H' Δ' → Rep K C S A' H' v d → P d Δ' → Q v H'
def zCall (W : ZRC) (dds : List D) (za : ZA) : ZE := fun Γ Δ P => za Γ Δ fun ds Δ1 => W (ds ++ dds) Δ1 P
variable {e : Expr} {es : List Expr} {za : ZA} {pos p : Pos} {x : Str} {k : Nat} {f : Addr} {fd : FuncData} {ps : List Str} {W : ZRC} {dvs : List V} {dds : List D} {ds : List Value}
theorem ref_call {K : PySem.W.Frag} {ta : TA} {E : XK} (ha : RefA K C ta za) (hdd : ∀ S A H, RepL K C S A H dvs dds) : RefE K C (tCall (SpZ K C W) dvs E ta) (zCall W dds za) := fun S A σ H Γ Δ P Q hs hc hz k =>
  ha S A σ H Γ Δ _ _ hs hc hz fun vs ds A1 H1 Δ1 e1 c1 r1 p => ⟨S, A1, Δ1, ds ++ dds, P, r1.append (hdd _ _ _), c1, p, fun v d A' H' Δ' e2 c2 r2 p2 => k v d A' H' Δ' (e1.trans e2) c2 r2 p2⟩
theorem ez_call (F : FnOk X.prog X.w X.K X.mg X.base CX0 k f fd ps (SpZ X.K C W)) (hr : Room k X.A) (hm : X.mg x = some (.ref f)) (hk : PySem.W.keepIn X.K (.ref f) = true) (hb : Binds X.K fd ps ds) (hd : Vals dvs ds) (hdd : ∀ S A H, RepL X.K C S A H dvs dds)
    (ha : AZ C X (e :: es) za) (hg : Gl X x := by rfl) (hdb : (x == ("__debug__" : Str)) = false := by decide) (he : starEach (e :: es) X.env = (false, eval e X.env) :: starEach es X.env := by rfl) (hpl : (backTo pos (starEach es X.env)).any (·.1) = false := by rfl) :
    EZ C X (.Call (.Name x p) (e :: es) [] pos) (zCall W dds za) := by
  obtain ⟨t, a1, a2⟩ := ha.ex
  exact ⟨_, pe_call F hr hg hm hk hb hd pass0 a1 hdb he hpl, ref_call a2 hdd⟩
/-- without defaults -/
theorem ez_calln (F : FnOk X.prog X.w X.K X.mg X.base CX0 k f fd ps (SpZ X.K C W)) (hr : Room k X.A) (hm : X.mg x = some (.ref f)) (hk : PySem.W.keepIn X.K (.ref f) = true) (hb : Binds X.K fd ps [])
    (ha : AZ C X (e :: es) za) (hg : Gl X x := by rfl) (hdb : (x == ("__debug__" : Str)) = false := by decide) (he : starEach (e :: es) X.env = (false, eval e X.env) :: starEach es X.env := by rfl) (hpl : (backTo pos (starEach es X.env)).any (·.1) = false := by rfl) :
    EZ C X (.Call (.Name x p) (e :: es) [] pos) (zCall W [] za) := ez_call F hr hm hk hb .nil (fun _ _ _ => .nil) ha hg hdb he hpl
/-- a def's body keeps its promise -/
def startZ (N : List Str) (ds : List D) : Env := ds.map some ++ List.replicate (N.length - ds.length) none
theorem slots_start {K : PySem.W.Frag} {S A : List Addr} {H : Hp} {N : List Str} {vs : List V} {ds : List D} (r : RepL K C S A H vs ds) : Slots K C S A H (L2.start N vs) (startZ N ds) := by
  refine ⟨?_, fun i d q => ?_⟩
  · unfold L2.start startZ
    rw [List.length_append, List.length_append, List.length_map, List.length_map, List.length_replicate, List.length_replicate, r.length]
  · unfold startZ at q
    unfold L2.start
    by_cases hi : i < ds.length
    · rw [List.getElem?_append_left (by rw [List.length_map]; exact hi), List.getElem?_map] at q
      cases e : ds[i]? with
      | none => rw [e] at q; cases q
      | some d' =>
        rw [e] at q
        cases q
        obtain ⟨v, h1, h2⟩ := r.get e
        exact ⟨v, by rw [List.getElem?_append_left (by rw [List.length_map, r.length]; exact hi), List.getElem?_map, h1] <;> rfl, h2⟩
    · rw [List.getElem?_append_right (by rw [List.length_map]; omega)] at q
      have := List.mem_of_getElem? q
      simp at this
theorem fnz_ok {P : Program} {w : World} {K : PySem.W.Frag} {mg : Str → Option Value} {base : Heap} {y qual : Str} {st : Stmt} {N : List Str} (F : Fun K y qual st f fd) (Sc : FnScope N ps (defScope st)) (len : ∀ ds Δ P, W ds Δ P → ds.length = ps.length)
    (body : ∀ (cdv : Value) (A : Around) (outer : List PySem.Env) (s : Shared) (H : Hp) (E : XK), Room k (A.deeper (PyProof.Rows.envOfC qual (defScope st) s.heap.objs.size f cdv)) →
      ∃ z : ZS, SZs C (cxOf CX0 P w K mg base N qual (defScope st) f cdv A outer s H E).nox (defBody st) z ∧ ∀ ds Δ P, W ds Δ P → z { nx := fun _ Δ' => P .non Δ', rt := P } (startZ N ds) Δ) : FnOk P w K mg base CX0 (k + 1) f fd ps (SpZ K C W) := by
  refine F.ok Sc (fun vs H Q E h => ?_) (fun cdv A outer s H vs Q E hr h => ?_)
  · obtain ⟨S, A, Δ, ds, P, r, _, hw, _⟩ := h
    rw [r.length]
    exact len ds Δ P hw
  · obtain ⟨S, A', Δ, ds, P', r, hc, hw, kk⟩ := h
    obtain ⟨z, hz, hzz⟩ := body cdv A outer s H E hr
    obtain ⟨ts, h1, h2⟩ := hz.ex
    refine ⟨ts, h1, h2 S A' _ H (startZ N ds) Δ { nx := fun _ Δ' => P' .non Δ', rt := P' } _ (slots_start r) hc (hzz ds Δ P' hw) ⟨?_, ?_, ?_, ?_⟩⟩
    · exact fun σ' A2 H2 Γ2 Δ2 e2 s2 c2 q => kk .non .non A2 H2 Δ2 e2 c2 .non q
    · exact fun σ' A2 H2 Γ2 Δ2 e2 s2 c2 q => q.elim
    · exact fun σ' A2 H2 Γ2 Δ2 e2 s2 c2 q => q.elim
    · exact fun v d A2 H2 Δ2 e2 c2 r2 q => kk v d A2 H2 Δ2 e2 c2 r2 q

/-! ### built-ins -/
structure CallZ (C : CI) (X : Cx) (fv : Value) (z : ZRC) : Prop where
  ex : ∃ r, CallR X fv r ∧ RefC X.K C r z
def zCB (z : ZRC) (za : ZA) : ZE := fun Γ Δ P => za Γ Δ fun ds Δ1 => z ds Δ1 P
theorem ref_cb {K : PySem.W.Frag} {r : List V → Hp → VK → Prop} {z : ZRC} {ta : TA} (hr : RefC K C r z) (ha : RefA K C ta za) : RefE K C (tCB r ta) (zCB z za) := fun S A σ H Γ Δ P Q hs hc hz k =>
  ha S A σ H Γ Δ _ _ hs hc hz fun vs ds A1 H1 Δ1 e1 c1 r1 p => hr S A1 H1 Δ1 vs ds P Q c1 r1 p fun v d A' H' Δ' e2 c2 r2 p2 => k v d A' H' Δ' (e1.trans e2) c2 r2 p2
theorem ez_callB {id : String} {z : ZRC} (hc : CallZ C X (.builtin id) z) (hm : X.mg x = none) (hv : bootBuiltins x = some (.builtin id)) (ha : AZ C X (e :: es) za) (hg : Gl X x := by rfl) (hn : x ≠ "__name__" := by decide) (hdb : (x == ("__debug__" : Str)) = false := by decide)
    (he : starEach (e :: es) X.env = (false, eval e X.env) :: starEach es X.env := by rfl) (hpl : (backTo pos (starEach es X.env)).any (·.1) = false := by rfl) : EZ C X (.Call (.Name x p) (e :: es) [] pos) (zCB z za) := by
  obtain ⟨r, c1, c2⟩ := hc.ex
  obtain ⟨t, a1, a2⟩ := ha.ex
  exact ⟨_, pe_callB c1 hg hm hv a1 hn hdb he hpl, ref_cb c2 a2⟩
theorem ez_callTy {T : String} {z : ZRC} (hc : CallZ C X (.type T) z) (hm : X.mg x = none) (hv : bootBuiltins x = some (.type T)) (ha : AZ C X (e :: es) za) (hg : Gl X x := by rfl) (hn : x ≠ "__name__" := by decide) (hdb : (x == ("__debug__" : Str)) = false := by decide)
    (he : starEach (e :: es) X.env = (false, eval e X.env) :: starEach es X.env := by rfl) (hpl : (backTo pos (starEach es X.env)).any (·.1) = false := by rfl) : EZ C X (.Call (.Name x p) (e :: es) [] pos) (zCB z za) := by
  obtain ⟨r, c1, c2⟩ := hc.ex
  obtain ⟨t, a1, a2⟩ := ha.ex
  exact ⟨_, pe_callTy c1 hg hm hv a1 hn hdb he hpl, ref_cb c2 a2⟩
/-- a module's name for a built-in (gcd) -/
theorem ez_callMod {id : String} {z : ZRC} (hc : CallZ C X (.builtin id) z) (hm : X.mg x = some (.builtin id)) (ha : AZ C X (e :: es) za) (hg : Gl X x := by rfl) (hdb : (x == ("__debug__" : Str)) = false := by decide)
    (he : starEach (e :: es) X.env = (false, eval e X.env) :: starEach es X.env := by rfl) (hpl : (backTo pos (starEach es X.env)).any (·.1) = false := by rfl) : EZ C X (.Call (.Name x p) (e :: es) [] pos) (zCB z za) := by
  obtain ⟨r, c1, c2⟩ := hc.ex
  obtain ⟨t, a1, a2⟩ := ha.ex
  exact ⟨_, pe_callBfun c1 hg hm a1 hdb he hpl, ref_cb c2 a2⟩
def zLen : ZRC := fun ds Δ P => ∃ d es, ds = [d] ∧ seqD Δ d = some es ∧ P (.int (es.length : Int)) Δ
theorem one_rep {K : PySem.W.Frag} {S A : List Addr} {H : Hp} {vs : List V} {d : D} (r : RepL K C S A H vs [d]) : ∃ v, vs = [v] ∧ Rep K C S A H v d := by
  cases r with
  | cons h r => cases r; exact ⟨_, rfl, h⟩
theorem two_rep {K : PySem.W.Frag} {S A : List Addr} {H : Hp} {vs : List V} {d d' : D} (r : RepL K C S A H vs [d, d']) : ∃ v v', vs = [v, v'] ∧ Rep K C S A H v d ∧ Rep K C S A H v' d' := by
  cases r with
  | cons h r => obtain ⟨v', rfl, h'⟩ := one_rep r; exact ⟨_, v', rfl, h, h'⟩
theorem cz_len : CallZ C X (.builtin "len") zLen := ⟨_, call_len_seq, fun S A H Δ xs ds P Q hc r hz k => by
  obtain ⟨d, es, rfl, hd, q⟩ := hz
  obtain ⟨v, rfl, rv⟩ := one_rep r
  obtain ⟨pa, ys, rfl, hq, rr⟩ := Rep.seq hc rv hd
  refine ⟨pa, ys, rfl, hq, k _ _ A H Δ (Ext.refl _ _) hc ?_ q⟩
  rw [rr.length]
  exact .int _⟩
def zSum : ZRC := fun ds Δ P => ∃ (d : D) (ns : List Int), ds = [d] ∧ lstD Δ d = some (ns.map D.int) ∧ P (.int ns.sum) Δ
theorem repL_int {K : PySem.W.Frag} {S A : List Addr} {H : Hp} : ∀ {ns : List Int} {vs : List V}, RepL K C S A H vs (ns.map D.int) → vs = ns.map V.int
  | [], _, r => by cases r; rfl
  | n :: ns, _, r => by
    rw [List.map_cons] at r
    cases r with
    | cons h r => cases h; rw [repL_int r] <;> rfl
theorem repL_bl {K : PySem.W.Frag} {S A : List Addr} {H : Hp} : ∀ {ns : List Bool} {vs : List V}, RepL K C S A H vs (ns.map D.bl) → vs = ns.map V.bl
  | [], _, r => by cases r; rfl
  | n :: ns, _, r => by
    rw [List.map_cons] at r
    cases r with
    | cons h r => cases h; rw [repL_bl r] <;> rfl
theorem cz_sum (hc : X.calm = true := by rfl) : CallZ C X (.builtin "sum") zSum := ⟨_, cr_sum hc, fun S A H Δ xs ds P Q hc r hz k => by
  obtain ⟨d, ns, rfl, hd, q⟩ := hz
  obtain ⟨v, rfl, rv⟩ := one_rep r
  obtain ⟨pa, ys, rfl, hq, rr⟩ := Rep.lst_ hc rv hd
  obtain rfl := repL_int rr
  exact ⟨pa, ns, rfl, SqL.of hq, k _ _ A H Δ (Ext.refl _ _) hc (.int _) q⟩⟩
def zAny : ZRC := fun ds Δ P => ∃ (d : D) (bs : List Bool), ds = [d] ∧ lstD Δ d = some (bs.map D.bl) ∧ P (.bl (bs.any id)) Δ
theorem cz_any (hc : X.calm = true := by rfl) : CallZ C X (.builtin "any") zAny := ⟨_, cr_any hc, fun S A H Δ xs ds P Q hc r hz k => by
  obtain ⟨d, ns, rfl, hd, q⟩ := hz
  obtain ⟨v, rfl, rv⟩ := one_rep r
  obtain ⟨pa, ys, rfl, hq, rr⟩ := Rep.lst_ hc rv hd
  obtain rfl := repL_bl rr
  exact ⟨pa, ns, rfl, SqL.of hq, k _ _ A H Δ (Ext.refl _ _) hc (.bl _) q⟩⟩
def zAll : ZRC := fun ds Δ P => ∃ (d : D) (bs : List Bool), ds = [d] ∧ lstD Δ d = some (bs.map D.bl) ∧ P (.bl (bs.all id)) Δ
theorem cz_all (hc : X.calm = true := by rfl) : CallZ C X (.builtin "all") zAll := ⟨_, cr_all hc, fun S A H Δ xs ds P Q hc r hz k => by
  obtain ⟨d, ns, rfl, hd, q⟩ := hz
  obtain ⟨v, rfl, rv⟩ := one_rep r
  obtain ⟨pa, ys, rfl, hq, rr⟩ := Rep.lst_ hc rv hd
  obtain rfl := repL_bl rr
  exact ⟨pa, ns, rfl, SqL.of hq, k _ _ A H Δ (Ext.refl _ _) hc (.bl _) q⟩⟩
def zAbs : ZRC := fun ds Δ P => ∃ i, ds = [.int i] ∧ P (.int (if i < 0 then -i else i)) Δ
theorem cz_abs : CallZ C X (.builtin "abs") zAbs := ⟨_, call_abs, fun S A H Δ xs ds P Q hc r hz k => by
  obtain ⟨i, rfl, q⟩ := hz
  obtain ⟨v, rfl, rv⟩ := one_rep r
  cases rv
  exact ⟨i, rfl, k _ _ A H Δ (Ext.refl _ _) hc (.int _) q⟩⟩
def zMax2 : ZRC := fun ds Δ P => ∃ i j, ds = [.int i, .int j] ∧ P (.int (if j > i then j else i)) Δ
theorem cz_max2 (hc : X.calm = true := by rfl) : CallZ C X (.builtin "max") zMax2 := ⟨_, call_max2 hc, fun S A H Δ xs ds P Q hc r hz k => by
  obtain ⟨i, j, rfl, q⟩ := hz
  obtain ⟨v, v', rfl, rv, rv'⟩ := two_rep r
  cases rv
  cases rv'
  exact ⟨i, j, rfl, k _ _ A H Δ (Ext.refl _ _) hc (.int _) q⟩⟩
def zMin2 : ZRC := fun ds Δ P => ∃ i j, ds = [.int i, .int j] ∧ P (.int (if j < i then j else i)) Δ
theorem cz_min2 (hc : X.calm = true := by rfl) : CallZ C X (.builtin "min") zMin2 := ⟨_, call_min2 hc, fun S A H Δ xs ds P Q hc r hz k => by
  obtain ⟨i, j, rfl, q⟩ := hz
  obtain ⟨v, v', rfl, rv, rv'⟩ := two_rep r
  cases rv
  cases rv'
  exact ⟨i, j, rfl, k _ _ A H Δ (Ext.refl _ _) hc (.int _) q⟩⟩
def zInt : ZRC := fun ds Δ P => (∃ i, ds = [.int i] ∧ P (.int i) Δ) ∨ ∃ b, ds = [.bl b] ∧ P (.int (if b then 1 else 0)) Δ
theorem cz_int : CallZ C X (.type "int") zInt := ⟨_, call_int1, fun S A H Δ xs ds P Q hc r hz k => by
  rcases hz with ⟨i, rfl, q⟩ | ⟨b, rfl, q⟩
  · obtain ⟨v, rfl, rv⟩ := one_rep r
    cases rv
    exact .inl ⟨i, rfl, k _ _ A H Δ (Ext.refl _ _) hc (.int _) q⟩
  · obtain ⟨v, rfl, rv⟩ := one_rep r
    cases rv
    exact .inr ⟨b, rfl, k _ _ A H Δ (Ext.refl _ _) hc (.int _) q⟩⟩
/-- list(xs): a new list; as a cell -/
def zList : ZRC := fun ds Δ P => ∃ d es, ds = [d] ∧ seqD Δ d = some es ∧ P (.lst es) Δ
def zListC : ZRC := fun ds Δ P => ∃ d es, ds = [d] ∧ seqD Δ d = some es ∧ P (.cell Δ.length) (Δ ++ [.lst es])
theorem cz_list : CallZ C X (.type "list") zList := ⟨_, call_list_of, fun S A H Δ xs ds P Q hc r hz k => by
  obtain ⟨d, es, rfl, hd, q⟩ := hz
  obtain ⟨v, rfl, rv⟩ := one_rep r
  obtain ⟨pa, ys, rfl, hq, rr⟩ := Rep.seq hc rv hd
  refine ⟨pa, ys, rfl, hq, fun l hl => ?_⟩
  exact k _ _ A _ Δ (Ext.new hl) (hc.new hl) (.lst upd_same (hc.fresh hl) (hc.aside hl) (rr.ext (Ext.new hl))) q⟩
theorem cz_listC : CallZ C X (.type "list") zListC := ⟨_, call_list_of, fun S A H Δ xs ds P Q hc r hz k => by
  obtain ⟨d, es, rfl, hd, q⟩ := hz
  obtain ⟨v, rfl, rv⟩ := one_rep r
  obtain ⟨pa, ys, rfl, hq, rr⟩ := Rep.seq hc rv hd
  refine ⟨pa, ys, rfl, hq, fun l hl => ?_⟩
  refine k _ _ (A ++ [l]) _ _ (Ext.newCell hl) (hc.newCell hl rr) (.cell ?_) q
  rw [← hc.len, List.getElem?_append_right (Nat.le_refl _), Nat.sub_self]
  rfl⟩
def zGcd : ZRC := fun ds Δ P => ∃ i j : Int, ds = [.int i, .int j] ∧ P (.int (Int.gcd i j : Nat)) Δ
theorem cz_gcd : CallZ C X (.builtin "math.gcd") zGcd := ⟨_, cr_gcd, fun S A H Δ xs ds P Q hc r hz k => by
  obtain ⟨i, j, rfl, q⟩ := hz
  obtain ⟨v, v', rfl, rv, rv'⟩ := two_rep r
  cases rv
  cases rv'
  exact ⟨i, j, rfl, k _ _ A H Δ (Ext.refl _ _) hc (.int _) q⟩⟩

/-! ### xs.append(e) -/
def zAppend (zo : ZE) (za : ZA) : ZE := fun Γ Δ P => zo Γ Δ fun o Δ1 => (∃ n ds, o = .cell n ∧ Δ1[n]? = some (.lst ds)) ∧ za Γ Δ1 fun as Δ2 => ∃ n ds y, o = .cell n ∧ Δ2[n]? = some (.lst ds) ∧ as = [y] ∧ ds.length < 100000 ∧ P .non (Δ2.set n (.lst (ds ++ [y])))
variable {o : Expr} {zo : ZE} {apos cpos : Pos}
theorem ez_append (ho : EZ C X o zo) (ha : AZ C X (e :: es) za)
    (hbase : attributeBase o "append" X.env (eval o X.env) = eval o X.env := by rfl)
    (hfew : ((backTo cpos (starEach (e :: es) X.env)).all (fun x => !x.1) && (backToKw cpos (keywordEach [] X.env)).all (fun x => x.1.isSome)
      && decide ((e :: es).length + ([] : List Keyword).length + (if ([] : List Keyword).isEmpty then 0 else 1) < 30)) = true := by rfl)
    (hline : (apos.endLine == cpos.line) = true := by rfl) (hs : starEach (e :: es) X.env = (false, eval e X.env) :: starEach es X.env := by rfl) (hplain : (backTo cpos (starEach es X.env)).any (·.1) = false := by rfl) :
    EZ C X (.Call (.Attribute o "append" apos) (e :: es) [] cpos) (zAppend zo za) := by
  obtain ⟨t, o1, o2⟩ := ho.ex
  obtain ⟨u, a1, a2⟩ := ha.ex
  refine ⟨_, pe_bm PySem.F.plainAttrs_list PySem.F.slot_list_append PySem.F.type_list_append mt_append o1 a1 hbase hfew hline hs hplain, fun S A σ H Γ Δ P Q hs hc hz k => o2 S A σ H Γ Δ _ _ hs hc hz fun v d A1 H1 Δ1 e1 c1 r1 p => ?_⟩
  obtain ⟨⟨n, ds, rfl, hd⟩, p⟩ := p
  cases r1 with
  | cell g =>
    obtain ⟨xs, g1, g2⟩ := c1.at_ n _ _ g hd
    refine ⟨.inl ⟨rfl, _, SqL.of g1⟩, a2 S A1 σ H1 Γ Δ1 _ _ (hs.ext e1) c1 p fun vs as A2 H2 Δ2 e2 c2 r2 p2 => ?_⟩
    obtain ⟨n', ds', y, hn, hd', rfl, hl, p2⟩ := p2
    cases hn
    obtain ⟨v, rfl, rv⟩ := one_rep r2
    rename_i pa
    have g' : A2[n]? = some pa := by
      obtain ⟨B, hB, _⟩ := e2.pre
      rw [hB, List.getElem?_append_left (List.getElem?_eq_some_iff.mp g).1]
      exact g
    obtain ⟨xs', g3, g4⟩ := c2.at_ n _ _ g' hd'
    have q := c2.put g' (g4.append (.cons rv .nil))
    exact ⟨_, xs', v, rfl, rfl, g3, lt_line (by rw [g4.length]; exact hl), k _ _ A2 _ _ ((e1.trans e2).trans q.2) q.1 .non p2⟩

/-! ### zip, enumerate -/
def ziZip (za : ZA) : ZI := fun Γ Δ P => za Γ Δ fun ds Δ1 => ∃ xs ys, ds = [.lst xs, .lst ys] ∧ P ((xs.zip ys).map fun q => .tup [q.1, q.2]) Δ1
theorem iz_zip {e e2 : Expr} {tpos : Pos} {elts : List Expr} {kk : Nat} (ha : AZ C X [e, e2] za) (hm : X.mg "zip" = none) (hg : Gl X "zip" := by rfl)
    (hs : starEach [e, e2] X.env = (false, eval e X.env) :: starEach [e2] X.env := by rfl) (hpl : (backTo pos (starEach [e2] X.env)).any (·.1) = false := by rfl) : IZ C X (.Tuple elts kk tpos) (.Call (.Name "zip" p) [e, e2] [] pos) (ziZip za) := by
  obtain ⟨t, a1, a2⟩ := ha.ex
  refine ⟨_, pi_zip hg hm a1 hs hpl, fun S A σ H Γ Δ P R hs hc hz k => a2 S A σ H Γ Δ _ _ hs hc hz fun vs ds A1 H1 Δ1 e1 c1 r1 q => ?_⟩
  obtain ⟨xs, ys, rfl, q⟩ := q
  obtain ⟨v, v', rfl, rv, rv'⟩ := two_rep r1
  cases rv with
  | lst g1 g2 g3 g4 =>
    cases rv' with
    | lst h1 h2 h3 h4 =>
      rename_i a us b ws
      refine ⟨a, b, us, ws, rfl, SqL.of g1, SqL.of h1, ?_⟩
      refine k (Itz X.K a b) (min us.length ws.length) _ _ _ A1 H1 Δ1 e1 c1 q (by rw [List.length_map, List.length_zip, g4.length, h4.length]) (walk_zip rfl) (fun S2 A2 H2 m => ⟨SqL.of (m.keep _ _ g2 g3 g1), SqL.of (m.keep _ _ h2 h3 h1)⟩) fun S2 A2 H2 Δ2 i x H3 hi m c2 y => ?_
      obtain ⟨T, y1, y2, rfl, nT, rfl, f1, f2⟩ := y
      obtain ⟨d1, q1, q2⟩ := (RepL.mono m _ g4).getV f1
      obtain ⟨d2, q3, q4⟩ := (RepL.mono m _ h4).getV f2
      refine ⟨.tup [d1, d2], ?_, fun b o h => by rw [upd_ne (ne_of_none h nT)]; exact h, .tup upd_same (c2.fresh nT) (c2.aside nT) (.cons (q2.ext (Ext.new nT)) (.cons (q4.ext (Ext.new nT)) .nil))⟩
      rw [List.getElem?_map, List.getElem?_zip_eq_some.mpr (show xs[i]? = some (d1, d2).1 ∧ ys[i]? = some (d1, d2).2 from ⟨q1, q3⟩)]
      rfl
def enumD (xs : List D) : List D := xs.zipIdx.map fun q => .tup [.int (q.2 : Nat), q.1]
def ziEnum (za : ZA) : ZI := fun Γ Δ P => za Γ Δ fun ds Δ1 => ∃ xs, ds = [.lst xs] ∧ P (enumD xs) Δ1
theorem iz_enum {e : Expr} {tpos : Pos} {elts : List Expr} {kk : Nat} (ha : AZ C X [e] za) (hm : X.mg "enumerate" = none) (hg : Gl X "enumerate" := by rfl) (hs : starEach [e] X.env = [(false, eval e X.env)] := by rfl) : IZ C X (.Tuple elts kk tpos) (.Call (.Name "enumerate" p) [e] [] pos) (ziEnum za) := by
  obtain ⟨t, a1, a2⟩ := ha.ex
  refine ⟨_, pi_enum hg hm a1 hs, fun S A σ H Γ Δ P R hs hc hz k => a2 S A σ H Γ Δ _ _ hs hc hz fun vs ds A1 H1 Δ1 e1 c1 r1 q => ?_⟩
  obtain ⟨xs, rfl, q⟩ := q
  obtain ⟨v, rfl, rv⟩ := one_rep r1
  cases rv with
  | lst g1 g2 g3 g4 =>
    rename_i a us
    refine ⟨a, us, rfl, SqL.of g1, ?_⟩
    refine k (Ite X.K a) us.length _ _ _ A1 H1 Δ1 e1 c1 q (by unfold enumD; rw [List.length_map, List.length_zipIdx, g4.length]) walk_enum (fun S2 A2 H2 m => SqL.of (m.keep _ _ g2 g3 g1)) fun S2 A2 H2 Δ2 i x H3 hi m c2 y => ?_
    obtain ⟨T, y1, y2, rfl, nT, rfl, f1, f2⟩ := y
    cases f1
    obtain ⟨d2, q3, q4⟩ := (RepL.mono m _ g4).getV f2
    refine ⟨.tup [.int (i : Nat), d2], ?_, fun b o h => by rw [upd_ne (ne_of_none h nT)]; exact h, .tup upd_same (c2.fresh nT) (c2.aside nT) (.cons (.int _) (.cons (q4.ext (Ext.new nT)) .nil))⟩
    unfold enumD
    rw [List.getElem?_map, List.getElem?_zipIdx, q3]
    simp
end
end Z

/-! Z5: own classes over data: attributes, properties, methods, calls of instances, making, ==; isinstance. -/
namespace Z
open PySem L2

/-! ### attributes -/
def fldD (C : CI) (Δ : Store) (c : Nat) (f : Str) : D → Option D
  | .ins c' ds => if c' = c then ((C.nms c).zip ds).lookup f else none
  | .cell n => match Δ[n]? with
    | some (.ins c' fs) => if c' = c then fs.lookup f else none
    | _ => none
  | _ => none
/-- an instance of the class c -/
def insD (Δ : Store) (c : Nat) (x : D) : Prop := (∃ ds, x = .ins c ds) ∨ ∃ n fs, x = .cell n ∧ Δ[n]? = some (.ins c fs)
section
variable {K : PySem.W.Frag} {C : CI} {S A : List Addr} {H : Hp} {Δ : Store}
theorem zip_lookup {f : Str} {d : D} : ∀ {ns : List Str} {xs : List V} {ds : List D}, RepL K C S A H xs ds → (ns.zip ds).lookup f = some d → ∃ v, (ns.zip xs).lookup f = some v ∧ Rep K C S A H v d
  | [], _, _, _, h => by simp at h
  | _ :: _, _, _, .nil, h => by simp at h
  | n :: ns, _, _, .cons h1 r, h => by
    rw [List.zip_cons_cons, List.lookup_cons] at h ⊢
    cases e : f == n with
    | true =>
      rw [e] at h
      cases h
      exact ⟨_, rfl, h1⟩
    | false =>
      rw [e] at h
      exact zip_lookup r h
theorem prs_lookup {f : Str} {d : D} : ∀ {xs : List (Str × V)} {fs : List (Str × D)}, xs.map (·.1) = fs.map (·.1) → RepL K C S A H (xs.map (·.2)) (fs.map (·.2)) → fs.lookup f = some d → ∃ v, xs.lookup f = some v ∧ Rep K C S A H v d
  | [], [], _, _, h => by simp at h
  | [], _ :: _, e, _, _ => by simp at e
  | _ :: _, [], e, _, _ => by simp at e
  | (n, x) :: xs, (m, y) :: fs, e, r, h => by
    rw [List.map_cons, List.map_cons] at e r
    obtain ⟨e1, e2⟩ := List.cons.inj e
    have e1 : n = m := e1
    subst e1
    cases r with
    | cons h1 r =>
      rw [List.lookup_cons] at h ⊢
      cases q : f == n with
      | true =>
        simp only [q] at h ⊢
        cases h
        exact ⟨_, rfl, h1⟩
      | false =>
        simp only [q] at h ⊢
        exact prs_lookup e2 r h
theorem Rep.fld {x : V} {d0 d : D} {c : Nat} {f : Str} (hc : Cells K C S A H Δ) (r : Rep K C S A H x d0) (h : fldD C Δ c f d0 = some d) :
    ∃ a dx fs v, x = .ref a ∧ H a = some (.ins (C.adr c) dx fs) ∧ fs.lookup f = some v ∧ Rep K C S A H v d := by
  cases r with
  | ins h1 h2 h3 h4 h5 =>
    rename_i a dx c' xs ds
    have h : (if c' = c then ((C.nms c).zip ds).lookup f else none) = some d := h
    by_cases e : c' = c
    · subst e
      rw [if_pos rfl] at h
      obtain ⟨v, g1, g2⟩ := zip_lookup h5 h
      exact ⟨_, _, _, v, rfl, h1, g1, g2⟩
    · rw [if_neg e] at h
      cases h
  | cell e =>
    rename_i a n
    unfold fldD at h
    cases q : Δ[n]? with
    | none => simp only [q] at h; cases h
    | some o =>
      cases o with
      | lst _ => simp only [q] at h; cases h
      | dct _ _ => simp only [q] at h; cases h
      | ins c' fs =>
        simp only [q] at h
        by_cases e2 : c' = c
        · subst e2
          rw [if_pos rfl] at h
          obtain ⟨dx, xs, g1, g2, g3⟩ := hc.at_ n a _ e q
          obtain ⟨v, g4, g5⟩ := prs_lookup g2 g3 h
          exact ⟨a, dx, xs, v, rfl, g1, g4, g5⟩
        · rw [if_neg e2] at h
          cases h
  | non => exact nomatch h
  | dct _ _ _ _ _ => exact nomatch h
  | ktup _ => exact nomatch h
  | bl b => exact nomatch h
  | int b => exact nomatch h
  | str b => exact nomatch h
  | ty b => exact nomatch h
  | tup _ _ _ _ => exact nomatch h
  | lst _ _ _ _ => exact nomatch h
  | scr _ => exact nomatch h
  | cls _ => exact nomatch h
theorem Rep.inst {x : V} {d0 : D} {c : Nat} (hc : Cells K C S A H Δ) (r : Rep K C S A H x d0) (h : insD Δ c d0) : ∃ a dx fs, x = .ref a ∧ H a = some (.ins (C.adr c) dx fs) := by
  rcases h with ⟨ds, rfl⟩ | ⟨n, fs, rfl, q⟩
  · cases r with
    | ins h1 h2 h3 h4 h5 => exact ⟨_, _, _, rfl, h1⟩
  · cases r with
    | cell e =>
      obtain ⟨dx, xs, g1, _⟩ := hc.at_ n _ _ e q
      exact ⟨_, _, _, rfl, g1⟩
end
def zFld (C : CI) (c : Nat) (f : Str) (z : ZE) : ZE := fun Γ Δ P => z Γ Δ fun x Δ1 => ∃ d, fldD C Δ1 c f x = some d ∧ P d Δ1
/-- a property: its getter's promise -/
def zProp (c : Nat) (W : ZRC) (z : ZE) : ZE := fun Γ Δ P => z Γ Δ fun x Δ1 => insD Δ1 c x ∧ W [x] Δ1 P
section
variable {C : CI} {X : Cx} {e : Expr} {es : List Expr} {ze : ZE} {za : ZA} {pos p : Pos} {x : Str} {k : Nat} {f g : Addr} {fd : FuncData} {ps : List Str} {W : ZRC} {dvs : List V} {dds : List D} {ds : List Value}
theorem ez_fld {c : Nat} {f : Str} (he : EZ C X e ze) (cl : Cls X.K (C.adr c)) (n : NoAttr X.K (C.adr c) f) (hb : attributeBase e f X.env (eval e X.env) = eval e X.env := by rfl) : EZ C X (.Attribute e f pos) (zFld C c f ze) := by
  obtain ⟨t, h1, h2⟩ := he.ex
  refine ⟨_, pe_fld h1 hb, fun S A σ H Γ Δ P Q hs hc hz k => h2 S A σ H Γ Δ _ _ hs hc hz fun v d A1 H1 Δ1 e1 c1 r1 p => ?_⟩
  obtain ⟨d2, hd, p⟩ := p
  obtain ⟨a, dx, fs, w, rfl, g1, g2, g3⟩ := r1.fld c1 hd
  exact ⟨a, _, dx, fs, w, rfl, g1, cl, n, g2, k w d2 A1 H1 Δ1 e1 c1 g3 p⟩
theorem ez_prop {c : Nat} {nm : Str} {pr : Addr} (he : EZ C X e ze) (cl : Cls X.K (C.adr c)) (hp : PropOf X.K (C.adr c) nm pr g) (F : FnOk X.prog X.w X.K X.mg X.base CX0 k g fd ps (SpZ X.K C W)) (hr : Room (k + 1) X.A) (hb : Binds X.K fd ps [])
    (hab : attributeBase e nm X.env (eval e X.env) = eval e X.env := by rfl) : EZ C X (.Attribute e nm pos) (zProp c W ze) := by
  obtain ⟨t, h1, h2⟩ := he.ex
  refine ⟨_, pe_prop h1 cl hp F hr hb .nil (E := E0) (fun _ _ _ _ _ _ _ h => h.elim) hab, fun S A σ H Γ Δ P Q hs hc hz k => h2 S A σ H Γ Δ _ _ hs hc hz fun v d A1 H1 Δ1 e1 c1 r1 p => ?_⟩
  obtain ⟨hi, p⟩ := p
  obtain ⟨a, dx, fs, rfl, g1⟩ := r1.inst c1 hi
  exact ⟨a, dx, fs, rfl, g1, S, A1, Δ1, [d], P, .cons r1 .nil, c1, p, fun v d A' H' Δ' e2 c2 r2 p2 => k v d A' H' Δ' (e1.trans e2) c2 r2 p2⟩
/-- x(e, ..), x an instance of the class c -/
def zCallO (c : Nat) (W : ZRC) (zf : ZE) (za : ZA) : ZE := fun Γ Δ P => zf Γ Δ fun y Δ1 => insD Δ1 c y ∧ za Γ Δ1 fun ds Δ2 => insD Δ2 c y ∧ W (y :: ds) Δ2 P
theorem ez_callO {c : Nat} {fe : Expr} {zf : ZE} (hf : EZ C X fe zf) (co : StX.CallO X.K (C.adr c) g) (F : FnOk X.prog X.w X.K X.mg X.base CX0 k g fd ps (SpZ X.K C W)) (hr : Room k X.A) (hb : Binds X.K fd ps []) (ha : AZ C X (e :: es) za)
    (ht : eval (.Call fe (e :: es) [] pos) X.env = (do callWith pos (← eval fe X.env) [] (backTo pos (starEach (e :: es) X.env)) (backToKw pos (keywordEach [] X.env))) := by rfl)
    (he : starEach (e :: es) X.env = (false, eval e X.env) :: starEach es X.env := by rfl) (hpl : (backTo pos (starEach es X.env)).any (·.1) = false := by rfl) : EZ C X (.Call fe (e :: es) [] pos) (zCallO c W zf za) := by
  obtain ⟨t, f1, f2⟩ := hf.ex
  obtain ⟨u, a1, a2⟩ := ha.ex
  have FR : FnR X.prog X.w X.K X.mg X.base CX0 k g (fun vs H Q E => SpZ X.K C W (vs ++ []) H Q E) := F.raw hb .nil
  refine ⟨_, StX.pe_callO f1 co FR hr (E := E0) pass0 a1 ht he hpl, fun S A σ H Γ Δ P Q hs hc hz k => f2 S A σ H Γ Δ _ _ hs hc hz fun v d A1 H1 Δ1 e1 c1 r1 p => ?_⟩
  obtain ⟨hi0, p⟩ := p
  have hv : ∃ a, v = .ref a := by
    obtain ⟨a, _, _, ea, _⟩ := r1.inst c1 hi0
    exact ⟨a, ea⟩
  obtain ⟨a, rfl⟩ := hv
  refine ⟨a, rfl, a2 S A1 σ H1 Γ Δ1 _ _ (hs.ext e1) c1 p fun vs ds A2 H2 Δ2 e2 c2 r2 p2 => ?_⟩
  obtain ⟨hi, p2⟩ := p2
  have r1' := r1.ext e2
  obtain ⟨a', dx, fs, ea, g1⟩ := r1'.inst c2 hi
  cases ea
  exact ⟨.inr ⟨dx, fs, g1⟩, S, A2, Δ2, d :: ds, P, by rw [List.append_nil]; exact .cons r1' r2, c2, p2, fun v d A' H' Δ' e3 c3 r3 p3 => k v d A' H' Δ' ((e1.trans e2).trans e3) c3 r3 p3⟩
end

/-! ### stores into attributes -/
def putFd (f : Str) (v : D) : List (Str × D) → List (Str × D)
  | [] => [(f, v)]
  | (g, x) :: r => if g = f then (g, v) :: r else (g, x) :: putFd f v r
def zSetF (c : Nat) (f : Str) (zo zv : ZE) : ZS := fun Z Γ Δ => zv Γ Δ fun y Δ1 => zo Γ Δ1 fun o Δ2 => ∃ n fs, o = .cell n ∧ Δ2[n]? = some (.ins c fs) ∧ fs.length < 1000 ∧ Z.nx Γ (Δ2.set n (.ins c (putFd f y fs)))
section
variable {K : PySem.W.Frag} {C : CI} {S A : List Addr} {H : Hp} {Δ : Store}
theorem putF_rep {f : Str} {v : V} {d : D} (r : Rep K C S A H v d) : ∀ {xs : List (Str × V)} {fs : List (Str × D)}, xs.map (·.1) = fs.map (·.1) → RepL K C S A H (xs.map (·.2)) (fs.map (·.2)) →
    (putF f v xs).map (·.1) = (putFd f d fs).map (·.1) ∧ RepL K C S A H ((putF f v xs).map (·.2)) ((putFd f d fs).map (·.2))
  | [], [], _, _ => ⟨rfl, .cons r .nil⟩
  | [], _ :: _, e, _ => by simp at e
  | _ :: _, [], e, _ => by simp at e
  | (n, x) :: xs, (m, y) :: fs, e, rr => by
    rw [List.map_cons, List.map_cons] at e rr
    obtain ⟨e1, e2⟩ := List.cons.inj e
    have e1 : n = m := e1
    subst e1
    cases rr with
    | cons h1 rr =>
      unfold putF putFd
      by_cases q : n = f
      · rw [if_pos q, if_pos q]
        exact ⟨by rw [List.map_cons, List.map_cons, e2], .cons r rr⟩
      · rw [if_neg q, if_neg q]
        obtain ⟨g1, g2⟩ := putF_rep r e2 rr
        exact ⟨by rw [List.map_cons, List.map_cons, g1], .cons h1 g2⟩
end
section
variable {C : CI} {X : Cx} {o value : Expr} {zo zv : ZE} {pos pos' : Pos} {f : Str}
theorem sz_setF {c : Nat} (ho : EZ C X o zo) (hv : EZ C X value zv) (cl : Cls X.K (C.adr c)) (n : NoAttr X.K (C.adr c) f) (hs : swapsWith value (some (.Attribute o f pos')) pos.line X.env = pure false := by rfl) : SZ C X (.Assign [.Attribute o f pos'] value pos) (zSetF c f zo zv) := by
  obtain ⟨t, o1, o2⟩ := ho.ex
  obtain ⟨u, v1, v2⟩ := hv.ex
  refine ⟨_, ps_fld o1 v1 hs, fun S A σ H Γ Δ Z N hs hc hz k => v2 S A σ H Γ Δ _ _ hs hc hz fun y dy A1 H1 Δ1 e1 c1 r1 p => o2 S A1 σ H1 Γ Δ1 _ _ (hs.ext e1) c1 p fun w dw A2 H2 Δ2 e2 c2 r2 p => ?_⟩
  obtain ⟨m, fs, rfl, hm, hl, p⟩ := p
  cases r2 with
  | cell g =>
    rename_i a
    obtain ⟨dx, xs, g1, g2, g3⟩ := c2.at_ m a _ g hm
    have hlen : xs.length = fs.length := by have := congrArg List.length g2; rw [List.length_map, List.length_map] at this; exact this
    have hp : a ∈ A2 := List.mem_of_getElem? g
    have ew : Ext A2 H2 A2 (upd H2 a (.ins (C.adr c) dx (putF f y xs))) := Ext.write hp (by rw [g1]; simp)
    obtain ⟨q1, q2⟩ := putF_rep (f := f) (r1.ext e2) g2 g3
    have q := c2.putO (u := .ins (C.adr c) dx (putF f y xs)) (o := .ins c (putFd f dy fs)) g ⟨dx, _, upd_same, q1, q2.ext ew⟩
    exact ⟨a, C.adr c, dx, xs, rfl, g1, cl, n, by rw [hlen]; exact hl, k.nx σ A2 _ Γ _ ((e1.trans e2).trans q.2) ((hs.ext (e1.trans e2)).ext q.2) q.1 p⟩
end

/-! ### an instance is made and never changed again -/
mutual
def below (m : Nat) : D → Bool
  | .cell n => decide (n < m)
  | .tup ds | .lst ds | .ins _ ds | .dct _ ds => belowL m ds
  | _ => true
def belowL (m : Nat) : List D → Bool
  | [] => true
  | d :: ds => below m d && belowL m ds
end
section
variable {K : PySem.W.Frag} {C : CI} {S A : List Addr} {H : Hp} {Δ : Store} {x : Addr}
theorem notMem_left {a : Addr} (h : a ∉ A ++ [x]) : a ∉ A := fun q => h (List.mem_append_left _ q)
mutual
theorem Rep.drop : ∀ (d : D) {v : V}, below A.length d = true → Rep K C S (A ++ [x]) H v d → Rep K C S A H v d
  | .non, _, _, h => by cases h; exact .non
  | .bl b, _, _, h => by cases h; exact .bl b
  | .int i, _, _, h => by cases h; exact .int i
  | .str x, _, _, h => by cases h; exact .str x
  | .ty n, _, _, h => by cases h; exact .ty n
  | .cls c, _, _, h => by cases h; exact .cls c
  | .ktup ns, _, _, h => by cases h with | ktup h => exact .ktup h
  | .tup ds, _, hb, h => by cases h with | tup h hA hS r => exact .tup h (notMem_left hA) hS (RepL.drop_ ds hb r)
  | .lst ds, _, hb, h => by cases h with | lst h hA hS r => exact .lst h (notMem_left hA) hS (RepL.drop_ ds hb r)
  | .ins c ds, _, hb, h => by cases h with | ins h hA hS hl r => exact .ins h (notMem_left hA) hS hl (RepL.drop_ ds hb r)
  | .dct ks ds, _, hb, h => by cases h with | dct h hA hS hl r => exact .dct h (notMem_left hA) hS hl (RepL.drop_ ds hb r)
  | .cell n, _, hb, h => by
    cases h with
    | cell h =>
      have hn : n < A.length := of_decide_eq_true hb
      rw [List.getElem?_append_left hn] at h
      exact .cell h
  | .scr ns, _, _, h => by
    cases h with
    | scr h =>
      rcases h with ⟨h, hA, hS⟩ | h
      · exact .scr (.inl ⟨h, notMem_left hA, hS⟩)
      · exact .scr (.inr h)
theorem RepL.drop_ : ∀ (ds : List D) {vs : List V}, belowL A.length ds = true → RepL K C S (A ++ [x]) H vs ds → RepL K C S A H vs ds
  | [], _, _, h => by cases h; exact .nil
  | d :: ds, _, hb, h => by
    have hb' : (below A.length d && belowL A.length ds) = true := hb
    rw [Bool.and_eq_true] at hb'
    cases h with
    | cons h r => exact .cons (Rep.drop d hb'.1 h) (RepL.drop_ ds hb'.2 r)
end
mutual
theorem Rep.blw : ∀ (d : D) {v : V}, Rep K C S A H v d → below A.length d = true
  | .non, _, h => rfl
  | .bl b, _, h => rfl
  | .int i, _, h => rfl
  | .str x, _, h => rfl
  | .ty n, _, h => rfl
  | .cls c, _, h => rfl
  | .tup ds, _, h => by cases h with | tup h hA hS r => exact RepL.blw ds r
  | .lst ds, _, h => by cases h with | lst h hA hS r => exact RepL.blw ds r
  | .ins c ds, _, h => by cases h with | ins h hA hS hl r => exact RepL.blw ds r
  | .dct ks ds, _, h => by cases h with | dct h hA hS hl r => exact RepL.blw ds r
  | .cell n, _, h => by cases h with | cell h => exact decide_eq_true (List.getElem?_eq_some_iff.mp h).1
  | .ktup ns, _, h => rfl
  | .scr ns, _, h => rfl
theorem RepL.blw : ∀ (ds : List D) {vs : List V}, RepL K C S A H vs ds → belowL A.length ds = true
  | [], _, _ => rfl
  | d :: ds, _, h => by
    cases h with
    | cons h r =>
      show (Z.below A.length d && belowL A.length ds) = true
      rw [Rep.blw d h, RepL.blw ds r]
      rfl
end
theorem zip_of : ∀ {ns : List Str} {xs : List (Str × V)}, xs.map (·.1) = ns → xs = ns.zip (xs.map (·.2))
  | [], [], _ => rfl
  | [], _ :: _, e => by simp at e
  | _ :: _, [], e => by simp at e
  | n :: ns, (m, x) :: xs, e => by
    obtain ⟨e1, e2⟩ := List.cons.inj e
    have e1 : m = n := e1
    subst e1
    rw [List.map_cons, List.zip_cons_cons, ← zip_of e2]
theorem zip_fst : ∀ {ns : List Str} {es : List D}, es.length = ns.length → (ns.zip es).map (·.1) = ns
  | [], [], _ => rfl
  | [], _ :: _, e => by simp at e
  | _ :: _, [], e => by simp at e
  | n :: ns, d :: es, e => by
    rw [List.zip_cons_cons, List.map_cons, zip_fst (by simpa using e)]
theorem zip_snd : ∀ {ns : List Str} {es : List D}, es.length = ns.length → (ns.zip es).map (·.2) = es
  | [], [], _ => rfl
  | [], _ :: _, e => by simp at e
  | _ :: _, [], e => by simp at e
  | n :: ns, d :: es, e => by
    rw [List.zip_cons_cons, List.map_cons, zip_snd (by simpa using e)]
/-- the last cell forgotten: an instance that stays as it is -/
theorem Cells.freeze {H0 : Hp} {c : Nat} {es : List D} (c1 : Cells K C S A H0 Δ) (hc : Cells K C S (A ++ [x]) H (Δ ++ [.ins c ((C.nms c).zip es)])) (hl : es.length = (C.nms c).length) (hb : belowL A.length es = true) : Cells K C S A H Δ ∧ Rep K C S A H (.ref x) (.ins c es) := by
  have lenΔ := c1.len
  refine ⟨⟨c1.len, c1.nd, c1.dj, hc.as, fun n a o h1 h2 => ?_⟩, ?_⟩
  · have hn : n < A.length := (List.getElem?_eq_some_iff.mp h1).1
    have q := hc.at_ n a o (by rw [List.getElem?_append_left hn]; exact h1) (by rw [List.getElem?_append_left (by rw [← lenΔ]; exact hn)]; exact h2)
    have q0 := c1.at_ n a o h1 h2
    cases o with
    | lst ds =>
      obtain ⟨xs, g1, g2⟩ := q
      obtain ⟨_, _, g3⟩ := q0
      exact ⟨xs, g1, RepL.drop_ ds (RepL.blw ds g3) g2⟩
    | ins c fs =>
      obtain ⟨dx, xs, g1, g2, g3⟩ := q
      obtain ⟨_, _, _, _, g4⟩ := q0
      exact ⟨dx, xs, g1, g2, RepL.drop_ _ (RepL.blw _ g4) g3⟩
    | dct ks ds =>
      obtain ⟨xs, g1, g2, g3⟩ := q
      obtain ⟨_, _, _, g4⟩ := q0
      exact ⟨xs, g1, g2, RepL.drop_ _ (RepL.blw _ g4) g3⟩
  · have q := hc.at_ A.length x (.ins c ((C.nms c).zip es)) (by rw [List.getElem?_append_right (Nat.le_refl _), Nat.sub_self] <;> rfl) (by rw [lenΔ, List.getElem?_append_right (Nat.le_refl _), Nat.sub_self] <;> rfl)
    obtain ⟨dx, xs, g1, g2, g3⟩ := q
    rw [zip_fst hl] at g2
    rw [zip_snd hl] at g3
    have hx : x ∉ A := fun h => by
      have := List.nodup_append.mp hc.nd
      exact this.2.2 x h x (by simp) rfl
    have hxS : x ∉ S := hc.dj x (by simp)
    rw [zip_of g2] at g1
    exact .ins g1 hx hxS (by rw [g3.length]; exact hl) (RepL.drop_ es hb g3)
end
/-- C(..), never changed again: what __init__ makes of a new cell, as data -/
def zMakeF (C : CI) (c : Nat) (W : ZRC) (dds : List D) (za : ZA) : ZE := fun Γ Δ P => za Γ Δ fun ds Δ1 => W (.cell Δ1.length :: (ds ++ dds)) (Δ1 ++ [.ins c []]) fun v Δ2 => v = .non ∧ ∃ es, Δ2 = Δ1 ++ [.ins c ((C.nms c).zip es)] ∧ es.length = (C.nms c).length ∧ belowL Δ1.length es = true ∧ P (.ins c es) Δ1
section
variable {C : CI} {X : Cx} {e : Expr} {es : List Expr} {za : ZA} {pos p : Pos} {x : Str} {k : Nat} {f : Addr} {fd : FuncData} {ps : List Str} {W : ZRC} {dvs : List V} {dds : List D} {ds : List Value}
theorem ref_make {K : PySem.W.Frag} {c : Nat} {ta : TA} {E : XK} (ha : RefA K C ta za) (hdd : ∀ S A H, RepL K C S A H dvs dds) : RefE K C (tMake (C.adr c) (SpZ K C W) dvs E ta) (zMakeF C c W dds za) := fun S A σ H Γ Δ P Q hs hc hz k =>
  ha S A σ H Γ Δ _ _ hs hc hz fun vs ds A1 H1 Δ1 e1 c1 r1 p x dx hx hdx hne => by
    have hx0 : upd H1 dx (.own x) x = none := by rw [upd_ne (Ne.symm hne)]; exact hx
    have e2 : Ext A1 H1 A1 (upd H1 dx (.own x)) := Ext.new hdx
    have e3 : Ext A1 (upd H1 dx (.own x)) (A1 ++ [x]) (upd (upd H1 dx (.own x)) x (.ins (C.adr c) dx [])) := Ext.newCell hx0
    have e23 := e2.trans e3
    refine ⟨S, A1 ++ [x], Δ1 ++ [.ins c []], .cell Δ1.length :: (ds ++ dds), _, .cons (.cell ?_) ((r1.ext e23).append (hdd _ _ _)), (c1.new hdx).newO (o := .ins c []) hx0 ⟨dx, [], upd_same, rfl, .nil⟩, p, fun v d A' H' Δ' e4 c4 r4 p4 => ?_⟩
    · rw [← c1.len, List.getElem?_append_right (Nat.le_refl _), Nat.sub_self] <;> rfl
    · obtain ⟨rfl, es, rfl, hl, hb, p4⟩ := p4
      cases r4
      refine ⟨rfl, ?_⟩
      have hA' : A' = A1 ++ [x] := by
        obtain ⟨B, hB, _⟩ := e4.pre
        have hlen := c4.len
        rw [hB, List.length_append, List.length_append, List.length_append, c1.len] at hlen
        have hB0 : B.length = 0 := by
          have h1 : ([x] : List Addr).length = 1 := rfl
          have h2 : ([O.ins c ((C.nms c).zip es)] : List O).length = 1 := rfl
          omega
        rw [List.length_eq_zero_iff.mp hB0, List.append_nil] at hB
        exact hB
      subst hA'
      obtain ⟨c5, r5⟩ := c1.freeze c4 hl (by rw [c1.len]; exact hb)
      have e14 := e23.trans e4
      refine k _ _ A1 H' Δ1 (e1.trans ⟨⟨[], by simp, by simp⟩, fun a o h1 h2 => e14.keep a o h1 h2, e14.trk⟩) c5 r5 p4
theorem ez_makeF {c : Nat} (M : Mk X.K (C.adr c) f) (F : FnOk X.prog X.w X.K X.mg X.base CX0 k f fd ps (SpZ X.K C W)) (hr : Room (k + 1) X.A) (hm : X.mg x = some (.ref (C.adr c))) (hb : Binds X.K fd ps ds) (hd : Vals dvs ds) (hdd : ∀ S A H, RepL X.K C S A H dvs dds)
    (ha : AZ C X (e :: es) za) (hg : Gl X x := by rfl) (hdb : (x == ("__debug__" : Str)) = false := by decide) (he : starEach (e :: es) X.env = (false, eval e X.env) :: starEach es X.env := by rfl) (hpl : (backTo pos (starEach es X.env)).any (·.1) = false := by rfl) :
    EZ C X (.Call (.Name x p) (e :: es) [] pos) (zMakeF C c W dds za) := by
  obtain ⟨t, a1, a2⟩ := ha.ex
  exact ⟨_, pe_make M F hr hg hm hb hd (E := E0) pass0 a1 hdb he hpl, ref_make a2 hdd⟩
end

/-! ### isinstance -/
def tyD (C : CI) (Δ : Store) : D → Option Value
  | .non => some (.type "NoneType")
  | .bl _ => some (.type "bool")
  | .int _ => some (.type "int")
  | .str _ => some (.type "str")
  | .tup _ => some (.type "tuple")
  | .lst _ => some (.type "list")
  | .ins c _ => some (.ref (C.adr c))
  | .cell n => match Δ[n]? with
    | some (.lst _) => some (.type "list")
    | some (.ins c _) => some (.ref (C.adr c))
    | _ => none
  | _ => none
def clsD (C : CI) : D → Option Value
  | .ty n => some (.type n)
  | .cls c => some (.ref (C.adr c))
  | _ => none
/-- what the written part says of a class whose instances are asked for their class -/
structure Isi (K : PySem.W.Frag) (Ca : Addr) : Prop where
  cl : Cls K Ca
  ha : PySem.W.findIn K (.ref Ca) "__class__" = some (some (.builtin "object.__class__"))
  hn : PySem.W.specialIn K (.builtin "object.__class__") "__get__" = some (some (.builtin "getset_descriptor.__get__"))
  htk : PySem.W.takesIn K (.builtin "object.__class__") = some true
  hm : PySem.W.mroIn K Ca (.type "object") = some true
def zIsi (K : PySem.W.Frag) (C : CI) : ZRC := fun ds Δ P => ∃ x y t u b, ds = [x, y] ∧ tyD C Δ x = some t ∧ clsD C y = some u ∧ (∀ Ca, t = .ref Ca → Isi K Ca) ∧ PySem.W.kitOne K t u = some b ∧ P (.bl b) Δ
section
variable {C : CI} {X : Cx}
theorem Rep.tyX {K : PySem.W.Frag} {S A : List Addr} {H : Hp} {Δ : Store} {v : V} {d : D} {t : Value} (hc : Cells K C S A H Δ) (r : Rep K C S A H v d) (h : tyD C Δ d = some t) (hI : ∀ Ca, t = .ref Ca → Isi K Ca) : TyX K H v t := by
  cases r with
  | non => cases h; exact .base .non
  | bl b => cases h; exact .base (.bl b)
  | int b => cases h; exact .base (.int b)
  | str b => cases h; exact .base (.str b)
  | tup h1 _ _ _ => cases h; exact .base (.tup h1)
  | lst h1 _ _ _ => cases h; exact .base (.lst h1)
  | ins h1 _ _ _ _ =>
    cases h
    have q := hI _ rfl
    exact .base (.ins h1 q.cl q.ha q.hn q.htk q.hm)
  | cell e =>
    rename_i a n
    unfold tyD at h
    cases q : Δ[n]? with
    | none => simp only [q] at h; cases h
    | some o =>
      cases o with
      | lst ds =>
        simp only [q] at h
        cases h
        obtain ⟨xs, h1, h2⟩ := hc.at_ n a _ e q
        exact .base (.lst h1)
      | ins c fs =>
        simp only [q] at h
        cases h
        obtain ⟨dx, xs, h1, h2⟩ := hc.at_ n a _ e q
        have q := hI _ rfl
        exact .base (.ins h1 q.cl q.ha q.hn q.htk q.hm)
      | dct _ _ => simp only [q] at h; cases h
  | ty n => exact nomatch h
  | scr _ => exact nomatch h
  | cls _ => exact nomatch h
  | dct _ _ _ _ _ => exact nomatch h
  | ktup _ => exact nomatch h
theorem Rep.clsV {K : PySem.W.Frag} {S A : List Addr} {H : Hp} {v : V} {d : D} {u : Value} (r : Rep K C S A H v d) (h : clsD C d = some u) : ClsV v u := by
  cases r with
  | ty n => cases h; exact .ty n
  | cls c => cases h; exact .own _
  | non => exact nomatch h
  | dct _ _ _ _ _ => exact nomatch h
  | ktup _ => exact nomatch h
  | bl b => exact nomatch h
  | int b => exact nomatch h
  | str b => exact nomatch h
  | tup _ _ _ _ => exact nomatch h
  | lst _ _ _ _ => exact nomatch h
  | ins _ _ _ _ _ => exact nomatch h
  | cell _ => exact nomatch h
  | scr _ => exact nomatch h
theorem cz_isi : CallZ C X (.builtin "isinstance") (zIsi X.K C) := ⟨_, call_isi, fun S A H Δ xs ds P Q hc r hz k => by
  obtain ⟨x, y, t, u, b, rfl, h1, h2, h3, h4, q⟩ := hz
  obtain ⟨v, v', rfl, rv, rv'⟩ := two_rep r
  exact ⟨v, v', t, u, b, rfl, rv'.clsV h2, rv.tyX hc h1 h3, h4, k _ _ A H Δ (Ext.refl _ _) hc (.bl _) q⟩⟩
theorem ez_cls {c : Nat} {x : Str} {pos : Pos} (hm : X.mg x = some (.ref (C.adr c))) (hg : Gl X x := by rfl) (hd : (x == ("__debug__" : Str)) = false := by decide) : EZ C X (.Name x pos) (zC (.cls c)) :=
  ⟨_, pe_glob (v := .ref (C.adr c)) hg hm rfl hd, ref_c fun _ _ _ => .cls c⟩
end
end Z

/-! Z6: defs that are entered with no guard around (repr asks it), repr of data, the law's call. -/
namespace Z
open PySem PySem.Spec PyProof.Rows L2

/-- a promise that is kept where no repr is under way -/
structure FnG (P : Program) (w : World) (K : PySem.W.Frag) (mg : Str → Option Value) (base : Heap) (k : Nat) (f : Addr) (fd : FuncData) (ps : List Str) (sp : Sp) : Prop where
  arity : ∀ ws hp q x, sp ws hp q x → ws.length = ps.length
  go : ∀ (B : Around) (fr : List PySem.Env) (st : Shared) (hp : Hp) (ar : Args) (us : List Value) (ws : List V) (q : VK) (x : XK), B.guards = some [] → Room k B → Env0 P w K mg base B fr st hp → BindsTo st fd ar (ps.zip us) → Vals ws us → sp ws hp q x →
    codeAny (model P w) B (.call (.ref f) ar) (CR CX0 fr P w hp st q x) st
section
variable {P : Program} {w : World} {K : PySem.W.Frag} {mg : Str → Option Value} {base : Heap} {k : Nat} {f : Addr} {fd : FuncData} {ps : List Str} {sp : Sp}
theorem fng_of (F : FnOk P w K mg base CX0 k f fd ps sp) : FnG P w K mg base k f fd ps sp := ⟨F.len, fun B fr st hp ar us ws q x _ => F.run B fr st hp ar us ws q x⟩
/-- a def's body, entered with no guard around -/
theorem fng_ok {y qual : Str} {sm : Stmt} {N : List Str} {W : ZRC} {C : CI} (F : Fun K y qual sm f fd) (Sc : FnScope N ps (defScope sm)) (len : ∀ ds Δ P, W ds Δ P → ds.length = ps.length)
    (body : ∀ (cdv : Value) (B : Around) (fr : List PySem.Env) (st : Shared) (hp : Hp) (x : XK), (cxOf CX0 P w K mg base N qual (defScope sm) f cdv B fr st hp x).nox.A.guards = some [] → Room k (B.deeper (PyProof.Rows.envOfC qual (defScope sm) st.heap.objs.size f cdv)) →
      ∃ z : ZS, SZs C (cxOf CX0 P w K mg base N qual (defScope sm) f cdv B fr st hp x).nox (defBody sm) z ∧ ∀ ds Δ P, W ds Δ P → z { nx := fun _ Δ' => P .non Δ', rt := P } (startZ N ds) Δ) : FnG P w K mg base (k + 1) f fd ps (SpZ K C W) := by
  have lenV : ∀ ws hp q x, SpZ K C W ws hp q x → ws.length = ps.length := fun ws hp q x h => by
    obtain ⟨S, A, Δ, ds, P, r, _, hw, _⟩ := h
    rw [r.length]
    exact len ds Δ P hw
  obtain ⟨oc, od, kV, doc, pm, an, cdv, ct, osl, rfl, lk, hcd⟩ := F.ex
  refine ⟨lenV, fun B fr st hp ar us ws q x hg hr e0 hb r hsp => ?_⟩
  have there := fun b o e => (e0.bs b o e).1
  have KX := e0.mod.kin.keeps there
  have locals_ : ∀ z ∈ ps.zip us, (defScope sm).names.lookup z.1 = some .local ∨ ((defScope sm).names.lookup z.1 = some .cell ∧ ((cellsFrom (st.heap.objs.size + 1) (defScope sm).names []).lookup z.1).isSome = true) := fun z hz => by
    obtain ⟨n, v⟩ := z
    exact (Sc.par n (List.of_mem_zip hz).1).elim Or.inl fun c => .inr ⟨c, PySem.W.cellsFrom_some _ _ _ (.inl c)⟩
  refine codeAny_call_function hr.depth (KX _ _ lk) rfl Sc.co Sc.gen rfl (PySem.W.codeRec_of KX hcd) (hb _ _ _ _ ?_)
  refine wpAny_newFunctionEnv_cells Sc.kind locals_ fun nv enr s1 inC => ?_
  subst enr
  refine ⟨(e0.mod.nolimit.keeps there).keeps inC.toInCall.keep, codeAny_func ?_⟩
  obtain ⟨z, hz, hzz⟩ := body cdv B fr st hp x hg (hr.deeper _)
  obtain ⟨ts, h1, h2⟩ := hz.ex
  obtain ⟨S, A', Δ, ds, P', rl, hc, hw, kk⟩ := hsp
  have I : Inv (cxOf CX0 P w K mg base N qual (defScope sm) f cdv B fr st hp x) [] (L2.start N ws) hp s1 := inv_start Sc hr.hd e0 (lenV ws hp q x ⟨S, A', Δ, ds, P', rl, hc, hw, kk⟩) r inC
  have rd : ts { nx := fun _ H' => q .non H', rt := q } (L2.start N ws) hp := h2 S A' _ hp (startZ N ds) Δ { nx := fun _ Δ' => P' .non Δ', rt := P' } _ (slots_start rl) hc (hzz ds Δ P' hw)
    ⟨fun σ' A2 H2 Γ2 Δ2 e2 s2 c2 y => kk .non .non A2 H2 Δ2 e2 c2 .non y, fun σ' A2 H2 Γ2 Δ2 e2 s2 c2 y => y.elim, fun σ' A2 H2 Γ2 Δ2 e2 s2 c2 y => y.elim, fun v d A2 H2 Δ2 e2 c2 r2 y => kk v d A2 H2 Δ2 e2 c2 r2 y⟩
  refine wpAny_mono (h1.nox.run [] s1 _ hp _ I rd) (fun fl s' hs => ?_) fun _ _ y => y
  cases fl with
  | ret u =>
    obtain ⟨v, σ', H', J, rv, y⟩ := hs
    exact ⟨v, H', J.os, J.bare, J.base, J.hok, rv, y⟩
  | next =>
    obtain ⟨σ', H', J, y⟩ := hs
    exact ⟨V.non, H', J.os, J.bare, J.base, J.hok, rfl, y⟩
  | brk =>
    obtain ⟨_, _, _, y⟩ := hs
    exact False.elim y
  | cont =>
    obtain ⟨_, _, _, y⟩ := hs
    exact False.elim y
end
section
variable {C : CI} {X : Cx} {e : Expr} {es : List Expr} {za : ZA} {pos p : Pos} {x : Str} {k : Nat} {f : Addr} {fd : FuncData} {ps : List Str} {W : ZRC}
theorem ez_callG (F : FnG X.prog X.w X.K X.mg X.base k f fd ps (SpZ X.K C W)) (gd : X.A.guards = some []) (hr : Room k X.A) (hm : X.mg x = some (.ref f)) (hk : PySem.W.keepIn X.K (.ref f) = true) (hb : Binds X.K fd ps [])
    (ha : AZ C X (e :: es) za) (hg : Gl X x := by rfl) (hdb : (x == ("__debug__" : Str)) = false := by decide) (he : starEach (e :: es) X.env = (false, eval e X.env) :: starEach es X.env := by rfl) (hpl : (backTo pos (starEach es X.env)).any (·.1) = false := by rfl) :
    EZ C X (.Call (.Name x p) (e :: es) [] pos) (zCall W [] za) := by
  obtain ⟨t, a1, a2⟩ := ha.ex
  refine ⟨tCall (SpZ X.K C W) [] E0 t, ⟨fun pins s σ H Q I h => ?_⟩, ref_call a2 fun _ _ _ => .nil⟩
  refine wpAny_Call_Name_kw (ld_glob I hg hm ?_ hdb)
  refine PySem.W.callWith_K (h₀ := X.base) I.ok.mod.kin hk (thn (a1.run pos pins s σ H _ I h) fun us s1 got => ?_) he hpl
  obtain ⟨vs, H1, I1, r, q⟩ := got
  rw [List.append_nil] at q
  refine ⟨I1.kIn, ?_⟩
  have hl : us.length = ps.length := by rw [← r.length]; exact F.arity _ _ _ _ q
  have bd : BindsTo s1 fd ⟨us, []⟩ (ps.zip us) := by
    have b := hb s1 us I1.kIn (by rw [List.append_nil]; exact hl)
    rw [List.append_nil] at b
    exact b
  refine wpAny_call (codeAny_mono (F.go X.A X.stack s1 H1 ⟨us, []⟩ us vs Q E0 gd hr I1.env0 bd r q) fun res s' hq => ?_)
  match res, hq with
  | .error e, hq => exact hq.elim
  | .ok (.ret u), hq => exact I1.after hq
  | .ok .next, hq => exact False.elim hq
  | .ok .brk, hq => exact False.elim hq
  | .ok .cont, hq => exact False.elim hq

/-! ### repr -/
mutual
theorem noDict_pd : ∀ d : D, plainD d = true → (pd d).hasDict = false
  | .non, _ => rfl
  | .bl _, _ => rfl
  | .int _, _ => rfl
  | .str _, _ => rfl
  | .tup ds, h => by show PyData.hasDictAll (pds ds) = false; exact noDict_pds ds h
  | .lst ds, h => by show PyData.hasDictAll (pds ds) = false; exact noDict_pds ds h
  | .ty _, h => by cases h
  | .ins _ _, h => by cases h
  | .cell _, h => by cases h
  | .scr _, h => by cases h
  | .cls _, h => by cases h
  | .dct _ _, h => by cases h
  | .ktup _, h => by cases h
theorem noDict_pds : ∀ ds : List D, plainDs ds = true → PyData.hasDictAll (pds ds) = false
  | [], _ => rfl
  | d :: ds, h => by
    have h' : (plainD d && plainDs ds) = true := h
    rw [Bool.and_eq_true] at h'
    show ((pd d).hasDict || PyData.hasDictAll (pds ds)) = false
    rw [noDict_pd d h'.1, noDict_pds ds h'.2]
    rfl
end
/-- what repr can show -/
structure Showable (d : D) : Prop where
  pl : plainD d = true
  sh : (pd d).showable = true
  dp : (pd d).depth ≤ 60
  sz : (pd d).shown.length ≤ sizeLine
def zRepr : ZRC := fun ds Δ P => ∃ d, ds = [d] ∧ Showable (rd Δ d) ∧ P (.str (pd (rd Δ d)).shown) Δ
theorem cr_repr (gd : X.A.guards = some []) (hu : X.A.units + 64 < cLine) : CallR X (.builtin "repr") (fun xs H Q => ∃ x d, xs = [x] ∧ Dp X.K H x (pd d) ∧ Showable d ∧ Q (.str (pd d).shown) H) := by
  intro pins s σ H xs us Q I r h
  obtain ⟨x, d, rfl, hd, sh, q⟩ := h
  obtain ⟨u, rfl, ru⟩ := vals1 r
  have nd := noDict_pd d sh.pl
  obtain ⟨_, hs, hdp, hsz⟩ := sh
  generalize pd d = e at *
  have dspl : ∀ a, x = .ref a → wpAny (model X.prog X.w) X.A (call (.builtin "repr") [u]) (EP X pins σ Q) X.xe s := fun a hx => by
    subst hx
    obtain rfl : u = Value.ref a := ru
    obtain ⟨as, rr⟩ := Dp.reads I e (.ref a) (.ref a) hd rfl
    exact PySem.repr_of_reads' rr hs (PyData.noDict_hsm nd) gd (by omega) (fun _ _ e => e) (fun h' u tk hk => ⟨.str _, H, I.kept (t' := tk) hk, ⟨u, rfl⟩, q⟩) hsz
  cases hd with
  | non => obtain rfl : u = Value.none := ru; exact PySem.P.repr_of_none ⟨.str _, H, I.tok _, ⟨_, rfl⟩, q⟩
  | bl b => obtain rfl : u = Value.bool b := ru; exact PySem.P.repr_of_bool ⟨.str _, H, I.tok _, ⟨_, rfl⟩, q⟩
  | int i => obtain ⟨t, rfl⟩ := ru; exact PySem.P.repr_of_int (of_decide_eq_true hs) ⟨.str _, H, I.tok _, ⟨_, rfl⟩, q⟩
  | str z => obtain ⟨t, rfl⟩ := ru; exact PySem.P.repr_of_str ⟨.str _, H, I.tok _, ⟨_, rfl⟩, q⟩ hsz
  | lst h1 h2 => exact dspl _ rfl
  | tup h1 h2 => exact dspl _ rfl
theorem cz_repr (gd : X.A.guards = some []) (hu : X.A.units + 64 < cLine) : CallZ C X (.builtin "repr") zRepr := ⟨_, cr_repr gd hu, fun S A H Δ xs ds P Q hc r hz k => by
  obtain ⟨d, rfl, sh, q⟩ := hz
  obtain ⟨v, rfl, rv⟩ := one_rep r
  exact ⟨v, rd Δ d, rfl, dp_rd hc rv sh.pl, sh, k _ _ A H Δ (Ext.refl _ _) hc (.str _) q⟩⟩
end

/-! ### the law is called -/
section
variable {P : Program} {w : World} {K : PySem.W.Frag} {mg mb : Str → Option Value} {k : Nat} {fa a : Addr} {fd : FuncData} {x : Str} {s₁ : Shared} {vs : List Value} {ns : List Int} {C : CI} {W : ZRC}
theorem law_callG (KX : K.In s₁.heap) (hns : s₁.heap.Ns mainGlobals mg) (hb : s₁.heap.Ns builtinsNs mb) (hbb : ∀ x : Str, x ≠ "__name__" → mb x = bootBuiltins x) (hlim : s₁.heap.NoLimit) (hg : s₁.gens = #[])
    (ha : s₁.heap.get? a = some { cls := .type "list", data := .seq vs.toArray }) (hi : IntsAre vs ns) (hl : ns.length ≤ sizeLine) (hr : Room k callerA)
    (F : ∀ base : Heap, K.In base → base.Ns mainGlobals mg → FnG P w K mg base k fa fd [x] (SpZ K C W)) (hbind : ∀ (s : Shared) (u : Value), BindsTo s fd ⟨[u], []⟩ [(x, u)])
    (hW : W [.scr ns] [] fun d _ => d = .bl true) :
    codeAny (model P w) callerA (.call (.ref fa) ⟨[.ref a], []⟩) (fun r s' => r = .ok (.ret (.bool true)) ∧ OldK s₁.heap s'.heap ∧ s'.os = s₁.os ∧ AllBare s'.gens) s₁ := by
  have rv := vals_ints hi
  have lenV := hi.length
  have main : ∀ H : Hp, Only H → Rep K C [] [] H (.ref a) (.scr ns) → HOk P w H s₁.heap → (∀ b, H b ≠ none → b = a) → (H a ≠ none → K.lookup a = none) →
      codeAny (model P w) callerA (.call (.ref fa) ⟨[.ref a], []⟩) (fun r s' => r = .ok (.ret (.bool true)) ∧ OldK s₁.heap s'.heap ∧ s'.os = s₁.os ∧ AllBare s'.gens) s₁ := by
    intro H hO hS hok hA hK
    have free_of : ∀ {b : Addr} {o : Obj}, s₁.heap.get? b = some o → (b = a → False) → H b = none := fun {b o} e n => by
      cases q : H b with
      | none => rfl
      | some u => exact (n (hA b (by rw [q]; simp))).elim
    have dicts : ∀ {b : Addr} {m : Str → Option Value}, s₁.heap.Ns b m → (hidT s₁.heap H).Ns b m := fun {b m} hNs => by
      obtain ⟨o, es, ep, e, d, r⟩ := hNs
      refine ⟨o, es, ep, hidT_get e (free_of e fun q => ?_), d, r⟩
      subst q
      rw [ha] at e
      cases e
      exact nomatch (show Data.seq vs.toArray _ = Data.dict es ep from d)
    have hKb : K.In (hidT s₁.heap H) := fun b o e => hidT_get (KX b o e) (by
      cases q : H b with
      | none => rfl
      | some u =>
        have e' := hA b (by rw [q]; simp)
        subst e'
        rw [hK (by rw [q]; simp)] at e
        exact nomatch e)
    have hM : Mod K mg (hidT s₁.heap H) := by
      obtain ⟨mc, h1, h2⟩ := hlim
      exact ⟨hKb, dicts hns, ⟨mb, dicts hb, hbb⟩, ⟨mc, dicts h1, h2⟩⟩
    have e0 : Env0 P w K mg (hidT s₁.heap H) callerA [] s₁ H := ⟨rfl, hM, fun b o e => of_hidT e, Nat.le_of_eq (hidT_size _ _), trivial, fun b hb => (nomatch (show b ∈ ([] : List Addr) from hb)), hok, AllBare.of_eq hg⟩
    have cells : Cells K C [] [] H [] := ⟨rfl, List.nodup_nil, fun b hb => (nomatch hb), fun b hb => (nomatch hb), fun n b o h _ => by simp at h⟩
    have sp : SpZ K C W [.ref a] H (fun v _ => v = .bl true) (fun _ _ _ => False) := ⟨[], [], [], [.scr ns], _, .cons hS .nil, cells, hW, fun v d A' H' Δ' _ _ r q => by
      subst q
      cases r
      rfl⟩
    refine codeAny_mono ((F _ hKb (dicts hns)).go callerA [] s₁ H ⟨[.ref a], []⟩ [.ref a] [.ref a] _ _ rfl hr e0 (hbind s₁ (.ref a)) (.cons rfl .nil) sp) fun r s' h => ?_
    match r, h with
    | .error e, h => exact h.elim
    | .ok .next, h => exact False.elim h
    | .ok .brk, h => exact False.elim h
    | .ok .cont, h => exact False.elim h
    | .ok (.ret u), h =>
      obtain ⟨v, H', os, bare, un, hok', r', q⟩ := h
      have q' : v = .bl true := q
      subst q'
      obtain rfl : u = Value.bool true := r'
      refine ⟨rfl, OldK.of_keep fun b o e => ?_, os, bare⟩
      rcases hO b with z | ⟨ob, xs, z⟩
      · exact un.keep b o e z (fun y => (nomatch (show b ∈ ([] : List Addr) from y))) (by simp)
      · obtain ⟨e1, _⟩ := hok b _ z
        obtain ⟨e2, _⟩ := hok' b _ (un.frzs b ob _ z)
        rw [e] at e1
        cases e1
        exact e2
  cases hk : K.lookup a with
  | some o =>
    have e := KX a o hk
    rw [ha] at e
    cases e
    exact main (fun _ => none) (fun _ => .inl rfl) (.scr (.inr ⟨_, vs.toArray, _, hk, rfl, rfl, rfl, by rw [List.size_toArray, lenV]; exact hl, by simpa using rv⟩)) (fun b u z => (nomatch (show (none : Option HO) = some u from z))) (fun b z => absurd rfl z) fun z => absurd rfl z
  | none =>
    have at_a : (fun b => if b = a then some (HO.frz { cls := .type "list", data := .seq vs.toArray } (.lst (ns.map V.int))) else none : Hp) a = some (.frz { cls := .type "list", data := .seq vs.toArray } (.lst (ns.map V.int))) := if_pos rfl
    refine main (fun b => if b = a then some (HO.frz { cls := .type "list", data := .seq vs.toArray } (.lst (ns.map V.int))) else none) (fun b => ?_) (.scr (.inl ⟨⟨_, at_a⟩, by simp, by simp⟩)) (fun b u z => ?_) (fun b z => ?_) fun _ => hk
    · by_cases h : b = a
      · subst h; exact .inr ⟨_, _, at_a⟩
      · exact .inl (if_neg h)
    · by_cases h : b = a
      · subst h
        have z' := at_a.symm.trans z
        cases z'
        exact ⟨ha, by rw [List.length_map]; exact hl, vs, _, rv, ha⟩
      · exact nomatch (if_neg h).symm.trans z
    · by_cases h : b = a
      · exact h
      · exact absurd (if_neg h) z
end
theorem walkG {l : PySem.W.OpenLaw} {n k : Nat} {q : Program} {loose : List Str} {XP : (Str → Option Value) → Heap → Prop} {YP : World → Heap → Prop} {d : DefRec} {K : Params → PySem.W.Frag} {x : Str} {W : ZRC}
    (hn : l.most = some n) (hn2 : n ≤ sizeLine) (hdf : d.params.defaults = []) (hr : Room k callerA) (hY : ∀ (w : World) (h : Heap), YP w h → (K w.params).In h)
    (F : ∀ (w : World) (mg : Str → Option Value) (fa : Addr) (h : Heap), (K w.params).In h → h.Ns mainGlobals mg → mg d.name = some (.ref fa) →
      ∃ (fd : FuncData) (C : CI), (∀ (s : Shared) (u : Value), BindsTo s fd ⟨[u], []⟩ [(x, u)]) ∧ ∀ base : Heap, (K w.params).In base → base.Ns mainGlobals mg → FnG l.prog w (K w.params) mg base k fa fd [x] (SpZ (K w.params) C W))
    (hW : ∀ ns : List Int, ns.length ≤ n → W [.scr ns] [] fun d _ => d = .bl true) : PySem.W.WalkO q loose XP YP l.row.toRowW d [] (fun f vs => PySem.call f vs) := by
  refine Att.attach_call hn hdf fun w s₀ s₁ mg mb fa o pm cd doc a vs ns G Y ho hd hcd hmg hobj hints hlen hg => ?_
  obtain ⟨fd, C, hb, hF⟩ := F w mg fa _ (hY w _ Y) G.T.g hmg
  exact law_callG (hY w _ Y) G.T.g G.T.b G.T.builtins G.T.nolimit hg hobj hints (Nat.le_trans hlen hn2) hr hF hb (hW ns hlen)
end Z

/-! Z7: blocks of comprehensions, products of ints and of lists, == of own classes, more. -/
namespace Z
open PySem PySem.Spec PyProof.Rows L2

/-- the reading that a reading over data stands for -/
def up (K : PySem.W.Frag) (C : CI) (z : ZE) : TE := fun σ H Q => ∃ S A Γ Δ P, Slots K C S A H σ Γ ∧ Cells K C S A H Δ ∧ z Γ Δ P ∧ ∀ v d A' H' Δ', Ext A H A' H' → Cells K C S A' H' Δ' → Rep K C S A' H' v d → P d Δ' → Q v H'
def upT (K : PySem.W.Frag) (C : CI) (z : ZT) : TT := fun σ H Q => ∃ S A Γ Δ P, Slots K C S A H σ Γ ∧ Cells K C S A H Δ ∧ z Γ Δ P ∧ ∀ b A' H' Δ', Ext A H A' H' → Cells K C S A' H' Δ' → P b Δ' → Q b H'
theorem ref_up {K : PySem.W.Frag} {C : CI} {z : ZE} : RefE K C (up K C z) z := fun S A σ H Γ Δ P Q hs hc hz k => ⟨S, A, Γ, Δ, P, hs, hc, hz, k⟩
theorem ref_upT {K : PySem.W.Frag} {C : CI} {z : ZT} : RefT K C (upT K C z) z := fun S A σ H Γ Δ P Q hs hc hz k => ⟨S, A, Γ, Δ, P, hs, hc, hz, k⟩
theorem EZ.up {C : CI} {X : Cx} {e : Expr} {z : ZE} (h : EZ C X e z) : PE X e (Z.up X.K C z) := by
  obtain ⟨t, h1, h2⟩ := h.ex
  refine ⟨fun pins s σ H Q I q => h1.run pins s σ H Q I ?_⟩
  obtain ⟨S, A, Γ, Δ, P, hs, hc, hz, k⟩ := q
  exact h2 S A σ H Γ Δ P Q hs hc hz k
theorem TsZ.up {C : CI} {X : Cx} {es : List Expr} {z : ZT} (h : TsZ C X es z) : PTs X es (upT X.K C z) := by
  obtain ⟨t, h1, h2⟩ := h.ex
  refine ⟨fun pins s σ H Q I q => h1.run pins s σ H Q I ?_⟩
  obtain ⟨S, A, Γ, Δ, P, hs, hc, hz, k⟩ := q
  exact h2 S A σ H Γ Δ P Q hs hc hz k
theorem ref_gName {K : PySem.W.Frag} {C : CI} {i : Nat} : RefG K C (gName i) (zgName i) := fun S A σ H Γ Δ v d P Q hs hc r hz k => k _ A H _ Δ (Ext.refl _ _) (hs.set i r) hc hz
theorem ref_gNil {K : PySem.W.Frag} {C : CI} : RefGs K C gNil zgNil := fun S A σ H Γ Δ vs ds P Q hs hc r hz k => by
  obtain ⟨rfl, p⟩ := hz
  cases r
  exact ⟨rfl, k _ A H _ Δ (Ext.refl _ _) hs hc p⟩
theorem ref_gCons {K : PySem.W.Frag} {C : CI} {g : TG} {gs : TGs} {z : ZG} {zs : ZGs} (h : RefG K C g z) (hr : RefGs K C gs zs) : RefGs K C (gCons g gs) (zgCons z zs) := fun S A σ H Γ Δ vs ds P Q hs hc r hz k => by
  obtain ⟨d, rest, rfl, p⟩ := hz
  cases r with
  | cons r1 r2 => exact ⟨_, _, rfl, h S A σ H Γ Δ _ d _ _ hs hc r1 p fun σ' A' H' Γ' Δ' e1 s1 c1 p1 => hr S A' σ' H' Γ' Δ' _ rest P Q s1 c1 (r2.ext e1) p1 (k.ext e1)⟩
theorem ref_gTup {K : PySem.W.Frag} {C : CI} {gs : TGs} {zs : ZGs} {n : Nat} (h : RefGs K C gs zs) : RefG K C (gTup K n gs) (zgTup n zs) := fun S A σ H Γ Δ v d P Q hs hc r hz k => by
  obtain ⟨ds, rfl, hl, p⟩ := hz
  cases r with
  | tup h1 h2 h3 r => exact ⟨_, _, rfl, SqT.of h1, by rw [r.length]; exact hl, h S A σ H Γ Δ _ ds P Q hs hc r p k⟩
section
variable {C : CI} {X : Cx}
theorem blkz {scope : Scope} {tg : Expr} {ifs : List Expr} {elt : Expr} {g : TG} {zg : ZG} {zt : ZT} {ze : ZE} (hr : RefG X.K C g zg)
    (hg : ∀ (s : Shared) (H : Hp) (Ca : Addr) (cl : List (Str × Addr)) (fp : List Addr), PG (X.blk s H scope (compEnvC scope cl Ca X.env) fp) tg g)
    (ht : ∀ (s : Shared) (H : Hp) (Ca : Addr) (cl : List (Str × Addr)) (fp : List Addr), TsZ C (X.blk s H scope (compEnvC scope cl Ca X.env) fp) ifs zt)
    (he : ∀ (s : Shared) (H : Hp) (Ca : Addr) (cl : List (Str × Addr)) (fp : List Addr), EZ C (X.blk s H scope (compEnvC scope cl Ca X.env) fp) elt ze) : BlkZ C X scope tg ifs elt g zg zt ze :=
  ⟨upT X.K C zt, up X.K C ze, fun s H Ca cl fp => ⟨hg s H Ca cl fp, (ht s H Ca cl fp).up, (he s H Ca cl fp).up⟩, hr, ref_upT, ref_up⟩

/-! ### products -/
def zMulA : ZR2 := fun x y Δ P => (∃ i j, x = .int i ∧ y = .int j ∧ MulOk i j ∧ P (.int (i * j)) Δ) ∨ zRepeat x y Δ P
theorem oz_mulA : OpZ C X (binaryOp .Mult) zMulA := by
  obtain ⟨r, h1, h2⟩ := (oz_mul (C := C) (X := X)).ex
  obtain ⟨r', h1', h2'⟩ := (oz_rep (C := C) (X := X)).ex
  refine ⟨_, OpR.or h1 h1', fun S A H Δ x y dx dy P Q hc rx ry hz k => ?_⟩
  rcases hz with ⟨i, j, q1, q2, q3, q4⟩ | hz
  · exact .inl (h2 S A H Δ x y dx dy P Q hc rx ry ⟨i, j, q1, q2, q3, q4⟩ k)
  · exact .inr (h2' S A H Δ x y dx dy P Q hc rx ry hz k)
/-- xs[::-1] -/
def zRev (z : ZE) : ZE := fun Γ Δ P => z Γ Δ fun x Δ1 => ∃ ds, lstD Δ1 x = some ds ∧ P (.lst ds.reverse) Δ1
theorem ez_rev {e : Expr} {z : ZE} {p1 p2 p3 pos : Pos} (h : EZ C X e z) {k : Nat} : EZ C X (.Subscript e (.Slice none none (some (.UnaryOp .USub (.Constant (.int 1) k p1) p2)) p3) pos) (zRev z) := by
  obtain ⟨t, h1, h2⟩ := h.ex
  refine ⟨_, pe_revL h1, fun S A σ H Γ Δ P Q hs hc hz k => h2 S A σ H Γ Δ _ _ hs hc hz fun v d A1 H1 Δ1 e1 c1 r1 p => ?_⟩
  obtain ⟨ds, hd, p⟩ := p
  obtain ⟨a, xs, rfl, g1, g2⟩ := Rep.lst_ c1 r1 hd
  refine ⟨a, xs, rfl, SqL.of g1, fun q hq => ?_⟩
  exact k _ _ A1 _ Δ1 (e1.trans (Ext.new hq)) (c1.new hq) (.lst upd_same (c1.fresh hq) (c1.aside hq) (g2.reverse.ext (Ext.new hq))) p
/-- a list or a tuple is walked -/
def ziOr (a b : ZI) : ZI := fun Γ Δ P => a Γ Δ P ∨ b Γ Δ P
theorem iz_or {tg iter : Expr} {a b : ZI} (ha : IZ C X tg iter a) (hb : IZ C X tg iter b) : IZ C X tg iter (ziOr a b) := by
  obtain ⟨t, h1, h2⟩ := ha.ex
  obtain ⟨u, g1, g2⟩ := hb.ex
  refine ⟨fun σ H R => t σ H R ∨ u σ H R, ⟨fun pins s σ H R I h => h.elim (h1.run pins s σ H R I) (g1.run pins s σ H R I)⟩, fun S A σ H Γ Δ P R hs hc hz k => ?_⟩
  rcases hz with hz | hz
  · exact .inl (h2 S A σ H Γ Δ P R hs hc hz k)
  · exact .inr (g2 S A σ H Γ Δ P R hs hc hz k)
theorem iz_seq {tg iter : Expr} {z : ZE} (h : EZ C X iter z) : IZ C X tg iter (ziOr (ziList z) (ziTup z)) := iz_or (iz_list h) (iz_tup h)

/-! ### an own == -/
def plainTys : List String := ["NoneType", "bool", "int", "str", "tuple", "list"]
/-- what the class has that its own == is asked first -/
structure EqO (K : PySem.W.Frag) (Ca f : Addr) : Prop where
  at_ : PySem.W.findIn K (.ref Ca) "__eq__" = some (some (.ref f))
  fn : PySem.W.isFn K (.ref f) = true
  first : ∀ n ∈ plainTys, PySem.W.notFirst K Ca (.type n) = true
  isi : Isi K Ca
def zEqO (C : CI) (c : Nat) (W : ZRC) : ZR2 := fun x y Δ P => insD Δ c x ∧ (∃ t, tyD C Δ y = some t ∧ (t = .ref (C.adr c) ∨ ∃ n, n ∈ plainTys ∧ t = .type n)) ∧ W [x, y] Δ fun d Δ' => ∃ b, d = .bl b ∧ P (.bl b) Δ'
theorem oz_eqO {c k : Nat} {f : Addr} {fd : FuncData} {ps : List Str} {W : ZRC} (F : FnOk X.prog X.w X.K X.mg X.base CX0 k f fd ps (SpZ X.K C W)) (hr : Room k X.A) (E : EqO X.K (C.adr c) f) (hb : Binds X.K fd ps []) : OpZ C X (compareOp .Eq) (zEqO C c W) := by
  refine ⟨fun x y H Q => ∃ a dx fs t, x = .ref a ∧ H a = some (.ins (C.adr c) dx fs) ∧ TyX X.K H y t ∧ (t = .ref (C.adr c) ∨ ∃ n, n ∈ plainTys ∧ t = .type n) ∧ SpZ X.K C W [x, y] H (fun v H' => ∃ b, v = .bl b ∧ Q (.bl b) H') E0, ?_, ?_⟩
  · intro pins s σ H x y v u Q I rx ry h
    obtain ⟨a, dx, fs, t, rfl, ha, ty, ht, sp⟩ := h
    obtain rfl : v = Value.ref a := rx
    obtain ⟨mA, J, _⟩ := ins_get I.hok ha
    obtain ⟨od, J, _⟩ := J.look
    obtain ⟨P, kx, hp, _⟩ := kit_of I ry ty
    obtain ⟨m, hF⟩ := I.fr
    have hn : PySem.W.notFirst X.K (C.adr c) t = true := by
      rcases ht with rfl | ⟨n, hn, rfl⟩
      · simp [PySem.W.notFirst]
      · exact E.first n hn
    show wpAny _ _ (richCompare .Eq (.ref a) u) _ _ _
    refine PySem.W.cmp_K (op := .Eq) (tb := t) hr.units0 hF I.ok.mod.kin J (kx.ty _ _ I.kIn hp) hn E.at_ E.fn ?_
    have hl := F.len _ _ _ _ sp
    have r2 : Vals [V.ref a, y] [Value.ref a, u] := .cons rfl (.cons ry .nil)
    refine wpAny_call (codeAny_mono (F.run X.A X.stack s H ⟨[.ref a, u], []⟩ [.ref a, u] [.ref a, y] _ _ hr I.env0 (by
      have b := hb s [.ref a, u] I.kIn (by rw [List.append_nil]; exact hl)
      rw [List.append_nil] at b
      exact b) r2 sp) fun r s' hq => ?_)
    match r, hq with
    | .error e, hq => exact hq.elim
    | .ok .next, hq => exact False.elim hq
    | .ok .brk, hq => exact False.elim hq
    | .ok .cont, hq => exact False.elim hq
    | .ok (.ret w), hq =>
      obtain ⟨z, H', I', rz, b, ez, q⟩ := I.after hq
      subst ez
      cases rz
      exact ⟨.bl b, H', I', rfl, q⟩
  · intro S A H Δ x y dx dy P Q hc rx ry hz k
    obtain ⟨hi, ⟨t, ht, ht2⟩, w⟩ := hz
    obtain ⟨a, dx, fs, rfl, g1⟩ := rx.inst hc hi
    refine ⟨a, dx, fs, t, rfl, g1, ry.tyX hc ht fun Ca e => ?_, ht2, S, A, Δ, _, _, .cons rx (.cons ry .nil), hc, w, fun v d A' H' Δ' e2 c2 r2 p2 => ?_⟩
    · rcases ht2 with h | ⟨n, _, h⟩
      · rw [h] at e; cases e; exact E.isi
      · rw [h] at e; cases e
    · obtain ⟨b, rfl, p2⟩ := p2
      cases r2
      exact ⟨b, rfl, k _ _ A' H' Δ' e2 c2 (.bl b) p2⟩
def zEqA (C : CI) (c : Nat) (W : ZRC) : ZR2 := fun x y Δ P => zEq x y Δ P ∨ zEqO C c W x y Δ P
theorem oz_eqA {c k : Nat} {f : Addr} {fd : FuncData} {ps : List Str} {W : ZRC} (F : FnOk X.prog X.w X.K X.mg X.base CX0 k f fd ps (SpZ X.K C W)) (hr : Room k X.A) (E : EqO X.K (C.adr c) f) (hb : Binds X.K fd ps []) : OpZ C X (compareOp .Eq) (zEqA C c W) := by
  obtain ⟨r, h1, h2⟩ := (oz_eq (C := C) (X := X) hr.units).ex
  obtain ⟨r', h1', h2'⟩ := (oz_eqO (C := C) (X := X) F hr E hb).ex
  refine ⟨_, OpR.or h1 h1', fun S A H Δ x y dx dy P Q hc rx ry hz k => ?_⟩
  rcases hz with hz | hz
  · exact .inl (h2 S A H Δ x y dx dy P Q hc rx ry hz k)
  · exact .inr (h2' S A H Δ x y dx dy P Q hc rx ry hz k)
end
end Z

/-! Z8: defs with defaults, results that are cells, cells that are frozen, the law's end. -/
namespace Z
open PySem PySem.Spec PyProof.Rows L2

/-- a def as it stands behind the top, whatever its defaults -/
structure FunZ (K : PySem.W.Frag) (x qual : Str) (st : Stmt) (f : Addr) (fd : FuncData) : Prop where
  ex : ∃ (oc : Value) (od : Option Addr) (dV kV doc pm : Value) (an : Option Addr) (cdv ct : Value) (osl : Array (Option Value)),
    fd = PySem.W.fnOf x qual (defArgs st) (defBody st) (defScope st) dV kV doc pm an cdv ct ∧ K.lookup f = some ⟨oc, od, .func fd, osl⟩ ∧ PySem.W.codeIn K cdv qual = true
  kp : PySem.W.keepIn K (.ref f) = true
theorem Fun.z {K : PySem.W.Frag} {x qual : Str} {st : Stmt} {f : Addr} {fd : FuncData} (F : Fun K x qual st f fd) : FunZ K x qual st f fd := by
  obtain ⟨oc, od, kV, doc, pm, an, cdv, ct, osl, h1, h2, h3⟩ := F.ex
  exact ⟨⟨oc, od, _, kV, doc, pm, an, cdv, ct, osl, h1, h2, h3⟩, F.kp⟩
theorem FunD.z {K : PySem.W.Frag} {x qual : Str} {st : Stmt} {f : Addr} {fd : FuncData} {dvs : List V} {kws : List (Str × V)} (F : FunD K x qual (defArgs st) (defBody st) (defScope st) dvs kws f fd) : FunZ K x qual st f fd := by
  obtain ⟨oc, od, dV, kV, doc, pm, an, cdv, ct, osl, h1, h2, h3, _⟩ := F.ex
  exact ⟨⟨oc, od, dV, kV, doc, pm, an, cdv, ct, osl, h1, h2, h3⟩, F.kp⟩
section
variable {P : Program} {w : World} {K : PySem.W.Frag} {mg : Str → Option Value} {base : Heap} {C : CI} {k : Nat} {f : Addr} {fd : FuncData} {ps : List Str} {W : ZRC}
theorem fnz_okZ {y qual : Str} {st : Stmt} {N : List Str} (F : FunZ K y qual st f fd) (Sc : FnScope N ps (defScope st)) (len : ∀ ds Δ P, W ds Δ P → ds.length = ps.length)
    (body : ∀ (cdv : Value) (A : Around) (outer : List PySem.Env) (s : Shared) (H : Hp) (E : XK), Room k (A.deeper (PyProof.Rows.envOfC qual (defScope st) s.heap.objs.size f cdv)) →
      ∃ z : ZS, SZs C (cxOf CX0 P w K mg base N qual (defScope st) f cdv A outer s H E).nox (defBody st) z ∧ ∀ ds Δ P, W ds Δ P → z { nx := fun _ Δ' => P .non Δ', rt := P } (startZ N ds) Δ) : FnOk P w K mg base CX0 (k + 1) f fd ps (SpZ K C W) := by
  obtain ⟨oc, od, dV, kV, doc, pm, an, cdv, ct, osl, rfl, lk, hcd⟩ := F.ex
  refine fn_of lk hcd Sc (fun vs H Q E h => ?_) (fun A outer s H vs Q E hr h => ?_)
  · obtain ⟨S, A, Δ, ds, P, r, _, hw, _⟩ := h
    rw [r.length]
    exact len ds Δ P hw
  · obtain ⟨S, A', Δ, ds, P', r, hc, hw, kk⟩ := h
    obtain ⟨z, hz, hzz⟩ := body cdv A outer s H E hr
    obtain ⟨ts, h1, h2⟩ := hz.ex
    refine ⟨ts, h1.nox, h2 S A' _ H (startZ N ds) Δ { nx := fun _ Δ' => P' .non Δ', rt := P' } _ (slots_start r) hc (hzz ds Δ P' hw) ⟨?_, ?_, ?_, ?_⟩⟩
    · exact fun σ' A2 H2 Γ2 Δ2 e2 s2 c2 q => kk .non .non A2 H2 Δ2 e2 c2 .non q
    · exact fun σ' A2 H2 Γ2 Δ2 e2 s2 c2 q => q.elim
    · exact fun σ' A2 H2 Γ2 Δ2 e2 s2 c2 q => q.elim
    · exact fun v d A2 H2 Δ2 e2 c2 r2 q => kk v d A2 H2 Δ2 e2 c2 r2 q

/-! ### a new list that the caller never changes -/
theorem Cells.freezeL {K : PySem.W.Frag} {C : CI} {S A : List Addr} {H H0 : Hp} {Δ : Store} {x : Addr} {es : List D} (c1 : Cells K C S A H0 Δ) (hc : Cells K C S (A ++ [x]) H (Δ ++ [.lst es])) (hb : belowL A.length es = true) : Cells K C S A H Δ ∧ Rep K C S A H (.ref x) (.lst es) := by
  have lenΔ := c1.len
  refine ⟨⟨c1.len, c1.nd, c1.dj, hc.as, fun n a o h1 h2 => ?_⟩, ?_⟩
  · have hn : n < A.length := (List.getElem?_eq_some_iff.mp h1).1
    have q := hc.at_ n a o (by rw [List.getElem?_append_left hn]; exact h1) (by rw [List.getElem?_append_left (by rw [← lenΔ]; exact hn)]; exact h2)
    have q0 := c1.at_ n a o h1 h2
    cases o with
    | lst ds =>
      obtain ⟨xs, g1, g2⟩ := q
      obtain ⟨_, _, g3⟩ := q0
      exact ⟨xs, g1, RepL.drop_ ds (RepL.blw ds g3) g2⟩
    | ins c fs =>
      obtain ⟨dx, xs, g1, g2, g3⟩ := q
      obtain ⟨_, _, _, _, g4⟩ := q0
      exact ⟨dx, xs, g1, g2, RepL.drop_ _ (RepL.blw _ g4) g3⟩
    | dct ks ds =>
      obtain ⟨xs, g1, g2, g3⟩ := q
      obtain ⟨_, _, _, g4⟩ := q0
      exact ⟨xs, g1, g2, RepL.drop_ _ (RepL.blw _ g4) g3⟩
  · have q := hc.at_ A.length x (.lst es) (by rw [List.getElem?_append_right (Nat.le_refl _), Nat.sub_self] <;> rfl) (by rw [lenΔ, List.getElem?_append_right (Nat.le_refl _), Nat.sub_self] <;> rfl)
    obtain ⟨xs, g1, g2⟩ := q
    have hx : x ∉ A := fun h => by
      have := List.nodup_append.mp hc.nd
      exact this.2.2 x h x (by simp) rfl
    exact .lst g1 hx (hc.dj x (by simp)) (RepL.drop_ es hb g2)
def frz (W : ZRC) : ZRC := fun ds Δ P => W ds Δ fun d Δ' => ∃ es, d = .cell Δ.length ∧ Δ' = Δ ++ [.lst es] ∧ belowL Δ.length es = true ∧ P (.lst es) Δ
theorem sp_frz {vs : List V} {H : Hp} {Q : VK} {E : XK} (h : SpZ K C (frz W) vs H Q E) : SpZ K C W vs H Q E := by
  obtain ⟨S, A, Δ, ds, P, r, hc, hw, kk⟩ := h
  refine ⟨S, A, Δ, ds, _, r, hc, hw, fun v d A' H' Δ' e c r' q => ?_⟩
  obtain ⟨es, rfl, rfl, hb, p⟩ := q
  cases r' with
  | cell g =>
    rename_i x
    have hA' : A' = A ++ [x] := by
      obtain ⟨B, hB, _⟩ := e.pre
      have hlen := c.len
      have hl1 : ([O.lst es] : List O).length = 1 := rfl
      rw [hB, List.length_append, List.length_append, hc.len, hl1] at hlen
      have hB1 : B.length = 1 := by omega
      obtain ⟨b, hb1⟩ := List.length_eq_one_iff.mp hB1
      rw [hB, hb1, ← hc.len, List.getElem?_append_right (Nat.le_refl _), Nat.sub_self] at g
      cases g
      rw [hB, hb1]
    subst hA'
    obtain ⟨c5, r5⟩ := hc.freezeL c (by rw [hc.len]; exact hb)
    exact kk _ _ A H' Δ ⟨⟨[], by simp, by simp⟩, fun a o h1 h2 => e.keep a o h1 h2, e.trk⟩ c5 r5 p
theorem fn_frz (F : FnOk P w K mg base CX0 k f fd ps (SpZ K C W)) : FnOk P w K mg base CX0 k f fd ps (SpZ K C (frz W)) := F.imp fun _ _ _ _ h => sp_frz h
end
section
variable {C : CI} {X : Cx}
/-- new lists that are changed later -/
def zRepeatC : ZR2 := fun x y Δ P => ∃ ds k, lstD Δ x = some ds ∧ y = .int k ∧ -(2 ^ 63) ≤ k ∧ k < 2 ^ 63 ∧ ds.length * k.toNat ≤ 100000 ∧ P (.cell Δ.length) (Δ ++ [.lst (List.replicate k.toNat ds).flatten])
theorem oz_repC : OpZ C X (binaryOp .Mult) zRepeatC := ⟨_, op_rep, fun S A H Δ x y dx dy P Q hc rx ry hz k => by
  obtain ⟨ds, i, h1, rfl, h2, h3, hl, p⟩ := hz
  obtain ⟨a, xs, rfl, g1, g2⟩ := Rep.lst_ hc rx h1
  cases ry
  refine ⟨a, i, xs, rfl, rfl, g1, h2, h3, sz100 (by rw [g2.length]; exact hl), fun q hq => ?_⟩
  refine k _ _ (A ++ [q]) _ _ (Ext.newCell hq) (hc.newCell hq (g2.repl _)) (.cell ?_) p
  rw [← hc.len, List.getElem?_append_right (Nat.le_refl _), Nat.sub_self]
  rfl⟩
def zCatC : ZR2 := fun x y Δ P => ∃ ds es, lstD Δ x = some ds ∧ lstD Δ y = some es ∧ ds.length + es.length ≤ 100000 ∧ P (.cell Δ.length) (Δ ++ [.lst (ds ++ es)])
theorem oz_catC : OpZ C X (binaryOp .Add) zCatC := ⟨_, op_cat, fun S A H Δ x y dx dy P Q hc rx ry hz k => by
  obtain ⟨ds, es, h1, h2, hl, p⟩ := hz
  obtain ⟨a, xs, rfl, g1, g2⟩ := Rep.lst_ hc rx h1
  obtain ⟨b, ys, rfl, g3, g4⟩ := Rep.lst_ hc ry h2
  refine ⟨a, b, xs, ys, rfl, rfl, g1, g3, sz100 (by rw [g2.length, g4.length]; exact hl), fun q hq => ?_⟩
  refine k _ _ (A ++ [q]) _ _ (Ext.newCell hq) (hc.newCell hq (g2.append g4)) (.cell ?_) p
  rw [← hc.len, List.getElem?_append_right (Nat.le_refl _), Nat.sub_self]
  rfl⟩
end
theorem walkZ {l : PySem.W.OpenLaw} {n k : Nat} {q : Program} {loose : List Str} {XP : (Str → Option Value) → Heap → Prop} {YP : World → Heap → Prop} {d : DefRec} {K : Params → PySem.W.Frag} {x : Str}
    (hn : l.most = some n) (hn2 : n ≤ sizeLine) (hdf : d.params.defaults = []) (hr : Room k callerA) (hY : ∀ (w : World) (h : Heap), YP w h → (K w.params).In h)
    (F : ∀ (w : World) (mg : Str → Option Value) (fa : Addr) (h : Heap), (K w.params).In h → h.Ns mainGlobals mg → mg d.name = some (.ref fa) →
      ∃ (fd : FuncData) (C : CI) (W : ZRC), (∀ (s : Shared) (u : Value), BindsTo s fd ⟨[u], []⟩ [(x, u)]) ∧ (∀ base : Heap, (K w.params).In base → base.Ns mainGlobals mg → FnG l.prog w (K w.params) mg base k fa fd [x] (SpZ (K w.params) C W)) ∧
        ∀ ns : List Int, ns.length ≤ n → W [.scr ns] [] fun d _ => d = .bl true) : PySem.W.WalkO q loose XP YP l.row.toRowW d [] (fun f vs => PySem.call f vs) := by
  refine Att.attach_call hn hdf fun w s₀ s₁ mg mb fa o pm cd doc a vs ns G Y ho hd hcd hmg hobj hints hlen hg => ?_
  obtain ⟨fd, C, W, hb, hF, hW⟩ := F w mg fa _ (hY w _ Y) G.T.g hmg
  exact law_callG (hY w _ Y) G.T.g G.T.b G.T.builtins G.T.nolimit hg hobj hints (Nat.le_trans hlen hn2) hr hF hb (hW ns hlen)
end Z

/-! M1: evaluating readings over data; loops and comprehensions over lists of data. -/
namespace Z
open PySem PySem.Spec PyProof.Rows L2

theorem at0 {α : Type} {a : α} {l : List α} : atI (a :: l) 0 = some a := atI_nat (j := 0) rfl
theorem at1 {α : Type} {a b : α} {l : List α} : atI (a :: b :: l) 1 = some b := atI_nat (j := 1) rfl
theorem at2 {α : Type} {a b c : α} {l : List α} : atI (a :: b :: c :: l) 2 = some c := atI_nat (j := 2) rfl
theorem at3 {α : Type} {a b c d : α} {l : List α} : atI (a :: b :: c :: d :: l) 3 = some d := atI_nat (j := 3) rfl
theorem at4 {α : Type} {a b c d e : α} {l : List α} : atI (a :: b :: c :: d :: e :: l) 4 = some e := atI_nat (j := 4) rfl
theorem atN {α : Type} {l : List α} {i : Int} (h0 : 0 ≤ i) (h1 : i < l.length) : ∃ d, l[i.toNat]? = some d ∧ atI l i = some d := by
  have hl : i.toNat < l.length := by omega
  refine ⟨l[i.toNat], List.getElem?_eq_getElem hl, ?_⟩
  have e : ((i.toNat : Nat) : Int) = i := by omega
  have q := atI_nat (xs := l) (j := i.toNat) (List.getElem?_eq_getElem hl)
  rw [e] at q
  exact q
theorem ix0 {n : Nat} (h : 0 < n) : ixN n 0 = some 0 := by unfold ixN; rw [if_pos (by decide), if_pos (by omega)]; rfl
theorem ix2_3 : ixN 3 2 = some 2 := by decide
theorem ix0_3 : ixN 3 0 = some 0 := by decide
theorem isNon_int (i : Int) : Z.isNon (.int i) = false := rfl
theorem isNon_non : Z.isNon .non = true := rfl
theorem dec_not {p : Prop} [Decidable p] : (decide p = false) = ¬ p := by simp
theorem dec_yes {p : Prop} [Decidable p] : (decide p = true) = p := by simp
theorem t_t : (true = true) = True := by simp
theorem t_f : (true = false) = False := by simp
theorem f_t : (false = true) = False := by simp
theorem f_f : (false = false) = True := by simp

local macro_rules | `(tactic| walk_at "zm") => `(tactic| simp only [zSeq, zAsg, zRet, zRetN, zIfS, zNext, zDrop, zPar, zVar, zC, zOp, zUn, zNeg, zI0, zI, zTest, zAnd, zOr, zNot, zAndV, zOrV, zNotV, zIf, zNil, zCons, zTup, zLst, zLstC, zgName, zgTup, zgCons, zgNil, zgSub, startZ, zCall, zCB, zChain, zIsN, zNotN, zNever,
  zAddA, zMulA, zRepeat, zCat, zIx, seqD, lstD, zMax2, zMin2, zAbs, zLen, zSum, zGcd, zInt, zYes, zBreak, zCont,
  at0, at1, at2, at3, at4, ix2_3, ix0_3, isNon_int, isNon_non, Bool.not_true, Bool.not_false,
  List.map_cons, List.map_nil, List.length_cons, List.length_nil, List.replicate_succ, List.replicate_zero, List.append_nil, List.nil_append, List.cons_append, List.getElem?_cons_zero, List.getElem?_cons_succ, List.set_cons_zero, List.set_cons_succ,
  Option.some.injEq, D.int.injEq, D.bl.injEq, D.tup.injEq, D.lst.injEq, D.str.injEq, D.cell.injEq, O.lst.injEq, reduceCtorEq, exists_eq_left', exists_eq_left, false_and, and_false, true_and, and_true, exists_false, or_false, false_or, exists_and_left, exists_eq', exists_and_right, List.cons.injEq, dec_not, dec_yes, t_t, t_f, f_t, f_f, true_implies, false_implies, implies_true, and_self, Nat.reduceAdd, Nat.reduceLeDiff, Nat.reduceSub, Nat.reduceLT])

/-! ### loops -/
/-- a for: an invariant over the number of items behind, the slots and the store -/
theorem loop_inv {body : D → ZS} {Z : ZEnds} (I : Nat → Env → Store → Prop) : ∀ (xs : List D) (k : Nat) (Γ : Env) (Δ : Store), I k Γ Δ →
    (∀ i x Γ Δ (Z' : ZEnds), xs[i]? = some x → I (k + i) Γ Δ → (∀ Γ' Δ', I (k + i + 1) Γ' Δ' → Z'.nx Γ' Δ') → (∀ Γ' Δ', I (k + i + 1) Γ' Δ' → Z'.ct Γ' Δ') → Z'.rt = Z.rt → Z'.bk = Z.nx → body x Z' Γ Δ) →
    (∀ Γ Δ, I (k + xs.length) Γ Δ → Z.nx Γ Δ) → loopZ body Z xs Γ Δ
  | [], k, Γ, Δ, h0, _, hd => hd Γ Δ h0
  | x :: xs, k, Γ, Δ, h0, hs, hd => by
    have tail : ∀ Γ' Δ', I (k + 0 + 1) Γ' Δ' → loopZ body Z xs Γ' Δ' := fun Γ' Δ' h => loop_inv I xs (k + 1) Γ' Δ' h
      (fun i y Γ Δ Z' hy hi hn hc => hs (i + 1) y Γ Δ Z' (by simpa using hy) (by rw [show k + (i + 1) = k + 1 + i by omega]; exact hi) (fun Γ' Δ' q => hn Γ' Δ' (by rw [show k + 1 + i + 1 = k + (i + 1) + 1 by omega]; exact q)) (fun Γ' Δ' q => hc Γ' Δ' (by rw [show k + 1 + i + 1 = k + (i + 1) + 1 by omega]; exact q)))
      (fun Γ Δ q => hd Γ Δ (by rw [show k + (x :: xs).length = k + 1 + xs.length by rw [List.length_cons]; omega]; exact q))
    exact hs 0 x Γ Δ { Z with nx := loopZ body Z xs, ct := loopZ body Z xs, bk := Z.nx } rfl h0 tail tail rfl rfl
/-- the same where the number of turns does not matter -/
theorem loop_all {body : D → ZS} {Z : ZEnds} (I : Env → Store → Prop) {xs : List D} {Γ : Env} {Δ : Store} (h0 : I Γ Δ)
    (hs : ∀ x Γ Δ (Z' : ZEnds), x ∈ xs → I Γ Δ → (∀ Γ' Δ', I Γ' Δ' → Z'.nx Γ' Δ') → (∀ Γ' Δ', I Γ' Δ' → Z'.ct Γ' Δ') → Z'.rt = Z.rt → Z'.bk = Z.nx → body x Z' Γ Δ)
    (hd : ∀ Γ Δ, I Γ Δ → Z.nx Γ Δ) : loopZ body Z xs Γ Δ :=
  loop_inv (fun _ => I) xs 0 Γ Δ h0 (fun _ x Γ Δ Z' hx => hs x Γ Δ Z' (List.mem_of_getElem? hx)) hd
/-! ### comprehensions -/
/-- each item gives f of it, the store stays -/
theorem comp_map {zg : ZG} {ze : ZE} {Γ0 : Env} {P : D → Store → Prop} {Δ : Store} {α : Type} {g : α → D} {f : α → D} : ∀ (xs : List α) (acc : List D), acc.length + xs.length ≤ 100000 →
    (∀ x ∈ xs, ∀ Q : D → Store → Prop, Q (f x) Δ → zg (g x) Γ0 Δ fun Γ2 Δ2 => ze Γ2 Δ2 Q) → P (.lst (acc ++ xs.map f)) Δ → compZ zg zYes ze Γ0 P (xs.map g) acc Δ
  | [], acc, _, _, h => by simpa [compZ] using h
  | x :: xs, acc, hl, hs, h => by
    have ih : compZ zg zYes ze Γ0 P (xs.map g) (acc ++ [f x]) Δ := comp_map xs (acc ++ [f x]) (by simp at hl ⊢; omega) (fun y hy => hs y (List.mem_cons_of_mem _ hy)) (by simpa using h)
    show zg (g x) Γ0 Δ fun Γ2 Δ2 => (true = true → ze Γ2 Δ2 fun y Δ4 => acc.length < 100000 ∧ compZ zg zYes ze Γ0 P (xs.map g) (acc ++ [y]) Δ4) ∧ (true = false → compZ zg zYes ze Γ0 P (xs.map g) acc Δ2)
    simp only [true_implies, reduceCtorEq, false_implies, and_true]
    exact hs x List.mem_cons_self _ ⟨by simp at hl; omega, ih⟩
end Z

/-! Z9: a call that is given a cell's content: the def neither changes nor keeps the cell. -/
namespace Z
open PySem PySem.Spec PyProof.Rows L2
section
variable {K : PySem.W.Frag} {C : CI} {S A : List Addr} {H : Hp} {Δ : Store}
mutual
theorem Rep.bare : ∀ (d : D) {v : V}, below 0 d = true → Rep K C S A H v d → Rep K C S [] H v d
  | .non, _, _, h => by cases h; exact .non
  | .bl b, _, _, h => by cases h; exact .bl b
  | .int i, _, _, h => by cases h; exact .int i
  | .str x, _, _, h => by cases h; exact .str x
  | .ty n, _, _, h => by cases h; exact .ty n
  | .cls c, _, _, h => by cases h; exact .cls c
  | .ktup ns, _, _, h => by cases h with | ktup h => exact .ktup h
  | .tup ds, _, hb, h => by cases h with | tup h hA hS r => exact .tup h (fun q => nomatch q) hS (RepL.bare ds hb r)
  | .lst ds, _, hb, h => by cases h with | lst h hA hS r => exact .lst h (fun q => nomatch q) hS (RepL.bare ds hb r)
  | .ins c ds, _, hb, h => by cases h with | ins h hA hS hl r => exact .ins h (fun q => nomatch q) hS hl (RepL.bare ds hb r)
  | .dct ks ds, _, hb, h => by cases h with | dct h hA hS hl r => exact .dct h (fun q => nomatch q) hS hl (RepL.bare ds hb r)
  | .cell n, _, hb, h => by have := of_decide_eq_true (p := n < 0) hb; omega
  | .scr ns, _, _, h => by
    cases h with
    | scr h =>
      rcases h with ⟨h, hA, hS⟩ | h
      · exact .scr (.inl ⟨h, (fun q => nomatch q), hS⟩)
      · exact .scr (.inr h)
theorem RepL.bare : ∀ (ds : List D) {vs : List V}, belowL 0 ds = true → RepL K C S A H vs ds → RepL K C S [] H vs ds
  | [], _, _, h => by cases h; exact .nil
  | d :: ds, _, hb, h => by
    have hb' : (below 0 d && belowL 0 ds) = true := hb
    rw [Bool.and_eq_true] at hb'
    cases h with
    | cons h r => exact .cons (Rep.bare d hb'.1 h) (RepL.bare ds hb'.2 r)
end
/-- a cell that holds a list, read -/
def thaw (Δ : Store) : D → D
  | .cell n => match Δ[n]? with
    | some (.lst ds) => .lst ds
    | some (.dct ks ds) => .dct ks ds
    | _ => .cell n
  | d => d
theorem Rep.thw (hc : Cells K C S A H Δ) : ∀ (d : D) {v : V}, Z.below 0 (Z.thaw Δ d) = true → Rep K C S A H v d → Rep K C S [] H v (Z.thaw Δ d)
  | .cell n, v, hb, h => by
    unfold Z.thaw at hb ⊢
    cases q : Δ[n]? with
    | none => simp only [q] at hb; have := of_decide_eq_true (p := n < 0) hb; omega
    | some o =>
      cases o with
      | ins c fs => simp only [q] at hb; have := of_decide_eq_true (p := n < 0) hb; omega
      | dct ks ds =>
        simp only [q] at hb ⊢
        cases h with
        | cell e =>
          obtain ⟨xs, h1, h0, h2⟩ := hc.at_ n _ _ e q
          exact .dct (.inl h1) (fun q => nomatch q) (hc.dj _ (List.mem_of_getElem? e)) h0 (RepL.bare ds hb h2)
      | lst ds =>
        simp only [q] at hb ⊢
        cases h with
        | cell e =>
          obtain ⟨xs, h1, h2⟩ := hc.at_ n _ _ e q
          exact .lst h1 (fun q => nomatch q) (hc.dj _ (List.mem_of_getElem? e)) (RepL.bare ds hb h2)
  | .non, _, hb, h => Rep.bare .non hb h
  | .bl b, _, hb, h => Rep.bare (.bl b) hb h
  | .int i, _, hb, h => Rep.bare (.int i) hb h
  | .str x, _, hb, h => Rep.bare (.str x) hb h
  | .ty n, _, hb, h => Rep.bare (.ty n) hb h
  | .cls c, _, hb, h => Rep.bare (.cls c) hb h
  | .ktup c, _, hb, h => Rep.bare (.ktup c) hb h
  | .tup ds, _, hb, h => Rep.bare (.tup ds) hb h
  | .lst ds, _, hb, h => Rep.bare (.lst ds) hb h
  | .ins c ds, _, hb, h => Rep.bare (.ins c ds) hb h
  | .scr ns, _, hb, h => Rep.bare (.scr ns) hb h
  | .dct ks ds, _, hb, h => Rep.bare (.dct ks ds) hb h
theorem RepL.thw (hc : Cells K C S A H Δ) : ∀ (ds : List D) {vs : List V}, Z.belowL 0 (ds.map (Z.thaw Δ)) = true → RepL K C S A H vs ds → RepL K C S [] H vs (ds.map (Z.thaw Δ))
  | [], _, _, h => by cases h; exact .nil
  | d :: ds, _, hb, h => by
    have hb' : (Z.below 0 (Z.thaw Δ d) && Z.belowL 0 (ds.map (Z.thaw Δ))) = true := hb
    rw [Bool.and_eq_true] at hb'
    cases h with
    | cons h r => exact .cons (Rep.thw hc d hb'.1 h) (RepL.thw hc ds hb'.2 r)
/-- a value that stands nowhere -/
def bareD : D → Bool
  | .non | .bl _ | .int _ | .str _ => true
  | _ => false
theorem Rep.of_bare {A' : List Addr} {v : V} {d : D} (hb : bareD d = true) (h : Rep K C S A' H v d) : Rep K C S A H v d := by
  cases h with
  | non => exact .non
  | bl b => exact .bl b
  | int i => exact .int i
  | str x => exact .str x
  | _ => cases hb
end
def zCallB (W : ZRC) (za : ZA) : ZE := fun Γ Δ P => za Γ Δ fun ds Δ1 => Z.belowL 0 (ds.map (Z.thaw Δ1)) = true ∧ W (ds.map (Z.thaw Δ1)) [] fun d _ => bareD d = true ∧ P d Δ1
section
variable {C : CI} {X : Cx} {e : Expr} {es : List Expr} {za : ZA} {pos p : Pos} {x : Str} {k : Nat} {f : Addr} {fd : FuncData} {ps : List Str} {W : ZRC}
theorem ref_callB {K : PySem.W.Frag} {ta : TA} {E : XK} (ha : RefA K C ta za) : RefE K C (tCall (SpZ K C W) [] E ta) (zCallB W za) := fun S A σ H Γ Δ P Q hs hc hz k =>
  ha S A σ H Γ Δ _ _ hs hc hz fun vs ds A1 H1 Δ1 e1 c1 r1 p => by
    obtain ⟨hb, p⟩ := p
    refine ⟨S, [], [], ds.map (Z.thaw Δ1), _, ?_, ⟨rfl, .nil, (fun a ha => nomatch ha), c1.as, (fun n a o h => nomatch h)⟩, p, fun v d A' H' Δ' e2 c2 r2 p2 => ?_⟩
    · rw [List.append_nil]; exact RepL.thw c1 ds hb r1
    · have kp : ∀ a o, H1 a = some o → H' a = some o := fun a o h => e2.keep a o (fun q => nomatch q) h
      exact k v d A1 H' Δ1 (e1.trans (Ext.kept kp)) (c1.kept kp) (r2.of_bare p2.1) p2.2
theorem ez_callb (F : FnOk X.prog X.w X.K X.mg X.base CX0 k f fd ps (SpZ X.K C W)) (hr : Room k X.A) (hm : X.mg x = some (.ref f)) (hk : PySem.W.keepIn X.K (.ref f) = true) (hb : Binds X.K fd ps [])
    (ha : AZ C X (e :: es) za) (hg : Gl X x := by rfl) (hdb : (x == ("__debug__" : Str)) = false := by decide) (he : starEach (e :: es) X.env = (false, eval e X.env) :: starEach es X.env := by rfl) (hpl : (backTo pos (starEach es X.env)).any (·.1) = false := by rfl) :
    EZ C X (.Call (.Name x p) (e :: es) [] pos) (zCallB W za) := by
  obtain ⟨t, a1, a2⟩ := ha.ex
  exact ⟨_, pe_call F hr hg hm hk hb .nil pass0 a1 hdb he hpl, ref_callB a2⟩
end
end Z

/-! Z10: an instance made by a call with keywords; a tuple's cut. -/
namespace Z
open PySem PySem.Spec PyProof.Rows L2
/-- where a parameter's value comes from: the i-th default, the j-th keyword -/
inductive Pk where
  | d (i : Nat)
  | k (j : Nat)
def picked {α : Type} (its ws : List α) : List Pk → List α
  | [] => []
  | .d i :: r => its[i]?.toList ++ picked its ws r
  | .k j :: r => ws[j]?.toList ++ picked its ws r
theorem Vals.opt {vs : List V} {us : List Value} (r : Vals vs us) (i : Nat) : Vals (vs[i]?.toList) (us[i]?.toList) := by
  induction r generalizing i with
  | nil => simp only [List.getElem?_nil, Option.toList_none]; exact .nil
  | cons h r ih =>
    cases i with
    | zero => exact .cons h .nil
    | succ i => exact ih i
theorem Vals.picked {vs zs : List V} {us ws : List Value} (r : Vals vs us) (r2 : Vals zs ws) : ∀ l : List Pk, Vals (Z.picked vs zs l) (Z.picked us ws l)
  | [] => .nil
  | .d i :: l => (Vals.opt r i).append (Vals.picked r r2 l)
  | .k j :: l => (Vals.opt r2 j).append (Vals.picked r r2 l)
section
variable {K : PySem.W.Frag} {C : CI} {S A : List Addr} {H : Hp}
theorem RepL.opt : ∀ {vs : List V} {ds : List D} (r : RepL K C S A H vs ds) (i : Nat), RepL K C S A H (vs[i]?.toList) (ds[i]?.toList)
  | _, _, .nil, i => by simp only [List.getElem?_nil, Option.toList_none]; exact .nil
  | _, _, .cons h r, 0 => .cons h .nil
  | _, _, .cons h r, i + 1 => RepL.opt r i
theorem RepL.picked {vs zs : List V} {us ws : List D} (r : RepL K C S A H vs us) (r2 : RepL K C S A H zs ws) : ∀ l : List Pk, RepL K C S A H (Z.picked vs zs l) (Z.picked us ws l)
  | [] => .nil
  | .d i :: l => (RepL.opt r i).append (RepL.picked r r2 l)
  | .k j :: l => (RepL.opt r2 j).append (RepL.picked r r2 l)
end
/-- no built-in type's value is an instance of an own class -/
theorem kit_no {K : PySem.W.Frag} {n : String} {Ca : Addr} (h1 : PySem.W.isClsIn K Ca = true) (h2 : PySem.W.typeIn K (.ref Ca) = some (.type "type")) (h3 : PySem.W.notFirst K Ca (.type n) = true) : PySem.W.kitOne K (.type n) (.ref Ca) = some false := by
  have e : (Value.type n == Value.ref Ca) = false := rfl
  unfold PySem.W.notFirst at h3
  rw [e, Bool.false_or] at h3
  unfold PySem.W.kitOne PySem.W.kitCls
  rw [e, if_neg (by decide)]
  show (if ((PySem.W.clsIn K Ca).isSome && PySem.W.typeIn K (.ref Ca) == some (.type "type")) = true then _ else none) = _
  rw [if_pos]
  · exact beq_iff_eq.mp h3
  · rw [show (PySem.W.clsIn K Ca).isSome = true from h1, h2]
    exact beq_self_eq_true _
/-- C(e, .., k = v, ..), never changed again -/
def zMakeK (C : CI) (c n m : Nat) (W : ZRC) (dds : List D) (l : List Pk) (za zk : ZA) : ZE := fun Γ Δ P => za Γ Δ fun ds Δ1 => zk Γ Δ1 fun zs Δ2 => ds.length = n ∧ zs.length = m ∧
  W (.cell Δ2.length :: (ds ++ picked dds zs l)) (Δ2 ++ [.ins c []]) fun v Δ3 => v = .non ∧ ∃ es, Δ3 = Δ2 ++ [.ins c ((C.nms c).zip es)] ∧ es.length = (C.nms c).length ∧ belowL Δ2.length es = true ∧ P (.ins c es) Δ2
/-- keywords -/
structure KZ (C : CI) (X : Cx) (kws : List Keyword) (z : ZA) : Prop where
  ex : ∃ t, PK X kws t ∧ RefA X.K C t z
section
variable {C : CI} {X : Cx} {e : Expr} {es : List Expr} {kws : List Keyword} {za zk : ZA} {ze : ZE} {pos p kpos : Pos} {x : Str} {k n : Nat} {f : Addr} {fd : FuncData} {ps ks : List Str} {W : ZRC} {dvs : List V} {dds : List D} {l : List Pk} {nm : Option Str}
theorem kz_nil : KZ C X [] zNil := ⟨_, pk_nil, fun S A σ H Γ Δ P Q hs hc hz k => k [] [] A H Δ (Ext.refl _ _) hc .nil hz⟩
theorem kz_cons (ha : EZ C X e ze) (hr : KZ C X kws zk) : KZ C X (⟨nm, e, kpos⟩ :: kws) (zCons ze zk) := by
  obtain ⟨t, h1, h2⟩ := ha.ex
  obtain ⟨u, g1, g2⟩ := hr.ex
  exact ⟨_, pk_cons h1 g1, fun S A σ H Γ Δ P Q hs hc hz k => h2 S A σ H Γ Δ _ _ hs hc hz fun x dx A1 H1 Δ1 e1 c1 r1 hz1 =>
    g2 S A1 σ H1 Γ Δ1 _ _ (hs.ext e1) c1 hz1 fun vs ds A2 H2 Δ2 e2 c2 r2 p => k _ _ A2 H2 Δ2 (e1.trans e2) c2 (.cons (r1.ext e2) r2) p⟩
theorem ref_makeK {K : PySem.W.Frag} {c m : Nat} {ta tk : TA} {E : XK} (ha : RefA K C ta za) (hk : RefA K C tk zk) (hdd : ∀ S A H, RepL K C S A H dvs dds) : RefE K C (tMakeK (C.adr c) n m (SpZ K C W) (fun vs zs => vs ++ picked dvs zs l) E ta tk) (zMakeK C c n m W dds l za zk) := fun S A σ H Γ Δ P Q hs hc hz k =>
  ha S A σ H Γ Δ _ _ hs hc hz fun vs ds A0 H0 Δ0 e0 c0 r0 p0 => hk S A0 σ H0 Γ Δ0 _ _ (hs.ext e0) c0 p0 fun zs ks A1 H1 Δ1 e01 c1 rk p => by
    obtain ⟨l1, l2, p⟩ := p
    have r1 := r0.ext e01
    have e1 := e0.trans e01
    refine ⟨by rw [r1.length]; exact l1, by rw [rk.length]; exact l2, fun x dx hx hdx hne => ?_⟩
    have hx0 : upd H1 dx (.own x) x = none := by rw [upd_ne (Ne.symm hne)]; exact hx
    have e2 : Ext A1 H1 A1 (upd H1 dx (.own x)) := Ext.new hdx
    have e3 : Ext A1 (upd H1 dx (.own x)) (A1 ++ [x]) (upd (upd H1 dx (.own x)) x (.ins (C.adr c) dx [])) := Ext.newCell hx0
    have e23 := e2.trans e3
    refine ⟨S, A1 ++ [x], Δ1 ++ [.ins c []], .cell Δ1.length :: (ds ++ picked dds ks l), _, .cons (.cell ?_) ((r1.ext e23).append (RepL.picked (hdd _ _ _) (rk.ext e23) l)), (c1.new hdx).newO (o := .ins c []) hx0 ⟨dx, [], upd_same, rfl, .nil⟩, p, fun v d A' H' Δ' e4 c4 r4 p4 => ?_⟩
    · rw [← c1.len, List.getElem?_append_right (Nat.le_refl _), Nat.sub_self] <;> rfl
    · obtain ⟨rfl, es, rfl, hl, hb, p4⟩ := p4
      cases r4
      refine ⟨rfl, ?_⟩
      have hA' : A' = A1 ++ [x] := by
        obtain ⟨B, hB, _⟩ := e4.pre
        have hlen := c4.len
        rw [hB, List.length_append, List.length_append, List.length_append, c1.len] at hlen
        have hB0 : B.length = 0 := by
          have h1 : ([x] : List Addr).length = 1 := rfl
          have h2 : ([O.ins c ((C.nms c).zip es)] : List O).length = 1 := rfl
          omega
        rw [List.length_eq_zero_iff.mp hB0, List.append_nil] at hB
        exact hB
      subst hA'
      obtain ⟨c5, r5⟩ := c1.freeze c4 hl (by rw [c1.len]; exact hb)
      have e14 := e23.trans e4
      refine k _ _ A1 H' Δ1 (e1.trans ⟨⟨[], by simp, by simp⟩, fun a o h1 h2 => e14.keep a o h1 h2, e14.trk⟩) c5 r5 p4
theorem ez_makeK {c : Nat} (M : Mk X.K (C.adr c) f) (F : FnOk X.prog X.w X.K X.mg X.base CX0 k f fd ps (SpZ X.K C W)) (hr : Room (k + 1) X.A) (hm : X.mg x = some (.ref (C.adr c))) (hb : ∃ its : List Value, KBn X.K fd ps (n + 1) ks (fun us ws => us ++ picked its ws l) (fun vs zs => vs ++ picked dvs zs l))
    (hdd : ∀ S A H, RepL X.K C S A H dvs dds) (ha : AZ C X (e :: es) za) (hk : KZ C X kws zk) (hg : Gl X x := by rfl)
    (hall : (backToKw pos (keywordEach kws X.env)).all (·.1.isSome) = true := by rfl) (hks : (backToKw pos (keywordEach kws X.env)).filterMap (·.1) = ks := by rfl) (hdb : (x == ("__debug__" : Str)) = false := by decide)
    (he : starEach (e :: es) X.env = (false, eval e X.env) :: starEach es X.env := by rfl) (hpl : ((backTo pos (starEach (e :: es) X.env)).any (·.1) || (backToKw pos (keywordEach kws X.env)).any (·.1.isNone)) = false := by rfl) :
    EZ C X (.Call (.Name x p) (e :: es) kws pos) (zMakeK C c n ks.length W dds l za zk) := by
  obtain ⟨t, a1, a2⟩ := ha.ex
  obtain ⟨u, k1, k2⟩ := hk.ex
  obtain ⟨its, hb⟩ := hb
  exact ⟨_, pe_makeK M F hr hg hm hb pass0 (E := E0) a1 k1 hall hks hdb he hpl, ref_makeK a2 k2 hdd⟩
theorem ez_makeK0 {c : Nat} (M : Mk X.K (C.adr c) f) (F : FnOk X.prog X.w X.K X.mg X.base CX0 k f fd ps (SpZ X.K C W)) (hr : Room (k + 1) X.A) (hm : X.mg x = some (.ref (C.adr c))) (hb : ∃ its : List Value, KBn X.K fd ps 1 ks (fun us ws => us ++ picked its ws l) (fun vs zs => vs ++ picked dvs zs l))
    (hdd : ∀ S A H, RepL X.K C S A H dvs dds) (hk : KZ C X kws zk) (hg : Gl X x := by rfl)
    (hall : (backToKw pos (keywordEach kws X.env)).all (·.1.isSome) = true := by rfl) (hks : (backToKw pos (keywordEach kws X.env)).filterMap (·.1) = ks := by rfl) (hdb : (x == ("__debug__" : Str)) = false := by decide)
    (hpl : ((backTo pos (starEach [] X.env)).any (·.1) || (backToKw pos (keywordEach kws X.env)).any (·.1.isNone)) = false := by rfl) :
    EZ C X (.Call (.Name x p) [] kws pos) (zMakeK C c 0 ks.length W dds l zNil zk) := by
  obtain ⟨u, k1, k2⟩ := hk.ex
  obtain ⟨its, hb⟩ := hb
  exact ⟨_, pe_makeK0 M F hr hg hm hb pass0 (E := E0) k1 hall hks hdb hpl, ref_makeK (n := 0) (fun S A σ H Γ Δ P Q hs hc hz k => k [] [] A H Δ (Ext.refl _ _) hc .nil hz) k2 hdd⟩
theorem ez_makeD {c : Nat} (M : Mk X.K (C.adr c) f) (F : FnOk X.prog X.w X.K X.mg X.base CX0 k f fd ps (SpZ X.K C W)) (hr : Room (k + 1) X.A) (hm : X.mg x = some (.ref (C.adr c))) (hb : ∃ ts : List Value, Vals dvs ts ∧ Binds X.K fd ps ts) (hdd : ∀ S A H, RepL X.K C S A H dvs dds)
    (ha : AZ C X (e :: es) za) (hg : Gl X x := by rfl) (hdb : (x == ("__debug__" : Str)) = false := by decide) (he : starEach (e :: es) X.env = (false, eval e X.env) :: starEach es X.env := by rfl) (hpl : (backTo pos (starEach es X.env)).any (·.1) = false := by rfl) :
    EZ C X (.Call (.Name x p) (e :: es) [] pos) (zMakeF C c W dds za) := by
  obtain ⟨ts, h1, h2⟩ := hb
  exact ez_makeF M F hr hm h2 h1 hdd ha hg hdb he hpl
/-- t[lo:hi], not the whole of it -/
def zSlT (z : ZE) (zl zh : ZO) : ZE := fun Γ Δ P => z Γ Δ fun x Δ1 => zl Γ Δ1 fun l Δ2 => zh Γ Δ2 fun u Δ3 => ∃ ds, x = .tup ds ∧ ¬ (HT.sIx ds.length 0 l = 0 ∧ HT.sIx ds.length ds.length u = ds.length) ∧ P (.tup (Z.cutD ds l u)) Δ3
theorem ez_slT {a : Expr} {lo hi : Option Expr} {z : ZE} {zl zh : ZO} {p2 : Pos} (ha : EZ C X a z) (hl : OZ C X lo zl) (hh : OZ C X hi zh) : EZ C X (.Subscript a (.Slice lo hi none p2) pos) (zSlT z zl zh) := by
  obtain ⟨t, a1, a2⟩ := ha.ex
  obtain ⟨tl, l1, l2⟩ := hl.ex
  obtain ⟨th, u1, u2⟩ := hh.ex
  refine ⟨_, pe_slice sl_tup a1 l1 u1, fun S A σ H Γ Δ P Q hs hc hz k => a2 S A σ H Γ Δ _ _ hs hc hz fun x dx A1 H1 Δ1 e1 c1 r1 hz1 => ?_⟩
  refine l2 S A1 σ H1 Γ Δ1 _ _ (hs.ext e1) c1 hz1 fun l A2 H2 Δ2 e2 c2 hz2 => u2 S A2 σ H2 Γ Δ2 _ _ ((hs.ext e1).ext e2) c2 hz2 fun u A3 H3 Δ3 e3 c3 hz3 => ?_
  obtain ⟨ds, rfl, hw, p⟩ := hz3
  have r3 := (r1.ext e2).ext e3
  cases r3 with
  | tup g1 g2 g3 g4 =>
    rename_i a xs
    refine ⟨a, xs, rfl, SqT.of g1, by rw [g4.length]; exact hw, fun q hq => ?_⟩
    have hcut : RepL X.K C S A3 H3 (cutV xs l u) (Z.cutD ds l u) := by
      unfold cutV Z.cutD
      rw [g4.length]
      exact (g4.drop _).take _
    have e4 := Ext.new (A := A3) (o := .tup (cutV xs l u)) hq
    exact k _ _ A3 _ Δ3 (((e1.trans e2).trans e3).trans e4) (c3.new hq) (.tup upd_same (c3.fresh hq) (c3.aside hq) (hcut.ext e4)) p
end
/-! ### a new list that the caller never changes, made while cells were written -/
def blwO (m : Nat) : O → Bool
  | .lst ds => belowL m ds
  | .ins _ fs => belowL m (fs.map (·.2))
  | .dct _ ds => belowL m ds
theorem Cells.freezeM {K : PySem.W.Frag} {C : CI} {S A : List Addr} {H H0 : Hp} {Δ Δ1 : Store} {x : Addr} {es : List D} (c1 : Cells K C S A H0 Δ) (hc : Cells K C S (A ++ [x]) H (Δ1 ++ [.lst es])) (hl : Δ1.length = Δ.length)
    (hw : ∀ (n : Nat) (o : O), Δ1[n]? = some o → Δ[n]? = some o ∨ blwO Δ.length o = true) (hb : belowL A.length es = true) : Cells K C S A H Δ1 ∧ Rep K C S A H (.ref x) (.lst es) := by
  have lenΔ : A.length = Δ1.length := by rw [hl]; exact c1.len
  refine ⟨⟨lenΔ, c1.nd, c1.dj, hc.as, fun n a o h1 h2 => ?_⟩, ?_⟩
  · have hn : n < A.length := (List.getElem?_eq_some_iff.mp h1).1
    have q := hc.at_ n a o (by rw [List.getElem?_append_left hn]; exact h1) (by rw [List.getElem?_append_left (by rw [← lenΔ]; exact hn)]; exact h2)
    have hb2 : blwO A.length o = true := by
      rcases hw n o h2 with h | h
      · have q0 := c1.at_ n a o h1 h
        cases o with
        | lst ds =>
          obtain ⟨_, _, g3⟩ := q0
          exact RepL.blw ds g3
        | ins c fs =>
          obtain ⟨_, _, _, _, g4⟩ := q0
          exact RepL.blw _ g4
        | dct ks ds =>
          obtain ⟨_, _, _, g4⟩ := q0
          exact RepL.blw _ g4
      · rw [c1.len]; exact h
    cases o with
    | lst ds =>
      obtain ⟨xs, g1, g2⟩ := q
      exact ⟨xs, g1, RepL.drop_ ds hb2 g2⟩
    | ins c fs =>
      obtain ⟨dx, xs, g1, g2, g3⟩ := q
      exact ⟨dx, xs, g1, g2, RepL.drop_ _ hb2 g3⟩
    | dct ks ds =>
      obtain ⟨xs, g1, g2, g3⟩ := q
      exact ⟨xs, g1, g2, RepL.drop_ _ hb2 g3⟩
  · have q := hc.at_ A.length x (.lst es) (by rw [List.getElem?_append_right (Nat.le_refl _), Nat.sub_self] <;> rfl) (by rw [lenΔ, List.getElem?_append_right (Nat.le_refl _), Nat.sub_self] <;> rfl)
    obtain ⟨xs, g1, g2⟩ := q
    have hx : x ∉ A := fun h => by
      have := List.nodup_append.mp hc.nd
      exact this.2.2 x h x (by simp) rfl
    exact .lst g1 hx (hc.dj x (by simp)) (RepL.drop_ es hb g2)
def frzM (W : ZRC) : ZRC := fun ds Δ P => W ds Δ fun d Δ' => ∃ es Δ1, d = .cell Δ1.length ∧ Δ' = Δ1 ++ [.lst es] ∧ Δ1.length = Δ.length ∧ (∀ (n : Nat) (o : O), Δ1[n]? = some o → Δ[n]? = some o ∨ blwO Δ.length o = true) ∧ belowL Δ.length es = true ∧ P (.lst es) Δ1
section
variable {P : Program} {w : World} {K : PySem.W.Frag} {mg : Str → Option Value} {base : Heap} {C : CI} {k : Nat} {f : Addr} {fd : FuncData} {ps : List Str} {W : ZRC}
theorem sp_frzM {vs : List V} {H : Hp} {Q : VK} {E : XK} (h : SpZ K C (frzM W) vs H Q E) : SpZ K C W vs H Q E := by
  obtain ⟨S, A, Δ, ds, P, r, hc, hw, kk⟩ := h
  refine ⟨S, A, Δ, ds, _, r, hc, hw, fun v d A' H' Δ' e c r' q => ?_⟩
  obtain ⟨es, Δ1, rfl, rfl, hl, hch, hb, p⟩ := q
  cases r' with
  | cell g =>
    rename_i x
    have hA' : A' = A ++ [x] := by
      obtain ⟨B, hB, _⟩ := e.pre
      have hlen := c.len
      have hl1 : ([O.lst es] : List O).length = 1 := rfl
      rw [hB, List.length_append, List.length_append, hc.len, hl1, hl] at hlen
      have hB1 : B.length = 1 := by omega
      obtain ⟨b, hb1⟩ := List.length_eq_one_iff.mp hB1
      rw [hB, hb1, hl, ← hc.len, List.getElem?_append_right (Nat.le_refl _), Nat.sub_self] at g
      cases g
      rw [hB, hb1]
    subst hA'
    obtain ⟨c5, r5⟩ := hc.freezeM c hl hch (by rw [hc.len]; exact hb)
    exact kk _ _ A H' Δ1 ⟨⟨[], by simp, by simp⟩, fun a o h1 h2 => e.keep a o h1 h2, e.trk⟩ c5 r5 p
theorem fn_frzM (F : FnOk P w K mg base CX0 k f fd ps (SpZ K C W)) : FnOk P w K mg base CX0 k f fd ps (SpZ K C (frzM W)) := F.imp fun _ _ _ _ h => sp_frzM h
end
end Z

/-! Z11: a comprehension with two generators. -/
namespace Z
open PySem PySem.Spec PyProof.Rows L2
/-- the outer items; the inner ones go on with the same new list -/
def comp2Z (zg : ZG) (zt : ZT) (zi1 : ZI) (zg1 : ZG) (zt1 : ZT) (ze : ZE) (vs1 : List Nat) (Γ0 : Env) (P : D → Store → Prop) : List D → List D → Store → Prop
  | [], acc, Δ => P (.lst acc) Δ
  | x :: xs, acc, Δ => zg x Γ0 Δ fun Γ2 Δ2 => zt Γ2 Δ2 fun b Δ3 => (b = true → zi1 Γ2 Δ3 fun items Δ4 => compZ zg1 zt1 ze (wipeZ Γ2 vs1) (fun d Δ' => ∃ acc', d = .lst acc' ∧ comp2Z zg zt zi1 zg1 zt1 ze vs1 Γ0 P xs acc' Δ') items acc Δ4) ∧ (b = false → comp2Z zg zt zi1 zg1 zt1 ze vs1 Γ0 P xs acc Δ3)
def zLc2 (zi : ZI) (zg : ZG) (zt : ZT) (zi1 : ZI) (zg1 : ZG) (zt1 : ZT) (ze : ZE) (vs vs1 : List Nat) : ZE := fun Γ Δ P => zi Γ Δ fun items Δ1 => comp2Z zg zt zi1 zg1 zt1 ze vs1 (wipeZ Γ vs) P items [] Δ1
section
variable {K : PySem.W.Frag} {C : CI} {S : List Addr} {q : Addr}
/-- the new list at q grows -/
theorem grow_mo {A : List Addr} {H : Hp} {l : List V} : Mo (q :: S) A H (q :: S) A (upd H q (.lst l)) := ⟨⟨[], by simp, by simp⟩, fun _ h => .inl h, fun a o _ h2 h3 => by
  rw [upd_ne (fun h => h2 (by rw [h]; exact List.mem_cons_self))]; exact h3⟩
theorem grow_cells {A : List Addr} {H : Hp} {Δ : Store} {l : List V} (c : Cells K C (q :: S) A H Δ) : Cells K C (q :: S) A (upd H q (.lst l)) Δ := by
  have hq : q ∉ A := fun h => c.dj q h List.mem_cons_self
  refine ⟨c.len, c.nd, c.dj, fun a ha h => ?_, fun n a o h1 h2 => (c.at_ n a o h1 h2).mono grow_mo fun u h => ?_⟩
  · by_cases hb : a = q
    · subst hb; rw [upd_same] at h; cases h
    · rw [upd_ne hb] at h; exact c.as a ha h
  · rw [upd_ne (fun hb => hq (by rw [← hb]; exact List.mem_of_getElem? h1))]; exact h
/-- what the new list at q is, all along -/
structure At (K : PySem.W.Frag) (C : CI) (S : List Addr) (q : Addr) (A0 : List Addr) (H0 : Hp) (A : List Addr) (H : Hp) (Δ : Store) (acc : List D) : Prop where
  mo : Mo (q :: S) A0 H0 (q :: S) A H
  trk : ∀ a, H a = none → H0 a = none
  kp : ∀ a o, a ∉ A0 → a ≠ q → H0 a = some o → H a = some o
  cells : Cells K C (q :: S) A H Δ
  lst : ∃ accV, H q = some (.lst accV) ∧ RepL K C (q :: S) A H accV acc
theorem At.ext {A0 A A' : List Addr} {H0 H H' : Hp} {Δ Δ' : Store} {acc : List D} (h : At K C S q A0 H0 A H Δ acc) (e : Ext A H A' H') (c : Cells K C (q :: S) A' H' Δ') : At K C S q A0 H0 A' H' Δ' acc := by
  obtain ⟨accV, h1, h2⟩ := h.lst
  have hq : q ∉ A := fun z => h.cells.dj q z List.mem_cons_self
  obtain ⟨B, hB, nB⟩ := h.mo.pre
  obtain ⟨B', hB', nB'⟩ := e.pre
  have hin : ∀ a o, a ∈ A → H0 a = some o → a ∈ A0 := fun a o ha ho => by
    rw [hB] at ha
    rcases List.mem_append.mp ha with ha | ha
    · exact ha
    · rw [nB a ha] at ho; cases ho
  refine ⟨⟨⟨B ++ B', by rw [hB', hB, List.append_assoc], fun b hb => ?_⟩, fun _ z => .inl z, fun a o g1 g2 g3 => ?_⟩, fun a z => h.trk a (e.trk a z), fun a o g1 g2 g3 => ?_, c, accV, e.keep q _ hq h1, h2.ext e⟩
  · rcases List.mem_append.mp hb with hb | hb
    · exact nB b hb
    · exact h.trk b (nB' b hb)
  · exact e.keep a o (fun z => g1 (hin a o z g3)) (h.mo.keep a o g1 g2 g3)
  · exact e.keep a o (fun z => g1 (hin a o z g3)) (h.kp a o g1 g2 g3)
theorem At.grow {A0 A : List Addr} {H0 H : Hp} {Δ : Store} {acc : List D} {accV : List V} {y : V} {d : D} (h : At K C S q A0 H0 A H Δ acc) (h1 : H q = some (.lst accV)) (h2 : RepL K C (q :: S) A H accV acc) (r : Rep K C (q :: S) A H y d) : At K C S q A0 H0 A (upd H q (.lst (accV ++ [y]))) Δ (acc ++ [d]) := by
  refine ⟨⟨h.mo.pre, fun _ z => .inl z, fun a o g1 g2 g3 => ?_⟩, fun a z => ?_, fun a o g1 g2 g3 => ?_, grow_cells h.cells, _, upd_same, (RepL.append h2 (.cons r .nil)).mono grow_mo _⟩
  · rw [upd_ne (fun z => g2 (by rw [z]; exact List.mem_cons_self))]; exact h.mo.keep a o g1 g2 g3
  · by_cases hb : a = q
    · subst hb; rw [upd_same] at z; cases z
    · rw [upd_ne hb] at z; exact h.trk a z
  · rw [upd_ne g2]; exact h.kp a o g1 g2 g3
theorem At.here {A : List Addr} {H : Hp} {Δ : Store} {acc : List D} (c : Cells K C (q :: S) A H Δ) (l : ∃ accV, H q = some (.lst accV) ∧ RepL K C (q :: S) A H accV acc) : At K C S q A H A H Δ acc :=
  ⟨⟨⟨[], by simp, by simp⟩, fun _ z => .inl z, fun _ _ _ _ h => h⟩, fun _ h => h, fun _ _ _ _ h => h, c, l⟩
theorem drop_cons {α : Type} {l : List α} {i : Nat} {d : α} (h : l[i]? = some d) : l.drop i = d :: l.drop (i + 1) := by
  obtain ⟨hl, q⟩ := List.getElem?_eq_some_iff.mp h
  rw [← q]
  exact List.drop_eq_getElem_cons hl
theorem lc_in {wi1 : TI} {g1 : TG} {tt1 : TT} {te : TE} {zi1 : ZI} {zg1 : ZG} {zt1 : ZT} {ze : ZE} {vs1 : List Nat} (hi : RefI K C wi1 zi1) (hg : RefG K C g1 zg1) (ho : Own g1 vs1) (ht : RefT K C tt1 zt1) (he : RefE K C te ze)
    {A0 A : List Addr} {H0 H : Hp} {σ : L2.St} {Γ : Env} {Δ : Store} {acc : List D} (hs : Slots K C (q :: S) A H σ Γ) (h : At K C S q A0 H0 A H Δ acc) {R : D → Store → Prop} (p : zi1 Γ Δ fun items Δ' => compZ zg1 zt1 ze (wipeZ Γ vs1) R items acc Δ') {Nx : Hp → Prop}
    (hd : ∀ A' H' Δ' acc', At K C S q A0 H0 A' H' Δ' acc' → R (.lst acc') Δ' → Nx H') :
    wi1 σ H fun J1 H4 => ∃ W1 : Nat → Nat → Hp → Prop, (∃ m, W1 0 m H4) ∧ ∀ j k H, W1 j k H → (J1.stop j H ∧ Nx H) ∨ (J1.go j H ∧ ∃ Nx1 : Hp → Prop, (∀ H', Nx1 H' → ∃ k', k' < k ∧ W1 (j + 1) k' H') ∧ ∀ x H', J1.yld j H x H' → g1 x (wipe σ vs1) H' fun σ3 H5 => wipe σ3 vs1 = wipe σ vs1 ∧ tt1 σ3 H5 fun b H6 =>
      if b = true then te σ3 H6 fun y H7 => ∃ acc, H7 q = some (.lst acc) ∧ acc.length < sizeLine ∧ Nx1 (upd H7 q (.lst (acc ++ [y]))) else Nx1 H6) := by
  refine hi (q :: S) A σ H Γ Δ _ _ hs h.cells p fun J n G Y items A1 H1 Δ1 e1 c1 p1 hn w hG hY => ?_
  have h1 := h.ext e1 c1
  have s1 := hs.ext e1
  refine ⟨fun j k H2 => k = n - j ∧ j ≤ n ∧ ∃ A2 Δ2 acc2, At K C S q A0 H0 A2 H2 Δ2 acc2 ∧ At K C S q A1 H1 A2 H2 Δ2 acc2 ∧ compZ zg1 zt1 ze (wipeZ Γ vs1) R (items.drop j) acc2 Δ2, ⟨n, by simp, Nat.zero_le _, A1, Δ1, acc, h1, .here c1 h1.lst, p1⟩, ?_⟩
  rintro j k H2 ⟨rfl, hj, A2, Δ2, acc2, a0, a1, p2⟩
  have gg := hG (q :: S) A2 H2 a1.mo
  by_cases hlt : j < n
  · refine .inr ⟨w.goes j H2 hlt gg, fun H' => ∃ A2 Δ2 acc2, At K C S q A0 H0 A2 H' Δ2 acc2 ∧ At K C S q A1 H1 A2 H' Δ2 acc2 ∧ compZ zg1 zt1 ze (wipeZ Γ vs1) R (items.drop (j + 1)) acc2 Δ2, fun H' p' => ⟨n - (j + 1), by omega, rfl, hlt, p'⟩, fun x H3 y => ?_⟩
    obtain ⟨d, q1, q2, q3⟩ := hY (q :: S) A2 H2 Δ2 j x H3 hlt a1.mo a0.cells (w.yields j H2 x H3 hlt gg y)
    rw [drop_cons q1] at p2
    have e3 : Ext A2 H2 A2 H3 := Ext.kept q2
    have c3 := a0.cells.kept q2
    have s3 : Slots K C (q :: S) A2 H3 (wipe σ vs1) (wipeZ Γ vs1) := ((s1.mono a1.mo).ext e3).wipe vs1
    have fin : g1 x (wipe σ vs1) H3 fun σ2 H4 => wipe σ2 vs1 = wipe (wipe σ vs1) vs1 ∧ tt1 σ2 H4 fun b H5 =>
        if b = true then te σ2 H5 fun y H6 => ∃ acc, H6 q = some (.lst acc) ∧ acc.length < sizeLine ∧ ∃ A2 Δ2 acc2, At K C S q A0 H0 A2 (upd H6 q (.lst (acc ++ [y]))) Δ2 acc2 ∧ At K C S q A1 H1 A2 (upd H6 q (.lst (acc ++ [y]))) Δ2 acc2 ∧ compZ zg1 zt1 ze (wipeZ Γ vs1) R (items.drop (j + 1)) acc2 Δ2
        else ∃ A2 Δ2 acc2, At K C S q A0 H0 A2 H5 Δ2 acc2 ∧ At K C S q A1 H1 A2 H5 Δ2 acc2 ∧ compZ zg1 zt1 ze (wipeZ Γ vs1) R (items.drop (j + 1)) acc2 Δ2 := by
      refine ho _ _ _ _ (hg (q :: S) A2 (wipe σ vs1) H3 (wipeZ Γ vs1) Δ2 x d _ _ s3 c3 q3 p2 fun σ4 A4 H4 Γ4 Δ4 e4 s4 c4 p4 => ?_)
      refine ht (q :: S) A4 σ4 H4 Γ4 Δ4 _ _ s4 c4 p4 fun b A5 H5 Δ5 e5 c5 p5 => ?_
      have b0 := ((a0.ext e3 c3).ext e4 c4).ext e5 c5
      have b1 := ((a1.ext e3 c3).ext e4 c4).ext e5 c5
      cases b with
      | false => exact iteF ⟨A5, Δ5, acc2, b0, b1, p5.2 rfl⟩
      | true =>
        refine iteT (he (q :: S) A5 σ4 H5 Γ4 Δ5 _ _ (s4.ext e5) c5 (p5.1 rfl) fun y dy A6 H6 Δ6 e6 c6 r6 p6 => ?_)
        have d0 := b0.ext e6 c6
        have d1 := b1.ext e6 c6
        obtain ⟨accV, l1, l2⟩ := d0.lst
        exact ⟨accV, l1, lt_line (by rw [l2.length]; exact p6.1), A6, Δ6, acc2 ++ [dy], d0.grow l1 l2 r6, d1.grow l1 l2 r6, p6.2⟩
    rw [wipe_wipe] at fin
    exact fin
  · have e : j = n := by omega
    subst e
    rw [hn, List.drop_length] at p2
    exact .inl ⟨w.stops H2 gg, hd A2 H2 Δ2 acc2 a0 p2⟩
theorem ref_lc2 {wi wi1 : TI} {g g1 : TG} {tt tt1 : TT} {te : TE} {vs vs1 : List Nat} {zi zi1 : ZI} {zg zg1 : ZG} {zt zt1 : ZT} {ze : ZE} (hi : RefI K C wi zi) (hg : RefG K C g zg) (ho : Own g vs) (ht : RefT K C tt zt) (hi1 : RefI K C wi1 zi1) (hg1 : RefG K C g1 zg1) (ho1 : Own g1 vs1) (ht1 : RefT K C tt1 zt1) (he : RefE K C te ze) :
    RefE K C (tLc2 wi g tt wi1 g1 tt1 te vs vs1) (zLc2 zi zg zt zi1 zg1 zt1 ze vs vs1) := fun S A σ H Γ Δ P Q hs hc hz k => hi S A σ H Γ Δ _ _ hs hc hz fun J n G Y items A1 H1 Δ1 e1 c1 p hn w hG hY q hq => by
  have s1 := hs.ext e1
  have mo0 : Mo S A1 H1 (q :: S) A1 (upd H1 q (.lst [])) := ⟨⟨[], by simp, by simp⟩, fun b hb => by
    rcases List.mem_cons.mp hb with rfl | hb
    · exact .inr hq
    · exact .inl hb, fun a o _ _ h => by rw [upd_ne (ne_of_none h hq)]; exact h⟩
  have cells0 : Cells K C (q :: S) A1 (upd H1 q (.lst [])) Δ1 := by
    refine ⟨c1.len, c1.nd, fun a ha hb => ?_, fun a ha h => ?_, fun n a o h1 h2 => (c1.at_ n a o h1 h2).mono mo0 fun u h => by rw [upd_ne (ne_of_none h hq)]; exact h⟩
    · rcases List.mem_cons.mp hb with rfl | hb
      · exact c1.fresh hq ha
      · exact c1.dj a ha hb
    · rcases List.mem_cons.mp ha with rfl | ha
      · rw [upd_same] at h; cases h
      · exact c1.as a ha ((Ext.new (A := A1) hq).trk a h)
  have mo2 : ∀ {A2 : List Addr} {H2 : Hp} {Δ2 : Store} {acc : List D}, At K C S q A1 (upd H1 q (.lst [])) A2 H2 Δ2 acc → Mo S A1 H1 (q :: S) A2 H2 := fun {A2 H2 Δ2 acc} a => by
    obtain ⟨B, hB, nB⟩ := a.mo.pre
    refine ⟨⟨B, hB, fun b hb => (Ext.new (A := A1) hq).trk b (nB b hb)⟩, mo0.sub, fun x o h1 h2 h3 => ?_⟩
    have hx := ne_of_none h3 hq
    exact a.kp x o h1 hx (by rw [upd_ne hx]; exact h3)
  have ext2 : ∀ {A2 : List Addr} {H2 : Hp} {Δ2 : Store} {acc : List D}, At K C S q A1 (upd H1 q (.lst [])) A2 H2 Δ2 acc → Ext A1 H1 A2 H2 := fun {A2 H2 Δ2 acc} a => by
    obtain ⟨B, hB, nB⟩ := a.mo.pre
    refine ⟨⟨B, hB, fun b hb => (Ext.new (A := A1) hq).trk b (nB b hb)⟩, fun x o h1 h3 => ?_, fun x h => (Ext.new (A := A1) hq).trk x (a.trk x h)⟩
    have hx := ne_of_none h3 hq
    exact a.kp x o h1 hx (by rw [upd_ne hx]; exact h3)
  refine ⟨fun i m H2 => m = n - i ∧ i ≤ n ∧ ∃ A2 Δ2 acc, At K C S q A1 (upd H1 q (.lst [])) A2 H2 Δ2 acc ∧ comp2Z zg zt zi1 zg1 zt1 ze vs1 (wipeZ Γ vs) P (items.drop i) acc Δ2, ⟨n, by simp, Nat.zero_le _, A1, Δ1, [], .here cells0 ⟨[], upd_same, .nil⟩, p⟩, ?_⟩
  rintro i m H2 ⟨rfl, hin, A2, Δ2, acc, a0, p2⟩
  have gg := hG (q :: S) A2 H2 (mo2 a0)
  by_cases hlt : i < n
  · refine .inr ⟨w.goes i H2 hlt gg, fun H' => ∃ A2 Δ2 acc, At K C S q A1 (upd H1 q (.lst [])) A2 H' Δ2 acc ∧ comp2Z zg zt zi1 zg1 zt1 ze vs1 (wipeZ Γ vs) P (items.drop (i + 1)) acc Δ2, fun H' p' => ⟨n - (i + 1), by omega, rfl, hlt, p'⟩, fun x H3 y => ?_⟩
    obtain ⟨d, q1, q2, q3⟩ := hY (q :: S) A2 H2 Δ2 i x H3 hlt (mo2 a0) a0.cells (w.yields i H2 x H3 hlt gg y)
    rw [drop_cons q1] at p2
    have e3 : Ext A2 H2 A2 H3 := Ext.kept q2
    have c3 := a0.cells.kept q2
    have s3 : Slots K C (q :: S) A2 H3 (wipe σ vs) (wipeZ Γ vs) := ((s1.mono (mo2 a0)).ext e3).wipe vs
    have h5 := hg (q :: S) A2 (wipe σ vs) H3 (wipeZ Γ vs) Δ2 x d _ (fun σ4 H4 => tt σ4 H4 fun b H5 => if b = true then wi1 σ4 H5 fun J1 H4 => ∃ W1 : Nat → Nat → Hp → Prop, (∃ m, W1 0 m H4) ∧ ∀ j k H, W1 j k H → (J1.stop j H ∧ ∃ A2 Δ2 acc, At K C S q A1 (upd H1 q (.lst [])) A2 H Δ2 acc ∧ comp2Z zg zt zi1 zg1 zt1 ze vs1 (wipeZ Γ vs) P (items.drop (i + 1)) acc Δ2) ∨ (J1.go j H ∧ ∃ Nx1 : Hp → Prop, (∀ H', Nx1 H' → ∃ k', k' < k ∧ W1 (j + 1) k' H') ∧ ∀ x H', J1.yld j H x H' → g1 x (wipe σ4 vs1) H' fun σ3 H5 => wipe σ3 vs1 = wipe σ4 vs1 ∧ tt1 σ3 H5 fun b H6 =>
      if b = true then te σ3 H6 fun y H7 => ∃ acc, H7 q = some (.lst acc) ∧ acc.length < sizeLine ∧ Nx1 (upd H7 q (.lst (acc ++ [y]))) else Nx1 H6) else ∃ A2 Δ2 acc, At K C S q A1 (upd H1 q (.lst [])) A2 H5 Δ2 acc ∧ comp2Z zg zt zi1 zg1 zt1 ze vs1 (wipeZ Γ vs) P (items.drop (i + 1)) acc Δ2) s3 c3 q3 p2 fun σ4 A4 H4 Γ4 Δ4 e4 s4 c4 p4 => by
      refine ht (q :: S) A4 σ4 H4 Γ4 Δ4 _ _ s4 c4 p4 fun b A5 H5 Δ5 e5 c5 p5 => ?_
      have b0 := ((a0.ext e3 c3).ext e4 c4).ext e5 c5
      cases b with
      | false => exact iteF ⟨A5, Δ5, acc, b0, p5.2 rfl⟩
      | true => exact iteT (lc_in hi1 hg1 ho1 ht1 he (s4.ext e5) b0 (p5.1 rfl) fun A' H' Δ' acc' a' r' => by
          obtain ⟨acc2, e, r'⟩ := r'
          cases e
          exact ⟨A', Δ', acc', a', r'⟩)
    have fin := ho _ _ _ _ h5
    rw [wipe_wipe] at fin
    exact fin
  · have e : i = n := by omega
    subst e
    rw [hn, List.drop_length] at p2
    refine .inl ⟨w.stops H2 gg, ?_⟩
    obtain ⟨accV, l1, l2⟩ := a0.lst
    have c2 := a0.cells
    have hq2 : q ∉ A2 := fun h => c2.dj q h List.mem_cons_self
    have mo8 : Mo (q :: S) A2 H2 S A2 H2 := ⟨⟨[], by simp, by simp⟩, fun b hb => .inl (List.mem_cons_of_mem _ hb), fun _ _ _ _ h => h⟩
    exact k _ _ A2 H2 Δ2 (e1.trans (ext2 a0)) ⟨c2.len, c2.nd, fun a ha hb => c2.dj a ha (List.mem_cons_of_mem _ hb), fun a ha => c2.as a (List.mem_cons_of_mem _ ha), fun n a o h1 h2 => (c2.at_ n a o h1 h2).mono mo8 fun _ h => h⟩
      (.lst l1 hq2 (c1.aside hq) (RepL.mono mo8 _ l2)) p2
end
def upI (K : PySem.W.Frag) (C : CI) (zi : ZI) : TI := fun σ H R => ∃ S A Γ Δ P, Slots K C S A H σ Γ ∧ Cells K C S A H Δ ∧ zi Γ Δ P ∧
  (∀ (J : It) (n : Nat) (G : Hp → Prop) (Y : Nat → Hp → V → Hp → Prop) (items : List D) (A' : List Addr) (H' : Hp) (Δ' : Store), Ext A H A' H' → Cells K C S A' H' Δ' → P items Δ' → n = items.length → Walk J n G Y →
    (∀ S2 A2 H2, Mo S A' H' S2 A2 H2 → G H2) →
    (∀ S2 A2 H2 Δ2 i x H3, i < n → Mo S A' H' S2 A2 H2 → Cells K C S2 A2 H2 Δ2 → Y i H2 x H3 → ∃ d, items[i]? = some d ∧ (∀ a o, H2 a = some o → H3 a = some o) ∧ Rep K C S2 A2 H3 x d) → R J H')
theorem ref_upI {K : PySem.W.Frag} {C : CI} {zi : ZI} : RefI K C (upI K C zi) zi := fun S A σ H Γ Δ P R hs hc hz k => ⟨S, A, Γ, Δ, P, hs, hc, hz, k⟩
theorem IZ.up {C : CI} {X : Cx} {tg iter : Expr} {zi : ZI} (h : IZ C X tg iter zi) : PI X tg iter (upI X.K C zi) := by
  obtain ⟨t, h1, h2⟩ := h.ex
  refine ⟨fun pins s σ H R I q => h1.run pins s σ H R I ?_⟩
  obtain ⟨S, A, Γ, Δ, P, hs, hc, hz, k⟩ := q
  exact h2 S A σ H Γ Δ P R hs hc hz k
section
variable {C : CI} {X : Cx}
/-- [elt for tg in iter if .. for tg1 in iter1 if ..] -/
theorem ez_lc2 {elt tg iter tg1 iter1 : Expr} {ifs ifs1 : List Expr} {scope : Scope} {own : List (Str × Nat)} {vs1 : List Nat} {pos : Pos} {zi zi1 : ZI} {g g1 : TG} {zg zg1 : ZG} {zt zt1 : ZT} {ze : ZE} (hN : X.N.Nodup) (hi : IZ C X tg iter zi) (ok : BlkOk X.N X.env.scope scope own) (ho : Own g (own.map (·.2))) (ho1 : Own g1 vs1) (hv : ∀ i ∈ vs1, i ∈ own.map (·.2))
    (hr : RefG X.K C g zg) (hr1 : RefG X.K C g1 zg1)
    (hg : ∀ (s : Shared) (H : Hp) (Ca : Addr) (cl : List (Str × Addr)) (fp : List Addr), PG (X.blk s H scope (compEnvC scope cl Ca X.env) fp) tg g)
    (ht : ∀ (s : Shared) (H : Hp) (Ca : Addr) (cl : List (Str × Addr)) (fp : List Addr), TsZ C (X.blk s H scope (compEnvC scope cl Ca X.env) fp) ifs zt)
    (hi1 : ∀ (s : Shared) (H : Hp) (Ca : Addr) (cl : List (Str × Addr)) (fp : List Addr), IZ C (X.blk s H scope (compEnvC scope cl Ca X.env) fp) tg1 iter1 zi1)
    (hg1 : ∀ (s : Shared) (H : Hp) (Ca : Addr) (cl : List (Str × Addr)) (fp : List Addr), PG (X.blk s H scope (compEnvC scope cl Ca X.env) fp) tg1 g1)
    (ht1 : ∀ (s : Shared) (H : Hp) (Ca : Addr) (cl : List (Str × Addr)) (fp : List Addr), TsZ C (X.blk s H scope (compEnvC scope cl Ca X.env) fp) ifs1 zt1)
    (he : ∀ (s : Shared) (H : Hp) (Ca : Addr) (cl : List (Str × Addr)) (fp : List Addr), EZ C (X.blk s H scope (compEnvC scope cl Ca X.env) fp) elt ze)
    (hc : X.calm = true := by rfl) (hs : ∀ x, foldedSetIterable iter X.env x = pure x := by intro _; rfl) (hs1 : ∀ env x, foldedSetIterable iter1 env x = pure x := by intro _ _; rfl) :
    EZ C X (.ListComp elt [⟨tg, iter, ifs, 0⟩, ⟨tg1, iter1, ifs1, 0⟩] scope pos) (zLc2 zi zg zt zi1 zg1 zt1 ze (own.map (·.2)) vs1) := by
  obtain ⟨wi, i1, i2⟩ := hi.ex
  exact ⟨_, pe_lc2 hc hN i1 ok hv hg (fun s H Ca cl fp => (ht s H Ca cl fp).up) (fun s H Ca cl fp => (hi1 s H Ca cl fp).up) hg1 (fun s H Ca cl fp => (ht1 s H Ca cl fp).up) (fun s H Ca cl fp => (he s H Ca cl fp).up) hs hs1, ref_lc2 i2 hr ho ref_upT ref_upI hr1 ho1 ref_upT ref_up⟩
end
/-! ### math.lcm of great numbers -/
theorem lcm_lt {x y : Nat} (hx : x < 2 ^ 9000) (hy : y < 2 ^ 9000) : x.lcm y < 2 ^ 18000 := by
  have h : x.lcm y ≤ x * y := by
    unfold Nat.lcm
    exact Nat.div_le_self _ _
  refine Nat.lt_of_le_of_lt h ?_
  have e : 2 ^ 18000 = 2 ^ 9000 * 2 ^ 9000 := by rw [← Nat.pow_add]
  rw [e]
  exact Nat.mul_lt_mul'' hx hy
def rLcm : List V → Hp → VK → Prop := fun vs H Q => ∃ a b : Int, vs = [.int a, .int b] ∧ a.natAbs < 2 ^ 9000 ∧ b.natAbs < 2 ^ 9000 ∧ Q (.int ((Nat.lcm a.natAbs b.natAbs : Nat) : Int)) H
theorem cr_lcm {X : Cx} : CallR X (.builtin "math.lcm") rLcm := by
  intro pins s σ H vs us Q I r h
  obtain ⟨a, b, rfl, ha, hb, q⟩ := h
  obtain ⟨t, u, rfl⟩ := Vals.int2 r
  have p0 : 1 < 2 ^ 9000 := Nat.one_lt_two_pow (by decide)
  have lg : ∀ {n : Nat}, n < 2 ^ 9000 → ¬ n.log2 / 30 + 1 > 450 := fun {n} h => by
    have : n.log2 ≤ 8999 := PySem.W.mg_log (k := 8999) h
    omega
  have m1 : max 1 a.natAbs < 2 ^ 9000 := Nat.max_lt.mpr ⟨p0, ha⟩
  have m2 : max a.natAbs b.natAbs < 2 ^ 9000 := Nat.max_lt.mpr ⟨ha, hb⟩
  have e1 : Nat.lcm 1 a.natAbs = a.natAbs := Nat.lcm_one_left _
  have hsz : ((((Nat.lcm 1 a.natAbs).lcm b.natAbs : Nat) : Int)).natAbs.log2 < bitsLine := by
    rw [e1]
    have : (a.natAbs.lcm b.natAbs).log2 ≤ 17999 := PySem.W.mg_log (k := 17999) (lcm_lt ha hb)
    have e2 : ((a.natAbs.lcm b.natAbs : Nat) : Int).natAbs = a.natAbs.lcm b.natAbs := by omega
    rw [e2, bitsLine_eq]
    omega
  refine call_function_meets PySem.W.MGF.kind_lcm PySem.W.MGF.plain_lcm PySem.W.MGF.entry_lcm (PySem.W.MGF.args_lcm _ _) (PySem.W.mg_run_lcm a t b u (lg m1) (lg m2) hsz).meets ?_
  rw [e1]
  exact ⟨.int _, H, I.tok _, ⟨_, rfl⟩, q⟩
def zLcm : ZRC := fun ds Δ P => ∃ i j : Int, ds = [.int i, .int j] ∧ i.natAbs < 2 ^ 9000 ∧ j.natAbs < 2 ^ 9000 ∧ P (.int (Nat.lcm i.natAbs j.natAbs : Nat)) Δ
theorem cz_lcm {C : CI} {X : Cx} : CallZ C X (.builtin "math.lcm") zLcm := ⟨_, cr_lcm, fun S A H Δ xs ds P Q hc r hz k => by
  obtain ⟨i, j, rfl, hi, hj, q⟩ := hz
  obtain ⟨v, v', rfl, rv, rv'⟩ := two_rep r
  cases rv
  cases rv'
  exact ⟨i, j, rfl, hi, hj, k _ _ A H Δ (Ext.refl _ _) hc (.int _) q⟩⟩
/-! ### sorted({elt for tg in iter if ..}), elt an int: the reading (its rule over the heap is still to be written) -/
def zSrtS (zi : ZI) (zg : ZG) (zt : ZT) (ze : ZE) (vs : List Nat) : ZE := fun Γ Δ P => zLc zi zg zt ze vs Γ Δ fun d Δ1 => ∃ ns : List Int, d = .lst (ns.map D.int) ∧ ∀ ms : List Int, ms.Pairwise (· < ·) → (∀ k, k ∈ ms ↔ k ∈ ns) → P (.lst (ms.map D.int)) Δ1
end Z

/-! Z12: dicts whose keys are ints; sorted of such a dict, of any size; max with a default. -/
namespace Z
open PySem PySem.Spec PyProof.Rows L2
/-! ### max(xs, default=d) of a list that is not empty -/
section
variable {prog : Program} {w : World} {A : Around} {I : Addr} {fp wr : List Addr} {n : Nat} {Pv : Nat → Value → Prop} {St : Nat → Heap → Prop}
abbrev dfl (d : Value) : List (Str × Value) := [(Str.ofString "default", d)]
abbrev best (S : Addr) (vs : Array Value) (c : Nat) : Obj := { cls := .type "list", dict := none, data := .seq vs c, slots := #[] }
theorem mx_turn {R : Result → Shared → Prop} {d : Value} (W : Walks prog w A.in1 I fp wr n Pv St) (bt : Nat → Nat → Bool) (hcmp : CmpOf prog w A.in1 .Gt Pv bt) (B : Addr) (hB : B ∉ fp) :
    ∀ (k j : Nat) (s : Shared) (u : Value) (c : Nat), n = j + 1 + k → St (j + 1) s.heap → Pv (argBest bt j) u → s.heap.get? B = some (best B #[u, u] c) →
    (∀ v h' tk, Pv (argBest bt (n - 1)) v → (∀ b o, b ∉ wr → b ≠ B → s.heap.get? b = some o → h'.get? b = some o) → R (.ok (.ret v)) { s with heap := h', toks := tk }) →
    codeAny (model prog w) A (.builtin "max.loop" ⟨[.ref I, .none, .ref B], dfl d⟩) R s := by
  have hBw : B ∉ wr := fun h => hB (W.sub _ h)
  have nm : (toString "max" ++ toString ".loop" : String) = "max.loop" := by decide
  intro k
  induction k with
  | zero =>
    intro j s u c hk hst hu hS hR; have hin : j + 1 = n := by omega
    refine codeAny_builtin F.entry_max_loop ?_; rw [Around.under_plainId F.plain_max_loop _]
    show wpAny _ A.in1 (seqItems? (.ref B) >>= _) _ _ s; refine wpAny_bind (wpAny_seqItems hS rfl ?_)
    show wpAny _ A.in1 (tryCatch (pyNext (.ref I)) _ >>= _) _ _ s; refine wpAny_bind (wpAny_tryCatch (W.done s _ _ (hin ▸ hst) fun h' tk hk' => ?_))
    have hS' := hk' B _ hBw hS; show wpAny _ A.in1 (updateSeq B (fun _ => #[]) >>= _) _ _ _
    refine wpAny_bind (wpAny_updateSeq hS' rfl (wpAny_bind (wpAny_letGo (wpAny_pure ?_))))
    exact hR u _ tk (by rw [← hin]; exact hu) fun b o hbw hbB e => (Heap.get?_update_other _ _ (Ne.symm hbB)).trans (hk' b o hbw e)
  | succ k ih =>
    intro j s u c hk hst hu hS hR; have hlt : j + 1 < n := by omega
    refine codeAny_builtin F.entry_max_loop ?_; rw [Around.under_plainId F.plain_max_loop _]
    show wpAny _ A.in1 (seqItems? (.ref B) >>= _) _ _ s; refine wpAny_bind (wpAny_seqItems hS rfl ?_)
    show wpAny _ A.in1 (tryCatch (pyNext (.ref I)) _ >>= _) _ _ s; refine wpAny_bind (wpAny_tryCatch (W.item (j + 1) s _ _ hlt hst fun v h' tk hv hst' hk' => ?_))
    have hS' := hk' B _ hBw hS; show wpAny _ A.in1 (tryCatch (holding [v, v] (richCompare .Gt v u >>= _)) _ >>= _) _ _ _
    refine wpAny_bind (wpAny_tryCatch (wpAny_holding (wpAny_bind (hcmp (j + 1) (argBest bt j) v u _ _ _ hv hu ?_)))); refine wpAny_bind (wpAny_holding (wpAny_truthy_bool ?_)); refine wpAny_bind (wpAny_letGo (wpAny_pure ?_))
    cases hb : bt (j + 1) (argBest bt j) with
    | true =>
      simp only [if_true]
      refine wpAny_bind (wpAny_updateSeq hS' rfl (wpAny_bind (wpAny_letGo ?_)))
      rw [nm]
      refine wpAny_pure ⟨plainId_quiet F.plain_max_loop _, ih (j + 1) _ v _ (by omega) (W.frame _ _ _ hst' fun b hbf o e => (Heap.get?_update_other _ _ (fun h : B = b => hB (by rw [h]; exact hbf))).trans e) (by simp only [argBest, hb, if_true]; exact hv) (Heap.get?_update_self _ hS' rfl)
        fun v' h2 tk2 hv' hk2 => hR v' h2 tk2 hv' fun b o hbw hbB e => hk2 b o hbw hbB ((Heap.get?_update_other _ _ (Ne.symm hbB)).trans (hk' b o hbw e))⟩
    | false =>
      simp only [Bool.false_eq_true, if_false]
      refine wpAny_bind (wpAny_letGo ?_)
      rw [nm]
      exact wpAny_pure ⟨plainId_quiet F.plain_max_loop _, ih (j + 1) _ u c (by omega) hst' (by simp only [argBest, hb, Bool.false_eq_true, if_false]; exact hu) hS' fun v' h2 tk2 hv' hk2 =>
        hR v' h2 tk2 hv' fun b o hbw hbB e => hk2 b o hbw hbB (hk' b o hbw e)⟩
theorem mx_first {R : Result → Shared → Prop} {d : Value} (W : Walks prog w A.in1 I fp wr n Pv St) (bt : Nat → Nat → Bool) (hcmp : CmpOf prog w A.in1 .Gt Pv bt) (B : Addr) (hB : B ∉ fp) (hn : 0 < n) {s : Shared} {c : Nat} (hst : St 0 s.heap) (hS : s.heap.get? B = some (best B #[] c))
    (hR : ∀ v h' tk, Pv (argBest bt (n - 1)) v → (∀ b o, b ∉ wr → b ≠ B → s.heap.get? b = some o → h'.get? b = some o) → R (.ok (.ret v)) { s with heap := h', toks := tk }) :
    codeAny (model prog w) A (.builtin "max.loop" ⟨[.ref I, .none, .ref B], dfl d⟩) R s := by
  have hBw : B ∉ wr := fun h => hB (W.sub _ h)
  have nm : (toString "max" ++ toString ".loop" : String) = "max.loop" := by decide
  refine codeAny_builtin F.entry_max_loop ?_; rw [Around.under_plainId F.plain_max_loop _]
  show wpAny _ A.in1 (seqItems? (.ref B) >>= _) _ _ s; refine wpAny_bind (wpAny_seqItems hS rfl ?_)
  show wpAny _ A.in1 (tryCatch (pyNext (.ref I)) _ >>= _) _ _ s; refine wpAny_bind (wpAny_tryCatch (W.item 0 s _ _ hn hst fun v h' tk hv hst' hk' => ?_))
  have hS' := hk' B _ hBw hS; show wpAny _ A.in1 (updateSeq B (fun _ => #[v, v]) >>= _) _ _ _
  refine wpAny_bind (wpAny_updateSeq hS' rfl ?_)
  rw [nm]
  exact wpAny_pure ⟨plainId_quiet F.plain_max_loop _, mx_turn W bt hcmp B hB (n - 1) 0 _ v _ (by omega) (W.frame _ _ _ hst' fun b hbf o e => (Heap.get?_update_other _ _ (fun h : B = b => hB (by rw [h]; exact hbf))).trans e) hv (Heap.get?_update_self _ hS' rfl) fun v' h2 tk2 hv' hk2 =>
    hR v' h2 tk2 hv' fun b o hbw hbB e => hk2 b o hbw hbB ((Heap.get?_update_other _ _ (Ne.symm hbB)).trans (hk' b o hbw e))⟩
end
theorem args_maxD (a d : Value) : argsOk "max" ⟨[a], dfl d⟩ := by unfold argsOk; kernel_rfl
section
variable {prog : Program} {w : World} {A : Around} {E : Value → Shared → Prop} {s : Shared}
/-- what the walk of max's argument has to give -/
def MxIt (prog : Program) (w : World) (A : Around) (Q : Value → Shared → Prop) : Value → Shared → Prop := fun it s2 =>
  ∃ (I : Addr) (fp wr : List Addr) (n : Nat) (Pv : Nat → Value → Prop) (St : Nat → Heap → Prop) (bt : Nat → Nat → Bool), it = .ref I ∧ Walks prog w A.in1 I fp wr n Pv St ∧ St 0 s2.heap ∧ (∀ b ∈ fp, b < s2.heap.objs.size) ∧ 0 < n ∧
    CmpOf prog w A.in1 .Gt Pv bt ∧ ∀ v h' tk, Pv (argBest bt (n - 1)) v → (∀ b o, b ∉ wr → s2.heap.get? b = some o → h'.get? b = some o) → Q v { s2 with heap := h', toks := tk }
theorem call_treeK {id : String} {b : Builtin} {args : List Value} {kw : List (Str × Value)} {Q : Value → Shared → Prop} (hk : builtinKind id = none) (hp : plainId id = true) (hb : entryFor table id = some b) (ha : argsOk id ⟨args, kw⟩)
    (hc : wpAny (model prog w) A.in1 (b ⟨args, kw⟩) (fun fin s' => match fin with | .done f => (match (Except.ok f : Result) with | .ok (.ret v) => Q v s' | .ok _ => False | .error e => E e s') | .again c' => c'.quiet = true ∧ codeAny (model prog w) A c' (fun r s' => match r with | .ok (.ret v) => Q v s' | .ok _ => False | .error e => E e s') s') E s) :
    wpAny (model prog w) A (call (.builtin id) args kw) Q E s := by
  refine wpAny_call (codeAny_call_builtin hp hb ?_); simp only [checkBuiltinCall, hk]
  cases hsig : Manifest.signature? id with
  | none => exact wpAny_pure hc
  | some sig =>
    have h2 : Bind.checkArgs id sig ⟨args, kw⟩ = pure () := by simpa only [argsOk, hsig] using ha
    simp only [h2]; exact wpAny_pure hc
theorem mx_walk {x d : Value} {Q : Value → Shared → Prop} (h : wpAny (model prog w) A.in1 (pyIter x) (MxIt prog w A Q) E s) : wpAny (model prog w) A (call (.builtin "max") [x] (dfl d)) Q E s := by
  have nm : (toString "max" ++ toString ".loop" : String) = "max.loop" := by decide
  refine call_treeK F.kind_max F.plain_max F.entry_max (args_maxD _ _) ?_
  show wpAny _ A.in1 (Builtin.Builtins.bindParams "max" ["key", "default"] 0 ⟨[], dfl d⟩ >>= _) _ _ s
  refine wpAny_bind (wpAny_of_eq (show Builtin.Builtins.bindParams "max" ["key", "default"] 0 ⟨[], dfl d⟩ = pure [none, some d] from rfl) (wpAny_bind (wpAny_pure (wpAny_bind (wpAny_mono h (fun it s₂ h₂ => ?_) fun _ _ e => e)))))
  obtain ⟨I, fp, wr, n, Pv, St, bt, rfl, W, hst, hfp, hn, hcmp, hQ⟩ := h₂
  refine wpAny_bind (wpAny_newObj_type ?_)
  have hB : s₂.heap.objs.size ∉ fp := fun hm => Nat.lt_irrefl _ (hfp _ hm); rw [nm]
  refine wpAny_pure ⟨plainId_quiet F.plain_max_loop _, mx_first W bt hcmp s₂.heap.objs.size hB hn (W.frame _ _ _ hst fun b _ o e => Heap.get?_push_of_some _ e) (Heap.get?_push_size _ rfl) fun v h' tk hv hk => ?_⟩
  exact hQ v h' tk hv fun b o hbw e => hk b o hbw (Nat.ne_of_lt (Heap.lt_size e)) (Heap.get?_push_of_some _ e)
theorem mx_list {l : Addr} {its : List Value} {ns : List Int} {d : Value} {Q : Value → Shared → Prop} (hh : A.handled = none) (hl : s.heap.IsList l its.toArray) (hi : IntsAre its ns) (hne : 0 < ns.length)
    (h : ∀ h' tk M t', (∀ b o, s.heap.get? b = some o → h'.get? b = some o) → M ∈ ns → (∀ a, a ∈ ns → a ≤ M) → Q (.int M t') { s with heap := h', toks := tk }) : wpAny (model prog w) A (call (.builtin "max") [.ref l] (dfl d)) Q E s := by
  obtain ⟨xs, e⟩ := hi.allInts.items; have hn : numsOf (intItems xs).toList = ns := by rw [← e]; exact hi.numsOf
  rw [nums_intItems] at hn; subst hn; rw [e] at hl
  have hsz : 0 < xs.size := by simpa using hne
  refine mx_walk (iter_intList hl fun s₂ e st hfp hlI => ?_); subst e
  refine ⟨_, _, _, _, _, _, _, rfl, Walks.list (A := A.in1) hh _ l hlI (intItems xs), st, hfp, by simpa [intItems] using hsz, CmpOf.ints_gt (numAt xs) (fun _ _ => intItems_at), fun v h' tk hP hk => ?_⟩
  have hv : (intItems xs)[argBest (fun i j => decide (numAt xs i > numAt xs j)) (xs.size - 1)]? = some v := by simpa [intItems] using hP
  obtain ⟨t, rfl⟩ := intItems_at hv
  obtain ⟨h1, h2⟩ := argBest_gt (numAt xs) (xs.size - 1)
  refine h h' tk _ t (old_kept hk) ?_ fun a ha => ?_
  · rw [numAt_eq]; exact PySem.getD_mem (by rw [List.length_map, Array.length_toList]; omega)
  · obtain ⟨j, hj, rfl⟩ := mem_getD ha; rw [List.length_map, Array.length_toList] at hj; rw [← numAt_eq]; exact h2 j (by omega)
end
section
variable {C : CI} {X : Cx}
def rMaxD (K : PySem.W.Frag) : List V → List V → Hp → VK → Prop := fun vs zs H Q => ∃ (a : Addr) (ns : List Int) (d : V), vs = [V.ref a] ∧ zs = [d] ∧ SqL K H a (ns.map V.int) ∧ 0 < ns.length ∧ ∀ m, m ∈ ns → (∀ y, y ∈ ns → y ≤ m) → Q (.int m) H
theorem ck_max (hc : X.calm = true) : CallRK X (.builtin "max") [Str.ofString "default"] (rMaxD X.K) := by
  intro pins s σ H vs zs us ws Q I r rz h
  obtain ⟨a, ns, d, rfl, rfl, hs, hne, q⟩ := h
  obtain ⟨its, rv, hl, _⟩ := I.list hs
  rw [Vals.ref1 r]; obtain ⟨w, rfl, _⟩ := vals1 rz
  exact mx_list (I.ok.hd hc) hl.isList rv.ints hne fun h' tk m t' hk h1 h2 => ⟨.int _, H, I.kept hk, ⟨_, rfl⟩, q m h1 h2⟩
/-- max(xs, default=d), xs with an item -/
def zMaxD (za zk : ZA) : ZE := fun Γ Δ P => za Γ Δ fun ds Δ1 => zk Γ Δ1 fun es Δ2 => ∃ (x d : D) (ns : List Int), ds = [x] ∧ es = [d] ∧ lstD Δ2 x = some (ns.map D.int) ∧ ns ≠ [] ∧ ∀ m, m ∈ ns → (∀ y, y ∈ ns → y ≤ m) → P (.int m) Δ2
theorem ez_maxD {x : Str} {p pos : Pos} {e : Expr} {es : List Expr} {kws : List Keyword} {za zk : ZA} (hm : X.mg x = none) (hv : bootBuiltins x = some (.builtin "max")) (ha : AZ C X (e :: es) za) (hk : KZ C X kws zk) (hc : X.calm = true := by rfl) (hg : Gl X x := by rfl) (hn : x ≠ "__name__" := by decide) (hdb : (x == ("__debug__" : Str)) = false := by decide)
    (he : backTo pos (starEach (e :: es) X.env) = (false, eval e X.env) :: backTo pos (starEach es X.env) := by rfl) (hpl : (backTo pos (starEach (e :: es) X.env)).any (·.1) = false := by rfl)
    (hall : (backToKw pos (keywordEach kws X.env)).all (·.1.isSome) = true := by rfl) (hnone : (backToKw pos (keywordEach kws X.env)).any (·.1.isNone) = false := by rfl) (hks : (backToKw pos (keywordEach kws X.env)).filterMap (·.1) = [Str.ofString "default"] := by rfl) :
    EZ C X (.Call (.Name x p) (e :: es) kws pos) (zMaxD za zk) := by
  obtain ⟨t, a1, a2⟩ := ha.ex
  obtain ⟨u, k1, k2⟩ := hk.ex
  refine ⟨_, pe_callBK (ck_max hc) hg hm hv a1 k1 hn hdb he hpl hall hnone hks, fun S A σ H Γ Δ P Q hs hc hz k => ?_⟩
  refine a2 S A σ H Γ Δ _ _ hs hc hz fun vs ds A1 H1 Δ1 e1 c1 r1 hz1 => k2 S A1 σ H1 Γ Δ1 _ _ (hs.ext e1) c1 hz1 fun zs es A2 H2 Δ2 e2 c2 r2 hz2 => ?_
  obtain ⟨x, d, ns, rfl, rfl, hl, hne, q⟩ := hz2
  obtain ⟨v, rfl, rv⟩ := one_rep (r1.ext e2)
  obtain ⟨w, rfl, rw'⟩ := one_rep r2
  obtain ⟨pa, ys, rfl, hq, rr⟩ := Rep.lst_ c2 rv hl
  obtain rfl := repL_int rr
  exact ⟨pa, ns, w, rfl, rfl, SqL.of hq, List.length_pos_iff.mpr hne, fun m h1 h2 => k _ _ A2 H2 Δ2 (e1.trans e2) c2 (.int _) (q m h1 h2)⟩
end
/-! ### a dict whose keys are ints, while it is made -/
def putI (k : Int) (v : D) (l : List (Int × D)) : List (Int × D) := if (l.any fun p => decide (p.1 = k)) = true then l.map (fun p => if p.1 = k then (p.1, v) else p) else l ++ [(k, v)]
def dctP (l : List (Int × D)) : D := .dct (l.map (·.1)) (l.map (·.2))
section
variable (K : PySem.W.Frag) (C : CI) (S A : List Addr) (H : Hp)
inductive RepP : List (Key × V) → List (Int × D) → Prop where
  | nil : RepP [] []
  | cons {k : Int} {v : V} {vs : List (Key × V)} {d : D} {ds : List (Int × D)} (h : Rep K C S A H v d) (r : RepP vs ds) : RepP ((Sum.inl k, v) :: vs) ((k, d) :: ds)
end
section
variable {K : PySem.W.Frag} {C : CI} {S S' A A' : List Addr} {H H' : Hp}
theorem RepP.mono (m : Mo S A H S' A' H') : ∀ {vs : List (Key × V)} {ds : List (Int × D)}, RepP K C S A H vs ds → RepP K C S' A' H' vs ds
  | _, _, .nil => .nil
  | _, _, .cons h r => .cons (Rep.mono m _ h) (RepP.mono m r)
theorem RepP.length : ∀ {vs : List (Key × V)} {ds : List (Int × D)}, RepP K C S A H vs ds → vs.length = ds.length
  | _, _, .nil => rfl
  | _, _, .cons _ r => congrArg (· + 1) (RepP.length r)
theorem RepP.any {k : Int} : ∀ {vs : List (Key × V)} {ds : List (Int × D)}, RepP K C S A H vs ds → (vs.any fun p => decide (p.1 = Sum.inl k)) = ds.any fun p => decide (p.1 = k)
  | _, _, .nil => rfl
  | _, _, .cons (k := j) h r => by
    rw [List.any_cons, List.any_cons, RepP.any r]
    by_cases e : j = k
    · subst e; simp
    · have e' : ¬ (Sum.inl j : Key) = Sum.inl k := fun q => e (Sum.inl.inj q)
      rw [decide_eq_false e, decide_eq_false e']
theorem RepP.snoc {k : Int} {v : V} {d : D} (h : Rep K C S A H v d) : ∀ {vs : List (Key × V)} {ds : List (Int × D)}, RepP K C S A H vs ds → RepP K C S A H (vs ++ [(Sum.inl k, v)]) (ds ++ [(k, d)])
  | _, _, .nil => .cons h .nil
  | _, _, .cons h' r => .cons h' (RepP.snoc h r)
theorem RepP.over {k : Int} {v : V} {d : D} (h : Rep K C S A H v d) : ∀ {vs : List (Key × V)} {ds : List (Int × D)}, RepP K C S A H vs ds → RepP K C S A H (vs.map fun p => if p.1 = Sum.inl k then (p.1, v) else p) (ds.map fun p => if p.1 = k then (p.1, d) else p)
  | _, _, .nil => .nil
  | _, _, .cons (k := j) h' r => by
    rw [List.map_cons, List.map_cons]
    by_cases e : j = k
    · subst e
      simp only [if_true]
      exact .cons h (RepP.over h r)
    · have e' : ¬ (Sum.inl j : Key) = Sum.inl k := fun q => e (Sum.inl.inj q)
      rw [if_neg e, if_neg e']
      exact .cons h' (RepP.over h r)
theorem RepP.put {k : Int} {v : V} {d : D} {vs : List (Key × V)} {ds : List (Int × D)} (r : RepP K C S A H vs ds) (h : Rep K C S A H v d) : RepP K C S A H (putK vs (Sum.inl k) v) (putI k d ds) := by
  unfold putK putI
  rw [RepP.any r]
  split
  · exact RepP.over h r
  · exact RepP.snoc h r
theorem RepP.zip : ∀ {vs : List (Key × V)} {ds : List (Int × D)}, RepP K C S A H vs ds → vs = ((ds.map (·.1)).map Sum.inl).zip (vs.map (·.2)) ∧ RepL K C S A H (vs.map (·.2)) (ds.map (·.2))
  | _, _, .nil => ⟨rfl, .nil⟩
  | _, _, .cons h r => by
    obtain ⟨h1, h2⟩ := RepP.zip r
    refine ⟨?_, .cons h h2⟩
    rw [List.map_cons, List.map_cons, List.map_cons, List.zip_cons_cons, ← h1]
theorem RepP.of : ∀ {ks : List Int} {xs : List V} {ds : List D}, xs.length = ks.length → RepL K C S A H xs ds → RepP K C S A H ((ks.map Sum.inl).zip xs) (ks.zip ds)
  | [], [], _, _, .nil => .nil
  | k :: ks, x :: xs, _, e, .cons h r => .cons h (RepP.of (by simpa using e) r)
theorem RepP.rep {q : Addr} {vs : List (Key × V)} {ds : List (Int × D)} (h : H q = some (.dK vs)) (hA : q ∉ A) (hS : q ∉ S) (r : RepP K C S A H vs ds) : Rep K C S A H (.ref q) (dctP ds) := by
  obtain ⟨h1, h2⟩ := RepP.zip r
  refine .dct (xs := vs.map (·.2)) (by rw [← h1]; exact .inl h) hA hS ?_ h2
  rw [List.length_map, List.length_map, r.length]
theorem RepP.get {k : Int} {d : D} : ∀ {vs : List (Key × V)} {ds : List (Int × D)}, RepP K C S A H vs ds → ds.lookup k = some d → ∃ v, valV vs (Sum.inl k) = some v ∧ Rep K C S A H v d
  | _, _, .nil, e => by cases e
  | _, _, .cons (k := j) (d := d') (ds := ds) (v := v) h r, e => by
    by_cases q : j = k
    · subst q
      rw [List.lookup_cons_self] at e
      cases e
      exact ⟨v, valV_pos rfl, h⟩
    · rw [List.lookup_cons, show (k == j) = false from by simp; exact fun z => q z.symm] at e
      obtain ⟨w, h1, h2⟩ := RepP.get r e
      exact ⟨w, by rw [valV_neg fun z => q (Sum.inl.inj z)]; exact h1, h2⟩
end
/-! ### {k: v for target in iter if ..} -/
def dcZ (zg : ZG) (zt : ZT) (zk zv : ZE) (Γ0 : Env) (P : D → Store → Prop) : List D → List (Int × D) → Store → Prop
  | [], acc, Δ => P (dctP acc) Δ
  | x :: xs, acc, Δ => zg x Γ0 Δ fun Γ2 Δ2 => zt Γ2 Δ2 fun b Δ3 => (b = true → zk Γ2 Δ3 fun y Δ4 => zv Γ2 Δ4 fun z Δ5 => ∃ k, y = .int k ∧ acc.length < 100000 ∧ dcZ zg zt zk zv Γ0 P xs (putI k z acc) Δ5) ∧ (b = false → dcZ zg zt zk zv Γ0 P xs acc Δ3)
def zDc (zi : ZI) (zg : ZG) (zt : ZT) (zk zv : ZE) (vs : List Nat) : ZE := fun Γ Δ P => zi Γ Δ fun items Δ1 => dcZ zg zt zk zv (wipeZ Γ vs) P items [] Δ1
section
variable {K : PySem.W.Frag} {C : CI} {S : List Addr} {q : Addr}
theorem growD_mo {A : List Addr} {H : Hp} {l : List (Key × V)} : Mo (q :: S) A H (q :: S) A (upd H q (.dK l)) := ⟨⟨[], by simp, by simp⟩, fun _ h => .inl h, fun a o _ h2 h3 => by
  rw [upd_ne (fun h => h2 (by rw [h]; exact List.mem_cons_self))]; exact h3⟩
theorem growD_cells {A : List Addr} {H : Hp} {Δ : Store} {l : List (Key × V)} (c : Cells K C (q :: S) A H Δ) : Cells K C (q :: S) A (upd H q (.dK l)) Δ := by
  have hq : q ∉ A := fun h => c.dj q h List.mem_cons_self
  refine ⟨c.len, c.nd, c.dj, fun a ha h => ?_, fun n a o h1 h2 => (c.at_ n a o h1 h2).mono growD_mo fun u h => ?_⟩
  · by_cases hb : a = q
    · subst hb; rw [upd_same] at h; cases h
    · rw [upd_ne hb] at h; exact c.as a ha h
  · rw [upd_ne (fun hb => hq (by rw [← hb]; exact List.mem_of_getElem? h1))]; exact h
/-- what the new dict at q is, all along -/
structure AtD (K : PySem.W.Frag) (C : CI) (S : List Addr) (q : Addr) (A0 : List Addr) (H0 : Hp) (A : List Addr) (H : Hp) (Δ : Store) (acc : List (Int × D)) : Prop where
  mo : Mo (q :: S) A0 H0 (q :: S) A H
  trk : ∀ a, H a = none → H0 a = none
  kp : ∀ a o, a ∉ A0 → a ≠ q → H0 a = some o → H a = some o
  cells : Cells K C (q :: S) A H Δ
  dct : ∃ accV, H q = some (.dK accV) ∧ RepP K C (q :: S) A H accV acc
theorem AtD.ext {A0 A A' : List Addr} {H0 H H' : Hp} {Δ Δ' : Store} {acc : List (Int × D)} (h : AtD K C S q A0 H0 A H Δ acc) (e : Ext A H A' H') (c : Cells K C (q :: S) A' H' Δ') : AtD K C S q A0 H0 A' H' Δ' acc := by
  obtain ⟨accV, h1, h2⟩ := h.dct
  have hq : q ∉ A := fun z => h.cells.dj q z List.mem_cons_self
  obtain ⟨B, hB, nB⟩ := h.mo.pre
  obtain ⟨B', hB', nB'⟩ := e.pre
  have hin : ∀ a o, a ∈ A → H0 a = some o → a ∈ A0 := fun a o ha ho => by
    rw [hB] at ha
    rcases List.mem_append.mp ha with ha | ha
    · exact ha
    · rw [nB a ha] at ho; cases ho
  refine ⟨⟨⟨B ++ B', by rw [hB', hB, List.append_assoc], fun b hb => ?_⟩, fun _ z => .inl z, fun a o g1 g2 g3 => ?_⟩, fun a z => h.trk a (e.trk a z), fun a o g1 g2 g3 => ?_, c, accV, e.keep q _ hq h1, h2.mono e.mo⟩
  · rcases List.mem_append.mp hb with hb | hb
    · exact nB b hb
    · exact h.trk b (nB' b hb)
  · exact e.keep a o (fun z => g1 (hin a o z g3)) (h.mo.keep a o g1 g2 g3)
  · exact e.keep a o (fun z => g1 (hin a o z g3)) (h.kp a o g1 g2 g3)
theorem AtD.grow {A0 A : List Addr} {H0 H : Hp} {Δ : Store} {acc : List (Int × D)} {accV : List (Key × V)} {y : V} {d : D} {k : Int} (h : AtD K C S q A0 H0 A H Δ acc) (h1 : H q = some (.dK accV)) (h2 : RepP K C (q :: S) A H accV acc) (r : Rep K C (q :: S) A H y d) : AtD K C S q A0 H0 A (upd H q (.dK (putK accV (Sum.inl k) y))) Δ (putI k d acc) := by
  refine ⟨⟨h.mo.pre, fun _ z => .inl z, fun a o g1 g2 g3 => ?_⟩, fun a z => ?_, fun a o g1 g2 g3 => ?_, growD_cells h.cells, _, upd_same, (h2.put r).mono growD_mo⟩
  · rw [upd_ne (fun z => g2 (by rw [z]; exact List.mem_cons_self))]; exact h.mo.keep a o g1 g2 g3
  · by_cases hb : a = q
    · subst hb; rw [upd_same] at z; cases z
    · rw [upd_ne hb] at z; exact h.trk a z
  · rw [upd_ne g2]; exact h.kp a o g1 g2 g3
theorem AtD.here {A : List Addr} {H : Hp} {Δ : Store} {acc : List (Int × D)} (c : Cells K C (q :: S) A H Δ) (l : ∃ accV, H q = some (.dK accV) ∧ RepP K C (q :: S) A H accV acc) : AtD K C S q A H A H Δ acc :=
  ⟨⟨⟨[], by simp, by simp⟩, fun _ z => .inl z, fun _ _ _ _ h => h⟩, fun _ h => h, fun _ _ _ _ h => h, c, l⟩
theorem ref_dc {wi : TI} {g : TG} {tt : TT} {tk tv : TE} {vs : List Nat} {zi : ZI} {zg : ZG} {zt : ZT} {zk zv : ZE} (hi : RefI K C wi zi) (hg : RefG K C g zg) (ho : Own g vs) (ht : RefT K C tt zt) (hk : RefE K C tk zk) (hv : RefE K C tv zv) :
    RefE K C (tDc wi g tt tk tv vs) (zDc zi zg zt zk zv vs) := fun S A σ H Γ Δ P Q hs hc hz k => hi S A σ H Γ Δ _ _ hs hc hz fun J n G Y items A1 H1 Δ1 e1 c1 p hn w hG hY q hq => by
  have s1 := hs.ext e1
  have mo0 : Mo S A1 H1 (q :: S) A1 (upd H1 q (.dK [])) := ⟨⟨[], by simp, by simp⟩, fun b hb => by
    rcases List.mem_cons.mp hb with rfl | hb
    · exact .inr hq
    · exact .inl hb, fun a o _ _ h => by rw [upd_ne (ne_of_none h hq)]; exact h⟩
  have cells0 : Cells K C (q :: S) A1 (upd H1 q (.dK [])) Δ1 := by
    refine ⟨c1.len, c1.nd, fun a ha hb => ?_, fun a ha h => ?_, fun n a o h1 h2 => (c1.at_ n a o h1 h2).mono mo0 fun u h => by rw [upd_ne (ne_of_none h hq)]; exact h⟩
    · rcases List.mem_cons.mp hb with rfl | hb
      · exact c1.fresh hq ha
      · exact c1.dj a ha hb
    · rcases List.mem_cons.mp ha with rfl | ha
      · rw [upd_same] at h; cases h
      · exact c1.as a ha ((Ext.new (A := A1) hq).trk a h)
  have mo2 : ∀ {A2 : List Addr} {H2 : Hp} {Δ2 : Store} {acc : List (Int × D)}, AtD K C S q A1 (upd H1 q (.dK [])) A2 H2 Δ2 acc → Mo S A1 H1 (q :: S) A2 H2 := fun {A2 H2 Δ2 acc} a => by
    obtain ⟨B, hB, nB⟩ := a.mo.pre
    refine ⟨⟨B, hB, fun b hb => (Ext.new (A := A1) hq).trk b (nB b hb)⟩, mo0.sub, fun x o h1 h2 h3 => ?_⟩
    have hx := ne_of_none h3 hq
    exact a.kp x o h1 hx (by rw [upd_ne hx]; exact h3)
  have ext2 : ∀ {A2 : List Addr} {H2 : Hp} {Δ2 : Store} {acc : List (Int × D)}, AtD K C S q A1 (upd H1 q (.dK [])) A2 H2 Δ2 acc → Ext A1 H1 A2 H2 := fun {A2 H2 Δ2 acc} a => by
    obtain ⟨B, hB, nB⟩ := a.mo.pre
    refine ⟨⟨B, hB, fun b hb => (Ext.new (A := A1) hq).trk b (nB b hb)⟩, fun x o h1 h3 => ?_, fun x h => (Ext.new (A := A1) hq).trk x (a.trk x h)⟩
    have hx := ne_of_none h3 hq
    exact a.kp x o h1 hx (by rw [upd_ne hx]; exact h3)
  refine ⟨fun i m H2 => m = n - i ∧ i ≤ n ∧ ∃ A2 Δ2 acc, AtD K C S q A1 (upd H1 q (.dK [])) A2 H2 Δ2 acc ∧ dcZ zg zt zk zv (wipeZ Γ vs) P (items.drop i) acc Δ2, ⟨n, by simp, Nat.zero_le _, A1, Δ1, [], .here cells0 ⟨[], upd_same, .nil⟩, p⟩, ?_⟩
  rintro i m H2 ⟨rfl, hin, A2, Δ2, acc, a0, p2⟩
  have gg := hG (q :: S) A2 H2 (mo2 a0)
  by_cases hlt : i < n
  · refine .inr ⟨w.goes i H2 hlt gg, fun H' => ∃ A2 Δ2 acc, AtD K C S q A1 (upd H1 q (.dK [])) A2 H' Δ2 acc ∧ dcZ zg zt zk zv (wipeZ Γ vs) P (items.drop (i + 1)) acc Δ2, fun H' p' => ⟨n - (i + 1), by omega, rfl, hlt, p'⟩, fun x H3 y => ?_⟩
    obtain ⟨d, q1, q2, q3⟩ := hY (q :: S) A2 H2 Δ2 i x H3 hlt (mo2 a0) a0.cells (w.yields i H2 x H3 hlt gg y)
    rw [drop_cons q1] at p2
    have e3 : Ext A2 H2 A2 H3 := Ext.kept q2
    have c3 := a0.cells.kept q2
    have s3 : Slots K C (q :: S) A2 H3 (wipe σ vs) (wipeZ Γ vs) := ((s1.mono (mo2 a0)).ext e3).wipe vs
    have h5 := hg (q :: S) A2 (wipe σ vs) H3 (wipeZ Γ vs) Δ2 x d _ (fun σ4 H4 => tt σ4 H4 fun b H5 => if b = true then tk σ4 H5 fun y H4 => tv σ4 H4 fun z H5 => ∃ kvs k, y = kV k ∧ H5 q = some (.dK kvs) ∧ kvs.length < sizeLine ∧ ∃ A2 Δ2 acc, AtD K C S q A1 (upd H1 q (.dK [])) A2 (upd H5 q (.dK (putK kvs k z))) Δ2 acc ∧ dcZ zg zt zk zv (wipeZ Γ vs) P (items.drop (i + 1)) acc Δ2
        else ∃ A2 Δ2 acc, AtD K C S q A1 (upd H1 q (.dK [])) A2 H5 Δ2 acc ∧ dcZ zg zt zk zv (wipeZ Γ vs) P (items.drop (i + 1)) acc Δ2) s3 c3 q3 p2 fun σ4 A4 H4 Γ4 Δ4 e4 s4 c4 p4 => by
      refine ht (q :: S) A4 σ4 H4 Γ4 Δ4 _ _ s4 c4 p4 fun b A5 H5 Δ5 e5 c5 p5 => ?_
      have b0 := ((a0.ext e3 c3).ext e4 c4).ext e5 c5
      cases b with
      | false => exact iteF ⟨A5, Δ5, acc, b0, p5.2 rfl⟩
      | true =>
        refine iteT (hk (q :: S) A5 σ4 H5 Γ4 Δ5 _ _ (s4.ext e5) c5 (p5.1 rfl) fun y dy A6 H6 Δ6 e6 c6 r6 p6 => ?_)
        refine hv (q :: S) A6 σ4 H6 Γ4 Δ6 _ _ ((s4.ext e5).ext e6) c6 p6 fun z dz A7 H7 Δ7 e7 c7 r7 p7 => ?_
        have d0 := (b0.ext e6 c6).ext e7 c7
        obtain ⟨j, rfl, hlen, p7⟩ := p7
        cases r6
        obtain ⟨accV, l1, l2⟩ := d0.dct
        exact ⟨accV, Sum.inl j, rfl, l1, lt_line (by rw [l2.length]; exact hlen), A7, Δ7, _, d0.grow l1 l2 r7, p7⟩
    have fin := ho _ _ _ _ h5
    rw [wipe_wipe] at fin
    exact fin
  · have e : i = n := by omega
    subst e
    rw [hn, List.drop_length] at p2
    refine .inl ⟨w.stops H2 gg, ?_⟩
    obtain ⟨accV, l1, l2⟩ := a0.dct
    have c2 := a0.cells
    have hq2 : q ∉ A2 := fun h => c2.dj q h List.mem_cons_self
    have mo8 : Mo (q :: S) A2 H2 S A2 H2 := ⟨⟨[], by simp, by simp⟩, fun b hb => .inl (List.mem_cons_of_mem _ hb), fun _ _ _ _ h => h⟩
    exact k _ _ A2 H2 Δ2 (e1.trans (ext2 a0)) ⟨c2.len, c2.nd, fun a ha hb => c2.dj a ha (List.mem_cons_of_mem _ hb), fun a ha => c2.as a (List.mem_cons_of_mem _ ha), fun n a o h1 h2 => (c2.at_ n a o h1 h2).mono mo8 fun _ h => h⟩
      (RepP.rep l1 hq2 (c1.aside hq) (l2.mono mo8)) p2
end
section
variable {C : CI} {X : Cx}
theorem ez_dc {kx vx tg iter : Expr} {ifs : List Expr} {scope : Scope} {own : List (Str × Nat)} {pos : Pos} {zi : ZI} {g : TG} {zg : ZG} {zt : ZT} {zk zv : ZE} (hN : X.N.Nodup) (hi : IZ C X tg iter zi) (ok : BlkOk X.N X.env.scope scope own) (ho : Own g (own.map (·.2))) (hr : RefG X.K C g zg)
    (hg : ∀ (s : Shared) (H : Hp) (Ca : Addr) (cl : List (Str × Addr)) (fp : List Addr), PG (X.blk s H scope (compEnvC scope cl Ca X.env) fp) tg g)
    (ht : ∀ (s : Shared) (H : Hp) (Ca : Addr) (cl : List (Str × Addr)) (fp : List Addr), TsZ C (X.blk s H scope (compEnvC scope cl Ca X.env) fp) ifs zt)
    (hk : ∀ (s : Shared) (H : Hp) (Ca : Addr) (cl : List (Str × Addr)) (fp : List Addr), EZ C (X.blk s H scope (compEnvC scope cl Ca X.env) fp) kx zk)
    (hv : ∀ (s : Shared) (H : Hp) (Ca : Addr) (cl : List (Str × Addr)) (fp : List Addr), EZ C (X.blk s H scope (compEnvC scope cl Ca X.env) fp) vx zv)
    (hc : X.calm = true := by rfl) (hs : ∀ x, foldedSetIterable iter X.env x = pure x := by intro _; rfl) :
    EZ C X (.DictComp kx vx [⟨tg, iter, ifs, 0⟩] scope pos) (zDc zi zg zt zk zv (own.map (·.2))) := by
  obtain ⟨wi, i1, i2⟩ := hi.ex
  exact ⟨_, pe_dc hc hN i1 ok hg (fun s H Ca cl fp => (ht s H Ca cl fp).up) (fun s H Ca cl fp => (hk s H Ca cl fp).up) (fun s H Ca cl fp => (hv s H Ca cl fp).up) hs, ref_dc i2 hr ho ref_upT ref_up ref_up⟩
/-! ### d[k] of such a dict; sorted(d) -/
/-- what a value is as a dict -/
def dctOf (Δ : Store) : D → Option (List (Int × D))
  | .dct ks ds => some (ks.zip ds)
  | .cell n => match Δ[n]? with
    | some (.dct ks ds) => some (ks.zip ds)
    | _ => none
  | _ => none
theorem Rep.dctOf {K : PySem.W.Frag} {S A : List Addr} {H : Hp} {Δ : Store} {x : V} {d : D} {ds : List (Int × D)} (hc : Cells K C S A H Δ) (r : Rep K C S A H x d) (h : Z.dctOf Δ d = some ds) :
    ∃ p vs, x = .ref p ∧ Rd H p (.dK vs) ∧ RepP K C S A H vs ds := by
  cases r with
  | dct h1 hA hS hl r => cases h; exact ⟨_, _, rfl, h1, RepP.of hl r⟩
  | cell h1 =>
    rename_i n
    unfold Z.dctOf at h
    cases q : Δ[n]? with
    | none => simp only [q] at h; cases h
    | some o =>
      cases o with
      | lst _ => simp only [q] at h; cases h
      | ins _ _ => simp only [q] at h; cases h
      | dct ks es =>
        simp only [q] at h
        cases h
        obtain ⟨xs, e1, e2, e3⟩ := hc.at_ n _ _ h1 q
        exact ⟨_, _, rfl, .inl e1, RepP.of e2 e3⟩
  | _ => cases h
def zDGet (za zb : ZE) : ZE := fun Γ Δ P => za Γ Δ fun x Δ1 => zb Γ Δ1 fun y Δ2 => ∃ (ds : List (Int × D)) (k : Int) (d : D), dctOf Δ2 x = some ds ∧ y = .int k ∧ ds.lookup k = some d ∧ P d Δ2
theorem ez_dget {a b : Expr} {pos : Pos} {za zb : ZE} (hu64 : X.A.units + 64 < cLine) (ha : EZ C X a za) (hb : EZ C X b zb) (hp : NoSl b := by first | trivial | exact fun _ _ => rfl | decide) : EZ C X (.Subscript a b pos) (zDGet za zb) := by
  obtain ⟨ta, a1, a2⟩ := ha.ex
  obtain ⟨tb, b1, b2⟩ := hb.ex
  have hu : X.A.units + 1 < cLine := Nat.lt_of_le_of_lt (Nat.add_le_add_left (by decide) _) hu64
  refine ⟨_, pe_dget hu a1 b1 hp, fun S A σ H Γ Δ P Q hs hc hz k => a2 S A σ H Γ Δ _ _ hs hc hz fun x dx A1 H1 Δ1 e1 c1 r1 hz1 => b2 S A1 σ H1 Γ Δ1 _ _ (hs.ext e1) c1 hz1 fun y dy A2 H2 Δ2 e2 c2 r2 hz2 => ?_⟩
  obtain ⟨ds, j, d, h1, rfl, h3, p⟩ := hz2
  obtain ⟨pa, vs, rfl, g1, g2⟩ := Rep.dctOf c2 (r1.ext e2) h1
  obtain ⟨v, w1, w2⟩ := g2.get h3
  cases r2
  refine ⟨pa, v, rfl, ?_, k v d A2 H2 Δ2 (e1.trans e2) c2 w2 p⟩
  exact .inl ⟨vs, Sum.inl j, g1, rfl, w1.symm⟩
/-- sorted(d), keys ints, any number of them -/
def rSortDI : List V → Hp → VK → Prop := fun xs H Q => ∃ (a : Addr) (kvs : List (Key × V)) (ks : List Int), xs = [.ref a] ∧ Rd H a (.dK kvs) ∧ kvs.map (·.1) = ks.map Sum.inl ∧ ∀ (ys : List Int) (p : Addr), ys.Perm ks → ys.Pairwise (· ≤ ·) → H p = none → Q (.ref p) (upd H p (.lst (ys.map V.int)))
theorem cr_sortDI (hcalm : X.calm = true) : CallR X (.builtin "sorted") rSortDI := by
  intro pins s σ H xs us Q I r q
  obtain ⟨a, kvs, ks, rfl, hd, hks, q⟩ := q
  obtain ⟨u, rfl, rx⟩ := vals1 r; cases rx
  obtain ⟨z, lo, vs, rel, dd⟩ := dk_rd I.hok hd; obtain ⟨ep, hat⟩ := dd.dictAt
  have hkeys : vs.map (·.1) = ks.map Sum.inl := rel.keys.symm.trans hks
  have hl : vs.length = ks.length := by
    have e := congrArg List.length hkeys
    simpa using e
  have h16 : vs.length ≤ sizeLine := by rw [← rel.length]; exact z
  refine Calls.call_function_entry kind_sorted plain_sorted entry_sorted (args_sorted1 _) ?_
  unfold Builtin.«sorted»
  refine wpAny_bind (m := checkCount "sorted" 1 1 _) (wpAny_pure (wpAny_bind (PySem.W.kdu_collect (A := X.A.in1) (PySem.W.kdl_dict (knd := mixKind X.prog X.w) (kvs := vs) (ep := ep) lo) (I.ok.hd hcalm) hat h16 fun h' tk acc hk hacc => ?_)))
  have hal : acc.toList.length = ks.length := by rw [Array.length_toList, hacc.1, hl]
  have hS : IntsAre acc.toList ks := ints_each hal fun j v e => by
    obtain ⟨k, x, e1, e2⟩ := hacc.2 j v (by rw [← Array.getElem?_toList]; exact e); have e3 : (vs.map (·.1))[j]? = some k := by rw [List.getElem?_map, e1]; rfl
    rw [hkeys, List.getElem?_map] at e3
    cases e4 : ks[j]? with
    | none => rw [e4] at e3; cases e3
    | some y =>
      rw [e4] at e3; obtain rfl : Sum.inl y = k := Option.some.inj e3
      rcases keyIs_shape (show keyIs (Sum.inl y) v = true from e2) with ⟨i, t, ek, ev⟩ | ⟨z, t, ek, ev⟩
      · cases ek; exact ⟨y, t, rfl, ev⟩
      · cases ek
  have I1 : Inv X pins σ H { s with heap := h', toks := tk } := I.kept hk
  have hz2 : acc.toList.length ≤ sizeLine := by rw [hal, ← hl]; exact h16
  refine wpAny_bind (wpAny_newList ?_ hz2)
  have ho : (h'.push (seqObj "list" acc.toList.toArray 0)).get? h'.objs.size = some (seqObj "list" acc.toList.toArray 0) := Heap.get?_push_size _ rfl
  show wpAny _ _ _ _ _ { s with heap := h'.push (seqObj "list" acc.toList.toArray 0), toks := tk }
  refine wpAny_bind (wpAny_holding (wpAny_call_entry slot_list_sort ⟨_, ho, rfl⟩ entry_list_sort (SrtO.list_sort_ord (s := { s with heap := h'.push (seqObj "list" acc.toList.toArray 0), toks := tk }) SrtO.swo_int ho hz2 (fun h2 => SrtO.ints_sortable hS h2) fun out h1 h2 => ⟨_, rfl, ?_⟩) (args_list_sort _)))
  obtain ⟨k1, k2, k3⟩ := SrtO.ints_out hS h1 h2
  obtain ⟨e', he'⟩ := sortedHeap_at (vs := acc.toList) (out := out.toArray) ho
  have hlen : ((out.map SrtO.iv).map V.int).length ≤ sizeLine := by rw [List.length_map, k2.length_eq, ← hl]; exact h16
  refine wpAny_pure ⟨_, rfl, .ref h'.objs.size, upd H h'.objs.size (.lst ((out.map SrtO.iv).map V.int)), I1.laid (t' := tk) (fun b u e => ?_) (Nat.le_refl _)
    (show ObjOk X.prog X.w _ _ _ (.lst ((out.map SrtO.iv).map V.int)) from ⟨hlen, out, e', vals_of_ints k1, he'⟩), rfl, q _ _ k2 k3 (I1.hok.fresh (Nat.le_refl _))⟩
  have hb : b < h'.objs.size := Heap.lt_size e
  rw [sortedHeap_old (Nat.ne_of_lt hb) (by rw [size_push']; exact Nat.lt_succ_of_lt hb)]
  exact Heap.get?_push_of_some _ e
def zSortD : ZRC := fun ds Δ P => ∃ (x : D) (l : List (Int × D)), ds = [x] ∧ dctOf Δ x = some l ∧ ∀ ys : List Int, ys.Perm (l.map (·.1)) → ys.Pairwise (· ≤ ·) → P (.lst (ys.map D.int)) Δ
theorem RepP.keys {K : PySem.W.Frag} {S A : List Addr} {H : Hp} : ∀ {vs : List (Key × V)} {ds : List (Int × D)}, RepP K C S A H vs ds → vs.map (·.1) = (ds.map (·.1)).map Sum.inl
  | _, _, .nil => rfl
  | _, _, .cons h r => by rw [List.map_cons, List.map_cons, List.map_cons, RepP.keys r]
theorem cz_sortD (hc : X.calm = true := by rfl) : CallZ C X (.builtin "sorted") zSortD := ⟨_, cr_sortDI hc, fun S A H Δ xs ds P Q hc r hz k => by
  obtain ⟨x, l, rfl, hd, q⟩ := hz
  obtain ⟨v, rfl, rv⟩ := one_rep r
  obtain ⟨pa, vs, rfl, g1, g2⟩ := Rep.dctOf hc rv hd
  refine ⟨pa, vs, l.map (·.1), rfl, g1, g2.keys, fun ys p h1 h2 hp => ?_⟩
  have e : Ext A H A (upd H p (.lst (ys.map V.int))) := Ext.new hp
  have hpA : p ∉ A := hc.fresh hp
  refine k _ _ A _ Δ e (hc.kept fun a o h => by rw [upd_ne (ne_of_none h hp)]; exact h) (.lst upd_same hpA (hc.aside hp) (repL_ints ys)) (q ys h1 h2)⟩
end
/-! ### lists and dicts that a comprehension makes, as cells -/
def asCell (P : D → Store → Prop) : D → Store → Prop := fun d Δ => ∃ ds, d = .lst ds ∧ P (.cell Δ.length) (Δ ++ [.lst ds])
def zLcC (zi : ZI) (zg : ZG) (zt : ZT) (ze : ZE) (vs : List Nat) : ZE := fun Γ Δ P => zi Γ Δ fun items Δ1 => compZ zg zt ze (wipeZ Γ vs) (asCell P) items [] Δ1
section
variable {K : PySem.W.Frag} {C : CI} {S A : List Addr} {H : Hp} {q : Addr}
theorem nin_snoc {a : Addr} (h1 : a ∉ A) (h2 : a ∉ q :: S) : a ∉ A ++ [q] := fun h => by
  rcases List.mem_append.mp h with h | h
  · exact h1 h
  · rw [List.mem_singleton] at h
    exact h2 (by rw [h]; exact List.mem_cons_self)
mutual
theorem Rep.unaside : ∀ {v : V} {d : D}, Rep K C (q :: S) A H v d → q ∉ A → q ∉ S → Rep K C S (A ++ [q]) H v d
  | _, .non, h, _, _ => by cases h; exact .non
  | _, .bl b, h, _, _ => by cases h; exact .bl b
  | _, .int i, h, _, _ => by cases h; exact .int i
  | _, .str x, h, _, _ => by cases h; exact .str x
  | _, .ty n, h, _, _ => by cases h; exact .ty n
  | _, .cls c, h, _, _ => by cases h; exact .cls c
  | _, .ktup ns, h, _, _ => by cases h with | ktup h => exact .ktup h
  | _, .tup ds, h, h1, h2 => by cases h with | tup h hA hS r => exact .tup h (nin_snoc hA hS) (fun z => hS (List.mem_cons_of_mem _ z)) (RepL.unaside r h1 h2)
  | _, .lst ds, h, h1, h2 => by cases h with | lst h hA hS r => exact .lst h (nin_snoc hA hS) (fun z => hS (List.mem_cons_of_mem _ z)) (RepL.unaside r h1 h2)
  | _, .ins c ds, h, h1, h2 => by cases h with | ins h hA hS hl r => exact .ins h (nin_snoc hA hS) (fun z => hS (List.mem_cons_of_mem _ z)) hl (RepL.unaside r h1 h2)
  | _, .dct ks ds, h, h1, h2 => by cases h with | dct h hA hS hl r => exact .dct h (nin_snoc hA hS) (fun z => hS (List.mem_cons_of_mem _ z)) hl (RepL.unaside r h1 h2)
  | _, .cell n, h, _, _ => by
    cases h with
    | cell h => exact .cell (by rw [List.getElem?_append_left (List.getElem?_eq_some_iff.mp h).1]; exact h)
  | _, .scr ns, h, _, _ => by
    cases h with
    | scr h =>
      rcases h with ⟨h, hA, hS⟩ | h
      · exact .scr (.inl ⟨h, nin_snoc hA hS, fun z => hS (List.mem_cons_of_mem _ z)⟩)
      · exact .scr (.inr h)
theorem RepL.unaside : ∀ {vs : List V} {ds : List D}, RepL K C (q :: S) A H vs ds → q ∉ A → q ∉ S → RepL K C S (A ++ [q]) H vs ds
  | _, [], h, _, _ => by cases h; exact .nil
  | _, d :: ds, h, h1, h2 => by
    cases h with
    | cons h r => exact .cons (Rep.unaside h h1 h2) (RepL.unaside r h1 h2)
end
theorem RepP.unaside : ∀ {vs : List (Key × V)} {ds : List (Int × D)}, RepP K C (q :: S) A H vs ds → q ∉ A → q ∉ S → RepP K C S (A ++ [q]) H vs ds
  | _, _, .nil, _, _ => .nil
  | _, _, .cons h r, h1, h2 => .cons (h.unaside h1 h2) (RepP.unaside r h1 h2)
theorem Cells.unset {Δ : Store} {o : O} (c : Cells K C (q :: S) A H Δ) (hS : q ∉ S) (ho : CellAt K C S (A ++ [q]) H q o) : Cells K C S (A ++ [q]) H (Δ ++ [o]) := by
  have hq : q ∉ A := fun h => c.dj q h List.mem_cons_self
  refine ⟨by rw [List.length_append, List.length_append, c.len] <;> rfl, ?_, fun a ha hb => ?_, fun a ha => c.as a (List.mem_cons_of_mem _ ha), fun n a o' h1 h2 => ?_⟩
  · refine List.nodup_append.mpr ⟨c.nd, by simp, fun a ha b hb e => ?_⟩
    rw [List.mem_singleton] at hb
    subst hb; subst e
    exact hq ha
  · rcases List.mem_append.mp ha with ha | ha
    · exact c.dj a ha (List.mem_cons_of_mem _ hb)
    · rw [List.mem_singleton] at ha
      subst ha
      exact hS hb
  · by_cases hn : n < A.length
    · rw [List.getElem?_append_left hn] at h1
      rw [List.getElem?_append_left (by rw [← c.len]; exact hn)] at h2
      have g := c.at_ n a o' h1 h2
      cases o' with
      | lst ds => obtain ⟨xs, e, r⟩ := g; exact ⟨xs, e, r.unaside hq hS⟩
      | ins k fs => obtain ⟨dx, xs, e, z, r⟩ := g; exact ⟨dx, xs, e, z, r.unaside hq hS⟩
      | dct ks ds => obtain ⟨xs, e, z, r⟩ := g; exact ⟨xs, e, z, r.unaside hq hS⟩
    · have e1 : n = A.length := by
        have := (List.getElem?_eq_some_iff.mp h1).1
        rw [List.length_append] at this
        simp at this
        omega
      subst e1
      rw [List.getElem?_append_right (Nat.le_refl _), Nat.sub_self] at h1
      rw [c.len, List.getElem?_append_right (Nat.le_refl _), Nat.sub_self] at h2
      cases h1; cases h2
      exact ho
theorem Ext.cellIn {A0 A2 : List Addr} {H0 H2 : Hp} (e : Ext A0 H0 A2 H2) (hq : H0 q = none) (hq2 : q ∉ A2) : Ext A0 H0 (A2 ++ [q]) H2 := by
  obtain ⟨B, hB, nB⟩ := e.pre
  refine ⟨⟨B ++ [q], by rw [hB, List.append_assoc], fun b hb => ?_⟩, e.keep, e.trk⟩
  rcases List.mem_append.mp hb with hb | hb
  · exact nB b hb
  · rw [List.mem_singleton] at hb; subst hb; exact hq
end
theorem ref_lcC {K : PySem.W.Frag} {C : CI} {wi : TI} {g : TG} {tt : TT} {te : TE} {vs : List Nat} {zi : ZI} {zg : ZG} {zt : ZT} {ze : ZE} (hi : RefI K C wi zi) (hg : RefG K C g zg) (ho : Own g vs) (ht : RefT K C tt zt) (he : RefE K C te ze) :
    RefE K C (tLc wi g tt te vs) (zLcC zi zg zt ze vs) := fun S A σ H Γ Δ P Q hs hc hz k => hi S A σ H Γ Δ _ _ hs hc hz fun J n G Y items A1 H1 Δ1 e1 c1 p hn w hG hY q hq => by
  have s1 := hs.ext e1
  -- the list at q is set aside
  have mo0 : Mo S A1 H1 (q :: S) A1 (upd H1 q (.lst [])) := ⟨⟨[], by simp, by simp⟩, fun b hb => by
    rcases List.mem_cons.mp hb with rfl | hb
    · exact .inr hq
    · exact .inl hb, fun a o _ _ h => by rw [upd_ne (ne_of_none h hq)]; exact h⟩
  have cells0 : Cells K C (q :: S) A1 (upd H1 q (.lst [])) Δ1 := by
    refine ⟨c1.len, c1.nd, fun a ha hb => ?_, fun a ha h => ?_, fun n a o h1 h2 => (c1.at_ n a o h1 h2).mono mo0 fun u h => by rw [upd_ne (ne_of_none h hq)]; exact h⟩
    · rcases List.mem_cons.mp hb with rfl | hb
      · exact c1.fresh hq ha
      · exact c1.dj a ha hb
    · rcases List.mem_cons.mp ha with rfl | ha
      · rw [upd_same] at h; cases h
      · exact c1.as a ha ((Ext.new (A := A1) hq).trk a h)
  refine lc_it w (fun i H2 => ∃ A2 Δ2 acc accV, Ext A1 H1 A2 H2 ∧ Mo S A1 H1 (q :: S) A2 H2 ∧ Cells K C (q :: S) A2 H2 Δ2 ∧ H2 q = some (.lst accV) ∧ RepL K C (q :: S) A2 H2 accV acc ∧ compZ zg zt ze (wipeZ Γ vs) (asCell P) (items.drop i) acc Δ2)
    ⟨A1, Δ1, [], [], Ext.new hq, mo0, cells0, upd_same, .nil, p⟩ (fun i H2 _ ⟨A2, Δ2, acc, accV, _, m, _⟩ => hG _ A2 H2 m) ?_ ?_
  · rintro i x H2 H3 hi2 ⟨A2, Δ2, acc, accV, e2, m2, c2, hqv, hacc, hp⟩ y
    obtain ⟨d, q1, q2, q3⟩ := hY _ A2 H2 Δ2 i x H3 hi2 m2 c2 y
    have hd : items.drop i = d :: items.drop (i + 1) := by
      obtain ⟨hl, q⟩ := List.getElem?_eq_some_iff.mp q1
      rw [← q]
      exact List.drop_eq_getElem_cons hl
    rw [hd] at hp
    have e3 : Ext A2 H2 A2 H3 := Ext.kept q2
    have s3 : Slots K C (q :: S) A2 H3 (wipe σ vs) (wipeZ Γ vs) := ((s1.mono m2).ext e3).wipe vs
    have fin : g x (wipe σ vs) H3 fun σ2 H4 => wipe σ2 vs = wipe (wipe σ vs) vs ∧ tt σ2 H4 fun b H5 =>
        if b = true then te σ2 H5 fun y H6 => ∃ acc, H6 q = some (.lst acc) ∧ acc.length < sizeLine ∧ ∃ A2 Δ2 acc' accV, Ext A1 H1 A2 (upd H6 q (.lst (acc ++ [y]))) ∧ Mo S A1 H1 (q :: S) A2 (upd H6 q (.lst (acc ++ [y]))) ∧ Cells K C (q :: S) A2 (upd H6 q (.lst (acc ++ [y]))) Δ2 ∧
          (upd H6 q (.lst (acc ++ [y]))) q = some (.lst accV) ∧ RepL K C (q :: S) A2 (upd H6 q (.lst (acc ++ [y]))) accV acc' ∧ compZ zg zt ze (wipeZ Γ vs) (asCell P) (items.drop (i + 1)) acc' Δ2
        else ∃ A2 Δ2 acc accV, Ext A1 H1 A2 H5 ∧ Mo S A1 H1 (q :: S) A2 H5 ∧ Cells K C (q :: S) A2 H5 Δ2 ∧ H5 q = some (.lst accV) ∧ RepL K C (q :: S) A2 H5 accV acc ∧ compZ zg zt ze (wipeZ Γ vs) (asCell P) (items.drop (i + 1)) acc Δ2 := by
      refine ho _ _ _ _ (hg (q :: S) A2 (wipe σ vs) H3 (wipeZ Γ vs) Δ2 x d _ _ s3 (c2.kept q2) q3 hp fun σ4 A4 H4 Γ4 Δ4 e4 s4 c4 p4 => ?_)
      refine ht (q :: S) A4 σ4 H4 Γ4 Δ4 _ _ s4 c4 p4 fun b A5 H5 Δ5 e5 c5 p5 => ?_
      have e25 := (e3.trans e4).trans e5
      have e15 := e2.trans e25
      have hq2 : q ∉ A2 := fun h => c2.dj q h List.mem_cons_self
      have hq5 : H5 q = some (.lst accV) := e25.keep q _ hq2 hqv
      have m5 : Mo S A1 H1 (q :: S) A5 H5 := ⟨e15.pre, m2.sub, fun a o h1 _ h3 => e15.keep a o h1 h3⟩
      cases b with
      | false => exact iteF ⟨A5, Δ5, acc, accV, e15, m5, c5, hq5, hacc.ext e25, p5.2 rfl⟩
      | true =>
        refine iteT (he (q :: S) A5 σ4 H5 Γ4 Δ5 _ _ (s4.ext e5) c5 (p5.1 rfl) fun y dy A6 H6 Δ6 e6 c6 r6 p6 => ?_)
        have e16 := e15.trans e6
        have hq5' : q ∉ A5 := fun h => c5.dj q h List.mem_cons_self
        have hq6' : q ∉ A6 := fun h => c6.dj q h List.mem_cons_self
        have hq6 : H6 q = some (.lst accV) := e6.keep q _ hq5' hq5
        have hacc6 := (hacc.ext e25).ext e6
        have mo7 : Mo (q :: S) A6 H6 (q :: S) A6 (upd H6 q (.lst (accV ++ [y]))) := ⟨⟨[], by simp, by simp⟩, fun _ h => .inl h, fun a o _ h2 h3 => by
          rw [upd_ne (fun h => h2 (by rw [h]; exact List.mem_cons_self))]; exact h3⟩
        have nq : ∀ a o, H1 a = some o → a ≠ q := fun a o h => ne_of_none h hq
        refine ⟨accV, hq6, lt_line (by rw [hacc6.length]; exact p6.1), A6, Δ6, acc ++ [dy], accV ++ [y], ?_, ?_, ?_, upd_same, ?_, p6.2⟩
        · exact ⟨e16.pre, fun a o h1 h2 => by rw [upd_ne (nq a o h2)]; exact e16.keep a o h1 h2, fun a h => by
            by_cases hb : a = q
            · subst hb; exact hq
            · rw [upd_ne hb] at h; exact e16.trk a h⟩
        · exact ⟨e16.pre, m2.sub, fun a o h1 _ h3 => by rw [upd_ne (nq a o h3)]; exact e16.keep a o h1 h3⟩
        · refine ⟨c6.len, c6.nd, c6.dj, fun a ha h => ?_, fun n a o h1 h2 => (c6.at_ n a o h1 h2).mono mo7 fun u h => ?_⟩
          · by_cases hb : a = q
            · subst hb; rw [upd_same] at h; cases h
            · rw [upd_ne hb] at h; exact c6.as a ha h
          · rw [upd_ne (fun hb => hq6' (by rw [← hb]; exact List.mem_of_getElem? h1))]; exact h
        · exact (RepL.append hacc6 (.cons r6 .nil)).mono mo7 _
    rw [wipe_wipe] at fin
    exact fin
  · rintro H2 ⟨A2, Δ2, acc, accV, e2, m2, c2, hqv, hacc, hp⟩
    rw [hn, List.drop_length] at hp
    obtain ⟨es, e9, hp⟩ := hp
    cases e9
    have hq2 : q ∉ A2 := fun h => c2.dj q h List.mem_cons_self
    exact k _ _ (A2 ++ [q]) H2 (Δ2 ++ [.lst acc]) (Ext.cellIn (e1.trans e2) (e1.trk q hq) hq2) (Cells.unset (o := .lst acc) c2 (c1.aside hq) ⟨accV, hqv, hacc.unaside hq2 (c1.aside hq)⟩) (.cell (by rw [← c2.len, List.getElem?_append_right (Nat.le_refl _), Nat.sub_self] <;> rfl)) hp
section
variable {C : CI} {X : Cx}
theorem ez_lcC {elt tg iter : Expr} {ifs : List Expr} {scope : Scope} {own : List (Str × Nat)} {pos : Pos} {zi : ZI} {g : TG} {zg : ZG} {zt : ZT} {ze : ZE} (hN : X.N.Nodup) (hi : IZ C X tg iter zi) (ok : BlkOk X.N X.env.scope scope own) (ho : Own g (own.map (·.2))) (hb : BlkZ C X scope tg ifs elt g zg zt ze)
    (hc : X.calm = true := by rfl) (hs : ∀ x, foldedSetIterable iter X.env x = pure x := by intro _; rfl) : EZ C X (.ListComp elt [⟨tg, iter, ifs, 0⟩] scope pos) (zLcC zi zg zt ze (own.map (·.2))) := by
  obtain ⟨wi, i1, i2⟩ := hi.ex; obtain ⟨tt, te, b1, b2, b3, b4⟩ := hb.ex
  exact ⟨_, pe_lc hc hN i1 ok (fun s H Ca cl fp => (b1 s H Ca cl fp).1) (fun s H Ca cl fp => (b1 s H Ca cl fp).2.1) (fun s H Ca cl fp => (b1 s H Ca cl fp).2.2) hs, ref_lcC i2 b2 ho b3 b4⟩
end
end Z

/-! Z13: an expression or a test that is lent the cells' contents: what it makes is forgotten, but for a value of tuples and what stands nowhere. -/
namespace Z
open PySem PySem.Spec PyProof.Rows L2
mutual
def bareT : D → Bool
  | .non | .bl _ | .int _ | .str _ => true
  | .tup ds => bareTs ds
  | _ => false
def bareTs : List D → Bool
  | [] => true
  | d :: ds => bareT d && bareTs ds
end
section
variable {K : PySem.W.Frag} {C : CI} {S A : List Addr} {H : Hp} {Δ : Store}
theorem Cells.no_tup (c : Cells K C S A H Δ) {a : Addr} {xs : List V} (h : H a = some (.tup xs)) : a ∉ A := fun hm => by
  obtain ⟨n, hn⟩ := List.mem_iff_getElem?.mp hm
  have hl : n < Δ.length := by rw [← c.len]; exact (List.getElem?_eq_some_iff.mp hn).1
  have q := c.at_ n a _ hn (List.getElem?_eq_getElem hl)
  cases e : Δ[n] with
  | lst ds => rw [e] at q; obtain ⟨xs, g, _⟩ := q; rw [h] at g; cases g
  | ins k fs => rw [e] at q; obtain ⟨dx, xs, g, _⟩ := q; rw [h] at g; cases g
  | dct ks ds => rw [e] at q; obtain ⟨xs, g, _⟩ := q; rw [h] at g; cases g
mutual
theorem Rep.of_bareT {A' : List Addr} (c : Cells K C S A H Δ) : ∀ (d : D) {v : V}, bareT d = true → Rep K C S A' H v d → Rep K C S A H v d
  | .non, _, _, h => by cases h; exact .non
  | .bl b, _, _, h => by cases h; exact .bl b
  | .int i, _, _, h => by cases h; exact .int i
  | .str x, _, _, h => by cases h; exact .str x
  | .tup ds, _, hb, h => by cases h with | tup h1 hA hS r => exact .tup h1 (c.no_tup h1) hS (RepL.of_bareT c ds hb r)
  | .ty _, _, hb, _ => by cases hb
  | .cls _, _, hb, _ => by cases hb
  | .lst _, _, hb, _ => by cases hb
  | .ins _ _, _, hb, _ => by cases hb
  | .dct _ _, _, hb, _ => by cases hb
  | .cell _, _, hb, _ => by cases hb
  | .scr _, _, hb, _ => by cases hb
  | .ktup _, _, hb, _ => by cases hb
theorem RepL.of_bareT {A' : List Addr} (c : Cells K C S A H Δ) : ∀ (ds : List D) {vs : List V}, bareTs ds = true → RepL K C S A' H vs ds → RepL K C S A H vs ds
  | [], _, _, h => by cases h; exact .nil
  | d :: ds, _, hb, h => by
    have hb' : (bareT d && bareTs ds) = true := hb
    rw [Bool.and_eq_true] at hb'
    cases h with
    | cons h r => exact .cons (Rep.of_bareT c d hb'.1 h) (RepL.of_bareT c ds hb'.2 r)
end
/-- slots that are lent: a cell's content, where no other cell stands in it -/
def lent1 (Δ : Store) : Option D → Option D
  | some d => if Z.below 0 (Z.thaw Δ d) = true then some (Z.thaw Δ d) else none
  | none => none
theorem Slots.lent {σ : L2.St} {Γ : Env} (c : Cells K C S A H Δ) (s : Slots K C S A H σ Γ) : Slots K C S [] H σ (Γ.map (lent1 Δ)) := by
  refine ⟨by rw [List.length_map]; exact s.len, fun i d h => ?_⟩
  rw [List.getElem?_map] at h
  cases e : Γ[i]? with
  | none => rw [e] at h; cases h
  | some o =>
    cases o with
    | none => rw [e] at h; cases h
    | some d0 =>
      rw [e] at h
      have h : lent1 Δ (some d0) = some d := by simpa using h
      unfold lent1 at h
      by_cases hb : Z.below 0 (Z.thaw Δ d0) = true
      · simp only [hb, if_true] at h
        cases h
        obtain ⟨v, h1, h2⟩ := s.at_ i d0 e
        exact ⟨v, h1, Rep.thw c d0 hb h2⟩
      · simp only [if_neg hb] at h; cases h
end
def zLend (z : ZE) : ZE := fun Γ Δ P => z (Γ.map (lent1 Δ)) [] fun d _ => bareT d = true ∧ P d Δ
def zLendT (z : ZT) : ZT := fun Γ Δ P => z (Γ.map (lent1 Δ)) [] fun b _ => P b Δ
section
variable {K : PySem.W.Frag} {C : CI} {X : Cx} {e : Expr} {ze : ZE} {zt : ZT}
theorem ref_lend {te : TE} (h : RefE K C te ze) : RefE K C te (zLend ze) := fun S A σ H Γ Δ P Q hs hc hz k =>
  h S [] σ H _ [] _ Q (Slots.lent hc hs) ⟨rfl, .nil, (fun a ha => nomatch ha), hc.as, (fun n a o h => nomatch h)⟩ hz fun v d A' H' Δ' e2 c2 r2 p2 => by
    have kp : ∀ a o, H a = some o → H' a = some o := fun a o h => e2.keep a o (fun q => nomatch q) h
    exact k v d A H' Δ (Ext.kept kp) (hc.kept kp) (Rep.of_bareT (hc.kept kp) d p2.1 r2) p2.2
theorem ref_lendT {tt : TT} (h : RefT K C tt zt) : RefT K C tt (zLendT zt) := fun S A σ H Γ Δ P Q hs hc hz k =>
  h S [] σ H _ [] _ Q (Slots.lent hc hs) ⟨rfl, .nil, (fun a ha => nomatch ha), hc.as, (fun n a o h => nomatch h)⟩ hz fun b A' H' Δ' e2 c2 p2 => by
    have kp : ∀ a o, H a = some o → H' a = some o := fun a o h => e2.keep a o (fun q => nomatch q) h
    exact k b A H' Δ (Ext.kept kp) (hc.kept kp) p2
theorem ez_lend (h : EZ C X e ze) : EZ C X e (zLend ze) := by
  obtain ⟨t, h1, h2⟩ := h.ex
  exact ⟨t, h1, ref_lend h2⟩
theorem tz_lend (h : TZ C X e zt) : TZ C X e (zLendT zt) := by
  obtain ⟨t, h1, h2⟩ := h.ex
  exact ⟨t, h1, ref_lendT h2⟩
theorem frD_bare {p q : Int} : bareT (.tup [.int p, .int q]) = true := rfl
end
/-! ### sorted of a list of ints; a list given to names -/
section
variable {C : CI} {X : Cx} {pos : Pos}
def zSortI : ZRC := fun ds Δ P => ∃ (d : D) (ns : List Int), ds = [d] ∧ lstD Δ d = some (ns.map D.int) ∧ ∀ ys : List Int, ys.Perm ns → ys.Pairwise (· ≤ ·) → P (.lst (ys.map D.int)) Δ
theorem cz_sortI : CallZ C X (.builtin "sorted") zSortI := ⟨_, cr_sortedI, fun S A H Δ xs ds P Q hc r hz k => by
  obtain ⟨d, ns, rfl, hd, q⟩ := hz
  obtain ⟨v, rfl, rv⟩ := one_rep r
  obtain ⟨pa, ys, rfl, hq, rr⟩ := Rep.lst_ hc rv hd
  obtain rfl := repL_int rr
  refine ⟨pa, ns, rfl, SqL.of hq, fun zs p h1 h2 hp => ?_⟩
  exact k _ _ A _ Δ (Ext.new hp) (hc.kept fun a o h => by rw [upd_ne (ne_of_none h hp)]; exact h) (.lst upd_same (hc.fresh hp) (hc.aside hp) (repL_ints zs)) (q zs h1 h2)⟩
def zgLst (n : Nat) (gs : ZGs) : ZG := fun d Γ Δ P => ∃ ds, d = .lst ds ∧ ds.length = n ∧ gs ds Γ Δ P
theorem gz_lst {es : List Expr} {k : Nat} {gs : TGs} {zs : ZGs} {n : Nat} (h : GsZ C X es gs zs) (hc : X.calm = true := by rfl) (hn : (assignEach es X.env).length = n := by rfl) (hst : (assignEach es X.env).findIdx? (·.1) = none := by rfl) : GZ C X (.Tuple es k pos) (gLst X.K n gs) (zgLst n zs) :=
  ⟨pg_lst hc h.pg hn hst, fun S A σ H Γ Δ v d P Q hs hc r hz k => by
    obtain ⟨ds, rfl, hl, p⟩ := hz
    cases r with
    | lst h1 h2 h3 r => exact ⟨_, _, rfl, SqL.of h1, by rw [r.length]; exact hl, h.ref S A σ H Γ Δ _ ds P Q hs hc r p k⟩⟩
end
end Z

/-! Z14: enumerate over a tuple. -/
namespace Z
open PySem PySem.Spec PyProof.Rows L2
open Sem (wp)
open AutoSeq1 (wpAny_loadPart')
/-- the heap with the two records that stand for enumerate over the tuple at t -/
def enT1 (h : Heap) (t : Addr) : Heap := h.push { cls := .type "tuple_iterator", data := .fields #[.ref t, .int 0 0] }
def enT2 (h : Heap) (t : Addr) : Heap := (enT1 h t).push { cls := .type "enumerate", data := .fields #[.none, .bool false, .ref h.objs.size, rawInt 0, .none, .none] }
theorem newEnT (t : Addr) (us : Array Value) (m : Nat) (dd : Option Addr) (sl : Array (Option Value)) :
    Meets (Builtin.«enumerate.__new__» ⟨[.type "enumerate", .ref t], []⟩) fun _ R z =>
      z.heap.get? t = some { cls := .type "tuple", dict := dd, data := .seq us m, slots := sl } ∧ R (.ok (.ret (.ref (enT1 z.heap t).objs.size))) { z with heap := enT2 z.heap t } :=
  .of_wp fun prog w A R z hz => by
    obtain ⟨h1, g1, d1, t1, o1⟩ := z
    obtain ⟨ht, hR⟩ := hz
    have su := sub_enumerate
    have isT : Heap.IsTuple (Shared.heap ⟨h1, g1, d1, t1, o1⟩) t us := ⟨_, ht, rfl, m, rfl⟩
    wp_walk using wpAny_loadPart' ht
    refine wpAny_stack_any fun _ => wpAny_pure ?_
    split <;> first
      | (rename_i kl _ _ _ _ _; cases (kl == Value.type "enumerate") <;> (wp_walk using wpAny_loadPart' ht, wpAny_pyIter_tuple isT; exact ⟨_, rfl, hR⟩))
      | (wp_walk using wpAny_loadPart' ht, wpAny_pyIter_tuple isT; exact ⟨_, rfl, hR⟩)
theorem enT_get (h : Heap) (t : Addr) : IsEnum (enT2 h t) (h.objs.size + 1) h.objs.size 0 .none ∧ (enT2 h t).IsTupleIter h.objs.size t 0 ∧ ∀ b o, h.get? b = some o → (enT2 h t).get? b = some o := by
  have z1 : (enT1 h t).objs.size = h.objs.size + 1 := Heap.size_push ..
  refine ⟨?_, ⟨_, Heap.get?_push_of_some _ (Heap.get?_push_size _ rfl), rfl, rfl⟩, fun b o e => Heap.get?_push_of_some _ (Heap.get?_push_of_some _ e)⟩
  have := Heap.get?_push_size (enT1 h t) (o := { cls := .type "enumerate", data := .fields #[.none, .bool false, .ref h.objs.size, rawInt 0, .none, .none] }) rfl
  rw [z1] at this
  exact this
section
variable {prog : Program} {w : World} {A : Around} {E : Value → Shared → Prop} {z : Shared}
theorem callEnT {t : Addr} {us : Array Value} {Q : Value → Shared → Prop} (ht : z.heap.IsTuple t us) (k : Q (.ref (z.heap.objs.size + 1)) { z with heap := enT2 z.heap t }) : wpAny (model prog w) A (call (.type "enumerate") [.ref t]) Q E z := by
  obtain ⟨⟨c, dd, dt, sl⟩, hl, hc, m, hd⟩ := ht
  obtain rfl : c = .type "tuple" := hc
  obtain rfl : dt = .seq us m := hd
  have z1 : (enT1 z.heap t).objs.size = z.heap.objs.size + 1 := Heap.size_push ..
  refine callType_new F.called_enumerate (by decide) (F.typeCall_enumerate_1 _) (F.newCall_enumerate_1 _) (fun ob => F.args_object_init_2 ob _) F.entry_enumerate_new (newEnT t us m dd sl) ⟨hl, ?_⟩
  show _ ∧ _
  rw [z1]
  exact ⟨⟨_, (enT_get z.heap t).1, rfl⟩, k⟩
end
/-- the pairs of the tuple at a -/
def IteT (K : PySem.W.Frag) (a : Addr) : It :=
  ⟨fun i H => ∃ us : List V, ∃ x : V, SqT K H a us ∧ us[i]? = some x,
   fun i H v H' => ∃ T x, v = .ref T ∧ H T = none ∧ H' = upd H T (.tup [.int (i : Nat), x]) ∧ ∀ us, SqT K H a us → us[i]? = some x,
   fun i H => ∃ us : List V, SqT K H a us ∧ i = us.length⟩
theorem turnEnT {P : Program} {w : World} {K : PySem.W.Frag} {elts : List Expr} {kk : Nat} {tpos : Pos} (a e it : Addr) :
    Turn P w K (.Tuple elts kk tpos) (IteT K a) [e, it] e (fun i h => (∃ u, IsEnum h e it ((i : Nat) : Int) u) ∧ h.IsTupleIter it a i ∧ e ≠ it ∧ a ≠ it ∧ e ≠ a) where
  mem := List.mem_cons_self
  obj := fun i h ⟨⟨u, he⟩, ⟨o, ho, _, hd⟩, _⟩ b hb => by
    rcases List.mem_cons.mp hb with z | z
    · rw [z]
      exact ⟨_, he, fun _ q => Data.noConfusion q⟩
    · rw [List.mem_singleton] at z
      exact ⟨o, by rw [z]; exact ho, fun v q => by rw [hd] at q; cases q⟩
  keep := fun i h h' ⟨⟨u, he⟩, hi, hne⟩ k => ⟨⟨u, k e List.mem_cons_self _ he⟩, hi.at fun o q => k it (List.mem_cons_of_mem _ List.mem_cons_self) o q, hne⟩
  item := by
    intro X hP hw hK hc i pins s σ H E I hf st hg
    subst hP hw hK
    obtain ⟨⟨u0, he⟩, hit, hne, hai, hea⟩ := st
    obtain ⟨us, x, hq, hx⟩ := hg
    obtain ⟨its, rv, pt, _⟩ := I.tuple hq
    obtain ⟨u, hu, ru⟩ := rv.get hx
    have le : e < s.heap.objs.size := Heap.lt_size he
    have li : it < s.heap.objs.size := Heap.lt_size hit.choose_spec.1
    have ex : its.toArray[i]? = some u := by simpa using hu
    have il : i < its.toArray.size := by
      obtain ⟨q, _⟩ := Array.getElem?_eq_some_iff.mp ex
      exact q
    have D := Draws.tuple (prog := X.prog) (w := X.w) (A := X.A.in1) (show X.A.in1.handled = none from I.ok.hd hc) it a hai its.toArray
    refine wpAny_pyNext_enum_itemD D he ⟨hit, pt⟩ il hne (by simp [hne, hea]) fun y h1 tk hy out st1 gT _ kp => ?_
    obtain rfl : y = u := by
      have hy : its.toArray[i]? = some y := hy
      rw [ex] at hy
      exact (Option.some.inj hy).symm
    refine ⟨_, rfl, wpAny_letOwnedTupleGo_enum (s := { s with heap := h1, toks := tk + 1 }) out fun h2 he2 sb => ?_⟩
    have gT2 : h2.get? s.heap.objs.size = some { cls := .type "tuple", data := .seq #[.int i tk, y] } := by rw [sb.2 _ (Nat.ne_of_gt le)]; exact gT
    have pr : ObjOk X.prog X.w (upd H s.heap.objs.size (.tup [.int (i : Nat), x])) h2 s.heap.objs.size (.tup [.int (i : Nat), x]) := by
      refine ⟨?_, [.int i tk, y], .cons ⟨_, rfl⟩ (.cons ru .nil), _, gT2, rfl, _, rfl⟩
      show 2 ≤ sizeLine
      decide
    have J : Inv X pins σ (upd H s.heap.objs.size (.tup [.int (i : Nat), x])) { s with heap := h2, toks := tk + 1 } := by
      refine I.turnedNew (ch := [e, it]) (fun b ob hb q => ?_) hf (Nat.le_refl _) pr
      have nb : b ≠ e ∧ b ≠ it := ⟨fun y => hb (by simp [y]), fun y => hb (by simp [y])⟩
      rw [sb.2 b nb.1]
      exact kp b ob nb.1 nb.2 q
    refine ⟨.ref s.heap.objs.size, _, J, rfl, ⟨_, x, rfl, I.hok.fresh (Nat.le_refl _), rfl, fun vs hv => ?_⟩, ⟨⟨y, ?_⟩, ?_, hne, hai, hea⟩, fun b hb => ?_⟩
    · rw [I.tuple_inj hv hq]
      exact hx
    · rw [show ((i + 1 : Nat) : Int) = (i : Int) + 1 by omega]
      exact he2
    · exact st1.1.at fun o q => by rw [sb.2 it (Ne.symm hne)]; exact q
    · have lb : b < s.heap.objs.size := by
        rcases List.mem_cons.mp hb with z | z
        · rw [z]; exact le
        · rw [List.mem_singleton.mp z]; exact li
      rw [upd_ne (Nat.ne_of_lt lb)]
      exact (hf b hb).1
  done := by
    intro X hP hw hK hc i pins s σ H E I hf st hg
    subst hP hw hK
    obtain ⟨⟨u0, he⟩, hit, hne, hai, hea⟩ := st
    obtain ⟨us, hq, hx⟩ := hg
    obtain ⟨its, rv, pt, _⟩ := I.tuple hq
    obtain ⟨f0, f1, f2, f3, f4, f5⟩ := hf it (by simp)
    obtain rfl : i = its.toArray.size := by
      rw [hx, rv.length]
      simp
    have D := Draws.tuple (prog := X.prog) (w := X.w) (A := X.A.in1) (show X.A.in1.handled = none from I.ok.hd hc) it a hai its.toArray
    refine wpAny_pyNext_enum_endD D he ⟨hit, pt⟩ fun h1 eb => ⟨rfl, ?_⟩
    exact I.turned (t' := s.toks) (fun b o nb q => eb b o nb q) f0 f1 f3 f4 f5
  self := fun A i s Q E st h => wpAny_pyIter_enum st.1.choose_spec h
def iEnT (K : PySem.W.Frag) (ta : TA) : TI := fun σ H R => ta σ H fun vs H1 => ∃ (a : Addr) (us : List V), vs = [.ref a] ∧ SqT K H1 a us ∧ R (IteT K a) H1
theorem piEnT {X : Cx} {e : Expr} {ta : TA} {p pos tpos : Pos} {elts : List Expr} {kk : Nat} (hg : Gl X "enumerate") (hm : X.mg "enumerate" = none) (ha : PA X [e] ta) (hs : starEach [e] X.env = [(false, eval e X.env)] := by rfl) : PI X (.Tuple elts kk tpos) (.Call (.Name "enumerate" p) [e] [] pos) (iEnT X.K ta) := by
  refine ⟨fun pins z σ H R I h => Call_ (ld_blt I hg hm boot_enumerate (PyProof.Rows.callWith_type1 (thn (ha.run pos pins z σ H _ I h) fun us z1 ⟨vs, H1, J, r1, q1⟩ => ?_) hs rfl))⟩
  obtain ⟨a, xs, rfl, hq, q⟩ := q1
  cases r1 with
  | cons r rr =>
    cases rr
    cases r
    obtain ⟨its, rv, pt, _⟩ := J.tuple hq
    obtain ⟨g1, g2, g3⟩ := enT_get z1.heap a
    have la : a < z1.heap.objs.size := Heap.lt_size pt.choose_spec.1
    refine callEnT pt (wpAny_pyIter_enum g1 ?_)
    have J2 : Inv X pins σ H1 { z1 with heap := enT2 z1.heap a } := J.kept (t' := z1.toks) g3
    refine ⟨z1.heap.objs.size + 1, [z1.heap.objs.size + 1, z1.heap.objs.size], _, _, H1, rfl, J2, turnEnT a (z1.heap.objs.size + 1) z1.heap.objs.size, ⟨⟨.none, g1⟩, g2, Nat.succ_ne_self _, Nat.ne_of_lt la, Nat.ne_of_gt (Nat.lt_succ_of_lt la)⟩, fun b hb => ?_, q⟩
    have hle : z1.heap.objs.size ≤ b := by
      rcases List.mem_cons.mp hb with y | y
      · rw [y]
        exact Nat.le_add_right _ _
      · rw [List.mem_singleton.mp y]
        exact Nat.le_refl _
    exact J.fpOk hle (J.hok.fresh hle)
theorem walkEnT {K : PySem.W.Frag} {a : Addr} {us : List V} : Walk (IteT K a) us.length (fun H => SqT K H a us) (YPair (fun i => some (.int (i : Nat))) (fun i => us[i]?)) :=
  ⟨fun i _ hi q => ⟨us, us[i], q, by simp [hi]⟩, fun _ q => ⟨us, q, rfl⟩, fun i H v H' _ q ⟨T, x, h1, h2, h3, h4⟩ => ⟨T, .int (i : Nat), x, h1, h2, h3, rfl, h4 us q⟩⟩
section
variable {C : CI} {X : Cx} {za : ZA} {p pos : Pos}
def ziEnumT (za : ZA) : ZI := fun Γ Δ P => za Γ Δ fun ds Δ1 => ∃ xs, ds = [.tup xs] ∧ P (enumD xs) Δ1
theorem iz_enumT {e : Expr} {tpos : Pos} {elts : List Expr} {kk : Nat} (ha : AZ C X [e] za) (hm : X.mg "enumerate" = none) (hg : Gl X "enumerate" := by rfl) (hs : starEach [e] X.env = [(false, eval e X.env)] := by rfl) : IZ C X (.Tuple elts kk tpos) (.Call (.Name "enumerate" p) [e] [] pos) (ziEnumT za) := by
  obtain ⟨t, a1, a2⟩ := ha.ex
  refine ⟨_, piEnT hg hm a1 hs, fun S A σ H Γ Δ P R hs hc hz k => a2 S A σ H Γ Δ _ _ hs hc hz fun vs ds A1 H1 Δ1 e1 c1 r1 q => ?_⟩
  obtain ⟨xs, rfl, q⟩ := q
  obtain ⟨v, rfl, rv⟩ := one_rep r1
  cases rv with
  | tup g1 g2 g3 g4 =>
    rename_i a us
    refine ⟨a, us, rfl, SqT.of g1, ?_⟩
    refine k (IteT X.K a) us.length _ _ _ A1 H1 Δ1 e1 c1 q (by unfold enumD; rw [List.length_map, List.length_zipIdx, g4.length]) walkEnT (fun S2 A2 H2 m => SqT.of (m.keep _ _ g2 g3 g1)) fun S2 A2 H2 Δ2 i x H3 hi m c2 y => ?_
    obtain ⟨T, y1, y2, rfl, nT, rfl, f1, f2⟩ := y
    cases f1
    obtain ⟨d2, q3, q4⟩ := (RepL.mono m _ g4).getV f2
    refine ⟨.tup [.int (i : Nat), d2], ?_, fun b o h => by rw [upd_ne (ne_of_none h nT)]; exact h, .tup upd_same (c2.fresh nT) (c2.aside nT) (.cons (.int _) (.cons (q4.ext (Ext.new nT)) .nil))⟩
    unfold enumD
    rw [List.getElem?_map, List.getElem?_zipIdx, q3]
    simp
end
end Z

/-! Z15: sorted(set(..)) of a list of ints. -/
namespace Z
open PySem PySem.Spec PyProof.Rows L2
/-- the set that is made first, and the heap with it -/
def emS (w : World) : Obj := { cls := .type "set", dict := none, data := .set #[] 0 (.fresh 0 0 (!w.params.followText "set-order")) }
def emH (w : World) (h : Heap) : Heap := h.push (emS w)
section
variable {P : Program} {w : World} {A : Around} {E : Value → Shared → Prop} {s : Shared}
theorem setOfL {l : Addr} {us : Array Value} (ns : List Int) {Q : Value → Shared → Prop} (hh : A.handled = none) (hl : s.heap.IsList l us) (iu : IntsAre us.toList ns) (few : ns.length + 1 < scanBound)
    (k : ∀ (h' : Heap) (t c : Nat), SetR w h' s.heap.objs.size (fun j => decide (j ∈ ns)) c → c ≤ ns.length → (∀ b o, s.heap.get? b = some o → h'.get? b = some o) → Q (.ref s.heap.objs.size) { s with heap := h', toks := t }) : wpAny (model P w) A (call (.type "set") [.ref l]) Q E s := by
  have usz : us.size = ns.length := by rw [← IntsAre.length iu, Array.length_toList]
  obtain ⟨cc, tt, mr⟩ := F.called_set.mro
  have md := F.called_set.made
  have sb := F.called_set.sub
  refine wpAny_call (codeAny_of_tree (show wpAny _ _ (callAny (.type "set") _) _ _ _ from ?_))
  refine wpAny_pure ⟨Code.quiet_builtin _ (by decide +kernel), codeAny_builtin F.entry_type_call ?_⟩
  rw [Around.under_plain (weight_type_call_type "set" [.ref l] []) rfl]
  have y1 := F.called_set.notType
  have y2 := F.called_set.canCreate
  have y3 := F.typeCall_set_1 (.ref l)
  repeat (any_goals first | assumption | wp_step)
  refine codeAny_mono (code_set_led1 (.ref l) (E := E) (Q₁ := fun ob z => ob = .ref s.heap.objs.size ∧ z = { s with heap := emH w s.heap }) ⟨rfl, rfl⟩) fun r z hr => ?_
  rcases r with e | fl
  · exact hr
  cases fl with
  | ret ob =>
    obtain ⟨rfl, rfl⟩ := hr
    have gS : (emH w s.heap).get? s.heap.objs.size = some (emS w) := Heap.get?_push_size _ rfl
    have tS : Shared.TypeIs { s with heap := emH w s.heap } (.ref s.heap.objs.size) "set" := ⟨_, gS, rfl⟩
    have y4 := F.called_set.init.lookup
    have y5 := F.called_set.init.bind (.ref s.heap.objs.size)
    repeat (any_goals first | assumption | wp_step)
    refine codeAny_mono (codeAny_call_builtin (R := wants (fun r z => r = .none ∧ ∃ h' t c, z = { s with heap := h', toks := t } ∧ SetR w h' s.heap.objs.size (fun j => decide (j ∈ ns)) c ∧ c ≤ ns.length ∧ ∀ b o, s.heap.get? b = some o → h'.get? b = some o) E) F.called_set.init.plain F.entry_set_init (check_set_init_1 tS ?_)) fun r2 z2 hr2 => ?_
    · obtain ⟨⟨kl, dd, dt, sl⟩, gl, hkl, m, hd⟩ := hl
      obtain rfl : kl = .type "list" := hkl
      obtain rfl : dt = .seq us m := hd
      have gl2 : (emH w s.heap).get? l = some { cls := .type "list", dict := dd, data := .seq us m, slots := sl } := Heap.get?_push_of_some _ gl
      have n1 := F.sub_list_set
      have n2 := F.sub_list_frozenset
      have n3 : (Value.type "list" == Value.type "dict") = false := by decide
      have isL : (emH w s.heap).IsList l us := ⟨_, gl2, rfl, m, rfl⟩
      unfold Builtin.«set.__init__» noKeywords Builtin.Frozenset.updateFrom
      generalize hp : pyIter = pI
      wp_walk
      subst hp
      refine wpAny_pyIter_list isL (wpAny_bind (wpAny_runValue ?_))
      have ll : l < s.heap.objs.size := Heap.lt_size gl
      have h3 : A.in1.in1.in1.handled = none := hh
      have z1 : (emH w s.heap).objs.size = s.heap.objs.size + 1 := Heap.size_push ..
      have nI : l ≠ (emH w s.heap).objs.size := by
        rw [z1]
        exact Nat.ne_of_lt (Nat.lt_succ_of_lt ll)
      have nf : s.heap.objs.size ∉ [(emH w s.heap).objs.size, l] := by
        rw [z1]
        intro y
        rcases List.mem_cons.mp y with y | y
        · exact Nat.ne_of_lt (Nat.lt_succ_self _) y
        · exact Nat.ne_of_gt ll (List.mem_singleton.mp y)
      have vs : ∀ (i : Nat) (v : Value), us[i]? = some v → ∃ j t, ns[i]? = some j ∧ v = .int j t := fun i v hv => by
        have hi : i < ns.length := by
          rw [← usz]
          exact (Array.getElem?_eq_some_iff.mp hv).1
        obtain ⟨t, e⟩ := PyProof.Rows.IntsAre.int_at iu i v (by rw [Array.getElem?_toList]; exact hv)
        refine ⟨ns[i], t, List.getElem?_eq_getElem hi, e.trans ?_⟩
        rw [List.getD_eq_getElem?_getD, List.getElem?_eq_getElem hi] <;> rfl
      refine set_update_ints ((Walks.list h3 _ l nI us).toS) s.heap.objs.size nf ns usz few vs (us.size - 0) 0 _ (by omega) (Nat.zero_le _) ⟨⟨_, Heap.get?_push_size _ rfl, rfl, rfl⟩, isL.push _⟩ ?g0 ?g1
      case g0 => exact ⟨0, Nat.le_refl 0, setR_new_at (Heap.get?_push_of_some _ gS)⟩
      case g1 =>
        intro z c mv hc hS
        obtain ⟨h', g', d', t', o'⟩ := z
        obtain rfl : g' = s.gens := mv.gens
        obtain rfl : d' = s.drawn := mv.drawn
        obtain rfl : o' = s.os := mv.os
        rw [usz] at hc
        refine wpAny_pure (wpAny_pure ⟨rfl, h', t', c, rfl, hS, hc, fun b o e => ?_⟩)
        have lb : b < s.heap.objs.size := Heap.lt_size e
        refine mv.heap b o (fun y => ?_) (Heap.get?_push_of_some _ (Heap.get?_push_of_some _ e))
        rcases List.mem_cons.mp y with y | y
        · exact Nat.ne_of_lt lb y
        · have y := List.mem_singleton.mp y
          rw [show (emH w s.heap).objs.size = s.heap.objs.size + 1 from z1] at y
          exact Nat.ne_of_lt (Nat.lt_succ_of_lt lb) y
    · rcases r2 with e | fl2
      · exact hr2
      cases fl2 with
      | ret r =>
        obtain ⟨rfl, h', t, c, rfl, hS, hc, hk⟩ := hr2
        repeat (any_goals first | assumption | wp_step)
        exact k _ _ _ hS hc hk
      | _ => exact hr2.elim
  | _ => exact hr.elim
end
end Z

namespace Z
open PySem PySem.Spec PyProof.Rows L2
def rSetL (K : PySem.W.Frag) (w : World) : List V → Hp → VK → Prop := fun xs H Q => ∃ (l : Addr) (ns : List Int), xs = [.ref l] ∧ SqL K H l (ns.map V.int) ∧ ns.length + 1 < scanBound ∧ ∀ a c, H a = none → c ≤ ns.length → Q (.ref a) (upd H a (SetO w a (fun j => decide (j ∈ ns)) c))
theorem crSetL {X : Cx} (hc : X.calm = true) : CallR X (.type "set") (rSetL X.K X.w) := by
  rintro pins s σ H _ us Q I r ⟨l, ns, rfl, hl, few, q⟩
  rw [Vals.ref1 r]
  obtain ⟨its, rv, pl, _⟩ := I.list hl
  refine setOfL ns (I.ok.hd hc) pl.isList (ints_of_vals rv) few fun h' t c R lc kp => ?_
  exact ⟨.ref s.heap.objs.size, _, I.laid (t' := t) kp (Nat.le_refl _) (setO_new R), rfl, q _ c (I.hok.fresh (Nat.le_refl _)) lc⟩
section
variable {C : CI} {X : Cx} {z : ZE} {e : Expr} {p p2 pos pos2 : Pos}
def zSrtL (z : ZE) : ZE := fun Γ Δ P => z Γ Δ fun d Δ1 => ∃ ns : List Int, lstD Δ1 d = some (ns.map D.int) ∧ ns.length < 63 ∧ ∀ ms : List Int, ms.Pairwise (· < ·) → (∀ k, k ∈ ms ↔ k ∈ ns) → P (.lst (ms.map D.int)) Δ1
theorem ez_srtL (m1 : X.mg "sorted" = none) (m2 : X.mg "set" = none) (h : EZ C X e z) (hc : X.calm = true := by rfl) (g1 : Gl X "sorted" := by rfl) (g2 : Gl X "set" := by rfl)
    (st1 : starEach [e] X.env = (false, eval e X.env) :: starEach [] X.env := by rfl) (pl1 : (backTo pos2 (starEach [] X.env)).any (·.1) = false := by rfl)
    (st2 : starEach [.Call (.Name "set" p2) [e] [] pos2] X.env = (false, eval (.Call (.Name "set" p2) [e] [] pos2) X.env) :: starEach [] X.env := by rfl) (pl2 : (backTo pos (starEach [] X.env)).any (·.1) = false := by rfl) :
    EZ C X (.Call (.Name "sorted" p) [.Call (.Name "set" p2) [e] [] pos2] [] pos) (zSrtL z) := by
  obtain ⟨t, a1, a2⟩ := h.ex
  have q1 := pe_callTy (X := X) (pos := pos2) (p := p2) (crSetL hc) g2 m2 PyProof.Rows.boot_set (pa_cons a1 pa_nil st1) (by decide) (by decide) st1 pl1
  refine ⟨_, pe_callB (cr_sortedSet hc) g1 m1 (by decide +kernel) (pa_cons q1 pa_nil st2) (by decide) (by decide) st2 pl2, fun S A σ H Γ Δ P Q hs hc2 hz k => ?_⟩
  refine a2 S A σ H Γ Δ _ _ hs hc2 hz fun v d A1 H1 Δ1 e1 c1 r1 ⟨ns, hd, few, q⟩ => ?_
  obtain ⟨pa, ys, rfl, hq, rr⟩ := Rep.lst_ c1 r1 hd
  obtain rfl := repL_int rr
  refine ⟨pa, ns, rfl, SqL.of hq, by unfold scanBound; omega, fun a c ha lc => ?_⟩
  refine ⟨a, _, c, rfl, upd_same, by omega, fun ms b y1 y2 _ hb => ?_⟩
  have c2 : Cells X.K C S A1 (upd H1 a (SetO X.w a (fun j => decide (j ∈ ns)) c)) Δ1 := c1.kept fun x o y => by
    rw [upd_ne (ne_of_none y ha)]
    exact y
  have c3 := c2.kept (H' := upd (upd H1 a (SetO X.w a (fun j => decide (j ∈ ns)) c)) b (.lst (ms.map V.int))) fun x o y => by
    rw [upd_ne (ne_of_none y hb)]
    exact y
  exact k _ _ A1 _ Δ1 ((e1.trans (Ext.new ha)).trans (Ext.new hb)) c3 (.lst upd_same (c2.fresh hb) (c2.aside hb) (repL_ints ms)) (q ms y1 fun j => by rw [y2, decide_eq_true_iff])
end
end Z

/-! Z17: powers of great ints; min, max of a list; isinstance with several types; list(range(..)); a call that is lent the cells' contents and gives a new list; a def that is never called. -/
namespace Z
open PySem PySem.Spec PyProof.Rows L2
/-! ### powers -/
def CPowW (i j : Int) : Prop := 0 ≤ j ∧ ((i.natAbs.log2 + 1 : Nat) : Int) * j ≤ 2 ^ 27
section
variable {C : CI} {X : Cx}
theorem op_powW : OpR X (binaryOp .Pow) (rI CPowW fun i j => .int (i ^ j.toNat)) := opI fun i j _ _ _ _ _ hc q => by
  refine pow_int hc.1 ?_ q
  have b : Builtin.Int.intBits i ≤ i.natAbs.log2 + 1 := by
    unfold Builtin.Int.intBits
    split <;> omega
  have h := hc.2
  have h1 : ((Builtin.Int.intBits i : Nat) : Int) * j ≤ ((i.natAbs.log2 + 1 : Nat) : Int) * j := Int.mul_le_mul_of_nonneg_right (by omega) hc.1
  exact Int.le_trans h1 h
theorem oz_powW : OpZ C X (binaryOp .Pow) (zI CPowW fun i j => .int (i ^ j.toNat)) := ⟨_, op_powW, ref_I fun _ _ _ _ _ => .int _⟩
/-! ### min, max of a list of ints -/
def zMin1 : ZRC := fun ds Δ P => ∃ (d : D) (ns : List Int), ds = [d] ∧ lstD Δ d = some (ns.map D.int) ∧ ns ≠ [] ∧ ∀ m, m ∈ ns → (∀ y, y ∈ ns → m ≤ y) → P (.int m) Δ
def zMax1 : ZRC := fun ds Δ P => ∃ (d : D) (ns : List Int), ds = [d] ∧ lstD Δ d = some (ns.map D.int) ∧ ns ≠ [] ∧ ∀ m, m ∈ ns → (∀ y, y ∈ ns → y ≤ m) → P (.int m) Δ
theorem cz_min1 (hc : X.calm = true := by rfl) : CallZ C X (.builtin "min") zMin1 := ⟨_, cr_min hc, fun S A H Δ xs ds P Q hc r hz k => by
  obtain ⟨d, ns, rfl, hd, hne, q⟩ := hz
  obtain ⟨v, rfl, rv⟩ := one_rep r
  obtain ⟨pa, ys, rfl, hq, rr⟩ := Rep.lst_ hc rv hd
  obtain rfl := repL_int rr
  exact ⟨pa, ns, rfl, SqL.of hq, List.length_pos_iff.mpr hne, fun m h1 h2 => k _ _ A H Δ (Ext.refl _ _) hc (.int _) (q m h1 h2)⟩⟩
theorem cz_max1 (hc : X.calm = true := by rfl) : CallZ C X (.builtin "max") zMax1 := ⟨_, cr_max hc, fun S A H Δ xs ds P Q hc r hz k => by
  obtain ⟨d, ns, rfl, hd, hne, q⟩ := hz
  obtain ⟨v, rfl, rv⟩ := one_rep r
  obtain ⟨pa, ys, rfl, hq, rr⟩ := Rep.lst_ hc rv hd
  obtain rfl := repL_int rr
  exact ⟨pa, ns, rfl, SqL.of hq, List.length_pos_iff.mpr hne, fun m h1 h2 => k _ _ A H Δ (Ext.refl _ _) hc (.int _) (q m h1 h2)⟩⟩
/-! ### isinstance(x, (T, ..)) -/
inductive ClsDs (C : CI) : List D → List Value → Prop where
  | nil : ClsDs C [] []
  | cons {d : D} {u : Value} {ds : List D} {us : List Value} (h : clsD C d = some u) (r : ClsDs C ds us) : ClsDs C (d :: ds) (u :: us)
theorem RepL.clsVs {K : PySem.W.Frag} {S A : List Addr} {H : Hp} : ∀ {ds : List D} {us : List Value} {vs : List V}, ClsDs C ds us → RepL K C S A H vs ds → Paired ClsV vs us
  | _, _, _, .nil, h => by cases h; exact .nil
  | _, _, _, .cons h r, q => by
    cases q with
    | cons q1 q2 => exact .cons (q1.clsV h) (RepL.clsVs r q2)
def zIsiT (K : PySem.W.Frag) (C : CI) : ZRC := fun ds Δ P => ∃ x ys t us b, ds = [x, .tup ys] ∧ tyD C Δ x = some t ∧ ClsDs C ys us ∧ (∀ Ca, t = .ref Ca → Isi K Ca) ∧ PySem.W.kitAny K t us = some b ∧ P (.bl b) Δ
theorem cz_isiT : CallZ C X (.builtin "isinstance") (zIsiT X.K C) := ⟨_, call_isiT, fun S A H Δ xs ds P Q hc r hz k => by
  obtain ⟨x, ys, t, us, b, rfl, h1, h2, h3, h4, q⟩ := hz
  obtain ⟨v, v', rfl, rv, rv'⟩ := two_rep r
  cases rv' with
  | tup g1 g2 g3 g4 => exact ⟨v, _, _, t, us, b, rfl, g1, g4.clsVs h2, rv.tyX hc h1 h3, h4, k _ _ A H Δ (Ext.refl _ _) hc (.bl _) q⟩⟩
end
/-! ### a new list, made by a call that is lent the cells' contents -/
section
variable {K : PySem.W.Frag} {C : CI} {S A : List Addr} {H H' : Hp} {Δ : Store}
mutual
theorem Rep.re {A A' : List Addr} (c : ∀ a xs, H a = some (.tup xs) → a ∉ A) : ∀ (d : D) {v : V}, bareT d = true → Rep K C S A' H v d → Rep K C S A H v d
  | .non, _, _, h => by cases h; exact .non
  | .bl b, _, _, h => by cases h; exact .bl b
  | .int i, _, _, h => by cases h; exact .int i
  | .str x, _, _, h => by cases h; exact .str x
  | .tup ds, _, hb, h => by cases h with | tup h1 hA hS r => exact .tup h1 (c _ _ h1) hS (RepL.re c ds hb r)
  | .ty _, _, hb, _ => by cases hb
  | .cls _, _, hb, _ => by cases hb
  | .lst _, _, hb, _ => by cases hb
  | .ins _ _, _, hb, _ => by cases hb
  | .dct _ _, _, hb, _ => by cases hb
  | .cell _, _, hb, _ => by cases hb
  | .scr _, _, hb, _ => by cases hb
  | .ktup _, _, hb, _ => by cases hb
theorem RepL.re {A A' : List Addr} (c : ∀ a xs, H a = some (.tup xs) → a ∉ A) : ∀ (ds : List D) {vs : List V}, bareTs ds = true → RepL K C S A' H vs ds → RepL K C S A H vs ds
  | [], _, _, h => by cases h; exact .nil
  | d :: ds, _, hb, h => by
    have hb' : (bareT d && bareTs ds) = true := hb
    rw [Bool.and_eq_true] at hb'
    cases h with
    | cons h r => exact .cons (Rep.re c d hb'.1 h) (RepL.re c ds hb'.2 r)
end
/-- a list that stood nowhere becomes a cell of the caller -/
theorem Cells.adopt (c1 : Cells K C S A H Δ) {A' : List Addr} {Δ' : Store} (e2 : Ext [] H A' H') (c2 : Cells K C S A' H' Δ') {m : Nat} {a : Addr} {es : List D} (h1 : A'[m]? = some a) (h2 : Δ'[m]? = some (.lst es)) (hb : bareTs es = true) :
    H a = none ∧ Ext A H (A ++ [a]) H' ∧ Cells K C S (A ++ [a]) H' (Δ ++ [.lst es]) ∧ ∃ xs, H' a = some (.lst xs) ∧ RepL K C S A H' xs es := by
  have kp : ∀ b o, H b = some o → H' b = some o := fun b o h => e2.keep b o (fun q => nomatch q) h
  have ha : a ∈ A' := List.mem_of_getElem? h1
  obtain ⟨B, hB, nB⟩ := e2.pre
  have hn : H a = none := by
    rw [hB, List.nil_append] at ha
    exact nB a ha
  have haS : a ∉ S := c2.dj a ha
  have haA : a ∉ A := c1.fresh hn
  obtain ⟨xs, g1, g2⟩ := c2.at_ m a _ h1 h2
  have k1 := c1.kept kp
  have nt : ∀ b ys, H' b = some (.tup ys) → b ∉ A := fun b ys h => k1.no_tup h
  have nt2 : ∀ b ys, H' b = some (.tup ys) → b ∉ A ++ [a] := fun b ys h hm => by
    rcases List.mem_append.mp hm with hm | hm
    · exact nt b ys h hm
    · rw [List.mem_singleton] at hm
      subst hm
      rw [g1] at h
      cases h
  have ex : Ext A H (A ++ [a]) H' := ⟨⟨[a], rfl, fun b hb => by rw [List.mem_singleton] at hb; rw [hb]; exact hn⟩, fun b o _ h => kp b o h, e2.trk⟩
  refine ⟨hn, ex, ⟨by rw [List.length_append, List.length_append, c1.len] <;> rfl, ?_, ?_, ?_, ?_⟩, xs, g1, RepL.re nt es hb g2⟩
  · refine List.nodup_append.mpr ⟨c1.nd, by simp, fun b hb c hc => ?_⟩
    rw [List.mem_singleton] at hc
    subst hc
    exact fun q => haA (q ▸ hb)
  · intro b hb
    rcases List.mem_append.mp hb with hb | hb
    · exact c1.dj b hb
    · rw [List.mem_singleton] at hb
      subst hb
      exact haS
  · exact fun b hb => c2.as b hb
  · intro n b w q1 q2
    by_cases hn2 : n < A.length
    · rw [List.getElem?_append_left hn2] at q1
      rw [List.getElem?_append_left (by rw [← c1.len]; exact hn2)] at q2
      exact (c1.at_ n b w q1 q2).mono ex.mo (kp b)
    · have hn3 : n = A.length := by
        have := (List.getElem?_eq_some_iff.mp q1).1
        rw [List.length_append] at this
        simp at this
        omega
      subst hn3
      rw [List.getElem?_append_right (Nat.le_refl _), Nat.sub_self] at q1
      rw [c1.len, List.getElem?_append_right (Nat.le_refl _), Nat.sub_self] at q2
      simp at q1 q2
      subst q1
      subst q2
      exact ⟨xs, g1, RepL.re nt2 es hb g2⟩
end
/-- the new list may be changed by the caller -/
def lentC (W : ZRC) : ZRC := fun ds Δ P => Z.belowL 0 (ds.map (Z.thaw Δ)) = true ∧ W (ds.map (Z.thaw Δ)) [] fun d Δ' => ∃ m es, d = .cell m ∧ Δ'[m]? = some (.lst es) ∧ bareTs es = true ∧ P (.cell Δ.length) (Δ ++ [.lst es])
/-- the caller never changes the new list -/
def lentF (W : ZRC) : ZRC := fun ds Δ P => Z.belowL 0 (ds.map (Z.thaw Δ)) = true ∧ W (ds.map (Z.thaw Δ)) [] fun d Δ' => ∃ m es, d = .cell m ∧ Δ'[m]? = some (.lst es) ∧ bareTs es = true ∧ P (.lst es) Δ
def zCallBC (W : ZRC) (za : ZA) : ZE := fun Γ Δ P => za Γ Δ fun ds Δ1 => lentC W ds Δ1 P
def zCallBF (W : ZRC) (za : ZA) : ZE := fun Γ Δ P => za Γ Δ fun ds Δ1 => lentF W ds Δ1 P
section
variable {C : CI} {X : Cx} {e : Expr} {es : List Expr} {za : ZA} {pos p : Pos} {x : Str} {k : Nat} {f : Addr} {fd : FuncData} {ps : List Str} {W : ZRC}
theorem ref_callBC {K : PySem.W.Frag} {ta : TA} {E : XK} (ha : RefA K C ta za) : RefE K C (tCall (SpZ K C W) [] E ta) (zCallBC W za) := fun S A σ H Γ Δ P Q hs hc hz k =>
  ha S A σ H Γ Δ _ _ hs hc hz fun vs ds A1 H1 Δ1 e1 c1 r1 p => by
    obtain ⟨hb, p⟩ := p
    refine ⟨S, [], [], ds.map (Z.thaw Δ1), _, ?_, ⟨rfl, .nil, (fun a ha => nomatch ha), c1.as, (fun n a o h => nomatch h)⟩, p, fun v d A' H' Δ' e2 c2 r2 p2 => ?_⟩
    · rw [List.append_nil]; exact RepL.thw c1 ds hb r1
    · obtain ⟨m, es, rfl, h2, hb2, p2⟩ := p2
      cases r2 with
      | cell h1 =>
        rename_i a
        obtain ⟨q1, q2, q3, _⟩ := c1.adopt e2 c2 h1 h2 hb2
        refine k _ _ (A1 ++ [a]) H' _ (e1.trans q2) q3 (.cell ?_) p2
        rw [← c1.len, List.getElem?_append_right (Nat.le_refl _), Nat.sub_self]
        rfl
theorem ref_callBF {K : PySem.W.Frag} {ta : TA} {E : XK} (ha : RefA K C ta za) : RefE K C (tCall (SpZ K C W) [] E ta) (zCallBF W za) := fun S A σ H Γ Δ P Q hs hc hz k =>
  ha S A σ H Γ Δ _ _ hs hc hz fun vs ds A1 H1 Δ1 e1 c1 r1 p => by
    obtain ⟨hb, p⟩ := p
    refine ⟨S, [], [], ds.map (Z.thaw Δ1), _, ?_, ⟨rfl, .nil, (fun a ha => nomatch ha), c1.as, (fun n a o h => nomatch h)⟩, p, fun v d A' H' Δ' e2 c2 r2 p2 => ?_⟩
    · rw [List.append_nil]; exact RepL.thw c1 ds hb r1
    · obtain ⟨m, es, rfl, h2, hb2, p2⟩ := p2
      cases r2 with
      | cell h1 =>
        rename_i a
        obtain ⟨q1, q2, q3, xs, q4, q5⟩ := c1.adopt e2 c2 h1 h2 hb2
        have kp : ∀ a o, H1 a = some o → H' a = some o := fun a o h => e2.keep a o (fun q => nomatch q) h
        exact k _ _ A1 H' Δ1 (e1.trans (Ext.kept kp)) (c1.kept kp) (.lst q4 (c1.fresh q1) (c2.dj a (List.mem_of_getElem? h1)) q5) p2
theorem ez_callbC (F : FnOk X.prog X.w X.K X.mg X.base CX0 k f fd ps (SpZ X.K C W)) (hr : Room k X.A) (hm : X.mg x = some (.ref f)) (hk : PySem.W.keepIn X.K (.ref f) = true) (hb : Binds X.K fd ps [])
    (ha : AZ C X (e :: es) za) (hg : Gl X x := by rfl) (hdb : (x == ("__debug__" : Str)) = false := by decide) (he : starEach (e :: es) X.env = (false, eval e X.env) :: starEach es X.env := by rfl) (hpl : (backTo pos (starEach es X.env)).any (·.1) = false := by rfl) :
    EZ C X (.Call (.Name x p) (e :: es) [] pos) (zCallBC W za) := by
  obtain ⟨t, a1, a2⟩ := ha.ex
  exact ⟨_, pe_call F hr hg hm hk hb .nil pass0 a1 hdb he hpl, ref_callBC a2⟩
theorem ez_callbF (F : FnOk X.prog X.w X.K X.mg X.base CX0 k f fd ps (SpZ X.K C W)) (hr : Room k X.A) (hm : X.mg x = some (.ref f)) (hk : PySem.W.keepIn X.K (.ref f) = true) (hb : Binds X.K fd ps [])
    (ha : AZ C X (e :: es) za) (hg : Gl X x := by rfl) (hdb : (x == ("__debug__" : Str)) = false := by decide) (he : starEach (e :: es) X.env = (false, eval e X.env) :: starEach es X.env := by rfl) (hpl : (backTo pos (starEach es X.env)).any (·.1) = false := by rfl) :
    EZ C X (.Call (.Name x p) (e :: es) [] pos) (zCallBF W za) := by
  obtain ⟨t, a1, a2⟩ := ha.ex
  exact ⟨_, pe_call F hr hg hm hk hb .nil pass0 a1 hdb he hpl, ref_callBF a2⟩
end
/-! ### a def that is never called -/
theorem fn_never {P : Program} {w : World} {K : PySem.W.Frag} {mg : Str → Option Value} {base : Heap} {C : CI} {k : Nat} {f : Addr} {fd : FuncData} {ps : List Str} : FnOk P w K mg base CX0 k f fd ps (SpZ K C fun _ _ _ => False) :=
  ⟨fun _ _ _ _ h => by obtain ⟨_, _, _, _, _, _, _, h, _⟩ := h; exact h.elim, fun _ _ _ _ _ _ _ _ _ _ _ _ _ h => by obtain ⟨_, _, _, _, _, _, _, h, _⟩ := h; exact h.elim⟩
/-! ### list(range(..)) -/
section
variable {C : CI} {X : Cx} {a b : Expr} {za zb : ZE} {p p2 pos pos2 : Pos}
def zLstR1 (za : ZE) : ZE := fun Γ Δ P => za Γ Δ fun x Δ1 => ∃ n : Int, x = .int n ∧ RgOk 0 n ∧ P (.lst (rangeD 0 n)) Δ1
def zLstR2 (za zb : ZE) : ZE := fun Γ Δ P => za Γ Δ fun x Δ1 => zb Γ Δ1 fun y Δ2 => ∃ i j : Int, x = .int i ∧ y = .int j ∧ RgOk i j ∧ P (.lst (rangeD i j)) Δ2
theorem rep_rg {K : PySem.W.Frag} {S A : List Addr} {H : Hp} (lo : Int) : ∀ (l : List Nat), RepL K C S A H (l.map fun (i : Nat) => V.int (lo + (i : Int))) (l.map fun (i : Nat) => D.int (lo + (i : Int)))
  | [] => .nil
  | _ :: l => .cons (.int _) (rep_rg lo l)
theorem ez_lstR1 (hm : X.mg "list" = none) (hm2 : X.mg "range" = none) (ha : EZ C X a za) (hc : X.calm = true := by rfl) (hg : Gl X "list" := by rfl) (hg2 : Gl X "range" := by rfl) (na : starEach [a] X.env = (false, eval a X.env) :: starEach [] X.env := by rfl)
    (nb : starEach [.Call (.Name "range" p2) [a] [] pos2] X.env = (false, eval (.Call (.Name "range" p2) [a] [] pos2) X.env) :: starEach [] X.env := by rfl) : EZ C X (.Call (.Name "list" p) [.Call (.Name "range" p2) [a] [] pos2] [] pos) (zLstR1 za) := by
  obtain ⟨t, a1, a2⟩ := ha.ex
  refine ⟨_, pe_listRg hc hg hm (prg_1 hg2 hm2 a1 na) nb, fun S A σ H Γ Δ P Q hs hc hz k => a2 S A σ H Γ Δ _ _ hs hc hz fun x dx A1 H1 Δ1 e1 c1 r1 hz1 => ?_⟩
  obtain ⟨n, rfl, ok, q⟩ := hz1
  cases r1
  refine ⟨n, rfl, ok, fun p hp => ?_⟩
  exact k _ _ A1 _ Δ1 (e1.trans (Ext.new hp)) (c1.new hp) (.lst upd_same (c1.fresh hp) (c1.aside hp) (rep_rg _ _)) q
theorem ez_lstR2 (hm : X.mg "list" = none) (hm2 : X.mg "range" = none) (ha : EZ C X a za) (hb : EZ C X b zb) (hc : X.calm = true := by rfl) (hg : Gl X "list" := by rfl) (hg2 : Gl X "range" := by rfl) (na : starEach [a, b] X.env = (false, eval a X.env) :: starEach [b] X.env := by rfl) (na2 : starEach [b] X.env = (false, eval b X.env) :: starEach [] X.env := by rfl) (hpl : (backTo pos2 (starEach [b] X.env)).any (·.1) = false := by rfl)
    (nb : starEach [.Call (.Name "range" p2) [a, b] [] pos2] X.env = (false, eval (.Call (.Name "range" p2) [a, b] [] pos2) X.env) :: starEach [] X.env := by rfl) : EZ C X (.Call (.Name "list" p) [.Call (.Name "range" p2) [a, b] [] pos2] [] pos) (zLstR2 za zb) := by
  obtain ⟨t, a1, a2⟩ := ha.ex
  obtain ⟨u, b1, b2⟩ := hb.ex
  refine ⟨_, pe_listRg hc hg hm (prg_2 hg2 hm2 a1 b1 na na2 hpl) nb, fun S A σ H Γ Δ P Q hs hc hz k => a2 S A σ H Γ Δ _ _ hs hc hz fun x dx A1 H1 Δ1 e1 c1 r1 hz1 => b2 S A1 σ H1 Γ Δ1 _ _ (hs.ext e1) c1 hz1 fun y dy A2 H2 Δ2 e2 c2 r2 hz2 => ?_⟩
  obtain ⟨i, j, rfl, rfl, ok, q⟩ := hz2
  cases r1
  cases r2
  refine ⟨i, j, rfl, rfl, ok, fun p hp => ?_⟩
  exact k _ _ A2 _ Δ2 ((e1.trans e2).trans (Ext.new hp)) (c2.new hp) (.lst upd_same (c2.fresh hp) (c2.aside hp) (rep_rg _ _)) q
end
end Z

/-! Z18: ==, != and repr of lists in which cells stand. -/
namespace Z
open PySem PySem.Spec PyProof.Rows L2
theorem nd_t {p : Prop} [Decidable p] : ((!decide p) = true) = ¬ p := by by_cases h : p <;> simp [h]
theorem nd_f {p : Prop} [Decidable p] : ((!decide p) = false) = p := by by_cases h : p <;> simp [h]
/-- what a value is, down to a depth: cells by their contents -/
def rdk (Δ : Store) : Nat → D → D
  | 0, d => d
  | k + 1, .cell n => match Δ[n]? with
    | some (.lst ds) => .lst (ds.map (rdk Δ k))
    | _ => .cell n
  | k + 1, .lst ds => .lst (ds.map (rdk Δ k))
  | k + 1, .tup ds => .tup (ds.map (rdk Δ k))
  | _ + 1, .scr ns => .lst (ns.map D.int)
  | _ + 1, .non => .non
  | _ + 1, .ktup ns => .ktup ns
  | _ + 1, .bl b => .bl b
  | _ + 1, .int i => .int i
  | _ + 1, .str x => .str x
  | _ + 1, .ty n => .ty n
  | _ + 1, .ins c ds => .ins c ds
  | _ + 1, .cls c => .cls c
  | _ + 1, .dct ks ds => .dct ks ds
section
variable {K : PySem.W.Frag} {C : CI} {S A : List Addr} {H : Hp} {Δ : Store}
theorem dps_map {f : D → D} (hf : ∀ (d : D) (v : V), Rep K C S A H v d → plainD (f d) = true → Dp K H v (pd (f d))) : ∀ {ds : List D} {vs : List V}, RepL K C S A H vs ds → plainDs (ds.map f) = true → DpAll K H vs (pds (ds.map f))
  | _, _, .nil, _ => .nil
  | _, _, .cons (d := d) (ds := ds) h r, q => by
    have h' : (plainD (f d) && plainDs (ds.map f)) = true := q
    rw [Bool.and_eq_true] at h'
    exact .cons (hf _ _ h h'.1) (dps_map hf r h'.2)
theorem dp_rdk (hc : Cells K C S A H Δ) : ∀ (k : Nat) (d : D) (x : V), Rep K C S A H x d → plainD (rdk Δ k d) = true → Dp K H x (pd (rdk Δ k d))
  | 0, d, x, r, h => Rep.dp d h r
  | k + 1, d, x, r, h => by
    have ih := dp_rdk hc k
    cases r with
    | cell e =>
      rename_i a n
      unfold rdk at h ⊢
      cases q : Δ[n]? with
      | none => simp only [q] at h; cases h
      | some o =>
        cases o with
        | ins _ _ => simp only [q] at h; cases h
        | dct _ _ => simp only [q] at h; cases h
        | lst ds =>
          simp only [q] at h ⊢
          obtain ⟨xs, h1, h2⟩ := hc.at_ n a _ e q
          exact .lst (SqL.of h1) (dps_map (fun d v => ih d v) h2 h)
    | scr e =>
      rename_i a ns
      unfold rdk at h ⊢
      refine .lst ?_ (pds_ints ns)
      rcases e with ⟨⟨o, e⟩, _⟩ | e
      · exact .inl (.inr ⟨o, e⟩)
      · exact .inr e
    | non => exact .non
    | bl b => exact .bl b
    | int i => exact .int i
    | str x => exact .str x
    | ty n => cases h
    | cls n => cases h
    | tup h1 h2 h3 r => unfold rdk at h ⊢; exact .tup (SqT.of h1) (dps_map (fun d v => ih d v) r h)
    | lst h1 h2 h3 r => unfold rdk at h ⊢; exact .lst (SqL.of h1) (dps_map (fun d v => ih d v) r h)
    | ins _ _ _ _ _ => cases h
    | dct _ _ _ _ _ => cases h
    | ktup _ => cases h
end
def zEqD : ZR2 := fun x y Δ P => shp (rdk Δ 3 x) = true ∧ shp (rdk Δ 3 y) = true ∧ P (.bl (eqD (rdk Δ 3 x) (rdk Δ 3 y))) Δ
def zNeD : ZR2 := fun x y Δ P => shp (rdk Δ 3 x) = true ∧ shp (rdk Δ 3 y) = true ∧ P (.bl (!eqD (rdk Δ 3 x) (rdk Δ 3 y))) Δ
def zReprD : ZRC := fun ds Δ P => ∃ d, ds = [d] ∧ Showable (rdk Δ 3 d) ∧ P (.str (pd (rdk Δ 3 d)).shown) Δ
section
variable {C : CI} {X : Cx}
theorem oz_eqD (hu : X.A.units + 64 < cLine) : OpZ C X (compareOp .Eq) zEqD := ⟨_, op_eqD hu, fun S A H Δ x y dx dy P Q hc rx ry hz k => by
  obtain ⟨h1, h2, p⟩ := hz
  have g1 := Bool.and_eq_true_iff.mp h1
  have g2 := Bool.and_eq_true_iff.mp h2
  exact ⟨_, _, dp_rdk hc 3 dx x rx g1.1, dp_rdk hc 3 dy y ry g2.1, g1.2, g2.2, k _ _ A H Δ (Ext.refl _ _) hc (.bl _) p⟩⟩
theorem oz_neD (hu : X.A.units + 64 < cLine) : OpZ C X (compareOp .NotEq) zNeD := ⟨_, op_neD hu, fun S A H Δ x y dx dy P Q hc rx ry hz k => by
  obtain ⟨h1, h2, p⟩ := hz
  have g1 := Bool.and_eq_true_iff.mp h1
  have g2 := Bool.and_eq_true_iff.mp h2
  exact ⟨_, _, dp_rdk hc 3 dx x rx g1.1, dp_rdk hc 3 dy y ry g2.1, g1.2, g2.2, k _ _ A H Δ (Ext.refl _ _) hc (.bl _) p⟩⟩
theorem cz_reprD (gd : X.A.guards = some []) (hu : X.A.units + 64 < cLine) : CallZ C X (.builtin "repr") zReprD := ⟨_, cr_repr gd hu, fun S A H Δ xs ds P Q hc r hz k => by
  obtain ⟨d, rfl, sh, q⟩ := hz
  obtain ⟨v, rfl, rv⟩ := one_rep r
  exact ⟨v, rdk Δ 3 d, rfl, dp_rdk hc 3 d v rv sh.pl, sh, k _ _ A H Δ (Ext.refl _ _) hc (.str _) q⟩⟩
end
end Z

/-! Z19: len of a set comprehension of ints. -/
namespace Z
open PySem PySem.Spec PyProof.Rows L2
section
variable {X : Cx}
/-- an int goes into the set at a -/
theorem put_set {pins : List (Addr × Obj)} {σ : L2.St} {H : Hp} {z : Shared} {EE : Value → Shared → Prop} {a : Addr} {M : Int → Bool} {c : Nat} {i : Int} {ti : Tok} {R : Value → Shared → Prop} (J : Inv X pins σ H z) (ha : H a = some (SetO X.w a M c)) (few : c + 1 < scanBound)
    (k : ∀ z2, Inv X pins σ (upd H a (SetO X.w a (fun j => M j || decide (j = i)) (if M i = true then c else c + 1))) z2 → R .none z2) : wpAny (model X.prog X.w) X.A (call (.builtin "set.add") [.ref a, .int i ti]) R EE z := by
  refine setR_add (setO_get J ha) few fun g same made => ?_
  have here : ∃ ob, g.get? a = some ob := made.elim fun ob h => h.elim fun _ h => h.elim fun _ h => h.elim fun _ h => ⟨ob, h.1⟩
  exact k _ (J.write (e := a) (t' := z.toks + 1) (by rw [ha]; trivial) (.inl rfl) (fun b u nb hu => (same.2 b nb).trans hu) here (setO_new made))
/-- {elt for tg in iter if ..}, elt an int: a is the new set -/
def tSI (w : World) (wi : TI) (g : TG) (tt : TT) (te : TE) (vs : List Nat) : TE := fun σ H Q => wi σ H fun J H1 => ∀ a, H1 a = none → ∃ V : Nat → Nat → Hp → Prop, (∃ m, V 0 m (upd H1 a (SetO w a (fun _ => false) 0))) ∧
  ∀ i m H, V i m H → (J.stop i H ∧ Q (.ref a) H) ∨ (J.go i H ∧ ∃ F : Hp → Prop, (∀ H', F H' → ∃ m', m' < m ∧ V (i + 1) m' H') ∧
    ∀ x H', J.yld i H x H' → g x (wipe σ vs) H' fun σ2 H2 => wipe σ2 vs = wipe σ vs ∧ tt σ2 H2 fun b H3 =>
      if b = true then te σ2 H3 fun y H4 => ∃ (k : Int) (M : Int → Bool) (c : Nat), y = .int k ∧ H4 a = some (SetO w a M c) ∧ c + 1 < scanBound ∧ F (upd H4 a (SetO w a (fun j => M j || decide (j = k)) (if M k = true then c else c + 1))) else F H3)
theorem peSI {elt tg iter : Expr} {ifs : List Expr} {sc : Scope} {own : List (PySem.Str × Nat)} {pos : Pos} {wi : TI} {g : TG} {tt : TT} {te : TE} (calm : X.calm = true) (nodup : X.N.Nodup) (hi : PI X tg iter wi) (ok : BlkOk X.N X.env.scope sc own)
    (pg : ∀ (z : Shared) (H : Hp) (Ca : Addr) (cl : List (PySem.Str × Addr)) (fp : List Addr), PG (X.blk z H sc (compEnvC sc cl Ca X.env) fp) tg g)
    (pt : ∀ (z : Shared) (H : Hp) (Ca : Addr) (cl : List (PySem.Str × Addr)) (fp : List Addr), PTs (X.blk z H sc (compEnvC sc cl Ca X.env) fp) ifs tt)
    (pe : ∀ (z : Shared) (H : Hp) (Ca : Addr) (cl : List (PySem.Str × Addr)) (fp : List Addr), PE (X.blk z H sc (compEnvC sc cl Ca X.env) fp) elt te) (plain : ∀ x, foldedSetIterable iter X.env x = pure x := by intro _; rfl) :
    PE X (.SetComp elt [⟨tg, iter, ifs, 0⟩] sc pos) (tSI X.w wi g tt te (own.map (·.2))) := by
  refine ⟨fun pins z σ H Q J want => ?_⟩
  rw [PpSet.eval_SetComp]
  have free : ∀ y ∈ sc.names, y.2 = .free → ∃ c, X.env.cells.lookup y.1 = some c := fun y hy e => (ok.free y hy e).elim (fun k => J.ok.has _ (.inl k)) fun k => J.ok.has _ (.inr k)
  refine wpAny_comprehension_free rfl plain (closure_ok free) ok.kind (fun y hy e => by rw [ok.uniq y hy]; rw [e]) (thn (hi.run pins z σ H _ J want) fun xv z1 h1 => thn h1 fun itv z2 h2 => ?_)
  obtain ⟨it, fp, tn, W, H2, e, J2, T, at0, far, q⟩ := h2
  subst e
  refine PpSet.newSet_ok (newEnv_comp ?_)
  -- the new set
  generalize ea : z2.heap.objs.size = a
  have na : H2 a = none := J2.hok.fresh (Nat.le_of_eq ea)
  obtain ⟨V, ⟨m0, v0⟩, turn⟩ := q a na
  generalize ez3 : ({ z2 with heap := z2.heap.push { cls := .type "set", dict := none, data := .set #[] 0 (.fresh 0 0 (!X.w.params.followText "set-order")) } } : Shared) = z3
  have hp3 : z3.heap = z2.heap.push { cls := .type "set", dict := none, data := .set #[] 0 (.fresh 0 0 (!X.w.params.followText "set-order")) } := by rw [← ez3]
  have J3 : Inv X pins σ (upd H2 a (SetO X.w a (fun _ => false) 0)) z3 := by
    rw [← ez3]
    refine J2.laid (t' := z2.toks) (fun _ _ old => Heap.get?_push_of_some _ old) (Nat.le_of_eq ea) ?_
    rw [← ea]
    exact setO_new (setR_fresh X.w)
  have low : ∀ b ∈ fp, b < z2.heap.objs.size := fun b hb => (T.obj _ _ at0 b hb).elim fun _ h => Heap.lt_size h.1
  have far3 : ∀ b ∈ fp, FpOk X pins (upd H2 a (SetO X.w a (fun _ => false) 0)) b ∧ b < z3.heap.objs.size := fun b hb => by
    have l := low b hb
    have ne : b ≠ a := by rw [← ea]; exact Nat.ne_of_lt l
    exact ⟨⟨by rw [upd_ne ne]; exact (far b hb).1, (far b hb).2⟩, by rw [hp3, Heap.size_push]; exact Nat.lt_succ_of_lt l⟩
  have at3 : tn 0 z3.heap := T.keep _ _ _ at0 fun _ _ _ old => by rw [hp3]; exact Heap.get?_push_of_some _ old
  generalize eH : upd H2 a (SetO X.w a (fun _ => false) 0) = H3 at J3 far3 v0
  have J4 := block_start J3 ok nodup far3
  generalize ecl : cellsFrom (z3.heap.objs.size + 1) sc.names (cloFrom X.env.cells sc.names []) = cl at J4 ⊢
  replace pg := pg z3 H3 z3.heap.objs.size cl fp
  replace pt := pt z3 H3 z3.heap.objs.size cl fp
  replace pe := pe z3 H3 z3.heap.objs.size cl fp
  have none3 : ∀ b ∈ fp, H3 b = none := fun b hb => (far3 b hb).1.1
  show codeAny _ _ (.compStart (.SetComp elt [⟨tg, iter, ifs, 0⟩] sc pos) 0 (.ref it) (.ref a) (compEnvC sc cl z3.heap.objs.size X.env)) (compPost (model X.prog X.w) X.A X.xe none (EP X pins σ Q) (.ref a) z3.heap.objs.size) { z3 with heap := pushCells (z3.heap.push { cls := .type "dict", data := .dict #[] }) sc.names }
  generalize ece : compEnvC sc cl z3.heap.objs.size X.env = ce at J4 pg pt pe ⊢
  have lc : ce.locals = z3.heap.objs.size := by rw [← ece]; rfl
  generalize ez4 : ({ z3 with heap := pushCells (z3.heap.push { cls := .type "dict", data := .dict #[] }) sc.names } : Shared) = z4 at J4 ⊢
  have at4 : tn 0 z4.heap := T.keep _ _ _ at3 fun _ _ _ old => by rw [← ez4]; exact pushCells_keeps _ _ _ _ (Heap.get?_push_of_some _ old)
  have stays : ∀ {σ' : L2.St} {H' : Hp} {z' : Shared}, Inv (X.blk z3 H3 sc ce fp) [] σ' H' z' → (∀ b ∈ fp, H' b = none) → ∀ b ∈ fp, FpOk (X.blk z3 H3 sc ce fp) [] H' b := fun {σ' H' z'} J' no b hb =>
    ⟨no b hb, (J'.ok.exf b hb).1, J'.ok.exfs b hb, .inl hb, fun x c e => (J'.ok.exf b hb).2 x c e, fun p hp => absurd (show p ∈ ([] : List (Addr × Obj)) ++ [] from hp) (by simp)⟩
  have walk : codeAny (model X.prog X.w) X.A (.compLoop (.SetComp elt [⟨tg, iter, ifs, 0⟩] sc pos) 0 (.ref it) (.ref a) ce) (compPost (model X.prog X.w) X.A X.xe none (EP X pins σ Q) (.ref a) z3.heap.objs.size) z4 := by
    refine PpSet.compLoopS_any (fun m z' => ∃ i H', Inv (X.blk z3 H3 sc ce fp) [] (wipe σ (own.map (·.2))) H' z' ∧ tn i z'.heap ∧ (∀ b ∈ fp, H' b = none) ∧ V i m H') ?_ m0 ⟨0, H3, J4, at4, none3, v0⟩
    rintro m z5 ⟨i, H5, J5, at5, no5, v5⟩
    rcases turn i m H5 v5 with ⟨stop, done⟩ | ⟨go, F, hF, step⟩
    · refine thnF (T.done (X.blk z3 H3 sc ce fp) rfl rfl rfl calm i [] z5 _ H5 (fun _ _ => False) J5 (stays J5 no5) at5 stop) fun r z6 ⟨er, J6⟩ => ?_
      subst er
      have J7 : Inv X pins σ H5 z6 := J3.call' (ch := fp) J6.os J6.base J6.hok J6.bare fun b hb => ⟨(far3 b hb).1.2.2.2.1, (far3 b hb).1.2.1, (far3 b hb).1.2.2.2.2.1, (far3 b hb).1.2.2.2.2.2⟩
      have nl : H5 z3.heap.objs.size = none := lc ▸ (show H5 ce.locals = none from J6.free)
      obtain ⟨m', hm', _⟩ := J6.loc
      refine ⟨m', lc ▸ (show z6.heap.Ns ce.locals m' from hm'), fun g2 same => ?_⟩
      obtain ⟨f0, f1, f2, f3, f4, f5⟩ := J3.fpOk (Nat.le_refl _) nl
      exact ⟨.ref a, H5, J7.turned (t' := z6.toks) (fun b o nb old => (same.2 b nb).trans old) f0 f1 f3 f4 f5, rfl, done⟩
    · refine thnF (T.item (X.blk z3 H3 sc ce fp) rfl rfl rfl calm i [] z5 _ H5 (fun _ _ => False) J5 (stays J5 no5) at5 go) fun r z6 ⟨u, er, h6⟩ => ?_
      subst er
      refine thnF h6 fun _ z7 ⟨x, H7, J7, r7, y7, at7, no7⟩ => ?_
      have J8 := J7.pinned (stays J7 no7) (T.obj _ _ at7)
      refine thnF (pg.run _ z7 _ H7 x u _ J8 r7 (step x H7 y7)) fun _ z8 ⟨σ8, H8, J9, same8, q8⟩ => thnF (pt.run _ z8 σ8 H8 _ J9 q8) fun b z9 ⟨H9, J10, w9⟩ => ?_
      have ends : ∀ {z' : Shared} {H' : Hp}, Inv (X.blk z3 H3 sc ce fp) ([] ++ pinsAt fp z7.heap) σ8 H' z' → F H' → ∃ m', m' < m ∧ ∃ i H', Inv (X.blk z3 H3 sc ce fp) [] (wipe σ (own.map (·.2))) H' z' ∧ tn i z'.heap ∧ (∀ b ∈ fp, H' b = none) ∧ V i m' H' := fun {z' H'} J' f => by
        obtain ⟨m', less, v'⟩ := hF H' f
        have pin : ∀ b ∈ fp, ∀ o, z7.heap.get? b = some o → z'.heap.get? b = some o ∧ H' b = none := fun b hb o e => by
          have w := J'.pin (b, o) (List.mem_append_right _ (List.mem_append_right _ (mem_pinsAt hb e)))
          exact ⟨w.1, w.2.1⟩
        refine ⟨m', less, i + 1, H', (J'.unpinned (pins := [])).weak (by rw [← same8, wipe_length]) (fun j v e => (wipe_some (by rw [← same8] at e; exact e)).1), T.keep _ _ _ at7 fun b hb o e => (pin b hb o e).1, fun b hb => ?_, v'⟩
        obtain ⟨o, e, _⟩ := T.obj _ _ at7 b hb
        exact (pin b hb o e).2
      cases b with
      | false =>
        rw [if_neg Bool.false_ne_true] at w9
        show if false = true then _ else _
        rw [if_neg Bool.false_ne_true]
        exact ends J10 w9
      | true =>
        rw [if_pos rfl] at w9
        show if true = true then _ else _
        rw [if_pos rfl]
        refine thnF (pe.run _ z9 σ8 H9 _ J10 w9) fun v z10 ⟨yv, H10, J11, r10, k, M, c, ey, ha, few, f⟩ => ?_
        subst ey
        obtain ⟨tk, ev⟩ := (show ∃ t, v = Value.int k t from r10)
        subst ev
        exact put_set (X := X.blk z3 H3 sc ce fp) J11 ha few fun z11 J12 => ends J12 f
  exact PpSet.codeAny_compStart_set walk (T.self X.A 0 _ _ _ at4 walk)
/-- len of a set of ints -/
def rLenS (w : World) : List V → Hp → VK → Prop := fun xs H Q => ∃ (a : Addr) (M : Int → Bool) (c : Nat), xs = [.ref a] ∧ H a = some (SetO w a M c) ∧ ∀ ks : List Int, ks.Nodup → (∀ k, k ∈ ks ↔ M k = true) → Q (.int (ks.length : Nat)) H
theorem cr_lenS : CallR X (.builtin "len") (rLenS X.w) := by
  rintro pins z σ H _ us Q J r ⟨a, M, c, rfl, ha, q⟩
  rw [Vals.ref1 r]
  obtain ⟨o, es, ep, t, ho, hex, hd, g, nd, hm, hb, hf, hn, _⟩ := setO_get J ha
  have few : es.size < 2 ^ 60 := Nat.lt_trans hb (by unfold scanBound; decide)
  refine call_len_set ho hex hd hf (by omega) ⟨.int _, H, J.tok _, ⟨_, rfl⟩, ?_⟩
  have := q (es.toList.map keyOf) nd fun k => (hm k).symm
  rw [List.length_map, Array.length_toList] at this
  exact this
end
/-! ### the reading -/
def compS (zg : ZG) (zt : ZT) (ze : ZE) (Γ0 : Env) (P : List Int → Store → Prop) : List D → List Int → Store → Prop
  | [], acc, Δ => P acc Δ
  | x :: xs, acc, Δ => zg x Γ0 Δ fun Γ2 Δ2 => zt Γ2 Δ2 fun b Δ3 => (b = true → ze Γ2 Δ3 fun y Δ4 => ∃ k : Int, y = .int k ∧ acc.length < 4000 ∧ compS zg zt ze Γ0 P xs (acc ++ [k]) Δ4) ∧ (b = false → compS zg zt ze Γ0 P xs acc Δ3)
/-- len({elt for tg in iter if ..}) -/
def zLenS (zi : ZI) (zg : ZG) (zt : ZT) (ze : ZE) (vs : List Nat) : ZE := fun Γ Δ P => zi Γ Δ fun items Δ1 => compS zg zt ze (wipeZ Γ vs) (fun ns Δ2 => ∀ ks : List Int, ks.Nodup → (∀ k, k ∈ ks ↔ k ∈ ns) → P (.int (ks.length : Nat)) Δ2) items [] Δ1
section
variable {K : PySem.W.Frag} {C : CI} {S A : List Addr} {H : Hp} {Δ : Store} {q : Addr}
theorem cells_aside {o : HO} (c : Cells K C (q :: S) A H Δ) : Cells K C (q :: S) A (upd H q o) Δ ∧ Mo (q :: S) A H (q :: S) A (upd H q o) := by
  have mo : Mo (q :: S) A H (q :: S) A (upd H q o) := ⟨⟨[], by simp, by simp⟩, fun _ h => .inl h, fun a u _ h2 h3 => by
    rw [upd_ne (fun h => h2 (by rw [h]; exact List.mem_cons_self))]; exact h3⟩
  have hq : q ∉ A := fun h => c.dj q h List.mem_cons_self
  refine ⟨⟨c.len, c.nd, c.dj, fun a ha h => ?_, fun n a u h1 h2 => (c.at_ n a u h1 h2).mono mo fun w h => ?_⟩, mo⟩
  · by_cases hb : a = q
    · subst hb; rw [upd_same] at h; cases h
    · rw [upd_ne hb] at h; exact c.as a ha h
  · rw [upd_ne (fun hb => hq (by rw [← hb]; exact List.mem_of_getElem? h1))]; exact h
theorem ref_lenS {w : World} {wi : TI} {g : TG} {tt : TT} {te : TE} {vs : List Nat} {zi : ZI} {zg : ZG} {zt : ZT} {ze : ZE} (hi : RefI K C wi zi) (hg : RefG K C g zg) (ho : Own g vs) (ht : RefT K C tt zt) (he : RefE K C te ze) :
    RefE K C (fun σ H Q => tSI w wi g tt te vs σ H fun v H1 => rLenS w [v] H1 Q) (zLenS zi zg zt ze vs) := fun S A σ H Γ Δ P Q hs hc hz k => hi S A σ H Γ Δ _ _ hs hc hz fun J n G Y items A1 H1 Δ1 e1 c1 p hn wk hG hY q hq => by
  have s1 := hs.ext e1
  let I : Nat → Hp → Prop := fun i H2 => ∃ A2 Δ2 acc c, Ext A1 H1 A2 H2 ∧ Mo S A1 H1 (q :: S) A2 H2 ∧ Cells K C (q :: S) A2 H2 Δ2 ∧ H2 q = some (SetO w q (fun j => decide (j ∈ acc)) c) ∧ c ≤ acc.length ∧
    compS zg zt ze (wipeZ Γ vs) (fun ns Δ2 => ∀ ks : List Int, ks.Nodup → (∀ k, k ∈ ks ↔ k ∈ ns) → P (.int (ks.length : Nat)) Δ2) (items.drop i) acc Δ2
  have i0 : I 0 (upd H1 q (SetO w q (fun _ => false) 0)) := by
    have mo0 : Mo S A1 H1 (q :: S) A1 (upd H1 q (SetO w q (fun _ => false) 0)) := ⟨⟨[], by simp, by simp⟩, fun b hb => by
      rcases List.mem_cons.mp hb with rfl | hb
      · exact .inr hq
      · exact .inl hb, fun a o _ _ h => by rw [upd_ne (ne_of_none h hq)]; exact h⟩
    refine ⟨A1, Δ1, [], 0, Ext.new hq, mo0, ⟨c1.len, c1.nd, fun a ha hb => ?_, fun a ha h => ?_, fun n a o h1 h2 => (c1.at_ n a o h1 h2).mono mo0 fun u h => by rw [upd_ne (ne_of_none h hq)]; exact h⟩, ?_, Nat.le_refl _, p⟩
    · rcases List.mem_cons.mp hb with rfl | hb
      · exact c1.fresh hq ha
      · exact c1.dj a ha hb
    · rcases List.mem_cons.mp ha with rfl | ha
      · rw [upd_same] at h; cases h
      · exact c1.as a ha ((Ext.new (A := A1) hq).trk a h)
    · have e : (fun j : Int => decide (j ∈ ([] : List Int))) = fun _ => false := by funext j; simp
      rw [e]; exact upd_same
  refine ⟨fun i m H2 => m = n - i ∧ i ≤ n ∧ I i H2, ⟨n, by simp, Nat.zero_le _, i0⟩, ?_⟩
  rintro i m H2 ⟨rfl, hin, A2, Δ2, acc, c, e2, m2, c2, hqv, hca, p2⟩
  have gg := hG (q :: S) A2 H2 m2
  by_cases hlt : i < n
  · refine .inr ⟨wk.goes i H2 hlt gg, I (i + 1), fun H' p' => ⟨n - (i + 1), by omega, rfl, hlt, p'⟩, fun x H3 y => ?_⟩
    obtain ⟨d, q1, q2, q3⟩ := hY (q :: S) A2 H2 Δ2 i x H3 hlt m2 c2 (wk.yields i H2 x H3 hlt gg y)
    rw [drop_cons q1] at p2
    have e3 : Ext A2 H2 A2 H3 := Ext.kept q2
    have s3 : Slots K C (q :: S) A2 H3 (wipe σ vs) (wipeZ Γ vs) := ((s1.mono m2).ext e3).wipe vs
    have fin : g x (wipe σ vs) H3 fun σ2 H4 => wipe σ2 vs = wipe (wipe σ vs) vs ∧ tt σ2 H4 fun b H5 =>
        if b = true then te σ2 H5 fun y H6 => ∃ (k : Int) (M : Int → Bool) (c : Nat), y = .int k ∧ H6 q = some (SetO w q M c) ∧ c + 1 < scanBound ∧ I (i + 1) (upd H6 q (SetO w q (fun j => M j || decide (j = k)) (if M k = true then c else c + 1)))
        else I (i + 1) H5 := by
      refine ho _ _ _ _ (hg (q :: S) A2 (wipe σ vs) H3 (wipeZ Γ vs) Δ2 x d _ _ s3 (c2.kept q2) q3 p2 fun σ4 A4 H4 Γ4 Δ4 e4 s4 c4 p4 => ?_)
      refine ht (q :: S) A4 σ4 H4 Γ4 Δ4 _ _ s4 c4 p4 fun b A5 H5 Δ5 e5 c5 p5 => ?_
      have e25 := (e3.trans e4).trans e5
      have e15 := e2.trans e25
      have hq2 : q ∉ A2 := fun h => c2.dj q h List.mem_cons_self
      have hq5 : H5 q = some (SetO w q (fun j => decide (j ∈ acc)) c) := e25.keep q _ hq2 hqv
      have m5 : Mo S A1 H1 (q :: S) A5 H5 := ⟨e15.pre, m2.sub, fun a o h1 _ h3 => e15.keep a o h1 h3⟩
      cases b with
      | false => exact iteF ⟨A5, Δ5, acc, c, e15, m5, c5, hq5, hca, p5.2 rfl⟩
      | true =>
        refine iteT (he (q :: S) A5 σ4 H5 Γ4 Δ5 _ _ (s4.ext e5) c5 (p5.1 rfl) fun y dy A6 H6 Δ6 e6 c6 r6 p6 => ?_)
        obtain ⟨k2, rfl, few, p6⟩ := p6
        cases r6
        have e16 := e15.trans e6
        have hq5' : q ∉ A5 := fun h => c5.dj q h List.mem_cons_self
        have hq6 : H6 q = some (SetO w q (fun j => decide (j ∈ acc)) c) := e6.keep q _ hq5' hq5
        have nq : ∀ a o, H1 a = some o → a ≠ q := fun a o h => ne_of_none h hq
        refine ⟨k2, _, c, rfl, hq6, by unfold scanBound; omega, A6, Δ6, acc ++ [k2], if decide (k2 ∈ acc) = true then c else c + 1, ?_, ?_, (cells_aside c6).1, ?_, ?_, p6⟩
        · exact ⟨e16.pre, fun a o h1 h2 => by rw [upd_ne (nq a o h2)]; exact e16.keep a o h1 h2, fun a h => by
            by_cases hb : a = q
            · subst hb; exact hq
            · rw [upd_ne hb] at h; exact e16.trk a h⟩
        · exact ⟨e16.pre, m2.sub, fun a o h1 _ h3 => by rw [upd_ne (nq a o h3)]; exact e16.keep a o h1 h3⟩
        · have e : (fun j : Int => decide (j ∈ acc) || decide (j = k2)) = fun j => decide (j ∈ acc ++ [k2]) := by
            funext j
            rw [Bool.eq_iff_iff]
            simp
          rw [e]
          exact upd_same
        · rw [List.length_append]
          show _ ≤ acc.length + 1
          split <;> omega
    rw [wipe_wipe] at fin
    exact fin
  · have e : i = n := by omega
    subst e
    rw [hn, List.drop_length] at p2
    refine .inl ⟨wk.stops H2 gg, q, _, c, rfl, hqv, fun ks h1 h2 => ?_⟩
    have mo8 : Mo (q :: S) A2 H2 S A2 H2 := ⟨⟨[], by simp, by simp⟩, fun b hb => .inl (List.mem_cons_of_mem _ hb), fun _ _ _ _ h => h⟩
    exact k _ _ A2 H2 Δ2 (e1.trans e2) ⟨c2.len, c2.nd, fun a ha hb => c2.dj a ha (List.mem_cons_of_mem _ hb), fun a ha => c2.as a (List.mem_cons_of_mem _ ha), fun n a o h1 h2 => (c2.at_ n a o h1 h2).mono mo8 fun _ h => h⟩ (.int _) (p2 ks h1 fun k => by rw [h2, decide_eq_true_iff])
end
section
variable {C : CI} {X : Cx}
theorem ez_lenS {elt tg iter : Expr} {ifs : List Expr} {scope : Scope} {own : List (Str × Nat)} {p pos pos2 : Pos} {zi : ZI} {g : TG} {zg : ZG} {zt : ZT} {ze : ZE} (hm : X.mg "len" = none) (hN : X.N.Nodup) (hi : IZ C X tg iter zi) (ok : BlkOk X.N X.env.scope scope own) (ho : Own g (own.map (·.2))) (hb : BlkZ C X scope tg ifs elt g zg zt ze)
    (hc : X.calm = true := by rfl) (hs : ∀ x, foldedSetIterable iter X.env x = pure x := by intro _; rfl) (hg : Gl X "len" := by rfl)
    (st : starEach [.SetComp elt [⟨tg, iter, ifs, 0⟩] scope pos2] X.env = (false, eval (.SetComp elt [⟨tg, iter, ifs, 0⟩] scope pos2) X.env) :: starEach [] X.env := by rfl) (pl : (backTo pos (starEach [] X.env)).any (·.1) = false := by rfl) :
    EZ C X (.Call (.Name "len" p) [.SetComp elt [⟨tg, iter, ifs, 0⟩] scope pos2] [] pos) (zLenS zi zg zt ze (own.map (·.2))) := by
  obtain ⟨wi, i1, i2⟩ := hi.ex
  obtain ⟨tt, te, b1, b2, b3, b4⟩ := hb.ex
  exact ⟨_, pe_callB cr_lenS hg hm (by decide +kernel) (pa_cons (peSI hc hN i1 ok (fun s H Ca cl fp => (b1 s H Ca cl fp).1) (fun s H Ca cl fp => (b1 s H Ca cl fp).2.1) (fun s H Ca cl fp => (b1 s H Ca cl fp).2.2) hs) pa_nil st) (by decide) (by decide) st pl, ref_lenS i2 b2 ho b3 b4⟩
end
end Z

/-! Z20: reversed(list) walked; comprehensions given to a name as cells; lent comprehensions. -/
namespace Z
open PySem PySem.Spec PyProof.Rows L2
section
variable {C : CI} {X : Cx}
/-! ### reversed(xs) -/
def ziRev (z : ZE) : ZI := fun Γ Δ P => z Γ Δ fun d Δ1 => ∃ ds, d = .lst ds ∧ P ds.reverse Δ1
theorem walk_back {K : PySem.W.Frag} {a : Addr} {xs : List V} : Walk (Itv K a xs.length) xs.length (fun H => SqL K H a xs) (YAt xs.reverse) :=
  ⟨fun i _ hi q => ⟨hi, xs, xs[xs.length - 1 - i]'(by omega), q, List.getElem?_eq_getElem _⟩, fun _ _ => Nat.le_refl _, fun i _ _ _ hi q y => ⟨y.1, by
    rw [List.getElem?_reverse hi]
    exact y.2 xs q⟩⟩
theorem iz_rev {tg e : Expr} {z : ZE} {p pos : Pos} (h : EZ C X e z) (hm : X.mg "reversed" = none) (hg : Gl X "reversed" := by rfl) (hs : starEach [e] X.env = (false, eval e X.env) :: starEach [] X.env := by rfl) : IZ C X tg (.Call (.Name "reversed" p) [e] [] pos) (ziRev z) := by
  obtain ⟨t, h1, h2⟩ := h.ex
  refine ⟨_, RT.pi_revA hg hm h1 hs, fun S A σ H Γ Δ P R hs hc hz k => h2 S A σ H Γ Δ _ _ hs hc hz fun v d A1 H1 Δ1 e1 c1 r1 q => ?_⟩
  obtain ⟨ds, rfl, q⟩ := q
  cases r1 with
  | lst g1 g2 g3 g4 =>
    rename_i a xs
    refine ⟨a, xs, rfl, .inl ⟨SqL.of g1, ?_⟩⟩
    refine k (Itv X.K a xs.length) xs.length (fun H => SqL X.K H a xs) (YAt xs.reverse) ds.reverse A1 H1 Δ1 e1 c1 q (by rw [List.length_reverse, g4.length]) walk_back (fun S2 A2 H2 m => SqL.of (m.keep _ _ g2 g3 g1)) fun S2 A2 H2 Δ2 i x H3 hi m c2 y => ?_
    obtain ⟨rfl, y⟩ := y
    obtain ⟨d, q1, q2⟩ := (RepL.mono m _ g4.reverse).getV y
    exact ⟨d, q1, fun _ _ h => h, q2⟩
/-! ### a comprehension given to a name, as a cell -/
theorem sz_setLcC {i : Nat} {y : Str} {py : Pos} {elt tg iter : Expr} {ifs : List Expr} {scope : Scope} {own : List (Str × Nat)} {pos spos : Pos} {zi : ZI} {g : TG} {zg : ZG} {zt : ZT} {ze : ZE} (hN : X.N.Nodup) (hy : X.N[i]? = some y) (hyl : X.env.scope.names.lookup y = some .local)
    (hsw : swapsWith (.ListComp elt [⟨tg, iter, ifs, 0⟩] scope pos) (some (.Name y py)) spos.line X.env = pure true) (hi : IZ C X tg iter zi) (ok : BlkOk X.N X.env.scope scope own) (ho : Own g (own.map (·.2))) (hb : BlkZ C X scope tg ifs elt g zg zt ze)
    (hc : X.calm = true := by rfl) (hs : ∀ x, foldedSetIterable iter X.env x = pure x := by intro _; rfl) : SZ C X (.Assign [.Name y py] (.ListComp elt [⟨tg, iter, ifs, 0⟩] scope pos) spos) (zAsg (zLcC zi zg zt ze (own.map (·.2))) (zgName i)) := by
  obtain ⟨wi, i1, i2⟩ := hi.ex
  obtain ⟨tt, te, b1, b2, b3, b4⟩ := hb.ex
  exact ⟨_, ps_setLc hc hN hy hyl hsw i1 ok (fun s H Ca cl fp => (b1 s H Ca cl fp).1) (fun s H Ca cl fp => (b1 s H Ca cl fp).2.1) (fun s H Ca cl fp => (b1 s H Ca cl fp).2.2) hs, ref_asg (ref_lcC i2 b2 ho b3 b4) (gz_name (C := C) (pos := py) hN hy (.inl hyl) (.inr hyl)).ref⟩
end
/-! ### an expression that is lent the cells' contents and gives a new list -/
def zLendL (z : ZE) : ZE := fun Γ Δ P => z (Γ.map (lent1 Δ)) [] fun d Δ' => ∃ m es, d = .cell m ∧ Δ'[m]? = some (.lst es) ∧ bareTs es = true ∧ P (.lst es) Δ
theorem ref_lendL {K : PySem.W.Frag} {C : CI} {te : TE} {ze : ZE} (h : RefE K C te ze) : RefE K C te (zLendL ze) := fun S A σ H Γ Δ P Q hs hc hz k =>
  h S [] σ H _ [] _ Q (Slots.lent hc hs) ⟨rfl, .nil, (fun a ha => nomatch ha), hc.as, (fun n a o h => nomatch h)⟩ hz fun v d A' H' Δ' e2 c2 r2 p2 => by
    obtain ⟨m, es, rfl, g2, hb, p2⟩ := p2
    cases r2 with
    | cell g1 =>
      rename_i a
      obtain ⟨q1, q2, q3, xs, q4, q5⟩ := hc.adopt e2 c2 g1 g2 hb
      have kp : ∀ a o, H a = some o → H' a = some o := fun a o h => e2.keep a o (fun q => nomatch q) h
      exact k _ _ A H' Δ (Ext.kept kp) (hc.kept kp) (.lst q4 (hc.fresh q1) (c2.dj a (List.mem_of_getElem? g1)) q5) p2
section
variable {C : CI} {X : Cx}
theorem ez_lendL {e : Expr} {ze : ZE} (h : EZ C X e ze) : EZ C X e (zLendL ze) := by
  obtain ⟨t, h1, h2⟩ := h.ex
  exact ⟨t, h1, ref_lendL h2⟩
theorem sz_setLcL {i : Nat} {y : Str} {py : Pos} {elt tg iter : Expr} {ifs : List Expr} {scope : Scope} {own : List (Str × Nat)} {pos spos : Pos} {zi : ZI} {g : TG} {zg : ZG} {zt : ZT} {ze : ZE} (hN : X.N.Nodup) (hy : X.N[i]? = some y) (hyl : X.env.scope.names.lookup y = some .local)
    (hsw : swapsWith (.ListComp elt [⟨tg, iter, ifs, 0⟩] scope pos) (some (.Name y py)) spos.line X.env = pure true) (hi : IZ C X tg iter zi) (ok : BlkOk X.N X.env.scope scope own) (ho : Own g (own.map (·.2))) (hb : BlkZ C X scope tg ifs elt g zg zt ze)
    (hc : X.calm = true := by rfl) (hs : ∀ x, foldedSetIterable iter X.env x = pure x := by intro _; rfl) : SZ C X (.Assign [.Name y py] (.ListComp elt [⟨tg, iter, ifs, 0⟩] scope pos) spos) (zAsg (zLendL (zLcC zi zg zt ze (own.map (·.2)))) (zgName i)) := by
  obtain ⟨wi, i1, i2⟩ := hi.ex
  obtain ⟨tt, te, b1, b2, b3, b4⟩ := hb.ex
  exact ⟨_, ps_setLc hc hN hy hyl hsw i1 ok (fun s H Ca cl fp => (b1 s H Ca cl fp).1) (fun s H Ca cl fp => (b1 s H Ca cl fp).2.1) (fun s H Ca cl fp => (b1 s H Ca cl fp).2.2) hs, ref_asg (ref_lendL (ref_lcC i2 b2 ho b3 b4)) (gz_name (C := C) (pos := py) hN hy (.inl hyl) (.inr hyl)).ref⟩
end
/-! ### a comprehension within a comprehension -/
theorem relab_look {env : PySem.Env} : ∀ {names : List (Str × NameKind)} {x : Str}, names.lookup x = some .cell ∨ names.lookup x = some .free →
    (names.map fun (n, k) => if (k == .free && env.scope.kind == .function && env.kindOf n == some .cell) then (n, NameKind.cell) else (n, k)).lookup x = some .cell ∨
    (names.map fun (n, k) => if (k == .free && env.scope.kind == .function && env.kindOf n == some .cell) then (n, NameKind.cell) else (n, k)).lookup x = some .free
  | [], _, h => by simp at h
  | (n, k) :: r, x, h => by
    rw [List.map_cons]
    by_cases e : x = n
    · subst e
      rw [List.lookup_cons_self] at h
      cases hc : (k == .free && env.scope.kind == .function && env.kindOf x == some .cell) with
      | true =>
        left
        show List.lookup x ((if _ = true then (x, NameKind.cell) else (x, k)) :: _) = _
        rw [hc, if_pos rfl, List.lookup_cons_self]
      | false =>
        have h' : ∀ z, List.lookup x ((if (k == .free && env.scope.kind == .function && env.kindOf x == some .cell) = true then (x, NameKind.cell) else (x, k)) :: z) = some k := fun z => by
          rw [hc, if_neg Bool.false_ne_true, List.lookup_cons_self]
        exact h.imp (fun q => (h' _).trans q) fun q => (h' _).trans q
    · have ne : (x == n) = false := by rw [beq_eq_false_iff_ne]; exact e
      have h2 : r.lookup x = some .cell ∨ r.lookup x = some .free := by
        rw [List.lookup_cons, ne] at h
        exact h
      have ih := relab_look (env := env) h2
      have h' : ∀ z, List.lookup x ((if (k == .free && env.scope.kind == .function && env.kindOf n == some .cell) = true then (n, NameKind.cell) else (n, k)) :: z) = List.lookup x z := fun z => by
        cases hc : (k == .free && env.scope.kind == .function && env.kindOf n == some .cell) with
        | true => rw [if_pos rfl, List.lookup_cons, ne]
        | false => rw [if_neg Bool.false_ne_true, List.lookup_cons, ne]
      exact ih.imp (fun q => (h' _).trans q) fun q => (h' _).trans q
theorem blkOk_in {N : List Str} {sc scope : Scope} {env : PySem.Env} {own : List (Str × Nat)} (h : BlkOk N sc scope own) : BlkOk N (relabel sc env) scope own :=
  ⟨h.kind, h.uniq, h.ix, fun y hy e => relab_look (h.free y hy e), h.own⟩
end Z

/-! Z21: a, b, c = x, y, z with plain local names. -/
namespace Z
open PySem PySem.Spec PyProof.Rows L2
section
variable {C : CI} {X : Cx}
def zPar3 (i j l : Nat) (za : ZA) : ZS := fun Z Γ Δ => za Γ Δ fun ds Δ1 => ∃ a b c, ds = [a, b, c] ∧ Z.nx (((Γ.set i (some a)).set j (some b)).set l (some c)) Δ1
theorem sz_par3 {i j l : Nat} {x y z : Str} {a b c : Expr} {za : ZA} {px py pz pt pos : Pos} {kt k2 pt2} (hN : X.N.Nodup) (hi : X.N[i]? = some x) (hj : X.N[j]? = some y) (hl : X.N[l]? = some z) (hij : i ≠ j) (hil : i ≠ l) (hjl : j ≠ l)
    (hx : X.env.scope.names.lookup x = some .local) (hy : X.env.scope.names.lookup y = some .local) (hz : X.env.scope.names.lookup z = some .local) (ha : AZ C X [a, b, c] za)
    (hw : swappedStores [.Tuple [.Name x px, .Name y py, .Name z pz] kt pt] (.Tuple [a, b, c] k2 pt2) X.env = pure (some [x, y, z]) := by rfl)
    (hs : swapsWithSole [.Tuple [.Name x px, .Name y py, .Name z pz] kt pt] (.Tuple [a, b, c] k2 pt2) pos.line X.env = pure false := by rfl) (hc : X.calm = true := by rfl) :
    SZ C X (.Assign [.Tuple [.Name x px, .Name y py, .Name z pz] kt pt] (.Tuple [a, b, c] k2 pt2) pos) (zPar3 i j l za) := by
  obtain ⟨t, a1, a2⟩ := ha.ex
  refine ⟨_, ps_par3 hc hN hi hj hl hij hil hjl hx hy hz a1 hw hs, fun S A σ H Γ Δ Z N hs hc hz k => a2 S A σ H Γ Δ _ _ hs hc hz fun vs ds A1 H1 Δ1 e1 c1 r1 p => ?_⟩
  obtain ⟨a, b, c, rfl, p⟩ := p
  cases r1 with
  | cons r1 r2 =>
    cases r2 with
    | cons r2 r3 =>
      cases r3 with
      | cons r3 r4 =>
        cases r4
        exact ⟨_, _, _, rfl, k.nx _ A1 H1 _ Δ1 e1 ((((hs.ext e1).set i r1).set j r2).set l r3) c1 p⟩
end
end Z

/-! Z22: own methods; own objects with lists of their own, frozen when they are made. -/
namespace Z
open PySem PySem.Spec PyProof.Rows L2
/-- an instance of the class c whose own dict has no m -/
def insM (C : CI) (Δ : Store) (c : Nat) (m : Str) (x : D) : Prop := (∃ ds, x = .ins c ds ∧ m ∉ C.nms c) ∨ ∃ n fs, x = .cell n ∧ Δ[n]? = some (.ins c fs) ∧ m ∉ fs.map (·.1)
theorem look_no {α : Type} {m : Str} : ∀ {fs : List (Str × α)}, m ∉ fs.map (·.1) → fs.lookup m = none
  | [], _ => rfl
  | (n, v) :: fs, h => by
    rw [List.map_cons, List.mem_cons, not_or] at h
    rw [List.lookup_cons, beq_eq_false_iff_ne.mpr h.1]
    exact look_no h.2
section
variable {K : PySem.W.Frag} {C : CI} {S A : List Addr} {H : Hp} {Δ : Store}
theorem Rep.instM {x : V} {d0 : D} {c : Nat} {m : Str} (hc : Cells K C S A H Δ) (r : Rep K C S A H x d0) (h : insM C Δ c m d0) : ∃ a dx fs, x = .ref a ∧ H a = some (.ins (C.adr c) dx fs) ∧ fs.lookup m = none := by
  rcases h with ⟨ds, rfl, hm⟩ | ⟨n, fs, rfl, q, hm⟩
  · cases r with
    | ins h1 h2 h3 h4 h5 =>
      refine ⟨_, _, _, rfl, h1, look_no fun q => hm ?_⟩
      obtain ⟨p, hp, rfl⟩ := List.mem_map.mp q
      exact (List.of_mem_zip hp).1
  · cases r with
    | cell e =>
      obtain ⟨dx, xs, g1, g2, _⟩ := hc.at_ n _ _ e q
      exact ⟨_, _, _, rfl, g1, look_no (by rw [g2]; exact hm)⟩
end
/-- o.m(e, ..), o an instance of the class c -/
def zMeth (C : CI) (c : Nat) (m : Str) (W : ZRC) (zo : ZE) (za : ZA) : ZE := fun Γ Δ P => zo Γ Δ fun y Δ1 => insM C Δ1 c m y ∧ za Γ Δ1 fun ds Δ2 => W (y :: ds) Δ2 P
section
variable {C : CI} {X : Cx} {o e : Expr} {es : List Expr} {zo : ZE} {za : ZA} {pos apos : Pos} {m : Str} {k : Nat} {g : Addr} {fd : FuncData} {ps : List Str} {W : ZRC}
theorem ref_meth {K : PySem.W.Frag} {c : Nat} {te : TE} {ta : TA} {E : XK} (he : RefE K C te zo) (ha : RefA K C ta za) : RefE K C (tMeth (C.adr c) m (SpZ K C W) [] E te ta) (zMeth C c m W zo za) := fun S A σ H Γ Δ P Q hs hc hz k =>
  he S A σ H Γ Δ _ _ hs hc hz fun v d A1 H1 Δ1 e1 c1 r1 p => by
    obtain ⟨hi, p⟩ := p
    obtain ⟨a, dx, fs, rfl, g1, g2⟩ := r1.instM c1 hi
    refine ⟨a, dx, fs, rfl, g1, g2, ha S A1 σ H1 Γ Δ1 _ _ (hs.ext e1) c1 p fun vs ds A2 H2 Δ2 e2 c2 r2 p2 => ?_⟩
    exact ⟨S, A2, Δ2, d :: ds, P, by rw [List.append_nil]; exact .cons (r1.ext e2) r2, c2, p2, fun v d A' H' Δ' e3 c3 r3 p3 => k v d A' H' Δ' ((e1.trans e2).trans e3) c3 r3 p3⟩
theorem ez_meth {c : Nat} {pl : Sem Bool} (ho : EZ C X o zo) (cl : Cls X.K (C.adr c)) (hm : Meth X.K (C.adr c) m g) (F : FnOk X.prog X.w X.K X.mg X.base CX0 k g fd ps (SpZ X.K C W)) (hr : Room k X.A) (hb : Binds X.K fd ps []) (ha : AZ C X (e :: es) za)
    (hst : starEach (e :: es) X.env = (false, eval e X.env) :: starEach es X.env := by rfl) (hpl : (backTo pos (starEach es X.env)).any (·.1) = false := by rfl)
    (ht : eval (.Call (.Attribute o m apos) (e :: es) [] pos) X.env = (do
      let ov ← eval o X.env
      standAt apos.atName
      let (f, first) ← holding [ov] (getMethod ov m pl)
      callWith pos f first (backTo pos (starEach (e :: es) X.env)) (backToKw pos (keywordEach [] X.env))) := by rfl) :
    EZ C X (.Call (.Attribute o m apos) (e :: es) [] pos) (zMeth C c m W zo za) := by
  obtain ⟨t, a1, a2⟩ := ho.ex
  obtain ⟨u, b1, b2⟩ := ha.ex
  exact ⟨_, pe_meth a1 cl hm F hr hb .nil (E := E0) pass0 b1 hst hpl ht, ref_meth a2 b2⟩
theorem ez_meth0 {c : Nat} {pl : Sem Bool} (ho : EZ C X o zo) (cl : Cls X.K (C.adr c)) (hm : Meth X.K (C.adr c) m g) (F : FnOk X.prog X.w X.K X.mg X.base CX0 k g fd ps (SpZ X.K C W)) (hr : Room k X.A) (hb : Binds X.K fd ps [])
    (ht : eval (.Call (.Attribute o m apos) [] [] pos) X.env = (do
      let ov ← eval o X.env
      standAt apos.atName
      let (f, first) ← holding [ov] (getMethod ov m pl)
      callWith pos f first (backTo pos (starEach [] X.env)) (backToKw pos (keywordEach [] X.env))) := by rfl) :
    EZ C X (.Call (.Attribute o m apos) [] [] pos) (zMeth C c m W zo zNil) := by
  obtain ⟨t, a1, a2⟩ := ho.ex
  exact ⟨_, pe_meth0 a1 cl hm F hr hb .nil (E := E0) pass0 ht, ref_meth a2 (fun S A σ H Γ Δ P Q hs hc hz k => k [] [] A H Δ (Ext.refl _ _) hc .nil hz)⟩
end
/-! ### frozen with all that is its own -/
mutual
theorem below_mono {m m' : Nat} (h : m ≤ m') : ∀ d : D, below m d = true → below m' d = true
  | .cell n, q => by
    have q : decide (n < m) = true := q
    show decide (n < m') = true
    have := of_decide_eq_true q
    exact decide_eq_true (by omega)
  | .tup ds, q => belowL_mono h ds q
  | .lst ds, q => belowL_mono h ds q
  | .ins _ ds, q => belowL_mono h ds q
  | .dct _ ds, q => belowL_mono h ds q
  | .non, _ => rfl
  | .bl _, _ => rfl
  | .int _, _ => rfl
  | .str _, _ => rfl
  | .ty _, _ => rfl
  | .cls _, _ => rfl
  | .scr _, _ => rfl
  | .ktup _, _ => rfl
theorem belowL_mono {m m' : Nat} (h : m ≤ m') : ∀ ds : List D, belowL m ds = true → belowL m' ds = true
  | [], _ => rfl
  | d :: ds, q => by
    have q : (below m d && belowL m ds) = true := q
    rw [Bool.and_eq_true] at q
    show (below m' d && belowL m' ds) = true
    rw [below_mono h d q.1, belowL_mono h ds q.2]
    rfl
end
/-- cells from m on by their contents, down to a depth -/
def frx (C : CI) (Δ : Store) (m : Nat) : Nat → D → D
  | 0, d => d
  | k + 1, .cell n => if n < m then .cell n else match Δ[n]? with
    | some (.lst ds) => .lst (ds.map (frx C Δ m k))
    | some (.ins c fs) => if fs.map (·.1) = C.nms c then .ins c ((fs.map (·.2)).map (frx C Δ m k)) else .cell n
    | _ => .cell n
  | k + 1, .lst ds => .lst (ds.map (frx C Δ m k))
  | k + 1, .tup ds => .tup (ds.map (frx C Δ m k))
  | k + 1, .ins c ds => .ins c (ds.map (frx C Δ m k))
  | _ + 1, .scr ns => .scr ns
  | _ + 1, .non => .non
  | _ + 1, .ktup ns => .ktup ns
  | _ + 1, .bl b => .bl b
  | _ + 1, .int i => .int i
  | _ + 1, .str x => .str x
  | _ + 1, .ty n => .ty n
  | _ + 1, .cls c => .cls c
  | _ + 1, .dct ks ds => .dct ks ds
section
variable {K : PySem.W.Frag} {C : CI} {S : List Addr} {H : Hp} {Δ : Store}
theorem Rep.dropB : ∀ (B A : List Addr) (d : D) {v : V}, Z.below A.length d = true → Rep K C S (A ++ B) H v d → Rep K C S A H v d
  | [], A, d, v, _, r => by rw [List.append_nil] at r; exact r
  | x :: B, A, d, v, hb, r => by
    have e : A ++ x :: B = (A ++ [x]) ++ B := by simp
    rw [e] at r
    exact Rep.drop d hb (Rep.dropB B (A ++ [x]) d (below_mono (by simp) d hb) r)
theorem RepL.dropB (B A : List Addr) : ∀ (ds : List D) {vs : List V}, Z.belowL A.length ds = true → RepL K C S (A ++ B) H vs ds → RepL K C S A H vs ds
  | [], _, _, .nil => .nil
  | d :: ds, _, hb, .cons h r => by
    have hb : (Z.below A.length d && Z.belowL A.length ds) = true := hb
    rw [Bool.and_eq_true] at hb
    exact .cons (Rep.dropB B A d hb.1 h) (RepL.dropB B A ds hb.2 r)
theorem repL_map {A A' : List Addr} {m : Nat} {f : D → D} (hf : ∀ (d : D) (v : V), Z.below m (f d) = true → Rep K C S A' H v d → Rep K C S A H v (f d)) : ∀ {ds : List D} {vs : List V}, Z.belowL m (ds.map f) = true → RepL K C S A' H vs ds → RepL K C S A H vs (ds.map f)
  | [], _, _, .nil => .nil
  | d :: ds, _, hb, .cons h r => by
    have hb : (Z.below m (f d) && Z.belowL m (ds.map f)) = true := hb
    rw [Bool.and_eq_true] at hb
    exact .cons (hf d _ hb.1 h) (repL_map hf hb.2 r)
theorem Rep.frx {A B : List Addr} (hc : Cells K C S (A ++ B) H Δ) : ∀ (k : Nat) (d : D) (v : V), Z.below A.length (Z.frx C Δ A.length k d) = true → Rep K C S (A ++ B) H v d → Rep K C S A H v (Z.frx C Δ A.length k d)
  | 0, d, v, hb, r => Rep.dropB B A d hb r
  | k + 1, d, v, hb, r => by
    have ih := Rep.frx hc k
    cases r with
    | cell e =>
      rename_i a n
      unfold Z.frx at hb ⊢
      by_cases hn : n < A.length
      · rw [if_pos hn] at hb ⊢
        rw [List.getElem?_append_left hn] at e
        exact .cell e
      · rw [if_neg hn] at hb ⊢
        have haA : a ∉ A := fun h => by
          obtain ⟨j, hj⟩ := List.mem_iff_getElem?.mp h
          have hjl := (List.getElem?_eq_some_iff.mp hj).1
          have e2 : (A ++ B)[j]? = some a := by rw [List.getElem?_append_left hjl]; exact hj
          have := (List.getElem?_inj (List.getElem?_eq_some_iff.mp e2).1 hc.nd).mp (e2.trans e.symm)
          omega
        have haS : a ∉ S := hc.dj a (List.mem_of_getElem? e)
        cases q : Δ[n]? with
        | none => simp only [q] at hb; exact absurd (of_decide_eq_true hb) hn
        | some o =>
          cases o with
          | dct _ _ => simp only [q] at hb; exact absurd (of_decide_eq_true hb) hn
          | lst ds =>
            simp only [q] at hb ⊢
            obtain ⟨xs, g1, g2⟩ := hc.at_ n a _ e q
            exact .lst g1 haA haS (repL_map (fun d v => ih d v) hb g2)
          | ins c fs =>
            simp only [q] at hb ⊢
            by_cases hf : fs.map (·.1) = C.nms c
            · rw [if_pos hf] at hb ⊢
              obtain ⟨dx, xs, g1, g2, g3⟩ := hc.at_ n a _ e q
              rw [hf] at g2
              rw [zip_of g2] at g1
              refine .ins g1 haA haS ?_ (repL_map (fun d v => ih d v) hb g3)
              rw [List.length_map, ← g2, List.length_map]
            · rw [if_neg hf] at hb
              exact absurd (of_decide_eq_true hb) hn
    | scr e => 
      unfold Z.frx at hb ⊢
      refine .scr ?_
      rcases e with ⟨e1, e2, e3⟩ | e
      · exact .inl ⟨e1, fun h => e2 (List.mem_append_left _ h), e3⟩
      · exact .inr e
    | non => exact .non
    | bl b => exact .bl b
    | int i => exact .int i
    | str x => exact .str x
    | ty n => exact .ty n
    | cls n => exact .cls n
    | ktup h => exact .ktup h
    | tup h1 h2 h3 r => unfold Z.frx at hb ⊢; exact .tup h1 (fun h => h2 (List.mem_append_left _ h)) h3 (repL_map (fun d v => ih d v) hb r)
    | lst h1 h2 h3 r => unfold Z.frx at hb ⊢; exact .lst h1 (fun h => h2 (List.mem_append_left _ h)) h3 (repL_map (fun d v => ih d v) hb r)
    | ins h1 h2 h3 h4 r => unfold Z.frx at hb ⊢; exact .ins h1 (fun h => h2 (List.mem_append_left _ h)) h3 h4 (repL_map (fun d v => ih d v) hb r)
    | dct h1 h2 h3 h4 r => unfold Z.frx at hb ⊢; exact .dct h1 (fun h => h2 (List.mem_append_left _ h)) h3 h4 (RepL.dropB B A _ hb r)
theorem Cells.freezeB {H0 : Hp} {A B : List Addr} {r : Store} (c1 : Cells K C S A H0 Δ) (hc : Cells K C S (A ++ B) H (Δ ++ r)) : Cells K C S A H Δ := by
  have lenΔ := c1.len
  refine ⟨c1.len, c1.nd, c1.dj, hc.as, fun n a o h1 h2 => ?_⟩
  have hn : n < A.length := (List.getElem?_eq_some_iff.mp h1).1
  have q := hc.at_ n a o (by rw [List.getElem?_append_left hn]; exact h1) (by rw [List.getElem?_append_left (by rw [← lenΔ]; exact hn)]; exact h2)
  have q0 := c1.at_ n a o h1 h2
  cases o with
  | lst ds =>
    obtain ⟨xs, g1, g2⟩ := q
    obtain ⟨_, _, g3⟩ := q0
    exact ⟨xs, g1, RepL.dropB B A ds (RepL.blw ds g3) g2⟩
  | ins c fs =>
    obtain ⟨dx, xs, g1, g2, g3⟩ := q
    obtain ⟨_, _, _, _, g4⟩ := q0
    exact ⟨dx, xs, g1, g2, RepL.dropB B A _ (RepL.blw _ g4) g3⟩
  | dct ks ds =>
    obtain ⟨xs, g1, g2, g3⟩ := q
    obtain ⟨_, _, _, g4⟩ := q0
    exact ⟨xs, g1, g2, RepL.dropB B A _ (RepL.blw _ g4) g3⟩
end
/-- C(..), never changed again, with all lists of its own: as data -/
def zMakeX (C : CI) (c : Nat) (W : ZRC) (dds : List D) (za : ZA) : ZE := fun Γ Δ P => za Γ Δ fun ds Δ1 => W (.cell Δ1.length :: (ds ++ dds)) (Δ1 ++ [.ins c []]) fun v Δ2 => v = .non ∧ ∃ r, Δ2 = Δ1 ++ r ∧ Z.below Δ1.length (frx C Δ2 Δ1.length 4 (.cell Δ1.length)) = true ∧ P (frx C Δ2 Δ1.length 4 (.cell Δ1.length)) Δ1
section
variable {C : CI} {X : Cx} {e : Expr} {es : List Expr} {za : ZA} {pos p : Pos} {x : Str} {k : Nat} {f : Addr} {fd : FuncData} {ps : List Str} {W : ZRC} {dvs : List V} {dds : List D} {ds : List Value}
theorem ref_makeX {K : PySem.W.Frag} {c : Nat} {ta : TA} {E : XK} (ha : RefA K C ta za) (hdd : ∀ S A H, RepL K C S A H dvs dds) : RefE K C (tMake (C.adr c) (SpZ K C W) dvs E ta) (zMakeX C c W dds za) := fun S A σ H Γ Δ P Q hs hc hz k =>
  ha S A σ H Γ Δ _ _ hs hc hz fun vs ds A1 H1 Δ1 e1 c1 r1 p x dx hx hdx hne => by
    have hx0 : upd H1 dx (.own x) x = none := by rw [upd_ne (Ne.symm hne)]; exact hx
    have e2 : Ext A1 H1 A1 (upd H1 dx (.own x)) := Ext.new hdx
    have e3 : Ext A1 (upd H1 dx (.own x)) (A1 ++ [x]) (upd (upd H1 dx (.own x)) x (.ins (C.adr c) dx [])) := Ext.newCell hx0
    have e23 := e2.trans e3
    refine ⟨S, A1 ++ [x], Δ1 ++ [.ins c []], .cell Δ1.length :: (ds ++ dds), _, .cons (.cell ?_) ((r1.ext e23).append (hdd _ _ _)), (c1.new hdx).newO (o := .ins c []) hx0 ⟨dx, [], upd_same, rfl, .nil⟩, p, fun v d A' H' Δ' e4 c4 r4 p4 => ?_⟩
    · rw [← c1.len, List.getElem?_append_right (Nat.le_refl _), Nat.sub_self] <;> rfl
    · obtain ⟨rfl, r, rfl, hb, p4⟩ := p4
      cases r4
      refine ⟨rfl, ?_⟩
      obtain ⟨B, hB, _⟩ := e4.pre
      have hB2 : A' = A1 ++ ([x] ++ B) := by rw [hB, List.append_assoc]
      subst hB2
      have c5 := c1.freezeB c4
      rw [← c1.len] at hb p4
      have rx : Rep K C S (A1 ++ ([x] ++ B)) H' (.ref x) (.cell A1.length) := .cell (by rw [List.getElem?_append_right (Nat.le_refl _), Nat.sub_self] <;> rfl)
      have r5 := Rep.frx c4 4 _ _ hb rx
      have e14 := e23.trans e4
      exact k _ _ A1 H' Δ1 (e1.trans ⟨⟨[], by simp, by simp⟩, fun a o h1 h2 => e14.keep a o h1 h2, e14.trk⟩) c5 r5 p4
theorem ez_makeX {c : Nat} (M : Mk X.K (C.adr c) f) (F : FnOk X.prog X.w X.K X.mg X.base CX0 k f fd ps (SpZ X.K C W)) (hr : Room (k + 1) X.A) (hm : X.mg x = some (.ref (C.adr c))) (hb : Binds X.K fd ps ds) (hd : Vals dvs ds) (hdd : ∀ S A H, RepL X.K C S A H dvs dds)
    (ha : AZ C X (e :: es) za) (hg : Gl X x := by rfl) (hdb : (x == ("__debug__" : Str)) = false := by decide) (he : starEach (e :: es) X.env = (false, eval e X.env) :: starEach es X.env := by rfl) (hpl : (backTo pos (starEach es X.env)).any (·.1) = false := by rfl) :
    EZ C X (.Call (.Name x p) (e :: es) [] pos) (zMakeX C c W dds za) := by
  obtain ⟨t, a1, a2⟩ := ha.ex
  exact ⟨_, pe_make M F hr hg hm hb hd (E := E0) pass0 a1 hdb he hpl, ref_makeX a2 hdd⟩
end
end Z

/-! Z23: name op= e, divmod, list.index of ints, comprehensions lent with all that the objects hold. -/
namespace Z
open PySem PySem.Spec PyProof.Rows L2
/-! ### divmod -/
def zDivmod : ZRC := fun ds Δ P => ∃ i j : Int, ds = [.int i, .int j] ∧ CDivP i j ∧ P (.tup [.int (i / j), .int (i % j)]) Δ
section
variable {C : CI} {X : Cx}
theorem cz_divmod : CallZ C X (.builtin "divmod") zDivmod := ⟨_, call_divmodW, fun S A H Δ xs ds P Q hc r hz k => by
  obtain ⟨i, j, rfl, q1, q⟩ := hz
  obtain ⟨v, v', rfl, rv, rv'⟩ := two_rep r
  cases rv
  cases rv'
  refine ⟨i, j, rfl, q1, fun p hp => ?_⟩
  exact k _ _ A _ Δ (Ext.new hp) (hc.new hp) (.tup upd_same (hc.fresh hp) (fun h => hc.as p h hp) (.cons (.int _) (.cons (.int _) .nil))) q⟩
end
/-! ### name op= e -/
def zAug (i : Nat) (f : Int → Int → Int) (ze : ZE) : ZS := fun Z Γ Δ => ∃ a : Int, Γ[i]? = some (some (.int a)) ∧ ze Γ Δ fun d Δ1 => ∃ b : Int, d = .int b ∧ Z.nx (Γ.set i (some (.int (f a b)))) Δ1
section
variable {C : CI} {X : Cx} {i : Nat} {x : Str} {e : Expr} {ze : ZE} {op : Operator} {f : Int → Int → Int} {pos pos' : Pos}
theorem sz_aug (hN : X.N.Nodup) (h : EZ C X e ze) (ho : PIp X op (ipI f)) (hi : X.N[i]? = some x := by rfl) (hx : Loc X.env.scope x := by first | exact Or.inl rfl | exact Or.inr rfl)
    (hf : X.fn x = true ∨ X.env.scope.names.lookup x = some .local := by first | exact .inl rfl | exact .inr rfl | assumption) : SZ C X (.AugAssign (.Name x pos') op e pos) (zAug i f ze) := by
  obtain ⟨t, a1, a2⟩ := h.ex
  refine ⟨_, ps_aug hN hi hx a1 ho hf, fun S A σ H Γ Δ Z N hs hc hz k => ?_⟩
  obtain ⟨a, g, p⟩ := hz
  obtain ⟨v, g1, r⟩ := hs.at_ i _ g
  cases r
  refine ⟨_, g1, a2 S A σ H Γ Δ _ _ hs hc p fun v d A1 H1 Δ1 e1 c1 r1 p1 => ?_⟩
  obtain ⟨b, rfl, p1⟩ := p1
  cases r1
  exact ⟨a, b, rfl, rfl, k.nx _ A1 H1 _ Δ1 e1 ((hs.ext e1).set i (.int _)) c1 p1⟩
end
/-! ### comprehensions lent with all that the objects hold -/
def lentX (C : CI) (Δ : Store) : Option D → Option D
  | some d => if Z.below 0 (frx C Δ 0 4 d) = true then some (frx C Δ 0 4 d) else none
  | none => none
section
variable {K : PySem.W.Frag} {C : CI} {S A : List Addr} {H : Hp} {Δ : Store}
theorem Slots.lentX {σ : L2.St} {Γ : Env} (c : Cells K C S A H Δ) (s : Slots K C S A H σ Γ) : Slots K C S [] H σ (Γ.map (Z.lentX C Δ)) := by
  refine ⟨by rw [List.length_map]; exact s.len, fun i d h => ?_⟩
  rw [List.getElem?_map] at h
  cases q : Γ[i]? with
  | none => rw [q] at h; cases h
  | some o =>
    rw [q] at h
    cases o with
    | none => cases h
    | some d0 =>
      have h : (if Z.below 0 (frx C Δ 0 4 d0) = true then some (frx C Δ 0 4 d0) else none) = some d := Option.some.inj h
      by_cases hb : Z.below 0 (frx C Δ 0 4 d0) = true
      · rw [if_pos hb] at h
        cases h
        obtain ⟨v, g1, r⟩ := s.at_ i d0 q
        exact ⟨v, g1, Rep.frx (A := []) (B := A) c 4 d0 v hb r⟩
      · rw [if_neg hb] at h
        cases h
end
def zLendX (C : CI) (z : ZE) : ZE := fun Γ Δ P => z (Γ.map (lentX C Δ)) [] fun d Δ' => ∃ m es, d = .cell m ∧ Δ'[m]? = some (.lst es) ∧ bareTs es = true ∧ P (.lst es) Δ
theorem ref_lendX {K : PySem.W.Frag} {C : CI} {te : TE} {ze : ZE} (h : RefE K C te ze) : RefE K C te (zLendX C ze) := fun S A σ H Γ Δ P Q hs hc hz k =>
  h S [] σ H _ [] _ Q (Slots.lentX hc hs) ⟨rfl, .nil, (fun a ha => nomatch ha), hc.as, (fun n a o h => nomatch h)⟩ hz fun v d A' H' Δ' e2 c2 r2 p2 => by
    obtain ⟨m, es, rfl, g2, hb, p2⟩ := p2
    cases r2 with
    | cell g1 =>
      rename_i a
      obtain ⟨q1, q2, q3, xs, q4, q5⟩ := hc.adopt e2 c2 g1 g2 hb
      have kp : ∀ a o, H a = some o → H' a = some o := fun a o h => e2.keep a o (fun q => nomatch q) h
      exact k _ _ A H' Δ (Ext.kept kp) (hc.kept kp) (.lst q4 (hc.fresh q1) (c2.dj a (List.mem_of_getElem? g1)) q5) p2
section
variable {C : CI} {X : Cx}
theorem ez_lendX {e : Expr} {ze : ZE} (h : EZ C X e ze) : EZ C X e (zLendX C ze) := by
  obtain ⟨t, h1, h2⟩ := h.ex
  exact ⟨t, h1, ref_lendX h2⟩
theorem sz_setLcX {i : Nat} {y : Str} {py : Pos} {elt tg iter : Expr} {ifs : List Expr} {scope : Scope} {own : List (Str × Nat)} {pos spos : Pos} {zi : ZI} {g : TG} {zg : ZG} {zt : ZT} {ze : ZE} (hN : X.N.Nodup) (hy : X.N[i]? = some y) (hyl : X.env.scope.names.lookup y = some .local)
    (hsw : swapsWith (.ListComp elt [⟨tg, iter, ifs, 0⟩] scope pos) (some (.Name y py)) spos.line X.env = pure true) (hi : IZ C X tg iter zi) (ok : BlkOk X.N X.env.scope scope own) (ho : Own g (own.map (·.2))) (hb : BlkZ C X scope tg ifs elt g zg zt ze)
    (hc : X.calm = true := by rfl) (hs : ∀ x, foldedSetIterable iter X.env x = pure x := by intro _; rfl) : SZ C X (.Assign [.Name y py] (.ListComp elt [⟨tg, iter, ifs, 0⟩] scope pos) spos) (zAsg (zLendX C (zLcC zi zg zt ze (own.map (·.2)))) (zgName i)) := by
  obtain ⟨wi, i1, i2⟩ := hi.ex
  obtain ⟨tt, te, b1, b2, b3, b4⟩ := hb.ex
  exact ⟨_, ps_setLc hc hN hy hyl hsw i1 ok (fun s H Ca cl fp => (b1 s H Ca cl fp).1) (fun s H Ca cl fp => (b1 s H Ca cl fp).2.1) (fun s H Ca cl fp => (b1 s H Ca cl fp).2.2) hs, ref_asg (ref_lendX (ref_lcC i2 b2 ho b3 b4)) (gz_name (C := C) (pos := py) hN hy (.inl hyl) (.inr hyl)).ref⟩
end
/-! ### xs.index(n), ints -/
def zIndex (zo : ZE) (za : ZA) : ZE := fun Γ Δ P => zo Γ Δ fun o Δ1 => ∃ ns : List Int, o = .lst (ns.map D.int) ∧ za Γ Δ1 fun as Δ2 => ∃ (k : Int) (j : Nat), as = [.int k] ∧ ns[j]? = some k ∧ (∀ m, m < j → ns[m]? ≠ some k) ∧ P (.int (j : Nat)) Δ2
section
variable {C : CI} {X : Cx} {o e : Expr} {es : List Expr} {zo : ZE} {za : ZA} {apos cpos : Pos}
theorem ez_index (ho : EZ C X o zo) (ha : AZ C X (e :: es) za)
    (hbase : attributeBase o "index" X.env (eval o X.env) = eval o X.env := by rfl)
    (hfew : ((backTo cpos (starEach (e :: es) X.env)).all (fun x => !x.1) && (backToKw cpos (keywordEach [] X.env)).all (fun x => x.1.isSome)
      && decide ((e :: es).length + ([] : List Keyword).length + (if ([] : List Keyword).isEmpty then 0 else 1) < 30)) = true := by rfl)
    (hline : (apos.endLine == cpos.line) = true := by rfl) (hs : starEach (e :: es) X.env = (false, eval e X.env) :: starEach es X.env := by rfl) (hplain : (backTo cpos (starEach es X.env)).any (·.1) = false := by rfl) :
    EZ C X (.Call (.Attribute o "index" apos) (e :: es) [] cpos) (zIndex zo za) := by
  obtain ⟨t, o1, o2⟩ := ho.ex
  obtain ⟨u, a1, a2⟩ := ha.ex
  refine ⟨_, pe_bm PySem.F.plainAttrs_list PySem.F.slot_list_index PySem.F.type_list_index mt_index o1 a1 hbase hfew hline hs hplain, fun S A σ H Γ Δ P Q hs hc hz k => o2 S A σ H Γ Δ _ _ hs hc hz fun v d A1 H1 Δ1 e1 c1 r1 p => ?_⟩
  obtain ⟨ns, rfl, p⟩ := p
  cases r1 with
  | lst g gA gS gr =>
    refine ⟨.inl ⟨rfl, _, SqL.of g⟩, a2 S A1 σ H1 Γ Δ1 _ _ (hs.ext e1) c1 p fun vs as A2 H2 Δ2 e2 c2 r2 p2 => ?_⟩
    obtain ⟨y, j, rfl, hj, hno, p2⟩ := p2
    obtain ⟨w, rfl, rw_⟩ := one_rep r2
    cases rw_
    have gx := repL_int gr
    subst gx
    have g2 := e2.keep _ _ gA g
    refine ⟨_, ns.map V.int, .int y, j, .int y, rfl, rfl, SqL.of g2, rfl, ?_, by rw [List.getElem?_map, hj]; rfl, by show (y == y) = true; simp, fun m z' hm hz' => ?_, k _ _ A2 H2 Δ2 (e1.trans e2) c2 (.int _) p2⟩
    · rw [List.all_eq_true]
      intro x hx
      obtain ⟨i, _, rfl⟩ := List.mem_map.mp hx
      rfl
    · rw [List.getElem?_map] at hz'
      cases q : ns[m]? with
      | none => rw [q] at hz'; cases hz'
      | some n =>
        rw [q] at hz'
        cases hz'
        show (n == y) = false
        rw [beq_eq_false_iff_ne]
        exact fun e => hno m hm (by rw [q, e])
end
/-! ### t + u, tuples with items -/
def zCatT : ZR2 := fun x y Δ P => ∃ ds es, x = .tup ds ∧ y = .tup es ∧ ds ≠ [] ∧ es ≠ [] ∧ ds.length + es.length ≤ 100000 ∧ P (.tup (ds ++ es)) Δ
section
variable {C : CI} {X : Cx}
theorem oz_catT : OpZ C X (binaryOp .Add) zCatT := ⟨_, op_catT, fun S A H Δ x y dx dy P Q hc rx ry hz k => by
  obtain ⟨ds, es, rfl, rfl, h1, h2, hl, p⟩ := hz
  cases rx with
  | tup a1 a2 a3 a4 =>
    cases ry with
    | tup b1 b2 b3 b4 =>
      rename_i a xs b ys
      have n1 : xs ≠ [] := fun q => h1 (List.length_eq_zero_iff.mp (by rw [← a4.length, q]; rfl))
      have n2 : ys ≠ [] := fun q => h2 (List.length_eq_zero_iff.mp (by rw [← b4.length, q]; rfl))
      refine ⟨a, b, xs, ys, rfl, rfl, SqT.of a1, SqT.of b1, n1, sz100 (by rw [a4.length, b4.length]; exact hl), fun q => absurd q n2, fun _ q hq => ?_⟩
      have e := Ext.new (A := A) (o := .tup (xs ++ ys)) hq
      exact k _ _ A _ Δ e (hc.new hq) (.tup upd_same (hc.fresh hq) (hc.aside hq) ((a4.append b4).ext e)) p⟩
end
end Z

/-! Z24: sum of a tuple of ints. -/
namespace Z
open PySem PySem.Spec PyProof.Rows L2
section
variable {C : CI} {X : Cx}
theorem cr_sumA (hc : X.calm = true) : CallR X (.builtin "sum") (fun vs H Q => ∃ (a : Addr) (ns : List Int), vs = [V.ref a] ∧ (SqL X.K H a (ns.map V.int) ∨ SqT X.K H a (ns.map V.int)) ∧ Q (.int ns.sum) H) := by
  intro pins s σ H vs us Q I r h
  obtain ⟨a, ns, rfl, hs, q⟩ := h
  rcases hs with hs | hs
  · exact cr_sum hc pins s σ H _ us Q I r ⟨a, ns, rfl, hs, q⟩
  · obtain ⟨its, rv, hl, _⟩ := I.tuple hs
    rw [Vals.ref1 r]
    obtain ⟨xs, e⟩ := rv.ints.allInts.items
    have hn : numsOf (intItems xs).toList = ns := by rw [← e]; exact rv.ints.numsOf
    rw [nums_intItems] at hn
    rw [e] at hl
    refine PySem.W.ktm_sumG (I.ok.hd hc) hl fun h' tk t' hk => ?_
    rw [preSum_eq, List.take_of_length_le (by simp), hn]
    exact ⟨.int _, H, I.kept hk, ⟨_, rfl⟩, q⟩
/-- sum of a list or a tuple of ints -/
def zSumA : ZRC := fun ds Δ P => ∃ (d : D) (ns : List Int), ds = [d] ∧ seqD Δ d = some (ns.map D.int) ∧ P (.int ns.sum) Δ
theorem cz_sumA (hc : X.calm = true := by rfl) : CallZ C X (.builtin "sum") zSumA := ⟨_, cr_sumA hc, fun S A H Δ xs ds P Q hc r hz k => by
  obtain ⟨d, ns, rfl, hd, q⟩ := hz
  obtain ⟨v, rfl, rv⟩ := one_rep r
  obtain ⟨pa, ys, rfl, hq, rr⟩ := Rep.seq hc rv hd
  obtain rfl := repL_int rr
  exact ⟨pa, ns, rfl, hq, k _ _ A H Δ (Ext.refl _ _) hc (.int _) q⟩⟩
end
end Z

/-! Z25: a for over a list that is a cell, the same all along. -/
namespace Z
open PySem PySem.Spec PyProof.Rows L2
def loopC (n : Nat) (ds : List D) (body : D → ZS) (Z : ZEnds) : List D → Env → Store → Prop
  | [], Γ, Δ => Δ[n]? = some (.lst ds) ∧ Z.nx Γ Δ
  | x :: xs, Γ, Δ => Δ[n]? = some (.lst ds) ∧ body x { Z with nx := loopC n ds body Z xs, ct := loopC n ds body Z xs, bk := Z.nx } Γ Δ
def zForC (z : ZE) (g : ZG) (zs : ZS) : ZS := fun Z Γ Δ => z Γ Δ fun d Δ1 => ∃ n ds, d = .cell n ∧ loopC n ds (fun x Z' Γ' Δ' => g x Γ' Δ' fun Γ2 Δ2 => zs Z' Γ2 Δ2) Z ds Γ Δ1
theorem loopC_at {n : Nat} {ds : List D} {body : D → ZS} {Z : ZEnds} {xs : List D} {Γ : Env} {Δ : Store} (h : loopC n ds body Z xs Γ Δ) : Δ[n]? = some (.lst ds) := by
  cases xs with
  | nil => exact h.1
  | cons x xs => exact h.1
theorem Cells.lst_ {K : PySem.W.Frag} {C : CI} {S A : List Addr} {H : Hp} {Δ : Store} {n : Nat} {a : Addr} {ds : List D} (c : Cells K C S A H Δ) (ha : A[n]? = some a) (h : Δ[n]? = some (.lst ds)) : ∃ xs, H a = some (.lst xs) ∧ RepL K C S A H xs ds := c.at_ n a _ ha h
section
variable {C : CI} {X : Cx} {pos : Pos}
theorem sz_forC {tg iter : Expr} {body : List Stmt} {z : ZE} {g : TG} {zg : ZG} {zb : ZS} (hi : EZ C X iter z) (hg : GZ C X tg g zg) (hb : SZs C X body zb) (hp : PassesOwn (model X.prog X.w) X.A X.env X.xe := by exact PassesOwn.never) (hc : X.calm = true := by rfl)
    (hs : ∀ x, foldedSetIterable iter X.env x = pure x := by intro _; rfl) : SZ C X (.For tg iter body [] pos) (zForC z zg zb) := by
  obtain ⟨t, i1, i2⟩ := hi.ex
  obtain ⟨tb, b1, b2⟩ := hb.ex
  refine ⟨_, ps_for hp hc (pi_list i1) hg.pg b1 hs, fun S A σ H Γ Δ Z N hs hc hz k => i2 S A σ H Γ Δ _ _ hs hc hz fun v d A1 H1 Δ1 e1 c1 r1 p => ?_⟩
  obtain ⟨n, ds, rfl, p⟩ := p
  cases r1 with
  | cell ha =>
    rename_i a
    obtain ⟨xs1, g1, g2⟩ := c1.lst_ ha (loopC_at p)
    refine ⟨a, rfl, ⟨xs1, SqL.of g1⟩, ?_⟩
    have w : Walk (Itl X.K a) ds.length (fun H => ∃ xs, H a = some (.lst xs) ∧ xs.length = ds.length) (fun i H x H' => H' = H ∧ ∀ xs, H a = some (.lst xs) → xs[i]? = some x) :=
      ⟨fun i H hi ⟨xs, q, l⟩ => ⟨xs, xs[i], SqL.of q, List.getElem?_eq_getElem (by omega)⟩, fun H ⟨xs, q, l⟩ => ⟨xs, SqL.of q, by omega⟩, fun i H x H' hi ⟨xs, q, l⟩ y => ⟨y.1, fun xs q => y.2 xs (SqL.of q)⟩⟩
    refine for_it w (fun i σ2 H2 => ∃ A2 Γ2 Δ2, Ext A1 H1 A2 H2 ∧ Slots X.K C S A2 H2 σ2 Γ2 ∧ Cells X.K C S A2 H2 Δ2 ∧ loopC n ds (fun x Z' Γ' Δ' => zg x Γ' Δ' fun Γ2 Δ2 => zb Z' Γ2 Δ2) Z (ds.drop i) Γ2 Δ2)
      ⟨A1, Γ, Δ1, Ext.refl _ _, hs.ext e1, c1, p⟩ (fun i σ2 H2 _ ⟨A2, Γ2, Δ2, e2, _, c2, q⟩ => ?_) ?_ ?_
    · obtain ⟨B, hB, _⟩ := e2.pre
      have ha2 : A2[n]? = some a := by rw [hB, List.getElem?_append_left (List.getElem?_eq_some_iff.mp ha).1]; exact ha
      obtain ⟨xs, q1, q2⟩ := c2.lst_ ha2 (loopC_at q)
      exact ⟨xs, q1, q2.length⟩
    · rintro i x σ2 H2 H3 hi ⟨A2, Γ2, Δ2, e2, s2, c2, q⟩ ⟨rfl, y⟩
      obtain ⟨B, hB, _⟩ := e2.pre
      have ha2 : A2[n]? = some a := by rw [hB, List.getElem?_append_left (List.getElem?_eq_some_iff.mp ha).1]; exact ha
      obtain ⟨xs, q1, q2⟩ := c2.lst_ ha2 (loopC_at q)
      obtain ⟨d, d1, d2⟩ := q2.getV (y xs q1)
      have hd : ds.drop i = d :: ds.drop (i + 1) := by
        obtain ⟨hl, q⟩ := List.getElem?_eq_some_iff.mp d1
        rw [← q]
        exact List.drop_eq_getElem_cons hl
      rw [hd] at q
      refine hg.ref S A2 σ2 H3 Γ2 Δ2 x d _ _ s2 c2 d2 q.2 fun σ4 A4 H4 Γ4 Δ4 e4 s4 c4 p4 => ?_
      have e14 := e2.trans e4
      refine b2 S A4 σ4 H4 Γ4 Δ4 _ _ s4 c4 p4 ⟨?_, ?_, ?_, ?_⟩
      · exact fun σ5 A5 H5 Γ5 Δ5 e5 s5 c5 p5 => ⟨A5, Γ5, Δ5, e14.trans e5, s5, c5, p5⟩
      · exact k.nx.ext (e1.trans e14)
      · exact fun σ5 A5 H5 Γ5 Δ5 e5 s5 c5 p5 => ⟨A5, Γ5, Δ5, e14.trans e5, s5, c5, p5⟩
      · exact fun v d A5 H5 Δ5 e5 c5 r5 p5 => k.rt v d A5 H5 Δ5 ((e1.trans e14).trans e5) c5 r5 p5
    · rintro σ2 H2 ⟨A2, Γ2, Δ2, e2, s2, c2, q⟩
      rw [List.drop_length] at q
      exact k.nx σ2 A2 H2 Γ2 Δ2 (e1.trans e2) s2 c2 q.2
end
/-- a loop over a cell that stays as it is -/
theorem loopC_all {n : Nat} {ds : List D} {body : D → ZS} {Z : ZEnds} {I : Env → Store → Prop} : ∀ (xs : List D) (Γ : Env) (Δ : Store), I Γ Δ → (∀ Γ Δ, I Γ Δ → Δ[n]? = some (.lst ds)) →
    (∀ x Γ Δ (Z' : ZEnds), x ∈ xs → I Γ Δ → (∀ Γ' Δ', I Γ' Δ' → Z'.nx Γ' Δ') → Z'.rt = Z.rt → body x Z' Γ Δ) → (∀ Γ Δ, I Γ Δ → Z.nx Γ Δ) → loopC n ds body Z xs Γ Δ
  | [], Γ, Δ, h, hat, _, he => ⟨hat Γ Δ h, he Γ Δ h⟩
  | x :: xs, Γ, Δ, h, hat, hb, he => ⟨hat Γ Δ h, hb x Γ Δ _ List.mem_cons_self h (fun Γ' Δ' h' => loopC_all xs Γ' Δ' h' hat (fun y Γ Δ Z' hy => hb y Γ Δ Z' (List.mem_cons_of_mem _ hy)) he) rfl⟩
end Z

/-! Z26: dicts as cells (keys ints): made, written, asked, put together; loops over the values of a dict that stays; results that are frozen with all new cells dropped. -/
namespace Z
open PySem PySem.Spec PyProof.Rows L2
/-- what a cell holds that is a dict -/
def dctO (l : List (Int × D)) : O := .dct (l.map (·.1)) (l.map (·.2))
theorem zip_maps {α β : Type} : ∀ l : List (α × β), (l.map (·.1)).zip (l.map (·.2)) = l
  | [] => rfl
  | x :: l => by rw [List.map_cons, List.map_cons, List.zip_cons_cons, zip_maps l]
theorem dctOf_cell {Δ : Store} {n : Nat} {l : List (Int × D)} (h : Δ[n]? = some (dctO l)) : dctOf Δ (.cell n) = some l := by
  unfold dctOf
  simp only [h, dctO, zip_maps]
theorem dctOf_dat {Δ : Store} {l : List (Int × D)} : dctOf Δ (dctP l) = some l := by
  show some _ = _
  rw [zip_maps]
section
variable {K : PySem.W.Frag} {C : CI} {S A : List Addr} {H H' : Hp} {q : Addr}
theorem RepP.cellAt {vs : List (Key × V)} {ds : List (Int × D)} (h : H q = some (.dK vs)) (r : RepP K C S A H vs ds) : CellAt K C S A H q (dctO ds) := by
  obtain ⟨h1, h2⟩ := RepP.zip r
  refine ⟨vs.map (·.2), ?_, ?_, h2⟩
  · rw [← h1]; exact h
  · rw [List.length_map, List.length_map, r.length]
theorem Cells.dct_ {Δ : Store} {n : Nat} {a : Addr} {l : List (Int × D)} (c : Cells K C S A H Δ) (ha : A[n]? = some a) (h : dctOf Δ (.cell n) = some l) : ∃ vs, H a = some (.dK vs) ∧ RepP K C S A H vs l := by
  unfold dctOf at h
  cases q : Δ[n]? with
  | none => simp only [q] at h; cases h
  | some o =>
    cases o with
    | lst _ => simp only [q] at h; cases h
    | ins _ _ => simp only [q] at h; cases h
    | dct ks es =>
      simp only [q] at h
      cases h
      obtain ⟨xs, e1, e2, e3⟩ := c.at_ n _ _ ha q
      exact ⟨_, e1, RepP.of e2 e3⟩
end
/-! ### a dict comprehension, as a cell -/
def asDct (P : D → Store → Prop) : D → Store → Prop := fun d Δ => ∃ l, d = dctP l ∧ P (.cell Δ.length) (Δ ++ [dctO l])
theorem dctP_inj : ∀ {l l' : List (Int × D)}, dctP l = dctP l' → l = l' := fun {l l'} h => by
  have h1 : l.map (·.1) = l'.map (·.1) := by
    unfold dctP at h
    exact (D.dct.inj h).1
  have h2 : l.map (·.2) = l'.map (·.2) := by
    unfold dctP at h
    exact (D.dct.inj h).2
  rw [← zip_maps l, ← zip_maps l', h1, h2]
def zDcC (zi : ZI) (zg : ZG) (zt : ZT) (zk zv : ZE) (vs : List Nat) : ZE := fun Γ Δ P => zi Γ Δ fun items Δ1 => dcZ zg zt zk zv (wipeZ Γ vs) (asDct P) items [] Δ1
section
variable {K : PySem.W.Frag} {C : CI} {S : List Addr} {q : Addr}
theorem ref_dcC {wi : TI} {g : TG} {tt : TT} {tk tv : TE} {vs : List Nat} {zi : ZI} {zg : ZG} {zt : ZT} {zk zv : ZE} (hi : RefI K C wi zi) (hg : RefG K C g zg) (ho : Own g vs) (ht : RefT K C tt zt) (hk : RefE K C tk zk) (hv : RefE K C tv zv) :
    RefE K C (tDc wi g tt tk tv vs) (zDcC zi zg zt zk zv vs) := fun S A σ H Γ Δ P Q hs hc hz k => hi S A σ H Γ Δ _ _ hs hc hz fun J n G Y items A1 H1 Δ1 e1 c1 p hn w hG hY q hq => by
  have s1 := hs.ext e1
  have mo0 : Mo S A1 H1 (q :: S) A1 (upd H1 q (.dK [])) := ⟨⟨[], by simp, by simp⟩, fun b hb => by
    rcases List.mem_cons.mp hb with rfl | hb
    · exact .inr hq
    · exact .inl hb, fun a o _ _ h => by rw [upd_ne (ne_of_none h hq)]; exact h⟩
  have cells0 : Cells K C (q :: S) A1 (upd H1 q (.dK [])) Δ1 := by
    refine ⟨c1.len, c1.nd, fun a ha hb => ?_, fun a ha h => ?_, fun n a o h1 h2 => (c1.at_ n a o h1 h2).mono mo0 fun u h => by rw [upd_ne (ne_of_none h hq)]; exact h⟩
    · rcases List.mem_cons.mp hb with rfl | hb
      · exact c1.fresh hq ha
      · exact c1.dj a ha hb
    · rcases List.mem_cons.mp ha with rfl | ha
      · rw [upd_same] at h; cases h
      · exact c1.as a ha ((Ext.new (A := A1) hq).trk a h)
  have mo2 : ∀ {A2 : List Addr} {H2 : Hp} {Δ2 : Store} {acc : List (Int × D)}, AtD K C S q A1 (upd H1 q (.dK [])) A2 H2 Δ2 acc → Mo S A1 H1 (q :: S) A2 H2 := fun {A2 H2 Δ2 acc} a => by
    obtain ⟨B, hB, nB⟩ := a.mo.pre
    refine ⟨⟨B, hB, fun b hb => (Ext.new (A := A1) hq).trk b (nB b hb)⟩, mo0.sub, fun x o h1 h2 h3 => ?_⟩
    have hx := ne_of_none h3 hq
    exact a.kp x o h1 hx (by rw [upd_ne hx]; exact h3)
  have ext2 : ∀ {A2 : List Addr} {H2 : Hp} {Δ2 : Store} {acc : List (Int × D)}, AtD K C S q A1 (upd H1 q (.dK [])) A2 H2 Δ2 acc → Ext A1 H1 A2 H2 := fun {A2 H2 Δ2 acc} a => by
    obtain ⟨B, hB, nB⟩ := a.mo.pre
    refine ⟨⟨B, hB, fun b hb => (Ext.new (A := A1) hq).trk b (nB b hb)⟩, fun x o h1 h3 => ?_, fun x h => (Ext.new (A := A1) hq).trk x (a.trk x h)⟩
    have hx := ne_of_none h3 hq
    exact a.kp x o h1 hx (by rw [upd_ne hx]; exact h3)
  refine ⟨fun i m H2 => m = n - i ∧ i ≤ n ∧ ∃ A2 Δ2 acc, AtD K C S q A1 (upd H1 q (.dK [])) A2 H2 Δ2 acc ∧ dcZ zg zt zk zv (wipeZ Γ vs) (asDct P) (items.drop i) acc Δ2, ⟨n, by simp, Nat.zero_le _, A1, Δ1, [], .here cells0 ⟨[], upd_same, .nil⟩, p⟩, ?_⟩
  rintro i m H2 ⟨rfl, hin, A2, Δ2, acc, a0, p2⟩
  have gg := hG (q :: S) A2 H2 (mo2 a0)
  by_cases hlt : i < n
  · refine .inr ⟨w.goes i H2 hlt gg, fun H' => ∃ A2 Δ2 acc, AtD K C S q A1 (upd H1 q (.dK [])) A2 H' Δ2 acc ∧ dcZ zg zt zk zv (wipeZ Γ vs) (asDct P) (items.drop (i + 1)) acc Δ2, fun H' p' => ⟨n - (i + 1), by omega, rfl, hlt, p'⟩, fun x H3 y => ?_⟩
    obtain ⟨d, q1, q2, q3⟩ := hY (q :: S) A2 H2 Δ2 i x H3 hlt (mo2 a0) a0.cells (w.yields i H2 x H3 hlt gg y)
    rw [drop_cons q1] at p2
    have e3 : Ext A2 H2 A2 H3 := Ext.kept q2
    have c3 := a0.cells.kept q2
    have s3 : Slots K C (q :: S) A2 H3 (wipe σ vs) (wipeZ Γ vs) := ((s1.mono (mo2 a0)).ext e3).wipe vs
    have h5 := hg (q :: S) A2 (wipe σ vs) H3 (wipeZ Γ vs) Δ2 x d _ (fun σ4 H4 => tt σ4 H4 fun b H5 => if b = true then tk σ4 H5 fun y H4 => tv σ4 H4 fun z H5 => ∃ kvs k, y = kV k ∧ H5 q = some (.dK kvs) ∧ kvs.length < sizeLine ∧ ∃ A2 Δ2 acc, AtD K C S q A1 (upd H1 q (.dK [])) A2 (upd H5 q (.dK (putK kvs k z))) Δ2 acc ∧ dcZ zg zt zk zv (wipeZ Γ vs) (asDct P) (items.drop (i + 1)) acc Δ2
        else ∃ A2 Δ2 acc, AtD K C S q A1 (upd H1 q (.dK [])) A2 H5 Δ2 acc ∧ dcZ zg zt zk zv (wipeZ Γ vs) (asDct P) (items.drop (i + 1)) acc Δ2) s3 c3 q3 p2 fun σ4 A4 H4 Γ4 Δ4 e4 s4 c4 p4 => by
      refine ht (q :: S) A4 σ4 H4 Γ4 Δ4 _ _ s4 c4 p4 fun b A5 H5 Δ5 e5 c5 p5 => ?_
      have b0 := ((a0.ext e3 c3).ext e4 c4).ext e5 c5
      cases b with
      | false => exact iteF ⟨A5, Δ5, acc, b0, p5.2 rfl⟩
      | true =>
        refine iteT (hk (q :: S) A5 σ4 H5 Γ4 Δ5 _ _ (s4.ext e5) c5 (p5.1 rfl) fun y dy A6 H6 Δ6 e6 c6 r6 p6 => ?_)
        refine hv (q :: S) A6 σ4 H6 Γ4 Δ6 _ _ ((s4.ext e5).ext e6) c6 p6 fun z dz A7 H7 Δ7 e7 c7 r7 p7 => ?_
        have d0 := (b0.ext e6 c6).ext e7 c7
        obtain ⟨j, rfl, hlen, p7⟩ := p7
        cases r6
        obtain ⟨accV, l1, l2⟩ := d0.dct
        exact ⟨accV, Sum.inl j, rfl, l1, lt_line (by rw [l2.length]; exact hlen), A7, Δ7, _, d0.grow l1 l2 r7, p7⟩
    have fin := ho _ _ _ _ h5
    rw [wipe_wipe] at fin
    exact fin
  · have e : i = n := by omega
    subst e
    rw [hn, List.drop_length] at p2
    refine .inl ⟨w.stops H2 gg, ?_⟩
    obtain ⟨accV, l1, l2⟩ := a0.dct
    have c2 := a0.cells
    have hq2 : q ∉ A2 := fun h => c2.dj q h List.mem_cons_self
    have mo8 : Mo (q :: S) A2 H2 S A2 H2 := ⟨⟨[], by simp, by simp⟩, fun b hb => .inl (List.mem_cons_of_mem _ hb), fun _ _ _ _ h => h⟩
    obtain ⟨es, e9, hp⟩ := p2
    have e9 := dctP_inj e9
    subst e9
    exact k _ _ (A2 ++ [q]) H2 (Δ2 ++ [dctO acc]) (Ext.cellIn (e1.trans (ext2 a0)) (e1.trk q hq) hq2) (Cells.unset (o := dctO acc) c2 (c1.aside hq) (RepP.cellAt l1 (l2.unaside hq2 (c1.aside hq)))) (.cell (by rw [← c2.len, List.getElem?_append_right (Nat.le_refl _), Nat.sub_self]; rfl)) hp
end
section
variable {C : CI} {X : Cx}
theorem ez_dcC {kx vx tg iter : Expr} {ifs : List Expr} {scope : Scope} {own : List (Str × Nat)} {pos : Pos} {zi : ZI} {g : TG} {zg : ZG} {zt : ZT} {zk zv : ZE} (hN : X.N.Nodup) (hi : IZ C X tg iter zi) (ok : BlkOk X.N X.env.scope scope own) (ho : Own g (own.map (·.2))) (hr : RefG X.K C g zg)
    (hg : ∀ (s : Shared) (H : Hp) (Ca : Addr) (cl : List (Str × Addr)) (fp : List Addr), PG (X.blk s H scope (compEnvC scope cl Ca X.env) fp) tg g)
    (ht : ∀ (s : Shared) (H : Hp) (Ca : Addr) (cl : List (Str × Addr)) (fp : List Addr), TsZ C (X.blk s H scope (compEnvC scope cl Ca X.env) fp) ifs zt)
    (hk : ∀ (s : Shared) (H : Hp) (Ca : Addr) (cl : List (Str × Addr)) (fp : List Addr), EZ C (X.blk s H scope (compEnvC scope cl Ca X.env) fp) kx zk)
    (hv : ∀ (s : Shared) (H : Hp) (Ca : Addr) (cl : List (Str × Addr)) (fp : List Addr), EZ C (X.blk s H scope (compEnvC scope cl Ca X.env) fp) vx zv)
    (hc : X.calm = true := by rfl) (hs : ∀ x, foldedSetIterable iter X.env x = pure x := by intro _; rfl) :
    EZ C X (.DictComp kx vx [⟨tg, iter, ifs, 0⟩] scope pos) (zDcC zi zg zt zk zv (own.map (·.2))) := by
  obtain ⟨wi, i1, i2⟩ := hi.ex
  exact ⟨_, pe_dc hc hN i1 ok hg (fun s H Ca cl fp => (ht s H Ca cl fp).up) (fun s H Ca cl fp => (hk s H Ca cl fp).up) (fun s H Ca cl fp => (hv s H Ca cl fp).up) hs, ref_dcC i2 hr ho ref_upT ref_up ref_up⟩
end
/-! ### {}; d[k] = v; in, not in; len; list(d.values()); d.update(e) -/
def zDNewC : ZE := fun _ Δ P => P (.cell Δ.length) (Δ ++ [dctO []])
def zDPut (zd zk zv : ZE) : ZS := fun Z Γ Δ => zv Γ Δ fun v Δ1 => zd Γ Δ1 fun x Δ2 => zk Γ Δ2 fun y Δ3 => ∃ (n : Nat) (l : List (Int × D)) (k : Int), x = .cell n ∧ dctOf Δ3 (.cell n) = some l ∧ y = .int k ∧ l.length < 100000 ∧ Z.nx Γ (Δ3.set n (dctO (putI k v l)))
def zInD : ZR2 := fun y x Δ P => ∃ (l : List (Int × D)) (k : Int), dctOf Δ x = some l ∧ y = .int k ∧ P (.bl (l.lookup k).isSome) Δ
def zNotInD : ZR2 := fun y x Δ P => ∃ (l : List (Int × D)) (k : Int), dctOf Δ x = some l ∧ y = .int k ∧ P (.bl (!(l.lookup k).isSome)) Δ
def zLenD : ZRC := fun ds Δ P => ∃ (x : D) (l : List (Int × D)), ds = [x] ∧ dctOf Δ x = some l ∧ P (.int l.length) Δ
def mrgI (l more : List (Int × D)) : List (Int × D) := more.foldl (fun acc p => putI p.1 p.2 acc) l
def zUpdD (zo : ZE) (za : ZA) : ZE := fun Γ Δ P => zo Γ Δ fun o Δ1 => (∃ n l, o = .cell n ∧ dctOf Δ1 (.cell n) = some l) ∧ za Γ Δ1 fun as Δ2 => ∃ (n : Nat) (l more : List (Int × D)) (y : D), o = .cell n ∧ dctOf Δ2 (.cell n) = some l ∧ as = [y] ∧ dctOf Δ2 y = some more ∧ (∀ m, y = .cell m → m ≠ n) ∧ l.length + more.length ≤ 100000 ∧ P .non (Δ2.set n (dctO (mrgI l more)))
def zListV (z : ZE) : ZE := fun Γ Δ P => z Γ Δ fun x Δ1 => ∃ l, dctOf Δ1 x = some l ∧ P (.lst (l.map (·.2))) Δ1
section
variable {K : PySem.W.Frag} {C : CI} {S A : List Addr} {H : Hp}
theorem RepP.valO {k : Int} : ∀ {vs : List (Key × V)} {ds : List (Int × D)}, RepP K C S A H vs ds → (valV vs (Sum.inl k)).isSome = (ds.lookup k).isSome
  | _, _, .nil => rfl
  | _, _, .cons (k := j) (d := d') (ds := ds) (v := v) h r => by
    by_cases q : j = k
    · subst q
      rw [List.lookup_cons_self, valV_pos rfl]
      rfl
    · rw [List.lookup_cons, show (k == j) = false from by simp; exact fun z => q z.symm, valV_neg fun z => q (Sum.inl.inj z)]
      exact RepP.valO r
theorem RepP.merge : ∀ {more : List (Key × V)} {ms : List (Int × D)}, RepP K C S A H more ms → ∀ {vs : List (Key × V)} {ds : List (Int × D)}, RepP K C S A H vs ds → RepP K C S A H (mergeK vs more) (mrgI ds ms)
  | _, _, .nil, _, _, r => r
  | _, _, .cons h t, _, _, r => RepP.merge t (r.put h)
end
section
variable {X : Cx}
def rUpdD : V → List V → Hp → VK → Prop := fun x xs H Q => ∃ (a b : Addr) (kvs more : List (Key × V)), x = .ref a ∧ xs = [.ref b] ∧ H a = some (.dK kvs) ∧ Rd H b (.dK more) ∧ a ≠ b ∧ kvs.length + more.length ≤ sizeLine ∧ Q .non (upd H a (.dK (mergeK kvs more)))
theorem mt_updD : MtR X "dict.update" rUpdD := by
  intro pins s σ H x xs v us Q I rx rxs h
  obtain ⟨a, b, kvs, more, rfl, rfl, ha, hb, hne, hz, q⟩ := h
  cases rx
  obtain ⟨u1, rfl, r1⟩ := vals1 rxs
  cases r1
  obtain ⟨z, lo, vs, rel, dd⟩ := dk_rd I.hok (.inl ha)
  obtain ⟨z2, lo2, ws, rel2, dd2⟩ := dk_rd I.hok hb
  refine call_meetsIn PySem.F.slot_dict_update dd.typeIs PySem.F.entry_dict_update (PySem.F.args_dict_update_2 _ _) (meets_dict_update (mixKind X.prog X.w) a b hne lo2)
    ⟨vs, ws, dd, dd2, by rw [← rel.length, ← rel2.length]; exact hz, fun h' d1 d2 hs => ?_⟩
  obtain ⟨o, ho, _⟩ := Heap.dictOf_iff.mp d1
  have hl : (mergeK kvs more).length ≤ sizeLine := Nat.le_trans (length_mergeK more kvs) hz
  have I2 : Inv X pins σ (upd H a (.dK (mergeK kvs more))) { s with heap := h' } := d_write (t' := s.toks) I (by rw [ha]; exact True.intro) hs ⟨o, ho⟩ (dk_new hl lo (rel2.merge rel) d1)
  exact ⟨.non, _, I2, rfl, q⟩
theorem cr_lenD : CallR X (.builtin "len") (fun xs H Q => ∃ a kvs, xs = [V.ref a] ∧ Rd H a (.dK kvs) ∧ Q (.int kvs.length) H) := by
  intro pins s σ H xs us Q I r h
  obtain ⟨a, kvs, rfl, ha, q⟩ := h
  obtain ⟨u, rfl, ru⟩ := vals1 r
  cases ru
  exact d_len I ha fun t s' I' => ⟨.int kvs.length, H, I', ⟨t, rfl⟩, q⟩
def rInD : R2 := fun y x H Q => ∃ a o, x = .ref a ∧ DGet H a y o ∧ Q (.bl o.isSome) H
def rNotInD : R2 := fun y x H Q => ∃ a o, x = .ref a ∧ DGet H a y o ∧ Q (.bl (!o.isSome)) H
theorem op_inD (hu : X.A.units + 1 < cLine) : OpR X (compareOp .In) rInD := by
  intro pins s σ H y x u v Q I ry rx h
  obtain ⟨a, o, rfl, g, q⟩ := h
  cases rx
  exact d_in hu I g ry fun s' I' => ⟨.bl _, H, I', rfl, q⟩
theorem op_notInD (hu : X.A.units + 1 < cLine) : OpR X (compareOp .NotIn) rNotInD := by
  intro pins s σ H y x u v Q I ry rx h
  obtain ⟨a, o, rfl, g, q⟩ := h
  cases rx
  exact d_notIn hu I g ry fun s' I' => ⟨.bl _, H, I', rfl, q⟩
def tListVals (te : TE) : TE := fun σ H Q => te σ H fun x H1 => ∃ (d : Addr) (kvs : List (Key × V)), x = .ref d ∧ Rd H1 d (.dK kvs) ∧ ∀ p, H1 p = none → Q (.ref p) (upd H1 p (.lst (kvs.map (·.2))))
theorem KV.vals {κ : Type} : ∀ {kvs : List (κ × V)} {vs : List (κ × Value)}, KV kvs vs → ∀ {j : Nat} {x : V}, (kvs.map (·.2))[j]? = some x → ∃ k u, vs[j]? = some (k, u) ∧ RelV x u
  | _, _, .nil, _, _, h => by cases h
  | _, _, .cons (a := p) (b := q) h t, 0, x, e => by
    cases e
    exact ⟨_, _, rfl, h.2⟩
  | _, _, .cons h t, j + 1, x, e => KV.vals t (j := j) e
theorem pe_listVals {e : Expr} {te : TE} {p apos cpos pos : Pos} (hc : X.calm = true) (he : PE X e te) (hg : Gl X "list") (hm : X.mg "list" = none) (hv : bootBuiltins "list" = some (.type "list")) (hbase : attributeBase e "values" X.env (eval e X.env) = eval e X.env := by rfl) (hline : (apos.endLine == cpos.line) = true := by rfl)
    (hs : starEach [.Call (.Attribute e "values" apos) [] [] cpos] X.env = (false, eval (.Call (.Attribute e "values" apos) [] [] cpos) X.env) :: starEach [] X.env := by rfl) :
    PE X (.Call (.Name "list" p) [.Call (.Attribute e "values" apos) [] [] cpos] [] pos) (tListVals te) := by
  refine ⟨fun pins s σ H Q I hq => ?_⟩
  refine wpAny_Call_Name_kw (ld_blt I hg hm hv ?_)
  refine PyProof.Rows.callWith_type1 ?_ hs rfl
  rw [hs]
  show wpAny _ _ (spliced ((false, eval (.Call (.Attribute e "values" apos) [] [] cpos) X.env) :: backTo pos (starEach [] X.env))) _ _ s
  refine Calls.spliced_cons ?_
  refine wpAny_Call_method (T := "dict") (id := "dict.values") hbase rfl hline F.plainAttrs_dict F.slot_dict_values F.type_dict_values (thn (he.run pins s σ H _ I hq) fun u s1 ⟨x, H1, I1, rx, d, kvs, ex, hd, q⟩ => ?_)
  subst ex
  obtain rfl : u = Value.ref d := rx
  obtain ⟨hz, hs0, vs, kv, hdo⟩ := dk_rd I1.hok hd
  obtain ⟨ep, hat⟩ := hdo.dictAt
  have lk : kvs.length = vs.length := Paired.length kv
  have I2 : Inv X pins σ H1 { s1 with heap := s1.heap.push { cls := .type "dict_values", data := .fields #[.ref d] } } := I1.kept (t' := s1.toks) fun b ob q => Heap.get?_push_of_some _ q
  refine ⟨hdo.typeIs, hdo.mapOf.noDict, ?_⟩
  show wpAny _ _ (callWith cpos (.builtin "dict.values") [.ref d] [] []) _ X.xe s1
  refine method_meetsIn F.slot_dict_values F.entry_dict_values rfl (PySem.evalArgs_none ⟨rfl, hdo.typeIs, F.args_dict_values_1 _, _, meets_dict_values (mixKind X.prog X.w) d hs0, ⟨vs, hdo⟩, ?_⟩)
  refine Calls.spliced_nil ?_
  refine PySem.W.kdl_call (PySem.W.kdl_values (knd := mixKind X.prog X.w) (kvs := vs) (ep := ep)) (I1.ok.hd hc) ⟨⟨_, Heap.get?_push_size _ rfl, rfl, rfl⟩, hat.push _⟩ (by omega) fun h' tk acc' c' hkeep hS hacc => ?_
  refine ⟨.ref _, upd H1 _ (.lst (kvs.map (·.2))), I2.laid hkeep (Nat.le_refl _) (show ObjOk X.prog X.w _ _ _ (.lst (kvs.map (·.2))) from ⟨?_, acc'.toList, c', ?_, ?_⟩), rfl, q _ (I2.hok.fresh (Nat.le_refl _))⟩
  · rw [List.length_map]; exact hz
  · have el : acc'.toList.length = acc'.size := by simp
    refine vals_of_at (by rw [List.length_map, el, hacc.1, lk]) fun j x w h1 h2 => ?_
    obtain ⟨k, hi⟩ := hacc.2 j w (by rw [← Array.getElem?_toList]; exact h2)
    obtain ⟨k', u', g1, g2⟩ := KV.vals kv h1
    rw [hi] at g1
    cases g1
    exact g2
  · rw [Array.toArray_toList]; exact hS
end
section
variable {C : CI} {X : Cx}
theorem ez_dnewC {pos : Pos} : EZ C X (.Dict [] [] pos) zDNewC := ⟨_, pe_dnewK, fun S A σ H Γ Δ P Q hs hc hz k p hp => by
  refine k _ _ (A ++ [p]) _ _ (Ext.newCell hp) (hc.newO (o := dctO []) hp ⟨[], upd_same, rfl, .nil⟩) (.cell ?_) hz
  rw [← hc.len, List.getElem?_append_right (Nat.le_refl _), Nat.sub_self]
  rfl⟩
theorem sz_dput {o i value : Expr} {pos' pos : Pos} {zd zk zv : ZE} (hu64 : X.A.units + 64 < cLine) (ho : EZ C X o zd) (hi : EZ C X i zk) (hv : EZ C X value zv) (hs : swapsWith value (some (.Subscript o i pos')) pos.line X.env = pure false := by rfl) :
    SZ C X (.Assign [.Subscript o i pos'] value pos) (zDPut zd zk zv) := by
  obtain ⟨td, d1, d2⟩ := ho.ex
  obtain ⟨tk, k1, k2⟩ := hi.ex
  obtain ⟨tv, v1, v2⟩ := hv.ex
  have hu : X.A.units + 1 < cLine := Nat.lt_of_le_of_lt (Nat.add_le_add_left (by decide) _) hu64
  refine ⟨_, ps_dput hu d1 k1 v1 hs, fun S A σ H Γ Δ Z N hs hc hz k => ?_⟩
  refine v2 S A σ H Γ Δ _ _ hs hc hz fun v dv A1 H1 Δ1 e1 c1 r1 z1 => d2 S A1 σ H1 Γ Δ1 _ _ (hs.ext e1) c1 z1 fun x dx A2 H2 Δ2 e2 c2 r2 z2 => k2 S A2 σ H2 Γ Δ2 _ _ ((hs.ext e1).ext e2) c2 z2 fun y dy A3 H3 Δ3 e3 c3 r3 z3 => ?_
  obtain ⟨n, l, j, rfl, hd, rfl, hl, z3⟩ := z3
  cases r3
  have r2' := r2.ext e3
  cases r2' with
  | cell g =>
    rename_i a
    obtain ⟨vs, g1, g2⟩ := c3.dct_ g hd
    have rv := (r1.ext e2).ext e3
    have g3 := g2.put (k := j) rv
    have hp : a ∈ A3 := List.mem_of_getElem? g
    have e4 : Ext A3 H3 A3 (upd H3 a (.dK (putK vs (Sum.inl j) v))) := Ext.write hp (by rw [g1]; simp)
    have g4 : RepP X.K C S A3 (upd H3 a (.dK (putK vs (Sum.inl j) v))) (putK vs (Sum.inl j) v) (putI j dv l) := RepP.mono e4.mo g3
    have q := c3.putO (o := dctO (putI j dv l)) g (RepP.cellAt upd_same g4)
    refine ⟨a, _, rfl, DPut.k (k := Sum.inl j) g1 (lt_line (by rw [g2.length]; exact hl)), ?_⟩
    exact k.nx σ A3 _ Γ _ (((e1.trans e2).trans e3).trans q.2) ((((hs.ext e1).ext e2).ext e3).ext q.2) q.1 z3
theorem oz_inD (hu64 : X.A.units + 64 < cLine) : OpZ C X (compareOp .In) zInD := ⟨_, op_inD (Nat.lt_of_le_of_lt (Nat.add_le_add_left (by decide) _) hu64), fun S A H Δ x y dx dy P Q hc rx ry hz k => by
  obtain ⟨l, j, hd, rfl, p⟩ := hz
  obtain ⟨pa, vs, rfl, g1, g2⟩ := Rep.dctOf hc ry hd
  cases rx
  refine ⟨pa, _, rfl, .inl ⟨vs, Sum.inl j, g1, rfl, rfl⟩, ?_⟩
  rw [g2.valO]
  exact k _ _ A H Δ (Ext.refl _ _) hc (.bl _) p⟩
theorem oz_notInD (hu64 : X.A.units + 64 < cLine) : OpZ C X (compareOp .NotIn) zNotInD := ⟨_, op_notInD (Nat.lt_of_le_of_lt (Nat.add_le_add_left (by decide) _) hu64), fun S A H Δ x y dx dy P Q hc rx ry hz k => by
  obtain ⟨l, j, hd, rfl, p⟩ := hz
  obtain ⟨pa, vs, rfl, g1, g2⟩ := Rep.dctOf hc ry hd
  cases rx
  refine ⟨pa, _, rfl, .inl ⟨vs, Sum.inl j, g1, rfl, rfl⟩, ?_⟩
  rw [g2.valO]
  exact k _ _ A H Δ (Ext.refl _ _) hc (.bl _) p⟩
theorem cz_lenD : CallZ C X (.builtin "len") zLenD := ⟨_, cr_lenD, fun S A H Δ xs ds P Q hc r hz k => by
  obtain ⟨x, l, rfl, hd, q⟩ := hz
  obtain ⟨v, rfl, rv⟩ := one_rep r
  obtain ⟨pa, vs, rfl, g1, g2⟩ := Rep.dctOf hc rv hd
  refine ⟨pa, vs, rfl, g1, k _ _ A H Δ (Ext.refl _ _) hc ?_ q⟩
  rw [g2.length]
  exact .int _⟩
theorem ez_listV {e : Expr} {z : ZE} {p apos cpos pos : Pos} (he : EZ C X e z) (hm : X.mg "list" = none) (hg : Gl X "list" := by rfl) (hc : X.calm = true := by rfl) (hv : bootBuiltins "list" = some (.type "list") := by decide +kernel) (hbase : attributeBase e "values" X.env (eval e X.env) = eval e X.env := by rfl) (hline : (apos.endLine == cpos.line) = true := by rfl)
    (hs : starEach [.Call (.Attribute e "values" apos) [] [] cpos] X.env = (false, eval (.Call (.Attribute e "values" apos) [] [] cpos) X.env) :: starEach [] X.env := by rfl) :
    EZ C X (.Call (.Name "list" p) [.Call (.Attribute e "values" apos) [] [] cpos] [] pos) (zListV z) := by
  obtain ⟨t, h1, h2⟩ := he.ex
  refine ⟨_, pe_listVals hc h1 hg hm hv hbase hline hs, fun S A σ H Γ Δ P Q hs hc hz k => h2 S A σ H Γ Δ _ _ hs hc hz fun v d A1 H1 Δ1 e1 c1 r1 hz1 => ?_⟩
  obtain ⟨l, hd, p⟩ := hz1
  obtain ⟨pa, vs, rfl, g1, g2⟩ := Rep.dctOf c1 r1 hd
  refine ⟨pa, vs, rfl, g1, fun q hq => ?_⟩
  have e2 : Ext A1 H1 A1 (upd H1 q (.lst (vs.map (·.2)))) := Ext.new hq
  refine k _ _ A1 _ Δ1 (e1.trans e2) (c1.kept fun a o h => by rw [upd_ne (ne_of_none h hq)]; exact h) (.lst upd_same (c1.fresh hq) (c1.aside hq) ((RepP.zip g2).2.ext e2)) p
theorem ez_updD {o e : Expr} {es : List Expr} {zo : ZE} {za : ZA} {apos cpos : Pos} (ho : EZ C X o zo) (ha : AZ C X (e :: es) za)
    (hbase : attributeBase o "update" X.env (eval o X.env) = eval o X.env := by rfl)
    (hfew : ((backTo cpos (starEach (e :: es) X.env)).all (fun x => !x.1) && (backToKw cpos (keywordEach [] X.env)).all (fun x => x.1.isSome)
      && decide ((e :: es).length + ([] : List Keyword).length + (if ([] : List Keyword).isEmpty then 0 else 1) < 30)) = true := by rfl)
    (hline : (apos.endLine == cpos.line) = true := by rfl) (hs : starEach (e :: es) X.env = (false, eval e X.env) :: starEach es X.env := by rfl) (hplain : (backTo cpos (starEach es X.env)).any (·.1) = false := by rfl) :
    EZ C X (.Call (.Attribute o "update" apos) (e :: es) [] cpos) (zUpdD zo za) := by
  obtain ⟨t, o1, o2⟩ := ho.ex
  obtain ⟨u, a1, a2⟩ := ha.ex
  refine ⟨_, pe_bm PySem.F.plainAttrs_dict PySem.F.slot_dict_update PySem.F.type_dict_update mt_updD o1 a1 hbase hfew hline hs hplain, fun S A σ H Γ Δ P Q hs hc hz k => o2 S A σ H Γ Δ _ _ hs hc hz fun v d A1 H1 Δ1 e1 c1 r1 p => ?_⟩
  obtain ⟨⟨n, l, rfl, hd⟩, p⟩ := p
  cases r1 with
  | cell g =>
    rename_i pa
    obtain ⟨xs, g1, g2⟩ := c1.dct_ g hd
    refine ⟨.inr (.inr (.inl ⟨rfl, .inl ⟨_, g1⟩⟩)), a2 S A1 σ H1 Γ Δ1 _ _ (hs.ext e1) c1 p fun vs as A2 H2 Δ2 e2 c2 r2 p2 => ?_⟩
    obtain ⟨n', l', more, y, hn, hd', rfl, hm, hne, hl, p2⟩ := p2
    cases hn
    obtain ⟨v, rfl, rv⟩ := one_rep r2
    have g' : A2[n]? = some pa := by
      obtain ⟨B, hB, _⟩ := e2.pre
      rw [hB, List.getElem?_append_left (List.getElem?_eq_some_iff.mp g).1]
      exact g
    obtain ⟨vs', g3, g4⟩ := c2.dct_ g' hd'
    obtain ⟨b, ws, rfl, g5, g6⟩ := Rep.dctOf c2 rv hm
    have hpa : pa ∈ A2 := List.mem_of_getElem? g'
    have hab : pa ≠ b := by
      intro e
      subst e
      cases rv with
      | dct _ hA _ _ _ => exact hA hpa
      | cell gm =>
        rename_i m
        have : m = n := by
          have h1 := (List.getElem?_eq_some_iff.mp gm).1
          have h2 := (List.getElem?_eq_some_iff.mp g').1
          exact (List.getElem?_inj h1 c2.nd).mp (gm.trans g'.symm)
        exact hne m rfl this
      | tup hA _ _ _ => cases hm
      | lst hA _ _ _ => cases hm
      | ins hA _ _ _ _ => cases hm
      | cls => cases hm
      | scr => cases hm
      | ktup => cases hm
    have e4 : Ext A2 H2 A2 (upd H2 pa (.dK (mergeK vs' ws))) := Ext.write hpa (by rw [g3]; simp)
    have q := c2.putO (o := dctO (mrgI l' more)) g' (RepP.cellAt upd_same (RepP.mono e4.mo (RepP.merge g6 g4)))
    exact ⟨pa, b, vs', ws, rfl, rfl, g3, g5, hab, by have h1 := g4.length; have h2 := g6.length; have := sz100 (n := vs'.length + ws.length) (by omega); exact this, k _ _ A2 _ _ ((e1.trans e2).trans q.2) q.1 .non p2⟩
end
end Z

/-! Z27: loops over the values of a dict that is data; lent calls that give a dict; results frozen, all other new cells dropped. -/
namespace Z
open PySem PySem.Spec PyProof.Rows L2
/-- the dict at q, locked or not: the same but for that -/
structure Lk (q : Addr) (kvs : List (Key × V)) (H H' : Hp) : Prop where
  ne : ∀ b, b ≠ q → H' b = H b
  old : Rd H q (.dK kvs)
  new : Rd H' q (.dK kvs)
section
variable {K : PySem.W.Frag} {C : CI} {S A : List Addr} {H H' : Hp} {q : Addr} {kvs : List (Key × V)}
theorem Lk.symm (l : Lk q kvs H H') : Lk q kvs H' H := ⟨fun b h => (l.ne b h).symm, l.new, l.old⟩
theorem Lk.off (l : Lk q kvs H H') {a : Addr} {o : HO} (h : H a = some o) (h1 : ∀ k, o ≠ .dK k) (h2 : ∀ od k, o ≠ .frz od (.dK k)) : H' a = some o := by
  have : a ≠ q := fun e => by
    subst e
    rcases l.old with g | ⟨od, g⟩
    · rw [h] at g; cases g; exact h1 _ rfl
    · rw [h] at g; cases g; exact h2 _ _ rfl
  rw [l.ne a this]; exact h
theorem Lk.rd (l : Lk q kvs H H') {a : Addr} {k : List (Key × V)} (h : Rd H a (.dK k)) : Rd H' a (.dK k) := by
  by_cases e : a = q
  · subst e
    have : k = kvs := by
      rcases h with h | ⟨o, h⟩
      · rcases l.old with g | ⟨o', g⟩
        · rw [h] at g; cases g; rfl
        · rw [h] at g; cases g
      · rcases l.old with g | ⟨o', g⟩
        · rw [h] at g; cases g
        · rw [h] at g; cases g; rfl
    rw [this]; exact l.new
  · rcases h with h | ⟨o, h⟩
    · exact .inl (by rw [l.ne a e]; exact h)
    · exact .inr ⟨o, by rw [l.ne a e]; exact h⟩
mutual
theorem Rep.lk (l : Lk q kvs H H') : ∀ (d : D) {v : V}, Rep K C S A H v d → Rep K C S A H' v d
  | .non, _, h => by cases h; exact .non
  | .bl b, _, h => by cases h; exact .bl b
  | .int i, _, h => by cases h; exact .int i
  | .str x, _, h => by cases h; exact .str x
  | .ty n, _, h => by cases h; exact .ty n
  | .cls c, _, h => by cases h; exact .cls c
  | .ktup ns, _, h => by cases h with | ktup h => exact .ktup h
  | .tup ds, _, h => by cases h with | tup h hA hS r => exact .tup (l.off h (fun _ e => nomatch e) (fun _ _ e => nomatch e)) hA hS (RepL.lk l ds r)
  | .lst ds, _, h => by cases h with | lst h hA hS r => exact .lst (l.off h (fun _ e => nomatch e) (fun _ _ e => nomatch e)) hA hS (RepL.lk l ds r)
  | .ins c ds, _, h => by cases h with | ins h hA hS hl r => exact .ins (l.off h (fun _ e => nomatch e) (fun _ _ e => nomatch e)) hA hS hl (RepL.lk l ds r)
  | .dct ks ds, _, h => by cases h with | dct h hA hS hl r => exact .dct (l.rd h) hA hS hl (RepL.lk l ds r)
  | .cell n, _, h => by cases h with | cell h => exact .cell h
  | .scr ns, _, h => by
    cases h with
    | scr h =>
      rcases h with ⟨⟨o, h⟩, hA, hS⟩ | h
      · exact .scr (.inl ⟨⟨o, l.off h (fun _ e => nomatch e) (fun _ _ e => nomatch e)⟩, hA, hS⟩)
      · exact .scr (.inr h)
theorem RepL.lk (l : Lk q kvs H H') : ∀ (ds : List D) {vs : List V}, RepL K C S A H vs ds → RepL K C S A H' vs ds
  | [], _, h => by cases h; exact .nil
  | d :: ds, _, h => by cases h with | cons h r => exact .cons (Rep.lk l d h) (RepL.lk l ds r)
end
theorem Cells.lk {Δ : Store} (l : Lk q kvs H H') (hq : q ∉ A) (c : Cells K C S A H Δ) : Cells K C S A H' Δ := by
  refine ⟨c.len, c.nd, c.dj, fun a ha h => ?_, fun n a o h1 h2 => ?_⟩
  · by_cases e : a = q
    · subst e
      rcases l.new with g | ⟨od, g⟩ <;> rw [h] at g <;> cases g
    · rw [l.ne a e] at h
      exact c.as a ha h
  · have e : a ≠ q := fun e => hq (by rw [← e]; exact List.mem_of_getElem? h1)
    have g := c.at_ n a o h1 h2
    cases o with
    | lst ds => obtain ⟨xs, g1, g2⟩ := g; exact ⟨xs, by rw [l.ne a e]; exact g1, RepL.lk l ds g2⟩
    | ins k fs => obtain ⟨dx, xs, g1, g2, g3⟩ := g; exact ⟨dx, xs, by rw [l.ne a e]; exact g1, g2, RepL.lk l _ g3⟩
    | dct ks ds => obtain ⟨xs, g1, g2, g3⟩ := g; exact ⟨xs, by rw [l.ne a e]; exact g1, g2, RepL.lk l ds g3⟩
theorem Slots.lk {σ : L2.St} {Γ : Env} (l : Lk q kvs H H') (s : Slots K C S A H σ Γ) : Slots K C S A H' σ Γ := ⟨s.len, fun i d h => by
  obtain ⟨v, h1, h2⟩ := s.at_ i d h
  exact ⟨v, h1, Rep.lk l d h2⟩⟩
/-- what holds behind the lock's end -/
theorem Ext.unlk {A' : List Addr} {Hl H2 : Hp} (l : Lk q kvs H Hl) (l2 : Lk q kvs H2 H') (hq : q ∉ A) (hH : H q = H' q) (e : Ext A Hl A' H2) : Ext A H A' H' := by
  have nn : Hl q ≠ none := by rcases l.new with g | ⟨od, g⟩ <;> rw [g] <;> simp
  have nn2 : H' q ≠ none := by rcases l2.new with g | ⟨od, g⟩ <;> rw [g] <;> simp
  obtain ⟨B, hB, nB⟩ := e.pre
  refine ⟨⟨B, hB, fun b hb => ?_⟩, fun a o ha h => ?_, fun a h => ?_⟩
  · have hb2 : b ≠ q := fun z => by subst z; exact nn (nB _ hb)
    rw [← l.ne b hb2]
    exact nB b hb
  · by_cases z : a = q
    · subst z; rw [← hH]; exact h
    · rw [l2.ne a z]
      exact e.keep a o ha (by rw [l.ne a z]; exact h)
  · by_cases z : a = q
    · subst z; exact absurd h nn2
    · rw [l2.ne a z] at h
      have := e.trk a h
      rw [l.ne a z] at this
      exact this
end
/-- a for over the values of the dict in the slot i -/
def zForV (i : Nat) (g : ZG) (zs : ZS) : ZS := fun Z Γ Δ => ∃ ks ds, Γ[i]? = some (some (.dct ks ds)) ∧ loopZ (fun x Z' Γ' Δ' => g x Γ' Δ' fun Γ2 Δ2 => zs Z' Γ2 Δ2) Z ds Γ Δ
section
variable {X : Cx}
def tOrS (t1 t2 : TS) : TS := fun D σ H => t1 D σ H ∨ t2 D σ H
theorem ps_or {st : Stmt} {t1 t2 : TS} (h1 : PS X st t1) (h2 : PS X st t2) : PS X st (tOrS t1 t2) :=
  ⟨fun pins s σ H D I h => h.elim (fun h => h1.run pins s σ H D I h) fun h => h2.run pins s σ H D I h⟩
end
section
variable {C : CI} {X : Cx} {pos : Pos}
theorem forV_core {q : Addr} {od : Obj} {g : TG} {zg : ZG} {tb : TS} {zb : ZS} {tg : Expr} (hg : GZ C X tg g zg) (b2 : RefS X.K C tb zb) {S A : List Addr} {σ : L2.St} {H : Hp} {Γ : Env} {Δ : Store} {Z : ZEnds} {N : Ends} {ks : List Int} {xs : List V} {ds : List D}
    (hs : Slots X.K C S A H σ Γ) (hc : Cells X.K C S A H Δ) (hq : q ∉ A) (hS : q ∉ S) (hl : H q = some (.frz od (.dK ((ks.map Sum.inl).zip xs)))) (hx : xs.length = ks.length) (r : RepL X.K C S A H xs ds) (p : loopZ (fun x Z' Γ' Δ' => zg x Γ' Δ' fun Γ2 Δ2 => zb Z' Γ2 Δ2) Z ds Γ Δ) (k : EndsOk X.K C S A H Z N) :
    ∃ W : Nat → Nat → L2.St → Hp → Prop, (∃ m, W 0 m σ H) ∧ ∀ i m σ H, W i m σ H →
      ((Itd q od ((ks.map Sum.inl).zip xs)).stop i H ∧ N.nx σ H) ∨ ((Itd q od ((ks.map Sum.inl).zip xs)).go i H ∧ ∃ M : L2.St → Hp → Prop, (∀ σ' H', M σ' H' → ∃ m', m' < m ∧ W (i + 1) m' σ' H') ∧ ∀ x H', (Itd q od ((ks.map Sum.inl).zip xs)).yld i H x H' → g x σ H' fun σ2 H2 => tb { N with nx := M, ct := M, bk := N.nx } σ2 H2) := by
  have len : ((ks.map Sum.inl : List Key).zip xs).length = ds.length := by rw [List.length_zip, List.length_map, ← r.length]; omega
  refine for_it walk_values (fun i σ2 H2 => ∃ A2 Γ2 Δ2, Ext A H A2 H2 ∧ Slots X.K C S A2 H2 σ2 Γ2 ∧ Cells X.K C S A2 H2 Δ2 ∧ loopZ (fun x Z' Γ' Δ' => zg x Γ' Δ' fun Γ2 Δ2 => zb Z' Γ2 Δ2) Z (ds.drop i) Γ2 Δ2)
    ⟨A, Γ, Δ, Ext.refl _ _, hs, hc, p⟩ (fun i σ2 H2 _ ⟨A2, Γ2, Δ2, e2, _, _, _⟩ => e2.keep q _ hq hl) ?_ ?_
  · rintro i x σ2 H2 H3 hi ⟨A2, Γ2, Δ2, e2, s2, c2, q2⟩ ⟨rfl, k', hk⟩
    have hxi : xs[i]? = some x := by
      rw [List.getElem?_zip_eq_some] at hk
      exact hk.2
    obtain ⟨d, d1, d2⟩ := (r.ext e2).getV hxi
    have hd : ds.drop i = d :: ds.drop (i + 1) := by
      obtain ⟨hl, q⟩ := List.getElem?_eq_some_iff.mp d1
      rw [← q]
      exact List.drop_eq_getElem_cons hl
    rw [hd] at q2
    refine hg.ref S A2 σ2 H3 Γ2 Δ2 x d _ _ s2 c2 d2 q2 fun σ4 A4 H4 Γ4 Δ4 e4 s4 c4 p4 => ?_
    have e14 := e2.trans e4
    refine b2 S A4 σ4 H4 Γ4 Δ4 _ _ s4 c4 p4 ⟨?_, ?_, ?_, ?_⟩
    · exact fun σ5 A5 H5 Γ5 Δ5 e5 s5 c5 p5 => ⟨A5, Γ5, Δ5, e14.trans e5, s5, c5, p5⟩
    · exact k.nx.ext e14
    · exact fun σ5 A5 H5 Γ5 Δ5 e5 s5 c5 p5 => ⟨A5, Γ5, Δ5, e14.trans e5, s5, c5, p5⟩
    · exact fun v d A5 H5 Δ5 e5 c5 r5 p5 => k.rt v d A5 H5 Δ5 (e14.trans e5) c5 r5 p5
  · rintro σ2 H2 ⟨A2, Γ2, Δ2, e2, s2, c2, q2⟩
    rw [len, List.drop_length] at q2
    exact k.nx σ2 A2 H2 Γ2 Δ2 e2 s2 c2 q2
theorem sz_forV (i : Nat) {tg : Expr} {x : Str} {p apos cpos : Pos} {body : List Stmt} {g : TG} {zg : ZG} {zb : ZS} (hg : GZ C X tg g zg) (hb : SZs C X body zb) (hN : X.N[i]? = some x := by rfl) (hv : Vis X.env.scope x := by first | exact Or.inl rfl | exact Or.inr (Or.inl rfl) | exact Or.inr (Or.inr rfl)) (hd : (x == ("__debug__" : Str)) = false := by decide)
    (hcd : (x == ("__classdict__" : Str)) = false := by decide) (hp : PassesOwn (model X.prog X.w) X.A X.env X.xe := by exact PassesOwn.never) (hc : X.calm = true := by rfl)
    (hs : ∀ x', foldedSetIterable (.Call (.Attribute (.Name x p) "values" apos) [] [] cpos) X.env x' = pure x' := by intro _; rfl) (hbase : attributeBase (.Name x p) "values" X.env (eval (.Name x p) X.env) = eval (.Name x p) X.env := by rfl) (hline : (apos.endLine == cpos.line) = true := by rfl) :
    SZ C X (.For tg (.Call (.Attribute (.Name x p) "values" apos) [] [] cpos) body [] pos) (zForV i zg zb) := by
  obtain ⟨tb, b1, b2⟩ := hb.ex
  have t := ps_for (pos := pos) hp hc (pi_values (pe_var hN hv hd hcd) hbase hline) hg.pg b1 hs
  refine ⟨_, ps_or (ps_lock t) t, fun S A σ H Γ Δ Z N hs hc hz k => ?_⟩
  obtain ⟨ks, ds, e, pz⟩ := hz
  obtain ⟨v, s1, r⟩ := hs.at_ i _ e
  cases r with
  | dct h hA hS hl r =>
    rename_i a xs
    rcases h with h | ⟨od, h⟩
    · refine .inl ⟨a, _, h, trivial, fun od => ?_⟩
      have l : Lk a ((ks.map Sum.inl).zip xs) H (upd H a (.frz od (.dK ((ks.map Sum.inl).zip xs)))) := ⟨fun b hb => upd_ne hb, .inl h, .inr ⟨od, upd_same⟩⟩
      refine ⟨_, s1, a, od, _, rfl, upd_same, ?_⟩
      have fin : ∀ A2 H2, Ext A (upd H a (.frz od (.dK ((ks.map Sum.inl).zip xs)))) A2 H2 → H2 a = some (.frz od (.dK ((ks.map Sum.inl).zip xs))) ∧ Lk a ((ks.map Sum.inl).zip xs) H2 (upd H2 a (.dK ((ks.map Sum.inl).zip xs))) ∧ a ∉ A2 ∧ Ext A H A2 (upd H2 a (.dK ((ks.map Sum.inl).zip xs))) := fun A2 H2 e2 => by
        have h2 := e2.keep a _ hA upd_same
        have l2 : Lk a ((ks.map Sum.inl).zip xs) H2 (upd H2 a (.dK ((ks.map Sum.inl).zip xs))) := ⟨fun b hb => upd_ne hb, .inr ⟨od, h2⟩, .inl upd_same⟩
        have n2 : a ∉ A2 := by
          obtain ⟨B, hB, nB⟩ := e2.pre
          rw [hB]
          intro hm
          rcases List.mem_append.mp hm with hm | hm
          · exact hA hm
          · have := nB a hm
            rw [upd_same] at this
            cases this
        exact ⟨h2, l2, n2, Ext.unlk l l2 hA (by rw [upd_same]; exact h) e2⟩
      refine forV_core hg b2 (Slots.lk l hs) (Cells.lk l hA hc) hA hS upd_same hl (RepL.lk l ds r) pz ⟨?_, ?_, ?_, ?_⟩
      · exact fun σ2 A2 H2 Γ2 Δ2 e2 s2 c2 p2 => let ⟨f1, f2, f3, f4⟩ := fin A2 H2 e2; ⟨f1, k.nx σ2 A2 _ Γ2 Δ2 f4 (Slots.lk f2 s2) (Cells.lk f2 f3 c2) p2⟩
      · exact fun σ2 A2 H2 Γ2 Δ2 e2 s2 c2 p2 => let ⟨f1, f2, f3, f4⟩ := fin A2 H2 e2; ⟨f1, k.bk σ2 A2 _ Γ2 Δ2 f4 (Slots.lk f2 s2) (Cells.lk f2 f3 c2) p2⟩
      · exact fun σ2 A2 H2 Γ2 Δ2 e2 s2 c2 p2 => let ⟨f1, f2, f3, f4⟩ := fin A2 H2 e2; ⟨f1, k.ct σ2 A2 _ Γ2 Δ2 f4 (Slots.lk f2 s2) (Cells.lk f2 f3 c2) p2⟩
      · exact fun v d A2 H2 Δ2 e2 c2 r2 p2 => let ⟨f1, f2, f3, f4⟩ := fin A2 H2 e2; ⟨f1, k.rt v d A2 _ Δ2 f4 (Cells.lk f2 f3 c2) (Rep.lk f2 d r2) p2⟩
    · refine .inr ⟨_, s1, a, od, _, rfl, h, ?_⟩
      exact forV_core hg b2 hs hc hA hS h hl r pz k
end
/-! ### lent calls that give a dict -/
section
variable {K : PySem.W.Frag} {C : CI} {S A : List Addr} {H : Hp} {Δ : Store}
theorem Cells.adoptD (c1 : Cells K C S A H Δ) {A' : List Addr} {H' : Hp} {Δ' : Store} (e2 : Ext [] H A' H') (c2 : Cells K C S A' H' Δ') {m : Nat} {a : Addr} {l : List (Int × D)} (h1 : A'[m]? = some a) (h2 : dctOf Δ' (.cell m) = some l) (hb : bareTs (l.map (·.2)) = true) :
    Rep K C S A H' (.ref a) (dctP l) := by
  have kp : ∀ b o, H b = some o → H' b = some o := fun b o h => e2.keep b o (fun q => nomatch q) h
  have ha : a ∈ A' := List.mem_of_getElem? h1
  obtain ⟨B, hB, nB⟩ := e2.pre
  have hn : H a = none := by
    rw [hB, List.nil_append] at ha
    exact nB a ha
  obtain ⟨vs, g1, g2⟩ := c2.dct_ h1 h2
  have k1 := c1.kept kp
  have nt : ∀ b ys, H' b = some (.tup ys) → b ∉ A := fun b ys h => k1.no_tup h
  obtain ⟨z1, z2⟩ := RepP.zip g2
  refine .dct (xs := vs.map (·.2)) (.inl (by rw [← z1]; exact g1)) (c1.fresh hn) (c2.dj a ha) ?_ (RepL.re nt _ hb z2)
  rw [List.length_map, List.length_map, g2.length]
end
def lentD (W : ZRC) : ZRC := fun ds Δ P => Z.belowL 0 (ds.map (Z.thaw Δ)) = true ∧ W (ds.map (Z.thaw Δ)) [] fun d Δ' => ∃ m l, d = .cell m ∧ dctOf Δ' (.cell m) = some l ∧ bareTs (l.map (·.2)) = true ∧ P (dctP l) Δ
def zCallBD (W : ZRC) (za : ZA) : ZE := fun Γ Δ P => za Γ Δ fun ds Δ1 => lentD W ds Δ1 P
section
variable {C : CI} {X : Cx} {e : Expr} {es : List Expr} {za : ZA} {pos p : Pos} {x : Str} {k : Nat} {f : Addr} {fd : FuncData} {ps : List Str} {W : ZRC}
theorem ref_callBD {K : PySem.W.Frag} {ta : TA} {E : XK} (ha : RefA K C ta za) : RefE K C (tCall (SpZ K C W) [] E ta) (zCallBD W za) := fun S A σ H Γ Δ P Q hs hc hz k =>
  ha S A σ H Γ Δ _ _ hs hc hz fun vs ds A1 H1 Δ1 e1 c1 r1 p => by
    obtain ⟨hb, p⟩ := p
    refine ⟨S, [], [], ds.map (Z.thaw Δ1), _, ?_, ⟨rfl, .nil, (fun a ha => nomatch ha), c1.as, (fun n a o h => nomatch h)⟩, p, fun v d A' H' Δ' e2 c2 r2 p2 => ?_⟩
    · rw [List.append_nil]; exact RepL.thw c1 ds hb r1
    · obtain ⟨m, l, rfl, h2, hb2, p2⟩ := p2
      cases r2 with
      | cell h1 =>
        rename_i a
        have kp : ∀ a o, H1 a = some o → H' a = some o := fun a o h => e2.keep a o (fun q => nomatch q) h
        exact k _ _ A1 H' Δ1 (e1.trans (Ext.kept kp)) (c1.kept kp) (c1.adoptD e2 c2 h1 h2 hb2) p2
theorem ez_callbD (F : FnOk X.prog X.w X.K X.mg X.base CX0 k f fd ps (SpZ X.K C W)) (hr : Room k X.A) (hm : X.mg x = some (.ref f)) (hk : PySem.W.keepIn X.K (.ref f) = true) (hb : Binds X.K fd ps [])
    (ha : AZ C X (e :: es) za) (hg : Gl X x := by rfl) (hdb : (x == ("__debug__" : Str)) = false := by decide) (he : starEach (e :: es) X.env = (false, eval e X.env) :: starEach es X.env := by rfl) (hpl : (backTo pos (starEach es X.env)).any (·.1) = false := by rfl) :
    EZ C X (.Call (.Name x p) (e :: es) [] pos) (zCallBD W za) := by
  obtain ⟨t, a1, a2⟩ := ha.ex
  exact ⟨_, pe_call F hr hg hm hk hb .nil pass0 a1 hdb he hpl, ref_callBD a2⟩
end
/-! ### a new list that the caller never changes; all other new cells are dropped -/
section
variable {K : PySem.W.Frag} {C : CI} {S A B : List Addr} {H H0 : Hp} {Δ Δ' : Store}
theorem Cells.freezeA {m : Nat} {x : Addr} {es : List D} (c1 : Cells K C S A H0 Δ) (hc : Cells K C S (A ++ B) H Δ') (hm : A.length ≤ m) (hx : (A ++ B)[m]? = some x) (he : Δ'[m]? = some (.lst es))
    (hw : ∀ (n : Nat) (o : O), n < A.length → Δ'[n]? = some o → Δ[n]? = some o ∨ blwO A.length o = true) (hb : belowL A.length es = true) : Cells K C S A H (Δ'.take A.length) ∧ Rep K C S A H (.ref x) (.lst es) := by
  have hl : A.length ≤ Δ'.length := by rw [← hc.len, List.length_append]; omega
  refine ⟨⟨by rw [List.length_take]; omega, c1.nd, c1.dj, hc.as, fun n a o h1 h2 => ?_⟩, ?_⟩
  · have hn : n < A.length := (List.getElem?_eq_some_iff.mp h1).1
    rw [List.getElem?_take, if_pos hn] at h2
    have q := hc.at_ n a o (by rw [List.getElem?_append_left hn]; exact h1) h2
    have hb2 : blwO A.length o = true := by
      rcases hw n o hn h2 with h | h
      · have q0 := c1.at_ n a o h1 h
        cases o with
        | lst ds =>
          obtain ⟨_, _, g3⟩ := q0
          exact RepL.blw ds g3
        | ins c fs =>
          obtain ⟨_, _, _, _, g4⟩ := q0
          exact RepL.blw _ g4
        | dct ks ds =>
          obtain ⟨_, _, _, g4⟩ := q0
          exact RepL.blw _ g4
      · exact h
    cases o with
    | lst ds =>
      obtain ⟨xs, g1, g2⟩ := q
      exact ⟨xs, g1, RepL.dropB B A ds hb2 g2⟩
    | ins c fs =>
      obtain ⟨dx, xs, g1, g2, g3⟩ := q
      exact ⟨dx, xs, g1, g2, RepL.dropB B A _ hb2 g3⟩
    | dct ks ds =>
      obtain ⟨xs, g1, g2, g3⟩ := q
      exact ⟨xs, g1, g2, RepL.dropB B A _ hb2 g3⟩
  · have q := hc.at_ m x (.lst es) hx he
    obtain ⟨xs, g1, g2⟩ := q
    rw [List.getElem?_append_right hm] at hx
    have hxB : x ∈ B := List.mem_of_getElem? hx
    have hxA : x ∉ A := fun h => (List.nodup_append.mp hc.nd).2.2 x h x hxB rfl
    exact .lst g1 hxA (hc.dj x (List.mem_append_right _ hxB)) (RepL.dropB B A es hb g2)
end
def frzA (W : ZRC) : ZRC := fun ds Δ P => W ds Δ fun d Δ' => ∃ m es, d = .cell m ∧ Δ.length ≤ m ∧ Δ'[m]? = some (.lst es) ∧ (∀ (n : Nat) (o : O), n < Δ.length → Δ'[n]? = some o → Δ[n]? = some o ∨ blwO Δ.length o = true) ∧ belowL Δ.length es = true ∧ P (.lst es) (Δ'.take Δ.length)
section
variable {P : Program} {w : World} {K : PySem.W.Frag} {mg : Str → Option Value} {base : Heap} {C : CI} {k : Nat} {f : Addr} {fd : FuncData} {ps : List Str} {W : ZRC}
theorem sp_frzA {vs : List V} {H : Hp} {Q : VK} {E : XK} (h : SpZ K C (frzA W) vs H Q E) : SpZ K C W vs H Q E := by
  obtain ⟨S, A, Δ, ds, P, r, hc, hw, kk⟩ := h
  refine ⟨S, A, Δ, ds, _, r, hc, hw, fun v d A' H' Δ' e c r' q => ?_⟩
  obtain ⟨m, es, rfl, hm, he, hch, hb, p⟩ := q
  cases r' with
  | cell g =>
    rename_i x
    obtain ⟨B, hB, nB⟩ := e.pre
    subst hB
    obtain ⟨c5, r5⟩ := hc.freezeA c (by rw [hc.len]; exact hm) g he (by rw [hc.len]; exact hch) (by rw [hc.len]; exact hb)
    rw [hc.len] at c5
    exact kk _ _ A H' _ ⟨⟨[], by simp, by simp⟩, fun a o h1 h2 => e.keep a o h1 h2, e.trk⟩ c5 r5 p
theorem fn_frzA (F : FnOk P w K mg base CX0 k f fd ps (SpZ K C W)) : FnOk P w K mg base CX0 k f fd ps (SpZ K C (frzA W)) := F.imp fun _ _ _ _ h => sp_frzA h
end
end Z

/-! Z28: a module's constant that is a tuple of ints; zip of two tuples. -/
namespace Z
open PySem PySem.Spec PyProof.Rows L2
/-- the written part has the tuple of these ints at a -/
def KTup (K : PySem.W.Frag) (a : Addr) (ns : List Int) : Prop := ∃ (o : Obj) (its : Array Value) (n : Nat), K.lookup a = some o ∧ o.cls = .type "tuple" ∧ o.data = .seq its n ∧ its.size ≤ sizeLine ∧ Vals (ns.map V.int) its.toList
section
variable {C : CI} {X : Cx}
theorem ez_ktup {x : Str} {ns : List Int} {pos : Pos} (h : ∃ a, X.mg x = some (.ref a) ∧ KTup X.K a ns) (hg : Gl X x := by rfl) (hd : (x == ("__debug__" : Str)) = false := by decide) : EZ C X (.Name x pos) (zC (.ktup ns)) := by
  obtain ⟨a, hm, h⟩ := h
  exact ⟨_, pe_glob (v := .ref a) hg hm rfl hd, ref_c fun _ _ _ => .ktup h⟩
theorem ktup2 {K : PySem.W.Frag} {a : Addr} {i j : Int} {s t : Tok} {od : Option Addr} {n : Nat} {sl : Array (Option Value)} (h : K.lookup a = some ⟨.type "tuple", od, .seq #[.int i s, .int j t] n, sl⟩) : KTup K a [i, j] :=
  ⟨_, _, n, h, rfl, rfl, by show 2 ≤ sizeLine; decide, .cons ⟨s, rfl⟩ (.cons ⟨t, rfl⟩ .nil)⟩
/-! ### zip of two tuples -/
theorem walk_zipT {K : PySem.W.Frag} {a b : Addr} {xs ys : List V} {n : Nat} (hn : n = min xs.length ys.length) : Walk (RZ.ItzT K a b) n (fun H => SqT K H a xs ∧ SqT K H b ys) (YPair (fun i => xs[i]?) (fun i => ys[i]?)) := by
  subst hn
  refine ⟨fun i _ hi q => ?_, fun _ q => ⟨xs, ys, q.1, q.2, by omega⟩, fun i H v H' _ q y => ?_⟩
  · have h1 : i < xs.length := by omega
    have h2 : i < ys.length := by omega
    exact ⟨xs, ys, xs[i], ys[i], q.1, q.2, by simp [h1], by simp [h2]⟩
  · obtain ⟨T, x, z, h1, h2, h3, h4, h5⟩ := y
    exact ⟨T, x, z, h1, h2, h3, h4 xs q.1, h5 ys q.2⟩
def ziZipT (za : ZA) : ZI := fun Γ Δ P => za Γ Δ fun ds Δ1 => ∃ xs ys, ds = [.tup xs, .tup ys] ∧ P ((xs.zip ys).map fun q => .tup [q.1, q.2]) Δ1
theorem iz_zipT {p pos : Pos} {e e2 : Expr} {za : ZA} {tpos : Pos} {elts : List Expr} {kk : Nat} (ha : AZ C X [e, e2] za) (hm : X.mg "zip" = none) (hg : Gl X "zip" := by rfl)
    (hs : starEach [e, e2] X.env = (false, eval e X.env) :: starEach [e2] X.env := by rfl) (hpl : (backTo pos (starEach [e2] X.env)).any (·.1) = false := by rfl) : IZ C X (.Tuple elts kk tpos) (.Call (.Name "zip" p) [e, e2] [] pos) (ziZipT za) := by
  obtain ⟨t, a1, a2⟩ := ha.ex
  refine ⟨_, RZ.pi_zipA hg hm a1 hs hpl, fun S A σ H Γ Δ P R hs hc hz k => a2 S A σ H Γ Δ _ _ hs hc hz fun vs ds A1 H1 Δ1 e1 c1 r1 q => ?_⟩
  obtain ⟨xs, ys, rfl, q⟩ := q
  obtain ⟨v, v', rfl, rv, rv'⟩ := two_rep r1
  cases rv with
  | tup g1 g2 g3 g4 =>
    cases rv' with
    | tup h1 h2 h3 h4 =>
      rename_i a us b ws
      refine ⟨a, b, us, ws, rfl, .inr ⟨SqT.of g1, SqT.of h1, ?_⟩⟩
      refine k (RZ.ItzT X.K a b) (min us.length ws.length) _ _ _ A1 H1 Δ1 e1 c1 q (by rw [List.length_map, List.length_zip, g4.length, h4.length]) (walk_zipT rfl) (fun S2 A2 H2 m => ⟨SqT.of (m.keep _ _ g2 g3 g1), SqT.of (m.keep _ _ h2 h3 h1)⟩) fun S2 A2 H2 Δ2 i x H3 hi m c2 y => ?_
      obtain ⟨T, y1, y2, rfl, nT, rfl, f1, f2⟩ := y
      obtain ⟨d1, q1, q2⟩ := (RepL.mono m _ g4).getV f1
      obtain ⟨d2, q3, q4⟩ := (RepL.mono m _ h4).getV f2
      refine ⟨.tup [d1, d2], ?_, fun b o h => by rw [upd_ne (ne_of_none h nT)]; exact h, .tup upd_same (c2.fresh nT) (c2.aside nT) (.cons (q2.ext (Ext.new nT)) (.cons (q4.ext (Ext.new nT)) .nil))⟩
      rw [List.getElem?_map, List.getElem?_zip_eq_some.mpr (show xs[i]? = some (d1, d2).1 ∧ ys[i]? = some (d1, d2).2 from ⟨q1, q3⟩)]
      rfl
end
end Z

/-! Z29: x or y where x is None or a tuple with items. -/
namespace Z
open PySem PySem.Spec PyProof.Rows L2
def zOrT (za zb : ZE) : ZE := fun Γ Δ P => za Γ Δ fun x Δ1 => (x = .non ∧ zb Γ Δ1 P) ∨ ∃ d ds, x = .tup (d :: ds) ∧ P (.tup (d :: ds)) Δ1
section
variable {C : CI} {X : Cx} {a b : Expr} {rest : List Expr} {za zb : ZE} {pos : Pos}
theorem ez_orT (ha : EZ C X a za) (hb : EZ C X (.BoolOp .Or (b :: rest) pos) zb) : EZ C X (.BoolOp .Or (a :: b :: rest) pos) (zOrT za zb) := by
  obtain ⟨t, a1, a2⟩ := ha.ex
  obtain ⟨u, b1, b2⟩ := hb.ex
  refine ⟨_, pe_orT a1 b1, fun S A σ H Γ Δ P Q hs hc hz k => a2 S A σ H Γ Δ _ _ hs hc hz fun x dx A1 H1 Δ1 e1 c1 r1 hz1 => ?_⟩
  rcases hz1 with ⟨rfl, p⟩ | ⟨d, ds, rfl, p⟩
  · cases r1
    exact ⟨false, rfl, iteF (b2 S A1 σ H1 Γ Δ1 P Q (hs.ext e1) c1 p fun v d A2 H2 Δ2 e2 c2 r2 p => k v d A2 H2 Δ2 (e1.trans e2) c2 r2 p)⟩
  · have r1' := r1
    cases r1 with
    | tup g1 g2 g3 g4 =>
      rename_i q xs
      refine ⟨true, ?_, iteT (k _ _ A1 H1 Δ1 e1 c1 r1' p)⟩
      refine .inr (.inl ⟨xs, SqT.of g1, ?_⟩)
      cases g4
      rfl
end
end Z

/-! Z30: dict(list of pairs) and sorted(dict), as cells. -/
namespace Z
open PySem PySem.Spec PyProof.Rows L2
def pairT (p : Int × D) : D := .tup [.int p.1, p.2]
def zDictPC : ZRC := fun ds Δ P => ∃ l : List (Int × D), ds = [.lst (l.map pairT)] ∧ P (.cell Δ.length) (Δ ++ [dctO (mrgI [] l)])
def zSortDC : ZRC := fun ds Δ P => ∃ (x : D) (l : List (Int × D)), ds = [x] ∧ dctOf Δ x = some l ∧ ∀ ys : List Int, ys.Perm (l.map (·.1)) → ys.Pairwise (· ≤ ·) → P (.cell Δ.length) (Δ ++ [.lst (ys.map D.int)])
theorem pairs_rep {K : PySem.W.Frag} {C : CI} {S A : List Addr} {H : Hp} : ∀ {l : List (Int × D)} {xs : List V}, RepL K C S A H xs (l.map pairT) → ∃ (ps : List Addr) (kvs : List (Key × V)), xs = ps.map V.ref ∧ Paired (fun p kv => SqT K H p [kV kv.1, kv.2]) ps kvs ∧ RepP K C S A H kvs l
  | [], _, h => by cases h; exact ⟨[], [], rfl, .nil, .nil⟩
  | p :: l, _, h => by
    rw [List.map_cons] at h
    cases h with
    | cons h r =>
      obtain ⟨ps, kvs, rfl, q1, q2⟩ := pairs_rep r
      cases h with
      | tup g1 g2 g3 g4 =>
        rename_i a ys
        obtain ⟨v, v', rfl, rv, rv'⟩ := two_rep g4
        cases rv
        exact ⟨a :: ps, (Sum.inl p.1, v') :: kvs, rfl, .cons (SqT.of g1) q1, .cons rv' q2⟩
section
variable {C : CI} {X : Cx}
theorem cz_dictPC (hc : X.calm = true := by rfl) : CallZ C X (.type "dict") zDictPC := ⟨_, call_dictP hc, fun S A H Δ xs ds P Q hc r hz k => by
  obtain ⟨l, rfl, q⟩ := hz
  obtain ⟨v, rfl, rv⟩ := one_rep r
  cases rv with
  | lst g1 g2 g3 g4 =>
    rename_i a ys
    obtain ⟨ps, kvs, rfl, q1, q2⟩ := pairs_rep g4
    refine ⟨a, ps, kvs, rfl, SqL.of g1, q1, fun p hp => ?_⟩
    have e : Ext A H (A ++ [p]) (upd H p (.dK (mergeK [] kvs))) := Ext.newCell hp
    refine k _ _ (A ++ [p]) _ _ e (hc.newO (o := dctO (mrgI [] l)) hp (RepP.cellAt upd_same (RepP.mono e.mo (RepP.merge q2 .nil)))) (.cell ?_) q
    rw [← hc.len, List.getElem?_append_right (Nat.le_refl _), Nat.sub_self]
    rfl⟩
theorem cz_sortDC (hc : X.calm = true := by rfl) : CallZ C X (.builtin "sorted") zSortDC := ⟨_, cr_sortDI hc, fun S A H Δ xs ds P Q hc r hz k => by
  obtain ⟨x, l, rfl, hd, q⟩ := hz
  obtain ⟨v, rfl, rv⟩ := one_rep r
  obtain ⟨pa, vs, rfl, g1, g2⟩ := Rep.dctOf hc rv hd
  refine ⟨pa, vs, l.map (·.1), rfl, g1, g2.keys, fun ys p h1 h2 hp => ?_⟩
  refine k _ _ (A ++ [p]) _ _ (Ext.newCell hp) (hc.newCell hp (repL_ints ys)) (.cell ?_) (q ys h1 h2)
  rw [← hc.len, List.getElem?_append_right (Nat.le_refl _), Nat.sub_self]
  rfl⟩
end
end Z

/-! Z31: the truth of a list or a tuple. -/
namespace Z
open PySem PySem.Spec PyProof.Rows L2
def zTru (z : ZE) : ZT := fun Γ Δ P => z Γ Δ fun d Δ1 => ∃ ds, seqD Δ1 d = some ds ∧ P (!ds.isEmpty) Δ1
theorem tz_tru {C : CI} {X : Cx} {e : Expr} {z : ZE} (h : EZ C X e z) (he : ∀ whole, isTrue e X.env whole = (do let v ← whole; standAt e.pos; holding [v] (truthy v)) := by intro _; rfl) : TZ C X e (zTru z) := by
  obtain ⟨te, e1, e2⟩ := h.ex
  refine ⟨_, pt_truth e1 he, fun S A σ H Γ Δ P Q hs hc hz k => e2 S A σ H Γ Δ _ _ hs hc hz fun v d A1 H1 Δ1 ex c1 r1 hz1 => ?_⟩
  obtain ⟨ds, hd, p⟩ := hz1
  obtain ⟨pa, xs, rfl, hq, r⟩ := Rep.seq c1 r1 hd
  have el : xs.isEmpty = ds.isEmpty := by
    have := r.length
    cases xs <;> cases ds <;> simp_all
  refine ⟨!ds.isEmpty, ?_, k _ A1 H1 Δ1 ex c1 p⟩
  rw [← el]
  rcases hq with hq | hq
  · exact .inl ⟨xs, hq, rfl⟩
  · exact .inr (.inl ⟨xs, hq, rfl⟩)
end Z

/-! Z32: <<. -/
namespace Z
open PySem PySem.Spec PyProof.Rows L2
theorem oz_shl {C : CI} {X : Cx} : OpZ C X (binaryOp .LShift) (zI CPow fun i j => .int (i * 2 ^ j.toNat)) := ⟨_, op_shl, ref_I fun _ _ _ _ _ => .int _⟩
end Z

/-! Z33: lent calls whose new dict the caller changes. -/
namespace Z
open PySem PySem.Spec PyProof.Rows L2
section
variable {K : PySem.W.Frag} {C : CI} {S A : List Addr} {H : Hp} {Δ : Store}
theorem RepP.re {A A' : List Addr} {H : Hp} (c : ∀ a xs, H a = some (.tup xs) → a ∉ A) : ∀ {l : List (Int × D)} {vs : List (Key × V)}, bareTs (l.map (·.2)) = true → RepP K C S A' H vs l → RepP K C S A H vs l
  | [], _, _, h => by cases h; exact .nil
  | p :: l, _, hb, h => by
    have hb' : (bareT p.2 && bareTs (l.map (·.2))) = true := hb
    rw [Bool.and_eq_true] at hb'
    cases h with
    | cons h r => exact .cons (Rep.re c _ hb'.1 h) (RepP.re c hb'.2 r)
theorem Cells.adoptDC (c1 : Cells K C S A H Δ) {A' : List Addr} {H' : Hp} {Δ' : Store} (e2 : Ext [] H A' H') (c2 : Cells K C S A' H' Δ') {m : Nat} {a : Addr} {l : List (Int × D)} (h1 : A'[m]? = some a) (h2 : dctOf Δ' (.cell m) = some l) (hb : bareTs (l.map (·.2)) = true) :
    Ext A H (A ++ [a]) H' ∧ Cells K C S (A ++ [a]) H' (Δ ++ [dctO l]) := by
  have kp : ∀ b o, H b = some o → H' b = some o := fun b o h => e2.keep b o (fun q => nomatch q) h
  have ha : a ∈ A' := List.mem_of_getElem? h1
  obtain ⟨B, hB, nB⟩ := e2.pre
  have hn : H a = none := by
    rw [hB, List.nil_append] at ha
    exact nB a ha
  have haS : a ∉ S := c2.dj a ha
  have haA : a ∉ A := c1.fresh hn
  obtain ⟨vs, g1, g2⟩ := c2.dct_ h1 h2
  have k1 := c1.kept kp
  have nt2 : ∀ b ys, H' b = some (.tup ys) → b ∉ A ++ [a] := fun b ys h hm => by
    rcases List.mem_append.mp hm with hm | hm
    · exact k1.no_tup h hm
    · rw [List.mem_singleton] at hm
      subst hm
      rw [g1] at h
      cases h
  have ex : Ext A H (A ++ [a]) H' := ⟨⟨[a], rfl, fun b hb => by rw [List.mem_singleton] at hb; rw [hb]; exact hn⟩, fun b o _ h => kp b o h, e2.trk⟩
  refine ⟨ex, ⟨by rw [List.length_append, List.length_append, c1.len] <;> rfl, ?_, ?_, ?_, ?_⟩⟩
  · refine List.nodup_append.mpr ⟨c1.nd, by simp, fun b hb c hc => ?_⟩
    rw [List.mem_singleton] at hc
    subst hc
    exact fun q => haA (q ▸ hb)
  · intro b hb
    rcases List.mem_append.mp hb with hb | hb
    · exact c1.dj b hb
    · rw [List.mem_singleton] at hb
      subst hb
      exact haS
  · exact fun b hb => c2.as b hb
  · intro n b w q1 q2
    by_cases hn2 : n < A.length
    · rw [List.getElem?_append_left hn2] at q1
      rw [List.getElem?_append_left (by rw [← c1.len]; exact hn2)] at q2
      exact (c1.at_ n b w q1 q2).mono ex.mo (kp b)
    · have hn3 : n = A.length := by
        have := (List.getElem?_eq_some_iff.mp q1).1
        rw [List.length_append] at this
        simp at this
        omega
      subst hn3
      rw [List.getElem?_append_right (Nat.le_refl _), Nat.sub_self] at q1
      rw [c1.len, List.getElem?_append_right (Nat.le_refl _), Nat.sub_self] at q2
      simp at q1 q2
      subst q1
      subst q2
      exact RepP.cellAt g1 (RepP.re nt2 hb g2)
end
def lentDC (W : ZRC) : ZRC := fun ds Δ P => Z.belowL 0 (ds.map (Z.thaw Δ)) = true ∧ W (ds.map (Z.thaw Δ)) [] fun d Δ' => ∃ m l, d = .cell m ∧ dctOf Δ' (.cell m) = some l ∧ bareTs (l.map (·.2)) = true ∧ P (.cell Δ.length) (Δ ++ [dctO l])
def zCallBDC (W : ZRC) (za : ZA) : ZE := fun Γ Δ P => za Γ Δ fun ds Δ1 => lentDC W ds Δ1 P
section
variable {C : CI} {X : Cx} {e : Expr} {es : List Expr} {za : ZA} {pos p : Pos} {x : Str} {k : Nat} {f : Addr} {fd : FuncData} {ps : List Str} {W : ZRC}
theorem ref_callBDC {K : PySem.W.Frag} {ta : TA} {E : XK} (ha : RefA K C ta za) : RefE K C (tCall (SpZ K C W) [] E ta) (zCallBDC W za) := fun S A σ H Γ Δ P Q hs hc hz k =>
  ha S A σ H Γ Δ _ _ hs hc hz fun vs ds A1 H1 Δ1 e1 c1 r1 p => by
    obtain ⟨hb, p⟩ := p
    refine ⟨S, [], [], ds.map (Z.thaw Δ1), _, ?_, ⟨rfl, .nil, (fun a ha => nomatch ha), c1.as, (fun n a o h => nomatch h)⟩, p, fun v d A' H' Δ' e2 c2 r2 p2 => ?_⟩
    · rw [List.append_nil]; exact RepL.thw c1 ds hb r1
    · obtain ⟨m, l, rfl, h2, hb2, p2⟩ := p2
      cases r2 with
      | cell h1 =>
        rename_i a
        obtain ⟨q2, q3⟩ := c1.adoptDC e2 c2 h1 h2 hb2
        refine k _ _ (A1 ++ [a]) H' _ (e1.trans q2) q3 (.cell ?_) p2
        rw [← c1.len, List.getElem?_append_right (Nat.le_refl _), Nat.sub_self]
        rfl
theorem ez_callbDC (F : FnOk X.prog X.w X.K X.mg X.base CX0 k f fd ps (SpZ X.K C W)) (hr : Room k X.A) (hm : X.mg x = some (.ref f)) (hk : PySem.W.keepIn X.K (.ref f) = true) (hb : Binds X.K fd ps [])
    (ha : AZ C X (e :: es) za) (hg : Gl X x := by rfl) (hdb : (x == ("__debug__" : Str)) = false := by decide) (he : starEach (e :: es) X.env = (false, eval e X.env) :: starEach es X.env := by rfl) (hpl : (backTo pos (starEach es X.env)).any (·.1) = false := by rfl) :
    EZ C X (.Call (.Name x p) (e :: es) [] pos) (zCallBDC W za) := by
  obtain ⟨t, a1, a2⟩ := ha.ex
  exact ⟨_, pe_call F hr hg hm hk hb .nil pass0 a1 hdb he hpl, ref_callBDC a2⟩
end
end Z

/-! Z34: xs[::-1] that is changed later. -/
namespace Z
open PySem PySem.Spec PyProof.Rows L2
def zRevC (z : ZE) : ZE := fun Γ Δ P => z Γ Δ fun x Δ1 => ∃ ds, lstD Δ1 x = some ds ∧ P (.cell Δ1.length) (Δ1 ++ [.lst ds.reverse])
theorem ez_revC {C : CI} {X : Cx} {e : Expr} {z : ZE} {p1 p2 p3 pos : Pos} (h : EZ C X e z) {k : Nat} : EZ C X (.Subscript e (.Slice none none (some (.UnaryOp .USub (.Constant (.int 1) k p1) p2)) p3) pos) (zRevC z) := by
  obtain ⟨t, h1, h2⟩ := h.ex
  refine ⟨_, pe_revL h1, fun S A σ H Γ Δ P Q hs hc hz k => h2 S A σ H Γ Δ _ _ hs hc hz fun v d A1 H1 Δ1 e1 c1 r1 p => ?_⟩
  obtain ⟨ds, hd, p⟩ := p
  obtain ⟨a, xs, rfl, g1, g2⟩ := Rep.lst_ c1 r1 hd
  refine ⟨a, xs, rfl, SqL.of g1, fun q hq => ?_⟩
  refine k _ _ (A1 ++ [q]) _ _ (e1.trans (Ext.newCell hq)) (c1.newCell hq g2.reverse) (.cell ?_) p
  rw [← c1.len, List.getElem?_append_right (Nat.le_refl _), Nat.sub_self]
  rfl
end Z

/-! Z35: a list that is given (a script) put together with a list. -/
namespace Z
open PySem PySem.Spec PyProof.Rows L2
def rCatS (K : PySem.W.Frag) : R2 := fun x y H Q => ∃ a b xs ys, x = .ref a ∧ y = .ref b ∧ SqL K H a xs ∧ SqL K H b ys ∧ xs.length + ys.length ≤ sizeLine ∧ ∀ p, H p = none → Q (.ref p) (upd H p (.lst (xs ++ ys)))
theorem op_catS {X : Cx} : OpR X (binaryOp .Add) (rCatS X.K) := fun pins s σ H x y v u Q I rx ry h => by
  obtain ⟨a, b, xs, ys, rfl, rfl, hx, hy, hl, q⟩ := h
  cases rx
  cases ry
  obtain ⟨its, r, pl, l⟩ := I.list hx
  obtain ⟨its2, r2, pl2, l2⟩ := I.list hy
  have t1 := pl.isList.typeIs
  have t2 := pl2.isList.typeIs
  obtain ⟨o, n, g1, g2, g3, g4⟩ := pl
  obtain ⟨o2, n2, k1, k2, k3, k4⟩ := pl2
  have e1 := r.length
  have e2 := r2.length
  cases o
  cases o2
  simp only at g2 g3 g4 k2 k3 k4
  subst g2 g3 g4 k2 k3 k4
  refine concat_meets t1 t2 noFill_list_add seq_list_add PySem.F.slot_list_add PySem.F.entry_list_add (PySem.F.args_list_add_2 _ _) (list_addW a b its.toArray its2.toArray n n2 _ _ _ _ (by simp; omega)) ⟨g1, k1, ?_⟩
  have := I.lnew (t' := s.toks) (r.append r2) (by rw [List.length_append]; exact hl)
  refine ⟨.ref s.heap.objs.size, _, ?_, rfl, q _ I.fresh⟩
  rw [show (its ++ its2).toArray = its.toArray ++ its2.toArray by simp] at this
  exact this
section
variable {C : CI} {X : Cx}
def zCatS : ZR2 := fun x y Δ P => ∃ ns es, x = .scr ns ∧ y = .lst es ∧ ns.length + es.length ≤ 100000 ∧ P (.lst (ns.map D.int ++ es)) Δ
theorem oz_catS : OpZ C X (binaryOp .Add) zCatS := ⟨_, op_catS, fun S A H Δ x y dx dy P Q hc rx ry hz k => by
  obtain ⟨ns, es, rfl, rfl, hl, p⟩ := hz
  obtain ⟨b, ys, rfl, g3, g4⟩ := Rep.lst_ hc ry (show lstD Δ (.lst es) = some es from rfl)
  cases rx with
  | scr h =>
    rename_i a
    have sq : SqL X.K H a (ns.map V.int) := by
      rcases h with ⟨⟨o, h⟩, _⟩ | h
      · exact .inl (.inr ⟨o, h⟩)
      · exact .inr h
    refine ⟨a, b, _, ys, rfl, rfl, sq, SqL.of g3, sz100 (by rw [g4.length, List.length_map]; exact hl), fun q hq => ?_⟩
    have e := Ext.new (A := A) (o := .lst (ns.map V.int ++ ys)) hq
    exact k _ _ A _ Δ e (hc.new hq) (.lst upd_same (hc.fresh hq) (hc.aside hq) (((repL_ints ns).append g4).ext e)) p⟩
end
end Z

namespace Bx
open PySem PySem.Spec PyProof.Rows L2 Z
/-! ### the text by places -/
def top (i : Nat) : Stmt := PySem.Challenge.pw_boxrows_k12_rows_with_many_rounds.main.body.getD i (.Pass ⟨0, 0, 0, 0⟩)
abbrev s__law_bag : Stmt := top 43
abbrev s__law_pick : Stmt := top 44
abbrev s_is_int : Stmt := top 10
abbrev s_in_bounds : Stmt := top 23
abbrev s_are_box_numbers : Stmt := top 24
abbrev s_Box_d_init_d : Stmt := inClass (top 25) 0
abbrev s_hard_row : Stmt := top 41
abbrev s_Box_wish : Stmt := inClass (top 25) 1
abbrev s_Box_least : Stmt := inClass (top 25) 2
abbrev s_Box_most : Stmt := inClass (top 25) 3
abbrev s_Box_grow : Stmt := inClass (top 25) 4
abbrev s_Box_shrink : Stmt := inClass (top 25) 5
abbrev s__law_order : Stmt := top 49
abbrev s__law_limited : Stmt := top 52
abbrev s__law_own : Stmt := top 53
abbrev s__law_begin : Stmt := top 58
abbrev s__law_ratio : Stmt := top 45
abbrev s__law_minus : Stmt := top 48
abbrev s__law_add : Stmt := top 46
abbrev s__law_may : Stmt := top 59
abbrev s__law_rounds : Stmt := top 60
abbrev s_check_boxes : Stmt := top 29
abbrev s_is_fraction : Stmt := top 11
abbrev s_is_rational : Stmt := top 12
abbrev s_as_fraction : Stmt := top 13
abbrev s_check_width : Stmt := top 32
abbrev s_order : Stmt := top 17
abbrev s_limited : Stmt := top 22
abbrev s_Box_own : Stmt := inClass (top 25) 6
abbrev s_own_width : Stmt := top 30
abbrev s_does_grow : Stmt := top 34
abbrev s_weight_of : Stmt := top 35
abbrev s_is_frozen_first : Stmt := top 36
abbrev s_first_sizes : Stmt := top 37
abbrev s_lowest : Stmt := top 14
abbrev s_plus : Stmt := top 15
abbrev s_minus : Stmt := top 16
abbrev s_common_level : Stmt := top 38
abbrev s_next_sizes : Stmt := top 39
abbrev s_rounds : Stmt := top 40
abbrev s__law_right : Stmt := top 61
abbrev s_law : Stmt := top 62
abbrev N__law_bag : List Str := ["cell"]
theorem sc__law_bag : FnScope ["cell"] ["cell"] (defScope s__law_bag) := ⟨rfl, rfl, rfl, by decide +kernel, rfl, by decide +kernel, by decide +kernel⟩
abbrev N__law_pick : List Str := ["bag", "many", "told", "first", "second"]
theorem sc__law_pick : FnScope ["bag", "many", "told", "first", "second"] ["bag", "many"] (defScope s__law_pick) := ⟨rfl, rfl, rfl, by decide +kernel, rfl, by decide +kernel, by decide +kernel⟩
abbrev N_is_int : List Str := ["value"]
theorem sc_is_int : FnScope ["value"] ["value"] (defScope s_is_int) := ⟨rfl, rfl, rfl, by decide +kernel, rfl, by decide +kernel, by decide +kernel⟩
abbrev N_in_bounds : List Str := ["value", "top"]
theorem sc_in_bounds : FnScope ["value", "top"] ["value", "top"] (defScope s_in_bounds) := ⟨rfl, rfl, rfl, by decide +kernel, rfl, by decide +kernel, by decide +kernel⟩
abbrev N_are_box_numbers : List Str := ["wish", "least", "most", "grow", "shrink", "widths", "width", "weight"]
theorem sc_are_box_numbers : FnScope ["wish", "least", "most", "grow", "shrink", "widths", "width", "weight"] ["wish", "least", "most", "grow", "shrink"] (defScope s_are_box_numbers) := ⟨rfl, rfl, rfl, by decide +kernel, rfl, by decide +kernel, by decide +kernel⟩
abbrev N_Box_d_init_d : List Str := ["self", "wish", "least", "most", "grow", "shrink"]
theorem sc_Box_d_init_d : FnScope ["self", "wish", "least", "most", "grow", "shrink"] ["self", "wish", "least", "most", "grow", "shrink"] (defScope s_Box_d_init_d) := ⟨rfl, rfl, rfl, by decide +kernel, rfl, by decide +kernel, by decide +kernel⟩
abbrev N_hard_row : List Str := ["number", "top", "boxes", "whole", "heavy", "gap", "_", "weight", "most"]
theorem sc_hard_row : FnScope ["number", "top", "boxes", "whole", "heavy", "gap", "_", "weight", "most"] ["number"] (defScope s_hard_row) := ⟨rfl, rfl, rfl, by decide +kernel, rfl, by decide +kernel, by decide +kernel⟩
abbrev N_Box_wish : List Str := ["self"]
theorem sc_Box_wish : FnScope ["self"] ["self"] (defScope s_Box_wish) := ⟨rfl, rfl, rfl, by decide +kernel, rfl, by decide +kernel, by decide +kernel⟩
abbrev N_Box_least : List Str := ["self"]
theorem sc_Box_least : FnScope ["self"] ["self"] (defScope s_Box_least) := ⟨rfl, rfl, rfl, by decide +kernel, rfl, by decide +kernel, by decide +kernel⟩
abbrev N_Box_most : List Str := ["self"]
theorem sc_Box_most : FnScope ["self"] ["self"] (defScope s_Box_most) := ⟨rfl, rfl, rfl, by decide +kernel, rfl, by decide +kernel, by decide +kernel⟩
abbrev N_Box_grow : List Str := ["self"]
theorem sc_Box_grow : FnScope ["self"] ["self"] (defScope s_Box_grow) := ⟨rfl, rfl, rfl, by decide +kernel, rfl, by decide +kernel, by decide +kernel⟩
abbrev N_Box_shrink : List Str := ["self"]
theorem sc_Box_shrink : FnScope ["self"] ["self"] (defScope s_Box_shrink) := ⟨rfl, rfl, rfl, by decide +kernel, rfl, by decide +kernel, by decide +kernel⟩
abbrev N__law_order : List Str := ["one", "two"]
theorem sc__law_order : FnScope ["one", "two"] ["one", "two"] (defScope s__law_order) := ⟨rfl, rfl, rfl, by decide +kernel, rfl, by decide +kernel, by decide +kernel⟩
abbrev N__law_limited : List Str := ["number", "row"]
theorem sc__law_limited : FnScope ["number", "row"] ["number", "row"] (defScope s__law_limited) := ⟨rfl, rfl, rfl, by decide +kernel, rfl, by decide +kernel, by decide +kernel⟩
abbrev N__law_own : List Str := ["row"]
theorem sc__law_own : FnScope ["row"] ["row"] (defScope s__law_own) := ⟨rfl, rfl, rfl, by decide +kernel, rfl, by decide +kernel, by decide +kernel⟩
abbrev N__law_begin : List Str := ["rows", "width", "up", "frozen", "k", "row", "wrong"]
theorem sc__law_begin : FnScope ["rows", "width", "up", "frozen", "k", "row", "wrong"] ["rows", "width"] (defScope s__law_begin) := ⟨rfl, rfl, rfl, by decide +kernel, rfl, by decide +kernel, by decide +kernel⟩
abbrev N__law_ratio : List Str := ["above", "below", "one", "two"]
theorem sc__law_ratio : FnScope ["above", "below", "one", "two"] ["above", "below"] (defScope s__law_ratio) := ⟨rfl, rfl, rfl, by decide +kernel, rfl, by decide +kernel, by decide +kernel⟩
abbrev N__law_minus : List Str := ["one", "two"]
theorem sc__law_minus : FnScope ["one", "two"] ["one", "two"] (defScope s__law_minus) := ⟨rfl, rfl, rfl, by decide +kernel, rfl, by decide +kernel, by decide +kernel⟩
abbrev N__law_add : List Str := ["one", "two"]
theorem sc__law_add : FnScope ["one", "two"] ["one", "two"] (defScope s__law_add) := ⟨rfl, rfl, rfl, by decide +kernel, rfl, by decide +kernel, by decide +kernel⟩
abbrev N__law_may : List Str := ["rows", "up", "width", "frozen", "free", "total", "rest", "k", "parts", "sizes", "excess", "weight", "chosen"]
theorem sc__law_may : FnScope ["rows", "up", "width", "frozen", "free", "total", "rest", "k", "parts", "sizes", "excess", "weight", "chosen"] ["rows", "up", "width", "frozen"] (defScope s__law_may) := ⟨rfl, rfl, rfl, by decide +kernel, rfl, by decide +kernel, by decide +kernel⟩
abbrev N__law_rounds : List Str := ["rows", "width", "up", "frozen", "found", "some", "k"]
theorem sc__law_rounds : FnScope ["rows", "width", "up", "frozen", "found", "some", "k"] ["rows", "width"] (defScope s__law_rounds) := ⟨rfl, rfl, rfl, by decide +kernel, rfl, by decide +kernel, by decide +kernel⟩
abbrev N_check_boxes : List Str := ["boxes", "box"]
theorem sc_check_boxes : FnScope ["boxes", "box"] ["boxes"] (defScope s_check_boxes) := ⟨rfl, rfl, rfl, by decide +kernel, rfl, by decide +kernel, by decide +kernel⟩
abbrev N_is_fraction : List Str := ["value", "p", "q"]
theorem sc_is_fraction : FnScope ["value", "p", "q"] ["value"] (defScope s_is_fraction) := ⟨rfl, rfl, rfl, by decide +kernel, rfl, by decide +kernel, by decide +kernel⟩
abbrev N_is_rational : List Str := ["value"]
theorem sc_is_rational : FnScope ["value"] ["value"] (defScope s_is_rational) := ⟨rfl, rfl, rfl, by decide +kernel, rfl, by decide +kernel, by decide +kernel⟩
abbrev N_as_fraction : List Str := ["value"]
theorem sc_as_fraction : FnScope ["value"] ["value"] (defScope s_as_fraction) := ⟨rfl, rfl, rfl, by decide +kernel, rfl, by decide +kernel, by decide +kernel⟩
abbrev N_check_width : List Str := ["width"]
theorem sc_check_width : FnScope ["width"] ["width"] (defScope s_check_width) := ⟨rfl, rfl, rfl, by decide +kernel, rfl, by decide +kernel, by decide +kernel⟩
abbrev N_order : List Str := ["one", "two"]
theorem sc_order : FnScope ["one", "two"] ["one", "two"] (defScope s_order) := ⟨rfl, rfl, rfl, by decide +kernel, rfl, by decide +kernel, by decide +kernel⟩
abbrev N_limited : List Str := ["value", "least", "most"]
theorem sc_limited : FnScope ["value", "least", "most"] ["value", "least", "most"] (defScope s_limited) := ⟨rfl, rfl, rfl, by decide +kernel, rfl, by decide +kernel, by decide +kernel⟩
abbrev N_Box_own : List Str := ["self"]
theorem sc_Box_own : FnScope ["self"] ["self"] (defScope s_Box_own) := ⟨rfl, rfl, rfl, by decide +kernel, rfl, by decide +kernel, by decide +kernel⟩
abbrev N_own_width : List Str := ["boxes", "box"]
theorem sc_own_width : FnScope ["boxes", "box"] ["boxes"] (defScope s_own_width) := ⟨rfl, rfl, rfl, by decide +kernel, rfl, by decide +kernel, by decide +kernel⟩
abbrev N_does_grow : List Str := ["boxes", "width"]
theorem sc_does_grow : FnScope ["boxes", "width"] ["boxes", "width"] (defScope s_does_grow) := ⟨rfl, rfl, rfl, by decide +kernel, rfl, by decide +kernel, by decide +kernel⟩
abbrev N_weight_of : List Str := ["box", "grows"]
theorem sc_weight_of : FnScope ["box", "grows"] ["box", "grows"] (defScope s_weight_of) := ⟨rfl, rfl, rfl, by decide +kernel, rfl, by decide +kernel, by decide +kernel⟩
abbrev N_is_frozen_first : List Str := ["box", "grows"]
theorem sc_is_frozen_first : FnScope ["box", "grows"] ["box", "grows"] (defScope s_is_frozen_first) := ⟨rfl, rfl, rfl, by decide +kernel, rfl, by decide +kernel, by decide +kernel⟩
abbrev N_first_sizes : List Str := ["boxes", "grows", "index", "box"]
theorem sc_first_sizes : FnScope ["boxes", "grows", "index", "box"] ["boxes", "grows"] (defScope s_first_sizes) := ⟨rfl, rfl, rfl, by decide +kernel, rfl, by decide +kernel, by decide +kernel⟩
abbrev N_lowest : List Str := ["p", "q", "common"]
theorem sc_lowest : FnScope ["p", "q", "common"] ["p", "q"] (defScope s_lowest) := ⟨rfl, rfl, rfl, by decide +kernel, rfl, by decide +kernel, by decide +kernel⟩
abbrev N_plus : List Str := ["one", "two"]
theorem sc_plus : FnScope ["one", "two"] ["one", "two"] (defScope s_plus) := ⟨rfl, rfl, rfl, by decide +kernel, rfl, by decide +kernel, by decide +kernel⟩
abbrev N_minus : List Str := ["one", "two"]
theorem sc_minus : FnScope ["one", "two"] ["one", "two"] (defScope s_minus) := ⟨rfl, rfl, rfl, by decide +kernel, rfl, by decide +kernel, by decide +kernel⟩
abbrev N_common_level : List Str := ["free", "width", "grows", "frozen", "taken", "size", "p", "q", "box"]
theorem sc_common_level : FnScope ["free", "width", "grows", "frozen", "taken", "size", "p", "q", "box"] ["free", "width", "grows", "frozen"] (defScope s_common_level) := ⟨rfl, rfl, rfl, by decide +kernel, rfl, by decide +kernel, by decide +kernel⟩
abbrev N_next_sizes : List Str := ["boxes", "width", "grows", "frozen", "free", "p", "q", "sizes", "excess", "index", "box", "due", "size", "total"]
theorem sc_next_sizes : FnScope ["boxes", "width", "grows", "frozen", "free", "p", "q", "sizes", "excess", "index", "box", "due", "size", "total"] ["boxes", "width", "grows", "frozen"] (defScope s_next_sizes) := ⟨rfl, rfl, rfl, by decide +kernel, rfl, by decide +kernel, by decide +kernel⟩
abbrev N_rounds : List Str := ["boxes", "width", "given", "grows", "frozen", "found", "sizes"]
theorem sc_rounds : FnScope ["boxes", "width", "given", "grows", "frozen", "found", "sizes"] ["boxes", "width"] (defScope s_rounds) := ⟨rfl, rfl, rfl, by decide +kernel, rfl, by decide +kernel, by decide +kernel⟩
abbrev N__law_right : List Str := ["number", "found", "boxes", "width", "rows", "due", "sizes", "box"]
theorem sc__law_right : FnScope ["number", "found", "boxes", "width", "rows", "due", "sizes", "box"] ["number"] (defScope s__law_right) := ⟨rfl, rfl, rfl, by decide +kernel, rfl, by decide +kernel, by decide +kernel⟩
abbrev N_law : List Str := ["script", "bag", "numbers", "k", "number"]
theorem sc_law : FnScope ["script", "bag", "numbers", "k", "number"] ["script"] (defScope s_law) := ⟨rfl, rfl, rfl, by decide +kernel, rfl, by decide +kernel, by decide +kernel⟩
/-! ### the readings over data -/
def nmsOf : Nat → List Str
  | 0 => ["_wish", "_least", "_most", "_grow", "_shrink"]
  | _ => []
section
/-- _law_bag(cell); slots 0:cell -/
def z__law_bag (K : PySem.W.Frag) (C : CI) : ZS := zRet (zLstC (zCons (zCB zMax2 (zCons (zC (.int 0)) (zCons (zOp (zI0 fun i j => .int (i - j)) (zVar 0) (zOp (zI CPow fun i j => .int (i ^ j.toNat)) (zC (.int 10)) (zC (.int 18)))) (zNil)))) (zCons (zVar 0) (zCons (zC (.int 0)) (zNil)))))
def W__law_bag (K : PySem.W.Frag) (C : CI) : ZRC := fun ds Δ P => ds.length = 1 ∧ z__law_bag K C { nx := fun _ Δ' => P .non Δ', rt := P } (startZ ["cell"] ds) Δ
/-- _law_pick(bag, many); slots 0:bag 1:many 2:told 3:first 4:second -/
def z__law_pick (K : PySem.W.Frag) (C : CI) : ZS := zSeq (zAsg (zOp (zI0 fun i j => .int (i + j)) (zOp zIx (zVar 0) (zC (.int 2))) (zC (.int 1))) (zgSub (zVar 0) (zC (.int 2))))
    (zSeq (zIfS (zTest (zOp (zI0 fun i j => .bl (decide (j < i))) (zOp zIx (zVar 0) (zC (.int 0))) (zC (.int 0)))) (zSeq (zAsg (zOp (zI (fun _ j => 0 < j) fun i j => .int (i % j)) (zOp zIx (zVar 0) (zC (.int 0))) (zVar 1)) (zgName 2))
    (zSeq (zAsg (zOp (zI CDivW fun i j => .int (i / j)) (zOp zIx (zVar 0) (zC (.int 0))) (zVar 1)) (zgSub (zVar 0) (zC (.int 0))))
    (zRet (zVar 2)))) (zNext))
    (zSeq (zAsg (zOp (zI (fun _ j => 0 < j) fun i j => .int (i % j)) (zOp (zI0 fun i j => .int (i + j)) (zOp (zI0 fun i j => .int (i + j)) (zOp (zI MulOk fun i j => .int (i * j)) (zOp (zI (fun _ j => 0 < j) fun i j => .int (i % j)) (zOp zIx (zVar 0) (zC (.int 1))) (zC (.int 2147483629))) (zC (.int 48271))) (zOp (zI MulOk fun i j => .int (i * j)) (zOp zIx (zVar 0) (zC (.int 2))) (zC (.int 69621)))) (zC (.int 12345))) (zC (.int 2147483647))) (zgName 3))
    (zSeq (zAsg (zOp (zI (fun _ j => 0 < j) fun i j => .int (i % j)) (zOp (zI0 fun i j => .int (i + j)) (zOp (zI MulOk fun i j => .int (i * j)) (zVar 3) (zVar 3)) (zOp (zI MulOk fun i j => .int (i * j)) (zOp zIx (zVar 0) (zC (.int 2))) (zC (.int 40692)))) (zC (.int 2147483587))) (zgName 4))
    (zRet (zOp (zI (fun _ j => 0 < j) fun i j => .int (i % j)) (zOp (zI CDivW fun i j => .int (i / j)) (zOp (zI0 fun i j => .int (i + j)) (zOp (zI MulOk fun i j => .int (i * j)) (zVar 3) (zC (.int 2147483587))) (zVar 4)) (zC (.int 32))) (zVar 1))))))
def W__law_pick (K : PySem.W.Frag) (C : CI) : ZRC := fun ds Δ P => ds.length = 2 ∧ z__law_pick K C { nx := fun _ Δ' => P .non Δ', rt := P } (startZ ["bag", "many", "told", "first", "second"] ds) Δ
/-- is_int(value); slots 0:value -/
def z_is_int (K : PySem.W.Frag) (C : CI) : ZS := zRet (zAndV (zCB (zIsi K C) (zCons (zVar 0) (zCons (zC (.ty "int")) (zNil)))) (zNotV (zCB (zIsi K C) (zCons (zVar 0) (zCons (zC (.ty "bool")) (zNil))))))
def W_is_int (K : PySem.W.Frag) (C : CI) : ZRC := fun ds Δ P => ds.length = 1 ∧ z_is_int K C { nx := fun _ Δ' => P .non Δ', rt := P } (startZ ["value"] ds) Δ
/-- in_bounds(value, top); slots 0:value 1:top -/
def z_in_bounds (K : PySem.W.Frag) (C : CI) : ZS := zRet (zAndV (zCall (W_is_int K C) [] (zCons (zVar 0) (zNil))) (zChain (zI0 fun i j => .bl (decide (i ≤ j))) (zI0 fun i j => .bl (decide (i ≤ j))) (zC (.int 0)) (zVar 0) (zVar 1)))
def W_in_bounds (K : PySem.W.Frag) (C : CI) : ZRC := fun ds Δ P => ds.length = 2 ∧ z_in_bounds K C { nx := fun _ Δ' => P .non Δ', rt := P } (startZ ["value", "top"] ds) Δ
/-- are_box_numbers(wish, least, most, grow, shrink); slots 0:wish 1:least 2:most 3:grow 4:shrink 5:widths 6:width 7:weight -/
def z_are_box_numbers (K : PySem.W.Frag) (C : CI) : ZS := zSeq (zAsg (zIf (zTest (zOp zIsN (zVar 2) (zC .non))) (zLst (zCons (zVar 0) (zCons (zVar 1) (zNil)))) (zLst (zCons (zVar 0) (zCons (zVar 1) (zCons (zVar 2) (zNil)))))) (zgName 5))
    (zRet (zAndV (zCB zAll (zCons (zLc (ziList (zVar 5)) (zgName 6) (zYes) (zCall (W_in_bounds K C) [] (zCons (zVar 6) (zCons (zC (.int 1000000000000000000000000000000)) (zNil)))) [6]) (zNil))) (zAndV (zCB zAll (zCons (zLc (ziTup (zTup (zCons (zVar 3) (zCons (zVar 4) (zNil))))) (zgName 7) (zYes) (zCall (W_in_bounds K C) [] (zCons (zVar 7) (zCons (zC (.int 1000000)) (zNil)))) [7]) (zNil))) (zOrV (zOp zIsN (zVar 2) (zC .non)) (zOp (zI0 fun i j => .bl (decide (i ≤ j))) (zVar 1) (zVar 2))))))
def W_are_box_numbers (K : PySem.W.Frag) (C : CI) : ZRC := fun ds Δ P => ds.length = 5 ∧ z_are_box_numbers K C { nx := fun _ Δ' => P .non Δ', rt := P } (startZ ["wish", "least", "most", "grow", "shrink", "widths", "width", "weight"] ds) Δ
/-- Box.__init__(self, wish, least, most, grow, shrink); slots 0:self 1:wish 2:least 3:most 4:grow 5:shrink -/
def z_Box_d_init_d (K : PySem.W.Frag) (C : CI) : ZS := zSeq (zIfS (zNot (zTest (zCall (W_are_box_numbers K C) [] (zCons (zVar 1) (zCons (zVar 2) (zCons (zVar 3) (zCons (zVar 4) (zCons (zVar 5) (zNil))))))))) (zNever) (zNext))
    (zSeq (zSetF 0 (Str.ofString "_wish") (zVar 0) (zVar 1))
    (zSeq (zSetF 0 (Str.ofString "_least") (zVar 0) (zVar 2))
    (zSeq (zSetF 0 (Str.ofString "_most") (zVar 0) (zVar 3))
    (zSeq (zSetF 0 (Str.ofString "_grow") (zVar 0) (zVar 4))
    (zSetF 0 (Str.ofString "_shrink") (zVar 0) (zVar 5))))))
def W_Box_d_init_d (K : PySem.W.Frag) (C : CI) : ZRC := fun ds Δ P => ds.length = 6 ∧ z_Box_d_init_d K C { nx := fun _ Δ' => P .non Δ', rt := P } (startZ ["self", "wish", "least", "most", "grow", "shrink"] ds) Δ
/-- hard_row(number); slots 0:number 1:top 2:boxes 3:whole 4:heavy 5:gap 6:_ 7:weight 8:most -/
def z_hard_row (K : PySem.W.Frag) (C : CI) : ZS := zSeq (zIfS (zOr (zNot (zTest (zCall (W_is_int K C) [] (zCons (zVar 0) (zNil))))) (zNot (zTest (zChain (zI0 fun i j => .bl (decide (i ≤ j))) (zI0 fun i j => .bl (decide (i ≤ j))) (zC (.int 1)) (zVar 0) (zC (.int 40)))))) (zNever) (zNext))
    (zSeq (zAsg (zOp (zI CPow fun i j => .int (i * 2 ^ j.toNat)) (zC (.int 1)) (zOp (zI MulOk fun i j => .int (i * j)) (zC (.int 2)) (zVar 0))) (zgName 1))
    (zSeq (zAsg (zTup (zCons (zLstC (zNil)) (zCons (zC (.int 0)) (zCons (zC (.int 0)) (zCons (zC (.int 1)) (zNil)))))) (zgTup 4 (zgCons (zgName 2) (zgCons (zgName 3) (zgCons (zgName 4) (zgCons (zgName 5) (zgNil)))))))
    (zSeq (zFor (ziR1 (zCons (zVar 0) (zNil))) (zgName 6) (zSeq (zAsg (zCB zMax2 (zCons (zC (.int 1)) (zCons (zOp (zI CDivW fun i j => .int (i / j)) (zOp (zI0 fun i j => .int (i + j)) (zVar 4) (zC (.int 2))) (zC (.int 3))) (zNil)))) (zgName 7))
    (zSeq (zAsg (zOp (zI MulOk fun i j => .int (i * j)) (zVar 7) (zOp (zI0 fun i j => .int (i - j)) (zVar 1) (zVar 5))) (zgName 8))
    (zSeq (zDrop (zAppend (zVar 2) (zCons (zMakeK C 0 1 2 (W_Box_d_init_d K C) [.int 0, .non, .int 0, .int 0] [.d 0, .k 0, .k 1, .d 3] (zCons (zC (.int 0)) (zNil)) (zCons (zVar 8) (zCons (zVar 7) (zNil)))) (zNil))))
    (zSeq (zAug 3 (fun i j => i + j) (zVar 8))
    (zSeq (zAug 4 (fun i j => i + j) (zVar 7))
    (zAsg (zOp (zI MulOk fun i j => .int (i * j)) (zC (.int 4)) (zVar 5)) (zgName 5))))))))
    (zRet (zTup (zCons (zRevC (zVar 2)) (zCons (zVar 3) (zNil))))))))
def W_hard_row (K : PySem.W.Frag) (C : CI) : ZRC := fun ds Δ P => ds.length = 1 ∧ z_hard_row K C { nx := fun _ Δ' => P .non Δ', rt := P } (startZ ["number", "top", "boxes", "whole", "heavy", "gap", "_", "weight", "most"] ds) Δ
/-- Box.wish(self); slots 0:self -/
def z_Box_wish (K : PySem.W.Frag) (C : CI) : ZS := zRet (zFld C 0 (Str.ofString "_wish") (zVar 0))
def W_Box_wish (K : PySem.W.Frag) (C : CI) : ZRC := fun ds Δ P => ds.length = 1 ∧ z_Box_wish K C { nx := fun _ Δ' => P .non Δ', rt := P } (startZ ["self"] ds) Δ
/-- Box.least(self); slots 0:self -/
def z_Box_least (K : PySem.W.Frag) (C : CI) : ZS := zRet (zFld C 0 (Str.ofString "_least") (zVar 0))
def W_Box_least (K : PySem.W.Frag) (C : CI) : ZRC := fun ds Δ P => ds.length = 1 ∧ z_Box_least K C { nx := fun _ Δ' => P .non Δ', rt := P } (startZ ["self"] ds) Δ
/-- Box.most(self); slots 0:self -/
def z_Box_most (K : PySem.W.Frag) (C : CI) : ZS := zRet (zFld C 0 (Str.ofString "_most") (zVar 0))
def W_Box_most (K : PySem.W.Frag) (C : CI) : ZRC := fun ds Δ P => ds.length = 1 ∧ z_Box_most K C { nx := fun _ Δ' => P .non Δ', rt := P } (startZ ["self"] ds) Δ
/-- Box.grow(self); slots 0:self -/
def z_Box_grow (K : PySem.W.Frag) (C : CI) : ZS := zRet (zFld C 0 (Str.ofString "_grow") (zVar 0))
def W_Box_grow (K : PySem.W.Frag) (C : CI) : ZRC := fun ds Δ P => ds.length = 1 ∧ z_Box_grow K C { nx := fun _ Δ' => P .non Δ', rt := P } (startZ ["self"] ds) Δ
/-- Box.shrink(self); slots 0:self -/
def z_Box_shrink (K : PySem.W.Frag) (C : CI) : ZS := zRet (zFld C 0 (Str.ofString "_shrink") (zVar 0))
def W_Box_shrink (K : PySem.W.Frag) (C : CI) : ZRC := fun ds Δ P => ds.length = 1 ∧ z_Box_shrink K C { nx := fun _ Δ' => P .non Δ', rt := P } (startZ ["self"] ds) Δ
/-- _law_order(one, two); slots 0:one 1:two -/
def z__law_order (K : PySem.W.Frag) (C : CI) : ZS := zRet (zOp (zI0 fun i j => .int (i - j)) (zOp (zI MulOk fun i j => .int (i * j)) (zOp zIx (zVar 0) (zC (.int 0))) (zOp zIx (zVar 1) (zC (.int 1)))) (zOp (zI MulOk fun i j => .int (i * j)) (zOp zIx (zVar 1) (zC (.int 0))) (zOp zIx (zVar 0) (zC (.int 1)))))
def W__law_order (K : PySem.W.Frag) (C : CI) : ZRC := fun ds Δ P => ds.length = 2 ∧ z__law_order K C { nx := fun _ Δ' => P .non Δ', rt := P } (startZ ["one", "two"] ds) Δ
/-- _law_limited(number, row); slots 0:number 1:row -/
def z__law_limited (K : PySem.W.Frag) (C : CI) : ZS := zSeq (zIfS (zTest (zOp (zI0 fun i j => .bl (decide (i < j))) (zCall (W__law_order K C) [] (zCons (zVar 0) (zCons (zTup (zCons (zOp zIx (zVar 1) (zC (.int 1))) (zCons (zC (.int 1)) (zNil)))) (zNil)))) (zC (.int 0)))) (zRet (zTup (zCons (zOp zIx (zVar 1) (zC (.int 1))) (zCons (zC (.int 1)) (zNil))))) (zNext))
    (zSeq (zIfS (zAnd (zTest (zOp zNotN (zOp zIx (zVar 1) (zC (.int 2))) (zC .non))) (zTest (zOp (zI0 fun i j => .bl (decide (j < i))) (zCall (W__law_order K C) [] (zCons (zVar 0) (zCons (zTup (zCons (zOp zIx (zVar 1) (zC (.int 2))) (zCons (zC (.int 1)) (zNil)))) (zNil)))) (zC (.int 0))))) (zRet (zTup (zCons (zOp zIx (zVar 1) (zC (.int 2))) (zCons (zC (.int 1)) (zNil))))) (zNext))
    (zRet (zVar 0)))
def W__law_limited (K : PySem.W.Frag) (C : CI) : ZRC := fun ds Δ P => ds.length = 2 ∧ z__law_limited K C { nx := fun _ Δ' => P .non Δ', rt := P } (startZ ["number", "row"] ds) Δ
/-- _law_own(row); slots 0:row -/
def z__law_own (K : PySem.W.Frag) (C : CI) : ZS := zRet (zOp zIx (zCall (W__law_limited K C) [] (zCons (zTup (zCons (zOp zIx (zVar 0) (zC (.int 0))) (zCons (zC (.int 1)) (zNil)))) (zCons (zVar 0) (zNil)))) (zC (.int 0)))
def W__law_own (K : PySem.W.Frag) (C : CI) : ZRC := fun ds Δ P => ds.length = 1 ∧ z__law_own K C { nx := fun _ Δ' => P .non Δ', rt := P } (startZ ["row"] ds) Δ
/-- _law_begin(rows, width); slots 0:rows 1:width 2:up 3:frozen 4:k 5:row 6:wrong -/
def z__law_begin (K : PySem.W.Frag) (C : CI) : ZS := zSeq (zAsg (zOp (zI0 fun i j => .bl (decide (j ≤ i))) (zCall (W__law_order K C) [] (zCons (zVar 1) (zCons (zTup (zCons (zCB zSum (zCons (zLc (ziList (zVar 0)) (zgName 5) (zYes) (zCall (W__law_own K C) [] (zCons (zVar 5) (zNil))) [5]) (zNil))) (zCons (zC (.int 1)) (zNil)))) (zNil)))) (zC (.int 0))) (zgName 2))
    (zSeq (zAsg (zDNewC) (zgName 3))
    (zSeq (zFor (ziEnum (zCons (zVar 0) (zNil))) (zgTup 2 (zgCons (zgName 4) (zgCons (zgName 5) (zgNil)))) (zSeq (zAsg (zIf (zTest (zVar 2)) (zAndV (zOp zNotN (zOp zIx (zVar 5) (zC (.int 2))) (zC .non)) (zOp (zI0 fun i j => .bl (decide (j < i))) (zOp zIx (zVar 5) (zC (.int 0))) (zOp zIx (zVar 5) (zC (.int 2))))) (zOp (zI0 fun i j => .bl (decide (i < j))) (zOp zIx (zVar 5) (zC (.int 0))) (zOp zIx (zVar 5) (zC (.int 1))))) (zgName 6))
    (zIfS (zOr (zTest (zOp zEq (zOp zIx (zVar 5) (zIf (zTest (zVar 2)) (zC (.int 3)) (zC (.int 4)))) (zC (.int 0)))) (zTest (zVar 6))) (zDPut (zVar 3) (zVar 4) (zTup (zCons (zCall (W__law_own K C) [] (zCons (zVar 5) (zNil))) (zCons (zC (.int 1)) (zNil))))) (zNext))))
    (zRet (zTup (zCons (zVar 2) (zCons (zVar 3) (zNil)))))))
def W__law_begin (K : PySem.W.Frag) (C : CI) : ZRC := fun ds Δ P => ds.length = 2 ∧ z__law_begin K C { nx := fun _ Δ' => P .non Δ', rt := P } (startZ ["rows", "width", "up", "frozen", "k", "row", "wrong"] ds) Δ
/-- _law_ratio(above, below); slots 0:above 1:below 2:one 3:two -/
def z__law_ratio (K : PySem.W.Frag) (C : CI) : ZS := zSeq (zPar 2 3 (zCons (zCB zAbs (zCons (zVar 0) (zNil))) (zCons (zCB zAbs (zCons (zVar 1) (zNil))) (zNil))))
    (zSeq (zWhile (zTest (zOp (zI0 fun i j => .bl (decide (j < i))) (zVar 3) (zC (.int 0)))) (zPar 2 3 (zCons (zVar 3) (zCons (zOp (zI (fun _ j => 0 < j) fun i j => .int (i % j)) (zVar 2) (zVar 3)) (zNil)))))
    (zSeq (zIfS (zTest (zOp (zI0 fun i j => .bl (decide (i < j))) (zVar 1) (zC (.int 0)))) (zPar 0 1 (zCons (zOp (zI0 fun i j => .int (i - j)) (zC (.int 0)) (zVar 0)) (zCons (zOp (zI0 fun i j => .int (i - j)) (zC (.int 0)) (zVar 1)) (zNil)))) (zNext))
    (zRet (zTup (zCons (zOp (zI CDivW fun i j => .int (i / j)) (zVar 0) (zVar 2)) (zCons (zOp (zI CDivW fun i j => .int (i / j)) (zVar 1) (zVar 2)) (zNil)))))))
def W__law_ratio (K : PySem.W.Frag) (C : CI) : ZRC := fun ds Δ P => ds.length = 2 ∧ z__law_ratio K C { nx := fun _ Δ' => P .non Δ', rt := P } (startZ ["above", "below", "one", "two"] ds) Δ
/-- _law_minus(one, two); slots 0:one 1:two -/
def z__law_minus (K : PySem.W.Frag) (C : CI) : ZS := zRet (zCall (W__law_ratio K C) [] (zCons (zOp (zI0 fun i j => .int (i - j)) (zOp (zI MulOk fun i j => .int (i * j)) (zOp zIx (zVar 0) (zC (.int 0))) (zOp zIx (zVar 1) (zC (.int 1)))) (zOp (zI MulOk fun i j => .int (i * j)) (zOp zIx (zVar 1) (zC (.int 0))) (zOp zIx (zVar 0) (zC (.int 1))))) (zCons (zOp (zI MulOk fun i j => .int (i * j)) (zOp zIx (zVar 0) (zC (.int 1))) (zOp zIx (zVar 1) (zC (.int 1)))) (zNil))))
def W__law_minus (K : PySem.W.Frag) (C : CI) : ZRC := fun ds Δ P => ds.length = 2 ∧ z__law_minus K C { nx := fun _ Δ' => P .non Δ', rt := P } (startZ ["one", "two"] ds) Δ
/-- _law_add(one, two); slots 0:one 1:two -/
def z__law_add (K : PySem.W.Frag) (C : CI) : ZS := zRet (zCall (W__law_ratio K C) [] (zCons (zOp (zI0 fun i j => .int (i + j)) (zOp (zI MulOk fun i j => .int (i * j)) (zOp zIx (zVar 0) (zC (.int 0))) (zOp zIx (zVar 1) (zC (.int 1)))) (zOp (zI MulOk fun i j => .int (i * j)) (zOp zIx (zVar 1) (zC (.int 0))) (zOp zIx (zVar 0) (zC (.int 1))))) (zCons (zOp (zI MulOk fun i j => .int (i * j)) (zOp zIx (zVar 0) (zC (.int 1))) (zOp zIx (zVar 1) (zC (.int 1)))) (zNil))))
def W__law_add (K : PySem.W.Frag) (C : CI) : ZRC := fun ds Δ P => ds.length = 2 ∧ z__law_add K C { nx := fun _ Δ' => P .non Δ', rt := P } (startZ ["one", "two"] ds) Δ
/-- _law_may(rows, up, width, frozen); slots 0:rows 1:up 2:width 3:frozen 4:free 5:total 6:rest 7:k 8:parts 9:sizes 10:excess 11:weight 12:chosen -/
def z__law_may (K : PySem.W.Frag) (C : CI) : ZS := zSeq (zAsg (zLc (ziR1 (zCons (zCB zLen (zCons (zVar 0) (zNil))) (zNil))) (zgName 7) (zTest (zOp zNotInD (zVar 7) (zVar 3))) (zVar 7) [7]) (zgName 4))
    (zSeq (zAsg (zCB zSum (zCons (zLc (ziList (zVar 4)) (zgName 7) (zYes) (zOp zIx (zOp zIx (zVar 0) (zVar 7)) (zIf (zTest (zVar 1)) (zC (.int 3)) (zC (.int 4)))) [7]) (zNil))) (zgName 5))
    (zSeq (zAsg (zCall (W__law_minus K C) [] (zCons (zVar 2) (zCons (zTup (zCons (zCB zSum (zCons (zLc (ziList (zVar 4)) (zgName 7) (zYes) (zOp zIx (zOp zIx (zVar 0) (zVar 7)) (zC (.int 0))) [7]) (zNil))) (zCons (zC (.int 1)) (zNil)))) (zNil)))) (zgName 6))
    (zSeq (zFor (ziList (zCB zSortD (zCons (zVar 3) (zNil)))) (zgName 7) (zAsg (zCall (W__law_minus K C) [] (zCons (zVar 6) (zCons (zDGet (zVar 3) (zVar 7)) (zNil)))) (zgName 6)))
    (zSeq (zAsg (zTup (zCons (zDNewC) (zCons (zDNewC) (zCons (zTup (zCons (zC (.int 0)) (zCons (zC (.int 1)) (zNil)))) (zNil))))) (zgTup 3 (zgCons (zgName 8) (zgCons (zgName 9) (zgCons (zgName 10) (zgNil))))))
    (zSeq (zFor (ziList (zVar 4)) (zgName 7) (zSeq (zAsg (zOp zIx (zOp zIx (zVar 0) (zVar 7)) (zIf (zTest (zVar 1)) (zC (.int 3)) (zC (.int 4)))) (zgName 11))
    (zSeq (zDPut (zVar 8) (zVar 7) (zCall (W__law_add K C) [] (zCons (zTup (zCons (zOp zIx (zOp zIx (zVar 0) (zVar 7)) (zC (.int 0))) (zCons (zC (.int 1)) (zNil)))) (zCons (zCall (W__law_ratio K C) [] (zCons (zOp (zI MulOk fun i j => .int (i * j)) (zOp zIx (zVar 6) (zC (.int 0))) (zVar 11)) (zCons (zOp (zI MulOk fun i j => .int (i * j)) (zOp zIx (zVar 6) (zC (.int 1))) (zVar 5)) (zNil)))) (zNil)))))
    (zSeq (zDPut (zVar 9) (zVar 7) (zCall (W__law_limited K C) [] (zCons (zDGet (zVar 8) (zVar 7)) (zCons (zOp zIx (zVar 0) (zVar 7)) (zNil)))))
    (zAsg (zCall (W__law_add K C) [] (zCons (zVar 10) (zCons (zCall (W__law_minus K C) [] (zCons (zDGet (zVar 9) (zVar 7)) (zCons (zDGet (zVar 8) (zVar 7)) (zNil)))) (zNil)))) (zgName 10))))))
    (zSeq (zIfS (zTest (zOp zEq (zOp zIx (zVar 10) (zC (.int 0))) (zC (.int 0)))) (zRet (zVar 9)) (zNext))
    (zSeq (zAsg (zLc (ziList (zVar 4)) (zgName 7) (zTest (zOp (zI0 fun i j => .bl (decide (j < i))) (zOp (zI MulOk fun i j => .int (i * j)) (zCall (W__law_order K C) [] (zCons (zDGet (zVar 9) (zVar 7)) (zCons (zDGet (zVar 8) (zVar 7)) (zNil)))) (zOp zIx (zVar 10) (zC (.int 0)))) (zC (.int 0)))) (zVar 7) [7]) (zgName 12))
    (zRet (zCB zDictPC (zCons (zLc (ziList (zVar 12)) (zgName 7) (zYes) (zTup (zCons (zVar 7) (zCons (zDGet (zVar 9) (zVar 7)) (zNil)))) [7]) (zNil)))))))))))
def W__law_may (K : PySem.W.Frag) (C : CI) : ZRC := fun ds Δ P => ds.length = 4 ∧ z__law_may K C { nx := fun _ Δ' => P .non Δ', rt := P } (startZ ["rows", "up", "width", "frozen", "free", "total", "rest", "k", "parts", "sizes", "excess", "weight", "chosen"] ds) Δ
/-- _law_rounds(rows, width); slots 0:rows 1:width 2:up 3:frozen 4:found 5:some 6:k -/
def z__law_rounds (K : PySem.W.Frag) (C : CI) : ZS := zSeq (zAsg (zCall (W__law_begin K C) [] (zCons (zVar 0) (zCons (zVar 1) (zNil)))) (zgTup 2 (zgCons (zgName 2) (zgCons (zgName 3) (zgNil)))))
    (zSeq (zAsg (zLstC (zCons (zCB zSortD (zCons (zVar 3) (zNil))) (zNil))) (zgName 4))
    (zSeq (zWhile (zTest (zOp (zI0 fun i j => .bl (decide (i < j))) (zCB zLenD (zCons (zVar 3) (zNil))) (zCB zLen (zCons (zVar 0) (zNil))))) (zSeq (zAsg (zCallBD (W__law_may K C) (zCons (zVar 0) (zCons (zVar 2) (zCons (zVar 1) (zCons (zVar 3) (zNil)))))) (zgName 5))
    (zSeq (zDrop (zAppend (zVar 4) (zCons (zCB zSortD (zCons (zVar 5) (zNil))) (zNil))))
    (zFor (ziList (zOp zIx (zVar 4) (zUn zNeg (zC (.int 1))))) (zgName 6) (zDPut (zVar 3) (zVar 6) (zDGet (zVar 5) (zVar 6)))))))
    (zRet (zTup (zCons (zVar 4) (zCons (zLc (ziR1 (zCons (zCB zLen (zCons (zVar 0) (zNil))) (zNil))) (zgName 6) (zYes) (zDGet (zVar 3) (zVar 6)) [6]) (zNil)))))))
def W__law_rounds (K : PySem.W.Frag) (C : CI) : ZRC := fun ds Δ P => ds.length = 2 ∧ z__law_rounds K C { nx := fun _ Δ' => P .non Δ', rt := P } (startZ ["rows", "width", "up", "frozen", "found", "some", "k"] ds) Δ
/-- check_boxes(boxes); slots 0:boxes 1:box -/
def z_check_boxes (K : PySem.W.Frag) (C : CI) : ZS := zSeq (zIfS (zOr (zNot (zTest (zCB (zIsi K C) (zCons (zVar 0) (zCons (zC (.ty "list")) (zNil)))))) (zNot (zTest (zChain (zI0 fun i j => .bl (decide (i ≤ j))) (zI0 fun i j => .bl (decide (i ≤ j))) (zC (.int 1)) (zCB zLen (zCons (zVar 0) (zNil))) (zC (.int 40)))))) (zNever) (zNext))
    (zIfS (zNot (zTest (zCB zAll (zCons (zLc (ziList (zVar 0)) (zgName 1) (zYes) (zCB (zIsi K C) (zCons (zVar 1) (zCons (zC (.cls 0)) (zNil)))) [1]) (zNil))))) (zNever) (zNext))
def W_check_boxes (K : PySem.W.Frag) (C : CI) : ZRC := fun ds Δ P => ds.length = 1 ∧ z_check_boxes K C { nx := fun _ Δ' => P .non Δ', rt := P } (startZ ["boxes", "box"] ds) Δ
/-- is_fraction(value); slots 0:value 1:p 2:q -/
def z_is_fraction (K : PySem.W.Frag) (C : CI) : ZS := zSeq (zIfS (zOr (zNot (zTest (zCB (zIsi K C) (zCons (zVar 0) (zCons (zC (.ty "tuple")) (zNil)))))) (zTest (zOp zNe (zCB zLen (zCons (zVar 0) (zNil))) (zC (.int 2))))) (zRet (zC (.bl false))) (zNext))
    (zSeq (zAsg (zVar 0) (zgTup 2 (zgCons (zgName 1) (zgCons (zgName 2) (zgNil)))))
    (zRet (zAndV (zCall (W_is_int K C) [] (zCons (zVar 1) (zNil))) (zAndV (zCall (W_is_int K C) [] (zCons (zVar 2) (zNil))) (zAndV (zOp (zI0 fun i j => .bl (decide (j ≤ i))) (zVar 2) (zC (.int 1))) (zOp zEq (zCB zGcd (zCons (zVar 1) (zCons (zVar 2) (zNil)))) (zC (.int 1))))))))
def W_is_fraction (K : PySem.W.Frag) (C : CI) : ZRC := fun ds Δ P => ds.length = 1 ∧ z_is_fraction K C { nx := fun _ Δ' => P .non Δ', rt := P } (startZ ["value", "p", "q"] ds) Δ
/-- is_rational(value); slots 0:value -/
def z_is_rational (K : PySem.W.Frag) (C : CI) : ZS := zRet (zOrV (zCall (W_is_int K C) [] (zCons (zVar 0) (zNil))) (zCall (W_is_fraction K C) [] (zCons (zVar 0) (zNil))))
def W_is_rational (K : PySem.W.Frag) (C : CI) : ZRC := fun ds Δ P => ds.length = 1 ∧ z_is_rational K C { nx := fun _ Δ' => P .non Δ', rt := P } (startZ ["value"] ds) Δ
/-- as_fraction(value); slots 0:value -/
def z_as_fraction (K : PySem.W.Frag) (C : CI) : ZS := zRet (zIf (zTest (zCB (zIsi K C) (zCons (zVar 0) (zCons (zC (.ty "tuple")) (zNil))))) (zVar 0) (zTup (zCons (zVar 0) (zCons (zC (.int 1)) (zNil)))))
def W_as_fraction (K : PySem.W.Frag) (C : CI) : ZRC := fun ds Δ P => ds.length = 1 ∧ z_as_fraction K C { nx := fun _ Δ' => P .non Δ', rt := P } (startZ ["value"] ds) Δ
/-- check_width(width); slots 0:width -/
def z_check_width (K : PySem.W.Frag) (C : CI) : ZS := zIfS (zOr (zNot (zTest (zCall (W_is_rational K C) [] (zCons (zVar 0) (zNil))))) (zTest (zOp (zI0 fun i j => .bl (decide (i < j))) (zOp zIx (zCall (W_as_fraction K C) [] (zCons (zVar 0) (zNil))) (zC (.int 0))) (zC (.int 0))))) (zNever) (zNext)
def W_check_width (K : PySem.W.Frag) (C : CI) : ZRC := fun ds Δ P => ds.length = 1 ∧ z_check_width K C { nx := fun _ Δ' => P .non Δ', rt := P } (startZ ["width"] ds) Δ
/-- order(one, two); slots 0:one 1:two -/
def z_order (K : PySem.W.Frag) (C : CI) : ZS := zRet (zOp (zI0 fun i j => .int (i - j)) (zOp (zI MulOk fun i j => .int (i * j)) (zOp zIx (zVar 0) (zC (.int 0))) (zOp zIx (zVar 1) (zC (.int 1)))) (zOp (zI MulOk fun i j => .int (i * j)) (zOp zIx (zVar 1) (zC (.int 0))) (zOp zIx (zVar 0) (zC (.int 1)))))
def W_order (K : PySem.W.Frag) (C : CI) : ZRC := fun ds Δ P => ds.length = 2 ∧ z_order K C { nx := fun _ Δ' => P .non Δ', rt := P } (startZ ["one", "two"] ds) Δ
/-- limited(value, least, most); slots 0:value 1:least 2:most -/
def z_limited (K : PySem.W.Frag) (C : CI) : ZS := zSeq (zIfS (zTest (zOp (zI0 fun i j => .bl (decide (i < j))) (zVar 0) (zVar 1))) (zRet (zVar 1)) (zNext))
    (zSeq (zIfS (zAnd (zTest (zOp zNotN (zVar 2) (zC .non))) (zTest (zOp (zI0 fun i j => .bl (decide (j < i))) (zVar 0) (zVar 2)))) (zRet (zVar 2)) (zNext))
    (zRet (zVar 0)))
def W_limited (K : PySem.W.Frag) (C : CI) : ZRC := fun ds Δ P => ds.length = 3 ∧ z_limited K C { nx := fun _ Δ' => P .non Δ', rt := P } (startZ ["value", "least", "most"] ds) Δ
/-- Box.own(self); slots 0:self -/
def z_Box_own (K : PySem.W.Frag) (C : CI) : ZS := zRet (zCall (W_limited K C) [] (zCons (zFld C 0 (Str.ofString "_wish") (zVar 0)) (zCons (zFld C 0 (Str.ofString "_least") (zVar 0)) (zCons (zFld C 0 (Str.ofString "_most") (zVar 0)) (zNil)))))
def W_Box_own (K : PySem.W.Frag) (C : CI) : ZRC := fun ds Δ P => ds.length = 1 ∧ z_Box_own K C { nx := fun _ Δ' => P .non Δ', rt := P } (startZ ["self"] ds) Δ
/-- own_width(boxes); slots 0:boxes 1:box -/
def z_own_width (K : PySem.W.Frag) (C : CI) : ZS := zSeq (zDrop (zCall (W_check_boxes K C) [] (zCons (zVar 0) (zNil))))
    (zRet (zCB zSum (zCons (zLc (ziList (zVar 0)) (zgName 1) (zYes) (zProp 0 (W_Box_own K C) (zVar 1)) [1]) (zNil))))
def W_own_width (K : PySem.W.Frag) (C : CI) : ZRC := fun ds Δ P => ds.length = 1 ∧ z_own_width K C { nx := fun _ Δ' => P .non Δ', rt := P } (startZ ["boxes", "box"] ds) Δ
/-- does_grow(boxes, width); slots 0:boxes 1:width -/
def z_does_grow (K : PySem.W.Frag) (C : CI) : ZS := zRet (zOp (zI0 fun i j => .bl (decide (i ≤ j))) (zCall (W_order K C) [] (zCons (zTup (zCons (zCall (W_own_width K C) [] (zCons (zVar 0) (zNil))) (zCons (zC (.int 1)) (zNil)))) (zCons (zVar 1) (zNil)))) (zC (.int 0)))
def W_does_grow (K : PySem.W.Frag) (C : CI) : ZRC := fun ds Δ P => ds.length = 2 ∧ z_does_grow K C { nx := fun _ Δ' => P .non Δ', rt := P } (startZ ["boxes", "width"] ds) Δ
/-- weight_of(box, grows); slots 0:box 1:grows -/
def z_weight_of (K : PySem.W.Frag) (C : CI) : ZS := zRet (zIf (zTest (zVar 1)) (zProp 0 (W_Box_grow K C) (zVar 0)) (zProp 0 (W_Box_shrink K C) (zVar 0)))
def W_weight_of (K : PySem.W.Frag) (C : CI) : ZRC := fun ds Δ P => ds.length = 2 ∧ z_weight_of K C { nx := fun _ Δ' => P .non Δ', rt := P } (startZ ["box", "grows"] ds) Δ
/-- is_frozen_first(box, grows); slots 0:box 1:grows -/
def z_is_frozen_first (K : PySem.W.Frag) (C : CI) : ZS := zSeq (zIfS (zTest (zOp zEq (zCall (W_weight_of K C) [] (zCons (zVar 0) (zCons (zVar 1) (zNil)))) (zC (.int 0)))) (zRet (zC (.bl true))) (zNext))
    (zSeq (zIfS (zTest (zVar 1)) (zRet (zAndV (zOp zNotN (zProp 0 (W_Box_most K C) (zVar 0)) (zC .non)) (zOp (zI0 fun i j => .bl (decide (j < i))) (zProp 0 (W_Box_wish K C) (zVar 0)) (zProp 0 (W_Box_most K C) (zVar 0))))) (zNext))
    (zRet (zOp (zI0 fun i j => .bl (decide (i < j))) (zProp 0 (W_Box_wish K C) (zVar 0)) (zProp 0 (W_Box_least K C) (zVar 0)))))
def W_is_frozen_first (K : PySem.W.Frag) (C : CI) : ZRC := fun ds Δ P => ds.length = 2 ∧ z_is_frozen_first K C { nx := fun _ Δ' => P .non Δ', rt := P } (startZ ["box", "grows"] ds) Δ
/-- first_sizes(boxes, grows); slots 0:boxes 1:grows 2:index 3:box -/
def z_first_sizes (K : PySem.W.Frag) (C : CI) : ZS := zRet (zDcC (ziEnum (zCons (zVar 0) (zNil))) (zgTup 2 (zgCons (zgName 2) (zgCons (zgName 3) (zgNil)))) (zTest (zCall (W_is_frozen_first K C) [] (zCons (zVar 3) (zCons (zVar 1) (zNil))))) (zVar 2) (zTup (zCons (zProp 0 (W_Box_own K C) (zVar 3)) (zCons (zC (.int 1)) (zNil)))) [2, 3])
def W_first_sizes (K : PySem.W.Frag) (C : CI) : ZRC := fun ds Δ P => ds.length = 2 ∧ z_first_sizes K C { nx := fun _ Δ' => P .non Δ', rt := P } (startZ ["boxes", "grows", "index", "box"] ds) Δ
/-- lowest(p, q); slots 0:p 1:q 2:common -/
def z_lowest (K : PySem.W.Frag) (C : CI) : ZS := zSeq (zAsg (zCB zGcd (zCons (zVar 0) (zCons (zVar 1) (zNil)))) (zgName 2))
    (zRet (zTup (zCons (zOp (zI CDivW fun i j => .int (i / j)) (zVar 0) (zVar 2)) (zCons (zOp (zI CDivW fun i j => .int (i / j)) (zVar 1) (zVar 2)) (zNil)))))
def W_lowest (K : PySem.W.Frag) (C : CI) : ZRC := fun ds Δ P => ds.length = 2 ∧ z_lowest K C { nx := fun _ Δ' => P .non Δ', rt := P } (startZ ["p", "q", "common"] ds) Δ
/-- plus(one, two); slots 0:one 1:two -/
def z_plus (K : PySem.W.Frag) (C : CI) : ZS := zRet (zCall (W_lowest K C) [] (zCons (zOp (zI0 fun i j => .int (i + j)) (zOp (zI MulOk fun i j => .int (i * j)) (zOp zIx (zVar 0) (zC (.int 0))) (zOp zIx (zVar 1) (zC (.int 1)))) (zOp (zI MulOk fun i j => .int (i * j)) (zOp zIx (zVar 1) (zC (.int 0))) (zOp zIx (zVar 0) (zC (.int 1))))) (zCons (zOp (zI MulOk fun i j => .int (i * j)) (zOp zIx (zVar 0) (zC (.int 1))) (zOp zIx (zVar 1) (zC (.int 1)))) (zNil))))
def W_plus (K : PySem.W.Frag) (C : CI) : ZRC := fun ds Δ P => ds.length = 2 ∧ z_plus K C { nx := fun _ Δ' => P .non Δ', rt := P } (startZ ["one", "two"] ds) Δ
/-- minus(one, two); slots 0:one 1:two -/
def z_minus (K : PySem.W.Frag) (C : CI) : ZS := zRet (zCall (W_lowest K C) [] (zCons (zOp (zI0 fun i j => .int (i - j)) (zOp (zI MulOk fun i j => .int (i * j)) (zOp zIx (zVar 0) (zC (.int 0))) (zOp zIx (zVar 1) (zC (.int 1)))) (zOp (zI MulOk fun i j => .int (i * j)) (zOp zIx (zVar 1) (zC (.int 0))) (zOp zIx (zVar 0) (zC (.int 1))))) (zCons (zOp (zI MulOk fun i j => .int (i * j)) (zOp zIx (zVar 0) (zC (.int 1))) (zOp zIx (zVar 1) (zC (.int 1)))) (zNil))))
def W_minus (K : PySem.W.Frag) (C : CI) : ZRC := fun ds Δ P => ds.length = 2 ∧ z_minus K C { nx := fun _ Δ' => P .non Δ', rt := P } (startZ ["one", "two"] ds) Δ
/-- common_level(free, width, grows, frozen); slots 0:free 1:width 2:grows 3:frozen 4:taken 5:size 6:p 7:q 8:box -/
def z_common_level (K : PySem.W.Frag) (C : CI) : ZS := zSeq (zAsg (zC (.ktup [0, 1])) (zgName 4))
    (zSeq (zForV 3 (zgName 5) (zAsg (zCall (W_plus K C) [] (zCons (zVar 4) (zCons (zVar 5) (zNil)))) (zgName 4)))
    (zSeq (zAsg (zCall (W_minus K C) [] (zCons (zCall (W_minus K C) [] (zCons (zVar 1) (zCons (zVar 4) (zNil)))) (zCons (zTup (zCons (zCB zSum (zCons (zLc (ziList (zVar 0)) (zgName 8) (zYes) (zProp 0 (W_Box_wish K C) (zVar 8)) [8]) (zNil))) (zCons (zC (.int 1)) (zNil)))) (zNil)))) (zgTup 2 (zgCons (zgName 6) (zgCons (zgName 7) (zgNil)))))
    (zRet (zCall (W_lowest K C) [] (zCons (zVar 6) (zCons (zOp (zI MulOk fun i j => .int (i * j)) (zVar 7) (zCB zSum (zCons (zLc (ziList (zVar 0)) (zgName 8) (zYes) (zCall (W_weight_of K C) [] (zCons (zVar 8) (zCons (zVar 2) (zNil)))) [8]) (zNil)))) (zNil)))))))
def W_common_level (K : PySem.W.Frag) (C : CI) : ZRC := fun ds Δ P => ds.length = 4 ∧ z_common_level K C { nx := fun _ Δ' => P .non Δ', rt := P } (startZ ["free", "width", "grows", "frozen", "taken", "size", "p", "q", "box"] ds) Δ
/-- next_sizes(boxes, width, grows, frozen); slots 0:boxes 1:width 2:grows 3:frozen 4:free 5:p 6:q 7:sizes 8:excess 9:index 10:box 11:due 12:size 13:total -/
def z_next_sizes (K : PySem.W.Frag) (C : CI) : ZS := zSeq (zAsg (zLc (ziR1 (zCons (zCB zLen (zCons (zVar 0) (zNil))) (zNil))) (zgName 9) (zTest (zOp zNotInD (zVar 9) (zVar 3))) (zVar 9) [9]) (zgName 4))
    (zSeq (zAsg (zCall (W_common_level K C) [] (zCons (zLc (ziList (zVar 4)) (zgName 9) (zYes) (zOp zIx (zVar 0) (zVar 9)) [9]) (zCons (zVar 1) (zCons (zVar 2) (zCons (zVar 3) (zNil)))))) (zgTup 2 (zgCons (zgName 5) (zgCons (zgName 6) (zgNil)))))
    (zSeq (zAsg (zTup (zCons (zDNewC) (zCons (zDNewC) (zNil)))) (zgTup 2 (zgCons (zgName 7) (zgCons (zgName 8) (zgNil)))))
    (zSeq (zFor (ziList (zVar 4)) (zgName 9) (zSeq (zAsg (zOp zIx (zVar 0) (zVar 9)) (zgName 10))
    (zSeq (zAsg (zOp (zI0 fun i j => .int (i + j)) (zOp (zI MulOk fun i j => .int (i * j)) (zProp 0 (W_Box_wish K C) (zVar 10)) (zVar 6)) (zOp (zI MulOk fun i j => .int (i * j)) (zVar 5) (zCall (W_weight_of K C) [] (zCons (zVar 10) (zCons (zVar 2) (zNil)))))) (zgName 11))
    (zSeq (zAsg (zCall (W_limited K C) [] (zCons (zVar 11) (zCons (zOp (zI MulOk fun i j => .int (i * j)) (zProp 0 (W_Box_least K C) (zVar 10)) (zVar 6)) (zCons (zIf (zTest (zOp zIsN (zProp 0 (W_Box_most K C) (zVar 10)) (zC .non))) (zC .non) (zOp (zI MulOk fun i j => .int (i * j)) (zProp 0 (W_Box_most K C) (zVar 10)) (zVar 6))) (zNil))))) (zgName 12))
    (zSeq (zDPut (zVar 7) (zVar 9) (zCall (W_lowest K C) [] (zCons (zVar 12) (zCons (zVar 6) (zNil)))))
    (zDPut (zVar 8) (zVar 9) (zOp (zI0 fun i j => .int (i - j)) (zVar 12) (zVar 11))))))))
    (zSeq (zAsg (zCB zSum (zCons (zListV (zVar 8)) (zNil))) (zgName 13))
    (zSeq (zIfS (zTest (zOp (zI0 fun i j => .bl (decide (j < i))) (zVar 13) (zC (.int 0)))) (zRet (zDcC (ziList (zVar 4)) (zgName 9) (zTest (zOp (zI0 fun i j => .bl (decide (j < i))) (zDGet (zVar 8) (zVar 9)) (zC (.int 0)))) (zVar 9) (zDGet (zVar 7) (zVar 9)) [9])) (zNext))
    (zSeq (zIfS (zTest (zOp (zI0 fun i j => .bl (decide (i < j))) (zVar 13) (zC (.int 0)))) (zRet (zDcC (ziList (zVar 4)) (zgName 9) (zTest (zOp (zI0 fun i j => .bl (decide (i < j))) (zDGet (zVar 8) (zVar 9)) (zC (.int 0)))) (zVar 9) (zDGet (zVar 7) (zVar 9)) [9])) (zNext))
    (zRet (zVar 7))))))))
def W_next_sizes (K : PySem.W.Frag) (C : CI) : ZRC := fun ds Δ P => ds.length = 4 ∧ z_next_sizes K C { nx := fun _ Δ' => P .non Δ', rt := P } (startZ ["boxes", "width", "grows", "frozen", "free", "p", "q", "sizes", "excess", "index", "box", "due", "size", "total"] ds) Δ
/-- rounds(boxes, width); slots 0:boxes 1:width 2:given 3:grows 4:frozen 5:found 6:sizes -/
def z_rounds (K : PySem.W.Frag) (C : CI) : ZS := zSeq (zDrop (zCallB (W_check_boxes K C) (zCons (zVar 0) (zNil))))
    (zSeq (zDrop (zCall (W_check_width K C) [] (zCons (zVar 1) (zNil))))
    (zSeq (zAsg (zCall (W_as_fraction K C) [] (zCons (zVar 1) (zNil))) (zgName 2))
    (zSeq (zAsg (zCallB (W_does_grow K C) (zCons (zVar 0) (zCons (zVar 2) (zNil)))) (zgName 3))
    (zSeq (zAsg (zCallBDC (W_first_sizes K C) (zCons (zVar 0) (zCons (zVar 3) (zNil)))) (zgName 4))
    (zSeq (zAsg (zLstC (zCons (zCB zSortD (zCons (zVar 4) (zNil))) (zNil))) (zgName 5))
    (zSeq (zWhile (zTest (zOp (zI0 fun i j => .bl (decide (i < j))) (zCB zLenD (zCons (zVar 4) (zNil))) (zCB zLen (zCons (zVar 0) (zNil))))) (zSeq (zAsg (zCallBD (W_next_sizes K C) (zCons (zVar 0) (zCons (zVar 2) (zCons (zVar 3) (zCons (zVar 4) (zNil)))))) (zgName 6))
    (zSeq (zDrop (zUpdD (zVar 4) (zCons (zVar 6) (zNil))))
    (zDrop (zAppend (zVar 5) (zCons (zCB zSortD (zCons (zVar 6) (zNil))) (zNil)))))))
    (zRet (zVar 5))))))))
def W_rounds (K : PySem.W.Frag) (C : CI) : ZRC := fun ds Δ P => ds.length = 2 ∧ z_rounds K C { nx := fun _ Δ' => P .non Δ', rt := P } (startZ ["boxes", "width", "given", "grows", "frozen", "found", "sizes"] ds) Δ
/-- _law_right(number); slots 0:number 1:found 2:boxes 3:width 4:rows 5:due 6:sizes 7:box -/
def z__law_right (K : PySem.W.Frag) (C : CI) : ZS := zSeq (zAsg (zCall (W_hard_row K C) [] (zCons (zVar 0) (zNil))) (zgName 1))
    (zSeq (zIfS (zOr (zNot (zTest (zCB (zIsi K C) (zCons (zVar 1) (zCons (zC (.ty "tuple")) (zNil)))))) (zOr (zTest (zOp zNeD (zCB zLen (zCons (zVar 1) (zNil))) (zC (.int 2)))) (zNot (zTest (zCB (zIsi K C) (zCons (zOp zIx (zVar 1) (zC (.int 0))) (zCons (zC (.ty "list")) (zNil)))))))) (zRet (zC (.bl false))) (zNext))
    (zSeq (zAsg (zVar 1) (zgTup 2 (zgCons (zgName 2) (zgCons (zgName 3) (zgNil)))))
    (zSeq (zIfS (zOr (zTest (zCB (zIsi K C) (zCons (zVar 3) (zCons (zC (.ty "bool")) (zNil))))) (zOr (zNot (zTest (zCB (zIsi K C) (zCons (zVar 3) (zCons (zC (.ty "int")) (zNil)))))) (zOr (zTest (zOp (zI0 fun i j => .bl (decide (i < j))) (zVar 3) (zC (.int 0)))) (zTest (zOp zNeD (zCB zLen (zCons (zVar 2) (zNil))) (zVar 0)))))) (zRet (zC (.bl false))) (zNext))
    (zSeq (zIfS (zLendT (zTest (zOp zNeD (zLendL (zLcC (ziList (zVar 2)) (zgName 7) (zNot (zTest (zCB (zIsi K C) (zCons (zVar 7) (zCons (zC (.cls 0)) (zNil)))))) (zVar 7) [7])) (zLst (zNil))))) (zRet (zC (.bl false))) (zNext))
    (zSeq (zAsg (zLendL (zLcC (ziList (zVar 2)) (zgName 7) (zYes) (zTup (zCons (zProp 0 (W_Box_wish K C) (zVar 7)) (zCons (zProp 0 (W_Box_least K C) (zVar 7)) (zCons (zProp 0 (W_Box_most K C) (zVar 7)) (zCons (zProp 0 (W_Box_grow K C) (zVar 7)) (zCons (zProp 0 (W_Box_shrink K C) (zVar 7)) (zNil))))))) [7])) (zgName 4))
    (zSeq (zAsg (zCall (W__law_rounds K C) [] (zCons (zVar 4) (zCons (zTup (zCons (zVar 3) (zCons (zC (.int 1)) (zNil)))) (zNil)))) (zgTup 2 (zgCons (zgName 5) (zgCons (zgName 6) (zgNil)))))
    (zSeq (zIfS (zOr (zTest (zOp zNeD (zCB zLen (zCons (zVar 5) (zNil))) (zOp (zI0 fun i j => .int (i + j)) (zVar 0) (zC (.int 1))))) (zTest (zOp zNeD (zCall (W_rounds K C) [] (zCons (zVar 2) (zCons (zVar 3) (zNil)))) (zVar 5)))) (zRet (zC (.bl false))) (zNext))
    (zSeq (zDrop (zAppend (zOp zIx (zVar 1) (zC (.int 0))) (zCons (zC .non) (zNil))))
    (zRet (zOp zEqD (zCB zLen (zCons (zOp zIx (zCall (W_hard_row K C) [] (zCons (zVar 0) (zNil))) (zC (.int 0))) (zNil))) (zVar 0)))))))))))
def W__law_right (K : PySem.W.Frag) (C : CI) : ZRC := fun ds Δ P => ds.length = 1 ∧ z__law_right K C { nx := fun _ Δ' => P .non Δ', rt := P } (startZ ["number", "found", "boxes", "width", "rows", "due", "sizes", "box"] ds) Δ
/-- law(script); slots 0:script 1:bag 2:numbers 3:k 4:number -/
def z_law (K : PySem.W.Frag) (C : CI) : ZS := zSeq (zAsg (zCall (W__law_bag K C) [] (zCons (zOp zIx (zOp zCatS (zVar 0) (zLst (zCons (zC (.int 0)) (zNil)))) (zC (.int 0))) (zNil))) (zgName 1))
    (zSeq (zAsg (zOp zCat (zLst (zCons (zC (.int 1)) (zCons (zC (.int 2)) (zCons (zC (.int 3)) (zCons (zC (.int 40)) (zNil)))))) (zLc (ziR1 (zCons (zC (.int 6)) (zNil))) (zgName 3) (zYes) (zOp (zI0 fun i j => .int (i + j)) (zC (.int 1)) (zCall (W__law_pick K C) [] (zCons (zVar 1) (zCons (zC (.int 40)) (zNil))))) [3])) (zgName 2))
    (zRet (zOp zEqD (zLc (ziList (zVar 2)) (zgName 4) (zNot (zTest (zCall (W__law_right K C) [] (zCons (zVar 4) (zNil))))) (zVar 4) [4]) (zLst (zNil)))))
def W_law (K : PySem.W.Frag) (C : CI) : ZRC := fun ds Δ P => ds.length = 1 ∧ z_law K C { nx := fun _ Δ' => P .non Δ', rt := P } (startZ ["script", "bag", "numbers", "k", "number"] ds) Δ
end
end Bx

namespace Bx
open PySem PySem.Spec PyProof.Rows L2 Z
local macro_rules | `(tactic| walk_at "zz") => `(tactic| simp only [zSeq, zAsg, zRet, zRetN, zIfS, zNext, zDrop, zPar, zVar, zC, zOp, zUn, zNeg, zI0, zI, zTest, zAnd, zOr, zNot, zAndV, zOrV, zNotV, zIf, zNil, zCons, zTup, zLst, zLstC, zgName, zgTup, zgCons, zgNil, zgSub, startZ, zCall, zCB, zChain, zIsN, zNotN, zNever,
  zAddA, zMulA, zRepeat, zCat, zIx, seqD, lstD, zMax2, zMin2, zAbs, zLen, zSum, zGcd, zInt, zYes, zBreak, zCont, zLc, ziR1, ziR2, ziList, ziTup, ziZip, ziEnum, wipeZ, zFor,
  at0, at1, at2, at3, at4, ix2_3, ix0_3, isNon_int, isNon_non, Bool.not_true, Bool.not_false,
  List.map_cons, List.map_nil, List.length_cons, List.length_nil, List.replicate_succ, List.replicate_zero, List.append_nil, List.nil_append, List.cons_append, List.getElem?_cons_zero, List.getElem?_cons_succ, List.set_cons_zero, List.set_cons_succ,
  Option.some.injEq, D.int.injEq, D.bl.injEq, D.tup.injEq, D.lst.injEq, D.str.injEq, D.cell.injEq, O.lst.injEq, reduceCtorEq, exists_eq_left', exists_eq_left, false_and, and_false, true_and, and_true, exists_false, or_false, false_or, exists_and_left, exists_eq', exists_and_right, List.cons.injEq, and_assoc, dec_not, dec_yes, t_t, t_f, f_t, f_f, true_implies, false_implies, implies_true, and_self, Nat.reduceAdd, Nat.reduceLeDiff, Nat.reduceSub, Nat.reduceLT])
local macro_rules | `(tactic| walk_at "zy") => `(tactic| try simp only [Option.some.injEq, D.int.injEq, D.bl.injEq, D.tup.injEq, D.lst.injEq, D.str.injEq, D.cell.injEq, O.lst.injEq, reduceCtorEq, exists_eq_left', exists_eq_left, false_and, and_false, true_and, and_true, exists_false, or_false, false_or, exists_and_left, exists_eq', exists_and_right, List.cons.injEq, and_assoc, dec_not, dec_yes, t_t, t_f, f_t, f_f, true_implies, false_implies, implies_true, and_self])
/-! ### the bag: three ints in a cell, the first one not negative -/
def BagAt (Δ : Store) (n : Nat) : Prop := ∃ x y z : Int, Δ[n]? = some (.lst [.int x, .int y, .int z]) ∧ 0 ≤ x
structure Off (n : Nat) (Δ Δ' : Store) : Prop where
  len : Δ'.length = Δ.length
  at_ : ∀ m, m ≠ n → Δ'[m]? = Δ[m]?
theorem Off.refl (n : Nat) (Δ : Store) : Off n Δ Δ := ⟨rfl, fun _ _ => rfl⟩
theorem Off.trans {n : Nat} {Δ Δ1 Δ2 : Store} (a : Off n Δ Δ1) (b : Off n Δ1 Δ2) : Off n Δ Δ2 := ⟨b.len.trans a.len, fun m h => (b.at_ m h).trans (a.at_ m h)⟩
theorem Off.set (n : Nat) (Δ : Store) (o : O) : Off n Δ (Δ.set n o) := ⟨by rw [List.length_set], fun m h => by rw [List.getElem?_set_ne (Ne.symm h)]⟩
theorem set_get {Δ : Store} {n : Nat} {o : O} (h : Δ[n]? = some o) (o' : O) : (Δ.set n o')[n]? = some o' := List.getElem?_set_self (List.getElem?_eq_some_iff.mp h).1
theorem bag_ok {K : PySem.W.Frag} {C : CI} {c : Int} {Δ : Store} {P : D → Store → Prop} (h : ∀ Δ', Δ' = Δ ++ [.lst [.int (if c - 10 ^ 18 > 0 then c - 10 ^ 18 else 0), .int c, .int 0]] → BagAt Δ' Δ.length → P (.cell Δ.length) Δ') : W__law_bag K C [.int c] Δ P := by
  unfold W__law_bag z__law_bag
  walk_at "zz"
  refine ⟨⟨by decide, by decide, by decide⟩, h _ ?_ ⟨if c - 10 ^ 18 > 0 then c - 10 ^ 18 else 0, c, 0, ?_, ?_⟩⟩
  · congr
  · rw [List.getElem?_append_right (Nat.le_refl _), Nat.sub_self]
    rfl
  · split <;> omega
theorem pick_ok {K : PySem.W.Frag} {C : CI} {n : Nat} {many : Int} {Δ : Store} {P : D → Store → Prop} (hb : BagAt Δ n) (h1 : 1 ≤ many) (h2 : many.natAbs < 2 ^ 8000)
    (h : ∀ k Δ', 0 ≤ k → k < many → BagAt Δ' n → Off n Δ Δ' → P (.int k) Δ') : W__law_pick K C [.cell n, .int many] Δ P := by
  obtain ⟨x, y, z, e, hx⟩ := hb
  have es := set_get e
  have es2 : ∀ o o', ((Δ.set n o).set n o')[n]? = some o' := fun o o' => set_get (es o) o'
  have dv : CDivW x many := wide_div (b := 8000) (by omega) h2 (by decide) (by decide)
  unfold W__law_pick z__law_pick
  walk_at "zz"
  simp only [e, es, List.length_cons, List.length_nil, Nat.reduceAdd, ix2_3, ix0_3, at0, at1, at2, Option.some.injEq, exists_eq_left', List.set_cons_zero, List.set_cons_succ, O.lst.injEq, exists_eq_left, D.int.injEq, D.cell.injEq]
  refine ⟨fun hpos => ⟨by omega, dv, ?_⟩, fun hpos => ?_⟩
  · refine h _ _ (Int.emod_nonneg _ (by omega)) (Int.emod_lt_of_pos _ (by omega)) ⟨x / many, y, z + 1, ?_, Int.ediv_nonneg hx (by omega)⟩ ?_
    · rw [es2]
    · exact (Off.set _ _ _).trans (Off.set _ _ _)
  · have p1 : (0 : Int) < 2147483629 := by decide
    have p2 : (0 : Int) < 2147483647 := by decide
    have p3 : (0 : Int) < 2147483587 := by decide
    generalize hf : (y % 2147483629 * 48271 + (z + 1) * 69621 + 12345) % 2147483647 = f
    have f0 : 0 ≤ f := by rw [← hf]; exact Int.emod_nonneg _ (by decide)
    have f1 : f < 2147483647 := by rw [← hf]; exact Int.emod_lt_of_pos _ (by decide)
    refine ⟨by decide, .r (by decide) (by decide), .r (by decide) (by decide), by decide, .l (by omega) (by omega), .r (by decide) (by decide), by decide, .r (by decide) (by decide), wide_div (b := 8) (by decide) (by decide) (by decide) (by decide), by omega, ?_⟩
    exact h _ _ (Int.emod_nonneg _ (by omega)) (Int.emod_lt_of_pos _ (by omega)) ⟨x, y, z + 1, by rw [es], hx⟩ (Off.set _ _ _)
/-! ### rows: the numbers of a box -/
structure Row where
  w : Int
  l : Int
  m : Option Int
  g : Int
  s : Int
def optD : Option Int → D
  | none => .non
  | some i => .int i
def rowL (r : Row) : List D := [.int r.w, .int r.l, optD r.m, .int r.g, .int r.s]
def rowD (r : Row) : D := .tup [.int r.w, .int r.l, optD r.m, .int r.g, .int r.s]
def boxD (r : Row) : D := .ins 0 [.int r.w, .int r.l, optD r.m, .int r.g, .int r.s]
structure Row.Ok (r : Row) : Prop where
  w0 : 0 ≤ r.w
  w1 : r.w ≤ 10 ^ 30
  l0 : 0 ≤ r.l
  l1 : r.l ≤ 10 ^ 30
  m0 : ∀ i, r.m = some i → r.l ≤ i ∧ i ≤ 10 ^ 30
  g0 : 0 ≤ r.g
  g1 : r.g ≤ 10 ^ 6
  s0 : 0 ≤ r.s
  s1 : r.s ≤ 10 ^ 6
theorem atM {l : List D} {i : Int} (h0 : 0 ≤ i) (h1 : i < l.length) : ∃ d, d ∈ l ∧ atI l i = some d := by
  obtain ⟨d, h, e⟩ := atN h0 h1
  exact ⟨d, List.mem_of_getElem? h, e⟩
theorem natAbs_lt {i : Int} {n : Nat} (h0 : 0 ≤ i) (h : i < (2 : Int) ^ n) : i.natAbs < 2 ^ n := by
  have : ((2 ^ n : Nat) : Int) = (2 : Int) ^ n := by simp
  omega
theorem sm {i : Int} (h0 : 0 ≤ i) (h : i ≤ 10 ^ 31) : i.natAbs < 2 ^ 8000 := Nat.lt_of_lt_of_le (natAbs_lt (n := 110) h0 (Int.lt_of_le_of_lt h (by decide))) (Nat.pow_le_pow_right (by decide) (by decide))
theorem comp_each {zg : ZG} {ze : ZE} {Γ0 : Z.Env} {P : D → Store → Prop} (J : Store → Prop) (R : D → Prop) : ∀ (items acc : List D) (Δ : Store), J Δ → (∀ y ∈ acc, R y) → acc.length + items.length ≤ 100000 →
    (∀ x ∈ items, ∀ Δ (Q : D → Store → Prop), J Δ → (∀ y Δ', J Δ' → R y → Q y Δ') → zg x Γ0 Δ fun Γ2 Δ2 => ze Γ2 Δ2 Q) →
    (∀ ys Δ', J Δ' → (∀ y ∈ ys, R y) → ys.length = acc.length + items.length → P (.lst ys) Δ') → compZ zg zYes ze Γ0 P items acc Δ
  | [], acc, Δ, hj, ha, _, _, h => h acc Δ hj ha rfl
  | x :: xs, acc, Δ, hj, ha, hl, hs, h => by
    have hl' : acc.length + (xs.length + 1) ≤ 100000 := by simpa using hl
    show zg x Γ0 Δ fun Γ2 Δ2 => (true = true → ze Γ2 Δ2 fun y Δ4 => acc.length < 100000 ∧ compZ zg zYes ze Γ0 P xs (acc ++ [y]) Δ4) ∧ (true = false → compZ zg zYes ze Γ0 P xs acc Δ2)
    simp only [true_implies, reduceCtorEq, false_implies, and_true]
    refine hs x List.mem_cons_self Δ _ hj fun y Δ' hj' hy => ⟨by omega, ?_⟩
    refine comp_each J R xs (acc ++ [y]) Δ' hj' (fun z hz => ?_) (by simp; omega) (fun z hz => hs z (List.mem_cons_of_mem _ hz)) fun ys Δ2 h1 h2 h3 => h ys Δ2 h1 h2 (by simp at h3 ⊢; omega)
    rcases List.mem_append.mp hz with hz | hz
    · exact ha z hz
    · rw [List.mem_singleton] at hz
      subst hz
      exact hy
theorem of_rows : ∀ {ys : List D}, (∀ y ∈ ys, ∃ r, Row.Ok r ∧ y = rowD r) → ∃ rows : List Row, ys = rows.map rowD ∧ ∀ r ∈ rows, Row.Ok r
  | [], _ => ⟨[], rfl, fun _ h => nomatch h⟩
  | y :: ys, h => by
    obtain ⟨r, h1, rfl⟩ := h y List.mem_cons_self
    obtain ⟨rows, rfl, h2⟩ := of_rows fun z hz => h z (List.mem_cons_of_mem _ hz)
    exact ⟨r :: rows, rfl, fun z hz => by rcases List.mem_cons.mp hz with rfl | hz; exact h1; exact h2 z hz⟩
end Bx

namespace Bx
open PySem PySem.Spec PyProof.Rows L2 Z
local macro_rules | `(tactic| walk_at "zz") => `(tactic| simp only [zSeq, zAsg, zRet, zRetN, zIfS, zNext, zDrop, zPar, zVar, zC, zOp, zUn, zNeg, zI0, zI, zTest, zAnd, zOr, zNot, zAndV, zOrV, zNotV, zIf, zNil, zCons, zTup, zLst, zLstC, zgName, zgTup, zgCons, zgNil, zgSub, startZ, zCall, zCB, zChain, zIsN, zNotN, zNever,
  zAddA, zMulA, zRepeat, zCat, zIx, seqD, lstD, zMax2, zMin2, zAbs, zLen, zSum, zGcd, zInt, zYes, zBreak, zCont, zLc, ziR1, ziR2, ziList, ziTup, ziZip, ziEnum, wipeZ, zFor,
  at0, at1, at2, at3, at4, ix2_3, ix0_3, isNon_int, isNon_non, Bool.not_true, Bool.not_false,
  List.map_cons, List.map_nil, List.length_cons, List.length_nil, List.replicate_succ, List.replicate_zero, List.append_nil, List.nil_append, List.cons_append, List.getElem?_cons_zero, List.getElem?_cons_succ, List.set_cons_zero, List.set_cons_succ,
  Option.some.injEq, D.int.injEq, D.bl.injEq, D.tup.injEq, D.lst.injEq, D.str.injEq, D.cell.injEq, O.lst.injEq, reduceCtorEq, exists_eq_left', exists_eq_left, false_and, and_false, true_and, and_true, exists_false, or_false, false_or, exists_and_left, exists_eq', exists_and_right, List.cons.injEq, and_assoc, dec_not, dec_yes, t_t, t_f, f_t, f_f, true_implies, false_implies, implies_true, and_self, Nat.reduceAdd, Nat.reduceLeDiff, Nat.reduceSub, Nat.reduceLT])
local macro_rules | `(tactic| walk_at "zy") => `(tactic| try simp only [Option.some.injEq, D.int.injEq, D.bl.injEq, D.tup.injEq, D.lst.injEq, D.str.injEq, D.cell.injEq, O.lst.injEq, reduceCtorEq, exists_eq_left', exists_eq_left, false_and, and_false, true_and, and_true, exists_false, or_false, false_or, exists_and_left, exists_eq', exists_and_right, List.cons.injEq, and_assoc, dec_not, dec_yes, t_t, t_f, f_t, f_f, true_implies, false_implies, implies_true, and_self])
/-! ### fractions -/
def frD (x : Rat) : D := .tup [.int x.num, .int (x.den : Int)]
theorem den_dvd (a b : Int) (hb : b ≠ 0) : (Rat.divInt a b).den = b.natAbs / b.gcd a := by rw [Rat.den_divInt, if_neg hb]
theorem num_le (a b : Int) : (Rat.divInt a b).num.natAbs ≤ a.natAbs := by
  rw [Rat.num_divInt]
  have h1 : (b.sign * a).natAbs ≤ a.natAbs := by
    rw [Int.natAbs_mul]
    have : b.sign.natAbs ≤ 1 := by
      rcases Int.lt_trichotomy b 0 with h | h | h
      · rw [Int.sign_eq_neg_one_of_neg h]; decide
      · rw [h]; decide
      · rw [Int.sign_eq_one_of_pos h]; decide
    calc b.sign.natAbs * a.natAbs ≤ 1 * a.natAbs := Nat.mul_le_mul_right _ this
      _ = a.natAbs := Nat.one_mul _
  refine Nat.le_trans ?_ h1
  exact Int.natAbs_ediv_le_natAbs _ _
theorem den_le (a b : Int) (hb : b ≠ 0) : (Rat.divInt a b).den ≤ b.natAbs := by
  rw [den_dvd a b hb]
  exact Nat.div_le_self _ _
theorem frD_inj {x y : Rat} (h : frD x = frD y) : x = y := by
  unfold frD at h
  injection h with h
  injection h with h1 h2
  injection h1 with h1
  injection h2 with h2 _
  injection h2 with h2
  exact Rat.ext h1 (by omega)
theorem gcd_step (a b : Nat) : Nat.gcd b (a % b) = Nat.gcd a b := by
  rw [Nat.gcd_comm b (a % b), ← Nat.gcd_rec, Nat.gcd_comm]
theorem ratio_ok {K : PySem.W.Frag} {C : CI} {a b : Int} {Δ : Store} {P : D → Store → Prop} (hb : b ≠ 0) (sb : b.natAbs < 2 ^ 8000) (h : P (frD (Rat.divInt a b)) Δ) : W__law_ratio K C [.int a, .int b] Δ P := by
  unfold W__law_ratio z__law_ratio
  walk_at "zz"
  simp only [zWhile]
  have absN : ∀ i : Int, (if i < 0 then -i else i) = (i.natAbs : Int) := fun i => by split <;> omega
  rw [absN, absN]
  refine ⟨fun m Γ Δ' => Δ' = Δ ∧ ∃ u v : Nat, Γ = [some (.int a), some (.int b), some (.int (u : Int)), some (.int (v : Int))] ∧ Nat.gcd u v = Nat.gcd a.natAbs b.natAbs ∧ m = v, ⟨_, rfl, _, _, rfl, rfl, rfl⟩, ?_⟩
  rintro m Γ Δ' ⟨rfl, u, v, rfl, hg, rfl⟩
  walk_at "zz"
  refine ⟨fun hv => ⟨hv, u % m, Nat.mod_lt _ (by omega), m, rfl, u % m, (Int.natCast_emod u m).symm, ?_, rfl⟩, fun hv => ?_⟩
  · rw [gcd_step]; exact hg
  · have hm : m = 0 := by omega
    subst hm
    rw [Nat.gcd_zero_right] at hg
    have ub : u ∣ b.natAbs := by rw [hg]; exact Nat.gcd_dvd_right _ _
    have ua : u ∣ a.natAbs := by rw [hg]; exact Nat.gcd_dvd_left _ _
    have bp : 0 < b.natAbs := by omega
    have ul : u ≤ b.natAbs := Nat.le_of_dvd bp ub
    have up : 0 < u := Nat.pos_of_dvd_of_pos ub bp
    have us : ((u : Int)).natAbs < 2 ^ 8000 := by
      have : ((u : Int)).natAbs = u := by omega
      rw [this]
      exact Nat.lt_of_le_of_lt ul sb
    have dv : ∀ i : Int, CDivW i u := fun i => wide_div (b := 8000) (by omega) us (by decide) (by decide)
    have eg : b.gcd a = u := by show Nat.gcd b.natAbs a.natAbs = u; rw [Nat.gcd_comm]; exact hg.symm
    have en := Rat.num_divInt a b
    have ed := den_dvd a b hb
    rw [eg] at en ed
    obtain ⟨k, hk⟩ := ub
    have ek : (Rat.divInt a b).den = k := by rw [ed, hk, Nat.mul_div_cancel_left _ up]
    refine ⟨fun hn => ⟨dv _, dv _, ?_⟩, fun hn => ⟨dv _, dv _, ?_⟩⟩
    · have e1 : (0 - a) / (u : Int) = (Rat.divInt a b).num := by
        rw [en, Int.sign_eq_neg_one_of_neg hn]
        congr 1
        omega
      have e2 : (0 - b) / (u : Int) = ((Rat.divInt a b).den : Int) := by
        have : 0 - b = (u : Int) * k := by rw [← Int.natCast_mul]; omega
        rw [ek, this, Int.mul_ediv_cancel_left _ (by omega)]
      rw [e1, e2]
      exact h
    · have e1 : a / (u : Int) = (Rat.divInt a b).num := by
        rw [en, Int.sign_eq_one_of_pos (by omega)]
        congr 1
        omega
      have e2 : b / (u : Int) = ((Rat.divInt a b).den : Int) := by
        have : b = (u : Int) * k := by rw [← Int.natCast_mul]; omega
        rw [ek, this, Int.mul_ediv_cancel_left _ (by omega)]
      rw [e1, e2]
      exact h

theorem frD_ty {K : PySem.W.Frag} {C : CI} {Δ : Store} {x : Rat} : tyD C Δ (frD x) = some (.type "tuple") := rfl
theorem frD_int (n : Int) : frD (n : Rat) = .tup [.int n, .int 1] := rfl
structure Sz (x : Rat) (N M : Nat) : Prop where
  n : x.num.natAbs < 2 ^ N
  d : x.den ≤ 2 ^ M
theorem den_abs (x : Rat) : ((x.den : Int)).natAbs = x.den := by omega
theorem pow_pos2 (n : Nat) : 0 < 2 ^ n := Nat.pow_pos (by decide)
theorem order_ok {K : PySem.W.Frag} {C : CI} {x y : Rat} {Δ : Store} {P : D → Store → Prop} {N M : Nat} (hx : Sz x N M) (hy : Sz y N M) (hN : N ≤ 9000) (hM : M ≤ 9000) (h : P (.int (x.num * y.den - y.num * x.den)) Δ) : W__law_order K C [frD x, frD y] Δ P := by
  have k1 : MulOk x.num y.den := .w (9001) (9001) (Nat.lt_of_lt_of_le hx.n (Nat.pow_le_pow_right (by decide) (by omega))) (by rw [den_abs]; exact Nat.lt_of_le_of_lt hy.d (Nat.pow_lt_pow_right (by decide) (by omega)))
  have k2 : MulOk y.num x.den := .w (9001) (9001) (Nat.lt_of_lt_of_le hy.n (Nat.pow_le_pow_right (by decide) (by omega))) (by rw [den_abs]; exact Nat.lt_of_le_of_lt hx.d (Nat.pow_lt_pow_right (by decide) (by omega)))
  unfold W__law_order z__law_order frD
  walk_at "zz"
  exact ⟨k1, k2, h⟩
theorem int_sz (n : Int) {N : Nat} (h : n.natAbs < 2 ^ N) : Sz (n : Rat) N 0 := ⟨h, Nat.le_refl _⟩
theorem Sz.mono {x : Rat} {N M N' M' : Nat} (h : Sz x N M) (h1 : N ≤ N') (h2 : M ≤ M') : Sz x N' M' := ⟨Nat.lt_of_lt_of_le h.n (Nat.pow_le_pow_right (by decide) h1), Nat.le_trans h.d (Nat.pow_le_pow_right (by decide) h2)⟩
theorem add_eq (x y : Rat) : Rat.divInt (x.num * y.den + y.num * x.den) (x.den * y.den) = x + y := by
  rw [Rat.add_def', ← Rat.divInt_ofNat, Int.natCast_mul]
theorem add_ok {K : PySem.W.Frag} {C : CI} {x y : Rat} {Δ : Store} {P : D → Store → Prop} {N1 M1 N2 M2 : Nat} (hx : Sz x N1 M1) (hy : Sz y N2 M2) (h1 : N1 ≤ 3000) (h2 : N2 ≤ 3000) (h3 : M1 ≤ 3000) (h4 : M2 ≤ 3000) (h : P (frD (x + y)) Δ) : W__law_add K C [frD x, frD y] Δ P := by
  have up : ∀ {a n : Nat}, a < 2 ^ n → n ≤ 3001 → a < 2 ^ 3001 := fun h q => Nat.lt_of_lt_of_le h (Nat.pow_le_pow_right (by decide) q)
  have ud : ∀ {a n : Nat}, a ≤ 2 ^ n → n ≤ 3000 → a < 2 ^ 3001 := fun h q => Nat.lt_of_le_of_lt h (Nat.pow_lt_pow_right (by decide) (by omega))
  have dx := x.den_pos
  have dy := y.den_pos
  have bx : ((x.den : Int)).natAbs < 2 ^ 3001 := by rw [den_abs]; exact ud hx.d h3
  have by' : ((y.den : Int)).natAbs < 2 ^ 3001 := by rw [den_abs]; exact ud hy.d h4
  have ax := up hx.n (by omega)
  have ay := up hy.n (by omega)
  have hd : ((x.den : Int) * (y.den : Int)).natAbs < 2 ^ 8000 := by
    rw [Int.natAbs_mul]
    refine Nat.lt_of_lt_of_le (Nat.mul_lt_mul'' bx by') ?_
    rw [← Nat.pow_add]
    exact Nat.pow_le_pow_right (by decide) (by decide)
  unfold W__law_add z__law_add frD
  walk_at "zz"
  refine ⟨.w 3001 3001 ax by', .w 3001 3001 ay bx, .w 3001 3001 bx by', ?_⟩
  refine ratio_ok ?_ hd ?_
  · have := Int.mul_pos (show (0 : Int) < x.den by omega) (show (0 : Int) < y.den by omega)
    omega
  · rw [add_eq]
    exact h
theorem sz_add {x y : Rat} {N1 M1 N2 M2 : Nat} (hx : Sz x N1 M1) (hy : Sz y N2 M2) {N : Nat} (h1 : N1 + M2 + 1 ≤ N) (h2 : N2 + M1 + 1 ≤ N) : Sz (x + y) N (M1 + M2) := by
  have dx := x.den_pos
  have dy := y.den_pos
  have hne : (x.den : Int) * (y.den : Int) ≠ 0 := by
    have := Int.mul_pos (show (0 : Int) < x.den by omega) (show (0 : Int) < y.den by omega)
    omega
  rw [← add_eq]
  constructor
  · refine Nat.lt_of_le_of_lt (num_le _ _) (Nat.lt_of_le_of_lt (Int.natAbs_add_le _ _) ?_)
    rw [Int.natAbs_mul, Int.natAbs_mul, den_abs, den_abs]
    have a1 : x.num.natAbs * y.den < 2 ^ (N1 + M2) := by
      rw [Nat.pow_add]
      exact Nat.mul_lt_mul_of_lt_of_le hx.n hy.d (pow_pos2 _)
    have a2 : y.num.natAbs * x.den < 2 ^ (N2 + M1) := by
      rw [Nat.pow_add]
      exact Nat.mul_lt_mul_of_lt_of_le hy.n hx.d (pow_pos2 _)
    have b1 : 2 ^ (N1 + M2) ≤ 2 ^ (N - 1) := Nat.pow_le_pow_right (by decide) (by omega)
    have b2 : 2 ^ (N2 + M1) ≤ 2 ^ (N - 1) := Nat.pow_le_pow_right (by decide) (by omega)
    have b3 : 2 ^ N = 2 ^ (N - 1) + 2 ^ (N - 1) := by
      rw [← Nat.two_mul, ← Nat.pow_succ']
      congr 1
      omega
    omega
  · refine Nat.le_trans (den_le _ _ hne) ?_
    rw [Int.natAbs_mul, den_abs, den_abs, Nat.pow_add]
    exact Nat.mul_le_mul hx.d hy.d
/-- the sum of a list of fractions -/
def sumQ : Rat → List Rat → Rat
  | a, [] => a
  | a, x :: xs => sumQ (a + x) xs
theorem sum_loop {K : PySem.W.Frag} {C : CI} {Z : ZEnds} {Δ : Store} {rows : D} : ∀ (xs : List Rat) (a : Rat) (k : Nat) (one : Option D), Sz a (200 + 8 * k) (7 * k) → k + xs.length ≤ 100 → (∀ x ∈ xs, Sz x 199 7) → (∀ one' : Option D, Z.nx [some rows, some (frD (sumQ a xs)), one'] Δ) →
    loopZ (fun x Z' Γ' Δ' => zgName 2 x Γ' Δ' fun Γ2 Δ2 => zAsg (zCall (W__law_add K C) [] (zCons (zVar 1) (zCons (zVar 2) (zNil)))) (zgName 1) Z' Γ2 Δ2) Z (xs.map frD) [some rows, some (frD a), one] Δ
  | [], a, k, one, _, _, _, h => h one
  | x :: xs, a, k, one, ha, hl, hx, h => by
    have hl' : k + (xs.length + 1) ≤ 100 := by simpa using hl
    have hx1 := hx x List.mem_cons_self
    rw [List.map_cons, loopZ]
    walk_at "zz"
    refine add_ok ha hx1 (by omega) (by omega) (by omega) (by omega) ?_
    refine sum_loop xs (a + x) (k + 1) _ ((sz_add ha hx1 (N := 200 + 8 * (k + 1)) (by omega) (by omega)).mono (Nat.le_refl _) (by omega)) (by omega) (fun z hz => hx z (List.mem_cons_of_mem _ hz)) h
end Bx

namespace Bx
open PySem PySem.Spec PyProof.Rows L2 Z
local macro_rules | `(tactic| walk_at "zz") => `(tactic| simp only [zSeq, zAsg, zRet, zRetN, zIfS, zNext, zDrop, zPar, zVar, zC, zOp, zUn, zNeg, zI0, zI, zTest, zAnd, zOr, zNot, zAndV, zOrV, zNotV, zIf, zNil, zCons, zTup, zLst, zLstC, zgName, zgTup, zgCons, zgNil, zgSub, startZ, zCall, zCB, zChain, zIsN, zNotN, zNever,
  zAddA, zMulA, zRepeat, zCat, zIx, seqD, lstD, zMax2, zMin2, zAbs, zLen, zSum, zGcd, zInt, zYes, zBreak, zCont, zLc, ziR1, ziR2, ziList, ziTup, ziZip, ziEnum, wipeZ, zFor,
  at0, at1, at2, at3, at4, ix2_3, ix0_3, isNon_int, isNon_non, Bool.not_true, Bool.not_false,
  List.map_cons, List.map_nil, List.length_cons, List.length_nil, List.replicate_succ, List.replicate_zero, List.append_nil, List.nil_append, List.cons_append, List.getElem?_cons_zero, List.getElem?_cons_succ, List.set_cons_zero, List.set_cons_succ,
  Option.some.injEq, D.int.injEq, D.bl.injEq, D.tup.injEq, D.lst.injEq, D.str.injEq, D.cell.injEq, O.lst.injEq, reduceCtorEq, exists_eq_left', exists_eq_left, false_and, and_false, true_and, and_true, exists_false, or_false, false_or, exists_and_left, exists_eq', exists_and_right, List.cons.injEq, and_assoc, dec_not, dec_yes, t_t, t_f, f_t, f_f, true_implies, false_implies, implies_true, and_self, Nat.reduceAdd, Nat.reduceLeDiff, Nat.reduceSub, Nat.reduceLT])
local macro_rules | `(tactic| walk_at "zy") => `(tactic| try simp only [Option.some.injEq, D.int.injEq, D.bl.injEq, D.tup.injEq, D.lst.injEq, D.str.injEq, D.cell.injEq, O.lst.injEq, reduceCtorEq, exists_eq_left', exists_eq_left, false_and, and_false, true_and, and_true, exists_false, or_false, false_or, exists_and_left, exists_eq', exists_and_right, List.cons.injEq, and_assoc, dec_not, dec_yes, t_t, t_f, f_t, f_f, true_implies, false_implies, implies_true, and_self])
/-! ### own functions over data -/
structure Kf (K : PySem.W.Frag) (C : CI) : Prop where
  isi : Isi K (C.adr 0)
  nms : C.nms 0 = nmsOf 0
section
variable {K : PySem.W.Frag} {C : CI} {Δ : Store} {P : D → Store → Prop}
theorem isi_ty {x : D} {a b : String} {r : Bool} (h1 : tyD C Δ x = some (.type a)) (h : kitB a b = some r) (p : P (.bl r) Δ) : zIsi K C [x, .ty b] Δ P :=
  ⟨x, _, _, _, r, rfl, h1, rfl, (fun _ q => nomatch q), kit_ty h, p⟩
theorem isi_own {x : D} {c : Nat} (hi : Isi K (C.adr c)) (h1 : tyD C Δ x = some (.ref (C.adr c))) (p : P (.bl true) Δ) : zIsi K C [x, .cls c] Δ P :=
  ⟨x, _, _, _, true, rfl, h1, rfl, (fun _ q => by cases q; exact hi), if_pos (beq_self_eq_true _), p⟩
theorem all_ok {l : List D} {bs : List Bool} (h : l = bs.map D.bl) (p : P (.bl (bs.all id)) Δ) : zAll [.lst l] Δ P := ⟨_, bs, rfl, by rw [h]; rfl, p⟩
theorem any_ok {l : List D} {bs : List Bool} (h : l = bs.map D.bl) (p : P (.bl (bs.any id)) Δ) : zAny [.lst l] Δ P := ⟨_, bs, rfl, by rw [h]; rfl, p⟩
theorem sumI_ok {l : List D} {ns : List Int} (h : l = ns.map D.int) (p : P (.int ns.sum) Δ) : zSum [.lst l] Δ P := ⟨_, ns, rfl, by rw [h]; rfl, p⟩
theorem isint_i {i : Int} (p : P (.bl true) Δ) : W_is_int K C [.int i] Δ P := by
  unfold W_is_int z_is_int
  walk_at "zz"
  refine isi_ty (r := true) rfl (by decide +kernel) ?_
  walk_at "zz"
  refine isi_ty (r := false) rfl (by decide +kernel) ?_
  walk_at "zz"
  exact p
theorem isint_t {ds : List D} (p : P (.bl false) Δ) : W_is_int K C [.tup ds] Δ P := by
  unfold W_is_int z_is_int
  walk_at "zz"
  refine isi_ty (r := false) rfl (by decide +kernel) ?_
  walk_at "zz"
  exact p
theorem inb_ok {i t : Int} (h0 : 0 ≤ i) (h1 : i ≤ t) (p : P (.bl true) Δ) : W_in_bounds K C [.int i, .int t] Δ P := by
  unfold W_in_bounds z_in_bounds
  walk_at "zz"
  refine isint_i ?_
  walk_at "zz"
  rw [decide_eq_true h1]
  exact ⟨fun _ => p, fun h => absurd h0 h⟩
theorem nums_ok {r : Row} (h : r.Ok) (p : P (.bl true) Δ) : W_are_box_numbers K C (rowL r) Δ P := by
  have e30 : (1000000000000000000000000000000 : Int) = 10 ^ 30 := by decide
  have e6 : (1000000 : Int) = 10 ^ 6 := by decide
  unfold W_are_box_numbers z_are_box_numbers rowL
  obtain ⟨w, l, m, g, s⟩ := r
  have hw := h.w1
  have hl := h.l1
  cases m with
  | none =>
    simp only [optD]
    walk_at "zz"
    simp only [compZ]
    walk_at "zz"
    refine inb_ok h.w0 (by rw [e30]; exact h.w1) ?_
    refine inb_ok h.l0 (by rw [e30]; exact h.l1) ?_
    refine all_ok (bs := [true, true]) rfl ⟨true, rfl, fun _ => ?_, fun q => nomatch q⟩
    refine inb_ok h.g0 (by rw [e6]; exact h.g1) (inb_ok h.s0 (by rw [e6]; exact h.s1) ?_)
    exact all_ok (bs := [true, true]) rfl ⟨true, rfl, fun _ => p, fun q => nomatch q⟩
  | some m =>
    have hm := h.m0 m rfl
    simp only [optD]
    walk_at "zz"
    simp only [compZ]
    walk_at "zz"
    refine inb_ok h.w0 (by rw [e30]; exact h.w1) ?_
    refine inb_ok h.l0 (by rw [e30]; exact h.l1) ?_
    refine inb_ok (Int.le_trans h.l0 hm.1) (by rw [e30]; exact hm.2) ?_
    refine all_ok (bs := [true, true, true]) rfl ?_
    refine ⟨true, rfl, fun _ => ?_, fun q => nomatch q⟩
    refine inb_ok h.g0 (by rw [e6]; exact h.g1) (inb_ok h.s0 (by rw [e6]; exact h.s1) ?_)
    refine all_ok (bs := [true, true]) rfl ⟨true, rfl, fun _ => ?_, fun q => nomatch q⟩
    rw [decide_eq_true hm.1]
    exact p
theorem get_end {o : O} : (Δ ++ [o])[Δ.length]? = some o := by rw [List.getElem?_append_right (Nat.le_refl _), Nat.sub_self]; rfl
theorem set_end {o o' : O} : (Δ ++ [o]).set Δ.length o' = Δ ++ [o'] := by rw [List.set_append_right _ _ (Nat.le_refl _), Nat.sub_self]; rfl
theorem setF_ok {Ze : ZEnds} {Γ : Z.Env} {f : Str} {c i : Nat} {y : D} {fs : List (Str × D)} (h0 : Γ[0]? = some (some (.cell Δ.length))) (h1 : Γ[i]? = some (some y)) (hl : fs.length < 1000) (h : Ze.nx Γ (Δ ++ [.ins c (putFd f y fs)])) : zSetF c f (zVar 0) (zVar i) Ze Γ (Δ ++ [.ins c fs]) :=
  ⟨y, h1, _, h0, _, fs, rfl, get_end, hl, by rw [set_end]; exact h⟩
theorem putFd_len {f : Str} {v : D} {n : Nat} : ∀ {l : List (Str × D)}, l.length ≤ n → (putFd f v l).length ≤ n + 1
  | [], _ => by show 1 ≤ n + 1; omega
  | (g, x) :: r, h => by
    have h' : r.length + 1 ≤ n := h
    unfold putFd
    split
    · show r.length + 1 ≤ n + 1; omega
    · have := putFd_len (f := f) (v := v) (n := n - 1) (l := r) (by omega)
      show (putFd f v r).length + 1 ≤ n + 1
      omega
theorem lt1000 {a n : Nat} (h : a ≤ n) (hn : n < 1000) : a < 1000 := Nat.lt_of_le_of_lt h hn
theorem init_ok {r : Row} (h : r.Ok) (p : P .non (Δ ++ [.ins 0 ((nmsOf 0).zip (rowL r))])) : W_Box_d_init_d K C (.cell Δ.length :: rowL r) (Δ ++ [.ins 0 []]) P := by
  unfold W_Box_d_init_d z_Box_d_init_d rowL
  walk_at "zz"
  refine nums_ok h ?_
  walk_at "zz"
  refine setF_ok rfl rfl (by decide) (setF_ok rfl rfl (lt1000 (n := 1) ?_ (by decide)) (setF_ok rfl rfl (lt1000 (n := 2) ?_ (by decide)) (setF_ok rfl rfl (lt1000 (n := 3) ?_ (by decide)) (setF_ok rfl rfl (lt1000 (n := 4) ?_ (by decide)) p))))
  all_goals exact putFd_len (by first | exact Nat.le_refl _ | exact putFd_len (by first | exact Nat.le_refl _ | exact putFd_len (by first | exact Nat.le_refl _ | exact putFd_len (Nat.le_refl _))))
/-! the numbers of a box -/
def lim (v l : Int) (m : Option Int) : Int := if v < l then l else match m with
  | none => v
  | some m => if m < v then m else v
def ownI (r : Row) : Int := lim r.w r.l r.m
def lowI (r : Row) : Int := if 0 < r.s then r.l else ownI r
def highO (r : Row) : Option Int := if 0 < r.g then r.m else some (ownI r)
theorem fld (F : Kf K C) {r : Row} {f : Str} {d : D} (h : ((nmsOf 0).zip (rowL r)).lookup f = some d) : fldD C Δ 0 f (boxD r) = some d := by
  unfold fldD boxD
  rw [F.nms]
  exact h
theorem lim_ok {v l : Int} {m : Option Int} (p : P (.int (lim v l m)) Δ) : W_limited K C [.int v, .int l, optD m] Δ P := by
  unfold W_limited z_limited
  unfold lim at p
  cases m with
  | none =>
    simp only [optD]
    walk_at "zz"
    refine ⟨fun h => ?_, fun h => ?_⟩
    · rw [if_pos h] at p; exact p
    · rw [if_neg h] at p; exact p
  | some m =>
    simp only [optD]
    walk_at "zz"
    refine ⟨fun h => ?_, fun h => ⟨fun h2 => ?_, fun h2 => ?_⟩⟩
    · rw [if_pos h] at p; exact p
    · rw [if_neg h] at p; simp only [if_pos h2] at p; exact p
    · rw [if_neg h] at p; simp only [if_neg h2] at p; exact p
theorem wish_ok (F : Kf K C) {r : Row} (p : P (.int r.w) Δ) : W_Box_wish K C [boxD r] Δ P := by
  unfold W_Box_wish z_Box_wish zFld
  walk_at "zz"
  exact ⟨_, fld F rfl, p⟩
theorem least_ok (F : Kf K C) {r : Row} (p : P (.int r.l) Δ) : W_Box_least K C [boxD r] Δ P := by
  unfold W_Box_least z_Box_least zFld
  walk_at "zz"
  exact ⟨_, fld F rfl, p⟩
theorem most_ok (F : Kf K C) {r : Row} (p : P (optD r.m) Δ) : W_Box_most K C [boxD r] Δ P := by
  unfold W_Box_most z_Box_most zFld
  walk_at "zz"
  exact ⟨_, fld F rfl, p⟩
theorem grow_ok (F : Kf K C) {r : Row} (p : P (.int r.g) Δ) : W_Box_grow K C [boxD r] Δ P := by
  unfold W_Box_grow z_Box_grow zFld
  walk_at "zz"
  exact ⟨_, fld F rfl, p⟩
theorem shrink_ok (F : Kf K C) {r : Row} (p : P (.int r.s) Δ) : W_Box_shrink K C [boxD r] Δ P := by
  unfold W_Box_shrink z_Box_shrink zFld
  walk_at "zz"
  exact ⟨_, fld F rfl, p⟩
theorem ownB_ok (F : Kf K C) {r : Row} (p : P (.int (ownI r)) Δ) : W_Box_own K C [boxD r] Δ P := by
  unfold W_Box_own z_Box_own zFld
  walk_at "zz"
  exact ⟨_, fld F rfl, _, fld F rfl, _, fld F rfl, lim_ok p⟩
theorem ins_box {r : Row} : insD Δ 0 (boxD r) := .inl ⟨_, rfl⟩
theorem check_ok (F : Kf K C) {rows : List Row} (h1 : rows ≠ []) (h2 : rows.length ≤ 40) (p : P .non Δ) : W_check_boxes K C [.lst (rows.map boxD)] Δ P := by
  have h0 : 0 < rows.length := List.length_pos_iff.mpr h1
  unfold W_check_boxes z_check_boxes
  walk_at "zz"
  refine isi_ty (r := true) rfl (by decide +kernel) ?_
  walk_at "zz"
  rw [List.length_map]
  refine ⟨fun _ => ⟨fun q => ?_, fun _ => ?_⟩, fun q => by omega⟩
  · rw [decide_eq_true (by omega : (rows.length : Int) ≤ 40)] at q; cases q
  · refine comp_map (g := boxD) (f := fun _ => .bl true) rows [] (by simp; omega) (fun r _ Q q => ?_) ?_
    · walk_at "zz"
      exact isi_own F.isi rfl q
    · refine all_ok (bs := rows.map fun _ => true) (by rw [List.nil_append, List.map_map]; rfl) ⟨_, rfl, fun q => ?_, fun _ => p⟩
      rw [show ((rows.map fun _ => true).all id) = true from by simp] at q
      cases q
theorem ownW_ok (F : Kf K C) {rows : List Row} (h1 : rows ≠ []) (h2 : rows.length ≤ 40) (p : P (.int (rows.map ownI).sum) Δ) : W_own_width K C [.lst (rows.map boxD)] Δ P := by
  unfold W_own_width z_own_width zProp
  walk_at "zz"
  refine check_ok F h1 h2 ?_
  refine comp_map (g := boxD) (f := fun r => .int (ownI r)) rows [] (by simp; omega) (fun r _ Q q => ?_) ⟨rows.map ownI, by rw [List.nil_append, List.map_map]; rfl, p⟩
  walk_at "zz"
  exact ⟨ins_box, ownB_ok F q⟩
/-- the sum, none where one is none -/
def sumO : List (Option Int) → Option Int
  | [] => some 0
  | none :: _ => none
  | some i :: r => (sumO r).map (i + ·)
theorem sumO_cases {α : Type} (f : α → Option Int) : ∀ rows : List α, (rows.any fun r => Z.isNon (optD (f r))) = true ∧ sumO (rows.map f) = none ∨ (rows.any fun r => Z.isNon (optD (f r))) = false ∧ ∃ ns : List Int, rows.map f = ns.map some ∧ sumO (rows.map f) = some ns.sum
  | [] => .inr ⟨rfl, [], rfl, rfl⟩
  | r :: rs => by
    cases q : f r with
    | none => exact .inl ⟨by rw [List.any_cons, q]; rfl, by rw [List.map_cons, q]; rfl⟩
    | some i =>
      rcases sumO_cases f rs with ⟨h1, h2⟩ | ⟨h1, ns, h2, h3⟩
      · exact .inl ⟨by rw [List.any_cons, h1, Bool.or_true], by rw [List.map_cons, q]; show (sumO (rs.map f)).map _ = none; rw [h2]; rfl⟩
      · exact .inr ⟨by rw [List.any_cons, h1, q]; rfl, i :: ns, by rw [List.map_cons, List.map_cons, q, h2], by rw [List.map_cons, q]; show (sumO (rs.map f)).map _ = _; rw [h3]; simp⟩
end
end Bx

namespace Bx
open PySem PySem.Spec PyProof.Rows L2 Z
local macro_rules | `(tactic| walk_at "zz") => `(tactic| simp only [zSeq, zAsg, zRet, zRetN, zIfS, zNext, zDrop, zPar, zVar, zC, zOp, zUn, zNeg, zI0, zI, zTest, zAnd, zOr, zNot, zAndV, zOrV, zNotV, zIf, zNil, zCons, zTup, zLst, zLstC, zgName, zgTup, zgCons, zgNil, zgSub, startZ, zCall, zCB, zChain, zIsN, zNotN, zNever,
  zAddA, zMulA, zRepeat, zCat, zIx, seqD, lstD, zMax2, zMin2, zAbs, zLen, zSum, zGcd, zInt, zYes, zBreak, zCont, zLc, ziR1, ziR2, ziList, ziTup, ziZip, ziEnum, wipeZ, zFor,
  at0, at1, at2, at3, at4, ix2_3, ix0_3, isNon_int, isNon_non, Bool.not_true, Bool.not_false,
  List.map_cons, List.map_nil, List.length_cons, List.length_nil, List.replicate_succ, List.replicate_zero, List.append_nil, List.nil_append, List.cons_append, List.getElem?_cons_zero, List.getElem?_cons_succ, List.set_cons_zero, List.set_cons_succ,
  Option.some.injEq, D.int.injEq, D.bl.injEq, D.tup.injEq, D.lst.injEq, D.str.injEq, D.cell.injEq, O.lst.injEq, reduceCtorEq, exists_eq_left', exists_eq_left, false_and, and_false, true_and, and_true, exists_false, or_false, false_or, exists_and_left, exists_eq', exists_and_right, List.cons.injEq, and_assoc, dec_not, dec_yes, t_t, t_f, f_t, f_f, true_implies, false_implies, implies_true, and_self, Nat.reduceAdd, Nat.reduceLeDiff, Nat.reduceSub, Nat.reduceLT])
local macro_rules | `(tactic| walk_at "zy") => `(tactic| try simp only [Option.some.injEq, D.int.injEq, D.bl.injEq, D.tup.injEq, D.lst.injEq, D.str.injEq, D.cell.injEq, O.lst.injEq, reduceCtorEq, exists_eq_left', exists_eq_left, false_and, and_false, true_and, and_true, exists_false, or_false, false_or, exists_and_left, exists_eq', exists_and_right, List.cons.injEq, and_assoc, dec_not, dec_yes, t_t, t_f, f_t, f_f, true_implies, false_implies, implies_true, and_self])
/-! ### sizes at a level -/
/-- the size at p/q, times q -/
def scI (r : Row) (p : Int) (q : Int) : Int := lim (r.w * q + p * (if 0 ≤ p then r.g else r.s)) (r.l * q) (r.m.map (· * q))
def siz (r : Row) (p : Int) (q : Int) : Rat := Rat.divInt (scI r p q) q
section
variable {K : PySem.W.Frag} {C : CI} {Δ : Store} {P : D → Store → Prop}
theorem limM {v l q : Int} {m : Option Int} (h : P (.int (lim v l (m.map (· * q)))) Δ) : W_limited K C [.int v, .int l, (optD (m.map (· * q)))] Δ P := lim_ok h
theorem divInt_parts {a b : Int} (hb : 0 < b) : a / (Int.gcd a b : Int) = (Rat.divInt a b).num ∧ b / (Int.gcd a b : Int) = ((Rat.divInt a b).den : Int) := by
  have e : b.gcd a = Int.gcd a b := Int.gcd_comm _ _
  have gd : Int.gcd a b ∣ b.natAbs := Nat.gcd_dvd_right _ _
  have gp : 0 < Int.gcd a b := Nat.pos_of_dvd_of_pos gd (by omega)
  refine ⟨?_, ?_⟩
  · rw [Rat.num_divInt, e, Int.sign_eq_one_of_pos hb, Int.one_mul]
  · rw [den_dvd a b (by omega), e]
    obtain ⟨k, hk⟩ := gd
    rw [hk, Nat.mul_div_cancel_left _ gp]
    have : b = (Int.gcd a b : Int) * k := by rw [← Int.natCast_mul, ← hk]; omega
    rw [show b / (Int.gcd a b : Int) = ((Int.gcd a b : Int) * k) / (Int.gcd a b : Int) from by rw [← this]]
    exact Int.mul_ediv_cancel_left _ (by omega)
theorem lowest_ok {a b : Int} (hb : 0 < b) (sb : b.natAbs < 2 ^ 8000) (p : P (frD (Rat.divInt a b)) Δ) : W_lowest K C [.int a, .int b] Δ P := by
  have gd : Int.gcd a b ∣ b.natAbs := Nat.gcd_dvd_right _ _
  have gl : Int.gcd a b ≤ b.natAbs := Nat.le_of_dvd (by omega) gd
  have gp : 0 < Int.gcd a b := Nat.pos_of_dvd_of_pos gd (by omega)
  have dv : ∀ i : Int, CDivW i (Int.gcd a b : Int) := fun i => wide_div (b := 8000) (by omega) (by
    have : ((Int.gcd a b : Int)).natAbs = Int.gcd a b := by omega
    rw [this]
    exact Nat.lt_of_le_of_lt gl sb) (by decide) (by decide)
  unfold W_lowest z_lowest
  walk_at "zz"
  refine ⟨dv _, dv _, ?_⟩
  rw [(divInt_parts hb).1, (divInt_parts hb).2]
  exact p
theorem isfrac_ok {x : Rat} (h : P (.bl true) Δ) : W_is_fraction K C [frD x] Δ P := by
  have hd := x.den_pos
  unfold W_is_fraction z_is_fraction frD
  walk_at "zz"
  refine isi_ty (r := true) rfl (by decide +kernel) ?_
  walk_at "zz"
  refine ⟨rfl, rfl, ?_⟩
  have g1 : Int.gcd x.num (x.den : Int) = 1 := by
    show Nat.gcd x.num.natAbs ((x.den : Int)).natAbs = 1
    rw [den_abs]
    exact x.reduced
  refine ⟨false, rfl, (fun q => nomatch q), fun _ => isint_i ⟨true, rfl, fun _ => isint_i ⟨true, rfl, fun _ => ⟨fun _ => ⟨rfl, rfl, ?_⟩, fun h => by omega⟩, fun q => nomatch q⟩, fun q => nomatch q⟩⟩
  rw [g1]
  exact h
theorem lim_abs {v l : Int} {m : Option Int} {B : Nat} (h1 : v.natAbs < B) (h2 : l.natAbs < B) (h3 : ∀ i, m = some i → i.natAbs < B) : (lim v l m).natAbs < B := by
  unfold lim
  split
  · exact h2
  · cases m with
    | none => exact h1
    | some i =>
      show (if i < v then i else v).natAbs < B
      split
      · exact h3 i rfl
      · exact h1
theorem scI_abs {r : Row} {p q : Int} (hr : r.Ok) (q0 : 0 < q) (q1 : q ≤ 128) (p1 : p.natAbs ≤ 10 ^ 45) : (scI r p q).natAbs < 2 ^ 199 := by
  have w0 := hr.w0
  have w1 := hr.w1
  have l0 := hr.l0
  have l1 := hr.l1
  have big : ∀ i : Int, 0 ≤ i → i ≤ 10 ^ 30 → (i * q).natAbs ≤ 10 ^ 30 * 128 := fun i h0 h1 => by
    rw [Int.natAbs_mul]
    exact Nat.mul_le_mul (by omega) (by omega)
  have bw : (p * (if 0 ≤ p then r.g else r.s)).natAbs ≤ 10 ^ 45 * 10 ^ 6 := by
    rw [Int.natAbs_mul]
    have := hr.g0; have := hr.g1; have := hr.s0; have := hr.s1
    refine Nat.mul_le_mul p1 ?_
    split <;> omega
  have b1 := big r.w w0 w1
  have b2 := big r.l l0 l1
  unfold scI
  generalize (p * (if 0 ≤ p then r.g else r.s)) = k at *
  refine lim_abs (by omega) (by omega) fun i hi => ?_
  cases e : r.m with
  | none => rw [e] at hi; cases hi
  | some m =>
    rw [e] at hi
    cases hi
    have hm := hr.m0 m e
    have := big m (by omega) hm.2
    show (m * q).natAbs < 2 ^ 199
    omega
theorem siz_sz {r : Row} {p q : Int} (hr : r.Ok) (q0 : 0 < q) (q1 : q ≤ 128) (p1 : p.natAbs ≤ 10 ^ 45) : Sz (siz r p q) 199 7 := by
  refine ⟨Nat.lt_of_le_of_lt (num_le _ _) (scI_abs hr q0 q1 p1), Nat.le_trans (den_le _ _ (by omega)) ?_⟩
  show q.natAbs ≤ 128
  omega
theorem llim_ok {r : Row} {w : Int} (hr : r.Ok) (hw : w.natAbs < 2 ^ 110) (h : P (.tup [.int (lim w r.l r.m), .int 1]) Δ) : W__law_limited K C [.tup [.int w, .int 1], rowD r] Δ P := by
  have sw : Sz (w : Rat) 110 0 := int_sz w hw
  have sl : Sz (r.l : Rat) 110 0 := int_sz _ (natAbs_lt hr.l0 (Int.lt_of_le_of_lt hr.l1 (by decide)))
  unfold W__law_limited z__law_limited rowD
  unfold lim at h
  walk_at "zz"
  refine order_ok (x := (w : Rat)) (y := (r.l : Rat)) sw sl (by decide) (by decide) ?_
  rw [Rat.num_intCast, Rat.num_intCast, Rat.den_intCast, Rat.den_intCast]
  walk_at "zz"
  refine ⟨fun q => ?_, fun q => ⟨fun hn => ?_, fun hn => ?_⟩⟩
  · rw [if_pos (by omega)] at h; exact h
  · cases e : r.m with
    | none => rw [e] at hn; cases hn
    | some m =>
      have hm := hr.m0 m e
      have l0 := hr.l0
      have sm' : Sz (m : Rat) 110 0 := int_sz _ (natAbs_lt (by omega) (Int.lt_of_le_of_lt hm.2 (by decide)))
      refine order_ok (x := (w : Rat)) (y := (m : Rat)) sw sm' (by decide) (by decide) ?_
      rw [Rat.num_intCast, Rat.num_intCast, Rat.den_intCast, Rat.den_intCast]
      rw [if_neg (by omega), e] at h
      refine ⟨_, rfl, fun q2 => ?_, fun q2 => ?_⟩
      · simp only [if_pos (show m < w by omega)] at h; exact h
      · simp only [if_neg (show ¬ m < w by omega)] at h; exact h
  · cases e : r.m with
    | none => rw [if_neg (by omega), e] at h; exact h
    | some m => rw [e] at hn; cases hn
theorem lown_ok {r : Row} (hr : r.Ok) (h : P (.int (ownI r)) Δ) : W__law_own K C [rowD r] Δ P := by
  unfold W__law_own z__law_own
  walk_at "zz"
  unfold rowD
  walk_at "zz"
  refine llim_ok hr (natAbs_lt hr.w0 (Int.lt_of_le_of_lt hr.w1 (by decide))) ?_
  walk_at "zz"
  exact h
end
end Bx

namespace Bx
open PySem PySem.Spec PyProof.Rows L2 Z
local macro_rules | `(tactic| walk_at "zz") => `(tactic| simp only [zSeq, zAsg, zRet, zRetN, zIfS, zNext, zDrop, zPar, zVar, zC, zOp, zUn, zNeg, zI0, zI, zTest, zAnd, zOr, zNot, zAndV, zOrV, zNotV, zIf, zNil, zCons, zTup, zLst, zLstC, zgName, zgTup, zgCons, zgNil, zgSub, startZ, zCall, zCB, zChain, zIsN, zNotN, zNever,
  zAddA, zMulA, zRepeat, zCat, zIx, seqD, lstD, zMax2, zMin2, zAbs, zLen, zSum, zGcd, zInt, zYes, zBreak, zCont, zLc, ziR1, ziR2, ziList, ziTup, ziZip, ziEnum, wipeZ, zFor,
  at0, at1, at2, at3, at4, ix2_3, ix0_3, isNon_int, isNon_non, Bool.not_true, Bool.not_false,
  List.map_cons, List.map_nil, List.length_cons, List.length_nil, List.replicate_succ, List.replicate_zero, List.append_nil, List.nil_append, List.cons_append, List.getElem?_cons_zero, List.getElem?_cons_succ, List.set_cons_zero, List.set_cons_succ,
  Option.some.injEq, D.int.injEq, D.bl.injEq, D.tup.injEq, D.lst.injEq, D.str.injEq, D.cell.injEq, O.lst.injEq, reduceCtorEq, exists_eq_left', exists_eq_left, false_and, and_false, true_and, and_true, exists_false, or_false, false_or, exists_and_left, exists_eq', exists_and_right, List.cons.injEq, and_assoc, dec_not, dec_yes, t_t, t_f, f_t, f_f, true_implies, false_implies, implies_true, and_self, Nat.reduceAdd, Nat.reduceLeDiff, Nat.reduceSub, Nat.reduceLT])
local macro_rules | `(tactic| walk_at "zy") => `(tactic| try simp only [Option.some.injEq, D.int.injEq, D.bl.injEq, D.tup.injEq, D.lst.injEq, D.str.injEq, D.cell.injEq, O.lst.injEq, reduceCtorEq, exists_eq_left', exists_eq_left, false_and, and_false, true_and, and_true, exists_false, or_false, false_or, exists_and_left, exists_eq', exists_and_right, List.cons.injEq, and_assoc, dec_not, dec_yes, t_t, t_f, f_t, f_f, true_implies, false_implies, implies_true, and_self])
/-! ### sums of sizes -/
def S (p q : Int) (rows : List Row) : Rat := sumQ 0 (rows.map fun r => siz r p q)
theorem divInt_one (a : Int) : Rat.divInt a 1 = (a : Rat) := by
  have h : (1 : Int) ≠ 0 := by decide
  refine Rat.ext ?_ ?_
  · rw [Rat.num_divInt, Rat.num_intCast]
    simp
  · rw [Rat.den_divInt, Rat.den_intCast, if_neg h]
    simp
theorem divInt_int {a q : Int} (hq : 0 < q) : Rat.divInt (a * q) q = (a : Rat) := by
  have h := Rat.divInt_mul_right (n := a) (d := 1) (a := q) (by omega)
  rw [Int.one_mul] at h
  rw [h, divInt_one]
theorem le_divInt {a b q : Int} (hq : 0 < q) (h : a * q ≤ b) : (a : Rat) ≤ Rat.divInt b q := by
  rw [← divInt_int (a := a) hq, Rat.le_iff_sub_nonneg, Rat.divInt_sub_divInt _ _ (by omega) (by omega)]
  refine Rat.divInt_nonneg ?_ (Int.mul_nonneg (by omega) (by omega))
  rw [← Int.sub_mul]
  exact Int.mul_nonneg (by omega) (by omega)
theorem divInt_le {a b q : Int} (hq : 0 < q) (h : b ≤ a * q) : Rat.divInt b q ≤ (a : Rat) := by
  rw [← divInt_int (a := a) hq, Rat.le_iff_sub_nonneg, Rat.divInt_sub_divInt _ _ (by omega) (by omega)]
  refine Rat.divInt_nonneg ?_ (Int.mul_nonneg (by omega) (by omega))
  rw [← Int.sub_mul]
  exact Int.mul_nonneg (by omega) (by omega)
theorem sumQ_int {α : Type} (f : α → Int) : ∀ (l : List α) (a : Int), sumQ (a : Rat) (l.map fun r => ((f r : Int) : Rat)) = ((a + (l.map f).sum : Int) : Rat)
  | [], a => by simp [sumQ]
  | x :: xs, a => by
    show sumQ ((a : Rat) + (f x : Rat)) _ = _
    rw [← Rat.intCast_add, sumQ_int f xs (a + f x), List.map_cons, List.sum_cons, Int.add_assoc]
theorem sumQ_mono : ∀ (l : List (Rat × Rat)) (a b : Rat), a ≤ b → (∀ x ∈ l, x.1 ≤ x.2) → sumQ a (l.map (·.1)) ≤ sumQ b (l.map (·.2))
  | [], _, _, h, _ => h
  | x :: xs, a, b, h, hx => by
    show sumQ (a + x.1) _ ≤ sumQ (b + x.2) _
    refine sumQ_mono xs _ _ ?_ fun y hy => hx y (List.mem_cons_of_mem _ hy)
    exact Rat.le_trans (Rat.add_le_add_right.mpr h) (Rat.add_le_add_left.mpr (hx x List.mem_cons_self))
theorem sumQ_le {α : Type} {f g : α → Rat} {l : List α} (h : ∀ x ∈ l, f x ≤ g x) : sumQ 0 (l.map f) ≤ sumQ 0 (l.map g) := by
  have q := sumQ_mono (l.map fun x => (f x, g x)) 0 0 Rat.le_refl fun x hx => by
    obtain ⟨y, hy, rfl⟩ := List.mem_map.mp hx
    exact h y hy
  rw [List.map_map, List.map_map] at q
  exact q
theorem sumQ_eq {α : Type} {f : α → Rat} {g : α → Int} {l : List α} (h : ∀ x ∈ l, f x = (g x : Rat)) : sumQ 0 (l.map f) = (((l.map g).sum : Int) : Rat) := by
  rw [List.map_congr_left (g := fun x => ((g x : Int) : Rat)) h]
  have q := sumQ_int g l 0
  rw [Int.zero_add] at q
  exact q
/-! what a size is at the ends -/
theorem lim_bounds {v l : Int} {m : Option Int} (h : ∀ i, m = some i → l ≤ i) : l ≤ lim v l m ∧ ∀ i, m = some i → lim v l m ≤ i := by
  unfold lim
  split
  · exact ⟨Int.le_refl _, h⟩
  · cases m with
    | none => exact ⟨by show l ≤ v; omega, fun i q => nomatch q⟩
    | some i =>
      have := h i rfl
      refine ⟨?_, fun j q => ?_⟩
      · show l ≤ if i < v then i else v
        split <;> omega
      · cases q
        show (if i < v then i else v) ≤ i
        split <;> omega
theorem sc_bounds {r : Row} {p q : Int} (hr : r.Ok) (q0 : 0 < q) : r.l * q ≤ scI r p q ∧ ∀ i, r.m = some i → scI r p q ≤ i * q := by
  unfold scI
  have h := lim_bounds (v := r.w * q + p * (if 0 ≤ p then r.g else r.s)) (l := r.l * q) (m := r.m.map (· * q)) fun i hi => by
    cases e : r.m with
    | none => rw [e] at hi; cases hi
    | some m =>
      rw [e] at hi
      cases hi
      exact Int.mul_le_mul_of_nonneg_right (hr.m0 m e).1 (by omega)
  refine ⟨h.1, fun i hi => h.2 _ (by rw [hi]; rfl)⟩
theorem lim_mul {v l q : Int} {m : Option Int} (q0 : 0 < q) : lim (v * q) (l * q) (m.map (· * q)) = lim v l m * q := by
  unfold lim
  have e : ∀ a b : Int, a * q < b * q ↔ a < b := fun a b => ⟨fun h => Int.lt_of_mul_lt_mul_right h (by omega), fun h => Int.mul_lt_mul_of_pos_right h q0⟩
  cases m with
  | none =>
    show (if v * q < l * q then l * q else v * q) = (if v < l then l else v) * q
    by_cases h : v < l
    · rw [if_pos h, if_pos ((e _ _).mpr h)]
    · rw [if_neg h, if_neg (fun q => h ((e _ _).mp q))]
  | some m =>
    show (if v * q < l * q then l * q else if m * q < v * q then m * q else v * q) = (if v < l then l else if m < v then m else v) * q
    by_cases h : v < l
    · rw [if_pos h, if_pos ((e _ _).mpr h)]
    · rw [if_neg h, if_neg (fun q => h ((e _ _).mp q))]
      by_cases h2 : m < v
      · rw [if_pos h2, if_pos ((e _ _).mpr h2)]
      · rw [if_neg h2, if_neg (fun q => h2 ((e _ _).mp q))]
theorem lim_mono {v v' l : Int} {m : Option Int} (h : v ≤ v') (hm : ∀ i, m = some i → l ≤ i) : lim v l m ≤ lim v' l m := by
  unfold lim
  cases m with
  | none =>
    show (if v < l then l else v) ≤ (if v' < l then l else v')
    split <;> split <;> omega
  | some i =>
    have := hm i rfl
    show (if v < l then l else if i < v then i else v) ≤ (if v' < l then l else if i < v' then i else v')
    split <;> split <;> (try split) <;> (try split) <;> omega
theorem mOk {r : Row} (hr : r.Ok) {q : Int} (q0 : 0 < q) : ∀ i, r.m.map (· * q) = some i → r.l * q ≤ i := fun i hi => by
  cases e : r.m with
  | none => rw [e] at hi; cases hi
  | some m =>
    rw [e] at hi
    cases hi
    exact Int.mul_le_mul_of_nonneg_right (hr.m0 m e).1 (by omega)
/-- never below low, never above high -/
theorem low_le {r : Row} {p q : Int} (hr : r.Ok) (q0 : 0 < q) : (lowI r : Rat) ≤ siz r p q := by
  refine le_divInt q0 ?_
  unfold lowI
  split
  · exact (sc_bounds hr q0).1
  · rename_i hs
    have s0 := hr.s0
    have g0 := hr.g0
    unfold ownI scI
    rw [← lim_mul q0]
    refine lim_mono ?_ (mOk hr q0)
    by_cases hp : 0 ≤ p
    · rw [if_pos hp]
      have := Int.mul_nonneg hp g0
      omega
    · rw [if_neg hp, show r.s = 0 by omega, Int.mul_zero]
      omega
theorem le_high {r : Row} {p q : Int} {i : Int} (hr : r.Ok) (q0 : 0 < q) (h : highO r = some i) : siz r p q ≤ (i : Rat) := by
  refine divInt_le q0 ?_
  unfold highO at h
  split at h
  · exact (sc_bounds hr q0).2 i h
  · rename_i hs
    have s0 := hr.s0
    have g0 := hr.g0
    cases h
    unfold ownI scI
    rw [← lim_mul q0]
    refine lim_mono ?_ (mOk hr q0)
    by_cases hp : 0 ≤ p
    · rw [if_pos hp, show r.g = 0 by omega, Int.mul_zero]
      omega
    · rw [if_neg hp]
      have := Int.mul_nonneg (show 0 ≤ -p by omega) s0
      rw [Int.neg_mul] at this
      omega
theorem at0_ {r : Row} : siz r 0 1 = (ownI r : Rat) := by
  unfold siz scI
  rw [Int.zero_mul, Int.add_zero, Int.mul_one]
  have : r.m.map (· * (1 : Int)) = r.m := by cases r.m <;> simp
  rw [this, Int.mul_one, divInt_one]
  rfl
theorem sc1 {r : Row} {p : Int} : scI r p 1 = lim (r.w + p * (if 0 ≤ p then r.g else r.s)) r.l r.m := by
  unfold scI
  have : r.m.map (· * (1 : Int)) = r.m := by cases r.m <;> simp
  rw [this, Int.mul_one, Int.mul_one]
theorem atLow {r : Row} (hr : r.Ok) : siz r (0 - 10 ^ 40) 1 = (lowI r : Rat) := by
  have w0 := hr.w0
  have w1 := hr.w1
  have l0 := hr.l0
  have s0 := hr.s0
  unfold siz
  rw [sc1, if_neg (by decide), divInt_one]
  congr 1
  unfold lowI
  split
  · unfold lim
    rw [if_pos (by omega)]
  · rw [show r.s = 0 by omega, Int.mul_zero, Int.add_zero]
    rfl
theorem atHigh {r : Row} (hr : r.Ok) : (∀ i, highO r = some i → siz r (10 ^ 40) 1 = (i : Rat)) ∧ (highO r = none → ((10 ^ 40 : Int) : Rat) ≤ siz r (10 ^ 40) 1) := by
  have w0 := hr.w0
  have w1 := hr.w1
  have l0 := hr.l0
  have l1 := hr.l1
  have g0 := hr.g0
  unfold siz
  rw [sc1, if_pos (by decide), divInt_one]
  unfold highO
  split
  · rename_i hg
    refine ⟨fun i hi => ?_, fun hn => ?_⟩
    · have hm := hr.m0 i hi
      congr 1
      unfold lim
      rw [if_neg (by omega), hi]
      show (if _ then _ else _) = _
      rw [if_pos (by omega)]
    · refine Rat.intCast_le_intCast.mpr ?_
      unfold lim
      rw [if_neg (by omega), hn]
      show (10 : Int) ^ 40 ≤ r.w + 10 ^ 40 * r.g
      omega
  · rename_i hg
    refine ⟨fun i hi => ?_, fun hn => nomatch hn⟩
    cases hi
    congr 1
    rw [show r.g = 0 by omega, Int.mul_zero, Int.add_zero]
    rfl
end Bx

namespace Bx
open PySem PySem.Spec PyProof.Rows L2 Z
local macro_rules | `(tactic| walk_at "zz") => `(tactic| simp only [zSeq, zAsg, zRet, zRetN, zIfS, zNext, zDrop, zPar, zVar, zC, zOp, zUn, zNeg, zI0, zI, zTest, zAnd, zOr, zNot, zAndV, zOrV, zNotV, zIf, zNil, zCons, zTup, zLst, zLstC, zgName, zgTup, zgCons, zgNil, zgSub, startZ, zCall, zCB, zChain, zIsN, zNotN, zNever,
  zAddA, zMulA, zRepeat, zCat, zIx, seqD, lstD, zMax2, zMin2, zAbs, zLen, zSum, zGcd, zInt, zYes, zBreak, zCont, zLc, ziR1, ziR2, ziList, ziTup, ziZip, ziEnum, wipeZ, zFor,
  at0, at1, at2, at3, at4, ix2_3, ix0_3, isNon_int, isNon_non, Bool.not_true, Bool.not_false,
  List.map_cons, List.map_nil, List.length_cons, List.length_nil, List.replicate_succ, List.replicate_zero, List.append_nil, List.nil_append, List.cons_append, List.getElem?_cons_zero, List.getElem?_cons_succ, List.set_cons_zero, List.set_cons_succ,
  Option.some.injEq, D.int.injEq, D.bl.injEq, D.tup.injEq, D.lst.injEq, D.str.injEq, D.cell.injEq, O.lst.injEq, reduceCtorEq, exists_eq_left', exists_eq_left, false_and, and_false, true_and, and_true, exists_false, or_false, false_or, exists_and_left, exists_eq', exists_and_right, List.cons.injEq, and_assoc, dec_not, dec_yes, t_t, t_f, f_t, f_f, true_implies, false_implies, implies_true, and_self, Nat.reduceAdd, Nat.reduceLeDiff, Nat.reduceSub, Nat.reduceLT])
local macro_rules | `(tactic| walk_at "zy") => `(tactic| try simp only [Option.some.injEq, D.int.injEq, D.bl.injEq, D.tup.injEq, D.lst.injEq, D.str.injEq, D.cell.injEq, O.lst.injEq, reduceCtorEq, exists_eq_left', exists_eq_left, false_and, and_false, true_and, and_true, exists_false, or_false, false_or, exists_and_left, exists_eq', exists_and_right, List.cons.injEq, and_assoc, dec_not, dec_yes, t_t, t_f, f_t, f_f, true_implies, false_implies, implies_true, and_self])
/-! ### texts -/
theorem ok_app {x y : Str} (hx : PyData.strOk x = true) (hy : PyData.strOk y = true) : PyData.strOk (x ++ y) = true := by
  show (x.cps ++ y.cps).all _ = true
  rw [Array.all_append]
  exact Bool.and_eq_true_iff.mpr ⟨hx, hy⟩
theorem ok_of (s : String) : PyData.strOk (Str.ofString s) = true := by
  rw [Str.ofString_eq_toList]
  unfold PyData.strOk
  simp only [List.all_toArray, List.all_map, List.all_eq_true, Function.comp, decide_eq_true_eq]
  intro c _
  have := c.valid
  unfold UInt32.isValidChar Nat.isValidChar at this
  show c.val.toNat < 0x110000
  omega
theorem ok_text : ∀ (ts : List Str) (k : Nat) (acc : Str), PyData.strOk acc = true → (∀ t ∈ ts, PyData.strOk t = true) → PyData.strOk (textFrom k acc ts) = true
  | [], _, _, h, _ => h
  | t :: ts, k, acc, h, ht => by
    show PyData.strOk (textFrom (k + 1) (acc ++ (if k > 0 then ", " else "" : String) ++ t) ts) = true
    exact ok_text ts _ _ (ok_app (ok_app h (ok_of _)) (ht t List.mem_cons_self)) fun u hu => ht u (List.mem_cons_of_mem _ hu)
theorem ok_int (i : Int) : PyData.strOk (PyData.shown (.int i)) = true := ok_of _
theorem ok_opt (i : Option Int) : PyData.strOk (PyData.shown (pd (optD i))) = true := by cases i <;> exact ok_of _
theorem ok_three (a b : Int) (c : Option Int) : PyData.strOk (PyData.shown (pd (.lst [.int a, .int b, optD c]))) = true := by
  show PyData.strOk (textFrom 0 "[" [PyData.shown (.int a), PyData.shown (.int b), PyData.shown (pd (optD c))] ++ Str.ofString "]") = true
  refine ok_app (ok_text _ _ _ (ok_of _) fun t ht => ?_) (ok_of _)
  simp only [List.mem_cons, List.not_mem_nil, or_false] at ht
  rcases ht with rfl | rfl | rfl
  · exact ok_int a
  · exact ok_int b
  · exact ok_opt c
theorem small_text {i : Int} (h : i.natAbs < 10 ^ 33) : (PyData.shown (.int i)).length ≤ 34 := by
  show (Str.ofString (toString i)).length ≤ 34
  rw [PySem.ofString_length]
  exact int_text_length_le10 (by decide) h
theorem small_log {i : Int} (h : i.natAbs < 10 ^ 33) : decide (i.natAbs.log2 < 1920) = true := by
  refine decide_eq_true ?_
  rcases Nat.eq_zero_or_pos i.natAbs with h0 | hp
  · rw [h0]; decide
  · refine (Nat.log2_lt (Nat.ne_of_gt hp)).mpr (Nat.lt_of_lt_of_le h ?_)
    exact Nat.le_trans (show 10 ^ 33 ≤ 2 ^ 110 by decide) (Nat.pow_le_pow_right (by decide) (by decide))
theorem show_three {a b : Int} {c : Option Int} (ha : a.natAbs < 10 ^ 33) (hb : b.natAbs < 10 ^ 33) (hc : ∀ i, c = some i → i.natAbs < 10 ^ 33) : Showable (.lst [.int a, .int b, optD c]) := by
  have lc : (PyData.shown (pd (optD c))).length ≤ 34 := by
    cases c with
    | none => decide
    | some i => exact small_text (hc i rfl)
  refine ⟨by cases c <;> rfl, ?_, ?_, ?_⟩
  · show (decide (a.natAbs.log2 < 1920) && (decide (b.natAbs.log2 < 1920) && (PyData.showable (pd (optD c)) && true))) = true
    rw [small_log ha, small_log hb]
    cases c with
    | none => rfl
    | some i => show (true && (true && (decide (i.natAbs.log2 < 1920) && true))) = true; rw [small_log (hc i rfl)]; rfl
  · have e : (pd (.lst [.int a, .int b, optD c])).depth = 1 := by cases c <;> rfl
    omega
  · show (listText [PyData.shown (.int a), PyData.shown (.int b), PyData.shown (pd (optD c))]).length ≤ sizeLine
    refine Nat.le_trans (listText_len_le _) ?_
    have h1 := small_text ha
    have h2 := small_text hb
    rw [sizeLine_eq]
    simp only [List.map_cons, List.map_nil, List.sum_cons, List.sum_nil, List.length_cons, List.length_nil]
    omega
/-! ### comparisons of equal things -/
section
variable {K : PySem.W.Frag} {C : CI} {Δ : Store} {P : D → Store → Prop}
theorem ne_same {x y : D} (e : rd Δ x = rd Δ y) (hs : shp (rd Δ y) = true) (p : P (.bl false) Δ) : zNe x y Δ P := by
  refine ⟨by rw [e]; exact hs, hs, ?_⟩
  rw [e]
  unfold eqD
  rw [SeqAt.eqv_refl _ (SeqAt.canLay_of_shaped (Bool.and_eq_true_iff.mp hs).2)]
  exact p
theorem shp_str {x : Str} (h : PyData.strOk x = true) : shp (.str x) = true := by
  show (true && (PyData.strOk x && decide _)) = true
  rw [h]
  rfl
theorem frD_of {x : Rat} {i : Int} (h : x = (i : Rat)) : frD x = .tup [.int i, .int 1] := by rw [h]; rfl
/-! ### bounds -/
theorem own_bounds {r : Row} (hr : r.Ok) : 0 ≤ ownI r ∧ ownI r ≤ 10 ^ 30 := by
  have h := lim_bounds (v := r.w) (l := r.l) (m := r.m) fun i hi => (hr.m0 i hi).1
  have w0 := hr.w0
  have w1 := hr.w1
  have l0 := hr.l0
  have l1 := hr.l1
  refine ⟨Int.le_trans l0 h.1, ?_⟩
  unfold ownI lim
  split
  · exact l1
  · cases e : r.m with
    | none => exact w1
    | some m =>
      have hm := hr.m0 m e
      show (if m < r.w then m else r.w) ≤ 10 ^ 30
      split <;> omega
theorem low_bounds {r : Row} (hr : r.Ok) : 0 ≤ lowI r ∧ lowI r ≤ 10 ^ 30 := by
  unfold lowI
  split
  · exact ⟨hr.l0, hr.l1⟩
  · exact own_bounds hr
theorem high_bounds {r : Row} {i : Int} (hr : r.Ok) (h : highO r = some i) : 0 ≤ i ∧ i ≤ 10 ^ 30 := by
  unfold highO at h
  split at h
  · exact ⟨Int.le_trans hr.l0 (hr.m0 i h).1, (hr.m0 i h).2⟩
  · cases h
    exact own_bounds hr
theorem sum_bounds : ∀ (l : List Int), (∀ i ∈ l, 0 ≤ i ∧ i ≤ 10 ^ 30) → 0 ≤ l.sum ∧ l.sum ≤ l.length * 10 ^ 30
  | [], _ => by simp
  | x :: xs, h => by
    have h1 := h x List.mem_cons_self
    have h2 := sum_bounds xs fun i hi => h i (List.mem_cons_of_mem _ hi)
    rw [List.sum_cons, List.length_cons]
    omega
theorem sumI_small {rows : List Row} {f : Row → Int} (hl : rows.length ≤ 40) (h : ∀ r ∈ rows, 0 ≤ f r ∧ f r ≤ 10 ^ 30) : 0 ≤ (rows.map f).sum ∧ (rows.map f).sum.natAbs < 10 ^ 33 := by
  have := sum_bounds (rows.map f) fun i hi => by
    obtain ⟨r, hr, rfl⟩ := List.mem_map.mp hi
    exact h r hr
  rw [List.length_map] at this
  omega
theorem high_ns {rows : List Row} (hr : ∀ r ∈ rows, r.Ok) {ns : List Int} (h : rows.map highO = ns.map some) : ∀ i ∈ ns, 0 ≤ i ∧ i ≤ 10 ^ 30 := fun i hi => by
  have : some i ∈ rows.map highO := by rw [h]; exact List.mem_map_of_mem hi
  obtain ⟨r, h1, h2⟩ := List.mem_map.mp this
  exact high_bounds (hr r h1) h2
theorem sumO_small {rows : List Row} (hr : ∀ r ∈ rows, r.Ok) (hl : rows.length ≤ 40) : ∀ i, sumO (rows.map highO) = some i → i.natAbs < 10 ^ 33 := fun i hi => by
  rcases sumO_cases highO rows with ⟨_, q⟩ | ⟨_, ns, q1, q2⟩
  · rw [q] at hi; cases hi
  · rw [q2] at hi
    cases hi
    have := sum_bounds ns (high_ns hr q1)
    have e : ns.length = rows.length := by have := congrArg List.length q1; simp at this; omega
    omega
theorem sumO_perm {l l' : List (Option Int)} (h : l.Perm l') : sumO l = sumO l' := by
  induction h with
  | nil => rfl
  | cons x _ ih =>
    cases x with
    | none => rfl
    | some i => show (sumO _).map _ = (sumO _).map _; rw [ih]
  | swap x y l =>
    cases x <;> cases y
    · rfl
    · rename_i i; show (sumO (none :: l)).map _ = none; rfl
    · rename_i i; show none = (sumO (none :: l)).map _; rfl
    · rename_i i j
      show ((sumO l).map _).map _ = ((sumO l).map _).map _
      cases sumO l with
      | none => rfl
      | some k => simp; omega
  | trans _ _ h1 h2 => exact h1.trans h2
theorem sum_perm {l l' : List Int} (h : l.Perm l') : l.sum = l'.sum := by
  induction h with
  | nil => rfl
  | cons x _ ih => rw [List.sum_cons, List.sum_cons, ih]
  | swap x y l => simp only [List.sum_cons]; omega
  | trans _ _ h1 h2 => exact h1.trans h2
theorem sum_rep (k : Nat) (i : Int) : (List.replicate k i).sum = k * i := by
  induction k with
  | zero => simp
  | succ k ih =>
    rw [List.replicate_succ, List.sum_cons, ih, Int.natCast_succ, Int.add_mul, Int.one_mul]
    omega
theorem sumO_rep (k : Nat) (i : Option Int) (hk : 0 < k) : sumO (List.replicate k i) = i.map fun j => (k : Int) * j := by
  cases i with
  | none =>
    obtain ⟨k, rfl⟩ : ∃ m, k = m + 1 := ⟨k - 1, by omega⟩
    rfl
  | some j =>
    have : ∀ k, sumO (List.replicate k (some j)) = some ((k : Int) * j) := fun k => by
      induction k with
      | zero => simp [sumO]
      | succ k ih =>
        show (sumO (List.replicate k (some j))).map _ = _
        rw [ih, Int.natCast_succ, Int.add_mul, Int.one_mul]
        show some (j + k * j) = _
        rw [Int.add_comm]
    exact this k
theorem sumQ_sz : ∀ (xs : List Rat) (a : Rat) (k : Nat), Sz a (200 + 8 * k) (7 * k) → (∀ x ∈ xs, Sz x 199 7) → Sz (sumQ a xs) (200 + 8 * (k + xs.length)) (7 * (k + xs.length))
  | [], a, k, h, _ => h
  | x :: xs, a, k, ha, hx => by
    have := sumQ_sz xs (a + x) (k + 1) ((sz_add ha (hx x List.mem_cons_self) (N := 200 + 8 * (k + 1)) (by omega) (by omega)).mono (Nat.le_refl _) (by omega)) fun z hz => hx z (List.mem_cons_of_mem _ hz)
    rw [List.length_cons, show k + (xs.length + 1) = k + 1 + xs.length by omega]
    exact this
theorem S_sz {rows : List Row} {p q : Int} (hl : rows.length ≤ 40) (hr : ∀ r ∈ rows, r.Ok) (q0 : 0 < q) (q1 : q ≤ 128) (p1 : p.natAbs ≤ 10 ^ 45) : Sz (S p q rows) 2000 1000 := by
  refine (sumQ_sz (rows.map fun r => siz r p q) 0 0 ⟨by decide, by decide⟩ fun x hx => ?_).mono (by simp; omega) (by simp; omega)
  obtain ⟨r, h, rfl⟩ := List.mem_map.mp hx
  exact siz_sz (hr r h) q0 q1 p1
theorem S_low {rows : List Row} {p q : Int} (hr : ∀ r ∈ rows, r.Ok) (q0 : 0 < q) : (((rows.map lowI).sum : Int) : Rat) ≤ S p q rows := by
  rw [← sumQ_eq (f := fun r => ((lowI r : Int) : Rat)) (g := lowI) (fun _ _ => rfl)]
  exact sumQ_le fun r h => low_le (hr r h) q0
theorem S_high {rows : List Row} {p q i : Int} (hr : ∀ r ∈ rows, r.Ok) (q0 : 0 < q) (h : sumO (rows.map highO) = some i) : S p q rows ≤ (i : Rat) := by
  rcases sumO_cases highO rows with ⟨_, q⟩ | ⟨_, ns, q1, q2⟩
  · rw [q] at h; cases h
  · rw [q2] at h
    cases h
    have e : ns = rows.map fun r => (highO r).getD 0 := by
      have : (rows.map highO).map (fun o => o.getD 0) = ns := by rw [q1, List.map_map]; exact List.map_id _
      rw [← this, List.map_map]
      rfl
    rw [e, ← sumQ_eq (f := fun r => (((highO r).getD 0 : Int) : Rat)) (g := fun r => (highO r).getD 0) (fun _ _ => rfl)]
    refine sumQ_le fun r hr' => le_high (hr r hr') q0 ?_
    have : highO r ∈ rows.map highO := List.mem_map_of_mem hr'
    rw [q1] at this
    obtain ⟨j, _, hj⟩ := List.mem_map.mp this
    rw [← hj]
    rfl
theorem S_own {rows : List Row} : S 0 1 rows = (((rows.map ownI).sum : Int) : Rat) := sumQ_eq fun r _ => at0_
theorem S_lowest {rows : List Row} (hr : ∀ r ∈ rows, r.Ok) : S (0 - 10 ^ 40) 1 rows = (((rows.map lowI).sum : Int) : Rat) := sumQ_eq fun r h => atLow (hr r h)
theorem S_highest {rows : List Row} {i : Int} (hr : ∀ r ∈ rows, r.Ok) (h : sumO (rows.map highO) = some i) : S (10 ^ 40) 1 rows = (i : Rat) := by
  rcases sumO_cases highO rows with ⟨_, q⟩ | ⟨_, ns, q1, q2⟩
  · rw [q] at h; cases h
  · rw [q2] at h
    cases h
    have e : ns = rows.map fun r => (highO r).getD 0 := by
      have : (rows.map highO).map (fun o => o.getD 0) = ns := by rw [q1, List.map_map]; exact List.map_id _
      rw [← this, List.map_map]
      rfl
    rw [e]
    refine sumQ_eq fun r hr' => (atHigh (hr r hr')).1 _ ?_
    have : highO r ∈ rows.map highO := List.mem_map_of_mem hr'
    rw [q1] at this
    obtain ⟨j, _, hj⟩ := List.mem_map.mp this
    rw [← hj]
    rfl
theorem sumQ_ge : ∀ (l : List Rat) (a : Rat), (∀ x ∈ l, 0 ≤ x) → a ≤ sumQ a l
  | [], a, _ => Rat.le_refl
  | x :: xs, a, h => by
    refine Rat.le_trans ?_ (sumQ_ge xs (a + x) fun y hy => h y (List.mem_cons_of_mem _ hy))
    have := Rat.add_le_add_left (c := a).mpr (h x List.mem_cons_self)
    rwa [Rat.add_zero] at this
theorem sumQ_one : ∀ (l : List Rat) (a b : Rat), 0 ≤ a → (∀ x ∈ l, 0 ≤ x) → b ∈ l → b ≤ sumQ a l
  | x :: xs, a, b, ha, h, hb => by
    have hx := h x List.mem_cons_self
    have hxs : ∀ y ∈ xs, 0 ≤ y := fun y hy => h y (List.mem_cons_of_mem _ hy)
    show b ≤ sumQ (a + x) xs
    rcases List.mem_cons.mp hb with rfl | hb
    · refine Rat.le_trans ?_ (sumQ_ge xs _ hxs)
      have := Rat.add_le_add_right (c := b).mpr ha
      rwa [Rat.zero_add] at this
    · refine sumQ_one xs (a + x) b ?_ hxs hb
      have := Rat.add_le_add_left (c := a).mpr hx
      rw [Rat.add_zero] at this
      exact Rat.le_trans ha this
theorem S_huge {rows : List Row} (hr : ∀ r ∈ rows, r.Ok) (h : sumO (rows.map highO) = none) : ((10 ^ 40 : Int) : Rat) ≤ S (10 ^ 40) 1 rows := by
  have hx : ∃ r ∈ rows, highO r = none := by
    have : ∀ l : List Row, sumO (l.map highO) = none → ∃ r ∈ l, highO r = none := fun l => by
      induction l with
      | nil => intro q; cases q
      | cons r rs ih =>
        intro q
        cases e : highO r with
        | none => exact ⟨r, List.mem_cons_self, e⟩
        | some i =>
          rw [List.map_cons, e] at q
          have : sumO (rs.map highO) = none := by
            cases q2 : sumO (rs.map highO) with
            | none => rfl
            | some j => rw [show sumO (some i :: rs.map highO) = (sumO (rs.map highO)).map (i + ·) from rfl, q2] at q; cases q
          obtain ⟨r', h1, h2⟩ := ih this
          exact ⟨r', List.mem_cons_of_mem _ h1, h2⟩
    exact this rows h
  obtain ⟨r, h1, h2⟩ := hx
  refine Rat.le_trans ((atHigh (hr r h1)).2 h2) ?_
  refine sumQ_one _ 0 _ Rat.le_refl (fun x hx => ?_) (List.mem_map.mpr ⟨r, h1, rfl⟩)
  obtain ⟨r', h3, rfl⟩ := List.mem_map.mp hx
  refine Rat.le_trans ?_ (low_le (hr r' h3) (by decide))
  exact Rat.intCast_nonneg.mpr (low_bounds (hr r' h3)).1
end
end Bx

namespace Bx
open PySem PySem.Spec PyProof.Rows L2 Z
local macro_rules | `(tactic| walk_at "zz") => `(tactic| simp only [zSeq, zAsg, zRet, zRetN, zIfS, zNext, zDrop, zPar, zVar, zC, zOp, zUn, zNeg, zI0, zI, zTest, zAnd, zOr, zNot, zAndV, zOrV, zNotV, zIf, zNil, zCons, zTup, zLst, zLstC, zgName, zgTup, zgCons, zgNil, zgSub, startZ, zCall, zCB, zChain, zIsN, zNotN, zNever,
  zAddA, zMulA, zRepeat, zCat, zIx, seqD, lstD, zMax2, zMin2, zAbs, zLen, zSum, zGcd, zInt, zYes, zBreak, zCont, zLc, ziR1, ziR2, ziList, ziTup, ziZip, ziEnum, wipeZ, zFor,
  at0, at1, at2, at3, at4, ix2_3, ix0_3, isNon_int, isNon_non, Bool.not_true, Bool.not_false,
  List.map_cons, List.map_nil, List.length_cons, List.length_nil, List.replicate_succ, List.replicate_zero, List.append_nil, List.nil_append, List.cons_append, List.getElem?_cons_zero, List.getElem?_cons_succ, List.set_cons_zero, List.set_cons_succ,
  Option.some.injEq, D.int.injEq, D.bl.injEq, D.tup.injEq, D.lst.injEq, D.str.injEq, D.cell.injEq, O.lst.injEq, reduceCtorEq, exists_eq_left', exists_eq_left, false_and, and_false, true_and, and_true, exists_false, or_false, false_or, exists_and_left, exists_eq', exists_and_right, List.cons.injEq, and_assoc, dec_not, dec_yes, t_t, t_f, f_t, f_f, true_implies, false_implies, implies_true, and_self, Nat.reduceAdd, Nat.reduceLeDiff, Nat.reduceSub, Nat.reduceLT])
local macro_rules | `(tactic| walk_at "zy") => `(tactic| try simp only [Option.some.injEq, D.int.injEq, D.bl.injEq, D.tup.injEq, D.lst.injEq, D.str.injEq, D.cell.injEq, O.lst.injEq, reduceCtorEq, exists_eq_left', exists_eq_left, false_and, and_false, true_and, and_true, exists_false, or_false, false_or, exists_and_left, exists_eq', exists_and_right, List.cons.injEq, and_assoc, dec_not, dec_yes, t_t, t_f, f_t, f_f, true_implies, false_implies, implies_true, and_self])
/-! ### the law -/
theorem seq_cut {t u : ZS} {Ze : ZEnds} {Γ : Z.Env} {Δ : Store} (h : ∀ rest : Z.Env → Store → Prop, rest = u Ze → t { Ze with nx := rest } Γ Δ) : zSeq t u Ze Γ Δ := h _ rfl
theorem len21 {Γ : Z.Env} (h : Γ.length = 21) : ∃ a0 a1 a2 a3 a4 a5 a6 a7 a8 a9 b0 b1 b2 b3 b4 b5 b6 b7 b8 b9 c0, Γ = [a0, a1, a2, a3, a4, a5, a6, a7, a8, a9, b0, b1, b2, b3, b4, b5, b6, b7, b8, b9, c0] := by
  match Γ, h with
  | [a0, a1, a2, a3, a4, a5, a6, a7, a8, a9, b0, b1, b2, b3, b4, b5, b6, b7, b8, b9, c0], _ => exact ⟨_, _, _, _, _, _, _, _, _, _, _, _, _, _, _, _, _, _, _, _, _, rfl⟩
section
variable {K : PySem.W.Frag} {C : CI} {Δ : Store}
theorem inD_non {rows : List Row} : inD .non (rows.map fun r => optD (highO r)) = rows.any fun r => Z.isNon (optD (highO r)) := by
  unfold inD inV
  rw [List.map_map, List.any_map]
  congr 1
  funext r
  show eqV (toV (optD (highO r))) (toV .non) = _
  cases highO r <;> rfl
theorem flat_opts {rows : List Row} : (rows.map fun r => optD (highO r)).all flatD = true := by
  rw [List.all_map, List.all_eq_true]
  intro r _
  show flatD (optD (highO r)) = true
  cases highO r <;> rfl
theorem thaw_lst {ds : List D} : Z.thaw Δ (.lst ds) = .lst ds := rfl
theorem below_boxes : ∀ rows : List Row, belowL 0 (rows.map boxD) = true
  | [] => rfl
  | r :: rs => by
    show (below 0 (boxD r) && belowL 0 (rs.map boxD)) = true
    rw [below_boxes rs]
    obtain ⟨w, l, m, g, s⟩ := r
    cases m <;> rfl
theorem below_one {rows : List Row} : belowL 0 [.lst (rows.map boxD)] = true := by
  show (belowL 0 (rows.map boxD) && true) = true
  rw [below_boxes]
  rfl
theorem bare_opt {i : Option Int} : bareD (optD i) = true := by cases i <;> rfl
end
end Bx

namespace Bx
open PySem PySem.Spec PyProof.Rows L2 Z
local macro_rules | `(tactic| walk_at "zz") => `(tactic| simp only [zSeq, zAsg, zRet, zRetN, zIfS, zNext, zDrop, zPar, zVar, zC, zOp, zUn, zNeg, zI0, zI, zTest, zAnd, zOr, zNot, zAndV, zOrV, zNotV, zIf, zNil, zCons, zTup, zLst, zLstC, zgName, zgTup, zgCons, zgNil, zgSub, startZ, zCall, zCB, zChain, zIsN, zNotN, zNever,
  zAddA, zMulA, zRepeat, zCat, zIx, seqD, lstD, zMax2, zMin2, zAbs, zLen, zSum, zGcd, zInt, zYes, zBreak, zCont, zLc, ziR1, ziR2, ziList, ziTup, ziZip, ziEnum, wipeZ, zFor,
  at0, at1, at2, at3, at4, ix2_3, ix0_3, isNon_int, isNon_non, Bool.not_true, Bool.not_false,
  List.map_cons, List.map_nil, List.length_cons, List.length_nil, List.replicate_succ, List.replicate_zero, List.append_nil, List.nil_append, List.cons_append, List.getElem?_cons_zero, List.getElem?_cons_succ, List.set_cons_zero, List.set_cons_succ,
  Option.some.injEq, D.int.injEq, D.bl.injEq, D.tup.injEq, D.lst.injEq, D.str.injEq, D.cell.injEq, O.lst.injEq, reduceCtorEq, exists_eq_left', exists_eq_left, false_and, and_false, true_and, and_true, exists_false, or_false, false_or, exists_and_left, exists_eq', exists_and_right, List.cons.injEq, and_assoc, dec_not, dec_yes, t_t, t_f, f_t, f_f, true_implies, false_implies, implies_true, and_self, Nat.reduceAdd, Nat.reduceLeDiff, Nat.reduceSub, Nat.reduceLT])
local macro_rules | `(tactic| walk_at "zy") => `(tactic| try simp only [Option.some.injEq, D.int.injEq, D.bl.injEq, D.tup.injEq, D.lst.injEq, D.str.injEq, D.cell.injEq, O.lst.injEq, reduceCtorEq, exists_eq_left', exists_eq_left, false_and, and_false, true_and, and_true, exists_false, or_false, false_or, exists_and_left, exists_eq', exists_and_right, List.cons.injEq, and_assoc, dec_not, dec_yes, t_t, t_f, f_t, f_f, true_implies, false_implies, implies_true, and_self])
/-! ### the program's fractions -/
theorem mulW {a b : Int} {n m : Nat} (ha : a.natAbs < 2 ^ n) (hb : b.natAbs < 2 ^ m) (h1 : n ≤ 9000) (h2 : m ≤ 9000) : MulOk a b := .w 9000 9000 (Nat.lt_of_lt_of_le ha (Nat.pow_le_pow_right (by decide) h1)) (Nat.lt_of_lt_of_le hb (Nat.pow_le_pow_right (by decide) h2))
theorem Sz.dl {x : Rat} {N M : Nat} (h : Sz x N M) : ((x.den : Int)).natAbs < 2 ^ (M + 1) := by
  rw [den_abs]
  exact Nat.lt_of_le_of_lt h.d (Nat.pow_lt_pow_right (by decide) (by omega))
theorem dpos (x : Rat) : (0 : Int) < (x.den : Int) := by
  have := x.den_pos
  omega
theorem dp2 (x y : Rat) : (0 : Int) < (x.den : Int) * (y.den : Int) := Int.mul_pos (dpos x) (dpos y)
theorem dd_lt {x y : Rat} {N M : Nat} (hx : Sz x N M) (hy : Sz y N M) (h2 : M ≤ 3900) : ((x.den : Int) * (y.den : Int)).natAbs < 2 ^ 8000 := by
  rw [Int.natAbs_mul]
  refine Nat.lt_of_lt_of_le (Nat.mul_lt_mul'' hx.dl hy.dl) ?_
  rw [← Nat.pow_add]
  exact Nat.pow_le_pow_right (by decide) (by omega)
theorem sub_eq (x y : Rat) : Rat.divInt (x.num * y.den - y.num * x.den) (x.den * y.den) = x - y := by
  have h := add_eq x (-y)
  rw [Rat.neg_num, Rat.neg_den] at h
  rw [Rat.sub_eq_add_neg, ← h]
  congr 1
  rw [Int.neg_mul, Int.sub_eq_add_neg]
theorem ord_lt {x y : Rat} : x.num * y.den - y.num * x.den < 0 ↔ x < y := by
  have e := Rat.lt_iff x y
  rw [e]
  omega
theorem ord_le {x y : Rat} : x.num * y.den - y.num * x.den ≤ 0 ↔ x ≤ y := by
  have e := Rat.le_iff x y
  rw [e]
  omega
theorem ord_gt {x y : Rat} : 0 < x.num * y.den - y.num * x.den ↔ y < x := by
  rw [Rat.lt_iff y x]
  omega
theorem ord_ge {x y : Rat} : 0 ≤ x.num * y.den - y.num * x.den ↔ y ≤ x := by
  rw [Rat.le_iff y x]
  omega
section
variable {K : PySem.W.Frag} {C : CI} {Δ : Store} {P : D → Store → Prop}
theorem plus_ok {x y : Rat} {N M : Nat} (hx : Sz x N M) (hy : Sz y N M) (h1 : N ≤ 3900) (h2 : M ≤ 3900) (h : P (frD (x + y)) Δ) : W_plus K C [frD x, frD y] Δ P := by
  unfold W_plus z_plus frD
  walk_at "zz"
  refine ⟨mulW hx.n hy.dl (by omega) (by omega), mulW hy.n hx.dl (by omega) (by omega), mulW hx.dl hy.dl (by omega) (by omega), ?_⟩
  refine lowest_ok (dp2 x y) (dd_lt hx hy h2) ?_
  rw [add_eq]
  exact h
theorem minus_ok {x y : Rat} {N M : Nat} (hx : Sz x N M) (hy : Sz y N M) (h1 : N ≤ 3900) (h2 : M ≤ 3900) (h : P (frD (x - y)) Δ) : W_minus K C [frD x, frD y] Δ P := by
  unfold W_minus z_minus frD
  walk_at "zz"
  refine ⟨mulW hx.n hy.dl (by omega) (by omega), mulW hy.n hx.dl (by omega) (by omega), mulW hx.dl hy.dl (by omega) (by omega), ?_⟩
  refine lowest_ok (dp2 x y) (dd_lt hx hy h2) ?_
  rw [sub_eq]
  exact h
theorem pord_ok {x y : Rat} {N M : Nat} (hx : Sz x N M) (hy : Sz y N M) (h1 : N ≤ 3900) (h2 : M ≤ 3900) (h : P (.int (x.num * y.den - y.num * x.den)) Δ) : W_order K C [frD x, frD y] Δ P := by
  unfold W_order z_order frD
  walk_at "zz"
  exact ⟨mulW hx.n hy.dl (by omega) (by omega), mulW hy.n hx.dl (by omega) (by omega), h⟩
theorem lminus_ok {x y : Rat} {N M : Nat} (hx : Sz x N M) (hy : Sz y N M) (h1 : N ≤ 3900) (h2 : M ≤ 3900) (h : P (frD (x - y)) Δ) : W__law_minus K C [frD x, frD y] Δ P := by
  unfold W__law_minus z__law_minus frD
  walk_at "zz"
  refine ⟨mulW hx.n hy.dl (by omega) (by omega), mulW hy.n hx.dl (by omega) (by omega), mulW hx.dl hy.dl (by omega) (by omega), ?_⟩
  refine ratio_ok (by have := dp2 x y; omega) (dd_lt hx hy h2) ?_
  rw [sub_eq]
  exact h
theorem lord_ok {x y : Rat} {N M : Nat} (hx : Sz x N M) (hy : Sz y N M) (h1 : N ≤ 3900) (h2 : M ≤ 3900) (h : P (.int (x.num * y.den - y.num * x.den)) Δ) : W__law_order K C [frD x, frD y] Δ P := by
  unfold W__law_order z__law_order frD
  walk_at "zz"
  exact ⟨mulW hx.n hy.dl (by omega) (by omega), mulW hy.n hx.dl (by omega) (by omega), h⟩
theorem ladd_ok {x y : Rat} {N M : Nat} (hx : Sz x N M) (hy : Sz y N M) (h1 : N ≤ 3900) (h2 : M ≤ 3900) (h : P (frD (x + y)) Δ) : W__law_add K C [frD x, frD y] Δ P := by
  unfold W__law_add z__law_add frD
  walk_at "zz"
  refine ⟨mulW hx.n hy.dl (by omega) (by omega), mulW hy.n hx.dl (by omega) (by omega), mulW hx.dl hy.dl (by omega) (by omega), ?_⟩
  refine ratio_ok (by have := dp2 x y; omega) (dd_lt hx hy h2) ?_
  rw [add_eq]
  exact h
theorem sz_neg {x : Rat} {N M : Nat} (h : Sz x N M) : Sz (-x) N M := ⟨by rw [Rat.neg_num, Int.natAbs_neg]; exact h.n, by rw [Rat.neg_den]; exact h.d⟩
theorem sz_sub {x y : Rat} {N1 M1 N2 M2 : Nat} (hx : Sz x N1 M1) (hy : Sz y N2 M2) {N : Nat} (h1 : N1 + M2 + 1 ≤ N) (h2 : N2 + M1 + 1 ≤ N) : Sz (x - y) N (M1 + M2) := by
  rw [Rat.sub_eq_add_neg]
  exact sz_add hx (sz_neg hy) h1 h2
theorem sz_div {a b : Int} {N M : Nat} (hb : b ≠ 0) (h1 : a.natAbs < 2 ^ N) (h2 : b.natAbs ≤ 2 ^ M) : Sz (Rat.divInt a b) N M := ⟨Nat.lt_of_le_of_lt (num_le a b) h1, Nat.le_trans (den_le a b hb) h2⟩
theorem divQ (a b : Int) : Rat.divInt a b = (a : Rat) / (b : Rat) := Rat.divInt_eq_div a b
end
end Bx

namespace Bx
open PySem PySem.Spec PyProof.Rows L2 Z
local macro_rules | `(tactic| walk_at "zz") => `(tactic| simp only [zSeq, zAsg, zRet, zRetN, zIfS, zNext, zDrop, zPar, zVar, zC, zOp, zUn, zNeg, zI0, zI, zTest, zAnd, zOr, zNot, zAndV, zOrV, zNotV, zIf, zNil, zCons, zTup, zLst, zLstC, zgName, zgTup, zgCons, zgNil, zgSub, startZ, zCall, zCB, zChain, zIsN, zNotN, zNever,
  zAddA, zMulA, zRepeat, zCat, zIx, seqD, lstD, zMax2, zMin2, zAbs, zLen, zSum, zGcd, zInt, zYes, zBreak, zCont, zLc, ziR1, ziR2, ziList, ziTup, ziZip, ziEnum, wipeZ, zFor,
  at0, at1, at2, at3, at4, ix2_3, ix0_3, isNon_int, isNon_non, Bool.not_true, Bool.not_false,
  List.map_cons, List.map_nil, List.length_cons, List.length_nil, List.replicate_succ, List.replicate_zero, List.append_nil, List.nil_append, List.cons_append, List.getElem?_cons_zero, List.getElem?_cons_succ, List.set_cons_zero, List.set_cons_succ,
  Option.some.injEq, D.int.injEq, D.bl.injEq, D.tup.injEq, D.lst.injEq, D.str.injEq, D.cell.injEq, O.lst.injEq, reduceCtorEq, exists_eq_left', exists_eq_left, false_and, and_false, true_and, and_true, exists_false, or_false, false_or, exists_and_left, exists_eq', exists_and_right, List.cons.injEq, and_assoc, dec_not, dec_yes, t_t, t_f, f_t, f_f, true_implies, false_implies, implies_true, and_self, Nat.reduceAdd, Nat.reduceLeDiff, Nat.reduceSub, Nat.reduceLT])
local macro_rules | `(tactic| walk_at "zy") => `(tactic| try simp only [Option.some.injEq, D.int.injEq, D.bl.injEq, D.tup.injEq, D.lst.injEq, D.str.injEq, D.cell.injEq, O.lst.injEq, reduceCtorEq, exists_eq_left', exists_eq_left, false_and, and_false, true_and, and_true, exists_false, or_false, false_or, exists_and_left, exists_eq', exists_and_right, List.cons.injEq, and_assoc, dec_not, dec_yes, t_t, t_f, f_t, f_f, true_implies, false_implies, implies_true, and_self])
/-! ### sizes at rational levels -/
def wtI (r : Row) (t : Rat) : Int := if 0 ≤ t then r.g else r.s
def limQ (v l : Rat) (m : Option Int) : Rat := if v < l then l else match m with
  | none => v
  | some m => if (m : Rat) < v then (m : Rat) else v
def vQ (r : Row) (t : Rat) : Rat := (r.w : Rat) + t * (wtI r t : Rat)
def szQ (r : Row) (t : Rat) : Rat := limQ (vQ r t) (r.l : Rat) r.m
theorem num_nn {t : Rat} : (0 ≤ t.num) = (0 ≤ t) := propext Rat.num_nonneg
theorem divInt_lt {a b q : Int} (q0 : 0 < q) : Rat.divInt a q < Rat.divInt b q ↔ a < b := by
  have hq : (0 : Rat) < (q : Rat) := Rat.intCast_pos.mpr q0
  rw [divQ, divQ, Rat.div_lt_iff hq, Rat.div_mul_cancel (Rat.ne_of_gt hq)]
  exact Rat.intCast_lt_intCast
theorem divInt_leI {a b q : Int} (q0 : 0 < q) : Rat.divInt a q ≤ Rat.divInt b q ↔ a ≤ b := by
  rw [← Rat.not_lt, divInt_lt q0]; omega
theorem lim_div {v l q : Int} {m : Option Int} (q0 : 0 < q) : Rat.divInt (lim v (l * q) (m.map (· * q))) q = limQ (Rat.divInt v q) (l : Rat) m := by
  have e : ∀ x : Int, (x : Rat) = Rat.divInt (x * q) q := fun x => (divInt_int q0).symm
  unfold lim limQ
  rw [e l]
  by_cases h : v < l * q
  · rw [if_pos h, if_pos ((divInt_lt q0).mpr h)]
  · rw [if_neg h, if_neg (fun z => h ((divInt_lt q0).mp z))]
    cases m with
    | none => rfl
    | some m =>
      show Rat.divInt (if m * q < v then m * q else v) q = if (m : Rat) < Rat.divInt v q then (m : Rat) else Rat.divInt v q
      rw [e m]
      by_cases h2 : m * q < v
      · rw [if_pos h2, if_pos ((divInt_lt q0).mpr h2)]
      · rw [if_neg h2, if_neg (fun z => h2 ((divInt_lt q0).mp z))]
theorem vQ_div {r : Row} {t : Rat} : Rat.divInt (r.w * t.den + t.num * (if 0 ≤ t.num then r.g else r.s)) t.den = vQ r t := by
  have hd : ((t.den : Int) : Rat) ≠ 0 := by
    have := Rat.intCast_pos.mpr (dpos t)
    exact Rat.ne_of_gt this
  have ht : (t.num : Rat) / ((t.den : Int) : Rat) = t := by rw [← divQ]; exact Rat.num_divInt_den t
  unfold vQ wtI
  rw [divQ]
  simp only [num_nn]
  generalize (if 0 ≤ t then r.g else r.s) = k
  rw [Rat.intCast_add, Rat.intCast_mul, Rat.intCast_mul]
  generalize ((t.den : Int) : Rat) = d at hd ht ⊢
  generalize (t.num : Rat) = n at ht ⊢
  rw [← ht]
  grind
theorem siz_szQ {r : Row} {t : Rat} : siz r t.num t.den = szQ r t := by
  unfold siz scI szQ
  rw [lim_div (dpos t), vQ_div]
/-! what limQ does -/
structure Rng (r : Row) : Prop where
  lm : ∀ i, r.m = some i → (r.l : Rat) ≤ (i : Rat)
  g0 : (0 : Rat) ≤ (r.g : Rat)
  s0 : (0 : Rat) ≤ (r.s : Rat)
theorem Row.Ok.rng {r : Row} (h : r.Ok) : Rng r := ⟨fun i e => Rat.intCast_le_intCast.mpr (h.m0 i e).1, Rat.intCast_nonneg.mpr h.g0, Rat.intCast_nonneg.mpr h.s0⟩
theorem limQ_mono {v v' l : Rat} {m : Option Int} (h : v ≤ v') (hm : ∀ i, m = some i → l ≤ (i : Rat)) : limQ v l m ≤ limQ v' l m := by
  unfold limQ
  cases m with
  | none => simp only; split <;> split <;> grind
  | some i =>
    have := hm i rfl
    simp only
    split <;> split <;> (try split) <;> (try split) <;> grind
theorem vQ_mono {r : Row} (h : Rng r) {t u : Rat} (q : t ≤ u) : vQ r t ≤ vQ r u := by
  have hg := h.g0
  have hs := h.s0
  unfold vQ wtI
  by_cases h1 : 0 ≤ t
  · rw [if_pos h1, if_pos (Rat.le_trans h1 q)]
    have := Rat.mul_le_mul_of_nonneg_right q hg
    grind
  · rw [if_neg h1]
    by_cases h2 : 0 ≤ u
    · rw [if_pos h2]
      have a := Rat.mul_nonneg h2 hg
      have b : 0 ≤ (-t) * (r.s : Rat) := Rat.mul_nonneg (by grind) hs
      grind
    · rw [if_neg h2]
      have := Rat.mul_le_mul_of_nonneg_right q hs
      grind
theorem szQ_mono {r : Row} (h : Rng r) {t u : Rat} (q : t ≤ u) : szQ r t ≤ szQ r u := limQ_mono (vQ_mono h q) h.lm
theorem szQ_ge {r : Row} (h : Rng r) {t : Rat} : (r.l : Rat) ≤ szQ r t := by
  unfold szQ limQ
  cases e : r.m with
  | none => simp only; split <;> grind
  | some i => have := h.lm i e; simp only; split <;> (try split) <;> grind
theorem szQ_le {r : Row} (h : Rng r) {t : Rat} {i : Int} (e : r.m = some i) : szQ r t ≤ (i : Rat) := by
  have := h.lm i e
  unfold szQ limQ
  rw [e]; simp only; split <;> (try split) <;> grind
/-! bends -/
def bndL (r : Row) : List Int := match r.m with
  | none => [r.l]
  | some m => [r.l, m]
def lowB (r : Row) : List Rat := ((bndL r).filter fun b => decide (b < r.w) && decide (0 < r.s)).map fun b => Rat.divInt (b - r.w) r.s
def highB (r : Row) : List Rat := ((bndL r).filter fun b => decide (r.w < b) && decide (0 < r.g)).map fun b => Rat.divInt (b - r.w) r.g
def bendL (r : Row) : List Rat := lowB r ++ highB r
def slI (r : Row) (t : Rat) : Int := if (r.l : Rat) ≤ vQ r t ∧ (∀ i, r.m = some i → vQ r t < (i : Rat)) then wtI r t else 0
theorem mem_low {r : Row} {b : Int} (h : b ∈ bndL r) (h1 : b < r.w) (h2 : 0 < r.s) : ((b : Rat) - (r.w : Rat)) / (r.s : Rat) ∈ bendL r := by
  refine List.mem_append_left _ (List.mem_map.mpr ⟨b, List.mem_filter.mpr ⟨h, by simp [h1, h2]⟩, ?_⟩)
  rw [divQ, Rat.intCast_sub]
theorem mem_high {r : Row} {b : Int} (h : b ∈ bndL r) (h1 : r.w < b) (h2 : 0 < r.g) : ((b : Rat) - (r.w : Rat)) / (r.g : Rat) ∈ bendL r := by
  refine List.mem_append_right _ (List.mem_map.mpr ⟨b, List.mem_filter.mpr ⟨h, by simp [h1, h2]⟩, ?_⟩)
  rw [divQ, Rat.intCast_sub]
theorem l_bnd {r : Row} : r.l ∈ bndL r := by unfold bndL; split <;> simp
theorem m_bnd {r : Row} {i : Int} (e : r.m = some i) : i ∈ bndL r := by unfold bndL; rw [e]; simp
/-- a bound does not lie strictly between two values of v, if no bend lies between the levels -/
theorem no_cross {r : Row} (h : Rng r) {a b : Rat} (hab : a ≤ b) (h0 : 0 ≤ a ∨ b ≤ 0) (hb : ∀ x ∈ bendL r, x ≤ a ∨ b ≤ x) {k : Int} (hk : k ∈ bndL r) (h1 : vQ r a < (k : Rat)) (h2 : (k : Rat) < vQ r b) : False := by
  have hg := h.g0
  have hs := h.s0
  unfold vQ wtI at h1 h2
  rcases h0 with h0 | h0
  · rw [if_pos h0] at h1
    rw [if_pos (Rat.le_trans h0 hab)] at h2
    have hag := Rat.mul_nonneg h0 hg
    have hwk : r.w < k := Rat.intCast_lt_intCast.mp (by grind)
    have hgp : (0 : Rat) < (r.g : Rat) := by
      rcases Rat.le_iff_lt_or_eq.mp hg with e | e
      · exact e
      · rw [← e] at h1 h2; grind
    have hm := hb _ (mem_high hk hwk (Rat.intCast_pos.mp hgp))
    have ex : ((k : Rat) - (r.w : Rat)) / (r.g : Rat) * (r.g : Rat) = (k : Rat) - (r.w : Rat) := Rat.div_mul_cancel (Rat.ne_of_gt hgp)
    generalize ((k : Rat) - (r.w : Rat)) / (r.g : Rat) = x at hm ex
    rcases hm with hm | hm
    · have := Rat.mul_le_mul_of_nonneg_right hm hg; grind
    · have := Rat.mul_le_mul_of_nonneg_right hm hg; grind
  · by_cases ha : 0 ≤ a
    · have : a = b := by grind
      subst this
      grind
    · rw [if_neg ha] at h1
      have has : 0 ≤ (-a) * (r.s : Rat) := Rat.mul_nonneg (by grind) hs
      have h2' : (k : Rat) < (r.w : Rat) + b * (r.s : Rat) := by
        by_cases hb0 : 0 ≤ b
        · have : b = 0 := by grind
          subst this
          grind
        · rw [if_neg hb0] at h2; exact h2
      have hbs : 0 ≤ (-b) * (r.s : Rat) := Rat.mul_nonneg (by grind) hs
      have hwk : k < r.w := Rat.intCast_lt_intCast.mp (by grind)
      have hsp : (0 : Rat) < (r.s : Rat) := by
        rcases Rat.le_iff_lt_or_eq.mp hs with e | e
        · exact e
        · rw [← e] at h1 h2'; grind
      have hm := hb _ (mem_low hk hwk (Rat.intCast_pos.mp hsp))
      have ex : ((k : Rat) - (r.w : Rat)) / (r.s : Rat) * (r.s : Rat) = (k : Rat) - (r.w : Rat) := Rat.div_mul_cancel (Rat.ne_of_gt hsp)
      generalize ((k : Rat) - (r.w : Rat)) / (r.s : Rat) = x at hm ex
      rcases hm with hm | hm
      · have := Rat.mul_le_mul_of_nonneg_right hm hs; grind
      · have := Rat.mul_le_mul_of_nonneg_right hm hs; grind
/-- v is linear where the weight does not change -/
theorem vQ_lin {r : Row} {a t : Rat} (h : a ≤ t) (h0 : 0 ≤ a ∨ t ≤ 0) : vQ r t = vQ r a + (t - a) * (wtI r a : Rat) := by
  unfold vQ wtI
  rcases h0 with h0 | h0
  · rw [if_pos h0, if_pos (Rat.le_trans h0 h)]; grind
  · by_cases ha : 0 ≤ a
    · have : a = t := by grind
      subst this; grind
    · rw [if_neg ha]
      by_cases ht : 0 ≤ t
      · have : t = 0 := by grind
        subst this
        grind
      · rw [if_neg ht]; grind
/-- a size is linear between two levels without a bend between them -/
theorem szQ_lin {r : Row} (h : Rng r) {a t : Rat} (hat : a ≤ t) (h0 : 0 ≤ a ∨ t ≤ 0) (hb : ∀ x ∈ bendL r, x ≤ a ∨ t ≤ x) : szQ r t = szQ r a + (t - a) * (slI r a : Rat) := by
  have hv := vQ_lin (r := r) hat h0
  have hmono := vQ_mono h hat
  have c1 := fun h1 h2 => no_cross h hat h0 hb l_bnd h1 h2
  have z1 : ((0 : Int) : Rat) = 0 := rfl
  by_cases hl : (r.l : Rat) ≤ vQ r a
  · have n1 : ¬ vQ r a < (r.l : Rat) := Rat.not_lt.mpr hl
    have n2 : ¬ vQ r t < (r.l : Rat) := Rat.not_lt.mpr (Rat.le_trans hl hmono)
    cases e : r.m with
    | none =>
      have hs : slI r a = wtI r a := by unfold slI; rw [if_pos ⟨hl, fun i q => by rw [e] at q; cases q⟩]
      rw [hs]
      unfold szQ limQ
      rw [e, if_neg n1, if_neg n2]
      exact hv
    | some m =>
      have c2 := fun h1 h2 => no_cross h hat h0 hb (m_bnd e) h1 h2
      by_cases hm : vQ r a < (m : Rat)
      · have hs : slI r a = wtI r a := by unfold slI; rw [if_pos ⟨hl, fun i q => by rw [e] at q; cases q; exact hm⟩]
        rw [hs]
        unfold szQ limQ
        rw [e, if_neg n1, if_neg n2]
        show (if (m : Rat) < vQ r t then (m : Rat) else vQ r t) = (if (m : Rat) < vQ r a then (m : Rat) else vQ r a) + _
        rw [if_neg (show ¬ (m : Rat) < vQ r a by grind), if_neg (show ¬ (m : Rat) < vQ r t from fun q => c2 hm q)]
        exact hv
      · have hs : slI r a = 0 := by unfold slI; rw [if_neg fun q => hm (q.2 m e)]
        rw [hs, z1]
        unfold szQ limQ
        rw [e, if_neg n1, if_neg n2]
        show (if (m : Rat) < vQ r t then (m : Rat) else vQ r t) = (if (m : Rat) < vQ r a then (m : Rat) else vQ r a) + _
        split <;> split <;> grind
  · have hs : slI r a = 0 := by unfold slI; rw [if_neg fun q => hl q.1]
    have n1 : vQ r a < (r.l : Rat) := Rat.not_le.mp hl
    have e1 : vQ r t ≤ (r.l : Rat) := Rat.not_lt.mp fun q => c1 n1 q
    rw [hs, z1]
    unfold szQ limQ
    rw [if_pos n1]
    by_cases hl2 : vQ r t < (r.l : Rat)
    · rw [if_pos hl2]; grind
    · rw [if_neg hl2]
      cases e : r.m with
      | none => show vQ r t = _; grind
      | some m =>
        have := h.lm m e
        show (if (m : Rat) < vQ r t then (m : Rat) else vQ r t) = _
        split <;> grind
theorem slI_nn {r : Row} (h : r.Ok) {t : Rat} : 0 ≤ slI r t := by
  unfold slI wtI
  have := h.g0
  have := h.s0
  split <;> (try split) <;> omega
end Bx

namespace Bx
open PySem PySem.Spec PyProof.Rows L2 Z
local macro_rules | `(tactic| walk_at "zz") => `(tactic| simp only [zSeq, zAsg, zRet, zRetN, zIfS, zNext, zDrop, zPar, zVar, zC, zOp, zUn, zNeg, zI0, zI, zTest, zAnd, zOr, zNot, zAndV, zOrV, zNotV, zIf, zNil, zCons, zTup, zLst, zLstC, zgName, zgTup, zgCons, zgNil, zgSub, startZ, zCall, zCB, zChain, zIsN, zNotN, zNever,
  zAddA, zMulA, zRepeat, zCat, zIx, seqD, lstD, zMax2, zMin2, zAbs, zLen, zSum, zGcd, zInt, zYes, zBreak, zCont, zLc, ziR1, ziR2, ziList, ziTup, ziZip, ziEnum, wipeZ, zFor,
  at0, at1, at2, at3, at4, ix2_3, ix0_3, isNon_int, isNon_non, Bool.not_true, Bool.not_false,
  List.map_cons, List.map_nil, List.length_cons, List.length_nil, List.replicate_succ, List.replicate_zero, List.append_nil, List.nil_append, List.cons_append, List.getElem?_cons_zero, List.getElem?_cons_succ, List.set_cons_zero, List.set_cons_succ,
  Option.some.injEq, D.int.injEq, D.bl.injEq, D.tup.injEq, D.lst.injEq, D.str.injEq, D.cell.injEq, O.lst.injEq, reduceCtorEq, exists_eq_left', exists_eq_left, false_and, and_false, true_and, and_true, exists_false, or_false, false_or, exists_and_left, exists_eq', exists_and_right, List.cons.injEq, and_assoc, dec_not, dec_yes, t_t, t_f, f_t, f_f, true_implies, false_implies, implies_true, and_self, Nat.reduceAdd, Nat.reduceLeDiff, Nat.reduceSub, Nat.reduceLT])
local macro_rules | `(tactic| walk_at "zy") => `(tactic| try simp only [Option.some.injEq, D.int.injEq, D.bl.injEq, D.tup.injEq, D.lst.injEq, D.str.injEq, D.cell.injEq, O.lst.injEq, reduceCtorEq, exists_eq_left', exists_eq_left, false_and, and_false, true_and, and_true, exists_false, or_false, false_or, exists_and_left, exists_eq', exists_and_right, List.cons.injEq, and_assoc, dec_not, dec_yes, t_t, t_f, f_t, f_f, true_implies, false_implies, implies_true, and_self])
/-! ### sums of sizes at rational levels -/
theorem sumQ_acc : ∀ (l : List Rat) (a : Rat), sumQ a l = a + sumQ 0 l
  | [], a => by show a = a + 0; grind
  | x :: xs, a => by
    show sumQ (a + x) xs = a + sumQ (0 + x) xs
    rw [sumQ_acc xs (a + x), sumQ_acc xs (0 + x)]
    grind
theorem sumQ_cons (x : Rat) (l : List Rat) : sumQ 0 (x :: l) = x + sumQ 0 l := by
  show sumQ (0 + x) l = _
  rw [sumQ_acc]
  grind
def SQ (rows : List Row) (t : Rat) : Rat := sumQ 0 (rows.map fun r => szQ r t)
def SL (rows : List Row) (t : Rat) : Int := (rows.map fun r => slI r t).sum
theorem S_SQ {rows : List Row} {t : Rat} : S t.num t.den rows = SQ rows t := by
  unfold S SQ
  simp only [siz_szQ]
theorem SQ_cons {r : Row} {rs : List Row} {t : Rat} : SQ (r :: rs) t = szQ r t + SQ rs t := sumQ_cons _ _
theorem SL_cons {r : Row} {rs : List Row} {t : Rat} : SL (r :: rs) t = slI r t + SL rs t := by
  unfold SL
  rw [List.map_cons, List.sum_cons]
theorem SQ_mono : ∀ {rows : List Row}, (∀ r ∈ rows, r.Ok) → ∀ {t u : Rat}, t ≤ u → SQ rows t ≤ SQ rows u
  | [], _, _, _, _ => Rat.le_refl
  | r :: rs, h, t, u, q => by
    rw [SQ_cons, SQ_cons]
    have h1 := szQ_mono (h r List.mem_cons_self).rng q
    have h2 := SQ_mono (rows := rs) (fun x hx => h x (List.mem_cons_of_mem _ hx)) q
    grind
theorem SQ_lin : ∀ {rows : List Row}, (∀ r ∈ rows, r.Ok) → ∀ {a t : Rat}, a ≤ t → (0 ≤ a ∨ t ≤ 0) → (∀ r ∈ rows, ∀ x ∈ bendL r, x ≤ a ∨ t ≤ x) → SQ rows t = SQ rows a + (t - a) * (SL rows a : Rat)
  | [], _, a, t, _, _, _ => by
    show (0 : Rat) = 0 + (t - a) * 0
    grind
  | r :: rs, h, a, t, q, h0, hb => by
    rw [SQ_cons, SQ_cons, SL_cons]
    have h1 := szQ_lin (h r List.mem_cons_self).rng q h0 (hb r List.mem_cons_self)
    have h2 := SQ_lin (rows := rs) (fun x hx => h x (List.mem_cons_of_mem _ hx)) q h0 (fun x hx => hb x (List.mem_cons_of_mem _ hx))
    rw [Rat.intCast_add]
    grind
theorem SL_nn {rows : List Row} (h : ∀ r ∈ rows, r.Ok) {t : Rat} : 0 ≤ SL rows t := by
  induction rows with
  | nil => exact Int.le_refl 0
  | cons r rs ih =>
    rw [SL_cons]
    have := slI_nn (t := t) (h r List.mem_cons_self)
    have := ih fun x hx => h x (List.mem_cons_of_mem _ hx)
    omega
theorem SL_le {rows : List Row} (h : ∀ r ∈ rows, r.Ok) {t : Rat} : SL rows t ≤ rows.length * 10 ^ 6 := by
  induction rows with
  | nil => exact Int.le_refl 0
  | cons r rs ih =>
    rw [SL_cons, List.length_cons]
    have := ih fun x hx => h x (List.mem_cons_of_mem _ hx)
    have hr := h r List.mem_cons_self
    have : slI r t ≤ 10 ^ 6 := by
      unfold slI wtI
      have := hr.g1
      have := hr.s1
      split <;> (try split) <;> omega
    omega
theorem lim_cast {v l : Int} {m : Option Int} : limQ (v : Rat) (l : Rat) m = ((lim v l m : Int) : Rat) := by
  have h := lim_div (v := v) (l := l) (m := m) (q := 1) (by decide)
  rw [divInt_one, divInt_one, Int.mul_one] at h
  have : m.map (· * (1 : Int)) = m := by cases m <;> simp
  rw [this] at h
  exact h.symm
theorem szQ_own {r : Row} : limQ (r.w : Rat) (r.l : Rat) r.m = ((ownI r : Int) : Rat) := lim_cast
theorem limQ_low {v l : Rat} {m : Option Int} (h : v ≤ l) (hm : ∀ i, m = some i → l ≤ (i : Rat)) : limQ v l m = l := by
  unfold limQ
  by_cases q : v < l
  · rw [if_pos q]
  · rw [if_neg q]
    cases m with
    | none => show v = l; grind
    | some i =>
      have := hm i rfl
      show (if (i : Rat) < v then (i : Rat) else v) = l
      split <;> grind
theorem limQ_high {v l : Rat} {m : Int} (h : (m : Rat) ≤ v) (hm : l ≤ (m : Rat)) : limQ v l (some m) = (m : Rat) := by
  unfold limQ
  rw [if_neg (by grind)]
  show (if (m : Rat) < v then (m : Rat) else v) = m
  split <;> grind
theorem szQ_low {r : Row} (hr : r.Ok) {t : Rat} (h0 : t ≤ 0) (hb : ∀ x ∈ bendL r, t ≤ x) : szQ r t = ((lowI r : Int) : Rat) := by
  have h := hr.rng
  have hs := h.s0
  have hv : vQ r t = (r.w : Rat) + t * (r.s : Rat) := by
    unfold vQ wtI
    by_cases q : 0 ≤ t
    · have : t = 0 := by grind
      subst this
      grind
    · rw [if_neg q]
  unfold lowI
  by_cases hs' : 0 < r.s
  · rw [if_pos hs']
    have hsp : (0 : Rat) < (r.s : Rat) := Rat.intCast_pos.mpr hs'
    refine limQ_low ?_ h.lm
    rw [hv]
    by_cases hl : r.l < r.w
    · have hm := hb _ (mem_low l_bnd hl hs')
      have ex : ((r.l : Rat) - (r.w : Rat)) / (r.s : Rat) * (r.s : Rat) = (r.l : Rat) - (r.w : Rat) := Rat.div_mul_cancel (Rat.ne_of_gt hsp)
      generalize ((r.l : Rat) - (r.w : Rat)) / (r.s : Rat) = x at hm ex
      have := Rat.mul_le_mul_of_nonneg_right hm hs
      grind
    · have : (r.w : Rat) ≤ (r.l : Rat) := Rat.intCast_le_intCast.mpr (by omega)
      have : 0 ≤ (-t) * (r.s : Rat) := Rat.mul_nonneg (by grind) hs
      grind
  · rw [if_neg hs']
    have : r.s = 0 := by have := hr.s0; omega
    rw [← szQ_own]
    unfold szQ
    rw [hv, this]
    congr 1
    have z1 : ((0 : Int) : Rat) = 0 := rfl
    grind
theorem szQ_high {r : Row} (hr : r.Ok) {t : Rat} (h0 : 0 ≤ t) (hb : ∀ x ∈ bendL r, x ≤ t) : (∀ i, highO r = some i → szQ r t = (i : Rat)) ∧ (highO r = none → 0 < slI r t) := by
  have h := hr.rng
  have hg := h.g0
  have hv : vQ r t = (r.w : Rat) + t * (r.g : Rat) := by
    unfold vQ wtI
    rw [if_pos h0]
  unfold highO
  by_cases hg' : 0 < r.g
  · rw [if_pos hg']
    have hgp : (0 : Rat) < (r.g : Rat) := Rat.intCast_pos.mpr hg'
    have up : ∀ k ∈ bndL r, (k : Rat) ≤ vQ r t := fun k hk => by
      rw [hv]
      by_cases hl : r.w < k
      · have hm := hb _ (mem_high hk hl hg')
        have ex : ((k : Rat) - (r.w : Rat)) / (r.g : Rat) * (r.g : Rat) = (k : Rat) - (r.w : Rat) := Rat.div_mul_cancel (Rat.ne_of_gt hgp)
        generalize ((k : Rat) - (r.w : Rat)) / (r.g : Rat) = x at hm ex
        have := Rat.mul_le_mul_of_nonneg_right hm hg
        grind
      · have : (k : Rat) ≤ (r.w : Rat) := Rat.intCast_le_intCast.mpr (by omega)
        have := Rat.mul_nonneg h0 hg
        grind
    refine ⟨fun i e => ?_, fun e => ?_⟩
    · unfold szQ
      rw [e]
      exact limQ_high (up i (m_bnd e)) (h.lm i e)
    · unfold slI wtI
      rw [if_pos ⟨up _ l_bnd, fun i q => by rw [e] at q; cases q⟩, if_pos h0]
      exact hg'
  · rw [if_neg hg']
    refine ⟨fun i e => ?_, fun e => nomatch e⟩
    cases e
    have : r.g = 0 := by have := hr.g0; omega
    rw [← szQ_own]
    unfold szQ
    rw [hv, this]
    congr 1
    have z1 : ((0 : Int) : Rat) = 0 := rfl
    grind
/-! the levels of a row of boxes -/
structure Lv (rows : List Row) (ls : List Rat) : Prop where
  asc : ls.Pairwise (· < ·)
  mem : ∀ x, x ∈ ls ↔ x = 0 ∨ ∃ r ∈ rows, x ∈ bendL r
theorem Lv.zero {rows : List Row} {ls : List Rat} (h : Lv rows ls) : (0 : Rat) ∈ ls := (h.mem 0).mpr (.inl rfl)
theorem Lv.bend {rows : List Row} {ls : List Rat} (h : Lv rows ls) {r : Row} (hr : r ∈ rows) {x : Rat} (hx : x ∈ bendL r) : x ∈ ls := (h.mem x).mpr (.inr ⟨r, hr, hx⟩)
def lowS (rows : List Row) : Int := (rows.map lowI).sum
theorem SQ_low {rows : List Row} {ls : List Rat} (hr : ∀ r ∈ rows, r.Ok) (h : Lv rows ls) {t : Rat} (ht : ∀ x ∈ ls, t ≤ x) : (∀ r ∈ rows, szQ r t = ((lowI r : Int) : Rat)) ∧ SQ rows t = ((lowS rows : Int) : Rat) := by
  have e : ∀ r ∈ rows, szQ r t = ((lowI r : Int) : Rat) := fun r hm => szQ_low (hr r hm) (ht 0 h.zero) fun x hx => ht x (h.bend hm hx)
  exact ⟨e, sumQ_eq e⟩
theorem SQ_high {rows : List Row} {ls : List Rat} (hr : ∀ r ∈ rows, r.Ok) (h : Lv rows ls) {t : Rat} (ht : ∀ x ∈ ls, x ≤ t) :
    (∀ r ∈ rows, ∀ i, highO r = some i → szQ r t = (i : Rat)) ∧ (∀ H, sumO (rows.map highO) = some H → SQ rows t = (H : Rat)) ∧ (sumO (rows.map highO) = none → 0 < SL rows t) := by
  have e : ∀ r ∈ rows, ∀ i, highO r = some i → szQ r t = (i : Rat) := fun r hm => (szQ_high (hr r hm) (ht 0 h.zero) fun x hx => ht x (h.bend hm hx)).1
  refine ⟨e, fun H hH => ?_, fun hn => ?_⟩
  · rcases sumO_cases highO rows with ⟨_, q⟩ | ⟨_, ns, q1, q2⟩
    · rw [q] at hH; cases hH
    · rw [q2] at hH
      cases hH
      have e2 : ns = rows.map fun r => (highO r).getD 0 := by
        have : (rows.map highO).map (fun o => o.getD 0) = ns := by rw [q1, List.map_map]; exact List.map_id _
        rw [← this, List.map_map]
        rfl
      rw [e2]
      refine sumQ_eq fun r hm => e r hm _ ?_
      have : highO r ∈ rows.map highO := List.mem_map_of_mem hm
      rw [q1] at this
      obtain ⟨j, _, hj⟩ := List.mem_map.mp this
      rw [← hj]
      rfl
  · have : ∀ l : List Row, (∀ r ∈ l, r ∈ rows) → sumO (l.map highO) = none → 0 < SL l t := fun l => by
      induction l with
      | nil => intro _ q; cases q
      | cons r rs ih =>
        intro hl q
        rw [SL_cons]
        have hm := hl r List.mem_cons_self
        cases e : highO r with
        | none =>
          have h1 := (szQ_high (hr r hm) (ht 0 h.zero) fun x hx => ht x (h.bend hm hx)).2 e
          have h2 := SL_nn (rows := rs) (t := t) fun x hx => hr x (hl x (List.mem_cons_of_mem _ hx))
          omega
        | some i =>
          rw [List.map_cons, e] at q
          have q2 : sumO (rs.map highO) = none := by
            cases q2 : sumO (rs.map highO) with
            | none => rfl
            | some j => rw [show sumO (some i :: rs.map highO) = (sumO (rs.map highO)).map (i + ·) from rfl, q2] at q; cases q
          have h1 := slI_nn (t := t) (hr r hm)
          have h2 := ih (fun x hx => hl x (List.mem_cons_of_mem _ hx)) q2
          omega
    exact this rows (fun _ h => h) hn
/-! where the sum is a width -/
/-- what the bisection finds: the last level with a property that holds up to some level -/
structure LastB (ls : List Rat) (c : Rat → Prop) (a : Rat) : Prop where
  mem : a ∈ ls
  yes : c a
  nxt : (∀ x ∈ ls, x ≤ a) ∨ ∃ b, b ∈ ls ∧ a < b ∧ ¬ c b ∧ ∀ x ∈ ls, x ≤ a ∨ b ≤ x
/-- between a and t (t up to the next level) the sum is linear -/
theorem SQ_to {rows : List Row} {ls : List Rat} (hr : ∀ r ∈ rows, r.Ok) (h : Lv rows ls) {a t : Rat} (hat : a ≤ t) (hb : ∀ x ∈ ls, x ≤ a ∨ t ≤ x) : SQ rows t = SQ rows a + (t - a) * (SL rows a : Rat) :=
  SQ_lin hr hat ((hb 0 h.zero).imp id id) fun r hm x hx => hb x (h.bend hm hx)
def lvAt (rows : List Row) (a W : Rat) : Rat := a + (W - SQ rows a) / (SL rows a : Rat)
theorem level_first {rows : List Row} {ls : List Rat} (hr : ∀ r ∈ rows, r.Ok) (h : Lv rows ls) {W a : Rat} (hW : ∀ H, sumO (rows.map highO) = some H → W ≤ (H : Rat)) (hb : LastB ls (fun x => SQ rows x < W) a) :
    0 < SL rows a ∧ a < lvAt rows a W ∧ SQ rows (lvAt rows a W) = W ∧ ∀ u, u < lvAt rows a W → SQ rows u < W := by
  have hy := hb.yes
  have key : 0 < SL rows a ∧ ∀ x ∈ ls, x ≤ a ∨ lvAt rows a W ≤ x := by
    unfold lvAt
    rcases hb.nxt with hn | ⟨b, b1, b2, b3, b4⟩
    · have q := SQ_high hr h hn
      refine ⟨?_, fun x hx => .inl (hn x hx)⟩
      cases e : sumO (rows.map highO) with
      | none => exact q.2.2 e
      | some H =>
        have := q.2.1 H e
        have := hW H e
        grind
    · have q := SQ_to hr h (Rat.le_of_lt b2) b4
      have b3 : W ≤ SQ rows b := Rat.not_lt.mp b3
      have hp : 0 < (SL rows a : Rat) := by
        have := Rat.intCast_nonneg.mpr (SL_nn hr (t := a))
        rcases Rat.le_iff_lt_or_eq.mp this with z | z
        · exact z
        · rw [← z] at q; grind
      refine ⟨Rat.intCast_pos.mp hp, fun x hx => (b4 x hx).imp id fun z => Rat.le_trans ?_ z⟩
      have e : (W - SQ rows a) / (SL rows a : Rat) * (SL rows a : Rat) = W - SQ rows a := Rat.div_mul_cancel (Rat.ne_of_gt hp)
      generalize (W - SQ rows a) / (SL rows a : Rat) = y at e
      have : y * (SL rows a : Rat) ≤ (b - a) * (SL rows a : Rat) := by grind
      have := Rat.le_of_mul_le_mul_right this hp
      grind
  obtain ⟨k1, k2⟩ := key
  have hp : 0 < (SL rows a : Rat) := Rat.intCast_pos.mpr k1
  have e : (W - SQ rows a) / (SL rows a : Rat) * (SL rows a : Rat) = W - SQ rows a := Rat.div_mul_cancel (Rat.ne_of_gt hp)
  have hy0 : 0 < (W - SQ rows a) / (SL rows a : Rat) := by
    rw [Rat.lt_div_iff hp]
    grind
  have hlt : a < lvAt rows a W := by unfold lvAt; grind
  have hs : SQ rows (lvAt rows a W) = W := by
    rw [SQ_to hr h (Rat.le_of_lt hlt) k2]
    unfold lvAt
    grind
  refine ⟨k1, hlt, hs, fun u hu => ?_⟩
  by_cases ha : a ≤ u
  · rw [SQ_to hr h ha fun x hx => (k2 x hx).imp id fun z => Rat.le_trans (Rat.le_of_lt hu) z]
    have : (u - a) * (SL rows a : Rat) < (lvAt rows a W - a) * (SL rows a : Rat) := Rat.mul_lt_mul_of_pos_right (by grind) hp
    have : (lvAt rows a W - a) * (SL rows a : Rat) = W - SQ rows a := by unfold lvAt; grind
    grind
  · have := SQ_mono hr (show u ≤ a by grind)
    grind
theorem level_last {rows : List Row} {ls : List Rat} (hr : ∀ r ∈ rows, r.Ok) (h : Lv rows ls) {W a : Rat} (hW : ∀ H, sumO (rows.map highO) = some H → W < (H : Rat)) (hb : LastB ls (fun x => SQ rows x ≤ W) a) :
    0 < SL rows a ∧ a ≤ lvAt rows a W ∧ SQ rows (lvAt rows a W) = W ∧ ∀ u, lvAt rows a W < u → W < SQ rows u := by
  have hy := hb.yes
  have key : 0 < SL rows a ∧ ((∀ x ∈ ls, x ≤ a) ∨ ∃ b, b ∈ ls ∧ a < b ∧ W < SQ rows b ∧ lvAt rows a W < b ∧ ∀ x ∈ ls, x ≤ a ∨ b ≤ x) := by
    unfold lvAt
    rcases hb.nxt with hn | ⟨b, b1, b2, b3, b4⟩
    · have q := SQ_high hr h hn
      refine ⟨?_, .inl hn⟩
      cases e : sumO (rows.map highO) with
      | none => exact q.2.2 e
      | some H =>
        have := q.2.1 H e
        have := hW H e
        grind
    · have q := SQ_to hr h (Rat.le_of_lt b2) b4
      have b3 : W < SQ rows b := Rat.not_le.mp b3
      have hp : 0 < (SL rows a : Rat) := by
        have := Rat.intCast_nonneg.mpr (SL_nn hr (t := a))
        rcases Rat.le_iff_lt_or_eq.mp this with z | z
        · exact z
        · rw [← z] at q; grind
      refine ⟨Rat.intCast_pos.mp hp, .inr ⟨b, b1, b2, b3, ?_, b4⟩⟩
      have e : (W - SQ rows a) / (SL rows a : Rat) * (SL rows a : Rat) = W - SQ rows a := Rat.div_mul_cancel (Rat.ne_of_gt hp)
      generalize (W - SQ rows a) / (SL rows a : Rat) = y at e
      have : y * (SL rows a : Rat) < (b - a) * (SL rows a : Rat) := by grind
      have := Rat.lt_of_mul_lt_mul_right this (Rat.le_of_lt hp)
      grind
  obtain ⟨k1, k2⟩ := key
  have hp : 0 < (SL rows a : Rat) := Rat.intCast_pos.mpr k1
  have e : (W - SQ rows a) / (SL rows a : Rat) * (SL rows a : Rat) = W - SQ rows a := Rat.div_mul_cancel (Rat.ne_of_gt hp)
  have hy0 : 0 ≤ (W - SQ rows a) / (SL rows a : Rat) := by
    rw [← Rat.not_lt, Rat.div_lt_iff hp]
    grind
  have hle : a ≤ lvAt rows a W := by unfold lvAt; grind
  have up : ∀ u, a ≤ u → ((∀ x ∈ ls, x ≤ a) ∨ ∃ b, u ≤ b ∧ ∀ x ∈ ls, x ≤ a ∨ b ≤ x) → SQ rows u = SQ rows a + (u - a) * (SL rows a : Rat) := fun u hu hx => by
    refine SQ_to hr h hu fun x hm => ?_
    rcases hx with hx | ⟨b, z, hx⟩
    · exact .inl (hx x hm)
    · exact (hx x hm).imp id fun w => Rat.le_trans z w
  have el : (lvAt rows a W - a) * (SL rows a : Rat) = W - SQ rows a := by unfold lvAt; grind
  refine ⟨k1, hle, ?_, fun u hu => ?_⟩
  · rw [up _ hle (k2.imp id fun ⟨b, _, _, _, z, w⟩ => ⟨b, Rat.le_of_lt z, w⟩)]
    grind
  · rcases k2 with k2 | ⟨b, _, b2, b3, b4, b5⟩
    · rw [up u (by grind) (.inl k2)]
      have : (lvAt rows a W - a) * (SL rows a : Rat) < (u - a) * (SL rows a : Rat) := Rat.mul_lt_mul_of_pos_right (by grind) hp
      grind
    · by_cases hub : u ≤ b
      · rw [up u (by grind) (.inr ⟨b, hub, b5⟩)]
        have : (lvAt rows a W - a) * (SL rows a : Rat) < (u - a) * (SL rows a : Rat) := Rat.mul_lt_mul_of_pos_right (by grind) hp
        grind
      · have := SQ_mono hr (show b ≤ u by grind)
        grind
/-- equal sums: equal sizes -/
theorem SQ_inj : ∀ {rows : List Row}, (∀ r ∈ rows, r.Ok) → ∀ {t u : Rat}, t ≤ u → SQ rows t = SQ rows u → ∀ r ∈ rows, szQ r t = szQ r u
  | r :: rs, h, t, u, q, e, x, hx => by
    rw [SQ_cons, SQ_cons] at e
    have hrs := fun x hx => h x (List.mem_cons_of_mem r hx)
    have h1 := szQ_mono (h r List.mem_cons_self).rng q
    have h2 := SQ_mono hrs q
    rcases List.mem_cons.mp hx with rfl | hx
    · grind
    · exact SQ_inj hrs q (by grind) x hx
end Bx

namespace Bx
open PySem PySem.Spec PyProof.Rows L2 Z
local macro_rules | `(tactic| walk_at "zz") => `(tactic| simp only [zSeq, zAsg, zRet, zRetN, zIfS, zNext, zDrop, zPar, zVar, zC, zOp, zUn, zNeg, zI0, zI, zTest, zAnd, zOr, zNot, zAndV, zOrV, zNotV, zIf, zNil, zCons, zTup, zLst, zLstC, zgName, zgTup, zgCons, zgNil, zgSub, startZ, zCall, zCB, zChain, zIsN, zNotN, zNever,
  zAddA, zMulA, zRepeat, zCat, zIx, seqD, lstD, zMax2, zMin2, zAbs, zLen, zSum, zGcd, zInt, zYes, zBreak, zCont, zLc, ziR1, ziR2, ziList, ziTup, ziZip, ziEnum, wipeZ, zFor,
  at0, at1, at2, at3, at4, ix2_3, ix0_3, isNon_int, isNon_non, Bool.not_true, Bool.not_false,
  List.map_cons, List.map_nil, List.length_cons, List.length_nil, List.replicate_succ, List.replicate_zero, List.append_nil, List.nil_append, List.cons_append, List.getElem?_cons_zero, List.getElem?_cons_succ, List.set_cons_zero, List.set_cons_succ,
  Option.some.injEq, D.int.injEq, D.bl.injEq, D.tup.injEq, D.lst.injEq, D.str.injEq, D.cell.injEq, O.lst.injEq, reduceCtorEq, exists_eq_left', exists_eq_left, false_and, and_false, true_and, and_true, exists_false, or_false, false_or, exists_and_left, exists_eq', exists_and_right, List.cons.injEq, and_assoc, dec_not, dec_yes, t_t, t_f, f_t, f_f, true_implies, false_implies, implies_true, and_self, Nat.reduceAdd, Nat.reduceLeDiff, Nat.reduceSub, Nat.reduceLT])
local macro_rules | `(tactic| walk_at "zy") => `(tactic| try simp only [Option.some.injEq, D.int.injEq, D.bl.injEq, D.tup.injEq, D.lst.injEq, D.str.injEq, D.cell.injEq, O.lst.injEq, reduceCtorEq, exists_eq_left', exists_eq_left, false_and, and_false, true_and, and_true, exists_false, or_false, false_or, exists_and_left, exists_eq', exists_and_right, List.cons.injEq, and_assoc, dec_not, dec_yes, t_t, t_f, f_t, f_f, true_implies, false_implies, implies_true, and_self])
/-! ### the program's functions over data -/
theorem comp_fm {zg : ZG} {zt : ZT} {ze : ZE} {Γ0 : Z.Env} {P : D → Store → Prop} {Δ : Store} {α : Type} {g : α → D} {f : α → D} {p : α → Bool} : ∀ (xs : List α) (acc : List D), acc.length + xs.length ≤ 100000 →
    (∀ x ∈ xs, ∀ (Q1 : D → Store → Prop) (Q2 : Store → Prop), (p x = true → Q1 (f x) Δ) → (p x = false → Q2 Δ) → zg (g x) Γ0 Δ fun Γ2 Δ2 => zt Γ2 Δ2 fun b Δ3 => (b = true → ze Γ2 Δ3 Q1) ∧ (b = false → Q2 Δ3)) →
    P (.lst (acc ++ (xs.filter p).map f)) Δ → compZ zg zt ze Γ0 P (xs.map g) acc Δ
  | [], acc, _, _, h => by simpa [compZ] using h
  | x :: xs, acc, hl, hs, h => by
    have hl' : acc.length + (xs.length + 1) ≤ 100000 := by simpa using hl
    refine hs x List.mem_cons_self (fun y Δ4 => acc.length < 100000 ∧ compZ zg zt ze Γ0 P (xs.map g) (acc ++ [y]) Δ4) (fun Δ3 => compZ zg zt ze Γ0 P (xs.map g) acc Δ3) (fun hp => ⟨by omega, ?_⟩) fun hp => ?_
    · refine comp_fm xs (acc ++ [f x]) (by simp; omega) (fun y hy => hs y (List.mem_cons_of_mem _ hy)) ?_
      rw [List.filter_cons_of_pos hp, List.map_cons] at h
      simpa using h
    · refine comp_fm xs acc (by omega) (fun y hy => hs y (List.mem_cons_of_mem _ hy)) ?_
      rw [List.filter_cons_of_neg (by rw [hp]; simp)] at h
      exact h
section
variable {K : PySem.W.Frag} {C : CI} {Δ : Store} {P : D → Store → Prop}
theorem sm30 {i : Int} {n : Nat} (h0 : 0 ≤ i) (h : i ≤ 10 ^ 30) (hn : 100 ≤ n) : i.natAbs < 2 ^ n := Nat.lt_of_lt_of_le (natAbs_lt (n := 100) h0 (Int.lt_of_le_of_lt h (by decide))) (Nat.pow_le_pow_right (by decide) hn)
theorem sm6 {i : Int} {n : Nat} (h0 : 0 ≤ i) (h : i ≤ 10 ^ 6) (hn : 20 ≤ n) : i.natAbs < 2 ^ n := Nat.lt_of_lt_of_le (natAbs_lt (n := 20) h0 (Int.lt_of_le_of_lt h (by decide))) (Nat.pow_le_pow_right (by decide) hn)
theorem wt_abs {r : Row} (hr : r.Ok) {t : Rat} : 0 ≤ wtI r t ∧ wtI r t ≤ 10 ^ 6 := by
  unfold wtI
  split
  · exact ⟨hr.g0, hr.g1⟩
  · exact ⟨hr.s0, hr.s1⟩
/-- the size at t, times the denominator -/
def sc (r : Row) (t : Rat) : Int := scI r t.num t.den
theorem sc_wt {r : Row} {t : Rat} : sc r t = lim (r.w * t.den + t.num * wtI r t) (r.l * t.den) (r.m.map (· * (t.den : Int))) := by
  unfold sc scI wtI
  simp only [num_nn]
theorem sc_div {r : Row} {t : Rat} : Rat.divInt (sc r t) t.den = szQ r t := siz_szQ
theorem sc_abs {r : Row} {t : Rat} {N M k : Nat} (hr : r.Ok) (ht : Sz t N M) (k1 : N + 21 ≤ k) (k2 : M + 101 ≤ k) : (sc r t).natAbs < 2 ^ k := by
  have hd : ((t.den : Int)).natAbs ≤ 2 ^ M := by rw [den_abs]; exact ht.d
  have big : ∀ i : Int, 0 ≤ i → i ≤ 10 ^ 30 → (i * (t.den : Int)).natAbs < 2 ^ (k - 1) := fun i h0 h1 => by
    rw [Int.natAbs_mul]
    refine Nat.lt_of_lt_of_le (Nat.mul_lt_mul_of_lt_of_le (sm30 h0 h1 (Nat.le_refl _)) hd (pow_pos2 _)) ?_
    rw [← Nat.pow_add]
    exact Nat.pow_le_pow_right (by decide) (by omega)
  have bw : (t.num * wtI r t).natAbs < 2 ^ (k - 1) := by
    rw [Int.natAbs_mul]
    refine Nat.lt_of_lt_of_le (Nat.mul_lt_mul'' ht.n (sm6 (wt_abs hr).1 (wt_abs hr).2 (Nat.le_refl 20))) ?_
    rw [← Nat.pow_add]
    exact Nat.pow_le_pow_right (by decide) (by omega)
  have e2 : 2 ^ k = 2 ^ (k - 1) + 2 ^ (k - 1) := by
    rw [← Nat.two_mul, ← Nat.pow_succ']
    congr 1
    omega
  have b1 := big r.w hr.w0 hr.w1
  have b2 := big r.l hr.l0 hr.l1
  rw [sc_wt]
  refine lim_abs (Nat.lt_of_le_of_lt (Int.natAbs_add_le _ _) (by omega)) (by omega) fun i hi => ?_
  cases e : r.m with
  | none => rw [e] at hi; cases hi
  | some m =>
    rw [e] at hi
    cases hi
    have hm := hr.m0 m e
    have l0 := hr.l0
    have := big m (by omega) hm.2
    show (m * (t.den : Int)).natAbs < 2 ^ k
    omega
theorem szQ_sz {r : Row} {t : Rat} {N M k : Nat} (hr : r.Ok) (ht : Sz t N M) (k1 : N + 21 ≤ k) (k2 : M + 101 ≤ k) : Sz (szQ r t) k M := by
  rw [← sc_div]
  exact sz_div (by have := dpos t; omega) (sc_abs hr ht k1 k2) (by rw [den_abs]; exact ht.d)
theorem sum_abs {α : Type} {f : α → Int} {B : Nat} : ∀ (l : List α), (∀ x ∈ l, (f x).natAbs ≤ B) → ((l.map f).sum).natAbs ≤ l.length * B
  | [], _ => by simp
  | x :: xs, h => by
    rw [List.map_cons, List.sum_cons, List.length_cons, Nat.add_mul, Nat.one_mul]
    have h1 := h x List.mem_cons_self
    have h2 := sum_abs xs fun y hy => h y (List.mem_cons_of_mem _ hy)
    have := Int.natAbs_add_le (f x) ((xs.map f).sum)
    omega
theorem sums_div {t : Rat} : ∀ (rows : List Row), Rat.divInt ((rows.map fun r => sc r t).sum) t.den = SQ rows t
  | [] => by
    show Rat.divInt 0 _ = 0
    exact Rat.zero_divInt _
  | r :: rs => by
    rw [List.map_cons, List.sum_cons, SQ_cons, ← sc_div, ← sums_div rs, divQ, divQ, divQ, Rat.intCast_add]
    grind
theorem SQ_sz {rows : List Row} {t : Rat} {N M k : Nat} (hl : rows.length ≤ 100) (hr : ∀ r ∈ rows, r.Ok) (ht : Sz t N M) (k1 : N + 28 ≤ k) (k2 : M + 108 ≤ k) : Sz (SQ rows t) k M := by
  rw [← sums_div]
  refine sz_div (by have := dpos t; omega) ?_ (by rw [den_abs]; exact ht.d)
  refine Nat.lt_of_le_of_lt (sum_abs rows (B := 2 ^ (k - 7)) fun r h => Nat.le_of_lt (sc_abs (hr r h) ht (by omega) (by omega))) ?_
  have e : 2 ^ k = 128 * 2 ^ (k - 7) := by
    rw [show (128 : Nat) = 2 ^ 7 from rfl, ← Nat.pow_add]
    congr 1
    omega
  rw [e]
  exact Nat.mul_lt_mul_of_pos_right (by omega) (pow_pos2 _)
theorem slope_val {r : Row} {t : Rat} (hr : r.Ok) : (r.l * t.den ≤ r.w * t.den + t.num * wtI r t) = ((r.l : Rat) ≤ vQ r t) := by
  have e := vQ_div (r := r) (t := t)
  rw [show (if 0 ≤ t.num then r.g else r.s) = wtI r t from by unfold wtI; simp only [num_nn]] at e
  rw [← e, ← divInt_int (a := r.l) (dpos t)]
  exact propext (divInt_leI (dpos t)).symm
theorem slope_val2 {r : Row} {t : Rat} {m : Int} : (r.w * t.den + t.num * wtI r t < m * t.den) = (vQ r t < (m : Rat)) := by
  have e := vQ_div (r := r) (t := t)
  rw [show (if 0 ≤ t.num then r.g else r.s) = wtI r t from by unfold wtI; simp only [num_nn]] at e
  rw [← e, ← divInt_int (a := m) (dpos t)]
  exact propext (divInt_lt (dpos t)).symm
end
end Bx

namespace Bx
open PySem PySem.Spec PyProof.Rows L2 Z
local macro_rules | `(tactic| walk_at "zz") => `(tactic| simp only [zSeq, zAsg, zRet, zRetN, zIfS, zNext, zDrop, zPar, zVar, zC, zOp, zUn, zNeg, zI0, zI, zTest, zAnd, zOr, zNot, zAndV, zOrV, zNotV, zIf, zNil, zCons, zTup, zLst, zLstC, zgName, zgTup, zgCons, zgNil, zgSub, startZ, zCall, zCB, zChain, zIsN, zNotN, zNever,
  zAddA, zMulA, zRepeat, zCat, zIx, seqD, lstD, zMax2, zMin2, zAbs, zLen, zSum, zGcd, zInt, zYes, zBreak, zCont, zLc, ziR1, ziR2, ziList, ziTup, ziZip, ziEnum, wipeZ, zFor,
  at0, at1, at2, at3, at4, ix2_3, ix0_3, isNon_int, isNon_non, Bool.not_true, Bool.not_false,
  List.map_cons, List.map_nil, List.length_cons, List.length_nil, List.replicate_succ, List.replicate_zero, List.append_nil, List.nil_append, List.cons_append, List.getElem?_cons_zero, List.getElem?_cons_succ, List.set_cons_zero, List.set_cons_succ,
  Option.some.injEq, D.int.injEq, D.bl.injEq, D.tup.injEq, D.lst.injEq, D.str.injEq, D.cell.injEq, O.lst.injEq, reduceCtorEq, exists_eq_left', exists_eq_left, false_and, and_false, true_and, and_true, exists_false, or_false, false_or, exists_and_left, exists_eq', exists_and_right, List.cons.injEq, and_assoc, dec_not, dec_yes, t_t, t_f, f_t, f_f, true_implies, false_implies, implies_true, and_self, Nat.reduceAdd, Nat.reduceLeDiff, Nat.reduceSub, Nat.reduceLT])
local macro_rules | `(tactic| walk_at "zy") => `(tactic| try simp only [Option.some.injEq, D.int.injEq, D.bl.injEq, D.tup.injEq, D.lst.injEq, D.str.injEq, D.cell.injEq, O.lst.injEq, reduceCtorEq, exists_eq_left', exists_eq_left, false_and, and_false, true_and, and_true, exists_false, or_false, false_or, exists_and_left, exists_eq', exists_and_right, List.cons.injEq, and_assoc, dec_not, dec_yes, t_t, t_f, f_t, f_f, true_implies, false_implies, implies_true, and_self])
/-! ### sorting fractions -/
theorem putI_keys {k : Int} {v : D} {l : List (Int × D)} : (putI k v l).map (·.1) = if (l.any fun p => decide (p.1 = k)) = true then l.map (·.1) else l.map (·.1) ++ [k] := by
  unfold putI
  split
  · rw [List.map_map]
    apply List.map_congr_left
    intro p _
    show (if p.1 = k then (p.1, v) else p).1 = p.1
    split <;> rfl
  · rw [List.map_append]; rfl
/-- a dict of fractions by their keys -/
structure Dq (key : Rat → Int) (xs : List Rat) (l : List (Int × D)) : Prop where
  nd : (l.map (·.1)).Nodup
  all : ∀ x ∈ xs, key x ∈ l.map (·.1)
  is_ : ∀ p ∈ l, ∃ x ∈ xs, p.1 = key x ∧ p.2 = frD x
theorem Dq.nil {key : Rat → Int} : Dq key [] [] := ⟨List.nodup_nil, (fun _ h => nomatch h), fun _ h => nomatch h⟩
theorem Dq.put {key : Rat → Int} {xs : List Rat} {l : List (Int × D)} {x : Rat} (h : Dq key xs l) : Dq key (xs ++ [x]) (putI (key x) (frD x) l) := by
  have hk := putI_keys (k := key x) (v := frD x) (l := l)
  have hany : (l.any fun p => decide (p.1 = key x)) = true ↔ key x ∈ l.map (·.1) := by
    rw [List.any_eq_true]
    constructor
    · rintro ⟨p, h1, h2⟩
      rw [← of_decide_eq_true h2]
      exact List.mem_map_of_mem h1
    · intro h
      obtain ⟨p, h1, h2⟩ := List.mem_map.mp h
      exact ⟨p, h1, decide_eq_true h2⟩
  refine ⟨?_, fun y hy => ?_, fun p hp => ?_⟩
  · rw [hk]
    split
    · exact h.nd
    · rename_i q
      refine List.nodup_append.mpr ⟨h.nd, by simp, fun a ha b hb e => ?_⟩
      rw [List.mem_singleton] at hb
      subst hb
      subst e
      exact q (hany.mpr ha)
  · rw [hk]
    rcases List.mem_append.mp hy with hy | hy
    · split
      · exact h.all y hy
      · exact List.mem_append_left _ (h.all y hy)
    · rw [List.mem_singleton] at hy
      subst hy
      split
      · rename_i q; exact hany.mp q
      · exact List.mem_append_right _ (by simp)
  · unfold putI at hp
    split at hp
    · obtain ⟨p0, h1, h2⟩ := List.mem_map.mp hp
      by_cases q : p0.1 = key x
      · rw [if_pos q] at h2
        subst h2
        exact ⟨x, by simp, q, rfl⟩
      · rw [if_neg q] at h2
        subst h2
        obtain ⟨y, g1, g2⟩ := h.is_ _ h1
        exact ⟨y, List.mem_append_left _ g1, g2⟩
    · rcases List.mem_append.mp hp with hp | hp
      · obtain ⟨y, g1, g2⟩ := h.is_ _ hp
        exact ⟨y, List.mem_append_left _ g1, g2⟩
      · rw [List.mem_singleton] at hp
        subst hp
        exact ⟨x, by simp, rfl, rfl⟩
theorem Dq.get {key : Rat → Int} {xs : List Rat} {l : List (Int × D)} (h : Dq key xs l) {k : Int} (hk : k ∈ l.map (·.1)) : ∃ x ∈ xs, key x = k ∧ l.lookup k = some (frD x) := by
  obtain ⟨p, h1, h2⟩ := List.mem_map.mp hk
  obtain ⟨x, g1, g2, g3⟩ := h.is_ p h1
  refine ⟨x, g1, by rw [← g2, h2], ?_⟩
  have nd := h.nd
  clear h hk
  induction l with
  | nil => cases h1
  | cons q l ih =>
    rw [List.map_cons, List.nodup_cons] at nd
    rcases List.mem_cons.mp h1 with rfl | h3
    · rw [← h2, ← g3]
      exact List.lookup_cons_self
    · have hq : q.1 ≠ k := fun e => nd.1 (by rw [e, ← h2]; exact List.mem_map_of_mem h3)
      obtain ⟨q1, q2⟩ := q
      rw [List.lookup_cons, show (k == q1) = false from by simpa using fun e => hq e.symm]
      exact ih h3 nd.2
theorem dct_zip {l : List (Int × D)} : (l.map (·.1)).zip (l.map (·.2)) = l := by
  induction l with
  | nil => rfl
  | cons p l ih => rw [List.map_cons, List.map_cons, List.zip_cons_cons, ih]
def keyQ (m : Int) (x : Rat) : Int := x.num * m * m / (x.den : Int)
theorem key_lt {m : Int} {x y : Rat} (hx : (x.den : Int) ≤ m) (hy : (y.den : Int) ≤ m) (h : x < y) : keyQ m x < keyQ m y := by
  have bx := dpos x
  have by' := dpos y
  have hm : 0 ≤ m := by omega
  rw [Rat.lt_iff] at h
  unfold keyQ
  have k1 : (x.num * m * m / (x.den : Int)) * (x.den : Int) ≤ x.num * m * m := Int.ediv_mul_le _ (by omega)
  generalize x.num * m * m / (x.den : Int) = k at k1 ⊢
  have h1 : x.num * y.den + 1 ≤ y.num * x.den := h
  have h2 : (x.den : Int) * y.den ≤ m * m := Int.mul_le_mul hx hy (by omega) hm
  have h3 : (k + 1) * y.den ≤ y.num * m * m := by
    refine Int.le_of_mul_le_mul_right ?_ bx
    have a1 : k * (x.den : Int) * y.den ≤ x.num * m * m * y.den := Int.mul_le_mul_of_nonneg_right k1 (by omega)
    have a2 : (x.num * y.den + 1) * (m * m) ≤ y.num * x.den * (m * m) := Int.mul_le_mul_of_nonneg_right h1 (Int.mul_nonneg hm hm)
    have e1 : (k + 1) * (y.den : Int) * x.den = k * (x.den : Int) * y.den + (x.den : Int) * y.den := by grind
    have e2 : (x.num * y.den + 1) * (m * m) = x.num * m * m * y.den + m * m := by grind
    have e3 : y.num * x.den * (m * m) = y.num * m * m * x.den := by grind
    omega
  exact Int.lt_iff_add_one_le.mpr ((Int.le_ediv_iff_mul_le by').mpr h3)
theorem key_inj {m : Int} {x y : Rat} (hx : (x.den : Int) ≤ m) (hy : (y.den : Int) ≤ m) (h : keyQ m x < keyQ m y) : x < y := by
  refine Rat.not_le.mp fun q => ?_
  rcases Rat.le_iff_lt_or_eq.mp q with q | q
  · have := key_lt hy hx q
    omega
  · rw [q] at h
    omega
section
variable {K : PySem.W.Frag} {C : CI} {Δ : Store} {P : D → Store → Prop}
/-- what sorted fractions are -/
structure AscOf (xs ys : List Rat) : Prop where
  asc : ys.Pairwise (· < ·)
  mem : ∀ z, z ∈ ys ↔ z ∈ xs
theorem dc_run {zg : ZG} {zk zv : ZE} {Γ0 : Z.Env} {key : Rat → Int} : ∀ (xs done : List Rat) (l : List (Int × D)), Dq key done l → l.length ≤ done.length → done.length + xs.length ≤ 90000 →
    (∀ x ∈ xs, ∀ (Q : D → D → Store → Prop), Q (.int (key x)) (frD x) Δ → zg (frD x) Γ0 Δ fun Γ2 Δ2 => zk Γ2 Δ2 fun y Δ4 => zv Γ2 Δ4 fun z Δ5 => Q y z Δ5) →
    (∀ l', Dq key (done ++ xs) l' → l'.length ≤ (done ++ xs).length → P (dctP l') Δ) → dcZ zg zYes zk zv Γ0 P (xs.map frD) l Δ
  | [], done, l, h, hl, _, _, hp => hp l (by simpa using h) (by simpa using hl)
  | x :: xs, done, l, h, hl, hz, hs, hp => by
    have hz' : done.length + (xs.length + 1) ≤ 90000 := by simpa using hz
    have hlen : (putI (key x) (frD x) l).length ≤ l.length + 1 := by
      unfold putI
      split <;> simp
    show zg (frD x) Γ0 Δ fun Γ2 Δ2 => (true = true → zk Γ2 Δ2 fun y Δ4 => zv Γ2 Δ4 fun z Δ5 => ∃ k, y = .int k ∧ l.length < 100000 ∧ dcZ zg zYes zk zv Γ0 P (xs.map frD) (putI k z l) Δ5) ∧ (true = false → dcZ zg zYes zk zv Γ0 P (xs.map frD) l Δ2)
    simp only [true_implies, reduceCtorEq, false_implies, and_true]
    refine hs x List.mem_cons_self (fun y z Δ5 => ∃ k, y = .int k ∧ l.length < 100000 ∧ dcZ zg zYes zk zv Γ0 P (xs.map frD) (putI k z l) Δ5) ⟨key x, rfl, by omega, ?_⟩
    refine dc_run xs (done ++ [x]) _ (Dq.put h) (by rw [List.length_append]; simp; omega) (by rw [List.length_append]; simp; omega) (fun y hy => hs y (List.mem_cons_of_mem _ hy)) fun l' h' h2 => hp l' (by simpa using h') (by simpa using h2)
end
end Bx

namespace Bx
open PySem PySem.Spec PyProof.Rows L2 Z
local macro_rules | `(tactic| walk_at "zz") => `(tactic| simp only [zSeq, zAsg, zRet, zRetN, zIfS, zNext, zDrop, zPar, zVar, zC, zOp, zUn, zNeg, zI0, zI, zTest, zAnd, zOr, zNot, zAndV, zOrV, zNotV, zIf, zNil, zCons, zTup, zLst, zLstC, zgName, zgTup, zgCons, zgNil, zgSub, startZ, zCall, zCB, zChain, zIsN, zNotN, zNever,
  zAddA, zMulA, zRepeat, zCat, zIx, seqD, lstD, zMax2, zMin2, zAbs, zLen, zSum, zGcd, zInt, zYes, zBreak, zCont, zLc, ziR1, ziR2, ziList, ziTup, ziZip, ziEnum, wipeZ, zFor,
  at0, at1, at2, at3, at4, ix2_3, ix0_3, isNon_int, isNon_non, Bool.not_true, Bool.not_false,
  List.map_cons, List.map_nil, List.length_cons, List.length_nil, List.replicate_succ, List.replicate_zero, List.append_nil, List.nil_append, List.cons_append, List.getElem?_cons_zero, List.getElem?_cons_succ, List.set_cons_zero, List.set_cons_succ,
  Option.some.injEq, D.int.injEq, D.bl.injEq, D.tup.injEq, D.lst.injEq, D.str.injEq, D.cell.injEq, O.lst.injEq, reduceCtorEq, exists_eq_left', exists_eq_left, false_and, and_false, true_and, and_true, exists_false, or_false, false_or, exists_and_left, exists_eq', exists_and_right, List.cons.injEq, and_assoc, dec_not, dec_yes, t_t, t_f, f_t, f_f, true_implies, false_implies, implies_true, and_self, Nat.reduceAdd, Nat.reduceLeDiff, Nat.reduceSub, Nat.reduceLT])
local macro_rules | `(tactic| walk_at "zy") => `(tactic| try simp only [Option.some.injEq, D.int.injEq, D.bl.injEq, D.tup.injEq, D.lst.injEq, D.str.injEq, D.cell.injEq, O.lst.injEq, reduceCtorEq, exists_eq_left', exists_eq_left, false_and, and_false, true_and, and_true, exists_false, or_false, false_or, exists_and_left, exists_eq', exists_and_right, List.cons.injEq, and_assoc, dec_not, dec_yes, t_t, t_f, f_t, f_f, true_implies, false_implies, implies_true, and_self])
/-! ### the levels of a row -/
section
variable {K : PySem.W.Frag} {C : CI} {Δ : Store} {P : D → Store → Prop}
theorem bend_sz {r : Row} (hr : r.Ok) {x : Rat} (h : x ∈ bendL r) : Sz x 101 20 := by
  have hw0 := hr.w0
  have hw1 := hr.w1
  have hb : ∀ b ∈ bndL r, 0 ≤ b ∧ b ≤ 10 ^ 30 := fun b hb => by
    have l0 := hr.l0
    have l1 := hr.l1
    unfold bndL at hb
    cases e : r.m with
    | none => rw [e] at hb; simp at hb; subst hb; exact ⟨l0, l1⟩
    | some m =>
      have hm := hr.m0 m e
      rw [e] at hb
      simp at hb
      rcases hb with rfl | rfl
      · exact ⟨l0, l1⟩
      · exact ⟨by omega, hm.2⟩
  have go : ∀ b ∈ bndL r, ∀ g : Int, 0 < g → g ≤ 10 ^ 6 → Sz (Rat.divInt (b - r.w) g) 101 20 := fun b h1 g h2 h3 => by
    have := hb b h1
    refine sz_div (by omega) ?_ ?_
    · have e : (2 : Nat) ^ 101 = 2535301200456458802993406410752 := by decide
      omega
    · have e : (2 : Nat) ^ 20 = 1048576 := by decide
      omega
  rcases List.mem_append.mp h with h | h
  · obtain ⟨b, h1, rfl⟩ := List.mem_map.mp h
    have h2 := List.mem_filter.mp h1
    have h3 := Bool.and_eq_true_iff.mp h2.2
    exact go b h2.1 _ (of_decide_eq_true h3.2) hr.s1
  · obtain ⟨b, h1, rfl⟩ := List.mem_map.mp h
    have h2 := List.mem_filter.mp h1
    have h3 := Bool.and_eq_true_iff.mp h2.2
    exact go b h2.1 _ (of_decide_eq_true h3.2) hr.g1
theorem bend_len {r : Row} : (bendL r).length ≤ 4 := by
  have : (bndL r).length ≤ 2 := by unfold bndL; split <;> simp
  unfold bendL lowB highB
  rw [List.length_append, List.length_map, List.length_map]
  have h1 := List.length_filter_le (fun b => decide (b < r.w) && decide (0 < r.s)) (bndL r)
  have h2 := List.length_filter_le (fun b => decide (r.w < b) && decide (0 < r.g)) (bndL r)
  omega
/-- a comprehension over a comprehension, nothing left out -/
theorem comp2_map {zg : ZG} {zi1 : ZI} {zg1 : ZG} {ze : ZE} {vs1 : List Nat} {Γ0 : Z.Env} {P : D → Store → Prop} {Δ : Store} {α : Type} {g : α → D} {f : α → List D} : ∀ (xs : List α) (acc : List D), acc.length + (xs.flatMap f).length ≤ 100000 →
    (∀ x ∈ xs, ∀ (R : D → Store → Prop) (acc : List D), acc.length + (f x).length ≤ 100000 → R (.lst (acc ++ f x)) Δ → zg (g x) Γ0 Δ fun Γ2 Δ2 => zi1 Γ2 Δ2 fun items Δ4 => compZ zg1 zYes ze (wipeZ Γ2 vs1) R items acc Δ4) →
    P (.lst (acc ++ xs.flatMap f)) Δ → comp2Z zg zYes zi1 zg1 zYes ze vs1 Γ0 P (xs.map g) acc Δ
  | [], acc, _, _, h => by simpa [comp2Z] using h
  | x :: xs, acc, hl, hs, h => by
    rw [List.flatMap_cons, List.length_append] at hl
    show zg (g x) Γ0 Δ fun Γ2 Δ2 => (true = true → zi1 Γ2 Δ2 fun items Δ4 => compZ zg1 zYes ze (wipeZ Γ2 vs1) (fun d Δ' => ∃ acc', d = .lst acc' ∧ comp2Z zg zYes zi1 zg1 zYes ze vs1 Γ0 P (xs.map g) acc' Δ') items acc Δ4) ∧ (true = false → comp2Z zg zYes zi1 zg1 zYes ze vs1 Γ0 P (xs.map g) acc Δ2)
    simp only [true_implies, reduceCtorEq, false_implies, and_true]
    refine hs x List.mem_cons_self _ acc (by omega) ⟨_, rfl, ?_⟩
    refine comp2_map xs (acc ++ f x) (by rw [List.length_append]; omega) (fun y hy => hs y (List.mem_cons_of_mem _ hy)) ?_
    rw [List.append_assoc, ← List.flatMap_cons]
    exact h
theorem Lv.of {rows : List Row} {ys : List Rat} (h : AscOf ((0 : Rat) :: rows.flatMap bendL) ys) : Lv rows ys := ⟨h.asc, fun x => by rw [h.mem, List.mem_cons, List.mem_flatMap]⟩
theorem flat_len (rows : List Row) : (rows.flatMap bendL).length ≤ 4 * rows.length := by
  induction rows with
  | nil => simp
  | cons r rs ih =>
    rw [List.flatMap_cons, List.length_append, List.length_cons]
    have := bend_len (r := r)
    omega
theorem lv_sz {rows : List Row} {ls : List Rat} (hr : ∀ r ∈ rows, r.Ok) (h : Lv rows ls) {x : Rat} (hx : x ∈ ls) : Sz x 101 20 := by
  rcases (h.mem x).mp hx with rfl | ⟨r, h1, h2⟩
  · exact ⟨by decide, by decide⟩
  · exact bend_sz (hr r h1) h2
end
end Bx

namespace Bx
open PySem PySem.Spec PyProof.Rows L2 Z
local macro_rules | `(tactic| walk_at "zz") => `(tactic| simp only [zSeq, zAsg, zRet, zRetN, zIfS, zNext, zDrop, zPar, zVar, zC, zOp, zUn, zNeg, zI0, zI, zTest, zAnd, zOr, zNot, zAndV, zOrV, zNotV, zIf, zNil, zCons, zTup, zLst, zLstC, zgName, zgTup, zgCons, zgNil, zgSub, startZ, zCall, zCB, zChain, zIsN, zNotN, zNever,
  zAddA, zMulA, zRepeat, zCat, zIx, seqD, lstD, zMax2, zMin2, zAbs, zLen, zSum, zGcd, zInt, zYes, zBreak, zCont, zLc, ziR1, ziR2, ziList, ziTup, ziZip, ziEnum, wipeZ, zFor,
  at0, at1, at2, at3, at4, ix2_3, ix0_3, isNon_int, isNon_non, Bool.not_true, Bool.not_false,
  List.map_cons, List.map_nil, List.length_cons, List.length_nil, List.replicate_succ, List.replicate_zero, List.append_nil, List.nil_append, List.cons_append, List.getElem?_cons_zero, List.getElem?_cons_succ, List.set_cons_zero, List.set_cons_succ,
  Option.some.injEq, D.int.injEq, D.bl.injEq, D.tup.injEq, D.lst.injEq, D.str.injEq, D.cell.injEq, O.lst.injEq, reduceCtorEq, exists_eq_left', exists_eq_left, false_and, and_false, true_and, and_true, exists_false, or_false, false_or, exists_and_left, exists_eq', exists_and_right, List.cons.injEq, and_assoc, dec_not, dec_yes, t_t, t_f, f_t, f_f, true_implies, false_implies, implies_true, and_self, Nat.reduceAdd, Nat.reduceLeDiff, Nat.reduceSub, Nat.reduceLT])
local macro_rules | `(tactic| walk_at "zy") => `(tactic| try simp only [Option.some.injEq, D.int.injEq, D.bl.injEq, D.tup.injEq, D.lst.injEq, D.str.injEq, D.cell.injEq, O.lst.injEq, reduceCtorEq, exists_eq_left', exists_eq_left, false_and, and_false, true_and, and_true, exists_false, or_false, false_or, exists_and_left, exists_eq', exists_and_right, List.cons.injEq, and_assoc, dec_not, dec_yes, t_t, t_f, f_t, f_f, true_implies, false_implies, implies_true, and_self])
/-! ### the level that shares a width -/
theorem eqI {i j : Int} {Δ : Store} {P : D → Store → Prop} (p : P (.bl (i == j)) Δ) : zEq (.int i) (.int j) Δ P := ⟨rfl, rfl, p⟩
def cnd (rows : List Row) (W : Rat) (tc : Bool) (x : Rat) : Prop := if tc = true then SQ rows x ≤ W else SQ rows x < W
theorem cnd_anti {rows : List Row} (hr : ∀ r ∈ rows, r.Ok) {W : Rat} {tc : Bool} {x y : Rat} (h : y ≤ x) (hc : cnd rows W tc x) : cnd rows W tc y := by
  have := SQ_mono hr h
  unfold cnd at hc ⊢
  cases tc with
  | true => simp only [if_true] at hc ⊢; exact Rat.le_trans this hc
  | false => simp only [Bool.false_eq_true, if_false] at hc ⊢; grind
theorem asc_le {ls : List Rat} (h : ls.Pairwise (· < ·)) {i j : Nat} {x y : Rat} (hx : ls[i]? = some x) (hy : ls[j]? = some y) (hij : i ≤ j) : x ≤ y := by
  rcases Nat.lt_or_eq_of_le hij with q | q
  · obtain ⟨h1, e1⟩ := List.getElem?_eq_some_iff.mp hx
    obtain ⟨h2, e2⟩ := List.getElem?_eq_some_iff.mp hy
    have := List.pairwise_iff_getElem.mp h i j h1 h2 q
    rw [e1, e2] at this
    exact Rat.le_of_lt this
  · subst q
    rw [hx] at hy
    cases hy
    exact Rat.le_refl
theorem LastB.of {ls : List Rat} (h : ls.Pairwise (· < ·)) {c : Rat → Prop} {lo : Nat} {a : Rat} (ha : ls[lo]? = some a) (hc : c a) (hn : lo + 1 = ls.length ∨ ∃ b, ls[lo + 1]? = some b ∧ ¬ c b) : LastB ls c a := by
  refine ⟨List.mem_of_getElem? ha, hc, ?_⟩
  rcases hn with hn | ⟨b, hb, nb⟩
  · refine .inl fun x hx => ?_
    obtain ⟨i, hi⟩ := List.mem_iff_getElem?.mp hx
    have := (List.getElem?_eq_some_iff.mp hi).1
    exact asc_le h hi ha (by omega)
  · refine .inr ⟨b, List.mem_of_getElem? hb, ?_, nb, fun x hx => ?_⟩
    · obtain ⟨h1, e1⟩ := List.getElem?_eq_some_iff.mp ha
      obtain ⟨h2, e2⟩ := List.getElem?_eq_some_iff.mp hb
      have := List.pairwise_iff_getElem.mp h lo (lo + 1) h1 h2 (by omega)
      rw [e1, e2] at this
      exact this
    · obtain ⟨i, hi⟩ := List.mem_iff_getElem?.mp hx
      by_cases q : i ≤ lo
      · exact .inl (asc_le h hi ha q)
      · exact .inr (asc_le h hb hi (by omega))
section
variable {K : PySem.W.Frag} {C : CI} {Δ : Store} {P : D → Store → Prop}
end
end Bx

namespace Bx
open PySem PySem.Spec PyProof.Rows L2 Z
local macro_rules | `(tactic| walk_at "zz") => `(tactic| simp only [zSeq, zAsg, zRet, zRetN, zIfS, zNext, zDrop, zPar, zVar, zC, zOp, zUn, zNeg, zI0, zI, zTest, zAnd, zOr, zNot, zAndV, zOrV, zNotV, zIf, zNil, zCons, zTup, zLst, zLstC, zgName, zgTup, zgCons, zgNil, zgSub, startZ, zCall, zCB, zChain, zIsN, zNotN, zNever,
  zAddA, zMulA, zRepeat, zCat, zIx, seqD, lstD, zMax2, zMin2, zAbs, zLen, zSum, zGcd, zInt, zYes, zBreak, zCont, zLc, ziR1, ziR2, ziList, ziTup, ziZip, ziEnum, wipeZ, zFor,
  at0, at1, at2, at3, at4, ix2_3, ix0_3, isNon_int, isNon_non, Bool.not_true, Bool.not_false,
  List.map_cons, List.map_nil, List.length_cons, List.length_nil, List.replicate_succ, List.replicate_zero, List.append_nil, List.nil_append, List.cons_append, List.getElem?_cons_zero, List.getElem?_cons_succ, List.set_cons_zero, List.set_cons_succ,
  Option.some.injEq, D.int.injEq, D.bl.injEq, D.tup.injEq, D.lst.injEq, D.str.injEq, D.cell.injEq, O.lst.injEq, reduceCtorEq, exists_eq_left', exists_eq_left, false_and, and_false, true_and, and_true, exists_false, or_false, false_or, exists_and_left, exists_eq', exists_and_right, List.cons.injEq, and_assoc, dec_not, dec_yes, t_t, t_f, f_t, f_f, true_implies, false_implies, implies_true, and_self, Nat.reduceAdd, Nat.reduceLeDiff, Nat.reduceSub, Nat.reduceLT])
local macro_rules | `(tactic| walk_at "zy") => `(tactic| try simp only [Option.some.injEq, D.int.injEq, D.bl.injEq, D.tup.injEq, D.lst.injEq, D.str.injEq, D.cell.injEq, O.lst.injEq, reduceCtorEq, exists_eq_left', exists_eq_left, false_and, and_false, true_and, and_true, exists_false, or_false, false_or, exists_and_left, exists_eq', exists_and_right, List.cons.injEq, and_assoc, dec_not, dec_yes, t_t, t_f, f_t, f_f, true_implies, false_implies, implies_true, and_self])
/-! ### shares -/
/-- a width, as it is passed -/
inductive IsW (W : Rat) : D → Prop where
  | fr : IsW W (frD W)
  | int (n : Int) (e : W = (n : Rat)) : IsW W (.int n)
/-- what the sharing level has to do -/
structure Shr (rows : List Row) (W t : Rat) : Prop where
  lo : W ≤ ((lowS rows : Int) : Rat) → ∀ r ∈ rows, szQ r t = ((lowI r : Int) : Rat)
  hi : ((lowS rows : Int) : Rat) < W → ∀ H, sumO (rows.map highO) = some H → (H : Rat) ≤ W → ∀ r ∈ rows, ∀ i, highO r = some i → szQ r t = (i : Rat)
  mid : ((lowS rows : Int) : Rat) ≤ W → (∀ H, sumO (rows.map highO) = some H → W ≤ (H : Rat)) → SQ rows t = W
theorem atI_end {α : Type} {xs : List α} {x : α} (h : xs.getLast? = some x) : atI xs (-1) = some x := by
  obtain ⟨ys, rfl⟩ := List.getLast?_eq_some_iff.mp h
  exact atI_last ys x
section
variable {K : PySem.W.Frag} {C : CI} {Δ : Store} {P : D → Store → Prop}
theorem lowS_sz {rows : List Row} (hl : rows.length ≤ 40) (hr : ∀ r ∈ rows, r.Ok) : Sz (((lowS rows : Int) : Rat)) 110 0 := by
  have := sumI_small hl (f := lowI) fun r h => low_bounds (hr r h)
  exact int_sz _ (Nat.lt_trans this.2 (by decide))
theorem div_den {x : Rat} {k : Int} : Rat.divInt x.num ((x.den : Int) * k) = x / (k : Rat) := by
  have e : (x.num : Rat) / ((x.den : Int) : Rat) = x := by rw [← divQ]; exact Rat.num_divInt_den x
  rw [divQ, Rat.intCast_mul]
  have hd : ((x.den : Int) : Rat) ≠ 0 := Rat.ne_of_gt (Rat.intCast_pos.mpr (dpos x))
  generalize ((x.den : Int) : Rat) = d at e hd ⊢
  generalize (x.num : Rat) = n at e ⊢
  rw [← e, Rat.div_def, Rat.div_def, Rat.div_def, Rat.inv_mul_rev]
  rw [Rat.mul_assoc, Rat.mul_comm _ d⁻¹]
theorem lvAt_sz {rows : List Row} (hl : rows.length ≤ 100) (hr : ∀ r ∈ rows, r.Ok) {a W : Rat} {N M : Nat} (ha : Sz a 101 20) (hW : Sz W N M) (hNM : M + 150 ≤ N) (hN3 : N ≤ 3000) (hp : 0 < SL rows a) : Sz (lvAt rows a W) (N + 50) (M + 70) := by
  have s1 : Sz (W - SQ rows a) (N + 21) (M + 20) := (sz_sub hW (SQ_sz (k := 129) hl hr ha (by decide) (by decide)) (N := N + 21) (by omega) (by omega))
  have hb : (SL rows a).natAbs < 2 ^ 27 := by
    have := SL_le hr (t := a)
    have e : (2 : Nat) ^ 27 = 134217728 := by decide
    omega
  have s2 : Sz ((W - SQ rows a) / (SL rows a : Rat)) (N + 21) (M + 47) := by
    rw [← div_den]
    refine sz_div ?_ s1.n ?_
    · have := Int.mul_pos (dpos (W - SQ rows a)) hp
      omega
    · rw [Int.natAbs_mul, den_abs]
      refine Nat.le_trans (Nat.mul_le_mul s1.d (Nat.le_of_lt hb)) ?_
      rw [← Nat.pow_add]
      exact Nat.pow_le_pow_right (by decide) (by omega)
  unfold lvAt
  exact (sz_add ha s2 (N := N + 50) (by omega) (by omega)).mono (by omega) (by omega)
theorem low_lt_first {rows : List Row} (hr : ∀ r ∈ rows, r.Ok) {W : Rat} (hlo : ((lowS rows : Int) : Rat) < W) : ∀ ls, Lv rows ls → ∀ x, (∀ y ∈ ls, x ≤ y) → cnd rows W false x := fun ls h x hx => by
  unfold cnd
  rw [(SQ_low hr h hx).2]
  simpa using hlo
theorem low_high {rows : List Row} (hr : ∀ r ∈ rows, r.Ok) {H : Int} (h : sumO (rows.map highO) = some H) : lowS rows ≤ H := by
  have h1 := S_low (p := 0) (q := 1) hr (by decide)
  have h2 := S_high (p := 0) (q := 1) hr (by decide) h
  exact Rat.intCast_le_intCast.mp (Rat.le_trans h1 h2)
theorem tyD_int {n : Int} : tyD C Δ (.int n) = some (.type "int") := rfl
theorem chkW_ok {W : Rat} {d : D} (hw : IsW W d) (h0 : 0 ≤ W) (p : P .non Δ) : W_check_width K C [d] Δ P := by
  have hn : 0 ≤ W.num := Rat.num_nonneg.mpr h0
  unfold W_check_width z_check_width W_is_rational z_is_rational W_as_fraction z_as_fraction
  cases hw with
  | fr =>
    walk_at "zz"
    refine isint_t ?_
    walk_at "zz"
    refine isfrac_ok ?_
    walk_at "zz"
    refine isi_ty (r := true) rfl (by decide +kernel) ?_
    unfold frD
    walk_at "zz"
    exact ⟨fun q => by omega, fun _ => p⟩
  | int n e =>
    subst e
    rw [Rat.num_intCast] at hn
    walk_at "zz"
    refine isint_i ?_
    walk_at "zz"
    refine isi_ty (r := false) rfl (by decide +kernel) ?_
    walk_at "zz"
    exact ⟨fun q => by omega, fun _ => p⟩
theorem asF_ok {W : Rat} {d : D} (hw : IsW W d) (p : P (frD W) Δ) : W_as_fraction K C [d] Δ P := by
  unfold W_as_fraction z_as_fraction
  cases hw with
  | fr =>
    walk_at "zz"
    refine isi_ty (r := true) rfl (by decide +kernel) ?_
    walk_at "zz"
    exact p
  | int n e =>
    subst e
    walk_at "zz"
    refine isi_ty (r := false) rfl (by decide +kernel) ?_
    walk_at "zz"
    exact p
end
end Bx

namespace Bx
open PySem PySem.Spec PyProof.Rows L2 Z
local macro_rules | `(tactic| walk_at "zz") => `(tactic| simp only [zSeq, zAsg, zRet, zRetN, zIfS, zNext, zDrop, zPar, zVar, zC, zOp, zUn, zNeg, zI0, zI, zTest, zAnd, zOr, zNot, zAndV, zOrV, zNotV, zIf, zNil, zCons, zTup, zLst, zLstC, zgName, zgTup, zgCons, zgNil, zgSub, startZ, zCall, zCB, zChain, zIsN, zNotN, zNever,
  zAddA, zMulA, zRepeat, zCat, zIx, seqD, lstD, zMax2, zMin2, zAbs, zLen, zSum, zGcd, zInt, zYes, zBreak, zCont, zLc, ziR1, ziR2, ziList, ziTup, ziZip, ziEnum, wipeZ, zFor,
  at0, at1, at2, at3, at4, ix2_3, ix0_3, isNon_int, isNon_non, Bool.not_true, Bool.not_false,
  List.map_cons, List.map_nil, List.length_cons, List.length_nil, List.replicate_succ, List.replicate_zero, List.append_nil, List.nil_append, List.cons_append, List.getElem?_cons_zero, List.getElem?_cons_succ, List.set_cons_zero, List.set_cons_succ,
  Option.some.injEq, D.int.injEq, D.bl.injEq, D.tup.injEq, D.lst.injEq, D.str.injEq, D.cell.injEq, O.lst.injEq, reduceCtorEq, exists_eq_left', exists_eq_left, false_and, and_false, true_and, and_true, exists_false, or_false, false_or, exists_and_left, exists_eq', exists_and_right, List.cons.injEq, and_assoc, dec_not, dec_yes, t_t, t_f, f_t, f_f, true_implies, false_implies, implies_true, and_self, Nat.reduceAdd, Nat.reduceLeDiff, Nat.reduceSub, Nat.reduceLT])
local macro_rules | `(tactic| walk_at "zy") => `(tactic| try simp only [Option.some.injEq, D.int.injEq, D.bl.injEq, D.tup.injEq, D.lst.injEq, D.str.injEq, D.cell.injEq, O.lst.injEq, reduceCtorEq, exists_eq_left', exists_eq_left, false_and, and_false, true_and, and_true, exists_false, or_false, false_or, exists_and_left, exists_eq', exists_and_right, List.cons.injEq, and_assoc, dec_not, dec_yes, t_t, t_f, f_t, f_f, true_implies, false_implies, implies_true, and_self])
/-! ### texts of fractions -/
def pf (x : Rat) : PyData := .tuple [.int x.num, .int (x.den : Int)]
theorem pds_fr : ∀ xs : List Rat, pds (xs.map frD) = xs.map pf
  | [] => rfl
  | x :: xs => by
    show pd (frD x) :: pds (xs.map frD) = _
    rw [pds_fr xs]
    rfl
theorem plain_fr : ∀ xs : List Rat, plainDs (xs.map frD) = true
  | [] => rfl
  | x :: xs => by
    show (true && plainDs (xs.map frD)) = true
    rw [plain_fr xs]
    rfl
theorem canLay_fr : ∀ xs : List Rat, PyData.canLayAll0 (xs.map pf) = true
  | [] => rfl
  | x :: xs => by
    show (true && PyData.canLayAll0 (xs.map pf)) = true
    rw [canLay_fr xs]
    rfl
theorem depth_fr : ∀ xs : List Rat, PyData.depthAll (xs.map pf) ≤ 1
  | [] => Nat.zero_le _
  | x :: xs => Nat.max_le.mpr ⟨Nat.le_refl 1, depth_fr xs⟩
theorem shp_frs (xs : List Rat) : shp (.lst (xs.map frD)) = true := by
  have h1 : plainD (.lst (xs.map frD)) = true := plain_fr xs
  have h2 : PyData.canLay0 (pd (.lst (xs.map frD))) = true := by
    show PyData.canLayAll0 (pds (xs.map frD)) = true
    rw [pds_fr]
    exact canLay_fr xs
  have h3 : (pd (.lst (xs.map frD))).depth ≤ 64 := by
    show PyData.depthAll (pds (xs.map frD)) + 1 ≤ 64
    rw [pds_fr]
    have := depth_fr xs
    omega
  unfold shp SeqAt.shaped
  rw [h1, h2, decide_eq_true h3]
  rfl
theorem shp_fr (x : Rat) : shp (frD x) = true := rfl
theorem txt_int {i : Int} (h : i.natAbs < 2 ^ 1500) : (PyData.shown (.int i)).length ≤ 1501 := by
  show (Str.ofString (toString i)).length ≤ 1501
  rw [PySem.ofString_length]
  refine int_text_length_le (by decide) ?_
  rcases Nat.eq_zero_or_pos i.natAbs with h0 | hp
  · rw [h0]; decide
  · exact (Nat.log2_lt (Nat.ne_of_gt hp)).mpr h
theorem log_int {i : Int} (h : i.natAbs < 2 ^ 1500) : decide (i.natAbs.log2 < 1920) = true := by
  refine decide_eq_true ?_
  rcases Nat.eq_zero_or_pos i.natAbs with h0 | hp
  · rw [h0]; decide
  · exact (Nat.log2_lt (Nat.ne_of_gt hp)).mpr (Nat.lt_of_lt_of_le h (Nat.pow_le_pow_right (by decide) (by decide)))
theorem ok_pf (x : Rat) : PyData.strOk (PyData.shown (pf x)) = true := by
  show PyData.strOk (Str.ofString "(" ++ (PyData.shown (.int x.num) ++ Str.ofString ", " ++ PyData.shown (.int (x.den : Int))) ++ Str.ofString ")") = true
  exact ok_app (ok_app (ok_of _) (ok_app (ok_app (ok_int _) (ok_of _)) (ok_int _))) (ok_of _)
theorem ok_pfs : ∀ (xs : List Rat), ∀ t ∈ PyData.shownAll (xs.map pf), PyData.strOk t = true
  | [], _, h => nomatch h
  | x :: xs, t, h => by
    have h : t ∈ PyData.shown (pf x) :: PyData.shownAll (xs.map pf) := h
    rcases List.mem_cons.mp h with rfl | h
    · exact ok_pf x
    · exact ok_pfs xs t h
theorem ok_frs (xs : List Rat) : PyData.strOk (PyData.shown (pd (.lst (xs.map frD)))) = true := by
  show PyData.strOk (textFrom 0 "[" (PyData.shownAll (pds (xs.map frD))) ++ Str.ofString "]") = true
  rw [pds_fr]
  exact ok_app (ok_text _ _ _ (ok_of _) (ok_pfs xs)) (ok_of _)
theorem Sz.up {x : Rat} {N M : Nat} (h : Sz x N M) (h1 : N ≤ 1500) (h2 : M + 1 ≤ 1500) : x.num.natAbs < 2 ^ 1500 ∧ ((x.den : Int)).natAbs < 2 ^ 1500 :=
  ⟨Nat.lt_of_lt_of_le h.n (Nat.pow_le_pow_right (by decide) h1), Nat.lt_of_lt_of_le h.dl (Nat.pow_le_pow_right (by decide) h2)⟩
theorem len_pf {x : Rat} (h1 : x.num.natAbs < 2 ^ 1500) (h2 : ((x.den : Int)).natAbs < 2 ^ 1500) : (PyData.shown (pf x)).length ≤ 3100 := by
  show (tupleText [PyData.shown (.int x.num), PyData.shown (.int (x.den : Int))]).length ≤ 3100
  refine Nat.le_trans (tupleText_len_le _) ?_
  have h1 := txt_int h1
  have h2 := txt_int h2
  simp only [List.map_cons, List.map_nil, List.sum_cons, List.sum_nil, List.length_cons, List.length_nil]
  omega
theorem show_fr {x : Rat} (h1 : x.num.natAbs < 2 ^ 1500) (h2 : ((x.den : Int)).natAbs < 2 ^ 1500) : Showable (frD x) := by
  refine ⟨rfl, ?_, Nat.le_of_ble_eq_true rfl, ?_⟩
  · show (decide (x.num.natAbs.log2 < 1920) && (decide (((x.den : Int)).natAbs.log2 < 1920) && true)) = true
    rw [log_int h1, log_int h2]
    rfl
  · show (PyData.shown (pf x)).length ≤ sizeLine
    have := len_pf h1 h2
    rw [sizeLine_eq]
    omega
theorem showable_frs : ∀ (xs : List Rat), (∀ x ∈ xs, x.num.natAbs < 2 ^ 1500 ∧ ((x.den : Int)).natAbs < 2 ^ 1500) → PyData.showableAll (xs.map pf) = true ∧ ((PyData.shownAll (xs.map pf)).map (·.length)).sum ≤ xs.length * 3100 ∧ (PyData.shownAll (xs.map pf)).length = xs.length
  | [], _ => ⟨rfl, Nat.le_refl _, rfl⟩
  | x :: xs, h => by
    obtain ⟨h1, h2⟩ := h x List.mem_cons_self
    obtain ⟨g1, g2, g3⟩ := showable_frs xs fun y hy => h y (List.mem_cons_of_mem _ hy)
    refine ⟨?_, ?_, ?_⟩
    · show ((decide (x.num.natAbs.log2 < 1920) && (decide (((x.den : Int)).natAbs.log2 < 1920) && true)) && PyData.showableAll (xs.map pf)) = true
      rw [log_int h1, log_int h2, g1]
      rfl
    · show (PyData.shown (pf x)).length + ((PyData.shownAll (xs.map pf)).map (·.length)).sum ≤ (xs.length + 1) * 3100
      have := len_pf h1 h2
      omega
    · show (PyData.shownAll (xs.map pf)).length + 1 = xs.length + 1
      rw [g3]
theorem show_frs {xs : List Rat} (hl : xs.length ≤ 200) (h : ∀ x ∈ xs, x.num.natAbs < 2 ^ 1500 ∧ ((x.den : Int)).natAbs < 2 ^ 1500) : Showable (.lst (xs.map frD)) := by
  obtain ⟨g1, g2, g3⟩ := showable_frs xs h
  refine ⟨plain_fr xs, ?_, ?_, ?_⟩
  · show PyData.showableAll (pds (xs.map frD)) = true
    rw [pds_fr]
    exact g1
  · show PyData.depthAll (pds (xs.map frD)) + 1 ≤ 60
    rw [pds_fr]
    have := depth_fr xs
    omega
  · show (listText (PyData.shownAll (pds (xs.map frD)))).length ≤ sizeLine
    rw [pds_fr]
    refine Nat.le_trans (listText_len_le _) ?_
    rw [g3, sizeLine_eq]
    omega
theorem eq_same {x y : D} {Δ : Store} {P : D → Store → Prop} (e : rd Δ x = rd Δ y) (hs : shp (rd Δ y) = true) (p : P (.bl true) Δ) : zEq x y Δ P := by
  refine ⟨by rw [e]; exact hs, hs, ?_⟩
  rw [e]
  unfold eqD
  rw [SeqAt.eqv_refl _ (SeqAt.canLay_of_shaped (Bool.and_eq_true_iff.mp hs).2)]
  exact p
theorem rd_frs {Δ : Store} {xs : List Rat} : rd Δ (.lst (xs.map frD)) = .lst (xs.map frD) := rfl
theorem rd_cell {Δ : Store} {n : Nat} {ds : List D} (h : Δ[n]? = some (.lst ds)) : rd Δ (.cell n) = .lst ds := by unfold rd; simp only [h]
/-! ### shares over data -/
theorem high_all {rows : List Row} {H : Int} (h : sumO (rows.map highO) = some H) : ∀ r ∈ rows, ∃ i, highO r = some i := fun r hr => by
  rcases sumO_cases highO rows with ⟨_, q⟩ | ⟨_, ns, q1, q2⟩
  · rw [q] at h; cases h
  · have : highO r ∈ rows.map highO := List.mem_map_of_mem hr
    rw [q1] at this
    obtain ⟨j, _, hj⟩ := List.mem_map.mp this
    exact ⟨j, hj.symm⟩
theorem shr_uniq {rows : List Row} (hr : ∀ r ∈ rows, r.Ok) {W t u : Rat} (ht : Shr rows W t) (hu : Shr rows W u) : ∀ r ∈ rows, szQ r t = szQ r u := fun r hm => by
  by_cases h1 : W ≤ ((lowS rows : Int) : Rat)
  · rw [ht.lo h1 r hm, hu.lo h1 r hm]
  · have h1' := Rat.not_le.mp h1
    by_cases h2 : ∃ H, sumO (rows.map highO) = some H ∧ (H : Rat) ≤ W
    · obtain ⟨H, hH, hle⟩ := h2
      obtain ⟨i, hi⟩ := high_all hH r hm
      rw [ht.hi h1' H hH hle r hm i hi, hu.hi h1' H hH hle r hm i hi]
    · have h3 : ∀ H, sumO (rows.map highO) = some H → W ≤ (H : Rat) := fun H hH => Rat.le_of_lt (Rat.not_le.mp fun z => h2 ⟨H, hH, z⟩)
      have e1 := ht.mid (Rat.le_of_lt h1') h3
      have e2 := hu.mid (Rat.le_of_lt h1') h3
      rcases Rat.le_total (a := t) (b := u) with q | q
      · exact SQ_inj hr q (by rw [e1, e2]) r hm
      · exact (SQ_inj hr q (by rw [e1, e2]) r hm).symm
theorem shr_sum {rows : List Row} (hr : ∀ r ∈ rows, r.Ok) {W t u : Rat} (ht : Shr rows W t) (hu : Shr rows W u) : SQ rows t = SQ rows u := by
  unfold SQ
  rw [List.map_congr_left fun r hm => shr_uniq hr ht hu r hm]
/-- the sizes of a row at a level -/
def sizes (rows : List Row) (t : Rat) : List Rat := rows.map fun r => szQ r t
theorem sizes_uniq {rows : List Row} (hr : ∀ r ∈ rows, r.Ok) {W t u : Rat} (ht : Shr rows W t) (hu : Shr rows W u) : sizes rows t = sizes rows u := List.map_congr_left fun r hm => shr_uniq hr ht hu r hm
theorem sizes_sz {rows : List Row} (hr : ∀ r ∈ rows, r.Ok) {t : Rat} {N M : Nat} (ht : Sz t N M) (hNM : M + 80 ≤ N) : ∀ x ∈ sizes rows t, Sz x (N + 21) M := fun x hx => by
  obtain ⟨r, h1, rfl⟩ := List.mem_map.mp hx
  exact szQ_sz (hr r h1) ht (by omega) (by omega)
section
variable {K : PySem.W.Frag} {C : CI} {Δ : Store} {P : D → Store → Prop}
/-- a sum of fractions whose partial sums stay small -/
theorem lsumB_loop {Z : ZEnds} {rows : D} {N M : Nat} (h1 : N ≤ 3900) (h2 : M ≤ 3900) : ∀ (xs : List Rat) (a : Rat) (one : Option D), (∀ k, k ≤ xs.length → Sz (sumQ a (xs.take k)) N M) → (∀ x ∈ xs, Sz x N M) → (∀ one' : Option D, Z.nx [some rows, some (frD (sumQ a xs)), one'] Δ) →
    loopZ (fun x Z' Γ' Δ' => zgName 2 x Γ' Δ' fun Γ2 Δ2 => zAsg (zCall (W__law_add K C) [] (zCons (zVar 1) (zCons (zVar 2) (zNil)))) (zgName 1) Z' Γ2 Δ2) Z (xs.map frD) [some rows, some (frD a), one] Δ
  | [], a, one, _, _, h => h one
  | x :: xs, a, one, hp, hx, h => by
    rw [List.map_cons, loopZ]
    walk_at "zz"
    refine ladd_ok (hp 0 (Nat.zero_le _)) (hx x List.mem_cons_self) h1 h2 ?_
    exact lsumB_loop h1 h2 xs (a + x) _ (fun k hk => hp (k + 1) (Nat.succ_le_succ hk)) (fun y hy => hx y (List.mem_cons_of_mem _ hy)) h
theorem take_sizes {rows : List Row} {t : Rat} {k : Nat} : sumQ 0 ((sizes rows t).take k) = SQ (rows.take k) t := by
  unfold sizes SQ
  rw [List.map_take]
end
end Bx

namespace Bx
open PySem PySem.Spec PyProof.Rows L2 Z
local macro_rules | `(tactic| walk_at "zz") => `(tactic| simp only [zSeq, zAsg, zRet, zRetN, zIfS, zNext, zDrop, zPar, zVar, zC, zOp, zUn, zNeg, zI0, zI, zTest, zAnd, zOr, zNot, zAndV, zOrV, zNotV, zIf, zNil, zCons, zTup, zLst, zLstC, zgName, zgTup, zgCons, zgNil, zgSub, startZ, zCall, zCB, zChain, zIsN, zNotN, zNever,
  zAddA, zMulA, zRepeat, zCat, zIx, seqD, lstD, zMax2, zMin2, zAbs, zLen, zSum, zGcd, zInt, zYes, zBreak, zCont, zLc, ziR1, ziR2, ziList, ziTup, ziZip, ziEnum, wipeZ, zFor,
  at0, at1, at2, at3, at4, ix2_3, ix0_3, isNon_int, isNon_non, Bool.not_true, Bool.not_false,
  List.map_cons, List.map_nil, List.length_cons, List.length_nil, List.replicate_succ, List.replicate_zero, List.append_nil, List.nil_append, List.cons_append, List.getElem?_cons_zero, List.getElem?_cons_succ, List.set_cons_zero, List.set_cons_succ,
  Option.some.injEq, D.int.injEq, D.bl.injEq, D.tup.injEq, D.lst.injEq, D.str.injEq, D.cell.injEq, O.lst.injEq, reduceCtorEq, exists_eq_left', exists_eq_left, false_and, and_false, true_and, and_true, exists_false, or_false, false_or, exists_and_left, exists_eq', exists_and_right, List.cons.injEq, and_assoc, dec_not, dec_yes, t_t, t_f, f_t, f_f, true_implies, false_implies, implies_true, and_self, Nat.reduceAdd, Nat.reduceLeDiff, Nat.reduceSub, Nat.reduceLT])
local macro_rules | `(tactic| walk_at "zy") => `(tactic| try simp only [Option.some.injEq, D.int.injEq, D.bl.injEq, D.tup.injEq, D.lst.injEq, D.str.injEq, D.cell.injEq, O.lst.injEq, reduceCtorEq, exists_eq_left', exists_eq_left, false_and, and_false, true_and, and_true, exists_false, or_false, false_or, exists_and_left, exists_eq', exists_and_right, List.cons.injEq, and_assoc, dec_not, dec_yes, t_t, t_f, f_t, f_f, true_implies, false_implies, implies_true, and_self])
section
variable {K : PySem.W.Frag} {C : CI} {Δ : Store} {P : D → Store → Prop}
end
end Bx

namespace Bx
open PySem PySem.Spec PyProof.Rows L2 Z
local macro_rules | `(tactic| walk_at "zz") => `(tactic| simp only [zSeq, zAsg, zRet, zRetN, zIfS, zNext, zDrop, zPar, zVar, zC, zOp, zUn, zNeg, zI0, zI, zTest, zAnd, zOr, zNot, zAndV, zOrV, zNotV, zIf, zNil, zCons, zTup, zLst, zLstC, zgName, zgTup, zgCons, zgNil, zgSub, startZ, zCall, zCB, zChain, zIsN, zNotN, zNever,
  zAddA, zMulA, zRepeat, zCat, zIx, seqD, lstD, zMax2, zMin2, zAbs, zLen, zSum, zGcd, zInt, zYes, zBreak, zCont, zLc, ziR1, ziR2, ziList, ziTup, ziZip, ziEnum, wipeZ, zFor,
  at0, at1, at2, at3, at4, ix2_3, ix0_3, isNon_int, isNon_non, Bool.not_true, Bool.not_false,
  List.map_cons, List.map_nil, List.length_cons, List.length_nil, List.replicate_succ, List.replicate_zero, List.append_nil, List.nil_append, List.cons_append, List.getElem?_cons_zero, List.getElem?_cons_succ, List.set_cons_zero, List.set_cons_succ,
  Option.some.injEq, D.int.injEq, D.bl.injEq, D.tup.injEq, D.lst.injEq, D.str.injEq, D.cell.injEq, O.lst.injEq, reduceCtorEq, exists_eq_left', exists_eq_left, false_and, and_false, true_and, and_true, exists_false, or_false, false_or, exists_and_left, exists_eq', exists_and_right, List.cons.injEq, and_assoc, dec_not, dec_yes, t_t, t_f, f_t, f_f, true_implies, false_implies, implies_true, and_self, Nat.reduceAdd, Nat.reduceLeDiff, Nat.reduceSub, Nat.reduceLT])
local macro_rules | `(tactic| walk_at "zy") => `(tactic| try simp only [Option.some.injEq, D.int.injEq, D.bl.injEq, D.tup.injEq, D.lst.injEq, D.str.injEq, D.cell.injEq, O.lst.injEq, reduceCtorEq, exists_eq_left', exists_eq_left, false_and, and_false, true_and, and_true, exists_false, or_false, false_or, exists_and_left, exists_eq', exists_and_right, List.cons.injEq, and_assoc, dec_not, dec_yes, t_t, t_f, f_t, f_f, true_implies, false_implies, implies_true, and_self])
/-! ### the law's widths, levels -/
def optQ : Option Rat → D
  | none => .non
  | some x => frD x
theorem highs_in {rows : List Row} : inD .non (rows.map fun r => optD (highO r)) = (rows.any fun r => Z.isNon (optD (highO r))) := inD_non
def ownS (rows : List Row) : Int := (rows.map ownI).sum
section
variable {K : PySem.W.Frag} {C : CI} {Δ : Store} {P : D → Store → Prop}
theorem smB {i : Int} (h0 : 0 ≤ i) (h : i ≤ 10 ^ 40) : i.natAbs < 2 ^ 8000 := Nat.lt_of_lt_of_le (natAbs_lt (n := 140) h0 (Int.lt_of_le_of_lt h (by decide))) (Nat.pow_le_pow_right (by decide) (by decide))
theorem sums_in {rows : List Row} (hl : rows.length ≤ 40) (hr : ∀ r ∈ rows, r.Ok) : (0 ≤ lowS rows ∧ lowS rows < 10 ^ 33) ∧ (0 ≤ ownS rows ∧ ownS rows < 10 ^ 33) ∧ ∀ H, sumO (rows.map highO) = some H → 0 ≤ H ∧ H < 10 ^ 33 := by
  have a := sumI_small hl (f := lowI) fun r h => low_bounds (hr r h)
  have b := sumI_small hl (f := ownI) fun r h => own_bounds (hr r h)
  refine ⟨⟨a.1, ?_⟩, ⟨b.1, ?_⟩, fun H hH => ?_⟩
  · have := a.2; unfold lowS; omega
  · have := b.2; unfold ownS; omega
  · have := sumO_small hr hl H hH
    have h2 := low_high hr hH
    have h3 := a.1
    unfold lowS at h2
    omega
/-- a width that the law draws -/
theorem width_sz {f b p : Int} (f0 : 0 ≤ f) (f1 : f ≤ 10 ^ 40) (b0 : 1 ≤ b) (b1 : b ≤ 10 ^ 9) (p0 : 0 ≤ p) (p1 : p < b) : 0 ≤ Rat.divInt (f * b + p) b ∧ Sz (Rat.divInt (f * b + p) b) 190 40 := by
  have h0 : 0 ≤ f * b := Int.mul_nonneg f0 (by omega)
  have h1 : f * b ≤ 10 ^ 40 * 10 ^ 9 := Int.mul_le_mul f1 b1 (by omega) (by decide)
  refine ⟨Rat.divInt_nonneg (by omega) (by omega), sz_div (by omega) (natAbs_lt (by omega) ?_) ?_⟩
  · have : (10 : Int) ^ 40 * 10 ^ 9 + 10 ^ 9 < 2 ^ 190 := by decide
    omega
  · have e : (2 : Nat) ^ 40 = 1099511627776 := by decide
    omega
end
end Bx

namespace Bx
open PySem PySem.Spec PyProof.Rows L2 Z
local macro_rules | `(tactic| walk_at "zz") => `(tactic| simp only [zSeq, zAsg, zRet, zRetN, zIfS, zNext, zDrop, zPar, zVar, zC, zOp, zUn, zNeg, zI0, zI, zTest, zAnd, zOr, zNot, zAndV, zOrV, zNotV, zIf, zNil, zCons, zTup, zLst, zLstC, zgName, zgTup, zgCons, zgNil, zgSub, startZ, zCall, zCB, zChain, zIsN, zNotN, zNever,
  zAddA, zMulA, zRepeat, zCat, zIx, seqD, lstD, zMax2, zMin2, zAbs, zLen, zSum, zGcd, zInt, zYes, zBreak, zCont, zLc, ziR1, ziR2, ziList, ziTup, ziZip, ziEnum, wipeZ, zFor,
  at0, at1, at2, at3, at4, ix2_3, ix0_3, isNon_int, isNon_non, Bool.not_true, Bool.not_false,
  List.map_cons, List.map_nil, List.length_cons, List.length_nil, List.replicate_succ, List.replicate_zero, List.append_nil, List.nil_append, List.cons_append, List.getElem?_cons_zero, List.getElem?_cons_succ, List.set_cons_zero, List.set_cons_succ,
  Option.some.injEq, D.int.injEq, D.bl.injEq, D.tup.injEq, D.lst.injEq, D.str.injEq, D.cell.injEq, O.lst.injEq, reduceCtorEq, exists_eq_left', exists_eq_left, false_and, and_false, true_and, and_true, exists_false, or_false, false_or, exists_and_left, exists_eq', exists_and_right, List.cons.injEq, and_assoc, dec_not, dec_yes, t_t, t_f, f_t, f_f, true_implies, false_implies, implies_true, and_self, Nat.reduceAdd, Nat.reduceLeDiff, Nat.reduceSub, Nat.reduceLT])
local macro_rules | `(tactic| walk_at "zy") => `(tactic| try simp only [Option.some.injEq, D.int.injEq, D.bl.injEq, D.tup.injEq, D.lst.injEq, D.str.injEq, D.cell.injEq, O.lst.injEq, reduceCtorEq, exists_eq_left', exists_eq_left, false_and, and_false, true_and, and_true, exists_false, or_false, false_or, exists_and_left, exists_eq', exists_and_right, List.cons.injEq, and_assoc, dec_not, dec_yes, t_t, t_f, f_t, f_f, true_implies, false_implies, implies_true, and_self])
/-! ### the levels at which a box has a size -/
def InR (f l : Option Rat) (t : Rat) : Prop := (∀ q, f = some q → q ≤ t) ∧ ∀ q, l = some q → t ≤ q
theorem cl_ge {v l x : Rat} {m : Option Int} (h1 : l < x) (h2 : ∀ i, m = some i → x ≤ (i : Rat)) : x ≤ limQ v l m ↔ x ≤ v := by
  unfold limQ
  cases m with
  | none => show x ≤ (if v < l then l else v) ↔ _; split <;> constructor <;> intro <;> grind
  | some i =>
    have := h2 i rfl
    show x ≤ (if v < l then l else if (i : Rat) < v then (i : Rat) else v) ↔ _
    split <;> (try split) <;> constructor <;> intro <;> grind
theorem cl_le {v l x : Rat} {m : Option Int} (h1 : l ≤ x) (h2 : ∀ i, m = some i → x < (i : Rat)) : limQ v l m ≤ x ↔ v ≤ x := by
  unfold limQ
  cases m with
  | none => show (if v < l then l else v) ≤ x ↔ _; split <;> constructor <;> intro <;> grind
  | some i =>
    have := h2 i rfl
    show (if v < l then l else if (i : Rat) < v then (i : Rat) else v) ≤ x ↔ _
    split <;> (try split) <;> constructor <;> intro <;> grind
/-- what own is, told by cases -/
theorem own_cases {r : Row} (hr : r.Ok) : (r.w < r.l ∧ ownI r = r.l) ∨ (r.l ≤ r.w ∧ (∀ i, r.m = some i → r.w ≤ i) ∧ ownI r = r.w) ∨ ∃ i, r.m = some i ∧ i < r.w ∧ ownI r = i := by
  unfold ownI lim
  by_cases h : r.w < r.l
  · exact .inl ⟨h, if_pos h⟩
  · rw [if_neg h]
    cases e : r.m with
    | none => exact .inr (.inl ⟨by omega, (fun i q => nomatch q), rfl⟩)
    | some m =>
      by_cases h2 : m < r.w
      · exact .inr (.inr ⟨m, rfl, h2, if_pos h2⟩)
      · exact .inr (.inl ⟨by omega, fun i q => by cases q; omega, if_neg h2⟩)
theorem v_pos {r : Row} {t : Rat} (h : 0 ≤ t) : vQ r t = (r.w : Rat) + t * (r.g : Rat) := by unfold vQ wtI; rw [if_pos h]
theorem v_neg {r : Row} {t : Rat} (h : t ≤ 0) : vQ r t = (r.w : Rat) + t * (r.s : Rat) := by
  unfold vQ wtI
  by_cases q : 0 ≤ t
  · have : t = 0 := by grind
    subst this
    grind
  · rw [if_neg q]
def inS (r : Row) (x : Rat) : Prop := ((lowI r : Int) : Rat) ≤ x ∧ ∀ i, highO r = some i → x ≤ (i : Rat)
def wF (r : Row) (x : Rat) : Int := if ((ownI r : Int) : Rat) < x then r.g else r.s
def wL (r : Row) (x : Rat) : Int := if x < ((ownI r : Int) : Rat) then r.s else r.g
theorem ge_level {r : Row} (hr : r.Ok) {x : Rat} (hx : inS r x) (h : ((lowI r : Int) : Rat) < x) : 0 < wF r x ∧ ∀ t, x ≤ szQ r t ↔ (x - (r.w : Rat)) / (wF r x : Rat) ≤ t := by
  have hg0 := hr.rng.g0
  have hs0 := hr.rng.s0
  have oc := own_cases hr
  by_cases ho : ((ownI r : Int) : Rat) < x
  · have hw : wF r x = r.g := if_pos ho
    rw [hw]
    have hg : 0 < r.g := by
      refine Int.not_le.mp fun q => ?_
      have : highO r = some (ownI r) := if_neg (by omega)
      have := hx.2 _ this
      grind
    have hgp : (0 : Rat) < (r.g : Rat) := Rat.intCast_pos.mpr hg
    have hm : ∀ i, r.m = some i → x ≤ (i : Rat) := fun i e => hx.2 i (by unfold highO; rw [if_pos hg]; exact e)
    have hlx : (r.l : Rat) < x ∧ (r.w : Rat) < x := by
      rcases oc with ⟨h1, h2⟩ | ⟨h1, _, h2⟩ | ⟨i, h1, h2, h3⟩
      · rw [h2] at ho
        have := Rat.intCast_lt_intCast.mpr h1
        grind
      · rw [h2] at ho
        have := Rat.intCast_le_intCast.mpr h1
        grind
      · rw [h3] at ho
        have := hm i h1
        grind
    refine ⟨hg, fun t => ?_⟩
    rw [show szQ r t = limQ (vQ r t) r.l r.m from rfl, cl_ge hlx.1 hm, ← Rat.not_lt, ← Rat.not_lt (a := t), Rat.lt_div_iff hgp]
    by_cases ht : 0 ≤ t
    · rw [v_pos ht]
      constructor <;> intro <;> grind
    · rw [v_neg (by grind)]
      have h1 : 0 ≤ (-t) * (r.s : Rat) := Rat.mul_nonneg (by grind) hs0
      have h2 : 0 ≤ (-t) * (r.g : Rat) := Rat.mul_nonneg (by grind) hg0
      constructor <;> intro <;> grind
  · have hw : wF r x = r.s := if_neg ho
    rw [hw]
    have ho := Rat.not_lt.mp ho
    have hs : 0 < r.s := by
      refine Int.not_le.mp fun q => ?_
      have : lowI r = ownI r := if_neg (by omega)
      rw [this] at h
      grind
    have hsp : (0 : Rat) < (r.s : Rat) := Rat.intCast_pos.mpr hs
    have hl : lowI r = r.l := if_pos hs
    rw [hl] at h
    have hxw : x ≤ (r.w : Rat) ∧ ∀ i, r.m = some i → x ≤ (i : Rat) := by
      rcases oc with ⟨h1, h2⟩ | ⟨h1, h3, h2⟩ | ⟨i, h1, h2, h3⟩
      · rw [h2] at ho; grind
      · rw [h2] at ho
        refine ⟨ho, fun i e => ?_⟩
        have := Rat.intCast_le_intCast.mpr (h3 i e)
        grind
      · rw [h3] at ho
        have := Rat.intCast_lt_intCast.mpr h2
        refine ⟨by grind, fun j e => ?_⟩
        rw [h1] at e
        cases e
        exact ho
    refine ⟨hs, fun t => ?_⟩
    rw [show szQ r t = limQ (vQ r t) r.l r.m from rfl, cl_ge h hxw.2, ← Rat.not_lt, ← Rat.not_lt (a := t), Rat.lt_div_iff hsp]
    have := hxw.1
    by_cases ht : 0 ≤ t
    · rw [v_pos ht]
      have h1 : 0 ≤ t * (r.s : Rat) := Rat.mul_nonneg ht hs0
      have h2 : 0 ≤ t * (r.g : Rat) := Rat.mul_nonneg ht hg0
      constructor <;> intro <;> grind
    · rw [v_neg (by grind)]
      constructor <;> intro <;> grind
theorem le_level {r : Row} (hr : r.Ok) {x : Rat} (hx : inS r x) (h : ∀ i, highO r = some i → x < (i : Rat)) : 0 < wL r x ∧ ∀ t, szQ r t ≤ x ↔ t ≤ (x - (r.w : Rat)) / (wL r x : Rat) := by
  have hg0 := hr.rng.g0
  have hs0 := hr.rng.s0
  have oc := own_cases hr
  by_cases ho : x < ((ownI r : Int) : Rat)
  · have hw : wL r x = r.s := if_pos ho
    rw [hw]
    have hs : 0 < r.s := by
      refine Int.not_le.mp fun q => ?_
      have : lowI r = ownI r := if_neg (by omega)
      have := hx.1
      grind
    have hsp : (0 : Rat) < (r.s : Rat) := Rat.intCast_pos.mpr hs
    have hl : lowI r = r.l := if_pos hs
    have hlx := hx.1
    rw [hl] at hlx
    have hxw : x < (r.w : Rat) ∧ ∀ i, r.m = some i → x < (i : Rat) := by
      rcases oc with ⟨h1, h2⟩ | ⟨h1, h3, h2⟩ | ⟨i, h1, h2, h3⟩
      · rw [h2] at ho; grind
      · rw [h2] at ho
        refine ⟨ho, fun i e => ?_⟩
        have := Rat.intCast_le_intCast.mpr (h3 i e)
        grind
      · rw [h3] at ho
        have := Rat.intCast_lt_intCast.mpr h2
        refine ⟨by grind, fun j e => ?_⟩
        rw [h1] at e
        cases e
        exact ho
    refine ⟨hs, fun t => ?_⟩
    rw [show szQ r t = limQ (vQ r t) r.l r.m from rfl, cl_le hlx hxw.2, ← Rat.not_lt, ← Rat.not_lt (a := (x - (r.w : Rat)) / (r.s : Rat)), Rat.div_lt_iff hsp]
    have := hxw.1
    by_cases ht : 0 ≤ t
    · rw [v_pos ht]
      have h1 : 0 ≤ t * (r.s : Rat) := Rat.mul_nonneg ht hs0
      have h2 : 0 ≤ t * (r.g : Rat) := Rat.mul_nonneg ht hg0
      constructor <;> intro <;> grind
    · rw [v_neg (by grind)]
      constructor <;> intro <;> grind
  · have hw : wL r x = r.g := if_neg ho
    rw [hw]
    have ho := Rat.not_lt.mp ho
    have hg : 0 < r.g := by
      refine Int.not_le.mp fun q => ?_
      have : highO r = some (ownI r) := if_neg (by omega)
      have := h _ this
      grind
    have hgp : (0 : Rat) < (r.g : Rat) := Rat.intCast_pos.mpr hg
    have hm : ∀ i, r.m = some i → x < (i : Rat) := fun i e => h i (by unfold highO; rw [if_pos hg]; exact e)
    have hlx : (r.l : Rat) ≤ x ∧ (r.w : Rat) ≤ x := by
      rcases oc with ⟨h1, h2⟩ | ⟨h1, _, h2⟩ | ⟨i, h1, h2, h3⟩
      · rw [h2] at ho
        have := Rat.intCast_lt_intCast.mpr h1
        grind
      · rw [h2] at ho
        have := Rat.intCast_le_intCast.mpr h1
        grind
      · rw [h3] at ho
        have := hm i h1
        grind
    refine ⟨hg, fun t => ?_⟩
    rw [show szQ r t = limQ (vQ r t) r.l r.m from rfl, cl_le hlx.1 hm, ← Rat.not_lt, ← Rat.not_lt (a := (x - (r.w : Rat)) / (r.g : Rat)), Rat.div_lt_iff hgp]
    have := hlx.2
    by_cases ht : 0 ≤ t
    · rw [v_pos ht]
      constructor <;> intro <;> grind
    · rw [v_neg (by grind)]
      have h1 : 0 ≤ (-t) * (r.s : Rat) := Rat.mul_nonneg (by grind) hs0
      have h2 : 0 ≤ (-t) * (r.g : Rat) := Rat.mul_nonneg (by grind) hg0
      constructor <;> intro <;> grind
theorem lo_le {r : Row} (hr : r.Ok) {t : Rat} : ((lowI r : Int) : Rat) ≤ szQ r t := by
  rw [← siz_szQ]
  exact low_le hr (dpos t)
theorem le_hi {r : Row} (hr : r.Ok) {t : Rat} {i : Int} (h : highO r = some i) : szQ r t ≤ (i : Rat) := by
  rw [← siz_szQ]
  exact le_high hr (dpos t) h
theorem szQ_inS {r : Row} (hr : r.Ok) {t : Rat} : inS r (szQ r t) := ⟨lo_le hr, fun i e => le_hi hr e⟩
def levF (r : Row) (x : Rat) : Option Rat := if ((lowI r : Int) : Rat) < x then some ((x - (r.w : Rat)) / (wF r x : Rat)) else none
def belowH (r : Row) (x : Rat) : Prop := ∀ i, highO r = some i → x < (i : Rat)
noncomputable def levL (r : Row) (x : Rat) : Option Rat := open Classical in if belowH r x then some ((x - (r.w : Rat)) / (wL r x : Rat)) else none
/-- the levels at which a box has a size are a range -/
theorem lev_exact {r : Row} (hr : r.Ok) {x : Rat} (hx : inS r x) (t : Rat) : szQ r t = x ↔ InR (levF r x) (levL r x) t := by
  have e : szQ r t = x ↔ x ≤ szQ r t ∧ szQ r t ≤ x := ⟨fun h => ⟨by rw [h]; exact Rat.le_refl, by rw [h]; exact Rat.le_refl⟩, fun h => Rat.le_antisymm h.2 h.1⟩
  rw [e]
  have c1 : x ≤ szQ r t ↔ ∀ q, levF r x = some q → q ≤ t := by
    unfold levF
    by_cases h : ((lowI r : Int) : Rat) < x
    · rw [if_pos h, (ge_level hr hx h).2 t]
      exact ⟨fun z q e => by cases e; exact z, fun z => z _ rfl⟩
    · rw [if_neg h]
      have := lo_le hr (t := t)
      exact ⟨(fun _ q e => nomatch e), fun _ => by grind⟩
  have c2 : szQ r t ≤ x ↔ ∀ q, levL r x = some q → t ≤ q := by
    unfold levL
    by_cases h : belowH r x
    · rw [if_pos h, (le_level hr hx h).2 t]
      exact ⟨fun z q e => by cases e; exact z, fun z => z _ rfl⟩
    · rw [if_neg h]
      have : ∃ i, highO r = some i ∧ ¬ x < (i : Rat) := by
        refine Classical.byContradiction fun z => h fun i e => ?_
        exact Classical.byContradiction fun w => z ⟨i, e, w⟩
      obtain ⟨i, e, w⟩ := this
      have := le_hi hr (t := t) e
      exact ⟨(fun _ q e => nomatch e), fun _ => by grind⟩
  rw [c1, c2]
  rfl
theorem not_inS {r : Row} (hr : r.Ok) {x : Rat} (hx : ¬ inS r x) (t : Rat) : szQ r t ≠ x := fun e => hx (by rw [← e]; exact szQ_inS hr)
/-- a range that is not empty has one first and one last level -/
theorem InR.uniq {f l f' l' : Option Rat} (h0 : ∃ t, InR f l t) (h : ∀ t, InR f l t ↔ InR f' l' t) : f = f' ∧ l = l' := by
  obtain ⟨t0, ht0⟩ := h0
  have ht0' := (h t0).mp ht0
  have lef : ∀ {f l f' l' : Option Rat}, InR f l t0 → InR f' l' t0 → (∀ t, InR f l t → InR f' l' t) → ∀ q', f' = some q' → ∃ q, f = some q ∧ q' ≤ q := fun {f l f' l'} a b hh q' e => by
    cases f with
    | none =>
      have : InR none l (min t0 (q' - 1)) := ⟨(fun q e => nomatch e), fun q e => by have := a.2 q e; grind⟩
      have := (hh _ this).1 q' e
      grind
    | some q =>
      have : InR (some q) l q := ⟨fun p e => by cases e; exact Rat.le_refl, fun p e => by have := a.2 p e; have := a.1 q rfl; grind⟩
      exact ⟨q, rfl, (hh _ this).1 q' e⟩
  have lel : ∀ {f l f' l' : Option Rat}, InR f l t0 → InR f' l' t0 → (∀ t, InR f l t → InR f' l' t) → ∀ q', l' = some q' → ∃ q, l = some q ∧ q ≤ q' := fun {f l f' l'} a b hh q' e => by
    cases l with
    | none =>
      have : InR f none (max t0 (q' + 1)) := ⟨fun q e => by have := a.1 q e; grind, fun q e => nomatch e⟩
      have := (hh _ this).2 q' e
      grind
    | some q =>
      have : InR f (some q) q := ⟨fun p e => by have := a.1 p e; have := a.2 q rfl; grind, fun p e => by cases e; exact Rat.le_refl⟩
      exact ⟨q, rfl, (hh _ this).2 q' e⟩
  constructor
  · cases f with
    | none =>
      cases f' with
      | none => rfl
      | some q' => obtain ⟨q, e, _⟩ := lef ht0 ht0' (fun t => (h t).mp) q' rfl; cases e
    | some q =>
      obtain ⟨q', e, h1⟩ := lef ht0' ht0 (fun t => (h t).mpr) q rfl
      subst e
      obtain ⟨p, e, h2⟩ := lef ht0 ht0' (fun t => (h t).mp) q' rfl
      cases e
      rw [Rat.le_antisymm h1 h2]
  · cases l with
    | none =>
      cases l' with
      | none => rfl
      | some q' => obtain ⟨q, e, _⟩ := lel ht0 ht0' (fun t => (h t).mp) q' rfl; cases e
    | some q =>
      obtain ⟨q', e, h1⟩ := lel ht0' ht0 (fun t => (h t).mpr) q rfl
      subst e
      obtain ⟨p, e, h2⟩ := lel ht0 ht0' (fun t => (h t).mp) q' rfl
      cases e
      rw [Rat.le_antisymm h2 h1]
end Bx

namespace Bx
open PySem PySem.Spec PyProof.Rows L2 Z
local macro_rules | `(tactic| walk_at "zz") => `(tactic| simp only [zSeq, zAsg, zRet, zRetN, zIfS, zNext, zDrop, zPar, zVar, zC, zOp, zUn, zNeg, zI0, zI, zTest, zAnd, zOr, zNot, zAndV, zOrV, zNotV, zIf, zNil, zCons, zTup, zLst, zLstC, zgName, zgTup, zgCons, zgNil, zgSub, startZ, zCall, zCB, zChain, zIsN, zNotN, zNever,
  zAddA, zMulA, zRepeat, zCat, zIx, seqD, lstD, zMax2, zMin2, zAbs, zLen, zSum, zGcd, zInt, zYes, zBreak, zCont, zLc, ziR1, ziR2, ziList, ziTup, ziZip, ziEnum, wipeZ, zFor,
  at0, at1, at2, at3, at4, ix2_3, ix0_3, isNon_int, isNon_non, Bool.not_true, Bool.not_false,
  List.map_cons, List.map_nil, List.length_cons, List.length_nil, List.replicate_succ, List.replicate_zero, List.append_nil, List.nil_append, List.cons_append, List.getElem?_cons_zero, List.getElem?_cons_succ, List.set_cons_zero, List.set_cons_succ,
  Option.some.injEq, D.int.injEq, D.bl.injEq, D.tup.injEq, D.lst.injEq, D.str.injEq, D.cell.injEq, O.lst.injEq, reduceCtorEq, exists_eq_left', exists_eq_left, false_and, and_false, true_and, and_true, exists_false, or_false, false_or, exists_and_left, exists_eq', exists_and_right, List.cons.injEq, and_assoc, dec_not, dec_yes, t_t, t_f, f_t, f_f, true_implies, false_implies, implies_true, and_self, Nat.reduceAdd, Nat.reduceLeDiff, Nat.reduceSub, Nat.reduceLT])
local macro_rules | `(tactic| walk_at "zy") => `(tactic| try simp only [Option.some.injEq, D.int.injEq, D.bl.injEq, D.tup.injEq, D.lst.injEq, D.str.injEq, D.cell.injEq, O.lst.injEq, reduceCtorEq, exists_eq_left', exists_eq_left, false_and, and_false, true_and, and_true, exists_false, or_false, false_or, exists_and_left, exists_eq', exists_and_right, List.cons.injEq, and_assoc, dec_not, dec_yes, t_t, t_f, f_t, f_f, true_implies, false_implies, implies_true, and_self])
/-! ### the law's ranges of levels -/
def pairD (p : Option Rat × Option Rat) : D := .tup [optQ p.1, optQ p.2]
def rngD : Option (Option Rat × Option Rat) → D
  | none => .non
  | some p => pairD p
open Classical in
noncomputable def levR (r : Row) (x : Rat) : Option (Option Rat × Option Rat) := if inS r x then some (levF r x, levL r x) else none
def SzO (p : Option Rat) (N M : Nat) : Prop := ∀ q, p = some q → Sz q N M
theorem lev_sz {r : Row} (hr : r.Ok) {x : Rat} {N M : Nat} (hx : Sz x N M) {k : Int} (hk : 0 < k) (h1 : k ≤ 10 ^ 6) {N' M' : Nat} (n1 : N + 1 ≤ N') (n2 : M + 102 ≤ N') (m1 : M + 20 ≤ M') : Sz ((x - (r.w : Rat)) / (k : Rat)) N' M' := by
  have sw : Sz (r.w : Rat) 100 0 := int_sz _ (sm30 hr.w0 hr.w1 (Nat.le_refl _))
  have s1 : Sz (x - (r.w : Rat)) N' (M + 0) := sz_sub hx sw (by omega) (by omega)
  rw [← div_den]
  refine sz_div ?_ s1.n ?_
  · have := Int.mul_pos (dpos (x - (r.w : Rat))) hk
    omega
  · rw [Int.natAbs_mul, den_abs]
    have e : k.natAbs ≤ 2 ^ 20 := Nat.le_of_lt (sm6 (by omega) h1 (Nat.le_refl _))
    refine Nat.le_trans (Nat.mul_le_mul s1.d e) ?_
    rw [← Nat.pow_add]
    exact Nat.pow_le_pow_right (by decide) (by omega)
theorem wF_le {r : Row} (hr : r.Ok) {x : Rat} : wF r x ≤ 10 ^ 6 := by unfold wF; split; exact hr.g1; exact hr.s1
theorem wL_le {r : Row} (hr : r.Ok) {x : Rat} : wL r x ≤ 10 ^ 6 := by unfold wL; split; exact hr.s1; exact hr.g1
theorem levR_sz {r : Row} (hr : r.Ok) {x : Rat} {N M N' M' : Nat} (hx : Sz x N M) (n1 : N + 1 ≤ N') (n2 : M + 102 ≤ N') (m1 : M + 20 ≤ M') {p : Option Rat × Option Rat} (h : levR r x = some p) : SzO p.1 N' M' ∧ SzO p.2 N' M' := by
  unfold levR at h
  by_cases hi : inS r x
  · rw [if_pos hi] at h
    cases h
    refine ⟨fun q e => ?_, fun q e => ?_⟩
    · simp only [levF] at e
      by_cases hl : ((lowI r : Int) : Rat) < x
      · rw [if_pos hl] at e
        cases e
        exact lev_sz hr hx (ge_level hr hi hl).1 (wF_le hr) n1 n2 m1
      · rw [if_neg hl] at e; cases e
    · simp only [levL] at e
      by_cases hl : belowH r x
      · rw [if_pos hl] at e
        cases e
        exact lev_sz hr hx (le_level hr hi hl).1 (wL_le hr) n1 n2 m1
      · rw [if_neg hl] at e; cases e
  · rw [if_neg hi] at h; cases h
theorem levR_spec {r : Row} (hr : r.Ok) {x : Rat} (t : Rat) : szQ r t = x ↔ ∃ p, levR r x = some p ∧ InR p.1 p.2 t := by
  unfold levR
  by_cases hi : inS r x
  · rw [if_pos hi, lev_exact hr hi t]
    exact ⟨fun h => ⟨_, rfl, h⟩, fun ⟨p, e, h⟩ => by cases e; exact h⟩
  · rw [if_neg hi]
    exact ⟨fun e => absurd e (not_inS hr hi t), fun ⟨p, e, _⟩ => nomatch e⟩
section
variable {K : PySem.W.Frag} {C : CI} {Δ : Store} {P : D → Store → Prop}
theorem intR_sz {i : Int} (h : i.natAbs < 2 ^ 110) {N M : Nat} (hN : 110 ≤ N) : Sz (i : Rat) N M := (int_sz _ h).mono hN (Nat.zero_le _)
theorem low_abs {r : Row} (hr : r.Ok) : (lowI r).natAbs < 2 ^ 110 := natAbs_lt (low_bounds hr).1 (Int.lt_of_le_of_lt (low_bounds hr).2 (by decide))
theorem own_abs {r : Row} (hr : r.Ok) : (ownI r).natAbs < 2 ^ 110 := natAbs_lt (own_bounds hr).1 (Int.lt_of_le_of_lt (own_bounds hr).2 (by decide))
theorem high_abs {r : Row} (hr : r.Ok) {i : Int} (h : highO r = some i) : i.natAbs < 2 ^ 110 := natAbs_lt (high_bounds hr h).1 (Int.lt_of_le_of_lt (high_bounds hr h).2 (by decide))
end
end Bx

namespace Bx
open PySem PySem.Spec PyProof.Rows L2 Z
local macro_rules | `(tactic| walk_at "zz") => `(tactic| simp only [zSeq, zAsg, zRet, zRetN, zIfS, zNext, zDrop, zPar, zVar, zC, zOp, zUn, zNeg, zI0, zI, zTest, zAnd, zOr, zNot, zAndV, zOrV, zNotV, zIf, zNil, zCons, zTup, zLst, zLstC, zgName, zgTup, zgCons, zgNil, zgSub, startZ, zCall, zCB, zChain, zIsN, zNotN, zNever,
  zAddA, zMulA, zRepeat, zCat, zIx, seqD, lstD, zMax2, zMin2, zAbs, zLen, zSum, zGcd, zInt, zYes, zBreak, zCont, zLc, ziR1, ziR2, ziList, ziTup, ziZip, ziEnum, wipeZ, zFor,
  at0, at1, at2, at3, at4, ix2_3, ix0_3, isNon_int, isNon_non, Bool.not_true, Bool.not_false,
  List.map_cons, List.map_nil, List.length_cons, List.length_nil, List.replicate_succ, List.replicate_zero, List.append_nil, List.nil_append, List.cons_append, List.getElem?_cons_zero, List.getElem?_cons_succ, List.set_cons_zero, List.set_cons_succ,
  Option.some.injEq, D.int.injEq, D.bl.injEq, D.tup.injEq, D.lst.injEq, D.str.injEq, D.cell.injEq, O.lst.injEq, reduceCtorEq, exists_eq_left', exists_eq_left, false_and, and_false, true_and, and_true, exists_false, or_false, false_or, exists_and_left, exists_eq', exists_and_right, List.cons.injEq, and_assoc, dec_not, dec_yes, t_t, t_f, f_t, f_f, true_implies, false_implies, implies_true, and_self, Nat.reduceAdd, Nat.reduceLeDiff, Nat.reduceSub, Nat.reduceLT])
local macro_rules | `(tactic| walk_at "zy") => `(tactic| try simp only [Option.some.injEq, D.int.injEq, D.bl.injEq, D.tup.injEq, D.lst.injEq, D.str.injEq, D.cell.injEq, O.lst.injEq, reduceCtorEq, exists_eq_left', exists_eq_left, false_and, and_false, true_and, and_true, exists_false, or_false, false_or, exists_and_left, exists_eq', exists_and_right, List.cons.injEq, and_assoc, dec_not, dec_yes, t_t, t_f, f_t, f_f, true_implies, false_implies, implies_true, and_self])
/-! ### what levels have in common -/
abbrev Pr := Option Rat × Option Rat
/-- what stands behind the ranges so far -/
structure Com (ps : List Pr) (f l : Option Rat) : Prop where
  iff : ∀ t, InR f l t ↔ ∀ p ∈ ps, InR p.1 p.2 t
  fin : f = none ∨ ∃ p ∈ ps, p.1 = f
  lin : l = none ∨ ∃ p ∈ ps, p.2 = l
theorem Com.nil : Com [] none none := ⟨fun t => ⟨(fun _ p h => nomatch h), fun _ => ⟨(fun q e => nomatch e), fun q e => nomatch e⟩⟩, .inl rfl, .inl rfl⟩
def upF (f g : Option Rat) : Option Rat := match g with
  | none => f
  | some q => match f with
    | none => some q
    | some a => if a < q then some q else some a
def dnL (f g : Option Rat) : Option Rat := match g with
  | none => f
  | some q => match f with
    | none => some q
    | some a => if q < a then some q else some a
theorem upF_iff {f g : Option Rat} {t : Rat} : (∀ q, upF f g = some q → q ≤ t) ↔ (∀ q, f = some q → q ≤ t) ∧ ∀ q, g = some q → q ≤ t := by
  cases g with
  | none => exact ⟨fun h => ⟨h, (fun q e => nomatch e)⟩, fun h => h.1⟩
  | some q =>
    cases f with
    | none => exact ⟨fun h => ⟨(fun q e => nomatch e), h⟩, fun h => h.2⟩
    | some a =>
      show (∀ z, (if a < q then some q else some a) = some z → z ≤ t) ↔ _
      by_cases h : a < q
      · rw [if_pos h]
        exact ⟨fun z => ⟨fun y e => by cases e; have := z q rfl; grind, z⟩, fun z => z.2⟩
      · rw [if_neg h]
        exact ⟨fun z => ⟨z, fun y e => by cases e; have := z a rfl; grind⟩, fun z => z.1⟩
theorem dnL_iff {f g : Option Rat} {t : Rat} : (∀ q, dnL f g = some q → t ≤ q) ↔ (∀ q, f = some q → t ≤ q) ∧ ∀ q, g = some q → t ≤ q := by
  cases g with
  | none => exact ⟨fun h => ⟨h, (fun q e => nomatch e)⟩, fun h => h.1⟩
  | some q =>
    cases f with
    | none => exact ⟨fun h => ⟨(fun q e => nomatch e), h⟩, fun h => h.2⟩
    | some a =>
      show (∀ z, (if q < a then some q else some a) = some z → t ≤ z) ↔ _
      by_cases h : q < a
      · rw [if_pos h]
        exact ⟨fun z => ⟨fun y e => by cases e; have := z q rfl; grind, z⟩, fun z => z.2⟩
      · rw [if_neg h]
        exact ⟨fun z => ⟨z, fun y e => by cases e; have := z a rfl; grind⟩, fun z => z.1⟩
theorem upF_in {f g : Option Rat} : upF f g = f ∨ upF f g = g := by
  cases g with
  | none => exact .inl rfl
  | some q =>
    cases f with
    | none => exact .inr rfl
    | some a =>
      show (if a < q then some q else some a) = _ ∨ (if a < q then some q else some a) = _
      split
      · exact .inr rfl
      · exact .inl rfl
theorem dnL_in {f g : Option Rat} : dnL f g = f ∨ dnL f g = g := by
  cases g with
  | none => exact .inl rfl
  | some q =>
    cases f with
    | none => exact .inr rfl
    | some a =>
      show (if q < a then some q else some a) = _ ∨ (if q < a then some q else some a) = _
      split
      · exact .inr rfl
      · exact .inl rfl
theorem Com.snoc {ps : List Pr} {f l : Option Rat} (h : Com ps f l) (p : Pr) : Com (ps ++ [p]) (upF f p.1) (dnL l p.2) := by
  refine ⟨fun t => ?_, ?_, ?_⟩
  · unfold InR
    rw [upF_iff, dnL_iff]
    have q := h.iff t
    unfold InR at q
    constructor
    · intro z x hx
      rcases List.mem_append.mp hx with hx | hx
      · exact q.mp ⟨z.1.1, z.2.1⟩ x hx
      · rw [List.mem_singleton] at hx
        subst hx
        exact ⟨z.1.2, z.2.2⟩
    · intro z
      have a := q.mpr fun x hx => z x (List.mem_append_left _ hx)
      have b := z p (by simp)
      exact ⟨⟨a.1, b.1⟩, a.2, b.2⟩
  · rcases upF_in (f := f) (g := p.1) with e | e
    · rw [e]
      exact h.fin.imp id fun ⟨x, h1, h2⟩ => ⟨x, List.mem_append_left _ h1, h2⟩
    · exact .inr ⟨p, by simp, e.symm⟩
  · rcases dnL_in (f := l) (g := p.2) with e | e
    · rw [e]
      exact h.lin.imp id fun ⟨x, h1, h2⟩ => ⟨x, List.mem_append_left _ h1, h2⟩
    · exact .inr ⟨p, by simp, e.symm⟩
theorem isNon_fr (x : Rat) : Z.isNon (frD x) = false := rfl
section
variable {K : PySem.W.Frag} {C : CI} {Δ : Store} {P : D → Store → Prop}
theorem Com.szf {ps : List Pr} {f l : Option Rat} {N M : Nat} (h : Com ps f l) (hs : ∀ p ∈ ps, SzO p.1 N M ∧ SzO p.2 N M) : SzO f N M ∧ SzO l N M := by
  refine ⟨fun q e => ?_, fun q e => ?_⟩
  · rcases h.fin with z | ⟨p, h1, h2⟩
    · rw [z] at e; cases e
    · exact (hs p h1).1 q (by rw [h2, e])
  · rcases h.lin with z | ⟨p, h1, h2⟩
    · rw [z] at e; cases e
    · exact (hs p h1).2 q (by rw [h2, e])
end
end Bx

namespace Bx
open PySem PySem.Spec PyProof.Rows L2 Z
local macro_rules | `(tactic| walk_at "zz") => `(tactic| simp only [zSeq, zAsg, zRet, zRetN, zIfS, zNext, zDrop, zPar, zVar, zC, zOp, zUn, zNeg, zI0, zI, zTest, zAnd, zOr, zNot, zAndV, zOrV, zNotV, zIf, zNil, zCons, zTup, zLst, zLstC, zgName, zgTup, zgCons, zgNil, zgSub, startZ, zCall, zCB, zChain, zIsN, zNotN, zNever,
  zAddA, zMulA, zRepeat, zCat, zIx, seqD, lstD, zMax2, zMin2, zAbs, zLen, zSum, zGcd, zInt, zYes, zBreak, zCont, zLc, ziR1, ziR2, ziList, ziTup, ziZip, ziEnum, wipeZ, zFor,
  at0, at1, at2, at3, at4, ix2_3, ix0_3, isNon_int, isNon_non, Bool.not_true, Bool.not_false,
  List.map_cons, List.map_nil, List.length_cons, List.length_nil, List.replicate_succ, List.replicate_zero, List.append_nil, List.nil_append, List.cons_append, List.getElem?_cons_zero, List.getElem?_cons_succ, List.set_cons_zero, List.set_cons_succ,
  Option.some.injEq, D.int.injEq, D.bl.injEq, D.tup.injEq, D.lst.injEq, D.str.injEq, D.cell.injEq, O.lst.injEq, reduceCtorEq, exists_eq_left', exists_eq_left, false_and, and_false, true_and, and_true, exists_false, or_false, false_or, exists_and_left, exists_eq', exists_and_right, List.cons.injEq, and_assoc, dec_not, dec_yes, t_t, t_f, f_t, f_f, true_implies, false_implies, implies_true, and_self, Nat.reduceAdd, Nat.reduceLeDiff, Nat.reduceSub, Nat.reduceLT])
local macro_rules | `(tactic| walk_at "zy") => `(tactic| try simp only [Option.some.injEq, D.int.injEq, D.bl.injEq, D.tup.injEq, D.lst.injEq, D.str.injEq, D.cell.injEq, O.lst.injEq, reduceCtorEq, exists_eq_left', exists_eq_left, false_and, and_false, true_and, and_true, exists_false, or_false, false_or, exists_and_left, exists_eq', exists_and_right, List.cons.injEq, and_assoc, dec_not, dec_yes, t_t, t_f, f_t, f_f, true_implies, false_implies, implies_true, and_self])
/-! ### the levels at which a row has a width -/
theorem SQ_ge {rows : List Row} (hr : ∀ r ∈ rows, r.Ok) {t : Rat} : ((lowS rows : Int) : Rat) ≤ SQ rows t := by
  rw [← S_SQ]
  exact S_low hr (dpos t)
theorem SQ_le {rows : List Row} (hr : ∀ r ∈ rows, r.Ok) {t : Rat} {H : Int} (h : sumO (rows.map highO) = some H) : SQ rows t ≤ (H : Rat) := by
  rw [← S_SQ]
  exact S_high hr (dpos t) h
structure LvR (N M : Nat) (rows : List Row) (W : Rat) (R : Option Pr) : Prop where
  out : R = none ↔ W < ((lowS rows : Int) : Rat) ∨ ∃ H, sumO (rows.map highO) = some H ∧ (H : Rat) < W
  iff : ∀ F L, R = some (F, L) → ∀ t, InR F L t ↔ SQ rows t = W
  ex : ∀ F L, R = some (F, L) → ∃ t, SQ rows t = W
  sz : ∀ F L, R = some (F, L) → SzO F N M ∧ SzO L N M
  fn : ∀ F L, R = some (F, L) → (F = none ↔ W = ((lowS rows : Int) : Rat)) ∧ (L = none ↔ ∃ H, sumO (rows.map highO) = some H ∧ (H : Rat) = W)
theorem LvR.none_iff {N M : Nat} {rows : List Row} {W : Rat} {R : Option Pr} (hr : ∀ r ∈ rows, r.Ok) (h : LvR N M rows W R) (hn : R = none) (t : Rat) : SQ rows t ≠ W := fun e => by
  rcases h.out.mp hn with z | ⟨H, h1, h2⟩
  · have := SQ_ge hr (t := t); grind
  · have := SQ_le hr (t := t) h1; grind
section
variable {K : PySem.W.Frag} {C : CI} {Δ : Store} {P : D → Store → Prop}
end
end Bx

namespace Bx
open PySem PySem.Spec PyProof.Rows L2 Z
local macro_rules | `(tactic| walk_at "zz") => `(tactic| simp only [zSeq, zAsg, zRet, zRetN, zIfS, zNext, zDrop, zPar, zVar, zC, zOp, zUn, zNeg, zI0, zI, zTest, zAnd, zOr, zNot, zAndV, zOrV, zNotV, zIf, zNil, zCons, zTup, zLst, zLstC, zgName, zgTup, zgCons, zgNil, zgSub, startZ, zCall, zCB, zChain, zIsN, zNotN, zNever,
  zAddA, zMulA, zRepeat, zCat, zIx, seqD, lstD, zMax2, zMin2, zAbs, zLen, zSum, zGcd, zInt, zYes, zBreak, zCont, zLc, ziR1, ziR2, ziList, ziTup, ziZip, ziEnum, wipeZ, zFor,
  at0, at1, at2, at3, at4, ix2_3, ix0_3, isNon_int, isNon_non, Bool.not_true, Bool.not_false,
  List.map_cons, List.map_nil, List.length_cons, List.length_nil, List.replicate_succ, List.replicate_zero, List.append_nil, List.nil_append, List.cons_append, List.getElem?_cons_zero, List.getElem?_cons_succ, List.set_cons_zero, List.set_cons_succ,
  Option.some.injEq, D.int.injEq, D.bl.injEq, D.tup.injEq, D.lst.injEq, D.str.injEq, D.cell.injEq, O.lst.injEq, reduceCtorEq, exists_eq_left', exists_eq_left, false_and, and_false, true_and, and_true, exists_false, or_false, false_or, exists_and_left, exists_eq', exists_and_right, List.cons.injEq, and_assoc, dec_not, dec_yes, t_t, t_f, f_t, f_f, true_implies, false_implies, implies_true, and_self, Nat.reduceAdd, Nat.reduceLeDiff, Nat.reduceSub, Nat.reduceLT])
local macro_rules | `(tactic| walk_at "zy") => `(tactic| try simp only [Option.some.injEq, D.int.injEq, D.bl.injEq, D.tup.injEq, D.lst.injEq, D.str.injEq, D.cell.injEq, O.lst.injEq, reduceCtorEq, exists_eq_left', exists_eq_left, false_and, and_false, true_and, and_true, exists_false, or_false, false_or, exists_and_left, exists_eq', exists_and_right, List.cons.injEq, and_assoc, dec_not, dec_yes, t_t, t_f, f_t, f_f, true_implies, false_implies, implies_true, and_self])
/-! ### the law's sizes -/
section
variable {K : PySem.W.Frag} {C : CI} {Δ : Store} {P : D → Store → Prop}
theorem llimQ_ok {r : Row} {v : Rat} {N M : Nat} (hr : r.Ok) (hv : Sz v N M) (hN0 : 110 ≤ N) (hN : N ≤ 3900) (hM : M ≤ 3900) (h : P (frD (limQ v r.l r.m)) Δ) : W__law_limited K C [frD v, rowD r] Δ P := by
  have sl : Sz (r.l : Rat) N M := intR_sz (sm30 hr.l0 hr.l1 (by decide)) hN0
  have eF : ∀ i : Int, D.tup [D.int i, D.int 1] = frD (i : Rat) := fun i => rfl
  unfold W__law_limited z__law_limited rowD
  unfold limQ at h
  walk_at "zz"
  rw [eF]
  refine lord_ok hv sl hN hM ⟨_, rfl, fun q => ?_, fun q => ⟨fun hn => ?_, fun hn => ?_⟩⟩
  · rw [ord_lt] at q
    rw [if_pos q] at h
    exact h
  · rw [ord_lt] at q
    rw [if_neg q] at h
    cases e : r.m with
    | none => rw [e] at hn; cases hn
    | some m =>
      have hm := hr.m0 m e
      have l0 := hr.l0
      have sm' : Sz (m : Rat) N M := intR_sz (sm30 (by omega) hm.2 (by decide)) hN0
      rw [e] at h
      simp only [optD]
      rw [eF]
      refine lord_ok hv sm' hN hM ⟨_, rfl, fun q2 => ?_, fun q2 => ?_⟩
      · rw [ord_gt] at q2
        simp only [if_pos q2] at h
        exact h
      · rw [ord_gt] at q2
        simp only [if_neg q2] at h
        exact h
  · rw [ord_lt] at q
    rw [if_neg q] at h
    cases e : r.m with
    | none => rw [e] at h; exact h
    | some m => rw [e] at hn; cases hn
theorem vQ_sz {r : Row} {t : Rat} {N M k : Nat} (hr : r.Ok) (ht : Sz t N M) (k1 : N + 21 ≤ k) (k2 : M + 101 ≤ k) : Sz (vQ r t) k M := by
  rw [← vQ_div]
  refine sz_div (by have := dpos t; omega) ?_ (by rw [den_abs]; exact ht.d)
  have e : (if 0 ≤ t.num then r.g else r.s) = wtI r t := by unfold wtI; simp only [num_nn]
  rw [e]
  have hd : ((t.den : Int)).natAbs ≤ 2 ^ M := by rw [den_abs]; exact ht.d
  have b1 : (r.w * (t.den : Int)).natAbs < 2 ^ (k - 1) := by
    rw [Int.natAbs_mul]
    refine Nat.lt_of_lt_of_le (Nat.mul_lt_mul_of_lt_of_le (sm30 hr.w0 hr.w1 (Nat.le_refl _)) hd (pow_pos2 _)) ?_
    rw [← Nat.pow_add]
    exact Nat.pow_le_pow_right (by decide) (by omega)
  have b2 : (t.num * wtI r t).natAbs < 2 ^ (k - 1) := by
    rw [Int.natAbs_mul]
    refine Nat.lt_of_lt_of_le (Nat.mul_lt_mul'' ht.n (sm6 (wt_abs hr).1 (wt_abs hr).2 (Nat.le_refl 20))) ?_
    rw [← Nat.pow_add]
    exact Nat.pow_le_pow_right (by decide) (by omega)
  have e2 : 2 ^ k = 2 ^ (k - 1) + 2 ^ (k - 1) := by
    rw [← Nat.two_mul, ← Nat.pow_succ']
    congr 1
    omega
  exact Nat.lt_of_le_of_lt (Int.natAbs_add_le _ _) (by omega)
end
end Bx

namespace Bx
open PySem PySem.Spec PyProof.Rows L2 Z
local macro_rules | `(tactic| walk_at "zz") => `(tactic| simp only [zSeq, zAsg, zRet, zRetN, zIfS, zNext, zDrop, zPar, zVar, zC, zOp, zUn, zNeg, zI0, zI, zTest, zAnd, zOr, zNot, zAndV, zOrV, zNotV, zIf, zNil, zCons, zTup, zLst, zLstC, zgName, zgTup, zgCons, zgNil, zgSub, startZ, zCall, zCB, zChain, zIsN, zNotN, zNever,
  zAddA, zMulA, zRepeat, zCat, zIx, seqD, lstD, zMax2, zMin2, zAbs, zLen, zSum, zGcd, zInt, zYes, zBreak, zCont, zLc, ziR1, ziR2, ziList, ziTup, ziZip, ziEnum, wipeZ, zFor,
  at0, at1, at2, at3, at4, ix2_3, ix0_3, isNon_int, isNon_non, Bool.not_true, Bool.not_false,
  List.map_cons, List.map_nil, List.length_cons, List.length_nil, List.replicate_succ, List.replicate_zero, List.append_nil, List.nil_append, List.cons_append, List.getElem?_cons_zero, List.getElem?_cons_succ, List.set_cons_zero, List.set_cons_succ,
  Option.some.injEq, D.int.injEq, D.bl.injEq, D.tup.injEq, D.lst.injEq, D.str.injEq, D.cell.injEq, O.lst.injEq, reduceCtorEq, exists_eq_left', exists_eq_left, false_and, and_false, true_and, and_true, exists_false, or_false, false_or, exists_and_left, exists_eq', exists_and_right, List.cons.injEq, and_assoc, dec_not, dec_yes, t_t, t_f, f_t, f_f, true_implies, false_implies, implies_true, and_self, Nat.reduceAdd, Nat.reduceLeDiff, Nat.reduceSub, Nat.reduceLT])
local macro_rules | `(tactic| walk_at "zy") => `(tactic| try simp only [Option.some.injEq, D.int.injEq, D.bl.injEq, D.tup.injEq, D.lst.injEq, D.str.injEq, D.cell.injEq, O.lst.injEq, reduceCtorEq, exists_eq_left', exists_eq_left, false_and, and_false, true_and, and_true, exists_false, or_false, false_or, exists_and_left, exists_eq', exists_and_right, List.cons.injEq, and_assoc, dec_not, dec_yes, t_t, t_f, f_t, f_f, true_implies, false_implies, implies_true, and_self])
/-! ### rounds: the pure part -/
def wgI (r : Row) (up : Bool) : Int := if up = true then r.g else r.s
def fz0 (r : Row) (up : Bool) : Bool := (wgI r up == 0) || (if up = true then (match r.m with | none => false | some m => decide (m < r.w)) else decide (r.w < r.l))
abbrev Fz := List (Nat × Rat)
def rowAt (rows : List Row) (i : Nat) : Row := rows.getD i ⟨0, 0, none, 0, 0⟩
def hasK (f : Fz) (i : Nat) : Bool := f.any fun p => p.1 == i
def freeL (rows : List Row) (f : Fz) : List Nat := (List.range rows.length).filter fun i => !hasK f i
def sumF (f : Fz) : Rat := sumQ 0 (f.map (·.2))
def fsW (rows : List Row) (l : List Nat) : Int := (l.map fun i => (rowAt rows i).w).sum
def fsG (rows : List Row) (up : Bool) (l : List Nat) : Int := (l.map fun i => wgI (rowAt rows i) up).sum
def lvlR (rows : List Row) (W : Rat) (up : Bool) (f : Fz) : Rat := (W - sumF f - (fsW rows (freeL rows f) : Rat)) / (fsG rows up (freeL rows f) : Rat)
def dueR (r : Row) (up : Bool) (lv : Rat) : Rat := (r.w : Rat) + lv * (wgI r up : Rat)
def newS (r : Row) (up : Bool) (lv : Rat) : Rat := limQ (dueR r up lv) (r.l : Rat) r.m
def exc (rows : List Row) (up : Bool) (lv : Rat) (l : List Nat) : Rat := sumQ 0 (l.map fun i => newS (rowAt rows i) up lv - dueR (rowAt rows i) up lv)
def pickL (rows : List Row) (up : Bool) (lv : Rat) (l : List Nat) : List Nat := if 0 < exc rows up lv l then l.filter fun i => decide (dueR (rowAt rows i) up lv < newS (rowAt rows i) up lv) else if exc rows up lv l < 0 then l.filter fun i => decide (newS (rowAt rows i) up lv < dueR (rowAt rows i) up lv) else l
def nxt (rows : List Row) (W : Rat) (up : Bool) (f : Fz) : Fz := (pickL rows up (lvlR rows W up f) (freeL rows f)).map fun i => (i, newS (rowAt rows i) up (lvlR rows W up f))
def f0L (rows : List Row) (up : Bool) : Fz := ((List.range rows.length).filter fun i => fz0 (rowAt rows i) up).map fun i => (i, ((ownI (rowAt rows i) : Int) : Rat))
def fzD (f : Fz) : List (Int × D) := f.map fun p => ((p.1 : Int), frD p.2)
def keysI (f : Fz) : List D := f.map fun p => D.int (p.1 : Int)
/-- the rounds behind the first list -/
def rgo (rows : List Row) (W : Rat) (up : Bool) : Nat → Fz → List Fz
  | 0, _ => []
  | k + 1, f => if f.length < rows.length then nxt rows W up f :: rgo rows W up k (f ++ nxt rows W up f) else []
def rnds (rows : List Row) (W : Rat) (up : Bool) : List Fz := f0L rows up :: rgo rows W up (rows.length + 1) (f0L rows up)
def growsB (rows : List Row) (W : Rat) : Bool := decide ((((rows.map ownI).sum : Int) : Rat) ≤ W)
def rndD (rows : List Row) (W : Rat) : D := .lst ((rnds rows W (growsB rows W)).map fun f => .lst (keysI f))
/-! ### fractions that may be the module's zero -/
def IsF (x : Rat) (d : D) : Prop := d = frD x ∨ x = 0 ∧ d = .ktup [0, 1]
section
variable {K : PySem.W.Frag} {C : CI} {Δ : Store} {P : D → Store → Prop}
theorem divInt_self (x : Rat) : Rat.divInt x.num (x.den : Int) = x := by
  have := add_eq 0 x
  rw [Rat.zero_add] at this
  simpa using this
theorem plusK_ok {y : Rat} {N M : Nat} (hy : Sz y N M) (h1 : N ≤ 3900) (h2 : M ≤ 3900) (h : P (frD y) Δ) : W_plus K C [.ktup [0, 1], frD y] Δ P := by
  unfold W_plus z_plus frD
  walk_at "zz"
  refine ⟨.l (by decide) (by decide), .r (by decide) (by decide), .l (by decide) (by decide), ?_⟩
  rw [Int.zero_mul, Int.zero_add, Int.mul_one, Int.one_mul]
  refine lowest_ok (dpos y) (Nat.lt_of_lt_of_le hy.dl (Nat.pow_le_pow_right (by decide) (by omega))) ?_
  rw [divInt_self]
  exact h
theorem minusK_ok {x : Rat} {N M : Nat} (hx : Sz x N M) (h1 : N ≤ 3900) (h2 : M ≤ 3900) (h : P (frD x) Δ) : W_minus K C [frD x, .ktup [0, 1]] Δ P := by
  unfold W_minus z_minus frD
  walk_at "zz"
  refine ⟨.r (by decide) (by decide), .l (by decide) (by decide), .r (by decide) (by decide), ?_⟩
  rw [Int.zero_mul, Int.sub_zero, Int.mul_one, Int.mul_one]
  refine lowest_ok (dpos x) (Nat.lt_of_lt_of_le hx.dl (Nat.pow_le_pow_right (by decide) (by omega))) ?_
  rw [divInt_self]
  exact h
theorem plusF_ok {x y : Rat} {dx : D} (ex : IsF x dx) {N M : Nat} (hx : Sz x N M) (hy : Sz y N M) (h1 : N ≤ 3900) (h2 : M ≤ 3900) (h : P (frD (x + y)) Δ) : W_plus K C [dx, frD y] Δ P := by
  rcases ex with rfl | ⟨rfl, rfl⟩
  · exact plus_ok hx hy h1 h2 h
  · rw [Rat.zero_add] at h
    exact plusK_ok hy h1 h2 h
theorem minusF_ok {x y : Rat} {dy : D} (ey : IsF y dy) {N M : Nat} (hx : Sz x N M) (hy : Sz y N M) (h1 : N ≤ 3900) (h2 : M ≤ 3900) (h : P (frD (x - y)) Δ) : W_minus K C [frD x, dy] Δ P := by
  rcases ey with rfl | ⟨rfl, rfl⟩
  · exact minus_ok hx hy h1 h2 h
  · rw [show x - 0 = x by grind] at h
    exact minusK_ok hx h1 h2 h
/-! ### the small functions -/
theorem wgB_ok (F : Kf K C) {r : Row} {up : Bool} (h : P (.int (wgI r up)) Δ) : W_weight_of K C [boxD r, .bl up] Δ P := by
  unfold W_weight_of z_weight_of zProp
  walk_at "zz"
  unfold wgI at h
  refine ⟨fun q => ⟨ins_box, grow_ok F ?_⟩, fun q => ⟨ins_box, shrink_ok F ?_⟩⟩
  · rw [if_pos q] at h; exact h
  · rw [if_neg (by rw [q]; simp)] at h; exact h
theorem fzB_ok (F : Kf K C) {r : Row} {up : Bool} (h : P (.bl (fz0 r up)) Δ) : W_is_frozen_first K C [boxD r, .bl up] Δ P := by
  unfold W_is_frozen_first z_is_frozen_first zProp
  walk_at "zz"
  refine wgB_ok F (eqI ⟨_, rfl, fun q => ?_, fun q => ⟨fun u => ⟨ins_box, most_ok F ⟨fun z => ⟨ins_box, wish_ok F ⟨ins_box, most_ok F ?_⟩⟩, fun z => ?_⟩⟩, fun u => ⟨ins_box, wish_ok F ⟨ins_box, least_ok F ⟨_, rfl, _, rfl, ?_⟩⟩⟩⟩⟩)
  · unfold fz0 at h
    rw [q, Bool.true_or] at h
    exact h
  · unfold fz0 at h
    rw [q, Bool.false_or, if_pos u] at h
    cases hm : r.m with
    | none => rw [hm] at z; exact absurd z (by decide)
    | some m =>
      rw [hm] at h
      exact ⟨_, rfl, _, rfl, h⟩
  · unfold fz0 at h
    rw [q, Bool.false_or, if_pos u] at h
    cases hm : r.m with
    | none => rw [hm] at h; exact h
    | some m => rw [hm] at z; exact absurd (show true = false from z) (by decide)
  · unfold fz0 at h
    rw [q, Bool.false_or, if_neg (by rw [u]; simp)] at h
    exact h
theorem own33 {rows : List Row} (hl : rows.length ≤ 40) (hr : ∀ r ∈ rows, r.Ok) : Sz ((((rows.map ownI).sum : Int)) : Rat) 110 0 := int_sz _ (Nat.lt_trans (sumI_small hl fun r h => own_bounds (hr r h)).2 (by decide))
theorem grows_ok (F : Kf K C) {rows : List Row} (h1 : rows ≠ []) (hl : rows.length ≤ 40) (hr : ∀ r ∈ rows, r.Ok) {W : Rat} {N M : Nat} (hW : Sz W N M) (hN0 : 110 ≤ N) (hN : N ≤ 3900) (hM : M ≤ 3900) (h : P (.bl (growsB rows W)) Δ) : W_does_grow K C [.lst (rows.map boxD), frD W] Δ P := by
  unfold W_does_grow z_does_grow
  walk_at "zz"
  refine ownW_ok F h1 hl ?_
  rw [show D.tup [D.int (rows.map ownI).sum, D.int 1] = frD (((rows.map ownI).sum : Int) : Rat) from rfl]
  refine pord_ok ((own33 hl hr).mono hN0 (Nat.zero_le _)) hW hN hM ⟨_, rfl, ?_⟩
  rw [decide_eq_decide.mpr ord_le]
  exact h
end
/-! ### dicts whose keys differ -/
theorem putI_new {k : Int} {v : D} {l : List (Int × D)} (h : ∀ p ∈ l, p.1 ≠ k) : putI k v l = l ++ [(k, v)] := by
  unfold putI
  rw [if_neg]
  intro q
  obtain ⟨p, hp, e⟩ := List.any_eq_true.mp q
  exact h p hp (of_decide_eq_true e)
theorem mrg_new : ∀ (more l : List (Int × D)), (∀ p ∈ more, ∀ q ∈ l, q.1 ≠ p.1) → (more.map (·.1)).Nodup → Z.mrgI l more = l ++ more
  | [], l, _, _ => by rw [List.append_nil]; rfl
  | p :: more, l, h, hn => by
    rw [List.map_cons, List.nodup_cons] at hn
    show Z.mrgI (putI p.1 p.2 l) more = _
    rw [putI_new fun q hq => h p List.mem_cons_self q hq, mrg_new more _ (fun r hr q hq => ?_) hn.2, List.append_assoc]
    · rfl
    · rcases List.mem_append.mp hq with hq | hq
      · exact h r (List.mem_cons_of_mem _ hr) q hq
      · rw [List.mem_singleton.mp hq]
        exact fun e => hn.1 (List.mem_map.mpr ⟨r, hr, e.symm⟩)
theorem lookup_map {β : Type} {k : Nat → Int} (hk : ∀ i j, k i = k j → i = j) {v : Nat → β} : ∀ {l : List Nat} {i : Nat}, i ∈ l → (l.map fun j => (k j, v j)).lookup (k i) = some (v i)
  | j :: l, i, h => by
    rw [List.map_cons, List.lookup_cons]
    by_cases e : i = j
    · subst e; simp
    · have : (k i == k j) = false := by simpa using fun z => e (hk _ _ z)
      rw [this]
      rcases List.mem_cons.mp h with h | h
      · exact absurd h e
      · exact lookup_map hk h
theorem lookup_fz {f : Fz} {i : Nat} : ((fzD f).lookup (i : Int)).isSome = hasK f i := by
  unfold fzD hasK
  induction f with
  | nil => rfl
  | cons p f ih =>
    rw [List.map_cons, List.lookup_cons, List.any_cons]
    by_cases e : p.1 = i
    · rw [e]; simp
    · have e1 : ((i : Int) == (p.1 : Int)) = false := by simpa using fun z => e (by omega)
      have e2 : (p.1 == i) = false := by simpa using e
      rw [e1, e2, Bool.false_or]
      exact ih
/-- a dict comprehension with a condition; the keys differ -/
theorem dc_fm {zg : ZG} {zt : ZT} {zk zv : ZE} {Γ0 : Z.Env} {P : D → Store → Prop} {Δ : Store} {α : Type} {g : α → D} {key : α → Int} {val : α → D} {p : α → Bool} : ∀ (xs : List α) (acc : List (Int × D)), acc.length + xs.length ≤ 100000 → (xs.map key).Nodup → (∀ x ∈ xs, ∀ q ∈ acc, q.1 ≠ key x) →
    (∀ x ∈ xs, ∀ (Q1 : D → D → Store → Prop) (Q2 : Store → Prop), (p x = true → Q1 (.int (key x)) (val x) Δ) → (p x = false → Q2 Δ) → zg (g x) Γ0 Δ fun Γ2 Δ2 => zt Γ2 Δ2 fun b Δ3 => (b = true → zk Γ2 Δ3 fun y Δ4 => zv Γ2 Δ4 fun z Δ5 => Q1 y z Δ5) ∧ (b = false → Q2 Δ3)) →
    P (dctP (acc ++ (xs.filter p).map fun x => (key x, val x))) Δ → dcZ zg zt zk zv Γ0 P (xs.map g) acc Δ
  | [], acc, _, _, _, _, h => by simpa [dcZ] using h
  | x :: xs, acc, hl, hn, hd, hs, h => by
    have hl' : acc.length + (xs.length + 1) ≤ 100000 := by simpa using hl
    rw [List.map_cons, List.nodup_cons] at hn
    refine hs x List.mem_cons_self (fun y z Δ5 => ∃ k, y = .int k ∧ acc.length < 100000 ∧ dcZ zg zt zk zv Γ0 P (xs.map g) (putI k z acc) Δ5) (fun Δ3 => dcZ zg zt zk zv Γ0 P (xs.map g) acc Δ3) (fun hp => ⟨_, rfl, by omega, ?_⟩) fun hp => ?_
    · rw [putI_new fun q hq => hd x List.mem_cons_self q hq]
      refine dc_fm xs _ (by simp; omega) hn.2 (fun y hy q hq => ?_) (fun y hy => hs y (List.mem_cons_of_mem _ hy)) ?_
      · rcases List.mem_append.mp hq with hq | hq
        · exact hd y (List.mem_cons_of_mem _ hy) q hq
        · rw [List.mem_singleton.mp hq]
          exact fun e => hn.1 (List.mem_map.mpr ⟨y, hy, e.symm⟩)
      · rw [List.filter_cons_of_pos hp, List.map_cons] at h
        simpa using h
    · refine dc_fm xs acc (by omega) hn.2 (fun y hy => hd y (List.mem_cons_of_mem _ hy)) (fun y hy => hs y (List.mem_cons_of_mem _ hy)) ?_
      rw [List.filter_cons_of_neg (by rw [hp]; simp)] at h
      exact h
end Bx

namespace Bx
open PySem PySem.Spec PyProof.Rows L2 Z
local macro_rules | `(tactic| walk_at "zz") => `(tactic| simp only [zSeq, zAsg, zRet, zRetN, zIfS, zNext, zDrop, zPar, zVar, zC, zOp, zUn, zNeg, zI0, zI, zTest, zAnd, zOr, zNot, zAndV, zOrV, zNotV, zIf, zNil, zCons, zTup, zLst, zLstC, zgName, zgTup, zgCons, zgNil, zgSub, startZ, zCall, zCB, zChain, zIsN, zNotN, zNever,
  zAddA, zMulA, zRepeat, zCat, zIx, seqD, lstD, zMax2, zMin2, zAbs, zLen, zSum, zGcd, zInt, zYes, zBreak, zCont, zLc, ziR1, ziR2, ziList, ziTup, ziZip, ziEnum, wipeZ, zFor,
  at0, at1, at2, at3, at4, ix2_3, ix0_3, isNon_int, isNon_non, Bool.not_true, Bool.not_false,
  List.map_cons, List.map_nil, List.length_cons, List.length_nil, List.replicate_succ, List.replicate_zero, List.append_nil, List.nil_append, List.cons_append, List.getElem?_cons_zero, List.getElem?_cons_succ, List.set_cons_zero, List.set_cons_succ,
  Option.some.injEq, D.int.injEq, D.bl.injEq, D.tup.injEq, D.lst.injEq, D.str.injEq, D.cell.injEq, O.lst.injEq, reduceCtorEq, exists_eq_left', exists_eq_left, false_and, and_false, true_and, and_true, exists_false, or_false, false_or, exists_and_left, exists_eq', exists_and_right, List.cons.injEq, and_assoc, dec_not, dec_yes, t_t, t_f, f_t, f_f, true_implies, false_implies, implies_true, and_self, Nat.reduceAdd, Nat.reduceLeDiff, Nat.reduceSub, Nat.reduceLT])
local macro_rules | `(tactic| walk_at "zy") => `(tactic| try simp only [Option.some.injEq, D.int.injEq, D.bl.injEq, D.tup.injEq, D.lst.injEq, D.str.injEq, D.cell.injEq, O.lst.injEq, reduceCtorEq, exists_eq_left', exists_eq_left, false_and, and_false, true_and, and_true, exists_false, or_false, false_or, exists_and_left, exists_eq', exists_and_right, List.cons.injEq, and_assoc, dec_not, dec_yes, t_t, t_f, f_t, f_f, true_implies, false_implies, implies_true, and_self])
section
variable {K : PySem.W.Frag} {C : CI} {Δ : Store} {P : D → Store → Prop}
theorem enum_boxes {rows : List Row} : enumD (rows.map boxD) = (List.range rows.length).map fun i => D.tup [.int (i : Nat), boxD (rowAt rows i)] := by
  unfold enumD
  apply List.ext_getElem?
  intro j
  rw [List.getElem?_map, List.getElem?_zipIdx, List.getElem?_map, List.getElem?_map]
  by_cases h : j < rows.length
  · rw [List.getElem?_eq_getElem h, List.getElem?_range h]
    simp only [Option.map_some]
    unfold rowAt
    rw [List.getD_eq_getElem?_getD, List.getElem?_eq_getElem h]
    simp
  · rw [List.getElem?_eq_none (by omega), List.getElem?_eq_none (by rw [List.length_range]; omega)]
    rfl
theorem rowAt_mem {rows : List Row} {i : Nat} (h : i < rows.length) : rowAt rows i ∈ rows := by
  unfold rowAt
  rw [List.getD_eq_getElem?_getD, List.getElem?_eq_getElem h]
  exact List.getElem_mem h
theorem box_at {rows : List Row} {i : Nat} (h : i < rows.length) : (rows.map boxD)[i]? = some (boxD (rowAt rows i)) := by
  unfold rowAt
  rw [List.getElem?_map, List.getD_eq_getElem?_getD, List.getElem?_eq_getElem h]
  rfl
theorem nd_ints {l : List Nat} (h : l.Nodup) : (l.map fun i : Nat => ((i : Nat) : Int)).Nodup := List.Pairwise.map _ (fun a b h => by omega) h
theorem firstS_ok (F : Kf K C) {rows : List Row} (hl : rows.length ≤ 40) {up : Bool} (h : P (.cell Δ.length) (Δ ++ [dctO (fzD (f0L rows up))])) : W_first_sizes K C [.lst (rows.map boxD), .bl up] Δ P := by
  unfold W_first_sizes z_first_sizes zDcC ziEnum zProp
  refine ⟨rfl, ?_⟩
  walk_at "zz"
  rw [enum_boxes]
  refine dc_fm (g := fun i : Nat => D.tup [.int (i : Nat), boxD (rowAt rows i)]) (key := fun i : Nat => (i : Int)) (val := fun i => frD ((ownI (rowAt rows i) : Int) : Rat)) (p := fun i => fz0 (rowAt rows i) up) (List.range rows.length) [] (by simp; omega) (nd_ints List.nodup_range) (fun _ _ _ q => nomatch q) (fun i hi Q1 Q2 q1 q2 => ?_) ?_
  · have hi := List.mem_range.mp hi
    refine ⟨_, rfl, rfl, _, _, rfl, _, _, rfl, rfl, ?_⟩
    simp only [List.set_cons_succ, List.set_cons_zero]
    walk_at "zz"
    exact fzB_ok F ⟨_, rfl, fun q => ⟨ins_box, ownB_ok F (q1 q)⟩, fun q => q2 q⟩
  · refine ⟨_, rfl, ?_⟩
    rw [List.nil_append]
    have e : fzD (f0L rows up) = ((List.range rows.length).filter fun i => fz0 (rowAt rows i) up).map fun i : Nat => (((i : Nat) : Int), frD ((ownI (rowAt rows i) : Int) : Rat)) := by
      unfold fzD f0L
      rw [List.map_map]
      rfl
    rw [← e]
    exact h
end
end Bx

namespace Bx
open PySem PySem.Spec PyProof.Rows L2 Z
local macro_rules | `(tactic| walk_at "zz") => `(tactic| simp only [zSeq, zAsg, zRet, zRetN, zIfS, zNext, zDrop, zPar, zVar, zC, zOp, zUn, zNeg, zI0, zI, zTest, zAnd, zOr, zNot, zAndV, zOrV, zNotV, zIf, zNil, zCons, zTup, zLst, zLstC, zgName, zgTup, zgCons, zgNil, zgSub, startZ, zCall, zCB, zChain, zIsN, zNotN, zNever,
  zAddA, zMulA, zRepeat, zCat, zIx, seqD, lstD, zMax2, zMin2, zAbs, zLen, zSum, zGcd, zInt, zYes, zBreak, zCont, zLc, ziR1, ziR2, ziList, ziTup, ziZip, ziEnum, wipeZ, zFor,
  at0, at1, at2, at3, at4, ix2_3, ix0_3, isNon_int, isNon_non, Bool.not_true, Bool.not_false,
  List.map_cons, List.map_nil, List.length_cons, List.length_nil, List.replicate_succ, List.replicate_zero, List.append_nil, List.nil_append, List.cons_append, List.getElem?_cons_zero, List.getElem?_cons_succ, List.set_cons_zero, List.set_cons_succ,
  Option.some.injEq, D.int.injEq, D.bl.injEq, D.tup.injEq, D.lst.injEq, D.str.injEq, D.cell.injEq, O.lst.injEq, reduceCtorEq, exists_eq_left', exists_eq_left, false_and, and_false, true_and, and_true, exists_false, or_false, false_or, exists_and_left, exists_eq', exists_and_right, List.cons.injEq, and_assoc, dec_not, dec_yes, t_t, t_f, f_t, f_f, true_implies, false_implies, implies_true, and_self, Nat.reduceAdd, Nat.reduceLeDiff, Nat.reduceSub, Nat.reduceLT])
local macro_rules | `(tactic| walk_at "zy") => `(tactic| try simp only [Option.some.injEq, D.int.injEq, D.bl.injEq, D.tup.injEq, D.lst.injEq, D.str.injEq, D.cell.injEq, O.lst.injEq, reduceCtorEq, exists_eq_left', exists_eq_left, false_and, and_false, true_and, and_true, exists_false, or_false, false_or, exists_and_left, exists_eq', exists_and_right, List.cons.injEq, and_assoc, dec_not, dec_yes, t_t, t_f, f_t, f_f, true_implies, false_implies, implies_true, and_self])
theorem sumQ_snoc : ∀ (l : List Rat) (a x : Rat), sumQ a (l ++ [x]) = sumQ a l + x
  | [], a, x => rfl
  | y :: l, a, x => sumQ_snoc l (a + y) x
/-- the sizes are whole numbers -/
def IntF (f : Fz) : Prop := ∀ p ∈ f, ∃ i : Int, p.2 = (i : Rat) ∧ 0 ≤ i ∧ i ≤ 10 ^ 30
theorem intF_sum : ∀ (l : List Rat), (∀ x ∈ l, ∃ i : Int, x = (i : Rat) ∧ 0 ≤ i ∧ i ≤ 10 ^ 30) → ∃ s : Int, sumQ 0 l = (s : Rat) ∧ 0 ≤ s ∧ s ≤ l.length * 10 ^ 30
  | [], _ => ⟨0, rfl, by decide, by simp⟩
  | x :: l, h => by
    obtain ⟨i, e, i0, i1⟩ := h x List.mem_cons_self
    obtain ⟨s, e2, s0, s1⟩ := intF_sum l fun y hy => h y (List.mem_cons_of_mem _ hy)
    refine ⟨i + s, ?_, by omega, ?_⟩
    · rw [sumQ_cons, e, e2, Rat.intCast_add]
    · rw [List.length_cons, Int.natCast_add, Int.add_mul]
      simp
      omega
theorem rangeD_nat (n : Nat) : rangeD 0 (n : Int) = (List.range n).map fun i : Nat => D.int ((i : Nat) : Int) := by
  unfold rangeD
  rw [show ((n : Int) - 0).toNat = n by omega]
  exact List.map_congr_left fun i _ => by rw [Int.zero_add]
section
variable {K : PySem.W.Frag} {C : CI} {Δ : Store} {P : D → Store → Prop}
theorem fzD_vals {f : Fz} : (fzD f).map (·.2) = (f.map (·.2)).map frD := by unfold fzD; rw [List.map_map, List.map_map]; rfl
theorem commonL_ok (F : Kf K C) {rows : List Row} {W : Rat} {up : Bool} {f : Fz} {fr : List Nat} {N M : Nat} (hr : ∀ r ∈ rows, r.Ok) (hfr : ∀ i ∈ fr, i < rows.length) (hl : fr.length ≤ 40) (hf : IntF f) (hfl : f.length ≤ 40) (hW : Sz W N M) (hNM : M + 150 ≤ N) (hN : N ≤ 3000) (hG : 0 < fsG rows up fr)
    (h : P (frD ((W - sumF f - (fsW rows fr : Rat)) / (fsG rows up fr : Rat))) Δ) : W_common_level K C [.lst (fr.map fun i => boxD (rowAt rows i)), frD W, .bl up, dctP (fzD f)] Δ P := by
  have hok : ∀ i ∈ fr, (rowAt rows i).Ok := fun i hi => hr _ (rowAt_mem (hfr i hi))
  unfold W_common_level z_common_level
  refine ⟨rfl, ?_⟩
  refine seq_cut fun rest hr' => ?_
  walk_at "zz"
  subst hr'
  refine seq_cut fun rest hr' => ?_
  refine ⟨(fzD f).map (·.1), (fzD f).map (·.2), rfl, ?_⟩
  rw [fzD_vals]
  have tk : ∀ k, k ≤ f.length → ∃ s : Int, sumQ 0 ((f.map (·.2)).take k) = (s : Rat) ∧ 0 ≤ s ∧ s ≤ 40 * 10 ^ 30 := fun k hk => by
    obtain ⟨s, e, s0, s1⟩ := intF_sum ((f.map (·.2)).take k) fun x hx => by
      obtain ⟨p, hp, rfl⟩ := List.mem_map.mp (List.mem_of_mem_take hx)
      exact hf p hp
    refine ⟨s, e, s0, ?_⟩
    rw [List.length_take, List.length_map] at s1
    have : ((min k f.length : Nat) : Int) * 10 ^ 30 ≤ 40 * 10 ^ 30 := Int.mul_le_mul_of_nonneg_right (by omega) (by decide)
    omega
  have tkS : ∀ k, k ≤ f.length → Sz (sumQ 0 ((f.map (·.2)).take k)) 110 0 := fun k hk => by
    obtain ⟨s, e, s0, s1⟩ := tk k hk
    rw [e]
    exact int_sz _ (natAbs_lt s0 (Int.lt_of_le_of_lt s1 (by decide)))
  refine loop_inv (fun k Γ E => ∃ d u5, E = Δ ∧ IsF (sumQ 0 ((f.map (·.2)).take k)) d ∧ Γ = [some (.lst (fr.map fun i => boxD (rowAt rows i))), some (frD W), some (.bl up), some (dctP (fzD f)), some d, u5, none, none, none]) _ 0 _ _ ⟨.ktup [0, 1], none, rfl, .inr ⟨rfl, rfl⟩, rfl⟩ ?_ ?_
  · rintro k x Γ E Ze hx ⟨d, u5, rfl, hd, rfl⟩ hnx _ _ _
    rw [Nat.zero_add] at *
    have hk : k < f.length := by
      have := (List.getElem?_eq_some_iff.mp hx).1
      rw [List.length_map, List.length_map] at this
      exact this
    have ex : x = frD (f[k]).2 := by
      rw [List.getElem?_map, List.getElem?_map, List.getElem?_eq_getElem hk] at hx
      exact (Option.some.inj hx).symm
    subst ex
    simp only [zgName, List.set_cons_succ, List.set_cons_zero]
    walk_at "zz"
    obtain ⟨i, ei, i0, i1⟩ := hf f[k] (List.getElem_mem hk)
    have sI : Sz (f[k]).2 110 0 := by rw [ei]; exact int_sz _ (natAbs_lt i0 (Int.lt_of_le_of_lt i1 (by decide)))
    refine plusF_ok hd (tkS k (by omega)) sI (by decide) (by decide) (hnx _ _ ⟨_, _, rfl, .inl ?_, rfl⟩)
    rw [List.take_succ, List.getElem?_map, List.getElem?_eq_getElem hk]
    show frD _ = frD (sumQ 0 (_ ++ [f[k].2]))
    rw [sumQ_snoc]
  · rintro Γ E ⟨d, u5, rfl, hd, rfl⟩
    rw [Nat.zero_add, List.length_map, List.length_map, List.take_of_length_le (by rw [List.length_map]; exact Nat.le_refl _)] at hd
    have sT := tkS f.length (Nat.le_refl _)
    rw [List.take_of_length_le (by rw [List.length_map]; exact Nat.le_refl _)] at sT
    show rest _ _
    subst hr'
    refine seq_cut fun rest hr' => ?_
    unfold zProp
    walk_at "zz"
    refine minusF_ok hd hW (sT.mono (by omega) (Nat.zero_le _)) (by omega) (by omega) ?_
    refine comp_map (g := fun i => boxD (rowAt rows i)) (f := fun i => .int (rowAt rows i).w) fr [] (by simp; omega) (fun i hi Q q => ?_) ?_
    · walk_at "zz"
      exact ⟨ins_box, wish_ok F q⟩
    rw [List.nil_append]
    refine ⟨fr.map fun i => (rowAt rows i).w, by rw [List.map_map]; rfl, ?_⟩
    have wS : 0 ≤ fsW rows fr ∧ fsW rows fr ≤ 40 * 10 ^ 30 := by
      have := sum_bounds (fr.map fun i => (rowAt rows i).w) fun x hx => by
        obtain ⟨i, hi, rfl⟩ := List.mem_map.mp hx
        exact ⟨(hok i hi).w0, (hok i hi).w1⟩
      rw [List.length_map] at this
      have l2 : (fr.length : Int) * 10 ^ 30 ≤ 40 * 10 ^ 30 := Int.mul_le_mul_of_nonneg_right (by omega) (by decide)
      unfold fsW
      omega
    have gS : fsG rows up fr ≤ 40 * 10 ^ 6 := by
      have : ∀ l : List Nat, (∀ i ∈ l, i ∈ fr) → fsG rows up l ≤ l.length * 10 ^ 6 := fun l => by
        induction l with
        | nil => intro _; simp [fsG]
        | cons i l ih =>
          intro hi
          have a := ih fun j hj => hi j (List.mem_cons_of_mem _ hj)
          have b : wgI (rowAt rows i) up ≤ 10 ^ 6 := by
            have := hok i (hi i List.mem_cons_self)
            unfold wgI
            split
            · exact this.g1
            · exact this.s1
          have c : fsG rows up (i :: l) = wgI (rowAt rows i) up + fsG rows up l := by unfold fsG; rw [List.map_cons, List.sum_cons]
          rw [c, List.length_cons, Int.natCast_add, Int.add_mul]
          simp
          omega
      have := this fr fun _ h => h
      have l2 : (fr.length : Int) * 10 ^ 6 ≤ 40 * 10 ^ 6 := Int.mul_le_mul_of_nonneg_right (by omega) (by decide)
      omega
    have s1 : Sz (W - sumF f) (N + 1) M := sz_sub (M2 := 0) hW (sT.mono (Nat.le_refl _) (Nat.le_refl _)) (by omega) (by omega)
    have s2 : Sz ((fsW rows fr : Int) : Rat) 110 0 := int_sz _ (natAbs_lt wS.1 (Int.lt_of_le_of_lt wS.2 (by decide)))
    have s3 : Sz (W - sumF f - (fsW rows fr : Rat)) (N + 2) M := sz_sub (M2 := 0) s1 s2 (by omega) (by omega)
    refine minus_ok (x := W - sumF f) (y := ((fsW rows fr : Int) : Rat)) (N := N + 1) (M := M) s1 (s2.mono (by omega) (Nat.zero_le _)) (by omega) (by omega) ?_
    generalize W - sumF f - (fsW rows fr : Rat) = x at *
    refine ⟨_, rfl, rfl, _, _, rfl, _, _, rfl, rfl, ?_⟩
    subst hr'
    walk_at "zz"
    refine comp_map (g := fun i => boxD (rowAt rows i)) (f := fun i => .int (wgI (rowAt rows i) up)) fr [] (by simp; omega) (fun i hi Q q => ?_) ?_
    · walk_at "zz"
      exact wgB_ok F q
    rw [List.nil_append]
    refine ⟨fr.map fun i => wgI (rowAt rows i) up, by rw [List.map_map]; rfl, ?_⟩
    have gA : (fsG rows up fr).natAbs < 2 ^ 30 := natAbs_lt (by omega) (by omega)
    refine ⟨mulW s3.dl gA (by omega) (by omega), ?_⟩
    have e := div_den (x := x) (k := fsG rows up fr)
    refine lowest_ok (Int.mul_pos (dpos x) hG) ?_ ?_
    · rw [Int.natAbs_mul]
      refine Nat.lt_of_lt_of_le (Nat.mul_lt_mul'' s3.dl gA) ?_
      rw [← Nat.pow_add]
      exact Nat.pow_le_pow_right (by decide) (by omega)
    · rw [show (fr.map fun i => wgI (rowAt rows i) up).sum = fsG rows up fr from rfl, e]
      exact h
end
end Bx

namespace Bx
open PySem PySem.Spec PyProof.Rows L2 Z
local macro_rules | `(tactic| walk_at "zz") => `(tactic| simp only [zSeq, zAsg, zRet, zRetN, zIfS, zNext, zDrop, zPar, zVar, zC, zOp, zUn, zNeg, zI0, zI, zTest, zAnd, zOr, zNot, zAndV, zOrV, zNotV, zIf, zNil, zCons, zTup, zLst, zLstC, zgName, zgTup, zgCons, zgNil, zgSub, startZ, zCall, zCB, zChain, zIsN, zNotN, zNever,
  zAddA, zMulA, zRepeat, zCat, zIx, seqD, lstD, zMax2, zMin2, zAbs, zLen, zSum, zGcd, zInt, zYes, zBreak, zCont, zLc, ziR1, ziR2, ziList, ziTup, ziZip, ziEnum, wipeZ, zFor,
  at0, at1, at2, at3, at4, ix2_3, ix0_3, isNon_int, isNon_non, Bool.not_true, Bool.not_false,
  List.map_cons, List.map_nil, List.length_cons, List.length_nil, List.replicate_succ, List.replicate_zero, List.append_nil, List.nil_append, List.cons_append, List.getElem?_cons_zero, List.getElem?_cons_succ, List.set_cons_zero, List.set_cons_succ,
  Option.some.injEq, D.int.injEq, D.bl.injEq, D.tup.injEq, D.lst.injEq, D.str.injEq, D.cell.injEq, O.lst.injEq, reduceCtorEq, exists_eq_left', exists_eq_left, false_and, and_false, true_and, and_true, exists_false, or_false, false_or, exists_and_left, exists_eq', exists_and_right, List.cons.injEq, and_assoc, dec_not, dec_yes, t_t, t_f, f_t, f_f, true_implies, false_implies, implies_true, and_self, Nat.reduceAdd, Nat.reduceLeDiff, Nat.reduceSub, Nat.reduceLT])
local macro_rules | `(tactic| walk_at "zy") => `(tactic| try simp only [Option.some.injEq, D.int.injEq, D.bl.injEq, D.tup.injEq, D.lst.injEq, D.str.injEq, D.cell.injEq, O.lst.injEq, reduceCtorEq, exists_eq_left', exists_eq_left, false_and, and_false, true_and, and_true, exists_false, or_false, false_or, exists_and_left, exists_eq', exists_and_right, List.cons.injEq, and_assoc, dec_not, dec_yes, t_t, t_f, f_t, f_f, true_implies, false_implies, implies_true, and_self])
/-- the due size and the size, times the denominator -/
def duI (r : Row) (up : Bool) (lv : Rat) : Int := r.w * lv.den + lv.num * wgI r up
def scU (r : Row) (up : Bool) (lv : Rat) : Int := lim (duI r up lv) (r.l * lv.den) (r.m.map (· * (lv.den : Int)))
theorem du_div {r : Row} {up : Bool} {lv : Rat} : Rat.divInt (duI r up lv) lv.den = dueR r up lv := by
  have hd : ((lv.den : Int) : Rat) ≠ 0 := Rat.ne_of_gt (Rat.intCast_pos.mpr (dpos lv))
  have e : (lv.num : Rat) / ((lv.den : Int) : Rat) = lv := by rw [← divQ]; exact Rat.num_divInt_den lv
  unfold duI dueR
  rw [divQ, Rat.intCast_add, Rat.intCast_mul, Rat.intCast_mul]
  generalize ((lv.den : Int) : Rat) = d at *
  generalize (lv.num : Rat) = n at *
  rw [← e]
  grind
theorem scU_div {r : Row} {up : Bool} {lv : Rat} : Rat.divInt (scU r up lv) lv.den = newS r up lv := by
  unfold scU newS
  rw [lim_div (dpos lv), du_div]
theorem ex_div (rows : List Row) (up : Bool) (lv : Rat) : ∀ l : List Nat, Rat.divInt ((l.map fun i => scU (rowAt rows i) up lv - duI (rowAt rows i) up lv).sum) lv.den = exc rows up lv l
  | [] => Rat.zero_divInt _
  | i :: l => by
    have ih := ex_div rows up lv l
    have e : exc rows up lv (i :: l) = (newS (rowAt rows i) up lv - dueR (rowAt rows i) up lv) + exc rows up lv l := sumQ_cons _ _
    rw [List.map_cons, List.sum_cons, e, ← ih, ← scU_div, ← du_div, divQ, divQ, divQ, divQ, Rat.intCast_add, Rat.intCast_sub]
    grind
theorem pos_div {a q : Int} (hq : 0 < q) : 0 < Rat.divInt a q ↔ 0 < a := by
  have := divInt_lt (a := 0) (b := a) hq
  rw [Rat.zero_divInt] at this
  exact this
theorem neg_div {a q : Int} (hq : 0 < q) : Rat.divInt a q < 0 ↔ a < 0 := by
  have := divInt_lt (a := a) (b := 0) hq
  rw [Rat.zero_divInt] at this
  exact this
theorem lt_sc {r : Row} {up : Bool} {lv : Rat} : dueR r up lv < newS r up lv ↔ 0 < scU r up lv - duI r up lv := by
  rw [← scU_div, ← du_div, divInt_lt (dpos lv)]
  omega
theorem sc_lt {r : Row} {up : Bool} {lv : Rat} : newS r up lv < dueR r up lv ↔ scU r up lv - duI r up lv < 0 := by
  rw [← scU_div, ← du_div, divInt_lt (dpos lv)]
  omega
theorem pickL_eq {rows : List Row} {up : Bool} {lv : Rat} {l : List Nat} : pickL rows up lv l = if 0 < (l.map fun i => scU (rowAt rows i) up lv - duI (rowAt rows i) up lv).sum then l.filter fun i => decide (0 < scU (rowAt rows i) up lv - duI (rowAt rows i) up lv) else if (l.map fun i => scU (rowAt rows i) up lv - duI (rowAt rows i) up lv).sum < 0 then l.filter fun i => decide (scU (rowAt rows i) up lv - duI (rowAt rows i) up lv < 0) else l := by
  unfold pickL
  rw [← ex_div]
  simp only [pos_div (dpos lv), neg_div (dpos lv), lt_sc, sc_lt]
theorem bare_fz (f : Fz) : bareTs ((fzD f).map (·.2)) = true := by
  induction f with
  | nil => rfl
  | cons p f ih =>
    show (bareT (frD p.2) && bareTs ((fzD f).map (·.2))) = true
    rw [ih]
    rfl
theorem free_nd {rows : List Row} {f : Fz} : (freeL rows f).Nodup := List.Pairwise.filter _ List.nodup_range
theorem free_lt {rows : List Row} {f : Fz} {i : Nat} (h : i ∈ freeL rows f) : i < rows.length := List.mem_range.mp (List.mem_filter.mp h).1
theorem free_len {rows : List Row} {f : Fz} : (freeL rows f).length ≤ rows.length := by
  have := List.length_filter_le (fun i => !hasK f i) (List.range rows.length)
  rw [List.length_range] at this
  exact this
/-- the dict of a list of indexes -/
def ixD (l : List Nat) (v : Nat → D) : List (Int × D) := l.map fun i => (((i : Nat) : Int), v i)
theorem ixD_snoc {l : List Nat} {v : Nat → D} {k : Nat} (hn : l.Nodup) (hk : k < l.length) : putI ((l[k] : Nat) : Int) (v l[k]) (ixD (l.take k) v) = ixD (l.take (k + 1)) v := by
  rw [putI_new, List.take_succ, List.getElem?_eq_getElem hk]
  · unfold ixD
    rw [List.map_append]
    rfl
  · intro p hp e
    obtain ⟨i, hi, rfl⟩ := List.mem_map.mp hp
    have e : i = l[k] := by have : ((i : Nat) : Int) = ((l[k] : Nat) : Int) := e; omega
    subst e
    obtain ⟨j, hj, ej⟩ := List.getElem_of_mem hi
    rw [List.length_take] at hj
    rw [List.getElem_take] at ej
    have ej2 : l[j]? = l[k]? := by rw [List.getElem?_eq_getElem (by omega), List.getElem?_eq_getElem hk, ej]
    have := (List.getElem?_inj (by omega) hn).mp ej2
    omega
theorem ixD_get {l : List Nat} {v : Nat → D} {i : Nat} (h : i ∈ l) : (ixD l v).lookup ((i : Nat) : Int) = some (v i) := lookup_map (k := fun i : Nat => ((i : Nat) : Int)) (fun a b h => by omega) h
theorem for_cut {zi : ZI} {g : ZG} {zs : ZS} {Ze : ZEnds} {Γ : Z.Env} {Δ : Store} (h : ∀ body : D → ZS, body = (fun x Z' Γ' Δ' => g x Γ' Δ' fun Γ2 Δ2 => zs Z' Γ2 Δ2) → zi Γ Δ fun items Δ1 => loopZ body Ze items Γ Δ1) : zFor zi g zs Ze Γ Δ := h _ rfl
theorem fzD_map {l : List Nat} {v : Nat → Rat} : fzD (l.map fun i => (i, v i)) = l.map fun i => (((i : Nat) : Int), frD (v i)) := by unfold fzD; rw [List.map_map]; rfl
theorem last_at {Δ : Store} {o : O} : (Δ ++ [o])[Δ.length]? = some o := by rw [List.getElem?_append_right (Nat.le_refl _), Nat.sub_self]; rfl
section
variable {K : PySem.W.Frag} {C : CI} {Δ : Store} {P : D → Store → Prop}
theorem lvl_sz {rows : List Row} {W : Rat} {up : Bool} {f : Fz} {fr : List Nat} {N M : Nat} (hr : ∀ r ∈ rows, r.Ok) (hfr : ∀ i ∈ fr, i < rows.length) (hl : fr.length ≤ 40) (hf : IntF f) (hfl : f.length ≤ 40) (hW : Sz W N M) (hNM : M + 150 ≤ N) (hG : 0 < fsG rows up fr) :
    Sz ((W - sumF f - (fsW rows fr : Rat)) / (fsG rows up fr : Rat)) (N + 2) (M + 30) := by
  have hok : ∀ i ∈ fr, (rowAt rows i).Ok := fun i hi => hr _ (rowAt_mem (hfr i hi))
  have wS : 0 ≤ fsW rows fr ∧ fsW rows fr ≤ 40 * 10 ^ 30 := by
    have := sum_bounds (fr.map fun i => (rowAt rows i).w) fun x hx => by
      obtain ⟨i, hi, rfl⟩ := List.mem_map.mp hx
      exact ⟨(hok i hi).w0, (hok i hi).w1⟩
    rw [List.length_map] at this
    have l2 : (fr.length : Int) * 10 ^ 30 ≤ 40 * 10 ^ 30 := Int.mul_le_mul_of_nonneg_right (by omega) (by decide)
    unfold fsW
    omega
  have gS : fsG rows up fr ≤ 40 * 10 ^ 6 := by
    have : ∀ l : List Nat, (∀ i ∈ l, i ∈ fr) → fsG rows up l ≤ l.length * 10 ^ 6 := fun l => by
      induction l with
      | nil => intro _; simp [fsG]
      | cons i l ih =>
        intro hi
        have a := ih fun j hj => hi j (List.mem_cons_of_mem _ hj)
        have b : wgI (rowAt rows i) up ≤ 10 ^ 6 := by
          have := hok i (hi i List.mem_cons_self)
          unfold wgI
          split
          · exact this.g1
          · exact this.s1
        have c : fsG rows up (i :: l) = wgI (rowAt rows i) up + fsG rows up l := by unfold fsG; rw [List.map_cons, List.sum_cons]
        rw [c, List.length_cons, Int.natCast_add, Int.add_mul]
        simp
        omega
    have := this fr fun _ h => h
    have l2 : (fr.length : Int) * 10 ^ 6 ≤ 40 * 10 ^ 6 := Int.mul_le_mul_of_nonneg_right (by omega) (by decide)
    omega
  have sT : Sz (sumF f) 110 0 := by
    obtain ⟨s, e, s0, s1⟩ := intF_sum (f.map (·.2)) fun x hx => by
      obtain ⟨p, hp, rfl⟩ := List.mem_map.mp hx
      exact hf p hp
    rw [List.length_map] at s1
    have : (f.length : Int) * 10 ^ 30 ≤ 40 * 10 ^ 30 := Int.mul_le_mul_of_nonneg_right (by omega) (by decide)
    unfold sumF
    rw [e]
    exact int_sz _ (natAbs_lt s0 (by omega))
  have s1 : Sz (W - sumF f) (N + 1) M := sz_sub (M2 := 0) hW sT (by omega) (by omega)
  have s2 : Sz ((fsW rows fr : Int) : Rat) 110 0 := int_sz _ (natAbs_lt wS.1 (Int.lt_of_le_of_lt wS.2 (by decide)))
  have s3 : Sz (W - sumF f - (fsW rows fr : Rat)) (N + 2) M := sz_sub (M2 := 0) s1 s2 (by omega) (by omega)
  have gA : (fsG rows up fr).natAbs ≤ 2 ^ 30 := Nat.le_of_lt (natAbs_lt (by omega) (by omega))
  rw [← div_den]
  refine sz_div (by have := Int.mul_pos (dpos (W - sumF f - (fsW rows fr : Rat))) hG; omega) s3.n ?_
  rw [Int.natAbs_mul, den_abs, Nat.pow_add]
  exact Nat.mul_le_mul s3.d gA
theorem nextS_ok (F : Kf K C) {rows : List Row} {W : Rat} {up : Bool} {f : Fz} {N M : Nat} (h40 : rows.length ≤ 40) (hr : ∀ r ∈ rows, r.Ok) (hf : IntF f) (hfl : f.length ≤ 40) (hW : Sz W N M) (hNM : M + 150 ≤ N) (hN : N ≤ 3000) (hG : 0 < fsG rows up (freeL rows f))
    (h : ∀ m Δ', dctOf Δ' (.cell m) = some (fzD (nxt rows W up f)) → P (.cell m) Δ') : W_next_sizes K C [.lst (rows.map boxD), frD W, .bl up, dctP (fzD f)] [] P := by
  have hok : ∀ i ∈ freeL rows f, (rowAt rows i).Ok := fun i hi => hr _ (rowAt_mem (free_lt hi))
  have fl := free_len (rows := rows) (f := f)
  unfold W_next_sizes z_next_sizes
  refine ⟨rfl, ?_⟩
  refine seq_cut fun rest hr' => ?_
  walk_at "zz"
  rw [List.length_map, rangeD_nat]
  refine ⟨by omega, by omega, ?_⟩
  refine comp_fm (g := fun i : Nat => D.int ((i : Nat) : Int)) (f := fun i : Nat => D.int ((i : Nat) : Int)) (p := fun i => !hasK f i) (List.range rows.length) [] (by simp; omega) (fun i hi Q1 Q2 q1 q2 => ?_) ?_
  · walk_at "zz"
    refine ⟨_, _, dctOf_dat, rfl, ?_⟩
    rw [lookup_fz]
    exact ⟨_, rfl, fun q => q1 q, fun q => q2 q⟩
  rw [List.nil_append]
  have hfree : ((List.range rows.length).filter fun i => !hasK f i) = freeL rows f := rfl
  rw [hfree]
  subst hr'
  refine seq_cut fun rest hr' => ?_
  walk_at "zz"
  refine comp_map (g := fun i : Nat => D.int ((i : Nat) : Int)) (f := fun i => boxD (rowAt rows i)) (freeL rows f) [] (by simp; omega) (fun i hi Q q => ?_) ?_
  · walk_at "zz"
    exact ⟨_, atI_nat (box_at (free_lt hi)), q⟩
  rw [List.nil_append]
  refine commonL_ok F hr (fun i hi => free_lt hi) (by omega) hf hfl hW hNM hN hG ?_
  have elv : (W - sumF f - (fsW rows (freeL rows f) : Rat)) / (fsG rows up (freeL rows f) : Rat) = lvlR rows W up f := rfl
  rw [elv]
  have hlv : Sz (lvlR rows W up f) (N + 2) (M + 30) := lvl_sz hr (fun i hi => free_lt hi) (by omega) hf hfl hW hNM hG
  unfold nxt at h
  have hnd := free_nd (rows := rows) (f := f)
  have hlt : ∀ i ∈ freeL rows f, i < rows.length := fun i hi => free_lt hi
  generalize lvlR rows W up f = lv at *
  generalize freeL rows f = fr at *
  refine ⟨_, rfl, rfl, _, _, rfl, _, _, rfl, rfl, ?_⟩
  subst hr'
  refine seq_cut fun rest hr' => ?_
  walk_at "zz"
  show rest [some (.lst (rows.map boxD)), some (frD W), some (.bl up), some (dctP (fzD f)), some (.lst (fr.map fun i : Nat => D.int ((i : Nat) : Int))), some (.int lv.num), some (.int (lv.den : Int)), some (.cell 0), some (.cell 1), none, none, none, none, none] [dctO (ixD (fr.take 0) fun i => frD (newS (rowAt rows i) up lv)), dctO (ixD (fr.take 0) fun i => .int (scU (rowAt rows i) up lv - duI (rowAt rows i) up lv))]
  subst hr'
  refine seq_cut fun rest hr' => ?_
  refine for_cut fun body hB => ?_
  walk_at "zz"
  refine loop_inv (fun k Γ E => ∃ u9 u10 u11 u12, E = [dctO (ixD (fr.take k) fun i => frD (newS (rowAt rows i) up lv)), dctO (ixD (fr.take k) fun i => .int (scU (rowAt rows i) up lv - duI (rowAt rows i) up lv))] ∧ Γ = [some (.lst (rows.map boxD)), some (frD W), some (.bl up), some (dctP (fzD f)), some (.lst (fr.map fun i : Nat => D.int ((i : Nat) : Int))), some (.int lv.num), some (.int (lv.den : Int)), some (.cell 0), some (.cell 1), u9, u10, u11, u12, none]) _ 0 _ _ ⟨none, none, none, none, rfl, rfl⟩ ?_ ?_
  · rintro k x Γ E Ze hx ⟨u9, u10, u11, u12, rfl, rfl⟩ hnx _ _ _
    rw [Nat.zero_add] at *
    have hk : k < fr.length := by
      have := (List.getElem?_eq_some_iff.mp hx).1
      rw [List.length_map] at this
      exact this
    have ex : x = .int ((fr[k] : Nat) : Int) := by
      rw [List.getElem?_map, List.getElem?_eq_getElem hk] at hx
      exact (Option.some.inj hx).symm
    subst ex
    subst hB
    simp only [zgName, List.set_cons_succ, List.set_cons_zero]
    have ok := hok fr[k] (List.getElem_mem hk)
    refine seq_cut fun rest2 hr2 => ?_
    walk_at "zz"
    refine ⟨_, atI_nat (box_at (hlt _ (List.getElem_mem hk))), ?_⟩
    have qd := hlv.dl
    have w30 := sm30 (n := 100) ok.w0 ok.w1 (Nat.le_refl _)
    have l30 := sm30 (n := 100) ok.l0 ok.l1 (Nat.le_refl _)
    have g6 : (wgI (rowAt rows fr[k]) up).natAbs < 2 ^ 20 := by
      unfold wgI
      split
      · exact sm6 ok.g0 ok.g1 (Nat.le_refl _)
      · exact sm6 ok.s0 ok.s1 (Nat.le_refl _)
    subst hr2
    refine seq_cut fun rest2 hr2 => ?_
    unfold zProp
    walk_at "zz"
    refine ⟨ins_box, wish_ok F ?_⟩
    walk_at "zz"
    refine ⟨mulW w30 qd (by omega) (by omega), wgB_ok F ⟨_, rfl, mulW hlv.n g6 (by omega) (by omega), ?_⟩⟩
    have edu : (rowAt rows fr[k]).w * (lv.den : Int) + lv.num * wgI (rowAt rows fr[k]) up = duI (rowAt rows fr[k]) up lv := rfl
    rw [edu]
    subst hr2
    refine seq_cut fun rest2 hr2 => ?_
    unfold zProp
    walk_at "zz"
    refine ⟨ins_box, least_ok F ?_⟩
    walk_at "zz"
    refine ⟨mulW l30 qd (by omega) (by omega), ins_box, most_ok F ?_⟩
    have tl : rest2 [some (.lst (rows.map boxD)), some (frD W), some (.bl up), some (dctP (fzD f)), some (.lst (fr.map fun i : Nat => D.int ((i : Nat) : Int))), some (.int lv.num), some (.int (lv.den : Int)), some (.cell 0), some (.cell 1), some (.int ((fr[k] : Nat) : Int)), some (boxD (rowAt rows fr[k])), some (.int (duI (rowAt rows fr[k]) up lv)), some (.int (scU (rowAt rows fr[k]) up lv)), none] [dctO (ixD (fr.take k) fun i => frD (newS (rowAt rows i) up lv)), dctO (ixD (fr.take k) fun i => .int (scU (rowAt rows i) up lv - duI (rowAt rows i) up lv))] := by
      subst hr2
      refine seq_cut fun rest2 hr2 => ?_
      unfold zDPut
      walk_at "zz"
      refine lowest_ok (dpos lv) (Nat.lt_of_lt_of_le qd (Nat.pow_le_pow_right (by decide) (by omega))) ?_
      rw [scU_div]
      refine ⟨_, dctOf_cell rfl, by unfold ixD; rw [List.length_map, List.length_take]; omega, ?_⟩
      have e1 : putI ((fr[k] : Nat) : Int) (frD (newS (rowAt rows fr[k]) up lv)) (ixD (fr.take k) (fun i => frD (newS (rowAt rows i) up lv))) = ixD (fr.take (k + 1)) (fun i => frD (newS (rowAt rows i) up lv)) := ixD_snoc hnd hk
      have e2 : putI ((fr[k] : Nat) : Int) (.int (scU (rowAt rows fr[k]) up lv - duI (rowAt rows fr[k]) up lv)) (ixD (fr.take k) (fun i => D.int (scU (rowAt rows i) up lv - duI (rowAt rows i) up lv))) = ixD (fr.take (k + 1)) (fun i => D.int (scU (rowAt rows i) up lv - duI (rowAt rows i) up lv)) := ixD_snoc hnd hk
      rw [List.set_cons_zero, e1]
      subst hr2
      unfold zDPut
      walk_at "zz"
      refine ⟨_, dctOf_cell rfl, by unfold ixD; rw [List.length_map, List.length_take]; omega, ?_⟩
      rw [e2]
      exact hnx _ _ ⟨_, _, _, _, rfl, rfl⟩
    have lm : ∀ Q : D → Store → Prop, Q (.int (scU (rowAt rows fr[k]) up lv)) [dctO (ixD (fr.take k) fun i => frD (newS (rowAt rows i) up lv)), dctO (ixD (fr.take k) fun i => .int (scU (rowAt rows i) up lv - duI (rowAt rows i) up lv))] → W_limited K C [.int (duI (rowAt rows fr[k]) up lv), .int ((rowAt rows fr[k]).l * (lv.den : Int)), optD ((rowAt rows fr[k]).m.map (· * (lv.den : Int)))] [dctO (ixD (fr.take k) fun i => frD (newS (rowAt rows i) up lv)), dctO (ixD (fr.take k) fun i => .int (scU (rowAt rows i) up lv - duI (rowAt rows i) up lv))] Q := fun Q q => limM q
    cases hm : (rowAt rows fr[k]).m with
    | none =>
      rw [hm] at lm
      exact ⟨fun _ => lm _ tl, fun z => absurd (show true = false from z) (by decide)⟩
    | some m =>
      rw [hm] at lm
      have mb := ok.m0 m hm
      refine ⟨fun z => absurd (show false = true from z) (by decide), fun _ => ⟨ins_box, most_ok F ?_⟩⟩
      rw [hm]
      exact ⟨m, rfl, mulW (sm30 (n := 100) (Int.le_trans ok.l0 mb.1) mb.2 (Nat.le_refl _)) qd (by omega) (by omega), lm _ tl⟩
  · rintro Γ E ⟨u9, u10, u11, u12, rfl, rfl⟩
    rw [Nat.zero_add, List.length_map, List.take_of_length_le (Nat.le_refl _)] 
    show rest _ _
    subst hr'
    refine seq_cut fun rest hr' => ?_
    unfold zListV
    walk_at "zz"
    refine ⟨_, dctOf_cell rfl, fr.map fun i => scU (rowAt rows i) up lv - duI (rowAt rows i) up lv, by unfold ixD; rw [List.map_map, List.map_map]; rfl, ?_⟩
    rw [pickL_eq] at h
    generalize hT : (fr.map fun i => scU (rowAt rows i) up lv - duI (rowAt rows i) up lv).sum = total at *
    subst hr'
    refine seq_cut fun rest hr' => ?_
    walk_at "zz"
    refine ⟨fun hp => ?_, fun hp => ?_⟩
    · unfold zDcC ziList
      refine ⟨_, rfl, .inl ⟨_, rfl, ?_⟩⟩
      refine dc_fm (g := fun i : Nat => D.int ((i : Nat) : Int)) (key := fun i : Nat => ((i : Nat) : Int)) (val := (fun i => frD (newS (rowAt rows i) up lv))) (p := fun i => decide (0 < scU (rowAt rows i) up lv - duI (rowAt rows i) up lv)) fr [] (by simp; omega) (nd_ints hnd) (fun _ _ _ q => nomatch q) (fun i hi Q1 Q2 q1 q2 => ?_) ?_
      · unfold zDGet
        walk_at "zz"
        refine ⟨_, dctOf_cell rfl, _, ixD_get hi, ?_⟩
        walk_at "zz"
        refine ⟨fun q => ⟨_, dctOf_cell rfl, _, ixD_get hi, q1 (decide_eq_true q)⟩, fun q => q2 (decide_eq_false q)⟩
      · refine ⟨_, rfl, ?_⟩
        rw [List.nil_append]
        rw [if_pos hp] at h
        exact h _ _ (dctOf_cell (by rw [fzD_map]; exact last_at))
    · rw [if_neg hp] at h
      subst hr'
      refine seq_cut fun rest hr' => ?_
      walk_at "zz"
      refine ⟨fun hp => ?_, fun hp => ?_⟩
      · unfold zDcC ziList
        refine ⟨_, rfl, .inl ⟨_, rfl, ?_⟩⟩
        refine dc_fm (g := fun i : Nat => D.int ((i : Nat) : Int)) (key := fun i : Nat => ((i : Nat) : Int)) (val := (fun i => frD (newS (rowAt rows i) up lv))) (p := fun i => decide (scU (rowAt rows i) up lv - duI (rowAt rows i) up lv < 0)) fr [] (by simp; omega) (nd_ints hnd) (fun _ _ _ q => nomatch q) (fun i hi Q1 Q2 q1 q2 => ?_) ?_
        · unfold zDGet
          walk_at "zz"
          refine ⟨_, dctOf_cell rfl, _, ixD_get hi, ?_⟩
          walk_at "zz"
          refine ⟨fun q => ⟨_, dctOf_cell rfl, _, ixD_get hi, q1 (decide_eq_true q)⟩, fun q => q2 (decide_eq_false q)⟩
        · refine ⟨_, rfl, ?_⟩
          rw [List.nil_append]
          rw [if_pos hp] at h
          exact h _ _ (dctOf_cell (by rw [fzD_map]; exact last_at))
      · rw [if_neg hp] at h
        subst hr'
        walk_at "zz"
        exact h _ _ (dctOf_cell (by rw [fzD_map]; rfl))
end
end Bx

namespace Bx
open PySem PySem.Spec PyProof.Rows L2 Z
local macro_rules | `(tactic| walk_at "zz") => `(tactic| simp only [zSeq, zAsg, zRet, zRetN, zIfS, zNext, zDrop, zPar, zVar, zC, zOp, zUn, zNeg, zI0, zI, zTest, zAnd, zOr, zNot, zAndV, zOrV, zNotV, zIf, zNil, zCons, zTup, zLst, zLstC, zgName, zgTup, zgCons, zgNil, zgSub, startZ, zCall, zCB, zChain, zIsN, zNotN, zNever,
  zAddA, zMulA, zRepeat, zCat, zIx, seqD, lstD, zMax2, zMin2, zAbs, zLen, zSum, zGcd, zInt, zYes, zBreak, zCont, zLc, ziR1, ziR2, ziList, ziTup, ziZip, ziEnum, wipeZ, zFor,
  at0, at1, at2, at3, at4, ix2_3, ix0_3, isNon_int, isNon_non, Bool.not_true, Bool.not_false,
  List.map_cons, List.map_nil, List.length_cons, List.length_nil, List.replicate_succ, List.replicate_zero, List.append_nil, List.nil_append, List.cons_append, List.getElem?_cons_zero, List.getElem?_cons_succ, List.set_cons_zero, List.set_cons_succ,
  Option.some.injEq, D.int.injEq, D.bl.injEq, D.tup.injEq, D.lst.injEq, D.str.injEq, D.cell.injEq, O.lst.injEq, reduceCtorEq, exists_eq_left', exists_eq_left, false_and, and_false, true_and, and_true, exists_false, or_false, false_or, exists_and_left, exists_eq', exists_and_right, List.cons.injEq, and_assoc, dec_not, dec_yes, t_t, t_f, f_t, f_f, true_implies, false_implies, implies_true, and_self, Nat.reduceAdd, Nat.reduceLeDiff, Nat.reduceSub, Nat.reduceLT])
local macro_rules | `(tactic| walk_at "zy") => `(tactic| try simp only [Option.some.injEq, D.int.injEq, D.bl.injEq, D.tup.injEq, D.lst.injEq, D.str.injEq, D.cell.injEq, O.lst.injEq, reduceCtorEq, exists_eq_left', exists_eq_left, false_and, and_false, true_and, and_true, exists_false, or_false, false_or, exists_and_left, exists_eq', exists_and_right, List.cons.injEq, and_assoc, dec_not, dec_yes, t_t, t_f, f_t, f_f, true_implies, false_implies, implies_true, and_self])
/-! ### what holds all along -/
structure Iv (rows : List Row) (up : Bool) (f : Fz) : Prop where
  nd : (f.map (·.1)).Nodup
  lt : ∀ p ∈ f, p.1 < rows.length
  fz : ∀ i, i < rows.length → fz0 (rowAt rows i) up = true → hasK f i = true
  int : f.length < rows.length → IntF f
theorem hasK_iff {f : Fz} {i : Nat} : hasK f i = true ↔ i ∈ f.map (·.1) := by
  unfold hasK
  rw [List.any_eq_true, List.mem_map]
  constructor
  · rintro ⟨p, hp, e⟩
    exact ⟨p, hp, by simpa using e⟩
  · rintro ⟨p, hp, e⟩
    exact ⟨p, hp, by simpa using e⟩
theorem len_split {α : Type} (p : α → Bool) : ∀ l : List α, (l.filter p).length + (l.filter fun x => !p x).length = l.length
  | [] => rfl
  | x :: l => by
    have ih := len_split p l
    cases h : p x with
    | true =>
      rw [List.filter_cons_of_pos h, List.filter_cons_of_neg (by rw [h]; decide), List.length_cons, List.length_cons]
      omega
    | false =>
      rw [List.filter_cons_of_neg (by rw [h]; decide), List.filter_cons_of_pos (by rw [h]; decide), List.length_cons, List.length_cons]
      omega
theorem Iv.len {rows : List Row} {up : Bool} {f : Fz} (h : Iv rows up f) : f.length + (freeL rows f).length = rows.length := by
  have e := len_split (fun i => hasK f i) (List.range rows.length)
  rw [List.length_range] at e
  have p : ((List.range rows.length).filter fun i => hasK f i).Perm (f.map (·.1)) := by
    refine (List.perm_ext_iff_of_nodup (List.Pairwise.filter _ List.nodup_range) h.nd).mpr fun i => ?_
    rw [List.mem_filter, List.mem_range, hasK_iff]
    constructor
    · exact fun q => q.2
    · intro q
      obtain ⟨p, hp, e⟩ := List.mem_map.mp q
      exact ⟨by rw [← e]; exact h.lt p hp, q⟩
  have := p.length_eq
  rw [List.length_map] at this
  rw [this] at e
  exact e
theorem free_not {rows : List Row} {f : Fz} {i : Nat} (h : i ∈ freeL rows f) : hasK f i = false := by
  have := (List.mem_filter.mp h).2
  simpa using this
theorem pick_sub {rows : List Row} {up : Bool} {lv : Rat} {l : List Nat} {i : Nat} (h : i ∈ pickL rows up lv l) : i ∈ l := by
  unfold pickL at h
  split at h
  · exact (List.mem_filter.mp h).1
  · split at h
    · exact (List.mem_filter.mp h).1
    · exact h
theorem pick_asc {rows : List Row} {up : Bool} {lv : Rat} {l : List Nat} (h : l.Pairwise (· < ·)) : (pickL rows up lv l).Pairwise (· < ·) := by
  unfold pickL
  split
  · exact List.Pairwise.filter _ h
  · split
    · exact List.Pairwise.filter _ h
    · exact h
theorem free_asc {rows : List Row} {f : Fz} : (freeL rows f).Pairwise (· < ·) := List.Pairwise.filter _ List.pairwise_lt_range
theorem sumQ_np : ∀ (l : List Rat), (∀ x ∈ l, x ≤ 0) → sumQ 0 l ≤ 0
  | [], _ => Rat.le_refl
  | x :: l, h => by
    rw [sumQ_cons]
    have a := h x List.mem_cons_self
    have b := sumQ_np l fun y hy => h y (List.mem_cons_of_mem _ hy)
    grind
theorem sumQ_nn2 : ∀ (l : List Rat), (∀ x ∈ l, 0 ≤ x) → 0 ≤ sumQ 0 l
  | [], _ => Rat.le_refl
  | x :: l, h => by
    rw [sumQ_cons]
    have a := h x List.mem_cons_self
    have b := sumQ_nn2 l fun y hy => h y (List.mem_cons_of_mem _ hy)
    grind
theorem pick_ne {rows : List Row} {up : Bool} {lv : Rat} {l : List Nat} (h : l ≠ []) : pickL rows up lv l ≠ [] := by
  unfold pickL
  split
  · rename_i h1
    intro e
    have := List.filter_eq_nil_iff.mp e
    have q : exc rows up lv l ≤ 0 := sumQ_np _ fun x hx => by
      obtain ⟨i, hi, rfl⟩ := List.mem_map.mp hx
      have := this i hi
      rw [decide_eq_true_iff] at this
      grind
    grind
  · split
    · rename_i h2
      intro e
      have := List.filter_eq_nil_iff.mp e
      have q : 0 ≤ exc rows up lv l := sumQ_nn2 _ fun x hx => by
        obtain ⟨i, hi, rfl⟩ := List.mem_map.mp hx
        have := this i hi
        rw [decide_eq_true_iff] at this
        grind
      grind
    · exact h
theorem limQ_cases (v l : Rat) (m : Option Int) : limQ v l m = v ∨ limQ v l m = l ∨ ∃ i, m = some i ∧ limQ v l m = (i : Rat) := by
  unfold limQ
  split
  · exact .inr (.inl rfl)
  · cases m with
    | none => exact .inl rfl
    | some i =>
      show (if (i : Rat) < v then (i : Rat) else v) = v ∨ _ ∨ _
      split
      · exact .inr (.inr ⟨i, rfl, by show (if (i : Rat) < v then (i : Rat) else v) = _; rw [if_pos (by assumption)]⟩)
      · exact .inl rfl
theorem clamped {r : Row} (hr : r.Ok) {up : Bool} {lv : Rat} (h : newS r up lv ≠ dueR r up lv) : ∃ i : Int, newS r up lv = (i : Rat) ∧ 0 ≤ i ∧ i ≤ 10 ^ 30 := by
  rcases limQ_cases (dueR r up lv) (r.l : Rat) r.m with e | e | ⟨i, hi, e⟩
  · exact absurd e h
  · exact ⟨_, e, hr.l0, hr.l1⟩
  · have := hr.m0 i hi
    exact ⟨i, e, Int.le_trans hr.l0 this.1, this.2⟩
theorem nxt_keys {rows : List Row} {W : Rat} {up : Bool} {f : Fz} : (nxt rows W up f).map (·.1) = pickL rows up (lvlR rows W up f) (freeL rows f) := by
  unfold nxt
  rw [List.map_map]
  exact (List.map_congr_left fun i _ => rfl).trans (List.map_id _)
theorem Iv.next {rows : List Row} {W : Rat} {up : Bool} {f : Fz} (hr : ∀ r ∈ rows, r.Ok) (h : Iv rows up f) (hlt : f.length < rows.length) : Iv rows up (f ++ nxt rows W up f) := by
  have hin : ∀ p ∈ nxt rows W up f, p.1 ∈ freeL rows f := fun p hp => by
    have : p.1 ∈ (nxt rows W up f).map (·.1) := List.mem_map.mpr ⟨p, hp, rfl⟩
    rw [nxt_keys] at this
    exact pick_sub this
  refine ⟨?_, fun p hp => ?_, fun i hi hz => ?_, fun hl2 => ?_⟩
  · rw [List.map_append, nxt_keys]
    refine List.nodup_append.mpr ⟨h.nd, (pick_asc free_asc).imp fun q => Nat.ne_of_lt q, fun a ha b hb e => ?_⟩
    subst e
    have := free_not (pick_sub hb)
    rw [hasK_iff.mpr ha] at this
    cases this
  · rcases List.mem_append.mp hp with hp | hp
    · exact h.lt p hp
    · exact free_lt (hin p hp)
  · have := h.fz i hi hz
    rw [hasK_iff] at this ⊢
    rw [List.map_append]
    exact List.mem_append_left _ this
  · intro p hp
    rcases List.mem_append.mp hp with hp | hp
    · exact h.int hlt p hp
    · have hl := h.len
      rw [List.length_append] at hl2
      obtain ⟨i, hi, rfl⟩ := List.mem_map.mp hp
      have ok := hr _ (rowAt_mem (free_lt (pick_sub hi)))
      refine clamped ok fun e => ?_
      unfold pickL at hi
      split at hi
      · have := (List.mem_filter.mp hi).2
        rw [decide_eq_true_iff] at this
        grind
      · split at hi
        · have := (List.mem_filter.mp hi).2
          rw [decide_eq_true_iff] at this
          grind
        · rename_i h1 h2
          have : (nxt rows W up f).length = (freeL rows f).length := by
            unfold nxt
            rw [List.length_map]
            unfold pickL
            rw [if_neg h1, if_neg h2]
          omega
theorem Iv.wpos {rows : List Row} {up : Bool} {f : Fz} (hr : ∀ r ∈ rows, r.Ok) (h : Iv rows up f) {i : Nat} (hi : i ∈ freeL rows f) : 0 < wgI (rowAt rows i) up := by
  have ok := hr _ (rowAt_mem (free_lt hi))
  have hz : fz0 (rowAt rows i) up = false := by
    cases q : fz0 (rowAt rows i) up with
    | false => rfl
    | true =>
      have := h.fz i (free_lt hi) q
      rw [free_not hi] at this
      cases this
  have nz : wgI (rowAt rows i) up ≠ 0 := by
    unfold fz0 at hz
    rw [Bool.or_eq_false_iff] at hz
    simpa using hz.1
  have nn : 0 ≤ wgI (rowAt rows i) up := by
    unfold wgI
    split
    · exact ok.g0
    · exact ok.s0
  omega
theorem fsG_pos {rows : List Row} {up : Bool} : ∀ {l : List Nat}, l ≠ [] → (∀ i ∈ l, 0 < wgI (rowAt rows i) up) → 0 < fsG rows up l
  | [], h, _ => absurd rfl h
  | i :: l, _, h => by
    have e : fsG rows up (i :: l) = wgI (rowAt rows i) up + fsG rows up l := by unfold fsG; rw [List.map_cons, List.sum_cons]
    have a := h i List.mem_cons_self
    rw [e]
    by_cases q : l = []
    · subst q
      show 0 < _ + (0 : Int)
      omega
    · have := fsG_pos q fun j hj => h j (List.mem_cons_of_mem _ hj)
      omega
theorem Iv.first {rows : List Row} {up : Bool} (hr : ∀ r ∈ rows, r.Ok) : Iv rows up (f0L rows up) := by
  have ek : (f0L rows up).map (·.1) = (List.range rows.length).filter fun i => fz0 (rowAt rows i) up := by
    unfold f0L
    rw [List.map_map]
    exact (List.map_congr_left fun i _ => rfl).trans (List.map_id _)
  refine ⟨?_, fun p hp => ?_, fun i hi hz => ?_, fun _ p hp => ?_⟩
  · rw [ek]; exact List.Pairwise.filter _ List.nodup_range
  · have : p.1 ∈ (f0L rows up).map (·.1) := List.mem_map.mpr ⟨p, hp, rfl⟩
    rw [ek] at this
    exact List.mem_range.mp (List.mem_filter.mp this).1
  · rw [hasK_iff, ek]
    exact List.mem_filter.mpr ⟨List.mem_range.mpr hi, hz⟩
  · obtain ⟨i, hi, rfl⟩ := List.mem_map.mp hp
    have := own_bounds (hr _ (rowAt_mem (List.mem_range.mp (List.mem_filter.mp hi).1)))
    exact ⟨_, rfl, this.1, this.2⟩
/-- sorted keys -/
theorem sort_keys {l : List Nat} (h : l.Pairwise (· < ·)) {ys : List Int} (hp : ys.Perm (l.map fun i : Nat => ((i : Nat) : Int))) (hs : ys.Pairwise (· ≤ ·)) : ys = l.map fun i : Nat => ((i : Nat) : Int) :=
  List.Perm.eq_of_pairwise (le := (· ≤ ·)) (fun a b _ _ h1 h2 => Int.le_antisymm h1 h2) hs (List.Pairwise.map _ (fun a b (q : a < b) => by omega) h) hp
theorem fzD_keys {f : Fz} : (fzD f).map (·.1) = (f.map (·.1)).map fun i : Nat => ((i : Nat) : Int) := by unfold fzD; rw [List.map_map, List.map_map]; rfl
theorem keysI_eq {f : Fz} : keysI f = ((f.map (·.1)).map fun i : Nat => ((i : Nat) : Int)).map D.int := by unfold keysI; rw [List.map_map, List.map_map]; rfl
end Bx

namespace Bx
open PySem PySem.Spec PyProof.Rows L2 Z
local macro_rules | `(tactic| walk_at "zz") => `(tactic| simp only [zSeq, zAsg, zRet, zRetN, zIfS, zNext, zDrop, zPar, zVar, zC, zOp, zUn, zNeg, zI0, zI, zTest, zAnd, zOr, zNot, zAndV, zOrV, zNotV, zIf, zNil, zCons, zTup, zLst, zLstC, zgName, zgTup, zgCons, zgNil, zgSub, startZ, zCall, zCB, zChain, zIsN, zNotN, zNever,
  zAddA, zMulA, zRepeat, zCat, zIx, seqD, lstD, zMax2, zMin2, zAbs, zLen, zSum, zGcd, zInt, zYes, zBreak, zCont, zLc, ziR1, ziR2, ziList, ziTup, ziZip, ziEnum, wipeZ, zFor,
  at0, at1, at2, at3, at4, ix2_3, ix0_3, isNon_int, isNon_non, Bool.not_true, Bool.not_false,
  List.map_cons, List.map_nil, List.length_cons, List.length_nil, List.replicate_succ, List.replicate_zero, List.append_nil, List.nil_append, List.cons_append, List.getElem?_cons_zero, List.getElem?_cons_succ, List.set_cons_zero, List.set_cons_succ,
  Option.some.injEq, D.int.injEq, D.bl.injEq, D.tup.injEq, D.lst.injEq, D.str.injEq, D.cell.injEq, O.lst.injEq, reduceCtorEq, exists_eq_left', exists_eq_left, false_and, and_false, true_and, and_true, exists_false, or_false, false_or, exists_and_left, exists_eq', exists_and_right, List.cons.injEq, and_assoc, dec_not, dec_yes, t_t, t_f, f_t, f_f, true_implies, false_implies, implies_true, and_self, Nat.reduceAdd, Nat.reduceLeDiff, Nat.reduceSub, Nat.reduceLT])
local macro_rules | `(tactic| walk_at "zy") => `(tactic| try simp only [Option.some.injEq, D.int.injEq, D.bl.injEq, D.tup.injEq, D.lst.injEq, D.str.injEq, D.cell.injEq, O.lst.injEq, reduceCtorEq, exists_eq_left', exists_eq_left, false_and, and_false, true_and, and_true, exists_false, or_false, false_or, exists_and_left, exists_eq', exists_and_right, List.cons.injEq, and_assoc, dec_not, dec_yes, t_t, t_f, f_t, f_f, true_implies, false_implies, implies_true, and_self])
/-! ### rounds lead to the shares -/
structure Tgt (rows : List Row) (W : Rat) (up : Bool) (τ : Nat → Rat) : Prop where
  own : ∀ i, i < rows.length → fz0 (rowAt rows i) up = true → τ i = ((ownI (rowAt rows i) : Int) : Rat)
  cs : (∃ t, (∀ i, i < rows.length → τ i = newS (rowAt rows i) up t) ∧ sumQ 0 ((List.range rows.length).map τ) = W) ∨
    ((∀ i, i < rows.length → fz0 (rowAt rows i) up = false → ∃ m, (rowAt rows i).m = some m ∧ τ i = (m : Rat)) ∧ sumQ 0 ((List.range rows.length).map τ) < W) ∨
    ((∀ i, i < rows.length → fz0 (rowAt rows i) up = false → τ i = ((rowAt rows i).l : Rat)) ∧ W < sumQ 0 ((List.range rows.length).map τ))
def Good (τ : Nat → Rat) (f : Fz) : Prop := ∀ p ∈ f, p.2 = τ p.1
theorem sumQ_perm {l l' : List Rat} (h : l.Perm l') : sumQ 0 l = sumQ 0 l' := by
  induction h with
  | nil => rfl
  | cons x _ ih => rw [sumQ_cons, sumQ_cons, ih]
  | swap x y l => rw [sumQ_cons, sumQ_cons, sumQ_cons, sumQ_cons]; grind
  | trans _ _ a b => exact a.trans b
theorem sumQ_app : ∀ (l l' : List Rat), sumQ 0 (l ++ l') = sumQ 0 l + sumQ 0 l'
  | [], l' => (Rat.zero_add _).symm
  | x :: l, l' => by rw [List.cons_append, sumQ_cons, sumQ_cons, sumQ_app l l', Rat.add_assoc]
theorem filter_perm {α : Type} (p : α → Bool) : ∀ l : List α, ((l.filter p) ++ (l.filter fun x => !p x)).Perm l
  | [] => .nil
  | x :: l => by
    have ih := filter_perm p l
    cases h : p x with
    | true =>
      rw [List.filter_cons_of_pos h, List.filter_cons_of_neg (by rw [h]; decide), List.cons_append]
      exact ih.cons x
    | false =>
      rw [List.filter_cons_of_neg (by rw [h]; decide), List.filter_cons_of_pos (by rw [h]; decide)]
      exact List.perm_middle.trans (ih.cons x)
theorem sum_split {rows : List Row} {up : Bool} {τ : Nat → Rat} {f : Fz} (iv : Iv rows up f) (g : Good τ f) : sumQ 0 ((List.range rows.length).map τ) = sumF f + sumQ 0 ((freeL rows f).map τ) := by
  have p : ((List.range rows.length).filter fun i => hasK f i).Perm (f.map (·.1)) := by
    refine (List.perm_ext_iff_of_nodup (List.Pairwise.filter _ List.nodup_range) iv.nd).mpr fun i => ?_
    rw [List.mem_filter, List.mem_range, hasK_iff]
    constructor
    · exact fun q => q.2
    · intro q
      obtain ⟨p, hp, e⟩ := List.mem_map.mp q
      exact ⟨by rw [← e]; exact iv.lt p hp, q⟩
  have e := sumQ_perm ((filter_perm (fun i => hasK f i) (List.range rows.length)).map τ)
  rw [← e, List.map_append, sumQ_app, sumQ_perm (p.map τ), List.map_map]
  congr 2
  exact List.map_congr_left fun p hp => (g p hp).symm
theorem sumQ_sub {a b : Nat → Rat} : ∀ l : List Nat, sumQ 0 (l.map fun i => a i - b i) = sumQ 0 (l.map a) - sumQ 0 (l.map b)
  | [] => by show (0 : Rat) = 0 - 0; grind
  | i :: l => by
    rw [List.map_cons, List.map_cons, List.map_cons, sumQ_cons, sumQ_cons, sumQ_cons, sumQ_sub l]
    grind
theorem sumQ_leN {a b : Nat → Rat} : ∀ l : List Nat, (∀ i ∈ l, a i ≤ b i) → sumQ 0 (l.map a) ≤ sumQ 0 (l.map b)
  | [], _ => Rat.le_refl
  | i :: l, h => by
    rw [List.map_cons, List.map_cons, sumQ_cons, sumQ_cons]
    have h1 := h i List.mem_cons_self
    have h2 := sumQ_leN l fun j hj => h j (List.mem_cons_of_mem _ hj)
    grind
theorem sumQ_eqN {a b : Nat → Rat} : ∀ l : List Nat, (∀ i ∈ l, a i ≤ b i) → sumQ 0 (l.map a) = sumQ 0 (l.map b) → ∀ i ∈ l, a i = b i
  | [], _, _, _, h => nomatch h
  | j :: l, h, e, i, hi => by
    rw [List.map_cons, List.map_cons, sumQ_cons, sumQ_cons] at e
    have h1 := h j List.mem_cons_self
    have h2 := sumQ_leN l fun j hj => h j (List.mem_cons_of_mem _ hj)
    rcases List.mem_cons.mp hi with rfl | hi
    · grind
    · exact sumQ_eqN l (fun j hj => h j (List.mem_cons_of_mem _ hj)) (by grind) i hi
theorem due_sum {rows : List Row} {up : Bool} {lv : Rat} : ∀ l : List Nat, sumQ 0 (l.map fun i => dueR (rowAt rows i) up lv) = (fsW rows l : Rat) + lv * (fsG rows up l : Rat)
  | [] => by show (0 : Rat) = ((0 : Int) : Rat) + lv * ((0 : Int) : Rat); grind
  | i :: l => by
    have e1 : fsW rows (i :: l) = (rowAt rows i).w + fsW rows l := by unfold fsW; rw [List.map_cons, List.sum_cons]
    have e2 : fsG rows up (i :: l) = wgI (rowAt rows i) up + fsG rows up l := by unfold fsG; rw [List.map_cons, List.sum_cons]
    rw [List.map_cons, sumQ_cons, due_sum l, e1, e2, Rat.intCast_add, Rat.intCast_add]
    unfold dueR
    grind
theorem due_mono {r : Row} {up : Bool} (hr : r.Ok) {a b : Rat} (h : a ≤ b) : dueR r up a ≤ dueR r up b := by
  have g : (0 : Rat) ≤ (wgI r up : Rat) := by
    unfold wgI
    split
    · exact Rat.intCast_nonneg.mpr hr.g0
    · exact Rat.intCast_nonneg.mpr hr.s0
  unfold dueR
  have := Rat.mul_le_mul_of_nonneg_right h g
  grind
theorem new_mono {r : Row} {up : Bool} (hr : r.Ok) {a b : Rat} (h : a ≤ b) : newS r up a ≤ newS r up b := limQ_mono (due_mono hr h) hr.rng.lm
theorem new_up {r : Row} {up : Bool} {lv : Rat} (h : dueR r up lv < newS r up lv) : dueR r up lv < (r.l : Rat) ∧ newS r up lv = (r.l : Rat) := by
  unfold newS limQ at h ⊢
  split at h
  · rename_i q
    exact ⟨q, by rw [if_pos q]⟩
  · exfalso
    cases hm : r.m with
    | none => rw [hm] at h; exact absurd h Rat.lt_irrefl
    | some i =>
      rw [hm] at h
      have h : dueR r up lv < (if (i : Rat) < dueR r up lv then (i : Rat) else dueR r up lv) := h
      split at h
      · grind
      · exact absurd h Rat.lt_irrefl
theorem new_dn {r : Row} {up : Bool} {lv : Rat} (h : newS r up lv < dueR r up lv) : ∃ m, r.m = some m ∧ (m : Rat) < dueR r up lv ∧ newS r up lv = (m : Rat) := by
  unfold newS limQ at h ⊢
  split at h
  · rename_i q
    exfalso
    grind
  · rename_i q
    cases hm : r.m with
    | none => rw [hm] at h; exact absurd h Rat.lt_irrefl
    | some i =>
      rw [hm] at h
      have h : (if (i : Rat) < dueR r up lv then (i : Rat) else dueR r up lv) < dueR r up lv := h
      split at h
      · rename_i q2
        refine ⟨i, rfl, q2, ?_⟩
        rw [if_neg q]
        show (if (i : Rat) < dueR r up lv then (i : Rat) else dueR r up lv) = _
        rw [if_pos q2]
      · exact absurd h Rat.lt_irrefl
theorem limQ_at_l {v l : Rat} {m : Option Int} (h : v < l) : limQ v l m = l := by unfold limQ; rw [if_pos h]
theorem limQ_at_m {v l : Rat} {i : Int} (h : (i : Rat) < v) (hl : l ≤ (i : Rat)) : limQ v l (some i) = (i : Rat) := by
  unfold limQ
  rw [if_neg (by grind)]
  show (if (i : Rat) < v then (i : Rat) else v) = _
  rw [if_pos h]
theorem limQ_geL {v l : Rat} {m : Option Int} (hm : ∀ i, m = some i → l ≤ (i : Rat)) : l ≤ limQ v l m := by
  unfold limQ
  split
  · exact Rat.le_refl
  · cases m with
    | none => show l ≤ v; grind
    | some i =>
      have := hm i rfl
      show l ≤ (if (i : Rat) < v then (i : Rat) else v)
      split <;> grind
theorem limQ_leM {v l : Rat} {i : Int} (hl : l ≤ (i : Rat)) : limQ v l (some i) ≤ (i : Rat) := by
  unfold limQ
  split
  · exact hl
  · show (if (i : Rat) < v then (i : Rat) else v) ≤ _
    split <;> grind
theorem pick_pos {rows : List Row} {up : Bool} {lv : Rat} {l : List Nat} {i : Nat} (h : i ∈ pickL rows up lv l) (q : 0 < exc rows up lv l) : dueR (rowAt rows i) up lv < newS (rowAt rows i) up lv := by
  unfold pickL at h
  rw [if_pos q] at h
  exact of_decide_eq_true (List.mem_filter.mp h).2
theorem pick_neg {rows : List Row} {up : Bool} {lv : Rat} {l : List Nat} {i : Nat} (h : i ∈ pickL rows up lv l) (q : exc rows up lv l < 0) : newS (rowAt rows i) up lv < dueR (rowAt rows i) up lv := by
  unfold pickL at h
  rw [if_neg (by grind), if_pos q] at h
  exact of_decide_eq_true (List.mem_filter.mp h).2
/-- what may be frozen has the size at the end -/
theorem pick_good {rows : List Row} {W : Rat} {up : Bool} {τ : Nat → Rat} {f : Fz} (hr : ∀ r ∈ rows, r.Ok) (T : Tgt rows W up τ) (iv : Iv rows up f) (g : Good τ f) : ∀ i ∈ pickL rows up (lvlR rows W up f) (freeL rows f), newS (rowAt rows i) up (lvlR rows W up f) = τ i := by
  intro i hi
  have hif := pick_sub hi
  have fne : freeL rows f ≠ [] := fun e => by rw [e] at hif; exact nomatch hif
  have G0 : 0 < fsG rows up (freeL rows f) := fsG_pos fne fun j hj => iv.wpos hr hj
  have Gq : ((fsG rows up (freeL rows f) : Int) : Rat) ≠ 0 := Rat.ne_of_gt (Rat.intCast_pos.mpr G0)
  have eD := due_sum (rows := rows) (up := up) (lv := lvlR rows W up f) (freeL rows f)
  have eS := sum_split iv g
  have eL : lvlR rows W up f * (fsG rows up (freeL rows f) : Rat) = W - sumF f - (fsW rows (freeL rows f) : Rat) := Rat.div_mul_cancel Gq
  rw [eL] at eD
  have hlt : ∀ j ∈ freeL rows f, j < rows.length := fun j hj => free_lt hj
  have hok : ∀ j ∈ freeL rows f, (rowAt rows j).Ok := fun j hj => hr _ (rowAt_mem (free_lt hj))
  have hnf : ∀ j ∈ freeL rows f, fz0 (rowAt rows j) up = false := fun j hj => by
    cases q : fz0 (rowAt rows j) up with
    | false => rfl
    | true =>
      have := iv.fz j (free_lt hj) q
      rw [free_not hj] at this
      cases this
  have eX : exc rows up (lvlR rows W up f) (freeL rows f) = sumQ 0 ((freeL rows f).map fun j => newS (rowAt rows j) up (lvlR rows W up f)) - (W - sumF f) := by
    unfold exc
    rw [sumQ_sub, eD]
    grind
  clear eL eD
  generalize lvlR rows W up f = lv at *
  generalize freeL rows f = fr at *
  have il := hlt i hif
  have ok := hok i hif
  rcases T.cs with ⟨t, ht, hS⟩ | ⟨hm, hS⟩ | ⟨hm, hS⟩
  · rw [hS, show (fr.map τ) = fr.map fun j => newS (rowAt rows j) up t from List.map_congr_left fun j hj => ht j (hlt j hj)] at eS
    rw [ht i il]
    by_cases q1 : 0 < exc rows up lv fr
    · have tl : t < lv := by
        rcases (by grind : t < lv ∨ lv ≤ t) with h | h
        · exact h
        · have := sumQ_leN (a := fun j => newS (rowAt rows j) up lv) (b := fun j => newS (rowAt rows j) up t) fr fun j hj => new_mono (hok j hj) h
          grind
      have ⟨a, b⟩ := new_up (pick_pos hi q1)
      have c := due_mono (up := up) ok (Rat.le_of_lt tl)
      rw [b]
      exact (limQ_at_l (by grind)).symm
    · by_cases q2 : exc rows up lv fr < 0
      · have tl : lv < t := by
          rcases (by grind : lv < t ∨ t ≤ lv) with h | h
          · exact h
          · have := sumQ_leN (a := fun j => newS (rowAt rows j) up t) (b := fun j => newS (rowAt rows j) up lv) fr fun j hj => new_mono (hok j hj) h
            grind
        obtain ⟨m, e, a, b⟩ := new_dn (pick_neg hi q2)
        have c := due_mono (up := up) ok (Rat.le_of_lt tl)
        rw [b]
        unfold newS
        rw [e]
        exact (limQ_at_m (by grind) (ok.rng.lm m e)).symm
      · have z : exc rows up lv fr = 0 := by grind
        rcases (by grind : lv ≤ t ∨ t ≤ lv) with h | h
        · exact sumQ_eqN (a := fun j => newS (rowAt rows j) up lv) (b := fun j => newS (rowAt rows j) up t) fr (fun j hj => new_mono (hok j hj) h) (by grind) i hif
        · exact (sumQ_eqN (a := fun j => newS (rowAt rows j) up t) (b := fun j => newS (rowAt rows j) up lv) fr (fun j hj => new_mono (hok j hj) h) (by grind) i hif).symm
  · have lq := sumQ_leN (a := fun j => newS (rowAt rows j) up lv) (b := τ) fr fun j hj => by
      obtain ⟨m, e, e2⟩ := hm j (hlt j hj) (hnf j hj)
      rw [e2]
      show newS (rowAt rows j) up lv ≤ _
      unfold newS
      rw [e]
      exact limQ_leM ((hok j hj).rng.lm m e)
    have q2 : exc rows up lv fr < 0 := by grind
    obtain ⟨m, e, a, b⟩ := new_dn (pick_neg hi q2)
    obtain ⟨m', e', e2⟩ := hm i il (hnf i hif)
    rw [e] at e'
    cases e'
    rw [b, e2]
  · have lq := sumQ_leN (a := τ) (b := fun j => newS (rowAt rows j) up lv) fr fun j hj => by
      rw [hm j (hlt j hj) (hnf j hj)]
      exact limQ_geL (hok j hj).rng.lm
    have q1 : 0 < exc rows up lv fr := by grind
    have ⟨a, b⟩ := new_up (pick_pos hi q1)
    rw [b, hm i il (hnf i hif)]
end Bx

namespace Bx
open PySem PySem.Spec PyProof.Rows L2 Z
local macro_rules | `(tactic| walk_at "zz") => `(tactic| simp only [zSeq, zAsg, zRet, zRetN, zIfS, zNext, zDrop, zPar, zVar, zC, zOp, zUn, zNeg, zI0, zI, zTest, zAnd, zOr, zNot, zAndV, zOrV, zNotV, zIf, zNil, zCons, zTup, zLst, zLstC, zgName, zgTup, zgCons, zgNil, zgSub, startZ, zCall, zCB, zChain, zIsN, zNotN, zNever,
  zAddA, zMulA, zRepeat, zCat, zIx, seqD, lstD, zMax2, zMin2, zAbs, zLen, zSum, zGcd, zInt, zYes, zBreak, zCont, zLc, ziR1, ziR2, ziList, ziTup, ziZip, ziEnum, wipeZ, zFor,
  at0, at1, at2, at3, at4, ix2_3, ix0_3, isNon_int, isNon_non, Bool.not_true, Bool.not_false,
  List.map_cons, List.map_nil, List.length_cons, List.length_nil, List.replicate_succ, List.replicate_zero, List.append_nil, List.nil_append, List.cons_append, List.getElem?_cons_zero, List.getElem?_cons_succ, List.set_cons_zero, List.set_cons_succ,
  Option.some.injEq, D.int.injEq, D.bl.injEq, D.tup.injEq, D.lst.injEq, D.str.injEq, D.cell.injEq, O.lst.injEq, reduceCtorEq, exists_eq_left', exists_eq_left, false_and, and_false, true_and, and_true, exists_false, or_false, false_or, exists_and_left, exists_eq', exists_and_right, List.cons.injEq, and_assoc, dec_not, dec_yes, t_t, t_f, f_t, f_f, true_implies, false_implies, implies_true, and_self, Nat.reduceAdd, Nat.reduceLeDiff, Nat.reduceSub, Nat.reduceLT])
local macro_rules | `(tactic| walk_at "zy") => `(tactic| try simp only [Option.some.injEq, D.int.injEq, D.bl.injEq, D.tup.injEq, D.lst.injEq, D.str.injEq, D.cell.injEq, O.lst.injEq, reduceCtorEq, exists_eq_left', exists_eq_left, false_and, and_false, true_and, and_true, exists_false, or_false, false_or, exists_and_left, exists_eq', exists_and_right, List.cons.injEq, and_assoc, dec_not, dec_yes, t_t, t_f, f_t, f_f, true_implies, false_implies, implies_true, and_self])
/-! ### the shares are a target -/
def tgt (rows : List Row) (t : Rat) (i : Nat) : Rat := szQ (rowAt rows i) t
theorem range_rows {rows : List Row} : (List.range rows.length).map (rowAt rows) = rows := by
  refine List.ext_getElem (by simp) fun i h1 h2 => ?_
  rw [List.getElem_map, List.getElem_range]
  unfold rowAt
  rw [List.getD_eq_getElem?_getD, List.getElem?_eq_getElem h2]
  rfl
theorem tgt_map {rows : List Row} {t : Rat} : (List.range rows.length).map (tgt rows t) = rows.map fun r => szQ r t := by
  rw [show (tgt rows t) = (fun r => szQ r t) ∘ rowAt rows from rfl, ← List.map_map, range_rows]
theorem tgt_sum {rows : List Row} {t : Rat} : sumQ 0 ((List.range rows.length).map (tgt rows t)) = SQ rows t := by rw [tgt_map]; rfl
theorem sz_zero {r : Row} : szQ r 0 = ((ownI r : Int) : Rat) := by
  rw [← szQ_own]
  unfold szQ vQ
  congr 1
  rw [Rat.zero_mul, Rat.add_zero]
theorem SQ_zero {rows : List Row} : SQ rows 0 = (((rows.map ownI).sum : Int) : Rat) := sumQ_eq fun r _ => sz_zero
theorem new_sz {r : Row} {up : Bool} {t : Rat} (h : (up = true ∧ 0 ≤ t) ∨ (up = false ∧ t < 0)) : newS r up t = szQ r t := by
  have e : wgI r up = wtI r t := by
    unfold wgI wtI
    rcases h with ⟨rfl, h⟩ | ⟨rfl, h⟩
    · rw [if_pos rfl, if_pos h]
    · rw [if_neg (by decide), if_neg (by grind)]
  unfold newS szQ dueR vQ
  rw [e]
theorem own_fz {r : Row} (hr : r.Ok) {up : Bool} {t : Rat} (h : (up = true ∧ 0 ≤ t) ∨ (up = false ∧ t ≤ 0)) (q : fz0 r up = true) : newS r up t = ((ownI r : Int) : Rat) := by
  rw [← szQ_own]
  unfold newS dueR
  unfold fz0 at q
  have g : (0 : Rat) ≤ (wgI r up : Rat) := by
    unfold wgI
    split
    · exact Rat.intCast_nonneg.mpr hr.g0
    · exact Rat.intCast_nonneg.mpr hr.s0
  rcases Bool.or_eq_true_iff.mp q with q | q
  · have : wgI r up = 0 := by simpa using q
    rw [this]
    congr 1
    grind
  · rcases h with ⟨rfl, h⟩ | ⟨rfl, h⟩
    · rw [if_pos rfl] at q
      have p := Rat.mul_nonneg h g
      cases e : r.m with
      | none => rw [e] at q; cases q
      | some m =>
        rw [e] at q
        have q : (m : Rat) < (r.w : Rat) := Rat.intCast_lt_intCast.mpr (of_decide_eq_true q)
        have lm := hr.rng.lm m e
        rw [limQ_at_m q lm, limQ_at_m (by grind) lm]
    · rw [if_neg (by decide)] at q
      have q : (r.w : Rat) < (r.l : Rat) := Rat.intCast_lt_intCast.mpr (of_decide_eq_true q)
      have p := Rat.mul_nonneg (by grind : (0 : Rat) ≤ -t) g
      rw [limQ_at_l q, limQ_at_l (by grind)]
theorem fz_hi {r : Row} (hr : r.Ok) (q : fz0 r true = false) : highO r = r.m := by
  unfold fz0 at q
  have h := (Bool.or_eq_false_iff.mp q).1
  have g0 := hr.g0
  have : r.g ≠ 0 := by
    have : wgI r true = r.g := if_pos rfl
    rw [this] at h
    simpa using h
  unfold highO
  rw [if_pos (by omega)]
theorem fz_lo {r : Row} (hr : r.Ok) (q : fz0 r false = false) : lowI r = r.l := by
  unfold fz0 at q
  have h := (Bool.or_eq_false_iff.mp q).1
  have g0 := hr.s0
  have : r.s ≠ 0 := by
    have : wgI r false = r.s := if_neg (by decide)
    rw [this] at h
    simpa using h
  unfold lowI
  rw [if_pos (by omega)]
theorem fz_hi1 {r : Row} (hr : r.Ok) (q : fz0 r true = true) : highO r = some (ownI r) := by
  unfold highO
  by_cases g : 0 < r.g
  · rw [if_pos g]
    unfold fz0 at q
    rcases Bool.or_eq_true_iff.mp q with q | q
    · have : wgI r true = r.g := if_pos rfl
      rw [this] at q
      have : r.g = 0 := by simpa using q
      omega
    · rw [if_pos rfl] at q
      cases e : r.m with
      | none => rw [e] at q; cases q
      | some m =>
        rw [e] at q
        have q : m < r.w := of_decide_eq_true q
        have lm := (hr.m0 m e).1
        congr 1
        unfold ownI lim
        rw [e]
        rw [if_neg (by omega)]
        simp only
        rw [if_pos q]
  · rw [if_neg g]
theorem fz_lo1 {r : Row} (hr : r.Ok) (q : fz0 r false = true) : lowI r = ownI r := by
  unfold lowI
  by_cases g : 0 < r.s
  · rw [if_pos g]
    unfold fz0 at q
    rcases Bool.or_eq_true_iff.mp q with q | q
    · have : wgI r false = r.s := if_neg (by decide)
      rw [this] at q
      have : r.s = 0 := by simpa using q
      omega
    · rw [if_neg (by decide)] at q
      have q : r.w < r.l := of_decide_eq_true q
      unfold ownI lim
      rw [if_pos q]
  · rw [if_neg g]
theorem tgt_ok {rows : List Row} (hr : ∀ r ∈ rows, r.Ok) {W t : Rat} (ht : Shr rows W t) : Tgt rows W (growsB rows W) (tgt rows t) := by
  have ok : ∀ i, i < rows.length → (rowAt rows i).Ok := fun i hi => hr _ (rowAt_mem hi)
  have low0 : ((lowS rows : Int) : Rat) ≤ SQ rows 0 := SQ_ge hr
  have z := SQ_zero (rows := rows)
  by_cases hup : (((rows.map ownI).sum : Int) : Rat) ≤ W
  · have eu : growsB rows W = true := by unfold growsB; exact decide_eq_true hup
    rw [eu]
    by_cases hH : ∃ H, sumO (rows.map highO) = some H ∧ (H : Rat) < W
    · obtain ⟨H, e, hlt⟩ := hH
      have sz := ht.hi (by
        have := SQ_le hr (t := 0) e
        grind) H e (Rat.le_of_lt hlt)
      have sq : SQ rows t = (H : Rat) := by
        rcases sumO_cases highO rows with ⟨_, q⟩ | ⟨_, ns, q1, q2⟩
        · rw [e] at q; cases q
        · have : ∀ r ∈ rows, ∃ i, highO r = some i := fun r hm => by
            have : highO r ∈ ns.map some := q1 ▸ List.mem_map.mpr ⟨r, hm, rfl⟩
            obtain ⟨i, _, e⟩ := List.mem_map.mp this
            exact ⟨i, e.symm⟩
          rw [e] at q2
          cases q2
          have e2 : rows.map (fun r => (highO r).getD 0) = ns := by
            rw [show (fun r => (highO r).getD 0) = (fun o : Option Int => o.getD 0) ∘ highO from rfl, ← List.map_map, q1, List.map_map]
            exact (List.map_congr_left fun i _ => rfl).trans (List.map_id _)
          rw [← e2]
          refine sumQ_eq fun r hm => ?_
          obtain ⟨i, hi⟩ := this r hm
          rw [sz r hm i hi, hi]
          rfl
      refine ⟨fun i hi q => sz _ (rowAt_mem hi) _ (fz_hi1 (ok i hi) q), .inr (.inl ⟨fun i hi q => ?_, by rw [tgt_sum, sq]; exact hlt⟩)⟩
      have e1 := fz_hi (ok i hi) q
      rcases sumO_cases highO rows with ⟨_, q⟩ | ⟨_, ns, q1, q2⟩
      · rw [e] at q; cases q
      · have : highO (rowAt rows i) ∈ ns.map some := q1 ▸ List.mem_map.mpr ⟨_, rowAt_mem hi, rfl⟩
        obtain ⟨m, _, e3⟩ := List.mem_map.mp this
        refine ⟨m, by rw [← e1]; exact e3.symm, sz _ (rowAt_mem hi) _ e3.symm⟩
    · have sq : SQ rows t = W := ht.mid (by grind) fun H e => by
        have := mt (fun q => ⟨H, e, q⟩) hH
        grind
      have : ∃ u, 0 ≤ u ∧ ∀ r ∈ rows, szQ r t = szQ r u := by
        by_cases h0 : 0 ≤ t
        · exact ⟨t, h0, fun _ _ => rfl⟩
        · have q : t ≤ 0 := by grind
          have m := SQ_mono hr q
          exact ⟨0, Rat.le_refl, SQ_inj hr q (by grind)⟩
      obtain ⟨u, hu, hs⟩ := this
      have e : ∀ i, i < rows.length → tgt rows t i = newS (rowAt rows i) true u := fun i hi => by
        rw [new_sz (.inl ⟨rfl, hu⟩)]
        exact hs _ (rowAt_mem hi)
      exact ⟨fun i hi q => by rw [e i hi]; exact own_fz (ok i hi) (.inl ⟨rfl, hu⟩) q, .inl ⟨u, e, by rw [tgt_sum, sq]⟩⟩
  · have eu : growsB rows W = false := by unfold growsB; exact decide_eq_false hup
    rw [eu]
    by_cases hL : W < ((lowS rows : Int) : Rat)
    · have sz := ht.lo (Rat.le_of_lt hL)
      have sq : SQ rows t = ((lowS rows : Int) : Rat) := sumQ_eq sz
      exact ⟨fun i hi q => by rw [← fz_lo1 (ok i hi) q]; exact sz _ (rowAt_mem hi), .inr (.inr ⟨fun i hi q => by rw [← fz_lo (ok i hi) q]; exact sz _ (rowAt_mem hi), by rw [tgt_sum, sq]; exact hL⟩)⟩
    · have sq : SQ rows t = W := ht.mid (by grind) fun H e => by
        have := SQ_le hr (t := 0) e
        grind
      have t0 : t < 0 := by
        rcases (by grind : t < 0 ∨ 0 ≤ t) with h | h
        · exact h
        · have := SQ_mono hr h
          grind
      have e : ∀ i, i < rows.length → tgt rows t i = newS (rowAt rows i) false t := fun i hi => by
        rw [new_sz (.inr ⟨rfl, t0⟩)]
        rfl
      exact ⟨fun i hi q => by rw [e i hi]; exact own_fz (ok i hi) (.inr ⟨rfl, Rat.le_of_lt t0⟩) q, .inl ⟨t, e, by rw [tgt_sum, sq]⟩⟩
theorem Good.first {rows : List Row} {W : Rat} {up : Bool} {τ : Nat → Rat} (T : Tgt rows W up τ) : Good τ (f0L rows up) := fun p hp => by
  obtain ⟨i, hi, rfl⟩ := List.mem_map.mp hp
  have := List.mem_filter.mp hi
  exact (T.own i (List.mem_range.mp this.1) this.2).symm
theorem Good.next {rows : List Row} {W : Rat} {up : Bool} {τ : Nat → Rat} (hr : ∀ r ∈ rows, r.Ok) (T : Tgt rows W up τ) {f : Fz} (iv : Iv rows up f) (g : Good τ f) : Good τ (f ++ nxt rows W up f) := fun p hp => by
  rcases List.mem_append.mp hp with hp | hp
  · exact g p hp
  · obtain ⟨i, hi, rfl⟩ := List.mem_map.mp hp
    exact pick_good hr T iv g i hi
end Bx

namespace Bx
open PySem PySem.Spec PyProof.Rows L2 Z
local macro_rules | `(tactic| walk_at "zz") => `(tactic| simp only [zSeq, zAsg, zRet, zRetN, zIfS, zNext, zDrop, zPar, zVar, zC, zOp, zUn, zNeg, zI0, zI, zTest, zAnd, zOr, zNot, zAndV, zOrV, zNotV, zIf, zNil, zCons, zTup, zLst, zLstC, zgName, zgTup, zgCons, zgNil, zgSub, startZ, zCall, zCB, zChain, zIsN, zNotN, zNever,
  zAddA, zMulA, zRepeat, zCat, zIx, seqD, lstD, zMax2, zMin2, zAbs, zLen, zSum, zGcd, zInt, zYes, zBreak, zCont, zLc, ziR1, ziR2, ziList, ziTup, ziZip, ziEnum, wipeZ, zFor,
  at0, at1, at2, at3, at4, ix2_3, ix0_3, isNon_int, isNon_non, Bool.not_true, Bool.not_false,
  List.map_cons, List.map_nil, List.length_cons, List.length_nil, List.replicate_succ, List.replicate_zero, List.append_nil, List.nil_append, List.cons_append, List.getElem?_cons_zero, List.getElem?_cons_succ, List.set_cons_zero, List.set_cons_succ,
  Option.some.injEq, D.int.injEq, D.bl.injEq, D.tup.injEq, D.lst.injEq, D.str.injEq, D.cell.injEq, O.lst.injEq, reduceCtorEq, exists_eq_left', exists_eq_left, false_and, and_false, true_and, and_true, exists_false, or_false, false_or, exists_and_left, exists_eq', exists_and_right, List.cons.injEq, and_assoc, dec_not, dec_yes, t_t, t_f, f_t, f_f, true_implies, false_implies, implies_true, and_self, Nat.reduceAdd, Nat.reduceLeDiff, Nat.reduceSub, Nat.reduceLT])
local macro_rules | `(tactic| walk_at "zy") => `(tactic| try simp only [Option.some.injEq, D.int.injEq, D.bl.injEq, D.tup.injEq, D.lst.injEq, D.str.injEq, D.cell.injEq, O.lst.injEq, reduceCtorEq, exists_eq_left', exists_eq_left, false_and, and_false, true_and, and_true, exists_false, or_false, false_or, exists_and_left, exists_eq', exists_and_right, List.cons.injEq, and_assoc, dec_not, dec_yes, t_t, t_f, f_t, f_f, true_implies, false_implies, implies_true, and_self])
section
variable {K : PySem.W.Frag} {C : CI} {Δ : Store} {P : D → Store → Prop}
theorem enum_rows {rows : List Row} : enumD (rows.map rowD) = (List.range rows.length).map fun i => D.tup [.int (i : Nat), rowD (rowAt rows i)] := by
  unfold enumD
  apply List.ext_getElem?
  intro j
  rw [List.getElem?_map, List.getElem?_zipIdx, List.getElem?_map, List.getElem?_map]
  by_cases h : j < rows.length
  · rw [List.getElem?_eq_getElem h, List.getElem?_range h]
    simp only [Option.map_some]
    unfold rowAt
    rw [List.getD_eq_getElem?_getD, List.getElem?_eq_getElem h]
    simp
  · rw [List.getElem?_eq_none (by omega), List.getElem?_eq_none (by rw [List.length_range]; omega)]
    rfl
def f0k (rows : List Row) (up : Bool) (k : Nat) : Fz := ((List.range k).filter fun i => fz0 (rowAt rows i) up).map fun i => (i, ((ownI (rowAt rows i) : Int) : Rat))
theorem f0k_succ {rows : List Row} {up : Bool} {k : Nat} : f0k rows up (k + 1) = f0k rows up k ++ (if fz0 (rowAt rows k) up = true then [(k, ((ownI (rowAt rows k) : Int) : Rat))] else []) := by
  unfold f0k
  rw [List.range_succ, List.filter_append, List.map_append]
  congr 1
  by_cases h : fz0 (rowAt rows k) up = true
  · rw [if_pos h, List.filter_cons_of_pos (by exact h)]; rfl
  · rw [if_neg h, List.filter_cons_of_neg (by exact h)]; rfl
theorem f0k_lt {rows : List Row} {up : Bool} {k : Nat} : ∀ p ∈ f0k rows up k, p.1 < k := fun p hp => by
  obtain ⟨i, hi, rfl⟩ := List.mem_map.mp hp
  exact List.mem_range.mp (List.mem_filter.mp hi).1
theorem fzD_app (f g : Fz) : fzD (f ++ g) = fzD f ++ fzD g := by unfold fzD; rw [List.map_append]
theorem fzD_len (f : Fz) : (fzD f).length = f.length := by unfold fzD; rw [List.length_map]
theorem lbegin_ok {rows : List Row} (hl : rows.length ≤ 40) (hr : ∀ r ∈ rows, r.Ok) {W : Rat} {N M : Nat} (hW : Sz W N M) (hN0 : 110 ≤ N) (hN : N ≤ 3900) (hM : M ≤ 3900) (h : P (.tup [.bl (growsB rows W), .cell Δ.length]) (Δ ++ [dctO (fzD (f0L rows (growsB rows W)))])) : W__law_begin K C [.lst (rows.map rowD), frD W] Δ P := by
  unfold W__law_begin z__law_begin
  refine ⟨rfl, seq_cut fun rest hr' => ?_⟩
  walk_at "zz"
  refine comp_map (g := rowD) (f := fun r => .int (ownI r)) rows [] (by simp; omega) (fun r hm Q q => ?_) ?_
  · walk_at "zz"
    exact lown_ok (hr r hm) q
  rw [List.nil_append]
  refine ⟨rows.map ownI, by rw [List.map_map]; rfl, ?_⟩
  refine lord_ok (y := (((rows.map ownI).sum : Int) : Rat)) hW ((own33 hl hr).mono hN0 (Nat.zero_le _)) hN hM ⟨_, rfl, ?_⟩
  rw [decide_eq_decide.mpr ord_ge]
  show rest [some (.lst (rows.map rowD)), some (frD W), some (.bl (growsB rows W)), none, none, none, none] Δ
  generalize growsB rows W = up at *
  subst hr'
  refine seq_cut fun rest hr' => ?_
  unfold zDNewC
  walk_at "zz"
  subst hr'
  refine seq_cut fun rest hr' => ?_
  refine for_cut fun body hB => ?_
  unfold ziEnum
  walk_at "zz"
  rw [enum_rows]
  refine loop_inv (fun k Γ E => ∃ u4 u5 u6, E = Δ ++ [dctO (fzD (f0k rows up k))] ∧ Γ = [some (.lst (rows.map rowD)), some (frD W), some (.bl up), some (.cell Δ.length), u4, u5, u6]) _ 0 _ _ ⟨none, none, none, rfl, rfl⟩ ?_ ?_
  · rintro k x Γ E Ze hx ⟨u4, u5, u6, rfl, rfl⟩ hnx _ _ _
    rw [Nat.zero_add] at *
    have hk : k < rows.length := by
      have := (List.getElem?_eq_some_iff.mp hx).1
      rw [List.length_map, List.length_range] at this
      exact this
    have ex : x = D.tup [.int (k : Nat), rowD (rowAt rows k)] := by
      rw [List.getElem?_map, List.getElem?_range hk] at hx
      exact (Option.some.inj hx).symm
    subst ex
    have ok := hr _ (rowAt_mem hk)
    subst hB
    refine ⟨_, rfl, rfl, _, _, rfl, _, _, rfl, rfl, ?_⟩
    simp only [List.set_cons_succ, List.set_cons_zero]
    refine seq_cut fun rest2 hr2 => ?_
    have tail : ∀ wrong : Bool, fz0 (rowAt rows k) up = ((wgI (rowAt rows k) up == 0) || wrong) → rest2 [some (.lst (rows.map rowD)), some (frD W), some (.bl up), some (.cell Δ.length), some (.int (k : Nat)), some (rowD (rowAt rows k)), some (.bl wrong)] (Δ ++ [dctO (fzD (f0k rows up k))]) := fun wrong hw => by
      have g1 : ∀ o : O, (Δ ++ [o])[Δ.length]? = some o := fun o => by rw [List.getElem?_append_right (Nat.le_refl _), Nat.sub_self]; rfl
      subst hr2
      unfold rowD zDPut
      have put : fz0 (rowAt rows k) up = true → W__law_own K C [rowD (rowAt rows k)] (Δ ++ [dctO (fzD (f0k rows up k))]) fun d Δ1 => ∃ x, dctOf Δ1 (.cell Δ.length) = some x ∧ x.length < 100000 ∧ Ze.nx [some (.lst (rows.map rowD)), some (frD W), some (.bl up), some (.cell Δ.length), some (.int (k : Nat)), some (rowD (rowAt rows k)), some (.bl wrong)] (Δ1.set Δ.length (dctO (putI (k : Nat) (.tup [d, .int 1]) x))) := fun hz => by
        refine lown_ok ok ⟨_, dctOf_cell (g1 _), ?_, ?_⟩
        · rw [fzD_len]
          have : (f0k rows up k).length ≤ k := by
            unfold f0k
            rw [List.length_map]
            exact Nat.le_trans (List.length_filter_le _ _) (Nat.le_of_eq List.length_range)
          omega
        · rw [putI_new (fun p hp => by
            obtain ⟨p', hp', rfl⟩ := List.mem_map.mp hp
            have := f0k_lt p' hp'
            show ((p'.1 : Nat) : Int) ≠ _
            omega), List.set_append_right _ _ (Nat.le_refl _), Nat.sub_self]
          refine hnx _ _ ⟨_, _, _, ?_, rfl⟩
          rw [f0k_succ, if_pos hz, fzD_app]
          rfl
      have skip : fz0 (rowAt rows k) up = false → Ze.nx [some (.lst (rows.map rowD)), some (frD W), some (.bl up), some (.cell Δ.length), some (.int (k : Nat)), some (rowD (rowAt rows k)), some (.bl wrong)] (Δ ++ [dctO (fzD (f0k rows up k))]) := fun hz => by
        refine hnx _ _ ⟨_, _, _, ?_, rfl⟩
        rw [f0k_succ, if_neg (by rw [hz]; decide), List.append_nil]
      unfold rowD at put skip
      walk_at "zz"
      have done : ∀ g : Int, g = wgI (rowAt rows k) up → ∀ c : Bool, c = (g == 0) → (c = true → fz0 (rowAt rows k) up = true) ∧ (c = false → (wrong = true → fz0 (rowAt rows k) up = true) ∧ (wrong = false → fz0 (rowAt rows k) up = false)) := fun g hg c hc => by
        rw [hw, ← hg, ← hc]
        cases c <;> cases wrong <;> simp
      refine ⟨fun u => eqI ⟨_, rfl, ?_⟩, fun u => eqI ⟨_, rfl, ?_⟩⟩
      · have d := done (rowAt rows k).g (by unfold wgI; rw [if_pos u]) _ rfl
        exact ⟨fun c => put (d.1 c), fun c => ⟨fun c2 => put ((d.2 c).1 c2), fun c2 => skip ((d.2 c).2 c2)⟩⟩
      · have d := done (rowAt rows k).s (by unfold wgI; rw [if_neg (by rw [u]; decide)]) _ rfl
        exact ⟨fun c => put (d.1 c), fun c => ⟨fun c2 => put ((d.2 c).1 c2), fun c2 => skip ((d.2 c).2 c2)⟩⟩
    unfold rowD
    walk_at "zz"
    refine ⟨fun u => ⟨fun z => ?_, fun z => ?_⟩, fun u => ?_⟩
    · cases hm : (rowAt rows k).m with
      | none => rw [hm] at z; exact absurd z (by decide)
      | some m =>
        refine ⟨m, rfl, ?_⟩
        have := tail (decide (m < (rowAt rows k).w)) (by unfold fz0; rw [if_pos u, hm])
        unfold rowD at this
        rw [hm] at this
        exact this
    · refine tail false (by
        unfold fz0
        rw [if_pos u]
        cases hm : (rowAt rows k).m with
        | none => rfl
        | some m => rw [hm] at z; exact absurd (show true = false from z) (by decide))
    · exact tail _ (by unfold fz0; rw [if_neg (by rw [u]; decide)])
  · rintro Γ E ⟨u4, u5, u6, rfl, rfl⟩
    show rest _ _
    subst hr'
    rw [Nat.zero_add, List.length_map, List.length_range]
    walk_at "zz"
    exact h
end
end Bx

namespace Bx
open PySem PySem.Spec PyProof.Rows L2 Z
local macro_rules | `(tactic| walk_at "zz") => `(tactic| simp only [zSeq, zAsg, zRet, zRetN, zIfS, zNext, zDrop, zPar, zVar, zC, zOp, zUn, zNeg, zI0, zI, zTest, zAnd, zOr, zNot, zAndV, zOrV, zNotV, zIf, zNil, zCons, zTup, zLst, zLstC, zgName, zgTup, zgCons, zgNil, zgSub, startZ, zCall, zCB, zChain, zIsN, zNotN, zNever,
  zAddA, zMulA, zRepeat, zCat, zIx, seqD, lstD, zMax2, zMin2, zAbs, zLen, zSum, zGcd, zInt, zYes, zBreak, zCont, zLc, ziR1, ziR2, ziList, ziTup, ziZip, ziEnum, wipeZ, zFor,
  at0, at1, at2, at3, at4, ix2_3, ix0_3, isNon_int, isNon_non, Bool.not_true, Bool.not_false,
  List.map_cons, List.map_nil, List.length_cons, List.length_nil, List.replicate_succ, List.replicate_zero, List.append_nil, List.nil_append, List.cons_append, List.getElem?_cons_zero, List.getElem?_cons_succ, List.set_cons_zero, List.set_cons_succ,
  Option.some.injEq, D.int.injEq, D.bl.injEq, D.tup.injEq, D.lst.injEq, D.str.injEq, D.cell.injEq, O.lst.injEq, reduceCtorEq, exists_eq_left', exists_eq_left, false_and, and_false, true_and, and_true, exists_false, or_false, false_or, exists_and_left, exists_eq', exists_and_right, List.cons.injEq, and_assoc, dec_not, dec_yes, t_t, t_f, f_t, f_f, true_implies, false_implies, implies_true, and_self, Nat.reduceAdd, Nat.reduceLeDiff, Nat.reduceSub, Nat.reduceLT])
local macro_rules | `(tactic| walk_at "zy") => `(tactic| try simp only [Option.some.injEq, D.int.injEq, D.bl.injEq, D.tup.injEq, D.lst.injEq, D.str.injEq, D.cell.injEq, O.lst.injEq, reduceCtorEq, exists_eq_left', exists_eq_left, false_and, and_false, true_and, and_true, exists_false, or_false, false_or, exists_and_left, exists_eq', exists_and_right, List.cons.injEq, and_assoc, dec_not, dec_yes, t_t, t_f, f_t, f_f, true_implies, false_implies, implies_true, and_self])
def valF (f : Fz) (i : Nat) : Rat := (f.lookup i).getD 0
theorem good_val : ∀ {f : Fz}, (f.map (·.1)).Nodup → ∀ p ∈ f, p.2 = valF f p.1
  | q :: f, nd, p, hp => by
    rw [List.map_cons, List.nodup_cons] at nd
    rcases List.mem_cons.mp hp with rfl | hp
    · show _ = (((p.1, p.2) :: f).lookup p.1).getD 0
      rw [List.lookup_cons_self]
      rfl
    · have ne : p.1 ≠ q.1 := fun e => nd.1 (e ▸ List.mem_map.mpr ⟨p, hp, rfl⟩)
      have ih := good_val nd.2 p hp
      unfold valF
      rw [List.lookup_cons]
      have e : (p.1 == q.1) = false := by simpa using ne
      rw [e]
      exact ih
theorem fz_ix {f : Fz} {v : Nat → Rat} (h : ∀ p ∈ f, p.2 = v p.1) : fzD f = (f.map (·.1)).map fun i => (((i : Nat) : Int), frD (v i)) := by
  unfold fzD
  rw [List.map_map]
  exact List.map_congr_left fun p hp => by rw [h p hp]; rfl
theorem sum_ix {f : Fz} {v : Nat → Rat} (h : ∀ p ∈ f, p.2 = v p.1) : sumF f = sumQ 0 ((f.map (·.1)).map v) := by
  unfold sumF
  rw [List.map_map]
  congr 1
  exact List.map_congr_left fun p hp => h p hp
theorem sum_szG {a b : Nat} : ∀ (xs : List Rat), (∀ x ∈ xs, Sz x a b) → ∀ k, k ≤ xs.length → Sz (sumQ 0 (xs.take k)) (a + k * (b + 1)) (k * b)
  | xs, h, 0, _ => by
    rw [List.take_zero, Nat.zero_mul, Nat.zero_mul]
    show Sz 0 _ _
    exact ⟨Nat.pow_pos (by decide), Nat.le_refl _⟩
  | xs, h, k + 1, hk => by
    have ih := sum_szG xs h k (by omega)
    rw [List.take_succ, List.getElem?_eq_getElem (by omega)]
    show Sz (sumQ 0 (_ ++ [xs[k]])) _ _
    rw [sumQ_snoc]
    have := sz_add ih (h xs[k] (List.getElem_mem _)) (N := a + (k + 1) * (b + 1)) (by rw [Nat.succ_mul]; omega) (by rw [Nat.succ_mul, Nat.mul_succ]; omega)
    refine this.mono (Nat.le_refl _) ?_
    rw [Nat.succ_mul]
    exact Nat.le_refl _
theorem psi_mul {x : Rat} {k : Int} : Rat.divInt (x.num * k) (x.den : Int) = x * (k : Rat) := by
  have hd : ((x.den : Int) : Rat) ≠ 0 := Rat.ne_of_gt (Rat.intCast_pos.mpr (dpos x))
  have e : (x.num : Rat) / ((x.den : Int) : Rat) = x := by rw [← divQ]; exact Rat.num_divInt_den x
  rw [divQ, Rat.intCast_mul]
  generalize ((x.den : Int) : Rat) = d at *
  generalize (x.num : Rat) = n at *
  rw [← e]
  grind
theorem part_div {x : Rat} {g k : Int} (hk : 0 < k) : Rat.divInt (x.num * g) ((x.den : Int) * k) = x / (k : Rat) * (g : Rat) := by
  have hd : ((x.den : Int) : Rat) ≠ 0 := Rat.ne_of_gt (Rat.intCast_pos.mpr (dpos x))
  have hq : (k : Rat) ≠ 0 := Rat.ne_of_gt (Rat.intCast_pos.mpr hk)
  have e : (x.num : Rat) / ((x.den : Int) : Rat) = x := by rw [← divQ]; exact Rat.num_divInt_den x
  rw [divQ, Rat.intCast_mul, Rat.intCast_mul]
  generalize ((x.den : Int) : Rat) = d at *
  generalize (x.num : Rat) = n at *
  generalize (k : Rat) = k at *
  rw [← e]
  grind
theorem mul_sz {x : Rat} {k : Int} {N M : Nat} (hx : Sz x N M) (hk : k.natAbs < 2 ^ 30) : Sz (x * (k : Rat)) (N + 30) M := by
  rw [← psi_mul]
  refine sz_div (by have := dpos x; omega) ?_ (by rw [den_abs]; exact hx.d)
  rw [Int.natAbs_mul, Nat.pow_add]
  exact Nat.mul_lt_mul'' hx.n hk
theorem row_at {rows : List Row} {i : Nat} (h : i < rows.length) : (rows.map rowD)[i]? = some (rowD (rowAt rows i)) := by
  unfold rowAt
  rw [List.getElem?_map, List.getD_eq_getElem?_getD, List.getElem?_eq_getElem h]
  rfl
theorem due_szR {r : Row} (hr : r.Ok) {up : Bool} {lv : Rat} {N M : Nat} (h : Sz lv N M) (h1 : M + 111 ≤ N + 31) : Sz (dueR r up lv) (N + 31) M := by
  have g : (wgI r up).natAbs < 2 ^ 30 := by
    unfold wgI
    split
    · exact Nat.lt_trans (sm6 hr.g0 hr.g1 (Nat.le_refl _)) (by decide)
    · exact Nat.lt_trans (sm6 hr.s0 hr.s1 (Nat.le_refl _)) (by decide)
  unfold dueR
  have s1 : Sz (r.w : Rat) 110 0 := int_sz _ (natAbs_lt hr.w0 (Int.lt_of_le_of_lt hr.w1 (by decide)))
  have := sz_add s1 (mul_sz h g) (N := N + 31) (by omega) (by omega)
  rw [Nat.zero_add] at this
  exact this
theorem new_szR {r : Row} (hr : r.Ok) {up : Bool} {lv : Rat} {N M : Nat} (h : Sz (dueR r up lv) N M) (h1 : 110 ≤ N) : Sz (newS r up lv) N M := by
  rcases limQ_cases (dueR r up lv) (r.l : Rat) r.m with e | e | ⟨i, hi, e⟩
  · show Sz (limQ _ _ _) _ _
    rw [e]; exact h
  · show Sz (limQ _ _ _) _ _
    rw [e]
    exact (int_sz _ (natAbs_lt hr.l0 (Int.lt_of_le_of_lt hr.l1 (by decide : (10:Int)^30 < ((2 ^ 110 : Nat) : Int))))).mono h1 (Nat.zero_le _)
  · show Sz (limQ _ _ _) _ _
    rw [e]
    have := hr.m0 i hi
    have l0 := hr.l0
    exact (int_sz _ (natAbs_lt (by omega) (Int.lt_of_le_of_lt this.2 (by decide : (10:Int)^30 < ((2 ^ 110 : Nat) : Int))))).mono h1 (Nat.zero_le _)
theorem diff_szR {r : Row} (hr : r.Ok) {up : Bool} {lv : Rat} {N M : Nat} (h : Sz (dueR r up lv) N M) (h1 : M + 110 ≤ N) : Sz (newS r up lv - dueR r up lv) (N + 1) M := by
  by_cases e : newS r up lv = dueR r up lv
  · rw [e, Rat.sub_self]
    exact ⟨Nat.pow_pos (by decide), Nat.pow_pos (by decide)⟩
  · obtain ⟨i, ei, i0, i1⟩ := clamped hr e
    rw [ei]
    have s1 : Sz (i : Rat) 110 0 := int_sz _ (natAbs_lt i0 (Int.lt_of_le_of_lt i1 (by decide)))
    have := sz_sub s1 h (N := N + 1) (by omega) (by omega)
    rw [Nat.zero_add] at this
    exact this
theorem fsW_sz {rows : List Row} (hr : ∀ r ∈ rows, r.Ok) {fr : List Nat} (hfr : ∀ i ∈ fr, i < rows.length) (hl : fr.length ≤ 40) : Sz ((fsW rows fr : Int) : Rat) 110 0 := by
  have := sum_bounds (fr.map fun i => (rowAt rows i).w) fun x hx => by
    obtain ⟨i, hi, rfl⟩ := List.mem_map.mp hx
    exact ⟨(hr _ (rowAt_mem (hfr i hi))).w0, (hr _ (rowAt_mem (hfr i hi))).w1⟩
  rw [List.length_map] at this
  have l2 : (fr.length : Int) * 10 ^ 30 ≤ 40 * 10 ^ 30 := Int.mul_le_mul_of_nonneg_right (by omega) (by decide)
  have wS : 0 ≤ fsW rows fr ∧ fsW rows fr ≤ 40 * 10 ^ 30 := by
    unfold fsW
    omega
  exact int_sz _ (natAbs_lt wS.1 (Int.lt_of_le_of_lt wS.2 (by decide)))
theorem fsG_lt {rows : List Row} (hr : ∀ r ∈ rows, r.Ok) {up : Bool} {fr : List Nat} (hfr : ∀ i ∈ fr, i < rows.length) (hl : fr.length ≤ 40) (hG : 0 < fsG rows up fr) : (fsG rows up fr).natAbs < 2 ^ 30 := by
  have : ∀ l : List Nat, (∀ i ∈ l, i ∈ fr) → fsG rows up l ≤ l.length * 10 ^ 6 := fun l => by
    induction l with
    | nil => intro _; simp [fsG]
    | cons i l ih =>
      intro hi
      have a := ih fun j hj => hi j (List.mem_cons_of_mem _ hj)
      have b : wgI (rowAt rows i) up ≤ 10 ^ 6 := by
        have := hr _ (rowAt_mem (hfr i (hi i List.mem_cons_self)))
        unfold wgI
        split
        · exact this.g1
        · exact this.s1
      have c : fsG rows up (i :: l) = wgI (rowAt rows i) up + fsG rows up l := by unfold fsG; rw [List.map_cons, List.sum_cons]
      rw [c, List.length_cons, Int.natCast_add, Int.add_mul]
      simp
      omega
  have := this fr fun _ h => h
  have l2 : (fr.length : Int) * 10 ^ 6 ≤ 40 * 10 ^ 6 := Int.mul_le_mul_of_nonneg_right (by omega) (by decide)
  exact natAbs_lt (by omega) (by omega)
theorem numP {x : Rat} : 0 < x.num ↔ 0 < x := by rw [← pos_div (dpos x), divInt_self]
theorem ord_szR {x y : Rat} {N M : Nat} (hx : Sz x N M) (hy : Sz y N M) : (x.num * (y.den : Int) - y.num * (x.den : Int)).natAbs < 2 ^ (N + M + 2) := by
  have a : (x.num * (y.den : Int)).natAbs < 2 ^ (N + (M + 1)) := by
    rw [Int.natAbs_mul, Nat.pow_add]
    exact Nat.mul_lt_mul'' hx.n hy.dl
  have b : (y.num * (x.den : Int)).natAbs < 2 ^ (N + (M + 1)) := by
    rw [Int.natAbs_mul, Nat.pow_add]
    exact Nat.mul_lt_mul'' hy.n hx.dl
  have c := Int.natAbs_sub_le (x.num * (y.den : Int)) (y.num * (x.den : Int))
  have e : 2 ^ (N + M + 2) = 2 ^ (N + (M + 1)) + 2 ^ (N + (M + 1)) := by
    rw [show N + M + 2 = (N + (M + 1)) + 1 by omega, Nat.pow_succ]
    omega
  omega
end Bx

namespace Bx
open PySem PySem.Spec PyProof.Rows L2 Z
local macro_rules | `(tactic| walk_at "zz") => `(tactic| simp only [zSeq, zAsg, zRet, zRetN, zIfS, zNext, zDrop, zPar, zVar, zC, zOp, zUn, zNeg, zI0, zI, zTest, zAnd, zOr, zNot, zAndV, zOrV, zNotV, zIf, zNil, zCons, zTup, zLst, zLstC, zgName, zgTup, zgCons, zgNil, zgSub, startZ, zCall, zCB, zChain, zIsN, zNotN, zNever,
  zAddA, zMulA, zRepeat, zCat, zIx, seqD, lstD, zMax2, zMin2, zAbs, zLen, zSum, zGcd, zInt, zYes, zBreak, zCont, zLc, ziR1, ziR2, ziList, ziTup, ziZip, ziEnum, wipeZ, zFor,
  at0, at1, at2, at3, at4, ix2_3, ix0_3, isNon_int, isNon_non, Bool.not_true, Bool.not_false,
  List.map_cons, List.map_nil, List.length_cons, List.length_nil, List.replicate_succ, List.replicate_zero, List.append_nil, List.nil_append, List.cons_append, List.getElem?_cons_zero, List.getElem?_cons_succ, List.set_cons_zero, List.set_cons_succ,
  Option.some.injEq, D.int.injEq, D.bl.injEq, D.tup.injEq, D.lst.injEq, D.str.injEq, D.cell.injEq, O.lst.injEq, reduceCtorEq, exists_eq_left', exists_eq_left, false_and, and_false, true_and, and_true, exists_false, or_false, false_or, exists_and_left, exists_eq', exists_and_right, List.cons.injEq, and_assoc, dec_not, dec_yes, t_t, t_f, f_t, f_f, true_implies, false_implies, implies_true, and_self, Nat.reduceAdd, Nat.reduceLeDiff, Nat.reduceSub, Nat.reduceLT])
local macro_rules | `(tactic| walk_at "zy") => `(tactic| try simp only [Option.some.injEq, D.int.injEq, D.bl.injEq, D.tup.injEq, D.lst.injEq, D.str.injEq, D.cell.injEq, O.lst.injEq, reduceCtorEq, exists_eq_left', exists_eq_left, false_and, and_false, true_and, and_true, exists_false, or_false, false_or, exists_and_left, exists_eq', exists_and_right, List.cons.injEq, and_assoc, dec_not, dec_yes, t_t, t_f, f_t, f_f, true_implies, false_implies, implies_true, and_self])
section
variable {K : PySem.W.Frag} {C : CI} {Δ : Store} {P : D → Store → Prop}
theorem lmay_ok {rows : List Row} {W : Rat} {up : Bool} {f : Fz} {N M : Nat} (h40 : rows.length ≤ 40) (hr : ∀ r ∈ rows, r.Ok) (nd : (f.map (·.1)).Nodup) (hf : IntF f) (hfl : f.length ≤ 40) (hW : Sz W N M) (hNM : M + 150 ≤ N) (hB : N + 40 * M ≤ 2500) (hG : 0 < fsG rows up (freeL rows f))
    (h : ∀ m Δ', dctOf Δ' (.cell m) = some (fzD (nxt rows W up f)) → P (.cell m) Δ') : W__law_may K C [.lst (rows.map rowD), .bl up, frD W, dctP (fzD f)] [] P := by
  have hok : ∀ i ∈ freeL rows f, (rowAt rows i).Ok := fun i hi => hr _ (rowAt_mem (free_lt hi))
  have fl := free_len (rows := rows) (f := f)
  have hN : N ≤ 2500 := by omega
  unfold W__law_may z__law_may
  refine ⟨rfl, ?_⟩
  refine seq_cut fun rest hr' => ?_
  walk_at "zz"
  rw [List.length_map, rangeD_nat]
  refine ⟨by omega, by omega, ?_⟩
  refine comp_fm (g := fun i : Nat => D.int ((i : Nat) : Int)) (f := fun i : Nat => D.int ((i : Nat) : Int)) (p := fun i => !hasK f i) (List.range rows.length) [] (by simp; omega) (fun i hi Q1 Q2 q1 q2 => ?_) ?_
  · walk_at "zz"
    refine ⟨_, _, dctOf_dat, rfl, ?_⟩
    rw [lookup_fz]
    exact ⟨_, rfl, fun q => q1 q, fun q => q2 q⟩
  rw [List.nil_append]
  have hfree : ((List.range rows.length).filter fun i => !hasK f i) = freeL rows f := rfl
  rw [hfree]
  have hlt : ∀ i ∈ freeL rows f, i < rows.length := fun i hi => free_lt hi
  have hlv : Sz (lvlR rows W up f) (N + 2) (M + 30) := lvl_sz hr (fun i hi => free_lt hi) (by omega) hf hfl hW hNM hG
  have elv : lvlR rows W up f = (W - sumF f - (fsW rows (freeL rows f) : Rat)) / (fsG rows up (freeL rows f) : Rat) := rfl
  have hnd := free_nd (rows := rows) (f := f)
  unfold nxt at h
  have sWs := fsW_sz hr hlt (by omega)
  generalize lvlR rows W up f = lv at *
  generalize freeL rows f = fr at *
  subst hr'
  refine seq_cut fun rest hr' => ?_
  walk_at "zz"
  refine comp_map (g := fun i : Nat => D.int ((i : Nat) : Int)) (f := fun i => .int (wgI (rowAt rows i) up)) fr [] (by simp; omega) (fun i hi Q q => ?_) ?_
  · walk_at "zz"
    refine ⟨_, atI_nat (row_at (hlt i hi)), fun u => ?_, fun u => ?_⟩
    · unfold rowD
      try walk_at "zz"
      unfold wgI at q
      rw [if_pos u] at q
      exact q
    · unfold rowD
      try walk_at "zz"
      unfold wgI at q
      rw [if_neg (by rw [u]; decide)] at q
      exact q
  rw [List.nil_append]
  refine ⟨fr.map fun i => wgI (rowAt rows i) up, by rw [List.map_map]; rfl, ?_⟩
  rw [show (fr.map fun i => wgI (rowAt rows i) up).sum = fsG rows up fr from rfl]
  subst hr'
  refine seq_cut fun rest hr' => ?_
  walk_at "zz"
  refine comp_map (g := fun i : Nat => D.int ((i : Nat) : Int)) (f := fun i => .int (rowAt rows i).w) fr [] (by simp; omega) (fun i hi Q q => ?_) ?_
  · walk_at "zz"
    refine ⟨_, atI_nat (row_at (hlt i hi)), ?_⟩
    unfold rowD
    walk_at "zz"
    exact q
  rw [List.nil_append]
  refine ⟨fr.map fun i => (rowAt rows i).w, by rw [List.map_map]; rfl, ?_⟩
  rw [show (fr.map fun i => (rowAt rows i).w).sum = fsW rows fr from rfl]
  refine lminus_ok (x := W) (y := ((fsW rows fr : Int) : Rat)) (N := N) (M := M) hW (sWs.mono (by omega) (Nat.zero_le _)) (by omega) (by omega) ?_
  have sR0 : Sz (W - (fsW rows fr : Rat)) (N + 1) M := sz_sub (M2 := 0) hW sWs (by omega) (by omega)
  subst hr'
  refine seq_cut fun rest hr' => ?_
  refine for_cut fun body hB' => ?_
  walk_at "zz"
  refine ⟨_, _, rfl, dctOf_dat, fun ys hp hs => ?_⟩
  refine .inl ⟨_, rfl, ?_⟩
  have hv := good_val nd
  generalize hvv : valF f = v at *
  rw [fzD_keys] at hp
  obtain ⟨ks, rfl, pk⟩ : ∃ ks : List Nat, ys = ks.map (fun i : Nat => ((i : Nat) : Int)) ∧ ks.Perm (f.map (·.1)) := by
    refine ⟨ys.map Int.toNat, ?_, ?_⟩
    · rw [List.map_map]
      refine ((List.map_congr_left fun y hy => ?_).trans (List.map_id _)).symm
      obtain ⟨i, _, e⟩ := List.mem_map.mp (hp.mem_iff.mp hy)
      show ((y.toNat : Nat) : Int) = y
      omega
    · have := hp.map Int.toNat
      rw [List.map_map] at this
      exact this.trans (List.Perm.of_eq ((List.map_congr_left fun i _ => Int.toNat_natCast i).trans (List.map_id _)))
  have hkf : ∀ i ∈ ks, ∃ p ∈ f, p.1 = i := fun i hi => by
    obtain ⟨p, hp, e⟩ := List.mem_map.mp (pk.mem_iff.mp hi)
    exact ⟨p, hp, e⟩
  have vint : ∀ i ∈ ks, ∃ z : Int, v i = (z : Rat) ∧ 0 ≤ z ∧ z ≤ 10 ^ 30 := fun i hi => by
    obtain ⟨p, hp, rfl⟩ := hkf i hi
    rw [← hv p hp]
    exact hf p hp
  have kl : ks.length = f.length := by rw [pk.length_eq, List.length_map]
  have tkS : ∀ k, Sz (sumQ 0 ((ks.take k).map v)) 110 0 := fun k => by
    obtain ⟨s, e, s0, s1⟩ := intF_sum ((ks.take k).map v) fun x hx => by
      obtain ⟨i, hi, rfl⟩ := List.mem_map.mp hx
      exact vint i (List.mem_of_mem_take hi)
    rw [List.length_map, List.length_take] at s1
    have : ((min k ks.length : Nat) : Int) * 10 ^ 30 ≤ 40 * 10 ^ 30 := Int.mul_le_mul_of_nonneg_right (by omega) (by decide)
    rw [e]
    exact int_sz _ (natAbs_lt s0 (Int.lt_of_le_of_lt s1 (Int.lt_of_le_of_lt this (by decide))))
  have look : ∀ i ∈ ks, (fzD f).lookup ((i : Nat) : Int) = some (frD (v i)) := fun i hi => by
    rw [fz_ix hv]
    exact lookup_map (k := fun i : Nat => ((i : Nat) : Int)) (fun a b h => by omega) (pk.mem_iff.mp hi)
  have eS : sumF f = sumQ 0 (ks.map v) := by rw [sum_ix hv]; exact (sumQ_perm (pk.map v)).symm
  generalize hR : W - (fsW rows fr : Rat) = R0 at *
  rw [List.map_map]
  refine loop_inv (fun k Γ E => ∃ u7, E = [] ∧ Γ = [some (.lst (rows.map rowD)), some (.bl up), some (frD W), some (dctP (fzD f)), some (.lst (fr.map fun i : Nat => D.int ((i : Nat) : Int))), some (.int (fsG rows up fr)), some (frD (R0 - sumQ 0 ((ks.take k).map v))), u7, none, none, none, none, none]) _ 0 _ _ ⟨none, rfl, by rw [List.take_zero, show R0 - sumQ 0 ((([] : List Nat)).map v) = R0 by show R0 - 0 = R0; grind]⟩ ?_ ?_
  · rintro k x Γ E Ze hx ⟨u7, rfl, rfl⟩ hnx _ _ _
    rw [Nat.zero_add] at *
    have hk : k < ks.length := by
      have := (List.getElem?_eq_some_iff.mp hx).1
      rw [List.length_map] at this
      exact this
    have ex : x = .int ((ks[k] : Nat) : Int) := by
      rw [List.getElem?_map, List.getElem?_eq_getElem hk] at hx
      exact (Option.some.inj hx).symm
    subst ex
    subst hB'
    simp only [zgName, List.set_cons_succ, List.set_cons_zero]
    have hm := List.getElem_mem hk
    unfold zDGet
    walk_at "zz"
    refine ⟨_, dctOf_dat, _, look _ hm, ?_⟩
    obtain ⟨z, ez, z0, z1⟩ := vint _ hm
    have sv : Sz (v ks[k]) 110 0 := by rw [ez]; exact int_sz _ (natAbs_lt z0 (Int.lt_of_le_of_lt z1 (by decide)))
    have s1 : Sz (R0 - sumQ 0 ((ks.take k).map v)) (N + 2) M := sz_sub (M2 := 0) sR0 (tkS k) (by omega) (by omega)
    refine lminus_ok s1 (sv.mono (by omega) (Nat.zero_le _)) (by omega) (by omega) ?_
    try walk_at "zz"
    refine hnx _ _ ⟨some (.int ((ks[k] : Nat) : Int)), rfl, ?_⟩
    rw [show R0 - sumQ 0 ((ks.take k).map v) - v ks[k] = R0 - sumQ 0 ((ks.take (k + 1)).map v) from ?_]
    rw [List.take_succ, List.getElem?_eq_getElem hk, List.map_append]
    show _ = R0 - sumQ 0 (_ ++ [v ks[k]])
    rw [sumQ_snoc]
    grind
  · rintro Γ E ⟨u7, rfl, rfl⟩
    rw [Nat.zero_add, List.length_map, List.take_of_length_le (Nat.le_refl _), ← eS]
    have sR : Sz (R0 - sumF f) (N + 2) M := by
      have := tkS ks.length
      rw [List.take_of_length_le (Nat.le_refl _), ← eS] at this
      exact sz_sub (M2 := 0) sR0 this (by omega) (by omega)
    have eR : (R0 - sumF f) / (fsG rows up fr : Rat) = lv := by
      rw [elv, ← hR]
      congr 1
      grind
    generalize R0 - sumF f = R at *
    show rest _ _
    subst hr'
    refine seq_cut fun rest hr' => ?_
    unfold zDNewC
    walk_at "zz"
    show rest [some (.lst (rows.map rowD)), some (.bl up), some (frD W), some (dctP (fzD f)), some (.lst (fr.map fun i : Nat => D.int ((i : Nat) : Int))), some (.int (fsG rows up fr)), some (frD R), u7, some (.cell 0), some (.cell 1), some (frD (sumQ 0 ((fr.take 0).map fun i => newS (rowAt rows i) up lv - dueR (rowAt rows i) up lv))), none, none] [dctO (ixD (fr.take 0) fun i => frD (dueR (rowAt rows i) up lv)), dctO (ixD (fr.take 0) fun i => frD (newS (rowAt rows i) up lv))]
    have sd : ∀ i ∈ fr, Sz (dueR (rowAt rows i) up lv) (N + 33) (M + 30) := fun i hi => due_szR (hok i hi) hlv (by omega)
    have sn : ∀ i ∈ fr, Sz (newS (rowAt rows i) up lv) (N + 33) (M + 30) := fun i hi => new_szR (hok i hi) (sd i hi) (by omega)
    have sx : ∀ i ∈ fr, Sz (newS (rowAt rows i) up lv - dueR (rowAt rows i) up lv) (N + 34) (M + 30) := fun i hi => diff_szR (hok i hi) (sd i hi) (by omega)
    have sE : ∀ k, Sz (sumQ 0 ((fr.take k).map fun i => newS (rowAt rows i) up lv - dueR (rowAt rows i) up lv)) 3900 3900 := fun k => by
      have := sum_szG (a := N + 34) (b := M + 30) ((fr.take k).map fun i => newS (rowAt rows i) up lv - dueR (rowAt rows i) up lv) (fun x hx => by
        obtain ⟨i, hi, rfl⟩ := List.mem_map.mp hx
        exact sx i (List.mem_of_mem_take hi)) _ (Nat.le_refl _)
      rw [List.take_of_length_le (Nat.le_refl _), List.length_map] at this
      have l40 : (fr.take k).length ≤ 40 := by rw [List.length_take]; omega
      have b1 : (fr.take k).length * (M + 30 + 1) ≤ 40 * (M + 30 + 1) := Nat.mul_le_mul_right _ l40
      have b2 : (fr.take k).length * (M + 30) ≤ 40 * (M + 30) := Nat.mul_le_mul_right _ l40
      exact this.mono (by omega) (by omega)
    subst hr'
    refine seq_cut fun rest hr' => ?_
    refine for_cut fun body hB2 => ?_
    walk_at "zz"
    refine loop_inv (fun k Γ E => ∃ u7 u11, E = [dctO (ixD (fr.take k) fun i => frD (dueR (rowAt rows i) up lv)), dctO (ixD (fr.take k) fun i => frD (newS (rowAt rows i) up lv))] ∧ Γ = [some (.lst (rows.map rowD)), some (.bl up), some (frD W), some (dctP (fzD f)), some (.lst (fr.map fun i : Nat => D.int ((i : Nat) : Int))), some (.int (fsG rows up fr)), some (frD R), u7, some (.cell 0), some (.cell 1), some (frD (sumQ 0 ((fr.take k).map fun i => newS (rowAt rows i) up lv - dueR (rowAt rows i) up lv))), u11, none]) _ 0 _ _ ⟨_, _, rfl, rfl⟩ ?_ ?_
    · rintro k x Γ E Ze hx ⟨u7, u11, rfl, rfl⟩ hnx _ _ _
      rw [Nat.zero_add] at *
      have hk : k < fr.length := by
        have := (List.getElem?_eq_some_iff.mp hx).1
        rw [List.length_map] at this
        exact this
      have ex : x = .int ((fr[k] : Nat) : Int) := by
        rw [List.getElem?_map, List.getElem?_eq_getElem hk] at hx
        exact (Option.some.inj hx).symm
      subst ex
      subst hB2
      simp only [zgName, List.set_cons_succ, List.set_cons_zero]
      have hm := List.getElem_mem hk
      have ok := hok fr[k] hm
      refine seq_cut fun rest2 hr2 => ?_
      walk_at "zz"
      refine ⟨_, atI_nat (row_at (hlt _ hm)), ?_⟩
      have tl : rest2 [some (.lst (rows.map rowD)), some (.bl up), some (frD W), some (dctP (fzD f)), some (.lst (fr.map fun i : Nat => D.int ((i : Nat) : Int))), some (.int (fsG rows up fr)), some (frD R), some (.int ((fr[k] : Nat) : Int)), some (.cell 0), some (.cell 1), some (frD (sumQ 0 ((fr.take k).map fun i => newS (rowAt rows i) up lv - dueR (rowAt rows i) up lv))), some (.int (wgI (rowAt rows fr[k]) up)), none] [dctO (ixD (fr.take k) fun i => frD (dueR (rowAt rows i) up lv)), dctO (ixD (fr.take k) fun i => frD (newS (rowAt rows i) up lv))] := by
        have g6 : (wgI (rowAt rows fr[k]) up).natAbs < 2 ^ 20 := by
          unfold wgI
          split
          · exact sm6 ok.g0 ok.g1 (Nat.le_refl _)
          · exact sm6 ok.s0 ok.s1 (Nat.le_refl _)
        have gA : (fsG rows up fr).natAbs < 2 ^ 30 := fsG_lt hr hlt (by omega) hG
        have sw : Sz ((rowAt rows fr[k]).w : Rat) 110 0 := int_sz _ (sm30 ok.w0 ok.w1 (by decide))
        subst hr2
        refine seq_cut fun rest2 hr2 => ?_
        unfold zDPut
        walk_at "zz"
        refine ⟨_, atI_nat (row_at (hlt _ hm)), _, rfl, _, rfl, _, rfl, _, rfl, _, rfl, mulW sR.n g6 (by omega) (by omega), _, rfl, _, rfl, _, rfl, mulW sR.dl gA (by omega) (by omega), ?_⟩
        have qd := dpos R
        have qp := Int.mul_pos qd hG
        refine ratio_ok (by omega) (by
          rw [Int.natAbs_mul]
          refine Nat.lt_of_lt_of_le (Nat.mul_lt_mul'' sR.dl gA) ?_
          rw [← Nat.pow_add]
          exact Nat.pow_le_pow_right (by decide) (by omega)) ?_
        rw [part_div hG, eR]
        refine ladd_ok (x := ((rowAt rows fr[k]).w : Rat)) (N := N + 33) (M := M + 30) (sw.mono (by omega) (Nat.zero_le _)) ((mul_sz hlv (Nat.lt_trans g6 (by decide))).mono (by omega) (Nat.le_refl _)) (by omega) (by omega) ?_
        have tm : fr[k] ∈ fr.take (k + 1) := by
          rw [List.take_succ, List.getElem?_eq_getElem hk]
          exact List.mem_append_right _ (List.mem_singleton.mpr rfl)
        have tl : ∀ j, j ≤ k + 1 → (ixD (fr.take j) fun i => frD (dueR (rowAt rows i) up lv)).length ≤ 41 ∧ (ixD (fr.take j) fun i => frD (newS (rowAt rows i) up lv)).length ≤ 41 := fun j _ => by
          unfold ixD
          rw [List.length_map, List.length_map, List.length_take]
          omega
        refine ⟨_, dctOf_cell rfl, Nat.lt_of_le_of_lt (tl k (by omega)).1 (by decide), ?_⟩
        have e1 : putI ((fr[k] : Nat) : Int) (frD (dueR (rowAt rows fr[k]) up lv)) (ixD (fr.take k) fun i => frD (dueR (rowAt rows i) up lv)) = ixD (fr.take (k + 1)) fun i => frD (dueR (rowAt rows i) up lv) := ixD_snoc (v := fun i => frD (dueR (rowAt rows i) up lv)) hnd hk
        have e2 : putI ((fr[k] : Nat) : Int) (frD (newS (rowAt rows fr[k]) up lv)) (ixD (fr.take k) fun i => frD (newS (rowAt rows i) up lv)) = ixD (fr.take (k + 1)) fun i => frD (newS (rowAt rows i) up lv) := ixD_snoc (v := fun i => frD (newS (rowAt rows i) up lv)) hnd hk
        show rest2 _ [dctO (putI ((fr[k] : Nat) : Int) (frD (dueR (rowAt rows fr[k]) up lv)) (ixD (fr.take k) fun i => frD (dueR (rowAt rows i) up lv))), _]
        rw [e1]
        subst hr2
        refine seq_cut fun rest2 hr2 => ?_
        unfold zDPut zDGet
        walk_at "zz"
        refine ⟨_, dctOf_cell rfl, _, ixD_get tm, _, atI_nat (row_at (hlt _ hm)), ?_⟩
        refine llimQ_ok ok (sd _ hm) (by omega) (by omega) (by omega) ?_
        refine ⟨_, dctOf_cell rfl, Nat.lt_of_le_of_lt (tl k (by omega)).2 (by decide), ?_⟩
        show rest2 _ [_, dctO (putI ((fr[k] : Nat) : Int) (frD (newS (rowAt rows fr[k]) up lv)) (ixD (fr.take k) fun i => frD (newS (rowAt rows i) up lv)))]
        rw [e2]
        subst hr2
        unfold zDGet
        walk_at "zz"
        refine ⟨_, dctOf_cell rfl, _, ixD_get tm, _, dctOf_cell rfl, _, ixD_get tm, ?_⟩
        refine lminus_ok (sn _ hm) (sd _ hm) (by omega) (by omega) ?_
        refine ladd_ok (N := 3900) (M := 3900) (sE k) ((sx _ hm).mono (by omega) (by omega)) (Nat.le_refl _) (Nat.le_refl _) ?_
        refine hnx _ _ ⟨some (.int ((fr[k] : Nat) : Int)), some (.int (wgI (rowAt rows fr[k]) up)), rfl, ?_⟩
        rw [show (fr.take (k + 1)).map (fun i => newS (rowAt rows i) up lv - dueR (rowAt rows i) up lv) = (fr.take k).map (fun i => newS (rowAt rows i) up lv - dueR (rowAt rows i) up lv) ++ [newS (rowAt rows fr[k]) up lv - dueR (rowAt rows fr[k]) up lv] from ?_, sumQ_snoc]
        rw [List.take_succ, List.getElem?_eq_getElem hk, List.map_append]
        rfl
      refine ⟨fun u => ⟨_, rfl, _, rfl, ?_⟩, fun u => ⟨_, rfl, _, rfl, ?_⟩⟩
      · unfold wgI at tl
        rw [if_pos u] at tl
        exact tl
      · unfold wgI at tl
        rw [if_neg (by rw [u]; decide)] at tl
        exact tl
    · rintro Γ E ⟨u7, u11, rfl, rfl⟩
      rw [Nat.zero_add, List.length_map, List.take_of_length_le (Nat.le_refl _)]
      have sE := sE fr.length
      rw [List.take_of_length_le (Nat.le_refl _)] at sE
      rw [show sumQ 0 (fr.map fun i => newS (rowAt rows i) up lv - dueR (rowAt rows i) up lv) = exc rows up lv fr from rfl] at *
      show rest _ _
      subst hr'
      refine seq_cut fun rest hr' => ?_
      walk_at "zz"
      refine ⟨_, rfl, _, rfl, eqI ⟨_, rfl, fun z => ?_, fun z => ?_⟩⟩
      · have z : (exc rows up lv fr).num = 0 := by simpa using z
        have z : exc rows up lv fr = 0 := Rat.num_eq_zero.mp z
        refine h 1 _ (dctOf_cell ?_)
        have e : pickL rows up lv fr = fr := by
          unfold pickL
          rw [if_neg (by rw [z]; exact Rat.lt_irrefl), if_neg (by rw [z]; exact Rat.lt_irrefl)]
        rw [e, fzD_map]
        rfl
      · have z : (exc rows up lv fr).num ≠ 0 := by simpa using z
        have ep : pickL rows up lv fr = fr.filter fun i => decide (0 < ((newS (rowAt rows i) up lv).num * ((dueR (rowAt rows i) up lv).den : Int) - (dueR (rowAt rows i) up lv).num * ((newS (rowAt rows i) up lv).den : Int)) * (exc rows up lv fr).num) := by
          unfold pickL
          by_cases q1 : 0 < exc rows up lv fr
          · have n1 : 0 < (exc rows up lv fr).num := numP.mpr q1
            rw [if_pos q1]
            refine List.filter_congr fun i _ => decide_eq_decide.mpr ?_
            rw [← ord_gt]
            constructor
            · exact fun q => Int.mul_pos q n1
            · exact fun q => Int.pos_of_mul_pos_left q n1
          · have q2 : exc rows up lv fr < 0 := by
              have : exc rows up lv fr ≠ 0 := fun e => z (by rw [e]; rfl)
              grind
            have n2 : (exc rows up lv fr).num < 0 := by
              have := mt numP.mp q1
              omega
            rw [if_neg q1, if_pos q2]
            refine List.filter_congr fun i _ => decide_eq_decide.mpr ?_
            rw [← ord_lt]
            constructor
            · exact fun q => Int.mul_pos_of_neg_of_neg q n2
            · intro q
              refine Classical.byContradiction fun c => ?_
              have := Int.mul_nonpos_of_nonneg_of_nonpos (Int.not_lt.mp c) (Int.le_of_lt n2)
              omega
        subst hr'
        refine seq_cut fun rest hr' => ?_
        unfold zDGet
        walk_at "zz"
        refine comp_fm (g := fun i : Nat => D.int ((i : Nat) : Int)) (f := fun i : Nat => D.int ((i : Nat) : Int)) (p := fun i => decide (0 < ((newS (rowAt rows i) up lv).num * ((dueR (rowAt rows i) up lv).den : Int) - (dueR (rowAt rows i) up lv).num * ((newS (rowAt rows i) up lv).den : Int)) * (exc rows up lv fr).num)) fr [] (by simp; omega) (fun i hi Q1 Q2 q1 q2 => ?_) ?_
        · walk_at "zz"
          refine ⟨_, dctOf_cell rfl, _, ixD_get hi, _, dctOf_cell rfl, _, ixD_get hi, ?_⟩
          refine lord_ok (sn i hi) (sd i hi) (by omega) (by omega) ⟨_, rfl, _, rfl, _, rfl, _, rfl, mulW (ord_szR (sn i hi) (sd i hi)) sE.n (by omega) (by omega), fun q => q1 (decide_eq_true q), fun q => q2 (decide_eq_false q)⟩
        rw [List.nil_append, ← ep]
        subst hr'
        walk_at "zz"
        have psub : ∀ i ∈ pickL rows up lv fr, i ∈ fr := fun i hi => pick_sub hi
        have pnd : (pickL rows up lv fr).Nodup := by rw [ep]; exact List.Pairwise.filter _ hnd
        have pl : (pickL rows up lv fr).length ≤ fr.length := by rw [ep]; exact List.length_filter_le _ _
        generalize pickL rows up lv fr = pk at *
        refine comp_map (g := fun i : Nat => D.int ((i : Nat) : Int)) (f := fun i => Z.pairT (((i : Nat) : Int), frD (newS (rowAt rows i) up lv))) pk [] (by simp; omega) (fun i hi Q q => ?_) ?_
        · unfold zDGet
          walk_at "zz"
          exact ⟨_, dctOf_cell rfl, _, ixD_get (psub i hi), q⟩
        rw [List.nil_append]
        refine ⟨pk.map fun i : Nat => (((i : Nat) : Int), frD (newS (rowAt rows i) up lv)), by rw [List.map_map]; rfl, ?_⟩
        rw [mrg_new _ [] (fun _ _ _ hq => absurd hq List.not_mem_nil) (by rw [List.map_map]; exact nd_ints pnd), List.nil_append]
        refine h _ _ ?_
        rw [fzD_map]
        exact dctOf_cell last_at
end
end Bx

namespace Bx
open PySem PySem.Spec PyProof.Rows L2 Z
local macro_rules | `(tactic| walk_at "zz") => `(tactic| simp only [zSeq, zAsg, zRet, zRetN, zIfS, zNext, zDrop, zPar, zVar, zC, zOp, zUn, zNeg, zI0, zI, zTest, zAnd, zOr, zNot, zAndV, zOrV, zNotV, zIf, zNil, zCons, zTup, zLst, zLstC, zgName, zgTup, zgCons, zgNil, zgSub, startZ, zCall, zCB, zChain, zIsN, zNotN, zNever,
  zAddA, zMulA, zRepeat, zCat, zIx, seqD, lstD, zMax2, zMin2, zAbs, zLen, zSum, zGcd, zInt, zYes, zBreak, zCont, zLc, ziR1, ziR2, ziList, ziTup, ziZip, ziEnum, wipeZ, zFor,
  at0, at1, at2, at3, at4, ix2_3, ix0_3, isNon_int, isNon_non, Bool.not_true, Bool.not_false,
  List.map_cons, List.map_nil, List.length_cons, List.length_nil, List.replicate_succ, List.replicate_zero, List.append_nil, List.nil_append, List.cons_append, List.getElem?_cons_zero, List.getElem?_cons_succ, List.set_cons_zero, List.set_cons_succ,
  Option.some.injEq, D.int.injEq, D.bl.injEq, D.tup.injEq, D.lst.injEq, D.str.injEq, D.cell.injEq, O.lst.injEq, reduceCtorEq, exists_eq_left', exists_eq_left, false_and, and_false, true_and, and_true, exists_false, or_false, false_or, exists_and_left, exists_eq', exists_and_right, List.cons.injEq, and_assoc, dec_not, dec_yes, t_t, t_f, f_t, f_f, true_implies, false_implies, implies_true, and_self, Nat.reduceAdd, Nat.reduceLeDiff, Nat.reduceSub, Nat.reduceLT])
local macro_rules | `(tactic| walk_at "zy") => `(tactic| try simp only [Option.some.injEq, D.int.injEq, D.bl.injEq, D.tup.injEq, D.lst.injEq, D.str.injEq, D.cell.injEq, O.lst.injEq, reduceCtorEq, exists_eq_left', exists_eq_left, false_and, and_false, true_and, and_true, exists_false, or_false, false_or, exists_and_left, exists_eq', exists_and_right, List.cons.injEq, and_assoc, dec_not, dec_yes, t_t, t_f, f_t, f_f, true_implies, false_implies, implies_true, and_self])
section
variable {K : PySem.W.Frag} {C : CI} {Δ : Store} {P : D → Store → Prop}
theorem thaw_frD {x : Rat} : Z.thaw Δ (frD x) = frD x := rfl
theorem below_fz (f : Fz) (m : Nat) : belowL m ((fzD f).map (·.2)) = true := by
  induction f with
  | nil => rfl
  | cons p f ih =>
    show (true && belowL m ((fzD f).map (·.2))) = true
    rw [ih]
    rfl
theorem below_keys (m : Nat) : ∀ fs : List Fz, belowL m (fs.map fun f => D.lst (keysI f)) = true
  | [] => rfl
  | f :: fs => by
    have e : belowL m (keysI f) = true := by
      unfold keysI
      induction f with
      | nil => rfl
      | cons p f ih => exact ih
    show (belowL m (keysI f) && belowL m (fs.map fun f => D.lst (keysI f))) = true
    rw [e, below_keys m fs]
    rfl
theorem thaw_fz {n : Nat} {f : Fz} {E : Store} (h : E[n]? = some (dctO (fzD f))) : Z.thaw E (.cell n) = dctP (fzD f) := by
  unfold Z.thaw
  simp only [h, dctO, dctP]
end
end Bx

namespace Bx
open PySem PySem.Spec PyProof.Rows L2 Z
local macro_rules | `(tactic| walk_at "zz") => `(tactic| simp only [zSeq, zAsg, zRet, zRetN, zIfS, zNext, zDrop, zPar, zVar, zC, zOp, zUn, zNeg, zI0, zI, zTest, zAnd, zOr, zNot, zAndV, zOrV, zNotV, zIf, zNil, zCons, zTup, zLst, zLstC, zgName, zgTup, zgCons, zgNil, zgSub, startZ, zCall, zCB, zChain, zIsN, zNotN, zNever,
  zAddA, zMulA, zRepeat, zCat, zIx, seqD, lstD, zMax2, zMin2, zAbs, zLen, zSum, zGcd, zInt, zYes, zBreak, zCont, zLc, ziR1, ziR2, ziList, ziTup, ziZip, ziEnum, wipeZ, zFor,
  at0, at1, at2, at3, at4, ix2_3, ix0_3, isNon_int, isNon_non, Bool.not_true, Bool.not_false,
  List.map_cons, List.map_nil, List.length_cons, List.length_nil, List.replicate_succ, List.replicate_zero, List.append_nil, List.nil_append, List.cons_append, List.getElem?_cons_zero, List.getElem?_cons_succ, List.set_cons_zero, List.set_cons_succ,
  Option.some.injEq, D.int.injEq, D.bl.injEq, D.tup.injEq, D.lst.injEq, D.str.injEq, D.cell.injEq, O.lst.injEq, reduceCtorEq, exists_eq_left', exists_eq_left, false_and, and_false, true_and, and_true, exists_false, or_false, false_or, exists_and_left, exists_eq', exists_and_right, List.cons.injEq, and_assoc, dec_not, dec_yes, t_t, t_f, f_t, f_f, true_implies, false_implies, implies_true, and_self, Nat.reduceAdd, Nat.reduceLeDiff, Nat.reduceSub, Nat.reduceLT])
local macro_rules | `(tactic| walk_at "zy") => `(tactic| try simp only [Option.some.injEq, D.int.injEq, D.bl.injEq, D.tup.injEq, D.lst.injEq, D.str.injEq, D.cell.injEq, O.lst.injEq, reduceCtorEq, exists_eq_left', exists_eq_left, false_and, and_false, true_and, and_true, exists_false, or_false, false_or, exists_and_left, exists_eq', exists_and_right, List.cons.injEq, and_assoc, dec_not, dec_yes, t_t, t_f, f_t, f_f, true_implies, false_implies, implies_true, and_self])
theorem all_in {rows : List Row} {up : Bool} {f : Fz} (iv : Iv rows up f) (h : ¬ f.length < rows.length) {i : Nat} (hi : i < rows.length) : i ∈ f.map (·.1) := by
  have e := iv.len
  have e0 : freeL rows f = [] := List.length_eq_zero_iff.mp (by omega)
  rw [← hasK_iff]
  cases q : hasK f i with
  | true => rfl
  | false =>
    have : i ∈ freeL rows f := List.mem_filter.mpr ⟨List.mem_range.mpr hi, by rw [q]; rfl⟩
    rw [e0] at this
    cases this
theorem look_fz {f : Fz} {v : Nat → Rat} (h : ∀ p ∈ f, p.2 = v p.1) {i : Nat} (hi : i ∈ f.map (·.1)) : (fzD f).lookup ((i : Nat) : Int) = some (frD (v i)) := by
  rw [fz_ix h]
  exact lookup_map (k := fun i : Nat => ((i : Nat) : Int)) (fun a b h => by omega) hi
theorem below_rows : ∀ (rows : List Row) (n : Nat), belowL n (rows.map rowD) = true
  | [], _ => rfl
  | r :: rows, n => by
    have e : Z.below n (rowD r) = true := by
      unfold rowD
      cases r.m <;> rfl
    show (Z.below n (rowD r) && belowL n (rows.map rowD)) = true
    rw [e, below_rows rows n]
    rfl
section
variable {K : PySem.W.Frag} {C : CI} {Δ : Store} {P : D → Store → Prop}
theorem lrounds_ok {rows : List Row} (hl : rows.length ≤ 40) (hr : ∀ r ∈ rows, r.Ok) {W : Rat} {N M : Nat} (hW : Sz W N M) (hNM : M + 150 ≤ N) (hB : N + 40 * M ≤ 2500)
    (h : ∀ f : Fz, Iv rows (growsB rows W) f → ¬ f.length < rows.length → (∀ τ, Tgt rows W (growsB rows W) τ → Good τ f) → P (.tup [.cell (Δ.length + 1), .lst ((List.range rows.length).map fun i => frD (valF f i))]) (Δ ++ [dctO (fzD f), .lst ((rnds rows W (growsB rows W)).map fun f => D.lst (keysI f))])) : W__law_rounds K C [.lst (rows.map rowD), frD W] Δ P := by
  have hN : N ≤ 2500 := by omega
  unfold W__law_rounds z__law_rounds
  refine ⟨rfl, ?_⟩
  refine seq_cut fun rest hr' => ?_
  walk_at "zz"
  refine lbegin_ok hl hr hW (by omega) (by omega) (by omega) ?_
  generalize growsB rows W = up at *
  refine ⟨_, rfl, rfl, _, _, rfl, _, _, rfl, rfl, ?_⟩
  subst hr'
  refine seq_cut fun rest hr' => ?_
  walk_at "zz"
  refine ⟨_, _, rfl, dctOf_cell last_at, fun ys hp hs => ?_⟩
  have i0 := Iv.first (up := up) hr
  have ek : (f0L rows up).map (·.1) = (List.range rows.length).filter fun i => fz0 (rowAt rows i) up := by
    unfold f0L
    rw [List.map_map]
    exact (List.map_congr_left fun i _ => rfl).trans (List.map_id _)
  rw [fzD_keys] at hp
  have ey := sort_keys (by rw [ek]; exact List.Pairwise.filter _ List.pairwise_lt_range) hp hs
  have g1 : ∀ (o o' : O), (Δ ++ [o, o'])[Δ.length]? = some o := fun o o' => by rw [List.getElem?_append_right (Nat.le_refl _), Nat.sub_self]; rfl
  have g2 : ∀ (o o' : O), (Δ ++ [o, o'])[Δ.length + 1]? = some o' := fun o o' => by rw [List.getElem?_append_right (by omega), show Δ.length + 1 - Δ.length = 1 by omega]; rfl
  have set1 : ∀ (o o' x : O), (Δ ++ [o, o']).set Δ.length x = Δ ++ [x, o'] := fun o o' x => by
    rw [List.set_append_right _ _ (Nat.le_refl _), Nat.sub_self]
    rfl
  have set2 : ∀ (o o' x : O), (Δ ++ [o, o']).set (Δ.length + 1) x = Δ ++ [o, x] := fun o o' x => by
    rw [List.set_append_right _ _ (by omega), show Δ.length + 1 - Δ.length = 1 by omega]
    rfl
  have st0 : rest [some (.lst (rows.map rowD)), some (frD W), some (.bl up), some (.cell Δ.length), some (.cell (Δ.length + 1)), none, none] (Δ ++ [dctO (fzD (f0L rows up)), .lst [.lst (keysI (f0L rows up))]]) := by
    subst hr'
    refine seq_cut fun rest hr' => ?_
    refine ⟨fun m Γ E => ∃ (f : Fz) (acc : List Fz) (k : Nat) (u5 u6 : Option D), Iv rows up f ∧ (∀ τ, Tgt rows W up τ → Good τ f) ∧ m + f.length = rows.length ∧ m < k ∧ acc.length + m ≤ rows.length + 1 ∧ acc ++ rgo rows W up k f = rnds rows W up ∧ E = Δ ++ [dctO (fzD f), .lst (acc.map fun f => D.lst (keysI f))] ∧ Γ = [some (.lst (rows.map rowD)), some (frD W), some (.bl up), some (.cell Δ.length), some (.cell (Δ.length + 1)), u5, u6], ⟨rows.length - (f0L rows up).length, f0L rows up, [f0L rows up], rows.length + 1, none, none, i0, fun _ T => Good.first T, by have := i0.len; omega, by omega, by rw [List.length_singleton]; omega, rfl, rfl, rfl⟩, ?_⟩
    rintro m _ E ⟨f, acc, k, u5, u6, iv, gd, hm, hk, hal, hacc, rfl, rfl⟩
    walk_at "zz"
    refine ⟨_, _, rfl, dctOf_cell (g1 _ _), ?_⟩
    rw [fzD_len, List.length_map]
    refine ⟨_, rfl, fun hlt => ?_, fun hge => ?_⟩
    · have hlt : f.length < rows.length := by omega
      have ivl := iv.len
      have hG : 0 < fsG rows up (freeL rows f) := fsG_pos (fun e => by rw [e] at ivl; simp at ivl; omega) fun i hi => iv.wpos hr hi
      unfold zCallBD lentD
      walk_at "zz"
      rw [thaw_fz (g1 _ _)]
      refine ⟨by
        show (belowL 0 (rows.map rowD) && (true && (true && (belowL 0 ((fzD f).map (·.2)) && true)))) = true
        rw [below_rows, below_fz]
        rfl, ?_⟩
      show W__law_may K C [.lst (rows.map rowD), .bl up, frD W, dctP (fzD f)] [] _
      refine lmay_ok hl hr iv.nd (iv.int hlt) (by omega) hW hNM hB hG fun m1 Δ1 hd => ⟨m1, rfl, _, hd, bare_fz _, ?_⟩
      unfold zAppend
      walk_at "zz"
      refine ⟨⟨_, g2 _ _⟩, _, _, rfl, dctOf_dat, fun ys2 hp2 hs2 => ?_⟩
      rw [fzD_keys] at hp2
      have ey2 := sort_keys (by rw [nxt_keys]; exact pick_asc free_asc) hp2 hs2
      have ivn := iv.next (W := W) hr hlt
      have gdn : ∀ τ, Tgt rows W up τ → Good τ (f ++ nxt rows W up f) := fun τ T => Good.next hr T iv (gd τ T)
      have nl := ivn.len
      rw [List.length_append] at nl
      have n0 : (nxt rows W up f).length ≠ 0 := fun e => by
        have e2 : pickL rows up (lvlR rows W up f) (freeL rows f) = [] := by rw [← nxt_keys, List.length_eq_zero_iff.mp e]; rfl
        exact pick_ne (fun e3 => by rw [e3] at ivl; simp at ivl; omega) e2
      refine ⟨_, g2 _ _, by rw [List.length_map]; omega, ?_⟩
      rw [set2, ey2, ← keysI_eq]
      refine ⟨_, by rw [g2], _, atI_last _ _, .inl ⟨_, rfl, ?_⟩⟩
      obtain ⟨k', rfl⟩ : ∃ k', k = k' + 1 := ⟨k - 1, by omega⟩
      have hstep : rgo rows W up (k' + 1) f = nxt rows W up f :: rgo rows W up k' (f ++ nxt rows W up f) := by
        show (if _ then _ else _) = _
        rw [if_pos hlt]
      rw [hstep] at hacc
      rw [show (acc.map (fun f => D.lst (keysI f)) ++ [D.lst (keysI (nxt rows W up f))]) = (acc ++ [nxt rows W up f]).map fun f => D.lst (keysI f) by rw [List.map_append]; rfl]
      have hnd := ivn.nd
      have hdis := hnd
      rw [List.map_append, List.nodup_append] at hdis
      generalize hg : nxt rows W up f = g at *
      refine loop_inv (fun j Γ E => ∃ u6, E = Δ ++ [dctO (fzD (f ++ g.take j)), .lst ((acc ++ [g]).map fun f => D.lst (keysI f))] ∧ Γ = [some (.lst (rows.map rowD)), some (frD W), some (.bl up), some (.cell Δ.length), some (.cell (Δ.length + 1)), some (dctP (fzD g)), u6]) _ 0 _ _ ⟨_, by rw [List.take_zero, List.append_nil], rfl⟩ ?_ ?_
      · rintro j x Γ E Ze hx ⟨u6, rfl, rfl⟩ hnx _ _ _
        rw [Nat.zero_add] at *
        have hj : j < g.length := by
          have := (List.getElem?_eq_some_iff.mp hx).1
          unfold keysI at this
          rw [List.length_map] at this
          exact this
        have ex : x = .int ((g[j].1 : Nat) : Int) := by
          unfold keysI at hx
          rw [List.getElem?_map, List.getElem?_eq_getElem hj] at hx
          exact (Option.some.inj hx).symm
        subst ex
        simp only [zgName, List.set_cons_succ, List.set_cons_zero]
        unfold zDPut zDGet
        walk_at "zz"
        refine ⟨_, dctOf_dat, _, look_fz (v := valF g) (good_val hdis.2.1) (List.mem_map.mpr ⟨g[j], List.getElem_mem hj, rfl⟩), _, dctOf_cell (g1 _ _), ?_, ?_⟩
        · rw [fzD_len, List.length_append, List.length_take]
          omega
        · rw [set1, putI_new (fun p hp => by
            obtain ⟨p', hp', rfl⟩ := List.mem_map.mp hp
            show ((p'.1 : Nat) : Int) ≠ _
            rcases List.mem_append.mp hp' with hp' | hp'
            · have := hdis.2.2 p'.1 (List.mem_map.mpr ⟨p', hp', rfl⟩) g[j].1 (List.mem_map.mpr ⟨g[j], List.getElem_mem hj, rfl⟩)
              omega
            · intro e
              have e : p'.1 = g[j].1 := by omega
              obtain ⟨i, hi, ei⟩ := List.getElem_of_mem hp'
              rw [List.length_take] at hi
              rw [List.getElem_take] at ei
              have hnd2 := hdis.2.1
              have : (g.map (·.1))[i]? = (g.map (·.1))[j]? := by
                rw [List.getElem?_map, List.getElem?_map, List.getElem?_eq_getElem (by omega), List.getElem?_eq_getElem hj, ei]
                simp [e]
              have := (List.getElem?_inj (by rw [List.length_map]; omega) hnd2).mp this
              omega)]
          refine hnx _ _ ⟨_, ?_, rfl⟩
          rw [List.take_succ, List.getElem?_eq_getElem hj, ← List.append_assoc, fzD_app (f ++ g.take j)]
          have : valF g g[j].1 = g[j].2 := (good_val hdis.2.1 _ (List.getElem_mem hj)).symm
          rw [this]
          rfl
      · rintro Γ E ⟨u6, rfl, rfl⟩
        rw [Nat.zero_add, show (keysI g).length = g.length by unfold keysI; rw [List.length_map], List.take_of_length_le (Nat.le_refl _)]
        refine ⟨rows.length - (f ++ g).length, by rw [List.length_append]; omega, f ++ g, ivn, gdn, by rw [List.length_append]; omega, ?_⟩
        refine ⟨acc ++ [g], k', by rw [List.length_append]; omega, by rw [List.length_append, List.length_append, List.length_singleton]; omega, by rw [List.append_assoc]; exact hacc, rfl, _, _, rfl⟩
    · have hge : ¬ f.length < rows.length := by omega
      have hend : rgo rows W up k f = [] := by
        cases k with
        | zero => rfl
        | succ k => show (if _ then _ else _) = _; rw [if_neg hge]
      rw [hend, List.append_nil] at hacc
      subst hr'
      walk_at "zz"
      rw [List.length_map, rangeD_nat]
      refine ⟨by omega, by omega, ?_⟩
      refine comp_map (g := fun i : Nat => D.int ((i : Nat) : Int)) (f := fun i => frD (valF f i)) (List.range rows.length) [] (by simp; omega) (fun i hi Q q => ?_) ?_
      · unfold zDGet
        walk_at "zz"
        exact ⟨_, dctOf_cell (g1 _ _), _, look_fz (good_val iv.nd) (all_in iv hge (List.mem_range.mp hi)), q⟩
      · rw [List.nil_append, hacc]
        exact h f iv hge gd
  rw [ey, ← keysI_eq]
  show rest [some (.lst (rows.map rowD)), some (frD W), some (.bl up), some (.cell Δ.length), some (.cell (Δ ++ [dctO (fzD (f0L rows up))]).length), none, none] (Δ ++ [dctO (fzD (f0L rows up))] ++ [.lst [.lst (keysI (f0L rows up))]])
  rw [List.append_assoc, List.length_append]
  exact st0
end
end Bx

namespace Bx
open PySem PySem.Spec PyProof.Rows L2 Z
local macro_rules | `(tactic| walk_at "zz") => `(tactic| simp only [zSeq, zAsg, zRet, zRetN, zIfS, zNext, zDrop, zPar, zVar, zC, zOp, zUn, zNeg, zI0, zI, zTest, zAnd, zOr, zNot, zAndV, zOrV, zNotV, zIf, zNil, zCons, zTup, zLst, zLstC, zgName, zgTup, zgCons, zgNil, zgSub, startZ, zCall, zCB, zChain, zIsN, zNotN, zNever,
  zAddA, zMulA, zRepeat, zCat, zIx, seqD, lstD, zMax2, zMin2, zAbs, zLen, zSum, zGcd, zInt, zYes, zBreak, zCont, zLc, ziR1, ziR2, ziList, ziTup, ziZip, ziEnum, wipeZ, zFor,
  at0, at1, at2, at3, at4, ix2_3, ix0_3, isNon_int, isNon_non, Bool.not_true, Bool.not_false,
  List.map_cons, List.map_nil, List.length_cons, List.length_nil, List.replicate_succ, List.replicate_zero, List.append_nil, List.nil_append, List.cons_append, List.getElem?_cons_zero, List.getElem?_cons_succ, List.set_cons_zero, List.set_cons_succ,
  Option.some.injEq, D.int.injEq, D.bl.injEq, D.tup.injEq, D.lst.injEq, D.str.injEq, D.cell.injEq, O.lst.injEq, reduceCtorEq, exists_eq_left', exists_eq_left, false_and, and_false, true_and, and_true, exists_false, or_false, false_or, exists_and_left, exists_eq', exists_and_right, List.cons.injEq, and_assoc, dec_not, dec_yes, t_t, t_f, f_t, f_f, true_implies, false_implies, implies_true, and_self, Nat.reduceAdd, Nat.reduceLeDiff, Nat.reduceSub, Nat.reduceLT])
local macro_rules | `(tactic| walk_at "zy") => `(tactic| try simp only [Option.some.injEq, D.int.injEq, D.bl.injEq, D.tup.injEq, D.lst.injEq, D.str.injEq, D.cell.injEq, O.lst.injEq, reduceCtorEq, exists_eq_left', exists_eq_left, false_and, and_false, true_and, and_true, exists_false, or_false, false_or, exists_and_left, exists_eq', exists_and_right, List.cons.injEq, and_assoc, dec_not, dec_yes, t_t, t_f, f_t, f_f, true_implies, false_implies, implies_true, and_self])
/-! ### the rows of many rounds -/
def hvy : Nat → Nat
  | 0 => 0
  | i + 1 => hvy i + max 1 ((hvy i + 2) / 3)
def wgt (i : Nat) : Nat := max 1 ((hvy i + 2) / 3)
theorem hvy_succ {i : Nat} : hvy (i + 1) = hvy i + wgt i := rfl
theorem wgt_pos {i : Nat} : 1 ≤ wgt i := Nat.le_max_left _ _
theorem wgt_three {i : Nat} : hvy i ≤ 3 * wgt i := by
  have := Nat.le_max_right 1 ((hvy i + 2) / 3)
  unfold wgt
  omega
/-- sums of weights times gaps -/
def gps : Nat → Nat
  | 0 => 0
  | i + 1 => gps i + wgt i * 4 ^ i
theorem gps_le : ∀ i, gps (i + 1) ≤ 4 ^ i * hvy (i + 1)
  | 0 => by decide
  | i + 1 => by
    have ih := gps_le i
    have e1 : gps (i + 2) = gps (i + 1) + wgt (i + 1) * 4 ^ (i + 1) := rfl
    have e2 : hvy (i + 2) = hvy (i + 1) + wgt (i + 1) := rfl
    have e3 : 4 ^ (i + 1) = 4 * 4 ^ i := by rw [Nat.pow_succ]; omega
    rw [e1, e2, Nat.mul_add, Nat.mul_comm (wgt (i + 1))]
    have : 4 ^ i * hvy (i + 1) ≤ 4 ^ (i + 1) * hvy (i + 1) := Nat.mul_le_mul_right _ (by omega)
    omega
theorem hvy_pos {i : Nat} : 1 ≤ hvy (i + 1) := by
  have := wgt_pos (i := i)
  have : hvy (i + 1) = hvy i + wgt i := rfl
  omega
theorem gps_lt (i : Nat) : gps (i + 2) < 4 ^ (i + 1) * hvy (i + 2) := by
  have ih := gps_le i
  have e1 : gps (i + 2) = gps (i + 1) + wgt (i + 1) * 4 ^ (i + 1) := rfl
  have e2 : hvy (i + 2) = hvy (i + 1) + wgt (i + 1) := rfl
  have e3 : 4 ^ (i + 1) = 4 * 4 ^ i := by rw [Nat.pow_succ]; omega
  rw [e1, e2, Nat.mul_add, Nat.mul_comm (wgt (i + 1))]
  have p : 0 < 4 ^ i * hvy (i + 1) := Nat.mul_pos (Nat.pow_pos (by decide)) hvy_pos
  have : 4 ^ (i + 1) * hvy (i + 1) = 4 * (4 ^ i * hvy (i + 1)) := by rw [e3, Nat.mul_assoc]
  omega
theorem gps_ge (i : Nat) : 4 ^ i * hvy (i + 2) ≤ gps (i + 2) := by
  have e1 : gps (i + 2) = gps (i + 1) + wgt (i + 1) * 4 ^ (i + 1) := rfl
  have e2 : hvy (i + 2) = hvy (i + 1) + wgt (i + 1) := rfl
  have e3 : 4 ^ (i + 1) = 4 * 4 ^ i := by rw [Nat.pow_succ]; omega
  have w3 := wgt_three (i := i + 1)
  have : 4 ^ i * hvy (i + 2) ≤ 4 ^ i * (4 * wgt (i + 1)) := Nat.mul_le_mul_left _ (by omega)
  have e4 : 4 ^ i * (4 * wgt (i + 1)) = wgt (i + 1) * 4 ^ (i + 1) := by rw [e3, ← Nat.mul_assoc, Nat.mul_comm (4 ^ i) 4, Nat.mul_comm]
  omega
theorem hvy_small : ∀ i, i ≤ 40 → hvy i ≤ 500000 := by decide +kernel
end Bx

namespace Bx
open PySem PySem.Spec PyProof.Rows L2 Z
local macro_rules | `(tactic| walk_at "zz") => `(tactic| simp only [zSeq, zAsg, zRet, zRetN, zIfS, zNext, zDrop, zPar, zVar, zC, zOp, zUn, zNeg, zI0, zI, zTest, zAnd, zOr, zNot, zAndV, zOrV, zNotV, zIf, zNil, zCons, zTup, zLst, zLstC, zgName, zgTup, zgCons, zgNil, zgSub, startZ, zCall, zCB, zChain, zIsN, zNotN, zNever,
  zAddA, zMulA, zRepeat, zCat, zIx, seqD, lstD, zMax2, zMin2, zAbs, zLen, zSum, zGcd, zInt, zYes, zBreak, zCont, zLc, ziR1, ziR2, ziList, ziTup, ziZip, ziEnum, wipeZ, zFor,
  at0, at1, at2, at3, at4, ix2_3, ix0_3, isNon_int, isNon_non, Bool.not_true, Bool.not_false,
  List.map_cons, List.map_nil, List.length_cons, List.length_nil, List.replicate_succ, List.replicate_zero, List.append_nil, List.nil_append, List.cons_append, List.getElem?_cons_zero, List.getElem?_cons_succ, List.set_cons_zero, List.set_cons_succ,
  Option.some.injEq, D.int.injEq, D.bl.injEq, D.tup.injEq, D.lst.injEq, D.str.injEq, D.cell.injEq, O.lst.injEq, reduceCtorEq, exists_eq_left', exists_eq_left, false_and, and_false, true_and, and_true, exists_false, or_false, false_or, exists_and_left, exists_eq', exists_and_right, List.cons.injEq, and_assoc, dec_not, dec_yes, t_t, t_f, f_t, f_f, true_implies, false_implies, implies_true, and_self, Nat.reduceAdd, Nat.reduceLeDiff, Nat.reduceSub, Nat.reduceLT])
local macro_rules | `(tactic| walk_at "zy") => `(tactic| try simp only [Option.some.injEq, D.int.injEq, D.bl.injEq, D.tup.injEq, D.lst.injEq, D.str.injEq, D.cell.injEq, O.lst.injEq, reduceCtorEq, exists_eq_left', exists_eq_left, false_and, and_false, true_and, and_true, exists_false, or_false, false_or, exists_and_left, exists_eq', exists_and_right, List.cons.injEq, and_assoc, dec_not, dec_yes, t_t, t_f, f_t, f_f, true_implies, false_implies, implies_true, and_self])
/-! ### the rounds of such a row -/
def mstI (n i : Nat) : Int := (wgt i : Int) * ((4 : Int) ^ n - (4 : Int) ^ i)
def hrow (n i : Nat) : Row := ⟨0, 0, some (mstI n i), (wgt i : Int), 0⟩
def rowsH (n : Nat) : List Row := (List.range n).map fun k => hrow n (n - 1 - k)
/-- the sum of the first m greatest widths, from the last box on -/
def mst (n m : Nat) : Int := (4 : Int) ^ n * (hvy m : Int) - (gps m : Int)
theorem mst_succ {n m : Nat} : mst n (m + 1) = mst n m + mstI n m := by
  have e1 : gps (m + 1) = gps m + wgt m * 4 ^ m := rfl
  have e2 : hvy (m + 1) = hvy m + wgt m := rfl
  unfold mst mstI
  rw [e1, e2]
  push_cast
  grind
theorem four_le {n i : Nat} (h : i ≤ n) : (4 : Int) ^ i ≤ (4 : Int) ^ n := by
  have : (4 : Nat) ^ i ≤ 4 ^ n := Nat.pow_le_pow_right (by decide) h
  exact_mod_cast this
theorem mstI_nn {n i : Nat} (h : i < n) : 0 ≤ mstI n i := Int.mul_nonneg (by omega) (by have := four_le (Nat.le_of_lt h); omega)
theorem mst_nn {n : Nat} : ∀ {m : Nat}, m ≤ n → 0 ≤ mst n m
  | 0, _ => by unfold mst; simp [hvy, gps]
  | m + 1, h => by
    rw [mst_succ]
    have := mst_nn (n := n) (m := m) (by omega)
    have := mstI_nn (n := n) (i := m) (by omega)
    omega
theorem hrow_ok {n i : Nat} (h : i < n) (hn : n ≤ 40) : (hrow n i).Ok := by
  have w := hvy_small (i + 1) (by omega)
  have e2 : hvy (i + 1) = hvy i + wgt i := rfl
  have p := wgt_pos (i := i)
  have m0 := mstI_nn h
  have t : (4 : Int) ^ n ≤ (4 : Int) ^ 40 := four_le hn
  have q : (0 : Int) < (4 : Int) ^ i := Int.pow_pos (by decide)
  have t2 : (4 : Int) ^ 40 = 1208925819614629174706176 := by decide
  have m1 : mstI n i ≤ 10 ^ 30 := by
    have a : mstI n i ≤ (500000 : Int) * (4 : Int) ^ 40 := Int.mul_le_mul (by omega) (by omega) (by have := four_le (Nat.le_of_lt h); omega) (by decide)
    rw [t2] at a
    omega
  exact ⟨(by decide : (0 : Int) ≤ 0), (by decide : (0 : Int) ≤ 10 ^ 30), (by decide : (0 : Int) ≤ 0), (by decide : (0 : Int) ≤ 10 ^ 30), fun j e => by cases e; exact ⟨m0, m1⟩, by show (0 : Int) ≤ (wgt i : Int); omega, by show (wgt i : Int) ≤ 10 ^ 6; omega, (by decide : (0 : Int) ≤ 0), (by decide : (0 : Int) ≤ 10 ^ 6)⟩
theorem rowsH_len {n : Nat} : (rowsH n).length = n := by unfold rowsH; rw [List.length_map, List.length_range]
theorem rowsH_at {n k : Nat} (h : k < n) : rowAt (rowsH n) k = hrow n (n - 1 - k) := by
  unfold rowAt rowsH
  rw [List.getD_eq_getElem?_getD, List.getElem?_map, List.getElem?_range h]
  rfl
theorem rowsH_ok {n : Nat} (hn : n ≤ 40) : ∀ r ∈ rowsH n, r.Ok := fun r hm => by
  obtain ⟨k, hk, rfl⟩ := List.mem_map.mp hm
  have := List.mem_range.mp hk
  exact hrow_ok (by omega) hn
def fkH (n k : Nat) : Fz := (List.range k).map fun j => (j, ((mstI n (n - 1 - j) : Int) : Rat))
theorem fkH_succ {n k : Nat} : fkH n (k + 1) = fkH n k ++ [(k, ((mstI n (n - 1 - k) : Int) : Rat))] := by
  unfold fkH
  rw [List.range_succ, List.map_append]
  rfl
theorem fkH_sum {n : Nat} : ∀ k, k ≤ n → sumF (fkH n k) = ((mst n n - mst n (n - k) : Int) : Rat)
  | 0, _ => by
    rw [Nat.sub_zero, Int.sub_self]
    rfl
  | k + 1, h => by
    have ih := fkH_sum (n := n) k (by omega)
    have e : sumF (fkH n (k + 1)) = sumF (fkH n k) + ((mstI n (n - 1 - k) : Int) : Rat) := by
      unfold sumF
      rw [fkH_succ, List.map_append]
      exact sumQ_snoc _ _ _
    have e2 : mst n (n - k) = mst n (n - (k + 1)) + mstI n (n - 1 - k) := by
      rw [show n - k = (n - (k + 1)) + 1 by omega, mst_succ, show n - (k + 1) = n - 1 - k by omega]
    rw [e, ih, e2, ← Rat.intCast_add]
    congr 1
    omega
theorem hasH {n k i : Nat} : hasK (fkH n k) i = decide (i < k) := by
  rw [Bool.eq_iff_iff, hasK_iff, decide_eq_true_iff]
  unfold fkH
  rw [List.map_map]
  simp
theorem freeH {n k : Nat} (h : k ≤ n) : freeL (rowsH n) (fkH n k) = (List.range (n - k)).map (k + ·) := by
  unfold freeL
  rw [rowsH_len, show n = k + (n - k) by omega, List.range_add, List.filter_append]
  have e1 : (List.range k).filter (fun i => !hasK (fkH (k + (n - k)) k) i) = [] := List.filter_eq_nil_iff.mpr fun i hi => by
    rw [hasH, decide_eq_true (List.mem_range.mp hi)]
    decide
  have e2 : ((List.range (n - k)).map (k + ·)).filter (fun i => !hasK (fkH (k + (n - k)) k) i) = (List.range (n - k)).map (k + ·) := List.filter_eq_self.mpr fun i hi => by
    obtain ⟨j, hj, rfl⟩ := List.mem_map.mp hi
    rw [hasH, decide_eq_false (by omega)]
    rfl
  rw [e1, e2, List.nil_append, show k + (n - k) - k = n - k by omega]
theorem sumH : ∀ m : Nat, (((List.range m).map fun j => (wgt (m - 1 - j) : Int)).sum) = (hvy m : Int)
  | 0 => rfl
  | m + 1 => by
    have ih := sumH m
    rw [List.range_succ_eq_map, List.map_cons, List.sum_cons, List.map_map]
    have e : ((List.range m).map ((fun j => (wgt (m + 1 - 1 - j) : Int)) ∘ Nat.succ)) = (List.range m).map fun j => (wgt (m - 1 - j) : Int) := List.map_congr_left fun j _ => by
      show (wgt (m + 1 - 1 - (j + 1)) : Int) = _
      rw [show m + 1 - 1 - (j + 1) = m - 1 - j by omega]
    rw [e, ih, hvy_succ]
    show (wgt (m + 1 - 1 - 0) : Int) + _ = _
    rw [show m + 1 - 1 - 0 = m by omega]
    push_cast
    omega
end Bx

namespace Bx
open PySem PySem.Spec PyProof.Rows L2 Z
local macro_rules | `(tactic| walk_at "zz") => `(tactic| simp only [zSeq, zAsg, zRet, zRetN, zIfS, zNext, zDrop, zPar, zVar, zC, zOp, zUn, zNeg, zI0, zI, zTest, zAnd, zOr, zNot, zAndV, zOrV, zNotV, zIf, zNil, zCons, zTup, zLst, zLstC, zgName, zgTup, zgCons, zgNil, zgSub, startZ, zCall, zCB, zChain, zIsN, zNotN, zNever,
  zAddA, zMulA, zRepeat, zCat, zIx, seqD, lstD, zMax2, zMin2, zAbs, zLen, zSum, zGcd, zInt, zYes, zBreak, zCont, zLc, ziR1, ziR2, ziList, ziTup, ziZip, ziEnum, wipeZ, zFor,
  at0, at1, at2, at3, at4, ix2_3, ix0_3, isNon_int, isNon_non, Bool.not_true, Bool.not_false,
  List.map_cons, List.map_nil, List.length_cons, List.length_nil, List.replicate_succ, List.replicate_zero, List.append_nil, List.nil_append, List.cons_append, List.getElem?_cons_zero, List.getElem?_cons_succ, List.set_cons_zero, List.set_cons_succ,
  Option.some.injEq, D.int.injEq, D.bl.injEq, D.tup.injEq, D.lst.injEq, D.str.injEq, D.cell.injEq, O.lst.injEq, reduceCtorEq, exists_eq_left', exists_eq_left, false_and, and_false, true_and, and_true, exists_false, or_false, false_or, exists_and_left, exists_eq', exists_and_right, List.cons.injEq, and_assoc, dec_not, dec_yes, t_t, t_f, f_t, f_f, true_implies, false_implies, implies_true, and_self, Nat.reduceAdd, Nat.reduceLeDiff, Nat.reduceSub, Nat.reduceLT])
local macro_rules | `(tactic| walk_at "zy") => `(tactic| try simp only [Option.some.injEq, D.int.injEq, D.bl.injEq, D.tup.injEq, D.lst.injEq, D.str.injEq, D.cell.injEq, O.lst.injEq, reduceCtorEq, exists_eq_left', exists_eq_left, false_and, and_false, true_and, and_true, exists_false, or_false, false_or, exists_and_left, exists_eq', exists_and_right, List.cons.injEq, and_assoc, dec_not, dec_yes, t_t, t_f, f_t, f_f, true_implies, false_implies, implies_true, and_self])
theorem wgH {n i : Nat} : wgI (hrow n i) true = (wgt i : Int) := if_pos rfl
theorem fz0H {n i : Nat} (h : i < n) : fz0 (hrow n i) true = false := by
  unfold fz0
  rw [wgH, if_pos rfl]
  have p := wgt_pos (i := i)
  have m0 := mstI_nn h
  have e1 : ((wgt i : Int) == 0) = false := by simp; omega
  rw [e1, Bool.false_or]
  exact decide_eq_false (by show ¬ mstI n i < 0; omega)
theorem f0H {n : Nat} : f0L (rowsH n) true = fkH n 0 := by
  unfold f0L
  rw [rowsH_len]
  have : (List.range n).filter (fun i => fz0 (rowAt (rowsH n) i) true) = [] := List.filter_eq_nil_iff.mpr fun i hi => by
    have hi := List.mem_range.mp hi
    rw [rowsH_at hi, fz0H (by omega)]
    decide
  rw [this]
  rfl
theorem fsGH {n k : Nat} (h : k ≤ n) : fsG (rowsH n) true ((List.range (n - k)).map (k + ·)) = (hvy (n - k) : Int) := by
  unfold fsG
  rw [List.map_map, ← sumH (n - k)]
  congr 1
  refine List.map_congr_left fun j hj => ?_
  have hj := List.mem_range.mp hj
  show wgI (rowAt (rowsH n) (k + j)) true = _
  rw [rowsH_at (by omega), wgH, show n - 1 - (k + j) = n - k - 1 - j by omega]
theorem fsWH {n k : Nat} (h : k ≤ n) : fsW (rowsH n) ((List.range (n - k)).map (k + ·)) = 0 := by
  unfold fsW
  rw [List.map_map]
  have : (List.range (n - k)).map ((fun i => (rowAt (rowsH n) i).w) ∘ (k + ·)) = (List.range (n - k)).map fun _ => (0 : Int) := List.map_congr_left fun j hj => by
    have hj := List.mem_range.mp hj
    show (rowAt (rowsH n) (k + j)).w = 0
    rw [rowsH_at (by omega)]
    rfl
  rw [this]
  induction List.range (n - k) with
  | nil => rfl
  | cons a l ih => rw [List.map_cons, List.sum_cons, ih]; rfl
def whl (n : Nat) : Rat := ((mst n n : Int) : Rat)
theorem lvH {n k : Nat} (h : k ≤ n) : lvlR (rowsH n) (whl n) true (fkH n k) = ((mst n (n - k) : Int) : Rat) / ((hvy (n - k) : Int) : Rat) := by
  unfold lvlR
  rw [freeH h, fsGH h, fsWH h, fkH_sum k h]
  unfold whl
  congr 1
  rw [Rat.intCast_sub]
  show _ - _ - ((0 : Int) : Rat) = _
  grind
/-- due and new for a box, by whole numbers -/
theorem boxH {n i m : Nat} (hi : i < n) (hm : 0 < hvy m) (h0 : 0 ≤ mst n m) :
    (gps m < 4 ^ i * hvy m → newS (hrow n i) true ((mst n m : Int) / ((hvy m : Int) : Rat)) = ((mstI n i : Int) : Rat) ∧ newS (hrow n i) true ((mst n m : Int) / ((hvy m : Int) : Rat)) < dueR (hrow n i) true ((mst n m : Int) / ((hvy m : Int) : Rat))) ∧
    (4 ^ i * hvy m ≤ gps m → newS (hrow n i) true ((mst n m : Int) / ((hvy m : Int) : Rat)) = dueR (hrow n i) true ((mst n m : Int) / ((hvy m : Int) : Rat))) := by
  have hq : (0 : Rat) < ((hvy m : Int) : Rat) := Rat.intCast_pos.mpr (by omega)
  have hw : (0 : Rat) < ((wgt i : Int) : Rat) := Rat.intCast_pos.mpr (by have := wgt_pos (i := i); omega)
  have lv0 : (0 : Rat) ≤ ((mst n m : Int) : Rat) / ((hvy m : Int) : Rat) := by
    rw [← divQ]
    exact Rat.divInt_nonneg h0 (by omega)
  have eD : dueR (hrow n i) true (((mst n m : Int) : Rat) / ((hvy m : Int) : Rat)) = ((mst n m : Int) : Rat) / ((hvy m : Int) : Rat) * ((wgt i : Int) : Rat) := by
    unfold dueR
    rw [wgH]
    show ((0 : Int) : Rat) + _ = _
    exact Rat.zero_add _
  have cmp : ((mstI n i : Int) : Rat) < dueR (hrow n i) true (((mst n m : Int) : Rat) / ((hvy m : Int) : Rat)) ↔ gps m < 4 ^ i * hvy m := by
    rw [eD]
    have e1 : ((mstI n i : Int) : Rat) = (((4 : Int) ^ n - (4 : Int) ^ i : Int) : Rat) * ((wgt i : Int) : Rat) := by
      unfold mstI
      rw [Rat.intCast_mul, Rat.mul_comm]
    rw [e1]
    constructor
    · intro h
      have h2 := Rat.lt_of_mul_lt_mul_right h (Rat.le_of_lt hw)
      have h3 := (Rat.lt_div_iff hq).mp h2
      rw [← Rat.intCast_mul, Rat.intCast_lt_intCast] at h3
      unfold mst at h3
      have h4 : (gps m : Int) < (4 : Int) ^ i * (hvy m : Int) := by
        have : ((4 : Int) ^ n - (4 : Int) ^ i) * (hvy m : Int) = (4 : Int) ^ n * (hvy m : Int) - (4 : Int) ^ i * (hvy m : Int) := Int.sub_mul _ _ _
        omega
      exact_mod_cast h4
    · intro h
      have h4 : (gps m : Int) < (4 : Int) ^ i * (hvy m : Int) := by exact_mod_cast h
      refine Rat.mul_lt_mul_of_pos_right ?_ hw
      rw [Rat.lt_div_iff hq, ← Rat.intCast_mul, Rat.intCast_lt_intCast]
      unfold mst
      have : ((4 : Int) ^ n - (4 : Int) ^ i) * (hvy m : Int) = (4 : Int) ^ n * (hvy m : Int) - (4 : Int) ^ i * (hvy m : Int) := Int.sub_mul _ _ _
      omega
  have d0 : (0 : Rat) ≤ dueR (hrow n i) true (((mst n m : Int) : Rat) / ((hvy m : Int) : Rat)) := by
    rw [eD]
    exact Rat.mul_nonneg lv0 (Rat.le_of_lt hw)
  have m0 : (0 : Rat) ≤ ((mstI n i : Int) : Rat) := Rat.intCast_nonneg.mpr (mstI_nn hi)
  generalize ((mst n m : Int) : Rat) / ((hvy m : Int) : Rat) = lv at *
  have eN : newS (hrow n i) true lv = if ((mstI n i : Int) : Rat) < dueR (hrow n i) true lv then ((mstI n i : Int) : Rat) else dueR (hrow n i) true lv := by
    unfold newS limQ
    rw [if_neg (by show ¬ _ < ((0 : Int) : Rat); grind)]
    rfl
  refine ⟨fun h => ?_, fun h => ?_⟩
  · have c := cmp.mpr h
    rw [eN, if_pos c]
    exact ⟨rfl, c⟩
  · have c := mt cmp.mp (Nat.not_lt.mpr h)
    rw [eN, if_neg c]
end Bx

namespace Bx
open PySem PySem.Spec PyProof.Rows L2 Z
local macro_rules | `(tactic| walk_at "zz") => `(tactic| simp only [zSeq, zAsg, zRet, zRetN, zIfS, zNext, zDrop, zPar, zVar, zC, zOp, zUn, zNeg, zI0, zI, zTest, zAnd, zOr, zNot, zAndV, zOrV, zNotV, zIf, zNil, zCons, zTup, zLst, zLstC, zgName, zgTup, zgCons, zgNil, zgSub, startZ, zCall, zCB, zChain, zIsN, zNotN, zNever,
  zAddA, zMulA, zRepeat, zCat, zIx, seqD, lstD, zMax2, zMin2, zAbs, zLen, zSum, zGcd, zInt, zYes, zBreak, zCont, zLc, ziR1, ziR2, ziList, ziTup, ziZip, ziEnum, wipeZ, zFor,
  at0, at1, at2, at3, at4, ix2_3, ix0_3, isNon_int, isNon_non, Bool.not_true, Bool.not_false,
  List.map_cons, List.map_nil, List.length_cons, List.length_nil, List.replicate_succ, List.replicate_zero, List.append_nil, List.nil_append, List.cons_append, List.getElem?_cons_zero, List.getElem?_cons_succ, List.set_cons_zero, List.set_cons_succ,
  Option.some.injEq, D.int.injEq, D.bl.injEq, D.tup.injEq, D.lst.injEq, D.str.injEq, D.cell.injEq, O.lst.injEq, reduceCtorEq, exists_eq_left', exists_eq_left, false_and, and_false, true_and, and_true, exists_false, or_false, false_or, exists_and_left, exists_eq', exists_and_right, List.cons.injEq, and_assoc, dec_not, dec_yes, t_t, t_f, f_t, f_f, true_implies, false_implies, implies_true, and_self, Nat.reduceAdd, Nat.reduceLeDiff, Nat.reduceSub, Nat.reduceLT])
local macro_rules | `(tactic| walk_at "zy") => `(tactic| try simp only [Option.some.injEq, D.int.injEq, D.bl.injEq, D.tup.injEq, D.lst.injEq, D.str.injEq, D.cell.injEq, O.lst.injEq, reduceCtorEq, exists_eq_left', exists_eq_left, false_and, and_false, true_and, and_true, exists_false, or_false, false_or, exists_and_left, exists_eq', exists_and_right, List.cons.injEq, and_assoc, dec_not, dec_yes, t_t, t_f, f_t, f_f, true_implies, false_implies, implies_true, and_self])
theorem pick_head {rows : List Row} {up : Bool} {lv : Rat} {k : Nat} {tl : List Nat} (h1 : newS (rowAt rows k) up lv < dueR (rowAt rows k) up lv) (h2 : ∀ j ∈ tl, newS (rowAt rows j) up lv = dueR (rowAt rows j) up lv) : pickL rows up lv (k :: tl) = [k] := by
  have e0 : sumQ 0 (tl.map fun j => newS (rowAt rows j) up lv - dueR (rowAt rows j) up lv) = 0 := by
    rw [List.map_congr_left (g := fun _ => (0 : Rat)) fun j hj => by rw [h2 j hj, Rat.sub_self]]
    induction tl with
    | nil => rfl
    | cons a l ih =>
      rw [List.map_cons, sumQ_cons, ih fun j hj => h2 j (List.mem_cons_of_mem _ hj)]
      exact Rat.zero_add _
  have e : exc rows up lv (k :: tl) = newS (rowAt rows k) up lv - dueR (rowAt rows k) up lv := by
    unfold exc
    rw [List.map_cons, sumQ_cons, e0, Rat.add_zero]
  unfold pickL
  rw [e, if_neg (by grind), if_pos (by grind), List.filter_cons_of_pos (by exact decide_eq_true h1)]
  congr 1
  exact List.filter_eq_nil_iff.mpr fun j hj => by rw [h2 j hj, decide_eq_false Rat.lt_irrefl]; decide
theorem pick_last {rows : List Row} {up : Bool} {lv : Rat} {k : Nat} (h2 : newS (rowAt rows k) up lv = dueR (rowAt rows k) up lv) : pickL rows up lv [k] = [k] := by
  have e : exc rows up lv [k] = 0 := by
    unfold exc
    rw [List.map_cons, List.map_nil, sumQ_cons, h2, Rat.sub_self]
    exact Rat.zero_add _
  unfold pickL
  rw [e, if_neg Rat.lt_irrefl, if_neg Rat.lt_irrefl]
theorem nxtH {n k : Nat} (h : k < n) : nxt (rowsH n) (whl n) true (fkH n k) = [(k, ((mstI n (n - 1 - k) : Int) : Rat))] := by
  have hk : k ≤ n := by omega
  have hv : 0 < hvy (n - k) := by
    rw [show n - k = (n - k - 1) + 1 by omega]
    exact hvy_pos
  have m0 : 0 ≤ mst n (n - k) := mst_nn (by omega)
  have at0 : rowAt (rowsH n) k = hrow n (n - 1 - k) := rowsH_at h
  unfold nxt
  rw [lvH hk, freeH hk]
  have efr : (List.range (n - k)).map (k + ·) = k :: ((List.range (n - k - 1)).map fun j => k + (j + 1)) := by
    rw [show n - k = (n - k - 1) + 1 by omega, List.range_succ_eq_map, List.map_cons, List.map_map]
    rw [show n - k - 1 + 1 - 1 = n - k - 1 by omega]
    rfl
  rw [efr]
  by_cases one : n - k = 1
  · rw [show n - k - 1 = 0 by omega, List.range_zero, List.map_nil]
    obtain ⟨_, b2⟩ := boxH (n := n) (i := n - 1 - k) (m := n - k) (by omega) hv m0
    rw [show n - 1 - k = 0 by omega] at *
    have eq := b2 (by rw [one]; decide)
    rw [← at0] at eq
    rw [pick_last eq, List.map_cons, List.map_nil, at0]
    congr 2
    rw [at0] at eq
    rw [eq, one]
    have e1 : mst n 1 = mstI n 0 := by rw [mst_succ]; unfold mst; simp [hvy, gps]
    have e2 : hvy 1 = 1 := rfl
    have e3 : wgt 0 = 1 := rfl
    unfold dueR
    rw [wgH, e1, e2, e3]
    show ((0 : Int) : Rat) + _ = _
    grind
  · obtain ⟨m, em⟩ : ∃ m, n - k = m + 2 := ⟨n - k - 2, by omega⟩
    obtain ⟨b1, _⟩ := boxH (n := n) (i := n - 1 - k) (m := n - k) (by omega) hv m0
    have c1 : gps (n - k) < 4 ^ (n - 1 - k) * hvy (n - k) := by
      rw [em, show n - 1 - k = m + 1 by omega]
      exact gps_lt m
    obtain ⟨n1, n2⟩ := b1 c1
    rw [← at0] at n1 n2
    rw [pick_head n2 fun j hj => ?_, List.map_cons, List.map_nil, n1]
    obtain ⟨x, hx, rfl⟩ := List.mem_map.mp hj
    have hx := List.mem_range.mp hx
    rw [rowsH_at (by omega)]
    refine (boxH (n := n) (i := n - 1 - (k + (x + 1))) (m := n - k) (by omega) hv m0).2 ?_
    rw [em]
    refine Nat.le_trans (Nat.mul_le_mul_right _ (Nat.pow_le_pow_right (by decide) ?_)) (gps_ge m)
    omega
theorem rgoH {n : Nat} : ∀ (q k : Nat), k ≤ n → n - k ≤ q → (rgo (rowsH n) (whl n) true q (fkH n k)).length = n - k
  | 0, k, h, hq => by
    show 0 = _
    omega
  | q + 1, k, h, hq => by
    have fl : (fkH n k).length = k := by unfold fkH; rw [List.length_map, List.length_range]
    show (if _ then _ else _ : List Fz).length = _
    rw [fl, rowsH_len]
    by_cases hk : k < n
    · rw [if_pos hk, List.length_cons, nxtH hk, ← fkH_succ, rgoH q (k + 1) (by omega) (by omega)]
      omega
    · rw [if_neg hk]
      show 0 = _
      omega
theorem growsH {n : Nat} : growsB (rowsH n) (whl n) = true := by
  unfold growsB
  refine decide_eq_true ?_
  have : ((rowsH n).map ownI).sum = 0 := by
    unfold rowsH
    rw [List.map_map]
    have : (List.range n).map (ownI ∘ fun k => hrow n (n - 1 - k)) = (List.range n).map fun _ => (0 : Int) := List.map_congr_left fun k hk => by
      have hk := List.mem_range.mp hk
      have := mstI_nn (n := n) (i := n - 1 - k) (by omega)
      show (if (0 : Int) < 0 then (0 : Int) else if mstI n (n - 1 - k) < 0 then mstI n (n - 1 - k) else 0) = 0
      rw [if_neg (by decide), if_neg (by omega)]
    rw [this]
    induction List.range n with
    | nil => rfl
    | cons a l ih => rw [List.map_cons, List.sum_cons, ih]; rfl
  rw [this]
  exact Rat.intCast_le_intCast.mpr (mst_nn (Nat.le_refl n))
theorem rndsH {n : Nat} : (rnds (rowsH n) (whl n) (growsB (rowsH n) (whl n))).length = n + 1 := by
  rw [growsH]
  unfold rnds
  rw [List.length_cons, f0H, rgoH _ _ (Nat.zero_le _) (by rw [rowsH_len]; omega), Nat.sub_zero]
theorem whl_sz {n : Nat} (hn : n ≤ 40) : Sz (whl n) 190 40 := by
  have h0 := mst_nn (Nat.le_refl n)
  have hv := hvy_small n hn
  have t : (4 : Int) ^ n ≤ (4 : Int) ^ 40 := four_le hn
  have a : (4 : Int) ^ n * (hvy n : Int) ≤ (4 : Int) ^ 40 * (500000 : Int) := Int.mul_le_mul t (by omega) (by omega) (by decide)
  have b : mst n n ≤ (4 : Int) ^ 40 * (500000 : Int) := by unfold mst; omega
  exact (int_sz _ (natAbs_lt (n := 190) h0 (Int.lt_of_le_of_lt b (by decide)))).mono (Nat.le_refl _) (Nat.zero_le _)
end Bx

namespace Bx
open PySem PySem.Spec PyProof.Rows L2 Z
local macro_rules | `(tactic| walk_at "zz") => `(tactic| simp only [zSeq, zAsg, zRet, zRetN, zIfS, zNext, zDrop, zPar, zVar, zC, zOp, zUn, zNeg, zI0, zI, zTest, zAnd, zOr, zNot, zAndV, zOrV, zNotV, zIf, zNil, zCons, zTup, zLst, zLstC, zgName, zgTup, zgCons, zgNil, zgSub, startZ, zCall, zCB, zChain, zIsN, zNotN, zNever,
  zAddA, zMulA, zRepeat, zCat, zIx, seqD, lstD, zMax2, zMin2, zAbs, zLen, zSum, zGcd, zInt, zYes, zBreak, zCont, zLc, ziR1, ziR2, ziList, ziTup, ziZip, ziEnum, wipeZ, zFor,
  at0, at1, at2, at3, at4, ix2_3, ix0_3, isNon_int, isNon_non, Bool.not_true, Bool.not_false,
  List.map_cons, List.map_nil, List.length_cons, List.length_nil, List.replicate_succ, List.replicate_zero, List.append_nil, List.nil_append, List.cons_append, List.getElem?_cons_zero, List.getElem?_cons_succ, List.set_cons_zero, List.set_cons_succ,
  Option.some.injEq, D.int.injEq, D.bl.injEq, D.tup.injEq, D.lst.injEq, D.str.injEq, D.cell.injEq, O.lst.injEq, reduceCtorEq, exists_eq_left', exists_eq_left, false_and, and_false, true_and, and_true, exists_false, or_false, false_or, exists_and_left, exists_eq', exists_and_right, List.cons.injEq, and_assoc, dec_not, dec_yes, t_t, t_f, f_t, f_f, true_implies, false_implies, implies_true, and_self, Nat.reduceAdd, Nat.reduceLeDiff, Nat.reduceSub, Nat.reduceLT])
local macro_rules | `(tactic| walk_at "zy") => `(tactic| try simp only [Option.some.injEq, D.int.injEq, D.bl.injEq, D.tup.injEq, D.lst.injEq, D.str.injEq, D.cell.injEq, O.lst.injEq, reduceCtorEq, exists_eq_left', exists_eq_left, false_and, and_false, true_and, and_true, exists_false, or_false, false_or, exists_and_left, exists_eq', exists_and_right, List.cons.injEq, and_assoc, dec_not, dec_yes, t_t, t_f, f_t, f_f, true_implies, false_implies, implies_true, and_self])
theorem rev_range (n : Nat) : (List.range n).reverse = (List.range n).map fun k => n - 1 - k := by
  refine List.ext_getElem (by simp) fun i h1 h2 => ?_
  rw [List.getElem_reverse, List.getElem_map, List.getElem_range, List.getElem_range, List.length_range]
section
variable {K : PySem.W.Frag} {C : CI} {Δ : Store} {P : D → Store → Prop}
theorem hardrow_ok (F : Kf K C) {n : Nat} (h1 : 1 ≤ n) (h40 : n ≤ 40) (h : P (.tup [.cell (Δ.length + 1), .int (mst n n)]) (Δ ++ [.lst ((List.range n).map fun i => boxD (hrow n i)), .lst ((rowsH n).map boxD)])) : W_hard_row K C [.int (n : Int)] Δ P := by
  unfold W_hard_row z_hard_row
  refine ⟨rfl, ?_⟩
  refine seq_cut fun rest hr' => ?_
  walk_at "zz"
  refine isint_i ⟨_, rfl, (fun q => nomatch q), fun _ => ⟨fun _ => ⟨fun q => ?_, fun q => ?_⟩, fun q => ?_⟩⟩
  · have q := q
    rw [decide_eq_true (by omega : (n : Int) ≤ 40)] at q
    cases q
  · subst hr'
    refine seq_cut fun rest hr' => ?_
    walk_at "zz"
    refine ⟨.l (by decide) (by decide), ⟨by omega, by omega, by decide⟩, ?_⟩
    have etop : (1 : Int) * 2 ^ (2 * (n : Int)).toNat = (4 : Int) ^ n := by
      rw [Int.one_mul, show (2 * (n : Int)).toNat = 2 * n by omega, Int.pow_mul]
      rfl
    rw [etop]
    subst hr'
    refine seq_cut fun rest hr' => ?_
    walk_at "zz"
    subst hr'
    refine seq_cut fun rest hr' => ?_
    refine for_cut fun body hB => ?_
    walk_at "zz"
    refine ⟨by omega, by omega, ?_⟩
    have st2 : ∀ (o x : O), (Δ ++ [o]).set Δ.length x = Δ ++ [x] := fun o x => by rw [List.set_append_right _ _ (Nat.le_refl _), Nat.sub_self]; rfl
    refine loop_inv (fun i Γ E => ∃ u6 u7 u8, E = Δ ++ [.lst ((List.range i).map fun i => boxD (hrow n i))] ∧ Γ = [some (.int (n : Int)), some (.int ((4 : Int) ^ n)), some (.cell Δ.length), some (.int (mst n i)), some (.int (hvy i : Int)), some (.int ((4 : Int) ^ i)), u6, u7, u8]) _ 0 _ _ ⟨none, none, none, rfl, rfl⟩ ?_ ?_
    · rintro i x Γ E Ze hx ⟨u6, u7, u8, rfl, rfl⟩ hnx _ _ _
      rw [Nat.zero_add] at *
      have hi : i < n := by
        have := (List.getElem?_eq_some_iff.mp hx).1
        rw [rangeD_nat, List.length_map, List.length_range] at this
        exact this
      have ok := hrow_ok hi h40
      have p4 : (4 : Int) ^ i ≤ (4 : Int) ^ n := four_le (by omega)
      have p40 : (4 : Int) ^ n ≤ (4 : Int) ^ 40 := four_le h40
      have pp : (0 : Int) < (4 : Int) ^ i := Int.pow_pos (by decide)
      have hv := hvy_small (i + 1) (by omega)
      have e2 : hvy (i + 1) = hvy i + wgt i := rfl
      have t2 : (4 : Int) ^ 40 = 1208925819614629174706176 := by decide
      subst hB
      simp only [zgName, List.set_cons_succ, List.set_cons_zero]
      refine seq_cut fun rest2 hr2 => ?_
      walk_at "zz"
      have ew : (if ((hvy i : Int) + 2) / 3 > 1 then ((hvy i : Int) + 2) / 3 else 1) = (wgt i : Int) := by
        unfold wgt
        split <;> omega
      refine ⟨wide_div (b := 8000) (by decide) (by decide) (by decide) (by decide), ?_⟩
      rw [ew]
      subst hr2
      refine seq_cut fun rest2 hr2 => ?_
      walk_at "zz"
      refine ⟨.l (by omega) (by omega), ?_⟩
      rw [show (wgt i : Int) * ((4 : Int) ^ n - (4 : Int) ^ i) = mstI n i from rfl]
      subst hr2
      refine seq_cut fun rest2 hr2 => ?_
      unfold zAppend zMakeK
      walk_at "zz"
      refine ⟨⟨_, last_at⟩, init_ok (r := hrow n i) ok ?_⟩
      refine ⟨rfl, rowL (hrow n i), by rw [F.nms], by rw [F.nms]; rfl, rfl, _, last_at, by rw [List.length_map, List.length_range]; omega, ?_⟩
      rw [st2]
      subst hr2
      refine seq_cut fun rest2 hr2 => ?_
      unfold zAug
      walk_at "zz"
      subst hr2
      refine seq_cut fun rest2 hr2 => ?_
      unfold zAug
      walk_at "zz"
      subst hr2
      walk_at "zz"
      refine ⟨.l (by decide) (by decide), ?_⟩
      refine hnx _ _ ⟨some x, some (.int (wgt i : Int)), some (.int (mstI n i)), ?_, ?_⟩
      · rw [List.range_succ, List.map_append]
        rfl
      · rw [mst_succ, hvy_succ, Int.natCast_add, Int.pow_succ, Int.mul_comm ((4 : Int) ^ i) 4]
    · rintro Γ E ⟨u6, u7, u8, rfl, rfl⟩
      rw [Nat.zero_add, rangeD_nat, List.length_map, List.length_range]
      show rest _ _
      subst hr'
      unfold zRevC
      walk_at "zz"
      refine ⟨_, by rw [last_at], ?_⟩
      have er : ((List.range n).map fun i => boxD (hrow n i)).reverse = (rowsH n).map boxD := by
        unfold rowsH
        rw [← List.map_reverse, List.map_map]
        rw [show (List.range n).reverse = (List.range n).map fun k => n - 1 - k from rev_range n, List.map_map]
        rfl
      rw [er, List.append_assoc, List.length_append]
      exact h
  · omega
end
end Bx

namespace Bx
open PySem PySem.Spec PyProof.Rows L2 Z
local macro_rules | `(tactic| walk_at "zz") => `(tactic| simp only [zSeq, zAsg, zRet, zRetN, zIfS, zNext, zDrop, zPar, zVar, zC, zOp, zUn, zNeg, zI0, zI, zTest, zAnd, zOr, zNot, zAndV, zOrV, zNotV, zIf, zNil, zCons, zTup, zLst, zLstC, zgName, zgTup, zgCons, zgNil, zgSub, startZ, zCall, zCB, zChain, zIsN, zNotN, zNever,
  zAddA, zMulA, zRepeat, zCat, zIx, seqD, lstD, zMax2, zMin2, zAbs, zLen, zSum, zGcd, zInt, zYes, zBreak, zCont, zLc, ziR1, ziR2, ziList, ziTup, ziZip, ziEnum, wipeZ, zFor,
  at0, at1, at2, at3, at4, ix2_3, ix0_3, isNon_int, isNon_non, Bool.not_true, Bool.not_false,
  List.map_cons, List.map_nil, List.length_cons, List.length_nil, List.replicate_succ, List.replicate_zero, List.append_nil, List.nil_append, List.cons_append, List.getElem?_cons_zero, List.getElem?_cons_succ, List.set_cons_zero, List.set_cons_succ,
  Option.some.injEq, D.int.injEq, D.bl.injEq, D.tup.injEq, D.lst.injEq, D.str.injEq, D.cell.injEq, O.lst.injEq, reduceCtorEq, exists_eq_left', exists_eq_left, false_and, and_false, true_and, and_true, exists_false, or_false, false_or, exists_and_left, exists_eq', exists_and_right, List.cons.injEq, and_assoc, dec_not, dec_yes, t_t, t_f, f_t, f_f, true_implies, false_implies, implies_true, and_self, Nat.reduceAdd, Nat.reduceLeDiff, Nat.reduceSub, Nat.reduceLT])
local macro_rules | `(tactic| walk_at "zy") => `(tactic| try simp only [Option.some.injEq, D.int.injEq, D.bl.injEq, D.tup.injEq, D.lst.injEq, D.str.injEq, D.cell.injEq, O.lst.injEq, reduceCtorEq, exists_eq_left', exists_eq_left, false_and, and_false, true_and, and_true, exists_false, or_false, false_or, exists_and_left, exists_eq', exists_and_right, List.cons.injEq, and_assoc, dec_not, dec_yes, t_t, t_f, f_t, f_f, true_implies, false_implies, implies_true, and_self])
section
variable {K : PySem.W.Frag} {C : CI} {Δ : Store} {P : D → Store → Prop}
theorem roundsL_ok (F : Kf K C) {rows : List Row} (h1 : rows ≠ []) (hl : rows.length ≤ 40) (hr : ∀ r ∈ rows, r.Ok) {W : Rat} {d : D} (hw : IsW W d) (h0 : 0 ≤ W) {N M : Nat} (hW : Sz W N M) (hNM : M + 150 ≤ N) (hN : N ≤ 3000) {bx : Nat} (hbx : Δ[bx]? = some (.lst (rows.map boxD))) (h : ∀ f : Fz, P (.cell (Δ.length + 1)) (Δ ++ [dctO (fzD f), .lst ((rnds rows W (growsB rows W)).map fun f => D.lst (keysI f))])) : W_rounds K C [.cell bx, d] Δ P := by
  have l0 := List.length_pos_iff.mpr h1
  have hbl := (List.getElem?_eq_some_iff.mp hbx).1
  have tb : Z.thaw Δ (.cell bx) = .lst (rows.map boxD) := by unfold Z.thaw; simp only [hbx]
  unfold W_rounds z_rounds
  refine ⟨rfl, ?_⟩
  refine seq_cut fun rest hr' => ?_
  unfold zCallB
  walk_at "zz"
  rw [tb]
  refine ⟨by show (belowL 0 (rows.map boxD) && true) = true; rw [below_boxes]; rfl, check_ok F h1 hl ⟨rfl, ?_⟩⟩
  subst hr'
  refine seq_cut fun rest hr' => ?_
  walk_at "zz"
  refine chkW_ok hw h0 ?_
  subst hr'
  refine seq_cut fun rest hr' => ?_
  walk_at "zz"
  refine asF_ok hw ?_
  subst hr'
  refine seq_cut fun rest hr' => ?_
  unfold zCallB
  walk_at "zz"
  rw [tb]
  refine ⟨by show (belowL 0 (rows.map boxD) && (true && true)) = true; rw [below_boxes]; rfl, ?_⟩
  show W_does_grow K C [.lst (rows.map boxD), frD W] [] _
  refine grows_ok F h1 hl hr hW (by omega) (by omega) (by omega) ⟨rfl, ?_⟩
  generalize growsB rows W = up at *
  subst hr'
  refine seq_cut fun rest hr' => ?_
  unfold zCallBDC lentDC
  walk_at "zz"
  rw [tb]
  refine ⟨by show (belowL 0 (rows.map boxD) && (true && true)) = true; rw [below_boxes]; rfl, ?_⟩
  show W_first_sizes K C [.lst (rows.map boxD), .bl up] [] _
  refine firstS_ok F hl ⟨0, rfl, _, dctOf_cell rfl, bare_fz _, ?_⟩
  subst hr'
  refine seq_cut fun rest hr' => ?_
  walk_at "zz"
  refine ⟨_, _, rfl, dctOf_cell last_at, fun ys hp hs => ?_⟩
  have i0 := Iv.first (up := up) hr
  have ek : (f0L rows up).map (·.1) = (List.range rows.length).filter fun i => fz0 (rowAt rows i) up := by
    unfold f0L
    rw [List.map_map]
    exact (List.map_congr_left fun i _ => rfl).trans (List.map_id _)
  rw [fzD_keys] at hp
  have ey := sort_keys (by rw [ek]; exact List.Pairwise.filter _ List.pairwise_lt_range) hp hs
  have g1 : ∀ (o o' : O), (Δ ++ [o, o'])[Δ.length]? = some o := fun o o' => by rw [List.getElem?_append_right (Nat.le_refl _), Nat.sub_self]; rfl
  have g2 : ∀ (o o' : O), (Δ ++ [o, o'])[Δ.length + 1]? = some o' := fun o o' => by rw [List.getElem?_append_right (by omega), show Δ.length + 1 - Δ.length = 1 by omega]; rfl
  have set1 : ∀ (o o' x : O), (Δ ++ [o, o']).set Δ.length x = Δ ++ [x, o'] := fun o o' x => by
    rw [List.set_append_right _ _ (Nat.le_refl _), Nat.sub_self]
    rfl
  have set2 : ∀ (o o' x : O), (Δ ++ [o, o']).set (Δ.length + 1) x = Δ ++ [o, x] := fun o o' x => by
    rw [List.set_append_right _ _ (by omega), show Δ.length + 1 - Δ.length = 1 by omega]
    rfl
  have st0 : rest [some (.cell bx), some d, some (frD W), some (.bl up), some (.cell Δ.length), some (.cell (Δ.length + 1)), none] (Δ ++ [dctO (fzD (f0L rows up)), .lst [.lst (keysI (f0L rows up))]]) := by
    subst hr'
    refine seq_cut fun rest hr' => ?_
    refine ⟨fun m Γ E => ∃ (f : Fz) (acc : List Fz) (k : Nat) (u6 : Option D), Iv rows up f ∧ m + f.length = rows.length ∧ m < k ∧ acc.length + m ≤ rows.length + 1 ∧ acc ++ rgo rows W up k f = rnds rows W up ∧ E = Δ ++ [dctO (fzD f), .lst (acc.map fun f => .lst (keysI f))] ∧ Γ = [some (.cell bx), some d, some (frD W), some (.bl up), some (.cell Δ.length), some (.cell (Δ.length + 1)), u6], ⟨rows.length - (f0L rows up).length, f0L rows up, [f0L rows up], rows.length + 1, none, i0, by have := i0.len; omega, by omega, by rw [List.length_singleton]; omega, rfl, rfl, rfl⟩, ?_⟩
    rintro m _ E ⟨f, acc, k, u6, iv, hm, hk, hal, hacc, rfl, rfl⟩
    walk_at "zz"
    refine ⟨_, _, rfl, dctOf_cell (g1 _ _), ?_⟩
    have flen : (fzD f).length = f.length := by unfold fzD; rw [List.length_map]
    have hbE : ∀ X : Store, (Δ ++ X)[bx]? = some (.lst (rows.map boxD)) := fun X => by rw [List.getElem?_append_left hbl]; exact hbx
    have tbE : ∀ X : Store, Z.thaw (Δ ++ X) (.cell bx) = .lst (rows.map boxD) := fun X => by unfold Z.thaw; simp only [hbE]
    rw [flen]
    refine ⟨_, by rw [hbE], ?_⟩
    rw [List.length_map]
    refine ⟨_, rfl, ?_⟩
    refine ⟨fun hlt => ?_, fun hge => ?_⟩
    · have hlt : f.length < rows.length := by omega
      have ivl := iv.len
      have hG : 0 < fsG rows up (freeL rows f) := fsG_pos (fun e => by rw [e] at ivl; simp at ivl; omega) fun i hi => iv.wpos hr hi
      unfold zCallBD lentD
      walk_at "zz"
      rw [thaw_fz (g1 _ _), tbE]
      refine ⟨by
        show (belowL 0 (rows.map boxD) && (true && (true && (belowL 0 ((fzD f).map (·.2)) && true)))) = true
        rw [below_boxes, below_fz]
        rfl, ?_⟩
      show W_next_sizes K C [.lst (rows.map boxD), frD W, .bl up, dctP (fzD f)] [] _
      refine nextS_ok F hl hr (iv.int hlt) (by omega) hW hNM hN hG fun m1 Δ1 hd => ⟨m1, rfl, _, hd, bare_fz _, ?_⟩
      unfold zUpdD
      walk_at "zz"
      have ivn := iv.next (W := W) hr hlt
      have nl := ivn.len
      rw [List.length_append] at nl
      have n0 : (nxt rows W up f).length ≠ 0 := fun e => by
        have e2 : pickL rows up (lvlR rows W up f) (freeL rows f) = [] := by rw [← nxt_keys, List.length_eq_zero_iff.mp e]; rfl
        exact pick_ne (fun e3 => by rw [e3] at ivl; simp at ivl; omega) e2
      have mrg : Z.mrgI (fzD f) (fzD (nxt rows W up f)) = fzD (f ++ nxt rows W up f) := by
        have hnd := ivn.nd
        rw [List.map_append, List.nodup_append] at hnd
        rw [mrg_new]
        · unfold fzD; rw [List.map_append]
        · intro p hp q hq
          obtain ⟨p', hp', rfl⟩ := List.mem_map.mp hp
          obtain ⟨q', hq', rfl⟩ := List.mem_map.mp hq
          have := hnd.2.2 q'.1 (List.mem_map.mpr ⟨q', hq', rfl⟩) p'.1 (List.mem_map.mpr ⟨p', hp', rfl⟩)
          show ((q'.1 : Nat) : Int) ≠ ((p'.1 : Nat) : Int)
          omega
        · rw [fzD_keys]
          exact nd_ints hnd.2.1
      have fl2 : (fzD (nxt rows W up f)).length = (nxt rows W up f).length := by unfold fzD; rw [List.length_map]
      refine ⟨⟨_, dctOf_cell (g1 _ _)⟩, _, dctOf_cell (g1 _ _), _, dctOf_dat, (fun m q => nomatch q), by rw [flen, fl2]; omega, ?_⟩
      rw [set1, mrg]
      unfold zAppend
      walk_at "zz"
      refine ⟨⟨_, g2 _ _⟩, _, _, rfl, dctOf_dat, fun ys hp2 hs2 => ?_⟩
      rw [fzD_keys] at hp2
      have ey2 := sort_keys (by rw [nxt_keys]; exact pick_asc free_asc) hp2 hs2
      obtain ⟨k', rfl⟩ : ∃ k', k = k' + 1 := ⟨k - 1, by omega⟩
      have hstep : rgo rows W up (k' + 1) f = nxt rows W up f :: rgo rows W up k' (f ++ nxt rows W up f) := by
        show (if _ then _ else _) = _
        rw [if_pos hlt]
      rw [hstep] at hacc
      refine ⟨_, g2 _ _, by rw [List.length_map]; omega, rows.length - (f ++ nxt rows W up f).length, by rw [List.length_append]; omega, f ++ nxt rows W up f, ivn, by rw [List.length_append]; omega, acc ++ [nxt rows W up f], k', by rw [List.length_append]; omega, by rw [List.length_append, List.length_append, List.length_singleton]; omega, by rw [List.append_assoc]; exact hacc, ?_⟩
      rw [set2, ey2, ← keysI_eq, List.map_append]
      rfl
    · have hge : ¬ f.length < rows.length := by omega
      have hend : rgo rows W up k f = [] := by
        cases k with
        | zero => rfl
        | succ k => show (if _ then _ else _) = _; rw [if_neg hge]
      rw [hend, List.append_nil] at hacc
      subst hr'
      walk_at "zz"
      rw [hacc]
      exact h _
  rw [ey, ← keysI_eq]
  show rest [some (.cell bx), some d, some (frD W), some (.bl up), some (.cell Δ.length), some (.cell (Δ ++ [dctO (fzD (f0L rows up))]).length), none] (Δ ++ [dctO (fzD (f0L rows up))] ++ [.lst [.lst (keysI (f0L rows up))]])
  rw [List.append_assoc, List.length_append]
  exact st0
end
end Bx

namespace Bx
open PySem PySem.Spec PyProof.Rows L2 Z
local macro_rules | `(tactic| walk_at "zz") => `(tactic| simp only [zSeq, zAsg, zRet, zRetN, zIfS, zNext, zDrop, zPar, zVar, zC, zOp, zUn, zNeg, zI0, zI, zTest, zAnd, zOr, zNot, zAndV, zOrV, zNotV, zIf, zNil, zCons, zTup, zLst, zLstC, zgName, zgTup, zgCons, zgNil, zgSub, startZ, zCall, zCB, zChain, zIsN, zNotN, zNever,
  zAddA, zMulA, zRepeat, zCat, zIx, seqD, lstD, zMax2, zMin2, zAbs, zLen, zSum, zGcd, zInt, zYes, zBreak, zCont, zLc, ziR1, ziR2, ziList, ziTup, ziZip, ziEnum, wipeZ, zFor,
  at0, at1, at2, at3, at4, ix2_3, ix0_3, isNon_int, isNon_non, Bool.not_true, Bool.not_false,
  List.map_cons, List.map_nil, List.length_cons, List.length_nil, List.replicate_succ, List.replicate_zero, List.append_nil, List.nil_append, List.cons_append, List.getElem?_cons_zero, List.getElem?_cons_succ, List.set_cons_zero, List.set_cons_succ,
  Option.some.injEq, D.int.injEq, D.bl.injEq, D.tup.injEq, D.lst.injEq, D.str.injEq, D.cell.injEq, O.lst.injEq, reduceCtorEq, exists_eq_left', exists_eq_left, false_and, and_false, true_and, and_true, exists_false, or_false, false_or, exists_and_left, exists_eq', exists_and_right, List.cons.injEq, and_assoc, dec_not, dec_yes, t_t, t_f, f_t, f_f, true_implies, false_implies, implies_true, and_self, Nat.reduceAdd, Nat.reduceLeDiff, Nat.reduceSub, Nat.reduceLT])
local macro_rules | `(tactic| walk_at "zy") => `(tactic| try simp only [Option.some.injEq, D.int.injEq, D.bl.injEq, D.tup.injEq, D.lst.injEq, D.str.injEq, D.cell.injEq, O.lst.injEq, reduceCtorEq, exists_eq_left', exists_eq_left, false_and, and_false, true_and, and_true, exists_false, or_false, false_or, exists_and_left, exists_eq', exists_and_right, List.cons.injEq, and_assoc, dec_not, dec_yes, t_t, t_f, f_t, f_f, true_implies, false_implies, implies_true, and_self])
theorem pds_is : ∀ ns : List Int, pds (ns.map D.int) = ns.map PyData.int
  | [] => rfl
  | n :: ns => by
    show pd (.int n) :: pds (ns.map D.int) = _
    rw [pds_is ns]
    rfl
theorem canLay_is : ∀ ns : List Int, PyData.canLayAll0 (ns.map PyData.int) = true
  | [] => rfl
  | n :: ns => by
    show (true && PyData.canLayAll0 (ns.map PyData.int)) = true
    rw [canLay_is ns]
    rfl
theorem depth_is : ∀ ns : List Int, PyData.depthAll (ns.map PyData.int) ≤ 0
  | [] => Nat.zero_le _
  | n :: ns => Nat.max_le.mpr ⟨Nat.le_refl 0, depth_is ns⟩
theorem plain_is : ∀ ns : List Int, plainDs (ns.map D.int) = true
  | [] => rfl
  | n :: ns => by
    show (plainD (.int n) && plainDs (ns.map D.int)) = true
    rw [plain_is ns]
    rfl
theorem shp_lists (fs : List Fz) : shp (.lst (fs.map fun f => D.lst (keysI f))) = true := by
  have h1 : plainDs (fs.map fun f => D.lst (keysI f)) = true := by
    induction fs with
    | nil => rfl
    | cons f fs ih =>
      show (plainDs (keysI f) && plainDs (fs.map fun f => D.lst (keysI f))) = true
      rw [ih, keysI_eq, plain_is]
      rfl
  have h2 : PyData.canLayAll0 (pds (fs.map fun f => D.lst (keysI f))) = true := by
    induction fs with
    | nil => rfl
    | cons f fs ih =>
      show (PyData.canLayAll0 (pds (keysI f)) && PyData.canLayAll0 (pds (fs.map fun f => D.lst (keysI f)))) = true
      rw [ih (by have := h1; exact (Bool.and_eq_true_iff.mp this).2), keysI_eq, pds_is, canLay_is]
      rfl
  have h3 : PyData.depthAll (pds (fs.map fun f => D.lst (keysI f))) ≤ 1 := by
    clear h1 h2
    induction fs with
    | nil => exact Nat.zero_le _
    | cons f fs ih =>
      show max (PyData.depthAll (pds (keysI f)) + 1) (PyData.depthAll (pds (fs.map fun f => D.lst (keysI f)))) ≤ 1
      rw [keysI_eq, pds_is]
      have := depth_is ((f.map (·.1)).map fun i : Nat => ((i : Nat) : Int))
      exact Nat.max_le.mpr ⟨by omega, ih⟩
  unfold shp SeqAt.shaped
  have g1 : plainD (.lst (fs.map fun f => D.lst (keysI f))) = true := h1
  have g2 : PyData.canLay0 (pd (.lst (fs.map fun f => D.lst (keysI f)))) = true := h2
  have g3 : (pd (.lst (fs.map fun f => D.lst (keysI f)))).depth ≤ 64 := by
    show PyData.depthAll (pds (fs.map fun f => D.lst (keysI f))) + 1 ≤ 64
    omega
  rw [g1, g2, decide_eq_true g3]
  rfl
theorem bare_rows : ∀ rows : List Row, bareTs (rows.map rowD) = true
  | [] => rfl
  | r :: rows => by
    have e : bareT (rowD r) = true := by
      unfold rowD
      cases r.m <;> rfl
    show (bareT (rowD r) && bareTs (rows.map rowD)) = true
    rw [e, bare_rows rows]
    rfl
section
variable {K : PySem.W.Frag} {C : CI} {Δ : Store} {P : D → Store → Prop}
theorem asked_is {W : Rat} (h : W.den = 1) : W = ((W.num : Int) : Rat) := by
  refine Rat.ext rfl ?_
  rw [h]
  rfl
theorem eqDI {i j : Int} (p : P (.bl (i == j)) Δ) : zEqD (.int i) (.int j) Δ P := ⟨rfl, rfl, p⟩
theorem neDI {i j : Int} (p : P (.bl (!(i == j))) Δ) : zNeD (.int i) (.int j) Δ P := ⟨rfl, rfl, p⟩
theorem eqD_same {d : D} (hs : shp d = true) : eqD d d = true := by
  unfold eqD
  rw [SeqAt.eqv_refl _ (SeqAt.canLay_of_shaped (Bool.and_eq_true_iff.mp hs).2)]
theorem ne_sameD {x y z : D} (h1 : Z.rdk Δ 3 x = z) (h2 : Z.rdk Δ 3 y = z) (hs : shp z = true) (p : P (.bl false) Δ) : zNeD x y Δ P := by
  refine ⟨by rw [h1]; exact hs, by rw [h2]; exact hs, ?_⟩
  rw [h1, h2, eqD_same hs]
  exact p
theorem eq_sameD {x y z : D} (h1 : Z.rdk Δ 3 x = z) (h2 : Z.rdk Δ 3 y = z) (hs : shp z = true) (p : P (.bl true) Δ) : zEqD x y Δ P := by
  refine ⟨by rw [h1]; exact hs, by rw [h2]; exact hs, ?_⟩
  rw [h1, h2, eqD_same hs]
  exact p
theorem rdk_keys {E : Store} {k : Nat} (f : Fz) : (keysI f).map (Z.rdk E k) = keysI f := by
  unfold keysI
  rw [List.map_map]
  refine List.map_congr_left fun p _ => ?_
  cases k <;> rfl
theorem rdk_lists {E : Store} (fs : List Fz) : (fs.map fun f => D.lst (keysI f)).map (Z.rdk E 2) = fs.map fun f => D.lst (keysI f) := by
  rw [List.map_map]
  refine List.map_congr_left fun f _ => ?_
  show D.lst ((keysI f).map (Z.rdk E 1)) = _
  rw [rdk_keys]
theorem rdk_cell {E : Store} {n k : Nat} {ds : List D} (h : E[n]? = some (.lst ds)) : Z.rdk E (k + 1) (.cell n) = .lst (ds.map (Z.rdk E k)) := by
  show (match E[n]? with | some (.lst ds) => D.lst (ds.map (Z.rdk E k)) | _ => D.cell n) = _
  rw [h]
theorem rdk_due {E : Store} {n : Nat} {fs : List Fz} (h : E[n]? = some (.lst (fs.map fun f => D.lst (keysI f)))) : Z.rdk E 3 (.cell n) = .lst (fs.map fun f => D.lst (keysI f)) := by
  rw [rdk_cell h, rdk_lists]
theorem rgo_len {rows : List Row} {W : Rat} {up : Bool} : ∀ (k : Nat) (f : Fz), (rgo rows W up k f).length ≤ k
  | 0, _ => Nat.le_refl _
  | k + 1, f => by
    show (if _ then _ else _ : List Fz).length ≤ _
    split
    · rw [List.length_cons]
      have := rgo_len (rows := rows) (W := W) (up := up) k (f ++ nxt rows W up f)
      omega
    · exact Nat.zero_le _
theorem rgo_ok {rows : List Row} {W : Rat} {up : Bool} (hr : ∀ r ∈ rows, r.Ok) : ∀ (k : Nat) (f : Fz), Iv rows up f → ∀ g ∈ rgo rows W up k f, (∀ p ∈ g, p.1 < rows.length) ∧ g.length ≤ rows.length
  | 0, _, _, g, hg => nomatch hg
  | k + 1, f, iv, g, hg => by
    by_cases hlt : f.length < rows.length
    · have e : rgo rows W up (k + 1) f = nxt rows W up f :: rgo rows W up k (f ++ nxt rows W up f) := by
        show (if _ then _ else _) = _
        rw [if_pos hlt]
      rw [e] at hg
      have ivn := iv.next (W := W) hr hlt
      rcases List.mem_cons.mp hg with rfl | hg
      · refine ⟨fun p hp => ivn.lt p (List.mem_append_right _ hp), ?_⟩
        have := ivn.len
        rw [List.length_append] at this
        omega
      · exact rgo_ok hr k _ ivn g hg
    · have e : rgo rows W up (k + 1) f = [] := by
        show (if _ then _ else _) = _
        rw [if_neg hlt]
      rw [e] at hg
      cases hg
theorem rnds_ok {rows : List Row} {W : Rat} {up : Bool} (hr : ∀ r ∈ rows, r.Ok) : ∀ g ∈ rnds rows W up, (∀ p ∈ g, p.1 < rows.length) ∧ g.length ≤ rows.length := fun g hg => by
  have i0 := Iv.first (up := up) hr
  rcases List.mem_cons.mp hg with rfl | hg
  · have := i0.len
    exact ⟨i0.lt, by omega⟩
  · exact rgo_ok hr _ _ i0 g hg
theorem right_ok (F : Kf K C) {n : Nat} (h1 : 1 ≤ n) (h40 : n ≤ 40) (p : ∀ E', (∀ m, m < Δ.length → E'[m]? = Δ[m]?) → P (.bl true) E') : W__law_right K C [.int (n : Int)] Δ P := by
  have hne : rowsH n ≠ [] := fun e => by have := rowsH_len (n := n); rw [e] at this; simp at this; omega
  have hl : (rowsH n).length ≤ 40 := by rw [rowsH_len]; exact h40
  have hr := rowsH_ok h40
  have w0 : (0 : Rat) ≤ whl n := Rat.intCast_nonneg.mpr (mst_nn (Nat.le_refl n))
  unfold W__law_right z__law_right
  refine ⟨rfl, ?_⟩
  refine seq_cut fun rest hr' => ?_
  walk_at "zz"
  refine hardrow_ok F h1 h40 ?_
  generalize hX : ([.lst ((List.range n).map fun i => boxD (hrow n i)), .lst ((rowsH n).map boxD)] : Store) = X1 at *
  have hbx : ∀ Y : Store, (Δ ++ X1 ++ Y)[Δ.length + 1]? = some (.lst ((rowsH n).map boxD)) := fun Y => by rw [← hX, List.append_assoc, List.getElem?_append_right (by omega), show Δ.length + 1 - Δ.length = 1 by omega]; rfl
  have hbx0 : (Δ ++ X1)[Δ.length + 1]? = some (.lst ((rowsH n).map boxD)) := by have := hbx []; rw [List.append_nil] at this; exact this
  have old : ∀ m, m < Δ.length → (Δ ++ X1)[m]? = Δ[m]? := fun m hm => List.getElem?_append_left hm
  have oldl : Δ.length ≤ (Δ ++ X1).length := by rw [List.length_append]; omega
  have obx : Δ.length < Δ.length + 1 := by omega
  generalize hE : Δ ++ X1 = E at *
  generalize hbb : Δ.length + 1 = bx at hbx hbx0 obx ⊢
  subst hr'
  refine seq_cut fun rest hr' => ?_
  walk_at "zz"
  refine isi_ty (r := true) rfl (by decide +kernel) ⟨_, rfl, (fun q => nomatch q), fun _ => ?_⟩
  refine neDI ⟨_, rfl, (fun q => nomatch q), fun _ => ?_⟩
  have tyc : tyD C E (.cell bx) = some (.type "list") := by
    unfold tyD
    simp only [hbx0]
  refine isi_ty (r := true) tyc (by decide +kernel) ⟨_, rfl, (fun q => nomatch q), fun _ => ?_⟩
  subst hr'
  refine seq_cut fun rest hr' => ?_
  refine ⟨_, rfl, _, rfl, rfl, _, _, rfl, _, _, rfl, rfl, ?_⟩
  simp only [List.set_cons_succ, List.set_cons_zero]
  subst hr'
  refine seq_cut fun rest hr' => ?_
  walk_at "zz"
  refine isi_ty (r := false) rfl (by decide +kernel) ⟨_, rfl, (fun q => nomatch q), fun _ => ?_⟩
  refine isi_ty (r := true) rfl (by decide +kernel) ⟨_, rfl, (fun q => nomatch q), fun _ => ?_⟩
  have mn := mst_nn (Nat.le_refl n)
  refine ⟨fun q => by omega, fun _ => ⟨_, by rw [hbx0], ?_⟩⟩
  rw [List.length_map, rowsH_len]
  refine neDI ⟨_, rfl, fun q => by simp at q, fun _ => ?_⟩
  have l1 : lent1 E (some (.cell bx)) = some (.lst ((rowsH n).map boxD)) := by
    have t1 : Z.thaw E (.cell bx) = .lst ((rowsH n).map boxD) := by unfold Z.thaw; simp only [hbx0]
    unfold lent1
    simp only [t1]
    exact if_pos (below_boxes _)
  have l2 : lent1 [] (some (D.lst ((rowsH n).map boxD))) = some (.lst ((rowsH n).map boxD)) := if_pos (below_boxes _)
  subst hr'
  refine seq_cut fun rest hr' => ?_
  unfold zIfS zLendT zLendL zLcC
  walk_at "zz"
  rw [l1, l2]
  refine ⟨_, rfl, .inl ⟨_, rfl, ?_⟩⟩
  refine comp_fm (g := boxD) (f := boxD) (p := fun _ => false) (rowsH n) [] (by rw [rowsH_len]; simp; omega) (fun r hm Q1 Q2 q1 q2 => ?_) ?_
  · walk_at "zz"
    exact isi_own F.isi rfl ⟨_, rfl, (fun q => nomatch q), fun _ => q2 rfl⟩
  rw [List.nil_append, show ((rowsH n).filter fun _ => false) = [] from List.filter_eq_nil_iff.mpr (fun _ _ => by decide)]
  refine ⟨_, rfl, 0, rfl, _, rfl, rfl, ne_sameD (z := .lst []) rfl rfl rfl ⟨_, rfl, (fun q => nomatch q), fun _ => ?_⟩⟩
  subst hr'
  refine seq_cut fun rest hr' => ?_
  unfold zLendL zLcC zProp
  walk_at "zz"
  rw [l1]
  refine ⟨_, rfl, .inl ⟨_, rfl, ?_⟩⟩
  refine comp_map (g := boxD) (f := rowD) (rowsH n) [] (by rw [rowsH_len]; simp; omega) (fun r hm Q q => ?_) ?_
  · walk_at "zz"
    refine ⟨ins_box, wish_ok F ⟨ins_box, least_ok F ⟨ins_box, most_ok F ⟨ins_box, grow_ok F ⟨ins_box, shrink_ok F ?_⟩⟩⟩⟩⟩
    exact q
  rw [List.nil_append]
  refine ⟨_, rfl, 0, rfl, _, rfl, bare_rows _, ?_⟩
  subst hr'
  refine seq_cut fun rest hr' => ?_
  walk_at "zz"
  rw [show D.tup [D.int (mst n n), D.int 1] = frD (whl n) from rfl]
  refine lrounds_ok hl hr (whl_sz h40) (by decide) (by decide) fun f iv hge gd => ?_
  refine ⟨_, rfl, rfl, _, _, rfl, _, _, rfl, rfl, ?_⟩
  subst hr'
  refine seq_cut fun rest hr' => ?_
  walk_at "zz"
  have hbl := (List.getElem?_eq_some_iff.mp hbx0).1
  have g1 : ∀ o o' : O, (E ++ [o, o'])[E.length + 1]? = some o' := fun o o' => by rw [List.getElem?_append_right (by omega), show E.length + 1 - E.length = 1 by omega]; rfl
  refine ⟨_, by rw [g1], ?_⟩
  rw [List.length_map, rndsH]
  refine neDI ⟨_, rfl, fun q => by simp at q, fun _ => ?_⟩
  generalize hS : E ++ [dctO (fzD f), .lst ((rnds (rowsH n) (whl n) (growsB (rowsH n) (whl n))).map fun f => D.lst (keysI f))] = S2 at *
  have hb2 : S2[bx]? = some (.lst ((rowsH n).map boxD)) := by rw [← hS, List.getElem?_append_left hbl]; exact hbx0
  have hd2 : S2[E.length + 1]? = some (.lst ((rnds (rowsH n) (whl n) (growsB (rowsH n) (whl n))).map fun f => D.lst (keysI f))) := by rw [← hS]; exact g1 _ _
  have hl2 := (List.getElem?_eq_some_iff.mp hb2).1
  have hl3 := (List.getElem?_eq_some_iff.mp hd2).1
  refine roundsL_ok F hne hl hr (.int (mst n n) rfl) w0 (whl_sz h40) (by decide) (by decide) hb2 fun f2 => ?_
  have g2 : ∀ o o' : O, (S2 ++ [o, o'])[S2.length + 1]? = some o' := fun o o' => by rw [List.getElem?_append_right (by omega), show S2.length + 1 - S2.length = 1 by omega]; rfl
  refine ne_sameD (rdk_due (g2 _ _)) (rdk_due (by rw [List.getElem?_append_left hl3]; exact hd2)) (shp_lists _) ⟨_, rfl, (fun q => nomatch q), fun _ => ?_⟩
  subst hr'
  refine seq_cut fun rest hr' => ?_
  unfold zAppend
  walk_at "zz"
  have hb3 : ∀ Y : Store, (S2 ++ Y)[bx]? = some (.lst ((rowsH n).map boxD)) := fun Y => by rw [List.getElem?_append_left hl2]; exact hb2
  refine ⟨⟨_, hb3 _⟩, _, hb3 _, by rw [List.length_map, rowsH_len]; omega, ?_⟩
  have old2 : ∀ (Y : Store) (o : O) (m : Nat), m < Δ.length → ((S2 ++ Y).set bx o)[m]? = Δ[m]? := fun Y o m hm => by
    rw [List.getElem?_set_ne (by omega), List.getElem?_append_left (by rw [← hS, List.length_append]; omega), ← hS, List.getElem?_append_left (by omega)]
    exact old m hm
  have len2 : ∀ (Y : Store) (o : O), Δ.length ≤ ((S2 ++ Y).set bx o).length := fun Y o => by
    rw [List.length_set, List.length_append, ← hS, List.length_append]
    omega
  generalize hE5 : ([dctO (fzD f2), .lst ((rnds (rowsH n) ((mst n n : Int) : Rat) (growsB (rowsH n) ((mst n n : Int) : Rat))).map fun f => D.lst (keysI f))] : Store) = Y5 at *
  generalize hE6 : (S2 ++ Y5).set bx (.lst (((rowsH n).map boxD) ++ [.non])) = S6 at *
  subst hr'
  walk_at "zz"
  refine hardrow_ok F h1 h40 ?_
  refine ⟨_, rfl, _, atI_nat (j := 0) rfl, ?_⟩
  have e6 : ∀ o o' : O, (S6 ++ [o, o'])[S6.length + 1]? = some o' := fun o o' => by rw [List.getElem?_append_right (by omega), show S6.length + 1 - S6.length = 1 by omega]; rfl
  refine ⟨(rowsH n).map boxD, by simp only [e6], ?_⟩
  rw [List.length_map, rowsH_len]
  refine eqDI ?_
  rw [show ((n : Int) == (n : Int)) = true by simp]
  refine p _ fun m hm => ?_
  rw [List.getElem?_append_left (by rw [← hE6]; exact Nat.lt_of_lt_of_le hm (len2 _ _)), ← hE6]
  exact old2 _ _ m hm
end
end Bx

namespace Bx
open PySem PySem.Spec PyProof.Rows L2 Z
local macro_rules | `(tactic| walk_at "zz") => `(tactic| simp only [zSeq, zAsg, zRet, zRetN, zIfS, zNext, zDrop, zPar, zVar, zC, zOp, zUn, zNeg, zI0, zI, zTest, zAnd, zOr, zNot, zAndV, zOrV, zNotV, zIf, zNil, zCons, zTup, zLst, zLstC, zgName, zgTup, zgCons, zgNil, zgSub, startZ, zCall, zCB, zChain, zIsN, zNotN, zNever,
  zAddA, zMulA, zRepeat, zCat, zIx, seqD, lstD, zMax2, zMin2, zAbs, zLen, zSum, zGcd, zInt, zYes, zBreak, zCont, zLc, ziR1, ziR2, ziList, ziTup, ziZip, ziEnum, wipeZ, zFor,
  at0, at1, at2, at3, at4, ix2_3, ix0_3, isNon_int, isNon_non, Bool.not_true, Bool.not_false,
  List.map_cons, List.map_nil, List.length_cons, List.length_nil, List.replicate_succ, List.replicate_zero, List.append_nil, List.nil_append, List.cons_append, List.getElem?_cons_zero, List.getElem?_cons_succ, List.set_cons_zero, List.set_cons_succ,
  Option.some.injEq, D.int.injEq, D.bl.injEq, D.tup.injEq, D.lst.injEq, D.str.injEq, D.cell.injEq, O.lst.injEq, reduceCtorEq, exists_eq_left', exists_eq_left, false_and, and_false, true_and, and_true, exists_false, or_false, false_or, exists_and_left, exists_eq', exists_and_right, List.cons.injEq, and_assoc, dec_not, dec_yes, t_t, t_f, f_t, f_f, true_implies, false_implies, implies_true, and_self, Nat.reduceAdd, Nat.reduceLeDiff, Nat.reduceSub, Nat.reduceLT])
local macro_rules | `(tactic| walk_at "zy") => `(tactic| try simp only [Option.some.injEq, D.int.injEq, D.bl.injEq, D.tup.injEq, D.lst.injEq, D.str.injEq, D.cell.injEq, O.lst.injEq, reduceCtorEq, exists_eq_left', exists_eq_left, false_and, and_false, true_and, and_true, exists_false, or_false, false_or, exists_and_left, exists_eq', exists_and_right, List.cons.injEq, and_assoc, dec_not, dec_yes, t_t, t_f, f_t, f_f, true_implies, false_implies, implies_true, and_self])
theorem comp_any {zg : ZG} {ze : ZE} {Γ0 : Z.Env} {P : D → Store → Prop} {I : Store → Prop} {J : D → Prop} : ∀ (xs acc : List D) (E : Store), I E → (∀ d ∈ acc, J d) → acc.length + xs.length ≤ 100000 → (∀ x ∈ xs, ∀ E, I E → ∀ Q : D → Store → Prop, (∀ d E', J d → I E' → Q d E') → zg x Γ0 E fun Γ2 Δ2 => ze Γ2 Δ2 Q) → (∀ (ds : List D) E', (∀ d ∈ ds, J d) → ds.length = acc.length + xs.length → I E' → P (.lst ds) E') → compZ zg zYes ze Γ0 P xs acc E
  | [], acc, E, hI, hJ, _, _, h => h acc E hJ rfl hI
  | x :: xs, acc, E, hI, hJ, hl, hs, h => by
    have hl' : acc.length + (xs.length + 1) ≤ 100000 := by simpa using hl
    show zg x Γ0 E fun Γ2 Δ2 => (true = true → ze Γ2 Δ2 fun y Δ4 => acc.length < 100000 ∧ compZ zg zYes ze Γ0 P xs (acc ++ [y]) Δ4) ∧ (true = false → compZ zg zYes ze Γ0 P xs acc Δ2)
    simp only [true_implies, reduceCtorEq, false_implies, and_true]
    refine hs x List.mem_cons_self E hI _ fun d E' hd hI' => ⟨by omega, ?_⟩
    refine comp_any (I := I) (J := J) xs (acc ++ [d]) E' hI' (fun y hy => ?_) (by rw [List.length_append]; simp; omega) (fun y hy => hs y (List.mem_cons_of_mem _ hy)) fun ds E2 h1 h2 h3 => h ds E2 h1 (by rw [h2, List.length_append]; simp; omega) h3
    rcases List.mem_append.mp hy with hy | hy
    · exact hJ y hy
    · rw [List.mem_singleton] at hy
      rw [hy]
      exact hd
theorem comp_none {zg : ZG} {zt : ZT} {ze : ZE} {Γ0 : Z.Env} {P : D → Store → Prop} : ∀ (xs acc : List D) (E : Store), (∀ x ∈ xs, ∀ E, ∀ (R : Z.Env → Store → Prop) (Q2 : Store → Prop), (∀ E', Q2 E') → zg x Γ0 E fun Γ2 Δ2 => zt Γ2 Δ2 fun b Δ3 => (b = true → R Γ2 Δ3) ∧ (b = false → Q2 Δ3)) → (∀ E', P (.lst acc) E') → compZ zg zt ze Γ0 P xs acc E
  | [], acc, E, _, h => h E
  | x :: xs, acc, E, hs, h => by
    refine hs x List.mem_cons_self E (fun Γ2 Δ3 => ze Γ2 Δ3 fun y Δ4 => acc.length < 100000 ∧ compZ zg zt ze Γ0 P xs (acc ++ [y]) Δ4) (fun Δ3 => compZ zg zt ze Γ0 P xs acc Δ3) fun E' => ?_
    exact comp_none xs acc E' (fun y hy => hs y (List.mem_cons_of_mem _ hy)) h
section
variable {K : PySem.W.Frag} {C : CI} {Δ : Store}
theorem law_ok (F : Kf K C) {ns : List Int} (hl : ns.length ≤ 63) : W_law K C [.scr ns] [] fun d _ => d = .bl true := by
  unfold W_law z_law
  refine ⟨rfl, seq_cut fun rest hr' => ?_⟩
  unfold zCatS
  walk_at "zz"
  obtain ⟨c, hc⟩ : ∃ c : Int, (ns.map D.int ++ [D.int 0])[0]? = some (.int c) := by
    cases ns with
    | nil => exact ⟨0, rfl⟩
    | cons a l => exact ⟨a, rfl⟩
  refine ⟨ns, rfl, by omega, _, atI_nat (j := 0) hc, bag_ok fun Δ1 e1 hb1 => ?_⟩
  generalize ([] : Store).length = n at *
  subst hr'
  refine seq_cut fun rest hr' => ?_
  walk_at "zz"
  refine ⟨by decide, by decide, ?_⟩
  refine comp_any (I := fun E => BagAt E n) (J := fun d => ∃ k : Nat, d = .int (k : Int) ∧ 1 ≤ k ∧ k ≤ 40) _ [] Δ1 hb1 (fun _ q => absurd q List.not_mem_nil) (by decide) (fun x hx E hE Q q => ?_) fun ds E hd hlen hE => ?_
  · walk_at "zz"
    refine pick_ok hE (by decide) (sm (by decide) (by decide)) fun a E2 a0 a1 b2 o2 => ?_
    refine ⟨_, rfl, q _ _ ⟨(1 + a).toNat, ?_, by omega, by omega⟩ b2⟩
    congr 1
    omega
  · refine ⟨ds, rfl, by rw [hlen]; decide, ?_⟩
    have all : ∀ d ∈ (D.int 1 :: D.int 2 :: D.int 3 :: D.int 40 :: ds), ∃ k : Nat, d = .int (k : Int) ∧ 1 ≤ k ∧ k ≤ 40 := fun d hm => by
      rcases List.mem_cons.mp hm with rfl | hm
      · exact ⟨1, rfl, by decide, by decide⟩
      rcases List.mem_cons.mp hm with rfl | hm
      · exact ⟨2, rfl, by decide, by decide⟩
      rcases List.mem_cons.mp hm with rfl | hm
      · exact ⟨3, rfl, by decide, by decide⟩
      rcases List.mem_cons.mp hm with rfl | hm
      · exact ⟨40, rfl, by decide, by decide⟩
      exact hd d hm
    generalize (D.int 1 :: D.int 2 :: D.int 3 :: D.int 40 :: ds) = all4 at *
    subst hr'
    walk_at "zz"
    refine comp_none all4 [] E (fun x hx E5 R Q2 q2 => ?_) fun E5 => ?_
    · obtain ⟨k, rfl, k1, k2⟩ := all x hx
      simp only [zgName, List.set_cons_succ, List.set_cons_zero]
      walk_at "zz"
      exact right_ok F k1 k2 fun E6 _ => ⟨true, rfl, (fun q => nomatch q), fun _ => q2 E6⟩
    · exact eq_sameD (z := .lst []) rfl rfl rfl rfl
end
end Bx

namespace Bx
open PySem PySem.Spec PyProof.Rows L2 Z
/-! ### what the top has written -/
structure Ad where
  f__law_bag : Addr
  d__law_bag : FuncData
  f__law_pick : Addr
  d__law_pick : FuncData
  f_is_int : Addr
  d_is_int : FuncData
  f_in_bounds : Addr
  d_in_bounds : FuncData
  f_are_box_numbers : Addr
  d_are_box_numbers : FuncData
  f_Box_d_init_d : Addr
  d_Box_d_init_d : FuncData
  f_hard_row : Addr
  d_hard_row : FuncData
  f_Box_wish : Addr
  d_Box_wish : FuncData
  f_Box_least : Addr
  d_Box_least : FuncData
  f_Box_most : Addr
  d_Box_most : FuncData
  f_Box_grow : Addr
  d_Box_grow : FuncData
  f_Box_shrink : Addr
  d_Box_shrink : FuncData
  f__law_order : Addr
  d__law_order : FuncData
  f__law_limited : Addr
  d__law_limited : FuncData
  f__law_own : Addr
  d__law_own : FuncData
  f__law_begin : Addr
  d__law_begin : FuncData
  f__law_ratio : Addr
  d__law_ratio : FuncData
  f__law_minus : Addr
  d__law_minus : FuncData
  f__law_add : Addr
  d__law_add : FuncData
  f__law_may : Addr
  d__law_may : FuncData
  f__law_rounds : Addr
  d__law_rounds : FuncData
  f_check_boxes : Addr
  d_check_boxes : FuncData
  f_is_fraction : Addr
  d_is_fraction : FuncData
  f_is_rational : Addr
  d_is_rational : FuncData
  f_as_fraction : Addr
  d_as_fraction : FuncData
  f_check_width : Addr
  d_check_width : FuncData
  f_order : Addr
  d_order : FuncData
  f_limited : Addr
  d_limited : FuncData
  f_Box_own : Addr
  d_Box_own : FuncData
  f_own_width : Addr
  d_own_width : FuncData
  f_does_grow : Addr
  d_does_grow : FuncData
  f_weight_of : Addr
  d_weight_of : FuncData
  f_is_frozen_first : Addr
  d_is_frozen_first : FuncData
  f_first_sizes : Addr
  d_first_sizes : FuncData
  f_lowest : Addr
  d_lowest : FuncData
  f_plus : Addr
  d_plus : FuncData
  f_minus : Addr
  d_minus : FuncData
  f_common_level : Addr
  d_common_level : FuncData
  f_next_sizes : Addr
  d_next_sizes : FuncData
  f_rounds : Addr
  d_rounds : FuncData
  f__law_right : Addr
  d__law_right : FuncData
  f_law : Addr
  d_law : FuncData
  c_Box : Addr
  p_Box_wish : Addr
  p_Box_least : Addr
  p_Box_most : Addr
  p_Box_grow : Addr
  p_Box_shrink : Addr
  p_Box_own : Addr
def adrOf (q : Ad) : Nat → Addr
  | 0 => q.c_Box
  | _ => 0
abbrev CIof (q : Ad) : CI := ⟨adrOf q, nmsOf⟩
structure Tx (K : PySem.W.Frag) (mg : Str → Option Value) (q : Ad) : Prop where
  F__law_bag : Fun K "_law_bag" "_law_bag" s__law_bag q.f__law_bag q.d__law_bag
  b__law_bag : Binds K q.d__law_bag ["cell"] []
  m__law_bag : mg "_law_bag" = some (.ref q.f__law_bag)
  F__law_pick : Fun K "_law_pick" "_law_pick" s__law_pick q.f__law_pick q.d__law_pick
  b__law_pick : Binds K q.d__law_pick ["bag", "many"] []
  m__law_pick : mg "_law_pick" = some (.ref q.f__law_pick)
  F_is_int : Fun K "is_int" "is_int" s_is_int q.f_is_int q.d_is_int
  b_is_int : Binds K q.d_is_int ["value"] []
  m_is_int : mg "is_int" = some (.ref q.f_is_int)
  F_in_bounds : Fun K "in_bounds" "in_bounds" s_in_bounds q.f_in_bounds q.d_in_bounds
  b_in_bounds : Binds K q.d_in_bounds ["value", "top"] []
  m_in_bounds : mg "in_bounds" = some (.ref q.f_in_bounds)
  F_are_box_numbers : Fun K "are_box_numbers" "are_box_numbers" s_are_box_numbers q.f_are_box_numbers q.d_are_box_numbers
  b_are_box_numbers : Binds K q.d_are_box_numbers ["wish", "least", "most", "grow", "shrink"] []
  m_are_box_numbers : mg "are_box_numbers" = some (.ref q.f_are_box_numbers)
  F_Box_d_init_d : FunZ K "__init__" "Box.__init__" s_Box_d_init_d q.f_Box_d_init_d q.d_Box_d_init_d
  b_Box_d_init_d : Binds K q.d_Box_d_init_d ["self", "wish", "least", "most", "grow", "shrink"] []
  F_hard_row : Fun K "hard_row" "hard_row" s_hard_row q.f_hard_row q.d_hard_row
  b_hard_row : Binds K q.d_hard_row ["number"] []
  m_hard_row : mg "hard_row" = some (.ref q.f_hard_row)
  F_Box_wish : Fun K "wish" "Box.wish" s_Box_wish q.f_Box_wish q.d_Box_wish
  b_Box_wish : Binds K q.d_Box_wish ["self"] []
  F_Box_least : Fun K "least" "Box.least" s_Box_least q.f_Box_least q.d_Box_least
  b_Box_least : Binds K q.d_Box_least ["self"] []
  F_Box_most : Fun K "most" "Box.most" s_Box_most q.f_Box_most q.d_Box_most
  b_Box_most : Binds K q.d_Box_most ["self"] []
  F_Box_grow : Fun K "grow" "Box.grow" s_Box_grow q.f_Box_grow q.d_Box_grow
  b_Box_grow : Binds K q.d_Box_grow ["self"] []
  F_Box_shrink : Fun K "shrink" "Box.shrink" s_Box_shrink q.f_Box_shrink q.d_Box_shrink
  b_Box_shrink : Binds K q.d_Box_shrink ["self"] []
  F__law_order : Fun K "_law_order" "_law_order" s__law_order q.f__law_order q.d__law_order
  b__law_order : Binds K q.d__law_order ["one", "two"] []
  m__law_order : mg "_law_order" = some (.ref q.f__law_order)
  F__law_limited : Fun K "_law_limited" "_law_limited" s__law_limited q.f__law_limited q.d__law_limited
  b__law_limited : Binds K q.d__law_limited ["number", "row"] []
  m__law_limited : mg "_law_limited" = some (.ref q.f__law_limited)
  F__law_own : Fun K "_law_own" "_law_own" s__law_own q.f__law_own q.d__law_own
  b__law_own : Binds K q.d__law_own ["row"] []
  m__law_own : mg "_law_own" = some (.ref q.f__law_own)
  F__law_begin : Fun K "_law_begin" "_law_begin" s__law_begin q.f__law_begin q.d__law_begin
  b__law_begin : Binds K q.d__law_begin ["rows", "width"] []
  m__law_begin : mg "_law_begin" = some (.ref q.f__law_begin)
  F__law_ratio : Fun K "_law_ratio" "_law_ratio" s__law_ratio q.f__law_ratio q.d__law_ratio
  b__law_ratio : Binds K q.d__law_ratio ["above", "below"] []
  m__law_ratio : mg "_law_ratio" = some (.ref q.f__law_ratio)
  F__law_minus : Fun K "_law_minus" "_law_minus" s__law_minus q.f__law_minus q.d__law_minus
  b__law_minus : Binds K q.d__law_minus ["one", "two"] []
  m__law_minus : mg "_law_minus" = some (.ref q.f__law_minus)
  F__law_add : Fun K "_law_add" "_law_add" s__law_add q.f__law_add q.d__law_add
  b__law_add : Binds K q.d__law_add ["one", "two"] []
  m__law_add : mg "_law_add" = some (.ref q.f__law_add)
  F__law_may : Fun K "_law_may" "_law_may" s__law_may q.f__law_may q.d__law_may
  b__law_may : Binds K q.d__law_may ["rows", "up", "width", "frozen"] []
  m__law_may : mg "_law_may" = some (.ref q.f__law_may)
  F__law_rounds : Fun K "_law_rounds" "_law_rounds" s__law_rounds q.f__law_rounds q.d__law_rounds
  b__law_rounds : Binds K q.d__law_rounds ["rows", "width"] []
  m__law_rounds : mg "_law_rounds" = some (.ref q.f__law_rounds)
  F_check_boxes : Fun K "check_boxes" "check_boxes" s_check_boxes q.f_check_boxes q.d_check_boxes
  b_check_boxes : Binds K q.d_check_boxes ["boxes"] []
  m_check_boxes : mg "check_boxes" = some (.ref q.f_check_boxes)
  F_is_fraction : Fun K "is_fraction" "is_fraction" s_is_fraction q.f_is_fraction q.d_is_fraction
  b_is_fraction : Binds K q.d_is_fraction ["value"] []
  m_is_fraction : mg "is_fraction" = some (.ref q.f_is_fraction)
  F_is_rational : Fun K "is_rational" "is_rational" s_is_rational q.f_is_rational q.d_is_rational
  b_is_rational : Binds K q.d_is_rational ["value"] []
  m_is_rational : mg "is_rational" = some (.ref q.f_is_rational)
  F_as_fraction : Fun K "as_fraction" "as_fraction" s_as_fraction q.f_as_fraction q.d_as_fraction
  b_as_fraction : Binds K q.d_as_fraction ["value"] []
  m_as_fraction : mg "as_fraction" = some (.ref q.f_as_fraction)
  F_check_width : Fun K "check_width" "check_width" s_check_width q.f_check_width q.d_check_width
  b_check_width : Binds K q.d_check_width ["width"] []
  m_check_width : mg "check_width" = some (.ref q.f_check_width)
  F_order : Fun K "order" "order" s_order q.f_order q.d_order
  b_order : Binds K q.d_order ["one", "two"] []
  m_order : mg "order" = some (.ref q.f_order)
  F_limited : Fun K "limited" "limited" s_limited q.f_limited q.d_limited
  b_limited : Binds K q.d_limited ["value", "least", "most"] []
  m_limited : mg "limited" = some (.ref q.f_limited)
  F_Box_own : Fun K "own" "Box.own" s_Box_own q.f_Box_own q.d_Box_own
  b_Box_own : Binds K q.d_Box_own ["self"] []
  F_own_width : Fun K "own_width" "own_width" s_own_width q.f_own_width q.d_own_width
  b_own_width : Binds K q.d_own_width ["boxes"] []
  m_own_width : mg "own_width" = some (.ref q.f_own_width)
  F_does_grow : Fun K "does_grow" "does_grow" s_does_grow q.f_does_grow q.d_does_grow
  b_does_grow : Binds K q.d_does_grow ["boxes", "width"] []
  m_does_grow : mg "does_grow" = some (.ref q.f_does_grow)
  F_weight_of : Fun K "weight_of" "weight_of" s_weight_of q.f_weight_of q.d_weight_of
  b_weight_of : Binds K q.d_weight_of ["box", "grows"] []
  m_weight_of : mg "weight_of" = some (.ref q.f_weight_of)
  F_is_frozen_first : Fun K "is_frozen_first" "is_frozen_first" s_is_frozen_first q.f_is_frozen_first q.d_is_frozen_first
  b_is_frozen_first : Binds K q.d_is_frozen_first ["box", "grows"] []
  m_is_frozen_first : mg "is_frozen_first" = some (.ref q.f_is_frozen_first)
  F_first_sizes : Fun K "first_sizes" "first_sizes" s_first_sizes q.f_first_sizes q.d_first_sizes
  b_first_sizes : Binds K q.d_first_sizes ["boxes", "grows"] []
  m_first_sizes : mg "first_sizes" = some (.ref q.f_first_sizes)
  F_lowest : Fun K "lowest" "lowest" s_lowest q.f_lowest q.d_lowest
  b_lowest : Binds K q.d_lowest ["p", "q"] []
  m_lowest : mg "lowest" = some (.ref q.f_lowest)
  F_plus : Fun K "plus" "plus" s_plus q.f_plus q.d_plus
  b_plus : Binds K q.d_plus ["one", "two"] []
  m_plus : mg "plus" = some (.ref q.f_plus)
  F_minus : Fun K "minus" "minus" s_minus q.f_minus q.d_minus
  b_minus : Binds K q.d_minus ["one", "two"] []
  m_minus : mg "minus" = some (.ref q.f_minus)
  F_common_level : Fun K "common_level" "common_level" s_common_level q.f_common_level q.d_common_level
  b_common_level : Binds K q.d_common_level ["free", "width", "grows", "frozen"] []
  m_common_level : mg "common_level" = some (.ref q.f_common_level)
  F_next_sizes : Fun K "next_sizes" "next_sizes" s_next_sizes q.f_next_sizes q.d_next_sizes
  b_next_sizes : Binds K q.d_next_sizes ["boxes", "width", "grows", "frozen"] []
  m_next_sizes : mg "next_sizes" = some (.ref q.f_next_sizes)
  F_rounds : Fun K "rounds" "rounds" s_rounds q.f_rounds q.d_rounds
  b_rounds : Binds K q.d_rounds ["boxes", "width"] []
  m_rounds : mg "rounds" = some (.ref q.f_rounds)
  F__law_right : Fun K "_law_right" "_law_right" s__law_right q.f__law_right q.d__law_right
  b__law_right : Binds K q.d__law_right ["number"] []
  m__law_right : mg "_law_right" = some (.ref q.f__law_right)
  F_law : Fun K "law" "law" s_law q.f_law q.d_law
  b_law : Binds K q.d_law ["script"] []
  m_law : mg "law" = some (.ref q.f_law)
  kb1_most_grow_Box_d_init_d : ∃ its : List Value, KBn K q.d_Box_d_init_d ["self", "wish", "least", "most", "grow", "shrink"] (1 + 1) ["most", "grow"] (fun us ws => us ++ Z.picked its ws [.d 0, .k 0, .k 1, .d 3]) (fun vs zs => vs ++ Z.picked [V.int 0, V.non, V.int 0, V.int 0] zs [.d 0, .k 0, .k 1, .d 3])
  m_Box : mg "Box" = some (.ref q.c_Box)
  cl_Box : Cls K q.c_Box
  no_Box__wish : NoAttr K q.c_Box "_wish"
  no_Box__least : NoAttr K q.c_Box "_least"
  no_Box__most : NoAttr K q.c_Box "_most"
  no_Box__grow : NoAttr K q.c_Box "_grow"
  no_Box__shrink : NoAttr K q.c_Box "_shrink"
  mk_Box : Mk K q.c_Box q.f_Box_d_init_d
  pr_Box_wish : PropOf K q.c_Box "wish" q.p_Box_wish q.f_Box_wish
  pr_Box_least : PropOf K q.c_Box "least" q.p_Box_least q.f_Box_least
  pr_Box_most : PropOf K q.c_Box "most" q.p_Box_most q.f_Box_most
  pr_Box_grow : PropOf K q.c_Box "grow" q.p_Box_grow q.f_Box_grow
  pr_Box_shrink : PropOf K q.c_Box "shrink" q.p_Box_shrink q.f_Box_shrink
  pr_Box_own : PropOf K q.c_Box "own" q.p_Box_own q.f_Box_own
  is_Box : Isi K q.c_Box
  c_HEAVIEST : ∃ t, mg "HEAVIEST" = some (.int 1000000 t)
  c_MOST_BOXES : ∃ t, mg "MOST_BOXES" = some (.int 40 t)
  c_WIDEST : ∃ t, mg "WIDEST" = some (.int 1000000000000000000000000000000 t)
  c_ZERO : ∃ a, mg "ZERO" = some (.ref a) ∧ KTup K a [0, 1]
  n_abs : mg "abs" = none
  n_all : mg "all" = none
  n_bool : mg "bool" = none
  n_dict : mg "dict" = none
  n_enumerate : mg "enumerate" = none
  g_gcd : mg "gcd" = some (.builtin "math.gcd")
  n_int : mg "int" = none
  n_isinstance : mg "isinstance" = none
  n_len : mg "len" = none
  n_list : mg "list" = none
  n_max : mg "max" = none
  n_range : mg "range" = none
  n_sorted : mg "sorted" = none
  n_sum : mg "sum" = none
  n_tuple : mg "tuple" = none
section
variable {P : Program} {w : World} {K : PySem.W.Frag} {mg : Str → Option Value} {base : Heap} {q : Ad}
theorem ok__law_bag (T : Tx K mg q) : FnOk P w K mg base CX0 1 q.f__law_bag q.d__law_bag ["cell"] (SpZ K (CIof q) (W__law_bag K (CIof q))) :=
  fnz_ok T.F__law_bag sc__law_bag (fun _ _ _ h => h.1) fun cdv A outer s H E hr => ⟨z__law_bag K (CIof q),
    szs_one (sz_ret (ez_lstC (az_cons (ez_callB (cz_max2 rfl) T.n_max (by decide +kernel) (az_cons (ez_int) (az_cons (ez_op oz_sub (ez_var 0) (ez_op oz_pow (ez_int) (ez_int))) (az_nil)))) (az_cons (ez_var 0) (az_cons (ez_int) (az_nil)))))),
    fun _ _ _ h => h.2⟩
theorem ok__law_pick (T : Tx K mg q) : FnOk P w K mg base CX0 1 q.f__law_pick q.d__law_pick ["bag", "many"] (SpZ K (CIof q) (W__law_pick K (CIof q))) :=
  fnz_ok T.F__law_pick sc__law_pick (fun _ _ _ h => h.1) fun cdv A outer s H E hr => ⟨z__law_pick K (CIof q),
    szs_cons (sz_asgSub (ez_op oz_add (ez_ix (ez_var 0) (ez_int)) (ez_int)) (gz_sub (ez_var 0) (ez_int)))
    (szs_cons (sz_if (tz_cmp oz_gt (ez_ix (ez_var 0) (ez_int)) (ez_int)) (szs_cons (sz_set (i := 2) sc__law_pick.nd (ez_op oz_mod (ez_ix (ez_var 0) (ez_int)) (ez_var 1)))
    (szs_cons (sz_asgSub (ez_op oz_fdiv (ez_ix (ez_var 0) (ez_int)) (ez_var 1)) (gz_sub (ez_var 0) (ez_int)))
    (szs_one (sz_ret (ez_var 2))))) (szs_nil))
    (szs_cons (sz_set (i := 3) sc__law_pick.nd (ez_op oz_mod (ez_op oz_add (ez_op oz_add (ez_op oz_mul (ez_op oz_mod (ez_ix (ez_var 0) (ez_int)) (ez_int)) (ez_int)) (ez_op oz_mul (ez_ix (ez_var 0) (ez_int)) (ez_int))) (ez_int)) (ez_int)))
    (szs_cons (sz_set (i := 4) sc__law_pick.nd (ez_op oz_mod (ez_op oz_add (ez_op oz_mul (ez_var 3) (ez_var 3)) (ez_op oz_mul (ez_ix (ez_var 0) (ez_int)) (ez_int))) (ez_int)))
    (szs_one (sz_ret (ez_op oz_mod (ez_op oz_fdiv (ez_op oz_add (ez_op oz_mul (ez_var 3) (ez_int)) (ez_var 4)) (ez_int)) (ez_var 1))))))),
    fun _ _ _ h => h.2⟩
theorem ok_is_int (T : Tx K mg q) : FnOk P w K mg base CX0 1 q.f_is_int q.d_is_int ["value"] (SpZ K (CIof q) (W_is_int K (CIof q))) :=
  fnz_ok T.F_is_int sc_is_int (fun _ _ _ h => h.1) fun cdv A outer s H E hr => ⟨z_is_int K (CIof q),
    szs_one (sz_ret (ez_and (ez_callB cz_isi T.n_isinstance (by decide +kernel) (az_cons (ez_var 0) (az_cons (ez_ty T.n_int PyProof.Rows.boot_int) (az_nil)))) (ez_one (ez_not (ez_callB cz_isi T.n_isinstance (by decide +kernel) (az_cons (ez_var 0) (az_cons (ez_ty T.n_bool PyProof.Rows.boot_bool) (az_nil)))))))),
    fun _ _ _ h => h.2⟩
theorem ok_in_bounds (T : Tx K mg q) : FnOk P w K mg base CX0 2 q.f_in_bounds q.d_in_bounds ["value", "top"] (SpZ K (CIof q) (W_in_bounds K (CIof q))) :=
  fnz_ok T.F_in_bounds sc_in_bounds (fun _ _ _ h => h.1) fun cdv A outer s H E hr => ⟨z_in_bounds K (CIof q),
    szs_one (sz_ret (ez_and (ez_calln (ok_is_int T) (hr.mono (by decide)) T.m_is_int T.F_is_int.kp T.b_is_int (az_cons (ez_var 0) (az_nil))) (ez_one (ez_chain oz_le oz_le (ez_int) (ez_var 0) (ez_var 1))))),
    fun _ _ _ h => h.2⟩
theorem ok_are_box_numbers (T : Tx K mg q) : FnOk P w K mg base CX0 3 q.f_are_box_numbers q.d_are_box_numbers ["wish", "least", "most", "grow", "shrink"] (SpZ K (CIof q) (W_are_box_numbers K (CIof q))) :=
  fnz_ok T.F_are_box_numbers sc_are_box_numbers (fun _ _ _ h => h.1) fun cdv A outer s H E hr => ⟨z_are_box_numbers K (CIof q),
    szs_cons (sz_set (i := 5) sc_are_box_numbers.nd (ez_if (tz_cmp oz_isN (ez_var 2) (ez_non)) (ez_lst (az_cons (ez_var 0) (az_cons (ez_var 1) (az_nil)))) (ez_lst (az_cons (ez_var 0) (az_cons (ez_var 1) (az_cons (ez_var 2) (az_nil)))))))
    (szs_one (sz_ret (ez_and (ez_callB (cz_all rfl) T.n_all (by decide +kernel) (az_cons (ez_lc (own := [("width", 6)]) sc_are_box_numbers.nd (iz_list (ez_var 5)) (blkOk_by (N := N_are_box_numbers) (sc := defScope s_are_box_numbers) (by decide +kernel)) (own_name (i := 6) (by decide)) (blkz (ref_gName) (fun _ _ _ _ _ => pg_name (i := 6) sc_are_box_numbers.nd rfl (by first | exact Or.inl rfl | exact Or.inr rfl) (by first | exact Or.inl rfl | exact Or.inr rfl)) (fun _ _ _ _ _ => tsz_nil) (fun _ _ _ _ _ => ez_calln (ok_in_bounds T) (hr.mono (by decide)) T.m_in_bounds T.F_in_bounds.kp T.b_in_bounds (az_cons (ez_var 6) (az_cons (ez_gint (Classical.choose_spec T.c_WIDEST)) (az_nil)))))) (az_nil))) (ez_and (ez_callB (cz_all rfl) T.n_all (by decide +kernel) (az_cons (ez_lc (own := [("weight", 7)]) sc_are_box_numbers.nd (iz_tup (ez_tup (az_cons (ez_var 3) (az_cons (ez_var 4) (az_nil))))) (blkOk_by (N := N_are_box_numbers) (sc := defScope s_are_box_numbers) (by decide +kernel)) (own_name (i := 7) (by decide)) (blkz (ref_gName) (fun _ _ _ _ _ => pg_name (i := 7) sc_are_box_numbers.nd rfl (by first | exact Or.inl rfl | exact Or.inr rfl) (by first | exact Or.inl rfl | exact Or.inr rfl)) (fun _ _ _ _ _ => tsz_nil) (fun _ _ _ _ _ => ez_calln (ok_in_bounds T) (hr.mono (by decide)) T.m_in_bounds T.F_in_bounds.kp T.b_in_bounds (az_cons (ez_var 7) (az_cons (ez_gint (Classical.choose_spec T.c_HEAVIEST)) (az_nil)))))) (az_nil))) (ez_one (ez_or (ez_cmp oz_isN (ez_var 2) (ez_non)) (ez_one (ez_cmp oz_le (ez_var 1) (ez_var 2))))))))),
    fun _ _ _ h => h.2⟩
theorem ok_Box_d_init_d (T : Tx K mg q) : FnOk P w K mg base CX0 4 q.f_Box_d_init_d q.d_Box_d_init_d ["self", "wish", "least", "most", "grow", "shrink"] (SpZ K (CIof q) (W_Box_d_init_d K (CIof q))) :=
  fnz_okZ T.F_Box_d_init_d sc_Box_d_init_d (fun _ _ _ h => h.1) fun cdv A outer s H E hr => ⟨z_Box_d_init_d K (CIof q),
    szs_cons (sz_if (tz_not (tz_val (ez_calln (ok_are_box_numbers T) (hr.mono (by decide)) T.m_are_box_numbers T.F_are_box_numbers.kp T.b_are_box_numbers (az_cons (ez_var 1) (az_cons (ez_var 2) (az_cons (ez_var 3) (az_cons (ez_var 4) (az_cons (ez_var 5) (az_nil))))))))) (szs_one (sz_never)) (szs_nil))
    (szs_cons (sz_setF (c := 0) (ez_var 0) (ez_var 1) T.cl_Box T.no_Box__wish)
    (szs_cons (sz_setF (c := 0) (ez_var 0) (ez_var 2) T.cl_Box T.no_Box__least)
    (szs_cons (sz_setF (c := 0) (ez_var 0) (ez_var 3) T.cl_Box T.no_Box__most)
    (szs_cons (sz_setF (c := 0) (ez_var 0) (ez_var 4) T.cl_Box T.no_Box__grow)
    (szs_one (sz_setF (c := 0) (ez_var 0) (ez_var 5) T.cl_Box T.no_Box__shrink)))))),
    fun _ _ _ h => h.2⟩
theorem ok_hard_row (T : Tx K mg q) : FnOk P w K mg base CX0 6 q.f_hard_row q.d_hard_row ["number"] (SpZ K (CIof q) (W_hard_row K (CIof q))) :=
  fnz_ok T.F_hard_row sc_hard_row (fun _ _ _ h => h.1) fun cdv A outer s H E hr => ⟨z_hard_row K (CIof q),
    szs_cons (sz_if ((wz_or (tz_not (tz_val (ez_calln (ok_is_int T) (hr.mono (by decide)) T.m_is_int T.F_is_int.kp T.b_is_int (az_cons (ez_var 0) (az_nil))))) (wz_or1 (tz_not (tz_chain oz_le oz_le (ez_int) (ez_var 0) (ez_gint (Classical.choose_spec T.c_MOST_BOXES)))))).tz) (szs_one (sz_never)) (szs_nil))
    (szs_cons (sz_set (i := 1) sc_hard_row.nd (ez_op oz_shl (ez_int) (ez_op oz_mul (ez_int) (ez_var 0))))
    (szs_cons (sz_asg (ez_tup (az_cons (ez_lstC (az_nil)) (az_cons (ez_int) (az_cons (ez_int) (az_cons (ez_int) (az_nil)))))) (gz_tup (gsz_cons (gz_name (i := 2) sc_hard_row.nd rfl) (gsz_cons (gz_name (i := 3) sc_hard_row.nd rfl) (gsz_cons (gz_name (i := 4) sc_hard_row.nd rfl) (gsz_cons (gz_name (i := 5) sc_hard_row.nd rfl) (gsz_nil)))))))
    (szs_cons (sz_for (iz_r1 (az_cons (ez_var 0) (az_nil)) T.n_range) (gz_name (i := 6) sc_hard_row.nd rfl) (szs_cons (sz_set (i := 7) sc_hard_row.nd (ez_callB (cz_max2 rfl) T.n_max (by decide +kernel) (az_cons (ez_int) (az_cons (ez_op oz_fdiv (ez_op oz_add (ez_var 4) (ez_int)) (ez_int)) (az_nil)))))
    (szs_cons (sz_set (i := 8) sc_hard_row.nd (ez_op oz_mul (ez_var 7) (ez_op oz_sub (ez_var 1) (ez_var 5))))
    (szs_cons (sz_expr (ez_append (ez_var 2) (az_cons (ez_makeK (c := 0) (ks := ["most", "grow"]) (l := [.d 0, .k 0, .k 1, .d 3]) T.mk_Box (ok_Box_d_init_d T) (hr.mono (by decide)) T.m_Box T.kb1_most_grow_Box_d_init_d (fun _ _ _ => .cons (.int 0) (.cons .non (.cons (.int 0) (.cons (.int 0) (.nil))))) (az_cons (ez_int) (az_nil)) (kz_cons (ez_var 8) (kz_cons (ez_var 7) (kz_nil)))) (az_nil))))
    (szs_cons (sz_aug (i := 3) sc_hard_row.nd (ez_var 8) ip_add)
    (szs_cons (sz_aug (i := 4) sc_hard_row.nd (ez_var 7) ip_add)
    (szs_one (sz_set (i := 5) sc_hard_row.nd (ez_op oz_mul (ez_int) (ez_var 5))))))))))
    (szs_one (sz_ret (ez_tup (az_cons (ez_revC (ez_var 2)) (az_cons (ez_var 3) (az_nil))))))))),
    fun _ _ _ h => h.2⟩
theorem ok_Box_wish (T : Tx K mg q) : FnOk P w K mg base CX0 1 q.f_Box_wish q.d_Box_wish ["self"] (SpZ K (CIof q) (W_Box_wish K (CIof q))) :=
  fnz_ok T.F_Box_wish sc_Box_wish (fun _ _ _ h => h.1) fun cdv A outer s H E hr => ⟨z_Box_wish K (CIof q),
    szs_one (sz_ret (ez_fld (c := 0) (ez_var 0) T.cl_Box T.no_Box__wish)),
    fun _ _ _ h => h.2⟩
theorem ok_Box_least (T : Tx K mg q) : FnOk P w K mg base CX0 1 q.f_Box_least q.d_Box_least ["self"] (SpZ K (CIof q) (W_Box_least K (CIof q))) :=
  fnz_ok T.F_Box_least sc_Box_least (fun _ _ _ h => h.1) fun cdv A outer s H E hr => ⟨z_Box_least K (CIof q),
    szs_one (sz_ret (ez_fld (c := 0) (ez_var 0) T.cl_Box T.no_Box__least)),
    fun _ _ _ h => h.2⟩
theorem ok_Box_most (T : Tx K mg q) : FnOk P w K mg base CX0 1 q.f_Box_most q.d_Box_most ["self"] (SpZ K (CIof q) (W_Box_most K (CIof q))) :=
  fnz_ok T.F_Box_most sc_Box_most (fun _ _ _ h => h.1) fun cdv A outer s H E hr => ⟨z_Box_most K (CIof q),
    szs_one (sz_ret (ez_fld (c := 0) (ez_var 0) T.cl_Box T.no_Box__most)),
    fun _ _ _ h => h.2⟩
theorem ok_Box_grow (T : Tx K mg q) : FnOk P w K mg base CX0 1 q.f_Box_grow q.d_Box_grow ["self"] (SpZ K (CIof q) (W_Box_grow K (CIof q))) :=
  fnz_ok T.F_Box_grow sc_Box_grow (fun _ _ _ h => h.1) fun cdv A outer s H E hr => ⟨z_Box_grow K (CIof q),
    szs_one (sz_ret (ez_fld (c := 0) (ez_var 0) T.cl_Box T.no_Box__grow)),
    fun _ _ _ h => h.2⟩
theorem ok_Box_shrink (T : Tx K mg q) : FnOk P w K mg base CX0 1 q.f_Box_shrink q.d_Box_shrink ["self"] (SpZ K (CIof q) (W_Box_shrink K (CIof q))) :=
  fnz_ok T.F_Box_shrink sc_Box_shrink (fun _ _ _ h => h.1) fun cdv A outer s H E hr => ⟨z_Box_shrink K (CIof q),
    szs_one (sz_ret (ez_fld (c := 0) (ez_var 0) T.cl_Box T.no_Box__shrink)),
    fun _ _ _ h => h.2⟩
theorem ok__law_order (T : Tx K mg q) : FnOk P w K mg base CX0 1 q.f__law_order q.d__law_order ["one", "two"] (SpZ K (CIof q) (W__law_order K (CIof q))) :=
  fnz_ok T.F__law_order sc__law_order (fun _ _ _ h => h.1) fun cdv A outer s H E hr => ⟨z__law_order K (CIof q),
    szs_one (sz_ret (ez_op oz_sub (ez_op oz_mul (ez_ix (ez_var 0) (ez_int)) (ez_ix (ez_var 1) (ez_int))) (ez_op oz_mul (ez_ix (ez_var 1) (ez_int)) (ez_ix (ez_var 0) (ez_int))))),
    fun _ _ _ h => h.2⟩
theorem ok__law_limited (T : Tx K mg q) : FnOk P w K mg base CX0 2 q.f__law_limited q.d__law_limited ["number", "row"] (SpZ K (CIof q) (W__law_limited K (CIof q))) :=
  fnz_ok T.F__law_limited sc__law_limited (fun _ _ _ h => h.1) fun cdv A outer s H E hr => ⟨z__law_limited K (CIof q),
    szs_cons (sz_if (tz_cmp oz_lt (ez_calln (ok__law_order T) (hr.mono (by decide)) T.m__law_order T.F__law_order.kp T.b__law_order (az_cons (ez_var 0) (az_cons (ez_tup (az_cons (ez_ix (ez_var 1) (ez_int)) (az_cons (ez_int) (az_nil)))) (az_nil)))) (ez_int)) (szs_one (sz_ret (ez_tup (az_cons (ez_ix (ez_var 1) (ez_int)) (az_cons (ez_int) (az_nil)))))) (szs_nil))
    (szs_cons (sz_if ((wz_and (tz_cmp oz_notN (ez_ix (ez_var 1) (ez_int)) (ez_non)) (wz_and1 (tz_cmp oz_gt (ez_calln (ok__law_order T) (hr.mono (by decide)) T.m__law_order T.F__law_order.kp T.b__law_order (az_cons (ez_var 0) (az_cons (ez_tup (az_cons (ez_ix (ez_var 1) (ez_int)) (az_cons (ez_int) (az_nil)))) (az_nil)))) (ez_int)))).tz) (szs_one (sz_ret (ez_tup (az_cons (ez_ix (ez_var 1) (ez_int)) (az_cons (ez_int) (az_nil)))))) (szs_nil))
    (szs_one (sz_ret (ez_var 0)))),
    fun _ _ _ h => h.2⟩
theorem ok__law_own (T : Tx K mg q) : FnOk P w K mg base CX0 3 q.f__law_own q.d__law_own ["row"] (SpZ K (CIof q) (W__law_own K (CIof q))) :=
  fnz_ok T.F__law_own sc__law_own (fun _ _ _ h => h.1) fun cdv A outer s H E hr => ⟨z__law_own K (CIof q),
    szs_one (sz_ret (ez_ix (ez_calln (ok__law_limited T) (hr.mono (by decide)) T.m__law_limited T.F__law_limited.kp T.b__law_limited (az_cons (ez_tup (az_cons (ez_ix (ez_var 0) (ez_int)) (az_cons (ez_int) (az_nil)))) (az_cons (ez_var 0) (az_nil)))) (ez_int))),
    fun _ _ _ h => h.2⟩
theorem ok__law_begin (T : Tx K mg q) : FnOk P w K mg base CX0 4 q.f__law_begin q.d__law_begin ["rows", "width"] (SpZ K (CIof q) (W__law_begin K (CIof q))) :=
  fnz_ok T.F__law_begin sc__law_begin (fun _ _ _ h => h.1) fun cdv A outer s H E hr => ⟨z__law_begin K (CIof q),
    szs_cons (sz_set (i := 2) sc__law_begin.nd (ez_cmp oz_ge (ez_calln (ok__law_order T) (hr.mono (by decide)) T.m__law_order T.F__law_order.kp T.b__law_order (az_cons (ez_var 1) (az_cons (ez_tup (az_cons (ez_callB (cz_sum rfl) T.n_sum (by decide +kernel) (az_cons (ez_lc (own := [("row", 5)]) sc__law_begin.nd (iz_list (ez_var 0)) (blkOk_by (N := N__law_begin) (sc := defScope s__law_begin) (by decide +kernel)) (own_name (i := 5) (by decide)) (blkz (ref_gName) (fun _ _ _ _ _ => pg_name (i := 5) sc__law_begin.nd rfl (by first | exact Or.inl rfl | exact Or.inr rfl) (by first | exact Or.inl rfl | exact Or.inr rfl)) (fun _ _ _ _ _ => tsz_nil) (fun _ _ _ _ _ => ez_calln (ok__law_own T) (hr.mono (by decide)) T.m__law_own T.F__law_own.kp T.b__law_own (az_cons (ez_var 5) (az_nil))))) (az_nil))) (az_cons (ez_int) (az_nil)))) (az_nil)))) (ez_int)))
    (szs_cons (sz_set (i := 3) sc__law_begin.nd (ez_dnewC))
    (szs_cons (sz_for (iz_enum (az_cons (ez_var 0) (az_nil)) T.n_enumerate) (gz_tup (gsz_cons (gz_name (i := 4) sc__law_begin.nd rfl) (gsz_cons (gz_name (i := 5) sc__law_begin.nd rfl) (gsz_nil)))) (szs_cons (sz_set (i := 6) sc__law_begin.nd (ez_if (tz_val (ez_var 2)) (ez_and (ez_cmp oz_notN (ez_ix (ez_var 5) (ez_int)) (ez_non)) (ez_one (ez_cmp oz_gt (ez_ix (ez_var 5) (ez_int)) (ez_ix (ez_var 5) (ez_int))))) (ez_cmp oz_lt (ez_ix (ez_var 5) (ez_int)) (ez_ix (ez_var 5) (ez_int)))))
    (szs_one (sz_if ((wz_or (tz_cmp (oz_eq hr.units) (ez_ix (ez_var 5) (ez_if (tz_val (ez_var 2)) (ez_int) (ez_int))) (ez_int)) (wz_or1 (tz_val (ez_var 6)))).tz) (szs_one (sz_dput hr.units (ez_var 3) (ez_var 4) (ez_tup (az_cons (ez_calln (ok__law_own T) (hr.mono (by decide)) T.m__law_own T.F__law_own.kp T.b__law_own (az_cons (ez_var 5) (az_nil))) (az_cons (ez_int) (az_nil)))))) (szs_nil)))))
    (szs_one (sz_ret (ez_tup (az_cons (ez_var 2) (az_cons (ez_var 3) (az_nil)))))))),
    fun _ _ _ h => h.2⟩
theorem ok__law_ratio (T : Tx K mg q) : FnOk P w K mg base CX0 1 q.f__law_ratio q.d__law_ratio ["above", "below"] (SpZ K (CIof q) (W__law_ratio K (CIof q))) :=
  fnz_ok T.F__law_ratio sc__law_ratio (fun _ _ _ h => h.1) fun cdv A outer s H E hr => ⟨z__law_ratio K (CIof q),
    szs_cons (sz_par (i := 2) (j := 3) sc__law_ratio.nd rfl rfl (by decide) rfl rfl (az_cons (ez_callB cz_abs T.n_abs (by decide +kernel) (az_cons (ez_var 0) (az_nil))) (az_cons (ez_callB cz_abs T.n_abs (by decide +kernel) (az_cons (ez_var 1) (az_nil))) (az_nil))))
    (szs_cons (sz_while (tz_cmp oz_gt (ez_var 3) (ez_int)) (szs_one (sz_par (i := 2) (j := 3) sc__law_ratio.nd rfl rfl (by decide) rfl rfl (az_cons (ez_var 3) (az_cons (ez_op oz_mod (ez_var 2) (ez_var 3)) (az_nil))))))
    (szs_cons (sz_if (tz_cmp oz_lt (ez_var 1) (ez_int)) (szs_one (sz_par (i := 0) (j := 1) sc__law_ratio.nd rfl rfl (by decide) rfl rfl (az_cons (ez_op oz_sub (ez_int) (ez_var 0)) (az_cons (ez_op oz_sub (ez_int) (ez_var 1)) (az_nil))))) (szs_nil))
    (szs_one (sz_ret (ez_tup (az_cons (ez_op oz_fdiv (ez_var 0) (ez_var 2)) (az_cons (ez_op oz_fdiv (ez_var 1) (ez_var 2)) (az_nil)))))))),
    fun _ _ _ h => h.2⟩
theorem ok__law_minus (T : Tx K mg q) : FnOk P w K mg base CX0 2 q.f__law_minus q.d__law_minus ["one", "two"] (SpZ K (CIof q) (W__law_minus K (CIof q))) :=
  fnz_ok T.F__law_minus sc__law_minus (fun _ _ _ h => h.1) fun cdv A outer s H E hr => ⟨z__law_minus K (CIof q),
    szs_one (sz_ret (ez_calln (ok__law_ratio T) (hr.mono (by decide)) T.m__law_ratio T.F__law_ratio.kp T.b__law_ratio (az_cons (ez_op oz_sub (ez_op oz_mul (ez_ix (ez_var 0) (ez_int)) (ez_ix (ez_var 1) (ez_int))) (ez_op oz_mul (ez_ix (ez_var 1) (ez_int)) (ez_ix (ez_var 0) (ez_int)))) (az_cons (ez_op oz_mul (ez_ix (ez_var 0) (ez_int)) (ez_ix (ez_var 1) (ez_int))) (az_nil))))),
    fun _ _ _ h => h.2⟩
theorem ok__law_add (T : Tx K mg q) : FnOk P w K mg base CX0 2 q.f__law_add q.d__law_add ["one", "two"] (SpZ K (CIof q) (W__law_add K (CIof q))) :=
  fnz_ok T.F__law_add sc__law_add (fun _ _ _ h => h.1) fun cdv A outer s H E hr => ⟨z__law_add K (CIof q),
    szs_one (sz_ret (ez_calln (ok__law_ratio T) (hr.mono (by decide)) T.m__law_ratio T.F__law_ratio.kp T.b__law_ratio (az_cons (ez_op oz_add (ez_op oz_mul (ez_ix (ez_var 0) (ez_int)) (ez_ix (ez_var 1) (ez_int))) (ez_op oz_mul (ez_ix (ez_var 1) (ez_int)) (ez_ix (ez_var 0) (ez_int)))) (az_cons (ez_op oz_mul (ez_ix (ez_var 0) (ez_int)) (ez_ix (ez_var 1) (ez_int))) (az_nil))))),
    fun _ _ _ h => h.2⟩
theorem ok__law_may (T : Tx K mg q) : FnOk P w K mg base CX0 3 q.f__law_may q.d__law_may ["rows", "up", "width", "frozen"] (SpZ K (CIof q) (W__law_may K (CIof q))) :=
  fnz_ok T.F__law_may sc__law_may (fun _ _ _ h => h.1) fun cdv A outer s H E hr => ⟨z__law_may K (CIof q),
    szs_cons (sz_setLc (i := 4) (own := [("k", 7)]) sc__law_may.nd rfl rfl (sw_true rfl rfl rfl (by decide +kernel)) (iz_r1 (az_cons (ez_callB cz_len T.n_len (by decide +kernel) (az_cons (ez_var 0) (az_nil))) (az_nil)) T.n_range) (blkOk_by (N := N__law_may) (sc := defScope s__law_may) (by decide +kernel)) (own_name (i := 7) (by decide)) (blkz (ref_gName) (fun _ _ _ _ _ => pg_name (i := 7) sc__law_may.nd rfl (by first | exact Or.inl rfl | exact Or.inr rfl) (by first | exact Or.inl rfl | exact Or.inr rfl)) (fun _ _ _ _ _ => tsz_one (tz_cmp (oz_notInD hr.units) (ez_var 7) (ez_var 3))) (fun _ _ _ _ _ => ez_var 7)))
    (szs_cons (sz_set (i := 5) sc__law_may.nd (ez_callB (cz_sum rfl) T.n_sum (by decide +kernel) (az_cons (ez_lc (own := [("k", 7)]) sc__law_may.nd (iz_list (ez_var 4)) (blkOk_by (N := N__law_may) (sc := defScope s__law_may) (by decide +kernel)) (own_name (i := 7) (by decide)) (blkz (ref_gName) (fun _ _ _ _ _ => pg_name (i := 7) sc__law_may.nd rfl (by first | exact Or.inl rfl | exact Or.inr rfl) (by first | exact Or.inl rfl | exact Or.inr rfl)) (fun _ _ _ _ _ => tsz_nil) (fun _ _ _ _ _ => ez_ix (ez_ix (ez_var 0) (ez_var 7)) (ez_if (tz_val (ez_var 1)) (ez_int) (ez_int))))) (az_nil))))
    (szs_cons (sz_set (i := 6) sc__law_may.nd (ez_calln (ok__law_minus T) (hr.mono (by decide)) T.m__law_minus T.F__law_minus.kp T.b__law_minus (az_cons (ez_var 2) (az_cons (ez_tup (az_cons (ez_callB (cz_sum rfl) T.n_sum (by decide +kernel) (az_cons (ez_lc (own := [("k", 7)]) sc__law_may.nd (iz_list (ez_var 4)) (blkOk_by (N := N__law_may) (sc := defScope s__law_may) (by decide +kernel)) (own_name (i := 7) (by decide)) (blkz (ref_gName) (fun _ _ _ _ _ => pg_name (i := 7) sc__law_may.nd rfl (by first | exact Or.inl rfl | exact Or.inr rfl) (by first | exact Or.inl rfl | exact Or.inr rfl)) (fun _ _ _ _ _ => tsz_nil) (fun _ _ _ _ _ => ez_ix (ez_ix (ez_var 0) (ez_var 7)) (ez_int)))) (az_nil))) (az_cons (ez_int) (az_nil)))) (az_nil)))))
    (szs_cons (sz_for (iz_list (ez_callB cz_sortD T.n_sorted (by decide +kernel) (az_cons (ez_var 3) (az_nil)))) (gz_name (i := 7) sc__law_may.nd rfl) (szs_one (sz_set (i := 6) sc__law_may.nd (ez_calln (ok__law_minus T) (hr.mono (by decide)) T.m__law_minus T.F__law_minus.kp T.b__law_minus (az_cons (ez_var 6) (az_cons (ez_dget hr.units (ez_var 3) (ez_var 7)) (az_nil)))))))
    (szs_cons (sz_asg (ez_tup (az_cons (ez_dnewC) (az_cons (ez_dnewC) (az_cons (ez_tup (az_cons (ez_int) (az_cons (ez_int) (az_nil)))) (az_nil))))) (gz_tup (gsz_cons (gz_name (i := 8) sc__law_may.nd rfl) (gsz_cons (gz_name (i := 9) sc__law_may.nd rfl) (gsz_cons (gz_name (i := 10) sc__law_may.nd rfl) (gsz_nil))))))
    (szs_cons (sz_for (iz_list (ez_var 4)) (gz_name (i := 7) sc__law_may.nd rfl) (szs_cons (sz_set (i := 11) sc__law_may.nd (ez_ix (ez_ix (ez_var 0) (ez_var 7)) (ez_if (tz_val (ez_var 1)) (ez_int) (ez_int))))
    (szs_cons (sz_dput hr.units (ez_var 8) (ez_var 7) (ez_calln (ok__law_add T) (hr.mono (by decide)) T.m__law_add T.F__law_add.kp T.b__law_add (az_cons (ez_tup (az_cons (ez_ix (ez_ix (ez_var 0) (ez_var 7)) (ez_int)) (az_cons (ez_int) (az_nil)))) (az_cons (ez_calln (ok__law_ratio T) (hr.mono (by decide)) T.m__law_ratio T.F__law_ratio.kp T.b__law_ratio (az_cons (ez_op oz_mul (ez_ix (ez_var 6) (ez_int)) (ez_var 11)) (az_cons (ez_op oz_mul (ez_ix (ez_var 6) (ez_int)) (ez_var 5)) (az_nil)))) (az_nil)))))
    (szs_cons (sz_dput hr.units (ez_var 9) (ez_var 7) (ez_calln (ok__law_limited T) (hr.mono (by decide)) T.m__law_limited T.F__law_limited.kp T.b__law_limited (az_cons (ez_dget hr.units (ez_var 8) (ez_var 7)) (az_cons (ez_ix (ez_var 0) (ez_var 7)) (az_nil)))))
    (szs_one (sz_set (i := 10) sc__law_may.nd (ez_calln (ok__law_add T) (hr.mono (by decide)) T.m__law_add T.F__law_add.kp T.b__law_add (az_cons (ez_var 10) (az_cons (ez_calln (ok__law_minus T) (hr.mono (by decide)) T.m__law_minus T.F__law_minus.kp T.b__law_minus (az_cons (ez_dget hr.units (ez_var 9) (ez_var 7)) (az_cons (ez_dget hr.units (ez_var 8) (ez_var 7)) (az_nil)))) (az_nil))))))))))
    (szs_cons (sz_if (tz_cmp (oz_eq hr.units) (ez_ix (ez_var 10) (ez_int)) (ez_int)) (szs_one (sz_ret (ez_var 9))) (szs_nil))
    (szs_cons (sz_setLc (i := 12) (own := [("k", 7)]) sc__law_may.nd rfl rfl (sw_true rfl rfl rfl (by decide +kernel)) (iz_list (ez_var 4)) (blkOk_by (N := N__law_may) (sc := defScope s__law_may) (by decide +kernel)) (own_name (i := 7) (by decide)) (blkz (ref_gName) (fun _ _ _ _ _ => pg_name (i := 7) sc__law_may.nd rfl (by first | exact Or.inl rfl | exact Or.inr rfl) (by first | exact Or.inl rfl | exact Or.inr rfl)) (fun _ _ _ _ _ => tsz_one (tz_cmp oz_gt (ez_op oz_mul (ez_calln (ok__law_order T) (hr.mono (by decide)) T.m__law_order T.F__law_order.kp T.b__law_order (az_cons (ez_dget hr.units (ez_var 9) (ez_var 7)) (az_cons (ez_dget hr.units (ez_var 8) (ez_var 7)) (az_nil)))) (ez_ix (ez_var 10) (ez_int))) (ez_int))) (fun _ _ _ _ _ => ez_var 7)))
    (szs_one (sz_ret (ez_callTy cz_dictPC T.n_dict (by decide +kernel) (az_cons (ez_lc (own := [("k", 7)]) sc__law_may.nd (iz_list (ez_var 12)) (blkOk_by (N := N__law_may) (sc := defScope s__law_may) (by decide +kernel)) (own_name (i := 7) (by decide)) (blkz (ref_gName) (fun _ _ _ _ _ => pg_name (i := 7) sc__law_may.nd rfl (by first | exact Or.inl rfl | exact Or.inr rfl) (by first | exact Or.inl rfl | exact Or.inr rfl)) (fun _ _ _ _ _ => tsz_nil) (fun _ _ _ _ _ => ez_tup (az_cons (ez_var 7) (az_cons (ez_dget hr.units (ez_var 9) (ez_var 7)) (az_nil)))))) (az_nil)))))))))))),
    fun _ _ _ h => h.2⟩
theorem ok__law_rounds (T : Tx K mg q) : FnOk P w K mg base CX0 5 q.f__law_rounds q.d__law_rounds ["rows", "width"] (SpZ K (CIof q) (W__law_rounds K (CIof q))) :=
  fnz_ok T.F__law_rounds sc__law_rounds (fun _ _ _ h => h.1) fun cdv A outer s H E hr => ⟨z__law_rounds K (CIof q),
    szs_cons (sz_asg (ez_calln (ok__law_begin T) (hr.mono (by decide)) T.m__law_begin T.F__law_begin.kp T.b__law_begin (az_cons (ez_var 0) (az_cons (ez_var 1) (az_nil)))) (gz_tup (gsz_cons (gz_name (i := 2) sc__law_rounds.nd rfl) (gsz_cons (gz_name (i := 3) sc__law_rounds.nd rfl) (gsz_nil)))))
    (szs_cons (sz_set (i := 4) sc__law_rounds.nd (ez_lstC (az_cons (ez_callB cz_sortD T.n_sorted (by decide +kernel) (az_cons (ez_var 3) (az_nil))) (az_nil))))
    (szs_cons (sz_while (tz_cmp oz_lt (ez_callB cz_lenD T.n_len (by decide +kernel) (az_cons (ez_var 3) (az_nil))) (ez_callB cz_len T.n_len (by decide +kernel) (az_cons (ez_var 0) (az_nil)))) (szs_cons (sz_set (i := 5) sc__law_rounds.nd (ez_callbD (ok__law_may T) (hr.mono (by decide)) T.m__law_may T.F__law_may.kp T.b__law_may (az_cons (ez_var 0) (az_cons (ez_var 2) (az_cons (ez_var 1) (az_cons (ez_var 3) (az_nil)))))))
    (szs_cons (sz_expr (ez_append (ez_var 4) (az_cons (ez_callB cz_sortD T.n_sorted (by decide +kernel) (az_cons (ez_var 5) (az_nil))) (az_nil))))
    (szs_one (sz_for (iz_list (ez_ix (ez_var 4) (ez_neg (ez_int)))) (gz_name (i := 6) sc__law_rounds.nd rfl) (szs_one (sz_dput hr.units (ez_var 3) (ez_var 6) (ez_dget hr.units (ez_var 5) (ez_var 6)))))))))
    (szs_one (sz_ret (ez_tup (az_cons (ez_var 4) (az_cons (ez_lc (own := [("k", 6)]) sc__law_rounds.nd (iz_r1 (az_cons (ez_callB cz_len T.n_len (by decide +kernel) (az_cons (ez_var 0) (az_nil))) (az_nil)) T.n_range) (blkOk_by (N := N__law_rounds) (sc := defScope s__law_rounds) (by decide +kernel)) (own_name (i := 6) (by decide)) (blkz (ref_gName) (fun _ _ _ _ _ => pg_name (i := 6) sc__law_rounds.nd rfl (by first | exact Or.inl rfl | exact Or.inr rfl) (by first | exact Or.inl rfl | exact Or.inr rfl)) (fun _ _ _ _ _ => tsz_nil) (fun _ _ _ _ _ => ez_dget hr.units (ez_var 3) (ez_var 6)))) (az_nil)))))))),
    fun _ _ _ h => h.2⟩
theorem ok_check_boxes (T : Tx K mg q) : FnOk P w K mg base CX0 1 q.f_check_boxes q.d_check_boxes ["boxes"] (SpZ K (CIof q) (W_check_boxes K (CIof q))) :=
  fnz_ok T.F_check_boxes sc_check_boxes (fun _ _ _ h => h.1) fun cdv A outer s H E hr => ⟨z_check_boxes K (CIof q),
    szs_cons (sz_if ((wz_or (tz_not (tz_val (ez_callB cz_isi T.n_isinstance (by decide +kernel) (az_cons (ez_var 0) (az_cons (ez_ty T.n_list PyProof.Rows.boot_list) (az_nil)))))) (wz_or1 (tz_not (tz_chain oz_le oz_le (ez_int) (ez_callB cz_len T.n_len (by decide +kernel) (az_cons (ez_var 0) (az_nil))) (ez_gint (Classical.choose_spec T.c_MOST_BOXES)))))).tz) (szs_one (sz_never)) (szs_nil))
    (szs_one (sz_if (tz_not (tz_val (ez_callB (cz_all rfl) T.n_all (by decide +kernel) (az_cons (ez_lc (own := [("box", 1)]) sc_check_boxes.nd (iz_list (ez_var 0)) (blkOk_by (N := N_check_boxes) (sc := defScope s_check_boxes) (by decide +kernel)) (own_name (i := 1) (by decide)) (blkz (ref_gName) (fun _ _ _ _ _ => pg_name (i := 1) sc_check_boxes.nd rfl (by first | exact Or.inl rfl | exact Or.inr rfl) (by first | exact Or.inl rfl | exact Or.inr rfl)) (fun _ _ _ _ _ => tsz_nil) (fun _ _ _ _ _ => ez_callB cz_isi T.n_isinstance (by decide +kernel) (az_cons (ez_var 1) (az_cons (ez_cls T.m_Box) (az_nil)))))) (az_nil))))) (szs_one (sz_never)) (szs_nil))),
    fun _ _ _ h => h.2⟩
theorem ok_is_fraction (T : Tx K mg q) : FnOk P w K mg base CX0 2 q.f_is_fraction q.d_is_fraction ["value"] (SpZ K (CIof q) (W_is_fraction K (CIof q))) :=
  fnz_ok T.F_is_fraction sc_is_fraction (fun _ _ _ h => h.1) fun cdv A outer s H E hr => ⟨z_is_fraction K (CIof q),
    szs_cons (sz_if ((wz_or (tz_not (tz_val (ez_callB cz_isi T.n_isinstance (by decide +kernel) (az_cons (ez_var 0) (az_cons (ez_ty T.n_tuple PyProof.Rows.boot_tuple) (az_nil)))))) (wz_or1 (tz_cmp (oz_ne hr.units) (ez_callB cz_len T.n_len (by decide +kernel) (az_cons (ez_var 0) (az_nil))) (ez_int)))).tz) (szs_one (sz_ret (ez_bl))) (szs_nil))
    (szs_cons (sz_asg (ez_var 0) (gz_tup (gsz_cons (gz_name (i := 1) sc_is_fraction.nd rfl) (gsz_cons (gz_name (i := 2) sc_is_fraction.nd rfl) (gsz_nil)))))
    (szs_one (sz_ret (ez_and (ez_calln (ok_is_int T) (hr.mono (by decide)) T.m_is_int T.F_is_int.kp T.b_is_int (az_cons (ez_var 1) (az_nil))) (ez_and (ez_calln (ok_is_int T) (hr.mono (by decide)) T.m_is_int T.F_is_int.kp T.b_is_int (az_cons (ez_var 2) (az_nil))) (ez_and (ez_cmp oz_ge (ez_var 2) (ez_int)) (ez_one (ez_cmp (oz_eq hr.units) (ez_callMod cz_gcd T.g_gcd (az_cons (ez_var 1) (az_cons (ez_var 2) (az_nil)))) (ez_int))))))))),
    fun _ _ _ h => h.2⟩
theorem ok_is_rational (T : Tx K mg q) : FnOk P w K mg base CX0 3 q.f_is_rational q.d_is_rational ["value"] (SpZ K (CIof q) (W_is_rational K (CIof q))) :=
  fnz_ok T.F_is_rational sc_is_rational (fun _ _ _ h => h.1) fun cdv A outer s H E hr => ⟨z_is_rational K (CIof q),
    szs_one (sz_ret (ez_or (ez_calln (ok_is_int T) (hr.mono (by decide)) T.m_is_int T.F_is_int.kp T.b_is_int (az_cons (ez_var 0) (az_nil))) (ez_one (ez_calln (ok_is_fraction T) (hr.mono (by decide)) T.m_is_fraction T.F_is_fraction.kp T.b_is_fraction (az_cons (ez_var 0) (az_nil)))))),
    fun _ _ _ h => h.2⟩
theorem ok_as_fraction (T : Tx K mg q) : FnOk P w K mg base CX0 1 q.f_as_fraction q.d_as_fraction ["value"] (SpZ K (CIof q) (W_as_fraction K (CIof q))) :=
  fnz_ok T.F_as_fraction sc_as_fraction (fun _ _ _ h => h.1) fun cdv A outer s H E hr => ⟨z_as_fraction K (CIof q),
    szs_one (sz_ret (ez_if (tz_val (ez_callB cz_isi T.n_isinstance (by decide +kernel) (az_cons (ez_var 0) (az_cons (ez_ty T.n_tuple PyProof.Rows.boot_tuple) (az_nil))))) (ez_var 0) (ez_tup (az_cons (ez_var 0) (az_cons (ez_int) (az_nil)))))),
    fun _ _ _ h => h.2⟩
theorem ok_check_width (T : Tx K mg q) : FnOk P w K mg base CX0 4 q.f_check_width q.d_check_width ["width"] (SpZ K (CIof q) (W_check_width K (CIof q))) :=
  fnz_ok T.F_check_width sc_check_width (fun _ _ _ h => h.1) fun cdv A outer s H E hr => ⟨z_check_width K (CIof q),
    szs_one (sz_if ((wz_or (tz_not (tz_val (ez_calln (ok_is_rational T) (hr.mono (by decide)) T.m_is_rational T.F_is_rational.kp T.b_is_rational (az_cons (ez_var 0) (az_nil))))) (wz_or1 (tz_cmp oz_lt (ez_ix (ez_calln (ok_as_fraction T) (hr.mono (by decide)) T.m_as_fraction T.F_as_fraction.kp T.b_as_fraction (az_cons (ez_var 0) (az_nil))) (ez_int)) (ez_int)))).tz) (szs_one (sz_never)) (szs_nil)),
    fun _ _ _ h => h.2⟩
theorem ok_order (T : Tx K mg q) : FnOk P w K mg base CX0 1 q.f_order q.d_order ["one", "two"] (SpZ K (CIof q) (W_order K (CIof q))) :=
  fnz_ok T.F_order sc_order (fun _ _ _ h => h.1) fun cdv A outer s H E hr => ⟨z_order K (CIof q),
    szs_one (sz_ret (ez_op oz_sub (ez_op oz_mul (ez_ix (ez_var 0) (ez_int)) (ez_ix (ez_var 1) (ez_int))) (ez_op oz_mul (ez_ix (ez_var 1) (ez_int)) (ez_ix (ez_var 0) (ez_int))))),
    fun _ _ _ h => h.2⟩
theorem ok_limited (T : Tx K mg q) : FnOk P w K mg base CX0 1 q.f_limited q.d_limited ["value", "least", "most"] (SpZ K (CIof q) (W_limited K (CIof q))) :=
  fnz_ok T.F_limited sc_limited (fun _ _ _ h => h.1) fun cdv A outer s H E hr => ⟨z_limited K (CIof q),
    szs_cons (sz_if (tz_cmp oz_lt (ez_var 0) (ez_var 1)) (szs_one (sz_ret (ez_var 1))) (szs_nil))
    (szs_cons (sz_if ((wz_and (tz_cmp oz_notN (ez_var 2) (ez_non)) (wz_and1 (tz_cmp oz_gt (ez_var 0) (ez_var 2)))).tz) (szs_one (sz_ret (ez_var 2))) (szs_nil))
    (szs_one (sz_ret (ez_var 0)))),
    fun _ _ _ h => h.2⟩
theorem ok_Box_own (T : Tx K mg q) : FnOk P w K mg base CX0 2 q.f_Box_own q.d_Box_own ["self"] (SpZ K (CIof q) (W_Box_own K (CIof q))) :=
  fnz_ok T.F_Box_own sc_Box_own (fun _ _ _ h => h.1) fun cdv A outer s H E hr => ⟨z_Box_own K (CIof q),
    szs_one (sz_ret (ez_calln (ok_limited T) (hr.mono (by decide)) T.m_limited T.F_limited.kp T.b_limited (az_cons (ez_fld (c := 0) (ez_var 0) T.cl_Box T.no_Box__wish) (az_cons (ez_fld (c := 0) (ez_var 0) T.cl_Box T.no_Box__least) (az_cons (ez_fld (c := 0) (ez_var 0) T.cl_Box T.no_Box__most) (az_nil)))))),
    fun _ _ _ h => h.2⟩
theorem ok_own_width (T : Tx K mg q) : FnOk P w K mg base CX0 4 q.f_own_width q.d_own_width ["boxes"] (SpZ K (CIof q) (W_own_width K (CIof q))) :=
  fnz_ok T.F_own_width sc_own_width (fun _ _ _ h => h.1) fun cdv A outer s H E hr => ⟨z_own_width K (CIof q),
    szs_cons (sz_expr (ez_calln (ok_check_boxes T) (hr.mono (by decide)) T.m_check_boxes T.F_check_boxes.kp T.b_check_boxes (az_cons (ez_var 0) (az_nil))))
    (szs_one (sz_ret (ez_callB (cz_sum rfl) T.n_sum (by decide +kernel) (az_cons (ez_lc (own := [("box", 1)]) sc_own_width.nd (iz_list (ez_var 0)) (blkOk_by (N := N_own_width) (sc := defScope s_own_width) (by decide +kernel)) (own_name (i := 1) (by decide)) (blkz (ref_gName) (fun _ _ _ _ _ => pg_name (i := 1) sc_own_width.nd rfl (by first | exact Or.inl rfl | exact Or.inr rfl) (by first | exact Or.inl rfl | exact Or.inr rfl)) (fun _ _ _ _ _ => tsz_nil) (fun _ _ _ _ _ => ez_prop (c := 0) (ez_var 1) T.cl_Box T.pr_Box_own (ok_Box_own T) (hr.mono (by decide)) T.b_Box_own))) (az_nil))))),
    fun _ _ _ h => h.2⟩
theorem ok_does_grow (T : Tx K mg q) : FnOk P w K mg base CX0 5 q.f_does_grow q.d_does_grow ["boxes", "width"] (SpZ K (CIof q) (W_does_grow K (CIof q))) :=
  fnz_ok T.F_does_grow sc_does_grow (fun _ _ _ h => h.1) fun cdv A outer s H E hr => ⟨z_does_grow K (CIof q),
    szs_one (sz_ret (ez_cmp oz_le (ez_calln (ok_order T) (hr.mono (by decide)) T.m_order T.F_order.kp T.b_order (az_cons (ez_tup (az_cons (ez_calln (ok_own_width T) (hr.mono (by decide)) T.m_own_width T.F_own_width.kp T.b_own_width (az_cons (ez_var 0) (az_nil))) (az_cons (ez_int) (az_nil)))) (az_cons (ez_var 1) (az_nil)))) (ez_int))),
    fun _ _ _ h => h.2⟩
theorem ok_weight_of (T : Tx K mg q) : FnOk P w K mg base CX0 3 q.f_weight_of q.d_weight_of ["box", "grows"] (SpZ K (CIof q) (W_weight_of K (CIof q))) :=
  fnz_ok T.F_weight_of sc_weight_of (fun _ _ _ h => h.1) fun cdv A outer s H E hr => ⟨z_weight_of K (CIof q),
    szs_one (sz_ret (ez_if (tz_val (ez_var 1)) (ez_prop (c := 0) (ez_var 0) T.cl_Box T.pr_Box_grow (ok_Box_grow T) (hr.mono (by decide)) T.b_Box_grow) (ez_prop (c := 0) (ez_var 0) T.cl_Box T.pr_Box_shrink (ok_Box_shrink T) (hr.mono (by decide)) T.b_Box_shrink))),
    fun _ _ _ h => h.2⟩
theorem ok_is_frozen_first (T : Tx K mg q) : FnOk P w K mg base CX0 4 q.f_is_frozen_first q.d_is_frozen_first ["box", "grows"] (SpZ K (CIof q) (W_is_frozen_first K (CIof q))) :=
  fnz_ok T.F_is_frozen_first sc_is_frozen_first (fun _ _ _ h => h.1) fun cdv A outer s H E hr => ⟨z_is_frozen_first K (CIof q),
    szs_cons (sz_if (tz_cmp (oz_eq hr.units) (ez_calln (ok_weight_of T) (hr.mono (by decide)) T.m_weight_of T.F_weight_of.kp T.b_weight_of (az_cons (ez_var 0) (az_cons (ez_var 1) (az_nil)))) (ez_int)) (szs_one (sz_ret (ez_bl))) (szs_nil))
    (szs_cons (sz_if (tz_val (ez_var 1)) (szs_one (sz_ret (ez_and (ez_cmp oz_notN (ez_prop (c := 0) (ez_var 0) T.cl_Box T.pr_Box_most (ok_Box_most T) (hr.mono (by decide)) T.b_Box_most) (ez_non)) (ez_one (ez_cmp oz_gt (ez_prop (c := 0) (ez_var 0) T.cl_Box T.pr_Box_wish (ok_Box_wish T) (hr.mono (by decide)) T.b_Box_wish) (ez_prop (c := 0) (ez_var 0) T.cl_Box T.pr_Box_most (ok_Box_most T) (hr.mono (by decide)) T.b_Box_most)))))) (szs_nil))
    (szs_one (sz_ret (ez_cmp oz_lt (ez_prop (c := 0) (ez_var 0) T.cl_Box T.pr_Box_wish (ok_Box_wish T) (hr.mono (by decide)) T.b_Box_wish) (ez_prop (c := 0) (ez_var 0) T.cl_Box T.pr_Box_least (ok_Box_least T) (hr.mono (by decide)) T.b_Box_least))))),
    fun _ _ _ h => h.2⟩
theorem ok_first_sizes (T : Tx K mg q) : FnOk P w K mg base CX0 5 q.f_first_sizes q.d_first_sizes ["boxes", "grows"] (SpZ K (CIof q) (W_first_sizes K (CIof q))) :=
  fnz_ok T.F_first_sizes sc_first_sizes (fun _ _ _ h => h.1) fun cdv A outer s H E hr => ⟨z_first_sizes K (CIof q),
    szs_one (sz_ret (ez_dcC (own := [("index", 2), ("box", 3)]) sc_first_sizes.nd (iz_enum (az_cons (ez_var 0) (az_nil)) T.n_enumerate) (blkOk_by (N := N_first_sizes) (sc := defScope s_first_sizes) (by decide +kernel)) (own_tup (owns_cons (i := 2) (by decide) (owns_cons (i := 3) (by decide) (owns_nil)))) (ref_gTup (ref_gCons ref_gName (ref_gCons ref_gName (ref_gNil)))) (fun _ _ _ _ _ => pg_tup rfl (pgs_cons (pg_name (i := 2) sc_first_sizes.nd rfl (by first | exact Or.inl rfl | exact Or.inr rfl) (by first | exact Or.inl rfl | exact Or.inr rfl)) (pgs_cons (pg_name (i := 3) sc_first_sizes.nd rfl (by first | exact Or.inl rfl | exact Or.inr rfl) (by first | exact Or.inl rfl | exact Or.inr rfl)) (pgs_nil)))) (fun _ _ _ _ _ => tsz_one (tz_val (ez_calln (ok_is_frozen_first T) (hr.mono (by decide)) T.m_is_frozen_first T.F_is_frozen_first.kp T.b_is_frozen_first (az_cons (ez_var 3) (az_cons (ez_var 1) (az_nil)))))) (fun _ _ _ _ _ => ez_var 2) (fun _ _ _ _ _ => ez_tup (az_cons (ez_prop (c := 0) (ez_var 3) T.cl_Box T.pr_Box_own (ok_Box_own T) (hr.mono (by decide)) T.b_Box_own) (az_cons (ez_int) (az_nil)))))),
    fun _ _ _ h => h.2⟩
theorem ok_lowest (T : Tx K mg q) : FnOk P w K mg base CX0 1 q.f_lowest q.d_lowest ["p", "q"] (SpZ K (CIof q) (W_lowest K (CIof q))) :=
  fnz_ok T.F_lowest sc_lowest (fun _ _ _ h => h.1) fun cdv A outer s H E hr => ⟨z_lowest K (CIof q),
    szs_cons (sz_set (i := 2) sc_lowest.nd (ez_callMod cz_gcd T.g_gcd (az_cons (ez_var 0) (az_cons (ez_var 1) (az_nil)))))
    (szs_one (sz_ret (ez_tup (az_cons (ez_op oz_fdiv (ez_var 0) (ez_var 2)) (az_cons (ez_op oz_fdiv (ez_var 1) (ez_var 2)) (az_nil)))))),
    fun _ _ _ h => h.2⟩
theorem ok_plus (T : Tx K mg q) : FnOk P w K mg base CX0 2 q.f_plus q.d_plus ["one", "two"] (SpZ K (CIof q) (W_plus K (CIof q))) :=
  fnz_ok T.F_plus sc_plus (fun _ _ _ h => h.1) fun cdv A outer s H E hr => ⟨z_plus K (CIof q),
    szs_one (sz_ret (ez_calln (ok_lowest T) (hr.mono (by decide)) T.m_lowest T.F_lowest.kp T.b_lowest (az_cons (ez_op oz_add (ez_op oz_mul (ez_ix (ez_var 0) (ez_int)) (ez_ix (ez_var 1) (ez_int))) (ez_op oz_mul (ez_ix (ez_var 1) (ez_int)) (ez_ix (ez_var 0) (ez_int)))) (az_cons (ez_op oz_mul (ez_ix (ez_var 0) (ez_int)) (ez_ix (ez_var 1) (ez_int))) (az_nil))))),
    fun _ _ _ h => h.2⟩
theorem ok_minus (T : Tx K mg q) : FnOk P w K mg base CX0 2 q.f_minus q.d_minus ["one", "two"] (SpZ K (CIof q) (W_minus K (CIof q))) :=
  fnz_ok T.F_minus sc_minus (fun _ _ _ h => h.1) fun cdv A outer s H E hr => ⟨z_minus K (CIof q),
    szs_one (sz_ret (ez_calln (ok_lowest T) (hr.mono (by decide)) T.m_lowest T.F_lowest.kp T.b_lowest (az_cons (ez_op oz_sub (ez_op oz_mul (ez_ix (ez_var 0) (ez_int)) (ez_ix (ez_var 1) (ez_int))) (ez_op oz_mul (ez_ix (ez_var 1) (ez_int)) (ez_ix (ez_var 0) (ez_int)))) (az_cons (ez_op oz_mul (ez_ix (ez_var 0) (ez_int)) (ez_ix (ez_var 1) (ez_int))) (az_nil))))),
    fun _ _ _ h => h.2⟩
theorem ok_common_level (T : Tx K mg q) : FnOk P w K mg base CX0 4 q.f_common_level q.d_common_level ["free", "width", "grows", "frozen"] (SpZ K (CIof q) (W_common_level K (CIof q))) :=
  fnz_ok T.F_common_level sc_common_level (fun _ _ _ h => h.1) fun cdv A outer s H E hr => ⟨z_common_level K (CIof q),
    szs_cons (sz_set (i := 4) sc_common_level.nd (ez_ktup T.c_ZERO))
    (szs_cons (sz_forV 3 (gz_name (i := 5) sc_common_level.nd rfl) (szs_one (sz_set (i := 4) sc_common_level.nd (ez_calln (ok_plus T) (hr.mono (by decide)) T.m_plus T.F_plus.kp T.b_plus (az_cons (ez_var 4) (az_cons (ez_var 5) (az_nil)))))))
    (szs_cons (sz_asg (ez_calln (ok_minus T) (hr.mono (by decide)) T.m_minus T.F_minus.kp T.b_minus (az_cons (ez_calln (ok_minus T) (hr.mono (by decide)) T.m_minus T.F_minus.kp T.b_minus (az_cons (ez_var 1) (az_cons (ez_var 4) (az_nil)))) (az_cons (ez_tup (az_cons (ez_callB (cz_sum rfl) T.n_sum (by decide +kernel) (az_cons (ez_lc (own := [("box", 8)]) sc_common_level.nd (iz_list (ez_var 0)) (blkOk_by (N := N_common_level) (sc := defScope s_common_level) (by decide +kernel)) (own_name (i := 8) (by decide)) (blkz (ref_gName) (fun _ _ _ _ _ => pg_name (i := 8) sc_common_level.nd rfl (by first | exact Or.inl rfl | exact Or.inr rfl) (by first | exact Or.inl rfl | exact Or.inr rfl)) (fun _ _ _ _ _ => tsz_nil) (fun _ _ _ _ _ => ez_prop (c := 0) (ez_var 8) T.cl_Box T.pr_Box_wish (ok_Box_wish T) (hr.mono (by decide)) T.b_Box_wish))) (az_nil))) (az_cons (ez_int) (az_nil)))) (az_nil)))) (gz_tup (gsz_cons (gz_name (i := 6) sc_common_level.nd rfl) (gsz_cons (gz_name (i := 7) sc_common_level.nd rfl) (gsz_nil)))))
    (szs_one (sz_ret (ez_calln (ok_lowest T) (hr.mono (by decide)) T.m_lowest T.F_lowest.kp T.b_lowest (az_cons (ez_var 6) (az_cons (ez_op oz_mul (ez_var 7) (ez_callB (cz_sum rfl) T.n_sum (by decide +kernel) (az_cons (ez_lc (own := [("box", 8)]) sc_common_level.nd (iz_list (ez_var 0)) (blkOk_by (N := N_common_level) (sc := defScope s_common_level) (by decide +kernel)) (own_name (i := 8) (by decide)) (blkz (ref_gName) (fun _ _ _ _ _ => pg_name (i := 8) sc_common_level.nd rfl (by first | exact Or.inl rfl | exact Or.inr rfl) (by first | exact Or.inl rfl | exact Or.inr rfl)) (fun _ _ _ _ _ => tsz_nil) (fun _ _ _ _ _ => ez_calln (ok_weight_of T) (hr.mono (by decide)) T.m_weight_of T.F_weight_of.kp T.b_weight_of (az_cons (ez_var 8) (az_cons (ez_var 2) (az_nil)))))) (az_nil)))) (az_nil)))))))),
    fun _ _ _ h => h.2⟩
theorem ok_next_sizes (T : Tx K mg q) : FnOk P w K mg base CX0 5 q.f_next_sizes q.d_next_sizes ["boxes", "width", "grows", "frozen"] (SpZ K (CIof q) (W_next_sizes K (CIof q))) :=
  fnz_ok T.F_next_sizes sc_next_sizes (fun _ _ _ h => h.1) fun cdv A outer s H E hr => ⟨z_next_sizes K (CIof q),
    szs_cons (sz_setLc (i := 4) (own := [("index", 9)]) sc_next_sizes.nd rfl rfl (sw_true rfl rfl rfl (by decide +kernel)) (iz_r1 (az_cons (ez_callB cz_len T.n_len (by decide +kernel) (az_cons (ez_var 0) (az_nil))) (az_nil)) T.n_range) (blkOk_by (N := N_next_sizes) (sc := defScope s_next_sizes) (by decide +kernel)) (own_name (i := 9) (by decide)) (blkz (ref_gName) (fun _ _ _ _ _ => pg_name (i := 9) sc_next_sizes.nd rfl (by first | exact Or.inl rfl | exact Or.inr rfl) (by first | exact Or.inl rfl | exact Or.inr rfl)) (fun _ _ _ _ _ => tsz_one (tz_cmp (oz_notInD hr.units) (ez_var 9) (ez_var 3))) (fun _ _ _ _ _ => ez_var 9)))
    (szs_cons (sz_asg (ez_calln (ok_common_level T) (hr.mono (by decide)) T.m_common_level T.F_common_level.kp T.b_common_level (az_cons (ez_lc (own := [("index", 9)]) sc_next_sizes.nd (iz_list (ez_var 4)) (blkOk_by (N := N_next_sizes) (sc := defScope s_next_sizes) (by decide +kernel)) (own_name (i := 9) (by decide)) (blkz (ref_gName) (fun _ _ _ _ _ => pg_name (i := 9) sc_next_sizes.nd rfl (by first | exact Or.inl rfl | exact Or.inr rfl) (by first | exact Or.inl rfl | exact Or.inr rfl)) (fun _ _ _ _ _ => tsz_nil) (fun _ _ _ _ _ => ez_ix (ez_var 0) (ez_var 9)))) (az_cons (ez_var 1) (az_cons (ez_var 2) (az_cons (ez_var 3) (az_nil)))))) (gz_tup (gsz_cons (gz_name (i := 5) sc_next_sizes.nd rfl) (gsz_cons (gz_name (i := 6) sc_next_sizes.nd rfl) (gsz_nil)))))
    (szs_cons (sz_asg (ez_tup (az_cons (ez_dnewC) (az_cons (ez_dnewC) (az_nil)))) (gz_tup (gsz_cons (gz_name (i := 7) sc_next_sizes.nd rfl) (gsz_cons (gz_name (i := 8) sc_next_sizes.nd rfl) (gsz_nil)))))
    (szs_cons (sz_for (iz_list (ez_var 4)) (gz_name (i := 9) sc_next_sizes.nd rfl) (szs_cons (sz_set (i := 10) sc_next_sizes.nd (ez_ix (ez_var 0) (ez_var 9)))
    (szs_cons (sz_set (i := 11) sc_next_sizes.nd (ez_op oz_add (ez_op oz_mul (ez_prop (c := 0) (ez_var 10) T.cl_Box T.pr_Box_wish (ok_Box_wish T) (hr.mono (by decide)) T.b_Box_wish) (ez_var 6)) (ez_op oz_mul (ez_var 5) (ez_calln (ok_weight_of T) (hr.mono (by decide)) T.m_weight_of T.F_weight_of.kp T.b_weight_of (az_cons (ez_var 10) (az_cons (ez_var 2) (az_nil)))))))
    (szs_cons (sz_set (i := 12) sc_next_sizes.nd (ez_calln (ok_limited T) (hr.mono (by decide)) T.m_limited T.F_limited.kp T.b_limited (az_cons (ez_var 11) (az_cons (ez_op oz_mul (ez_prop (c := 0) (ez_var 10) T.cl_Box T.pr_Box_least (ok_Box_least T) (hr.mono (by decide)) T.b_Box_least) (ez_var 6)) (az_cons (ez_if (tz_cmp oz_isN (ez_prop (c := 0) (ez_var 10) T.cl_Box T.pr_Box_most (ok_Box_most T) (hr.mono (by decide)) T.b_Box_most) (ez_non)) (ez_non) (ez_op oz_mul (ez_prop (c := 0) (ez_var 10) T.cl_Box T.pr_Box_most (ok_Box_most T) (hr.mono (by decide)) T.b_Box_most) (ez_var 6))) (az_nil))))))
    (szs_cons (sz_dput hr.units (ez_var 7) (ez_var 9) (ez_calln (ok_lowest T) (hr.mono (by decide)) T.m_lowest T.F_lowest.kp T.b_lowest (az_cons (ez_var 12) (az_cons (ez_var 6) (az_nil)))))
    (szs_one (sz_dput hr.units (ez_var 8) (ez_var 9) (ez_op oz_sub (ez_var 12) (ez_var 11)))))))))
    (szs_cons (sz_set (i := 13) sc_next_sizes.nd (ez_callB (cz_sum rfl) T.n_sum (by decide +kernel) (az_cons (ez_listV (ez_var 8) T.n_list) (az_nil))))
    (szs_cons (sz_if (tz_cmp oz_gt (ez_var 13) (ez_int)) (szs_one (sz_ret (ez_dcC (own := [("index", 9)]) sc_next_sizes.nd (iz_list (ez_var 4)) (blkOk_by (N := N_next_sizes) (sc := defScope s_next_sizes) (by decide +kernel)) (own_name (i := 9) (by decide)) (ref_gName) (fun _ _ _ _ _ => pg_name (i := 9) sc_next_sizes.nd rfl (by first | exact Or.inl rfl | exact Or.inr rfl) (by first | exact Or.inl rfl | exact Or.inr rfl)) (fun _ _ _ _ _ => tsz_one (tz_cmp oz_gt (ez_dget hr.units (ez_var 8) (ez_var 9)) (ez_int))) (fun _ _ _ _ _ => ez_var 9) (fun _ _ _ _ _ => ez_dget hr.units (ez_var 7) (ez_var 9))))) (szs_nil))
    (szs_cons (sz_if (tz_cmp oz_lt (ez_var 13) (ez_int)) (szs_one (sz_ret (ez_dcC (own := [("index", 9)]) sc_next_sizes.nd (iz_list (ez_var 4)) (blkOk_by (N := N_next_sizes) (sc := defScope s_next_sizes) (by decide +kernel)) (own_name (i := 9) (by decide)) (ref_gName) (fun _ _ _ _ _ => pg_name (i := 9) sc_next_sizes.nd rfl (by first | exact Or.inl rfl | exact Or.inr rfl) (by first | exact Or.inl rfl | exact Or.inr rfl)) (fun _ _ _ _ _ => tsz_one (tz_cmp oz_lt (ez_dget hr.units (ez_var 8) (ez_var 9)) (ez_int))) (fun _ _ _ _ _ => ez_var 9) (fun _ _ _ _ _ => ez_dget hr.units (ez_var 7) (ez_var 9))))) (szs_nil))
    (szs_one (sz_ret (ez_var 7))))))))),
    fun _ _ _ h => h.2⟩
theorem ok_rounds (T : Tx K mg q) : FnOk P w K mg base CX0 6 q.f_rounds q.d_rounds ["boxes", "width"] (SpZ K (CIof q) (W_rounds K (CIof q))) :=
  fnz_ok T.F_rounds sc_rounds (fun _ _ _ h => h.1) fun cdv A outer s H E hr => ⟨z_rounds K (CIof q),
    szs_cons (sz_expr (ez_callb (ok_check_boxes T) (hr.mono (by decide)) T.m_check_boxes T.F_check_boxes.kp T.b_check_boxes (az_cons (ez_var 0) (az_nil))))
    (szs_cons (sz_expr (ez_calln (ok_check_width T) (hr.mono (by decide)) T.m_check_width T.F_check_width.kp T.b_check_width (az_cons (ez_var 1) (az_nil))))
    (szs_cons (sz_set (i := 2) sc_rounds.nd (ez_calln (ok_as_fraction T) (hr.mono (by decide)) T.m_as_fraction T.F_as_fraction.kp T.b_as_fraction (az_cons (ez_var 1) (az_nil))))
    (szs_cons (sz_set (i := 3) sc_rounds.nd (ez_callb (ok_does_grow T) (hr.mono (by decide)) T.m_does_grow T.F_does_grow.kp T.b_does_grow (az_cons (ez_var 0) (az_cons (ez_var 2) (az_nil)))))
    (szs_cons (sz_set (i := 4) sc_rounds.nd (ez_callbDC (ok_first_sizes T) (hr.mono (by decide)) T.m_first_sizes T.F_first_sizes.kp T.b_first_sizes (az_cons (ez_var 0) (az_cons (ez_var 3) (az_nil)))))
    (szs_cons (sz_set (i := 5) sc_rounds.nd (ez_lstC (az_cons (ez_callB cz_sortD T.n_sorted (by decide +kernel) (az_cons (ez_var 4) (az_nil))) (az_nil))))
    (szs_cons (sz_while (tz_cmp oz_lt (ez_callB cz_lenD T.n_len (by decide +kernel) (az_cons (ez_var 4) (az_nil))) (ez_callB cz_len T.n_len (by decide +kernel) (az_cons (ez_var 0) (az_nil)))) (szs_cons (sz_set (i := 6) sc_rounds.nd (ez_callbD (ok_next_sizes T) (hr.mono (by decide)) T.m_next_sizes T.F_next_sizes.kp T.b_next_sizes (az_cons (ez_var 0) (az_cons (ez_var 2) (az_cons (ez_var 3) (az_cons (ez_var 4) (az_nil)))))))
    (szs_cons (sz_expr (ez_updD (ez_var 4) (az_cons (ez_var 6) (az_nil))))
    (szs_one (sz_expr (ez_append (ez_var 5) (az_cons (ez_callB cz_sortD T.n_sorted (by decide +kernel) (az_cons (ez_var 6) (az_nil))) (az_nil))))))))
    (szs_one (sz_ret (ez_var 5))))))))),
    fun _ _ _ h => h.2⟩
theorem ok__law_right (T : Tx K mg q) : FnOk P w K mg base CX0 7 q.f__law_right q.d__law_right ["number"] (SpZ K (CIof q) (W__law_right K (CIof q))) :=
  fnz_ok T.F__law_right sc__law_right (fun _ _ _ h => h.1) fun cdv A outer s H E hr => ⟨z__law_right K (CIof q),
    szs_cons (sz_set (i := 1) sc__law_right.nd (ez_calln (ok_hard_row T) (hr.mono (by decide)) T.m_hard_row T.F_hard_row.kp T.b_hard_row (az_cons (ez_var 0) (az_nil))))
    (szs_cons (sz_if ((wz_or (tz_not (tz_val (ez_callB cz_isi T.n_isinstance (by decide +kernel) (az_cons (ez_var 1) (az_cons (ez_ty T.n_tuple PyProof.Rows.boot_tuple) (az_nil)))))) (wz_or (tz_cmp (oz_neD hr.units) (ez_callB cz_len T.n_len (by decide +kernel) (az_cons (ez_var 1) (az_nil))) (ez_int)) (wz_or1 (tz_not (tz_val (ez_callB cz_isi T.n_isinstance (by decide +kernel) (az_cons (ez_ix (ez_var 1) (ez_int)) (az_cons (ez_ty T.n_list PyProof.Rows.boot_list) (az_nil))))))))).tz) (szs_one (sz_ret (ez_bl))) (szs_nil))
    (szs_cons (sz_asg (ez_var 1) (gz_tup (gsz_cons (gz_name (i := 2) sc__law_right.nd rfl) (gsz_cons (gz_name (i := 3) sc__law_right.nd rfl) (gsz_nil)))))
    (szs_cons (sz_if ((wz_or (tz_val (ez_callB cz_isi T.n_isinstance (by decide +kernel) (az_cons (ez_var 3) (az_cons (ez_ty T.n_bool PyProof.Rows.boot_bool) (az_nil))))) (wz_or (tz_not (tz_val (ez_callB cz_isi T.n_isinstance (by decide +kernel) (az_cons (ez_var 3) (az_cons (ez_ty T.n_int PyProof.Rows.boot_int) (az_nil)))))) (wz_or (tz_cmp oz_lt (ez_var 3) (ez_int)) (wz_or1 (tz_cmp (oz_neD hr.units) (ez_callB cz_len T.n_len (by decide +kernel) (az_cons (ez_var 2) (az_nil))) (ez_var 0)))))).tz) (szs_one (sz_ret (ez_bl))) (szs_nil))
    (szs_cons (sz_if (tz_lend (tz_cmp (oz_neD hr.units) (ez_lendL (ez_lcC (own := [("box", 7)]) sc__law_right.nd (iz_list (ez_var 2)) (blkOk_by (N := N__law_right) (sc := defScope s__law_right) (by decide +kernel)) (own_name (i := 7) (by decide)) (blkz (ref_gName) (fun _ _ _ _ _ => pg_name (i := 7) sc__law_right.nd rfl (by first | exact Or.inl rfl | exact Or.inr rfl) (by first | exact Or.inl rfl | exact Or.inr rfl)) (fun _ _ _ _ _ => tsz_one (tz_not (tz_val (ez_callB cz_isi T.n_isinstance (by decide +kernel) (az_cons (ez_var 7) (az_cons (ez_cls T.m_Box) (az_nil))))))) (fun _ _ _ _ _ => ez_var 7)))) (ez_lst (az_nil)))) (szs_one (sz_ret (ez_bl))) (szs_nil))
    (szs_cons (sz_setLcL (i := 4) (own := [("box", 7)]) sc__law_right.nd rfl rfl (sw_true rfl rfl rfl (by decide +kernel)) (iz_list (ez_var 2)) (blkOk_by (N := N__law_right) (sc := defScope s__law_right) (by decide +kernel)) (own_name (i := 7) (by decide)) (blkz (ref_gName) (fun _ _ _ _ _ => pg_name (i := 7) sc__law_right.nd rfl (by first | exact Or.inl rfl | exact Or.inr rfl) (by first | exact Or.inl rfl | exact Or.inr rfl)) (fun _ _ _ _ _ => tsz_nil) (fun _ _ _ _ _ => ez_tup (az_cons (ez_prop (c := 0) (ez_var 7) T.cl_Box T.pr_Box_wish (ok_Box_wish T) (hr.mono (by decide)) T.b_Box_wish) (az_cons (ez_prop (c := 0) (ez_var 7) T.cl_Box T.pr_Box_least (ok_Box_least T) (hr.mono (by decide)) T.b_Box_least) (az_cons (ez_prop (c := 0) (ez_var 7) T.cl_Box T.pr_Box_most (ok_Box_most T) (hr.mono (by decide)) T.b_Box_most) (az_cons (ez_prop (c := 0) (ez_var 7) T.cl_Box T.pr_Box_grow (ok_Box_grow T) (hr.mono (by decide)) T.b_Box_grow) (az_cons (ez_prop (c := 0) (ez_var 7) T.cl_Box T.pr_Box_shrink (ok_Box_shrink T) (hr.mono (by decide)) T.b_Box_shrink) (az_nil)))))))))
    (szs_cons (sz_asg (ez_calln (ok__law_rounds T) (hr.mono (by decide)) T.m__law_rounds T.F__law_rounds.kp T.b__law_rounds (az_cons (ez_var 4) (az_cons (ez_tup (az_cons (ez_var 3) (az_cons (ez_int) (az_nil)))) (az_nil)))) (gz_tup (gsz_cons (gz_name (i := 5) sc__law_right.nd rfl) (gsz_cons (gz_name (i := 6) sc__law_right.nd rfl) (gsz_nil)))))
    (szs_cons (sz_if ((wz_or (tz_cmp (oz_neD hr.units) (ez_callB cz_len T.n_len (by decide +kernel) (az_cons (ez_var 5) (az_nil))) (ez_op oz_add (ez_var 0) (ez_int))) (wz_or1 (tz_cmp (oz_neD hr.units) (ez_calln (ok_rounds T) (hr.mono (by decide)) T.m_rounds T.F_rounds.kp T.b_rounds (az_cons (ez_var 2) (az_cons (ez_var 3) (az_nil)))) (ez_var 5)))).tz) (szs_one (sz_ret (ez_bl))) (szs_nil))
    (szs_cons (sz_expr (ez_append (ez_ix (ez_var 1) (ez_int)) (az_cons (ez_non) (az_nil))))
    (szs_one (sz_ret (ez_cmp (oz_eqD hr.units) (ez_callB cz_len T.n_len (by decide +kernel) (az_cons (ez_ix (ez_calln (ok_hard_row T) (hr.mono (by decide)) T.m_hard_row T.F_hard_row.kp T.b_hard_row (az_cons (ez_var 0) (az_nil))) (ez_int)) (az_nil))) (ez_var 0)))))))))))),
    fun _ _ _ h => h.2⟩
theorem ok_law (T : Tx K mg q) : FnOk P w K mg base CX0 8 q.f_law q.d_law ["script"] (SpZ K (CIof q) (W_law K (CIof q))) :=
  fnz_ok T.F_law sc_law (fun _ _ _ h => h.1) fun cdv A outer s H E hr => ⟨z_law K (CIof q),
    szs_cons (sz_set (i := 1) sc_law.nd (ez_calln (ok__law_bag T) (hr.mono (by decide)) T.m__law_bag T.F__law_bag.kp T.b__law_bag (az_cons (ez_ix (ez_op oz_catS (ez_var 0) (ez_lst (az_cons (ez_int) (az_nil)))) (ez_int)) (az_nil))))
    (szs_cons (sz_set (i := 2) sc_law.nd (ez_op oz_cat (ez_lst (az_cons (ez_int) (az_cons (ez_int) (az_cons (ez_int) (az_cons (ez_int) (az_nil)))))) (ez_lc (own := [("k", 3)]) sc_law.nd (iz_r1 (az_cons (ez_int) (az_nil)) T.n_range) (blkOk_by (N := N_law) (sc := defScope s_law) (by decide +kernel)) (own_name (i := 3) (by decide)) (blkz (ref_gName) (fun _ _ _ _ _ => pg_name (i := 3) sc_law.nd rfl (by first | exact Or.inl rfl | exact Or.inr rfl) (by first | exact Or.inl rfl | exact Or.inr rfl)) (fun _ _ _ _ _ => tsz_nil) (fun _ _ _ _ _ => ez_op oz_add (ez_int) (ez_calln (ok__law_pick T) (hr.mono (by decide)) T.m__law_pick T.F__law_pick.kp T.b__law_pick (az_cons (ez_var 1) (az_cons (ez_int) (az_nil)))))))))
    (szs_one (sz_ret (ez_cmp (oz_eqD hr.units) (ez_lc (own := [("number", 4)]) sc_law.nd (iz_list (ez_var 2)) (blkOk_by (N := N_law) (sc := defScope s_law) (by decide +kernel)) (own_name (i := 4) (by decide)) (blkz (ref_gName) (fun _ _ _ _ _ => pg_name (i := 4) sc_law.nd rfl (by first | exact Or.inl rfl | exact Or.inr rfl) (by first | exact Or.inl rfl | exact Or.inr rfl)) (fun _ _ _ _ _ => tsz_one (tz_not (tz_val (ez_calln (ok__law_right T) (hr.mono (by decide)) T.m__law_right T.F__law_right.kp T.b__law_right (az_cons (ez_var 4) (az_nil)))))) (fun _ _ _ _ _ => ez_var 4))) (ez_lst (az_nil)))))),
    fun _ _ _ h => h.2⟩
end
theorem all_mk {l : PySem.W.OpenLaw} {w : World} {K : PySem.W.Frag} {h : Heap} {mg : Str → Option Value} {fa : Addr} (X : K.In h) (G : h.Ns mainGlobals mg) (hfa : mg "law" = some (.ref fa))
    {f__law_bag : Addr} {od__law_bag : Option Addr} {an__law_bag : Option Addr} {sl__law_bag : Array (Option Value)} {oc__law_bag : Value} {kV__law_bag : Value} {dc__law_bag : Value} {pm__law_bag : Value} {cd__law_bag : Value} {ct__law_bag : Value} {f__law_pick : Addr} {od__law_pick : Option Addr} {an__law_pick : Option Addr} {sl__law_pick : Array (Option Value)} {oc__law_pick : Value} {kV__law_pick : Value} {dc__law_pick : Value} {pm__law_pick : Value} {cd__law_pick : Value} {ct__law_pick : Value} {f_is_int : Addr} {od_is_int : Option Addr} {an_is_int : Option Addr} {sl_is_int : Array (Option Value)} {oc_is_int : Value} {kV_is_int : Value} {dc_is_int : Value} {pm_is_int : Value} {cd_is_int : Value} {ct_is_int : Value} {f_in_bounds : Addr} {od_in_bounds : Option Addr} {an_in_bounds : Option Addr} {sl_in_bounds : Array (Option Value)} {oc_in_bounds : Value} {kV_in_bounds : Value} {dc_in_bounds : Value} {pm_in_bounds : Value} {cd_in_bounds : Value} {ct_in_bounds : Value} {f_are_box_numbers : Addr} {od_are_box_numbers : Option Addr} {an_are_box_numbers : Option Addr} {sl_are_box_numbers : Array (Option Value)} {oc_are_box_numbers : Value} {kV_are_box_numbers : Value} {dc_are_box_numbers : Value} {pm_are_box_numbers : Value} {cd_are_box_numbers : Value} {ct_are_box_numbers : Value} {f_Box_d_init_d : Addr} {od_Box_d_init_d : Option Addr} {an_Box_d_init_d : Option Addr} {sl_Box_d_init_d : Array (Option Value)} {oc_Box_d_init_d : Value} {kV_Box_d_init_d : Value} {dc_Box_d_init_d : Value} {pm_Box_d_init_d : Value} {cd_Box_d_init_d : Value} {ct_Box_d_init_d : Value} {T_Box_d_init_d : Addr} {Tc_Box_d_init_d : Value} {Td_Box_d_init_d : Option Addr} {Tn_Box_d_init_d : Nat} {Ts_Box_d_init_d : Array (Option Value)} {t0_Box_d_init_d : Tok} {t2_Box_d_init_d : Tok} {t3_Box_d_init_d : Tok} {f_hard_row : Addr} {od_hard_row : Option Addr} {an_hard_row : Option Addr} {sl_hard_row : Array (Option Value)} {oc_hard_row : Value} {kV_hard_row : Value} {dc_hard_row : Value} {pm_hard_row : Value} {cd_hard_row : Value} {ct_hard_row : Value} {f_Box_wish : Addr} {od_Box_wish : Option Addr} {an_Box_wish : Option Addr} {sl_Box_wish : Array (Option Value)} {oc_Box_wish : Value} {kV_Box_wish : Value} {dc_Box_wish : Value} {pm_Box_wish : Value} {cd_Box_wish : Value} {ct_Box_wish : Value} {f_Box_least : Addr} {od_Box_least : Option Addr} {an_Box_least : Option Addr} {sl_Box_least : Array (Option Value)} {oc_Box_least : Value} {kV_Box_least : Value} {dc_Box_least : Value} {pm_Box_least : Value} {cd_Box_least : Value} {ct_Box_least : Value} {f_Box_most : Addr} {od_Box_most : Option Addr} {an_Box_most : Option Addr} {sl_Box_most : Array (Option Value)} {oc_Box_most : Value} {kV_Box_most : Value} {dc_Box_most : Value} {pm_Box_most : Value} {cd_Box_most : Value} {ct_Box_most : Value} {f_Box_grow : Addr} {od_Box_grow : Option Addr} {an_Box_grow : Option Addr} {sl_Box_grow : Array (Option Value)} {oc_Box_grow : Value} {kV_Box_grow : Value} {dc_Box_grow : Value} {pm_Box_grow : Value} {cd_Box_grow : Value} {ct_Box_grow : Value} {f_Box_shrink : Addr} {od_Box_shrink : Option Addr} {an_Box_shrink : Option Addr} {sl_Box_shrink : Array (Option Value)} {oc_Box_shrink : Value} {kV_Box_shrink : Value} {dc_Box_shrink : Value} {pm_Box_shrink : Value} {cd_Box_shrink : Value} {ct_Box_shrink : Value} {f__law_order : Addr} {od__law_order : Option Addr} {an__law_order : Option Addr} {sl__law_order : Array (Option Value)} {oc__law_order : Value} {kV__law_order : Value} {dc__law_order : Value} {pm__law_order : Value} {cd__law_order : Value} {ct__law_order : Value} {f__law_limited : Addr} {od__law_limited : Option Addr} {an__law_limited : Option Addr} {sl__law_limited : Array (Option Value)} {oc__law_limited : Value} {kV__law_limited : Value} {dc__law_limited : Value} {pm__law_limited : Value} {cd__law_limited : Value} {ct__law_limited : Value} {f__law_own : Addr} {od__law_own : Option Addr} {an__law_own : Option Addr} {sl__law_own : Array (Option Value)} {oc__law_own : Value} {kV__law_own : Value} {dc__law_own : Value} {pm__law_own : Value} {cd__law_own : Value} {ct__law_own : Value} {f__law_begin : Addr} {od__law_begin : Option Addr} {an__law_begin : Option Addr} {sl__law_begin : Array (Option Value)} {oc__law_begin : Value} {kV__law_begin : Value} {dc__law_begin : Value} {pm__law_begin : Value} {cd__law_begin : Value} {ct__law_begin : Value} {f__law_ratio : Addr} {od__law_ratio : Option Addr} {an__law_ratio : Option Addr} {sl__law_ratio : Array (Option Value)} {oc__law_ratio : Value} {kV__law_ratio : Value} {dc__law_ratio : Value} {pm__law_ratio : Value} {cd__law_ratio : Value} {ct__law_ratio : Value} {f__law_minus : Addr} {od__law_minus : Option Addr} {an__law_minus : Option Addr} {sl__law_minus : Array (Option Value)} {oc__law_minus : Value} {kV__law_minus : Value} {dc__law_minus : Value} {pm__law_minus : Value} {cd__law_minus : Value} {ct__law_minus : Value} {f__law_add : Addr} {od__law_add : Option Addr} {an__law_add : Option Addr} {sl__law_add : Array (Option Value)} {oc__law_add : Value} {kV__law_add : Value} {dc__law_add : Value} {pm__law_add : Value} {cd__law_add : Value} {ct__law_add : Value} {f__law_may : Addr} {od__law_may : Option Addr} {an__law_may : Option Addr} {sl__law_may : Array (Option Value)} {oc__law_may : Value} {kV__law_may : Value} {dc__law_may : Value} {pm__law_may : Value} {cd__law_may : Value} {ct__law_may : Value} {f__law_rounds : Addr} {od__law_rounds : Option Addr} {an__law_rounds : Option Addr} {sl__law_rounds : Array (Option Value)} {oc__law_rounds : Value} {kV__law_rounds : Value} {dc__law_rounds : Value} {pm__law_rounds : Value} {cd__law_rounds : Value} {ct__law_rounds : Value} {f_check_boxes : Addr} {od_check_boxes : Option Addr} {an_check_boxes : Option Addr} {sl_check_boxes : Array (Option Value)} {oc_check_boxes : Value} {kV_check_boxes : Value} {dc_check_boxes : Value} {pm_check_boxes : Value} {cd_check_boxes : Value} {ct_check_boxes : Value} {f_is_fraction : Addr} {od_is_fraction : Option Addr} {an_is_fraction : Option Addr} {sl_is_fraction : Array (Option Value)} {oc_is_fraction : Value} {kV_is_fraction : Value} {dc_is_fraction : Value} {pm_is_fraction : Value} {cd_is_fraction : Value} {ct_is_fraction : Value} {f_is_rational : Addr} {od_is_rational : Option Addr} {an_is_rational : Option Addr} {sl_is_rational : Array (Option Value)} {oc_is_rational : Value} {kV_is_rational : Value} {dc_is_rational : Value} {pm_is_rational : Value} {cd_is_rational : Value} {ct_is_rational : Value} {f_as_fraction : Addr} {od_as_fraction : Option Addr} {an_as_fraction : Option Addr} {sl_as_fraction : Array (Option Value)} {oc_as_fraction : Value} {kV_as_fraction : Value} {dc_as_fraction : Value} {pm_as_fraction : Value} {cd_as_fraction : Value} {ct_as_fraction : Value} {f_check_width : Addr} {od_check_width : Option Addr} {an_check_width : Option Addr} {sl_check_width : Array (Option Value)} {oc_check_width : Value} {kV_check_width : Value} {dc_check_width : Value} {pm_check_width : Value} {cd_check_width : Value} {ct_check_width : Value} {f_order : Addr} {od_order : Option Addr} {an_order : Option Addr} {sl_order : Array (Option Value)} {oc_order : Value} {kV_order : Value} {dc_order : Value} {pm_order : Value} {cd_order : Value} {ct_order : Value} {f_limited : Addr} {od_limited : Option Addr} {an_limited : Option Addr} {sl_limited : Array (Option Value)} {oc_limited : Value} {kV_limited : Value} {dc_limited : Value} {pm_limited : Value} {cd_limited : Value} {ct_limited : Value} {f_Box_own : Addr} {od_Box_own : Option Addr} {an_Box_own : Option Addr} {sl_Box_own : Array (Option Value)} {oc_Box_own : Value} {kV_Box_own : Value} {dc_Box_own : Value} {pm_Box_own : Value} {cd_Box_own : Value} {ct_Box_own : Value} {f_own_width : Addr} {od_own_width : Option Addr} {an_own_width : Option Addr} {sl_own_width : Array (Option Value)} {oc_own_width : Value} {kV_own_width : Value} {dc_own_width : Value} {pm_own_width : Value} {cd_own_width : Value} {ct_own_width : Value} {f_does_grow : Addr} {od_does_grow : Option Addr} {an_does_grow : Option Addr} {sl_does_grow : Array (Option Value)} {oc_does_grow : Value} {kV_does_grow : Value} {dc_does_grow : Value} {pm_does_grow : Value} {cd_does_grow : Value} {ct_does_grow : Value} {f_weight_of : Addr} {od_weight_of : Option Addr} {an_weight_of : Option Addr} {sl_weight_of : Array (Option Value)} {oc_weight_of : Value} {kV_weight_of : Value} {dc_weight_of : Value} {pm_weight_of : Value} {cd_weight_of : Value} {ct_weight_of : Value} {f_is_frozen_first : Addr} {od_is_frozen_first : Option Addr} {an_is_frozen_first : Option Addr} {sl_is_frozen_first : Array (Option Value)} {oc_is_frozen_first : Value} {kV_is_frozen_first : Value} {dc_is_frozen_first : Value} {pm_is_frozen_first : Value} {cd_is_frozen_first : Value} {ct_is_frozen_first : Value} {f_first_sizes : Addr} {od_first_sizes : Option Addr} {an_first_sizes : Option Addr} {sl_first_sizes : Array (Option Value)} {oc_first_sizes : Value} {kV_first_sizes : Value} {dc_first_sizes : Value} {pm_first_sizes : Value} {cd_first_sizes : Value} {ct_first_sizes : Value} {f_lowest : Addr} {od_lowest : Option Addr} {an_lowest : Option Addr} {sl_lowest : Array (Option Value)} {oc_lowest : Value} {kV_lowest : Value} {dc_lowest : Value} {pm_lowest : Value} {cd_lowest : Value} {ct_lowest : Value} {f_plus : Addr} {od_plus : Option Addr} {an_plus : Option Addr} {sl_plus : Array (Option Value)} {oc_plus : Value} {kV_plus : Value} {dc_plus : Value} {pm_plus : Value} {cd_plus : Value} {ct_plus : Value} {f_minus : Addr} {od_minus : Option Addr} {an_minus : Option Addr} {sl_minus : Array (Option Value)} {oc_minus : Value} {kV_minus : Value} {dc_minus : Value} {pm_minus : Value} {cd_minus : Value} {ct_minus : Value} {f_common_level : Addr} {od_common_level : Option Addr} {an_common_level : Option Addr} {sl_common_level : Array (Option Value)} {oc_common_level : Value} {kV_common_level : Value} {dc_common_level : Value} {pm_common_level : Value} {cd_common_level : Value} {ct_common_level : Value} {f_next_sizes : Addr} {od_next_sizes : Option Addr} {an_next_sizes : Option Addr} {sl_next_sizes : Array (Option Value)} {oc_next_sizes : Value} {kV_next_sizes : Value} {dc_next_sizes : Value} {pm_next_sizes : Value} {cd_next_sizes : Value} {ct_next_sizes : Value} {f_rounds : Addr} {od_rounds : Option Addr} {an_rounds : Option Addr} {sl_rounds : Array (Option Value)} {oc_rounds : Value} {kV_rounds : Value} {dc_rounds : Value} {pm_rounds : Value} {cd_rounds : Value} {ct_rounds : Value} {f__law_right : Addr} {od__law_right : Option Addr} {an__law_right : Option Addr} {sl__law_right : Array (Option Value)} {oc__law_right : Value} {kV__law_right : Value} {dc__law_right : Value} {pm__law_right : Value} {cd__law_right : Value} {ct__law_right : Value} {f_law : Addr} {od_law : Option Addr} {an_law : Option Addr} {sl_law : Array (Option Value)} {oc_law : Value} {kV_law : Value} {dc_law : Value} {pm_law : Value} {cd_law : Value} {ct_law : Value} {c_Box : Addr} {p_Box_wish : Addr} {pr_Box_wish : List Value} {p_Box_least : Addr} {pr_Box_least : List Value} {p_Box_most : Addr} {pr_Box_most : List Value} {p_Box_grow : Addr} {pr_Box_grow : List Value} {p_Box_shrink : Addr} {pr_Box_shrink : List Value} {p_Box_own : Addr} {pr_Box_own : List Value} {tk_HEAVIEST : Tok} {tk_MOST_BOXES : Tok} {tk_WIDEST : Tok} {z_ZERO : Addr} {od_ZERO : Option Addr} {nn_ZERO : Nat} {sl_ZERO : Array (Option Value)} {ta_ZERO : Tok} {tb_ZERO : Tok}
    (a__law_bag : PySem.W.nsIn K mainGlobals "_law_bag" = some (some (.ref f__law_bag)))
    (l__law_bag : K.lookup f__law_bag = some ⟨oc__law_bag, od__law_bag, .func (PySem.W.fnOf "_law_bag" "_law_bag" (defArgs s__law_bag) (defBody s__law_bag) (defScope s__law_bag) .none kV__law_bag dc__law_bag pm__law_bag an__law_bag cd__law_bag ct__law_bag), sl__law_bag⟩)
    (e__law_bag : PySem.W.codeIn K cd__law_bag "_law_bag" = true)
    (k__law_bag : PySem.W.keepIn K (.ref f__law_bag) = true)
    (a__law_pick : PySem.W.nsIn K mainGlobals "_law_pick" = some (some (.ref f__law_pick)))
    (l__law_pick : K.lookup f__law_pick = some ⟨oc__law_pick, od__law_pick, .func (PySem.W.fnOf "_law_pick" "_law_pick" (defArgs s__law_pick) (defBody s__law_pick) (defScope s__law_pick) .none kV__law_pick dc__law_pick pm__law_pick an__law_pick cd__law_pick ct__law_pick), sl__law_pick⟩)
    (e__law_pick : PySem.W.codeIn K cd__law_pick "_law_pick" = true)
    (k__law_pick : PySem.W.keepIn K (.ref f__law_pick) = true)
    (a_is_int : PySem.W.nsIn K mainGlobals "is_int" = some (some (.ref f_is_int)))
    (l_is_int : K.lookup f_is_int = some ⟨oc_is_int, od_is_int, .func (PySem.W.fnOf "is_int" "is_int" (defArgs s_is_int) (defBody s_is_int) (defScope s_is_int) .none kV_is_int dc_is_int pm_is_int an_is_int cd_is_int ct_is_int), sl_is_int⟩)
    (e_is_int : PySem.W.codeIn K cd_is_int "is_int" = true)
    (k_is_int : PySem.W.keepIn K (.ref f_is_int) = true)
    (a_in_bounds : PySem.W.nsIn K mainGlobals "in_bounds" = some (some (.ref f_in_bounds)))
    (l_in_bounds : K.lookup f_in_bounds = some ⟨oc_in_bounds, od_in_bounds, .func (PySem.W.fnOf "in_bounds" "in_bounds" (defArgs s_in_bounds) (defBody s_in_bounds) (defScope s_in_bounds) .none kV_in_bounds dc_in_bounds pm_in_bounds an_in_bounds cd_in_bounds ct_in_bounds), sl_in_bounds⟩)
    (e_in_bounds : PySem.W.codeIn K cd_in_bounds "in_bounds" = true)
    (k_in_bounds : PySem.W.keepIn K (.ref f_in_bounds) = true)
    (a_are_box_numbers : PySem.W.nsIn K mainGlobals "are_box_numbers" = some (some (.ref f_are_box_numbers)))
    (l_are_box_numbers : K.lookup f_are_box_numbers = some ⟨oc_are_box_numbers, od_are_box_numbers, .func (PySem.W.fnOf "are_box_numbers" "are_box_numbers" (defArgs s_are_box_numbers) (defBody s_are_box_numbers) (defScope s_are_box_numbers) .none kV_are_box_numbers dc_are_box_numbers pm_are_box_numbers an_are_box_numbers cd_are_box_numbers ct_are_box_numbers), sl_are_box_numbers⟩)
    (e_are_box_numbers : PySem.W.codeIn K cd_are_box_numbers "are_box_numbers" = true)
    (k_are_box_numbers : PySem.W.keepIn K (.ref f_are_box_numbers) = true)
    (a_hard_row : PySem.W.nsIn K mainGlobals "hard_row" = some (some (.ref f_hard_row)))
    (l_hard_row : K.lookup f_hard_row = some ⟨oc_hard_row, od_hard_row, .func (PySem.W.fnOf "hard_row" "hard_row" (defArgs s_hard_row) (defBody s_hard_row) (defScope s_hard_row) .none kV_hard_row dc_hard_row pm_hard_row an_hard_row cd_hard_row ct_hard_row), sl_hard_row⟩)
    (e_hard_row : PySem.W.codeIn K cd_hard_row "hard_row" = true)
    (k_hard_row : PySem.W.keepIn K (.ref f_hard_row) = true)
    (a__law_order : PySem.W.nsIn K mainGlobals "_law_order" = some (some (.ref f__law_order)))
    (l__law_order : K.lookup f__law_order = some ⟨oc__law_order, od__law_order, .func (PySem.W.fnOf "_law_order" "_law_order" (defArgs s__law_order) (defBody s__law_order) (defScope s__law_order) .none kV__law_order dc__law_order pm__law_order an__law_order cd__law_order ct__law_order), sl__law_order⟩)
    (e__law_order : PySem.W.codeIn K cd__law_order "_law_order" = true)
    (k__law_order : PySem.W.keepIn K (.ref f__law_order) = true)
    (a__law_limited : PySem.W.nsIn K mainGlobals "_law_limited" = some (some (.ref f__law_limited)))
    (l__law_limited : K.lookup f__law_limited = some ⟨oc__law_limited, od__law_limited, .func (PySem.W.fnOf "_law_limited" "_law_limited" (defArgs s__law_limited) (defBody s__law_limited) (defScope s__law_limited) .none kV__law_limited dc__law_limited pm__law_limited an__law_limited cd__law_limited ct__law_limited), sl__law_limited⟩)
    (e__law_limited : PySem.W.codeIn K cd__law_limited "_law_limited" = true)
    (k__law_limited : PySem.W.keepIn K (.ref f__law_limited) = true)
    (a__law_own : PySem.W.nsIn K mainGlobals "_law_own" = some (some (.ref f__law_own)))
    (l__law_own : K.lookup f__law_own = some ⟨oc__law_own, od__law_own, .func (PySem.W.fnOf "_law_own" "_law_own" (defArgs s__law_own) (defBody s__law_own) (defScope s__law_own) .none kV__law_own dc__law_own pm__law_own an__law_own cd__law_own ct__law_own), sl__law_own⟩)
    (e__law_own : PySem.W.codeIn K cd__law_own "_law_own" = true)
    (k__law_own : PySem.W.keepIn K (.ref f__law_own) = true)
    (a__law_begin : PySem.W.nsIn K mainGlobals "_law_begin" = some (some (.ref f__law_begin)))
    (l__law_begin : K.lookup f__law_begin = some ⟨oc__law_begin, od__law_begin, .func (PySem.W.fnOf "_law_begin" "_law_begin" (defArgs s__law_begin) (defBody s__law_begin) (defScope s__law_begin) .none kV__law_begin dc__law_begin pm__law_begin an__law_begin cd__law_begin ct__law_begin), sl__law_begin⟩)
    (e__law_begin : PySem.W.codeIn K cd__law_begin "_law_begin" = true)
    (k__law_begin : PySem.W.keepIn K (.ref f__law_begin) = true)
    (a__law_ratio : PySem.W.nsIn K mainGlobals "_law_ratio" = some (some (.ref f__law_ratio)))
    (l__law_ratio : K.lookup f__law_ratio = some ⟨oc__law_ratio, od__law_ratio, .func (PySem.W.fnOf "_law_ratio" "_law_ratio" (defArgs s__law_ratio) (defBody s__law_ratio) (defScope s__law_ratio) .none kV__law_ratio dc__law_ratio pm__law_ratio an__law_ratio cd__law_ratio ct__law_ratio), sl__law_ratio⟩)
    (e__law_ratio : PySem.W.codeIn K cd__law_ratio "_law_ratio" = true)
    (k__law_ratio : PySem.W.keepIn K (.ref f__law_ratio) = true)
    (a__law_minus : PySem.W.nsIn K mainGlobals "_law_minus" = some (some (.ref f__law_minus)))
    (l__law_minus : K.lookup f__law_minus = some ⟨oc__law_minus, od__law_minus, .func (PySem.W.fnOf "_law_minus" "_law_minus" (defArgs s__law_minus) (defBody s__law_minus) (defScope s__law_minus) .none kV__law_minus dc__law_minus pm__law_minus an__law_minus cd__law_minus ct__law_minus), sl__law_minus⟩)
    (e__law_minus : PySem.W.codeIn K cd__law_minus "_law_minus" = true)
    (k__law_minus : PySem.W.keepIn K (.ref f__law_minus) = true)
    (a__law_add : PySem.W.nsIn K mainGlobals "_law_add" = some (some (.ref f__law_add)))
    (l__law_add : K.lookup f__law_add = some ⟨oc__law_add, od__law_add, .func (PySem.W.fnOf "_law_add" "_law_add" (defArgs s__law_add) (defBody s__law_add) (defScope s__law_add) .none kV__law_add dc__law_add pm__law_add an__law_add cd__law_add ct__law_add), sl__law_add⟩)
    (e__law_add : PySem.W.codeIn K cd__law_add "_law_add" = true)
    (k__law_add : PySem.W.keepIn K (.ref f__law_add) = true)
    (a__law_may : PySem.W.nsIn K mainGlobals "_law_may" = some (some (.ref f__law_may)))
    (l__law_may : K.lookup f__law_may = some ⟨oc__law_may, od__law_may, .func (PySem.W.fnOf "_law_may" "_law_may" (defArgs s__law_may) (defBody s__law_may) (defScope s__law_may) .none kV__law_may dc__law_may pm__law_may an__law_may cd__law_may ct__law_may), sl__law_may⟩)
    (e__law_may : PySem.W.codeIn K cd__law_may "_law_may" = true)
    (k__law_may : PySem.W.keepIn K (.ref f__law_may) = true)
    (a__law_rounds : PySem.W.nsIn K mainGlobals "_law_rounds" = some (some (.ref f__law_rounds)))
    (l__law_rounds : K.lookup f__law_rounds = some ⟨oc__law_rounds, od__law_rounds, .func (PySem.W.fnOf "_law_rounds" "_law_rounds" (defArgs s__law_rounds) (defBody s__law_rounds) (defScope s__law_rounds) .none kV__law_rounds dc__law_rounds pm__law_rounds an__law_rounds cd__law_rounds ct__law_rounds), sl__law_rounds⟩)
    (e__law_rounds : PySem.W.codeIn K cd__law_rounds "_law_rounds" = true)
    (k__law_rounds : PySem.W.keepIn K (.ref f__law_rounds) = true)
    (a_check_boxes : PySem.W.nsIn K mainGlobals "check_boxes" = some (some (.ref f_check_boxes)))
    (l_check_boxes : K.lookup f_check_boxes = some ⟨oc_check_boxes, od_check_boxes, .func (PySem.W.fnOf "check_boxes" "check_boxes" (defArgs s_check_boxes) (defBody s_check_boxes) (defScope s_check_boxes) .none kV_check_boxes dc_check_boxes pm_check_boxes an_check_boxes cd_check_boxes ct_check_boxes), sl_check_boxes⟩)
    (e_check_boxes : PySem.W.codeIn K cd_check_boxes "check_boxes" = true)
    (k_check_boxes : PySem.W.keepIn K (.ref f_check_boxes) = true)
    (a_is_fraction : PySem.W.nsIn K mainGlobals "is_fraction" = some (some (.ref f_is_fraction)))
    (l_is_fraction : K.lookup f_is_fraction = some ⟨oc_is_fraction, od_is_fraction, .func (PySem.W.fnOf "is_fraction" "is_fraction" (defArgs s_is_fraction) (defBody s_is_fraction) (defScope s_is_fraction) .none kV_is_fraction dc_is_fraction pm_is_fraction an_is_fraction cd_is_fraction ct_is_fraction), sl_is_fraction⟩)
    (e_is_fraction : PySem.W.codeIn K cd_is_fraction "is_fraction" = true)
    (k_is_fraction : PySem.W.keepIn K (.ref f_is_fraction) = true)
    (a_is_rational : PySem.W.nsIn K mainGlobals "is_rational" = some (some (.ref f_is_rational)))
    (l_is_rational : K.lookup f_is_rational = some ⟨oc_is_rational, od_is_rational, .func (PySem.W.fnOf "is_rational" "is_rational" (defArgs s_is_rational) (defBody s_is_rational) (defScope s_is_rational) .none kV_is_rational dc_is_rational pm_is_rational an_is_rational cd_is_rational ct_is_rational), sl_is_rational⟩)
    (e_is_rational : PySem.W.codeIn K cd_is_rational "is_rational" = true)
    (k_is_rational : PySem.W.keepIn K (.ref f_is_rational) = true)
    (a_as_fraction : PySem.W.nsIn K mainGlobals "as_fraction" = some (some (.ref f_as_fraction)))
    (l_as_fraction : K.lookup f_as_fraction = some ⟨oc_as_fraction, od_as_fraction, .func (PySem.W.fnOf "as_fraction" "as_fraction" (defArgs s_as_fraction) (defBody s_as_fraction) (defScope s_as_fraction) .none kV_as_fraction dc_as_fraction pm_as_fraction an_as_fraction cd_as_fraction ct_as_fraction), sl_as_fraction⟩)
    (e_as_fraction : PySem.W.codeIn K cd_as_fraction "as_fraction" = true)
    (k_as_fraction : PySem.W.keepIn K (.ref f_as_fraction) = true)
    (a_check_width : PySem.W.nsIn K mainGlobals "check_width" = some (some (.ref f_check_width)))
    (l_check_width : K.lookup f_check_width = some ⟨oc_check_width, od_check_width, .func (PySem.W.fnOf "check_width" "check_width" (defArgs s_check_width) (defBody s_check_width) (defScope s_check_width) .none kV_check_width dc_check_width pm_check_width an_check_width cd_check_width ct_check_width), sl_check_width⟩)
    (e_check_width : PySem.W.codeIn K cd_check_width "check_width" = true)
    (k_check_width : PySem.W.keepIn K (.ref f_check_width) = true)
    (a_order : PySem.W.nsIn K mainGlobals "order" = some (some (.ref f_order)))
    (l_order : K.lookup f_order = some ⟨oc_order, od_order, .func (PySem.W.fnOf "order" "order" (defArgs s_order) (defBody s_order) (defScope s_order) .none kV_order dc_order pm_order an_order cd_order ct_order), sl_order⟩)
    (e_order : PySem.W.codeIn K cd_order "order" = true)
    (k_order : PySem.W.keepIn K (.ref f_order) = true)
    (a_limited : PySem.W.nsIn K mainGlobals "limited" = some (some (.ref f_limited)))
    (l_limited : K.lookup f_limited = some ⟨oc_limited, od_limited, .func (PySem.W.fnOf "limited" "limited" (defArgs s_limited) (defBody s_limited) (defScope s_limited) .none kV_limited dc_limited pm_limited an_limited cd_limited ct_limited), sl_limited⟩)
    (e_limited : PySem.W.codeIn K cd_limited "limited" = true)
    (k_limited : PySem.W.keepIn K (.ref f_limited) = true)
    (a_own_width : PySem.W.nsIn K mainGlobals "own_width" = some (some (.ref f_own_width)))
    (l_own_width : K.lookup f_own_width = some ⟨oc_own_width, od_own_width, .func (PySem.W.fnOf "own_width" "own_width" (defArgs s_own_width) (defBody s_own_width) (defScope s_own_width) .none kV_own_width dc_own_width pm_own_width an_own_width cd_own_width ct_own_width), sl_own_width⟩)
    (e_own_width : PySem.W.codeIn K cd_own_width "own_width" = true)
    (k_own_width : PySem.W.keepIn K (.ref f_own_width) = true)
    (a_does_grow : PySem.W.nsIn K mainGlobals "does_grow" = some (some (.ref f_does_grow)))
    (l_does_grow : K.lookup f_does_grow = some ⟨oc_does_grow, od_does_grow, .func (PySem.W.fnOf "does_grow" "does_grow" (defArgs s_does_grow) (defBody s_does_grow) (defScope s_does_grow) .none kV_does_grow dc_does_grow pm_does_grow an_does_grow cd_does_grow ct_does_grow), sl_does_grow⟩)
    (e_does_grow : PySem.W.codeIn K cd_does_grow "does_grow" = true)
    (k_does_grow : PySem.W.keepIn K (.ref f_does_grow) = true)
    (a_weight_of : PySem.W.nsIn K mainGlobals "weight_of" = some (some (.ref f_weight_of)))
    (l_weight_of : K.lookup f_weight_of = some ⟨oc_weight_of, od_weight_of, .func (PySem.W.fnOf "weight_of" "weight_of" (defArgs s_weight_of) (defBody s_weight_of) (defScope s_weight_of) .none kV_weight_of dc_weight_of pm_weight_of an_weight_of cd_weight_of ct_weight_of), sl_weight_of⟩)
    (e_weight_of : PySem.W.codeIn K cd_weight_of "weight_of" = true)
    (k_weight_of : PySem.W.keepIn K (.ref f_weight_of) = true)
    (a_is_frozen_first : PySem.W.nsIn K mainGlobals "is_frozen_first" = some (some (.ref f_is_frozen_first)))
    (l_is_frozen_first : K.lookup f_is_frozen_first = some ⟨oc_is_frozen_first, od_is_frozen_first, .func (PySem.W.fnOf "is_frozen_first" "is_frozen_first" (defArgs s_is_frozen_first) (defBody s_is_frozen_first) (defScope s_is_frozen_first) .none kV_is_frozen_first dc_is_frozen_first pm_is_frozen_first an_is_frozen_first cd_is_frozen_first ct_is_frozen_first), sl_is_frozen_first⟩)
    (e_is_frozen_first : PySem.W.codeIn K cd_is_frozen_first "is_frozen_first" = true)
    (k_is_frozen_first : PySem.W.keepIn K (.ref f_is_frozen_first) = true)
    (a_first_sizes : PySem.W.nsIn K mainGlobals "first_sizes" = some (some (.ref f_first_sizes)))
    (l_first_sizes : K.lookup f_first_sizes = some ⟨oc_first_sizes, od_first_sizes, .func (PySem.W.fnOf "first_sizes" "first_sizes" (defArgs s_first_sizes) (defBody s_first_sizes) (defScope s_first_sizes) .none kV_first_sizes dc_first_sizes pm_first_sizes an_first_sizes cd_first_sizes ct_first_sizes), sl_first_sizes⟩)
    (e_first_sizes : PySem.W.codeIn K cd_first_sizes "first_sizes" = true)
    (k_first_sizes : PySem.W.keepIn K (.ref f_first_sizes) = true)
    (a_lowest : PySem.W.nsIn K mainGlobals "lowest" = some (some (.ref f_lowest)))
    (l_lowest : K.lookup f_lowest = some ⟨oc_lowest, od_lowest, .func (PySem.W.fnOf "lowest" "lowest" (defArgs s_lowest) (defBody s_lowest) (defScope s_lowest) .none kV_lowest dc_lowest pm_lowest an_lowest cd_lowest ct_lowest), sl_lowest⟩)
    (e_lowest : PySem.W.codeIn K cd_lowest "lowest" = true)
    (k_lowest : PySem.W.keepIn K (.ref f_lowest) = true)
    (a_plus : PySem.W.nsIn K mainGlobals "plus" = some (some (.ref f_plus)))
    (l_plus : K.lookup f_plus = some ⟨oc_plus, od_plus, .func (PySem.W.fnOf "plus" "plus" (defArgs s_plus) (defBody s_plus) (defScope s_plus) .none kV_plus dc_plus pm_plus an_plus cd_plus ct_plus), sl_plus⟩)
    (e_plus : PySem.W.codeIn K cd_plus "plus" = true)
    (k_plus : PySem.W.keepIn K (.ref f_plus) = true)
    (a_minus : PySem.W.nsIn K mainGlobals "minus" = some (some (.ref f_minus)))
    (l_minus : K.lookup f_minus = some ⟨oc_minus, od_minus, .func (PySem.W.fnOf "minus" "minus" (defArgs s_minus) (defBody s_minus) (defScope s_minus) .none kV_minus dc_minus pm_minus an_minus cd_minus ct_minus), sl_minus⟩)
    (e_minus : PySem.W.codeIn K cd_minus "minus" = true)
    (k_minus : PySem.W.keepIn K (.ref f_minus) = true)
    (a_common_level : PySem.W.nsIn K mainGlobals "common_level" = some (some (.ref f_common_level)))
    (l_common_level : K.lookup f_common_level = some ⟨oc_common_level, od_common_level, .func (PySem.W.fnOf "common_level" "common_level" (defArgs s_common_level) (defBody s_common_level) (defScope s_common_level) .none kV_common_level dc_common_level pm_common_level an_common_level cd_common_level ct_common_level), sl_common_level⟩)
    (e_common_level : PySem.W.codeIn K cd_common_level "common_level" = true)
    (k_common_level : PySem.W.keepIn K (.ref f_common_level) = true)
    (a_next_sizes : PySem.W.nsIn K mainGlobals "next_sizes" = some (some (.ref f_next_sizes)))
    (l_next_sizes : K.lookup f_next_sizes = some ⟨oc_next_sizes, od_next_sizes, .func (PySem.W.fnOf "next_sizes" "next_sizes" (defArgs s_next_sizes) (defBody s_next_sizes) (defScope s_next_sizes) .none kV_next_sizes dc_next_sizes pm_next_sizes an_next_sizes cd_next_sizes ct_next_sizes), sl_next_sizes⟩)
    (e_next_sizes : PySem.W.codeIn K cd_next_sizes "next_sizes" = true)
    (k_next_sizes : PySem.W.keepIn K (.ref f_next_sizes) = true)
    (a_rounds : PySem.W.nsIn K mainGlobals "rounds" = some (some (.ref f_rounds)))
    (l_rounds : K.lookup f_rounds = some ⟨oc_rounds, od_rounds, .func (PySem.W.fnOf "rounds" "rounds" (defArgs s_rounds) (defBody s_rounds) (defScope s_rounds) .none kV_rounds dc_rounds pm_rounds an_rounds cd_rounds ct_rounds), sl_rounds⟩)
    (e_rounds : PySem.W.codeIn K cd_rounds "rounds" = true)
    (k_rounds : PySem.W.keepIn K (.ref f_rounds) = true)
    (a__law_right : PySem.W.nsIn K mainGlobals "_law_right" = some (some (.ref f__law_right)))
    (l__law_right : K.lookup f__law_right = some ⟨oc__law_right, od__law_right, .func (PySem.W.fnOf "_law_right" "_law_right" (defArgs s__law_right) (defBody s__law_right) (defScope s__law_right) .none kV__law_right dc__law_right pm__law_right an__law_right cd__law_right ct__law_right), sl__law_right⟩)
    (e__law_right : PySem.W.codeIn K cd__law_right "_law_right" = true)
    (k__law_right : PySem.W.keepIn K (.ref f__law_right) = true)
    (a_law : PySem.W.nsIn K mainGlobals "law" = some (some (.ref f_law)))
    (l_law : K.lookup f_law = some ⟨oc_law, od_law, .func (PySem.W.fnOf "law" "law" (defArgs s_law) (defBody s_law) (defScope s_law) .none kV_law dc_law pm_law an_law cd_law ct_law), sl_law⟩)
    (e_law : PySem.W.codeIn K cd_law "law" = true)
    (k_law : PySem.W.keepIn K (.ref f_law) = true)
    (a_Box : PySem.W.nsIn K mainGlobals "Box" = some (some (.ref c_Box)))
    (pg_Box : PySem.W.plainGet K c_Box Str.empty = true)
    (hd_Box : PySem.W.hasDictIn K c_Box = true)
    (po_Box : PySem.W.plainOver K c_Box = true)
    (sa_Box : PySem.W.findIn K (.ref c_Box) "__setattr__" = some (some (.builtin "object.__setattr__")))
    (no_Box__wish : PySem.W.findIn K (.ref c_Box) "_wish" = some none)
    (no_Box__least : PySem.W.findIn K (.ref c_Box) "_least" = some none)
    (no_Box__most : PySem.W.findIn K (.ref c_Box) "_most" = some none)
    (no_Box__grow : PySem.W.findIn K (.ref c_Box) "_grow" = some none)
    (no_Box__shrink : PySem.W.findIn K (.ref c_Box) "_shrink" = some none)
    (at_Box_d_init_d : PySem.W.findIn K (.ref c_Box) "__init__" = some (some (.ref f_Box_d_init_d)))
    (fn_Box_d_init_d : PySem.W.isFn K (.ref f_Box_d_init_d) = true)
    (mk_Box : PySem.W.makesIn K c_Box = true)
    (kc_Box : PySem.W.keepIn K (.ref c_Box) = true)
    (pa_Box_wish : PySem.W.findIn K (.ref c_Box) "wish" = some (some (.ref p_Box_wish)))
    (pb_Box_wish : PySem.W.specialIn K (.ref p_Box_wish) "__get__" = some (some (.builtin "property.__get__")))
    (pc_Box_wish : PySem.W.takesIn K (.ref p_Box_wish) = some true)
    (pd_Box_wish : PySem.W.recIn K p_Box_wish "property" = some (.ref f_Box_wish :: pr_Box_wish))
    (pa_Box_least : PySem.W.findIn K (.ref c_Box) "least" = some (some (.ref p_Box_least)))
    (pb_Box_least : PySem.W.specialIn K (.ref p_Box_least) "__get__" = some (some (.builtin "property.__get__")))
    (pc_Box_least : PySem.W.takesIn K (.ref p_Box_least) = some true)
    (pd_Box_least : PySem.W.recIn K p_Box_least "property" = some (.ref f_Box_least :: pr_Box_least))
    (pa_Box_most : PySem.W.findIn K (.ref c_Box) "most" = some (some (.ref p_Box_most)))
    (pb_Box_most : PySem.W.specialIn K (.ref p_Box_most) "__get__" = some (some (.builtin "property.__get__")))
    (pc_Box_most : PySem.W.takesIn K (.ref p_Box_most) = some true)
    (pd_Box_most : PySem.W.recIn K p_Box_most "property" = some (.ref f_Box_most :: pr_Box_most))
    (pa_Box_grow : PySem.W.findIn K (.ref c_Box) "grow" = some (some (.ref p_Box_grow)))
    (pb_Box_grow : PySem.W.specialIn K (.ref p_Box_grow) "__get__" = some (some (.builtin "property.__get__")))
    (pc_Box_grow : PySem.W.takesIn K (.ref p_Box_grow) = some true)
    (pd_Box_grow : PySem.W.recIn K p_Box_grow "property" = some (.ref f_Box_grow :: pr_Box_grow))
    (pa_Box_shrink : PySem.W.findIn K (.ref c_Box) "shrink" = some (some (.ref p_Box_shrink)))
    (pb_Box_shrink : PySem.W.specialIn K (.ref p_Box_shrink) "__get__" = some (some (.builtin "property.__get__")))
    (pc_Box_shrink : PySem.W.takesIn K (.ref p_Box_shrink) = some true)
    (pd_Box_shrink : PySem.W.recIn K p_Box_shrink "property" = some (.ref f_Box_shrink :: pr_Box_shrink))
    (pa_Box_own : PySem.W.findIn K (.ref c_Box) "own" = some (some (.ref p_Box_own)))
    (pb_Box_own : PySem.W.specialIn K (.ref p_Box_own) "__get__" = some (some (.builtin "property.__get__")))
    (pc_Box_own : PySem.W.takesIn K (.ref p_Box_own) = some true)
    (pd_Box_own : PySem.W.recIn K p_Box_own "property" = some (.ref f_Box_own :: pr_Box_own))
    (ia_Box : PySem.W.findIn K (.ref c_Box) "__class__" = some (some (.builtin "object.__class__")))
    (ib_Box : PySem.W.specialIn K (.builtin "object.__class__") "__get__" = some (some (.builtin "getset_descriptor.__get__")))
    (ic_Box : PySem.W.takesIn K (.builtin "object.__class__") = some true)
    (id_Box : PySem.W.mroIn K c_Box (.type "object") = some true)
    (x_HEAVIEST : PySem.W.nsIn K mainGlobals "HEAVIEST" = some (some (.int 1000000 tk_HEAVIEST)))
    (x_MOST_BOXES : PySem.W.nsIn K mainGlobals "MOST_BOXES" = some (some (.int 40 tk_MOST_BOXES)))
    (x_WIDEST : PySem.W.nsIn K mainGlobals "WIDEST" = some (some (.int 1000000000000000000000000000000 tk_WIDEST)))
    (x_ZERO : PySem.W.nsIn K mainGlobals "ZERO" = some (some (.ref z_ZERO)))
    (y_ZERO : K.lookup z_ZERO = some ⟨.type "tuple", od_ZERO, .seq #[.int 0 ta_ZERO, .int 1 tb_ZERO] nn_ZERO, sl_ZERO⟩)
    (x_abs : PySem.W.nsIn K mainGlobals "abs" = some none)
    (x_all : PySem.W.nsIn K mainGlobals "all" = some none)
    (x_bool : PySem.W.nsIn K mainGlobals "bool" = some none)
    (x_dict : PySem.W.nsIn K mainGlobals "dict" = some none)
    (x_enumerate : PySem.W.nsIn K mainGlobals "enumerate" = some none)
    (x_gcd : PySem.W.nsIn K mainGlobals "gcd" = some (some (.builtin "math.gcd")))
    (x_int : PySem.W.nsIn K mainGlobals "int" = some none)
    (x_isinstance : PySem.W.nsIn K mainGlobals "isinstance" = some none)
    (x_len : PySem.W.nsIn K mainGlobals "len" = some none)
    (x_list : PySem.W.nsIn K mainGlobals "list" = some none)
    (x_max : PySem.W.nsIn K mainGlobals "max" = some none)
    (x_range : PySem.W.nsIn K mainGlobals "range" = some none)
    (x_sorted : PySem.W.nsIn K mainGlobals "sorted" = some none)
    (x_sum : PySem.W.nsIn K mainGlobals "sum" = some none)
    (x_tuple : PySem.W.nsIn K mainGlobals "tuple" = some none)
    (l_Box_d_init_d : K.lookup f_Box_d_init_d = some ⟨oc_Box_d_init_d, od_Box_d_init_d, .func (PySem.W.fnOf "__init__" "Box.__init__" (defArgs s_Box_d_init_d) (defBody s_Box_d_init_d) (defScope s_Box_d_init_d) (.ref T_Box_d_init_d) kV_Box_d_init_d dc_Box_d_init_d pm_Box_d_init_d an_Box_d_init_d cd_Box_d_init_d ct_Box_d_init_d), sl_Box_d_init_d⟩)
    (e_Box_d_init_d : PySem.W.codeIn K cd_Box_d_init_d "Box.__init__" = true)
    (k_Box_d_init_d : PySem.W.keepIn K (.ref f_Box_d_init_d) = true)
    (T1_Box_d_init_d : K.lookup T_Box_d_init_d = some ⟨Tc_Box_d_init_d, Td_Box_d_init_d, .seq [.int 0 t0_Box_d_init_d, .none, .int 0 t2_Box_d_init_d, .int 0 t3_Box_d_init_d].toArray Tn_Box_d_init_d, Ts_Box_d_init_d⟩)
    (l_Box_wish : K.lookup f_Box_wish = some ⟨oc_Box_wish, od_Box_wish, .func (PySem.W.fnOf "wish" "Box.wish" (defArgs s_Box_wish) (defBody s_Box_wish) (defScope s_Box_wish) .none kV_Box_wish dc_Box_wish pm_Box_wish an_Box_wish cd_Box_wish ct_Box_wish), sl_Box_wish⟩)
    (e_Box_wish : PySem.W.codeIn K cd_Box_wish "Box.wish" = true)
    (k_Box_wish : PySem.W.keepIn K (.ref f_Box_wish) = true)
    (l_Box_least : K.lookup f_Box_least = some ⟨oc_Box_least, od_Box_least, .func (PySem.W.fnOf "least" "Box.least" (defArgs s_Box_least) (defBody s_Box_least) (defScope s_Box_least) .none kV_Box_least dc_Box_least pm_Box_least an_Box_least cd_Box_least ct_Box_least), sl_Box_least⟩)
    (e_Box_least : PySem.W.codeIn K cd_Box_least "Box.least" = true)
    (k_Box_least : PySem.W.keepIn K (.ref f_Box_least) = true)
    (l_Box_most : K.lookup f_Box_most = some ⟨oc_Box_most, od_Box_most, .func (PySem.W.fnOf "most" "Box.most" (defArgs s_Box_most) (defBody s_Box_most) (defScope s_Box_most) .none kV_Box_most dc_Box_most pm_Box_most an_Box_most cd_Box_most ct_Box_most), sl_Box_most⟩)
    (e_Box_most : PySem.W.codeIn K cd_Box_most "Box.most" = true)
    (k_Box_most : PySem.W.keepIn K (.ref f_Box_most) = true)
    (l_Box_grow : K.lookup f_Box_grow = some ⟨oc_Box_grow, od_Box_grow, .func (PySem.W.fnOf "grow" "Box.grow" (defArgs s_Box_grow) (defBody s_Box_grow) (defScope s_Box_grow) .none kV_Box_grow dc_Box_grow pm_Box_grow an_Box_grow cd_Box_grow ct_Box_grow), sl_Box_grow⟩)
    (e_Box_grow : PySem.W.codeIn K cd_Box_grow "Box.grow" = true)
    (k_Box_grow : PySem.W.keepIn K (.ref f_Box_grow) = true)
    (l_Box_shrink : K.lookup f_Box_shrink = some ⟨oc_Box_shrink, od_Box_shrink, .func (PySem.W.fnOf "shrink" "Box.shrink" (defArgs s_Box_shrink) (defBody s_Box_shrink) (defScope s_Box_shrink) .none kV_Box_shrink dc_Box_shrink pm_Box_shrink an_Box_shrink cd_Box_shrink ct_Box_shrink), sl_Box_shrink⟩)
    (e_Box_shrink : PySem.W.codeIn K cd_Box_shrink "Box.shrink" = true)
    (k_Box_shrink : PySem.W.keepIn K (.ref f_Box_shrink) = true)
    (l_Box_own : K.lookup f_Box_own = some ⟨oc_Box_own, od_Box_own, .func (PySem.W.fnOf "own" "Box.own" (defArgs s_Box_own) (defBody s_Box_own) (defScope s_Box_own) .none kV_Box_own dc_Box_own pm_Box_own an_Box_own cd_Box_own ct_Box_own), sl_Box_own⟩)
    (e_Box_own : PySem.W.codeIn K cd_Box_own "Box.own" = true)
    (k_Box_own : PySem.W.keepIn K (.ref f_Box_own) = true)
    (hmain : ∀ q : Ad, Tx K mg q → ∀ ns : List Int, ns.length ≤ 63 → W_law K (CIof q) [.scr ns] [] fun d _ => d = .bl true) :
    ∃ (fd : FuncData) (C : CI) (W : ZRC), (∀ (s : Shared) (u : Value), BindsTo s fd ⟨[u], []⟩ [("script", u)]) ∧ (∀ base : Heap, K.In base → base.Ns mainGlobals mg → FnG l.prog w K mg base 8 fa fd ["script"] (SpZ K C W)) ∧
      ∀ ns : List Int, ns.length ≤ 63 → W [.scr ns] [] fun d _ => d = .bl true := by
  have e : f_law = fa := by
    have q := (PySem.W.mg_of X G a_law).symm.trans hfa
    cases q
    rfl
  subst e
  let q : Ad := { f__law_bag := f__law_bag, d__law_bag := (PySem.W.fnOf "_law_bag" "_law_bag" (defArgs s__law_bag) (defBody s__law_bag) (defScope s__law_bag) .none kV__law_bag dc__law_bag pm__law_bag an__law_bag cd__law_bag ct__law_bag), f__law_pick := f__law_pick, d__law_pick := (PySem.W.fnOf "_law_pick" "_law_pick" (defArgs s__law_pick) (defBody s__law_pick) (defScope s__law_pick) .none kV__law_pick dc__law_pick pm__law_pick an__law_pick cd__law_pick ct__law_pick), f_is_int := f_is_int, d_is_int := (PySem.W.fnOf "is_int" "is_int" (defArgs s_is_int) (defBody s_is_int) (defScope s_is_int) .none kV_is_int dc_is_int pm_is_int an_is_int cd_is_int ct_is_int), f_in_bounds := f_in_bounds, d_in_bounds := (PySem.W.fnOf "in_bounds" "in_bounds" (defArgs s_in_bounds) (defBody s_in_bounds) (defScope s_in_bounds) .none kV_in_bounds dc_in_bounds pm_in_bounds an_in_bounds cd_in_bounds ct_in_bounds), f_are_box_numbers := f_are_box_numbers, d_are_box_numbers := (PySem.W.fnOf "are_box_numbers" "are_box_numbers" (defArgs s_are_box_numbers) (defBody s_are_box_numbers) (defScope s_are_box_numbers) .none kV_are_box_numbers dc_are_box_numbers pm_are_box_numbers an_are_box_numbers cd_are_box_numbers ct_are_box_numbers), f_Box_d_init_d := f_Box_d_init_d, d_Box_d_init_d := (PySem.W.fnOf "__init__" "Box.__init__" (defArgs s_Box_d_init_d) (defBody s_Box_d_init_d) (defScope s_Box_d_init_d) (.ref T_Box_d_init_d) kV_Box_d_init_d dc_Box_d_init_d pm_Box_d_init_d an_Box_d_init_d cd_Box_d_init_d ct_Box_d_init_d), f_hard_row := f_hard_row, d_hard_row := (PySem.W.fnOf "hard_row" "hard_row" (defArgs s_hard_row) (defBody s_hard_row) (defScope s_hard_row) .none kV_hard_row dc_hard_row pm_hard_row an_hard_row cd_hard_row ct_hard_row), f_Box_wish := f_Box_wish, d_Box_wish := (PySem.W.fnOf "wish" "Box.wish" (defArgs s_Box_wish) (defBody s_Box_wish) (defScope s_Box_wish) .none kV_Box_wish dc_Box_wish pm_Box_wish an_Box_wish cd_Box_wish ct_Box_wish), f_Box_least := f_Box_least, d_Box_least := (PySem.W.fnOf "least" "Box.least" (defArgs s_Box_least) (defBody s_Box_least) (defScope s_Box_least) .none kV_Box_least dc_Box_least pm_Box_least an_Box_least cd_Box_least ct_Box_least), f_Box_most := f_Box_most, d_Box_most := (PySem.W.fnOf "most" "Box.most" (defArgs s_Box_most) (defBody s_Box_most) (defScope s_Box_most) .none kV_Box_most dc_Box_most pm_Box_most an_Box_most cd_Box_most ct_Box_most), f_Box_grow := f_Box_grow, d_Box_grow := (PySem.W.fnOf "grow" "Box.grow" (defArgs s_Box_grow) (defBody s_Box_grow) (defScope s_Box_grow) .none kV_Box_grow dc_Box_grow pm_Box_grow an_Box_grow cd_Box_grow ct_Box_grow), f_Box_shrink := f_Box_shrink, d_Box_shrink := (PySem.W.fnOf "shrink" "Box.shrink" (defArgs s_Box_shrink) (defBody s_Box_shrink) (defScope s_Box_shrink) .none kV_Box_shrink dc_Box_shrink pm_Box_shrink an_Box_shrink cd_Box_shrink ct_Box_shrink), f__law_order := f__law_order, d__law_order := (PySem.W.fnOf "_law_order" "_law_order" (defArgs s__law_order) (defBody s__law_order) (defScope s__law_order) .none kV__law_order dc__law_order pm__law_order an__law_order cd__law_order ct__law_order), f__law_limited := f__law_limited, d__law_limited := (PySem.W.fnOf "_law_limited" "_law_limited" (defArgs s__law_limited) (defBody s__law_limited) (defScope s__law_limited) .none kV__law_limited dc__law_limited pm__law_limited an__law_limited cd__law_limited ct__law_limited), f__law_own := f__law_own, d__law_own := (PySem.W.fnOf "_law_own" "_law_own" (defArgs s__law_own) (defBody s__law_own) (defScope s__law_own) .none kV__law_own dc__law_own pm__law_own an__law_own cd__law_own ct__law_own), f__law_begin := f__law_begin, d__law_begin := (PySem.W.fnOf "_law_begin" "_law_begin" (defArgs s__law_begin) (defBody s__law_begin) (defScope s__law_begin) .none kV__law_begin dc__law_begin pm__law_begin an__law_begin cd__law_begin ct__law_begin), f__law_ratio := f__law_ratio, d__law_ratio := (PySem.W.fnOf "_law_ratio" "_law_ratio" (defArgs s__law_ratio) (defBody s__law_ratio) (defScope s__law_ratio) .none kV__law_ratio dc__law_ratio pm__law_ratio an__law_ratio cd__law_ratio ct__law_ratio), f__law_minus := f__law_minus, d__law_minus := (PySem.W.fnOf "_law_minus" "_law_minus" (defArgs s__law_minus) (defBody s__law_minus) (defScope s__law_minus) .none kV__law_minus dc__law_minus pm__law_minus an__law_minus cd__law_minus ct__law_minus), f__law_add := f__law_add, d__law_add := (PySem.W.fnOf "_law_add" "_law_add" (defArgs s__law_add) (defBody s__law_add) (defScope s__law_add) .none kV__law_add dc__law_add pm__law_add an__law_add cd__law_add ct__law_add), f__law_may := f__law_may, d__law_may := (PySem.W.fnOf "_law_may" "_law_may" (defArgs s__law_may) (defBody s__law_may) (defScope s__law_may) .none kV__law_may dc__law_may pm__law_may an__law_may cd__law_may ct__law_may), f__law_rounds := f__law_rounds, d__law_rounds := (PySem.W.fnOf "_law_rounds" "_law_rounds" (defArgs s__law_rounds) (defBody s__law_rounds) (defScope s__law_rounds) .none kV__law_rounds dc__law_rounds pm__law_rounds an__law_rounds cd__law_rounds ct__law_rounds), f_check_boxes := f_check_boxes, d_check_boxes := (PySem.W.fnOf "check_boxes" "check_boxes" (defArgs s_check_boxes) (defBody s_check_boxes) (defScope s_check_boxes) .none kV_check_boxes dc_check_boxes pm_check_boxes an_check_boxes cd_check_boxes ct_check_boxes), f_is_fraction := f_is_fraction, d_is_fraction := (PySem.W.fnOf "is_fraction" "is_fraction" (defArgs s_is_fraction) (defBody s_is_fraction) (defScope s_is_fraction) .none kV_is_fraction dc_is_fraction pm_is_fraction an_is_fraction cd_is_fraction ct_is_fraction), f_is_rational := f_is_rational, d_is_rational := (PySem.W.fnOf "is_rational" "is_rational" (defArgs s_is_rational) (defBody s_is_rational) (defScope s_is_rational) .none kV_is_rational dc_is_rational pm_is_rational an_is_rational cd_is_rational ct_is_rational), f_as_fraction := f_as_fraction, d_as_fraction := (PySem.W.fnOf "as_fraction" "as_fraction" (defArgs s_as_fraction) (defBody s_as_fraction) (defScope s_as_fraction) .none kV_as_fraction dc_as_fraction pm_as_fraction an_as_fraction cd_as_fraction ct_as_fraction), f_check_width := f_check_width, d_check_width := (PySem.W.fnOf "check_width" "check_width" (defArgs s_check_width) (defBody s_check_width) (defScope s_check_width) .none kV_check_width dc_check_width pm_check_width an_check_width cd_check_width ct_check_width), f_order := f_order, d_order := (PySem.W.fnOf "order" "order" (defArgs s_order) (defBody s_order) (defScope s_order) .none kV_order dc_order pm_order an_order cd_order ct_order), f_limited := f_limited, d_limited := (PySem.W.fnOf "limited" "limited" (defArgs s_limited) (defBody s_limited) (defScope s_limited) .none kV_limited dc_limited pm_limited an_limited cd_limited ct_limited), f_Box_own := f_Box_own, d_Box_own := (PySem.W.fnOf "own" "Box.own" (defArgs s_Box_own) (defBody s_Box_own) (defScope s_Box_own) .none kV_Box_own dc_Box_own pm_Box_own an_Box_own cd_Box_own ct_Box_own), f_own_width := f_own_width, d_own_width := (PySem.W.fnOf "own_width" "own_width" (defArgs s_own_width) (defBody s_own_width) (defScope s_own_width) .none kV_own_width dc_own_width pm_own_width an_own_width cd_own_width ct_own_width), f_does_grow := f_does_grow, d_does_grow := (PySem.W.fnOf "does_grow" "does_grow" (defArgs s_does_grow) (defBody s_does_grow) (defScope s_does_grow) .none kV_does_grow dc_does_grow pm_does_grow an_does_grow cd_does_grow ct_does_grow), f_weight_of := f_weight_of, d_weight_of := (PySem.W.fnOf "weight_of" "weight_of" (defArgs s_weight_of) (defBody s_weight_of) (defScope s_weight_of) .none kV_weight_of dc_weight_of pm_weight_of an_weight_of cd_weight_of ct_weight_of), f_is_frozen_first := f_is_frozen_first, d_is_frozen_first := (PySem.W.fnOf "is_frozen_first" "is_frozen_first" (defArgs s_is_frozen_first) (defBody s_is_frozen_first) (defScope s_is_frozen_first) .none kV_is_frozen_first dc_is_frozen_first pm_is_frozen_first an_is_frozen_first cd_is_frozen_first ct_is_frozen_first), f_first_sizes := f_first_sizes, d_first_sizes := (PySem.W.fnOf "first_sizes" "first_sizes" (defArgs s_first_sizes) (defBody s_first_sizes) (defScope s_first_sizes) .none kV_first_sizes dc_first_sizes pm_first_sizes an_first_sizes cd_first_sizes ct_first_sizes), f_lowest := f_lowest, d_lowest := (PySem.W.fnOf "lowest" "lowest" (defArgs s_lowest) (defBody s_lowest) (defScope s_lowest) .none kV_lowest dc_lowest pm_lowest an_lowest cd_lowest ct_lowest), f_plus := f_plus, d_plus := (PySem.W.fnOf "plus" "plus" (defArgs s_plus) (defBody s_plus) (defScope s_plus) .none kV_plus dc_plus pm_plus an_plus cd_plus ct_plus), f_minus := f_minus, d_minus := (PySem.W.fnOf "minus" "minus" (defArgs s_minus) (defBody s_minus) (defScope s_minus) .none kV_minus dc_minus pm_minus an_minus cd_minus ct_minus), f_common_level := f_common_level, d_common_level := (PySem.W.fnOf "common_level" "common_level" (defArgs s_common_level) (defBody s_common_level) (defScope s_common_level) .none kV_common_level dc_common_level pm_common_level an_common_level cd_common_level ct_common_level), f_next_sizes := f_next_sizes, d_next_sizes := (PySem.W.fnOf "next_sizes" "next_sizes" (defArgs s_next_sizes) (defBody s_next_sizes) (defScope s_next_sizes) .none kV_next_sizes dc_next_sizes pm_next_sizes an_next_sizes cd_next_sizes ct_next_sizes), f_rounds := f_rounds, d_rounds := (PySem.W.fnOf "rounds" "rounds" (defArgs s_rounds) (defBody s_rounds) (defScope s_rounds) .none kV_rounds dc_rounds pm_rounds an_rounds cd_rounds ct_rounds), f__law_right := f__law_right, d__law_right := (PySem.W.fnOf "_law_right" "_law_right" (defArgs s__law_right) (defBody s__law_right) (defScope s__law_right) .none kV__law_right dc__law_right pm__law_right an__law_right cd__law_right ct__law_right), f_law := f_law, d_law := (PySem.W.fnOf "law" "law" (defArgs s_law) (defBody s_law) (defScope s_law) .none kV_law dc_law pm_law an_law cd_law ct_law), c_Box := c_Box, p_Box_wish := p_Box_wish, p_Box_least := p_Box_least, p_Box_most := p_Box_most, p_Box_grow := p_Box_grow, p_Box_shrink := p_Box_shrink, p_Box_own := p_Box_own }
  have T : Tx K mg q := {
    F__law_bag := (fun_mk (st := s__law_bag) l__law_bag e__law_bag k__law_bag)
    b__law_bag := ((fun_mk (st := s__law_bag) l__law_bag e__law_bag k__law_bag).binds (ps := ["cell"]) fun _ _ _ _ _ _ us hl => match us, hl with | [_], _ => rfl)
    m__law_bag := (PySem.W.mg_of X G a__law_bag)
    F__law_pick := (fun_mk (st := s__law_pick) l__law_pick e__law_pick k__law_pick)
    b__law_pick := ((fun_mk (st := s__law_pick) l__law_pick e__law_pick k__law_pick).binds (ps := ["bag", "many"]) fun _ _ _ _ _ _ us hl => match us, hl with | [_, _], _ => rfl)
    m__law_pick := (PySem.W.mg_of X G a__law_pick)
    F_is_int := (fun_mk (st := s_is_int) l_is_int e_is_int k_is_int)
    b_is_int := ((fun_mk (st := s_is_int) l_is_int e_is_int k_is_int).binds (ps := ["value"]) fun _ _ _ _ _ _ us hl => match us, hl with | [_], _ => rfl)
    m_is_int := (PySem.W.mg_of X G a_is_int)
    F_in_bounds := (fun_mk (st := s_in_bounds) l_in_bounds e_in_bounds k_in_bounds)
    b_in_bounds := ((fun_mk (st := s_in_bounds) l_in_bounds e_in_bounds k_in_bounds).binds (ps := ["value", "top"]) fun _ _ _ _ _ _ us hl => match us, hl with | [_, _], _ => rfl)
    m_in_bounds := (PySem.W.mg_of X G a_in_bounds)
    F_are_box_numbers := (fun_mk (st := s_are_box_numbers) l_are_box_numbers e_are_box_numbers k_are_box_numbers)
    b_are_box_numbers := ((fun_mk (st := s_are_box_numbers) l_are_box_numbers e_are_box_numbers k_are_box_numbers).binds (ps := ["wish", "least", "most", "grow", "shrink"]) fun _ _ _ _ _ _ us hl => match us, hl with | [_, _, _, _, _], _ => rfl)
    m_are_box_numbers := (PySem.W.mg_of X G a_are_box_numbers)
    F_Box_d_init_d := (Z.FunD.z (show FunD K "__init__" "Box.__init__" (defArgs s_Box_d_init_d) (defBody s_Box_d_init_d) (defScope s_Box_d_init_d) [V.int 0, V.non, V.int 0, V.int 0] [] f_Box_d_init_d (PySem.W.fnOf "__init__" "Box.__init__" (defArgs s_Box_d_init_d) (defBody s_Box_d_init_d) (defScope s_Box_d_init_d) (.ref T_Box_d_init_d) kV_Box_d_init_d dc_Box_d_init_d pm_Box_d_init_d an_Box_d_init_d cd_Box_d_init_d ct_Box_d_init_d) from ⟨⟨_, _, _, _, _, _, _, _, _, _, rfl, l_Box_d_init_d, e_Box_d_init_d, .inr ⟨by simp, _, _, _, _, rfl, T1_Box_d_init_d, rfl, .cons ⟨_, rfl⟩ (.cons rfl (.cons ⟨_, rfl⟩ (.cons ⟨_, rfl⟩ (.nil))))⟩, .inl rfl⟩, k_Box_d_init_d⟩))
    b_Box_d_init_d := (by obtain ⟨ds, h1, h2⟩ := (FunD.binds1 (ps := ["self", "wish", "least", "most", "grow", "shrink"]) (show FunD K "__init__" "Box.__init__" (defArgs s_Box_d_init_d) (defBody s_Box_d_init_d) (defScope s_Box_d_init_d) [V.int 0, V.non, V.int 0, V.int 0] [] f_Box_d_init_d (PySem.W.fnOf "__init__" "Box.__init__" (defArgs s_Box_d_init_d) (defBody s_Box_d_init_d) (defScope s_Box_d_init_d) (.ref T_Box_d_init_d) kV_Box_d_init_d dc_Box_d_init_d pm_Box_d_init_d an_Box_d_init_d cd_Box_d_init_d ct_Box_d_init_d) from ⟨⟨_, _, _, _, _, _, _, _, _, _, rfl, l_Box_d_init_d, e_Box_d_init_d, .inr ⟨by simp, _, _, _, _, rfl, T1_Box_d_init_d, rfl, .cons ⟨_, rfl⟩ (.cons rfl (.cons ⟨_, rfl⟩ (.cons ⟨_, rfl⟩ (.nil))))⟩, .inl rfl⟩, k_Box_d_init_d⟩) 6 4 (by simp) rfl fun _ _ _ _ _ _ _ us its hu hi => match us, hu, its, hi with | [_, _, _, _, _, _], _, [_, _, _, _], _ => ⟨_, rfl, rfl⟩); cases h1; exact h2)
    F_hard_row := (fun_mk (st := s_hard_row) l_hard_row e_hard_row k_hard_row)
    b_hard_row := ((fun_mk (st := s_hard_row) l_hard_row e_hard_row k_hard_row).binds (ps := ["number"]) fun _ _ _ _ _ _ us hl => match us, hl with | [_], _ => rfl)
    m_hard_row := (PySem.W.mg_of X G a_hard_row)
    F_Box_wish := (fun_mk (st := s_Box_wish) l_Box_wish e_Box_wish k_Box_wish)
    b_Box_wish := ((fun_mk (st := s_Box_wish) l_Box_wish e_Box_wish k_Box_wish).binds (ps := ["self"]) fun _ _ _ _ _ _ us hl => match us, hl with | [_], _ => rfl)
    F_Box_least := (fun_mk (st := s_Box_least) l_Box_least e_Box_least k_Box_least)
    b_Box_least := ((fun_mk (st := s_Box_least) l_Box_least e_Box_least k_Box_least).binds (ps := ["self"]) fun _ _ _ _ _ _ us hl => match us, hl with | [_], _ => rfl)
    F_Box_most := (fun_mk (st := s_Box_most) l_Box_most e_Box_most k_Box_most)
    b_Box_most := ((fun_mk (st := s_Box_most) l_Box_most e_Box_most k_Box_most).binds (ps := ["self"]) fun _ _ _ _ _ _ us hl => match us, hl with | [_], _ => rfl)
    F_Box_grow := (fun_mk (st := s_Box_grow) l_Box_grow e_Box_grow k_Box_grow)
    b_Box_grow := ((fun_mk (st := s_Box_grow) l_Box_grow e_Box_grow k_Box_grow).binds (ps := ["self"]) fun _ _ _ _ _ _ us hl => match us, hl with | [_], _ => rfl)
    F_Box_shrink := (fun_mk (st := s_Box_shrink) l_Box_shrink e_Box_shrink k_Box_shrink)
    b_Box_shrink := ((fun_mk (st := s_Box_shrink) l_Box_shrink e_Box_shrink k_Box_shrink).binds (ps := ["self"]) fun _ _ _ _ _ _ us hl => match us, hl with | [_], _ => rfl)
    F__law_order := (fun_mk (st := s__law_order) l__law_order e__law_order k__law_order)
    b__law_order := ((fun_mk (st := s__law_order) l__law_order e__law_order k__law_order).binds (ps := ["one", "two"]) fun _ _ _ _ _ _ us hl => match us, hl with | [_, _], _ => rfl)
    m__law_order := (PySem.W.mg_of X G a__law_order)
    F__law_limited := (fun_mk (st := s__law_limited) l__law_limited e__law_limited k__law_limited)
    b__law_limited := ((fun_mk (st := s__law_limited) l__law_limited e__law_limited k__law_limited).binds (ps := ["number", "row"]) fun _ _ _ _ _ _ us hl => match us, hl with | [_, _], _ => rfl)
    m__law_limited := (PySem.W.mg_of X G a__law_limited)
    F__law_own := (fun_mk (st := s__law_own) l__law_own e__law_own k__law_own)
    b__law_own := ((fun_mk (st := s__law_own) l__law_own e__law_own k__law_own).binds (ps := ["row"]) fun _ _ _ _ _ _ us hl => match us, hl with | [_], _ => rfl)
    m__law_own := (PySem.W.mg_of X G a__law_own)
    F__law_begin := (fun_mk (st := s__law_begin) l__law_begin e__law_begin k__law_begin)
    b__law_begin := ((fun_mk (st := s__law_begin) l__law_begin e__law_begin k__law_begin).binds (ps := ["rows", "width"]) fun _ _ _ _ _ _ us hl => match us, hl with | [_, _], _ => rfl)
    m__law_begin := (PySem.W.mg_of X G a__law_begin)
    F__law_ratio := (fun_mk (st := s__law_ratio) l__law_ratio e__law_ratio k__law_ratio)
    b__law_ratio := ((fun_mk (st := s__law_ratio) l__law_ratio e__law_ratio k__law_ratio).binds (ps := ["above", "below"]) fun _ _ _ _ _ _ us hl => match us, hl with | [_, _], _ => rfl)
    m__law_ratio := (PySem.W.mg_of X G a__law_ratio)
    F__law_minus := (fun_mk (st := s__law_minus) l__law_minus e__law_minus k__law_minus)
    b__law_minus := ((fun_mk (st := s__law_minus) l__law_minus e__law_minus k__law_minus).binds (ps := ["one", "two"]) fun _ _ _ _ _ _ us hl => match us, hl with | [_, _], _ => rfl)
    m__law_minus := (PySem.W.mg_of X G a__law_minus)
    F__law_add := (fun_mk (st := s__law_add) l__law_add e__law_add k__law_add)
    b__law_add := ((fun_mk (st := s__law_add) l__law_add e__law_add k__law_add).binds (ps := ["one", "two"]) fun _ _ _ _ _ _ us hl => match us, hl with | [_, _], _ => rfl)
    m__law_add := (PySem.W.mg_of X G a__law_add)
    F__law_may := (fun_mk (st := s__law_may) l__law_may e__law_may k__law_may)
    b__law_may := ((fun_mk (st := s__law_may) l__law_may e__law_may k__law_may).binds (ps := ["rows", "up", "width", "frozen"]) fun _ _ _ _ _ _ us hl => match us, hl with | [_, _, _, _], _ => rfl)
    m__law_may := (PySem.W.mg_of X G a__law_may)
    F__law_rounds := (fun_mk (st := s__law_rounds) l__law_rounds e__law_rounds k__law_rounds)
    b__law_rounds := ((fun_mk (st := s__law_rounds) l__law_rounds e__law_rounds k__law_rounds).binds (ps := ["rows", "width"]) fun _ _ _ _ _ _ us hl => match us, hl with | [_, _], _ => rfl)
    m__law_rounds := (PySem.W.mg_of X G a__law_rounds)
    F_check_boxes := (fun_mk (st := s_check_boxes) l_check_boxes e_check_boxes k_check_boxes)
    b_check_boxes := ((fun_mk (st := s_check_boxes) l_check_boxes e_check_boxes k_check_boxes).binds (ps := ["boxes"]) fun _ _ _ _ _ _ us hl => match us, hl with | [_], _ => rfl)
    m_check_boxes := (PySem.W.mg_of X G a_check_boxes)
    F_is_fraction := (fun_mk (st := s_is_fraction) l_is_fraction e_is_fraction k_is_fraction)
    b_is_fraction := ((fun_mk (st := s_is_fraction) l_is_fraction e_is_fraction k_is_fraction).binds (ps := ["value"]) fun _ _ _ _ _ _ us hl => match us, hl with | [_], _ => rfl)
    m_is_fraction := (PySem.W.mg_of X G a_is_fraction)
    F_is_rational := (fun_mk (st := s_is_rational) l_is_rational e_is_rational k_is_rational)
    b_is_rational := ((fun_mk (st := s_is_rational) l_is_rational e_is_rational k_is_rational).binds (ps := ["value"]) fun _ _ _ _ _ _ us hl => match us, hl with | [_], _ => rfl)
    m_is_rational := (PySem.W.mg_of X G a_is_rational)
    F_as_fraction := (fun_mk (st := s_as_fraction) l_as_fraction e_as_fraction k_as_fraction)
    b_as_fraction := ((fun_mk (st := s_as_fraction) l_as_fraction e_as_fraction k_as_fraction).binds (ps := ["value"]) fun _ _ _ _ _ _ us hl => match us, hl with | [_], _ => rfl)
    m_as_fraction := (PySem.W.mg_of X G a_as_fraction)
    F_check_width := (fun_mk (st := s_check_width) l_check_width e_check_width k_check_width)
    b_check_width := ((fun_mk (st := s_check_width) l_check_width e_check_width k_check_width).binds (ps := ["width"]) fun _ _ _ _ _ _ us hl => match us, hl with | [_], _ => rfl)
    m_check_width := (PySem.W.mg_of X G a_check_width)
    F_order := (fun_mk (st := s_order) l_order e_order k_order)
    b_order := ((fun_mk (st := s_order) l_order e_order k_order).binds (ps := ["one", "two"]) fun _ _ _ _ _ _ us hl => match us, hl with | [_, _], _ => rfl)
    m_order := (PySem.W.mg_of X G a_order)
    F_limited := (fun_mk (st := s_limited) l_limited e_limited k_limited)
    b_limited := ((fun_mk (st := s_limited) l_limited e_limited k_limited).binds (ps := ["value", "least", "most"]) fun _ _ _ _ _ _ us hl => match us, hl with | [_, _, _], _ => rfl)
    m_limited := (PySem.W.mg_of X G a_limited)
    F_Box_own := (fun_mk (st := s_Box_own) l_Box_own e_Box_own k_Box_own)
    b_Box_own := ((fun_mk (st := s_Box_own) l_Box_own e_Box_own k_Box_own).binds (ps := ["self"]) fun _ _ _ _ _ _ us hl => match us, hl with | [_], _ => rfl)
    F_own_width := (fun_mk (st := s_own_width) l_own_width e_own_width k_own_width)
    b_own_width := ((fun_mk (st := s_own_width) l_own_width e_own_width k_own_width).binds (ps := ["boxes"]) fun _ _ _ _ _ _ us hl => match us, hl with | [_], _ => rfl)
    m_own_width := (PySem.W.mg_of X G a_own_width)
    F_does_grow := (fun_mk (st := s_does_grow) l_does_grow e_does_grow k_does_grow)
    b_does_grow := ((fun_mk (st := s_does_grow) l_does_grow e_does_grow k_does_grow).binds (ps := ["boxes", "width"]) fun _ _ _ _ _ _ us hl => match us, hl with | [_, _], _ => rfl)
    m_does_grow := (PySem.W.mg_of X G a_does_grow)
    F_weight_of := (fun_mk (st := s_weight_of) l_weight_of e_weight_of k_weight_of)
    b_weight_of := ((fun_mk (st := s_weight_of) l_weight_of e_weight_of k_weight_of).binds (ps := ["box", "grows"]) fun _ _ _ _ _ _ us hl => match us, hl with | [_, _], _ => rfl)
    m_weight_of := (PySem.W.mg_of X G a_weight_of)
    F_is_frozen_first := (fun_mk (st := s_is_frozen_first) l_is_frozen_first e_is_frozen_first k_is_frozen_first)
    b_is_frozen_first := ((fun_mk (st := s_is_frozen_first) l_is_frozen_first e_is_frozen_first k_is_frozen_first).binds (ps := ["box", "grows"]) fun _ _ _ _ _ _ us hl => match us, hl with | [_, _], _ => rfl)
    m_is_frozen_first := (PySem.W.mg_of X G a_is_frozen_first)
    F_first_sizes := (fun_mk (st := s_first_sizes) l_first_sizes e_first_sizes k_first_sizes)
    b_first_sizes := ((fun_mk (st := s_first_sizes) l_first_sizes e_first_sizes k_first_sizes).binds (ps := ["boxes", "grows"]) fun _ _ _ _ _ _ us hl => match us, hl with | [_, _], _ => rfl)
    m_first_sizes := (PySem.W.mg_of X G a_first_sizes)
    F_lowest := (fun_mk (st := s_lowest) l_lowest e_lowest k_lowest)
    b_lowest := ((fun_mk (st := s_lowest) l_lowest e_lowest k_lowest).binds (ps := ["p", "q"]) fun _ _ _ _ _ _ us hl => match us, hl with | [_, _], _ => rfl)
    m_lowest := (PySem.W.mg_of X G a_lowest)
    F_plus := (fun_mk (st := s_plus) l_plus e_plus k_plus)
    b_plus := ((fun_mk (st := s_plus) l_plus e_plus k_plus).binds (ps := ["one", "two"]) fun _ _ _ _ _ _ us hl => match us, hl with | [_, _], _ => rfl)
    m_plus := (PySem.W.mg_of X G a_plus)
    F_minus := (fun_mk (st := s_minus) l_minus e_minus k_minus)
    b_minus := ((fun_mk (st := s_minus) l_minus e_minus k_minus).binds (ps := ["one", "two"]) fun _ _ _ _ _ _ us hl => match us, hl with | [_, _], _ => rfl)
    m_minus := (PySem.W.mg_of X G a_minus)
    F_common_level := (fun_mk (st := s_common_level) l_common_level e_common_level k_common_level)
    b_common_level := ((fun_mk (st := s_common_level) l_common_level e_common_level k_common_level).binds (ps := ["free", "width", "grows", "frozen"]) fun _ _ _ _ _ _ us hl => match us, hl with | [_, _, _, _], _ => rfl)
    m_common_level := (PySem.W.mg_of X G a_common_level)
    F_next_sizes := (fun_mk (st := s_next_sizes) l_next_sizes e_next_sizes k_next_sizes)
    b_next_sizes := ((fun_mk (st := s_next_sizes) l_next_sizes e_next_sizes k_next_sizes).binds (ps := ["boxes", "width", "grows", "frozen"]) fun _ _ _ _ _ _ us hl => match us, hl with | [_, _, _, _], _ => rfl)
    m_next_sizes := (PySem.W.mg_of X G a_next_sizes)
    F_rounds := (fun_mk (st := s_rounds) l_rounds e_rounds k_rounds)
    b_rounds := ((fun_mk (st := s_rounds) l_rounds e_rounds k_rounds).binds (ps := ["boxes", "width"]) fun _ _ _ _ _ _ us hl => match us, hl with | [_, _], _ => rfl)
    m_rounds := (PySem.W.mg_of X G a_rounds)
    F__law_right := (fun_mk (st := s__law_right) l__law_right e__law_right k__law_right)
    b__law_right := ((fun_mk (st := s__law_right) l__law_right e__law_right k__law_right).binds (ps := ["number"]) fun _ _ _ _ _ _ us hl => match us, hl with | [_], _ => rfl)
    m__law_right := (PySem.W.mg_of X G a__law_right)
    F_law := (fun_mk (st := s_law) l_law e_law k_law)
    b_law := ((fun_mk (st := s_law) l_law e_law k_law).binds (ps := ["script"]) fun _ _ _ _ _ _ us hl => match us, hl with | [_], _ => rfl)
    m_law := (PySem.W.mg_of X G a_law)
    kb1_most_grow_Box_d_init_d := ((FunD.kbindsD (ps := ["self", "wish", "least", "most", "grow", "shrink"]) (show FunD K "__init__" "Box.__init__" (defArgs s_Box_d_init_d) (defBody s_Box_d_init_d) (defScope s_Box_d_init_d) [V.int 0, V.non, V.int 0, V.int 0] [] f_Box_d_init_d (PySem.W.fnOf "__init__" "Box.__init__" (defArgs s_Box_d_init_d) (defBody s_Box_d_init_d) (defScope s_Box_d_init_d) (.ref T_Box_d_init_d) kV_Box_d_init_d dc_Box_d_init_d pm_Box_d_init_d an_Box_d_init_d cd_Box_d_init_d ct_Box_d_init_d) from ⟨⟨_, _, _, _, _, _, _, _, _, _, rfl, l_Box_d_init_d, e_Box_d_init_d, .inr ⟨by simp, _, _, _, _, rfl, T1_Box_d_init_d, rfl, .cons ⟨_, rfl⟩ (.cons rfl (.cons ⟨_, rfl⟩ (.cons ⟨_, rfl⟩ (.nil))))⟩, .inl rfl⟩, k_Box_d_init_d⟩) (1 + 1) ["most", "grow"] (fun us its ws => us ++ Z.picked its ws [.d 0, .k 0, .k 1, .d 3]) (by simp) (fun r1 r2 r3 => r1.append (Z.Vals.picked r2 r3 [.d 0, .k 0, .k 1, .d 3])) fun _ _ _ _ _ _ _ us its ws hu hi hw => match us, hu, its, hi, ws, hw with | [_, _], _, [_, _, _, _], _, [_, _], _ => ⟨_, rfl, rfl⟩))
    m_Box := (PySem.W.mg_of X G a_Box)
    cl_Box := (⟨pg_Box, hd_Box, po_Box, sa_Box⟩)
    no_Box__wish := (no_Box__wish)
    no_Box__least := (no_Box__least)
    no_Box__most := (no_Box__most)
    no_Box__grow := (no_Box__grow)
    no_Box__shrink := (no_Box__shrink)
    mk_Box := (⟨mk_Box, at_Box_d_init_d, fn_Box_d_init_d, kc_Box⟩)
    pr_Box_wish := (⟨pa_Box_wish, pb_Box_wish, pc_Box_wish, _, pd_Box_wish⟩)
    pr_Box_least := (⟨pa_Box_least, pb_Box_least, pc_Box_least, _, pd_Box_least⟩)
    pr_Box_most := (⟨pa_Box_most, pb_Box_most, pc_Box_most, _, pd_Box_most⟩)
    pr_Box_grow := (⟨pa_Box_grow, pb_Box_grow, pc_Box_grow, _, pd_Box_grow⟩)
    pr_Box_shrink := (⟨pa_Box_shrink, pb_Box_shrink, pc_Box_shrink, _, pd_Box_shrink⟩)
    pr_Box_own := (⟨pa_Box_own, pb_Box_own, pc_Box_own, _, pd_Box_own⟩)
    is_Box := (⟨⟨pg_Box, hd_Box, po_Box, sa_Box⟩, ia_Box, ib_Box, ic_Box, id_Box⟩)
    c_HEAVIEST := (⟨_, PySem.W.mg_of X G x_HEAVIEST⟩)
    c_MOST_BOXES := (⟨_, PySem.W.mg_of X G x_MOST_BOXES⟩)
    c_WIDEST := (⟨_, PySem.W.mg_of X G x_WIDEST⟩)
    c_ZERO := (⟨_, PySem.W.mg_of X G x_ZERO, ktup2 y_ZERO⟩)
    n_abs := (PySem.W.mg_none_of X G x_abs)
    n_all := (PySem.W.mg_none_of X G x_all)
    n_bool := (PySem.W.mg_none_of X G x_bool)
    n_dict := (PySem.W.mg_none_of X G x_dict)
    n_enumerate := (PySem.W.mg_none_of X G x_enumerate)
    g_gcd := (PySem.W.mg_of X G x_gcd)
    n_int := (PySem.W.mg_none_of X G x_int)
    n_isinstance := (PySem.W.mg_none_of X G x_isinstance)
    n_len := (PySem.W.mg_none_of X G x_len)
    n_list := (PySem.W.mg_none_of X G x_list)
    n_max := (PySem.W.mg_none_of X G x_max)
    n_range := (PySem.W.mg_none_of X G x_range)
    n_sorted := (PySem.W.mg_none_of X G x_sorted)
    n_sum := (PySem.W.mg_none_of X G x_sum)
    n_tuple := (PySem.W.mg_none_of X G x_tuple) }
  exact ⟨q.d_law, CIof q, W_law K (CIof q), fun s u => .of_eq rfl, fun base _ _ => fng_of (ok_law T), hmain q T⟩
end Bx

namespace Bx
open PySem PySem.Spec PyProof.Rows L2 Z
local macro_rules | `(tactic| walk_at "zz") => `(tactic| simp only [zSeq, zAsg, zRet, zRetN, zIfS, zNext, zDrop, zPar, zVar, zC, zOp, zUn, zNeg, zI0, zI, zTest, zAnd, zOr, zNot, zAndV, zOrV, zNotV, zIf, zNil, zCons, zTup, zLst, zLstC, zgName, zgTup, zgCons, zgNil, zgSub, startZ, zCall, zCB, zChain, zIsN, zNotN, zNever,
  zAddA, zMulA, zRepeat, zCat, zIx, seqD, lstD, zMax2, zMin2, zAbs, zLen, zSum, zGcd, zInt, zYes, zBreak, zCont, zLc, ziR1, ziR2, ziList, ziTup, ziZip, ziEnum, wipeZ, zFor,
  at0, at1, at2, at3, at4, ix2_3, ix0_3, isNon_int, isNon_non, Bool.not_true, Bool.not_false,
  List.map_cons, List.map_nil, List.length_cons, List.length_nil, List.replicate_succ, List.replicate_zero, List.append_nil, List.nil_append, List.cons_append, List.getElem?_cons_zero, List.getElem?_cons_succ, List.set_cons_zero, List.set_cons_succ,
  Option.some.injEq, D.int.injEq, D.bl.injEq, D.tup.injEq, D.lst.injEq, D.str.injEq, D.cell.injEq, O.lst.injEq, reduceCtorEq, exists_eq_left', exists_eq_left, false_and, and_false, true_and, and_true, exists_false, or_false, false_or, exists_and_left, exists_eq', exists_and_right, List.cons.injEq, and_assoc, dec_not, dec_yes, t_t, t_f, f_t, f_f, true_implies, false_implies, implies_true, and_self, Nat.reduceAdd, Nat.reduceLeDiff, Nat.reduceSub, Nat.reduceLT])
local macro_rules | `(tactic| walk_at "zy") => `(tactic| try simp only [Option.some.injEq, D.int.injEq, D.bl.injEq, D.tup.injEq, D.lst.injEq, D.str.injEq, D.cell.injEq, O.lst.injEq, reduceCtorEq, exists_eq_left', exists_eq_left, false_and, and_false, true_and, and_true, exists_false, or_false, false_or, exists_and_left, exists_eq', exists_and_right, List.cons.injEq, and_assoc, dec_not, dec_yes, t_t, t_f, f_t, f_f, true_implies, false_implies, implies_true, and_self])
theorem main {K : PySem.W.Frag} {mg : Str → Option Value} {q : Ad} (T : Tx K mg q) : ∀ ns : List Int, ns.length ≤ 63 → W_law K (CIof q) [.scr ns] [] fun d _ => d = .bl true := fun ns hl => law_ok ⟨T.is_Box, rfl⟩ hl
end Bx

open PySem PySem.W PyProof.Rows
set_option maxRecDepth 100000 in
set_option maxHeartbeats 0 in
set_option pp.maxSteps 60 in
set_option pp.deepTerms false in
theorem PySem.Challenge.cw_boxrows_k12_rows_with_many_rounds_holds : PySem.Challenge.rw_boxrows_k12_rows_with_many_rounds.Holds := by
  w_on; o_law; k_head; (case hw => w_witness2)
  k_fill
  refine Z.walkZ (l := PySem.Challenge.rw_boxrows_k12_rows_with_many_rounds) (n := 63) (k := 8) (x := "script") rfl (by decide) rfl ⟨rfl, by decide, by decide⟩ (fun w h Y => PySem.W.kIn_of Y) ?F
  case F =>
    intro w mg fa h KX Gm hmg
    refine' Bx.all_mk KX Gm hmg ?a__law_bag ?l__law_bag ?e__law_bag ?k__law_bag ?a__law_pick ?l__law_pick ?e__law_pick ?k__law_pick ?a_is_int ?l_is_int ?e_is_int ?k_is_int ?a_in_bounds ?l_in_bounds ?e_in_bounds ?k_in_bounds ?a_are_box_numbers ?l_are_box_numbers ?e_are_box_numbers ?k_are_box_numbers ?a_hard_row ?l_hard_row ?e_hard_row ?k_hard_row ?a__law_order ?l__law_order ?e__law_order ?k__law_order ?a__law_limited ?l__law_limited ?e__law_limited ?k__law_limited ?a__law_own ?l__law_own ?e__law_own ?k__law_own ?a__law_begin ?l__law_begin ?e__law_begin ?k__law_begin ?a__law_ratio ?l__law_ratio ?e__law_ratio ?k__law_ratio ?a__law_minus ?l__law_minus ?e__law_minus ?k__law_minus ?a__law_add ?l__law_add ?e__law_add ?k__law_add ?a__law_may ?l__law_may ?e__law_may ?k__law_may ?a__law_rounds ?l__law_rounds ?e__law_rounds ?k__law_rounds ?a_check_boxes ?l_check_boxes ?e_check_boxes ?k_check_boxes ?a_is_fraction ?l_is_fraction ?e_is_fraction ?k_is_fraction ?a_is_rational ?l_is_rational ?e_is_rational ?k_is_rational ?a_as_fraction ?l_as_fraction ?e_as_fraction ?k_as_fraction ?a_check_width ?l_check_width ?e_check_width ?k_check_width ?a_order ?l_order ?e_order ?k_order ?a_limited ?l_limited ?e_limited ?k_limited ?a_own_width ?l_own_width ?e_own_width ?k_own_width ?a_does_grow ?l_does_grow ?e_does_grow ?k_does_grow ?a_weight_of ?l_weight_of ?e_weight_of ?k_weight_of ?a_is_frozen_first ?l_is_frozen_first ?e_is_frozen_first ?k_is_frozen_first ?a_first_sizes ?l_first_sizes ?e_first_sizes ?k_first_sizes ?a_lowest ?l_lowest ?e_lowest ?k_lowest ?a_plus ?l_plus ?e_plus ?k_plus ?a_minus ?l_minus ?e_minus ?k_minus ?a_common_level ?l_common_level ?e_common_level ?k_common_level ?a_next_sizes ?l_next_sizes ?e_next_sizes ?k_next_sizes ?a_rounds ?l_rounds ?e_rounds ?k_rounds ?a__law_right ?l__law_right ?e__law_right ?k__law_right ?a_law ?l_law ?e_law ?k_law ?a_Box ?pg_Box ?hd_Box ?po_Box ?sa_Box ?no_Box__wish ?no_Box__least ?no_Box__most ?no_Box__grow ?no_Box__shrink ?at_Box_d_init_d ?fn_Box_d_init_d ?mk_Box ?kc_Box ?pa_Box_wish ?pb_Box_wish ?pc_Box_wish ?pd_Box_wish ?pa_Box_least ?pb_Box_least ?pc_Box_least ?pd_Box_least ?pa_Box_most ?pb_Box_most ?pc_Box_most ?pd_Box_most ?pa_Box_grow ?pb_Box_grow ?pc_Box_grow ?pd_Box_grow ?pa_Box_shrink ?pb_Box_shrink ?pc_Box_shrink ?pd_Box_shrink ?pa_Box_own ?pb_Box_own ?pc_Box_own ?pd_Box_own ?ia_Box ?ib_Box ?ic_Box ?id_Box ?x_HEAVIEST ?x_MOST_BOXES ?x_WIDEST ?x_ZERO ?y_ZERO ?x_abs ?x_all ?x_bool ?x_dict ?x_enumerate ?x_gcd ?x_int ?x_isinstance ?x_len ?x_list ?x_max ?x_range ?x_sorted ?x_sum ?x_tuple ?l_Box_d_init_d ?e_Box_d_init_d ?k_Box_d_init_d ?T1_Box_d_init_d ?l_Box_wish ?e_Box_wish ?k_Box_wish ?l_Box_least ?e_Box_least ?k_Box_least ?l_Box_most ?e_Box_most ?k_Box_most ?l_Box_grow ?e_Box_grow ?k_Box_grow ?l_Box_shrink ?e_Box_shrink ?k_Box_shrink ?l_Box_own ?e_Box_own ?k_Box_own ?main
    (case a__law_bag => k_is)
    (case l__law_bag => k_is)
    (case e__law_bag => k_is)
    (case k__law_bag => k_is)
    (case a__law_pick => k_is)
    (case l__law_pick => k_is)
    (case e__law_pick => k_is)
    (case k__law_pick => k_is)
    (case a_is_int => k_is)
    (case l_is_int => k_is)
    (case e_is_int => k_is)
    (case k_is_int => k_is)
    (case a_in_bounds => k_is)
    (case l_in_bounds => k_is)
    (case e_in_bounds => k_is)
    (case k_in_bounds => k_is)
    (case a_are_box_numbers => k_is)
    (case l_are_box_numbers => k_is)
    (case e_are_box_numbers => k_is)
    (case k_are_box_numbers => k_is)
    (case a_hard_row => k_is)
    (case l_hard_row => k_is)
    (case e_hard_row => k_is)
    (case k_hard_row => k_is)
    (case a__law_order => k_is)
    (case l__law_order => k_is)
    (case e__law_order => k_is)
    (case k__law_order => k_is)
    (case a__law_limited => k_is)
    (case l__law_limited => k_is)
    (case e__law_limited => k_is)
    (case k__law_limited => k_is)
    (case a__law_own => k_is)
    (case l__law_own => k_is)
    (case e__law_own => k_is)
    (case k__law_own => k_is)
    (case a__law_begin => k_is)
    (case l__law_begin => k_is)
    (case e__law_begin => k_is)
    (case k__law_begin => k_is)
    (case a__law_ratio => k_is)
    (case l__law_ratio => k_is)
    (case e__law_ratio => k_is)
    (case k__law_ratio => k_is)
    (case a__law_minus => k_is)
    (case l__law_minus => k_is)
    (case e__law_minus => k_is)
    (case k__law_minus => k_is)
    (case a__law_add => k_is)
    (case l__law_add => k_is)
    (case e__law_add => k_is)
    (case k__law_add => k_is)
    (case a__law_may => k_is)
    (case l__law_may => k_is)
    (case e__law_may => k_is)
    (case k__law_may => k_is)
    (case a__law_rounds => k_is)
    (case l__law_rounds => k_is)
    (case e__law_rounds => k_is)
    (case k__law_rounds => k_is)
    (case a_check_boxes => k_is)
    (case l_check_boxes => k_is)
    (case e_check_boxes => k_is)
    (case k_check_boxes => k_is)
    (case a_is_fraction => k_is)
    (case l_is_fraction => k_is)
    (case e_is_fraction => k_is)
    (case k_is_fraction => k_is)
    (case a_is_rational => k_is)
    (case l_is_rational => k_is)
    (case e_is_rational => k_is)
    (case k_is_rational => k_is)
    (case a_as_fraction => k_is)
    (case l_as_fraction => k_is)
    (case e_as_fraction => k_is)
    (case k_as_fraction => k_is)
    (case a_check_width => k_is)
    (case l_check_width => k_is)
    (case e_check_width => k_is)
    (case k_check_width => k_is)
    (case a_order => k_is)
    (case l_order => k_is)
    (case e_order => k_is)
    (case k_order => k_is)
    (case a_limited => k_is)
    (case l_limited => k_is)
    (case e_limited => k_is)
    (case k_limited => k_is)
    (case a_own_width => k_is)
    (case l_own_width => k_is)
    (case e_own_width => k_is)
    (case k_own_width => k_is)
    (case a_does_grow => k_is)
    (case l_does_grow => k_is)
    (case e_does_grow => k_is)
    (case k_does_grow => k_is)
    (case a_weight_of => k_is)
    (case l_weight_of => k_is)
    (case e_weight_of => k_is)
    (case k_weight_of => k_is)
    (case a_is_frozen_first => k_is)
    (case l_is_frozen_first => k_is)
    (case e_is_frozen_first => k_is)
    (case k_is_frozen_first => k_is)
    (case a_first_sizes => k_is)
    (case l_first_sizes => k_is)
    (case e_first_sizes => k_is)
    (case k_first_sizes => k_is)
    (case a_lowest => k_is)
    (case l_lowest => k_is)
    (case e_lowest => k_is)
    (case k_lowest => k_is)
    (case a_plus => k_is)
    (case l_plus => k_is)
    (case e_plus => k_is)
    (case k_plus => k_is)
    (case a_minus => k_is)
    (case l_minus => k_is)
    (case e_minus => k_is)
    (case k_minus => k_is)
    (case a_common_level => k_is)
    (case l_common_level => k_is)
    (case e_common_level => k_is)
    (case k_common_level => k_is)
    (case a_next_sizes => k_is)
    (case l_next_sizes => k_is)
    (case e_next_sizes => k_is)
    (case k_next_sizes => k_is)
    (case a_rounds => k_is)
    (case l_rounds => k_is)
    (case e_rounds => k_is)
    (case k_rounds => k_is)
    (case a__law_right => k_is)
    (case l__law_right => k_is)
    (case e__law_right => k_is)
    (case k__law_right => k_is)
    (case a_law => k_is)
    (case l_law => k_is)
    (case e_law => k_is)
    (case k_law => k_is)
    (case a_Box => k_is)
    (case pg_Box => k_is)
    (case hd_Box => k_is)
    (case po_Box => k_is)
    (case sa_Box => k_is)
    (case no_Box__wish => k_is)
    (case no_Box__least => k_is)
    (case no_Box__most => k_is)
    (case no_Box__grow => k_is)
    (case no_Box__shrink => k_is)
    (case at_Box_d_init_d => k_is)
    (case fn_Box_d_init_d => k_is)
    (case mk_Box => k_is)
    (case kc_Box => k_is)
    (case pa_Box_wish => k_is)
    (case pb_Box_wish => k_is)
    (case pc_Box_wish => k_is)
    (case pd_Box_wish => k_is)
    (case pa_Box_least => k_is)
    (case pb_Box_least => k_is)
    (case pc_Box_least => k_is)
    (case pd_Box_least => k_is)
    (case pa_Box_most => k_is)
    (case pb_Box_most => k_is)
    (case pc_Box_most => k_is)
    (case pd_Box_most => k_is)
    (case pa_Box_grow => k_is)
    (case pb_Box_grow => k_is)
    (case pc_Box_grow => k_is)
    (case pd_Box_grow => k_is)
    (case pa_Box_shrink => k_is)
    (case pb_Box_shrink => k_is)
    (case pc_Box_shrink => k_is)
    (case pd_Box_shrink => k_is)
    (case pa_Box_own => k_is)
    (case pb_Box_own => k_is)
    (case pc_Box_own => k_is)
    (case pd_Box_own => k_is)
    (case ia_Box => k_is)
    (case ib_Box => k_is)
    (case ic_Box => k_is)
    (case id_Box => k_is)
    (case x_HEAVIEST => k_is)
    (case x_MOST_BOXES => k_is)
    (case x_WIDEST => k_is)
    (case x_ZERO => k_is)
    (case y_ZERO => k_is)
    (case x_abs => k_is)
    (case x_all => k_is)
    (case x_bool => k_is)
    (case x_dict => k_is)
    (case x_enumerate => k_is)
    (case x_gcd => k_is)
    (case x_int => k_is)
    (case x_isinstance => k_is)
    (case x_len => k_is)
    (case x_list => k_is)
    (case x_max => k_is)
    (case x_range => k_is)
    (case x_sorted => k_is)
    (case x_sum => k_is)
    (case x_tuple => k_is)
    (case l_Box_d_init_d => k_is)
    (case e_Box_d_init_d => k_is)
    (case k_Box_d_init_d => k_is)
    (case T1_Box_d_init_d => k_is)
    (case l_Box_wish => k_is)
    (case e_Box_wish => k_is)
    (case k_Box_wish => k_is)
    (case l_Box_least => k_is)
    (case e_Box_least => k_is)
    (case k_Box_least => k_is)
    (case l_Box_most => k_is)
    (case e_Box_most => k_is)
    (case k_Box_most => k_is)
    (case l_Box_grow => k_is)
    (case e_Box_grow => k_is)
    (case k_Box_grow => k_is)
    (case l_Box_shrink => k_is)
    (case e_Box_shrink => k_is)
    (case k_Box_shrink => k_is)
    (case l_Box_own => k_is)
    (case e_Box_own => k_is)
    (case k_Box_own => k_is)
    (case main => exact fun q T => Bx.main T)
