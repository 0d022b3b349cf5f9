import PyProof.Rows.All
import Wide.All
import OpenK.AllK
import Wide.FinOn
import KE.OsRunLaw
import HandS.ForMost
import HandS.Walk
import HandS.Wide
import HandS.Exc
import HandS.ExcOwn
import HandS.ExcIs
import HandS.Gcd
import HandS.Property
import HandS.Star
import HandS.IsInst
import HandS.OwnEq
import HandS.Style
import HandS.Defaults
import HandS.MakeKw
import HandS.MakeKwOnly
import KE.KMathG
import HandS.DictComp
import HandS.SortInts
import HandS.SortKw
import HandS.TryOnly
import KE.GoesMore
import HandS.SetFor
import HandS.Strs
import HandS.Conv
import HandS.SetBool
import HandS.Rev
import HandS.WideBits
import HandS.TupAny
import KE.KTupSum
import HandS.Iter
import HandS.WordsDict
import HandS.Zip
import HandS.Flow
import HandS.WordsExc
import PyProof.InstNe
import HandS.Deep
import PySem.Challenge.RW_boxrows_k18_widths_with_a_value
set_option Elab.async false
set_option linter.all false
set_option maxRecDepth 100000
set_option maxHeartbeats 4000000
/-! the head. A names the objects that the top leaves (A.heap_39) and claims nothing; run: the top, run by the kernel once; the view holds the law and the imports -/
namespace Hd
open PySem PySem.W PyProof.Rows
local macro_rules | `(tactic| o_headL $H) => `(tactic| exact (‹False›).elim)
set_option maxRecDepth 100000 in
set_option maxHeartbeats 0 in
theorem A (f : False) : PySem.Challenge.rw_boxrows_k18_widths_with_a_value.Holds := by
  w_on; o_law; k_headL
end Hd
namespace Hd
open PySem PySem.W PySem.Calls PyProof.Rows HeadRun
abbrev RR : OpenRow := OpenLaw.row PySem.Challenge.rw_boxrows_k18_widths_with_a_value
abbrev qv : Program := view RR.prog [0, 56]
def ll : List PySem.Str := ([Str.ofString "_wall", Str.ofString "RowError", Str.ofString "InvalidWidth", Str.ofString "InvalidNumber", Str.ofString "InvalidCurve", Str.ofString "ZERO", Str.ofString "is_int", Str.ofString "is_fraction", Str.ofString "is_rational", Str.ofString "as_fraction", Str.ofString "lowest", Str.ofString "plus", Str.ofString "minus", Str.ofString "times", Str.ofString "over", Str.ofString "order", Str.ofString "ascending", Str.ofString "check_width", Str.ofString "MOST_POINTS", Str.ofString "Curve"] : List PySem.Str) ++ ([Str.ofString "check_curve", Str.ofString "is_positive_or_zero", Str.ofString "is_point", Str.ofString "are_points", Str.ofString "curve_of", Str.ofString "pieces_between", Str.ofString "joined", Str.ofString "last_up_to", Str.ofString "pieces_at", Str.ofString "value_on", Str.ofString "values_at", Str.ofString "common_widths", Str.ofString "summed", Str.ofString "widths_inside", Str.ofString "widths_with_value", Str.ofString "_law_spring", Str.ofString "_law_dip", Str.ofString "_law_cut", Str.ofString "_law_plus", Str.ofString "_law_product"] : List PySem.Str) ++ ([Str.ofString "_law_less", Str.ofString "_law_rise", Str.ofString "_law_drawn", Str.ofString "_law_value", Str.ofString "_law_bends", Str.ofString "_law_widths_near", Str.ofString "_law_widths_with", Str.ofString "_law_right", Str.ofString "_law_long", Str.ofString "_law_long_right"] : List PySem.Str)
def XX (s : Shared) : Bool := xlAt qv [] s && recOk (RowW.records RR.toRowW) s
def P0 : Params := { strHash := fun _ => 0, shareClass := fun _ => 0, mergeTok := fun t => t, idOf := fun _ => 0, idOfShared := fun _ _ => 0, followText := fun _ => true, idOfImm := fun _ => 0 }
noncomputable def as : List Addr := (A.heap_39 P0).map (·.1)
set_option maxRecDepth 100000 in
set_option maxHeartbeats 0 in
theorem run : ∀ w : World, (wholeF (fun p => stepQ (denQ tabQ) p w) fenceQ 30000 RR.prog).map (fun x => (looksF RR.prog x.1.heap x.2.abs, seenQ qv ll (importedModules RR.prog.main.body) XX x.2.abs, as.map (getT x.2))) = some (true, openGood qv ll, (A.heap_39 w.params).map fun x => some x.2) := by
  intro w
  kernel_rfl
end Hd

/-! Z1: data without addresses (D), a store of mutable lists (cells), what represents them on the abstract heap, and readings over them (ZE, ZT, ZA, ZS) that the layer's readings refine. -/
namespace Z
open PySem L2

/-- data: what a value is, all the way down; cell n: the n-th mutable object; scr: the script; ins: an instance that never changes -/
inductive D where
  | non | bl (b : Bool) | int (i : Int) | str (x : Str) | ty (n : String)
  | tup (ds : List D) | lst (ds : List D) | ins (c : Nat) (ds : List D) | cell (n : Nat) | scr (ns : List Int) | cls (c : Nat) | dct (ks : List Int) (ds : List D) | ktup (ns : List Int) | exc (c : Nat)
/-- an exception of a class, caught and kept -/
def ExH (cls : Value) (a : Addr) : HO := .ext fun g => ∃ (ob : Obj) (us : Array Value), g.get? a = some ob ∧ Zc cls none ob ∧ ob.data = .fields us
/-- what a cell holds -/
inductive O where
  | lst (ds : List D)
  | ins (c : Nat) (fs : List (Str × D))
  | dct (ks : List Int) (ds : List D)
abbrev Store := List O
/-- the classes: where each stands, its attributes in order -/
structure CI where
  adr : Nat → Addr
  nms : Nat → List Str

section
variable (K : PySem.W.Frag) (C : CI) (S A : List Addr) (H : Hp)
mutual
inductive Rep : V → D → Prop where
  | non : Rep .non .non
  | bl (b : Bool) : Rep (.bl b) (.bl b)
  | int (i : Int) : Rep (.int i) (.int i)
  | str (x : Str) : Rep (.str x) (.str x)
  | ty (n : String) : Rep (.ty n) (.ty n)
  | tup {a : Addr} {xs : List V} {ds : List D} (h : H a = some (.tup xs)) (hA : a ∉ A) (hS : a ∉ S) (r : RepL xs ds) : Rep (.ref a) (.tup ds)
  | lst {a : Addr} {xs : List V} {ds : List D} (h : H a = some (.lst xs)) (hA : a ∉ A) (hS : a ∉ S) (r : RepL xs ds) : Rep (.ref a) (.lst ds)
  | ins {a dx : Addr} {c : Nat} {xs : List V} {ds : List D} (h : H a = some (.ins (C.adr c) dx ((C.nms c).zip xs))) (hA : a ∉ A) (hS : a ∉ S) (hl : xs.length = (C.nms c).length) (r : RepL xs ds) : Rep (.ref a) (.ins c ds)
  | cell {a : Addr} {n : Nat} (h : A[n]? = some a) : Rep (.ref a) (.cell n)
  | dct {a : Addr} {ks : List Int} {xs : List V} {ds : List D} (h : Rd H a (.dK ((ks.map Sum.inl).zip xs))) (hA : a ∉ A) (hS : a ∉ S) (hl : xs.length = ks.length) (r : RepL xs ds) : Rep (.ref a) (.dct ks ds)
  | cls (c : Nat) : Rep (.ref (C.adr c)) (.cls c)
  | ktup {a : Addr} {ns : List Int} (h : ∃ (o : Obj) (its : Array Value) (n : Nat), K.lookup a = some o ∧ o.cls = .type "tuple" ∧ o.data = .seq its n ∧ its.size ≤ sizeLine ∧ Vals (ns.map V.int) its.toList) : Rep (.ref a) (.ktup ns)
  | scr {a : Addr} {ns : List Int} (h : (∃ o, H a = some (.frz o (.lst (ns.map V.int)))) ∧ a ∉ A ∧ a ∉ S ∨ (∃ (o : Obj) (its : Array Value) (n : Nat), K.lookup a = some o ∧ o.cls = .type "list" ∧ o.dict = none ∧ o.data = .seq its n ∧ its.size ≤ sizeLine ∧ Vals (ns.map V.int) its.toList)) : Rep (.ref a) (.scr ns)
  | exc {a : Addr} {c : Nat} (h : H a = some (ExH (.ref (C.adr c)) a)) (hA : a ∉ A) (hS : a ∉ S) : Rep (.ref a) (.exc c)
inductive RepL : List V → List D → Prop where
  | nil : RepL [] []
  | cons {v : V} {vs : List V} {d : D} {ds : List D} (h : Rep v d) (r : RepL vs ds) : RepL (v :: vs) (d :: ds)
end
/-- what stands at a cell's address -/
def CellAt (a : Addr) : O → Prop
  | .lst ds => ∃ xs, H a = some (.lst xs) ∧ RepL K C S A H xs ds
  | .ins c fs => ∃ dx xs, H a = some (.ins (C.adr c) dx xs) ∧ xs.map (·.1) = fs.map (·.1) ∧ RepL K C S A H (xs.map (·.2)) (fs.map (·.2))
  | .dct ks ds => ∃ xs, H a = some (.dK ((ks.map Sum.inl).zip xs)) ∧ xs.length = ks.length ∧ RepL K C S A H xs ds
/-- cells: the n-th address holds the n-th content -/
structure Cells (Δ : Store) : Prop where
  len : A.length = Δ.length
  nd : A.Nodup
  dj : ∀ a ∈ A, a ∉ S
  as : ∀ a ∈ S, H a ≠ none
  at_ : ∀ (n : Nat) (a : Addr) (o : O), A[n]? = some a → Δ[n]? = some o → CellAt K C S A H a o
/-- slots -/
structure Slots (σ : L2.St) (Γ : List (Option D)) : Prop where
  len : σ.length = Γ.length
  at_ : ∀ (i : Nat) (d : D), Γ[i]? = some (some d) → ∃ v, σ[i]? = some (some v) ∧ Rep K C S A H v d
end
/-- the heap goes on: new cells B, all but the cells kept -/
structure Ext (A : List Addr) (H : Hp) (A' : List Addr) (H' : Hp) : Prop where
  pre : ∃ B, A' = A ++ B ∧ ∀ b ∈ B, H b = none
  keep : ∀ a o, a ∉ A → H a = some o → H' a = some o
  trk : ∀ a, H' a = none → H a = none

theorem Ext.refl (A : List Addr) (H : Hp) : Ext A H A H := ⟨⟨[], by simp, by simp⟩, fun _ _ _ h => h, fun _ h => h⟩
theorem Ext.trans {A A1 A2 : List Addr} {H H1 H2 : Hp} (e : Ext A H A1 H1) (f : Ext A1 H1 A2 H2) : Ext A H A2 H2 := by
  obtain ⟨B, hB, nB⟩ := e.pre
  obtain ⟨B', hB', nB'⟩ := f.pre
  refine ⟨⟨B ++ B', by rw [hB', hB, List.append_assoc], fun b hb => ?_⟩, fun a o ha h => ?_, fun a h => e.trk a (f.trk a h)⟩
  · rcases List.mem_append.mp hb with hb | hb
    · exact nB b hb
    · exact e.trk b (nB' b hb)
  · refine f.keep a o ?_ (e.keep a o ha h)
    rw [hB]
    intro hm
    rcases List.mem_append.mp hm with hm | hm
    · exact ha hm
    · rw [nB a hm] at h
      cases h
/-- a new object -/
theorem Ext.new {A : List Addr} {H : Hp} {p : Addr} {o : HO} (h : H p = none) : Ext A H A (upd H p o) := by
  refine ⟨⟨[], by simp, by simp⟩, fun a u _ e => by rw [upd_ne (ne_of_none e h)]; exact e, fun a e => ?_⟩
  by_cases q : a = p
  · subst q; exact h
  · rw [upd_ne q] at e; exact e
/-- a new object, made a cell -/
theorem Ext.newCell {A : List Addr} {H : Hp} {p : Addr} {o : HO} (h : H p = none) : Ext A H (A ++ [p]) (upd H p o) := by
  refine ⟨⟨[p], rfl, by simp [h]⟩, fun a u _ e => by rw [upd_ne (ne_of_none e h)]; exact e, fun a e => ?_⟩
  by_cases q : a = p
  · subst q; exact h
  · rw [upd_ne q] at e; exact e
/-- a cell is written -/
theorem Ext.write {A : List Addr} {H : Hp} {p : Addr} {o : HO} (hp : p ∈ A) (h : H p ≠ none) : Ext A H A (upd H p o) := by
  refine ⟨⟨[], by simp, by simp⟩, fun a u ha e => ?_, fun a e => ?_⟩
  · rw [upd_ne (fun q => ha (by rw [q]; exact hp))]; exact e
  · by_cases q : a = p
    · subst q; rw [upd_same] at e; cases e
    · rw [upd_ne q] at e; exact e
section
variable {K : PySem.W.Frag} {C : CI} {S S' A A' : List Addr} {H H' : Hp}
/-- the weakest going on that keeps what is represented -/
structure Mo (S A : List Addr) (H : Hp) (S' A' : List Addr) (H' : Hp) : Prop where
  pre : ∃ B, A' = A ++ B ∧ ∀ b ∈ B, H b = none
  sub : ∀ b ∈ S', b ∈ S ∨ H b = none
  keep : ∀ a o, a ∉ A → a ∉ S → H a = some o → H' a = some o
theorem Ext.mo (e : Ext A H A' H') : Mo S A H S A' H' := ⟨e.pre, fun _ h => .inl h, fun a o h1 _ h => e.keep a o h1 h⟩
theorem Mo.notA (m : Mo S A H S' A' H') {a : Addr} {o : HO} (ha : a ∉ A) (h : H a = some o) : a ∉ A' := by
  obtain ⟨B, hB, nB⟩ := m.pre
  rw [hB]
  intro hm
  rcases List.mem_append.mp hm with hm | hm
  · exact ha hm
  · rw [nB a hm] at h
    cases h
theorem Mo.notS (m : Mo S A H S' A' H') {a : Addr} {o : HO} (ha : a ∉ S) (h : H a = some o) : a ∉ S' := fun hm => by
  rcases m.sub a hm with hm | hm
  · exact ha hm
  · rw [hm] at h; cases h
mutual
theorem Rep.mono (m : Mo S A H S' A' H') : ∀ (d : D) {v : V}, Rep K C S A H v d → Rep K C S' A' H' v d
  | .non, _, h => by cases h; exact .non
  | .bl b, _, h => by cases h; exact .bl b
  | .int i, _, h => by cases h; exact .int i
  | .str x, _, h => by cases h; exact .str x
  | .ty n, _, h => by cases h; exact .ty n
  | .cls c, _, h => by cases h; exact .cls c
  | .ktup ns, _, h => by cases h with | ktup h => exact .ktup h
  | .exc c, _, h => by cases h with | exc h hA hS => exact .exc (m.keep _ _ hA hS h) (m.notA hA h) (m.notS hS h)
  | .tup ds, _, h => by
    cases h with
    | tup h hA hS r => exact .tup (m.keep _ _ hA hS h) (m.notA hA h) (m.notS hS h) (RepL.mono m ds r)
  | .lst ds, _, h => by
    cases h with
    | lst h hA hS r => exact .lst (m.keep _ _ hA hS h) (m.notA hA h) (m.notS hS h) (RepL.mono m ds r)
  | .ins c ds, _, h => by
    cases h with
    | ins h hA hS hl r => exact .ins (m.keep _ _ hA hS h) (m.notA hA h) (m.notS hS h) hl (RepL.mono m ds r)
  | .dct ks ds, _, h => by
    cases h with
    | dct h hA hS hl r =>
      rcases h with h | ⟨o, h⟩
      · exact .dct (.inl (m.keep _ _ hA hS h)) (m.notA hA h) (m.notS hS h) hl (RepL.mono m ds r)
      · exact .dct (.inr ⟨o, m.keep _ _ hA hS h⟩) (m.notA hA h) (m.notS hS h) hl (RepL.mono m ds r)
  | .cell n, _, h => by
    cases h with
    | cell h =>
      obtain ⟨B, hB, _⟩ := m.pre
      refine .cell ?_
      rw [hB, List.getElem?_append_left (List.getElem?_eq_some_iff.mp h).1]
      exact h
  | .scr ns, _, h => by
    cases h with
    | scr h =>
      refine .scr ?_
      rcases h with ⟨⟨o, h⟩, hA, hS⟩ | h
      · exact .inl ⟨⟨o, m.keep _ _ hA hS h⟩, m.notA hA h, m.notS hS h⟩
      · exact .inr h
theorem RepL.mono (m : Mo S A H S' A' H') : ∀ (ds : List D) {vs : List V}, RepL K C S A H vs ds → RepL K C S' A' H' vs ds
  | [], _, h => by cases h; exact .nil
  | d :: ds, _, h => by
    cases h with
    | cons h r => exact .cons (Rep.mono m d h) (RepL.mono m ds r)
end
theorem Rep.ext {v : V} {d : D} (e : Ext A H A' H') (h : Rep K C S A H v d) : Rep K C S A' H' v d := Rep.mono e.mo d h
theorem RepL.ext {vs : List V} {ds : List D} (e : Ext A H A' H') (h : RepL K C S A H vs ds) : RepL K C S A' H' vs ds := RepL.mono e.mo ds h
theorem RepL.length : ∀ {vs : List V} {ds : List D}, RepL K C S A H vs ds → vs.length = ds.length
  | _, _, .nil => rfl
  | _, _, .cons _ r => congrArg (· + 1) (RepL.length r)
theorem RepL.get : ∀ {vs : List V} {ds : List D} {i : Nat} {d : D}, RepL K C S A H vs ds → ds[i]? = some d → ∃ v, vs[i]? = some v ∧ Rep K C S A H v d
  | _, _, _, _, .nil, e => by simp at e
  | _, _, 0, _, .cons h _, e => by simp at e; subst e; exact ⟨_, rfl, h⟩
  | _, _, i + 1, _, .cons _ r, e => by
    obtain ⟨v, h1, h2⟩ := RepL.get (i := i) r (by simpa using e)
    exact ⟨v, by simpa using h1, h2⟩
theorem RepL.getV : ∀ {vs : List V} {ds : List D} {i : Nat} {v : V}, RepL K C S A H vs ds → vs[i]? = some v → ∃ d, ds[i]? = some d ∧ Rep K C S A H v d
  | _, _, _, _, .nil, e => by simp at e
  | _, _, 0, _, .cons h _, e => by simp at e; subst e; exact ⟨_, rfl, h⟩
  | _, _, i + 1, _, .cons _ r, e => by
    obtain ⟨v, h1, h2⟩ := RepL.getV (i := i) r (by simpa using e)
    exact ⟨v, by simpa using h1, h2⟩
theorem RepL.append : ∀ {vs ws : List V} {ds es : List D}, RepL K C S A H vs ds → RepL K C S A H ws es → RepL K C S A H (vs ++ ws) (ds ++ es)
  | _, _, _, _, .nil, q => q
  | _, _, _, _, .cons h r, q => .cons h (RepL.append r q)
theorem RepL.take : ∀ {vs : List V} {ds : List D} (n : Nat), RepL K C S A H vs ds → RepL K C S A H (vs.take n) (ds.take n)
  | _, _, 0, _ => .nil
  | _, _, _ + 1, .nil => .nil
  | _, _, n + 1, .cons h r => .cons h (RepL.take n r)
theorem RepL.drop : ∀ {vs : List V} {ds : List D} (n : Nat), RepL K C S A H vs ds → RepL K C S A H (vs.drop n) (ds.drop n)
  | _, _, 0, r => r
  | _, _, _ + 1, .nil => .nil
  | _, _, n + 1, .cons _ r => RepL.drop n r
theorem RepL.reverse : ∀ {vs : List V} {ds : List D}, RepL K C S A H vs ds → RepL K C S A H vs.reverse ds.reverse
  | _, _, .nil => .nil
  | _, _, .cons h r => by
    rw [List.reverse_cons, List.reverse_cons]
    exact RepL.append (RepL.reverse r) (.cons h .nil)
theorem RepL.set : ∀ {vs : List V} {ds : List D} {v : V} {d : D} (i : Nat), Rep K C S A H v d → RepL K C S A H vs ds → RepL K C S A H (vs.set i v) (ds.set i d)
  | _, _, _, _, _, _, .nil => .nil
  | _, _, _, _, 0, q, .cons _ r => .cons q r
  | _, _, _, _, i + 1, q, .cons h r => .cons h (RepL.set i q r)
theorem RepL.repl (k : Nat) {vs : List V} {ds : List D} (r : RepL K C S A H vs ds) : RepL K C S A H (List.replicate k vs).flatten (List.replicate k ds).flatten := by
  induction k with
  | zero => exact .nil
  | succ k ih =>
    rw [List.replicate_succ, List.replicate_succ, List.flatten_cons, List.flatten_cons]
    exact RepL.append r ih
theorem Slots.ext {σ : L2.St} {Γ : List (Option D)} (e : Ext A H A' H') (h : Slots K C S A H σ Γ) : Slots K C S A' H' σ Γ :=
  ⟨h.len, fun i d q => by obtain ⟨v, h1, h2⟩ := h.at_ i d q; exact ⟨v, h1, h2.ext e⟩⟩
theorem Slots.mono {σ : L2.St} {Γ : List (Option D)} (m : Mo S A H S' A' H') (h : Slots K C S A H σ Γ) : Slots K C S' A' H' σ Γ :=
  ⟨h.len, fun i d q => by obtain ⟨v, h1, h2⟩ := h.at_ i d q; exact ⟨v, h1, Rep.mono m d h2⟩⟩
theorem Slots.set {σ : L2.St} {Γ : List (Option D)} {v : V} {d : D} (h : Slots K C S A H σ Γ) (i : Nat) (r : Rep K C S A H v d) : Slots K C S A H (σ.set i (some v)) (Γ.set i (some d)) := by
  refine ⟨by rw [List.length_set, List.length_set]; exact h.len, fun j e q => ?_⟩
  by_cases hj : j = i
  · subst hj
    have hlt : j < Γ.length := by
      have := (List.getElem?_eq_some_iff.mp q).1
      rw [List.length_set] at this
      exact this
    rw [List.getElem?_set_self hlt] at q
    cases q
    exact ⟨v, List.getElem?_set_self (by rw [h.len]; exact hlt), r⟩
  · rw [List.getElem?_set_ne (Ne.symm hj)] at q
    obtain ⟨w, h1, h2⟩ := h.at_ j e q
    exact ⟨w, by rw [List.getElem?_set_ne (Ne.symm hj)]; exact h1, h2⟩
/-- a cell's content, where its object is kept -/
theorem CellAt.mono {a : Addr} {o : O} (m : Mo S A H S' A' H') (k : ∀ u, H a = some u → H' a = some u) (h : CellAt K C S A H a o) : CellAt K C S' A' H' a o := by
  cases o with
  | lst ds =>
    obtain ⟨xs, e, r⟩ := h
    exact ⟨xs, k _ e, RepL.mono m ds r⟩
  | ins c fs =>
    obtain ⟨dx, xs, e, q, r⟩ := h
    exact ⟨dx, xs, k _ e, q, RepL.mono m _ r⟩
  | dct ks ds =>
    obtain ⟨xs, e, q, r⟩ := h
    exact ⟨xs, k _ e, q, RepL.mono m ds r⟩
theorem CellAt.trk {a : Addr} {o : O} (h : CellAt K C S A H a o) : H a ≠ none := by
  cases o with
  | lst ds =>
    obtain ⟨xs, e, r⟩ := h
    rw [e]; simp
  | ins c fs =>
    obtain ⟨dx, xs, e, q, r⟩ := h
    rw [e]; simp
  | dct ks ds =>
    obtain ⟨xs, e, q, r⟩ := h
    rw [e]; simp
/-- the cells, behind something that kept all tracked objects (and made nothing a cell) -/
theorem Cells.kept {Δ : Store} (h : Cells K C S A H Δ) (k : ∀ a o, H a = some o → H' a = some o) : Cells K C S A H' Δ := by
  refine ⟨h.len, h.nd, h.dj, fun a ha => ?_, fun n a o h1 h2 => ?_⟩
  · cases q : H a with
    | none => exact absurd q (h.as a ha)
    | some o => rw [k a o q]; simp
  · exact (h.at_ n a o h1 h2).mono ⟨⟨[], by simp, by simp⟩, fun _ h => .inl h, fun a o _ _ q => k a o q⟩ (k a)
end

/-! ### readings over data -/
abbrev Env := List (Option D)
abbrev ZE := Env → Store → (D → Store → Prop) → Prop
abbrev ZT := Env → Store → (Bool → Store → Prop) → Prop
abbrev ZA := Env → Store → (List D → Store → Prop) → Prop
structure ZEnds where
  nx : Env → Store → Prop
  rt : D → Store → Prop
  bk : Env → Store → Prop := fun _ _ => False
  ct : Env → Store → Prop := fun _ _ => False
abbrev ZS := ZEnds → Env → Store → Prop

def RefE (K : PySem.W.Frag) (C : CI) (te : TE) (z : ZE) : Prop := ∀ (S A : List Addr) (σ : L2.St) (H : Hp) (Γ : Env) (Δ : Store) (P : D → Store → Prop) (Q : VK), Slots K C S A H σ Γ → Cells K C S A H Δ → z Γ Δ P →
  (∀ v d A' H' Δ', Ext A H A' H' → Cells K C S A' H' Δ' → Rep K C S A' H' v d → P d Δ' → Q v H') → te σ H Q
def RefT (K : PySem.W.Frag) (C : CI) (tt : TT) (z : ZT) : Prop := ∀ (S A : List Addr) (σ : L2.St) (H : Hp) (Γ : Env) (Δ : Store) (P : Bool → Store → Prop) (Q : Bool → Hp → Prop), Slots K C S A H σ Γ → Cells K C S A H Δ → z Γ Δ P →
  (∀ b A' H' Δ', Ext A H A' H' → Cells K C S A' H' Δ' → P b Δ' → Q b H') → tt σ H Q
def RefA (K : PySem.W.Frag) (C : CI) (ta : TA) (z : ZA) : Prop := ∀ (S A : List Addr) (σ : L2.St) (H : Hp) (Γ : Env) (Δ : Store) (P : List D → Store → Prop) (Q : List V → Hp → Prop), Slots K C S A H σ Γ → Cells K C S A H Δ → z Γ Δ P →
  (∀ vs ds A' H' Δ', Ext A H A' H' → Cells K C S A' H' Δ' → RepL K C S A' H' vs ds → P ds Δ' → Q vs H') → ta σ H Q
/-- what a wish over slots and heap says where the wish over data is Z -/
def NxOk (K : PySem.W.Frag) (C : CI) (S A : List Addr) (H : Hp) (Z : Env → Store → Prop) (N : L2.St → Hp → Prop) : Prop :=
  ∀ σ' A' H' Γ' Δ', Ext A H A' H' → Slots K C S A' H' σ' Γ' → Cells K C S A' H' Δ' → Z Γ' Δ' → N σ' H'
structure EndsOk (K : PySem.W.Frag) (C : CI) (S A : List Addr) (H : Hp) (Z : ZEnds) (N : Ends) : Prop where
  nx : NxOk K C S A H Z.nx N.nx
  bk : NxOk K C S A H Z.bk N.bk
  ct : NxOk K C S A H Z.ct N.ct
  rt : ∀ v d A' H' Δ', Ext A H A' H' → Cells K C S A' H' Δ' → Rep K C S A' H' v d → Z.rt d Δ' → N.rt v H'
def RefS (K : PySem.W.Frag) (C : CI) (ts : TS) (z : ZS) : Prop := ∀ (S A : List Addr) (σ : L2.St) (H : Hp) (Γ : Env) (Δ : Store) (Z : ZEnds) (N : Ends), Slots K C S A H σ Γ → Cells K C S A H Δ → z Z Γ Δ → EndsOk K C S A H Z N → ts N σ H
section
variable {K : PySem.W.Frag} {C : CI} {S A A' : List Addr} {H H' : Hp}
theorem NxOk.ext {Z : Env → Store → Prop} {N : L2.St → Hp → Prop} (h : NxOk K C S A H Z N) (e : Ext A H A' H') : NxOk K C S A' H' Z N :=
  fun σ' A2 H2 Γ' Δ' e2 s c z => h σ' A2 H2 Γ' Δ' (e.trans e2) s c z
theorem EndsOk.ext {Z : ZEnds} {N : Ends} (h : EndsOk K C S A H Z N) (e : Ext A H A' H') : EndsOk K C S A' H' Z N :=
  ⟨h.nx.ext e, h.bk.ext e, h.ct.ext e, fun v d A2 H2 Δ' e2 c r z => h.rt v d A2 H2 Δ' (e.trans e2) c r z⟩
end

/-! ### the judgements: a piece of syntax and its reading over data -/
structure EZ (C : CI) (X : Cx) (e : Expr) (z : ZE) : Prop where
  ex : ∃ te, PE X e te ∧ RefE X.K C te z
structure TZ (C : CI) (X : Cx) (e : Expr) (z : ZT) : Prop where
  ex : ∃ tt, PT X e tt ∧ RefT X.K C tt z
structure WZ (C : CI) (X : Cx) (e : Expr) (z : ZT) : Prop where
  ex : ∃ tt, PW X e tt ∧ RefT X.K C tt z
structure AZ (C : CI) (X : Cx) (es : List Expr) (z : ZA) : Prop where
  ex : ∃ ta, PA X es ta ∧ RefA X.K C ta z
structure SZ (C : CI) (X : Cx) (st : Stmt) (z : ZS) : Prop where
  ex : ∃ ts, PS X st ts ∧ RefS X.K C ts z
structure SZs (C : CI) (X : Cx) (st : List Stmt) (z : ZS) : Prop where
  ex : ∃ ts, PSs X st ts ∧ RefS X.K C ts z
theorem WZ.tz {C : CI} {X : Cx} {e : Expr} {z : ZT} (h : WZ C X e z) : TZ C X e z := by
  obtain ⟨t, h1, h2⟩ := h.ex
  exact ⟨t, h1.pt, h2⟩
end Z

/-! Z2: expressions over data. -/
namespace Z
open PySem L2

abbrev ZR1 := D → Store → (D → Store → Prop) → Prop
abbrev ZR2 := D → D → Store → (D → Store → Prop) → Prop
abbrev ZRC := List D → Store → (D → Store → Prop) → Prop
def Ref1 (K : PySem.W.Frag) (C : CI) (r : V → Hp → VK → Prop) (z : ZR1) : Prop := ∀ (S A : List Addr) (H : Hp) (Δ : Store) (x : V) (dx : D) (P : D → Store → Prop) (Q : VK), Cells K C S A H Δ → Rep K C S A H x dx → z dx Δ P →
  (∀ v d A' H' Δ', Ext A H A' H' → Cells K C S A' H' Δ' → Rep K C S A' H' v d → P d Δ' → Q v H') → r x H Q
def Ref2 (K : PySem.W.Frag) (C : CI) (r : R2) (z : ZR2) : Prop := ∀ (S A : List Addr) (H : Hp) (Δ : Store) (x y : V) (dx dy : D) (P : D → Store → Prop) (Q : VK), Cells K C S A H Δ → Rep K C S A H x dx → Rep K C S A H y dy → z dx dy Δ P →
  (∀ v d A' H' Δ', Ext A H A' H' → Cells K C S A' H' Δ' → Rep K C S A' H' v d → P d Δ' → Q v H') → r x y H Q
def RefC (K : PySem.W.Frag) (C : CI) (r : List V → Hp → VK → Prop) (z : ZRC) : Prop := ∀ (S A : List Addr) (H : Hp) (Δ : Store) (xs : List V) (ds : List D) (P : D → Store → Prop) (Q : VK), Cells K C S A H Δ → RepL K C S A H xs ds → z ds Δ P →
  (∀ v d A' H' Δ', Ext A H A' H' → Cells K C S A' H' Δ' → Rep K C S A' H' v d → P d Δ' → Q v H') → r xs H Q

/-! ### names, constants -/
def zVar (i : Nat) : ZE := fun Γ Δ P => ∃ d, Γ[i]? = some (some d) ∧ P d Δ
def zC (d : D) : ZE := fun _ Δ P => P d Δ
section
variable {C : CI} {X : Cx}
theorem ez_var (i : Nat) {x : Str} {pos : Pos} (hN : X.N[i]? = some x := by rfl) (hv : Vis X.env.scope x := by first | exact Or.inl rfl | exact Or.inr (Or.inl rfl) | exact Or.inr (Or.inr rfl)) (hd : (x == ("__debug__" : Str)) = false := by decide)
    (hcd : (x == ("__classdict__" : Str)) = false := by decide) : EZ C X (.Name x pos) (zVar i) := by
  refine ⟨tVar i, pe_var hN hv hd hcd, fun S A σ H Γ Δ P Q hs hc hz k => ?_⟩
  obtain ⟨d, e, p⟩ := hz
  obtain ⟨v, h1, h2⟩ := hs.at_ i d e
  exact ⟨v, h1, k v d A H Δ (Ext.refl _ _) hc h2 p⟩
theorem ref_c {K : PySem.W.Frag} {v : V} {d : D} (h : ∀ S A H, Rep K C S A H v d) : RefE K C (tC v) (zC d) := fun S A σ H Γ Δ P Q hs hc hz k => k v d A H Δ (Ext.refl _ _) hc (h S A H) hz
theorem ez_int {i j pos} : EZ C X (.Constant (.int i) j pos) (zC (.int i)) := ⟨_, pe_int, ref_c fun _ _ _ => .int i⟩
theorem ez_bl {b j pos} : EZ C X (.Constant (.bool b) j pos) (zC (.bl b)) := ⟨_, pe_bl, ref_c fun _ _ _ => .bl b⟩
theorem ez_non {j pos} : EZ C X (.Constant .none j pos) (zC .non) := ⟨_, pe_non, ref_c fun _ _ _ => .non⟩
theorem ez_str {x j pos} : EZ C X (.Constant (.str x) j pos) (zC (.str x)) := ⟨_, pe_str, ref_c fun _ _ _ => .str x⟩
/-- a module's constant, an int -/
theorem ez_gint {x : Str} {i : Int} {t : Tok} {pos : Pos} (hm : X.mg x = some (.int i t)) (hg : Gl X x := by rfl) (hd : (x == ("__debug__" : Str)) = false := by decide) : EZ C X (.Name x pos) (zC (.int i)) :=
  ⟨_, pe_glob (v := .int i) hg hm ⟨t, rfl⟩ hd, ref_c fun _ _ _ => .int i⟩
/-- a built-in type's name as a value -/
theorem ez_ty {x : Str} {n : String} {pos : Pos} (hm : X.mg x = none) (hv : bootBuiltins x = some (.type n)) (hg : Gl X x := by rfl) (hn : x ≠ "__name__" := by decide) (hd : (x == ("__debug__" : Str)) = false := by decide) : EZ C X (.Name x pos) (zC (.ty n)) :=
  ⟨_, pe_bltn (v := .ty n) hg hm hv rfl hn hd, ref_c fun _ _ _ => .ty n⟩

/-! ### operators -/
def zOp (r : ZR2) (za zb : ZE) : ZE := fun Γ Δ P => za Γ Δ fun x Δ1 => zb Γ Δ1 fun y Δ2 => r x y Δ2 P
def zUn (r : ZR1) (za : ZE) : ZE := fun Γ Δ P => za Γ Δ fun x Δ1 => r x Δ1 P
theorem ref_op {K : PySem.W.Frag} {r : R2} {z : ZR2} {ta tb : TE} {za zb : ZE} (hr : Ref2 K C r z) (ha : RefE K C ta za) (hb : RefE K C tb zb) : RefE K C (tOp r ta tb) (zOp z za zb) := fun S A σ H Γ Δ P Q hs hc hz k =>
  ha S A σ H Γ Δ _ _ hs hc hz fun x dx A1 H1 Δ1 e1 c1 r1 hz1 => hb S A1 σ H1 Γ Δ1 _ _ (hs.ext e1) c1 hz1 fun y dy A2 H2 Δ2 e2 c2 r2 hz2 =>
    hr S A2 H2 Δ2 x y dx dy P Q c2 (r1.ext e2) r2 hz2 fun v d A3 H3 Δ3 e3 c3 r3 p => k v d A3 H3 Δ3 ((e1.trans e2).trans e3) c3 r3 p
theorem ref_un {K : PySem.W.Frag} {r : V → Hp → VK → Prop} {z : ZR1} {ta : TE} {za : ZE} (hr : Ref1 K C r z) (ha : RefE K C ta za) : RefE K C (tUn r ta) (zUn z za) := fun S A σ H Γ Δ P Q hs hc hz k =>
  ha S A σ H Γ Δ _ _ hs hc hz fun x dx A1 H1 Δ1 e1 c1 r1 hz1 => hr S A1 H1 Δ1 x dx P Q c1 r1 hz1 fun v d A3 H3 Δ3 e3 c3 r3 p => k v d A3 H3 Δ3 (e1.trans e3) c3 r3 p
variable {a b c : Expr} {za zb zc : ZE} {pos : Pos}
/-- an operator's rule: what it does by values, and over data -/
structure OpZ (C : CI) (X : Cx) (f : Value → Value → Sem Value) (z : ZR2) : Prop where
  ex : ∃ r, OpR X f r ∧ Ref2 X.K C r z
theorem ez_op {op : Operator} {z : ZR2} (ho : OpZ C X (binaryOp op) z) (ha : EZ C X a za) (hb : EZ C X b zb) : EZ C X (.BinOp a op b pos) (zOp z za zb) := by
  obtain ⟨r, o1, o2⟩ := ho.ex
  obtain ⟨ta, a1, a2⟩ := ha.ex
  obtain ⟨tb, b1, b2⟩ := hb.ex
  exact ⟨_, pe_op o1 a1 b1, ref_op o2 a2 b2⟩
def zI0 (g : Int → Int → D) : ZR2 := fun x y Δ P => ∃ i j, x = .int i ∧ y = .int j ∧ P (g i j) Δ
def zI (Cd : Int → Int → Prop) (g : Int → Int → D) : ZR2 := fun x y Δ P => ∃ i j, x = .int i ∧ y = .int j ∧ Cd i j ∧ P (g i j) Δ
theorem ref_I0 {K : PySem.W.Frag} {g : Int → Int → V} {g' : Int → Int → D} (hg : ∀ i j S A H, Rep K C S A H (g i j) (g' i j)) : Ref2 K C (rI0 g) (zI0 g') := fun S A H Δ x y dx dy P Q hc rx ry hz k => by
  obtain ⟨i, j, rfl, rfl, p⟩ := hz
  cases rx
  cases ry
  exact ⟨i, j, rfl, rfl, k _ _ A H Δ (Ext.refl _ _) hc (hg i j S A H) p⟩
theorem ref_I {K : PySem.W.Frag} {Cd : Int → Int → Prop} {g : Int → Int → V} {g' : Int → Int → D} (hg : ∀ i j S A H, Rep K C S A H (g i j) (g' i j)) : Ref2 K C (rI Cd g) (zI Cd g') := fun S A H Δ x y dx dy P Q hc rx ry hz k => by
  obtain ⟨i, j, rfl, rfl, q, p⟩ := hz
  cases rx
  cases ry
  exact ⟨i, j, rfl, rfl, q, k _ _ A H Δ (Ext.refl _ _) hc (hg i j S A H) p⟩
theorem oz_add : OpZ C X (binaryOp .Add) (zI0 fun i j => .int (i + j)) := ⟨_, op_add, ref_I0 fun _ _ _ _ _ => .int _⟩
theorem oz_sub : OpZ C X (binaryOp .Sub) (zI0 fun i j => .int (i - j)) := ⟨_, op_sub, ref_I0 fun _ _ _ _ _ => .int _⟩
/-- a product that the machine makes -/
def MulOk (i j : Int) : Prop := IntMulOk i j
theorem op_mulA : OpR X (binaryOp .Mult) (rI IntMulOk fun i j => .int (i * j)) := opI fun _ _ _ _ _ _ _ hc q => PyProof.Rows.mul_int q hc
theorem oz_mul : OpZ C X (binaryOp .Mult) (zI MulOk fun i j => .int (i * j)) := ⟨_, op_mulA, ref_I fun _ _ _ _ _ => .int _⟩
theorem oz_fdiv : OpZ C X (binaryOp .FloorDiv) (zI CDivW fun i j => .int (i / j)) := ⟨_, op_fdivW, ref_I fun _ _ _ _ _ => .int _⟩
theorem oz_mod : OpZ C X (binaryOp .Mod) (zI (fun _ j => 0 < j) fun i j => .int (i % j)) := ⟨_, op_mod, ref_I fun _ _ _ _ _ => .int _⟩
theorem oz_pow : OpZ C X (binaryOp .Pow) (zI CPow fun i j => .int (i ^ j.toNat)) := ⟨_, op_pow, ref_I fun _ _ _ _ _ => .int _⟩
/-- products by sizes -/
theorem MulOk.l {i j : Int} (h1 : -(2 ^ 64) < i) (h2 : i < 2 ^ 64) : MulOk i j := CMul.ok (.inl ⟨h1, h2⟩)
theorem MulOk.r {i j : Int} (h1 : -(2 ^ 64) < j) (h2 : j < 2 ^ 64) : MulOk i j := CMul.ok (.inr ⟨h1, h2⟩)
theorem MulOk.w {i j : Int} (a b : Nat) (ha : i.natAbs < 2 ^ a) (hb : j.natAbs < 2 ^ b) (h0 : 0 < a := by decide) (h1 : 0 < b := by decide) (h : a + b ≤ 1000000 := by decide) : MulOk i j := (wide_mul ha hb h0 h1 h).ok
def zNeg : ZR1 := fun x Δ P => ∃ i, x = .int i ∧ P (.int (-i)) Δ
theorem ez_neg (ha : EZ C X a za) : EZ C X (.UnaryOp .USub a pos) (zUn zNeg za) := by
  obtain ⟨ta, a1, a2⟩ := ha.ex
  refine ⟨_, pe_un un_neg a1, ref_un (fun S A H Δ x dx P Q hc rx hz k => ?_) a2⟩
  obtain ⟨i, rfl, p⟩ := hz
  cases rx
  exact ⟨i, rfl, k _ _ A H Δ (Ext.refl _ _) hc (.int _) p⟩

/-! ### comparisons -/
theorem oz_lt : OpZ C X (compareOp .Lt) (zI0 fun i j => .bl (decide (i < j))) := ⟨_, op_lt, ref_I0 fun _ _ _ _ _ => .bl _⟩
theorem oz_le : OpZ C X (compareOp .LtE) (zI0 fun i j => .bl (decide (i ≤ j))) := ⟨_, op_le, ref_I0 fun _ _ _ _ _ => .bl _⟩
theorem oz_gt : OpZ C X (compareOp .Gt) (zI0 fun i j => .bl (decide (j < i))) := ⟨_, op_gt, ref_I0 fun _ _ _ _ _ => .bl _⟩
theorem oz_ge : OpZ C X (compareOp .GtE) (zI0 fun i j => .bl (decide (j ≤ i))) := ⟨_, op_ge, ref_I0 fun _ _ _ _ _ => .bl _⟩
def isNon : D → Bool
  | .non => true
  | _ => false
def zIsN : ZR2 := fun x y Δ P => y = .non ∧ P (.bl (isNon x)) Δ
def zNotN : ZR2 := fun x y Δ P => y = .non ∧ P (.bl (!isNon x)) Δ
theorem Rep.isNon {K : PySem.W.Frag} {S A : List Addr} {H : Hp} {x : V} {d : D} (r : Rep K C S A H x d) : decide (x = .non) = isNon d := by
  cases r <;> first | rfl | simp [Z.isNon]
theorem oz_isN : OpZ C X (compareOp .Is) zIsN := ⟨_, op_isN, fun S A H Δ x y dx dy P Q hc rx ry hz k => by
  obtain ⟨rfl, p⟩ := hz
  cases ry
  refine ⟨rfl, k _ _ A H Δ (Ext.refl _ _) hc ?_ p⟩
  rw [rx.isNon]
  exact .bl _⟩
theorem oz_notN : OpZ C X (compareOp .IsNot) zNotN := ⟨_, op_notN, fun S A H Δ x y dx dy P Q hc rx ry hz k => by
  obtain ⟨rfl, p⟩ := hz
  cases ry
  refine ⟨rfl, k _ _ A H Δ (Ext.refl _ _) hc ?_ p⟩
  rw [rx.isNon]
  exact .bl _⟩

/-! ### plain data: == -/
mutual
def pd : D → PyData
  | .non => .none
  | .bl b => .bool b
  | .int i => .int i
  | .str x => .str x
  | .tup ds => .tuple (pds ds)
  | .lst ds => .list (pds ds)
  | _ => .none
def pds : List D → List PyData
  | [] => []
  | d :: ds => pd d :: pds ds
end
mutual
def plainD : D → Bool
  | .non | .bl _ | .int _ | .str _ => true
  | .tup ds | .lst ds => plainDs ds
  | _ => false
def plainDs : List D → Bool
  | [] => true
  | d :: ds => plainD d && plainDs ds
end
section
variable {K : PySem.W.Frag} {S A : List Addr} {H : Hp}
mutual
theorem Rep.dp : ∀ (d : D) {v : V}, plainD d = true → Rep K C S A H v d → Dp K H v (pd d)
  | .non, _, _, r => by cases r; exact .non
  | .bl b, _, _, r => by cases r; exact .bl b
  | .int i, _, _, r => by cases r; exact .int i
  | .str x, _, _, r => by cases r; exact .str x
  | .tup ds, _, h, r => by cases r with | tup h1 _ _ r => exact .tup (SqT.of h1) (RepL.dp ds h r)
  | .lst ds, _, h, r => by cases r with | lst h1 _ _ r => exact .lst (SqL.of h1) (RepL.dp ds h r)
  | .ty _, _, h, _ => by cases h
  | .ins _ _, _, h, _ => by cases h
  | .cell _, _, h, _ => by cases h
  | .scr _, _, h, _ => by cases h
  | .cls _, _, h, _ => by cases h
  | .dct _ _, _, h, _ => by cases h
  | .ktup _, _, h, _ => by cases h
  | .exc _, _, h, _ => by cases h
theorem RepL.dp : ∀ (ds : List D) {vs : List V}, plainDs ds = true → RepL K C S A H vs ds → DpAll K H vs (pds ds)
  | [], _, _, r => by cases r; exact .nil
  | d :: ds, _, h, r => by
    cases r with
    | cons h1 r =>
      have h' : (plainD d && plainDs ds) = true := h
      rw [Bool.and_eq_true] at h'
      exact .cons (Rep.dp d h'.1 h1) (RepL.dp ds h'.2 r)
end
end
/-- what a value is at the top: a cell's content -/
def rd (Δ : Store) : D → D
  | .cell n => match Δ[n]? with
    | some (.lst ds) => .lst ds
    | _ => .cell n
  | .scr ns => .lst (ns.map D.int)
  | d => d
def shp (d : D) : Bool := plainD d && SeqAt.shaped (pd d)
def eqD (x y : D) : Bool := PyData.eqv (pd x) (pd y)
def zEq : ZR2 := fun x y Δ P => shp (rd Δ x) = true ∧ shp (rd Δ y) = true ∧ P (.bl (eqD (rd Δ x) (rd Δ y))) Δ
def zNe : ZR2 := fun x y Δ P => shp (rd Δ x) = true ∧ shp (rd Δ y) = true ∧ P (.bl (!eqD (rd Δ x) (rd Δ y))) Δ
theorem plain_ints : ∀ ns : List Int, plainDs (ns.map D.int) = true
  | [] => rfl
  | n :: ns => by
    show (plainD (.int n) && plainDs (ns.map D.int)) = true
    rw [plain_ints ns]
    rfl
theorem pds_ints {K : PySem.W.Frag} {H : Hp} : ∀ ns : List Int, DpAll K H (ns.map V.int) (pds (ns.map D.int))
  | [] => .nil
  | n :: ns => .cons (.int n) (pds_ints ns)
theorem dp_rd {K : PySem.W.Frag} {S A : List Addr} {H : Hp} {Δ : Store} {x : V} {d : D} (hc : Cells K C S A H Δ) (r : Rep K C S A H x d) (h : plainD (rd Δ d) = true) : Dp K H x (pd (rd Δ d)) := by
  cases r with
  | cell e =>
    rename_i a n
    unfold rd at h ⊢
    cases q : Δ[n]? with
    | none =>
      simp only [q] at h
      cases h
    | some o =>
      cases o with
      | ins _ _ => simp only [q] at h; cases h
      | dct _ _ => simp only [q] at h; cases h
      | lst ds =>
        simp only [q] at h ⊢
        obtain ⟨xs, h1, h2⟩ := hc.at_ n a _ e q
        exact .lst (SqL.of h1) (RepL.dp ds h h2)
  | scr e =>
    rename_i a ns
    refine .lst ?_ (pds_ints ns)
    rcases e with ⟨⟨o, e⟩, _⟩ | e
    · exact .inl (.inr ⟨o, e⟩)
    · exact .inr e
  | non => exact .non
  | bl b => exact .bl b
  | int i => exact .int i
  | str x => exact .str x
  | ty n => cases h
  | cls n => cases h
  | tup h1 h2 h3 r => exact Rep.dp _ h (.tup h1 h2 h3 r)
  | lst h1 h2 h3 r => exact Rep.dp _ h (.lst h1 h2 h3 r)
  | ins _ _ _ _ _ => cases h
  | dct _ _ _ _ _ => cases h
  | ktup _ => cases h
  | exc _ _ _ => cases h
theorem oz_eq (hu : X.A.units + 64 < cLine) : OpZ C X (compareOp .Eq) zEq := ⟨_, op_eqD hu, fun S A H Δ x y dx dy P Q hc rx ry hz k => by
  obtain ⟨h1, h2, p⟩ := hz
  have g1 := Bool.and_eq_true_iff.mp h1
  have g2 := Bool.and_eq_true_iff.mp h2
  exact ⟨_, _, dp_rd hc rx g1.1, dp_rd hc ry g2.1, g1.2, g2.2, k _ _ A H Δ (Ext.refl _ _) hc (.bl _) p⟩⟩
theorem oz_ne (hu : X.A.units + 64 < cLine) : OpZ C X (compareOp .NotEq) zNe := ⟨_, op_neD hu, fun S A H Δ x y dx dy P Q hc rx ry hz k => by
  obtain ⟨h1, h2, p⟩ := hz
  have g1 := Bool.and_eq_true_iff.mp h1
  have g2 := Bool.and_eq_true_iff.mp h2
  exact ⟨_, _, dp_rd hc rx g1.1, dp_rd hc ry g2.1, g1.2, g2.2, k _ _ A H Δ (Ext.refl _ _) hc (.bl _) p⟩⟩

/-! ### in, not in: flat items -/
def toV : D → V
  | .bl b => .bl b
  | .int i => .int i
  | .str x => .str x
  | _ => .non
def flatD : D → Bool
  | .non | .bl _ | .int _ | .str _ => true
  | _ => false
/-- the items of a list or a tuple -/
def seqD (Δ : Store) : D → Option (List D)
  | .tup ds => some ds
  | .lst ds => some ds
  | .cell n => match Δ[n]? with
    | some (.lst ds) => some ds
    | _ => none
  | .scr ns => some (ns.map D.int)
  | .ktup ns => some (ns.map D.int)
  | _ => none
theorem Rep.toV {K : PySem.W.Frag} {S A : List Addr} {H : Hp} {x : V} {d : D} (r : Rep K C S A H x d) (h : flatD d = true) : x = Z.toV d ∧ flatV x = true := by
  cases r <;> first | exact ⟨rfl, rfl⟩ | cases h
theorem RepL.toV {K : PySem.W.Frag} {S A : List Addr} {H : Hp} : ∀ {xs : List V} {ds : List D}, RepL K C S A H xs ds → ds.all flatD = true → xs = ds.map Z.toV ∧ xs.all flatV = true
  | _, _, .nil, _ => ⟨rfl, rfl⟩
  | _, _, .cons h r, q => by
    rw [List.all_cons, Bool.and_eq_true] at q
    obtain ⟨h1, h2⟩ := Rep.toV h q.1
    obtain ⟨h3, h4⟩ := RepL.toV r q.2
    exact ⟨by rw [List.map_cons, ← h1, ← h3], by rw [List.all_cons, h2, h4] <;> rfl⟩
theorem repL_ints {K : PySem.W.Frag} {S A : List Addr} {H : Hp} : ∀ ns : List Int, RepL K C S A H (ns.map V.int) (ns.map D.int)
  | [] => .nil
  | n :: ns => .cons (.int n) (repL_ints ns)
/-- a sequence by its items, to be read -/
theorem Rep.seq {K : PySem.W.Frag} {S A : List Addr} {H : Hp} {Δ : Store} {x : V} {d : D} {ds : List D} (hc : Cells K C S A H Δ) (r : Rep K C S A H x d) (h : seqD Δ d = some ds) :
    ∃ p xs, x = .ref p ∧ (SqL K H p xs ∨ SqT K H p xs) ∧ RepL K C S A H xs ds := by
  cases r with
  | tup h1 h2 h3 r => cases h; exact ⟨_, _, rfl, .inr (SqT.of h1), r⟩
  | lst h1 h2 h3 r => cases h; exact ⟨_, _, rfl, .inl (SqL.of h1), r⟩
  | cell e =>
    rename_i a n
    unfold seqD at h
    cases q : Δ[n]? with
    | none => simp only [q] at h; cases h
    | some o =>
      cases o with
      | ins _ _ => simp only [q] at h; cases h
      | dct _ _ => simp only [q] at h; cases h
      | lst es =>
        simp only [q] at h
        cases h
        obtain ⟨xs, h1, h2⟩ := hc.at_ n a _ e q
        exact ⟨a, xs, rfl, .inl (SqL.of h1), h2⟩
  | scr e =>
    rename_i a ns
    cases h
    refine ⟨a, _, rfl, .inl ?_, repL_ints ns⟩
    rcases e with ⟨⟨o, e⟩, _⟩ | e
    · exact .inl (.inr ⟨o, e⟩)
    · exact .inr e
  | ktup e =>
    cases h
    exact ⟨_, _, rfl, .inr (.inr e), repL_ints _⟩
  | _ => cases h
def inD (x : D) (ds : List D) : Bool := inV (toV x) (ds.map toV)
def zIn : ZR2 := fun x y Δ P => ∃ ds, seqD Δ y = some ds ∧ flatD x = true ∧ ds.all flatD = true ∧ P (.bl (inD x ds)) Δ
def zNotIn : ZR2 := fun x y Δ P => ∃ ds, seqD Δ y = some ds ∧ flatD x = true ∧ ds.all flatD = true ∧ P (.bl (!inD x ds)) Δ
theorem oz_in : OpZ C X (compareOp .In) zIn := ⟨_, op_in_seq, fun S A H Δ x y dx dy P Q hc rx ry hz k => by
  obtain ⟨ds, e, f1, f2, p⟩ := hz
  obtain ⟨pa, xs, rfl, hq, r⟩ := Rep.seq hc ry e
  obtain ⟨g1, g2⟩ := Rep.toV rx f1
  obtain ⟨g3, g4⟩ := RepL.toV r f2
  refine ⟨pa, xs, rfl, hq, g2, g4, k _ _ A H Δ (Ext.refl _ _) hc ?_ p⟩
  rw [g1, g3]
  exact .bl _⟩
theorem oz_notIn : OpZ C X (compareOp .NotIn) zNotIn := ⟨_, op_notIn_seq, fun S A H Δ x y dx dy P Q hc rx ry hz k => by
  obtain ⟨ds, e, f1, f2, p⟩ := hz
  obtain ⟨pa, xs, rfl, hq, r⟩ := Rep.seq hc ry e
  obtain ⟨g1, g2⟩ := Rep.toV rx f1
  obtain ⟨g3, g4⟩ := RepL.toV r f2
  refine ⟨pa, xs, rfl, hq, g2, g4, k _ _ A H Δ (Ext.refl _ _) hc ?_ p⟩
  rw [g1, g3]
  exact .bl _⟩

/-! ### comparisons as values and tests; chains -/
theorem ez_cmp {op : CmpOp} {z : ZR2} (ho : OpZ C X (compareOp op) z) (ha : EZ C X a za) (hb : EZ C X b zb) (hm : behindInMarks op b = false := by first | exact nomark _ | rfl | with_unfolding_all rfl) : EZ C X (.Compare a [op] [b] pos) (zOp z za zb) := by
  obtain ⟨r, o1, o2⟩ := ho.ex
  obtain ⟨ta, a1, a2⟩ := ha.ex
  obtain ⟨tb, b1, b2⟩ := hb.ex
  exact ⟨_, pe_cmpR o1 a1 b1 hm, ref_op o2 a2 b2⟩
def zTest (z : ZE) : ZT := fun Γ Δ P => z Γ Δ fun d Δ1 => ∃ k, d = .bl k ∧ P k Δ1
theorem ref_test {K : PySem.W.Frag} {ta : TE} {za : ZE} (ha : RefE K C ta za) : RefT K C (tTest ta) (zTest za) := fun S A σ H Γ Δ P Q hs hc hz k =>
  ha S A σ H Γ Δ _ _ hs hc hz fun v d A1 H1 Δ1 e1 c1 r1 hz1 => by
    obtain ⟨b, rfl, p⟩ := hz1
    cases r1
    exact ⟨b, rfl, k b A1 H1 Δ1 e1 c1 p⟩
theorem tz_cmp {op : CmpOp} {z : ZR2} (ho : OpZ C X (compareOp op) z) (ha : EZ C X a za) (hb : EZ C X b zb) (hm : behindInMarks op b = false := by first | exact nomark _ | rfl | with_unfolding_all rfl) : TZ C X (.Compare a [op] [b] pos) (zTest (zOp z za zb)) := by
  obtain ⟨r, o1, o2⟩ := ho.ex
  obtain ⟨ta, a1, a2⟩ := ha.ex
  obtain ⟨tb, b1, b2⟩ := hb.ex
  exact ⟨_, pt_cmpR o1 a1 b1 hm, ref_test (ref_op o2 a2 b2)⟩
/-- an expression that gives a bool, as a test -/
theorem tz_val {e : Expr} {z : ZE} (h : EZ C X e z) (he : ∀ whole, isTrue e X.env whole = (do let v ← whole; standAt e.pos; holding [v] (truthy v)) := by intro _; rfl) : TZ C X e (zTest z) := by
  obtain ⟨te, e1, e2⟩ := h.ex
  exact ⟨_, pt_val e1 he, ref_test e2⟩
def zChain (r r' : ZR2) (za zb zc : ZE) : ZE := fun Γ Δ P => za Γ Δ fun x Δ1 => zb Γ Δ1 fun y Δ2 => r x y Δ2 fun z Δ3 => ∃ k, z = .bl k ∧ (k = true → zc Γ Δ3 fun w Δ4 => r' y w Δ4 P) ∧ (k = false → P (.bl false) Δ3)
theorem ref_chain {K : PySem.W.Frag} {r r' : R2} {z z' : ZR2} {ta tb tc : TE} (hr : Ref2 K C r z) (hr' : Ref2 K C r' z') (ha : RefE K C ta za) (hb : RefE K C tb zb) (hc' : RefE K C tc zc) : RefE K C (tChain r r' ta tb tc) (zChain z z' za zb zc) := fun S A σ H Γ Δ P Q hs hc hz k =>
  ha S A σ H Γ Δ _ _ hs hc hz fun x dx A1 H1 Δ1 e1 c1 r1 hz1 => hb S A1 σ H1 Γ Δ1 _ _ (hs.ext e1) c1 hz1 fun y dy A2 H2 Δ2 e2 c2 r2 hz2 =>
    hr S A2 H2 Δ2 x y dx dy _ _ c2 (r1.ext e2) r2 hz2 fun v d A3 H3 Δ3 e3 c3 r3 p => by
      obtain ⟨b, rfl, p1, p2⟩ := p
      cases r3
      refine ⟨b, rfl, ?_⟩
      have e13 := (e1.trans e2).trans e3
      cases b with
      | false => exact iteF (k _ _ A3 H3 Δ3 e13 c3 (.bl _) (p2 rfl))
      | true => exact iteT (hc' S A3 σ H3 Γ Δ3 _ _ (hs.ext e13) c3 (p1 rfl) fun w dw A4 H4 Δ4 e4 c4 r4 p4 => hr' S A4 H4 Δ4 y w dy dw P Q c4 ((r2.ext e3).ext e4) r4 p4 fun v d A5 H5 Δ5 e5 c5 r5 p5 => k v d A5 H5 Δ5 ((e13.trans e4).trans e5) c5 r5 p5)
theorem ez_chain {op op' : CmpOp} {z z' : ZR2} (ho : OpZ C X (compareOp op) z) (ho' : OpZ C X (compareOp op') z') (ha : EZ C X a za) (hb : EZ C X b zb) (hc : EZ C X c zc) (hm : lastMarks [op, op'] [b, c] = false := by with_unfolding_all rfl) :
    EZ C X (.Compare a [op, op'] [b, c] pos) (zChain z z' za zb zc) := by
  obtain ⟨r, o1, o2⟩ := ho.ex
  obtain ⟨r', o1', o2'⟩ := ho'.ex
  obtain ⟨ta, a1, a2⟩ := ha.ex
  obtain ⟨tb, b1, b2⟩ := hb.ex
  obtain ⟨tc, c1, c2⟩ := hc.ex
  exact ⟨_, pe_chain o1 o1' a1 b1 c1 hm, ref_chain o2 o2' a2 b2 c2⟩
theorem tz_chain {op op' : CmpOp} {z z' : ZR2} (ho : OpZ C X (compareOp op) z) (ho' : OpZ C X (compareOp op') z') (ha : EZ C X a za) (hb : EZ C X b zb) (hc : EZ C X c zc) (hm : lastMarks [op, op'] [b, c] = false := by with_unfolding_all rfl) :
    TZ C X (.Compare a [op, op'] [b, c] pos) (zTest (zChain z z' za zb zc)) := by
  obtain ⟨r, o1, o2⟩ := ho.ex
  obtain ⟨r', o1', o2'⟩ := ho'.ex
  obtain ⟨ta, a1, a2⟩ := ha.ex
  obtain ⟨tb, b1, b2⟩ := hb.ex
  obtain ⟨tc, c1, c2⟩ := hc.ex
  exact ⟨_, pt_chain o1 o1' a1 b1 c1 hm, ref_test (ref_chain o2 o2' a2 b2 c2)⟩

/-! ### and, or, not, if -/
variable {tA tB' : ZT} {rest : List Expr}
def zAnd (t u : ZT) : ZT := fun Γ Δ P => t Γ Δ fun c Δ1 => (c = true → u Γ Δ1 P) ∧ (c = false → P false Δ1)
def zOr (t u : ZT) : ZT := fun Γ Δ P => t Γ Δ fun c Δ1 => (c = true → P true Δ1) ∧ (c = false → u Γ Δ1 P)
def zNot (t : ZT) : ZT := fun Γ Δ P => t Γ Δ fun c Δ1 => P (!c) Δ1
theorem wz_and1 (ha : TZ C X a tA) : WZ C X (.BoolOp .And [a] pos) tA := by
  obtain ⟨t, h1, h2⟩ := ha.ex
  exact ⟨t, pw_and1 h1, h2⟩
theorem wz_or1 (ha : TZ C X a tA) : WZ C X (.BoolOp .Or [a] pos) tA := by
  obtain ⟨t, h1, h2⟩ := ha.ex
  exact ⟨t, pw_or1 h1, h2⟩
theorem wz_and (ha : TZ C X a tA) (hb : WZ C X (.BoolOp .And (b :: rest) pos) tB') : WZ C X (.BoolOp .And (a :: b :: rest) pos) (zAnd tA tB') := by
  obtain ⟨t, a1, a2⟩ := ha.ex
  obtain ⟨u, b1, b2⟩ := hb.ex
  refine ⟨_, pw_and a1 b1, fun S A σ H Γ Δ P Q hs hc hz k => a2 S A σ H Γ Δ _ _ hs hc hz fun c A1 H1 Δ1 e1 c1 hz1 => ?_⟩
  cases c with
  | true => exact iteT (b2 S A1 σ H1 Γ Δ1 P Q (hs.ext e1) c1 (hz1.1 rfl) fun d A2 H2 Δ2 e2 c2 p => k d A2 H2 Δ2 (e1.trans e2) c2 p)
  | false => exact iteF (k _ A1 H1 Δ1 e1 c1 (hz1.2 rfl))
theorem wz_or (ha : TZ C X a tA) (hb : WZ C X (.BoolOp .Or (b :: rest) pos) tB') : WZ C X (.BoolOp .Or (a :: b :: rest) pos) (zOr tA tB') := by
  obtain ⟨t, a1, a2⟩ := ha.ex
  obtain ⟨u, b1, b2⟩ := hb.ex
  refine ⟨_, pw_or a1 b1, fun S A σ H Γ Δ P Q hs hc hz k => a2 S A σ H Γ Δ _ _ hs hc hz fun c A1 H1 Δ1 e1 c1 hz1 => ?_⟩
  cases c with
  | true => exact iteT (k _ A1 H1 Δ1 e1 c1 (hz1.1 rfl))
  | false => exact iteF (b2 S A1 σ H1 Γ Δ1 P Q (hs.ext e1) c1 (hz1.2 rfl) fun d A2 H2 Δ2 e2 c2 p => k d A2 H2 Δ2 (e1.trans e2) c2 p)
theorem tz_not (ha : TZ C X a tA) : TZ C X (.UnaryOp .Not a pos) (zNot tA) := by
  obtain ⟨t, a1, a2⟩ := ha.ex
  exact ⟨_, pt_not a1, fun S A σ H Γ Δ P Q hs hc hz k => a2 S A σ H Γ Δ _ _ hs hc hz fun c A1 H1 Δ1 e1 c1 hz1 => k _ A1 H1 Δ1 e1 c1 hz1⟩
/-- values -/
def zAndV (za zb : ZE) : ZE := fun Γ Δ P => za Γ Δ fun x Δ1 => ∃ c, x = .bl c ∧ (c = true → zb Γ Δ1 P) ∧ (c = false → P (.bl false) Δ1)
def zOrV (za zb : ZE) : ZE := fun Γ Δ P => za Γ Δ fun x Δ1 => ∃ c, x = .bl c ∧ (c = true → P (.bl true) Δ1) ∧ (c = false → zb Γ Δ1 P)
def zNotV (za : ZE) : ZE := fun Γ Δ P => za Γ Δ fun x Δ1 => ∃ c, x = .bl c ∧ P (.bl (!c)) Δ1
theorem ez_one {op} {z : ZE} (h : EZ C X a z) : EZ C X (.BoolOp op [a] pos) z := by
  obtain ⟨t, h1, h2⟩ := h.ex
  exact ⟨t, pe_one h1, h2⟩
theorem ez_and (ha : EZ C X a za) (hb : EZ C X (.BoolOp .And (b :: rest) pos) zb) : EZ C X (.BoolOp .And (a :: b :: rest) pos) (zAndV za zb) := by
  obtain ⟨t, a1, a2⟩ := ha.ex
  obtain ⟨u, b1, b2⟩ := hb.ex
  refine ⟨_, pe_and a1 b1, fun S A σ H Γ Δ P Q hs hc hz k => a2 S A σ H Γ Δ _ _ hs hc hz fun x dx A1 H1 Δ1 e1 c1 r1 hz1 => ?_⟩
  obtain ⟨c, rfl, p1, p2⟩ := hz1
  cases r1
  refine ⟨c, rfl, ?_⟩
  cases c with
  | true => exact iteT (b2 S A1 σ H1 Γ Δ1 P Q (hs.ext e1) c1 (p1 rfl) fun v d A2 H2 Δ2 e2 c2 r2 p => k v d A2 H2 Δ2 (e1.trans e2) c2 r2 p)
  | false => exact iteF (k _ _ A1 H1 Δ1 e1 c1 (.bl _) (p2 rfl))
theorem ez_or (ha : EZ C X a za) (hb : EZ C X (.BoolOp .Or (b :: rest) pos) zb) : EZ C X (.BoolOp .Or (a :: b :: rest) pos) (zOrV za zb) := by
  obtain ⟨t, a1, a2⟩ := ha.ex
  obtain ⟨u, b1, b2⟩ := hb.ex
  refine ⟨_, pe_or a1 b1, fun S A σ H Γ Δ P Q hs hc hz k => a2 S A σ H Γ Δ _ _ hs hc hz fun x dx A1 H1 Δ1 e1 c1 r1 hz1 => ?_⟩
  obtain ⟨c, rfl, p1, p2⟩ := hz1
  cases r1
  refine ⟨c, rfl, ?_⟩
  cases c with
  | false => exact iteF (b2 S A1 σ H1 Γ Δ1 P Q (hs.ext e1) c1 (p2 rfl) fun v d A2 H2 Δ2 e2 c2 r2 p => k v d A2 H2 Δ2 (e1.trans e2) c2 r2 p)
  | true => exact iteT (k _ _ A1 H1 Δ1 e1 c1 (.bl _) (p1 rfl))
theorem ez_not (ha : EZ C X a za) : EZ C X (.UnaryOp .Not a pos) (zNotV za) := by
  obtain ⟨t, a1, a2⟩ := ha.ex
  refine ⟨_, pe_not a1, fun S A σ H Γ Δ P Q hs hc hz k => a2 S A σ H Γ Δ _ _ hs hc hz fun x dx A1 H1 Δ1 e1 c1 r1 hz1 => ?_⟩
  obtain ⟨c, rfl, p⟩ := hz1
  cases r1
  exact ⟨c, rfl, k _ _ A1 H1 Δ1 e1 c1 (.bl _) p⟩
def zIf (t : ZT) (za zb : ZE) : ZE := fun Γ Δ P => t Γ Δ fun c Δ1 => (c = true → za Γ Δ1 P) ∧ (c = false → zb Γ Δ1 P)
theorem ez_if {c : Expr} (hc : TZ C X c tA) (ha : EZ C X a za) (hb : EZ C X b zb) : EZ C X (.IfExp c a b pos) (zIf tA za zb) := by
  obtain ⟨t, t1, t2⟩ := hc.ex
  obtain ⟨ta, a1, a2⟩ := ha.ex
  obtain ⟨tb, b1, b2⟩ := hb.ex
  refine ⟨_, pe_ifExp t1 a1 b1, fun S A σ H Γ Δ P Q hs hc hz k => t2 S A σ H Γ Δ _ _ hs hc hz fun d A1 H1 Δ1 e1 c1 hz1 => ?_⟩
  cases d with
  | true => exact iteT (a2 S A1 σ H1 Γ Δ1 P Q (hs.ext e1) c1 (hz1.1 rfl) fun v d A2 H2 Δ2 e2 c2 r2 p => k v d A2 H2 Δ2 (e1.trans e2) c2 r2 p)
  | false => exact iteF (b2 S A1 σ H1 Γ Δ1 P Q (hs.ext e1) c1 (hz1.2 rfl) fun v d A2 H2 Δ2 e2 c2 r2 p => k v d A2 H2 Δ2 (e1.trans e2) c2 r2 p)

/-! ### argument lists, displays -/
variable {e : Expr} {es : List Expr} {ze : ZE} {zs : ZA}
def zNil : ZA := fun _ Δ P => P [] Δ
def zCons (z : ZE) (zs : ZA) : ZA := fun Γ Δ P => z Γ Δ fun d Δ1 => zs Γ Δ1 fun ds Δ2 => P (d :: ds) Δ2
theorem az_nil : AZ C X [] zNil := ⟨_, pa_nil, fun S A σ H Γ Δ P Q hs hc hz k => k [] [] A H Δ (Ext.refl _ _) hc .nil hz⟩
theorem az_cons (ha : EZ C X e ze) (hr : AZ C X es zs) (hst : starEach (e :: es) X.env = (false, eval e X.env) :: starEach es X.env := by rfl) : AZ C X (e :: es) (zCons ze zs) := by
  obtain ⟨t, a1, a2⟩ := ha.ex
  obtain ⟨u, b1, b2⟩ := hr.ex
  exact ⟨_, pa_cons a1 b1 hst, fun S A σ H Γ Δ P Q hs hc hz k => a2 S A σ H Γ Δ _ _ hs hc hz fun x dx A1 H1 Δ1 e1 c1 r1 hz1 =>
    b2 S A1 σ H1 Γ Δ1 _ _ (hs.ext e1) c1 hz1 fun vs ds A2 H2 Δ2 e2 c2 r2 p => k _ _ A2 H2 Δ2 (e1.trans e2) c2 (.cons (r1.ext e2) r2) p⟩
def zTup (zs : ZA) : ZE := fun Γ Δ P => zs Γ Δ fun ds Δ1 => ds.length ≤ 100000 ∧ P (.tup ds) Δ1
def zLst (zs : ZA) : ZE := fun Γ Δ P => zs Γ Δ fun ds Δ1 => ds.length ≤ 100000 ∧ P (.lst ds) Δ1
/-- a display that is changed later -/
def zLstC (zs : ZA) : ZE := fun Γ Δ P => zs Γ Δ fun ds Δ1 => ds.length ≤ 100000 ∧ P (.cell Δ1.length) (Δ1 ++ [.lst ds])
theorem sz100 {n : Nat} (h : n ≤ 100000) : n ≤ sizeLine := Nat.le_trans h (by decide)
section
variable {K : PySem.W.Frag} {S A : List Addr} {H : Hp} {Δ : Store}
theorem Cells.new (hc : Cells K C S A H Δ) {p : Addr} {o : HO} (h : H p = none) : Cells K C S A (upd H p o) Δ := hc.kept fun a u e => by rw [upd_ne (ne_of_none e h)]; exact e
theorem Cells.fresh (hc : Cells K C S A H Δ) {p : Addr} (h : H p = none) : p ∉ A := fun hp => by
  obtain ⟨n, hn⟩ := List.mem_iff_getElem?.mp hp
  have hl : n < Δ.length := by rw [← hc.len]; exact (List.getElem?_eq_some_iff.mp hn).1
  exact (hc.at_ n p _ hn (List.getElem?_eq_getElem hl)).trk h
theorem Cells.aside (hc : Cells K C S A H Δ) {p : Addr} (h : H p = none) : p ∉ S := fun hp => hc.as p hp h
end
theorem ez_tup {x1} (h : AZ C X es zs) : EZ C X (.Tuple es x1 pos) (zTup zs) := by
  obtain ⟨t, h1, h2⟩ := h.ex
  refine ⟨_, pe_tup h1, fun S A σ H Γ Δ P Q hs hc hz k => h2 S A σ H Γ Δ _ _ hs hc hz fun vs ds A1 H1 Δ1 e1 c1 r1 hz1 => ?_⟩
  refine ⟨sz100 (by rw [r1.length]; exact hz1.1), fun p hp => ?_⟩
  exact k _ _ A1 _ Δ1 (e1.trans (Ext.new hp)) (c1.new hp) (.tup upd_same (c1.fresh hp) (c1.aside hp) (r1.ext (Ext.new hp))) hz1.2
theorem ez_lst (h : AZ C X es zs) : EZ C X (.List es pos) (zLst zs) := by
  obtain ⟨t, h1, h2⟩ := h.ex
  refine ⟨_, pe_lst h1, fun S A σ H Γ Δ P Q hs hc hz k => h2 S A σ H Γ Δ _ _ hs hc hz fun vs ds A1 H1 Δ1 e1 c1 r1 hz1 => ?_⟩
  refine ⟨sz100 (by rw [r1.length]; exact hz1.1), fun p hp => ?_⟩
  exact k _ _ A1 _ Δ1 (e1.trans (Ext.new hp)) (c1.new hp) (.lst upd_same (c1.fresh hp) (c1.aside hp) (r1.ext (Ext.new hp))) hz1.2
section
variable {K : PySem.W.Frag} {S A : List Addr} {H : Hp} {Δ : Store}
/-- a new object becomes a cell -/
theorem Cells.newO (hc : Cells K C S A H Δ) {p : Addr} {u : HO} {o : O} (h : H p = none) (r : CellAt K C S (A ++ [p]) (upd H p u) p o) : Cells K C S (A ++ [p]) (upd H p u) (Δ ++ [o]) := by
  have e := Ext.newCell (A := A) (o := u) h
  refine ⟨by rw [List.length_append, List.length_append, hc.len] <;> rfl, ?_, ?_, ?_, ?_⟩
  · refine List.nodup_append.mpr ⟨hc.nd, by simp, fun a ha b hb => ?_⟩
    rw [List.mem_singleton] at hb
    subst hb
    exact fun q => hc.fresh h (q ▸ ha)
  · intro a ha
    rcases List.mem_append.mp ha with ha | ha
    · exact hc.dj a ha
    · rw [List.mem_singleton] at ha
      subst ha
      exact hc.aside h
  · intro a ha q
    exact hc.as a ha (e.trk a q)
  · intro n a w h1 h2
    by_cases hn : n < A.length
    · rw [List.getElem?_append_left hn] at h1
      rw [List.getElem?_append_left (by rw [← hc.len]; exact hn)] at h2
      exact (hc.at_ n a w h1 h2).mono e.mo fun y q => by rw [upd_ne (ne_of_none q h)]; exact q
    · have hn2 : n = A.length := by
        have := (List.getElem?_eq_some_iff.mp h1).1
        rw [List.length_append] at this
        simp at this
        omega
      subst hn2
      rw [List.getElem?_append_right (Nat.le_refl _), Nat.sub_self] at h1
      rw [hc.len, List.getElem?_append_right (Nat.le_refl _), Nat.sub_self] at h2
      simp at h1 h2
      subst h1
      subst h2
      exact r
theorem Cells.newCell (hc : Cells K C S A H Δ) {p : Addr} {xs : List V} {ds : List D} (h : H p = none) (r : RepL K C S A H xs ds) : Cells K C S (A ++ [p]) (upd H p (.lst xs)) (Δ ++ [.lst ds]) :=
  hc.newO h ⟨xs, upd_same, r.ext (Ext.newCell h)⟩
/-- a cell's content is replaced -/
theorem Cells.putO (hc : Cells K C S A H Δ) {n : Nat} {p : Addr} {u : HO} {o : O} (h : A[n]? = some p) (r : CellAt K C S A (upd H p u) p o) : Cells K C S A (upd H p u) (Δ.set n o) ∧ Ext A H A (upd H p u) := by
  have hl : n < Δ.length := by rw [← hc.len]; exact (List.getElem?_eq_some_iff.mp h).1
  have hp : p ∈ A := List.mem_of_getElem? h
  have hne : H p ≠ none := (hc.at_ n p _ h (List.getElem?_eq_getElem hl)).trk
  have e : Ext A H A (upd H p u) := Ext.write hp hne
  refine ⟨⟨by rw [List.length_set]; exact hc.len, hc.nd, hc.dj, fun a ha q => hc.as a ha (e.trk a q), fun m a w h1 h2 => ?_⟩, e⟩
  by_cases hm : m = n
  · subst hm
    rw [h] at h1
    cases h1
    rw [List.getElem?_set_self hl] at h2
    cases h2
    exact r
  · rw [List.getElem?_set_ne (Ne.symm hm)] at h2
    have hap : a ≠ p := fun q => hm (by
      subst q
      obtain ⟨l1, q1⟩ := List.getElem?_eq_some_iff.mp h1
      obtain ⟨l2, q2⟩ := List.getElem?_eq_some_iff.mp h
      exact (List.getElem_inj hc.nd).mp (q1.trans q2.symm))
    exact (hc.at_ m a w h1 h2).mono e.mo fun y q => by rw [upd_ne hap]; exact q
theorem Cells.put (hc : Cells K C S A H Δ) {n : Nat} {p : Addr} {xs : List V} {ds : List D} (h : A[n]? = some p) (r : RepL K C S A H xs ds) : Cells K C S A (upd H p (.lst xs)) (Δ.set n (.lst ds)) ∧ Ext A H A (upd H p (.lst xs)) := by
  have hl : n < Δ.length := by rw [← hc.len]; exact (List.getElem?_eq_some_iff.mp h).1
  have hp : p ∈ A := List.mem_of_getElem? h
  have e : Ext A H A (upd H p (.lst xs)) := Ext.write hp (hc.at_ n p _ h (List.getElem?_eq_getElem hl)).trk
  exact hc.putO h ⟨xs, upd_same, r.ext e⟩
end
theorem ez_lstC (h : AZ C X es zs) : EZ C X (.List es pos) (zLstC zs) := by
  obtain ⟨t, h1, h2⟩ := h.ex
  refine ⟨_, pe_lst h1, fun S A σ H Γ Δ P Q hs hc hz k => h2 S A σ H Γ Δ _ _ hs hc hz fun vs ds A1 H1 Δ1 e1 c1 r1 hz1 => ?_⟩
  refine ⟨sz100 (by rw [r1.length]; exact hz1.1), fun p hp => ?_⟩
  refine k _ _ (A1 ++ [p]) _ _ (e1.trans (Ext.newCell hp)) (c1.newCell hp r1) (.cell ?_) hz1.2
  rw [← c1.len, List.getElem?_append_right (Nat.le_refl _), Nat.sub_self]
  rfl

/-! ### subscripts, slices -/
def zIx : ZR2 := fun x y Δ P => ∃ ds i d, y = .int i ∧ seqD Δ x = some ds ∧ atI ds i = some d ∧ P d Δ
theorem atI_rep {K : PySem.W.Frag} {S A : List Addr} {H : Hp} {xs : List V} {ds : List D} {i : Int} {d : D} (r : RepL K C S A H xs ds) (h : atI ds i = some d) : ∃ v, atI xs i = some v ∧ Rep K C S A H v d := by
  unfold atI at h ⊢
  rw [r.length]
  cases q : ixN ds.length i with
  | none => rw [q] at h; cases h
  | some j =>
    rw [q] at h
    obtain ⟨v, h1, h2⟩ := r.get (show ds[j]? = some d from h)
    exact ⟨v, h1, h2⟩
theorem ez_ix (ha : EZ C X a za) (hb : EZ C X b zb) (hp : PlainIx b := by exact fun _ _ => rfl) : EZ C X (.Subscript a b pos) (zOp zIx za zb) := by
  obtain ⟨ta, a1, a2⟩ := ha.ex
  obtain ⟨tb, b1, b2⟩ := hb.ex
  refine ⟨_, pe_ix (ix_list.or ix_tup) a1 b1 hp, ref_op (fun S A H Δ x y dx dy P Q hc rx ry hz k => ?_) a2 b2⟩
  obtain ⟨ds, i, d, rfl, e, g, p⟩ := hz
  obtain ⟨pa, xs, rfl, hq, r⟩ := Rep.seq hc rx e
  cases ry
  obtain ⟨v, h1, h2⟩ := atI_rep r g
  have fin := k v d A H Δ (Ext.refl _ _) hc h2 p
  rcases hq with hq | hq
  · exact .inl ⟨pa, xs, i, v, rfl, rfl, hq, h1, fin⟩
  · exact .inr ⟨pa, xs, i, v, rfl, rfl, hq, h1, fin⟩
abbrev ZO := Env → Store → (Option Int → Store → Prop) → Prop
structure OZ (C : CI) (X : Cx) (e : Option Expr) (z : ZO) : Prop where
  ex : ∃ t, PO X e t ∧ ∀ (S A : List Addr) (σ : L2.St) (H : Hp) (Γ : Env) (Δ : Store) (P : Option Int → Store → Prop) (Q : Option Int → Hp → Prop), Slots X.K C S A H σ Γ → Cells X.K C S A H Δ → z Γ Δ P →
    (∀ o A' H' Δ', Ext A H A' H' → Cells X.K C S A' H' Δ' → P o Δ' → Q o H') → t σ H Q
def zNoPart : ZO := fun _ Δ P => P none Δ
def zPart (z : ZE) : ZO := fun Γ Δ P => z Γ Δ fun d Δ1 => ∃ i, d = .int i ∧ P (some i) Δ1
theorem oz_none : OZ C X none zNoPart := ⟨_, po_none, fun S A σ H Γ Δ P Q hs hc hz k => k none A H Δ (Ext.refl _ _) hc hz⟩
theorem oz_some {z : ZE} (h : EZ C X e z) : OZ C X (some e) (zPart z) := by
  obtain ⟨t, h1, h2⟩ := h.ex
  refine ⟨_, po_some h1, fun S A σ H Γ Δ P Q hs hc hz k => h2 S A σ H Γ Δ _ _ hs hc hz fun v d A1 H1 Δ1 e1 c1 r1 hz1 => ?_⟩
  obtain ⟨i, rfl, p⟩ := hz1
  cases r1
  exact ⟨i, rfl, k _ A1 H1 Δ1 e1 c1 p⟩
/-- the items from lo to hi -/
def cutD (xs : List D) (lo hi : Option Int) : List D := (xs.drop (HT.sIx xs.length 0 lo)).take (HT.sIx xs.length xs.length hi - HT.sIx xs.length 0 lo)
def zSl (z : ZE) (zl zh : ZO) : ZE := fun Γ Δ P => z Γ Δ fun x Δ1 => zl Γ Δ1 fun l Δ2 => zh Γ Δ2 fun u Δ3 => ∃ ds, (x = .lst ds ∨ (∃ n, x = .cell n ∧ Δ3[n]? = some (.lst ds)) ∨ ∃ ns, x = .scr ns ∧ ds = ns.map D.int) ∧ P (.lst (cutD ds l u)) Δ3
theorem ez_sl {lo hi : Option Expr} {zl zh : ZO} {p2 : Pos} (ha : EZ C X a za) (hl : OZ C X lo zl) (hh : OZ C X hi zh) : EZ C X (.Subscript a (.Slice lo hi none p2) pos) (zSl za zl zh) := by
  obtain ⟨t, a1, a2⟩ := ha.ex
  obtain ⟨tl, l1, l2⟩ := hl.ex
  obtain ⟨th, u1, u2⟩ := hh.ex
  refine ⟨_, pe_slice sl_list a1 l1 u1, fun S A σ H Γ Δ P Q hs hc hz k => a2 S A σ H Γ Δ _ _ hs hc hz fun x dx A1 H1 Δ1 e1 c1 r1 hz1 => ?_⟩
  refine l2 S A1 σ H1 Γ Δ1 _ _ (hs.ext e1) c1 hz1 fun l A2 H2 Δ2 e2 c2 hz2 => u2 S A2 σ H2 Γ Δ2 _ _ ((hs.ext e1).ext e2) c2 hz2 fun u A3 H3 Δ3 e3 c3 hz3 => ?_
  obtain ⟨ds, hd, p⟩ := hz3
  have r3 := (r1.ext e2).ext e3
  have hq : ∃ pa xs, x = .ref pa ∧ SqL X.K H3 pa xs ∧ RepL X.K C S A3 H3 xs ds := by
    rcases hd with rfl | ⟨n, rfl, hd⟩ | ⟨ns, rfl, rfl⟩
    · cases r3 with
      | lst g1 _ _ g4 => exact ⟨_, _, rfl, SqL.of g1, g4⟩
    · cases r3 with
      | cell g =>
        obtain ⟨xs, g1, g2⟩ := c3.at_ n _ _ g hd
        exact ⟨_, _, rfl, SqL.of g1, g2⟩
    · cases r3 with
      | scr g =>
        refine ⟨_, _, rfl, ?_, repL_ints ns⟩
        rcases g with ⟨⟨o, g⟩, _⟩ | g
        · exact .inl (.inr ⟨o, g⟩)
        · exact .inr g
  obtain ⟨pa, xs, rfl, hS, r⟩ := hq
  have hcut : RepL X.K C S A3 H3 (cutV xs l u) (cutD ds l u) := by
    unfold cutV cutD
    rw [r.length]
    exact (r.drop _).take _
  refine ⟨pa, xs, rfl, hS, fun q hq => ?_⟩
  have e4 := Ext.new (A := A3) (o := .lst (cutV xs l u)) hq
  exact k _ _ A3 _ Δ3 (((e1.trans e2).trans e3).trans e4) (c3.new hq) (.lst upd_same (c3.fresh hq) (c3.aside hq) (hcut.ext e4)) p
/-- a list of the Δ's that is not the script, to be joined -/
def lstD (Δ : Store) : D → Option (List D)
  | .lst ds => some ds
  | .cell n => match Δ[n]? with
    | some (.lst ds) => some ds
    | _ => none
  | _ => none
theorem Rep.lst_ {K : PySem.W.Frag} {S A : List Addr} {H : Hp} {Δ : Store} {x : V} {d : D} {ds : List D} (hc : Cells K C S A H Δ) (r : Rep K C S A H x d) (h : lstD Δ d = some ds) :
    ∃ p xs, x = .ref p ∧ H p = some (.lst xs) ∧ RepL K C S A H xs ds := by
  cases r with
  | lst h1 h2 h3 r => cases h; exact ⟨_, _, rfl, h1, r⟩
  | cell e =>
    rename_i a n
    unfold lstD at h
    cases q : Δ[n]? with
    | none => simp only [q] at h; cases h
    | some o =>
      cases o with
      | ins _ _ => simp only [q] at h; cases h
      | dct _ _ => simp only [q] at h; cases h
      | lst es =>
        simp only [q] at h
        cases h
        obtain ⟨xs, h1, h2⟩ := hc.at_ n a _ e q
        exact ⟨a, xs, rfl, h1, h2⟩
  | _ => cases h
/-- xs + ys | ints -/
def zAddA : ZR2 := fun x y Δ P => (∃ i j, x = .int i ∧ y = .int j ∧ P (.int (i + j)) Δ) ∨ ∃ ds es, lstD Δ x = some ds ∧ lstD Δ y = some es ∧ ds.length + es.length ≤ 100000 ∧ P (.lst (ds ++ es)) Δ
theorem OpR.or {f : Value → Value → Sem Value} {r r' : R2} (h : OpR X f r) (h' : OpR X f r') : OpR X f (fun x y H Q => r x y H Q ∨ r' x y H Q) := fun pins s σ H x y v u Q I rx ry q => q.elim (h pins s σ H x y v u Q I rx ry) (h' pins s σ H x y v u Q I rx ry)
def zCat : ZR2 := fun x y Δ P => ∃ ds es, lstD Δ x = some ds ∧ lstD Δ y = some es ∧ ds.length + es.length ≤ 100000 ∧ P (.lst (ds ++ es)) Δ
theorem ref_cat {K : PySem.W.Frag} : Ref2 K C rCat zCat := fun S A H Δ x y dx dy P Q hc rx ry hz k => by
  obtain ⟨ds, es, h1, h2, hl, p⟩ := hz
  obtain ⟨a, xs, rfl, g1, g2⟩ := Rep.lst_ hc rx h1
  obtain ⟨b, ys, rfl, g3, g4⟩ := Rep.lst_ hc ry h2
  refine ⟨a, b, xs, ys, rfl, rfl, g1, g3, sz100 (by rw [g2.length, g4.length]; exact hl), fun q hq => ?_⟩
  have e := Ext.new (A := A) (o := .lst (xs ++ ys)) hq
  exact k _ _ A _ Δ e (hc.new hq) (.lst upd_same (hc.fresh hq) (hc.aside hq) ((g2.append g4).ext e)) p
theorem oz_cat : OpZ C X (binaryOp .Add) zCat := ⟨_, op_cat, ref_cat⟩
theorem oz_addA : OpZ C X (binaryOp .Add) zAddA := ⟨_, op_add.or op_cat, fun S A H Δ x y dx dy P Q hc rx ry hz k => by
  rcases hz with ⟨i, j, h1, h2, p⟩ | hz
  · exact .inl (ref_I0 (g' := fun i j => .int (i + j)) (fun i j _ _ _ => .int _) S A H Δ x y dx dy P Q hc rx ry ⟨i, j, h1, h2, p⟩ k)
  · exact .inr (ref_cat S A H Δ x y dx dy P Q hc rx ry hz k)⟩
def zRepeat : ZR2 := fun x y Δ P => ∃ ds k, lstD Δ x = some ds ∧ y = .int k ∧ -(2 ^ 63) ≤ k ∧ k < 2 ^ 63 ∧ ds.length * k.toNat ≤ 100000 ∧ P (.lst (List.replicate k.toNat ds).flatten) Δ
theorem oz_rep : OpZ C X (binaryOp .Mult) zRepeat := ⟨_, op_rep, fun S A H Δ x y dx dy P Q hc rx ry hz k => by
  obtain ⟨ds, i, h1, rfl, h2, h3, hl, p⟩ := hz
  obtain ⟨a, xs, rfl, g1, g2⟩ := Rep.lst_ hc rx h1
  cases ry
  refine ⟨a, i, xs, rfl, rfl, g1, h2, h3, sz100 (by rw [g2.length]; exact hl), fun q hq => ?_⟩
  have e := Ext.new (A := A) (o := .lst (List.replicate i.toNat xs).flatten) hq
  exact k _ _ A _ Δ e (hc.new hq) (.lst upd_same (hc.fresh hq) (hc.aside hq) ((g2.repl _).ext e)) p⟩
end
end Z

/-! Z3: statements, loops, comprehensions, calls of defs and built-ins over data. -/
namespace Z
open PySem L2

/-! ### targets -/
abbrev ZG := D → Env → Store → (Env → Store → Prop) → Prop
abbrev ZGs := List D → Env → Store → (Env → Store → Prop) → Prop
def RefG (K : PySem.W.Frag) (C : CI) (g : TG) (z : ZG) : Prop := ∀ (S A : List Addr) (σ : L2.St) (H : Hp) (Γ : Env) (Δ : Store) (v : V) (d : D) (P : Env → Store → Prop) (Q : L2.St → Hp → Prop), Slots K C S A H σ Γ → Cells K C S A H Δ → Rep K C S A H v d → z d Γ Δ P →
  NxOk K C S A H P Q → g v σ H Q
def RefGs (K : PySem.W.Frag) (C : CI) (g : TGs) (z : ZGs) : Prop := ∀ (S A : List Addr) (σ : L2.St) (H : Hp) (Γ : Env) (Δ : Store) (vs : List V) (ds : List D) (P : Env → Store → Prop) (Q : L2.St → Hp → Prop), Slots K C S A H σ Γ → Cells K C S A H Δ → RepL K C S A H vs ds → z ds Γ Δ P →
  NxOk K C S A H P Q → g vs σ H Q
structure GZ (C : CI) (X : Cx) (e : Expr) (g : TG) (z : ZG) : Prop where
  pg : PG X e g
  ref : RefG X.K C g z
structure GsZ (C : CI) (X : Cx) (es : List Expr) (g : TGs) (z : ZGs) : Prop where
  pg : PGs X es g
  ref : RefGs X.K C g z
def zgName (i : Nat) : ZG := fun d Γ Δ P => P (Γ.set i (some d)) Δ
def zgNil : ZGs := fun ds Γ Δ P => ds = [] ∧ P Γ Δ
def zgCons (g : ZG) (gs : ZGs) : ZGs := fun ds Γ Δ P => ∃ d r, ds = d :: r ∧ g d Γ Δ fun Γ' Δ' => gs r Γ' Δ' P
def zgTup (n : Nat) (gs : ZGs) : ZG := fun d Γ Δ P => ∃ ds, d = .tup ds ∧ ds.length = n ∧ gs ds Γ Δ P
def zgSub (zo zi : ZE) : ZG := fun d Γ Δ P => zo Γ Δ fun o Δ1 => zi Γ Δ1 fun y Δ2 => ∃ n ds i j, o = .cell n ∧ Δ2[n]? = some (.lst ds) ∧ y = .int i ∧ ixN ds.length i = some j ∧ P Γ (Δ2.set n (.lst (ds.set j d)))
section
variable {C : CI} {X : Cx} {pos : Pos}
theorem gz_name {i : Nat} {x : Str} (hN : X.N.Nodup) (hi : X.N[i]? = some x) (hx : Loc X.env.scope x := by first | exact Or.inl rfl | exact Or.inr rfl) (hf : X.fn x = true ∨ X.env.scope.names.lookup x = some .local := by first | exact .inl rfl | exact .inr rfl | assumption) : GZ C X (.Name x pos) (gName i) (zgName i) :=
  ⟨pg_name hN hi hx hf, fun S A σ H Γ Δ v d P Q hs hc r hz k => k _ A H _ Δ (Ext.refl _ _) (hs.set i r) hc hz⟩
theorem gsz_nil : GsZ C X [] gNil zgNil := ⟨pgs_nil, fun S A σ H Γ Δ vs ds P Q hs hc r hz k => by
  obtain ⟨rfl, p⟩ := hz
  cases r
  exact ⟨rfl, k _ A H _ Δ (Ext.refl _ _) hs hc p⟩⟩
theorem gsz_cons {e : Expr} {es : List Expr} {g : TG} {gs : TGs} {z : ZG} {zs : ZGs} (h : GZ C X e g z) (hr : GsZ C X es gs zs) (hst : (assignEach (e :: es) X.env).map (·.2) = assign e X.env :: (assignEach es X.env).map (·.2) := by rfl) : GsZ C X (e :: es) (gCons g gs) (zgCons z zs) :=
  ⟨pgs_cons h.pg hr.pg hst, fun S A σ H Γ Δ vs ds P Q hs hc r hz k => by
    obtain ⟨d, rest, rfl, p⟩ := hz
    cases r with
    | cons r1 r2 =>
      exact ⟨_, _, rfl, h.ref S A σ H Γ Δ _ d _ _ hs hc r1 p fun σ' A' H' Γ' Δ' e1 s1 c1 p1 => hr.ref S A' σ' H' Γ' Δ' _ rest P Q s1 c1 (r2.ext e1) p1 (k.ext e1)⟩⟩
theorem gz_tup {es : List Expr} {k : Nat} {gs : TGs} {zs : ZGs} {n : Nat} (h : GsZ C X es gs zs) (hc : X.calm = true := by rfl) (hn : (assignEach es X.env).length = n := by rfl) (hst : (assignEach es X.env).findIdx? (·.1) = none := by rfl) : GZ C X (.Tuple es k pos) (gTup X.K n gs) (zgTup n zs) :=
  ⟨pg_tup hc h.pg hn hst, fun S A σ H Γ Δ v d P Q hs hc r hz k => by
    obtain ⟨ds, rfl, hl, p⟩ := hz
    cases r with
    | tup h1 h2 h3 r => exact ⟨_, _, rfl, SqT.of h1, by rw [r.length]; exact hl, h.ref S A σ H Γ Δ _ ds P Q hs hc r p k⟩⟩
theorem gz_sub {o i : Expr} {zo zi : ZE} (ho : EZ C X o zo) (hi : EZ C X i zi) (ha : ∀ v, assign (.Subscript o i pos) X.env v = (do
      let ov ← holding [v] (eval o X.env)
      let iv ← holding [v, ov] (eval i X.env)
      standAt pos
      holding [v, ov, iv] (setItem ov iv v)
      release [v, ov, iv] []) := by intro _; rfl) : ∃ g, GZ C X (.Subscript o i pos) g (zgSub zo zi) := by
  obtain ⟨to, o1, o2⟩ := ho.ex
  obtain ⟨ti, i1, i2⟩ := hi.ex
  refine ⟨_, pg_sub o1 i1 set_list ha, fun S A σ H Γ Δ v d P Q hs hc r hz k => o2 S A σ H Γ Δ _ _ hs hc hz fun ov od A1 H1 Δ1 e1 c1 r1 hz1 => i2 S A1 σ H1 Γ Δ1 _ _ (hs.ext e1) c1 hz1 fun iv id A2 H2 Δ2 e2 c2 r2 hz2 => ?_⟩
  obtain ⟨n, ds, i, j, rfl, hd, rfl, hj, p⟩ := hz2
  cases r2
  cases r1.ext e2 with
  | cell g =>
    obtain ⟨xs, g1, g2⟩ := c2.at_ n _ _ g hd
    have q := c2.put g (g2.set j (r.ext (e1.trans e2)))
    exact ⟨_, xs, i, j, rfl, rfl, g1, by rw [g2.length]; exact hj, k σ A2 _ Γ _ ((e1.trans e2).trans q.2) ((hs.ext (e1.trans e2)).ext q.2) q.1 p⟩
end

/-! ### statements -/
def zNext : ZS := fun Z Γ Δ => Z.nx Γ Δ
def zSeq (t u : ZS) : ZS := fun Z Γ Δ => t { Z with nx := u Z } Γ Δ
def zBreak : ZS := fun Z Γ Δ => Z.bk Γ Δ
def zCont : ZS := fun Z Γ Δ => Z.ct Γ Δ
def zDrop (z : ZE) : ZS := fun Z Γ Δ => z Γ Δ fun _ Δ1 => Z.nx Γ Δ1
def zRet (z : ZE) : ZS := fun Z Γ Δ => z Γ Δ Z.rt
def zRetN : ZS := fun Z _ Δ => Z.rt .non Δ
def zIfS (t : ZT) (a b : ZS) : ZS := fun Z Γ Δ => t Γ Δ fun c Δ1 => (c = true → a Z Γ Δ1) ∧ (c = false → b Z Γ Δ1)
def zNever : ZS := fun _ _ _ => False
def zAsg (z : ZE) (g : ZG) : ZS := fun Z Γ Δ => z Γ Δ fun d Δ1 => g d Γ Δ1 Z.nx
def zPar (i j : Nat) (za : ZA) : ZS := fun Z Γ Δ => za Γ Δ fun ds Δ1 => ∃ a b, ds = [a, b] ∧ Z.nx ((Γ.set i (some a)).set j (some b)) Δ1
def zWhile (t : ZT) (zs : ZS) : ZS := fun Z Γ Δ => ∃ W : Nat → Env → Store → Prop, (∃ m, W m Γ Δ) ∧ ∀ m Γ Δ, W m Γ Δ → t Γ Δ fun b Δ1 =>
  (b = true → zs { Z with nx := fun Γ' Δ' => ∃ m', m' < m ∧ W m' Γ' Δ', ct := fun Γ' Δ' => ∃ m', m' < m ∧ W m' Γ' Δ', bk := Z.nx } Γ Δ1) ∧ (b = false → Z.nx Γ Δ1)
section
variable {C : CI} {X : Cx} {st : Stmt} {rest : List Stmt} {t u : ZS} {e : Expr} {ze : ZE} {pos : Pos}
theorem szs_nil : SZs C X [] zNext := ⟨_, pss_nil, fun S A σ H Γ Δ Z N hs hc hz k => k.nx σ A H Γ Δ (Ext.refl _ _) hs hc hz⟩
theorem szs_cons (h1 : SZ C X st t) (h2 : SZs C X rest u) : SZs C X (st :: rest) (zSeq t u) := by
  obtain ⟨a, a1, a2⟩ := h1.ex
  obtain ⟨b, b1, b2⟩ := h2.ex
  exact ⟨_, pss_cons a1 b1, fun S A σ H Γ Δ Z N hs hc hz k => a2 S A σ H Γ Δ { Z with nx := u Z } { N with nx := b N } hs hc hz
    ⟨fun σ' A' H' Γ' Δ' e s c z => b2 S A' σ' H' Γ' Δ' Z N s c z (k.ext e), k.bk, k.ct, k.rt⟩⟩
theorem szs_one (h1 : SZ C X st t) : SZs C X [st] t := by
  obtain ⟨a, a1, a2⟩ := h1.ex
  exact ⟨_, pss_one a1, a2⟩
theorem szs_never {sts : List Stmt} : SZs C X sts zNever := ⟨_, pss_never, fun S A σ H Γ Δ Z N hs hc hz k => hz.elim⟩
theorem sz_never : SZ C X st zNever := ⟨_, ps_never, fun S A σ H Γ Δ Z N hs hc hz k => hz.elim⟩
theorem sz_pass : SZ C X (.Pass pos) zNext := ⟨_, ps_pass, fun S A σ H Γ Δ Z N hs hc hz k => k.nx σ A H Γ Δ (Ext.refl _ _) hs hc hz⟩
theorem sz_break : SZ C X (.Break pos) zBreak := ⟨_, ps_break, fun S A σ H Γ Δ Z N hs hc hz k => k.bk σ A H Γ Δ (Ext.refl _ _) hs hc hz⟩
theorem sz_continue : SZ C X (.Continue pos) zCont := ⟨_, ps_continue, fun S A σ H Γ Δ Z N hs hc hz k => k.ct σ A H Γ Δ (Ext.refl _ _) hs hc hz⟩
theorem sz_expr (h : EZ C X e ze) (hs : swapsWith e none pos.line X.env = pure false := by rfl) : SZ C X (.Expr e pos) (zDrop ze) := by
  obtain ⟨t, h1, h2⟩ := h.ex
  exact ⟨_, ps_expr h1 hs, fun S A σ H Γ Δ Z N hs hc hz k => h2 S A σ H Γ Δ _ _ hs hc hz fun v d A' H' Δ' e c r p => k.nx σ A' H' Γ Δ' e (hs.ext e) c p⟩
theorem sz_ret (h : EZ C X e ze) : SZ C X (.Return (some e) pos) (zRet ze) := by
  obtain ⟨t, h1, h2⟩ := h.ex
  exact ⟨_, ps_ret h1, fun S A σ H Γ Δ Z N hs hc hz k => h2 S A σ H Γ Δ _ _ hs hc hz fun v d A' H' Δ' e c r p => k.rt v d A' H' Δ' e c r p⟩
theorem sz_retN : SZ C X (.Return none pos) zRetN := ⟨_, ps_retN, fun S A σ H Γ Δ Z N hs hc hz k => k.rt _ _ A H Δ (Ext.refl _ _) hc .non hz⟩
theorem sz_if {c : Expr} {a b : List Stmt} {zc : ZT} (hc : TZ C X c zc) (ha : SZs C X a t) (hb : SZs C X b u) : SZ C X (.If c a b pos) (zIfS zc t u) := by
  obtain ⟨tc, c1, c2⟩ := hc.ex
  obtain ⟨ta, a1, a2⟩ := ha.ex
  obtain ⟨tb, b1, b2⟩ := hb.ex
  refine ⟨_, ps_if c1 a1 b1, fun S A σ H Γ Δ Z N hs hc hz k => c2 S A σ H Γ Δ _ _ hs hc hz fun d A1 H1 Δ1 e1 c1 hz1 => ?_⟩
  cases d with
  | true => exact iteT (a2 S A1 σ H1 Γ Δ1 Z N (hs.ext e1) c1 (hz1.1 rfl) (k.ext e1))
  | false => exact iteF (b2 S A1 σ H1 Γ Δ1 Z N (hs.ext e1) c1 (hz1.2 rfl) (k.ext e1))
theorem ref_asg {K : PySem.W.Frag} {te : TE} {g : TG} {zg : ZG} (h : RefE K C te ze) (hg : RefG K C g zg) : RefS K C (tAsg te g) (zAsg ze zg) := fun S A σ H Γ Δ Z N hs hc hz k =>
  h S A σ H Γ Δ _ _ hs hc hz fun v d A1 H1 Δ1 e1 c1 r1 p => hg S A1 σ H1 Γ Δ1 v d Z.nx N.nx (hs.ext e1) c1 r1 p (k.nx.ext e1)
theorem sz_asg {tg : Expr} {g : TG} {zg : ZG} (h : EZ C X e ze) (hg : GZ C X tg g zg) (hs : swapsWithSole [tg] e pos.line X.env = pure false := by rfl) (hw : swappedStores [tg] e X.env = pure none := by rfl)
    (h1 : (assignEach [tg] X.env).map (·.2) = [assign tg X.env] := by rfl) : SZ C X (.Assign [tg] e pos) (zAsg ze zg) := by
  obtain ⟨t, a1, a2⟩ := h.ex
  exact ⟨_, ps_asg a1 hg.pg hs hw h1, ref_asg a2 hg.ref⟩
theorem sz_asgSub {tg : Expr} {zg : ZG} (h : EZ C X e ze) (hg : ∃ g, GZ C X tg g zg) (hs : swapsWithSole [tg] e pos.line X.env = pure false := by rfl) (hw : swappedStores [tg] e X.env = pure none := by rfl)
    (h1 : (assignEach [tg] X.env).map (·.2) = [assign tg X.env] := by rfl) : SZ C X (.Assign [tg] e pos) (zAsg ze zg) := by
  obtain ⟨g, hg⟩ := hg
  exact sz_asg h hg hs hw h1
theorem sz_set {i : Nat} {x : Str} {pos' : Pos} (hN : X.N.Nodup) (h : EZ C X e ze) (hi : X.N[i]? = some x := by rfl) (hx : Loc X.env.scope x := by first | exact Or.inl rfl | exact Or.inr rfl) (hs : swapsWith e (some (.Name x pos')) pos.line X.env = pure false := by rfl)
    (hf : X.fn x = true ∨ X.env.scope.names.lookup x = some .local := by first | exact .inl rfl | exact .inr rfl | assumption) : SZ C X (.Assign [.Name x pos'] e pos) (zAsg ze (zgName i)) := by
  obtain ⟨t, a1, a2⟩ := h.ex
  exact ⟨_, ps_set hN hi hx a1 hs hf, ref_asg a2 (gz_name (C := C) (pos := pos') hN hi hx hf).ref⟩
theorem sz_par {i j : Nat} {x y : Str} {a b : Expr} {za : ZA} {px py pt : Pos} {kt k2 pt2} (hN : X.N.Nodup) (hi : X.N[i]? = some x) (hj : X.N[j]? = some y) (hij : i ≠ j)
    (hx : X.env.scope.names.lookup x = some .local) (hy : X.env.scope.names.lookup y = some .local) (ha : AZ C X [a, b] za)
    (hw : swappedStores [.Tuple [.Name x px, .Name y py] kt pt] (.Tuple [a, b] k2 pt2) X.env = pure (some [x, y]) := by rfl)
    (hs : swapsWithSole [.Tuple [.Name x px, .Name y py] kt pt] (.Tuple [a, b] k2 pt2) pos.line X.env = pure false := by rfl) (hc : X.calm = true := by rfl) :
    SZ C X (.Assign [.Tuple [.Name x px, .Name y py] kt pt] (.Tuple [a, b] k2 pt2) pos) (zPar i j za) := by
  obtain ⟨t, a1, a2⟩ := ha.ex
  refine ⟨_, ps_par hc hN hi hj hij hx hy a1 hw hs, fun S A σ H Γ Δ Z N hs hc hz k => a2 S A σ H Γ Δ _ _ hs hc hz fun vs ds A1 H1 Δ1 e1 c1 r1 p => ?_⟩
  obtain ⟨a, b, rfl, p⟩ := p
  cases r1 with
  | cons r1 r2 =>
    cases r2 with
    | cons r2 r3 =>
      cases r3
      exact ⟨_, _, rfl, k.nx _ A1 H1 _ Δ1 e1 (((hs.ext e1).set i r1).set j r2) c1 p⟩
theorem sz_while {c : Expr} {body : List Stmt} {zc : ZT} {zb : ZS} (hc : TZ C X c zc) (hb : SZs C X body zb) (hp : PassesOwn (model X.prog X.w) X.A X.env X.xe := by exact PassesOwn.never) : SZ C X (.While c body [] pos) (zWhile zc zb) := by
  obtain ⟨tc, c1, c2⟩ := hc.ex
  obtain ⟨tb, b1, b2⟩ := hb.ex
  refine ⟨_, ps_while hp c1 b1, fun S A σ H Γ Δ Z N hs hc hz k => ?_⟩
  obtain ⟨W, ⟨m0, w0⟩, hW⟩ := hz
  refine ⟨fun m σ' H' => ∃ A' Γ' Δ', Ext A H A' H' ∧ Slots X.K C S A' H' σ' Γ' ∧ Cells X.K C S A' H' Δ' ∧ W m Γ' Δ', ⟨m0, A, Γ, Δ, Ext.refl _ _, hs, hc, w0⟩, ?_⟩
  rintro m σ' H' ⟨A', Γ', Δ', e, s, c, w⟩
  refine c2 S A' σ' H' Γ' Δ' _ _ s c (hW m Γ' Δ' w) fun b A1 H1 Δ1 e1 c1 p => ?_
  cases b with
  | false => exact iteF (k.nx σ' A1 H1 Γ' Δ1 (e.trans e1) (s.ext e1) c1 (p.2 rfl))
  | true =>
    refine iteT ⟨fun σ2 H2 => ∃ A2 Γ2 Δ2, Ext A H A2 H2 ∧ Slots X.K C S A2 H2 σ2 Γ2 ∧ Cells X.K C S A2 H2 Δ2 ∧ ∃ m', m' < m ∧ W m' Γ2 Δ2, ?_, ?_⟩
    · rintro σ2 H2 ⟨A2, Γ2, Δ2, e2, s2, c2, m', hm, w'⟩
      exact ⟨m', hm, A2, Γ2, Δ2, e2, s2, c2, w'⟩
    · refine b2 S A1 σ' H1 Γ' Δ1 _ _ (s.ext e1) c1 (p.1 rfl) ⟨?_, ?_, ?_, ?_⟩
      · exact fun σ2 A2 H2 Γ2 Δ2 e2 s2 c2 q => ⟨A2, Γ2, Δ2, (e.trans e1).trans e2, s2, c2, q⟩
      · exact k.nx.ext (e.trans e1)
      · exact fun σ2 A2 H2 Γ2 Δ2 e2 s2 c2 q => ⟨A2, Γ2, Δ2, (e.trans e1).trans e2, s2, c2, q⟩
      · exact fun v d A2 H2 Δ2 e2 c2 r q => k.rt v d A2 H2 Δ2 ((e.trans e1).trans e2) c2 r q

/-! ### what is walked -/
abbrev ZI := Env → Store → (List D → Store → Prop) → Prop
def RefI (K : PySem.W.Frag) (C : CI) (wi : TI) (zi : ZI) : Prop := ∀ (S A : List Addr) (σ : L2.St) (H : Hp) (Γ : Env) (Δ : Store) (P : List D → Store → Prop) (R : It → Hp → Prop), Slots K C S A H σ Γ → Cells K C S A H Δ → zi Γ Δ P →
  (∀ (J : It) (n : Nat) (G : Hp → Prop) (Y : Nat → Hp → V → Hp → Prop) (items : List D) (A' : List Addr) (H' : Hp) (Δ' : Store), Ext A H A' H' → Cells K C S A' H' Δ' → P items Δ' → n = items.length → Walk J n G Y →
    (∀ S2 A2 H2, Mo S A' H' S2 A2 H2 → G H2) →
    (∀ S2 A2 H2 Δ2 i x H3, i < n → Mo S A' H' S2 A2 H2 → Cells K C S2 A2 H2 Δ2 → Y i H2 x H3 → ∃ d, items[i]? = some d ∧ (∀ a o, H2 a = some o → H3 a = some o) ∧ Rep K C S2 A2 H3 x d) → R J H') → wi σ H R
structure IZ (C : CI) (X : Cx) (tg iter : Expr) (zi : ZI) : Prop where
  ex : ∃ wi, PI X tg iter wi ∧ RefI X.K C wi zi
theorem Ext.kept {A : List Addr} {H H' : Hp} (k : ∀ a o, H a = some o → H' a = some o) : Ext A H A H' := ⟨⟨[], by simp, by simp⟩, fun a o _ h => k a o h, fun a h => by
  cases q : H a with
  | none => rfl
  | some o => rw [k a o q] at h; cases h⟩
/-- a list (its own, or the script) -/
def ziList (z : ZE) : ZI := fun Γ Δ P => z Γ Δ fun d Δ1 => (∃ ds, d = .lst ds ∧ P ds Δ1) ∨ ∃ ns, d = .scr ns ∧ P (ns.map D.int) Δ1
theorem iz_list {tg iter : Expr} {z : ZE} (h : EZ C X iter z) : IZ C X tg iter (ziList z) := by
  obtain ⟨t, h1, h2⟩ := h.ex
  refine ⟨_, pi_list h1, fun S A σ H Γ Δ P R hs hc hz k => h2 S A σ H Γ Δ _ _ hs hc hz fun v d A1 H1 Δ1 e1 c1 r1 p => ?_⟩
  rcases p with ⟨ds, rfl, p⟩ | ⟨ns, rfl, p⟩
  · cases r1 with
    | lst g1 g2 g3 g4 =>
      rename_i a xs
      refine ⟨a, rfl, ⟨xs, SqL.of g1⟩, ?_⟩
      refine k (Itl X.K a) xs.length (fun H => SqL X.K H a xs) (YAt xs) ds A1 H1 Δ1 e1 c1 p g4.length walk_list (fun S2 A2 H2 m => SqL.of (m.keep _ _ g2 g3 g1)) fun S2 A2 H2 Δ2 i x H3 hi m c2 y => ?_
      obtain ⟨rfl, y⟩ := y
      obtain ⟨d, q1, q2⟩ := (RepL.mono m ds g4).getV y
      exact ⟨d, q1, fun _ _ h => h, q2⟩
  · cases r1 with
    | scr g =>
      rename_i a
      refine ⟨a, rfl, ?_, ?_⟩
      · rcases g with ⟨⟨o, g⟩, _⟩ | g
        · exact ⟨_, .inl (.inr ⟨o, g⟩)⟩
        · exact ⟨_, .inr g⟩
      · refine k (Itl X.K a) (ns.map V.int).length (fun H => SqL X.K H a (ns.map V.int)) (YAt (ns.map V.int)) (ns.map D.int) A1 H1 Δ1 e1 c1 p (by rw [List.length_map, List.length_map]) walk_list (fun S2 A2 H2 m => ?_) fun S2 A2 H2 Δ2 i x H3 hi m c2 y => ?_
        · rcases g with ⟨⟨o, g⟩, gA, gS⟩ | g
          · exact .inl (.inr ⟨o, m.keep _ _ gA gS g⟩)
          · exact .inr g
        · obtain ⟨rfl, y⟩ := y
          obtain ⟨d, q1, q2⟩ := (repL_ints (K := X.K) (C := C) (S := S2) (A := A2) (H := H3) ns).getV y
          exact ⟨d, q1, fun _ _ h => h, q2⟩
/-- a tuple -/
def ziTup (z : ZE) : ZI := fun Γ Δ P => z Γ Δ fun d Δ1 => ∃ ds, d = .tup ds ∧ P ds Δ1
theorem iz_tup {tg iter : Expr} {z : ZE} (h : EZ C X iter z) : IZ C X tg iter (ziTup z) := by
  obtain ⟨t, h1, h2⟩ := h.ex
  refine ⟨_, pi_tup h1, fun S A σ H Γ Δ P R hs hc hz k => h2 S A σ H Γ Δ _ _ hs hc hz fun v d A1 H1 Δ1 e1 c1 r1 p => ?_⟩
  obtain ⟨ds, rfl, p⟩ := p
  cases r1 with
  | tup g1 g2 g3 g4 =>
    rename_i a xs
    refine ⟨a, rfl, ⟨xs, SqT.of g1⟩, ?_⟩
    refine k (Itt X.K a) xs.length (fun H => SqT X.K H a xs) (YAt xs) ds A1 H1 Δ1 e1 c1 p g4.length walk_tup (fun S2 A2 H2 m => SqT.of (m.keep _ _ g2 g3 g1)) fun S2 A2 H2 Δ2 i x H3 hi m c2 y => ?_
    obtain ⟨rfl, y⟩ := y
    obtain ⟨d, q1, q2⟩ := (RepL.mono m ds g4).getV y
    exact ⟨d, q1, fun _ _ h => h, q2⟩
/-- lo, lo + 1, .. below hi -/
def rangeD (lo hi : Int) : List D := (List.range (hi - lo).toNat).map fun (i : Nat) => D.int (lo + ((i : Nat) : Int))
theorem rangeD_len (lo hi : Int) : (rangeD lo hi).length = (hi - lo).toNat := by unfold rangeD; rw [List.length_map, List.length_range]
def ziR1 (z : ZA) : ZI := fun Γ Δ P => z Γ Δ fun ds Δ1 => ∃ n, ds = [.int n] ∧ -(2 ^ 62) ≤ n ∧ n < 2 ^ 62 ∧ P (rangeD 0 n) Δ1
def ziR2 (z : ZA) : ZI := fun Γ Δ P => z Γ Δ fun ds Δ1 => ∃ a b, ds = [.int a, .int b] ∧ -(2 ^ 62) ≤ a ∧ a < 2 ^ 62 ∧ -(2 ^ 62) ≤ b ∧ b < 2 ^ 62 ∧ P (rangeD a b) Δ1
theorem range_get {lo hi : Int} {i : Nat} (h : i < (hi - lo).toNat) : (rangeD lo hi)[i]? = some (.int (lo + (i : Int))) := by
  unfold rangeD
  rw [List.getElem?_map, List.getElem?_range h] <;> rfl
theorem ref_range {K : PySem.W.Frag} {S A A1 : List Addr} {H H1 : Hp} {Δ1 : Store} {P : List D → Store → Prop} {R : It → Hp → Prop} {lo hi : Int} (e1 : Ext A H A1 H1) (c1 : Cells K C S A1 H1 Δ1) (p : P (rangeD lo hi) Δ1)
    (k : ∀ (J : It) (n : Nat) (G : Hp → Prop) (Y : Nat → Hp → V → Hp → Prop) (items : List D) (A' : List Addr) (H' : Hp) (Δ' : Store), Ext A H A' H' → Cells K C S A' H' Δ' → P items Δ' → n = items.length → Walk J n G Y →
    (∀ S2 A2 H2, Mo S A' H' S2 A2 H2 → G H2) →
    (∀ S2 A2 H2 Δ2 i x H3, i < n → Mo S A' H' S2 A2 H2 → Cells K C S2 A2 H2 Δ2 → Y i H2 x H3 → ∃ d, items[i]? = some d ∧ (∀ a o, H2 a = some o → H3 a = some o) ∧ Rep K C S2 A2 H3 x d) → R J H') : R (Itr lo (hi - lo).toNat) H1 := by
  refine k (Itr lo (hi - lo).toNat) _ (fun _ => True) _ _ A1 H1 Δ1 e1 c1 p (rangeD_len lo hi).symm walk_range (fun _ _ _ _ => trivial) fun S2 A2 H2 Δ2 i x H3 hi' m c2 y => ?_
  obtain ⟨rfl, rfl⟩ := y
  exact ⟨_, range_get hi', fun _ _ h => h, .int _⟩
theorem iz_r1 {tg a : Expr} {z : ZA} {p pos : Pos} (h : AZ C X [a] z) (hm : X.mg "range" = none) (hg : Gl X "range" := by rfl) (hs : starEach [a] X.env = [(false, eval a X.env)] := by rfl) : IZ C X tg (.Call (.Name "range" p) [a] [] pos) (ziR1 z) := by
  obtain ⟨t, h1, h2⟩ := h.ex
  refine ⟨_, pi_range1 hg hm h1 hs, fun S A σ H Γ Δ P R hs hc hz k => h2 S A σ H Γ Δ _ _ hs hc hz fun vs ds A1 H1 Δ1 e1 c1 r1 p => ?_⟩
  obtain ⟨n, rfl, g1, g2, p⟩ := p
  cases r1 with
  | cons r1 r2 =>
    cases r1
    cases r2
    refine ⟨n, rfl, g1, g2, ?_⟩
    have q := ref_range (R := R) e1 c1 p k
    rw [Int.sub_zero] at q
    exact q
theorem iz_r2 {tg a b : Expr} {z : ZA} {p pos : Pos} (h : AZ C X [a, b] z) (hm : X.mg "range" = none) (hg : Gl X "range" := by rfl) (hs : starEach [a, b] X.env = [(false, eval a X.env), (false, eval b X.env)] := by rfl) (hs2 : starEach [b] X.env = [(false, eval b X.env)] := by rfl) :
    IZ C X tg (.Call (.Name "range" p) [a, b] [] pos) (ziR2 z) := by
  obtain ⟨t, h1, h2⟩ := h.ex
  refine ⟨_, pi_range2 hg hm h1 hs hs2, fun S A σ H Γ Δ P R hs hc hz k => h2 S A σ H Γ Δ _ _ hs hc hz fun vs ds A1 H1 Δ1 e1 c1 r1 p => ?_⟩
  obtain ⟨a, b, rfl, g1, g2, g3, g4, p⟩ := p
  cases r1 with
  | cons r1 r2 =>
    cases r1
    cases r2 with
    | cons r2 r3 =>
      cases r2
      cases r3
      exact ⟨a, b, rfl, ⟨g1, g2, g3, g4⟩, ref_range (R := R) e1 c1 p k⟩

/-! ### for -/
def loopZ (body : D → ZS) (Z : ZEnds) : List D → Env → Store → Prop
  | [], Γ, Δ => Z.nx Γ Δ
  | x :: xs, Γ, Δ => body x { Z with nx := loopZ body Z xs, ct := loopZ body Z xs, bk := Z.nx } Γ Δ
def zFor (zi : ZI) (g : ZG) (zs : ZS) : ZS := fun Z Γ Δ => zi Γ Δ fun items Δ1 => loopZ (fun x Z' Γ' Δ' => g x Γ' Δ' fun Γ2 Δ2 => zs Z' Γ2 Δ2) Z items Γ Δ1
theorem sz_for {tg iter : Expr} {body : List Stmt} {zi : ZI} {g : TG} {zg : ZG} {zb : ZS} (hi : IZ C X tg iter zi) (hg : GZ C X tg g zg) (hb : SZs C X body zb) (hp : PassesOwn (model X.prog X.w) X.A X.env X.xe := by exact PassesOwn.never) (hc : X.calm = true := by rfl)
    (hs : ∀ x, foldedSetIterable iter X.env x = pure x := by intro _; rfl) : SZ C X (.For tg iter body [] pos) (zFor zi zg zb) := by
  obtain ⟨wi, i1, i2⟩ := hi.ex
  obtain ⟨tb, b1, b2⟩ := hb.ex
  refine ⟨_, ps_for hp hc i1 hg.pg b1 hs, fun S A σ H Γ Δ Z N hs hc hz k => i2 S A σ H Γ Δ _ _ hs hc hz fun J n G Y items A1 H1 Δ1 e1 c1 p hn w hG hY => ?_⟩
  refine for_it w (fun i σ2 H2 => ∃ A2 Γ2 Δ2, Ext A1 H1 A2 H2 ∧ Slots X.K C S A2 H2 σ2 Γ2 ∧ Cells X.K C S A2 H2 Δ2 ∧ loopZ (fun x Z' Γ' Δ' => zg x Γ' Δ' fun Γ2 Δ2 => zb Z' Γ2 Δ2) Z (items.drop i) Γ2 Δ2)
    ⟨A1, Γ, Δ1, Ext.refl _ _, hs.ext e1, c1, p⟩ (fun i σ2 H2 _ ⟨A2, Γ2, Δ2, e2, _, _, _⟩ => hG S A2 H2 e2.mo) ?_ ?_
  · rintro i x σ2 H2 H3 hi ⟨A2, Γ2, Δ2, e2, s2, c2, q⟩ y
    obtain ⟨d, q1, q2, q3⟩ := hY S A2 H2 Δ2 i x H3 hi e2.mo c2 y
    have hd : items.drop i = d :: items.drop (i + 1) := by
      obtain ⟨hl, q⟩ := List.getElem?_eq_some_iff.mp q1
      rw [← q]
      exact List.drop_eq_getElem_cons hl
    rw [hd] at q
    have e3 : Ext A2 H2 A2 H3 := Ext.kept q2
    refine hg.ref S A2 σ2 H3 Γ2 Δ2 x d _ _ (s2.ext e3) (c2.kept q2) q3 q fun σ4 A4 H4 Γ4 Δ4 e4 s4 c4 p4 => ?_
    have e14 := (e2.trans e3).trans e4
    refine b2 S A4 σ4 H4 Γ4 Δ4 _ _ s4 c4 p4 ⟨?_, ?_, ?_, ?_⟩
    · exact fun σ5 A5 H5 Γ5 Δ5 e5 s5 c5 p5 => ⟨A5, Γ5, Δ5, e14.trans e5, s5, c5, p5⟩
    · exact k.nx.ext (e1.trans e14)
    · exact fun σ5 A5 H5 Γ5 Δ5 e5 s5 c5 p5 => ⟨A5, Γ5, Δ5, e14.trans e5, s5, c5, p5⟩
    · exact fun v d A5 H5 Δ5 e5 c5 r5 p5 => k.rt v d A5 H5 Δ5 ((e1.trans e14).trans e5) c5 r5 p5
  · rintro σ2 H2 ⟨A2, Γ2, Δ2, e2, s2, c2, q⟩
    rw [hn, List.drop_length] at q
    exact k.nx σ2 A2 H2 Γ2 Δ2 (e1.trans e2) s2 c2 q
end
end Z

/-! Z4: comprehensions, zip, enumerate, calls of defs and built-ins over data. -/
namespace Z
open PySem L2

/-! ### slots forgotten -/
def wipeZ (Γ : Env) : List Nat → Env
  | [] => Γ
  | v :: vs => (wipeZ Γ vs).set v none
theorem wipeZ_length (Γ : Env) : ∀ vs : List Nat, (wipeZ Γ vs).length = Γ.length
  | [] => rfl
  | v :: vs => by unfold wipeZ; rw [List.length_set, wipeZ_length Γ vs]
theorem wipeZ_some {Γ : Env} {i : Nat} {d : D} : ∀ {vs : List Nat}, (wipeZ Γ vs)[i]? = some (some d) → Γ[i]? = some (some d) ∧ i ∉ vs
  | [], h => ⟨h, by simp⟩
  | v :: vs, h => by
    unfold wipeZ at h
    by_cases e : i = v
    · subst e
      by_cases hl : i < (wipeZ Γ vs).length
      · rw [List.getElem?_set_self hl] at h; cases h
      · rw [List.getElem?_eq_none (by rw [List.length_set]; omega)] at h; cases h
    · rw [List.getElem?_set_ne (Ne.symm e)] at h
      obtain ⟨h1, h2⟩ := wipeZ_some h
      exact ⟨h1, by simp [e, h2]⟩
theorem wipe_get {σ : L2.St} {i : Nat} : ∀ {vs : List Nat}, i ∉ vs → (wipe σ vs)[i]? = σ[i]?
  | [], _ => rfl
  | v :: vs, h => by
    unfold wipe
    have h1 : i ≠ v := fun e => h (by simp [e])
    rw [List.getElem?_set_ne (Ne.symm h1)]
    exact wipe_get fun q => h (List.mem_cons_of_mem _ q)
theorem wipe_in {σ : L2.St} {i : Nat} : ∀ {vs : List Nat}, i ∈ vs → (wipe σ vs)[i]? = if i < σ.length then some none else none
  | v :: vs, h => by
    unfold wipe
    by_cases e : i = v
    · subst e
      by_cases hl : i < σ.length
      · rw [List.getElem?_set_self (by rw [wipe_length]; exact hl), if_pos hl]
      · rw [List.getElem?_eq_none (by rw [List.length_set, wipe_length]; omega), if_neg hl]
    · rw [List.getElem?_set_ne (Ne.symm e)]
      exact wipe_in ((List.mem_cons.mp h).resolve_left e)
theorem wipe_ext {σ τ : L2.St} {vs : List Nat} (hl : σ.length = τ.length) (h : ∀ i, i ∉ vs → σ[i]? = τ[i]?) : wipe σ vs = wipe τ vs := by
  refine List.ext_getElem? fun i => ?_
  by_cases hi : i ∈ vs
  · rw [wipe_in hi, wipe_in hi, hl]
  · rw [wipe_get hi, wipe_get hi]; exact h i hi
theorem wipe_wipe (σ : L2.St) (vs : List Nat) : wipe (wipe σ vs) vs = wipe σ vs := wipe_ext (wipe_length σ vs) fun i hi => wipe_get hi
theorem wipe_set {σ : L2.St} {i : Nat} {x : Option V} {vs : List Nat} (hi : i ∈ vs) : wipe (σ.set i x) vs = wipe σ vs :=
  wipe_ext (by rw [List.length_set]) fun j hj => by rw [List.getElem?_set_ne (fun e => hj (by rw [← e]; exact hi))]
theorem Slots.wipe {K : PySem.W.Frag} {C : CI} {S A : List Addr} {H : Hp} {σ : L2.St} {Γ : Env} (h : Slots K C S A H σ Γ) (vs : List Nat) : Slots K C S A H (L2.wipe σ vs) (wipeZ Γ vs) := by
  refine ⟨by rw [wipe_length, wipeZ_length]; exact h.len, fun i d q => ?_⟩
  obtain ⟨h1, h2⟩ := wipeZ_some q
  obtain ⟨v, g1, g2⟩ := h.at_ i d h1
  exact ⟨v, by rw [wipe_get h2]; exact g1, g2⟩
/-- a target that stores into the slots vs alone -/
def Own (g : TG) (vs : List Nat) : Prop := ∀ x σ H Q, g x σ H Q → g x σ H fun σ2 H2 => wipe σ2 vs = wipe σ vs ∧ Q σ2 H2
def Owns (g : TGs) (vs : List Nat) : Prop := ∀ xs σ H Q, g xs σ H Q → g xs σ H fun σ2 H2 => wipe σ2 vs = wipe σ vs ∧ Q σ2 H2
theorem own_name {i : Nat} {vs : List Nat} (h : i ∈ vs) : Own (gName i) vs := fun _ _ _ _ q => ⟨wipe_set h, q⟩
theorem owns_nil {vs : List Nat} : Owns gNil vs := fun _ _ _ _ q => ⟨q.1, rfl, q.2⟩
theorem gName_eq {i : Nat} {x : V} {σ : L2.St} {H : Hp} {Q : L2.St → Hp → Prop} : gName i x σ H Q = Q (σ.set i (some x)) H := rfl
theorem owns_cons {i : Nat} {gs : TGs} {vs : List Nat} (h : i ∈ vs) (hs : Owns gs vs) : Owns (gCons (gName i) gs) vs := fun xs σ H Q q => by
  obtain ⟨v, r, e, q⟩ := q
  refine ⟨v, r, e, ?_⟩
  have q' : gs r (σ.set i (some v)) H Q := q
  have := hs _ _ _ _ q'
  rw [wipe_set h] at this
  exact this
theorem own_tup {K : PySem.W.Frag} {n : Nat} {gs : TGs} {vs : List Nat} (h : Owns gs vs) : Own (gTup K n gs) vs := fun x σ H Q q => by
  obtain ⟨a, xs, e, h1, h2, q⟩ := q
  exact ⟨a, xs, e, h1, h2, h _ _ _ _ q⟩

/-! ### a list comprehension -/
abbrev ZTs := ZT
def zYes : ZT := fun _ Δ P => P true Δ
structure TsZ (C : CI) (X : Cx) (es : List Expr) (z : ZT) : Prop where
  ex : ∃ tt, PTs X es tt ∧ RefT X.K C tt z
def compZ (zg : ZG) (zt : ZT) (ze : ZE) (Γ0 : Env) (P : D → Store → Prop) : List D → List D → Store → Prop
  | [], acc, Δ => P (.lst acc) Δ
  | x :: xs, acc, Δ => zg x Γ0 Δ fun Γ2 Δ2 => zt Γ2 Δ2 fun b Δ3 => (b = true → ze Γ2 Δ3 fun y Δ4 => acc.length < 100000 ∧ compZ zg zt ze Γ0 P xs (acc ++ [y]) Δ4) ∧ (b = false → compZ zg zt ze Γ0 P xs acc Δ3)
def zLc (zi : ZI) (zg : ZG) (zt : ZT) (ze : ZE) (vs : List Nat) : ZE := fun Γ Δ P => zi Γ Δ fun items Δ1 => compZ zg zt ze (wipeZ Γ vs) P items [] Δ1
theorem lt_line {n : Nat} (h : n < 100000) : n < sizeLine := Nat.lt_of_lt_of_le h (by decide)
theorem ref_lc {K : PySem.W.Frag} {C : CI} {wi : TI} {g : TG} {tt : TT} {te : TE} {vs : List Nat} {zi : ZI} {zg : ZG} {zt : ZT} {ze : ZE} (hi : RefI K C wi zi) (hg : RefG K C g zg) (ho : Own g vs) (ht : RefT K C tt zt) (he : RefE K C te ze) :
    RefE K C (tLc wi g tt te vs) (zLc zi zg zt ze vs) := fun S A σ H Γ Δ P Q hs hc hz k => hi S A σ H Γ Δ _ _ hs hc hz fun J n G Y items A1 H1 Δ1 e1 c1 p hn w hG hY q hq => by
  have s1 := hs.ext e1
  -- the list at q is set aside
  have mo0 : Mo S A1 H1 (q :: S) A1 (upd H1 q (.lst [])) := ⟨⟨[], by simp, by simp⟩, fun b hb => by
    rcases List.mem_cons.mp hb with rfl | hb
    · exact .inr hq
    · exact .inl hb, fun a o _ _ h => by rw [upd_ne (ne_of_none h hq)]; exact h⟩
  have cells0 : Cells K C (q :: S) A1 (upd H1 q (.lst [])) Δ1 := by
    refine ⟨c1.len, c1.nd, fun a ha hb => ?_, fun a ha h => ?_, fun n a o h1 h2 => (c1.at_ n a o h1 h2).mono mo0 fun u h => by rw [upd_ne (ne_of_none h hq)]; exact h⟩
    · rcases List.mem_cons.mp hb with rfl | hb
      · exact c1.fresh hq ha
      · exact c1.dj a ha hb
    · rcases List.mem_cons.mp ha with rfl | ha
      · rw [upd_same] at h; cases h
      · exact c1.as a ha ((Ext.new (A := A1) hq).trk a h)
  refine lc_it w (fun i H2 => ∃ A2 Δ2 acc accV, Ext A1 H1 A2 H2 ∧ Mo S A1 H1 (q :: S) A2 H2 ∧ Cells K C (q :: S) A2 H2 Δ2 ∧ H2 q = some (.lst accV) ∧ RepL K C (q :: S) A2 H2 accV acc ∧ compZ zg zt ze (wipeZ Γ vs) P (items.drop i) acc Δ2)
    ⟨A1, Δ1, [], [], Ext.new hq, mo0, cells0, upd_same, .nil, p⟩ (fun i H2 _ ⟨A2, Δ2, acc, accV, _, m, _⟩ => hG _ A2 H2 m) ?_ ?_
  · rintro i x H2 H3 hi2 ⟨A2, Δ2, acc, accV, e2, m2, c2, hqv, hacc, hp⟩ y
    obtain ⟨d, q1, q2, q3⟩ := hY _ A2 H2 Δ2 i x H3 hi2 m2 c2 y
    have hd : items.drop i = d :: items.drop (i + 1) := by
      obtain ⟨hl, q⟩ := List.getElem?_eq_some_iff.mp q1
      rw [← q]
      exact List.drop_eq_getElem_cons hl
    rw [hd] at hp
    have e3 : Ext A2 H2 A2 H3 := Ext.kept q2
    have s3 : Slots K C (q :: S) A2 H3 (wipe σ vs) (wipeZ Γ vs) := ((s1.mono m2).ext e3).wipe vs
    have fin : g x (wipe σ vs) H3 fun σ2 H4 => wipe σ2 vs = wipe (wipe σ vs) vs ∧ tt σ2 H4 fun b H5 =>
        if b = true then te σ2 H5 fun y H6 => ∃ acc, H6 q = some (.lst acc) ∧ acc.length < sizeLine ∧ ∃ A2 Δ2 acc' accV, Ext A1 H1 A2 (upd H6 q (.lst (acc ++ [y]))) ∧ Mo S A1 H1 (q :: S) A2 (upd H6 q (.lst (acc ++ [y]))) ∧ Cells K C (q :: S) A2 (upd H6 q (.lst (acc ++ [y]))) Δ2 ∧
          (upd H6 q (.lst (acc ++ [y]))) q = some (.lst accV) ∧ RepL K C (q :: S) A2 (upd H6 q (.lst (acc ++ [y]))) accV acc' ∧ compZ zg zt ze (wipeZ Γ vs) P (items.drop (i + 1)) acc' Δ2
        else ∃ A2 Δ2 acc accV, Ext A1 H1 A2 H5 ∧ Mo S A1 H1 (q :: S) A2 H5 ∧ Cells K C (q :: S) A2 H5 Δ2 ∧ H5 q = some (.lst accV) ∧ RepL K C (q :: S) A2 H5 accV acc ∧ compZ zg zt ze (wipeZ Γ vs) P (items.drop (i + 1)) acc Δ2 := by
      refine ho _ _ _ _ (hg (q :: S) A2 (wipe σ vs) H3 (wipeZ Γ vs) Δ2 x d _ _ s3 (c2.kept q2) q3 hp fun σ4 A4 H4 Γ4 Δ4 e4 s4 c4 p4 => ?_)
      refine ht (q :: S) A4 σ4 H4 Γ4 Δ4 _ _ s4 c4 p4 fun b A5 H5 Δ5 e5 c5 p5 => ?_
      have e25 := (e3.trans e4).trans e5
      have e15 := e2.trans e25
      have hq2 : q ∉ A2 := fun h => c2.dj q h List.mem_cons_self
      have hq5 : H5 q = some (.lst accV) := e25.keep q _ hq2 hqv
      have m5 : Mo S A1 H1 (q :: S) A5 H5 := ⟨e15.pre, m2.sub, fun a o h1 _ h3 => e15.keep a o h1 h3⟩
      cases b with
      | false => exact iteF ⟨A5, Δ5, acc, accV, e15, m5, c5, hq5, hacc.ext e25, p5.2 rfl⟩
      | true =>
        refine iteT (he (q :: S) A5 σ4 H5 Γ4 Δ5 _ _ (s4.ext e5) c5 (p5.1 rfl) fun y dy A6 H6 Δ6 e6 c6 r6 p6 => ?_)
        have e16 := e15.trans e6
        have hq5' : q ∉ A5 := fun h => c5.dj q h List.mem_cons_self
        have hq6' : q ∉ A6 := fun h => c6.dj q h List.mem_cons_self
        have hq6 : H6 q = some (.lst accV) := e6.keep q _ hq5' hq5
        have hacc6 := (hacc.ext e25).ext e6
        have mo7 : Mo (q :: S) A6 H6 (q :: S) A6 (upd H6 q (.lst (accV ++ [y]))) := ⟨⟨[], by simp, by simp⟩, fun _ h => .inl h, fun a o _ h2 h3 => by
          rw [upd_ne (fun h => h2 (by rw [h]; exact List.mem_cons_self))]; exact h3⟩
        have nq : ∀ a o, H1 a = some o → a ≠ q := fun a o h => ne_of_none h hq
        refine ⟨accV, hq6, lt_line (by rw [hacc6.length]; exact p6.1), A6, Δ6, acc ++ [dy], accV ++ [y], ?_, ?_, ?_, upd_same, ?_, p6.2⟩
        · exact ⟨e16.pre, fun a o h1 h2 => by rw [upd_ne (nq a o h2)]; exact e16.keep a o h1 h2, fun a h => by
            by_cases hb : a = q
            · subst hb; exact hq
            · rw [upd_ne hb] at h; exact e16.trk a h⟩
        · exact ⟨e16.pre, m2.sub, fun a o h1 _ h3 => by rw [upd_ne (nq a o h3)]; exact e16.keep a o h1 h3⟩
        · refine ⟨c6.len, c6.nd, c6.dj, fun a ha h => ?_, fun n a o h1 h2 => (c6.at_ n a o h1 h2).mono mo7 fun u h => ?_⟩
          · by_cases hb : a = q
            · subst hb; rw [upd_same] at h; cases h
            · rw [upd_ne hb] at h; exact c6.as a ha h
          · rw [upd_ne (fun hb => hq6' (by rw [← hb]; exact List.mem_of_getElem? h1))]; exact h
        · exact (RepL.append hacc6 (.cons r6 .nil)).mono mo7 _
    rw [wipe_wipe] at fin
    exact fin
  · rintro H2 ⟨A2, Δ2, acc, accV, e2, m2, c2, hqv, hacc, hp⟩
    rw [hn, List.drop_length] at hp
    have hq2 : q ∉ A2 := fun h => c2.dj q h List.mem_cons_self
    have mo8 : Mo (q :: S) A2 H2 S A2 H2 := ⟨⟨[], by simp, by simp⟩, fun b hb => .inl (List.mem_cons_of_mem _ hb), fun _ _ _ _ h => h⟩
    refine k _ _ A2 H2 Δ2 (e1.trans e2) ⟨c2.len, c2.nd, fun a ha hb => c2.dj a ha (List.mem_cons_of_mem _ hb), fun a ha => c2.as a (List.mem_cons_of_mem _ ha), fun n a o h1 h2 => (c2.at_ n a o h1 h2).mono mo8 fun _ h => h⟩
      (.lst hqv hq2 (c1.aside hq) (RepL.mono mo8 _ hacc)) hp
section
variable {C : CI} {X : Cx}
theorem tsz_nil : TsZ C X [] zYes := ⟨_, pts_nil, fun S A σ H Γ Δ P Q hs hc hz k => k true A H Δ (Ext.refl _ _) hc hz⟩
theorem tsz_one {c : Expr} {z : ZT} (h : TZ C X c z) : TsZ C X [c] z := by
  obtain ⟨t, h1, h2⟩ := h.ex
  exact ⟨t, pts_one h1, h2⟩
/-- what stands in a comprehension's block, whatever the block's own frame is -/
structure BlkZ (C : CI) (X : Cx) (scope : Scope) (tg : Expr) (ifs : List Expr) (elt : Expr) (g : TG) (zg : ZG) (zt : ZT) (ze : ZE) : Prop where
  ex : ∃ tt te, (∀ (s : Shared) (H : Hp) (Ca : Addr) (cl : List (Str × Addr)) (fp : List Addr), PG (X.blk s H scope (compEnvC scope cl Ca X.env) fp) tg g ∧ PTs (X.blk s H scope (compEnvC scope cl Ca X.env) fp) ifs tt ∧ PE (X.blk s H scope (compEnvC scope cl Ca X.env) fp) elt te) ∧
    RefG X.K C g zg ∧ RefT X.K C tt zt ∧ RefE X.K C te ze
theorem ez_lc {elt tg iter : Expr} {ifs : List Expr} {scope : Scope} {own : List (Str × Nat)} {pos : Pos} {zi : ZI} {g : TG} {zg : ZG} {zt : ZT} {ze : ZE} (hN : X.N.Nodup) (hi : IZ C X tg iter zi) (ok : BlkOk X.N X.env.scope scope own) (ho : Own g (own.map (·.2))) (hb : BlkZ C X scope tg ifs elt g zg zt ze)
    (hc : X.calm = true := by rfl) (hs : ∀ x, foldedSetIterable iter X.env x = pure x := by intro _; rfl) : EZ C X (.ListComp elt [⟨tg, iter, ifs, 0⟩] scope pos) (zLc zi zg zt ze (own.map (·.2))) := by
  obtain ⟨wi, i1, i2⟩ := hi.ex
  obtain ⟨tt, te, b1, b2, b3, b4⟩ := hb.ex
  exact ⟨_, pe_lc hc hN i1 ok (fun s H Ca cl fp => (b1 s H Ca cl fp).1) (fun s H Ca cl fp => (b1 s H Ca cl fp).2.1) (fun s H Ca cl fp => (b1 s H Ca cl fp).2.2) hs, ref_lc i2 b2 ho b3 b4⟩
theorem sz_setLc {i : Nat} {y : Str} {py : Pos} {elt tg iter : Expr} {ifs : List Expr} {scope : Scope} {own : List (Str × Nat)} {pos spos : Pos} {zi : ZI} {g : TG} {zg : ZG} {zt : ZT} {ze : ZE} (hN : X.N.Nodup) (hy : X.N[i]? = some y) (hyl : X.env.scope.names.lookup y = some .local)
    (hsw : swapsWith (.ListComp elt [⟨tg, iter, ifs, 0⟩] scope pos) (some (.Name y py)) spos.line X.env = pure true) (hi : IZ C X tg iter zi) (ok : BlkOk X.N X.env.scope scope own) (ho : Own g (own.map (·.2))) (hb : BlkZ C X scope tg ifs elt g zg zt ze)
    (hc : X.calm = true := by rfl) (hs : ∀ x, foldedSetIterable iter X.env x = pure x := by intro _; rfl) : SZ C X (.Assign [.Name y py] (.ListComp elt [⟨tg, iter, ifs, 0⟩] scope pos) spos) (zAsg (zLc zi zg zt ze (own.map (·.2))) (zgName i)) := by
  obtain ⟨wi, i1, i2⟩ := hi.ex
  obtain ⟨tt, te, b1, b2, b3, b4⟩ := hb.ex
  exact ⟨_, ps_setLc hc hN hy hyl hsw i1 ok (fun s H Ca cl fp => (b1 s H Ca cl fp).1) (fun s H Ca cl fp => (b1 s H Ca cl fp).2.1) (fun s H Ca cl fp => (b1 s H Ca cl fp).2.2) hs, ref_asg (ref_lc i2 b2 ho b3 b4) (gz_name (C := C) (pos := py) hN hy (.inl hyl) (.inr hyl)).ref⟩

/-! ### calls of defs -/
/-- a def's promise over data: W says of the arguments, the store and a wish what must hold ahead -/
def SpZ (K : PySem.W.Frag) (C : CI) (W : ZRC) : Sp := fun vs H Q _ => ∃ S A Δ ds P, RepL K C S A H vs ds ∧ Cells K C S A H Δ ∧ W ds Δ P ∧ ∀ v d A' H' Δ', Ext A H A' H' → Cells K C S A' H' Δ' → Rep K C S A' H' v d → P d Δ' → Q v H'
def zCall (W : ZRC) (dds : List D) (za : ZA) : ZE := fun Γ Δ P => za Γ Δ fun ds Δ1 => W (ds ++ dds) Δ1 P
variable {e : Expr} {es : List Expr} {za : ZA} {pos p : Pos} {x : Str} {k : Nat} {f : Addr} {fd : FuncData} {ps : List Str} {W : ZRC} {dvs : List V} {dds : List D} {ds : List Value}
theorem ref_call {K : PySem.W.Frag} {ta : TA} {E : XK} (ha : RefA K C ta za) (hdd : ∀ S A H, RepL K C S A H dvs dds) : RefE K C (tCall (SpZ K C W) dvs E ta) (zCall W dds za) := fun S A σ H Γ Δ P Q hs hc hz k =>
  ha S A σ H Γ Δ _ _ hs hc hz fun vs ds A1 H1 Δ1 e1 c1 r1 p => ⟨S, A1, Δ1, ds ++ dds, P, r1.append (hdd _ _ _), c1, p, fun v d A' H' Δ' e2 c2 r2 p2 => k v d A' H' Δ' (e1.trans e2) c2 r2 p2⟩
theorem ez_call (F : FnOk X.prog X.w X.K X.mg X.base CX0 k f fd ps (SpZ X.K C W)) (hr : Room k X.A) (hm : X.mg x = some (.ref f)) (hk : PySem.W.keepIn X.K (.ref f) = true) (hb : Binds X.K fd ps ds) (hd : Vals dvs ds) (hdd : ∀ S A H, RepL X.K C S A H dvs dds)
    (ha : AZ C X (e :: es) za) (hg : Gl X x := by rfl) (hdb : (x == ("__debug__" : Str)) = false := by decide) (he : starEach (e :: es) X.env = (false, eval e X.env) :: starEach es X.env := by rfl) (hpl : (backTo pos (starEach es X.env)).any (·.1) = false := by rfl) :
    EZ C X (.Call (.Name x p) (e :: es) [] pos) (zCall W dds za) := by
  obtain ⟨t, a1, a2⟩ := ha.ex
  exact ⟨_, pe_call F hr hg hm hk hb hd pass0 a1 hdb he hpl, ref_call a2 hdd⟩
/-- without defaults -/
theorem ez_calln (F : FnOk X.prog X.w X.K X.mg X.base CX0 k f fd ps (SpZ X.K C W)) (hr : Room k X.A) (hm : X.mg x = some (.ref f)) (hk : PySem.W.keepIn X.K (.ref f) = true) (hb : Binds X.K fd ps [])
    (ha : AZ C X (e :: es) za) (hg : Gl X x := by rfl) (hdb : (x == ("__debug__" : Str)) = false := by decide) (he : starEach (e :: es) X.env = (false, eval e X.env) :: starEach es X.env := by rfl) (hpl : (backTo pos (starEach es X.env)).any (·.1) = false := by rfl) :
    EZ C X (.Call (.Name x p) (e :: es) [] pos) (zCall W [] za) := ez_call F hr hm hk hb .nil (fun _ _ _ => .nil) ha hg hdb he hpl
/-- a def's body keeps its promise -/
def startZ (N : List Str) (ds : List D) : Env := ds.map some ++ List.replicate (N.length - ds.length) none
theorem slots_start {K : PySem.W.Frag} {S A : List Addr} {H : Hp} {N : List Str} {vs : List V} {ds : List D} (r : RepL K C S A H vs ds) : Slots K C S A H (L2.start N vs) (startZ N ds) := by
  refine ⟨?_, fun i d q => ?_⟩
  · unfold L2.start startZ
    rw [List.length_append, List.length_append, List.length_map, List.length_map, List.length_replicate, List.length_replicate, r.length]
  · unfold startZ at q
    unfold L2.start
    by_cases hi : i < ds.length
    · rw [List.getElem?_append_left (by rw [List.length_map]; exact hi), List.getElem?_map] at q
      cases e : ds[i]? with
      | none => rw [e] at q; cases q
      | some d' =>
        rw [e] at q
        cases q
        obtain ⟨v, h1, h2⟩ := r.get e
        exact ⟨v, by rw [List.getElem?_append_left (by rw [List.length_map, r.length]; exact hi), List.getElem?_map, h1] <;> rfl, h2⟩
    · rw [List.getElem?_append_right (by rw [List.length_map]; omega)] at q
      have := List.mem_of_getElem? q
      simp at this
theorem fnz_ok {P : Program} {w : World} {K : PySem.W.Frag} {mg : Str → Option Value} {base : Heap} {y qual : Str} {st : Stmt} {N : List Str} (F : Fun K y qual st f fd) (Sc : FnScope N ps (defScope st)) (len : ∀ ds Δ P, W ds Δ P → ds.length = ps.length)
    (body : ∀ (cdv : Value) (A : Around) (outer : List PySem.Env) (s : Shared) (H : Hp) (E : XK), Room k (A.deeper (PyProof.Rows.envOfC qual (defScope st) s.heap.objs.size f cdv)) →
      ∃ z : ZS, SZs C (cxOf CX0 P w K mg base N qual (defScope st) f cdv A outer s H E).nox (defBody st) z ∧ ∀ ds Δ P, W ds Δ P → z { nx := fun _ Δ' => P .non Δ', rt := P } (startZ N ds) Δ) : FnOk P w K mg base CX0 (k + 1) f fd ps (SpZ K C W) := by
  refine F.ok Sc (fun vs H Q E h => ?_) (fun cdv A outer s H vs Q E hr h => ?_)
  · obtain ⟨S, A, Δ, ds, P, r, _, hw, _⟩ := h
    rw [r.length]
    exact len ds Δ P hw
  · obtain ⟨S, A', Δ, ds, P', r, hc, hw, kk⟩ := h
    obtain ⟨z, hz, hzz⟩ := body cdv A outer s H E hr
    obtain ⟨ts, h1, h2⟩ := hz.ex
    refine ⟨ts, h1, h2 S A' _ H (startZ N ds) Δ { nx := fun _ Δ' => P' .non Δ', rt := P' } _ (slots_start r) hc (hzz ds Δ P' hw) ⟨?_, ?_, ?_, ?_⟩⟩
    · exact fun σ' A2 H2 Γ2 Δ2 e2 s2 c2 q => kk .non .non A2 H2 Δ2 e2 c2 .non q
    · exact fun σ' A2 H2 Γ2 Δ2 e2 s2 c2 q => q.elim
    · exact fun σ' A2 H2 Γ2 Δ2 e2 s2 c2 q => q.elim
    · exact fun v d A2 H2 Δ2 e2 c2 r2 q => kk v d A2 H2 Δ2 e2 c2 r2 q

/-! ### built-ins -/
structure CallZ (C : CI) (X : Cx) (fv : Value) (z : ZRC) : Prop where
  ex : ∃ r, CallR X fv r ∧ RefC X.K C r z
def zCB (z : ZRC) (za : ZA) : ZE := fun Γ Δ P => za Γ Δ fun ds Δ1 => z ds Δ1 P
theorem ref_cb {K : PySem.W.Frag} {r : List V → Hp → VK → Prop} {z : ZRC} {ta : TA} (hr : RefC K C r z) (ha : RefA K C ta za) : RefE K C (tCB r ta) (zCB z za) := fun S A σ H Γ Δ P Q hs hc hz k =>
  ha S A σ H Γ Δ _ _ hs hc hz fun vs ds A1 H1 Δ1 e1 c1 r1 p => hr S A1 H1 Δ1 vs ds P Q c1 r1 p fun v d A' H' Δ' e2 c2 r2 p2 => k v d A' H' Δ' (e1.trans e2) c2 r2 p2
theorem ez_callB {id : String} {z : ZRC} (hc : CallZ C X (.builtin id) z) (hm : X.mg x = none) (hv : bootBuiltins x = some (.builtin id)) (ha : AZ C X (e :: es) za) (hg : Gl X x := by rfl) (hn : x ≠ "__name__" := by decide) (hdb : (x == ("__debug__" : Str)) = false := by decide)
    (he : starEach (e :: es) X.env = (false, eval e X.env) :: starEach es X.env := by rfl) (hpl : (backTo pos (starEach es X.env)).any (·.1) = false := by rfl) : EZ C X (.Call (.Name x p) (e :: es) [] pos) (zCB z za) := by
  obtain ⟨r, c1, c2⟩ := hc.ex
  obtain ⟨t, a1, a2⟩ := ha.ex
  exact ⟨_, pe_callB c1 hg hm hv a1 hn hdb he hpl, ref_cb c2 a2⟩
theorem ez_callTy {T : String} {z : ZRC} (hc : CallZ C X (.type T) z) (hm : X.mg x = none) (hv : bootBuiltins x = some (.type T)) (ha : AZ C X (e :: es) za) (hg : Gl X x := by rfl) (hn : x ≠ "__name__" := by decide) (hdb : (x == ("__debug__" : Str)) = false := by decide)
    (he : starEach (e :: es) X.env = (false, eval e X.env) :: starEach es X.env := by rfl) (hpl : (backTo pos (starEach es X.env)).any (·.1) = false := by rfl) : EZ C X (.Call (.Name x p) (e :: es) [] pos) (zCB z za) := by
  obtain ⟨r, c1, c2⟩ := hc.ex
  obtain ⟨t, a1, a2⟩ := ha.ex
  exact ⟨_, pe_callTy c1 hg hm hv a1 hn hdb he hpl, ref_cb c2 a2⟩
/-- a module's name for a built-in (gcd) -/
theorem ez_callMod {id : String} {z : ZRC} (hc : CallZ C X (.builtin id) z) (hm : X.mg x = some (.builtin id)) (ha : AZ C X (e :: es) za) (hg : Gl X x := by rfl) (hdb : (x == ("__debug__" : Str)) = false := by decide)
    (he : starEach (e :: es) X.env = (false, eval e X.env) :: starEach es X.env := by rfl) (hpl : (backTo pos (starEach es X.env)).any (·.1) = false := by rfl) : EZ C X (.Call (.Name x p) (e :: es) [] pos) (zCB z za) := by
  obtain ⟨r, c1, c2⟩ := hc.ex
  obtain ⟨t, a1, a2⟩ := ha.ex
  exact ⟨_, pe_callBfun c1 hg hm a1 hdb he hpl, ref_cb c2 a2⟩
def zLen : ZRC := fun ds Δ P => ∃ d es, ds = [d] ∧ seqD Δ d = some es ∧ P (.int (es.length : Int)) Δ
theorem one_rep {K : PySem.W.Frag} {S A : List Addr} {H : Hp} {vs : List V} {d : D} (r : RepL K C S A H vs [d]) : ∃ v, vs = [v] ∧ Rep K C S A H v d := by
  cases r with
  | cons h r => cases r; exact ⟨_, rfl, h⟩
theorem two_rep {K : PySem.W.Frag} {S A : List Addr} {H : Hp} {vs : List V} {d d' : D} (r : RepL K C S A H vs [d, d']) : ∃ v v', vs = [v, v'] ∧ Rep K C S A H v d ∧ Rep K C S A H v' d' := by
  cases r with
  | cons h r => obtain ⟨v', rfl, h'⟩ := one_rep r; exact ⟨_, v', rfl, h, h'⟩
theorem cz_len : CallZ C X (.builtin "len") zLen := ⟨_, call_len_seq, fun S A H Δ xs ds P Q hc r hz k => by
  obtain ⟨d, es, rfl, hd, q⟩ := hz
  obtain ⟨v, rfl, rv⟩ := one_rep r
  obtain ⟨pa, ys, rfl, hq, rr⟩ := Rep.seq hc rv hd
  refine ⟨pa, ys, rfl, hq, k _ _ A H Δ (Ext.refl _ _) hc ?_ q⟩
  rw [rr.length]
  exact .int _⟩
def zSum : ZRC := fun ds Δ P => ∃ (d : D) (ns : List Int), ds = [d] ∧ lstD Δ d = some (ns.map D.int) ∧ P (.int ns.sum) Δ
theorem repL_int {K : PySem.W.Frag} {S A : List Addr} {H : Hp} : ∀ {ns : List Int} {vs : List V}, RepL K C S A H vs (ns.map D.int) → vs = ns.map V.int
  | [], _, r => by cases r; rfl
  | n :: ns, _, r => by
    rw [List.map_cons] at r
    cases r with
    | cons h r => cases h; rw [repL_int r] <;> rfl
theorem repL_bl {K : PySem.W.Frag} {S A : List Addr} {H : Hp} : ∀ {ns : List Bool} {vs : List V}, RepL K C S A H vs (ns.map D.bl) → vs = ns.map V.bl
  | [], _, r => by cases r; rfl
  | n :: ns, _, r => by
    rw [List.map_cons] at r
    cases r with
    | cons h r => cases h; rw [repL_bl r] <;> rfl
theorem cz_sum (hc : X.calm = true := by rfl) : CallZ C X (.builtin "sum") zSum := ⟨_, cr_sum hc, fun S A H Δ xs ds P Q hc r hz k => by
  obtain ⟨d, ns, rfl, hd, q⟩ := hz
  obtain ⟨v, rfl, rv⟩ := one_rep r
  obtain ⟨pa, ys, rfl, hq, rr⟩ := Rep.lst_ hc rv hd
  obtain rfl := repL_int rr
  exact ⟨pa, ns, rfl, SqL.of hq, k _ _ A H Δ (Ext.refl _ _) hc (.int _) q⟩⟩
def zAny : ZRC := fun ds Δ P => ∃ (d : D) (bs : List Bool), ds = [d] ∧ lstD Δ d = some (bs.map D.bl) ∧ P (.bl (bs.any id)) Δ
theorem cz_any (hc : X.calm = true := by rfl) : CallZ C X (.builtin "any") zAny := ⟨_, cr_any hc, fun S A H Δ xs ds P Q hc r hz k => by
  obtain ⟨d, ns, rfl, hd, q⟩ := hz
  obtain ⟨v, rfl, rv⟩ := one_rep r
  obtain ⟨pa, ys, rfl, hq, rr⟩ := Rep.lst_ hc rv hd
  obtain rfl := repL_bl rr
  exact ⟨pa, ns, rfl, SqL.of hq, k _ _ A H Δ (Ext.refl _ _) hc (.bl _) q⟩⟩
def zAll : ZRC := fun ds Δ P => ∃ (d : D) (bs : List Bool), ds = [d] ∧ lstD Δ d = some (bs.map D.bl) ∧ P (.bl (bs.all id)) Δ
theorem cz_all (hc : X.calm = true := by rfl) : CallZ C X (.builtin "all") zAll := ⟨_, cr_all hc, fun S A H Δ xs ds P Q hc r hz k => by
  obtain ⟨d, ns, rfl, hd, q⟩ := hz
  obtain ⟨v, rfl, rv⟩ := one_rep r
  obtain ⟨pa, ys, rfl, hq, rr⟩ := Rep.lst_ hc rv hd
  obtain rfl := repL_bl rr
  exact ⟨pa, ns, rfl, SqL.of hq, k _ _ A H Δ (Ext.refl _ _) hc (.bl _) q⟩⟩
def zAbs : ZRC := fun ds Δ P => ∃ i, ds = [.int i] ∧ P (.int (if i < 0 then -i else i)) Δ
theorem cz_abs : CallZ C X (.builtin "abs") zAbs := ⟨_, call_abs, fun S A H Δ xs ds P Q hc r hz k => by
  obtain ⟨i, rfl, q⟩ := hz
  obtain ⟨v, rfl, rv⟩ := one_rep r
  cases rv
  exact ⟨i, rfl, k _ _ A H Δ (Ext.refl _ _) hc (.int _) q⟩⟩
def zMax2 : ZRC := fun ds Δ P => ∃ i j, ds = [.int i, .int j] ∧ P (.int (if j > i then j else i)) Δ
theorem cz_max2 (hc : X.calm = true := by rfl) : CallZ C X (.builtin "max") zMax2 := ⟨_, call_max2 hc, fun S A H Δ xs ds P Q hc r hz k => by
  obtain ⟨i, j, rfl, q⟩ := hz
  obtain ⟨v, v', rfl, rv, rv'⟩ := two_rep r
  cases rv
  cases rv'
  exact ⟨i, j, rfl, k _ _ A H Δ (Ext.refl _ _) hc (.int _) q⟩⟩
def zMin2 : ZRC := fun ds Δ P => ∃ i j, ds = [.int i, .int j] ∧ P (.int (if j < i then j else i)) Δ
theorem cz_min2 (hc : X.calm = true := by rfl) : CallZ C X (.builtin "min") zMin2 := ⟨_, call_min2 hc, fun S A H Δ xs ds P Q hc r hz k => by
  obtain ⟨i, j, rfl, q⟩ := hz
  obtain ⟨v, v', rfl, rv, rv'⟩ := two_rep r
  cases rv
  cases rv'
  exact ⟨i, j, rfl, k _ _ A H Δ (Ext.refl _ _) hc (.int _) q⟩⟩
def zInt : ZRC := fun ds Δ P => (∃ i, ds = [.int i] ∧ P (.int i) Δ) ∨ ∃ b, ds = [.bl b] ∧ P (.int (if b then 1 else 0)) Δ
theorem cz_int : CallZ C X (.type "int") zInt := ⟨_, call_int1, fun S A H Δ xs ds P Q hc r hz k => by
  rcases hz with ⟨i, rfl, q⟩ | ⟨b, rfl, q⟩
  · obtain ⟨v, rfl, rv⟩ := one_rep r
    cases rv
    exact .inl ⟨i, rfl, k _ _ A H Δ (Ext.refl _ _) hc (.int _) q⟩
  · obtain ⟨v, rfl, rv⟩ := one_rep r
    cases rv
    exact .inr ⟨b, rfl, k _ _ A H Δ (Ext.refl _ _) hc (.int _) q⟩⟩
/-- list(xs): a new list; as a cell -/
def zList : ZRC := fun ds Δ P => ∃ d es, ds = [d] ∧ seqD Δ d = some es ∧ P (.lst es) Δ
def zListC : ZRC := fun ds Δ P => ∃ d es, ds = [d] ∧ seqD Δ d = some es ∧ P (.cell Δ.length) (Δ ++ [.lst es])
theorem cz_list : CallZ C X (.type "list") zList := ⟨_, call_list_of, fun S A H Δ xs ds P Q hc r hz k => by
  obtain ⟨d, es, rfl, hd, q⟩ := hz
  obtain ⟨v, rfl, rv⟩ := one_rep r
  obtain ⟨pa, ys, rfl, hq, rr⟩ := Rep.seq hc rv hd
  refine ⟨pa, ys, rfl, hq, fun l hl => ?_⟩
  exact k _ _ A _ Δ (Ext.new hl) (hc.new hl) (.lst upd_same (hc.fresh hl) (hc.aside hl) (rr.ext (Ext.new hl))) q⟩
theorem cz_listC : CallZ C X (.type "list") zListC := ⟨_, call_list_of, fun S A H Δ xs ds P Q hc r hz k => by
  obtain ⟨d, es, rfl, hd, q⟩ := hz
  obtain ⟨v, rfl, rv⟩ := one_rep r
  obtain ⟨pa, ys, rfl, hq, rr⟩ := Rep.seq hc rv hd
  refine ⟨pa, ys, rfl, hq, fun l hl => ?_⟩
  refine k _ _ (A ++ [l]) _ _ (Ext.newCell hl) (hc.newCell hl rr) (.cell ?_) q
  rw [← hc.len, List.getElem?_append_right (Nat.le_refl _), Nat.sub_self]
  rfl⟩
def zGcd : ZRC := fun ds Δ P => ∃ i j : Int, ds = [.int i, .int j] ∧ P (.int (Int.gcd i j : Nat)) Δ
theorem cz_gcd : CallZ C X (.builtin "math.gcd") zGcd := ⟨_, cr_gcd, fun S A H Δ xs ds P Q hc r hz k => by
  obtain ⟨i, j, rfl, q⟩ := hz
  obtain ⟨v, v', rfl, rv, rv'⟩ := two_rep r
  cases rv
  cases rv'
  exact ⟨i, j, rfl, k _ _ A H Δ (Ext.refl _ _) hc (.int _) q⟩⟩

/-! ### xs.append(e) -/
def zAppend (zo : ZE) (za : ZA) : ZE := fun Γ Δ P => zo Γ Δ fun o Δ1 => (∃ n ds, o = .cell n ∧ Δ1[n]? = some (.lst ds)) ∧ za Γ Δ1 fun as Δ2 => ∃ n ds y, o = .cell n ∧ Δ2[n]? = some (.lst ds) ∧ as = [y] ∧ ds.length < 100000 ∧ P .non (Δ2.set n (.lst (ds ++ [y])))
variable {o : Expr} {zo : ZE} {apos cpos : Pos}
theorem ez_append (ho : EZ C X o zo) (ha : AZ C X (e :: es) za)
    (hbase : attributeBase o "append" X.env (eval o X.env) = eval o X.env := by rfl)
    (hfew : ((backTo cpos (starEach (e :: es) X.env)).all (fun x => !x.1) && (backToKw cpos (keywordEach [] X.env)).all (fun x => x.1.isSome)
      && decide ((e :: es).length + ([] : List Keyword).length + (if ([] : List Keyword).isEmpty then 0 else 1) < 30)) = true := by rfl)
    (hline : (apos.endLine == cpos.line) = true := by rfl) (hs : starEach (e :: es) X.env = (false, eval e X.env) :: starEach es X.env := by rfl) (hplain : (backTo cpos (starEach es X.env)).any (·.1) = false := by rfl) :
    EZ C X (.Call (.Attribute o "append" apos) (e :: es) [] cpos) (zAppend zo za) := by
  obtain ⟨t, o1, o2⟩ := ho.ex
  obtain ⟨u, a1, a2⟩ := ha.ex
  refine ⟨_, pe_bm PySem.F.plainAttrs_list PySem.F.slot_list_append PySem.F.type_list_append mt_append o1 a1 hbase hfew hline hs hplain, fun S A σ H Γ Δ P Q hs hc hz k => o2 S A σ H Γ Δ _ _ hs hc hz fun v d A1 H1 Δ1 e1 c1 r1 p => ?_⟩
  obtain ⟨⟨n, ds, rfl, hd⟩, p⟩ := p
  cases r1 with
  | cell g =>
    obtain ⟨xs, g1, g2⟩ := c1.at_ n _ _ g hd
    refine ⟨.inl ⟨rfl, _, SqL.of g1⟩, a2 S A1 σ H1 Γ Δ1 _ _ (hs.ext e1) c1 p fun vs as A2 H2 Δ2 e2 c2 r2 p2 => ?_⟩
    obtain ⟨n', ds', y, hn, hd', rfl, hl, p2⟩ := p2
    cases hn
    obtain ⟨v, rfl, rv⟩ := one_rep r2
    rename_i pa
    have g' : A2[n]? = some pa := by
      obtain ⟨B, hB, _⟩ := e2.pre
      rw [hB, List.getElem?_append_left (List.getElem?_eq_some_iff.mp g).1]
      exact g
    obtain ⟨xs', g3, g4⟩ := c2.at_ n _ _ g' hd'
    have q := c2.put g' (g4.append (.cons rv .nil))
    exact ⟨_, xs', v, rfl, rfl, g3, lt_line (by rw [g4.length]; exact hl), k _ _ A2 _ _ ((e1.trans e2).trans q.2) q.1 .non p2⟩

/-! ### zip, enumerate -/
def ziZip (za : ZA) : ZI := fun Γ Δ P => za Γ Δ fun ds Δ1 => ∃ xs ys, ds = [.lst xs, .lst ys] ∧ P ((xs.zip ys).map fun q => .tup [q.1, q.2]) Δ1
theorem iz_zip {e e2 : Expr} {tpos : Pos} {elts : List Expr} {kk : Nat} (ha : AZ C X [e, e2] za) (hm : X.mg "zip" = none) (hg : Gl X "zip" := by rfl)
    (hs : starEach [e, e2] X.env = (false, eval e X.env) :: starEach [e2] X.env := by rfl) (hpl : (backTo pos (starEach [e2] X.env)).any (·.1) = false := by rfl) : IZ C X (.Tuple elts kk tpos) (.Call (.Name "zip" p) [e, e2] [] pos) (ziZip za) := by
  obtain ⟨t, a1, a2⟩ := ha.ex
  refine ⟨_, pi_zip hg hm a1 hs hpl, fun S A σ H Γ Δ P R hs hc hz k => a2 S A σ H Γ Δ _ _ hs hc hz fun vs ds A1 H1 Δ1 e1 c1 r1 q => ?_⟩
  obtain ⟨xs, ys, rfl, q⟩ := q
  obtain ⟨v, v', rfl, rv, rv'⟩ := two_rep r1
  cases rv with
  | lst g1 g2 g3 g4 =>
    cases rv' with
    | lst h1 h2 h3 h4 =>
      rename_i a us b ws
      refine ⟨a, b, us, ws, rfl, SqL.of g1, SqL.of h1, ?_⟩
      refine k (Itz X.K a b) (min us.length ws.length) _ _ _ A1 H1 Δ1 e1 c1 q (by rw [List.length_map, List.length_zip, g4.length, h4.length]) (walk_zip rfl) (fun S2 A2 H2 m => ⟨SqL.of (m.keep _ _ g2 g3 g1), SqL.of (m.keep _ _ h2 h3 h1)⟩) fun S2 A2 H2 Δ2 i x H3 hi m c2 y => ?_
      obtain ⟨T, y1, y2, rfl, nT, rfl, f1, f2⟩ := y
      obtain ⟨d1, q1, q2⟩ := (RepL.mono m _ g4).getV f1
      obtain ⟨d2, q3, q4⟩ := (RepL.mono m _ h4).getV f2
      refine ⟨.tup [d1, d2], ?_, fun b o h => by rw [upd_ne (ne_of_none h nT)]; exact h, .tup upd_same (c2.fresh nT) (c2.aside nT) (.cons (q2.ext (Ext.new nT)) (.cons (q4.ext (Ext.new nT)) .nil))⟩
      rw [List.getElem?_map, List.getElem?_zip_eq_some.mpr (show xs[i]? = some (d1, d2).1 ∧ ys[i]? = some (d1, d2).2 from ⟨q1, q3⟩)]
      rfl
def enumD (xs : List D) : List D := xs.zipIdx.map fun q => .tup [.int (q.2 : Nat), q.1]
def ziEnum (za : ZA) : ZI := fun Γ Δ P => za Γ Δ fun ds Δ1 => ∃ xs, ds = [.lst xs] ∧ P (enumD xs) Δ1
theorem iz_enum {e : Expr} {tpos : Pos} {elts : List Expr} {kk : Nat} (ha : AZ C X [e] za) (hm : X.mg "enumerate" = none) (hg : Gl X "enumerate" := by rfl) (hs : starEach [e] X.env = [(false, eval e X.env)] := by rfl) : IZ C X (.Tuple elts kk tpos) (.Call (.Name "enumerate" p) [e] [] pos) (ziEnum za) := by
  obtain ⟨t, a1, a2⟩ := ha.ex
  refine ⟨_, pi_enum hg hm a1 hs, fun S A σ H Γ Δ P R hs hc hz k => a2 S A σ H Γ Δ _ _ hs hc hz fun vs ds A1 H1 Δ1 e1 c1 r1 q => ?_⟩
  obtain ⟨xs, rfl, q⟩ := q
  obtain ⟨v, rfl, rv⟩ := one_rep r1
  cases rv with
  | lst g1 g2 g3 g4 =>
    rename_i a us
    refine ⟨a, us, rfl, SqL.of g1, ?_⟩
    refine k (Ite X.K a) us.length _ _ _ A1 H1 Δ1 e1 c1 q (by unfold enumD; rw [List.length_map, List.length_zipIdx, g4.length]) walk_enum (fun S2 A2 H2 m => SqL.of (m.keep _ _ g2 g3 g1)) fun S2 A2 H2 Δ2 i x H3 hi m c2 y => ?_
    obtain ⟨T, y1, y2, rfl, nT, rfl, f1, f2⟩ := y
    cases f1
    obtain ⟨d2, q3, q4⟩ := (RepL.mono m _ g4).getV f2
    refine ⟨.tup [.int (i : Nat), d2], ?_, fun b o h => by rw [upd_ne (ne_of_none h nT)]; exact h, .tup upd_same (c2.fresh nT) (c2.aside nT) (.cons (.int _) (.cons (q4.ext (Ext.new nT)) .nil))⟩
    unfold enumD
    rw [List.getElem?_map, List.getElem?_zipIdx, q3]
    simp
end
end Z

/-! Z5: own classes over data: attributes, properties, methods, calls of instances, making, ==; isinstance. -/
namespace Z
open PySem L2

/-! ### attributes -/
def fldD (C : CI) (Δ : Store) (c : Nat) (f : Str) : D → Option D
  | .ins c' ds => if c' = c then ((C.nms c).zip ds).lookup f else none
  | .cell n => match Δ[n]? with
    | some (.ins c' fs) => if c' = c then fs.lookup f else none
    | _ => none
  | _ => none
/-- an instance of the class c -/
def insD (Δ : Store) (c : Nat) (x : D) : Prop := (∃ ds, x = .ins c ds) ∨ ∃ n fs, x = .cell n ∧ Δ[n]? = some (.ins c fs)
section
variable {K : PySem.W.Frag} {C : CI} {S A : List Addr} {H : Hp} {Δ : Store}
theorem zip_lookup {f : Str} {d : D} : ∀ {ns : List Str} {xs : List V} {ds : List D}, RepL K C S A H xs ds → (ns.zip ds).lookup f = some d → ∃ v, (ns.zip xs).lookup f = some v ∧ Rep K C S A H v d
  | [], _, _, _, h => by simp at h
  | _ :: _, _, _, .nil, h => by simp at h
  | n :: ns, _, _, .cons h1 r, h => by
    rw [List.zip_cons_cons, List.lookup_cons] at h ⊢
    cases e : f == n with
    | true =>
      rw [e] at h
      cases h
      exact ⟨_, rfl, h1⟩
    | false =>
      rw [e] at h
      exact zip_lookup r h
theorem prs_lookup {f : Str} {d : D} : ∀ {xs : List (Str × V)} {fs : List (Str × D)}, xs.map (·.1) = fs.map (·.1) → RepL K C S A H (xs.map (·.2)) (fs.map (·.2)) → fs.lookup f = some d → ∃ v, xs.lookup f = some v ∧ Rep K C S A H v d
  | [], [], _, _, h => by simp at h
  | [], _ :: _, e, _, _ => by simp at e
  | _ :: _, [], e, _, _ => by simp at e
  | (n, x) :: xs, (m, y) :: fs, e, r, h => by
    rw [List.map_cons, List.map_cons] at e r
    obtain ⟨e1, e2⟩ := List.cons.inj e
    have e1 : n = m := e1
    subst e1
    cases r with
    | cons h1 r =>
      rw [List.lookup_cons] at h ⊢
      cases q : f == n with
      | true =>
        simp only [q] at h ⊢
        cases h
        exact ⟨_, rfl, h1⟩
      | false =>
        simp only [q] at h ⊢
        exact prs_lookup e2 r h
theorem Rep.fld {x : V} {d0 d : D} {c : Nat} {f : Str} (hc : Cells K C S A H Δ) (r : Rep K C S A H x d0) (h : fldD C Δ c f d0 = some d) :
    ∃ a dx fs v, x = .ref a ∧ H a = some (.ins (C.adr c) dx fs) ∧ fs.lookup f = some v ∧ Rep K C S A H v d := by
  cases r with
  | ins h1 h2 h3 h4 h5 =>
    rename_i a dx c' xs ds
    have h : (if c' = c then ((C.nms c).zip ds).lookup f else none) = some d := h
    by_cases e : c' = c
    · subst e
      rw [if_pos rfl] at h
      obtain ⟨v, g1, g2⟩ := zip_lookup h5 h
      exact ⟨_, _, _, v, rfl, h1, g1, g2⟩
    · rw [if_neg e] at h
      cases h
  | cell e =>
    rename_i a n
    unfold fldD at h
    cases q : Δ[n]? with
    | none => simp only [q] at h; cases h
    | some o =>
      cases o with
      | lst _ => simp only [q] at h; cases h
      | dct _ _ => simp only [q] at h; cases h
      | ins c' fs =>
        simp only [q] at h
        by_cases e2 : c' = c
        · subst e2
          rw [if_pos rfl] at h
          obtain ⟨dx, xs, g1, g2, g3⟩ := hc.at_ n a _ e q
          obtain ⟨v, g4, g5⟩ := prs_lookup g2 g3 h
          exact ⟨a, dx, xs, v, rfl, g1, g4, g5⟩
        · rw [if_neg e2] at h
          cases h
  | non => exact nomatch h
  | dct _ _ _ _ _ => exact nomatch h
  | ktup _ => exact nomatch h
  | exc _ _ _ => exact nomatch h
  | bl b => exact nomatch h
  | int b => exact nomatch h
  | str b => exact nomatch h
  | ty b => exact nomatch h
  | tup _ _ _ _ => exact nomatch h
  | lst _ _ _ _ => exact nomatch h
  | scr _ => exact nomatch h
  | cls _ => exact nomatch h
theorem Rep.inst {x : V} {d0 : D} {c : Nat} (hc : Cells K C S A H Δ) (r : Rep K C S A H x d0) (h : insD Δ c d0) : ∃ a dx fs, x = .ref a ∧ H a = some (.ins (C.adr c) dx fs) := by
  rcases h with ⟨ds, rfl⟩ | ⟨n, fs, rfl, q⟩
  · cases r with
    | ins h1 h2 h3 h4 h5 => exact ⟨_, _, _, rfl, h1⟩
  · cases r with
    | cell e =>
      obtain ⟨dx, xs, g1, _⟩ := hc.at_ n _ _ e q
      exact ⟨_, _, _, rfl, g1⟩
end
def zFld (C : CI) (c : Nat) (f : Str) (z : ZE) : ZE := fun Γ Δ P => z Γ Δ fun x Δ1 => ∃ d, fldD C Δ1 c f x = some d ∧ P d Δ1
/-- a property: its getter's promise -/
def zProp (c : Nat) (W : ZRC) (z : ZE) : ZE := fun Γ Δ P => z Γ Δ fun x Δ1 => insD Δ1 c x ∧ W [x] Δ1 P
section
variable {C : CI} {X : Cx} {e : Expr} {es : List Expr} {ze : ZE} {za : ZA} {pos p : Pos} {x : Str} {k : Nat} {f g : Addr} {fd : FuncData} {ps : List Str} {W : ZRC} {dvs : List V} {dds : List D} {ds : List Value}
theorem ez_fld {c : Nat} {f : Str} (he : EZ C X e ze) (cl : Cls X.K (C.adr c)) (n : NoAttr X.K (C.adr c) f) (hb : attributeBase e f X.env (eval e X.env) = eval e X.env := by rfl) : EZ C X (.Attribute e f pos) (zFld C c f ze) := by
  obtain ⟨t, h1, h2⟩ := he.ex
  refine ⟨_, pe_fld h1 hb, fun S A σ H Γ Δ P Q hs hc hz k => h2 S A σ H Γ Δ _ _ hs hc hz fun v d A1 H1 Δ1 e1 c1 r1 p => ?_⟩
  obtain ⟨d2, hd, p⟩ := p
  obtain ⟨a, dx, fs, w, rfl, g1, g2, g3⟩ := r1.fld c1 hd
  exact ⟨a, _, dx, fs, w, rfl, g1, cl, n, g2, k w d2 A1 H1 Δ1 e1 c1 g3 p⟩
theorem ez_prop {c : Nat} {nm : Str} {pr : Addr} (he : EZ C X e ze) (cl : Cls X.K (C.adr c)) (hp : PropOf X.K (C.adr c) nm pr g) (F : FnOk X.prog X.w X.K X.mg X.base CX0 k g fd ps (SpZ X.K C W)) (hr : Room (k + 1) X.A) (hb : Binds X.K fd ps [])
    (hab : attributeBase e nm X.env (eval e X.env) = eval e X.env := by rfl) : EZ C X (.Attribute e nm pos) (zProp c W ze) := by
  obtain ⟨t, h1, h2⟩ := he.ex
  refine ⟨_, pe_prop h1 cl hp F hr hb .nil (E := E0) (fun _ _ _ _ _ _ _ h => h.elim) hab, fun S A σ H Γ Δ P Q hs hc hz k => h2 S A σ H Γ Δ _ _ hs hc hz fun v d A1 H1 Δ1 e1 c1 r1 p => ?_⟩
  obtain ⟨hi, p⟩ := p
  obtain ⟨a, dx, fs, rfl, g1⟩ := r1.inst c1 hi
  exact ⟨a, dx, fs, rfl, g1, S, A1, Δ1, [d], P, .cons r1 .nil, c1, p, fun v d A' H' Δ' e2 c2 r2 p2 => k v d A' H' Δ' (e1.trans e2) c2 r2 p2⟩
/-- x(e, ..), x an instance of the class c -/
def zCallO (c : Nat) (W : ZRC) (zf : ZE) (za : ZA) : ZE := fun Γ Δ P => zf Γ Δ fun y Δ1 => insD Δ1 c y ∧ za Γ Δ1 fun ds Δ2 => insD Δ2 c y ∧ W (y :: ds) Δ2 P
theorem ez_callO {c : Nat} {fe : Expr} {zf : ZE} (hf : EZ C X fe zf) (co : StX.CallO X.K (C.adr c) g) (F : FnOk X.prog X.w X.K X.mg X.base CX0 k g fd ps (SpZ X.K C W)) (hr : Room k X.A) (hb : Binds X.K fd ps []) (ha : AZ C X (e :: es) za)
    (ht : eval (.Call fe (e :: es) [] pos) X.env = (do callWith pos (← eval fe X.env) [] (backTo pos (starEach (e :: es) X.env)) (backToKw pos (keywordEach [] X.env))) := by rfl)
    (he : starEach (e :: es) X.env = (false, eval e X.env) :: starEach es X.env := by rfl) (hpl : (backTo pos (starEach es X.env)).any (·.1) = false := by rfl) : EZ C X (.Call fe (e :: es) [] pos) (zCallO c W zf za) := by
  obtain ⟨t, f1, f2⟩ := hf.ex
  obtain ⟨u, a1, a2⟩ := ha.ex
  have FR : FnR X.prog X.w X.K X.mg X.base CX0 k g (fun vs H Q E => SpZ X.K C W (vs ++ []) H Q E) := F.raw hb .nil
  refine ⟨_, StX.pe_callO f1 co FR hr (E := E0) pass0 a1 ht he hpl, fun S A σ H Γ Δ P Q hs hc hz k => f2 S A σ H Γ Δ _ _ hs hc hz fun v d A1 H1 Δ1 e1 c1 r1 p => ?_⟩
  obtain ⟨hi0, p⟩ := p
  have hv : ∃ a, v = .ref a := by
    obtain ⟨a, _, _, ea, _⟩ := r1.inst c1 hi0
    exact ⟨a, ea⟩
  obtain ⟨a, rfl⟩ := hv
  refine ⟨a, rfl, a2 S A1 σ H1 Γ Δ1 _ _ (hs.ext e1) c1 p fun vs ds A2 H2 Δ2 e2 c2 r2 p2 => ?_⟩
  obtain ⟨hi, p2⟩ := p2
  have r1' := r1.ext e2
  obtain ⟨a', dx, fs, ea, g1⟩ := r1'.inst c2 hi
  cases ea
  exact ⟨.inr ⟨dx, fs, g1⟩, S, A2, Δ2, d :: ds, P, by rw [List.append_nil]; exact .cons r1' r2, c2, p2, fun v d A' H' Δ' e3 c3 r3 p3 => k v d A' H' Δ' ((e1.trans e2).trans e3) c3 r3 p3⟩
end

/-! ### stores into attributes -/
def putFd (f : Str) (v : D) : List (Str × D) → List (Str × D)
  | [] => [(f, v)]
  | (g, x) :: r => if g = f then (g, v) :: r else (g, x) :: putFd f v r
def zSetF (c : Nat) (f : Str) (zo zv : ZE) : ZS := fun Z Γ Δ => zv Γ Δ fun y Δ1 => zo Γ Δ1 fun o Δ2 => ∃ n fs, o = .cell n ∧ Δ2[n]? = some (.ins c fs) ∧ fs.length < 1000 ∧ Z.nx Γ (Δ2.set n (.ins c (putFd f y fs)))
section
variable {K : PySem.W.Frag} {C : CI} {S A : List Addr} {H : Hp} {Δ : Store}
theorem putF_rep {f : Str} {v : V} {d : D} (r : Rep K C S A H v d) : ∀ {xs : List (Str × V)} {fs : List (Str × D)}, xs.map (·.1) = fs.map (·.1) → RepL K C S A H (xs.map (·.2)) (fs.map (·.2)) →
    (putF f v xs).map (·.1) = (putFd f d fs).map (·.1) ∧ RepL K C S A H ((putF f v xs).map (·.2)) ((putFd f d fs).map (·.2))
  | [], [], _, _ => ⟨rfl, .cons r .nil⟩
  | [], _ :: _, e, _ => by simp at e
  | _ :: _, [], e, _ => by simp at e
  | (n, x) :: xs, (m, y) :: fs, e, rr => by
    rw [List.map_cons, List.map_cons] at e rr
    obtain ⟨e1, e2⟩ := List.cons.inj e
    have e1 : n = m := e1
    subst e1
    cases rr with
    | cons h1 rr =>
      unfold putF putFd
      by_cases q : n = f
      · rw [if_pos q, if_pos q]
        exact ⟨by rw [List.map_cons, List.map_cons, e2], .cons r rr⟩
      · rw [if_neg q, if_neg q]
        obtain ⟨g1, g2⟩ := putF_rep r e2 rr
        exact ⟨by rw [List.map_cons, List.map_cons, g1], .cons h1 g2⟩
end
section
variable {C : CI} {X : Cx} {o value : Expr} {zo zv : ZE} {pos pos' : Pos} {f : Str}
theorem sz_setF {c : Nat} (ho : EZ C X o zo) (hv : EZ C X value zv) (cl : Cls X.K (C.adr c)) (n : NoAttr X.K (C.adr c) f) (hs : swapsWith value (some (.Attribute o f pos')) pos.line X.env = pure false := by rfl) : SZ C X (.Assign [.Attribute o f pos'] value pos) (zSetF c f zo zv) := by
  obtain ⟨t, o1, o2⟩ := ho.ex
  obtain ⟨u, v1, v2⟩ := hv.ex
  refine ⟨_, ps_fld o1 v1 hs, fun S A σ H Γ Δ Z N hs hc hz k => v2 S A σ H Γ Δ _ _ hs hc hz fun y dy A1 H1 Δ1 e1 c1 r1 p => o2 S A1 σ H1 Γ Δ1 _ _ (hs.ext e1) c1 p fun w dw A2 H2 Δ2 e2 c2 r2 p => ?_⟩
  obtain ⟨m, fs, rfl, hm, hl, p⟩ := p
  cases r2 with
  | cell g =>
    rename_i a
    obtain ⟨dx, xs, g1, g2, g3⟩ := c2.at_ m a _ g hm
    have hlen : xs.length = fs.length := by have := congrArg List.length g2; rw [List.length_map, List.length_map] at this; exact this
    have hp : a ∈ A2 := List.mem_of_getElem? g
    have ew : Ext A2 H2 A2 (upd H2 a (.ins (C.adr c) dx (putF f y xs))) := Ext.write hp (by rw [g1]; simp)
    obtain ⟨q1, q2⟩ := putF_rep (f := f) (r1.ext e2) g2 g3
    have q := c2.putO (u := .ins (C.adr c) dx (putF f y xs)) (o := .ins c (putFd f dy fs)) g ⟨dx, _, upd_same, q1, q2.ext ew⟩
    exact ⟨a, C.adr c, dx, xs, rfl, g1, cl, n, by rw [hlen]; exact hl, k.nx σ A2 _ Γ _ ((e1.trans e2).trans q.2) ((hs.ext (e1.trans e2)).ext q.2) q.1 p⟩
end

/-! ### an instance is made and never changed again -/
mutual
def below (m : Nat) : D → Bool
  | .cell n => decide (n < m)
  | .tup ds | .lst ds | .ins _ ds | .dct _ ds => belowL m ds
  | _ => true
def belowL (m : Nat) : List D → Bool
  | [] => true
  | d :: ds => below m d && belowL m ds
end
section
variable {K : PySem.W.Frag} {C : CI} {S A : List Addr} {H : Hp} {Δ : Store} {x : Addr}
theorem notMem_left {a : Addr} (h : a ∉ A ++ [x]) : a ∉ A := fun q => h (List.mem_append_left _ q)
mutual
theorem Rep.drop : ∀ (d : D) {v : V}, below A.length d = true → Rep K C S (A ++ [x]) H v d → Rep K C S A H v d
  | .non, _, _, h => by cases h; exact .non
  | .bl b, _, _, h => by cases h; exact .bl b
  | .int i, _, _, h => by cases h; exact .int i
  | .str x, _, _, h => by cases h; exact .str x
  | .ty n, _, _, h => by cases h; exact .ty n
  | .cls c, _, _, h => by cases h; exact .cls c
  | .ktup ns, _, _, h => by cases h with | ktup h => exact .ktup h
  | .exc c, _, _, h => by cases h with | exc h hA hS => exact .exc h (notMem_left hA) hS
  | .tup ds, _, hb, h => by cases h with | tup h hA hS r => exact .tup h (notMem_left hA) hS (RepL.drop_ ds hb r)
  | .lst ds, _, hb, h => by cases h with | lst h hA hS r => exact .lst h (notMem_left hA) hS (RepL.drop_ ds hb r)
  | .ins c ds, _, hb, h => by cases h with | ins h hA hS hl r => exact .ins h (notMem_left hA) hS hl (RepL.drop_ ds hb r)
  | .dct ks ds, _, hb, h => by cases h with | dct h hA hS hl r => exact .dct h (notMem_left hA) hS hl (RepL.drop_ ds hb r)
  | .cell n, _, hb, h => by
    cases h with
    | cell h =>
      have hn : n < A.length := of_decide_eq_true hb
      rw [List.getElem?_append_left hn] at h
      exact .cell h
  | .scr ns, _, _, h => by
    cases h with
    | scr h =>
      rcases h with ⟨h, hA, hS⟩ | h
      · exact .scr (.inl ⟨h, notMem_left hA, hS⟩)
      · exact .scr (.inr h)
theorem RepL.drop_ : ∀ (ds : List D) {vs : List V}, belowL A.length ds = true → RepL K C S (A ++ [x]) H vs ds → RepL K C S A H vs ds
  | [], _, _, h => by cases h; exact .nil
  | d :: ds, _, hb, h => by
    have hb' : (below A.length d && belowL A.length ds) = true := hb
    rw [Bool.and_eq_true] at hb'
    cases h with
    | cons h r => exact .cons (Rep.drop d hb'.1 h) (RepL.drop_ ds hb'.2 r)
end
mutual
theorem Rep.blw : ∀ (d : D) {v : V}, Rep K C S A H v d → below A.length d = true
  | .non, _, h => rfl
  | .bl b, _, h => rfl
  | .int i, _, h => rfl
  | .str x, _, h => rfl
  | .ty n, _, h => rfl
  | .cls c, _, h => rfl
  | .tup ds, _, h => by cases h with | tup h hA hS r => exact RepL.blw ds r
  | .lst ds, _, h => by cases h with | lst h hA hS r => exact RepL.blw ds r
  | .ins c ds, _, h => by cases h with | ins h hA hS hl r => exact RepL.blw ds r
  | .dct ks ds, _, h => by cases h with | dct h hA hS hl r => exact RepL.blw ds r
  | .cell n, _, h => by cases h with | cell h => exact decide_eq_true (List.getElem?_eq_some_iff.mp h).1
  | .ktup ns, _, h => rfl
  | .exc c, _, h => rfl
  | .scr ns, _, h => rfl
theorem RepL.blw : ∀ (ds : List D) {vs : List V}, RepL K C S A H vs ds → belowL A.length ds = true
  | [], _, _ => rfl
  | d :: ds, _, h => by
    cases h with
    | cons h r =>
      show (Z.below A.length d && belowL A.length ds) = true
      rw [Rep.blw d h, RepL.blw ds r]
      rfl
end
theorem zip_of : ∀ {ns : List Str} {xs : List (Str × V)}, xs.map (·.1) = ns → xs = ns.zip (xs.map (·.2))
  | [], [], _ => rfl
  | [], _ :: _, e => by simp at e
  | _ :: _, [], e => by simp at e
  | n :: ns, (m, x) :: xs, e => by
    obtain ⟨e1, e2⟩ := List.cons.inj e
    have e1 : m = n := e1
    subst e1
    rw [List.map_cons, List.zip_cons_cons, ← zip_of e2]
theorem zip_fst : ∀ {ns : List Str} {es : List D}, es.length = ns.length → (ns.zip es).map (·.1) = ns
  | [], [], _ => rfl
  | [], _ :: _, e => by simp at e
  | _ :: _, [], e => by simp at e
  | n :: ns, d :: es, e => by
    rw [List.zip_cons_cons, List.map_cons, zip_fst (by simpa using e)]
theorem zip_snd : ∀ {ns : List Str} {es : List D}, es.length = ns.length → (ns.zip es).map (·.2) = es
  | [], [], _ => rfl
  | [], _ :: _, e => by simp at e
  | _ :: _, [], e => by simp at e
  | n :: ns, d :: es, e => by
    rw [List.zip_cons_cons, List.map_cons, zip_snd (by simpa using e)]
/-- the last cell forgotten: an instance that stays as it is -/
theorem Cells.freeze {H0 : Hp} {c : Nat} {es : List D} (c1 : Cells K C S A H0 Δ) (hc : Cells K C S (A ++ [x]) H (Δ ++ [.ins c ((C.nms c).zip es)])) (hl : es.length = (C.nms c).length) (hb : belowL A.length es = true) : Cells K C S A H Δ ∧ Rep K C S A H (.ref x) (.ins c es) := by
  have lenΔ := c1.len
  refine ⟨⟨c1.len, c1.nd, c1.dj, hc.as, fun n a o h1 h2 => ?_⟩, ?_⟩
  · have hn : n < A.length := (List.getElem?_eq_some_iff.mp h1).1
    have q := hc.at_ n a o (by rw [List.getElem?_append_left hn]; exact h1) (by rw [List.getElem?_append_left (by rw [← lenΔ]; exact hn)]; exact h2)
    have q0 := c1.at_ n a o h1 h2
    cases o with
    | lst ds =>
      obtain ⟨xs, g1, g2⟩ := q
      obtain ⟨_, _, g3⟩ := q0
      exact ⟨xs, g1, RepL.drop_ ds (RepL.blw ds g3) g2⟩
    | ins c fs =>
      obtain ⟨dx, xs, g1, g2, g3⟩ := q
      obtain ⟨_, _, _, _, g4⟩ := q0
      exact ⟨dx, xs, g1, g2, RepL.drop_ _ (RepL.blw _ g4) g3⟩
    | dct ks ds =>
      obtain ⟨xs, g1, g2, g3⟩ := q
      obtain ⟨_, _, _, g4⟩ := q0
      exact ⟨xs, g1, g2, RepL.drop_ _ (RepL.blw _ g4) g3⟩
  · have q := hc.at_ A.length x (.ins c ((C.nms c).zip es)) (by rw [List.getElem?_append_right (Nat.le_refl _), Nat.sub_self] <;> rfl) (by rw [lenΔ, List.getElem?_append_right (Nat.le_refl _), Nat.sub_self] <;> rfl)
    obtain ⟨dx, xs, g1, g2, g3⟩ := q
    rw [zip_fst hl] at g2
    rw [zip_snd hl] at g3
    have hx : x ∉ A := fun h => by
      have := List.nodup_append.mp hc.nd
      exact this.2.2 x h x (by simp) rfl
    have hxS : x ∉ S := hc.dj x (by simp)
    rw [zip_of g2] at g1
    exact .ins g1 hx hxS (by rw [g3.length]; exact hl) (RepL.drop_ es hb g3)
end
/-- C(..), never changed again: what __init__ makes of a new cell, as data -/
def zMakeF (C : CI) (c : Nat) (W : ZRC) (dds : List D) (za : ZA) : ZE := fun Γ Δ P => za Γ Δ fun ds Δ1 => W (.cell Δ1.length :: (ds ++ dds)) (Δ1 ++ [.ins c []]) fun v Δ2 => v = .non ∧ ∃ es, Δ2 = Δ1 ++ [.ins c ((C.nms c).zip es)] ∧ es.length = (C.nms c).length ∧ belowL Δ1.length es = true ∧ P (.ins c es) Δ1
section
variable {C : CI} {X : Cx} {e : Expr} {es : List Expr} {za : ZA} {pos p : Pos} {x : Str} {k : Nat} {f : Addr} {fd : FuncData} {ps : List Str} {W : ZRC} {dvs : List V} {dds : List D} {ds : List Value}
theorem ref_make {K : PySem.W.Frag} {c : Nat} {ta : TA} {E : XK} (ha : RefA K C ta za) (hdd : ∀ S A H, RepL K C S A H dvs dds) : RefE K C (tMake (C.adr c) (SpZ K C W) dvs E ta) (zMakeF C c W dds za) := fun S A σ H Γ Δ P Q hs hc hz k =>
  ha S A σ H Γ Δ _ _ hs hc hz fun vs ds A1 H1 Δ1 e1 c1 r1 p x dx hx hdx hne => by
    have hx0 : upd H1 dx (.own x) x = none := by rw [upd_ne (Ne.symm hne)]; exact hx
    have e2 : Ext A1 H1 A1 (upd H1 dx (.own x)) := Ext.new hdx
    have e3 : Ext A1 (upd H1 dx (.own x)) (A1 ++ [x]) (upd (upd H1 dx (.own x)) x (.ins (C.adr c) dx [])) := Ext.newCell hx0
    have e23 := e2.trans e3
    refine ⟨S, A1 ++ [x], Δ1 ++ [.ins c []], .cell Δ1.length :: (ds ++ dds), _, .cons (.cell ?_) ((r1.ext e23).append (hdd _ _ _)), (c1.new hdx).newO (o := .ins c []) hx0 ⟨dx, [], upd_same, rfl, .nil⟩, p, fun v d A' H' Δ' e4 c4 r4 p4 => ?_⟩
    · rw [← c1.len, List.getElem?_append_right (Nat.le_refl _), Nat.sub_self] <;> rfl
    · obtain ⟨rfl, es, rfl, hl, hb, p4⟩ := p4
      cases r4
      refine ⟨rfl, ?_⟩
      have hA' : A' = A1 ++ [x] := by
        obtain ⟨B, hB, _⟩ := e4.pre
        have hlen := c4.len
        rw [hB, List.length_append, List.length_append, List.length_append, c1.len] at hlen
        have hB0 : B.length = 0 := by
          have h1 : ([x] : List Addr).length = 1 := rfl
          have h2 : ([O.ins c ((C.nms c).zip es)] : List O).length = 1 := rfl
          omega
        rw [List.length_eq_zero_iff.mp hB0, List.append_nil] at hB
        exact hB
      subst hA'
      obtain ⟨c5, r5⟩ := c1.freeze c4 hl (by rw [c1.len]; exact hb)
      have e14 := e23.trans e4
      refine k _ _ A1 H' Δ1 (e1.trans ⟨⟨[], by simp, by simp⟩, fun a o h1 h2 => e14.keep a o h1 h2, e14.trk⟩) c5 r5 p4
theorem ez_makeF {c : Nat} (M : Mk X.K (C.adr c) f) (F : FnOk X.prog X.w X.K X.mg X.base CX0 k f fd ps (SpZ X.K C W)) (hr : Room (k + 1) X.A) (hm : X.mg x = some (.ref (C.adr c))) (hb : Binds X.K fd ps ds) (hd : Vals dvs ds) (hdd : ∀ S A H, RepL X.K C S A H dvs dds)
    (ha : AZ C X (e :: es) za) (hg : Gl X x := by rfl) (hdb : (x == ("__debug__" : Str)) = false := by decide) (he : starEach (e :: es) X.env = (false, eval e X.env) :: starEach es X.env := by rfl) (hpl : (backTo pos (starEach es X.env)).any (·.1) = false := by rfl) :
    EZ C X (.Call (.Name x p) (e :: es) [] pos) (zMakeF C c W dds za) := by
  obtain ⟨t, a1, a2⟩ := ha.ex
  exact ⟨_, pe_make M F hr hg hm hb hd (E := E0) pass0 a1 hdb he hpl, ref_make a2 hdd⟩
end

/-! ### isinstance -/
def tyD (C : CI) (Δ : Store) : D → Option Value
  | .non => some (.type "NoneType")
  | .bl _ => some (.type "bool")
  | .int _ => some (.type "int")
  | .str _ => some (.type "str")
  | .tup _ => some (.type "tuple")
  | .lst _ => some (.type "list")
  | .ins c _ => some (.ref (C.adr c))
  | .cell n => match Δ[n]? with
    | some (.lst _) => some (.type "list")
    | some (.ins c _) => some (.ref (C.adr c))
    | _ => none
  | .dct _ _ => some (.type "dict")
  | _ => none
def clsD (C : CI) : D → Option Value
  | .ty n => some (.type n)
  | .cls c => some (.ref (C.adr c))
  | _ => none
/-- what the written part says of a class whose instances are asked for their class -/
structure Isi (K : PySem.W.Frag) (Ca : Addr) : Prop where
  cl : Cls K Ca
  ha : PySem.W.findIn K (.ref Ca) "__class__" = some (some (.builtin "object.__class__"))
  hn : PySem.W.specialIn K (.builtin "object.__class__") "__get__" = some (some (.builtin "getset_descriptor.__get__"))
  htk : PySem.W.takesIn K (.builtin "object.__class__") = some true
  hm : PySem.W.mroIn K Ca (.type "object") = some true
def zIsi (K : PySem.W.Frag) (C : CI) : ZRC := fun ds Δ P => ∃ x y t u b, ds = [x, y] ∧ tyD C Δ x = some t ∧ clsD C y = some u ∧ (∀ Ca, t = .ref Ca → Isi K Ca) ∧ PySem.W.kitOne K t u = some b ∧ P (.bl b) Δ
section
variable {C : CI} {X : Cx}
theorem Rep.tyX {K : PySem.W.Frag} {S A : List Addr} {H : Hp} {Δ : Store} {v : V} {d : D} {t : Value} (hc : Cells K C S A H Δ) (r : Rep K C S A H v d) (h : tyD C Δ d = some t) (hI : ∀ Ca, t = .ref Ca → Isi K Ca) : TyX K H v t := by
  cases r with
  | non => cases h; exact .base .non
  | bl b => cases h; exact .base (.bl b)
  | int b => cases h; exact .base (.int b)
  | str b => cases h; exact .base (.str b)
  | tup h1 _ _ _ => cases h; exact .base (.tup h1)
  | lst h1 _ _ _ => cases h; exact .base (.lst h1)
  | ins h1 _ _ _ _ =>
    cases h
    have q := hI _ rfl
    exact .base (.ins h1 q.cl q.ha q.hn q.htk q.hm)
  | cell e =>
    rename_i a n
    unfold tyD at h
    cases q : Δ[n]? with
    | none => simp only [q] at h; cases h
    | some o =>
      cases o with
      | lst ds =>
        simp only [q] at h
        cases h
        obtain ⟨xs, h1, h2⟩ := hc.at_ n a _ e q
        exact .base (.lst h1)
      | ins c fs =>
        simp only [q] at h
        cases h
        obtain ⟨dx, xs, h1, h2⟩ := hc.at_ n a _ e q
        have q := hI _ rfl
        exact .base (.ins h1 q.cl q.ha q.hn q.htk q.hm)
      | dct _ _ => simp only [q] at h; cases h
  | ty n => exact nomatch h
  | scr _ => exact nomatch h
  | cls _ => exact nomatch h
  | dct g _ _ _ _ =>
    cases h
    rcases g with g | ⟨o, g⟩
    · exact .base (.dK g)
    · exact .fDict g
  | ktup _ => exact nomatch h
  | exc _ _ _ => exact nomatch h
theorem Rep.clsV {K : PySem.W.Frag} {S A : List Addr} {H : Hp} {v : V} {d : D} {u : Value} (r : Rep K C S A H v d) (h : clsD C d = some u) : ClsV v u := by
  cases r with
  | ty n => cases h; exact .ty n
  | cls c => cases h; exact .own _
  | non => exact nomatch h
  | dct _ _ _ _ _ => exact nomatch h
  | ktup _ => exact nomatch h
  | exc _ _ _ => exact nomatch h
  | bl b => exact nomatch h
  | int b => exact nomatch h
  | str b => exact nomatch h
  | tup _ _ _ _ => exact nomatch h
  | lst _ _ _ _ => exact nomatch h
  | ins _ _ _ _ _ => exact nomatch h
  | cell _ => exact nomatch h
  | scr _ => exact nomatch h
theorem cz_isi : CallZ C X (.builtin "isinstance") (zIsi X.K C) := ⟨_, call_isi, fun S A H Δ xs ds P Q hc r hz k => by
  obtain ⟨x, y, t, u, b, rfl, h1, h2, h3, h4, q⟩ := hz
  obtain ⟨v, v', rfl, rv, rv'⟩ := two_rep r
  exact ⟨v, v', t, u, b, rfl, rv'.clsV h2, rv.tyX hc h1 h3, h4, k _ _ A H Δ (Ext.refl _ _) hc (.bl _) q⟩⟩
theorem ez_cls {c : Nat} {x : Str} {pos : Pos} (hm : X.mg x = some (.ref (C.adr c))) (hg : Gl X x := by rfl) (hd : (x == ("__debug__" : Str)) = false := by decide) : EZ C X (.Name x pos) (zC (.cls c)) :=
  ⟨_, pe_glob (v := .ref (C.adr c)) hg hm rfl hd, ref_c fun _ _ _ => .cls c⟩
end
end Z

/-! Z6: defs that are entered with no guard around (repr asks it), repr of data, the law's call. -/
namespace Z
open PySem PySem.Spec PyProof.Rows L2

/-- a promise that is kept where no repr is under way -/
structure FnG (P : Program) (w : World) (K : PySem.W.Frag) (mg : Str → Option Value) (base : Heap) (k : Nat) (f : Addr) (fd : FuncData) (ps : List Str) (sp : Sp) : Prop where
  arity : ∀ ws hp q x, sp ws hp q x → ws.length = ps.length
  go : ∀ (B : Around) (fr : List PySem.Env) (st : Shared) (hp : Hp) (ar : Args) (us : List Value) (ws : List V) (q : VK) (x : XK), B.guards = some [] → Room k B → Env0 P w K mg base B fr st hp → BindsTo st fd ar (ps.zip us) → Vals ws us → sp ws hp q x →
    codeAny (model P w) B (.call (.ref f) ar) (CR CX0 fr P w hp st q x) st
section
variable {P : Program} {w : World} {K : PySem.W.Frag} {mg : Str → Option Value} {base : Heap} {k : Nat} {f : Addr} {fd : FuncData} {ps : List Str} {sp : Sp}
theorem fng_of (F : FnOk P w K mg base CX0 k f fd ps sp) : FnG P w K mg base k f fd ps sp := ⟨F.len, fun B fr st hp ar us ws q x _ => F.run B fr st hp ar us ws q x⟩
/-- a def's body, entered with no guard around -/
theorem fng_ok {y qual : Str} {sm : Stmt} {N : List Str} {W : ZRC} {C : CI} (F : Fun K y qual sm f fd) (Sc : FnScope N ps (defScope sm)) (len : ∀ ds Δ P, W ds Δ P → ds.length = ps.length)
    (body : ∀ (cdv : Value) (B : Around) (fr : List PySem.Env) (st : Shared) (hp : Hp) (x : XK), (cxOf CX0 P w K mg base N qual (defScope sm) f cdv B fr st hp x).nox.A.guards = some [] → Room k (B.deeper (PyProof.Rows.envOfC qual (defScope sm) st.heap.objs.size f cdv)) →
      ∃ z : ZS, SZs C (cxOf CX0 P w K mg base N qual (defScope sm) f cdv B fr st hp x).nox (defBody sm) z ∧ ∀ ds Δ P, W ds Δ P → z { nx := fun _ Δ' => P .non Δ', rt := P } (startZ N ds) Δ) : FnG P w K mg base (k + 1) f fd ps (SpZ K C W) := by
  have lenV : ∀ ws hp q x, SpZ K C W ws hp q x → ws.length = ps.length := fun ws hp q x h => by
    obtain ⟨S, A, Δ, ds, P, r, _, hw, _⟩ := h
    rw [r.length]
    exact len ds Δ P hw
  obtain ⟨oc, od, kV, doc, pm, an, cdv, ct, osl, rfl, lk, hcd⟩ := F.ex
  refine ⟨lenV, fun B fr st hp ar us ws q x hg hr e0 hb r hsp => ?_⟩
  have there := fun b o e => (e0.bs b o e).1
  have KX := e0.mod.kin.keeps there
  have locals_ : ∀ z ∈ ps.zip us, (defScope sm).names.lookup z.1 = some .local ∨ ((defScope sm).names.lookup z.1 = some .cell ∧ ((cellsFrom (st.heap.objs.size + 1) (defScope sm).names []).lookup z.1).isSome = true) := fun z hz => by
    obtain ⟨n, v⟩ := z
    exact (Sc.par n (List.of_mem_zip hz).1).elim Or.inl fun c => .inr ⟨c, PySem.W.cellsFrom_some _ _ _ (.inl c)⟩
  refine codeAny_call_function hr.depth (KX _ _ lk) rfl Sc.co Sc.gen rfl (PySem.W.codeRec_of KX hcd) (hb _ _ _ _ ?_)
  refine wpAny_newFunctionEnv_cells Sc.kind locals_ fun nv enr s1 inC => ?_
  subst enr
  refine ⟨(e0.mod.nolimit.keeps there).keeps inC.toInCall.keep, codeAny_func ?_⟩
  obtain ⟨z, hz, hzz⟩ := body cdv B fr st hp x hg (hr.deeper _)
  obtain ⟨ts, h1, h2⟩ := hz.ex
  obtain ⟨S, A', Δ, ds, P', rl, hc, hw, kk⟩ := hsp
  have I : Inv (cxOf CX0 P w K mg base N qual (defScope sm) f cdv B fr st hp x) [] (L2.start N ws) hp s1 := inv_start Sc hr.hd e0 (lenV ws hp q x ⟨S, A', Δ, ds, P', rl, hc, hw, kk⟩) r inC
  have rd : ts { nx := fun _ H' => q .non H', rt := q } (L2.start N ws) hp := h2 S A' _ hp (startZ N ds) Δ { nx := fun _ Δ' => P' .non Δ', rt := P' } _ (slots_start rl) hc (hzz ds Δ P' hw)
    ⟨fun σ' A2 H2 Γ2 Δ2 e2 s2 c2 y => kk .non .non A2 H2 Δ2 e2 c2 .non y, fun σ' A2 H2 Γ2 Δ2 e2 s2 c2 y => y.elim, fun σ' A2 H2 Γ2 Δ2 e2 s2 c2 y => y.elim, fun v d A2 H2 Δ2 e2 c2 r2 y => kk v d A2 H2 Δ2 e2 c2 r2 y⟩
  refine wpAny_mono (h1.nox.run [] s1 _ hp _ I rd) (fun fl s' hs => ?_) fun _ _ y => y
  cases fl with
  | ret u =>
    obtain ⟨v, σ', H', J, rv, y⟩ := hs
    exact ⟨v, H', J.os, J.bare, J.base, J.hok, rv, y⟩
  | next =>
    obtain ⟨σ', H', J, y⟩ := hs
    exact ⟨V.non, H', J.os, J.bare, J.base, J.hok, rfl, y⟩
  | brk =>
    obtain ⟨_, _, _, y⟩ := hs
    exact False.elim y
  | cont =>
    obtain ⟨_, _, _, y⟩ := hs
    exact False.elim y
end
section
variable {C : CI} {X : Cx} {e : Expr} {es : List Expr} {za : ZA} {pos p : Pos} {x : Str} {k : Nat} {f : Addr} {fd : FuncData} {ps : List Str} {W : ZRC}
theorem ez_callG (F : FnG X.prog X.w X.K X.mg X.base k f fd ps (SpZ X.K C W)) (gd : X.A.guards = some []) (hr : Room k X.A) (hm : X.mg x = some (.ref f)) (hk : PySem.W.keepIn X.K (.ref f) = true) (hb : Binds X.K fd ps [])
    (ha : AZ C X (e :: es) za) (hg : Gl X x := by rfl) (hdb : (x == ("__debug__" : Str)) = false := by decide) (he : starEach (e :: es) X.env = (false, eval e X.env) :: starEach es X.env := by rfl) (hpl : (backTo pos (starEach es X.env)).any (·.1) = false := by rfl) :
    EZ C X (.Call (.Name x p) (e :: es) [] pos) (zCall W [] za) := by
  obtain ⟨t, a1, a2⟩ := ha.ex
  refine ⟨tCall (SpZ X.K C W) [] E0 t, ⟨fun pins s σ H Q I h => ?_⟩, ref_call a2 fun _ _ _ => .nil⟩
  refine wpAny_Call_Name_kw (ld_glob I hg hm ?_ hdb)
  refine PySem.W.callWith_K (h₀ := X.base) I.ok.mod.kin hk (thn (a1.run pos pins s σ H _ I h) fun us s1 got => ?_) he hpl
  obtain ⟨vs, H1, I1, r, q⟩ := got
  rw [List.append_nil] at q
  refine ⟨I1.kIn, ?_⟩
  have hl : us.length = ps.length := by rw [← r.length]; exact F.arity _ _ _ _ q
  have bd : BindsTo s1 fd ⟨us, []⟩ (ps.zip us) := by
    have b := hb s1 us I1.kIn (by rw [List.append_nil]; exact hl)
    rw [List.append_nil] at b
    exact b
  refine wpAny_call (codeAny_mono (F.go X.A X.stack s1 H1 ⟨us, []⟩ us vs Q E0 gd hr I1.env0 bd r q) fun res s' hq => ?_)
  match res, hq with
  | .error e, hq => exact hq.elim
  | .ok (.ret u), hq => exact I1.after hq
  | .ok .next, hq => exact False.elim hq
  | .ok .brk, hq => exact False.elim hq
  | .ok .cont, hq => exact False.elim hq

/-! ### repr -/
mutual
theorem noDict_pd : ∀ d : D, plainD d = true → (pd d).hasDict = false
  | .non, _ => rfl
  | .bl _, _ => rfl
  | .int _, _ => rfl
  | .str _, _ => rfl
  | .tup ds, h => by show PyData.hasDictAll (pds ds) = false; exact noDict_pds ds h
  | .lst ds, h => by show PyData.hasDictAll (pds ds) = false; exact noDict_pds ds h
  | .ty _, h => by cases h
  | .ins _ _, h => by cases h
  | .cell _, h => by cases h
  | .scr _, h => by cases h
  | .cls _, h => by cases h
  | .dct _ _, h => by cases h
  | .ktup _, h => by cases h
  | .exc _, h => by cases h
theorem noDict_pds : ∀ ds : List D, plainDs ds = true → PyData.hasDictAll (pds ds) = false
  | [], _ => rfl
  | d :: ds, h => by
    have h' : (plainD d && plainDs ds) = true := h
    rw [Bool.and_eq_true] at h'
    show ((pd d).hasDict || PyData.hasDictAll (pds ds)) = false
    rw [noDict_pd d h'.1, noDict_pds ds h'.2]
    rfl
end
/-- what repr can show -/
structure Showable (d : D) : Prop where
  pl : plainD d = true
  sh : (pd d).showable = true
  dp : (pd d).depth ≤ 60
  sz : (pd d).shown.length ≤ sizeLine
def zRepr : ZRC := fun ds Δ P => ∃ d, ds = [d] ∧ Showable (rd Δ d) ∧ P (.str (pd (rd Δ d)).shown) Δ
theorem cr_repr (gd : X.A.guards = some []) (hu : X.A.units + 64 < cLine) : CallR X (.builtin "repr") (fun xs H Q => ∃ x d, xs = [x] ∧ Dp X.K H x (pd d) ∧ Showable d ∧ Q (.str (pd d).shown) H) := by
  intro pins s σ H xs us Q I r h
  obtain ⟨x, d, rfl, hd, sh, q⟩ := h
  obtain ⟨u, rfl, ru⟩ := vals1 r
  have nd := noDict_pd d sh.pl
  obtain ⟨_, hs, hdp, hsz⟩ := sh
  generalize pd d = e at *
  have dspl : ∀ a, x = .ref a → wpAny (model X.prog X.w) X.A (call (.builtin "repr") [u]) (EP X pins σ Q) X.xe s := fun a hx => by
    subst hx
    obtain rfl : u = Value.ref a := ru
    obtain ⟨as, rr⟩ := Dp.reads I e (.ref a) (.ref a) hd rfl
    exact PySem.repr_of_reads' rr hs (PyData.noDict_hsm nd) gd (by omega) (fun _ _ e => e) (fun h' u tk hk => ⟨.str _, H, I.kept (t' := tk) hk, ⟨u, rfl⟩, q⟩) hsz
  cases hd with
  | non => obtain rfl : u = Value.none := ru; exact PySem.P.repr_of_none ⟨.str _, H, I.tok _, ⟨_, rfl⟩, q⟩
  | bl b => obtain rfl : u = Value.bool b := ru; exact PySem.P.repr_of_bool ⟨.str _, H, I.tok _, ⟨_, rfl⟩, q⟩
  | int i => obtain ⟨t, rfl⟩ := ru; exact PySem.P.repr_of_int (of_decide_eq_true hs) ⟨.str _, H, I.tok _, ⟨_, rfl⟩, q⟩
  | str z => obtain ⟨t, rfl⟩ := ru; exact PySem.P.repr_of_str ⟨.str _, H, I.tok _, ⟨_, rfl⟩, q⟩ hsz
  | lst h1 h2 => exact dspl _ rfl
  | tup h1 h2 => exact dspl _ rfl
theorem cz_repr (gd : X.A.guards = some []) (hu : X.A.units + 64 < cLine) : CallZ C X (.builtin "repr") zRepr := ⟨_, cr_repr gd hu, fun S A H Δ xs ds P Q hc r hz k => by
  obtain ⟨d, rfl, sh, q⟩ := hz
  obtain ⟨v, rfl, rv⟩ := one_rep r
  exact ⟨v, rd Δ d, rfl, dp_rd hc rv sh.pl, sh, k _ _ A H Δ (Ext.refl _ _) hc (.str _) q⟩⟩
end

/-! ### the law is called -/
section
variable {P : Program} {w : World} {K : PySem.W.Frag} {mg mb : Str → Option Value} {k : Nat} {fa a : Addr} {fd : FuncData} {x : Str} {s₁ : Shared} {vs : List Value} {ns : List Int} {C : CI} {W : ZRC}
theorem law_callG (KX : K.In s₁.heap) (hns : s₁.heap.Ns mainGlobals mg) (hb : s₁.heap.Ns builtinsNs mb) (hbb : ∀ x : Str, x ≠ "__name__" → mb x = bootBuiltins x) (hlim : s₁.heap.NoLimit) (hg : s₁.gens = #[])
    (ha : s₁.heap.get? a = some { cls := .type "list", data := .seq vs.toArray }) (hi : IntsAre vs ns) (hl : ns.length ≤ sizeLine) (hr : Room k callerA)
    (F : ∀ base : Heap, K.In base → base.Ns mainGlobals mg → FnG P w K mg base k fa fd [x] (SpZ K C W)) (hbind : ∀ (s : Shared) (u : Value), BindsTo s fd ⟨[u], []⟩ [(x, u)])
    (hW : W [.scr ns] [] fun d _ => d = .bl true) :
    codeAny (model P w) callerA (.call (.ref fa) ⟨[.ref a], []⟩) (fun r s' => r = .ok (.ret (.bool true)) ∧ OldK s₁.heap s'.heap ∧ s'.os = s₁.os ∧ AllBare s'.gens) s₁ := by
  have rv := vals_ints hi
  have lenV := hi.length
  have main : ∀ H : Hp, Only H → Rep K C [] [] H (.ref a) (.scr ns) → HOk P w H s₁.heap → (∀ b, H b ≠ none → b = a) → (H a ≠ none → K.lookup a = none) →
      codeAny (model P w) callerA (.call (.ref fa) ⟨[.ref a], []⟩) (fun r s' => r = .ok (.ret (.bool true)) ∧ OldK s₁.heap s'.heap ∧ s'.os = s₁.os ∧ AllBare s'.gens) s₁ := by
    intro H hO hS hok hA hK
    have free_of : ∀ {b : Addr} {o : Obj}, s₁.heap.get? b = some o → (b = a → False) → H b = none := fun {b o} e n => by
      cases q : H b with
      | none => rfl
      | some u => exact (n (hA b (by rw [q]; simp))).elim
    have dicts : ∀ {b : Addr} {m : Str → Option Value}, s₁.heap.Ns b m → (hidT s₁.heap H).Ns b m := fun {b m} hNs => by
      obtain ⟨o, es, ep, e, d, r⟩ := hNs
      refine ⟨o, es, ep, hidT_get e (free_of e fun q => ?_), d, r⟩
      subst q
      rw [ha] at e
      cases e
      exact nomatch (show Data.seq vs.toArray _ = Data.dict es ep from d)
    have hKb : K.In (hidT s₁.heap H) := fun b o e => hidT_get (KX b o e) (by
      cases q : H b with
      | none => rfl
      | some u =>
        have e' := hA b (by rw [q]; simp)
        subst e'
        rw [hK (by rw [q]; simp)] at e
        exact nomatch e)
    have hM : Mod K mg (hidT s₁.heap H) := by
      obtain ⟨mc, h1, h2⟩ := hlim
      exact ⟨hKb, dicts hns, ⟨mb, dicts hb, hbb⟩, ⟨mc, dicts h1, h2⟩⟩
    have e0 : Env0 P w K mg (hidT s₁.heap H) callerA [] s₁ H := ⟨rfl, hM, fun b o e => of_hidT e, Nat.le_of_eq (hidT_size _ _), trivial, fun b hb => (nomatch (show b ∈ ([] : List Addr) from hb)), hok, AllBare.of_eq hg⟩
    have cells : Cells K C [] [] H [] := ⟨rfl, List.nodup_nil, fun b hb => (nomatch hb), fun b hb => (nomatch hb), fun n b o h _ => by simp at h⟩
    have sp : SpZ K C W [.ref a] H (fun v _ => v = .bl true) (fun _ _ _ => False) := ⟨[], [], [], [.scr ns], _, .cons hS .nil, cells, hW, fun v d A' H' Δ' _ _ r q => by
      subst q
      cases r
      rfl⟩
    refine codeAny_mono ((F _ hKb (dicts hns)).go callerA [] s₁ H ⟨[.ref a], []⟩ [.ref a] [.ref a] _ _ rfl hr e0 (hbind s₁ (.ref a)) (.cons rfl .nil) sp) fun r s' h => ?_
    match r, h with
    | .error e, h => exact h.elim
    | .ok .next, h => exact False.elim h
    | .ok .brk, h => exact False.elim h
    | .ok .cont, h => exact False.elim h
    | .ok (.ret u), h =>
      obtain ⟨v, H', os, bare, un, hok', r', q⟩ := h
      have q' : v = .bl true := q
      subst q'
      obtain rfl : u = Value.bool true := r'
      refine ⟨rfl, OldK.of_keep fun b o e => ?_, os, bare⟩
      rcases hO b with z | ⟨ob, xs, z⟩
      · exact un.keep b o e z (fun y => (nomatch (show b ∈ ([] : List Addr) from y))) (by simp)
      · obtain ⟨e1, _⟩ := hok b _ z
        obtain ⟨e2, _⟩ := hok' b _ (un.frzs b ob _ z)
        rw [e] at e1
        cases e1
        exact e2
  cases hk : K.lookup a with
  | some o =>
    have e := KX a o hk
    rw [ha] at e
    cases e
    exact main (fun _ => none) (fun _ => .inl rfl) (.scr (.inr ⟨_, vs.toArray, _, hk, rfl, rfl, rfl, by rw [List.size_toArray, lenV]; exact hl, by simpa using rv⟩)) (fun b u z => (nomatch (show (none : Option HO) = some u from z))) (fun b z => absurd rfl z) fun z => absurd rfl z
  | none =>
    have at_a : (fun b => if b = a then some (HO.frz { cls := .type "list", data := .seq vs.toArray } (.lst (ns.map V.int))) else none : Hp) a = some (.frz { cls := .type "list", data := .seq vs.toArray } (.lst (ns.map V.int))) := if_pos rfl
    refine main (fun b => if b = a then some (HO.frz { cls := .type "list", data := .seq vs.toArray } (.lst (ns.map V.int))) else none) (fun b => ?_) (.scr (.inl ⟨⟨_, at_a⟩, by simp, by simp⟩)) (fun b u z => ?_) (fun b z => ?_) fun _ => hk
    · by_cases h : b = a
      · subst h; exact .inr ⟨_, _, at_a⟩
      · exact .inl (if_neg h)
    · by_cases h : b = a
      · subst h
        have z' := at_a.symm.trans z
        cases z'
        exact ⟨ha, by rw [List.length_map]; exact hl, vs, _, rv, ha⟩
      · exact nomatch (if_neg h).symm.trans z
    · by_cases h : b = a
      · exact h
      · exact absurd (if_neg h) z
end
theorem walkG {l : PySem.W.OpenLaw} {n k : Nat} {q : Program} {loose : List Str} {XP : (Str → Option Value) → Heap → Prop} {YP : World → Heap → Prop} {d : DefRec} {K : Params → PySem.W.Frag} {x : Str} {W : ZRC}
    (hn : l.most = some n) (hn2 : n ≤ sizeLine) (hdf : d.params.defaults = []) (hr : Room k callerA) (hY : ∀ (w : World) (h : Heap), YP w h → (K w.params).In h)
    (F : ∀ (w : World) (mg : Str → Option Value) (fa : Addr) (h : Heap), (K w.params).In h → h.Ns mainGlobals mg → mg d.name = some (.ref fa) →
      ∃ (fd : FuncData) (C : CI), (∀ (s : Shared) (u : Value), BindsTo s fd ⟨[u], []⟩ [(x, u)]) ∧ ∀ base : Heap, (K w.params).In base → base.Ns mainGlobals mg → FnG l.prog w (K w.params) mg base k fa fd [x] (SpZ (K w.params) C W))
    (hW : ∀ ns : List Int, ns.length ≤ n → W [.scr ns] [] fun d _ => d = .bl true) : PySem.W.WalkO q loose XP YP l.row.toRowW d [] (fun f vs => PySem.call f vs) := by
  refine Att.attach_call hn hdf fun w s₀ s₁ mg mb fa o pm cd doc a vs ns G Y ho hd hcd hmg hobj hints hlen hg => ?_
  obtain ⟨fd, C, hb, hF⟩ := F w mg fa _ (hY w _ Y) G.T.g hmg
  exact law_callG (hY w _ Y) G.T.g G.T.b G.T.builtins G.T.nolimit hg hobj hints (Nat.le_trans hlen hn2) hr hF hb (hW ns hlen)
end Z

/-! Z7: blocks of comprehensions, products of ints and of lists, == of own classes, more. -/
namespace Z
open PySem PySem.Spec PyProof.Rows L2

/-- the reading that a reading over data stands for -/
def up (K : PySem.W.Frag) (C : CI) (z : ZE) : TE := fun σ H Q => ∃ S A Γ Δ P, Slots K C S A H σ Γ ∧ Cells K C S A H Δ ∧ z Γ Δ P ∧ ∀ v d A' H' Δ', Ext A H A' H' → Cells K C S A' H' Δ' → Rep K C S A' H' v d → P d Δ' → Q v H'
def upT (K : PySem.W.Frag) (C : CI) (z : ZT) : TT := fun σ H Q => ∃ S A Γ Δ P, Slots K C S A H σ Γ ∧ Cells K C S A H Δ ∧ z Γ Δ P ∧ ∀ b A' H' Δ', Ext A H A' H' → Cells K C S A' H' Δ' → P b Δ' → Q b H'
theorem ref_up {K : PySem.W.Frag} {C : CI} {z : ZE} : RefE K C (up K C z) z := fun S A σ H Γ Δ P Q hs hc hz k => ⟨S, A, Γ, Δ, P, hs, hc, hz, k⟩
theorem ref_upT {K : PySem.W.Frag} {C : CI} {z : ZT} : RefT K C (upT K C z) z := fun S A σ H Γ Δ P Q hs hc hz k => ⟨S, A, Γ, Δ, P, hs, hc, hz, k⟩
theorem EZ.up {C : CI} {X : Cx} {e : Expr} {z : ZE} (h : EZ C X e z) : PE X e (Z.up X.K C z) := by
  obtain ⟨t, h1, h2⟩ := h.ex
  refine ⟨fun pins s σ H Q I q => h1.run pins s σ H Q I ?_⟩
  obtain ⟨S, A, Γ, Δ, P, hs, hc, hz, k⟩ := q
  exact h2 S A σ H Γ Δ P Q hs hc hz k
theorem TsZ.up {C : CI} {X : Cx} {es : List Expr} {z : ZT} (h : TsZ C X es z) : PTs X es (upT X.K C z) := by
  obtain ⟨t, h1, h2⟩ := h.ex
  refine ⟨fun pins s σ H Q I q => h1.run pins s σ H Q I ?_⟩
  obtain ⟨S, A, Γ, Δ, P, hs, hc, hz, k⟩ := q
  exact h2 S A σ H Γ Δ P Q hs hc hz k
theorem ref_gName {K : PySem.W.Frag} {C : CI} {i : Nat} : RefG K C (gName i) (zgName i) := fun S A σ H Γ Δ v d P Q hs hc r hz k => k _ A H _ Δ (Ext.refl _ _) (hs.set i r) hc hz
theorem ref_gNil {K : PySem.W.Frag} {C : CI} : RefGs K C gNil zgNil := fun S A σ H Γ Δ vs ds P Q hs hc r hz k => by
  obtain ⟨rfl, p⟩ := hz
  cases r
  exact ⟨rfl, k _ A H _ Δ (Ext.refl _ _) hs hc p⟩
theorem ref_gCons {K : PySem.W.Frag} {C : CI} {g : TG} {gs : TGs} {z : ZG} {zs : ZGs} (h : RefG K C g z) (hr : RefGs K C gs zs) : RefGs K C (gCons g gs) (zgCons z zs) := fun S A σ H Γ Δ vs ds P Q hs hc r hz k => by
  obtain ⟨d, rest, rfl, p⟩ := hz
  cases r with
  | cons r1 r2 => exact ⟨_, _, rfl, h S A σ H Γ Δ _ d _ _ hs hc r1 p fun σ' A' H' Γ' Δ' e1 s1 c1 p1 => hr S A' σ' H' Γ' Δ' _ rest P Q s1 c1 (r2.ext e1) p1 (k.ext e1)⟩
theorem ref_gTup {K : PySem.W.Frag} {C : CI} {gs : TGs} {zs : ZGs} {n : Nat} (h : RefGs K C gs zs) : RefG K C (gTup K n gs) (zgTup n zs) := fun S A σ H Γ Δ v d P Q hs hc r hz k => by
  obtain ⟨ds, rfl, hl, p⟩ := hz
  cases r with
  | tup h1 h2 h3 r => exact ⟨_, _, rfl, SqT.of h1, by rw [r.length]; exact hl, h S A σ H Γ Δ _ ds P Q hs hc r p k⟩
section
variable {C : CI} {X : Cx}
theorem blkz {scope : Scope} {tg : Expr} {ifs : List Expr} {elt : Expr} {g : TG} {zg : ZG} {zt : ZT} {ze : ZE} (hr : RefG X.K C g zg)
    (hg : ∀ (s : Shared) (H : Hp) (Ca : Addr) (cl : List (Str × Addr)) (fp : List Addr), PG (X.blk s H scope (compEnvC scope cl Ca X.env) fp) tg g)
    (ht : ∀ (s : Shared) (H : Hp) (Ca : Addr) (cl : List (Str × Addr)) (fp : List Addr), TsZ C (X.blk s H scope (compEnvC scope cl Ca X.env) fp) ifs zt)
    (he : ∀ (s : Shared) (H : Hp) (Ca : Addr) (cl : List (Str × Addr)) (fp : List Addr), EZ C (X.blk s H scope (compEnvC scope cl Ca X.env) fp) elt ze) : BlkZ C X scope tg ifs elt g zg zt ze :=
  ⟨upT X.K C zt, up X.K C ze, fun s H Ca cl fp => ⟨hg s H Ca cl fp, (ht s H Ca cl fp).up, (he s H Ca cl fp).up⟩, hr, ref_upT, ref_up⟩

/-! ### products -/
def zMulA : ZR2 := fun x y Δ P => (∃ i j, x = .int i ∧ y = .int j ∧ MulOk i j ∧ P (.int (i * j)) Δ) ∨ zRepeat x y Δ P
theorem oz_mulA : OpZ C X (binaryOp .Mult) zMulA := by
  obtain ⟨r, h1, h2⟩ := (oz_mul (C := C) (X := X)).ex
  obtain ⟨r', h1', h2'⟩ := (oz_rep (C := C) (X := X)).ex
  refine ⟨_, OpR.or h1 h1', fun S A H Δ x y dx dy P Q hc rx ry hz k => ?_⟩
  rcases hz with ⟨i, j, q1, q2, q3, q4⟩ | hz
  · exact .inl (h2 S A H Δ x y dx dy P Q hc rx ry ⟨i, j, q1, q2, q3, q4⟩ k)
  · exact .inr (h2' S A H Δ x y dx dy P Q hc rx ry hz k)
/-- xs[::-1] -/
def zRev (z : ZE) : ZE := fun Γ Δ P => z Γ Δ fun x Δ1 => ∃ ds, lstD Δ1 x = some ds ∧ P (.lst ds.reverse) Δ1
theorem ez_rev {e : Expr} {z : ZE} {p1 p2 p3 pos : Pos} (h : EZ C X e z) {k : Nat} : EZ C X (.Subscript e (.Slice none none (some (.UnaryOp .USub (.Constant (.int 1) k p1) p2)) p3) pos) (zRev z) := by
  obtain ⟨t, h1, h2⟩ := h.ex
  refine ⟨_, pe_revL h1, fun S A σ H Γ Δ P Q hs hc hz k => h2 S A σ H Γ Δ _ _ hs hc hz fun v d A1 H1 Δ1 e1 c1 r1 p => ?_⟩
  obtain ⟨ds, hd, p⟩ := p
  obtain ⟨a, xs, rfl, g1, g2⟩ := Rep.lst_ c1 r1 hd
  refine ⟨a, xs, rfl, SqL.of g1, fun q hq => ?_⟩
  exact k _ _ A1 _ Δ1 (e1.trans (Ext.new hq)) (c1.new hq) (.lst upd_same (c1.fresh hq) (c1.aside hq) (g2.reverse.ext (Ext.new hq))) p
/-- a list or a tuple is walked -/
def ziOr (a b : ZI) : ZI := fun Γ Δ P => a Γ Δ P ∨ b Γ Δ P
theorem iz_or {tg iter : Expr} {a b : ZI} (ha : IZ C X tg iter a) (hb : IZ C X tg iter b) : IZ C X tg iter (ziOr a b) := by
  obtain ⟨t, h1, h2⟩ := ha.ex
  obtain ⟨u, g1, g2⟩ := hb.ex
  refine ⟨fun σ H R => t σ H R ∨ u σ H R, ⟨fun pins s σ H R I h => h.elim (h1.run pins s σ H R I) (g1.run pins s σ H R I)⟩, fun S A σ H Γ Δ P R hs hc hz k => ?_⟩
  rcases hz with hz | hz
  · exact .inl (h2 S A σ H Γ Δ P R hs hc hz k)
  · exact .inr (g2 S A σ H Γ Δ P R hs hc hz k)
theorem iz_seq {tg iter : Expr} {z : ZE} (h : EZ C X iter z) : IZ C X tg iter (ziOr (ziList z) (ziTup z)) := iz_or (iz_list h) (iz_tup h)

/-! ### an own == -/
def plainTys : List String := ["NoneType", "bool", "int", "str", "tuple", "list"]
/-- what the class has that its own == is asked first -/
structure EqO (K : PySem.W.Frag) (Ca f : Addr) : Prop where
  at_ : PySem.W.findIn K (.ref Ca) "__eq__" = some (some (.ref f))
  fn : PySem.W.isFn K (.ref f) = true
  first : ∀ n ∈ plainTys, PySem.W.notFirst K Ca (.type n) = true
  isi : Isi K Ca
def zEqO (C : CI) (c : Nat) (W : ZRC) : ZR2 := fun x y Δ P => insD Δ c x ∧ (∃ t, tyD C Δ y = some t ∧ (t = .ref (C.adr c) ∨ ∃ n, n ∈ plainTys ∧ t = .type n)) ∧ W [x, y] Δ fun d Δ' => ∃ b, d = .bl b ∧ P (.bl b) Δ'
theorem oz_eqO {c k : Nat} {f : Addr} {fd : FuncData} {ps : List Str} {W : ZRC} (F : FnOk X.prog X.w X.K X.mg X.base CX0 k f fd ps (SpZ X.K C W)) (hr : Room k X.A) (E : EqO X.K (C.adr c) f) (hb : Binds X.K fd ps []) : OpZ C X (compareOp .Eq) (zEqO C c W) := by
  refine ⟨fun x y H Q => ∃ a dx fs t, x = .ref a ∧ H a = some (.ins (C.adr c) dx fs) ∧ TyX X.K H y t ∧ (t = .ref (C.adr c) ∨ ∃ n, n ∈ plainTys ∧ t = .type n) ∧ SpZ X.K C W [x, y] H (fun v H' => ∃ b, v = .bl b ∧ Q (.bl b) H') E0, ?_, ?_⟩
  · intro pins s σ H x y v u Q I rx ry h
    obtain ⟨a, dx, fs, t, rfl, ha, ty, ht, sp⟩ := h
    obtain rfl : v = Value.ref a := rx
    obtain ⟨mA, J, _⟩ := ins_get I.hok ha
    obtain ⟨od, J, _⟩ := J.look
    obtain ⟨P, kx, hp, _⟩ := kit_of I ry ty
    obtain ⟨m, hF⟩ := I.fr
    have hn : PySem.W.notFirst X.K (C.adr c) t = true := by
      rcases ht with rfl | ⟨n, hn, rfl⟩
      · simp [PySem.W.notFirst]
      · exact E.first n hn
    show wpAny _ _ (richCompare .Eq (.ref a) u) _ _ _
    refine PySem.W.cmp_K (op := .Eq) (tb := t) hr.units0 hF I.ok.mod.kin J (kx.ty _ _ I.kIn hp) hn E.at_ E.fn ?_
    have hl := F.len _ _ _ _ sp
    have r2 : Vals [V.ref a, y] [Value.ref a, u] := .cons rfl (.cons ry .nil)
    refine wpAny_call (codeAny_mono (F.run X.A X.stack s H ⟨[.ref a, u], []⟩ [.ref a, u] [.ref a, y] _ _ hr I.env0 (by
      have b := hb s [.ref a, u] I.kIn (by rw [List.append_nil]; exact hl)
      rw [List.append_nil] at b
      exact b) r2 sp) fun r s' hq => ?_)
    match r, hq with
    | .error e, hq => exact hq.elim
    | .ok .next, hq => exact False.elim hq
    | .ok .brk, hq => exact False.elim hq
    | .ok .cont, hq => exact False.elim hq
    | .ok (.ret w), hq =>
      obtain ⟨z, H', I', rz, b, ez, q⟩ := I.after hq
      subst ez
      cases rz
      exact ⟨.bl b, H', I', rfl, q⟩
  · intro S A H Δ x y dx dy P Q hc rx ry hz k
    obtain ⟨hi, ⟨t, ht, ht2⟩, w⟩ := hz
    obtain ⟨a, dx, fs, rfl, g1⟩ := rx.inst hc hi
    refine ⟨a, dx, fs, t, rfl, g1, ry.tyX hc ht fun Ca e => ?_, ht2, S, A, Δ, _, _, .cons rx (.cons ry .nil), hc, w, fun v d A' H' Δ' e2 c2 r2 p2 => ?_⟩
    · rcases ht2 with h | ⟨n, _, h⟩
      · rw [h] at e; cases e; exact E.isi
      · rw [h] at e; cases e
    · obtain ⟨b, rfl, p2⟩ := p2
      cases r2
      exact ⟨b, rfl, k _ _ A' H' Δ' e2 c2 (.bl b) p2⟩
def zEqA (C : CI) (c : Nat) (W : ZRC) : ZR2 := fun x y Δ P => zEq x y Δ P ∨ zEqO C c W x y Δ P
theorem oz_eqA {c k : Nat} {f : Addr} {fd : FuncData} {ps : List Str} {W : ZRC} (F : FnOk X.prog X.w X.K X.mg X.base CX0 k f fd ps (SpZ X.K C W)) (hr : Room k X.A) (E : EqO X.K (C.adr c) f) (hb : Binds X.K fd ps []) : OpZ C X (compareOp .Eq) (zEqA C c W) := by
  obtain ⟨r, h1, h2⟩ := (oz_eq (C := C) (X := X) hr.units).ex
  obtain ⟨r', h1', h2'⟩ := (oz_eqO (C := C) (X := X) F hr E hb).ex
  refine ⟨_, OpR.or h1 h1', fun S A H Δ x y dx dy P Q hc rx ry hz k => ?_⟩
  rcases hz with hz | hz
  · exact .inl (h2 S A H Δ x y dx dy P Q hc rx ry hz k)
  · exact .inr (h2' S A H Δ x y dx dy P Q hc rx ry hz k)
end
end Z

/-! Z8: defs with defaults, results that are cells, cells that are frozen, the law's end. -/
namespace Z
open PySem PySem.Spec PyProof.Rows L2

/-- a def as it stands behind the top, whatever its defaults -/
structure FunZ (K : PySem.W.Frag) (x qual : Str) (st : Stmt) (f : Addr) (fd : FuncData) : Prop where
  ex : ∃ (oc : Value) (od : Option Addr) (dV kV doc pm : Value) (an : Option Addr) (cdv ct : Value) (osl : Array (Option Value)),
    fd = PySem.W.fnOf x qual (defArgs st) (defBody st) (defScope st) dV kV doc pm an cdv ct ∧ K.lookup f = some ⟨oc, od, .func fd, osl⟩ ∧ PySem.W.codeIn K cdv qual = true
  kp : PySem.W.keepIn K (.ref f) = true
theorem Fun.z {K : PySem.W.Frag} {x qual : Str} {st : Stmt} {f : Addr} {fd : FuncData} (F : Fun K x qual st f fd) : FunZ K x qual st f fd := by
  obtain ⟨oc, od, kV, doc, pm, an, cdv, ct, osl, h1, h2, h3⟩ := F.ex
  exact ⟨⟨oc, od, _, kV, doc, pm, an, cdv, ct, osl, h1, h2, h3⟩, F.kp⟩
theorem FunD.z {K : PySem.W.Frag} {x qual : Str} {st : Stmt} {f : Addr} {fd : FuncData} {dvs : List V} {kws : List (Str × V)} (F : FunD K x qual (defArgs st) (defBody st) (defScope st) dvs kws f fd) : FunZ K x qual st f fd := by
  obtain ⟨oc, od, dV, kV, doc, pm, an, cdv, ct, osl, h1, h2, h3, _⟩ := F.ex
  exact ⟨⟨oc, od, dV, kV, doc, pm, an, cdv, ct, osl, h1, h2, h3⟩, F.kp⟩
section
variable {P : Program} {w : World} {K : PySem.W.Frag} {mg : Str → Option Value} {base : Heap} {C : CI} {k : Nat} {f : Addr} {fd : FuncData} {ps : List Str} {W : ZRC}
theorem fnz_okZ {y qual : Str} {st : Stmt} {N : List Str} (F : FunZ K y qual st f fd) (Sc : FnScope N ps (defScope st)) (len : ∀ ds Δ P, W ds Δ P → ds.length = ps.length)
    (body : ∀ (cdv : Value) (A : Around) (outer : List PySem.Env) (s : Shared) (H : Hp) (E : XK), Room k (A.deeper (PyProof.Rows.envOfC qual (defScope st) s.heap.objs.size f cdv)) →
      ∃ z : ZS, SZs C (cxOf CX0 P w K mg base N qual (defScope st) f cdv A outer s H E).nox (defBody st) z ∧ ∀ ds Δ P, W ds Δ P → z { nx := fun _ Δ' => P .non Δ', rt := P } (startZ N ds) Δ) : FnOk P w K mg base CX0 (k + 1) f fd ps (SpZ K C W) := by
  obtain ⟨oc, od, dV, kV, doc, pm, an, cdv, ct, osl, rfl, lk, hcd⟩ := F.ex
  refine fn_of lk hcd Sc (fun vs H Q E h => ?_) (fun A outer s H vs Q E hr h => ?_)
  · obtain ⟨S, A, Δ, ds, P, r, _, hw, _⟩ := h
    rw [r.length]
    exact len ds Δ P hw
  · obtain ⟨S, A', Δ, ds, P', r, hc, hw, kk⟩ := h
    obtain ⟨z, hz, hzz⟩ := body cdv A outer s H E hr
    obtain ⟨ts, h1, h2⟩ := hz.ex
    refine ⟨ts, h1.nox, h2 S A' _ H (startZ N ds) Δ { nx := fun _ Δ' => P' .non Δ', rt := P' } _ (slots_start r) hc (hzz ds Δ P' hw) ⟨?_, ?_, ?_, ?_⟩⟩
    · exact fun σ' A2 H2 Γ2 Δ2 e2 s2 c2 q => kk .non .non A2 H2 Δ2 e2 c2 .non q
    · exact fun σ' A2 H2 Γ2 Δ2 e2 s2 c2 q => q.elim
    · exact fun σ' A2 H2 Γ2 Δ2 e2 s2 c2 q => q.elim
    · exact fun v d A2 H2 Δ2 e2 c2 r2 q => kk v d A2 H2 Δ2 e2 c2 r2 q

/-! ### a new list that the caller never changes -/
theorem Cells.freezeL {K : PySem.W.Frag} {C : CI} {S A : List Addr} {H H0 : Hp} {Δ : Store} {x : Addr} {es : List D} (c1 : Cells K C S A H0 Δ) (hc : Cells K C S (A ++ [x]) H (Δ ++ [.lst es])) (hb : belowL A.length es = true) : Cells K C S A H Δ ∧ Rep K C S A H (.ref x) (.lst es) := by
  have lenΔ := c1.len
  refine ⟨⟨c1.len, c1.nd, c1.dj, hc.as, fun n a o h1 h2 => ?_⟩, ?_⟩
  · have hn : n < A.length := (List.getElem?_eq_some_iff.mp h1).1
    have q := hc.at_ n a o (by rw [List.getElem?_append_left hn]; exact h1) (by rw [List.getElem?_append_left (by rw [← lenΔ]; exact hn)]; exact h2)
    have q0 := c1.at_ n a o h1 h2
    cases o with
    | lst ds =>
      obtain ⟨xs, g1, g2⟩ := q
      obtain ⟨_, _, g3⟩ := q0
      exact ⟨xs, g1, RepL.drop_ ds (RepL.blw ds g3) g2⟩
    | ins c fs =>
      obtain ⟨dx, xs, g1, g2, g3⟩ := q
      obtain ⟨_, _, _, _, g4⟩ := q0
      exact ⟨dx, xs, g1, g2, RepL.drop_ _ (RepL.blw _ g4) g3⟩
    | dct ks ds =>
      obtain ⟨xs, g1, g2, g3⟩ := q
      obtain ⟨_, _, _, g4⟩ := q0
      exact ⟨xs, g1, g2, RepL.drop_ _ (RepL.blw _ g4) g3⟩
  · have q := hc.at_ A.length x (.lst es) (by rw [List.getElem?_append_right (Nat.le_refl _), Nat.sub_self] <;> rfl) (by rw [lenΔ, List.getElem?_append_right (Nat.le_refl _), Nat.sub_self] <;> rfl)
    obtain ⟨xs, g1, g2⟩ := q
    have hx : x ∉ A := fun h => by
      have := List.nodup_append.mp hc.nd
      exact this.2.2 x h x (by simp) rfl
    exact .lst g1 hx (hc.dj x (by simp)) (RepL.drop_ es hb g2)
def frz (W : ZRC) : ZRC := fun ds Δ P => W ds Δ fun d Δ' => ∃ es, d = .cell Δ.length ∧ Δ' = Δ ++ [.lst es] ∧ belowL Δ.length es = true ∧ P (.lst es) Δ
theorem sp_frz {vs : List V} {H : Hp} {Q : VK} {E : XK} (h : SpZ K C (frz W) vs H Q E) : SpZ K C W vs H Q E := by
  obtain ⟨S, A, Δ, ds, P, r, hc, hw, kk⟩ := h
  refine ⟨S, A, Δ, ds, _, r, hc, hw, fun v d A' H' Δ' e c r' q => ?_⟩
  obtain ⟨es, rfl, rfl, hb, p⟩ := q
  cases r' with
  | cell g =>
    rename_i x
    have hA' : A' = A ++ [x] := by
      obtain ⟨B, hB, _⟩ := e.pre
      have hlen := c.len
      have hl1 : ([O.lst es] : List O).length = 1 := rfl
      rw [hB, List.length_append, List.length_append, hc.len, hl1] at hlen
      have hB1 : B.length = 1 := by omega
      obtain ⟨b, hb1⟩ := List.length_eq_one_iff.mp hB1
      rw [hB, hb1, ← hc.len, List.getElem?_append_right (Nat.le_refl _), Nat.sub_self] at g
      cases g
      rw [hB, hb1]
    subst hA'
    obtain ⟨c5, r5⟩ := hc.freezeL c (by rw [hc.len]; exact hb)
    exact kk _ _ A H' Δ ⟨⟨[], by simp, by simp⟩, fun a o h1 h2 => e.keep a o h1 h2, e.trk⟩ c5 r5 p
theorem fn_frz (F : FnOk P w K mg base CX0 k f fd ps (SpZ K C W)) : FnOk P w K mg base CX0 k f fd ps (SpZ K C (frz W)) := F.imp fun _ _ _ _ h => sp_frz h
end
section
variable {C : CI} {X : Cx}
/-- new lists that are changed later -/
def zRepeatC : ZR2 := fun x y Δ P => ∃ ds k, lstD Δ x = some ds ∧ y = .int k ∧ -(2 ^ 63) ≤ k ∧ k < 2 ^ 63 ∧ ds.length * k.toNat ≤ 100000 ∧ P (.cell Δ.length) (Δ ++ [.lst (List.replicate k.toNat ds).flatten])
theorem oz_repC : OpZ C X (binaryOp .Mult) zRepeatC := ⟨_, op_rep, fun S A H Δ x y dx dy P Q hc rx ry hz k => by
  obtain ⟨ds, i, h1, rfl, h2, h3, hl, p⟩ := hz
  obtain ⟨a, xs, rfl, g1, g2⟩ := Rep.lst_ hc rx h1
  cases ry
  refine ⟨a, i, xs, rfl, rfl, g1, h2, h3, sz100 (by rw [g2.length]; exact hl), fun q hq => ?_⟩
  refine k _ _ (A ++ [q]) _ _ (Ext.newCell hq) (hc.newCell hq (g2.repl _)) (.cell ?_) p
  rw [← hc.len, List.getElem?_append_right (Nat.le_refl _), Nat.sub_self]
  rfl⟩
def zCatC : ZR2 := fun x y Δ P => ∃ ds es, lstD Δ x = some ds ∧ lstD Δ y = some es ∧ ds.length + es.length ≤ 100000 ∧ P (.cell Δ.length) (Δ ++ [.lst (ds ++ es)])
theorem oz_catC : OpZ C X (binaryOp .Add) zCatC := ⟨_, op_cat, fun S A H Δ x y dx dy P Q hc rx ry hz k => by
  obtain ⟨ds, es, h1, h2, hl, p⟩ := hz
  obtain ⟨a, xs, rfl, g1, g2⟩ := Rep.lst_ hc rx h1
  obtain ⟨b, ys, rfl, g3, g4⟩ := Rep.lst_ hc ry h2
  refine ⟨a, b, xs, ys, rfl, rfl, g1, g3, sz100 (by rw [g2.length, g4.length]; exact hl), fun q hq => ?_⟩
  refine k _ _ (A ++ [q]) _ _ (Ext.newCell hq) (hc.newCell hq (g2.append g4)) (.cell ?_) p
  rw [← hc.len, List.getElem?_append_right (Nat.le_refl _), Nat.sub_self]
  rfl⟩
end
theorem walkZ {l : PySem.W.OpenLaw} {n k : Nat} {q : Program} {loose : List Str} {XP : (Str → Option Value) → Heap → Prop} {YP : World → Heap → Prop} {d : DefRec} {K : Params → PySem.W.Frag} {x : Str}
    (hn : l.most = some n) (hn2 : n ≤ sizeLine) (hdf : d.params.defaults = []) (hr : Room k callerA) (hY : ∀ (w : World) (h : Heap), YP w h → (K w.params).In h)
    (F : ∀ (w : World) (mg : Str → Option Value) (fa : Addr) (h : Heap), (K w.params).In h → h.Ns mainGlobals mg → mg d.name = some (.ref fa) →
      ∃ (fd : FuncData) (C : CI) (W : ZRC), (∀ (s : Shared) (u : Value), BindsTo s fd ⟨[u], []⟩ [(x, u)]) ∧ (∀ base : Heap, (K w.params).In base → base.Ns mainGlobals mg → FnG l.prog w (K w.params) mg base k fa fd [x] (SpZ (K w.params) C W)) ∧
        ∀ ns : List Int, ns.length ≤ n → W [.scr ns] [] fun d _ => d = .bl true) : PySem.W.WalkO q loose XP YP l.row.toRowW d [] (fun f vs => PySem.call f vs) := by
  refine Att.attach_call hn hdf fun w s₀ s₁ mg mb fa o pm cd doc a vs ns G Y ho hd hcd hmg hobj hints hlen hg => ?_
  obtain ⟨fd, C, W, hb, hF, hW⟩ := F w mg fa _ (hY w _ Y) G.T.g hmg
  exact law_callG (hY w _ Y) G.T.g G.T.b G.T.builtins G.T.nolimit hg hobj hints (Nat.le_trans hlen hn2) hr hF hb (hW ns hlen)
end Z

/-! M1: evaluating readings over data; loops and comprehensions over lists of data. -/
namespace Z
open PySem PySem.Spec PyProof.Rows L2

theorem at0 {α : Type} {a : α} {l : List α} : atI (a :: l) 0 = some a := atI_nat (j := 0) rfl
theorem at1 {α : Type} {a b : α} {l : List α} : atI (a :: b :: l) 1 = some b := atI_nat (j := 1) rfl
theorem at2 {α : Type} {a b c : α} {l : List α} : atI (a :: b :: c :: l) 2 = some c := atI_nat (j := 2) rfl
theorem at3 {α : Type} {a b c d : α} {l : List α} : atI (a :: b :: c :: d :: l) 3 = some d := atI_nat (j := 3) rfl
theorem at4 {α : Type} {a b c d e : α} {l : List α} : atI (a :: b :: c :: d :: e :: l) 4 = some e := atI_nat (j := 4) rfl
theorem atN {α : Type} {l : List α} {i : Int} (h0 : 0 ≤ i) (h1 : i < l.length) : ∃ d, l[i.toNat]? = some d ∧ atI l i = some d := by
  have hl : i.toNat < l.length := by omega
  refine ⟨l[i.toNat], List.getElem?_eq_getElem hl, ?_⟩
  have e : ((i.toNat : Nat) : Int) = i := by omega
  have q := atI_nat (xs := l) (j := i.toNat) (List.getElem?_eq_getElem hl)
  rw [e] at q
  exact q
theorem ix0 {n : Nat} (h : 0 < n) : ixN n 0 = some 0 := by unfold ixN; rw [if_pos (by decide), if_pos (by omega)]; rfl
theorem ix2_3 : ixN 3 2 = some 2 := by decide
theorem ix0_3 : ixN 3 0 = some 0 := by decide
theorem isNon_int (i : Int) : Z.isNon (.int i) = false := rfl
theorem isNon_non : Z.isNon .non = true := rfl
theorem dec_not {p : Prop} [Decidable p] : (decide p = false) = ¬ p := by simp
theorem dec_yes {p : Prop} [Decidable p] : (decide p = true) = p := by simp
theorem t_t : (true = true) = True := by simp
theorem t_f : (true = false) = False := by simp
theorem f_t : (false = true) = False := by simp
theorem f_f : (false = false) = True := by simp

local macro_rules | `(tactic| walk_at "zm") => `(tactic| simp only [zSeq, zAsg, zRet, zRetN, zIfS, zNext, zDrop, zPar, zVar, zC, zOp, zUn, zNeg, zI0, zI, zTest, zAnd, zOr, zNot, zAndV, zOrV, zNotV, zIf, zNil, zCons, zTup, zLst, zLstC, zgName, zgTup, zgCons, zgNil, zgSub, startZ, zCall, zCB, zChain, zIsN, zNotN, zNever,
  zAddA, zMulA, zRepeat, zCat, zIx, seqD, lstD, zMax2, zMin2, zAbs, zLen, zSum, zGcd, zInt, zYes, zBreak, zCont,
  at0, at1, at2, at3, at4, ix2_3, ix0_3, isNon_int, isNon_non, Bool.not_true, Bool.not_false,
  List.map_cons, List.map_nil, List.length_cons, List.length_nil, List.replicate_succ, List.replicate_zero, List.append_nil, List.nil_append, List.cons_append, List.getElem?_cons_zero, List.getElem?_cons_succ, List.set_cons_zero, List.set_cons_succ,
  Option.some.injEq, D.int.injEq, D.bl.injEq, D.tup.injEq, D.lst.injEq, D.str.injEq, D.cell.injEq, O.lst.injEq, reduceCtorEq, exists_eq_left', exists_eq_left, false_and, and_false, true_and, and_true, exists_false, or_false, false_or, exists_and_left, exists_eq', exists_and_right, List.cons.injEq, dec_not, dec_yes, t_t, t_f, f_t, f_f, true_implies, false_implies, implies_true, and_self, Nat.reduceAdd, Nat.reduceLeDiff, Nat.reduceSub, Nat.reduceLT])

/-! ### loops -/
/-- a for: an invariant over the number of items behind, the slots and the store -/
theorem loop_inv {body : D → ZS} {Z : ZEnds} (I : Nat → Env → Store → Prop) : ∀ (xs : List D) (k : Nat) (Γ : Env) (Δ : Store), I k Γ Δ →
    (∀ i x Γ Δ (Z' : ZEnds), xs[i]? = some x → I (k + i) Γ Δ → (∀ Γ' Δ', I (k + i + 1) Γ' Δ' → Z'.nx Γ' Δ') → (∀ Γ' Δ', I (k + i + 1) Γ' Δ' → Z'.ct Γ' Δ') → Z'.rt = Z.rt → Z'.bk = Z.nx → body x Z' Γ Δ) →
    (∀ Γ Δ, I (k + xs.length) Γ Δ → Z.nx Γ Δ) → loopZ body Z xs Γ Δ
  | [], k, Γ, Δ, h0, _, hd => hd Γ Δ h0
  | x :: xs, k, Γ, Δ, h0, hs, hd => by
    have tail : ∀ Γ' Δ', I (k + 0 + 1) Γ' Δ' → loopZ body Z xs Γ' Δ' := fun Γ' Δ' h => loop_inv I xs (k + 1) Γ' Δ' h
      (fun i y Γ Δ Z' hy hi hn hc => hs (i + 1) y Γ Δ Z' (by simpa using hy) (by rw [show k + (i + 1) = k + 1 + i by omega]; exact hi) (fun Γ' Δ' q => hn Γ' Δ' (by rw [show k + 1 + i + 1 = k + (i + 1) + 1 by omega]; exact q)) (fun Γ' Δ' q => hc Γ' Δ' (by rw [show k + 1 + i + 1 = k + (i + 1) + 1 by omega]; exact q)))
      (fun Γ Δ q => hd Γ Δ (by rw [show k + (x :: xs).length = k + 1 + xs.length by rw [List.length_cons]; omega]; exact q))
    exact hs 0 x Γ Δ { Z with nx := loopZ body Z xs, ct := loopZ body Z xs, bk := Z.nx } rfl h0 tail tail rfl rfl
/-- the same where the number of turns does not matter -/
theorem loop_all {body : D → ZS} {Z : ZEnds} (I : Env → Store → Prop) {xs : List D} {Γ : Env} {Δ : Store} (h0 : I Γ Δ)
    (hs : ∀ x Γ Δ (Z' : ZEnds), x ∈ xs → I Γ Δ → (∀ Γ' Δ', I Γ' Δ' → Z'.nx Γ' Δ') → (∀ Γ' Δ', I Γ' Δ' → Z'.ct Γ' Δ') → Z'.rt = Z.rt → Z'.bk = Z.nx → body x Z' Γ Δ)
    (hd : ∀ Γ Δ, I Γ Δ → Z.nx Γ Δ) : loopZ body Z xs Γ Δ :=
  loop_inv (fun _ => I) xs 0 Γ Δ h0 (fun _ x Γ Δ Z' hx => hs x Γ Δ Z' (List.mem_of_getElem? hx)) hd
/-! ### comprehensions -/
/-- each item gives f of it, the store stays -/
theorem comp_map {zg : ZG} {ze : ZE} {Γ0 : Env} {P : D → Store → Prop} {Δ : Store} {α : Type} {g : α → D} {f : α → D} : ∀ (xs : List α) (acc : List D), acc.length + xs.length ≤ 100000 →
    (∀ x ∈ xs, ∀ Q : D → Store → Prop, Q (f x) Δ → zg (g x) Γ0 Δ fun Γ2 Δ2 => ze Γ2 Δ2 Q) → P (.lst (acc ++ xs.map f)) Δ → compZ zg zYes ze Γ0 P (xs.map g) acc Δ
  | [], acc, _, _, h => by simpa [compZ] using h
  | x :: xs, acc, hl, hs, h => by
    have ih : compZ zg zYes ze Γ0 P (xs.map g) (acc ++ [f x]) Δ := comp_map xs (acc ++ [f x]) (by simp at hl ⊢; omega) (fun y hy => hs y (List.mem_cons_of_mem _ hy)) (by simpa using h)
    show zg (g x) Γ0 Δ fun Γ2 Δ2 => (true = true → ze Γ2 Δ2 fun y Δ4 => acc.length < 100000 ∧ compZ zg zYes ze Γ0 P (xs.map g) (acc ++ [y]) Δ4) ∧ (true = false → compZ zg zYes ze Γ0 P (xs.map g) acc Δ2)
    simp only [true_implies, reduceCtorEq, false_implies, and_true]
    exact hs x List.mem_cons_self _ ⟨by simp at hl; omega, ih⟩
end Z

/-! Z9: a call that is given a cell's content: the def neither changes nor keeps the cell. -/
namespace Z
open PySem PySem.Spec PyProof.Rows L2
section
variable {K : PySem.W.Frag} {C : CI} {S A : List Addr} {H : Hp} {Δ : Store}
mutual
theorem Rep.bare : ∀ (d : D) {v : V}, below 0 d = true → Rep K C S A H v d → Rep K C S [] H v d
  | .non, _, _, h => by cases h; exact .non
  | .bl b, _, _, h => by cases h; exact .bl b
  | .int i, _, _, h => by cases h; exact .int i
  | .str x, _, _, h => by cases h; exact .str x
  | .ty n, _, _, h => by cases h; exact .ty n
  | .cls c, _, _, h => by cases h; exact .cls c
  | .ktup ns, _, _, h => by cases h with | ktup h => exact .ktup h
  | .exc c, _, _, h => by cases h with | exc h hA hS => exact .exc h (fun q => nomatch q) hS
  | .tup ds, _, hb, h => by cases h with | tup h hA hS r => exact .tup h (fun q => nomatch q) hS (RepL.bare ds hb r)
  | .lst ds, _, hb, h => by cases h with | lst h hA hS r => exact .lst h (fun q => nomatch q) hS (RepL.bare ds hb r)
  | .ins c ds, _, hb, h => by cases h with | ins h hA hS hl r => exact .ins h (fun q => nomatch q) hS hl (RepL.bare ds hb r)
  | .dct ks ds, _, hb, h => by cases h with | dct h hA hS hl r => exact .dct h (fun q => nomatch q) hS hl (RepL.bare ds hb r)
  | .cell n, _, hb, h => by have := of_decide_eq_true (p := n < 0) hb; omega
  | .scr ns, _, _, h => by
    cases h with
    | scr h =>
      rcases h with ⟨h, hA, hS⟩ | h
      · exact .scr (.inl ⟨h, (fun q => nomatch q), hS⟩)
      · exact .scr (.inr h)
theorem RepL.bare : ∀ (ds : List D) {vs : List V}, belowL 0 ds = true → RepL K C S A H vs ds → RepL K C S [] H vs ds
  | [], _, _, h => by cases h; exact .nil
  | d :: ds, _, hb, h => by
    have hb' : (below 0 d && belowL 0 ds) = true := hb
    rw [Bool.and_eq_true] at hb'
    cases h with
    | cons h r => exact .cons (Rep.bare d hb'.1 h) (RepL.bare ds hb'.2 r)
end
/-- a cell that holds a list, read -/
def thaw (Δ : Store) : D → D
  | .cell n => match Δ[n]? with
    | some (.lst ds) => .lst ds
    | some (.dct ks ds) => .dct ks ds
    | _ => .cell n
  | d => d
theorem Rep.thw (hc : Cells K C S A H Δ) : ∀ (d : D) {v : V}, Z.below 0 (Z.thaw Δ d) = true → Rep K C S A H v d → Rep K C S [] H v (Z.thaw Δ d)
  | .cell n, v, hb, h => by
    unfold Z.thaw at hb ⊢
    cases q : Δ[n]? with
    | none => simp only [q] at hb; have := of_decide_eq_true (p := n < 0) hb; omega
    | some o =>
      cases o with
      | ins c fs => simp only [q] at hb; have := of_decide_eq_true (p := n < 0) hb; omega
      | dct ks ds =>
        simp only [q] at hb ⊢
        cases h with
        | cell e =>
          obtain ⟨xs, h1, h0, h2⟩ := hc.at_ n _ _ e q
          exact .dct (.inl h1) (fun q => nomatch q) (hc.dj _ (List.mem_of_getElem? e)) h0 (RepL.bare ds hb h2)
      | lst ds =>
        simp only [q] at hb ⊢
        cases h with
        | cell e =>
          obtain ⟨xs, h1, h2⟩ := hc.at_ n _ _ e q
          exact .lst h1 (fun q => nomatch q) (hc.dj _ (List.mem_of_getElem? e)) (RepL.bare ds hb h2)
  | .non, _, hb, h => Rep.bare .non hb h
  | .bl b, _, hb, h => Rep.bare (.bl b) hb h
  | .int i, _, hb, h => Rep.bare (.int i) hb h
  | .str x, _, hb, h => Rep.bare (.str x) hb h
  | .ty n, _, hb, h => Rep.bare (.ty n) hb h
  | .cls c, _, hb, h => Rep.bare (.cls c) hb h
  | .ktup c, _, hb, h => Rep.bare (.ktup c) hb h
  | .exc c, _, hb, h => Rep.bare (.exc c) hb h
  | .tup ds, _, hb, h => Rep.bare (.tup ds) hb h
  | .lst ds, _, hb, h => Rep.bare (.lst ds) hb h
  | .ins c ds, _, hb, h => Rep.bare (.ins c ds) hb h
  | .scr ns, _, hb, h => Rep.bare (.scr ns) hb h
  | .dct ks ds, _, hb, h => Rep.bare (.dct ks ds) hb h
theorem RepL.thw (hc : Cells K C S A H Δ) : ∀ (ds : List D) {vs : List V}, Z.belowL 0 (ds.map (Z.thaw Δ)) = true → RepL K C S A H vs ds → RepL K C S [] H vs (ds.map (Z.thaw Δ))
  | [], _, _, h => by cases h; exact .nil
  | d :: ds, _, hb, h => by
    have hb' : (Z.below 0 (Z.thaw Δ d) && Z.belowL 0 (ds.map (Z.thaw Δ))) = true := hb
    rw [Bool.and_eq_true] at hb'
    cases h with
    | cons h r => exact .cons (Rep.thw hc d hb'.1 h) (RepL.thw hc ds hb'.2 r)
/-- a value that stands nowhere -/
def bareD : D → Bool
  | .non | .bl _ | .int _ | .str _ => true
  | _ => false
theorem Rep.of_bare {A' : List Addr} {v : V} {d : D} (hb : bareD d = true) (h : Rep K C S A' H v d) : Rep K C S A H v d := by
  cases h with
  | non => exact .non
  | bl b => exact .bl b
  | int i => exact .int i
  | str x => exact .str x
  | _ => cases hb
end
def zCallB (W : ZRC) (za : ZA) : ZE := fun Γ Δ P => za Γ Δ fun ds Δ1 => Z.belowL 0 (ds.map (Z.thaw Δ1)) = true ∧ W (ds.map (Z.thaw Δ1)) [] fun d _ => bareD d = true ∧ P d Δ1
section
variable {C : CI} {X : Cx} {e : Expr} {es : List Expr} {za : ZA} {pos p : Pos} {x : Str} {k : Nat} {f : Addr} {fd : FuncData} {ps : List Str} {W : ZRC}
theorem ref_callB {K : PySem.W.Frag} {ta : TA} {E : XK} (ha : RefA K C ta za) : RefE K C (tCall (SpZ K C W) [] E ta) (zCallB W za) := fun S A σ H Γ Δ P Q hs hc hz k =>
  ha S A σ H Γ Δ _ _ hs hc hz fun vs ds A1 H1 Δ1 e1 c1 r1 p => by
    obtain ⟨hb, p⟩ := p
    refine ⟨S, [], [], ds.map (Z.thaw Δ1), _, ?_, ⟨rfl, .nil, (fun a ha => nomatch ha), c1.as, (fun n a o h => nomatch h)⟩, p, fun v d A' H' Δ' e2 c2 r2 p2 => ?_⟩
    · rw [List.append_nil]; exact RepL.thw c1 ds hb r1
    · have kp : ∀ a o, H1 a = some o → H' a = some o := fun a o h => e2.keep a o (fun q => nomatch q) h
      exact k v d A1 H' Δ1 (e1.trans (Ext.kept kp)) (c1.kept kp) (r2.of_bare p2.1) p2.2
theorem ez_callb (F : FnOk X.prog X.w X.K X.mg X.base CX0 k f fd ps (SpZ X.K C W)) (hr : Room k X.A) (hm : X.mg x = some (.ref f)) (hk : PySem.W.keepIn X.K (.ref f) = true) (hb : Binds X.K fd ps [])
    (ha : AZ C X (e :: es) za) (hg : Gl X x := by rfl) (hdb : (x == ("__debug__" : Str)) = false := by decide) (he : starEach (e :: es) X.env = (false, eval e X.env) :: starEach es X.env := by rfl) (hpl : (backTo pos (starEach es X.env)).any (·.1) = false := by rfl) :
    EZ C X (.Call (.Name x p) (e :: es) [] pos) (zCallB W za) := by
  obtain ⟨t, a1, a2⟩ := ha.ex
  exact ⟨_, pe_call F hr hg hm hk hb .nil pass0 a1 hdb he hpl, ref_callB a2⟩
end
end Z

/-! Z10: an instance made by a call with keywords; a tuple's cut. -/
namespace Z
open PySem PySem.Spec PyProof.Rows L2
/-- where a parameter's value comes from: the i-th default, the j-th keyword -/
inductive Pk where
  | d (i : Nat)
  | k (j : Nat)
def picked {α : Type} (its ws : List α) : List Pk → List α
  | [] => []
  | .d i :: r => its[i]?.toList ++ picked its ws r
  | .k j :: r => ws[j]?.toList ++ picked its ws r
theorem Vals.opt {vs : List V} {us : List Value} (r : Vals vs us) (i : Nat) : Vals (vs[i]?.toList) (us[i]?.toList) := by
  induction r generalizing i with
  | nil => simp only [List.getElem?_nil, Option.toList_none]; exact .nil
  | cons h r ih =>
    cases i with
    | zero => exact .cons h .nil
    | succ i => exact ih i
theorem Vals.picked {vs zs : List V} {us ws : List Value} (r : Vals vs us) (r2 : Vals zs ws) : ∀ l : List Pk, Vals (Z.picked vs zs l) (Z.picked us ws l)
  | [] => .nil
  | .d i :: l => (Vals.opt r i).append (Vals.picked r r2 l)
  | .k j :: l => (Vals.opt r2 j).append (Vals.picked r r2 l)
section
variable {K : PySem.W.Frag} {C : CI} {S A : List Addr} {H : Hp}
theorem RepL.opt : ∀ {vs : List V} {ds : List D} (r : RepL K C S A H vs ds) (i : Nat), RepL K C S A H (vs[i]?.toList) (ds[i]?.toList)
  | _, _, .nil, i => by simp only [List.getElem?_nil, Option.toList_none]; exact .nil
  | _, _, .cons h r, 0 => .cons h .nil
  | _, _, .cons h r, i + 1 => RepL.opt r i
theorem RepL.picked {vs zs : List V} {us ws : List D} (r : RepL K C S A H vs us) (r2 : RepL K C S A H zs ws) : ∀ l : List Pk, RepL K C S A H (Z.picked vs zs l) (Z.picked us ws l)
  | [] => .nil
  | .d i :: l => (RepL.opt r i).append (RepL.picked r r2 l)
  | .k j :: l => (RepL.opt r2 j).append (RepL.picked r r2 l)
end
/-- no built-in type's value is an instance of an own class -/
theorem kit_no {K : PySem.W.Frag} {n : String} {Ca : Addr} (h1 : PySem.W.isClsIn K Ca = true) (h2 : PySem.W.typeIn K (.ref Ca) = some (.type "type")) (h3 : PySem.W.notFirst K Ca (.type n) = true) : PySem.W.kitOne K (.type n) (.ref Ca) = some false := by
  have e : (Value.type n == Value.ref Ca) = false := rfl
  unfold PySem.W.notFirst at h3
  rw [e, Bool.false_or] at h3
  unfold PySem.W.kitOne PySem.W.kitCls
  rw [e, if_neg (by decide)]
  show (if ((PySem.W.clsIn K Ca).isSome && PySem.W.typeIn K (.ref Ca) == some (.type "type")) = true then _ else none) = _
  rw [if_pos]
  · exact beq_iff_eq.mp h3
  · rw [show (PySem.W.clsIn K Ca).isSome = true from h1, h2]
    exact beq_self_eq_true _
/-- C(e, .., k = v, ..), never changed again -/
def zMakeK (C : CI) (c n m : Nat) (W : ZRC) (dds : List D) (l : List Pk) (za zk : ZA) : ZE := fun Γ Δ P => za Γ Δ fun ds Δ1 => zk Γ Δ1 fun zs Δ2 => ds.length = n ∧ zs.length = m ∧
  W (.cell Δ2.length :: (ds ++ picked dds zs l)) (Δ2 ++ [.ins c []]) fun v Δ3 => v = .non ∧ ∃ es, Δ3 = Δ2 ++ [.ins c ((C.nms c).zip es)] ∧ es.length = (C.nms c).length ∧ belowL Δ2.length es = true ∧ P (.ins c es) Δ2
/-- keywords -/
structure KZ (C : CI) (X : Cx) (kws : List Keyword) (z : ZA) : Prop where
  ex : ∃ t, PK X kws t ∧ RefA X.K C t z
section
variable {C : CI} {X : Cx} {e : Expr} {es : List Expr} {kws : List Keyword} {za zk : ZA} {ze : ZE} {pos p kpos : Pos} {x : Str} {k n : Nat} {f : Addr} {fd : FuncData} {ps ks : List Str} {W : ZRC} {dvs : List V} {dds : List D} {l : List Pk} {nm : Option Str}
theorem kz_nil : KZ C X [] zNil := ⟨_, pk_nil, fun S A σ H Γ Δ P Q hs hc hz k => k [] [] A H Δ (Ext.refl _ _) hc .nil hz⟩
theorem kz_cons (ha : EZ C X e ze) (hr : KZ C X kws zk) : KZ C X (⟨nm, e, kpos⟩ :: kws) (zCons ze zk) := by
  obtain ⟨t, h1, h2⟩ := ha.ex
  obtain ⟨u, g1, g2⟩ := hr.ex
  exact ⟨_, pk_cons h1 g1, fun S A σ H Γ Δ P Q hs hc hz k => h2 S A σ H Γ Δ _ _ hs hc hz fun x dx A1 H1 Δ1 e1 c1 r1 hz1 =>
    g2 S A1 σ H1 Γ Δ1 _ _ (hs.ext e1) c1 hz1 fun vs ds A2 H2 Δ2 e2 c2 r2 p => k _ _ A2 H2 Δ2 (e1.trans e2) c2 (.cons (r1.ext e2) r2) p⟩
theorem ref_makeK {K : PySem.W.Frag} {c m : Nat} {ta tk : TA} {E : XK} (ha : RefA K C ta za) (hk : RefA K C tk zk) (hdd : ∀ S A H, RepL K C S A H dvs dds) : RefE K C (tMakeK (C.adr c) n m (SpZ K C W) (fun vs zs => vs ++ picked dvs zs l) E ta tk) (zMakeK C c n m W dds l za zk) := fun S A σ H Γ Δ P Q hs hc hz k =>
  ha S A σ H Γ Δ _ _ hs hc hz fun vs ds A0 H0 Δ0 e0 c0 r0 p0 => hk S A0 σ H0 Γ Δ0 _ _ (hs.ext e0) c0 p0 fun zs ks A1 H1 Δ1 e01 c1 rk p => by
    obtain ⟨l1, l2, p⟩ := p
    have r1 := r0.ext e01
    have e1 := e0.trans e01
    refine ⟨by rw [r1.length]; exact l1, by rw [rk.length]; exact l2, fun x dx hx hdx hne => ?_⟩
    have hx0 : upd H1 dx (.own x) x = none := by rw [upd_ne (Ne.symm hne)]; exact hx
    have e2 : Ext A1 H1 A1 (upd H1 dx (.own x)) := Ext.new hdx
    have e3 : Ext A1 (upd H1 dx (.own x)) (A1 ++ [x]) (upd (upd H1 dx (.own x)) x (.ins (C.adr c) dx [])) := Ext.newCell hx0
    have e23 := e2.trans e3
    refine ⟨S, A1 ++ [x], Δ1 ++ [.ins c []], .cell Δ1.length :: (ds ++ picked dds ks l), _, .cons (.cell ?_) ((r1.ext e23).append (RepL.picked (hdd _ _ _) (rk.ext e23) l)), (c1.new hdx).newO (o := .ins c []) hx0 ⟨dx, [], upd_same, rfl, .nil⟩, p, fun v d A' H' Δ' e4 c4 r4 p4 => ?_⟩
    · rw [← c1.len, List.getElem?_append_right (Nat.le_refl _), Nat.sub_self] <;> rfl
    · obtain ⟨rfl, es, rfl, hl, hb, p4⟩ := p4
      cases r4
      refine ⟨rfl, ?_⟩
      have hA' : A' = A1 ++ [x] := by
        obtain ⟨B, hB, _⟩ := e4.pre
        have hlen := c4.len
        rw [hB, List.length_append, List.length_append, List.length_append, c1.len] at hlen
        have hB0 : B.length = 0 := by
          have h1 : ([x] : List Addr).length = 1 := rfl
          have h2 : ([O.ins c ((C.nms c).zip es)] : List O).length = 1 := rfl
          omega
        rw [List.length_eq_zero_iff.mp hB0, List.append_nil] at hB
        exact hB
      subst hA'
      obtain ⟨c5, r5⟩ := c1.freeze c4 hl (by rw [c1.len]; exact hb)
      have e14 := e23.trans e4
      refine k _ _ A1 H' Δ1 (e1.trans ⟨⟨[], by simp, by simp⟩, fun a o h1 h2 => e14.keep a o h1 h2, e14.trk⟩) c5 r5 p4
theorem ez_makeK {c : Nat} (M : Mk X.K (C.adr c) f) (F : FnOk X.prog X.w X.K X.mg X.base CX0 k f fd ps (SpZ X.K C W)) (hr : Room (k + 1) X.A) (hm : X.mg x = some (.ref (C.adr c))) (hb : ∃ its : List Value, KBn X.K fd ps (n + 1) ks (fun us ws => us ++ picked its ws l) (fun vs zs => vs ++ picked dvs zs l))
    (hdd : ∀ S A H, RepL X.K C S A H dvs dds) (ha : AZ C X (e :: es) za) (hk : KZ C X kws zk) (hg : Gl X x := by rfl)
    (hall : (backToKw pos (keywordEach kws X.env)).all (·.1.isSome) = true := by rfl) (hks : (backToKw pos (keywordEach kws X.env)).filterMap (·.1) = ks := by rfl) (hdb : (x == ("__debug__" : Str)) = false := by decide)
    (he : starEach (e :: es) X.env = (false, eval e X.env) :: starEach es X.env := by rfl) (hpl : ((backTo pos (starEach (e :: es) X.env)).any (·.1) || (backToKw pos (keywordEach kws X.env)).any (·.1.isNone)) = false := by rfl) :
    EZ C X (.Call (.Name x p) (e :: es) kws pos) (zMakeK C c n ks.length W dds l za zk) := by
  obtain ⟨t, a1, a2⟩ := ha.ex
  obtain ⟨u, k1, k2⟩ := hk.ex
  obtain ⟨its, hb⟩ := hb
  exact ⟨_, pe_makeK M F hr hg hm hb pass0 (E := E0) a1 k1 hall hks hdb he hpl, ref_makeK a2 k2 hdd⟩
theorem ez_makeK0 {c : Nat} (M : Mk X.K (C.adr c) f) (F : FnOk X.prog X.w X.K X.mg X.base CX0 k f fd ps (SpZ X.K C W)) (hr : Room (k + 1) X.A) (hm : X.mg x = some (.ref (C.adr c))) (hb : ∃ its : List Value, KBn X.K fd ps 1 ks (fun us ws => us ++ picked its ws l) (fun vs zs => vs ++ picked dvs zs l))
    (hdd : ∀ S A H, RepL X.K C S A H dvs dds) (hk : KZ C X kws zk) (hg : Gl X x := by rfl)
    (hall : (backToKw pos (keywordEach kws X.env)).all (·.1.isSome) = true := by rfl) (hks : (backToKw pos (keywordEach kws X.env)).filterMap (·.1) = ks := by rfl) (hdb : (x == ("__debug__" : Str)) = false := by decide)
    (hpl : ((backTo pos (starEach [] X.env)).any (·.1) || (backToKw pos (keywordEach kws X.env)).any (·.1.isNone)) = false := by rfl) :
    EZ C X (.Call (.Name x p) [] kws pos) (zMakeK C c 0 ks.length W dds l zNil zk) := by
  obtain ⟨u, k1, k2⟩ := hk.ex
  obtain ⟨its, hb⟩ := hb
  exact ⟨_, pe_makeK0 M F hr hg hm hb pass0 (E := E0) k1 hall hks hdb hpl, ref_makeK (n := 0) (fun S A σ H Γ Δ P Q hs hc hz k => k [] [] A H Δ (Ext.refl _ _) hc .nil hz) k2 hdd⟩
theorem ez_makeD {c : Nat} (M : Mk X.K (C.adr c) f) (F : FnOk X.prog X.w X.K X.mg X.base CX0 k f fd ps (SpZ X.K C W)) (hr : Room (k + 1) X.A) (hm : X.mg x = some (.ref (C.adr c))) (hb : ∃ ts : List Value, Vals dvs ts ∧ Binds X.K fd ps ts) (hdd : ∀ S A H, RepL X.K C S A H dvs dds)
    (ha : AZ C X (e :: es) za) (hg : Gl X x := by rfl) (hdb : (x == ("__debug__" : Str)) = false := by decide) (he : starEach (e :: es) X.env = (false, eval e X.env) :: starEach es X.env := by rfl) (hpl : (backTo pos (starEach es X.env)).any (·.1) = false := by rfl) :
    EZ C X (.Call (.Name x p) (e :: es) [] pos) (zMakeF C c W dds za) := by
  obtain ⟨ts, h1, h2⟩ := hb
  exact ez_makeF M F hr hm h2 h1 hdd ha hg hdb he hpl
/-- t[lo:hi], not the whole of it -/
def zSlT (z : ZE) (zl zh : ZO) : ZE := fun Γ Δ P => z Γ Δ fun x Δ1 => zl Γ Δ1 fun l Δ2 => zh Γ Δ2 fun u Δ3 => ∃ ds, x = .tup ds ∧ ¬ (HT.sIx ds.length 0 l = 0 ∧ HT.sIx ds.length ds.length u = ds.length) ∧ P (.tup (Z.cutD ds l u)) Δ3
theorem ez_slT {a : Expr} {lo hi : Option Expr} {z : ZE} {zl zh : ZO} {p2 : Pos} (ha : EZ C X a z) (hl : OZ C X lo zl) (hh : OZ C X hi zh) : EZ C X (.Subscript a (.Slice lo hi none p2) pos) (zSlT z zl zh) := by
  obtain ⟨t, a1, a2⟩ := ha.ex
  obtain ⟨tl, l1, l2⟩ := hl.ex
  obtain ⟨th, u1, u2⟩ := hh.ex
  refine ⟨_, pe_slice sl_tup a1 l1 u1, fun S A σ H Γ Δ P Q hs hc hz k => a2 S A σ H Γ Δ _ _ hs hc hz fun x dx A1 H1 Δ1 e1 c1 r1 hz1 => ?_⟩
  refine l2 S A1 σ H1 Γ Δ1 _ _ (hs.ext e1) c1 hz1 fun l A2 H2 Δ2 e2 c2 hz2 => u2 S A2 σ H2 Γ Δ2 _ _ ((hs.ext e1).ext e2) c2 hz2 fun u A3 H3 Δ3 e3 c3 hz3 => ?_
  obtain ⟨ds, rfl, hw, p⟩ := hz3
  have r3 := (r1.ext e2).ext e3
  cases r3 with
  | tup g1 g2 g3 g4 =>
    rename_i a xs
    refine ⟨a, xs, rfl, SqT.of g1, by rw [g4.length]; exact hw, fun q hq => ?_⟩
    have hcut : RepL X.K C S A3 H3 (cutV xs l u) (Z.cutD ds l u) := by
      unfold cutV Z.cutD
      rw [g4.length]
      exact (g4.drop _).take _
    have e4 := Ext.new (A := A3) (o := .tup (cutV xs l u)) hq
    exact k _ _ A3 _ Δ3 (((e1.trans e2).trans e3).trans e4) (c3.new hq) (.tup upd_same (c3.fresh hq) (c3.aside hq) (hcut.ext e4)) p
end
/-! ### a new list that the caller never changes, made while cells were written -/
def blwO (m : Nat) : O → Bool
  | .lst ds => belowL m ds
  | .ins _ fs => belowL m (fs.map (·.2))
  | .dct _ ds => belowL m ds
theorem Cells.freezeM {K : PySem.W.Frag} {C : CI} {S A : List Addr} {H H0 : Hp} {Δ Δ1 : Store} {x : Addr} {es : List D} (c1 : Cells K C S A H0 Δ) (hc : Cells K C S (A ++ [x]) H (Δ1 ++ [.lst es])) (hl : Δ1.length = Δ.length)
    (hw : ∀ (n : Nat) (o : O), Δ1[n]? = some o → Δ[n]? = some o ∨ blwO Δ.length o = true) (hb : belowL A.length es = true) : Cells K C S A H Δ1 ∧ Rep K C S A H (.ref x) (.lst es) := by
  have lenΔ : A.length = Δ1.length := by rw [hl]; exact c1.len
  refine ⟨⟨lenΔ, c1.nd, c1.dj, hc.as, fun n a o h1 h2 => ?_⟩, ?_⟩
  · have hn : n < A.length := (List.getElem?_eq_some_iff.mp h1).1
    have q := hc.at_ n a o (by rw [List.getElem?_append_left hn]; exact h1) (by rw [List.getElem?_append_left (by rw [← lenΔ]; exact hn)]; exact h2)
    have hb2 : blwO A.length o = true := by
      rcases hw n o h2 with h | h
      · have q0 := c1.at_ n a o h1 h
        cases o with
        | lst ds =>
          obtain ⟨_, _, g3⟩ := q0
          exact RepL.blw ds g3
        | ins c fs =>
          obtain ⟨_, _, _, _, g4⟩ := q0
          exact RepL.blw _ g4
        | dct ks ds =>
          obtain ⟨_, _, _, g4⟩ := q0
          exact RepL.blw _ g4
      · rw [c1.len]; exact h
    cases o with
    | lst ds =>
      obtain ⟨xs, g1, g2⟩ := q
      exact ⟨xs, g1, RepL.drop_ ds hb2 g2⟩
    | ins c fs =>
      obtain ⟨dx, xs, g1, g2, g3⟩ := q
      exact ⟨dx, xs, g1, g2, RepL.drop_ _ hb2 g3⟩
    | dct ks ds =>
      obtain ⟨xs, g1, g2, g3⟩ := q
      exact ⟨xs, g1, g2, RepL.drop_ _ hb2 g3⟩
  · have q := hc.at_ A.length x (.lst es) (by rw [List.getElem?_append_right (Nat.le_refl _), Nat.sub_self] <;> rfl) (by rw [lenΔ, List.getElem?_append_right (Nat.le_refl _), Nat.sub_self] <;> rfl)
    obtain ⟨xs, g1, g2⟩ := q
    have hx : x ∉ A := fun h => by
      have := List.nodup_append.mp hc.nd
      exact this.2.2 x h x (by simp) rfl
    exact .lst g1 hx (hc.dj x (by simp)) (RepL.drop_ es hb g2)
def frzM (W : ZRC) : ZRC := fun ds Δ P => W ds Δ fun d Δ' => ∃ es Δ1, d = .cell Δ1.length ∧ Δ' = Δ1 ++ [.lst es] ∧ Δ1.length = Δ.length ∧ (∀ (n : Nat) (o : O), Δ1[n]? = some o → Δ[n]? = some o ∨ blwO Δ.length o = true) ∧ belowL Δ.length es = true ∧ P (.lst es) Δ1
section
variable {P : Program} {w : World} {K : PySem.W.Frag} {mg : Str → Option Value} {base : Heap} {C : CI} {k : Nat} {f : Addr} {fd : FuncData} {ps : List Str} {W : ZRC}
theorem sp_frzM {vs : List V} {H : Hp} {Q : VK} {E : XK} (h : SpZ K C (frzM W) vs H Q E) : SpZ K C W vs H Q E := by
  obtain ⟨S, A, Δ, ds, P, r, hc, hw, kk⟩ := h
  refine ⟨S, A, Δ, ds, _, r, hc, hw, fun v d A' H' Δ' e c r' q => ?_⟩
  obtain ⟨es, Δ1, rfl, rfl, hl, hch, hb, p⟩ := q
  cases r' with
  | cell g =>
    rename_i x
    have hA' : A' = A ++ [x] := by
      obtain ⟨B, hB, _⟩ := e.pre
      have hlen := c.len
      have hl1 : ([O.lst es] : List O).length = 1 := rfl
      rw [hB, List.length_append, List.length_append, hc.len, hl1, hl] at hlen
      have hB1 : B.length = 1 := by omega
      obtain ⟨b, hb1⟩ := List.length_eq_one_iff.mp hB1
      rw [hB, hb1, hl, ← hc.len, List.getElem?_append_right (Nat.le_refl _), Nat.sub_self] at g
      cases g
      rw [hB, hb1]
    subst hA'
    obtain ⟨c5, r5⟩ := hc.freezeM c hl hch (by rw [hc.len]; exact hb)
    exact kk _ _ A H' Δ1 ⟨⟨[], by simp, by simp⟩, fun a o h1 h2 => e.keep a o h1 h2, e.trk⟩ c5 r5 p
theorem fn_frzM (F : FnOk P w K mg base CX0 k f fd ps (SpZ K C W)) : FnOk P w K mg base CX0 k f fd ps (SpZ K C (frzM W)) := F.imp fun _ _ _ _ h => sp_frzM h
end
end Z

/-! Z11: a comprehension with two generators. -/
namespace Z
open PySem PySem.Spec PyProof.Rows L2
/-- the outer items; the inner ones go on with the same new list -/
def comp2Z (zg : ZG) (zt : ZT) (zi1 : ZI) (zg1 : ZG) (zt1 : ZT) (ze : ZE) (vs1 : List Nat) (Γ0 : Env) (P : D → Store → Prop) : List D → List D → Store → Prop
  | [], acc, Δ => P (.lst acc) Δ
  | x :: xs, acc, Δ => zg x Γ0 Δ fun Γ2 Δ2 => zt Γ2 Δ2 fun b Δ3 => (b = true → zi1 Γ2 Δ3 fun items Δ4 => compZ zg1 zt1 ze (wipeZ Γ2 vs1) (fun d Δ' => ∃ acc', d = .lst acc' ∧ comp2Z zg zt zi1 zg1 zt1 ze vs1 Γ0 P xs acc' Δ') items acc Δ4) ∧ (b = false → comp2Z zg zt zi1 zg1 zt1 ze vs1 Γ0 P xs acc Δ3)
def zLc2 (zi : ZI) (zg : ZG) (zt : ZT) (zi1 : ZI) (zg1 : ZG) (zt1 : ZT) (ze : ZE) (vs vs1 : List Nat) : ZE := fun Γ Δ P => zi Γ Δ fun items Δ1 => comp2Z zg zt zi1 zg1 zt1 ze vs1 (wipeZ Γ vs) P items [] Δ1
section
variable {K : PySem.W.Frag} {C : CI} {S : List Addr} {q : Addr}
/-- the new list at q grows -/
theorem grow_mo {A : List Addr} {H : Hp} {l : List V} : Mo (q :: S) A H (q :: S) A (upd H q (.lst l)) := ⟨⟨[], by simp, by simp⟩, fun _ h => .inl h, fun a o _ h2 h3 => by
  rw [upd_ne (fun h => h2 (by rw [h]; exact List.mem_cons_self))]; exact h3⟩
theorem grow_cells {A : List Addr} {H : Hp} {Δ : Store} {l : List V} (c : Cells K C (q :: S) A H Δ) : Cells K C (q :: S) A (upd H q (.lst l)) Δ := by
  have hq : q ∉ A := fun h => c.dj q h List.mem_cons_self
  refine ⟨c.len, c.nd, c.dj, fun a ha h => ?_, fun n a o h1 h2 => (c.at_ n a o h1 h2).mono grow_mo fun u h => ?_⟩
  · by_cases hb : a = q
    · subst hb; rw [upd_same] at h; cases h
    · rw [upd_ne hb] at h; exact c.as a ha h
  · rw [upd_ne (fun hb => hq (by rw [← hb]; exact List.mem_of_getElem? h1))]; exact h
/-- what the new list at q is, all along -/
structure At (K : PySem.W.Frag) (C : CI) (S : List Addr) (q : Addr) (A0 : List Addr) (H0 : Hp) (A : List Addr) (H : Hp) (Δ : Store) (acc : List D) : Prop where
  mo : Mo (q :: S) A0 H0 (q :: S) A H
  trk : ∀ a, H a = none → H0 a = none
  kp : ∀ a o, a ∉ A0 → a ≠ q → H0 a = some o → H a = some o
  cells : Cells K C (q :: S) A H Δ
  lst : ∃ accV, H q = some (.lst accV) ∧ RepL K C (q :: S) A H accV acc
theorem At.ext {A0 A A' : List Addr} {H0 H H' : Hp} {Δ Δ' : Store} {acc : List D} (h : At K C S q A0 H0 A H Δ acc) (e : Ext A H A' H') (c : Cells K C (q :: S) A' H' Δ') : At K C S q A0 H0 A' H' Δ' acc := by
  obtain ⟨accV, h1, h2⟩ := h.lst
  have hq : q ∉ A := fun z => h.cells.dj q z List.mem_cons_self
  obtain ⟨B, hB, nB⟩ := h.mo.pre
  obtain ⟨B', hB', nB'⟩ := e.pre
  have hin : ∀ a o, a ∈ A → H0 a = some o → a ∈ A0 := fun a o ha ho => by
    rw [hB] at ha
    rcases List.mem_append.mp ha with ha | ha
    · exact ha
    · rw [nB a ha] at ho; cases ho
  refine ⟨⟨⟨B ++ B', by rw [hB', hB, List.append_assoc], fun b hb => ?_⟩, fun _ z => .inl z, fun a o g1 g2 g3 => ?_⟩, fun a z => h.trk a (e.trk a z), fun a o g1 g2 g3 => ?_, c, accV, e.keep q _ hq h1, h2.ext e⟩
  · rcases List.mem_append.mp hb with hb | hb
    · exact nB b hb
    · exact h.trk b (nB' b hb)
  · exact e.keep a o (fun z => g1 (hin a o z g3)) (h.mo.keep a o g1 g2 g3)
  · exact e.keep a o (fun z => g1 (hin a o z g3)) (h.kp a o g1 g2 g3)
theorem At.grow {A0 A : List Addr} {H0 H : Hp} {Δ : Store} {acc : List D} {accV : List V} {y : V} {d : D} (h : At K C S q A0 H0 A H Δ acc) (h1 : H q = some (.lst accV)) (h2 : RepL K C (q :: S) A H accV acc) (r : Rep K C (q :: S) A H y d) : At K C S q A0 H0 A (upd H q (.lst (accV ++ [y]))) Δ (acc ++ [d]) := by
  refine ⟨⟨h.mo.pre, fun _ z => .inl z, fun a o g1 g2 g3 => ?_⟩, fun a z => ?_, fun a o g1 g2 g3 => ?_, grow_cells h.cells, _, upd_same, (RepL.append h2 (.cons r .nil)).mono grow_mo _⟩
  · rw [upd_ne (fun z => g2 (by rw [z]; exact List.mem_cons_self))]; exact h.mo.keep a o g1 g2 g3
  · by_cases hb : a = q
    · subst hb; rw [upd_same] at z; cases z
    · rw [upd_ne hb] at z; exact h.trk a z
  · rw [upd_ne g2]; exact h.kp a o g1 g2 g3
theorem At.here {A : List Addr} {H : Hp} {Δ : Store} {acc : List D} (c : Cells K C (q :: S) A H Δ) (l : ∃ accV, H q = some (.lst accV) ∧ RepL K C (q :: S) A H accV acc) : At K C S q A H A H Δ acc :=
  ⟨⟨⟨[], by simp, by simp⟩, fun _ z => .inl z, fun _ _ _ _ h => h⟩, fun _ h => h, fun _ _ _ _ h => h, c, l⟩
theorem drop_cons {α : Type} {l : List α} {i : Nat} {d : α} (h : l[i]? = some d) : l.drop i = d :: l.drop (i + 1) := by
  obtain ⟨hl, q⟩ := List.getElem?_eq_some_iff.mp h
  rw [← q]
  exact List.drop_eq_getElem_cons hl
theorem lc_in {wi1 : TI} {g1 : TG} {tt1 : TT} {te : TE} {zi1 : ZI} {zg1 : ZG} {zt1 : ZT} {ze : ZE} {vs1 : List Nat} (hi : RefI K C wi1 zi1) (hg : RefG K C g1 zg1) (ho : Own g1 vs1) (ht : RefT K C tt1 zt1) (he : RefE K C te ze)
    {A0 A : List Addr} {H0 H : Hp} {σ : L2.St} {Γ : Env} {Δ : Store} {acc : List D} (hs : Slots K C (q :: S) A H σ Γ) (h : At K C S q A0 H0 A H Δ acc) {R : D → Store → Prop} (p : zi1 Γ Δ fun items Δ' => compZ zg1 zt1 ze (wipeZ Γ vs1) R items acc Δ') {Nx : Hp → Prop}
    (hd : ∀ A' H' Δ' acc', At K C S q A0 H0 A' H' Δ' acc' → R (.lst acc') Δ' → Nx H') :
    wi1 σ H fun J1 H4 => ∃ W1 : Nat → Nat → Hp → Prop, (∃ m, W1 0 m H4) ∧ ∀ j k H, W1 j k H → (J1.stop j H ∧ Nx H) ∨ (J1.go j H ∧ ∃ Nx1 : Hp → Prop, (∀ H', Nx1 H' → ∃ k', k' < k ∧ W1 (j + 1) k' H') ∧ ∀ x H', J1.yld j H x H' → g1 x (wipe σ vs1) H' fun σ3 H5 => wipe σ3 vs1 = wipe σ vs1 ∧ tt1 σ3 H5 fun b H6 =>
      if b = true then te σ3 H6 fun y H7 => ∃ acc, H7 q = some (.lst acc) ∧ acc.length < sizeLine ∧ Nx1 (upd H7 q (.lst (acc ++ [y]))) else Nx1 H6) := by
  refine hi (q :: S) A σ H Γ Δ _ _ hs h.cells p fun J n G Y items A1 H1 Δ1 e1 c1 p1 hn w hG hY => ?_
  have h1 := h.ext e1 c1
  have s1 := hs.ext e1
  refine ⟨fun j k H2 => k = n - j ∧ j ≤ n ∧ ∃ A2 Δ2 acc2, At K C S q A0 H0 A2 H2 Δ2 acc2 ∧ At K C S q A1 H1 A2 H2 Δ2 acc2 ∧ compZ zg1 zt1 ze (wipeZ Γ vs1) R (items.drop j) acc2 Δ2, ⟨n, by simp, Nat.zero_le _, A1, Δ1, acc, h1, .here c1 h1.lst, p1⟩, ?_⟩
  rintro j k H2 ⟨rfl, hj, A2, Δ2, acc2, a0, a1, p2⟩
  have gg := hG (q :: S) A2 H2 a1.mo
  by_cases hlt : j < n
  · refine .inr ⟨w.goes j H2 hlt gg, fun H' => ∃ A2 Δ2 acc2, At K C S q A0 H0 A2 H' Δ2 acc2 ∧ At K C S q A1 H1 A2 H' Δ2 acc2 ∧ compZ zg1 zt1 ze (wipeZ Γ vs1) R (items.drop (j + 1)) acc2 Δ2, fun H' p' => ⟨n - (j + 1), by omega, rfl, hlt, p'⟩, fun x H3 y => ?_⟩
    obtain ⟨d, q1, q2, q3⟩ := hY (q :: S) A2 H2 Δ2 j x H3 hlt a1.mo a0.cells (w.yields j H2 x H3 hlt gg y)
    rw [drop_cons q1] at p2
    have e3 : Ext A2 H2 A2 H3 := Ext.kept q2
    have c3 := a0.cells.kept q2
    have s3 : Slots K C (q :: S) A2 H3 (wipe σ vs1) (wipeZ Γ vs1) := ((s1.mono a1.mo).ext e3).wipe vs1
    have fin : g1 x (wipe σ vs1) H3 fun σ2 H4 => wipe σ2 vs1 = wipe (wipe σ vs1) vs1 ∧ tt1 σ2 H4 fun b H5 =>
        if b = true then te σ2 H5 fun y H6 => ∃ acc, H6 q = some (.lst acc) ∧ acc.length < sizeLine ∧ ∃ A2 Δ2 acc2, At K C S q A0 H0 A2 (upd H6 q (.lst (acc ++ [y]))) Δ2 acc2 ∧ At K C S q A1 H1 A2 (upd H6 q (.lst (acc ++ [y]))) Δ2 acc2 ∧ compZ zg1 zt1 ze (wipeZ Γ vs1) R (items.drop (j + 1)) acc2 Δ2
        else ∃ A2 Δ2 acc2, At K C S q A0 H0 A2 H5 Δ2 acc2 ∧ At K C S q A1 H1 A2 H5 Δ2 acc2 ∧ compZ zg1 zt1 ze (wipeZ Γ vs1) R (items.drop (j + 1)) acc2 Δ2 := by
      refine ho _ _ _ _ (hg (q :: S) A2 (wipe σ vs1) H3 (wipeZ Γ vs1) Δ2 x d _ _ s3 c3 q3 p2 fun σ4 A4 H4 Γ4 Δ4 e4 s4 c4 p4 => ?_)
      refine ht (q :: S) A4 σ4 H4 Γ4 Δ4 _ _ s4 c4 p4 fun b A5 H5 Δ5 e5 c5 p5 => ?_
      have b0 := ((a0.ext e3 c3).ext e4 c4).ext e5 c5
      have b1 := ((a1.ext e3 c3).ext e4 c4).ext e5 c5
      cases b with
      | false => exact iteF ⟨A5, Δ5, acc2, b0, b1, p5.2 rfl⟩
      | true =>
        refine iteT (he (q :: S) A5 σ4 H5 Γ4 Δ5 _ _ (s4.ext e5) c5 (p5.1 rfl) fun y dy A6 H6 Δ6 e6 c6 r6 p6 => ?_)
        have d0 := b0.ext e6 c6
        have d1 := b1.ext e6 c6
        obtain ⟨accV, l1, l2⟩ := d0.lst
        exact ⟨accV, l1, lt_line (by rw [l2.length]; exact p6.1), A6, Δ6, acc2 ++ [dy], d0.grow l1 l2 r6, d1.grow l1 l2 r6, p6.2⟩
    rw [wipe_wipe] at fin
    exact fin
  · have e : j = n := by omega
    subst e
    rw [hn, List.drop_length] at p2
    exact .inl ⟨w.stops H2 gg, hd A2 H2 Δ2 acc2 a0 p2⟩
theorem ref_lc2 {wi wi1 : TI} {g g1 : TG} {tt tt1 : TT} {te : TE} {vs vs1 : List Nat} {zi zi1 : ZI} {zg zg1 : ZG} {zt zt1 : ZT} {ze : ZE} (hi : RefI K C wi zi) (hg : RefG K C g zg) (ho : Own g vs) (ht : RefT K C tt zt) (hi1 : RefI K C wi1 zi1) (hg1 : RefG K C g1 zg1) (ho1 : Own g1 vs1) (ht1 : RefT K C tt1 zt1) (he : RefE K C te ze) :
    RefE K C (tLc2 wi g tt wi1 g1 tt1 te vs vs1) (zLc2 zi zg zt zi1 zg1 zt1 ze vs vs1) := fun S A σ H Γ Δ P Q hs hc hz k => hi S A σ H Γ Δ _ _ hs hc hz fun J n G Y items A1 H1 Δ1 e1 c1 p hn w hG hY q hq => by
  have s1 := hs.ext e1
  have mo0 : Mo S A1 H1 (q :: S) A1 (upd H1 q (.lst [])) := ⟨⟨[], by simp, by simp⟩, fun b hb => by
    rcases List.mem_cons.mp hb with rfl | hb
    · exact .inr hq
    · exact .inl hb, fun a o _ _ h => by rw [upd_ne (ne_of_none h hq)]; exact h⟩
  have cells0 : Cells K C (q :: S) A1 (upd H1 q (.lst [])) Δ1 := by
    refine ⟨c1.len, c1.nd, fun a ha hb => ?_, fun a ha h => ?_, fun n a o h1 h2 => (c1.at_ n a o h1 h2).mono mo0 fun u h => by rw [upd_ne (ne_of_none h hq)]; exact h⟩
    · rcases List.mem_cons.mp hb with rfl | hb
      · exact c1.fresh hq ha
      · exact c1.dj a ha hb
    · rcases List.mem_cons.mp ha with rfl | ha
      · rw [upd_same] at h; cases h
      · exact c1.as a ha ((Ext.new (A := A1) hq).trk a h)
  have mo2 : ∀ {A2 : List Addr} {H2 : Hp} {Δ2 : Store} {acc : List D}, At K C S q A1 (upd H1 q (.lst [])) A2 H2 Δ2 acc → Mo S A1 H1 (q :: S) A2 H2 := fun {A2 H2 Δ2 acc} a => by
    obtain ⟨B, hB, nB⟩ := a.mo.pre
    refine ⟨⟨B, hB, fun b hb => (Ext.new (A := A1) hq).trk b (nB b hb)⟩, mo0.sub, fun x o h1 h2 h3 => ?_⟩
    have hx := ne_of_none h3 hq
    exact a.kp x o h1 hx (by rw [upd_ne hx]; exact h3)
  have ext2 : ∀ {A2 : List Addr} {H2 : Hp} {Δ2 : Store} {acc : List D}, At K C S q A1 (upd H1 q (.lst [])) A2 H2 Δ2 acc → Ext A1 H1 A2 H2 := fun {A2 H2 Δ2 acc} a => by
    obtain ⟨B, hB, nB⟩ := a.mo.pre
    refine ⟨⟨B, hB, fun b hb => (Ext.new (A := A1) hq).trk b (nB b hb)⟩, fun x o h1 h3 => ?_, fun x h => (Ext.new (A := A1) hq).trk x (a.trk x h)⟩
    have hx := ne_of_none h3 hq
    exact a.kp x o h1 hx (by rw [upd_ne hx]; exact h3)
  refine ⟨fun i m H2 => m = n - i ∧ i ≤ n ∧ ∃ A2 Δ2 acc, At K C S q A1 (upd H1 q (.lst [])) A2 H2 Δ2 acc ∧ comp2Z zg zt zi1 zg1 zt1 ze vs1 (wipeZ Γ vs) P (items.drop i) acc Δ2, ⟨n, by simp, Nat.zero_le _, A1, Δ1, [], .here cells0 ⟨[], upd_same, .nil⟩, p⟩, ?_⟩
  rintro i m H2 ⟨rfl, hin, A2, Δ2, acc, a0, p2⟩
  have gg := hG (q :: S) A2 H2 (mo2 a0)
  by_cases hlt : i < n
  · refine .inr ⟨w.goes i H2 hlt gg, fun H' => ∃ A2 Δ2 acc, At K C S q A1 (upd H1 q (.lst [])) A2 H' Δ2 acc ∧ comp2Z zg zt zi1 zg1 zt1 ze vs1 (wipeZ Γ vs) P (items.drop (i + 1)) acc Δ2, fun H' p' => ⟨n - (i + 1), by omega, rfl, hlt, p'⟩, fun x H3 y => ?_⟩
    obtain ⟨d, q1, q2, q3⟩ := hY (q :: S) A2 H2 Δ2 i x H3 hlt (mo2 a0) a0.cells (w.yields i H2 x H3 hlt gg y)
    rw [drop_cons q1] at p2
    have e3 : Ext A2 H2 A2 H3 := Ext.kept q2
    have c3 := a0.cells.kept q2
    have s3 : Slots K C (q :: S) A2 H3 (wipe σ vs) (wipeZ Γ vs) := ((s1.mono (mo2 a0)).ext e3).wipe vs
    have h5 := hg (q :: S) A2 (wipe σ vs) H3 (wipeZ Γ vs) Δ2 x d _ (fun σ4 H4 => tt σ4 H4 fun b H5 => if b = true then wi1 σ4 H5 fun J1 H4 => ∃ W1 : Nat → Nat → Hp → Prop, (∃ m, W1 0 m H4) ∧ ∀ j k H, W1 j k H → (J1.stop j H ∧ ∃ A2 Δ2 acc, At K C S q A1 (upd H1 q (.lst [])) A2 H Δ2 acc ∧ comp2Z zg zt zi1 zg1 zt1 ze vs1 (wipeZ Γ vs) P (items.drop (i + 1)) acc Δ2) ∨ (J1.go j H ∧ ∃ Nx1 : Hp → Prop, (∀ H', Nx1 H' → ∃ k', k' < k ∧ W1 (j + 1) k' H') ∧ ∀ x H', J1.yld j H x H' → g1 x (wipe σ4 vs1) H' fun σ3 H5 => wipe σ3 vs1 = wipe σ4 vs1 ∧ tt1 σ3 H5 fun b H6 =>
      if b = true then te σ3 H6 fun y H7 => ∃ acc, H7 q = some (.lst acc) ∧ acc.length < sizeLine ∧ Nx1 (upd H7 q (.lst (acc ++ [y]))) else Nx1 H6) else ∃ A2 Δ2 acc, At K C S q A1 (upd H1 q (.lst [])) A2 H5 Δ2 acc ∧ comp2Z zg zt zi1 zg1 zt1 ze vs1 (wipeZ Γ vs) P (items.drop (i + 1)) acc Δ2) s3 c3 q3 p2 fun σ4 A4 H4 Γ4 Δ4 e4 s4 c4 p4 => by
      refine ht (q :: S) A4 σ4 H4 Γ4 Δ4 _ _ s4 c4 p4 fun b A5 H5 Δ5 e5 c5 p5 => ?_
      have b0 := ((a0.ext e3 c3).ext e4 c4).ext e5 c5
      cases b with
      | false => exact iteF ⟨A5, Δ5, acc, b0, p5.2 rfl⟩
      | true => exact iteT (lc_in hi1 hg1 ho1 ht1 he (s4.ext e5) b0 (p5.1 rfl) fun A' H' Δ' acc' a' r' => by
          obtain ⟨acc2, e, r'⟩ := r'
          cases e
          exact ⟨A', Δ', acc', a', r'⟩)
    have fin := ho _ _ _ _ h5
    rw [wipe_wipe] at fin
    exact fin
  · have e : i = n := by omega
    subst e
    rw [hn, List.drop_length] at p2
    refine .inl ⟨w.stops H2 gg, ?_⟩
    obtain ⟨accV, l1, l2⟩ := a0.lst
    have c2 := a0.cells
    have hq2 : q ∉ A2 := fun h => c2.dj q h List.mem_cons_self
    have mo8 : Mo (q :: S) A2 H2 S A2 H2 := ⟨⟨[], by simp, by simp⟩, fun b hb => .inl (List.mem_cons_of_mem _ hb), fun _ _ _ _ h => h⟩
    exact k _ _ A2 H2 Δ2 (e1.trans (ext2 a0)) ⟨c2.len, c2.nd, fun a ha hb => c2.dj a ha (List.mem_cons_of_mem _ hb), fun a ha => c2.as a (List.mem_cons_of_mem _ ha), fun n a o h1 h2 => (c2.at_ n a o h1 h2).mono mo8 fun _ h => h⟩
      (.lst l1 hq2 (c1.aside hq) (RepL.mono mo8 _ l2)) p2
end
def upI (K : PySem.W.Frag) (C : CI) (zi : ZI) : TI := fun σ H R => ∃ S A Γ Δ P, Slots K C S A H σ Γ ∧ Cells K C S A H Δ ∧ zi Γ Δ P ∧
  (∀ (J : It) (n : Nat) (G : Hp → Prop) (Y : Nat → Hp → V → Hp → Prop) (items : List D) (A' : List Addr) (H' : Hp) (Δ' : Store), Ext A H A' H' → Cells K C S A' H' Δ' → P items Δ' → n = items.length → Walk J n G Y →
    (∀ S2 A2 H2, Mo S A' H' S2 A2 H2 → G H2) →
    (∀ S2 A2 H2 Δ2 i x H3, i < n → Mo S A' H' S2 A2 H2 → Cells K C S2 A2 H2 Δ2 → Y i H2 x H3 → ∃ d, items[i]? = some d ∧ (∀ a o, H2 a = some o → H3 a = some o) ∧ Rep K C S2 A2 H3 x d) → R J H')
theorem ref_upI {K : PySem.W.Frag} {C : CI} {zi : ZI} : RefI K C (upI K C zi) zi := fun S A σ H Γ Δ P R hs hc hz k => ⟨S, A, Γ, Δ, P, hs, hc, hz, k⟩
theorem IZ.up {C : CI} {X : Cx} {tg iter : Expr} {zi : ZI} (h : IZ C X tg iter zi) : PI X tg iter (upI X.K C zi) := by
  obtain ⟨t, h1, h2⟩ := h.ex
  refine ⟨fun pins s σ H R I q => h1.run pins s σ H R I ?_⟩
  obtain ⟨S, A, Γ, Δ, P, hs, hc, hz, k⟩ := q
  exact h2 S A σ H Γ Δ P R hs hc hz k
section
variable {C : CI} {X : Cx}
/-- [elt for tg in iter if .. for tg1 in iter1 if ..] -/
theorem ez_lc2 {elt tg iter tg1 iter1 : Expr} {ifs ifs1 : List Expr} {scope : Scope} {own : List (Str × Nat)} {vs1 : List Nat} {pos : Pos} {zi zi1 : ZI} {g g1 : TG} {zg zg1 : ZG} {zt zt1 : ZT} {ze : ZE} (hN : X.N.Nodup) (hi : IZ C X tg iter zi) (ok : BlkOk X.N X.env.scope scope own) (ho : Own g (own.map (·.2))) (ho1 : Own g1 vs1) (hv : ∀ i ∈ vs1, i ∈ own.map (·.2))
    (hr : RefG X.K C g zg) (hr1 : RefG X.K C g1 zg1)
    (hg : ∀ (s : Shared) (H : Hp) (Ca : Addr) (cl : List (Str × Addr)) (fp : List Addr), PG (X.blk s H scope (compEnvC scope cl Ca X.env) fp) tg g)
    (ht : ∀ (s : Shared) (H : Hp) (Ca : Addr) (cl : List (Str × Addr)) (fp : List Addr), TsZ C (X.blk s H scope (compEnvC scope cl Ca X.env) fp) ifs zt)
    (hi1 : ∀ (s : Shared) (H : Hp) (Ca : Addr) (cl : List (Str × Addr)) (fp : List Addr), IZ C (X.blk s H scope (compEnvC scope cl Ca X.env) fp) tg1 iter1 zi1)
    (hg1 : ∀ (s : Shared) (H : Hp) (Ca : Addr) (cl : List (Str × Addr)) (fp : List Addr), PG (X.blk s H scope (compEnvC scope cl Ca X.env) fp) tg1 g1)
    (ht1 : ∀ (s : Shared) (H : Hp) (Ca : Addr) (cl : List (Str × Addr)) (fp : List Addr), TsZ C (X.blk s H scope (compEnvC scope cl Ca X.env) fp) ifs1 zt1)
    (he : ∀ (s : Shared) (H : Hp) (Ca : Addr) (cl : List (Str × Addr)) (fp : List Addr), EZ C (X.blk s H scope (compEnvC scope cl Ca X.env) fp) elt ze)
    (hc : X.calm = true := by rfl) (hs : ∀ x, foldedSetIterable iter X.env x = pure x := by intro _; rfl) (hs1 : ∀ env x, foldedSetIterable iter1 env x = pure x := by intro _ _; rfl) :
    EZ C X (.ListComp elt [⟨tg, iter, ifs, 0⟩, ⟨tg1, iter1, ifs1, 0⟩] scope pos) (zLc2 zi zg zt zi1 zg1 zt1 ze (own.map (·.2)) vs1) := by
  obtain ⟨wi, i1, i2⟩ := hi.ex
  exact ⟨_, pe_lc2 hc hN i1 ok hv hg (fun s H Ca cl fp => (ht s H Ca cl fp).up) (fun s H Ca cl fp => (hi1 s H Ca cl fp).up) hg1 (fun s H Ca cl fp => (ht1 s H Ca cl fp).up) (fun s H Ca cl fp => (he s H Ca cl fp).up) hs hs1, ref_lc2 i2 hr ho ref_upT ref_upI hr1 ho1 ref_upT ref_up⟩
end
/-! ### math.lcm of great numbers -/
theorem lcm_lt {x y : Nat} (hx : x < 2 ^ 9000) (hy : y < 2 ^ 9000) : x.lcm y < 2 ^ 18000 := by
  have h : x.lcm y ≤ x * y := by
    unfold Nat.lcm
    exact Nat.div_le_self _ _
  refine Nat.lt_of_le_of_lt h ?_
  have e : 2 ^ 18000 = 2 ^ 9000 * 2 ^ 9000 := by rw [← Nat.pow_add]
  rw [e]
  exact Nat.mul_lt_mul'' hx hy
def rLcm : List V → Hp → VK → Prop := fun vs H Q => ∃ a b : Int, vs = [.int a, .int b] ∧ a.natAbs < 2 ^ 9000 ∧ b.natAbs < 2 ^ 9000 ∧ Q (.int ((Nat.lcm a.natAbs b.natAbs : Nat) : Int)) H
theorem cr_lcm {X : Cx} : CallR X (.builtin "math.lcm") rLcm := by
  intro pins s σ H vs us Q I r h
  obtain ⟨a, b, rfl, ha, hb, q⟩ := h
  obtain ⟨t, u, rfl⟩ := Vals.int2 r
  have p0 : 1 < 2 ^ 9000 := Nat.one_lt_two_pow (by decide)
  have lg : ∀ {n : Nat}, n < 2 ^ 9000 → ¬ n.log2 / 30 + 1 > 450 := fun {n} h => by
    have : n.log2 ≤ 8999 := PySem.W.mg_log (k := 8999) h
    omega
  have m1 : max 1 a.natAbs < 2 ^ 9000 := Nat.max_lt.mpr ⟨p0, ha⟩
  have m2 : max a.natAbs b.natAbs < 2 ^ 9000 := Nat.max_lt.mpr ⟨ha, hb⟩
  have e1 : Nat.lcm 1 a.natAbs = a.natAbs := Nat.lcm_one_left _
  have hsz : ((((Nat.lcm 1 a.natAbs).lcm b.natAbs : Nat) : Int)).natAbs.log2 < bitsLine := by
    rw [e1]
    have : (a.natAbs.lcm b.natAbs).log2 ≤ 17999 := PySem.W.mg_log (k := 17999) (lcm_lt ha hb)
    have e2 : ((a.natAbs.lcm b.natAbs : Nat) : Int).natAbs = a.natAbs.lcm b.natAbs := by omega
    rw [e2, bitsLine_eq]
    omega
  refine call_function_meets PySem.W.MGF.kind_lcm PySem.W.MGF.plain_lcm PySem.W.MGF.entry_lcm (PySem.W.MGF.args_lcm _ _) (PySem.W.mg_run_lcm a t b u (lg m1) (lg m2) hsz).meets ?_
  rw [e1]
  exact ⟨.int _, H, I.tok _, ⟨_, rfl⟩, q⟩
def zLcm : ZRC := fun ds Δ P => ∃ i j : Int, ds = [.int i, .int j] ∧ i.natAbs < 2 ^ 9000 ∧ j.natAbs < 2 ^ 9000 ∧ P (.int (Nat.lcm i.natAbs j.natAbs : Nat)) Δ
theorem cz_lcm {C : CI} {X : Cx} : CallZ C X (.builtin "math.lcm") zLcm := ⟨_, cr_lcm, fun S A H Δ xs ds P Q hc r hz k => by
  obtain ⟨i, j, rfl, hi, hj, q⟩ := hz
  obtain ⟨v, v', rfl, rv, rv'⟩ := two_rep r
  cases rv
  cases rv'
  exact ⟨i, j, rfl, hi, hj, k _ _ A H Δ (Ext.refl _ _) hc (.int _) q⟩⟩
/-! ### sorted({elt for tg in iter if ..}), elt an int: the reading (its rule over the heap is still to be written) -/
def zSrtS (zi : ZI) (zg : ZG) (zt : ZT) (ze : ZE) (vs : List Nat) : ZE := fun Γ Δ P => zLc zi zg zt ze vs Γ Δ fun d Δ1 => ∃ ns : List Int, d = .lst (ns.map D.int) ∧ ∀ ms : List Int, ms.Pairwise (· < ·) → (∀ k, k ∈ ms ↔ k ∈ ns) → P (.lst (ms.map D.int)) Δ1
end Z

/-! Z12: dicts whose keys are ints; sorted of such a dict, of any size; max with a default. -/
namespace Z
open PySem PySem.Spec PyProof.Rows L2
/-! ### max(xs, default=d) of a list that is not empty -/
section
variable {prog : Program} {w : World} {A : Around} {I : Addr} {fp wr : List Addr} {n : Nat} {Pv : Nat → Value → Prop} {St : Nat → Heap → Prop}
abbrev dfl (d : Value) : List (Str × Value) := [(Str.ofString "default", d)]
abbrev best (S : Addr) (vs : Array Value) (c : Nat) : Obj := { cls := .type "list", dict := none, data := .seq vs c, slots := #[] }
theorem mx_turn {R : Result → Shared → Prop} {d : Value} (W : Walks prog w A.in1 I fp wr n Pv St) (bt : Nat → Nat → Bool) (hcmp : CmpOf prog w A.in1 .Gt Pv bt) (B : Addr) (hB : B ∉ fp) :
    ∀ (k j : Nat) (s : Shared) (u : Value) (c : Nat), n = j + 1 + k → St (j + 1) s.heap → Pv (argBest bt j) u → s.heap.get? B = some (best B #[u, u] c) →
    (∀ v h' tk, Pv (argBest bt (n - 1)) v → (∀ b o, b ∉ wr → b ≠ B → s.heap.get? b = some o → h'.get? b = some o) → R (.ok (.ret v)) { s with heap := h', toks := tk }) →
    codeAny (model prog w) A (.builtin "max.loop" ⟨[.ref I, .none, .ref B], dfl d⟩) R s := by
  have hBw : B ∉ wr := fun h => hB (W.sub _ h)
  have nm : (toString "max" ++ toString ".loop" : String) = "max.loop" := by decide
  intro k
  induction k with
  | zero =>
    intro j s u c hk hst hu hS hR; have hin : j + 1 = n := by omega
    refine codeAny_builtin F.entry_max_loop ?_; rw [Around.under_plainId F.plain_max_loop _]
    show wpAny _ A.in1 (seqItems? (.ref B) >>= _) _ _ s; refine wpAny_bind (wpAny_seqItems hS rfl ?_)
    show wpAny _ A.in1 (tryCatch (pyNext (.ref I)) _ >>= _) _ _ s; refine wpAny_bind (wpAny_tryCatch (W.done s _ _ (hin ▸ hst) fun h' tk hk' => ?_))
    have hS' := hk' B _ hBw hS; show wpAny _ A.in1 (updateSeq B (fun _ => #[]) >>= _) _ _ _
    refine wpAny_bind (wpAny_updateSeq hS' rfl (wpAny_bind (wpAny_letGo (wpAny_pure ?_))))
    exact hR u _ tk (by rw [← hin]; exact hu) fun b o hbw hbB e => (Heap.get?_update_other _ _ (Ne.symm hbB)).trans (hk' b o hbw e)
  | succ k ih =>
    intro j s u c hk hst hu hS hR; have hlt : j + 1 < n := by omega
    refine codeAny_builtin F.entry_max_loop ?_; rw [Around.under_plainId F.plain_max_loop _]
    show wpAny _ A.in1 (seqItems? (.ref B) >>= _) _ _ s; refine wpAny_bind (wpAny_seqItems hS rfl ?_)
    show wpAny _ A.in1 (tryCatch (pyNext (.ref I)) _ >>= _) _ _ s; refine wpAny_bind (wpAny_tryCatch (W.item (j + 1) s _ _ hlt hst fun v h' tk hv hst' hk' => ?_))
    have hS' := hk' B _ hBw hS; show wpAny _ A.in1 (tryCatch (holding [v, v] (richCompare .Gt v u >>= _)) _ >>= _) _ _ _
    refine wpAny_bind (wpAny_tryCatch (wpAny_holding (wpAny_bind (hcmp (j + 1) (argBest bt j) v u _ _ _ hv hu ?_)))); refine wpAny_bind (wpAny_holding (wpAny_truthy_bool ?_)); refine wpAny_bind (wpAny_letGo (wpAny_pure ?_))
    cases hb : bt (j + 1) (argBest bt j) with
    | true =>
      simp only [if_true]
      refine wpAny_bind (wpAny_updateSeq hS' rfl (wpAny_bind (wpAny_letGo ?_)))
      rw [nm]
      refine wpAny_pure ⟨plainId_quiet F.plain_max_loop _, ih (j + 1) _ v _ (by omega) (W.frame _ _ _ hst' fun b hbf o e => (Heap.get?_update_other _ _ (fun h : B = b => hB (by rw [h]; exact hbf))).trans e) (by simp only [argBest, hb, if_true]; exact hv) (Heap.get?_update_self _ hS' rfl)
        fun v' h2 tk2 hv' hk2 => hR v' h2 tk2 hv' fun b o hbw hbB e => hk2 b o hbw hbB ((Heap.get?_update_other _ _ (Ne.symm hbB)).trans (hk' b o hbw e))⟩
    | false =>
      simp only [Bool.false_eq_true, if_false]
      refine wpAny_bind (wpAny_letGo ?_)
      rw [nm]
      exact wpAny_pure ⟨plainId_quiet F.plain_max_loop _, ih (j + 1) _ u c (by omega) hst' (by simp only [argBest, hb, Bool.false_eq_true, if_false]; exact hu) hS' fun v' h2 tk2 hv' hk2 =>
        hR v' h2 tk2 hv' fun b o hbw hbB e => hk2 b o hbw hbB (hk' b o hbw e)⟩
theorem mx_first {R : Result → Shared → Prop} {d : Value} (W : Walks prog w A.in1 I fp wr n Pv St) (bt : Nat → Nat → Bool) (hcmp : CmpOf prog w A.in1 .Gt Pv bt) (B : Addr) (hB : B ∉ fp) (hn : 0 < n) {s : Shared} {c : Nat} (hst : St 0 s.heap) (hS : s.heap.get? B = some (best B #[] c))
    (hR : ∀ v h' tk, Pv (argBest bt (n - 1)) v → (∀ b o, b ∉ wr → b ≠ B → s.heap.get? b = some o → h'.get? b = some o) → R (.ok (.ret v)) { s with heap := h', toks := tk }) :
    codeAny (model prog w) A (.builtin "max.loop" ⟨[.ref I, .none, .ref B], dfl d⟩) R s := by
  have hBw : B ∉ wr := fun h => hB (W.sub _ h)
  have nm : (toString "max" ++ toString ".loop" : String) = "max.loop" := by decide
  refine codeAny_builtin F.entry_max_loop ?_; rw [Around.under_plainId F.plain_max_loop _]
  show wpAny _ A.in1 (seqItems? (.ref B) >>= _) _ _ s; refine wpAny_bind (wpAny_seqItems hS rfl ?_)
  show wpAny _ A.in1 (tryCatch (pyNext (.ref I)) _ >>= _) _ _ s; refine wpAny_bind (wpAny_tryCatch (W.item 0 s _ _ hn hst fun v h' tk hv hst' hk' => ?_))
  have hS' := hk' B _ hBw hS; show wpAny _ A.in1 (updateSeq B (fun _ => #[v, v]) >>= _) _ _ _
  refine wpAny_bind (wpAny_updateSeq hS' rfl ?_)
  rw [nm]
  exact wpAny_pure ⟨plainId_quiet F.plain_max_loop _, mx_turn W bt hcmp B hB (n - 1) 0 _ v _ (by omega) (W.frame _ _ _ hst' fun b hbf o e => (Heap.get?_update_other _ _ (fun h : B = b => hB (by rw [h]; exact hbf))).trans e) hv (Heap.get?_update_self _ hS' rfl) fun v' h2 tk2 hv' hk2 =>
    hR v' h2 tk2 hv' fun b o hbw hbB e => hk2 b o hbw hbB ((Heap.get?_update_other _ _ (Ne.symm hbB)).trans (hk' b o hbw e))⟩
end
theorem args_maxD (a d : Value) : argsOk "max" ⟨[a], dfl d⟩ := by unfold argsOk; kernel_rfl
section
variable {prog : Program} {w : World} {A : Around} {E : Value → Shared → Prop} {s : Shared}
/-- what the walk of max's argument has to give -/
def MxIt (prog : Program) (w : World) (A : Around) (Q : Value → Shared → Prop) : Value → Shared → Prop := fun it s2 =>
  ∃ (I : Addr) (fp wr : List Addr) (n : Nat) (Pv : Nat → Value → Prop) (St : Nat → Heap → Prop) (bt : Nat → Nat → Bool), it = .ref I ∧ Walks prog w A.in1 I fp wr n Pv St ∧ St 0 s2.heap ∧ (∀ b ∈ fp, b < s2.heap.objs.size) ∧ 0 < n ∧
    CmpOf prog w A.in1 .Gt Pv bt ∧ ∀ v h' tk, Pv (argBest bt (n - 1)) v → (∀ b o, b ∉ wr → s2.heap.get? b = some o → h'.get? b = some o) → Q v { s2 with heap := h', toks := tk }
theorem call_treeK {id : String} {b : Builtin} {args : List Value} {kw : List (Str × Value)} {Q : Value → Shared → Prop} (hk : builtinKind id = none) (hp : plainId id = true) (hb : entryFor table id = some b) (ha : argsOk id ⟨args, kw⟩)
    (hc : wpAny (model prog w) A.in1 (b ⟨args, kw⟩) (fun fin s' => match fin with | .done f => (match (Except.ok f : Result) with | .ok (.ret v) => Q v s' | .ok _ => False | .error e => E e s') | .again c' => c'.quiet = true ∧ codeAny (model prog w) A c' (fun r s' => match r with | .ok (.ret v) => Q v s' | .ok _ => False | .error e => E e s') s') E s) :
    wpAny (model prog w) A (call (.builtin id) args kw) Q E s := by
  refine wpAny_call (codeAny_call_builtin hp hb ?_); simp only [checkBuiltinCall, hk]
  cases hsig : Manifest.signature? id with
  | none => exact wpAny_pure hc
  | some sig =>
    have h2 : Bind.checkArgs id sig ⟨args, kw⟩ = pure () := by simpa only [argsOk, hsig] using ha
    simp only [h2]; exact wpAny_pure hc
theorem mx_walk {x d : Value} {Q : Value → Shared → Prop} (h : wpAny (model prog w) A.in1 (pyIter x) (MxIt prog w A Q) E s) : wpAny (model prog w) A (call (.builtin "max") [x] (dfl d)) Q E s := by
  have nm : (toString "max" ++ toString ".loop" : String) = "max.loop" := by decide
  refine call_treeK F.kind_max F.plain_max F.entry_max (args_maxD _ _) ?_
  show wpAny _ A.in1 (Builtin.Builtins.bindParams "max" ["key", "default"] 0 ⟨[], dfl d⟩ >>= _) _ _ s
  refine wpAny_bind (wpAny_of_eq (show Builtin.Builtins.bindParams "max" ["key", "default"] 0 ⟨[], dfl d⟩ = pure [none, some d] from rfl) (wpAny_bind (wpAny_pure (wpAny_bind (wpAny_mono h (fun it s₂ h₂ => ?_) fun _ _ e => e)))))
  obtain ⟨I, fp, wr, n, Pv, St, bt, rfl, W, hst, hfp, hn, hcmp, hQ⟩ := h₂
  refine wpAny_bind (wpAny_newObj_type ?_)
  have hB : s₂.heap.objs.size ∉ fp := fun hm => Nat.lt_irrefl _ (hfp _ hm); rw [nm]
  refine wpAny_pure ⟨plainId_quiet F.plain_max_loop _, mx_first W bt hcmp s₂.heap.objs.size hB hn (W.frame _ _ _ hst fun b _ o e => Heap.get?_push_of_some _ e) (Heap.get?_push_size _ rfl) fun v h' tk hv hk => ?_⟩
  exact hQ v h' tk hv fun b o hbw e => hk b o hbw (Nat.ne_of_lt (Heap.lt_size e)) (Heap.get?_push_of_some _ e)
theorem mx_list {l : Addr} {its : List Value} {ns : List Int} {d : Value} {Q : Value → Shared → Prop} (hh : A.handled = none) (hl : s.heap.IsList l its.toArray) (hi : IntsAre its ns) (hne : 0 < ns.length)
    (h : ∀ h' tk M t', (∀ b o, s.heap.get? b = some o → h'.get? b = some o) → M ∈ ns → (∀ a, a ∈ ns → a ≤ M) → Q (.int M t') { s with heap := h', toks := tk }) : wpAny (model prog w) A (call (.builtin "max") [.ref l] (dfl d)) Q E s := by
  obtain ⟨xs, e⟩ := hi.allInts.items; have hn : numsOf (intItems xs).toList = ns := by rw [← e]; exact hi.numsOf
  rw [nums_intItems] at hn; subst hn; rw [e] at hl
  have hsz : 0 < xs.size := by simpa using hne
  refine mx_walk (iter_intList hl fun s₂ e st hfp hlI => ?_); subst e
  refine ⟨_, _, _, _, _, _, _, rfl, Walks.list (A := A.in1) hh _ l hlI (intItems xs), st, hfp, by simpa [intItems] using hsz, CmpOf.ints_gt (numAt xs) (fun _ _ => intItems_at), fun v h' tk hP hk => ?_⟩
  have hv : (intItems xs)[argBest (fun i j => decide (numAt xs i > numAt xs j)) (xs.size - 1)]? = some v := by simpa [intItems] using hP
  obtain ⟨t, rfl⟩ := intItems_at hv
  obtain ⟨h1, h2⟩ := argBest_gt (numAt xs) (xs.size - 1)
  refine h h' tk _ t (old_kept hk) ?_ fun a ha => ?_
  · rw [numAt_eq]; exact PySem.getD_mem (by rw [List.length_map, Array.length_toList]; omega)
  · obtain ⟨j, hj, rfl⟩ := mem_getD ha; rw [List.length_map, Array.length_toList] at hj; rw [← numAt_eq]; exact h2 j (by omega)
end
section
variable {C : CI} {X : Cx}
def rMaxD (K : PySem.W.Frag) : List V → List V → Hp → VK → Prop := fun vs zs H Q => ∃ (a : Addr) (ns : List Int) (d : V), vs = [V.ref a] ∧ zs = [d] ∧ SqL K H a (ns.map V.int) ∧ 0 < ns.length ∧ ∀ m, m ∈ ns → (∀ y, y ∈ ns → y ≤ m) → Q (.int m) H
theorem ck_max (hc : X.calm = true) : CallRK X (.builtin "max") [Str.ofString "default"] (rMaxD X.K) := by
  intro pins s σ H vs zs us ws Q I r rz h
  obtain ⟨a, ns, d, rfl, rfl, hs, hne, q⟩ := h
  obtain ⟨its, rv, hl, _⟩ := I.list hs
  rw [Vals.ref1 r]; obtain ⟨w, rfl, _⟩ := vals1 rz
  exact mx_list (I.ok.hd hc) hl.isList rv.ints hne fun h' tk m t' hk h1 h2 => ⟨.int _, H, I.kept hk, ⟨_, rfl⟩, q m h1 h2⟩
/-- max(xs, default=d), xs with an item -/
def zMaxD (za zk : ZA) : ZE := fun Γ Δ P => za Γ Δ fun ds Δ1 => zk Γ Δ1 fun es Δ2 => ∃ (x d : D) (ns : List Int), ds = [x] ∧ es = [d] ∧ lstD Δ2 x = some (ns.map D.int) ∧ ns ≠ [] ∧ ∀ m, m ∈ ns → (∀ y, y ∈ ns → y ≤ m) → P (.int m) Δ2
theorem ez_maxD {x : Str} {p pos : Pos} {e : Expr} {es : List Expr} {kws : List Keyword} {za zk : ZA} (hm : X.mg x = none) (hv : bootBuiltins x = some (.builtin "max")) (ha : AZ C X (e :: es) za) (hk : KZ C X kws zk) (hc : X.calm = true := by rfl) (hg : Gl X x := by rfl) (hn : x ≠ "__name__" := by decide) (hdb : (x == ("__debug__" : Str)) = false := by decide)
    (he : backTo pos (starEach (e :: es) X.env) = (false, eval e X.env) :: backTo pos (starEach es X.env) := by rfl) (hpl : (backTo pos (starEach (e :: es) X.env)).any (·.1) = false := by rfl)
    (hall : (backToKw pos (keywordEach kws X.env)).all (·.1.isSome) = true := by rfl) (hnone : (backToKw pos (keywordEach kws X.env)).any (·.1.isNone) = false := by rfl) (hks : (backToKw pos (keywordEach kws X.env)).filterMap (·.1) = [Str.ofString "default"] := by rfl) :
    EZ C X (.Call (.Name x p) (e :: es) kws pos) (zMaxD za zk) := by
  obtain ⟨t, a1, a2⟩ := ha.ex
  obtain ⟨u, k1, k2⟩ := hk.ex
  refine ⟨_, pe_callBK (ck_max hc) hg hm hv a1 k1 hn hdb he hpl hall hnone hks, fun S A σ H Γ Δ P Q hs hc hz k => ?_⟩
  refine a2 S A σ H Γ Δ _ _ hs hc hz fun vs ds A1 H1 Δ1 e1 c1 r1 hz1 => k2 S A1 σ H1 Γ Δ1 _ _ (hs.ext e1) c1 hz1 fun zs es A2 H2 Δ2 e2 c2 r2 hz2 => ?_
  obtain ⟨x, d, ns, rfl, rfl, hl, hne, q⟩ := hz2
  obtain ⟨v, rfl, rv⟩ := one_rep (r1.ext e2)
  obtain ⟨w, rfl, rw'⟩ := one_rep r2
  obtain ⟨pa, ys, rfl, hq, rr⟩ := Rep.lst_ c2 rv hl
  obtain rfl := repL_int rr
  exact ⟨pa, ns, w, rfl, rfl, SqL.of hq, List.length_pos_iff.mpr hne, fun m h1 h2 => k _ _ A2 H2 Δ2 (e1.trans e2) c2 (.int _) (q m h1 h2)⟩
end
/-! ### a dict whose keys are ints, while it is made -/
def putI (k : Int) (v : D) (l : List (Int × D)) : List (Int × D) := if (l.any fun p => decide (p.1 = k)) = true then l.map (fun p => if p.1 = k then (p.1, v) else p) else l ++ [(k, v)]
def dctP (l : List (Int × D)) : D := .dct (l.map (·.1)) (l.map (·.2))
section
variable (K : PySem.W.Frag) (C : CI) (S A : List Addr) (H : Hp)
inductive RepP : List (Key × V) → List (Int × D) → Prop where
  | nil : RepP [] []
  | cons {k : Int} {v : V} {vs : List (Key × V)} {d : D} {ds : List (Int × D)} (h : Rep K C S A H v d) (r : RepP vs ds) : RepP ((Sum.inl k, v) :: vs) ((k, d) :: ds)
end
section
variable {K : PySem.W.Frag} {C : CI} {S S' A A' : List Addr} {H H' : Hp}
theorem RepP.mono (m : Mo S A H S' A' H') : ∀ {vs : List (Key × V)} {ds : List (Int × D)}, RepP K C S A H vs ds → RepP K C S' A' H' vs ds
  | _, _, .nil => .nil
  | _, _, .cons h r => .cons (Rep.mono m _ h) (RepP.mono m r)
theorem RepP.length : ∀ {vs : List (Key × V)} {ds : List (Int × D)}, RepP K C S A H vs ds → vs.length = ds.length
  | _, _, .nil => rfl
  | _, _, .cons _ r => congrArg (· + 1) (RepP.length r)
theorem RepP.any {k : Int} : ∀ {vs : List (Key × V)} {ds : List (Int × D)}, RepP K C S A H vs ds → (vs.any fun p => decide (p.1 = Sum.inl k)) = ds.any fun p => decide (p.1 = k)
  | _, _, .nil => rfl
  | _, _, .cons (k := j) h r => by
    rw [List.any_cons, List.any_cons, RepP.any r]
    by_cases e : j = k
    · subst e; simp
    · have e' : ¬ (Sum.inl j : Key) = Sum.inl k := fun q => e (Sum.inl.inj q)
      rw [decide_eq_false e, decide_eq_false e']
theorem RepP.snoc {k : Int} {v : V} {d : D} (h : Rep K C S A H v d) : ∀ {vs : List (Key × V)} {ds : List (Int × D)}, RepP K C S A H vs ds → RepP K C S A H (vs ++ [(Sum.inl k, v)]) (ds ++ [(k, d)])
  | _, _, .nil => .cons h .nil
  | _, _, .cons h' r => .cons h' (RepP.snoc h r)
theorem RepP.over {k : Int} {v : V} {d : D} (h : Rep K C S A H v d) : ∀ {vs : List (Key × V)} {ds : List (Int × D)}, RepP K C S A H vs ds → RepP K C S A H (vs.map fun p => if p.1 = Sum.inl k then (p.1, v) else p) (ds.map fun p => if p.1 = k then (p.1, d) else p)
  | _, _, .nil => .nil
  | _, _, .cons (k := j) h' r => by
    rw [List.map_cons, List.map_cons]
    by_cases e : j = k
    · subst e
      simp only [if_true]
      exact .cons h (RepP.over h r)
    · have e' : ¬ (Sum.inl j : Key) = Sum.inl k := fun q => e (Sum.inl.inj q)
      rw [if_neg e, if_neg e']
      exact .cons h' (RepP.over h r)
theorem RepP.put {k : Int} {v : V} {d : D} {vs : List (Key × V)} {ds : List (Int × D)} (r : RepP K C S A H vs ds) (h : Rep K C S A H v d) : RepP K C S A H (putK vs (Sum.inl k) v) (putI k d ds) := by
  unfold putK putI
  rw [RepP.any r]
  split
  · exact RepP.over h r
  · exact RepP.snoc h r
theorem RepP.zip : ∀ {vs : List (Key × V)} {ds : List (Int × D)}, RepP K C S A H vs ds → vs = ((ds.map (·.1)).map Sum.inl).zip (vs.map (·.2)) ∧ RepL K C S A H (vs.map (·.2)) (ds.map (·.2))
  | _, _, .nil => ⟨rfl, .nil⟩
  | _, _, .cons h r => by
    obtain ⟨h1, h2⟩ := RepP.zip r
    refine ⟨?_, .cons h h2⟩
    rw [List.map_cons, List.map_cons, List.map_cons, List.zip_cons_cons, ← h1]
theorem RepP.of : ∀ {ks : List Int} {xs : List V} {ds : List D}, xs.length = ks.length → RepL K C S A H xs ds → RepP K C S A H ((ks.map Sum.inl).zip xs) (ks.zip ds)
  | [], [], _, _, .nil => .nil
  | k :: ks, x :: xs, _, e, .cons h r => .cons h (RepP.of (by simpa using e) r)
theorem RepP.rep {q : Addr} {vs : List (Key × V)} {ds : List (Int × D)} (h : H q = some (.dK vs)) (hA : q ∉ A) (hS : q ∉ S) (r : RepP K C S A H vs ds) : Rep K C S A H (.ref q) (dctP ds) := by
  obtain ⟨h1, h2⟩ := RepP.zip r
  refine .dct (xs := vs.map (·.2)) (by rw [← h1]; exact .inl h) hA hS ?_ h2
  rw [List.length_map, List.length_map, r.length]
theorem RepP.get {k : Int} {d : D} : ∀ {vs : List (Key × V)} {ds : List (Int × D)}, RepP K C S A H vs ds → ds.lookup k = some d → ∃ v, valV vs (Sum.inl k) = some v ∧ Rep K C S A H v d
  | _, _, .nil, e => by cases e
  | _, _, .cons (k := j) (d := d') (ds := ds) (v := v) h r, e => by
    by_cases q : j = k
    · subst q
      rw [List.lookup_cons_self] at e
      cases e
      exact ⟨v, valV_pos rfl, h⟩
    · rw [List.lookup_cons, show (k == j) = false from by simp; exact fun z => q z.symm] at e
      obtain ⟨w, h1, h2⟩ := RepP.get r e
      exact ⟨w, by rw [valV_neg fun z => q (Sum.inl.inj z)]; exact h1, h2⟩
end
/-! ### {k: v for target in iter if ..} -/
def dcZ (zg : ZG) (zt : ZT) (zk zv : ZE) (Γ0 : Env) (P : D → Store → Prop) : List D → List (Int × D) → Store → Prop
  | [], acc, Δ => P (dctP acc) Δ
  | x :: xs, acc, Δ => zg x Γ0 Δ fun Γ2 Δ2 => zt Γ2 Δ2 fun b Δ3 => (b = true → zk Γ2 Δ3 fun y Δ4 => zv Γ2 Δ4 fun z Δ5 => ∃ k, y = .int k ∧ acc.length < 100000 ∧ dcZ zg zt zk zv Γ0 P xs (putI k z acc) Δ5) ∧ (b = false → dcZ zg zt zk zv Γ0 P xs acc Δ3)
def zDc (zi : ZI) (zg : ZG) (zt : ZT) (zk zv : ZE) (vs : List Nat) : ZE := fun Γ Δ P => zi Γ Δ fun items Δ1 => dcZ zg zt zk zv (wipeZ Γ vs) P items [] Δ1
section
variable {K : PySem.W.Frag} {C : CI} {S : List Addr} {q : Addr}
theorem growD_mo {A : List Addr} {H : Hp} {l : List (Key × V)} : Mo (q :: S) A H (q :: S) A (upd H q (.dK l)) := ⟨⟨[], by simp, by simp⟩, fun _ h => .inl h, fun a o _ h2 h3 => by
  rw [upd_ne (fun h => h2 (by rw [h]; exact List.mem_cons_self))]; exact h3⟩
theorem growD_cells {A : List Addr} {H : Hp} {Δ : Store} {l : List (Key × V)} (c : Cells K C (q :: S) A H Δ) : Cells K C (q :: S) A (upd H q (.dK l)) Δ := by
  have hq : q ∉ A := fun h => c.dj q h List.mem_cons_self
  refine ⟨c.len, c.nd, c.dj, fun a ha h => ?_, fun n a o h1 h2 => (c.at_ n a o h1 h2).mono growD_mo fun u h => ?_⟩
  · by_cases hb : a = q
    · subst hb; rw [upd_same] at h; cases h
    · rw [upd_ne hb] at h; exact c.as a ha h
  · rw [upd_ne (fun hb => hq (by rw [← hb]; exact List.mem_of_getElem? h1))]; exact h
/-- what the new dict at q is, all along -/
structure AtD (K : PySem.W.Frag) (C : CI) (S : List Addr) (q : Addr) (A0 : List Addr) (H0 : Hp) (A : List Addr) (H : Hp) (Δ : Store) (acc : List (Int × D)) : Prop where
  mo : Mo (q :: S) A0 H0 (q :: S) A H
  trk : ∀ a, H a = none → H0 a = none
  kp : ∀ a o, a ∉ A0 → a ≠ q → H0 a = some o → H a = some o
  cells : Cells K C (q :: S) A H Δ
  dct : ∃ accV, H q = some (.dK accV) ∧ RepP K C (q :: S) A H accV acc
theorem AtD.ext {A0 A A' : List Addr} {H0 H H' : Hp} {Δ Δ' : Store} {acc : List (Int × D)} (h : AtD K C S q A0 H0 A H Δ acc) (e : Ext A H A' H') (c : Cells K C (q :: S) A' H' Δ') : AtD K C S q A0 H0 A' H' Δ' acc := by
  obtain ⟨accV, h1, h2⟩ := h.dct
  have hq : q ∉ A := fun z => h.cells.dj q z List.mem_cons_self
  obtain ⟨B, hB, nB⟩ := h.mo.pre
  obtain ⟨B', hB', nB'⟩ := e.pre
  have hin : ∀ a o, a ∈ A → H0 a = some o → a ∈ A0 := fun a o ha ho => by
    rw [hB] at ha
    rcases List.mem_append.mp ha with ha | ha
    · exact ha
    · rw [nB a ha] at ho; cases ho
  refine ⟨⟨⟨B ++ B', by rw [hB', hB, List.append_assoc], fun b hb => ?_⟩, fun _ z => .inl z, fun a o g1 g2 g3 => ?_⟩, fun a z => h.trk a (e.trk a z), fun a o g1 g2 g3 => ?_, c, accV, e.keep q _ hq h1, h2.mono e.mo⟩
  · rcases List.mem_append.mp hb with hb | hb
    · exact nB b hb
    · exact h.trk b (nB' b hb)
  · exact e.keep a o (fun z => g1 (hin a o z g3)) (h.mo.keep a o g1 g2 g3)
  · exact e.keep a o (fun z => g1 (hin a o z g3)) (h.kp a o g1 g2 g3)
theorem AtD.grow {A0 A : List Addr} {H0 H : Hp} {Δ : Store} {acc : List (Int × D)} {accV : List (Key × V)} {y : V} {d : D} {k : Int} (h : AtD K C S q A0 H0 A H Δ acc) (h1 : H q = some (.dK accV)) (h2 : RepP K C (q :: S) A H accV acc) (r : Rep K C (q :: S) A H y d) : AtD K C S q A0 H0 A (upd H q (.dK (putK accV (Sum.inl k) y))) Δ (putI k d acc) := by
  refine ⟨⟨h.mo.pre, fun _ z => .inl z, fun a o g1 g2 g3 => ?_⟩, fun a z => ?_, fun a o g1 g2 g3 => ?_, growD_cells h.cells, _, upd_same, (h2.put r).mono growD_mo⟩
  · rw [upd_ne (fun z => g2 (by rw [z]; exact List.mem_cons_self))]; exact h.mo.keep a o g1 g2 g3
  · by_cases hb : a = q
    · subst hb; rw [upd_same] at z; cases z
    · rw [upd_ne hb] at z; exact h.trk a z
  · rw [upd_ne g2]; exact h.kp a o g1 g2 g3
theorem AtD.here {A : List Addr} {H : Hp} {Δ : Store} {acc : List (Int × D)} (c : Cells K C (q :: S) A H Δ) (l : ∃ accV, H q = some (.dK accV) ∧ RepP K C (q :: S) A H accV acc) : AtD K C S q A H A H Δ acc :=
  ⟨⟨⟨[], by simp, by simp⟩, fun _ z => .inl z, fun _ _ _ _ h => h⟩, fun _ h => h, fun _ _ _ _ h => h, c, l⟩
theorem ref_dc {wi : TI} {g : TG} {tt : TT} {tk tv : TE} {vs : List Nat} {zi : ZI} {zg : ZG} {zt : ZT} {zk zv : ZE} (hi : RefI K C wi zi) (hg : RefG K C g zg) (ho : Own g vs) (ht : RefT K C tt zt) (hk : RefE K C tk zk) (hv : RefE K C tv zv) :
    RefE K C (tDc wi g tt tk tv vs) (zDc zi zg zt zk zv vs) := fun S A σ H Γ Δ P Q hs hc hz k => hi S A σ H Γ Δ _ _ hs hc hz fun J n G Y items A1 H1 Δ1 e1 c1 p hn w hG hY q hq => by
  have s1 := hs.ext e1
  have mo0 : Mo S A1 H1 (q :: S) A1 (upd H1 q (.dK [])) := ⟨⟨[], by simp, by simp⟩, fun b hb => by
    rcases List.mem_cons.mp hb with rfl | hb
    · exact .inr hq
    · exact .inl hb, fun a o _ _ h => by rw [upd_ne (ne_of_none h hq)]; exact h⟩
  have cells0 : Cells K C (q :: S) A1 (upd H1 q (.dK [])) Δ1 := by
    refine ⟨c1.len, c1.nd, fun a ha hb => ?_, fun a ha h => ?_, fun n a o h1 h2 => (c1.at_ n a o h1 h2).mono mo0 fun u h => by rw [upd_ne (ne_of_none h hq)]; exact h⟩
    · rcases List.mem_cons.mp hb with rfl | hb
      · exact c1.fresh hq ha
      · exact c1.dj a ha hb
    · rcases List.mem_cons.mp ha with rfl | ha
      · rw [upd_same] at h; cases h
      · exact c1.as a ha ((Ext.new (A := A1) hq).trk a h)
  have mo2 : ∀ {A2 : List Addr} {H2 : Hp} {Δ2 : Store} {acc : List (Int × D)}, AtD K C S q A1 (upd H1 q (.dK [])) A2 H2 Δ2 acc → Mo S A1 H1 (q :: S) A2 H2 := fun {A2 H2 Δ2 acc} a => by
    obtain ⟨B, hB, nB⟩ := a.mo.pre
    refine ⟨⟨B, hB, fun b hb => (Ext.new (A := A1) hq).trk b (nB b hb)⟩, mo0.sub, fun x o h1 h2 h3 => ?_⟩
    have hx := ne_of_none h3 hq
    exact a.kp x o h1 hx (by rw [upd_ne hx]; exact h3)
  have ext2 : ∀ {A2 : List Addr} {H2 : Hp} {Δ2 : Store} {acc : List (Int × D)}, AtD K C S q A1 (upd H1 q (.dK [])) A2 H2 Δ2 acc → Ext A1 H1 A2 H2 := fun {A2 H2 Δ2 acc} a => by
    obtain ⟨B, hB, nB⟩ := a.mo.pre
    refine ⟨⟨B, hB, fun b hb => (Ext.new (A := A1) hq).trk b (nB b hb)⟩, fun x o h1 h3 => ?_, fun x h => (Ext.new (A := A1) hq).trk x (a.trk x h)⟩
    have hx := ne_of_none h3 hq
    exact a.kp x o h1 hx (by rw [upd_ne hx]; exact h3)
  refine ⟨fun i m H2 => m = n - i ∧ i ≤ n ∧ ∃ A2 Δ2 acc, AtD K C S q A1 (upd H1 q (.dK [])) A2 H2 Δ2 acc ∧ dcZ zg zt zk zv (wipeZ Γ vs) P (items.drop i) acc Δ2, ⟨n, by simp, Nat.zero_le _, A1, Δ1, [], .here cells0 ⟨[], upd_same, .nil⟩, p⟩, ?_⟩
  rintro i m H2 ⟨rfl, hin, A2, Δ2, acc, a0, p2⟩
  have gg := hG (q :: S) A2 H2 (mo2 a0)
  by_cases hlt : i < n
  · refine .inr ⟨w.goes i H2 hlt gg, fun H' => ∃ A2 Δ2 acc, AtD K C S q A1 (upd H1 q (.dK [])) A2 H' Δ2 acc ∧ dcZ zg zt zk zv (wipeZ Γ vs) P (items.drop (i + 1)) acc Δ2, fun H' p' => ⟨n - (i + 1), by omega, rfl, hlt, p'⟩, fun x H3 y => ?_⟩
    obtain ⟨d, q1, q2, q3⟩ := hY (q :: S) A2 H2 Δ2 i x H3 hlt (mo2 a0) a0.cells (w.yields i H2 x H3 hlt gg y)
    rw [drop_cons q1] at p2
    have e3 : Ext A2 H2 A2 H3 := Ext.kept q2
    have c3 := a0.cells.kept q2
    have s3 : Slots K C (q :: S) A2 H3 (wipe σ vs) (wipeZ Γ vs) := ((s1.mono (mo2 a0)).ext e3).wipe vs
    have h5 := hg (q :: S) A2 (wipe σ vs) H3 (wipeZ Γ vs) Δ2 x d _ (fun σ4 H4 => tt σ4 H4 fun b H5 => if b = true then tk σ4 H5 fun y H4 => tv σ4 H4 fun z H5 => ∃ kvs k, y = kV k ∧ H5 q = some (.dK kvs) ∧ kvs.length < sizeLine ∧ ∃ A2 Δ2 acc, AtD K C S q A1 (upd H1 q (.dK [])) A2 (upd H5 q (.dK (putK kvs k z))) Δ2 acc ∧ dcZ zg zt zk zv (wipeZ Γ vs) P (items.drop (i + 1)) acc Δ2
        else ∃ A2 Δ2 acc, AtD K C S q A1 (upd H1 q (.dK [])) A2 H5 Δ2 acc ∧ dcZ zg zt zk zv (wipeZ Γ vs) P (items.drop (i + 1)) acc Δ2) s3 c3 q3 p2 fun σ4 A4 H4 Γ4 Δ4 e4 s4 c4 p4 => by
      refine ht (q :: S) A4 σ4 H4 Γ4 Δ4 _ _ s4 c4 p4 fun b A5 H5 Δ5 e5 c5 p5 => ?_
      have b0 := ((a0.ext e3 c3).ext e4 c4).ext e5 c5
      cases b with
      | false => exact iteF ⟨A5, Δ5, acc, b0, p5.2 rfl⟩
      | true =>
        refine iteT (hk (q :: S) A5 σ4 H5 Γ4 Δ5 _ _ (s4.ext e5) c5 (p5.1 rfl) fun y dy A6 H6 Δ6 e6 c6 r6 p6 => ?_)
        refine hv (q :: S) A6 σ4 H6 Γ4 Δ6 _ _ ((s4.ext e5).ext e6) c6 p6 fun z dz A7 H7 Δ7 e7 c7 r7 p7 => ?_
        have d0 := (b0.ext e6 c6).ext e7 c7
        obtain ⟨j, rfl, hlen, p7⟩ := p7
        cases r6
        obtain ⟨accV, l1, l2⟩ := d0.dct
        exact ⟨accV, Sum.inl j, rfl, l1, lt_line (by rw [l2.length]; exact hlen), A7, Δ7, _, d0.grow l1 l2 r7, p7⟩
    have fin := ho _ _ _ _ h5
    rw [wipe_wipe] at fin
    exact fin
  · have e : i = n := by omega
    subst e
    rw [hn, List.drop_length] at p2
    refine .inl ⟨w.stops H2 gg, ?_⟩
    obtain ⟨accV, l1, l2⟩ := a0.dct
    have c2 := a0.cells
    have hq2 : q ∉ A2 := fun h => c2.dj q h List.mem_cons_self
    have mo8 : Mo (q :: S) A2 H2 S A2 H2 := ⟨⟨[], by simp, by simp⟩, fun b hb => .inl (List.mem_cons_of_mem _ hb), fun _ _ _ _ h => h⟩
    exact k _ _ A2 H2 Δ2 (e1.trans (ext2 a0)) ⟨c2.len, c2.nd, fun a ha hb => c2.dj a ha (List.mem_cons_of_mem _ hb), fun a ha => c2.as a (List.mem_cons_of_mem _ ha), fun n a o h1 h2 => (c2.at_ n a o h1 h2).mono mo8 fun _ h => h⟩
      (RepP.rep l1 hq2 (c1.aside hq) (l2.mono mo8)) p2
end
section
variable {C : CI} {X : Cx}
theorem ez_dc {kx vx tg iter : Expr} {ifs : List Expr} {scope : Scope} {own : List (Str × Nat)} {pos : Pos} {zi : ZI} {g : TG} {zg : ZG} {zt : ZT} {zk zv : ZE} (hN : X.N.Nodup) (hi : IZ C X tg iter zi) (ok : BlkOk X.N X.env.scope scope own) (ho : Own g (own.map (·.2))) (hr : RefG X.K C g zg)
    (hg : ∀ (s : Shared) (H : Hp) (Ca : Addr) (cl : List (Str × Addr)) (fp : List Addr), PG (X.blk s H scope (compEnvC scope cl Ca X.env) fp) tg g)
    (ht : ∀ (s : Shared) (H : Hp) (Ca : Addr) (cl : List (Str × Addr)) (fp : List Addr), TsZ C (X.blk s H scope (compEnvC scope cl Ca X.env) fp) ifs zt)
    (hk : ∀ (s : Shared) (H : Hp) (Ca : Addr) (cl : List (Str × Addr)) (fp : List Addr), EZ C (X.blk s H scope (compEnvC scope cl Ca X.env) fp) kx zk)
    (hv : ∀ (s : Shared) (H : Hp) (Ca : Addr) (cl : List (Str × Addr)) (fp : List Addr), EZ C (X.blk s H scope (compEnvC scope cl Ca X.env) fp) vx zv)
    (hc : X.calm = true := by rfl) (hs : ∀ x, foldedSetIterable iter X.env x = pure x := by intro _; rfl) :
    EZ C X (.DictComp kx vx [⟨tg, iter, ifs, 0⟩] scope pos) (zDc zi zg zt zk zv (own.map (·.2))) := by
  obtain ⟨wi, i1, i2⟩ := hi.ex
  exact ⟨_, pe_dc hc hN i1 ok hg (fun s H Ca cl fp => (ht s H Ca cl fp).up) (fun s H Ca cl fp => (hk s H Ca cl fp).up) (fun s H Ca cl fp => (hv s H Ca cl fp).up) hs, ref_dc i2 hr ho ref_upT ref_up ref_up⟩
/-! ### d[k] of such a dict; sorted(d) -/
/-- what a value is as a dict -/
def dctOf (Δ : Store) : D → Option (List (Int × D))
  | .dct ks ds => some (ks.zip ds)
  | .cell n => match Δ[n]? with
    | some (.dct ks ds) => some (ks.zip ds)
    | _ => none
  | _ => none
theorem Rep.dctOf {K : PySem.W.Frag} {S A : List Addr} {H : Hp} {Δ : Store} {x : V} {d : D} {ds : List (Int × D)} (hc : Cells K C S A H Δ) (r : Rep K C S A H x d) (h : Z.dctOf Δ d = some ds) :
    ∃ p vs, x = .ref p ∧ Rd H p (.dK vs) ∧ RepP K C S A H vs ds := by
  cases r with
  | dct h1 hA hS hl r => cases h; exact ⟨_, _, rfl, h1, RepP.of hl r⟩
  | cell h1 =>
    rename_i n
    unfold Z.dctOf at h
    cases q : Δ[n]? with
    | none => simp only [q] at h; cases h
    | some o =>
      cases o with
      | lst _ => simp only [q] at h; cases h
      | ins _ _ => simp only [q] at h; cases h
      | dct ks es =>
        simp only [q] at h
        cases h
        obtain ⟨xs, e1, e2, e3⟩ := hc.at_ n _ _ h1 q
        exact ⟨_, _, rfl, .inl e1, RepP.of e2 e3⟩
  | _ => cases h
def zDGet (za zb : ZE) : ZE := fun Γ Δ P => za Γ Δ fun x Δ1 => zb Γ Δ1 fun y Δ2 => ∃ (ds : List (Int × D)) (k : Int) (d : D), dctOf Δ2 x = some ds ∧ y = .int k ∧ ds.lookup k = some d ∧ P d Δ2
theorem ez_dget {a b : Expr} {pos : Pos} {za zb : ZE} (hu64 : X.A.units + 64 < cLine) (ha : EZ C X a za) (hb : EZ C X b zb) (hp : NoSl b := by first | trivial | exact fun _ _ => rfl | decide) : EZ C X (.Subscript a b pos) (zDGet za zb) := by
  obtain ⟨ta, a1, a2⟩ := ha.ex
  obtain ⟨tb, b1, b2⟩ := hb.ex
  have hu : X.A.units + 1 < cLine := Nat.lt_of_le_of_lt (Nat.add_le_add_left (by decide) _) hu64
  refine ⟨_, pe_dget hu a1 b1 hp, fun S A σ H Γ Δ P Q hs hc hz k => a2 S A σ H Γ Δ _ _ hs hc hz fun x dx A1 H1 Δ1 e1 c1 r1 hz1 => b2 S A1 σ H1 Γ Δ1 _ _ (hs.ext e1) c1 hz1 fun y dy A2 H2 Δ2 e2 c2 r2 hz2 => ?_⟩
  obtain ⟨ds, j, d, h1, rfl, h3, p⟩ := hz2
  obtain ⟨pa, vs, rfl, g1, g2⟩ := Rep.dctOf c2 (r1.ext e2) h1
  obtain ⟨v, w1, w2⟩ := g2.get h3
  cases r2
  refine ⟨pa, v, rfl, ?_, k v d A2 H2 Δ2 (e1.trans e2) c2 w2 p⟩
  exact .inl ⟨vs, Sum.inl j, g1, rfl, w1.symm⟩
/-- sorted(d), keys ints, any number of them -/
def rSortDI : List V → Hp → VK → Prop := fun xs H Q => ∃ (a : Addr) (kvs : List (Key × V)) (ks : List Int), xs = [.ref a] ∧ Rd H a (.dK kvs) ∧ kvs.map (·.1) = ks.map Sum.inl ∧ ∀ (ys : List Int) (p : Addr), ys.Perm ks → ys.Pairwise (· ≤ ·) → H p = none → Q (.ref p) (upd H p (.lst (ys.map V.int)))
theorem cr_sortDI (hcalm : X.calm = true) : CallR X (.builtin "sorted") rSortDI := by
  intro pins s σ H xs us Q I r q
  obtain ⟨a, kvs, ks, rfl, hd, hks, q⟩ := q
  obtain ⟨u, rfl, rx⟩ := vals1 r; cases rx
  obtain ⟨z, lo, vs, rel, dd⟩ := dk_rd I.hok hd; obtain ⟨ep, hat⟩ := dd.dictAt
  have hkeys : vs.map (·.1) = ks.map Sum.inl := rel.keys.symm.trans hks
  have hl : vs.length = ks.length := by
    have e := congrArg List.length hkeys
    simpa using e
  have h16 : vs.length ≤ sizeLine := by rw [← rel.length]; exact z
  refine Calls.call_function_entry kind_sorted plain_sorted entry_sorted (args_sorted1 _) ?_
  unfold Builtin.«sorted»
  refine wpAny_bind (m := checkCount "sorted" 1 1 _) (wpAny_pure (wpAny_bind (PySem.W.kdu_collect (A := X.A.in1) (PySem.W.kdl_dict (knd := mixKind X.prog X.w) (kvs := vs) (ep := ep) lo) (I.ok.hd hcalm) hat h16 fun h' tk acc hk hacc => ?_)))
  have hal : acc.toList.length = ks.length := by rw [Array.length_toList, hacc.1, hl]
  have hS : IntsAre acc.toList ks := ints_each hal fun j v e => by
    obtain ⟨k, x, e1, e2⟩ := hacc.2 j v (by rw [← Array.getElem?_toList]; exact e); have e3 : (vs.map (·.1))[j]? = some k := by rw [List.getElem?_map, e1]; rfl
    rw [hkeys, List.getElem?_map] at e3
    cases e4 : ks[j]? with
    | none => rw [e4] at e3; cases e3
    | some y =>
      rw [e4] at e3; obtain rfl : Sum.inl y = k := Option.some.inj e3
      rcases keyIs_shape (show keyIs (Sum.inl y) v = true from e2) with ⟨i, t, ek, ev⟩ | ⟨z, t, ek, ev⟩
      · cases ek; exact ⟨y, t, rfl, ev⟩
      · cases ek
  have I1 : Inv X pins σ H { s with heap := h', toks := tk } := I.kept hk
  have hz2 : acc.toList.length ≤ sizeLine := by rw [hal, ← hl]; exact h16
  refine wpAny_bind (wpAny_newList ?_ hz2)
  have ho : (h'.push (seqObj "list" acc.toList.toArray 0)).get? h'.objs.size = some (seqObj "list" acc.toList.toArray 0) := Heap.get?_push_size _ rfl
  show wpAny _ _ _ _ _ { s with heap := h'.push (seqObj "list" acc.toList.toArray 0), toks := tk }
  refine wpAny_bind (wpAny_holding (wpAny_call_entry slot_list_sort ⟨_, ho, rfl⟩ entry_list_sort (SrtO.list_sort_ord (s := { s with heap := h'.push (seqObj "list" acc.toList.toArray 0), toks := tk }) SrtO.swo_int ho hz2 (fun h2 => SrtO.ints_sortable hS h2) fun out h1 h2 => ⟨_, rfl, ?_⟩) (args_list_sort _)))
  obtain ⟨k1, k2, k3⟩ := SrtO.ints_out hS h1 h2
  obtain ⟨e', he'⟩ := sortedHeap_at (vs := acc.toList) (out := out.toArray) ho
  have hlen : ((out.map SrtO.iv).map V.int).length ≤ sizeLine := by rw [List.length_map, k2.length_eq, ← hl]; exact h16
  refine wpAny_pure ⟨_, rfl, .ref h'.objs.size, upd H h'.objs.size (.lst ((out.map SrtO.iv).map V.int)), I1.laid (t' := tk) (fun b u e => ?_) (Nat.le_refl _)
    (show ObjOk X.prog X.w _ _ _ (.lst ((out.map SrtO.iv).map V.int)) from ⟨hlen, out, e', vals_of_ints k1, he'⟩), rfl, q _ _ k2 k3 (I1.hok.fresh (Nat.le_refl _))⟩
  have hb : b < h'.objs.size := Heap.lt_size e
  rw [sortedHeap_old (Nat.ne_of_lt hb) (by rw [size_push']; exact Nat.lt_succ_of_lt hb)]
  exact Heap.get?_push_of_some _ e
def zSortD : ZRC := fun ds Δ P => ∃ (x : D) (l : List (Int × D)), ds = [x] ∧ dctOf Δ x = some l ∧ ∀ ys : List Int, ys.Perm (l.map (·.1)) → ys.Pairwise (· ≤ ·) → P (.lst (ys.map D.int)) Δ
theorem RepP.keys {K : PySem.W.Frag} {S A : List Addr} {H : Hp} : ∀ {vs : List (Key × V)} {ds : List (Int × D)}, RepP K C S A H vs ds → vs.map (·.1) = (ds.map (·.1)).map Sum.inl
  | _, _, .nil => rfl
  | _, _, .cons h r => by rw [List.map_cons, List.map_cons, List.map_cons, RepP.keys r]
theorem cz_sortD (hc : X.calm = true := by rfl) : CallZ C X (.builtin "sorted") zSortD := ⟨_, cr_sortDI hc, fun S A H Δ xs ds P Q hc r hz k => by
  obtain ⟨x, l, rfl, hd, q⟩ := hz
  obtain ⟨v, rfl, rv⟩ := one_rep r
  obtain ⟨pa, vs, rfl, g1, g2⟩ := Rep.dctOf hc rv hd
  refine ⟨pa, vs, l.map (·.1), rfl, g1, g2.keys, fun ys p h1 h2 hp => ?_⟩
  have e : Ext A H A (upd H p (.lst (ys.map V.int))) := Ext.new hp
  have hpA : p ∉ A := hc.fresh hp
  refine k _ _ A _ Δ e (hc.kept fun a o h => by rw [upd_ne (ne_of_none h hp)]; exact h) (.lst upd_same hpA (hc.aside hp) (repL_ints ys)) (q ys h1 h2)⟩
end
/-! ### lists and dicts that a comprehension makes, as cells -/
def asCell (P : D → Store → Prop) : D → Store → Prop := fun d Δ => ∃ ds, d = .lst ds ∧ P (.cell Δ.length) (Δ ++ [.lst ds])
def zLcC (zi : ZI) (zg : ZG) (zt : ZT) (ze : ZE) (vs : List Nat) : ZE := fun Γ Δ P => zi Γ Δ fun items Δ1 => compZ zg zt ze (wipeZ Γ vs) (asCell P) items [] Δ1
section
variable {K : PySem.W.Frag} {C : CI} {S A : List Addr} {H : Hp} {q : Addr}
theorem nin_snoc {a : Addr} (h1 : a ∉ A) (h2 : a ∉ q :: S) : a ∉ A ++ [q] := fun h => by
  rcases List.mem_append.mp h with h | h
  · exact h1 h
  · rw [List.mem_singleton] at h
    exact h2 (by rw [h]; exact List.mem_cons_self)
mutual
theorem Rep.unaside : ∀ {v : V} {d : D}, Rep K C (q :: S) A H v d → q ∉ A → q ∉ S → Rep K C S (A ++ [q]) H v d
  | _, .non, h, _, _ => by cases h; exact .non
  | _, .bl b, h, _, _ => by cases h; exact .bl b
  | _, .int i, h, _, _ => by cases h; exact .int i
  | _, .str x, h, _, _ => by cases h; exact .str x
  | _, .ty n, h, _, _ => by cases h; exact .ty n
  | _, .cls c, h, _, _ => by cases h; exact .cls c
  | _, .ktup ns, h, _, _ => by cases h with | ktup h => exact .ktup h
  | _, .exc c, h, _, _ => by cases h with | exc h hA hS => exact .exc h (nin_snoc hA hS) (fun z => hS (List.mem_cons_of_mem _ z))
  | _, .tup ds, h, h1, h2 => by cases h with | tup h hA hS r => exact .tup h (nin_snoc hA hS) (fun z => hS (List.mem_cons_of_mem _ z)) (RepL.unaside r h1 h2)
  | _, .lst ds, h, h1, h2 => by cases h with | lst h hA hS r => exact .lst h (nin_snoc hA hS) (fun z => hS (List.mem_cons_of_mem _ z)) (RepL.unaside r h1 h2)
  | _, .ins c ds, h, h1, h2 => by cases h with | ins h hA hS hl r => exact .ins h (nin_snoc hA hS) (fun z => hS (List.mem_cons_of_mem _ z)) hl (RepL.unaside r h1 h2)
  | _, .dct ks ds, h, h1, h2 => by cases h with | dct h hA hS hl r => exact .dct h (nin_snoc hA hS) (fun z => hS (List.mem_cons_of_mem _ z)) hl (RepL.unaside r h1 h2)
  | _, .cell n, h, _, _ => by
    cases h with
    | cell h => exact .cell (by rw [List.getElem?_append_left (List.getElem?_eq_some_iff.mp h).1]; exact h)
  | _, .scr ns, h, _, _ => by
    cases h with
    | scr h =>
      rcases h with ⟨h, hA, hS⟩ | h
      · exact .scr (.inl ⟨h, nin_snoc hA hS, fun z => hS (List.mem_cons_of_mem _ z)⟩)
      · exact .scr (.inr h)
theorem RepL.unaside : ∀ {vs : List V} {ds : List D}, RepL K C (q :: S) A H vs ds → q ∉ A → q ∉ S → RepL K C S (A ++ [q]) H vs ds
  | _, [], h, _, _ => by cases h; exact .nil
  | _, d :: ds, h, h1, h2 => by
    cases h with
    | cons h r => exact .cons (Rep.unaside h h1 h2) (RepL.unaside r h1 h2)
end
theorem RepP.unaside : ∀ {vs : List (Key × V)} {ds : List (Int × D)}, RepP K C (q :: S) A H vs ds → q ∉ A → q ∉ S → RepP K C S (A ++ [q]) H vs ds
  | _, _, .nil, _, _ => .nil
  | _, _, .cons h r, h1, h2 => .cons (h.unaside h1 h2) (RepP.unaside r h1 h2)
theorem Cells.unset {Δ : Store} {o : O} (c : Cells K C (q :: S) A H Δ) (hS : q ∉ S) (ho : CellAt K C S (A ++ [q]) H q o) : Cells K C S (A ++ [q]) H (Δ ++ [o]) := by
  have hq : q ∉ A := fun h => c.dj q h List.mem_cons_self
  refine ⟨by rw [List.length_append, List.length_append, c.len] <;> rfl, ?_, fun a ha hb => ?_, fun a ha => c.as a (List.mem_cons_of_mem _ ha), fun n a o' h1 h2 => ?_⟩
  · refine List.nodup_append.mpr ⟨c.nd, by simp, fun a ha b hb e => ?_⟩
    rw [List.mem_singleton] at hb
    subst hb; subst e
    exact hq ha
  · rcases List.mem_append.mp ha with ha | ha
    · exact c.dj a ha (List.mem_cons_of_mem _ hb)
    · rw [List.mem_singleton] at ha
      subst ha
      exact hS hb
  · by_cases hn : n < A.length
    · rw [List.getElem?_append_left hn] at h1
      rw [List.getElem?_append_left (by rw [← c.len]; exact hn)] at h2
      have g := c.at_ n a o' h1 h2
      cases o' with
      | lst ds => obtain ⟨xs, e, r⟩ := g; exact ⟨xs, e, r.unaside hq hS⟩
      | ins k fs => obtain ⟨dx, xs, e, z, r⟩ := g; exact ⟨dx, xs, e, z, r.unaside hq hS⟩
      | dct ks ds => obtain ⟨xs, e, z, r⟩ := g; exact ⟨xs, e, z, r.unaside hq hS⟩
    · have e1 : n = A.length := by
        have := (List.getElem?_eq_some_iff.mp h1).1
        rw [List.length_append] at this
        simp at this
        omega
      subst e1
      rw [List.getElem?_append_right (Nat.le_refl _), Nat.sub_self] at h1
      rw [c.len, List.getElem?_append_right (Nat.le_refl _), Nat.sub_self] at h2
      cases h1; cases h2
      exact ho
theorem Ext.cellIn {A0 A2 : List Addr} {H0 H2 : Hp} (e : Ext A0 H0 A2 H2) (hq : H0 q = none) (hq2 : q ∉ A2) : Ext A0 H0 (A2 ++ [q]) H2 := by
  obtain ⟨B, hB, nB⟩ := e.pre
  refine ⟨⟨B ++ [q], by rw [hB, List.append_assoc], fun b hb => ?_⟩, e.keep, e.trk⟩
  rcases List.mem_append.mp hb with hb | hb
  · exact nB b hb
  · rw [List.mem_singleton] at hb; subst hb; exact hq
end
theorem ref_lcC {K : PySem.W.Frag} {C : CI} {wi : TI} {g : TG} {tt : TT} {te : TE} {vs : List Nat} {zi : ZI} {zg : ZG} {zt : ZT} {ze : ZE} (hi : RefI K C wi zi) (hg : RefG K C g zg) (ho : Own g vs) (ht : RefT K C tt zt) (he : RefE K C te ze) :
    RefE K C (tLc wi g tt te vs) (zLcC zi zg zt ze vs) := fun S A σ H Γ Δ P Q hs hc hz k => hi S A σ H Γ Δ _ _ hs hc hz fun J n G Y items A1 H1 Δ1 e1 c1 p hn w hG hY q hq => by
  have s1 := hs.ext e1
  -- the list at q is set aside
  have mo0 : Mo S A1 H1 (q :: S) A1 (upd H1 q (.lst [])) := ⟨⟨[], by simp, by simp⟩, fun b hb => by
    rcases List.mem_cons.mp hb with rfl | hb
    · exact .inr hq
    · exact .inl hb, fun a o _ _ h => by rw [upd_ne (ne_of_none h hq)]; exact h⟩
  have cells0 : Cells K C (q :: S) A1 (upd H1 q (.lst [])) Δ1 := by
    refine ⟨c1.len, c1.nd, fun a ha hb => ?_, fun a ha h => ?_, fun n a o h1 h2 => (c1.at_ n a o h1 h2).mono mo0 fun u h => by rw [upd_ne (ne_of_none h hq)]; exact h⟩
    · rcases List.mem_cons.mp hb with rfl | hb
      · exact c1.fresh hq ha
      · exact c1.dj a ha hb
    · rcases List.mem_cons.mp ha with rfl | ha
      · rw [upd_same] at h; cases h
      · exact c1.as a ha ((Ext.new (A := A1) hq).trk a h)
  refine lc_it w (fun i H2 => ∃ A2 Δ2 acc accV, Ext A1 H1 A2 H2 ∧ Mo S A1 H1 (q :: S) A2 H2 ∧ Cells K C (q :: S) A2 H2 Δ2 ∧ H2 q = some (.lst accV) ∧ RepL K C (q :: S) A2 H2 accV acc ∧ compZ zg zt ze (wipeZ Γ vs) (asCell P) (items.drop i) acc Δ2)
    ⟨A1, Δ1, [], [], Ext.new hq, mo0, cells0, upd_same, .nil, p⟩ (fun i H2 _ ⟨A2, Δ2, acc, accV, _, m, _⟩ => hG _ A2 H2 m) ?_ ?_
  · rintro i x H2 H3 hi2 ⟨A2, Δ2, acc, accV, e2, m2, c2, hqv, hacc, hp⟩ y
    obtain ⟨d, q1, q2, q3⟩ := hY _ A2 H2 Δ2 i x H3 hi2 m2 c2 y
    have hd : items.drop i = d :: items.drop (i + 1) := by
      obtain ⟨hl, q⟩ := List.getElem?_eq_some_iff.mp q1
      rw [← q]
      exact List.drop_eq_getElem_cons hl
    rw [hd] at hp
    have e3 : Ext A2 H2 A2 H3 := Ext.kept q2
    have s3 : Slots K C (q :: S) A2 H3 (wipe σ vs) (wipeZ Γ vs) := ((s1.mono m2).ext e3).wipe vs
    have fin : g x (wipe σ vs) H3 fun σ2 H4 => wipe σ2 vs = wipe (wipe σ vs) vs ∧ tt σ2 H4 fun b H5 =>
        if b = true then te σ2 H5 fun y H6 => ∃ acc, H6 q = some (.lst acc) ∧ acc.length < sizeLine ∧ ∃ A2 Δ2 acc' accV, Ext A1 H1 A2 (upd H6 q (.lst (acc ++ [y]))) ∧ Mo S A1 H1 (q :: S) A2 (upd H6 q (.lst (acc ++ [y]))) ∧ Cells K C (q :: S) A2 (upd H6 q (.lst (acc ++ [y]))) Δ2 ∧
          (upd H6 q (.lst (acc ++ [y]))) q = some (.lst accV) ∧ RepL K C (q :: S) A2 (upd H6 q (.lst (acc ++ [y]))) accV acc' ∧ compZ zg zt ze (wipeZ Γ vs) (asCell P) (items.drop (i + 1)) acc' Δ2
        else ∃ A2 Δ2 acc accV, Ext A1 H1 A2 H5 ∧ Mo S A1 H1 (q :: S) A2 H5 ∧ Cells K C (q :: S) A2 H5 Δ2 ∧ H5 q = some (.lst accV) ∧ RepL K C (q :: S) A2 H5 accV acc ∧ compZ zg zt ze (wipeZ Γ vs) (asCell P) (items.drop (i + 1)) acc Δ2 := by
      refine ho _ _ _ _ (hg (q :: S) A2 (wipe σ vs) H3 (wipeZ Γ vs) Δ2 x d _ _ s3 (c2.kept q2) q3 hp fun σ4 A4 H4 Γ4 Δ4 e4 s4 c4 p4 => ?_)
      refine ht (q :: S) A4 σ4 H4 Γ4 Δ4 _ _ s4 c4 p4 fun b A5 H5 Δ5 e5 c5 p5 => ?_
      have e25 := (e3.trans e4).trans e5
      have e15 := e2.trans e25
      have hq2 : q ∉ A2 := fun h => c2.dj q h List.mem_cons_self
      have hq5 : H5 q = some (.lst accV) := e25.keep q _ hq2 hqv
      have m5 : Mo S A1 H1 (q :: S) A5 H5 := ⟨e15.pre, m2.sub, fun a o h1 _ h3 => e15.keep a o h1 h3⟩
      cases b with
      | false => exact iteF ⟨A5, Δ5, acc, accV, e15, m5, c5, hq5, hacc.ext e25, p5.2 rfl⟩
      | true =>
        refine iteT (he (q :: S) A5 σ4 H5 Γ4 Δ5 _ _ (s4.ext e5) c5 (p5.1 rfl) fun y dy A6 H6 Δ6 e6 c6 r6 p6 => ?_)
        have e16 := e15.trans e6
        have hq5' : q ∉ A5 := fun h => c5.dj q h List.mem_cons_self
        have hq6' : q ∉ A6 := fun h => c6.dj q h List.mem_cons_self
        have hq6 : H6 q = some (.lst accV) := e6.keep q _ hq5' hq5
        have hacc6 := (hacc.ext e25).ext e6
        have mo7 : Mo (q :: S) A6 H6 (q :: S) A6 (upd H6 q (.lst (accV ++ [y]))) := ⟨⟨[], by simp, by simp⟩, fun _ h => .inl h, fun a o _ h2 h3 => by
          rw [upd_ne (fun h => h2 (by rw [h]; exact List.mem_cons_self))]; exact h3⟩
        have nq : ∀ a o, H1 a = some o → a ≠ q := fun a o h => ne_of_none h hq
        refine ⟨accV, hq6, lt_line (by rw [hacc6.length]; exact p6.1), A6, Δ6, acc ++ [dy], accV ++ [y], ?_, ?_, ?_, upd_same, ?_, p6.2⟩
        · exact ⟨e16.pre, fun a o h1 h2 => by rw [upd_ne (nq a o h2)]; exact e16.keep a o h1 h2, fun a h => by
            by_cases hb : a = q
            · subst hb; exact hq
            · rw [upd_ne hb] at h; exact e16.trk a h⟩
        · exact ⟨e16.pre, m2.sub, fun a o h1 _ h3 => by rw [upd_ne (nq a o h3)]; exact e16.keep a o h1 h3⟩
        · refine ⟨c6.len, c6.nd, c6.dj, fun a ha h => ?_, fun n a o h1 h2 => (c6.at_ n a o h1 h2).mono mo7 fun u h => ?_⟩
          · by_cases hb : a = q
            · subst hb; rw [upd_same] at h; cases h
            · rw [upd_ne hb] at h; exact c6.as a ha h
          · rw [upd_ne (fun hb => hq6' (by rw [← hb]; exact List.mem_of_getElem? h1))]; exact h
        · exact (RepL.append hacc6 (.cons r6 .nil)).mono mo7 _
    rw [wipe_wipe] at fin
    exact fin
  · rintro H2 ⟨A2, Δ2, acc, accV, e2, m2, c2, hqv, hacc, hp⟩
    rw [hn, List.drop_length] at hp
    obtain ⟨es, e9, hp⟩ := hp
    cases e9
    have hq2 : q ∉ A2 := fun h => c2.dj q h List.mem_cons_self
    exact k _ _ (A2 ++ [q]) H2 (Δ2 ++ [.lst acc]) (Ext.cellIn (e1.trans e2) (e1.trk q hq) hq2) (Cells.unset (o := .lst acc) c2 (c1.aside hq) ⟨accV, hqv, hacc.unaside hq2 (c1.aside hq)⟩) (.cell (by rw [← c2.len, List.getElem?_append_right (Nat.le_refl _), Nat.sub_self] <;> rfl)) hp
section
variable {C : CI} {X : Cx}
theorem ez_lcC {elt tg iter : Expr} {ifs : List Expr} {scope : Scope} {own : List (Str × Nat)} {pos : Pos} {zi : ZI} {g : TG} {zg : ZG} {zt : ZT} {ze : ZE} (hN : X.N.Nodup) (hi : IZ C X tg iter zi) (ok : BlkOk X.N X.env.scope scope own) (ho : Own g (own.map (·.2))) (hb : BlkZ C X scope tg ifs elt g zg zt ze)
    (hc : X.calm = true := by rfl) (hs : ∀ x, foldedSetIterable iter X.env x = pure x := by intro _; rfl) : EZ C X (.ListComp elt [⟨tg, iter, ifs, 0⟩] scope pos) (zLcC zi zg zt ze (own.map (·.2))) := by
  obtain ⟨wi, i1, i2⟩ := hi.ex; obtain ⟨tt, te, b1, b2, b3, b4⟩ := hb.ex
  exact ⟨_, pe_lc hc hN i1 ok (fun s H Ca cl fp => (b1 s H Ca cl fp).1) (fun s H Ca cl fp => (b1 s H Ca cl fp).2.1) (fun s H Ca cl fp => (b1 s H Ca cl fp).2.2) hs, ref_lcC i2 b2 ho b3 b4⟩
end
end Z

/-! Z13: an expression or a test that is lent the cells' contents: what it makes is forgotten, but for a value of tuples and what stands nowhere. -/
namespace Z
open PySem PySem.Spec PyProof.Rows L2
mutual
def bareT : D → Bool
  | .non | .bl _ | .int _ | .str _ => true
  | .tup ds => bareTs ds
  | _ => false
def bareTs : List D → Bool
  | [] => true
  | d :: ds => bareT d && bareTs ds
end
section
variable {K : PySem.W.Frag} {C : CI} {S A : List Addr} {H : Hp} {Δ : Store}
theorem Cells.no_tup (c : Cells K C S A H Δ) {a : Addr} {xs : List V} (h : H a = some (.tup xs)) : a ∉ A := fun hm => by
  obtain ⟨n, hn⟩ := List.mem_iff_getElem?.mp hm
  have hl : n < Δ.length := by rw [← c.len]; exact (List.getElem?_eq_some_iff.mp hn).1
  have q := c.at_ n a _ hn (List.getElem?_eq_getElem hl)
  cases e : Δ[n] with
  | lst ds => rw [e] at q; obtain ⟨xs, g, _⟩ := q; rw [h] at g; cases g
  | ins k fs => rw [e] at q; obtain ⟨dx, xs, g, _⟩ := q; rw [h] at g; cases g
  | dct ks ds => rw [e] at q; obtain ⟨xs, g, _⟩ := q; rw [h] at g; cases g
mutual
theorem Rep.of_bareT {A' : List Addr} (c : Cells K C S A H Δ) : ∀ (d : D) {v : V}, bareT d = true → Rep K C S A' H v d → Rep K C S A H v d
  | .non, _, _, h => by cases h; exact .non
  | .bl b, _, _, h => by cases h; exact .bl b
  | .int i, _, _, h => by cases h; exact .int i
  | .str x, _, _, h => by cases h; exact .str x
  | .tup ds, _, hb, h => by cases h with | tup h1 hA hS r => exact .tup h1 (c.no_tup h1) hS (RepL.of_bareT c ds hb r)
  | .ty _, _, hb, _ => by cases hb
  | .cls _, _, hb, _ => by cases hb
  | .lst _, _, hb, _ => by cases hb
  | .ins _ _, _, hb, _ => by cases hb
  | .dct _ _, _, hb, _ => by cases hb
  | .cell _, _, hb, _ => by cases hb
  | .scr _, _, hb, _ => by cases hb
  | .ktup _, _, hb, _ => by cases hb
  | .exc _, _, hb, _ => by cases hb
theorem RepL.of_bareT {A' : List Addr} (c : Cells K C S A H Δ) : ∀ (ds : List D) {vs : List V}, bareTs ds = true → RepL K C S A' H vs ds → RepL K C S A H vs ds
  | [], _, _, h => by cases h; exact .nil
  | d :: ds, _, hb, h => by
    have hb' : (bareT d && bareTs ds) = true := hb
    rw [Bool.and_eq_true] at hb'
    cases h with
    | cons h r => exact .cons (Rep.of_bareT c d hb'.1 h) (RepL.of_bareT c ds hb'.2 r)
end
/-- slots that are lent: a cell's content, where no other cell stands in it -/
def lent1 (Δ : Store) : Option D → Option D
  | some d => if Z.below 0 (Z.thaw Δ d) = true then some (Z.thaw Δ d) else none
  | none => none
theorem Slots.lent {σ : L2.St} {Γ : Env} (c : Cells K C S A H Δ) (s : Slots K C S A H σ Γ) : Slots K C S [] H σ (Γ.map (lent1 Δ)) := by
  refine ⟨by rw [List.length_map]; exact s.len, fun i d h => ?_⟩
  rw [List.getElem?_map] at h
  cases e : Γ[i]? with
  | none => rw [e] at h; cases h
  | some o =>
    cases o with
    | none => rw [e] at h; cases h
    | some d0 =>
      rw [e] at h
      have h : lent1 Δ (some d0) = some d := by simpa using h
      unfold lent1 at h
      by_cases hb : Z.below 0 (Z.thaw Δ d0) = true
      · simp only [hb, if_true] at h
        cases h
        obtain ⟨v, h1, h2⟩ := s.at_ i d0 e
        exact ⟨v, h1, Rep.thw c d0 hb h2⟩
      · simp only [if_neg hb] at h; cases h
end
def zLend (z : ZE) : ZE := fun Γ Δ P => z (Γ.map (lent1 Δ)) [] fun d _ => bareT d = true ∧ P d Δ
def zLendT (z : ZT) : ZT := fun Γ Δ P => z (Γ.map (lent1 Δ)) [] fun b _ => P b Δ
section
variable {K : PySem.W.Frag} {C : CI} {X : Cx} {e : Expr} {ze : ZE} {zt : ZT}
theorem ref_lend {te : TE} (h : RefE K C te ze) : RefE K C te (zLend ze) := fun S A σ H Γ Δ P Q hs hc hz k =>
  h S [] σ H _ [] _ Q (Slots.lent hc hs) ⟨rfl, .nil, (fun a ha => nomatch ha), hc.as, (fun n a o h => nomatch h)⟩ hz fun v d A' H' Δ' e2 c2 r2 p2 => by
    have kp : ∀ a o, H a = some o → H' a = some o := fun a o h => e2.keep a o (fun q => nomatch q) h
    exact k v d A H' Δ (Ext.kept kp) (hc.kept kp) (Rep.of_bareT (hc.kept kp) d p2.1 r2) p2.2
theorem ref_lendT {tt : TT} (h : RefT K C tt zt) : RefT K C tt (zLendT zt) := fun S A σ H Γ Δ P Q hs hc hz k =>
  h S [] σ H _ [] _ Q (Slots.lent hc hs) ⟨rfl, .nil, (fun a ha => nomatch ha), hc.as, (fun n a o h => nomatch h)⟩ hz fun b A' H' Δ' e2 c2 p2 => by
    have kp : ∀ a o, H a = some o → H' a = some o := fun a o h => e2.keep a o (fun q => nomatch q) h
    exact k b A H' Δ (Ext.kept kp) (hc.kept kp) p2
theorem ez_lend (h : EZ C X e ze) : EZ C X e (zLend ze) := by
  obtain ⟨t, h1, h2⟩ := h.ex
  exact ⟨t, h1, ref_lend h2⟩
theorem tz_lend (h : TZ C X e zt) : TZ C X e (zLendT zt) := by
  obtain ⟨t, h1, h2⟩ := h.ex
  exact ⟨t, h1, ref_lendT h2⟩
theorem frD_bare {p q : Int} : bareT (.tup [.int p, .int q]) = true := rfl
end
/-! ### sorted of a list of ints; a list given to names -/
section
variable {C : CI} {X : Cx} {pos : Pos}
def zSortI : ZRC := fun ds Δ P => ∃ (d : D) (ns : List Int), ds = [d] ∧ lstD Δ d = some (ns.map D.int) ∧ ∀ ys : List Int, ys.Perm ns → ys.Pairwise (· ≤ ·) → P (.lst (ys.map D.int)) Δ
theorem cz_sortI : CallZ C X (.builtin "sorted") zSortI := ⟨_, cr_sortedI, fun S A H Δ xs ds P Q hc r hz k => by
  obtain ⟨d, ns, rfl, hd, q⟩ := hz
  obtain ⟨v, rfl, rv⟩ := one_rep r
  obtain ⟨pa, ys, rfl, hq, rr⟩ := Rep.lst_ hc rv hd
  obtain rfl := repL_int rr
  refine ⟨pa, ns, rfl, SqL.of hq, fun zs p h1 h2 hp => ?_⟩
  exact k _ _ A _ Δ (Ext.new hp) (hc.kept fun a o h => by rw [upd_ne (ne_of_none h hp)]; exact h) (.lst upd_same (hc.fresh hp) (hc.aside hp) (repL_ints zs)) (q zs h1 h2)⟩
def zgLst (n : Nat) (gs : ZGs) : ZG := fun d Γ Δ P => ∃ ds, d = .lst ds ∧ ds.length = n ∧ gs ds Γ Δ P
theorem gz_lst {es : List Expr} {k : Nat} {gs : TGs} {zs : ZGs} {n : Nat} (h : GsZ C X es gs zs) (hc : X.calm = true := by rfl) (hn : (assignEach es X.env).length = n := by rfl) (hst : (assignEach es X.env).findIdx? (·.1) = none := by rfl) : GZ C X (.Tuple es k pos) (gLst X.K n gs) (zgLst n zs) :=
  ⟨pg_lst hc h.pg hn hst, fun S A σ H Γ Δ v d P Q hs hc r hz k => by
    obtain ⟨ds, rfl, hl, p⟩ := hz
    cases r with
    | lst h1 h2 h3 r => exact ⟨_, _, rfl, SqL.of h1, by rw [r.length]; exact hl, h.ref S A σ H Γ Δ _ ds P Q hs hc r p k⟩⟩
end
end Z

/-! Z14: enumerate over a tuple. -/
namespace Z
open PySem PySem.Spec PyProof.Rows L2
open Sem (wp)
open AutoSeq1 (wpAny_loadPart')
/-- the heap with the two records that stand for enumerate over the tuple at t -/
def enT1 (h : Heap) (t : Addr) : Heap := h.push { cls := .type "tuple_iterator", data := .fields #[.ref t, .int 0 0] }
def enT2 (h : Heap) (t : Addr) : Heap := (enT1 h t).push { cls := .type "enumerate", data := .fields #[.none, .bool false, .ref h.objs.size, rawInt 0, .none, .none] }
theorem newEnT (t : Addr) (us : Array Value) (m : Nat) (dd : Option Addr) (sl : Array (Option Value)) :
    Meets (Builtin.«enumerate.__new__» ⟨[.type "enumerate", .ref t], []⟩) fun _ R z =>
      z.heap.get? t = some { cls := .type "tuple", dict := dd, data := .seq us m, slots := sl } ∧ R (.ok (.ret (.ref (enT1 z.heap t).objs.size))) { z with heap := enT2 z.heap t } :=
  .of_wp fun prog w A R z hz => by
    obtain ⟨h1, g1, d1, t1, o1⟩ := z
    obtain ⟨ht, hR⟩ := hz
    have su := sub_enumerate
    have isT : Heap.IsTuple (Shared.heap ⟨h1, g1, d1, t1, o1⟩) t us := ⟨_, ht, rfl, m, rfl⟩
    wp_walk using wpAny_loadPart' ht
    refine wpAny_stack_any fun _ => wpAny_pure ?_
    split <;> first
      | (rename_i kl _ _ _ _ _; cases (kl == Value.type "enumerate") <;> (wp_walk using wpAny_loadPart' ht, wpAny_pyIter_tuple isT; exact ⟨_, rfl, hR⟩))
      | (wp_walk using wpAny_loadPart' ht, wpAny_pyIter_tuple isT; exact ⟨_, rfl, hR⟩)
theorem enT_get (h : Heap) (t : Addr) : IsEnum (enT2 h t) (h.objs.size + 1) h.objs.size 0 .none ∧ (enT2 h t).IsTupleIter h.objs.size t 0 ∧ ∀ b o, h.get? b = some o → (enT2 h t).get? b = some o := by
  have z1 : (enT1 h t).objs.size = h.objs.size + 1 := Heap.size_push ..
  refine ⟨?_, ⟨_, Heap.get?_push_of_some _ (Heap.get?_push_size _ rfl), rfl, rfl⟩, fun b o e => Heap.get?_push_of_some _ (Heap.get?_push_of_some _ e)⟩
  have := Heap.get?_push_size (enT1 h t) (o := { cls := .type "enumerate", data := .fields #[.none, .bool false, .ref h.objs.size, rawInt 0, .none, .none] }) rfl
  rw [z1] at this
  exact this
section
variable {prog : Program} {w : World} {A : Around} {E : Value → Shared → Prop} {z : Shared}
theorem callEnT {t : Addr} {us : Array Value} {Q : Value → Shared → Prop} (ht : z.heap.IsTuple t us) (k : Q (.ref (z.heap.objs.size + 1)) { z with heap := enT2 z.heap t }) : wpAny (model prog w) A (call (.type "enumerate") [.ref t]) Q E z := by
  obtain ⟨⟨c, dd, dt, sl⟩, hl, hc, m, hd⟩ := ht
  obtain rfl : c = .type "tuple" := hc
  obtain rfl : dt = .seq us m := hd
  have z1 : (enT1 z.heap t).objs.size = z.heap.objs.size + 1 := Heap.size_push ..
  refine callType_new F.called_enumerate (by decide) (F.typeCall_enumerate_1 _) (F.newCall_enumerate_1 _) (fun ob => F.args_object_init_2 ob _) F.entry_enumerate_new (newEnT t us m dd sl) ⟨hl, ?_⟩
  show _ ∧ _
  rw [z1]
  exact ⟨⟨_, (enT_get z.heap t).1, rfl⟩, k⟩
end
/-- the pairs of the tuple at a -/
def IteT (K : PySem.W.Frag) (a : Addr) : It :=
  ⟨fun i H => ∃ us : List V, ∃ x : V, SqT K H a us ∧ us[i]? = some x,
   fun i H v H' => ∃ T x, v = .ref T ∧ H T = none ∧ H' = upd H T (.tup [.int (i : Nat), x]) ∧ ∀ us, SqT K H a us → us[i]? = some x,
   fun i H => ∃ us : List V, SqT K H a us ∧ i = us.length⟩
theorem turnEnT {P : Program} {w : World} {K : PySem.W.Frag} {elts : List Expr} {kk : Nat} {tpos : Pos} (a e it : Addr) :
    Turn P w K (.Tuple elts kk tpos) (IteT K a) [e, it] e (fun i h => (∃ u, IsEnum h e it ((i : Nat) : Int) u) ∧ h.IsTupleIter it a i ∧ e ≠ it ∧ a ≠ it ∧ e ≠ a) where
  mem := List.mem_cons_self
  obj := fun i h ⟨⟨u, he⟩, ⟨o, ho, _, hd⟩, _⟩ b hb => by
    rcases List.mem_cons.mp hb with z | z
    · rw [z]
      exact ⟨_, he, fun _ q => Data.noConfusion q⟩
    · rw [List.mem_singleton] at z
      exact ⟨o, by rw [z]; exact ho, fun v q => by rw [hd] at q; cases q⟩
  keep := fun i h h' ⟨⟨u, he⟩, hi, hne⟩ k => ⟨⟨u, k e List.mem_cons_self _ he⟩, hi.at fun o q => k it (List.mem_cons_of_mem _ List.mem_cons_self) o q, hne⟩
  item := by
    intro X hP hw hK hc i pins s σ H E I hf st hg
    subst hP hw hK
    obtain ⟨⟨u0, he⟩, hit, hne, hai, hea⟩ := st
    obtain ⟨us, x, hq, hx⟩ := hg
    obtain ⟨its, rv, pt, _⟩ := I.tuple hq
    obtain ⟨u, hu, ru⟩ := rv.get hx
    have le : e < s.heap.objs.size := Heap.lt_size he
    have li : it < s.heap.objs.size := Heap.lt_size hit.choose_spec.1
    have ex : its.toArray[i]? = some u := by simpa using hu
    have il : i < its.toArray.size := by
      obtain ⟨q, _⟩ := Array.getElem?_eq_some_iff.mp ex
      exact q
    have D := Draws.tuple (prog := X.prog) (w := X.w) (A := X.A.in1) (show X.A.in1.handled = none from I.ok.hd hc) it a hai its.toArray
    refine wpAny_pyNext_enum_itemD D he ⟨hit, pt⟩ il hne (by simp [hne, hea]) fun y h1 tk hy out st1 gT _ kp => ?_
    obtain rfl : y = u := by
      have hy : its.toArray[i]? = some y := hy
      rw [ex] at hy
      exact (Option.some.inj hy).symm
    refine ⟨_, rfl, wpAny_letOwnedTupleGo_enum (s := { s with heap := h1, toks := tk + 1 }) out fun h2 he2 sb => ?_⟩
    have gT2 : h2.get? s.heap.objs.size = some { cls := .type "tuple", data := .seq #[.int i tk, y] } := by rw [sb.2 _ (Nat.ne_of_gt le)]; exact gT
    have pr : ObjOk X.prog X.w (upd H s.heap.objs.size (.tup [.int (i : Nat), x])) h2 s.heap.objs.size (.tup [.int (i : Nat), x]) := by
      refine ⟨?_, [.int i tk, y], .cons ⟨_, rfl⟩ (.cons ru .nil), _, gT2, rfl, _, rfl⟩
      show 2 ≤ sizeLine
      decide
    have J : Inv X pins σ (upd H s.heap.objs.size (.tup [.int (i : Nat), x])) { s with heap := h2, toks := tk + 1 } := by
      refine I.turnedNew (ch := [e, it]) (fun b ob hb q => ?_) hf (Nat.le_refl _) pr
      have nb : b ≠ e ∧ b ≠ it := ⟨fun y => hb (by simp [y]), fun y => hb (by simp [y])⟩
      rw [sb.2 b nb.1]
      exact kp b ob nb.1 nb.2 q
    refine ⟨.ref s.heap.objs.size, _, J, rfl, ⟨_, x, rfl, I.hok.fresh (Nat.le_refl _), rfl, fun vs hv => ?_⟩, ⟨⟨y, ?_⟩, ?_, hne, hai, hea⟩, fun b hb => ?_⟩
    · rw [I.tuple_inj hv hq]
      exact hx
    · rw [show ((i + 1 : Nat) : Int) = (i : Int) + 1 by omega]
      exact he2
    · exact st1.1.at fun o q => by rw [sb.2 it (Ne.symm hne)]; exact q
    · have lb : b < s.heap.objs.size := by
        rcases List.mem_cons.mp hb with z | z
        · rw [z]; exact le
        · rw [List.mem_singleton.mp z]; exact li
      rw [upd_ne (Nat.ne_of_lt lb)]
      exact (hf b hb).1
  done := by
    intro X hP hw hK hc i pins s σ H E I hf st hg
    subst hP hw hK
    obtain ⟨⟨u0, he⟩, hit, hne, hai, hea⟩ := st
    obtain ⟨us, hq, hx⟩ := hg
    obtain ⟨its, rv, pt, _⟩ := I.tuple hq
    obtain ⟨f0, f1, f2, f3, f4, f5⟩ := hf it (by simp)
    obtain rfl : i = its.toArray.size := by
      rw [hx, rv.length]
      simp
    have D := Draws.tuple (prog := X.prog) (w := X.w) (A := X.A.in1) (show X.A.in1.handled = none from I.ok.hd hc) it a hai its.toArray
    refine wpAny_pyNext_enum_endD D he ⟨hit, pt⟩ fun h1 eb => ⟨rfl, ?_⟩
    exact I.turned (t' := s.toks) (fun b o nb q => eb b o nb q) f0 f1 f3 f4 f5
  self := fun A i s Q E st h => wpAny_pyIter_enum st.1.choose_spec h
def iEnT (K : PySem.W.Frag) (ta : TA) : TI := fun σ H R => ta σ H fun vs H1 => ∃ (a : Addr) (us : List V), vs = [.ref a] ∧ SqT K H1 a us ∧ R (IteT K a) H1
theorem piEnT {X : Cx} {e : Expr} {ta : TA} {p pos tpos : Pos} {elts : List Expr} {kk : Nat} (hg : Gl X "enumerate") (hm : X.mg "enumerate" = none) (ha : PA X [e] ta) (hs : starEach [e] X.env = [(false, eval e X.env)] := by rfl) : PI X (.Tuple elts kk tpos) (.Call (.Name "enumerate" p) [e] [] pos) (iEnT X.K ta) := by
  refine ⟨fun pins z σ H R I h => Call_ (ld_blt I hg hm boot_enumerate (PyProof.Rows.callWith_type1 (thn (ha.run pos pins z σ H _ I h) fun us z1 ⟨vs, H1, J, r1, q1⟩ => ?_) hs rfl))⟩
  obtain ⟨a, xs, rfl, hq, q⟩ := q1
  cases r1 with
  | cons r rr =>
    cases rr
    cases r
    obtain ⟨its, rv, pt, _⟩ := J.tuple hq
    obtain ⟨g1, g2, g3⟩ := enT_get z1.heap a
    have la : a < z1.heap.objs.size := Heap.lt_size pt.choose_spec.1
    refine callEnT pt (wpAny_pyIter_enum g1 ?_)
    have J2 : Inv X pins σ H1 { z1 with heap := enT2 z1.heap a } := J.kept (t' := z1.toks) g3
    refine ⟨z1.heap.objs.size + 1, [z1.heap.objs.size + 1, z1.heap.objs.size], _, _, H1, rfl, J2, turnEnT a (z1.heap.objs.size + 1) z1.heap.objs.size, ⟨⟨.none, g1⟩, g2, Nat.succ_ne_self _, Nat.ne_of_lt la, Nat.ne_of_gt (Nat.lt_succ_of_lt la)⟩, fun b hb => ?_, q⟩
    have hle : z1.heap.objs.size ≤ b := by
      rcases List.mem_cons.mp hb with y | y
      · rw [y]
        exact Nat.le_add_right _ _
      · rw [List.mem_singleton.mp y]
        exact Nat.le_refl _
    exact J.fpOk hle (J.hok.fresh hle)
theorem walkEnT {K : PySem.W.Frag} {a : Addr} {us : List V} : Walk (IteT K a) us.length (fun H => SqT K H a us) (YPair (fun i => some (.int (i : Nat))) (fun i => us[i]?)) :=
  ⟨fun i _ hi q => ⟨us, us[i], q, by simp [hi]⟩, fun _ q => ⟨us, q, rfl⟩, fun i H v H' _ q ⟨T, x, h1, h2, h3, h4⟩ => ⟨T, .int (i : Nat), x, h1, h2, h3, rfl, h4 us q⟩⟩
section
variable {C : CI} {X : Cx} {za : ZA} {p pos : Pos}
def ziEnumT (za : ZA) : ZI := fun Γ Δ P => za Γ Δ fun ds Δ1 => ∃ xs, ds = [.tup xs] ∧ P (enumD xs) Δ1
theorem iz_enumT {e : Expr} {tpos : Pos} {elts : List Expr} {kk : Nat} (ha : AZ C X [e] za) (hm : X.mg "enumerate" = none) (hg : Gl X "enumerate" := by rfl) (hs : starEach [e] X.env = [(false, eval e X.env)] := by rfl) : IZ C X (.Tuple elts kk tpos) (.Call (.Name "enumerate" p) [e] [] pos) (ziEnumT za) := by
  obtain ⟨t, a1, a2⟩ := ha.ex
  refine ⟨_, piEnT hg hm a1 hs, fun S A σ H Γ Δ P R hs hc hz k => a2 S A σ H Γ Δ _ _ hs hc hz fun vs ds A1 H1 Δ1 e1 c1 r1 q => ?_⟩
  obtain ⟨xs, rfl, q⟩ := q
  obtain ⟨v, rfl, rv⟩ := one_rep r1
  cases rv with
  | tup g1 g2 g3 g4 =>
    rename_i a us
    refine ⟨a, us, rfl, SqT.of g1, ?_⟩
    refine k (IteT X.K a) us.length _ _ _ A1 H1 Δ1 e1 c1 q (by unfold enumD; rw [List.length_map, List.length_zipIdx, g4.length]) walkEnT (fun S2 A2 H2 m => SqT.of (m.keep _ _ g2 g3 g1)) fun S2 A2 H2 Δ2 i x H3 hi m c2 y => ?_
    obtain ⟨T, y1, y2, rfl, nT, rfl, f1, f2⟩ := y
    cases f1
    obtain ⟨d2, q3, q4⟩ := (RepL.mono m _ g4).getV f2
    refine ⟨.tup [.int (i : Nat), d2], ?_, fun b o h => by rw [upd_ne (ne_of_none h nT)]; exact h, .tup upd_same (c2.fresh nT) (c2.aside nT) (.cons (.int _) (.cons (q4.ext (Ext.new nT)) .nil))⟩
    unfold enumD
    rw [List.getElem?_map, List.getElem?_zipIdx, q3]
    simp
end
end Z

/-! Z15: sorted(set(..)) of a list of ints. -/
namespace Z
open PySem PySem.Spec PyProof.Rows L2
/-- the set that is made first, and the heap with it -/
def emS (w : World) : Obj := { cls := .type "set", dict := none, data := .set #[] 0 (.fresh 0 0 (!w.params.followText "set-order")) }
def emH (w : World) (h : Heap) : Heap := h.push (emS w)
section
variable {P : Program} {w : World} {A : Around} {E : Value → Shared → Prop} {s : Shared}
theorem setOfL {l : Addr} {us : Array Value} (ns : List Int) {Q : Value → Shared → Prop} (hh : A.handled = none) (hl : s.heap.IsList l us) (iu : IntsAre us.toList ns) (few : ns.length + 1 < scanBound)
    (k : ∀ (h' : Heap) (t c : Nat), SetR w h' s.heap.objs.size (fun j => decide (j ∈ ns)) c → c ≤ ns.length → (∀ b o, s.heap.get? b = some o → h'.get? b = some o) → Q (.ref s.heap.objs.size) { s with heap := h', toks := t }) : wpAny (model P w) A (call (.type "set") [.ref l]) Q E s := by
  have usz : us.size = ns.length := by rw [← IntsAre.length iu, Array.length_toList]
  obtain ⟨cc, tt, mr⟩ := F.called_set.mro
  have md := F.called_set.made
  have sb := F.called_set.sub
  refine wpAny_call (codeAny_of_tree (show wpAny _ _ (callAny (.type "set") _) _ _ _ from ?_))
  refine wpAny_pure ⟨Code.quiet_builtin _ (by decide +kernel), codeAny_builtin F.entry_type_call ?_⟩
  rw [Around.under_plain (weight_type_call_type "set" [.ref l] []) rfl]
  have y1 := F.called_set.notType
  have y2 := F.called_set.canCreate
  have y3 := F.typeCall_set_1 (.ref l)
  repeat (any_goals first | assumption | wp_step)
  refine codeAny_mono (code_set_led1 (.ref l) (E := E) (Q₁ := fun ob z => ob = .ref s.heap.objs.size ∧ z = { s with heap := emH w s.heap }) ⟨rfl, rfl⟩) fun r z hr => ?_
  rcases r with e | fl
  · exact hr
  cases fl with
  | ret ob =>
    obtain ⟨rfl, rfl⟩ := hr
    have gS : (emH w s.heap).get? s.heap.objs.size = some (emS w) := Heap.get?_push_size _ rfl
    have tS : Shared.TypeIs { s with heap := emH w s.heap } (.ref s.heap.objs.size) "set" := ⟨_, gS, rfl⟩
    have y4 := F.called_set.init.lookup
    have y5 := F.called_set.init.bind (.ref s.heap.objs.size)
    repeat (any_goals first | assumption | wp_step)
    refine codeAny_mono (codeAny_call_builtin (R := wants (fun r z => r = .none ∧ ∃ h' t c, z = { s with heap := h', toks := t } ∧ SetR w h' s.heap.objs.size (fun j => decide (j ∈ ns)) c ∧ c ≤ ns.length ∧ ∀ b o, s.heap.get? b = some o → h'.get? b = some o) E) F.called_set.init.plain F.entry_set_init (check_set_init_1 tS ?_)) fun r2 z2 hr2 => ?_
    · obtain ⟨⟨kl, dd, dt, sl⟩, gl, hkl, m, hd⟩ := hl
      obtain rfl : kl = .type "list" := hkl
      obtain rfl : dt = .seq us m := hd
      have gl2 : (emH w s.heap).get? l = some { cls := .type "list", dict := dd, data := .seq us m, slots := sl } := Heap.get?_push_of_some _ gl
      have n1 := F.sub_list_set
      have n2 := F.sub_list_frozenset
      have n3 : (Value.type "list" == Value.type "dict") = false := by decide
      have isL : (emH w s.heap).IsList l us := ⟨_, gl2, rfl, m, rfl⟩
      unfold Builtin.«set.__init__» noKeywords Builtin.Frozenset.updateFrom
      generalize hp : pyIter = pI
      wp_walk
      subst hp
      refine wpAny_pyIter_list isL (wpAny_bind (wpAny_runValue ?_))
      have ll : l < s.heap.objs.size := Heap.lt_size gl
      have h3 : A.in1.in1.in1.handled = none := hh
      have z1 : (emH w s.heap).objs.size = s.heap.objs.size + 1 := Heap.size_push ..
      have nI : l ≠ (emH w s.heap).objs.size := by
        rw [z1]
        exact Nat.ne_of_lt (Nat.lt_succ_of_lt ll)
      have nf : s.heap.objs.size ∉ [(emH w s.heap).objs.size, l] := by
        rw [z1]
        intro y
        rcases List.mem_cons.mp y with y | y
        · exact Nat.ne_of_lt (Nat.lt_succ_self _) y
        · exact Nat.ne_of_gt ll (List.mem_singleton.mp y)
      have vs : ∀ (i : Nat) (v : Value), us[i]? = some v → ∃ j t, ns[i]? = some j ∧ v = .int j t := fun i v hv => by
        have hi : i < ns.length := by
          rw [← usz]
          exact (Array.getElem?_eq_some_iff.mp hv).1
        obtain ⟨t, e⟩ := PyProof.Rows.IntsAre.int_at iu i v (by rw [Array.getElem?_toList]; exact hv)
        refine ⟨ns[i], t, List.getElem?_eq_getElem hi, e.trans ?_⟩
        rw [List.getD_eq_getElem?_getD, List.getElem?_eq_getElem hi] <;> rfl
      refine set_update_ints ((Walks.list h3 _ l nI us).toS) s.heap.objs.size nf ns usz few vs (us.size - 0) 0 _ (by omega) (Nat.zero_le _) ⟨⟨_, Heap.get?_push_size _ rfl, rfl, rfl⟩, isL.push _⟩ ?g0 ?g1
      case g0 => exact ⟨0, Nat.le_refl 0, setR_new_at (Heap.get?_push_of_some _ gS)⟩
      case g1 =>
        intro z c mv hc hS
        obtain ⟨h', g', d', t', o'⟩ := z
        obtain rfl : g' = s.gens := mv.gens
        obtain rfl : d' = s.drawn := mv.drawn
        obtain rfl : o' = s.os := mv.os
        rw [usz] at hc
        refine wpAny_pure (wpAny_pure ⟨rfl, h', t', c, rfl, hS, hc, fun b o e => ?_⟩)
        have lb : b < s.heap.objs.size := Heap.lt_size e
        refine mv.heap b o (fun y => ?_) (Heap.get?_push_of_some _ (Heap.get?_push_of_some _ e))
        rcases List.mem_cons.mp y with y | y
        · exact Nat.ne_of_lt lb y
        · have y := List.mem_singleton.mp y
          rw [show (emH w s.heap).objs.size = s.heap.objs.size + 1 from z1] at y
          exact Nat.ne_of_lt (Nat.lt_succ_of_lt lb) y
    · rcases r2 with e | fl2
      · exact hr2
      cases fl2 with
      | ret r =>
        obtain ⟨rfl, h', t, c, rfl, hS, hc, hk⟩ := hr2
        repeat (any_goals first | assumption | wp_step)
        exact k _ _ _ hS hc hk
      | _ => exact hr2.elim
  | _ => exact hr.elim
end
end Z

namespace Z
open PySem PySem.Spec PyProof.Rows L2
def rSetL (K : PySem.W.Frag) (w : World) : List V → Hp → VK → Prop := fun xs H Q => ∃ (l : Addr) (ns : List Int), xs = [.ref l] ∧ SqL K H l (ns.map V.int) ∧ ns.length + 1 < scanBound ∧ ∀ a c, H a = none → c ≤ ns.length → Q (.ref a) (upd H a (SetO w a (fun j => decide (j ∈ ns)) c))
theorem crSetL {X : Cx} (hc : X.calm = true) : CallR X (.type "set") (rSetL X.K X.w) := by
  rintro pins s σ H _ us Q I r ⟨l, ns, rfl, hl, few, q⟩
  rw [Vals.ref1 r]
  obtain ⟨its, rv, pl, _⟩ := I.list hl
  refine setOfL ns (I.ok.hd hc) pl.isList (ints_of_vals rv) few fun h' t c R lc kp => ?_
  exact ⟨.ref s.heap.objs.size, _, I.laid (t' := t) kp (Nat.le_refl _) (setO_new R), rfl, q _ c (I.hok.fresh (Nat.le_refl _)) lc⟩
section
variable {C : CI} {X : Cx} {z : ZE} {e : Expr} {p p2 pos pos2 : Pos}
def zSrtL (z : ZE) : ZE := fun Γ Δ P => z Γ Δ fun d Δ1 => ∃ ns : List Int, lstD Δ1 d = some (ns.map D.int) ∧ ns.length < 63 ∧ ∀ ms : List Int, ms.Pairwise (· < ·) → (∀ k, k ∈ ms ↔ k ∈ ns) → P (.lst (ms.map D.int)) Δ1
theorem ez_srtL (m1 : X.mg "sorted" = none) (m2 : X.mg "set" = none) (h : EZ C X e z) (hc : X.calm = true := by rfl) (g1 : Gl X "sorted" := by rfl) (g2 : Gl X "set" := by rfl)
    (st1 : starEach [e] X.env = (false, eval e X.env) :: starEach [] X.env := by rfl) (pl1 : (backTo pos2 (starEach [] X.env)).any (·.1) = false := by rfl)
    (st2 : starEach [.Call (.Name "set" p2) [e] [] pos2] X.env = (false, eval (.Call (.Name "set" p2) [e] [] pos2) X.env) :: starEach [] X.env := by rfl) (pl2 : (backTo pos (starEach [] X.env)).any (·.1) = false := by rfl) :
    EZ C X (.Call (.Name "sorted" p) [.Call (.Name "set" p2) [e] [] pos2] [] pos) (zSrtL z) := by
  obtain ⟨t, a1, a2⟩ := h.ex
  have q1 := pe_callTy (X := X) (pos := pos2) (p := p2) (crSetL hc) g2 m2 PyProof.Rows.boot_set (pa_cons a1 pa_nil st1) (by decide) (by decide) st1 pl1
  refine ⟨_, pe_callB (cr_sortedSet hc) g1 m1 (by decide +kernel) (pa_cons q1 pa_nil st2) (by decide) (by decide) st2 pl2, fun S A σ H Γ Δ P Q hs hc2 hz k => ?_⟩
  refine a2 S A σ H Γ Δ _ _ hs hc2 hz fun v d A1 H1 Δ1 e1 c1 r1 ⟨ns, hd, few, q⟩ => ?_
  obtain ⟨pa, ys, rfl, hq, rr⟩ := Rep.lst_ c1 r1 hd
  obtain rfl := repL_int rr
  refine ⟨pa, ns, rfl, SqL.of hq, by unfold scanBound; omega, fun a c ha lc => ?_⟩
  refine ⟨a, _, c, rfl, upd_same, by omega, fun ms b y1 y2 _ hb => ?_⟩
  have c2 : Cells X.K C S A1 (upd H1 a (SetO X.w a (fun j => decide (j ∈ ns)) c)) Δ1 := c1.kept fun x o y => by
    rw [upd_ne (ne_of_none y ha)]
    exact y
  have c3 := c2.kept (H' := upd (upd H1 a (SetO X.w a (fun j => decide (j ∈ ns)) c)) b (.lst (ms.map V.int))) fun x o y => by
    rw [upd_ne (ne_of_none y hb)]
    exact y
  exact k _ _ A1 _ Δ1 ((e1.trans (Ext.new ha)).trans (Ext.new hb)) c3 (.lst upd_same (c2.fresh hb) (c2.aside hb) (repL_ints ms)) (q ms y1 fun j => by rw [y2, decide_eq_true_iff])
end
end Z

/-! Z17: powers of great ints; min, max of a list; isinstance with several types; list(range(..)); a call that is lent the cells' contents and gives a new list; a def that is never called. -/
namespace Z
open PySem PySem.Spec PyProof.Rows L2
/-! ### powers -/
def CPowW (i j : Int) : Prop := 0 ≤ j ∧ ((i.natAbs.log2 + 1 : Nat) : Int) * j ≤ 2 ^ 27
section
variable {C : CI} {X : Cx}
theorem op_powW : OpR X (binaryOp .Pow) (rI CPowW fun i j => .int (i ^ j.toNat)) := opI fun i j _ _ _ _ _ hc q => by
  refine pow_int hc.1 ?_ q
  have b : Builtin.Int.intBits i ≤ i.natAbs.log2 + 1 := by
    unfold Builtin.Int.intBits
    split <;> omega
  have h := hc.2
  have h1 : ((Builtin.Int.intBits i : Nat) : Int) * j ≤ ((i.natAbs.log2 + 1 : Nat) : Int) * j := Int.mul_le_mul_of_nonneg_right (by omega) hc.1
  exact Int.le_trans h1 h
theorem oz_powW : OpZ C X (binaryOp .Pow) (zI CPowW fun i j => .int (i ^ j.toNat)) := ⟨_, op_powW, ref_I fun _ _ _ _ _ => .int _⟩
/-! ### min, max of a list of ints -/
def zMin1 : ZRC := fun ds Δ P => ∃ (d : D) (ns : List Int), ds = [d] ∧ lstD Δ d = some (ns.map D.int) ∧ ns ≠ [] ∧ ∀ m, m ∈ ns → (∀ y, y ∈ ns → m ≤ y) → P (.int m) Δ
def zMax1 : ZRC := fun ds Δ P => ∃ (d : D) (ns : List Int), ds = [d] ∧ lstD Δ d = some (ns.map D.int) ∧ ns ≠ [] ∧ ∀ m, m ∈ ns → (∀ y, y ∈ ns → y ≤ m) → P (.int m) Δ
theorem cz_min1 (hc : X.calm = true := by rfl) : CallZ C X (.builtin "min") zMin1 := ⟨_, cr_min hc, fun S A H Δ xs ds P Q hc r hz k => by
  obtain ⟨d, ns, rfl, hd, hne, q⟩ := hz
  obtain ⟨v, rfl, rv⟩ := one_rep r
  obtain ⟨pa, ys, rfl, hq, rr⟩ := Rep.lst_ hc rv hd
  obtain rfl := repL_int rr
  exact ⟨pa, ns, rfl, SqL.of hq, List.length_pos_iff.mpr hne, fun m h1 h2 => k _ _ A H Δ (Ext.refl _ _) hc (.int _) (q m h1 h2)⟩⟩
theorem cz_max1 (hc : X.calm = true := by rfl) : CallZ C X (.builtin "max") zMax1 := ⟨_, cr_max hc, fun S A H Δ xs ds P Q hc r hz k => by
  obtain ⟨d, ns, rfl, hd, hne, q⟩ := hz
  obtain ⟨v, rfl, rv⟩ := one_rep r
  obtain ⟨pa, ys, rfl, hq, rr⟩ := Rep.lst_ hc rv hd
  obtain rfl := repL_int rr
  exact ⟨pa, ns, rfl, SqL.of hq, List.length_pos_iff.mpr hne, fun m h1 h2 => k _ _ A H Δ (Ext.refl _ _) hc (.int _) (q m h1 h2)⟩⟩
/-! ### isinstance(x, (T, ..)) -/
inductive ClsDs (C : CI) : List D → List Value → Prop where
  | nil : ClsDs C [] []
  | cons {d : D} {u : Value} {ds : List D} {us : List Value} (h : clsD C d = some u) (r : ClsDs C ds us) : ClsDs C (d :: ds) (u :: us)
theorem RepL.clsVs {K : PySem.W.Frag} {S A : List Addr} {H : Hp} : ∀ {ds : List D} {us : List Value} {vs : List V}, ClsDs C ds us → RepL K C S A H vs ds → Paired ClsV vs us
  | _, _, _, .nil, h => by cases h; exact .nil
  | _, _, _, .cons h r, q => by
    cases q with
    | cons q1 q2 => exact .cons (q1.clsV h) (RepL.clsVs r q2)
def zIsiT (K : PySem.W.Frag) (C : CI) : ZRC := fun ds Δ P => ∃ x ys t us b, ds = [x, .tup ys] ∧ tyD C Δ x = some t ∧ ClsDs C ys us ∧ (∀ Ca, t = .ref Ca → Isi K Ca) ∧ PySem.W.kitAny K t us = some b ∧ P (.bl b) Δ
theorem cz_isiT : CallZ C X (.builtin "isinstance") (zIsiT X.K C) := ⟨_, call_isiT, fun S A H Δ xs ds P Q hc r hz k => by
  obtain ⟨x, ys, t, us, b, rfl, h1, h2, h3, h4, q⟩ := hz
  obtain ⟨v, v', rfl, rv, rv'⟩ := two_rep r
  cases rv' with
  | tup g1 g2 g3 g4 => exact ⟨v, _, _, t, us, b, rfl, g1, g4.clsVs h2, rv.tyX hc h1 h3, h4, k _ _ A H Δ (Ext.refl _ _) hc (.bl _) q⟩⟩
end
/-! ### a new list, made by a call that is lent the cells' contents -/
section
variable {K : PySem.W.Frag} {C : CI} {S A : List Addr} {H H' : Hp} {Δ : Store}
mutual
theorem Rep.re {A A' : List Addr} (c : ∀ a xs, H a = some (.tup xs) → a ∉ A) : ∀ (d : D) {v : V}, bareT d = true → Rep K C S A' H v d → Rep K C S A H v d
  | .non, _, _, h => by cases h; exact .non
  | .bl b, _, _, h => by cases h; exact .bl b
  | .int i, _, _, h => by cases h; exact .int i
  | .str x, _, _, h => by cases h; exact .str x
  | .tup ds, _, hb, h => by cases h with | tup h1 hA hS r => exact .tup h1 (c _ _ h1) hS (RepL.re c ds hb r)
  | .ty _, _, hb, _ => by cases hb
  | .cls _, _, hb, _ => by cases hb
  | .lst _, _, hb, _ => by cases hb
  | .ins _ _, _, hb, _ => by cases hb
  | .dct _ _, _, hb, _ => by cases hb
  | .cell _, _, hb, _ => by cases hb
  | .scr _, _, hb, _ => by cases hb
  | .ktup _, _, hb, _ => by cases hb
  | .exc _, _, hb, _ => by cases hb
theorem RepL.re {A A' : List Addr} (c : ∀ a xs, H a = some (.tup xs) → a ∉ A) : ∀ (ds : List D) {vs : List V}, bareTs ds = true → RepL K C S A' H vs ds → RepL K C S A H vs ds
  | [], _, _, h => by cases h; exact .nil
  | d :: ds, _, hb, h => by
    have hb' : (bareT d && bareTs ds) = true := hb
    rw [Bool.and_eq_true] at hb'
    cases h with
    | cons h r => exact .cons (Rep.re c d hb'.1 h) (RepL.re c ds hb'.2 r)
end
/-- a list that stood nowhere becomes a cell of the caller -/
theorem Cells.adopt (c1 : Cells K C S A H Δ) {A' : List Addr} {Δ' : Store} (e2 : Ext [] H A' H') (c2 : Cells K C S A' H' Δ') {m : Nat} {a : Addr} {es : List D} (h1 : A'[m]? = some a) (h2 : Δ'[m]? = some (.lst es)) (hb : bareTs es = true) :
    H a = none ∧ Ext A H (A ++ [a]) H' ∧ Cells K C S (A ++ [a]) H' (Δ ++ [.lst es]) ∧ ∃ xs, H' a = some (.lst xs) ∧ RepL K C S A H' xs es := by
  have kp : ∀ b o, H b = some o → H' b = some o := fun b o h => e2.keep b o (fun q => nomatch q) h
  have ha : a ∈ A' := List.mem_of_getElem? h1
  obtain ⟨B, hB, nB⟩ := e2.pre
  have hn : H a = none := by
    rw [hB, List.nil_append] at ha
    exact nB a ha
  have haS : a ∉ S := c2.dj a ha
  have haA : a ∉ A := c1.fresh hn
  obtain ⟨xs, g1, g2⟩ := c2.at_ m a _ h1 h2
  have k1 := c1.kept kp
  have nt : ∀ b ys, H' b = some (.tup ys) → b ∉ A := fun b ys h => k1.no_tup h
  have nt2 : ∀ b ys, H' b = some (.tup ys) → b ∉ A ++ [a] := fun b ys h hm => by
    rcases List.mem_append.mp hm with hm | hm
    · exact nt b ys h hm
    · rw [List.mem_singleton] at hm
      subst hm
      rw [g1] at h
      cases h
  have ex : Ext A H (A ++ [a]) H' := ⟨⟨[a], rfl, fun b hb => by rw [List.mem_singleton] at hb; rw [hb]; exact hn⟩, fun b o _ h => kp b o h, e2.trk⟩
  refine ⟨hn, ex, ⟨by rw [List.length_append, List.length_append, c1.len] <;> rfl, ?_, ?_, ?_, ?_⟩, xs, g1, RepL.re nt es hb g2⟩
  · refine List.nodup_append.mpr ⟨c1.nd, by simp, fun b hb c hc => ?_⟩
    rw [List.mem_singleton] at hc
    subst hc
    exact fun q => haA (q ▸ hb)
  · intro b hb
    rcases List.mem_append.mp hb with hb | hb
    · exact c1.dj b hb
    · rw [List.mem_singleton] at hb
      subst hb
      exact haS
  · exact fun b hb => c2.as b hb
  · intro n b w q1 q2
    by_cases hn2 : n < A.length
    · rw [List.getElem?_append_left hn2] at q1
      rw [List.getElem?_append_left (by rw [← c1.len]; exact hn2)] at q2
      exact (c1.at_ n b w q1 q2).mono ex.mo (kp b)
    · have hn3 : n = A.length := by
        have := (List.getElem?_eq_some_iff.mp q1).1
        rw [List.length_append] at this
        simp at this
        omega
      subst hn3
      rw [List.getElem?_append_right (Nat.le_refl _), Nat.sub_self] at q1
      rw [c1.len, List.getElem?_append_right (Nat.le_refl _), Nat.sub_self] at q2
      simp at q1 q2
      subst q1
      subst q2
      exact ⟨xs, g1, RepL.re nt2 es hb g2⟩
end
/-- the new list may be changed by the caller -/
def lentC (W : ZRC) : ZRC := fun ds Δ P => Z.belowL 0 (ds.map (Z.thaw Δ)) = true ∧ W (ds.map (Z.thaw Δ)) [] fun d Δ' => ∃ m es, d = .cell m ∧ Δ'[m]? = some (.lst es) ∧ bareTs es = true ∧ P (.cell Δ.length) (Δ ++ [.lst es])
/-- the caller never changes the new list -/
def lentF (W : ZRC) : ZRC := fun ds Δ P => Z.belowL 0 (ds.map (Z.thaw Δ)) = true ∧ W (ds.map (Z.thaw Δ)) [] fun d Δ' => ∃ m es, d = .cell m ∧ Δ'[m]? = some (.lst es) ∧ bareTs es = true ∧ P (.lst es) Δ
def zCallBC (W : ZRC) (za : ZA) : ZE := fun Γ Δ P => za Γ Δ fun ds Δ1 => lentC W ds Δ1 P
def zCallBF (W : ZRC) (za : ZA) : ZE := fun Γ Δ P => za Γ Δ fun ds Δ1 => lentF W ds Δ1 P
section
variable {C : CI} {X : Cx} {e : Expr} {es : List Expr} {za : ZA} {pos p : Pos} {x : Str} {k : Nat} {f : Addr} {fd : FuncData} {ps : List Str} {W : ZRC}
theorem ref_callBC {K : PySem.W.Frag} {ta : TA} {E : XK} (ha : RefA K C ta za) : RefE K C (tCall (SpZ K C W) [] E ta) (zCallBC W za) := fun S A σ H Γ Δ P Q hs hc hz k =>
  ha S A σ H Γ Δ _ _ hs hc hz fun vs ds A1 H1 Δ1 e1 c1 r1 p => by
    obtain ⟨hb, p⟩ := p
    refine ⟨S, [], [], ds.map (Z.thaw Δ1), _, ?_, ⟨rfl, .nil, (fun a ha => nomatch ha), c1.as, (fun n a o h => nomatch h)⟩, p, fun v d A' H' Δ' e2 c2 r2 p2 => ?_⟩
    · rw [List.append_nil]; exact RepL.thw c1 ds hb r1
    · obtain ⟨m, es, rfl, h2, hb2, p2⟩ := p2
      cases r2 with
      | cell h1 =>
        rename_i a
        obtain ⟨q1, q2, q3, _⟩ := c1.adopt e2 c2 h1 h2 hb2
        refine k _ _ (A1 ++ [a]) H' _ (e1.trans q2) q3 (.cell ?_) p2
        rw [← c1.len, List.getElem?_append_right (Nat.le_refl _), Nat.sub_self]
        rfl
theorem ref_callBF {K : PySem.W.Frag} {ta : TA} {E : XK} (ha : RefA K C ta za) : RefE K C (tCall (SpZ K C W) [] E ta) (zCallBF W za) := fun S A σ H Γ Δ P Q hs hc hz k =>
  ha S A σ H Γ Δ _ _ hs hc hz fun vs ds A1 H1 Δ1 e1 c1 r1 p => by
    obtain ⟨hb, p⟩ := p
    refine ⟨S, [], [], ds.map (Z.thaw Δ1), _, ?_, ⟨rfl, .nil, (fun a ha => nomatch ha), c1.as, (fun n a o h => nomatch h)⟩, p, fun v d A' H' Δ' e2 c2 r2 p2 => ?_⟩
    · rw [List.append_nil]; exact RepL.thw c1 ds hb r1
    · obtain ⟨m, es, rfl, h2, hb2, p2⟩ := p2
      cases r2 with
      | cell h1 =>
        rename_i a
        obtain ⟨q1, q2, q3, xs, q4, q5⟩ := c1.adopt e2 c2 h1 h2 hb2
        have kp : ∀ a o, H1 a = some o → H' a = some o := fun a o h => e2.keep a o (fun q => nomatch q) h
        exact k _ _ A1 H' Δ1 (e1.trans (Ext.kept kp)) (c1.kept kp) (.lst q4 (c1.fresh q1) (c2.dj a (List.mem_of_getElem? h1)) q5) p2
theorem ez_callbC (F : FnOk X.prog X.w X.K X.mg X.base CX0 k f fd ps (SpZ X.K C W)) (hr : Room k X.A) (hm : X.mg x = some (.ref f)) (hk : PySem.W.keepIn X.K (.ref f) = true) (hb : Binds X.K fd ps [])
    (ha : AZ C X (e :: es) za) (hg : Gl X x := by rfl) (hdb : (x == ("__debug__" : Str)) = false := by decide) (he : starEach (e :: es) X.env = (false, eval e X.env) :: starEach es X.env := by rfl) (hpl : (backTo pos (starEach es X.env)).any (·.1) = false := by rfl) :
    EZ C X (.Call (.Name x p) (e :: es) [] pos) (zCallBC W za) := by
  obtain ⟨t, a1, a2⟩ := ha.ex
  exact ⟨_, pe_call F hr hg hm hk hb .nil pass0 a1 hdb he hpl, ref_callBC a2⟩
theorem ez_callbF (F : FnOk X.prog X.w X.K X.mg X.base CX0 k f fd ps (SpZ X.K C W)) (hr : Room k X.A) (hm : X.mg x = some (.ref f)) (hk : PySem.W.keepIn X.K (.ref f) = true) (hb : Binds X.K fd ps [])
    (ha : AZ C X (e :: es) za) (hg : Gl X x := by rfl) (hdb : (x == ("__debug__" : Str)) = false := by decide) (he : starEach (e :: es) X.env = (false, eval e X.env) :: starEach es X.env := by rfl) (hpl : (backTo pos (starEach es X.env)).any (·.1) = false := by rfl) :
    EZ C X (.Call (.Name x p) (e :: es) [] pos) (zCallBF W za) := by
  obtain ⟨t, a1, a2⟩ := ha.ex
  exact ⟨_, pe_call F hr hg hm hk hb .nil pass0 a1 hdb he hpl, ref_callBF a2⟩
end
/-! ### a def that is never called -/
theorem fn_never {P : Program} {w : World} {K : PySem.W.Frag} {mg : Str → Option Value} {base : Heap} {C : CI} {k : Nat} {f : Addr} {fd : FuncData} {ps : List Str} : FnOk P w K mg base CX0 k f fd ps (SpZ K C fun _ _ _ => False) :=
  ⟨fun _ _ _ _ h => by obtain ⟨_, _, _, _, _, _, _, h, _⟩ := h; exact h.elim, fun _ _ _ _ _ _ _ _ _ _ _ _ _ h => by obtain ⟨_, _, _, _, _, _, _, h, _⟩ := h; exact h.elim⟩
/-! ### list(range(..)) -/
section
variable {C : CI} {X : Cx} {a b : Expr} {za zb : ZE} {p p2 pos pos2 : Pos}
def zLstR1 (za : ZE) : ZE := fun Γ Δ P => za Γ Δ fun x Δ1 => ∃ n : Int, x = .int n ∧ RgOk 0 n ∧ P (.lst (rangeD 0 n)) Δ1
def zLstR2 (za zb : ZE) : ZE := fun Γ Δ P => za Γ Δ fun x Δ1 => zb Γ Δ1 fun y Δ2 => ∃ i j : Int, x = .int i ∧ y = .int j ∧ RgOk i j ∧ P (.lst (rangeD i j)) Δ2
theorem rep_rg {K : PySem.W.Frag} {S A : List Addr} {H : Hp} (lo : Int) : ∀ (l : List Nat), RepL K C S A H (l.map fun (i : Nat) => V.int (lo + (i : Int))) (l.map fun (i : Nat) => D.int (lo + (i : Int)))
  | [] => .nil
  | _ :: l => .cons (.int _) (rep_rg lo l)
theorem ez_lstR1 (hm : X.mg "list" = none) (hm2 : X.mg "range" = none) (ha : EZ C X a za) (hc : X.calm = true := by rfl) (hg : Gl X "list" := by rfl) (hg2 : Gl X "range" := by rfl) (na : starEach [a] X.env = (false, eval a X.env) :: starEach [] X.env := by rfl)
    (nb : starEach [.Call (.Name "range" p2) [a] [] pos2] X.env = (false, eval (.Call (.Name "range" p2) [a] [] pos2) X.env) :: starEach [] X.env := by rfl) : EZ C X (.Call (.Name "list" p) [.Call (.Name "range" p2) [a] [] pos2] [] pos) (zLstR1 za) := by
  obtain ⟨t, a1, a2⟩ := ha.ex
  refine ⟨_, pe_listRg hc hg hm (prg_1 hg2 hm2 a1 na) nb, fun S A σ H Γ Δ P Q hs hc hz k => a2 S A σ H Γ Δ _ _ hs hc hz fun x dx A1 H1 Δ1 e1 c1 r1 hz1 => ?_⟩
  obtain ⟨n, rfl, ok, q⟩ := hz1
  cases r1
  refine ⟨n, rfl, ok, fun p hp => ?_⟩
  exact k _ _ A1 _ Δ1 (e1.trans (Ext.new hp)) (c1.new hp) (.lst upd_same (c1.fresh hp) (c1.aside hp) (rep_rg _ _)) q
theorem ez_lstR2 (hm : X.mg "list" = none) (hm2 : X.mg "range" = none) (ha : EZ C X a za) (hb : EZ C X b zb) (hc : X.calm = true := by rfl) (hg : Gl X "list" := by rfl) (hg2 : Gl X "range" := by rfl) (na : starEach [a, b] X.env = (false, eval a X.env) :: starEach [b] X.env := by rfl) (na2 : starEach [b] X.env = (false, eval b X.env) :: starEach [] X.env := by rfl) (hpl : (backTo pos2 (starEach [b] X.env)).any (·.1) = false := by rfl)
    (nb : starEach [.Call (.Name "range" p2) [a, b] [] pos2] X.env = (false, eval (.Call (.Name "range" p2) [a, b] [] pos2) X.env) :: starEach [] X.env := by rfl) : EZ C X (.Call (.Name "list" p) [.Call (.Name "range" p2) [a, b] [] pos2] [] pos) (zLstR2 za zb) := by
  obtain ⟨t, a1, a2⟩ := ha.ex
  obtain ⟨u, b1, b2⟩ := hb.ex
  refine ⟨_, pe_listRg hc hg hm (prg_2 hg2 hm2 a1 b1 na na2 hpl) nb, fun S A σ H Γ Δ P Q hs hc hz k => a2 S A σ H Γ Δ _ _ hs hc hz fun x dx A1 H1 Δ1 e1 c1 r1 hz1 => b2 S A1 σ H1 Γ Δ1 _ _ (hs.ext e1) c1 hz1 fun y dy A2 H2 Δ2 e2 c2 r2 hz2 => ?_⟩
  obtain ⟨i, j, rfl, rfl, ok, q⟩ := hz2
  cases r1
  cases r2
  refine ⟨i, j, rfl, rfl, ok, fun p hp => ?_⟩
  exact k _ _ A2 _ Δ2 ((e1.trans e2).trans (Ext.new hp)) (c2.new hp) (.lst upd_same (c2.fresh hp) (c2.aside hp) (rep_rg _ _)) q
end
end Z

/-! Z18: ==, != and repr of lists in which cells stand. -/
namespace Z
open PySem PySem.Spec PyProof.Rows L2
theorem nd_t {p : Prop} [Decidable p] : ((!decide p) = true) = ¬ p := by by_cases h : p <;> simp [h]
theorem nd_f {p : Prop} [Decidable p] : ((!decide p) = false) = p := by by_cases h : p <;> simp [h]
/-- what a value is, down to a depth: cells by their contents -/
def rdk (Δ : Store) : Nat → D → D
  | 0, d => d
  | k + 1, .cell n => match Δ[n]? with
    | some (.lst ds) => .lst (ds.map (rdk Δ k))
    | _ => .cell n
  | k + 1, .lst ds => .lst (ds.map (rdk Δ k))
  | k + 1, .tup ds => .tup (ds.map (rdk Δ k))
  | _ + 1, .scr ns => .lst (ns.map D.int)
  | _ + 1, .non => .non
  | _ + 1, .ktup ns => .ktup ns
  | _ + 1, .exc c => .exc c
  | _ + 1, .bl b => .bl b
  | _ + 1, .int i => .int i
  | _ + 1, .str x => .str x
  | _ + 1, .ty n => .ty n
  | _ + 1, .ins c ds => .ins c ds
  | _ + 1, .cls c => .cls c
  | _ + 1, .dct ks ds => .dct ks ds
section
variable {K : PySem.W.Frag} {C : CI} {S A : List Addr} {H : Hp} {Δ : Store}
theorem dps_map {f : D → D} (hf : ∀ (d : D) (v : V), Rep K C S A H v d → plainD (f d) = true → Dp K H v (pd (f d))) : ∀ {ds : List D} {vs : List V}, RepL K C S A H vs ds → plainDs (ds.map f) = true → DpAll K H vs (pds (ds.map f))
  | _, _, .nil, _ => .nil
  | _, _, .cons (d := d) (ds := ds) h r, q => by
    have h' : (plainD (f d) && plainDs (ds.map f)) = true := q
    rw [Bool.and_eq_true] at h'
    exact .cons (hf _ _ h h'.1) (dps_map hf r h'.2)
theorem dp_rdk (hc : Cells K C S A H Δ) : ∀ (k : Nat) (d : D) (x : V), Rep K C S A H x d → plainD (rdk Δ k d) = true → Dp K H x (pd (rdk Δ k d))
  | 0, d, x, r, h => Rep.dp d h r
  | k + 1, d, x, r, h => by
    have ih := dp_rdk hc k
    cases r with
    | cell e =>
      rename_i a n
      unfold rdk at h ⊢
      cases q : Δ[n]? with
      | none => simp only [q] at h; cases h
      | some o =>
        cases o with
        | ins _ _ => simp only [q] at h; cases h
        | dct _ _ => simp only [q] at h; cases h
        | lst ds =>
          simp only [q] at h ⊢
          obtain ⟨xs, h1, h2⟩ := hc.at_ n a _ e q
          exact .lst (SqL.of h1) (dps_map (fun d v => ih d v) h2 h)
    | scr e =>
      rename_i a ns
      unfold rdk at h ⊢
      refine .lst ?_ (pds_ints ns)
      rcases e with ⟨⟨o, e⟩, _⟩ | e
      · exact .inl (.inr ⟨o, e⟩)
      · exact .inr e
    | non => exact .non
    | bl b => exact .bl b
    | int i => exact .int i
    | str x => exact .str x
    | ty n => cases h
    | cls n => cases h
    | tup h1 h2 h3 r => unfold rdk at h ⊢; exact .tup (SqT.of h1) (dps_map (fun d v => ih d v) r h)
    | lst h1 h2 h3 r => unfold rdk at h ⊢; exact .lst (SqL.of h1) (dps_map (fun d v => ih d v) r h)
    | ins _ _ _ _ _ => cases h
    | dct _ _ _ _ _ => cases h
    | ktup _ => cases h
    | exc _ _ _ => cases h
end
def zEqD : ZR2 := fun x y Δ P => shp (rdk Δ 3 x) = true ∧ shp (rdk Δ 3 y) = true ∧ P (.bl (eqD (rdk Δ 3 x) (rdk Δ 3 y))) Δ
def zNeD : ZR2 := fun x y Δ P => shp (rdk Δ 3 x) = true ∧ shp (rdk Δ 3 y) = true ∧ P (.bl (!eqD (rdk Δ 3 x) (rdk Δ 3 y))) Δ
def zReprD : ZRC := fun ds Δ P => ∃ d, ds = [d] ∧ Showable (rdk Δ 3 d) ∧ P (.str (pd (rdk Δ 3 d)).shown) Δ
section
variable {C : CI} {X : Cx}
theorem oz_eqD (hu : X.A.units + 64 < cLine) : OpZ C X (compareOp .Eq) zEqD := ⟨_, op_eqD hu, fun S A H Δ x y dx dy P Q hc rx ry hz k => by
  obtain ⟨h1, h2, p⟩ := hz
  have g1 := Bool.and_eq_true_iff.mp h1
  have g2 := Bool.and_eq_true_iff.mp h2
  exact ⟨_, _, dp_rdk hc 3 dx x rx g1.1, dp_rdk hc 3 dy y ry g2.1, g1.2, g2.2, k _ _ A H Δ (Ext.refl _ _) hc (.bl _) p⟩⟩
theorem oz_neD (hu : X.A.units + 64 < cLine) : OpZ C X (compareOp .NotEq) zNeD := ⟨_, op_neD hu, fun S A H Δ x y dx dy P Q hc rx ry hz k => by
  obtain ⟨h1, h2, p⟩ := hz
  have g1 := Bool.and_eq_true_iff.mp h1
  have g2 := Bool.and_eq_true_iff.mp h2
  exact ⟨_, _, dp_rdk hc 3 dx x rx g1.1, dp_rdk hc 3 dy y ry g2.1, g1.2, g2.2, k _ _ A H Δ (Ext.refl _ _) hc (.bl _) p⟩⟩
theorem cz_reprD (gd : X.A.guards = some []) (hu : X.A.units + 64 < cLine) : CallZ C X (.builtin "repr") zReprD := ⟨_, cr_repr gd hu, fun S A H Δ xs ds P Q hc r hz k => by
  obtain ⟨d, rfl, sh, q⟩ := hz
  obtain ⟨v, rfl, rv⟩ := one_rep r
  exact ⟨v, rdk Δ 3 d, rfl, dp_rdk hc 3 d v rv sh.pl, sh, k _ _ A H Δ (Ext.refl _ _) hc (.str _) q⟩⟩
end
end Z

/-! Z19: len of a set comprehension of ints. -/
namespace Z
open PySem PySem.Spec PyProof.Rows L2
section
variable {X : Cx}
/-- an int goes into the set at a -/
theorem put_set {pins : List (Addr × Obj)} {σ : L2.St} {H : Hp} {z : Shared} {EE : Value → Shared → Prop} {a : Addr} {M : Int → Bool} {c : Nat} {i : Int} {ti : Tok} {R : Value → Shared → Prop} (J : Inv X pins σ H z) (ha : H a = some (SetO X.w a M c)) (few : c + 1 < scanBound)
    (k : ∀ z2, Inv X pins σ (upd H a (SetO X.w a (fun j => M j || decide (j = i)) (if M i = true then c else c + 1))) z2 → R .none z2) : wpAny (model X.prog X.w) X.A (call (.builtin "set.add") [.ref a, .int i ti]) R EE z := by
  refine setR_add (setO_get J ha) few fun g same made => ?_
  have here : ∃ ob, g.get? a = some ob := made.elim fun ob h => h.elim fun _ h => h.elim fun _ h => h.elim fun _ h => ⟨ob, h.1⟩
  exact k _ (J.write (e := a) (t' := z.toks + 1) (by rw [ha]; trivial) (.inl rfl) (fun b u nb hu => (same.2 b nb).trans hu) here (setO_new made))
/-- {elt for tg in iter if ..}, elt an int: a is the new set -/
def tSI (w : World) (wi : TI) (g : TG) (tt : TT) (te : TE) (vs : List Nat) : TE := fun σ H Q => wi σ H fun J H1 => ∀ a, H1 a = none → ∃ V : Nat → Nat → Hp → Prop, (∃ m, V 0 m (upd H1 a (SetO w a (fun _ => false) 0))) ∧
  ∀ i m H, V i m H → (J.stop i H ∧ Q (.ref a) H) ∨ (J.go i H ∧ ∃ F : Hp → Prop, (∀ H', F H' → ∃ m', m' < m ∧ V (i + 1) m' H') ∧
    ∀ x H', J.yld i H x H' → g x (wipe σ vs) H' fun σ2 H2 => wipe σ2 vs = wipe σ vs ∧ tt σ2 H2 fun b H3 =>
      if b = true then te σ2 H3 fun y H4 => ∃ (k : Int) (M : Int → Bool) (c : Nat), y = .int k ∧ H4 a = some (SetO w a M c) ∧ c + 1 < scanBound ∧ F (upd H4 a (SetO w a (fun j => M j || decide (j = k)) (if M k = true then c else c + 1))) else F H3)
theorem peSI {elt tg iter : Expr} {ifs : List Expr} {sc : Scope} {own : List (PySem.Str × Nat)} {pos : Pos} {wi : TI} {g : TG} {tt : TT} {te : TE} (calm : X.calm = true) (nodup : X.N.Nodup) (hi : PI X tg iter wi) (ok : BlkOk X.N X.env.scope sc own)
    (pg : ∀ (z : Shared) (H : Hp) (Ca : Addr) (cl : List (PySem.Str × Addr)) (fp : List Addr), PG (X.blk z H sc (compEnvC sc cl Ca X.env) fp) tg g)
    (pt : ∀ (z : Shared) (H : Hp) (Ca : Addr) (cl : List (PySem.Str × Addr)) (fp : List Addr), PTs (X.blk z H sc (compEnvC sc cl Ca X.env) fp) ifs tt)
    (pe : ∀ (z : Shared) (H : Hp) (Ca : Addr) (cl : List (PySem.Str × Addr)) (fp : List Addr), PE (X.blk z H sc (compEnvC sc cl Ca X.env) fp) elt te) (plain : ∀ x, foldedSetIterable iter X.env x = pure x := by intro _; rfl) :
    PE X (.SetComp elt [⟨tg, iter, ifs, 0⟩] sc pos) (tSI X.w wi g tt te (own.map (·.2))) := by
  refine ⟨fun pins z σ H Q J want => ?_⟩
  rw [PpSet.eval_SetComp]
  have free : ∀ y ∈ sc.names, y.2 = .free → ∃ c, X.env.cells.lookup y.1 = some c := fun y hy e => (ok.free y hy e).elim (fun k => J.ok.has _ (.inl k)) fun k => J.ok.has _ (.inr k)
  refine wpAny_comprehension_free rfl plain (closure_ok free) ok.kind (fun y hy e => by rw [ok.uniq y hy]; rw [e]) (thn (hi.run pins z σ H _ J want) fun xv z1 h1 => thn h1 fun itv z2 h2 => ?_)
  obtain ⟨it, fp, tn, W, H2, e, J2, T, at0, far, q⟩ := h2
  subst e
  refine PpSet.newSet_ok (newEnv_comp ?_)
  -- the new set
  generalize ea : z2.heap.objs.size = a
  have na : H2 a = none := J2.hok.fresh (Nat.le_of_eq ea)
  obtain ⟨V, ⟨m0, v0⟩, turn⟩ := q a na
  generalize ez3 : ({ z2 with heap := z2.heap.push { cls := .type "set", dict := none, data := .set #[] 0 (.fresh 0 0 (!X.w.params.followText "set-order")) } } : Shared) = z3
  have hp3 : z3.heap = z2.heap.push { cls := .type "set", dict := none, data := .set #[] 0 (.fresh 0 0 (!X.w.params.followText "set-order")) } := by rw [← ez3]
  have J3 : Inv X pins σ (upd H2 a (SetO X.w a (fun _ => false) 0)) z3 := by
    rw [← ez3]
    refine J2.laid (t' := z2.toks) (fun _ _ old => Heap.get?_push_of_some _ old) (Nat.le_of_eq ea) ?_
    rw [← ea]
    exact setO_new (setR_fresh X.w)
  have low : ∀ b ∈ fp, b < z2.heap.objs.size := fun b hb => (T.obj _ _ at0 b hb).elim fun _ h => Heap.lt_size h.1
  have far3 : ∀ b ∈ fp, FpOk X pins (upd H2 a (SetO X.w a (fun _ => false) 0)) b ∧ b < z3.heap.objs.size := fun b hb => by
    have l := low b hb
    have ne : b ≠ a := by rw [← ea]; exact Nat.ne_of_lt l
    exact ⟨⟨by rw [upd_ne ne]; exact (far b hb).1, (far b hb).2⟩, by rw [hp3, Heap.size_push]; exact Nat.lt_succ_of_lt l⟩
  have at3 : tn 0 z3.heap := T.keep _ _ _ at0 fun _ _ _ old => by rw [hp3]; exact Heap.get?_push_of_some _ old
  generalize eH : upd H2 a (SetO X.w a (fun _ => false) 0) = H3 at J3 far3 v0
  have J4 := block_start J3 ok nodup far3
  generalize ecl : cellsFrom (z3.heap.objs.size + 1) sc.names (cloFrom X.env.cells sc.names []) = cl at J4 ⊢
  replace pg := pg z3 H3 z3.heap.objs.size cl fp
  replace pt := pt z3 H3 z3.heap.objs.size cl fp
  replace pe := pe z3 H3 z3.heap.objs.size cl fp
  have none3 : ∀ b ∈ fp, H3 b = none := fun b hb => (far3 b hb).1.1
  show codeAny _ _ (.compStart (.SetComp elt [⟨tg, iter, ifs, 0⟩] sc pos) 0 (.ref it) (.ref a) (compEnvC sc cl z3.heap.objs.size X.env)) (compPost (model X.prog X.w) X.A X.xe none (EP X pins σ Q) (.ref a) z3.heap.objs.size) { z3 with heap := pushCells (z3.heap.push { cls := .type "dict", data := .dict #[] }) sc.names }
  generalize ece : compEnvC sc cl z3.heap.objs.size X.env = ce at J4 pg pt pe ⊢
  have lc : ce.locals = z3.heap.objs.size := by rw [← ece]; rfl
  generalize ez4 : ({ z3 with heap := pushCells (z3.heap.push { cls := .type "dict", data := .dict #[] }) sc.names } : Shared) = z4 at J4 ⊢
  have at4 : tn 0 z4.heap := T.keep _ _ _ at3 fun _ _ _ old => by rw [← ez4]; exact pushCells_keeps _ _ _ _ (Heap.get?_push_of_some _ old)
  have stays : ∀ {σ' : L2.St} {H' : Hp} {z' : Shared}, Inv (X.blk z3 H3 sc ce fp) [] σ' H' z' → (∀ b ∈ fp, H' b = none) → ∀ b ∈ fp, FpOk (X.blk z3 H3 sc ce fp) [] H' b := fun {σ' H' z'} J' no b hb =>
    ⟨no b hb, (J'.ok.exf b hb).1, J'.ok.exfs b hb, .inl hb, fun x c e => (J'.ok.exf b hb).2 x c e, fun p hp => absurd (show p ∈ ([] : List (Addr × Obj)) ++ [] from hp) (by simp)⟩
  have walk : codeAny (model X.prog X.w) X.A (.compLoop (.SetComp elt [⟨tg, iter, ifs, 0⟩] sc pos) 0 (.ref it) (.ref a) ce) (compPost (model X.prog X.w) X.A X.xe none (EP X pins σ Q) (.ref a) z3.heap.objs.size) z4 := by
    refine PpSet.compLoopS_any (fun m z' => ∃ i H', Inv (X.blk z3 H3 sc ce fp) [] (wipe σ (own.map (·.2))) H' z' ∧ tn i z'.heap ∧ (∀ b ∈ fp, H' b = none) ∧ V i m H') ?_ m0 ⟨0, H3, J4, at4, none3, v0⟩
    rintro m z5 ⟨i, H5, J5, at5, no5, v5⟩
    rcases turn i m H5 v5 with ⟨stop, done⟩ | ⟨go, F, hF, step⟩
    · refine thnF (T.done (X.blk z3 H3 sc ce fp) rfl rfl rfl calm i [] z5 _ H5 (fun _ _ => False) J5 (stays J5 no5) at5 stop) fun r z6 ⟨er, J6⟩ => ?_
      subst er
      have J7 : Inv X pins σ H5 z6 := J3.call' (ch := fp) J6.os J6.base J6.hok J6.bare fun b hb => ⟨(far3 b hb).1.2.2.2.1, (far3 b hb).1.2.1, (far3 b hb).1.2.2.2.2.1, (far3 b hb).1.2.2.2.2.2⟩
      have nl : H5 z3.heap.objs.size = none := lc ▸ (show H5 ce.locals = none from J6.free)
      obtain ⟨m', hm', _⟩ := J6.loc
      refine ⟨m', lc ▸ (show z6.heap.Ns ce.locals m' from hm'), fun g2 same => ?_⟩
      obtain ⟨f0, f1, f2, f3, f4, f5⟩ := J3.fpOk (Nat.le_refl _) nl
      exact ⟨.ref a, H5, J7.turned (t' := z6.toks) (fun b o nb old => (same.2 b nb).trans old) f0 f1 f3 f4 f5, rfl, done⟩
    · refine thnF (T.item (X.blk z3 H3 sc ce fp) rfl rfl rfl calm i [] z5 _ H5 (fun _ _ => False) J5 (stays J5 no5) at5 go) fun r z6 ⟨u, er, h6⟩ => ?_
      subst er
      refine thnF h6 fun _ z7 ⟨x, H7, J7, r7, y7, at7, no7⟩ => ?_
      have J8 := J7.pinned (stays J7 no7) (T.obj _ _ at7)
      refine thnF (pg.run _ z7 _ H7 x u _ J8 r7 (step x H7 y7)) fun _ z8 ⟨σ8, H8, J9, same8, q8⟩ => thnF (pt.run _ z8 σ8 H8 _ J9 q8) fun b z9 ⟨H9, J10, w9⟩ => ?_
      have ends : ∀ {z' : Shared} {H' : Hp}, Inv (X.blk z3 H3 sc ce fp) ([] ++ pinsAt fp z7.heap) σ8 H' z' → F H' → ∃ m', m' < m ∧ ∃ i H', Inv (X.blk z3 H3 sc ce fp) [] (wipe σ (own.map (·.2))) H' z' ∧ tn i z'.heap ∧ (∀ b ∈ fp, H' b = none) ∧ V i m' H' := fun {z' H'} J' f => by
        obtain ⟨m', less, v'⟩ := hF H' f
        have pin : ∀ b ∈ fp, ∀ o, z7.heap.get? b = some o → z'.heap.get? b = some o ∧ H' b = none := fun b hb o e => by
          have w := J'.pin (b, o) (List.mem_append_right _ (List.mem_append_right _ (mem_pinsAt hb e)))
          exact ⟨w.1, w.2.1⟩
        refine ⟨m', less, i + 1, H', (J'.unpinned (pins := [])).weak (by rw [← same8, wipe_length]) (fun j v e => (wipe_some (by rw [← same8] at e; exact e)).1), T.keep _ _ _ at7 fun b hb o e => (pin b hb o e).1, fun b hb => ?_, v'⟩
        obtain ⟨o, e, _⟩ := T.obj _ _ at7 b hb
        exact (pin b hb o e).2
      cases b with
      | false =>
        rw [if_neg Bool.false_ne_true] at w9
        show if false = true then _ else _
        rw [if_neg Bool.false_ne_true]
        exact ends J10 w9
      | true =>
        rw [if_pos rfl] at w9
        show if true = true then _ else _
        rw [if_pos rfl]
        refine thnF (pe.run _ z9 σ8 H9 _ J10 w9) fun v z10 ⟨yv, H10, J11, r10, k, M, c, ey, ha, few, f⟩ => ?_
        subst ey
        obtain ⟨tk, ev⟩ := (show ∃ t, v = Value.int k t from r10)
        subst ev
        exact put_set (X := X.blk z3 H3 sc ce fp) J11 ha few fun z11 J12 => ends J12 f
  exact PpSet.codeAny_compStart_set walk (T.self X.A 0 _ _ _ at4 walk)
/-- len of a set of ints -/
def rLenS (w : World) : List V → Hp → VK → Prop := fun xs H Q => ∃ (a : Addr) (M : Int → Bool) (c : Nat), xs = [.ref a] ∧ H a = some (SetO w a M c) ∧ ∀ ks : List Int, ks.Nodup → (∀ k, k ∈ ks ↔ M k = true) → Q (.int (ks.length : Nat)) H
theorem cr_lenS : CallR X (.builtin "len") (rLenS X.w) := by
  rintro pins z σ H _ us Q J r ⟨a, M, c, rfl, ha, q⟩
  rw [Vals.ref1 r]
  obtain ⟨o, es, ep, t, ho, hex, hd, g, nd, hm, hb, hf, hn, _⟩ := setO_get J ha
  have few : es.size < 2 ^ 60 := Nat.lt_trans hb (by unfold scanBound; decide)
  refine call_len_set ho hex hd hf (by omega) ⟨.int _, H, J.tok _, ⟨_, rfl⟩, ?_⟩
  have := q (es.toList.map keyOf) nd fun k => (hm k).symm
  rw [List.length_map, Array.length_toList] at this
  exact this
end
/-! ### the reading -/
def compS (zg : ZG) (zt : ZT) (ze : ZE) (Γ0 : Env) (P : List Int → Store → Prop) : List D → List Int → Store → Prop
  | [], acc, Δ => P acc Δ
  | x :: xs, acc, Δ => zg x Γ0 Δ fun Γ2 Δ2 => zt Γ2 Δ2 fun b Δ3 => (b = true → ze Γ2 Δ3 fun y Δ4 => ∃ k : Int, y = .int k ∧ acc.length < 4000 ∧ compS zg zt ze Γ0 P xs (acc ++ [k]) Δ4) ∧ (b = false → compS zg zt ze Γ0 P xs acc Δ3)
/-- len({elt for tg in iter if ..}) -/
def zLenS (zi : ZI) (zg : ZG) (zt : ZT) (ze : ZE) (vs : List Nat) : ZE := fun Γ Δ P => zi Γ Δ fun items Δ1 => compS zg zt ze (wipeZ Γ vs) (fun ns Δ2 => ∀ ks : List Int, ks.Nodup → (∀ k, k ∈ ks ↔ k ∈ ns) → P (.int (ks.length : Nat)) Δ2) items [] Δ1
section
variable {K : PySem.W.Frag} {C : CI} {S A : List Addr} {H : Hp} {Δ : Store} {q : Addr}
theorem cells_aside {o : HO} (c : Cells K C (q :: S) A H Δ) : Cells K C (q :: S) A (upd H q o) Δ ∧ Mo (q :: S) A H (q :: S) A (upd H q o) := by
  have mo : Mo (q :: S) A H (q :: S) A (upd H q o) := ⟨⟨[], by simp, by simp⟩, fun _ h => .inl h, fun a u _ h2 h3 => by
    rw [upd_ne (fun h => h2 (by rw [h]; exact List.mem_cons_self))]; exact h3⟩
  have hq : q ∉ A := fun h => c.dj q h List.mem_cons_self
  refine ⟨⟨c.len, c.nd, c.dj, fun a ha h => ?_, fun n a u h1 h2 => (c.at_ n a u h1 h2).mono mo fun w h => ?_⟩, mo⟩
  · by_cases hb : a = q
    · subst hb; rw [upd_same] at h; cases h
    · rw [upd_ne hb] at h; exact c.as a ha h
  · rw [upd_ne (fun hb => hq (by rw [← hb]; exact List.mem_of_getElem? h1))]; exact h
theorem ref_lenS {w : World} {wi : TI} {g : TG} {tt : TT} {te : TE} {vs : List Nat} {zi : ZI} {zg : ZG} {zt : ZT} {ze : ZE} (hi : RefI K C wi zi) (hg : RefG K C g zg) (ho : Own g vs) (ht : RefT K C tt zt) (he : RefE K C te ze) :
    RefE K C (fun σ H Q => tSI w wi g tt te vs σ H fun v H1 => rLenS w [v] H1 Q) (zLenS zi zg zt ze vs) := fun S A σ H Γ Δ P Q hs hc hz k => hi S A σ H Γ Δ _ _ hs hc hz fun J n G Y items A1 H1 Δ1 e1 c1 p hn wk hG hY q hq => by
  have s1 := hs.ext e1
  let I : Nat → Hp → Prop := fun i H2 => ∃ A2 Δ2 acc c, Ext A1 H1 A2 H2 ∧ Mo S A1 H1 (q :: S) A2 H2 ∧ Cells K C (q :: S) A2 H2 Δ2 ∧ H2 q = some (SetO w q (fun j => decide (j ∈ acc)) c) ∧ c ≤ acc.length ∧
    compS zg zt ze (wipeZ Γ vs) (fun ns Δ2 => ∀ ks : List Int, ks.Nodup → (∀ k, k ∈ ks ↔ k ∈ ns) → P (.int (ks.length : Nat)) Δ2) (items.drop i) acc Δ2
  have i0 : I 0 (upd H1 q (SetO w q (fun _ => false) 0)) := by
    have mo0 : Mo S A1 H1 (q :: S) A1 (upd H1 q (SetO w q (fun _ => false) 0)) := ⟨⟨[], by simp, by simp⟩, fun b hb => by
      rcases List.mem_cons.mp hb with rfl | hb
      · exact .inr hq
      · exact .inl hb, fun a o _ _ h => by rw [upd_ne (ne_of_none h hq)]; exact h⟩
    refine ⟨A1, Δ1, [], 0, Ext.new hq, mo0, ⟨c1.len, c1.nd, fun a ha hb => ?_, fun a ha h => ?_, fun n a o h1 h2 => (c1.at_ n a o h1 h2).mono mo0 fun u h => by rw [upd_ne (ne_of_none h hq)]; exact h⟩, ?_, Nat.le_refl _, p⟩
    · rcases List.mem_cons.mp hb with rfl | hb
      · exact c1.fresh hq ha
      · exact c1.dj a ha hb
    · rcases List.mem_cons.mp ha with rfl | ha
      · rw [upd_same] at h; cases h
      · exact c1.as a ha ((Ext.new (A := A1) hq).trk a h)
    · have e : (fun j : Int => decide (j ∈ ([] : List Int))) = fun _ => false := by funext j; simp
      rw [e]; exact upd_same
  refine ⟨fun i m H2 => m = n - i ∧ i ≤ n ∧ I i H2, ⟨n, by simp, Nat.zero_le _, i0⟩, ?_⟩
  rintro i m H2 ⟨rfl, hin, A2, Δ2, acc, c, e2, m2, c2, hqv, hca, p2⟩
  have gg := hG (q :: S) A2 H2 m2
  by_cases hlt : i < n
  · refine .inr ⟨wk.goes i H2 hlt gg, I (i + 1), fun H' p' => ⟨n - (i + 1), by omega, rfl, hlt, p'⟩, fun x H3 y => ?_⟩
    obtain ⟨d, q1, q2, q3⟩ := hY (q :: S) A2 H2 Δ2 i x H3 hlt m2 c2 (wk.yields i H2 x H3 hlt gg y)
    rw [drop_cons q1] at p2
    have e3 : Ext A2 H2 A2 H3 := Ext.kept q2
    have s3 : Slots K C (q :: S) A2 H3 (wipe σ vs) (wipeZ Γ vs) := ((s1.mono m2).ext e3).wipe vs
    have fin : g x (wipe σ vs) H3 fun σ2 H4 => wipe σ2 vs = wipe (wipe σ vs) vs ∧ tt σ2 H4 fun b H5 =>
        if b = true then te σ2 H5 fun y H6 => ∃ (k : Int) (M : Int → Bool) (c : Nat), y = .int k ∧ H6 q = some (SetO w q M c) ∧ c + 1 < scanBound ∧ I (i + 1) (upd H6 q (SetO w q (fun j => M j || decide (j = k)) (if M k = true then c else c + 1)))
        else I (i + 1) H5 := by
      refine ho _ _ _ _ (hg (q :: S) A2 (wipe σ vs) H3 (wipeZ Γ vs) Δ2 x d _ _ s3 (c2.kept q2) q3 p2 fun σ4 A4 H4 Γ4 Δ4 e4 s4 c4 p4 => ?_)
      refine ht (q :: S) A4 σ4 H4 Γ4 Δ4 _ _ s4 c4 p4 fun b A5 H5 Δ5 e5 c5 p5 => ?_
      have e25 := (e3.trans e4).trans e5
      have e15 := e2.trans e25
      have hq2 : q ∉ A2 := fun h => c2.dj q h List.mem_cons_self
      have hq5 : H5 q = some (SetO w q (fun j => decide (j ∈ acc)) c) := e25.keep q _ hq2 hqv
      have m5 : Mo S A1 H1 (q :: S) A5 H5 := ⟨e15.pre, m2.sub, fun a o h1 _ h3 => e15.keep a o h1 h3⟩
      cases b with
      | false => exact iteF ⟨A5, Δ5, acc, c, e15, m5, c5, hq5, hca, p5.2 rfl⟩
      | true =>
        refine iteT (he (q :: S) A5 σ4 H5 Γ4 Δ5 _ _ (s4.ext e5) c5 (p5.1 rfl) fun y dy A6 H6 Δ6 e6 c6 r6 p6 => ?_)
        obtain ⟨k2, rfl, few, p6⟩ := p6
        cases r6
        have e16 := e15.trans e6
        have hq5' : q ∉ A5 := fun h => c5.dj q h List.mem_cons_self
        have hq6 : H6 q = some (SetO w q (fun j => decide (j ∈ acc)) c) := e6.keep q _ hq5' hq5
        have nq : ∀ a o, H1 a = some o → a ≠ q := fun a o h => ne_of_none h hq
        refine ⟨k2, _, c, rfl, hq6, by unfold scanBound; omega, A6, Δ6, acc ++ [k2], if decide (k2 ∈ acc) = true then c else c + 1, ?_, ?_, (cells_aside c6).1, ?_, ?_, p6⟩
        · exact ⟨e16.pre, fun a o h1 h2 => by rw [upd_ne (nq a o h2)]; exact e16.keep a o h1 h2, fun a h => by
            by_cases hb : a = q
            · subst hb; exact hq
            · rw [upd_ne hb] at h; exact e16.trk a h⟩
        · exact ⟨e16.pre, m2.sub, fun a o h1 _ h3 => by rw [upd_ne (nq a o h3)]; exact e16.keep a o h1 h3⟩
        · have e : (fun j : Int => decide (j ∈ acc) || decide (j = k2)) = fun j => decide (j ∈ acc ++ [k2]) := by
            funext j
            rw [Bool.eq_iff_iff]
            simp
          rw [e]
          exact upd_same
        · rw [List.length_append]
          show _ ≤ acc.length + 1
          split <;> omega
    rw [wipe_wipe] at fin
    exact fin
  · have e : i = n := by omega
    subst e
    rw [hn, List.drop_length] at p2
    refine .inl ⟨wk.stops H2 gg, q, _, c, rfl, hqv, fun ks h1 h2 => ?_⟩
    have mo8 : Mo (q :: S) A2 H2 S A2 H2 := ⟨⟨[], by simp, by simp⟩, fun b hb => .inl (List.mem_cons_of_mem _ hb), fun _ _ _ _ h => h⟩
    exact k _ _ A2 H2 Δ2 (e1.trans e2) ⟨c2.len, c2.nd, fun a ha hb => c2.dj a ha (List.mem_cons_of_mem _ hb), fun a ha => c2.as a (List.mem_cons_of_mem _ ha), fun n a o h1 h2 => (c2.at_ n a o h1 h2).mono mo8 fun _ h => h⟩ (.int _) (p2 ks h1 fun k => by rw [h2, decide_eq_true_iff])
end
section
variable {C : CI} {X : Cx}
theorem ez_lenS {elt tg iter : Expr} {ifs : List Expr} {scope : Scope} {own : List (Str × Nat)} {p pos pos2 : Pos} {zi : ZI} {g : TG} {zg : ZG} {zt : ZT} {ze : ZE} (hm : X.mg "len" = none) (hN : X.N.Nodup) (hi : IZ C X tg iter zi) (ok : BlkOk X.N X.env.scope scope own) (ho : Own g (own.map (·.2))) (hb : BlkZ C X scope tg ifs elt g zg zt ze)
    (hc : X.calm = true := by rfl) (hs : ∀ x, foldedSetIterable iter X.env x = pure x := by intro _; rfl) (hg : Gl X "len" := by rfl)
    (st : starEach [.SetComp elt [⟨tg, iter, ifs, 0⟩] scope pos2] X.env = (false, eval (.SetComp elt [⟨tg, iter, ifs, 0⟩] scope pos2) X.env) :: starEach [] X.env := by rfl) (pl : (backTo pos (starEach [] X.env)).any (·.1) = false := by rfl) :
    EZ C X (.Call (.Name "len" p) [.SetComp elt [⟨tg, iter, ifs, 0⟩] scope pos2] [] pos) (zLenS zi zg zt ze (own.map (·.2))) := by
  obtain ⟨wi, i1, i2⟩ := hi.ex
  obtain ⟨tt, te, b1, b2, b3, b4⟩ := hb.ex
  exact ⟨_, pe_callB cr_lenS hg hm (by decide +kernel) (pa_cons (peSI hc hN i1 ok (fun s H Ca cl fp => (b1 s H Ca cl fp).1) (fun s H Ca cl fp => (b1 s H Ca cl fp).2.1) (fun s H Ca cl fp => (b1 s H Ca cl fp).2.2) hs) pa_nil st) (by decide) (by decide) st pl, ref_lenS i2 b2 ho b3 b4⟩
end
end Z

/-! Z20: reversed(list) walked; comprehensions given to a name as cells; lent comprehensions. -/
namespace Z
open PySem PySem.Spec PyProof.Rows L2
section
variable {C : CI} {X : Cx}
/-! ### reversed(xs) -/
def ziRev (z : ZE) : ZI := fun Γ Δ P => z Γ Δ fun d Δ1 => ∃ ds, d = .lst ds ∧ P ds.reverse Δ1
theorem walk_back {K : PySem.W.Frag} {a : Addr} {xs : List V} : Walk (Itv K a xs.length) xs.length (fun H => SqL K H a xs) (YAt xs.reverse) :=
  ⟨fun i _ hi q => ⟨hi, xs, xs[xs.length - 1 - i]'(by omega), q, List.getElem?_eq_getElem _⟩, fun _ _ => Nat.le_refl _, fun i _ _ _ hi q y => ⟨y.1, by
    rw [List.getElem?_reverse hi]
    exact y.2 xs q⟩⟩
theorem iz_rev {tg e : Expr} {z : ZE} {p pos : Pos} (h : EZ C X e z) (hm : X.mg "reversed" = none) (hg : Gl X "reversed" := by rfl) (hs : starEach [e] X.env = (false, eval e X.env) :: starEach [] X.env := by rfl) : IZ C X tg (.Call (.Name "reversed" p) [e] [] pos) (ziRev z) := by
  obtain ⟨t, h1, h2⟩ := h.ex
  refine ⟨_, RT.pi_revA hg hm h1 hs, fun S A σ H Γ Δ P R hs hc hz k => h2 S A σ H Γ Δ _ _ hs hc hz fun v d A1 H1 Δ1 e1 c1 r1 q => ?_⟩
  obtain ⟨ds, rfl, q⟩ := q
  cases r1 with
  | lst g1 g2 g3 g4 =>
    rename_i a xs
    refine ⟨a, xs, rfl, .inl ⟨SqL.of g1, ?_⟩⟩
    refine k (Itv X.K a xs.length) xs.length (fun H => SqL X.K H a xs) (YAt xs.reverse) ds.reverse A1 H1 Δ1 e1 c1 q (by rw [List.length_reverse, g4.length]) walk_back (fun S2 A2 H2 m => SqL.of (m.keep _ _ g2 g3 g1)) fun S2 A2 H2 Δ2 i x H3 hi m c2 y => ?_
    obtain ⟨rfl, y⟩ := y
    obtain ⟨d, q1, q2⟩ := (RepL.mono m _ g4.reverse).getV y
    exact ⟨d, q1, fun _ _ h => h, q2⟩
/-! ### a comprehension given to a name, as a cell -/
theorem sz_setLcC {i : Nat} {y : Str} {py : Pos} {elt tg iter : Expr} {ifs : List Expr} {scope : Scope} {own : List (Str × Nat)} {pos spos : Pos} {zi : ZI} {g : TG} {zg : ZG} {zt : ZT} {ze : ZE} (hN : X.N.Nodup) (hy : X.N[i]? = some y) (hyl : X.env.scope.names.lookup y = some .local)
    (hsw : swapsWith (.ListComp elt [⟨tg, iter, ifs, 0⟩] scope pos) (some (.Name y py)) spos.line X.env = pure true) (hi : IZ C X tg iter zi) (ok : BlkOk X.N X.env.scope scope own) (ho : Own g (own.map (·.2))) (hb : BlkZ C X scope tg ifs elt g zg zt ze)
    (hc : X.calm = true := by rfl) (hs : ∀ x, foldedSetIterable iter X.env x = pure x := by intro _; rfl) : SZ C X (.Assign [.Name y py] (.ListComp elt [⟨tg, iter, ifs, 0⟩] scope pos) spos) (zAsg (zLcC zi zg zt ze (own.map (·.2))) (zgName i)) := by
  obtain ⟨wi, i1, i2⟩ := hi.ex
  obtain ⟨tt, te, b1, b2, b3, b4⟩ := hb.ex
  exact ⟨_, ps_setLc hc hN hy hyl hsw i1 ok (fun s H Ca cl fp => (b1 s H Ca cl fp).1) (fun s H Ca cl fp => (b1 s H Ca cl fp).2.1) (fun s H Ca cl fp => (b1 s H Ca cl fp).2.2) hs, ref_asg (ref_lcC i2 b2 ho b3 b4) (gz_name (C := C) (pos := py) hN hy (.inl hyl) (.inr hyl)).ref⟩
end
/-! ### an expression that is lent the cells' contents and gives a new list -/
def zLendL (z : ZE) : ZE := fun Γ Δ P => z (Γ.map (lent1 Δ)) [] fun d Δ' => ∃ m es, d = .cell m ∧ Δ'[m]? = some (.lst es) ∧ bareTs es = true ∧ P (.lst es) Δ
theorem ref_lendL {K : PySem.W.Frag} {C : CI} {te : TE} {ze : ZE} (h : RefE K C te ze) : RefE K C te (zLendL ze) := fun S A σ H Γ Δ P Q hs hc hz k =>
  h S [] σ H _ [] _ Q (Slots.lent hc hs) ⟨rfl, .nil, (fun a ha => nomatch ha), hc.as, (fun n a o h => nomatch h)⟩ hz fun v d A' H' Δ' e2 c2 r2 p2 => by
    obtain ⟨m, es, rfl, g2, hb, p2⟩ := p2
    cases r2 with
    | cell g1 =>
      rename_i a
      obtain ⟨q1, q2, q3, xs, q4, q5⟩ := hc.adopt e2 c2 g1 g2 hb
      have kp : ∀ a o, H a = some o → H' a = some o := fun a o h => e2.keep a o (fun q => nomatch q) h
      exact k _ _ A H' Δ (Ext.kept kp) (hc.kept kp) (.lst q4 (hc.fresh q1) (c2.dj a (List.mem_of_getElem? g1)) q5) p2
section
variable {C : CI} {X : Cx}
theorem ez_lendL {e : Expr} {ze : ZE} (h : EZ C X e ze) : EZ C X e (zLendL ze) := by
  obtain ⟨t, h1, h2⟩ := h.ex
  exact ⟨t, h1, ref_lendL h2⟩
theorem sz_setLcL {i : Nat} {y : Str} {py : Pos} {elt tg iter : Expr} {ifs : List Expr} {scope : Scope} {own : List (Str × Nat)} {pos spos : Pos} {zi : ZI} {g : TG} {zg : ZG} {zt : ZT} {ze : ZE} (hN : X.N.Nodup) (hy : X.N[i]? = some y) (hyl : X.env.scope.names.lookup y = some .local)
    (hsw : swapsWith (.ListComp elt [⟨tg, iter, ifs, 0⟩] scope pos) (some (.Name y py)) spos.line X.env = pure true) (hi : IZ C X tg iter zi) (ok : BlkOk X.N X.env.scope scope own) (ho : Own g (own.map (·.2))) (hb : BlkZ C X scope tg ifs elt g zg zt ze)
    (hc : X.calm = true := by rfl) (hs : ∀ x, foldedSetIterable iter X.env x = pure x := by intro _; rfl) : SZ C X (.Assign [.Name y py] (.ListComp elt [⟨tg, iter, ifs, 0⟩] scope pos) spos) (zAsg (zLendL (zLcC zi zg zt ze (own.map (·.2)))) (zgName i)) := by
  obtain ⟨wi, i1, i2⟩ := hi.ex
  obtain ⟨tt, te, b1, b2, b3, b4⟩ := hb.ex
  exact ⟨_, ps_setLc hc hN hy hyl hsw i1 ok (fun s H Ca cl fp => (b1 s H Ca cl fp).1) (fun s H Ca cl fp => (b1 s H Ca cl fp).2.1) (fun s H Ca cl fp => (b1 s H Ca cl fp).2.2) hs, ref_asg (ref_lendL (ref_lcC i2 b2 ho b3 b4)) (gz_name (C := C) (pos := py) hN hy (.inl hyl) (.inr hyl)).ref⟩
end
/-! ### a comprehension within a comprehension -/
theorem relab_look {env : PySem.Env} : ∀ {names : List (Str × NameKind)} {x : Str}, names.lookup x = some .cell ∨ names.lookup x = some .free →
    (names.map fun (n, k) => if (k == .free && env.scope.kind == .function && env.kindOf n == some .cell) then (n, NameKind.cell) else (n, k)).lookup x = some .cell ∨
    (names.map fun (n, k) => if (k == .free && env.scope.kind == .function && env.kindOf n == some .cell) then (n, NameKind.cell) else (n, k)).lookup x = some .free
  | [], _, h => by simp at h
  | (n, k) :: r, x, h => by
    rw [List.map_cons]
    by_cases e : x = n
    · subst e
      rw [List.lookup_cons_self] at h
      cases hc : (k == .free && env.scope.kind == .function && env.kindOf x == some .cell) with
      | true =>
        left
        show List.lookup x ((if _ = true then (x, NameKind.cell) else (x, k)) :: _) = _
        rw [hc, if_pos rfl, List.lookup_cons_self]
      | false =>
        have h' : ∀ z, List.lookup x ((if (k == .free && env.scope.kind == .function && env.kindOf x == some .cell) = true then (x, NameKind.cell) else (x, k)) :: z) = some k := fun z => by
          rw [hc, if_neg Bool.false_ne_true, List.lookup_cons_self]
        exact h.imp (fun q => (h' _).trans q) fun q => (h' _).trans q
    · have ne : (x == n) = false := by rw [beq_eq_false_iff_ne]; exact e
      have h2 : r.lookup x = some .cell ∨ r.lookup x = some .free := by
        rw [List.lookup_cons, ne] at h
        exact h
      have ih := relab_look (env := env) h2
      have h' : ∀ z, List.lookup x ((if (k == .free && env.scope.kind == .function && env.kindOf n == some .cell) = true then (n, NameKind.cell) else (n, k)) :: z) = List.lookup x z := fun z => by
        cases hc : (k == .free && env.scope.kind == .function && env.kindOf n == some .cell) with
        | true => rw [if_pos rfl, List.lookup_cons, ne]
        | false => rw [if_neg Bool.false_ne_true, List.lookup_cons, ne]
      exact ih.imp (fun q => (h' _).trans q) fun q => (h' _).trans q
theorem blkOk_in {N : List Str} {sc scope : Scope} {env : PySem.Env} {own : List (Str × Nat)} (h : BlkOk N sc scope own) : BlkOk N (relabel sc env) scope own :=
  ⟨h.kind, h.uniq, h.ix, fun y hy e => relab_look (h.free y hy e), h.own⟩
end Z

/-! Z21: a, b, c = x, y, z with plain local names. -/
namespace Z
open PySem PySem.Spec PyProof.Rows L2
section
variable {C : CI} {X : Cx}
def zPar3 (i j l : Nat) (za : ZA) : ZS := fun Z Γ Δ => za Γ Δ fun ds Δ1 => ∃ a b c, ds = [a, b, c] ∧ Z.nx (((Γ.set i (some a)).set j (some b)).set l (some c)) Δ1
theorem sz_par3 {i j l : Nat} {x y z : Str} {a b c : Expr} {za : ZA} {px py pz pt pos : Pos} {kt k2 pt2} (hN : X.N.Nodup) (hi : X.N[i]? = some x) (hj : X.N[j]? = some y) (hl : X.N[l]? = some z) (hij : i ≠ j) (hil : i ≠ l) (hjl : j ≠ l)
    (hx : X.env.scope.names.lookup x = some .local) (hy : X.env.scope.names.lookup y = some .local) (hz : X.env.scope.names.lookup z = some .local) (ha : AZ C X [a, b, c] za)
    (hw : swappedStores [.Tuple [.Name x px, .Name y py, .Name z pz] kt pt] (.Tuple [a, b, c] k2 pt2) X.env = pure (some [x, y, z]) := by rfl)
    (hs : swapsWithSole [.Tuple [.Name x px, .Name y py, .Name z pz] kt pt] (.Tuple [a, b, c] k2 pt2) pos.line X.env = pure false := by rfl) (hc : X.calm = true := by rfl) :
    SZ C X (.Assign [.Tuple [.Name x px, .Name y py, .Name z pz] kt pt] (.Tuple [a, b, c] k2 pt2) pos) (zPar3 i j l za) := by
  obtain ⟨t, a1, a2⟩ := ha.ex
  refine ⟨_, ps_par3 hc hN hi hj hl hij hil hjl hx hy hz a1 hw hs, fun S A σ H Γ Δ Z N hs hc hz k => a2 S A σ H Γ Δ _ _ hs hc hz fun vs ds A1 H1 Δ1 e1 c1 r1 p => ?_⟩
  obtain ⟨a, b, c, rfl, p⟩ := p
  cases r1 with
  | cons r1 r2 =>
    cases r2 with
    | cons r2 r3 =>
      cases r3 with
      | cons r3 r4 =>
        cases r4
        exact ⟨_, _, _, rfl, k.nx _ A1 H1 _ Δ1 e1 ((((hs.ext e1).set i r1).set j r2).set l r3) c1 p⟩
end
end Z

/-! Z22: own methods; own objects with lists of their own, frozen when they are made. -/
namespace Z
open PySem PySem.Spec PyProof.Rows L2
/-- an instance of the class c whose own dict has no m -/
def insM (C : CI) (Δ : Store) (c : Nat) (m : Str) (x : D) : Prop := (∃ ds, x = .ins c ds ∧ m ∉ C.nms c) ∨ ∃ n fs, x = .cell n ∧ Δ[n]? = some (.ins c fs) ∧ m ∉ fs.map (·.1)
theorem look_no {α : Type} {m : Str} : ∀ {fs : List (Str × α)}, m ∉ fs.map (·.1) → fs.lookup m = none
  | [], _ => rfl
  | (n, v) :: fs, h => by
    rw [List.map_cons, List.mem_cons, not_or] at h
    rw [List.lookup_cons, beq_eq_false_iff_ne.mpr h.1]
    exact look_no h.2
section
variable {K : PySem.W.Frag} {C : CI} {S A : List Addr} {H : Hp} {Δ : Store}
theorem Rep.instM {x : V} {d0 : D} {c : Nat} {m : Str} (hc : Cells K C S A H Δ) (r : Rep K C S A H x d0) (h : insM C Δ c m d0) : ∃ a dx fs, x = .ref a ∧ H a = some (.ins (C.adr c) dx fs) ∧ fs.lookup m = none := by
  rcases h with ⟨ds, rfl, hm⟩ | ⟨n, fs, rfl, q, hm⟩
  · cases r with
    | ins h1 h2 h3 h4 h5 =>
      refine ⟨_, _, _, rfl, h1, look_no fun q => hm ?_⟩
      obtain ⟨p, hp, rfl⟩ := List.mem_map.mp q
      exact (List.of_mem_zip hp).1
  · cases r with
    | cell e =>
      obtain ⟨dx, xs, g1, g2, _⟩ := hc.at_ n _ _ e q
      exact ⟨_, _, _, rfl, g1, look_no (by rw [g2]; exact hm)⟩
end
/-- o.m(e, ..), o an instance of the class c -/
def zMeth (C : CI) (c : Nat) (m : Str) (W : ZRC) (zo : ZE) (za : ZA) : ZE := fun Γ Δ P => zo Γ Δ fun y Δ1 => insM C Δ1 c m y ∧ za Γ Δ1 fun ds Δ2 => W (y :: ds) Δ2 P
section
variable {C : CI} {X : Cx} {o e : Expr} {es : List Expr} {zo : ZE} {za : ZA} {pos apos : Pos} {m : Str} {k : Nat} {g : Addr} {fd : FuncData} {ps : List Str} {W : ZRC}
theorem ref_meth {K : PySem.W.Frag} {c : Nat} {te : TE} {ta : TA} {E : XK} (he : RefE K C te zo) (ha : RefA K C ta za) : RefE K C (tMeth (C.adr c) m (SpZ K C W) [] E te ta) (zMeth C c m W zo za) := fun S A σ H Γ Δ P Q hs hc hz k =>
  he S A σ H Γ Δ _ _ hs hc hz fun v d A1 H1 Δ1 e1 c1 r1 p => by
    obtain ⟨hi, p⟩ := p
    obtain ⟨a, dx, fs, rfl, g1, g2⟩ := r1.instM c1 hi
    refine ⟨a, dx, fs, rfl, g1, g2, ha S A1 σ H1 Γ Δ1 _ _ (hs.ext e1) c1 p fun vs ds A2 H2 Δ2 e2 c2 r2 p2 => ?_⟩
    exact ⟨S, A2, Δ2, d :: ds, P, by rw [List.append_nil]; exact .cons (r1.ext e2) r2, c2, p2, fun v d A' H' Δ' e3 c3 r3 p3 => k v d A' H' Δ' ((e1.trans e2).trans e3) c3 r3 p3⟩
theorem ez_meth {c : Nat} {pl : Sem Bool} (ho : EZ C X o zo) (cl : Cls X.K (C.adr c)) (hm : Meth X.K (C.adr c) m g) (F : FnOk X.prog X.w X.K X.mg X.base CX0 k g fd ps (SpZ X.K C W)) (hr : Room k X.A) (hb : Binds X.K fd ps []) (ha : AZ C X (e :: es) za)
    (hst : starEach (e :: es) X.env = (false, eval e X.env) :: starEach es X.env := by rfl) (hpl : (backTo pos (starEach es X.env)).any (·.1) = false := by rfl)
    (ht : eval (.Call (.Attribute o m apos) (e :: es) [] pos) X.env = (do
      let ov ← eval o X.env
      standAt apos.atName
      let (f, first) ← holding [ov] (getMethod ov m pl)
      callWith pos f first (backTo pos (starEach (e :: es) X.env)) (backToKw pos (keywordEach [] X.env))) := by rfl) :
    EZ C X (.Call (.Attribute o m apos) (e :: es) [] pos) (zMeth C c m W zo za) := by
  obtain ⟨t, a1, a2⟩ := ho.ex
  obtain ⟨u, b1, b2⟩ := ha.ex
  exact ⟨_, pe_meth a1 cl hm F hr hb .nil (E := E0) pass0 b1 hst hpl ht, ref_meth a2 b2⟩
theorem ez_meth0 {c : Nat} {pl : Sem Bool} (ho : EZ C X o zo) (cl : Cls X.K (C.adr c)) (hm : Meth X.K (C.adr c) m g) (F : FnOk X.prog X.w X.K X.mg X.base CX0 k g fd ps (SpZ X.K C W)) (hr : Room k X.A) (hb : Binds X.K fd ps [])
    (ht : eval (.Call (.Attribute o m apos) [] [] pos) X.env = (do
      let ov ← eval o X.env
      standAt apos.atName
      let (f, first) ← holding [ov] (getMethod ov m pl)
      callWith pos f first (backTo pos (starEach [] X.env)) (backToKw pos (keywordEach [] X.env))) := by rfl) :
    EZ C X (.Call (.Attribute o m apos) [] [] pos) (zMeth C c m W zo zNil) := by
  obtain ⟨t, a1, a2⟩ := ho.ex
  exact ⟨_, pe_meth0 a1 cl hm F hr hb .nil (E := E0) pass0 ht, ref_meth a2 (fun S A σ H Γ Δ P Q hs hc hz k => k [] [] A H Δ (Ext.refl _ _) hc .nil hz)⟩
end
/-! ### frozen with all that is its own -/
mutual
theorem below_mono {m m' : Nat} (h : m ≤ m') : ∀ d : D, below m d = true → below m' d = true
  | .cell n, q => by
    have q : decide (n < m) = true := q
    show decide (n < m') = true
    have := of_decide_eq_true q
    exact decide_eq_true (by omega)
  | .tup ds, q => belowL_mono h ds q
  | .lst ds, q => belowL_mono h ds q
  | .ins _ ds, q => belowL_mono h ds q
  | .dct _ ds, q => belowL_mono h ds q
  | .non, _ => rfl
  | .bl _, _ => rfl
  | .int _, _ => rfl
  | .str _, _ => rfl
  | .ty _, _ => rfl
  | .cls _, _ => rfl
  | .scr _, _ => rfl
  | .ktup _, _ => rfl
  | .exc _, _ => rfl
theorem belowL_mono {m m' : Nat} (h : m ≤ m') : ∀ ds : List D, belowL m ds = true → belowL m' ds = true
  | [], _ => rfl
  | d :: ds, q => by
    have q : (below m d && belowL m ds) = true := q
    rw [Bool.and_eq_true] at q
    show (below m' d && belowL m' ds) = true
    rw [below_mono h d q.1, belowL_mono h ds q.2]
    rfl
end
/-- cells from m on by their contents, down to a depth -/
def frx (C : CI) (Δ : Store) (m : Nat) : Nat → D → D
  | 0, d => d
  | k + 1, .cell n => if n < m then .cell n else match Δ[n]? with
    | some (.lst ds) => .lst (ds.map (frx C Δ m k))
    | some (.ins c fs) => if fs.map (·.1) = C.nms c then .ins c ((fs.map (·.2)).map (frx C Δ m k)) else .cell n
    | _ => .cell n
  | k + 1, .lst ds => .lst (ds.map (frx C Δ m k))
  | k + 1, .tup ds => .tup (ds.map (frx C Δ m k))
  | k + 1, .ins c ds => .ins c (ds.map (frx C Δ m k))
  | _ + 1, .scr ns => .scr ns
  | _ + 1, .non => .non
  | _ + 1, .ktup ns => .ktup ns
  | _ + 1, .exc c => .exc c
  | _ + 1, .bl b => .bl b
  | _ + 1, .int i => .int i
  | _ + 1, .str x => .str x
  | _ + 1, .ty n => .ty n
  | _ + 1, .cls c => .cls c
  | _ + 1, .dct ks ds => .dct ks ds
section
variable {K : PySem.W.Frag} {C : CI} {S : List Addr} {H : Hp} {Δ : Store}
theorem Rep.dropB : ∀ (B A : List Addr) (d : D) {v : V}, Z.below A.length d = true → Rep K C S (A ++ B) H v d → Rep K C S A H v d
  | [], A, d, v, _, r => by rw [List.append_nil] at r; exact r
  | x :: B, A, d, v, hb, r => by
    have e : A ++ x :: B = (A ++ [x]) ++ B := by simp
    rw [e] at r
    exact Rep.drop d hb (Rep.dropB B (A ++ [x]) d (below_mono (by simp) d hb) r)
theorem RepL.dropB (B A : List Addr) : ∀ (ds : List D) {vs : List V}, Z.belowL A.length ds = true → RepL K C S (A ++ B) H vs ds → RepL K C S A H vs ds
  | [], _, _, .nil => .nil
  | d :: ds, _, hb, .cons h r => by
    have hb : (Z.below A.length d && Z.belowL A.length ds) = true := hb
    rw [Bool.and_eq_true] at hb
    exact .cons (Rep.dropB B A d hb.1 h) (RepL.dropB B A ds hb.2 r)
theorem repL_map {A A' : List Addr} {m : Nat} {f : D → D} (hf : ∀ (d : D) (v : V), Z.below m (f d) = true → Rep K C S A' H v d → Rep K C S A H v (f d)) : ∀ {ds : List D} {vs : List V}, Z.belowL m (ds.map f) = true → RepL K C S A' H vs ds → RepL K C S A H vs (ds.map f)
  | [], _, _, .nil => .nil
  | d :: ds, _, hb, .cons h r => by
    have hb : (Z.below m (f d) && Z.belowL m (ds.map f)) = true := hb
    rw [Bool.and_eq_true] at hb
    exact .cons (hf d _ hb.1 h) (repL_map hf hb.2 r)
theorem Rep.frx {A B : List Addr} (hc : Cells K C S (A ++ B) H Δ) : ∀ (k : Nat) (d : D) (v : V), Z.below A.length (Z.frx C Δ A.length k d) = true → Rep K C S (A ++ B) H v d → Rep K C S A H v (Z.frx C Δ A.length k d)
  | 0, d, v, hb, r => Rep.dropB B A d hb r
  | k + 1, d, v, hb, r => by
    have ih := Rep.frx hc k
    cases r with
    | cell e =>
      rename_i a n
      unfold Z.frx at hb ⊢
      by_cases hn : n < A.length
      · rw [if_pos hn] at hb ⊢
        rw [List.getElem?_append_left hn] at e
        exact .cell e
      · rw [if_neg hn] at hb ⊢
        have haA : a ∉ A := fun h => by
          obtain ⟨j, hj⟩ := List.mem_iff_getElem?.mp h
          have hjl := (List.getElem?_eq_some_iff.mp hj).1
          have e2 : (A ++ B)[j]? = some a := by rw [List.getElem?_append_left hjl]; exact hj
          have := (List.getElem?_inj (List.getElem?_eq_some_iff.mp e2).1 hc.nd).mp (e2.trans e.symm)
          omega
        have haS : a ∉ S := hc.dj a (List.mem_of_getElem? e)
        cases q : Δ[n]? with
        | none => simp only [q] at hb; exact absurd (of_decide_eq_true hb) hn
        | some o =>
          cases o with
          | dct _ _ => simp only [q] at hb; exact absurd (of_decide_eq_true hb) hn
          | lst ds =>
            simp only [q] at hb ⊢
            obtain ⟨xs, g1, g2⟩ := hc.at_ n a _ e q
            exact .lst g1 haA haS (repL_map (fun d v => ih d v) hb g2)
          | ins c fs =>
            simp only [q] at hb ⊢
            by_cases hf : fs.map (·.1) = C.nms c
            · rw [if_pos hf] at hb ⊢
              obtain ⟨dx, xs, g1, g2, g3⟩ := hc.at_ n a _ e q
              rw [hf] at g2
              rw [zip_of g2] at g1
              refine .ins g1 haA haS ?_ (repL_map (fun d v => ih d v) hb g3)
              rw [List.length_map, ← g2, List.length_map]
            · rw [if_neg hf] at hb
              exact absurd (of_decide_eq_true hb) hn
    | scr e => 
      unfold Z.frx at hb ⊢
      refine .scr ?_
      rcases e with ⟨e1, e2, e3⟩ | e
      · exact .inl ⟨e1, fun h => e2 (List.mem_append_left _ h), e3⟩
      · exact .inr e
    | non => exact .non
    | bl b => exact .bl b
    | int i => exact .int i
    | str x => exact .str x
    | ty n => exact .ty n
    | cls n => exact .cls n
    | ktup h => exact .ktup h
    | exc h1 h2 h3 => exact .exc h1 (fun h => h2 (List.mem_append_left _ h)) h3
    | tup h1 h2 h3 r => unfold Z.frx at hb ⊢; exact .tup h1 (fun h => h2 (List.mem_append_left _ h)) h3 (repL_map (fun d v => ih d v) hb r)
    | lst h1 h2 h3 r => unfold Z.frx at hb ⊢; exact .lst h1 (fun h => h2 (List.mem_append_left _ h)) h3 (repL_map (fun d v => ih d v) hb r)
    | ins h1 h2 h3 h4 r => unfold Z.frx at hb ⊢; exact .ins h1 (fun h => h2 (List.mem_append_left _ h)) h3 h4 (repL_map (fun d v => ih d v) hb r)
    | dct h1 h2 h3 h4 r => unfold Z.frx at hb ⊢; exact .dct h1 (fun h => h2 (List.mem_append_left _ h)) h3 h4 (RepL.dropB B A _ hb r)
theorem Cells.freezeB {H0 : Hp} {A B : List Addr} {r : Store} (c1 : Cells K C S A H0 Δ) (hc : Cells K C S (A ++ B) H (Δ ++ r)) : Cells K C S A H Δ := by
  have lenΔ := c1.len
  refine ⟨c1.len, c1.nd, c1.dj, hc.as, fun n a o h1 h2 => ?_⟩
  have hn : n < A.length := (List.getElem?_eq_some_iff.mp h1).1
  have q := hc.at_ n a o (by rw [List.getElem?_append_left hn]; exact h1) (by rw [List.getElem?_append_left (by rw [← lenΔ]; exact hn)]; exact h2)
  have q0 := c1.at_ n a o h1 h2
  cases o with
  | lst ds =>
    obtain ⟨xs, g1, g2⟩ := q
    obtain ⟨_, _, g3⟩ := q0
    exact ⟨xs, g1, RepL.dropB B A ds (RepL.blw ds g3) g2⟩
  | ins c fs =>
    obtain ⟨dx, xs, g1, g2, g3⟩ := q
    obtain ⟨_, _, _, _, g4⟩ := q0
    exact ⟨dx, xs, g1, g2, RepL.dropB B A _ (RepL.blw _ g4) g3⟩
  | dct ks ds =>
    obtain ⟨xs, g1, g2, g3⟩ := q
    obtain ⟨_, _, _, g4⟩ := q0
    exact ⟨xs, g1, g2, RepL.dropB B A _ (RepL.blw _ g4) g3⟩
end
/-- C(..), never changed again, with all lists of its own: as data -/
def zMakeX (C : CI) (c : Nat) (W : ZRC) (dds : List D) (za : ZA) : ZE := fun Γ Δ P => za Γ Δ fun ds Δ1 => W (.cell Δ1.length :: (ds ++ dds)) (Δ1 ++ [.ins c []]) fun v Δ2 => v = .non ∧ ∃ r, Δ2 = Δ1 ++ r ∧ Z.below Δ1.length (frx C Δ2 Δ1.length 4 (.cell Δ1.length)) = true ∧ P (frx C Δ2 Δ1.length 4 (.cell Δ1.length)) Δ1
section
variable {C : CI} {X : Cx} {e : Expr} {es : List Expr} {za : ZA} {pos p : Pos} {x : Str} {k : Nat} {f : Addr} {fd : FuncData} {ps : List Str} {W : ZRC} {dvs : List V} {dds : List D} {ds : List Value}
theorem ref_makeX {K : PySem.W.Frag} {c : Nat} {ta : TA} {E : XK} (ha : RefA K C ta za) (hdd : ∀ S A H, RepL K C S A H dvs dds) : RefE K C (tMake (C.adr c) (SpZ K C W) dvs E ta) (zMakeX C c W dds za) := fun S A σ H Γ Δ P Q hs hc hz k =>
  ha S A σ H Γ Δ _ _ hs hc hz fun vs ds A1 H1 Δ1 e1 c1 r1 p x dx hx hdx hne => by
    have hx0 : upd H1 dx (.own x) x = none := by rw [upd_ne (Ne.symm hne)]; exact hx
    have e2 : Ext A1 H1 A1 (upd H1 dx (.own x)) := Ext.new hdx
    have e3 : Ext A1 (upd H1 dx (.own x)) (A1 ++ [x]) (upd (upd H1 dx (.own x)) x (.ins (C.adr c) dx [])) := Ext.newCell hx0
    have e23 := e2.trans e3
    refine ⟨S, A1 ++ [x], Δ1 ++ [.ins c []], .cell Δ1.length :: (ds ++ dds), _, .cons (.cell ?_) ((r1.ext e23).append (hdd _ _ _)), (c1.new hdx).newO (o := .ins c []) hx0 ⟨dx, [], upd_same, rfl, .nil⟩, p, fun v d A' H' Δ' e4 c4 r4 p4 => ?_⟩
    · rw [← c1.len, List.getElem?_append_right (Nat.le_refl _), Nat.sub_self] <;> rfl
    · obtain ⟨rfl, r, rfl, hb, p4⟩ := p4
      cases r4
      refine ⟨rfl, ?_⟩
      obtain ⟨B, hB, _⟩ := e4.pre
      have hB2 : A' = A1 ++ ([x] ++ B) := by rw [hB, List.append_assoc]
      subst hB2
      have c5 := c1.freezeB c4
      rw [← c1.len] at hb p4
      have rx : Rep K C S (A1 ++ ([x] ++ B)) H' (.ref x) (.cell A1.length) := .cell (by rw [List.getElem?_append_right (Nat.le_refl _), Nat.sub_self] <;> rfl)
      have r5 := Rep.frx c4 4 _ _ hb rx
      have e14 := e23.trans e4
      exact k _ _ A1 H' Δ1 (e1.trans ⟨⟨[], by simp, by simp⟩, fun a o h1 h2 => e14.keep a o h1 h2, e14.trk⟩) c5 r5 p4
theorem ez_makeX {c : Nat} (M : Mk X.K (C.adr c) f) (F : FnOk X.prog X.w X.K X.mg X.base CX0 k f fd ps (SpZ X.K C W)) (hr : Room (k + 1) X.A) (hm : X.mg x = some (.ref (C.adr c))) (hb : Binds X.K fd ps ds) (hd : Vals dvs ds) (hdd : ∀ S A H, RepL X.K C S A H dvs dds)
    (ha : AZ C X (e :: es) za) (hg : Gl X x := by rfl) (hdb : (x == ("__debug__" : Str)) = false := by decide) (he : starEach (e :: es) X.env = (false, eval e X.env) :: starEach es X.env := by rfl) (hpl : (backTo pos (starEach es X.env)).any (·.1) = false := by rfl) :
    EZ C X (.Call (.Name x p) (e :: es) [] pos) (zMakeX C c W dds za) := by
  obtain ⟨t, a1, a2⟩ := ha.ex
  exact ⟨_, pe_make M F hr hg hm hb hd (E := E0) pass0 a1 hdb he hpl, ref_makeX a2 hdd⟩
end
end Z

/-! Z23: name op= e, divmod, list.index of ints, comprehensions lent with all that the objects hold. -/
namespace Z
open PySem PySem.Spec PyProof.Rows L2
/-! ### divmod -/
def zDivmod : ZRC := fun ds Δ P => ∃ i j : Int, ds = [.int i, .int j] ∧ CDivP i j ∧ P (.tup [.int (i / j), .int (i % j)]) Δ
section
variable {C : CI} {X : Cx}
theorem cz_divmod : CallZ C X (.builtin "divmod") zDivmod := ⟨_, call_divmodW, fun S A H Δ xs ds P Q hc r hz k => by
  obtain ⟨i, j, rfl, q1, q⟩ := hz
  obtain ⟨v, v', rfl, rv, rv'⟩ := two_rep r
  cases rv
  cases rv'
  refine ⟨i, j, rfl, q1, fun p hp => ?_⟩
  exact k _ _ A _ Δ (Ext.new hp) (hc.new hp) (.tup upd_same (hc.fresh hp) (fun h => hc.as p h hp) (.cons (.int _) (.cons (.int _) .nil))) q⟩
end
/-! ### name op= e -/
def zAug (i : Nat) (f : Int → Int → Int) (ze : ZE) : ZS := fun Z Γ Δ => ∃ a : Int, Γ[i]? = some (some (.int a)) ∧ ze Γ Δ fun d Δ1 => ∃ b : Int, d = .int b ∧ Z.nx (Γ.set i (some (.int (f a b)))) Δ1
section
variable {C : CI} {X : Cx} {i : Nat} {x : Str} {e : Expr} {ze : ZE} {op : Operator} {f : Int → Int → Int} {pos pos' : Pos}
theorem sz_aug (hN : X.N.Nodup) (h : EZ C X e ze) (ho : PIp X op (ipI f)) (hi : X.N[i]? = some x := by rfl) (hx : Loc X.env.scope x := by first | exact Or.inl rfl | exact Or.inr rfl)
    (hf : X.fn x = true ∨ X.env.scope.names.lookup x = some .local := by first | exact .inl rfl | exact .inr rfl | assumption) : SZ C X (.AugAssign (.Name x pos') op e pos) (zAug i f ze) := by
  obtain ⟨t, a1, a2⟩ := h.ex
  refine ⟨_, ps_aug hN hi hx a1 ho hf, fun S A σ H Γ Δ Z N hs hc hz k => ?_⟩
  obtain ⟨a, g, p⟩ := hz
  obtain ⟨v, g1, r⟩ := hs.at_ i _ g
  cases r
  refine ⟨_, g1, a2 S A σ H Γ Δ _ _ hs hc p fun v d A1 H1 Δ1 e1 c1 r1 p1 => ?_⟩
  obtain ⟨b, rfl, p1⟩ := p1
  cases r1
  exact ⟨a, b, rfl, rfl, k.nx _ A1 H1 _ Δ1 e1 ((hs.ext e1).set i (.int _)) c1 p1⟩
end
/-! ### comprehensions lent with all that the objects hold -/
def lentX (C : CI) (Δ : Store) : Option D → Option D
  | some d => if Z.below 0 (frx C Δ 0 4 d) = true then some (frx C Δ 0 4 d) else none
  | none => none
section
variable {K : PySem.W.Frag} {C : CI} {S A : List Addr} {H : Hp} {Δ : Store}
theorem Slots.lentX {σ : L2.St} {Γ : Env} (c : Cells K C S A H Δ) (s : Slots K C S A H σ Γ) : Slots K C S [] H σ (Γ.map (Z.lentX C Δ)) := by
  refine ⟨by rw [List.length_map]; exact s.len, fun i d h => ?_⟩
  rw [List.getElem?_map] at h
  cases q : Γ[i]? with
  | none => rw [q] at h; cases h
  | some o =>
    rw [q] at h
    cases o with
    | none => cases h
    | some d0 =>
      have h : (if Z.below 0 (frx C Δ 0 4 d0) = true then some (frx C Δ 0 4 d0) else none) = some d := Option.some.inj h
      by_cases hb : Z.below 0 (frx C Δ 0 4 d0) = true
      · rw [if_pos hb] at h
        cases h
        obtain ⟨v, g1, r⟩ := s.at_ i d0 q
        exact ⟨v, g1, Rep.frx (A := []) (B := A) c 4 d0 v hb r⟩
      · rw [if_neg hb] at h
        cases h
end
def zLendX (C : CI) (z : ZE) : ZE := fun Γ Δ P => z (Γ.map (lentX C Δ)) [] fun d Δ' => ∃ m es, d = .cell m ∧ Δ'[m]? = some (.lst es) ∧ bareTs es = true ∧ P (.lst es) Δ
theorem ref_lendX {K : PySem.W.Frag} {C : CI} {te : TE} {ze : ZE} (h : RefE K C te ze) : RefE K C te (zLendX C ze) := fun S A σ H Γ Δ P Q hs hc hz k =>
  h S [] σ H _ [] _ Q (Slots.lentX hc hs) ⟨rfl, .nil, (fun a ha => nomatch ha), hc.as, (fun n a o h => nomatch h)⟩ hz fun v d A' H' Δ' e2 c2 r2 p2 => by
    obtain ⟨m, es, rfl, g2, hb, p2⟩ := p2
    cases r2 with
    | cell g1 =>
      rename_i a
      obtain ⟨q1, q2, q3, xs, q4, q5⟩ := hc.adopt e2 c2 g1 g2 hb
      have kp : ∀ a o, H a = some o → H' a = some o := fun a o h => e2.keep a o (fun q => nomatch q) h
      exact k _ _ A H' Δ (Ext.kept kp) (hc.kept kp) (.lst q4 (hc.fresh q1) (c2.dj a (List.mem_of_getElem? g1)) q5) p2
section
variable {C : CI} {X : Cx}
theorem ez_lendX {e : Expr} {ze : ZE} (h : EZ C X e ze) : EZ C X e (zLendX C ze) := by
  obtain ⟨t, h1, h2⟩ := h.ex
  exact ⟨t, h1, ref_lendX h2⟩
theorem sz_setLcX {i : Nat} {y : Str} {py : Pos} {elt tg iter : Expr} {ifs : List Expr} {scope : Scope} {own : List (Str × Nat)} {pos spos : Pos} {zi : ZI} {g : TG} {zg : ZG} {zt : ZT} {ze : ZE} (hN : X.N.Nodup) (hy : X.N[i]? = some y) (hyl : X.env.scope.names.lookup y = some .local)
    (hsw : swapsWith (.ListComp elt [⟨tg, iter, ifs, 0⟩] scope pos) (some (.Name y py)) spos.line X.env = pure true) (hi : IZ C X tg iter zi) (ok : BlkOk X.N X.env.scope scope own) (ho : Own g (own.map (·.2))) (hb : BlkZ C X scope tg ifs elt g zg zt ze)
    (hc : X.calm = true := by rfl) (hs : ∀ x, foldedSetIterable iter X.env x = pure x := by intro _; rfl) : SZ C X (.Assign [.Name y py] (.ListComp elt [⟨tg, iter, ifs, 0⟩] scope pos) spos) (zAsg (zLendX C (zLcC zi zg zt ze (own.map (·.2)))) (zgName i)) := by
  obtain ⟨wi, i1, i2⟩ := hi.ex
  obtain ⟨tt, te, b1, b2, b3, b4⟩ := hb.ex
  exact ⟨_, ps_setLc hc hN hy hyl hsw i1 ok (fun s H Ca cl fp => (b1 s H Ca cl fp).1) (fun s H Ca cl fp => (b1 s H Ca cl fp).2.1) (fun s H Ca cl fp => (b1 s H Ca cl fp).2.2) hs, ref_asg (ref_lendX (ref_lcC i2 b2 ho b3 b4)) (gz_name (C := C) (pos := py) hN hy (.inl hyl) (.inr hyl)).ref⟩
end
/-! ### xs.index(n), ints -/
def zIndex (zo : ZE) (za : ZA) : ZE := fun Γ Δ P => zo Γ Δ fun o Δ1 => ∃ ns : List Int, o = .lst (ns.map D.int) ∧ za Γ Δ1 fun as Δ2 => ∃ (k : Int) (j : Nat), as = [.int k] ∧ ns[j]? = some k ∧ (∀ m, m < j → ns[m]? ≠ some k) ∧ P (.int (j : Nat)) Δ2
section
variable {C : CI} {X : Cx} {o e : Expr} {es : List Expr} {zo : ZE} {za : ZA} {apos cpos : Pos}
theorem ez_index (ho : EZ C X o zo) (ha : AZ C X (e :: es) za)
    (hbase : attributeBase o "index" X.env (eval o X.env) = eval o X.env := by rfl)
    (hfew : ((backTo cpos (starEach (e :: es) X.env)).all (fun x => !x.1) && (backToKw cpos (keywordEach [] X.env)).all (fun x => x.1.isSome)
      && decide ((e :: es).length + ([] : List Keyword).length + (if ([] : List Keyword).isEmpty then 0 else 1) < 30)) = true := by rfl)
    (hline : (apos.endLine == cpos.line) = true := by rfl) (hs : starEach (e :: es) X.env = (false, eval e X.env) :: starEach es X.env := by rfl) (hplain : (backTo cpos (starEach es X.env)).any (·.1) = false := by rfl) :
    EZ C X (.Call (.Attribute o "index" apos) (e :: es) [] cpos) (zIndex zo za) := by
  obtain ⟨t, o1, o2⟩ := ho.ex
  obtain ⟨u, a1, a2⟩ := ha.ex
  refine ⟨_, pe_bm PySem.F.plainAttrs_list PySem.F.slot_list_index PySem.F.type_list_index mt_index o1 a1 hbase hfew hline hs hplain, fun S A σ H Γ Δ P Q hs hc hz k => o2 S A σ H Γ Δ _ _ hs hc hz fun v d A1 H1 Δ1 e1 c1 r1 p => ?_⟩
  obtain ⟨ns, rfl, p⟩ := p
  cases r1 with
  | lst g gA gS gr =>
    refine ⟨.inl ⟨rfl, _, SqL.of g⟩, a2 S A1 σ H1 Γ Δ1 _ _ (hs.ext e1) c1 p fun vs as A2 H2 Δ2 e2 c2 r2 p2 => ?_⟩
    obtain ⟨y, j, rfl, hj, hno, p2⟩ := p2
    obtain ⟨w, rfl, rw_⟩ := one_rep r2
    cases rw_
    have gx := repL_int gr
    subst gx
    have g2 := e2.keep _ _ gA g
    refine ⟨_, ns.map V.int, .int y, j, .int y, rfl, rfl, SqL.of g2, rfl, ?_, by rw [List.getElem?_map, hj]; rfl, by show (y == y) = true; simp, fun m z' hm hz' => ?_, k _ _ A2 H2 Δ2 (e1.trans e2) c2 (.int _) p2⟩
    · rw [List.all_eq_true]
      intro x hx
      obtain ⟨i, _, rfl⟩ := List.mem_map.mp hx
      rfl
    · rw [List.getElem?_map] at hz'
      cases q : ns[m]? with
      | none => rw [q] at hz'; cases hz'
      | some n =>
        rw [q] at hz'
        cases hz'
        show (n == y) = false
        rw [beq_eq_false_iff_ne]
        exact fun e => hno m hm (by rw [q, e])
end
/-! ### t + u, tuples with items -/
def zCatT : ZR2 := fun x y Δ P => ∃ ds es, x = .tup ds ∧ y = .tup es ∧ ds ≠ [] ∧ es ≠ [] ∧ ds.length + es.length ≤ 100000 ∧ P (.tup (ds ++ es)) Δ
section
variable {C : CI} {X : Cx}
theorem oz_catT : OpZ C X (binaryOp .Add) zCatT := ⟨_, op_catT, fun S A H Δ x y dx dy P Q hc rx ry hz k => by
  obtain ⟨ds, es, rfl, rfl, h1, h2, hl, p⟩ := hz
  cases rx with
  | tup a1 a2 a3 a4 =>
    cases ry with
    | tup b1 b2 b3 b4 =>
      rename_i a xs b ys
      have n1 : xs ≠ [] := fun q => h1 (List.length_eq_zero_iff.mp (by rw [← a4.length, q]; rfl))
      have n2 : ys ≠ [] := fun q => h2 (List.length_eq_zero_iff.mp (by rw [← b4.length, q]; rfl))
      refine ⟨a, b, xs, ys, rfl, rfl, SqT.of a1, SqT.of b1, n1, sz100 (by rw [a4.length, b4.length]; exact hl), fun q => absurd q n2, fun _ q hq => ?_⟩
      have e := Ext.new (A := A) (o := .tup (xs ++ ys)) hq
      exact k _ _ A _ Δ e (hc.new hq) (.tup upd_same (hc.fresh hq) (hc.aside hq) ((a4.append b4).ext e)) p⟩
end
end Z

/-! Z24: sum of a tuple of ints. -/
namespace Z
open PySem PySem.Spec PyProof.Rows L2
section
variable {C : CI} {X : Cx}
theorem cr_sumA (hc : X.calm = true) : CallR X (.builtin "sum") (fun vs H Q => ∃ (a : Addr) (ns : List Int), vs = [V.ref a] ∧ (SqL X.K H a (ns.map V.int) ∨ SqT X.K H a (ns.map V.int)) ∧ Q (.int ns.sum) H) := by
  intro pins s σ H vs us Q I r h
  obtain ⟨a, ns, rfl, hs, q⟩ := h
  rcases hs with hs | hs
  · exact cr_sum hc pins s σ H _ us Q I r ⟨a, ns, rfl, hs, q⟩
  · obtain ⟨its, rv, hl, _⟩ := I.tuple hs
    rw [Vals.ref1 r]
    obtain ⟨xs, e⟩ := rv.ints.allInts.items
    have hn : numsOf (intItems xs).toList = ns := by rw [← e]; exact rv.ints.numsOf
    rw [nums_intItems] at hn
    rw [e] at hl
    refine PySem.W.ktm_sumG (I.ok.hd hc) hl fun h' tk t' hk => ?_
    rw [preSum_eq, List.take_of_length_le (by simp), hn]
    exact ⟨.int _, H, I.kept hk, ⟨_, rfl⟩, q⟩
/-- sum of a list or a tuple of ints -/
def zSumA : ZRC := fun ds Δ P => ∃ (d : D) (ns : List Int), ds = [d] ∧ seqD Δ d = some (ns.map D.int) ∧ P (.int ns.sum) Δ
theorem cz_sumA (hc : X.calm = true := by rfl) : CallZ C X (.builtin "sum") zSumA := ⟨_, cr_sumA hc, fun S A H Δ xs ds P Q hc r hz k => by
  obtain ⟨d, ns, rfl, hd, q⟩ := hz
  obtain ⟨v, rfl, rv⟩ := one_rep r
  obtain ⟨pa, ys, rfl, hq, rr⟩ := Rep.seq hc rv hd
  obtain rfl := repL_int rr
  exact ⟨pa, ns, rfl, hq, k _ _ A H Δ (Ext.refl _ _) hc (.int _) q⟩⟩
end
end Z

/-! Z25: a for over a list that is a cell, the same all along. -/
namespace Z
open PySem PySem.Spec PyProof.Rows L2
def loopC (n : Nat) (ds : List D) (body : D → ZS) (Z : ZEnds) : List D → Env → Store → Prop
  | [], Γ, Δ => Δ[n]? = some (.lst ds) ∧ Z.nx Γ Δ
  | x :: xs, Γ, Δ => Δ[n]? = some (.lst ds) ∧ body x { Z with nx := loopC n ds body Z xs, ct := loopC n ds body Z xs, bk := Z.nx } Γ Δ
def zForC (z : ZE) (g : ZG) (zs : ZS) : ZS := fun Z Γ Δ => z Γ Δ fun d Δ1 => ∃ n ds, d = .cell n ∧ loopC n ds (fun x Z' Γ' Δ' => g x Γ' Δ' fun Γ2 Δ2 => zs Z' Γ2 Δ2) Z ds Γ Δ1
theorem loopC_at {n : Nat} {ds : List D} {body : D → ZS} {Z : ZEnds} {xs : List D} {Γ : Env} {Δ : Store} (h : loopC n ds body Z xs Γ Δ) : Δ[n]? = some (.lst ds) := by
  cases xs with
  | nil => exact h.1
  | cons x xs => exact h.1
theorem Cells.lst_ {K : PySem.W.Frag} {C : CI} {S A : List Addr} {H : Hp} {Δ : Store} {n : Nat} {a : Addr} {ds : List D} (c : Cells K C S A H Δ) (ha : A[n]? = some a) (h : Δ[n]? = some (.lst ds)) : ∃ xs, H a = some (.lst xs) ∧ RepL K C S A H xs ds := c.at_ n a _ ha h
section
variable {C : CI} {X : Cx} {pos : Pos}
theorem sz_forC {tg iter : Expr} {body : List Stmt} {z : ZE} {g : TG} {zg : ZG} {zb : ZS} (hi : EZ C X iter z) (hg : GZ C X tg g zg) (hb : SZs C X body zb) (hp : PassesOwn (model X.prog X.w) X.A X.env X.xe := by exact PassesOwn.never) (hc : X.calm = true := by rfl)
    (hs : ∀ x, foldedSetIterable iter X.env x = pure x := by intro _; rfl) : SZ C X (.For tg iter body [] pos) (zForC z zg zb) := by
  obtain ⟨t, i1, i2⟩ := hi.ex
  obtain ⟨tb, b1, b2⟩ := hb.ex
  refine ⟨_, ps_for hp hc (pi_list i1) hg.pg b1 hs, fun S A σ H Γ Δ Z N hs hc hz k => i2 S A σ H Γ Δ _ _ hs hc hz fun v d A1 H1 Δ1 e1 c1 r1 p => ?_⟩
  obtain ⟨n, ds, rfl, p⟩ := p
  cases r1 with
  | cell ha =>
    rename_i a
    obtain ⟨xs1, g1, g2⟩ := c1.lst_ ha (loopC_at p)
    refine ⟨a, rfl, ⟨xs1, SqL.of g1⟩, ?_⟩
    have w : Walk (Itl X.K a) ds.length (fun H => ∃ xs, H a = some (.lst xs) ∧ xs.length = ds.length) (fun i H x H' => H' = H ∧ ∀ xs, H a = some (.lst xs) → xs[i]? = some x) :=
      ⟨fun i H hi ⟨xs, q, l⟩ => ⟨xs, xs[i], SqL.of q, List.getElem?_eq_getElem (by omega)⟩, fun H ⟨xs, q, l⟩ => ⟨xs, SqL.of q, by omega⟩, fun i H x H' hi ⟨xs, q, l⟩ y => ⟨y.1, fun xs q => y.2 xs (SqL.of q)⟩⟩
    refine for_it w (fun i σ2 H2 => ∃ A2 Γ2 Δ2, Ext A1 H1 A2 H2 ∧ Slots X.K C S A2 H2 σ2 Γ2 ∧ Cells X.K C S A2 H2 Δ2 ∧ loopC n ds (fun x Z' Γ' Δ' => zg x Γ' Δ' fun Γ2 Δ2 => zb Z' Γ2 Δ2) Z (ds.drop i) Γ2 Δ2)
      ⟨A1, Γ, Δ1, Ext.refl _ _, hs.ext e1, c1, p⟩ (fun i σ2 H2 _ ⟨A2, Γ2, Δ2, e2, _, c2, q⟩ => ?_) ?_ ?_
    · obtain ⟨B, hB, _⟩ := e2.pre
      have ha2 : A2[n]? = some a := by rw [hB, List.getElem?_append_left (List.getElem?_eq_some_iff.mp ha).1]; exact ha
      obtain ⟨xs, q1, q2⟩ := c2.lst_ ha2 (loopC_at q)
      exact ⟨xs, q1, q2.length⟩
    · rintro i x σ2 H2 H3 hi ⟨A2, Γ2, Δ2, e2, s2, c2, q⟩ ⟨rfl, y⟩
      obtain ⟨B, hB, _⟩ := e2.pre
      have ha2 : A2[n]? = some a := by rw [hB, List.getElem?_append_left (List.getElem?_eq_some_iff.mp ha).1]; exact ha
      obtain ⟨xs, q1, q2⟩ := c2.lst_ ha2 (loopC_at q)
      obtain ⟨d, d1, d2⟩ := q2.getV (y xs q1)
      have hd : ds.drop i = d :: ds.drop (i + 1) := by
        obtain ⟨hl, q⟩ := List.getElem?_eq_some_iff.mp d1
        rw [← q]
        exact List.drop_eq_getElem_cons hl
      rw [hd] at q
      refine hg.ref S A2 σ2 H3 Γ2 Δ2 x d _ _ s2 c2 d2 q.2 fun σ4 A4 H4 Γ4 Δ4 e4 s4 c4 p4 => ?_
      have e14 := e2.trans e4
      refine b2 S A4 σ4 H4 Γ4 Δ4 _ _ s4 c4 p4 ⟨?_, ?_, ?_, ?_⟩
      · exact fun σ5 A5 H5 Γ5 Δ5 e5 s5 c5 p5 => ⟨A5, Γ5, Δ5, e14.trans e5, s5, c5, p5⟩
      · exact k.nx.ext (e1.trans e14)
      · exact fun σ5 A5 H5 Γ5 Δ5 e5 s5 c5 p5 => ⟨A5, Γ5, Δ5, e14.trans e5, s5, c5, p5⟩
      · exact fun v d A5 H5 Δ5 e5 c5 r5 p5 => k.rt v d A5 H5 Δ5 ((e1.trans e14).trans e5) c5 r5 p5
    · rintro σ2 H2 ⟨A2, Γ2, Δ2, e2, s2, c2, q⟩
      rw [List.drop_length] at q
      exact k.nx σ2 A2 H2 Γ2 Δ2 (e1.trans e2) s2 c2 q.2
end
/-- a loop over a cell that stays as it is -/
theorem loopC_all {n : Nat} {ds : List D} {body : D → ZS} {Z : ZEnds} {I : Env → Store → Prop} : ∀ (xs : List D) (Γ : Env) (Δ : Store), I Γ Δ → (∀ Γ Δ, I Γ Δ → Δ[n]? = some (.lst ds)) →
    (∀ x Γ Δ (Z' : ZEnds), x ∈ xs → I Γ Δ → (∀ Γ' Δ', I Γ' Δ' → Z'.nx Γ' Δ') → Z'.rt = Z.rt → body x Z' Γ Δ) → (∀ Γ Δ, I Γ Δ → Z.nx Γ Δ) → loopC n ds body Z xs Γ Δ
  | [], Γ, Δ, h, hat, _, he => ⟨hat Γ Δ h, he Γ Δ h⟩
  | x :: xs, Γ, Δ, h, hat, hb, he => ⟨hat Γ Δ h, hb x Γ Δ _ List.mem_cons_self h (fun Γ' Δ' h' => loopC_all xs Γ' Δ' h' hat (fun y Γ Δ Z' hy => hb y Γ Δ Z' (List.mem_cons_of_mem _ hy)) he) rfl⟩
end Z

/-! Z26: dicts as cells (keys ints): made, written, asked, put together; loops over the values of a dict that stays; results that are frozen with all new cells dropped. -/
namespace Z
open PySem PySem.Spec PyProof.Rows L2
/-- what a cell holds that is a dict -/
def dctO (l : List (Int × D)) : O := .dct (l.map (·.1)) (l.map (·.2))
theorem zip_maps {α β : Type} : ∀ l : List (α × β), (l.map (·.1)).zip (l.map (·.2)) = l
  | [] => rfl
  | x :: l => by rw [List.map_cons, List.map_cons, List.zip_cons_cons, zip_maps l]
theorem dctOf_cell {Δ : Store} {n : Nat} {l : List (Int × D)} (h : Δ[n]? = some (dctO l)) : dctOf Δ (.cell n) = some l := by
  unfold dctOf
  simp only [h, dctO, zip_maps]
theorem dctOf_dat {Δ : Store} {l : List (Int × D)} : dctOf Δ (dctP l) = some l := by
  show some _ = _
  rw [zip_maps]
section
variable {K : PySem.W.Frag} {C : CI} {S A : List Addr} {H H' : Hp} {q : Addr}
theorem RepP.cellAt {vs : List (Key × V)} {ds : List (Int × D)} (h : H q = some (.dK vs)) (r : RepP K C S A H vs ds) : CellAt K C S A H q (dctO ds) := by
  obtain ⟨h1, h2⟩ := RepP.zip r
  refine ⟨vs.map (·.2), ?_, ?_, h2⟩
  · rw [← h1]; exact h
  · rw [List.length_map, List.length_map, r.length]
theorem Cells.dct_ {Δ : Store} {n : Nat} {a : Addr} {l : List (Int × D)} (c : Cells K C S A H Δ) (ha : A[n]? = some a) (h : dctOf Δ (.cell n) = some l) : ∃ vs, H a = some (.dK vs) ∧ RepP K C S A H vs l := by
  unfold dctOf at h
  cases q : Δ[n]? with
  | none => simp only [q] at h; cases h
  | some o =>
    cases o with
    | lst _ => simp only [q] at h; cases h
    | ins _ _ => simp only [q] at h; cases h
    | dct ks es =>
      simp only [q] at h
      cases h
      obtain ⟨xs, e1, e2, e3⟩ := c.at_ n _ _ ha q
      exact ⟨_, e1, RepP.of e2 e3⟩
end
/-! ### a dict comprehension, as a cell -/
def asDct (P : D → Store → Prop) : D → Store → Prop := fun d Δ => ∃ l, d = dctP l ∧ P (.cell Δ.length) (Δ ++ [dctO l])
theorem dctP_inj : ∀ {l l' : List (Int × D)}, dctP l = dctP l' → l = l' := fun {l l'} h => by
  have h1 : l.map (·.1) = l'.map (·.1) := by
    unfold dctP at h
    exact (D.dct.inj h).1
  have h2 : l.map (·.2) = l'.map (·.2) := by
    unfold dctP at h
    exact (D.dct.inj h).2
  rw [← zip_maps l, ← zip_maps l', h1, h2]
def zDcC (zi : ZI) (zg : ZG) (zt : ZT) (zk zv : ZE) (vs : List Nat) : ZE := fun Γ Δ P => zi Γ Δ fun items Δ1 => dcZ zg zt zk zv (wipeZ Γ vs) (asDct P) items [] Δ1
section
variable {K : PySem.W.Frag} {C : CI} {S : List Addr} {q : Addr}
theorem ref_dcC {wi : TI} {g : TG} {tt : TT} {tk tv : TE} {vs : List Nat} {zi : ZI} {zg : ZG} {zt : ZT} {zk zv : ZE} (hi : RefI K C wi zi) (hg : RefG K C g zg) (ho : Own g vs) (ht : RefT K C tt zt) (hk : RefE K C tk zk) (hv : RefE K C tv zv) :
    RefE K C (tDc wi g tt tk tv vs) (zDcC zi zg zt zk zv vs) := fun S A σ H Γ Δ P Q hs hc hz k => hi S A σ H Γ Δ _ _ hs hc hz fun J n G Y items A1 H1 Δ1 e1 c1 p hn w hG hY q hq => by
  have s1 := hs.ext e1
  have mo0 : Mo S A1 H1 (q :: S) A1 (upd H1 q (.dK [])) := ⟨⟨[], by simp, by simp⟩, fun b hb => by
    rcases List.mem_cons.mp hb with rfl | hb
    · exact .inr hq
    · exact .inl hb, fun a o _ _ h => by rw [upd_ne (ne_of_none h hq)]; exact h⟩
  have cells0 : Cells K C (q :: S) A1 (upd H1 q (.dK [])) Δ1 := by
    refine ⟨c1.len, c1.nd, fun a ha hb => ?_, fun a ha h => ?_, fun n a o h1 h2 => (c1.at_ n a o h1 h2).mono mo0 fun u h => by rw [upd_ne (ne_of_none h hq)]; exact h⟩
    · rcases List.mem_cons.mp hb with rfl | hb
      · exact c1.fresh hq ha
      · exact c1.dj a ha hb
    · rcases List.mem_cons.mp ha with rfl | ha
      · rw [upd_same] at h; cases h
      · exact c1.as a ha ((Ext.new (A := A1) hq).trk a h)
  have mo2 : ∀ {A2 : List Addr} {H2 : Hp} {Δ2 : Store} {acc : List (Int × D)}, AtD K C S q A1 (upd H1 q (.dK [])) A2 H2 Δ2 acc → Mo S A1 H1 (q :: S) A2 H2 := fun {A2 H2 Δ2 acc} a => by
    obtain ⟨B, hB, nB⟩ := a.mo.pre
    refine ⟨⟨B, hB, fun b hb => (Ext.new (A := A1) hq).trk b (nB b hb)⟩, mo0.sub, fun x o h1 h2 h3 => ?_⟩
    have hx := ne_of_none h3 hq
    exact a.kp x o h1 hx (by rw [upd_ne hx]; exact h3)
  have ext2 : ∀ {A2 : List Addr} {H2 : Hp} {Δ2 : Store} {acc : List (Int × D)}, AtD K C S q A1 (upd H1 q (.dK [])) A2 H2 Δ2 acc → Ext A1 H1 A2 H2 := fun {A2 H2 Δ2 acc} a => by
    obtain ⟨B, hB, nB⟩ := a.mo.pre
    refine ⟨⟨B, hB, fun b hb => (Ext.new (A := A1) hq).trk b (nB b hb)⟩, fun x o h1 h3 => ?_, fun x h => (Ext.new (A := A1) hq).trk x (a.trk x h)⟩
    have hx := ne_of_none h3 hq
    exact a.kp x o h1 hx (by rw [upd_ne hx]; exact h3)
  refine ⟨fun i m H2 => m = n - i ∧ i ≤ n ∧ ∃ A2 Δ2 acc, AtD K C S q A1 (upd H1 q (.dK [])) A2 H2 Δ2 acc ∧ dcZ zg zt zk zv (wipeZ Γ vs) (asDct P) (items.drop i) acc Δ2, ⟨n, by simp, Nat.zero_le _, A1, Δ1, [], .here cells0 ⟨[], upd_same, .nil⟩, p⟩, ?_⟩
  rintro i m H2 ⟨rfl, hin, A2, Δ2, acc, a0, p2⟩
  have gg := hG (q :: S) A2 H2 (mo2 a0)
  by_cases hlt : i < n
  · refine .inr ⟨w.goes i H2 hlt gg, fun H' => ∃ A2 Δ2 acc, AtD K C S q A1 (upd H1 q (.dK [])) A2 H' Δ2 acc ∧ dcZ zg zt zk zv (wipeZ Γ vs) (asDct P) (items.drop (i + 1)) acc Δ2, fun H' p' => ⟨n - (i + 1), by omega, rfl, hlt, p'⟩, fun x H3 y => ?_⟩
    obtain ⟨d, q1, q2, q3⟩ := hY (q :: S) A2 H2 Δ2 i x H3 hlt (mo2 a0) a0.cells (w.yields i H2 x H3 hlt gg y)
    rw [drop_cons q1] at p2
    have e3 : Ext A2 H2 A2 H3 := Ext.kept q2
    have c3 := a0.cells.kept q2
    have s3 : Slots K C (q :: S) A2 H3 (wipe σ vs) (wipeZ Γ vs) := ((s1.mono (mo2 a0)).ext e3).wipe vs
    have h5 := hg (q :: S) A2 (wipe σ vs) H3 (wipeZ Γ vs) Δ2 x d _ (fun σ4 H4 => tt σ4 H4 fun b H5 => if b = true then tk σ4 H5 fun y H4 => tv σ4 H4 fun z H5 => ∃ kvs k, y = kV k ∧ H5 q = some (.dK kvs) ∧ kvs.length < sizeLine ∧ ∃ A2 Δ2 acc, AtD K C S q A1 (upd H1 q (.dK [])) A2 (upd H5 q (.dK (putK kvs k z))) Δ2 acc ∧ dcZ zg zt zk zv (wipeZ Γ vs) (asDct P) (items.drop (i + 1)) acc Δ2
        else ∃ A2 Δ2 acc, AtD K C S q A1 (upd H1 q (.dK [])) A2 H5 Δ2 acc ∧ dcZ zg zt zk zv (wipeZ Γ vs) (asDct P) (items.drop (i + 1)) acc Δ2) s3 c3 q3 p2 fun σ4 A4 H4 Γ4 Δ4 e4 s4 c4 p4 => by
      refine ht (q :: S) A4 σ4 H4 Γ4 Δ4 _ _ s4 c4 p4 fun b A5 H5 Δ5 e5 c5 p5 => ?_
      have b0 := ((a0.ext e3 c3).ext e4 c4).ext e5 c5
      cases b with
      | false => exact iteF ⟨A5, Δ5, acc, b0, p5.2 rfl⟩
      | true =>
        refine iteT (hk (q :: S) A5 σ4 H5 Γ4 Δ5 _ _ (s4.ext e5) c5 (p5.1 rfl) fun y dy A6 H6 Δ6 e6 c6 r6 p6 => ?_)
        refine hv (q :: S) A6 σ4 H6 Γ4 Δ6 _ _ ((s4.ext e5).ext e6) c6 p6 fun z dz A7 H7 Δ7 e7 c7 r7 p7 => ?_
        have d0 := (b0.ext e6 c6).ext e7 c7
        obtain ⟨j, rfl, hlen, p7⟩ := p7
        cases r6
        obtain ⟨accV, l1, l2⟩ := d0.dct
        exact ⟨accV, Sum.inl j, rfl, l1, lt_line (by rw [l2.length]; exact hlen), A7, Δ7, _, d0.grow l1 l2 r7, p7⟩
    have fin := ho _ _ _ _ h5
    rw [wipe_wipe] at fin
    exact fin
  · have e : i = n := by omega
    subst e
    rw [hn, List.drop_length] at p2
    refine .inl ⟨w.stops H2 gg, ?_⟩
    obtain ⟨accV, l1, l2⟩ := a0.dct
    have c2 := a0.cells
    have hq2 : q ∉ A2 := fun h => c2.dj q h List.mem_cons_self
    have mo8 : Mo (q :: S) A2 H2 S A2 H2 := ⟨⟨[], by simp, by simp⟩, fun b hb => .inl (List.mem_cons_of_mem _ hb), fun _ _ _ _ h => h⟩
    obtain ⟨es, e9, hp⟩ := p2
    have e9 := dctP_inj e9
    subst e9
    exact k _ _ (A2 ++ [q]) H2 (Δ2 ++ [dctO acc]) (Ext.cellIn (e1.trans (ext2 a0)) (e1.trk q hq) hq2) (Cells.unset (o := dctO acc) c2 (c1.aside hq) (RepP.cellAt l1 (l2.unaside hq2 (c1.aside hq)))) (.cell (by rw [← c2.len, List.getElem?_append_right (Nat.le_refl _), Nat.sub_self]; rfl)) hp
end
section
variable {C : CI} {X : Cx}
theorem ez_dcC {kx vx tg iter : Expr} {ifs : List Expr} {scope : Scope} {own : List (Str × Nat)} {pos : Pos} {zi : ZI} {g : TG} {zg : ZG} {zt : ZT} {zk zv : ZE} (hN : X.N.Nodup) (hi : IZ C X tg iter zi) (ok : BlkOk X.N X.env.scope scope own) (ho : Own g (own.map (·.2))) (hr : RefG X.K C g zg)
    (hg : ∀ (s : Shared) (H : Hp) (Ca : Addr) (cl : List (Str × Addr)) (fp : List Addr), PG (X.blk s H scope (compEnvC scope cl Ca X.env) fp) tg g)
    (ht : ∀ (s : Shared) (H : Hp) (Ca : Addr) (cl : List (Str × Addr)) (fp : List Addr), TsZ C (X.blk s H scope (compEnvC scope cl Ca X.env) fp) ifs zt)
    (hk : ∀ (s : Shared) (H : Hp) (Ca : Addr) (cl : List (Str × Addr)) (fp : List Addr), EZ C (X.blk s H scope (compEnvC scope cl Ca X.env) fp) kx zk)
    (hv : ∀ (s : Shared) (H : Hp) (Ca : Addr) (cl : List (Str × Addr)) (fp : List Addr), EZ C (X.blk s H scope (compEnvC scope cl Ca X.env) fp) vx zv)
    (hc : X.calm = true := by rfl) (hs : ∀ x, foldedSetIterable iter X.env x = pure x := by intro _; rfl) :
    EZ C X (.DictComp kx vx [⟨tg, iter, ifs, 0⟩] scope pos) (zDcC zi zg zt zk zv (own.map (·.2))) := by
  obtain ⟨wi, i1, i2⟩ := hi.ex
  exact ⟨_, pe_dc hc hN i1 ok hg (fun s H Ca cl fp => (ht s H Ca cl fp).up) (fun s H Ca cl fp => (hk s H Ca cl fp).up) (fun s H Ca cl fp => (hv s H Ca cl fp).up) hs, ref_dcC i2 hr ho ref_upT ref_up ref_up⟩
end
/-! ### {}; d[k] = v; in, not in; len; list(d.values()); d.update(e) -/
def zDNewC : ZE := fun _ Δ P => P (.cell Δ.length) (Δ ++ [dctO []])
def zDPut (zd zk zv : ZE) : ZS := fun Z Γ Δ => zv Γ Δ fun v Δ1 => zd Γ Δ1 fun x Δ2 => zk Γ Δ2 fun y Δ3 => ∃ (n : Nat) (l : List (Int × D)) (k : Int), x = .cell n ∧ dctOf Δ3 (.cell n) = some l ∧ y = .int k ∧ l.length < 100000 ∧ Z.nx Γ (Δ3.set n (dctO (putI k v l)))
def zInD : ZR2 := fun y x Δ P => ∃ (l : List (Int × D)) (k : Int), dctOf Δ x = some l ∧ y = .int k ∧ P (.bl (l.lookup k).isSome) Δ
def zNotInD : ZR2 := fun y x Δ P => ∃ (l : List (Int × D)) (k : Int), dctOf Δ x = some l ∧ y = .int k ∧ P (.bl (!(l.lookup k).isSome)) Δ
def zLenD : ZRC := fun ds Δ P => ∃ (x : D) (l : List (Int × D)), ds = [x] ∧ dctOf Δ x = some l ∧ P (.int l.length) Δ
def mrgI (l more : List (Int × D)) : List (Int × D) := more.foldl (fun acc p => putI p.1 p.2 acc) l
def zUpdD (zo : ZE) (za : ZA) : ZE := fun Γ Δ P => zo Γ Δ fun o Δ1 => (∃ n l, o = .cell n ∧ dctOf Δ1 (.cell n) = some l) ∧ za Γ Δ1 fun as Δ2 => ∃ (n : Nat) (l more : List (Int × D)) (y : D), o = .cell n ∧ dctOf Δ2 (.cell n) = some l ∧ as = [y] ∧ dctOf Δ2 y = some more ∧ (∀ m, y = .cell m → m ≠ n) ∧ l.length + more.length ≤ 100000 ∧ P .non (Δ2.set n (dctO (mrgI l more)))
def zListV (z : ZE) : ZE := fun Γ Δ P => z Γ Δ fun x Δ1 => ∃ l, dctOf Δ1 x = some l ∧ P (.lst (l.map (·.2))) Δ1
section
variable {K : PySem.W.Frag} {C : CI} {S A : List Addr} {H : Hp}
theorem RepP.valO {k : Int} : ∀ {vs : List (Key × V)} {ds : List (Int × D)}, RepP K C S A H vs ds → (valV vs (Sum.inl k)).isSome = (ds.lookup k).isSome
  | _, _, .nil => rfl
  | _, _, .cons (k := j) (d := d') (ds := ds) (v := v) h r => by
    by_cases q : j = k
    · subst q
      rw [List.lookup_cons_self, valV_pos rfl]
      rfl
    · rw [List.lookup_cons, show (k == j) = false from by simp; exact fun z => q z.symm, valV_neg fun z => q (Sum.inl.inj z)]
      exact RepP.valO r
theorem RepP.merge : ∀ {more : List (Key × V)} {ms : List (Int × D)}, RepP K C S A H more ms → ∀ {vs : List (Key × V)} {ds : List (Int × D)}, RepP K C S A H vs ds → RepP K C S A H (mergeK vs more) (mrgI ds ms)
  | _, _, .nil, _, _, r => r
  | _, _, .cons h t, _, _, r => RepP.merge t (r.put h)
end
section
variable {X : Cx}
def rUpdD : V → List V → Hp → VK → Prop := fun x xs H Q => ∃ (a b : Addr) (kvs more : List (Key × V)), x = .ref a ∧ xs = [.ref b] ∧ H a = some (.dK kvs) ∧ Rd H b (.dK more) ∧ a ≠ b ∧ kvs.length + more.length ≤ sizeLine ∧ Q .non (upd H a (.dK (mergeK kvs more)))
theorem mt_updD : MtR X "dict.update" rUpdD := by
  intro pins s σ H x xs v us Q I rx rxs h
  obtain ⟨a, b, kvs, more, rfl, rfl, ha, hb, hne, hz, q⟩ := h
  cases rx
  obtain ⟨u1, rfl, r1⟩ := vals1 rxs
  cases r1
  obtain ⟨z, lo, vs, rel, dd⟩ := dk_rd I.hok (.inl ha)
  obtain ⟨z2, lo2, ws, rel2, dd2⟩ := dk_rd I.hok hb
  refine call_meetsIn PySem.F.slot_dict_update dd.typeIs PySem.F.entry_dict_update (PySem.F.args_dict_update_2 _ _) (meets_dict_update (mixKind X.prog X.w) a b hne lo2)
    ⟨vs, ws, dd, dd2, by rw [← rel.length, ← rel2.length]; exact hz, fun h' d1 d2 hs => ?_⟩
  obtain ⟨o, ho, _⟩ := Heap.dictOf_iff.mp d1
  have hl : (mergeK kvs more).length ≤ sizeLine := Nat.le_trans (length_mergeK more kvs) hz
  have I2 : Inv X pins σ (upd H a (.dK (mergeK kvs more))) { s with heap := h' } := d_write (t' := s.toks) I (by rw [ha]; exact True.intro) hs ⟨o, ho⟩ (dk_new hl lo (rel2.merge rel) d1)
  exact ⟨.non, _, I2, rfl, q⟩
theorem cr_lenD : CallR X (.builtin "len") (fun xs H Q => ∃ a kvs, xs = [V.ref a] ∧ Rd H a (.dK kvs) ∧ Q (.int kvs.length) H) := by
  intro pins s σ H xs us Q I r h
  obtain ⟨a, kvs, rfl, ha, q⟩ := h
  obtain ⟨u, rfl, ru⟩ := vals1 r
  cases ru
  exact d_len I ha fun t s' I' => ⟨.int kvs.length, H, I', ⟨t, rfl⟩, q⟩
def rInD : R2 := fun y x H Q => ∃ a o, x = .ref a ∧ DGet H a y o ∧ Q (.bl o.isSome) H
def rNotInD : R2 := fun y x H Q => ∃ a o, x = .ref a ∧ DGet H a y o ∧ Q (.bl (!o.isSome)) H
theorem op_inD (hu : X.A.units + 1 < cLine) : OpR X (compareOp .In) rInD := by
  intro pins s σ H y x u v Q I ry rx h
  obtain ⟨a, o, rfl, g, q⟩ := h
  cases rx
  exact d_in hu I g ry fun s' I' => ⟨.bl _, H, I', rfl, q⟩
theorem op_notInD (hu : X.A.units + 1 < cLine) : OpR X (compareOp .NotIn) rNotInD := by
  intro pins s σ H y x u v Q I ry rx h
  obtain ⟨a, o, rfl, g, q⟩ := h
  cases rx
  exact d_notIn hu I g ry fun s' I' => ⟨.bl _, H, I', rfl, q⟩
def tListVals (te : TE) : TE := fun σ H Q => te σ H fun x H1 => ∃ (d : Addr) (kvs : List (Key × V)), x = .ref d ∧ Rd H1 d (.dK kvs) ∧ ∀ p, H1 p = none → Q (.ref p) (upd H1 p (.lst (kvs.map (·.2))))
theorem KV.vals {κ : Type} : ∀ {kvs : List (κ × V)} {vs : List (κ × Value)}, KV kvs vs → ∀ {j : Nat} {x : V}, (kvs.map (·.2))[j]? = some x → ∃ k u, vs[j]? = some (k, u) ∧ RelV x u
  | _, _, .nil, _, _, h => by cases h
  | _, _, .cons (a := p) (b := q) h t, 0, x, e => by
    cases e
    exact ⟨_, _, rfl, h.2⟩
  | _, _, .cons h t, j + 1, x, e => KV.vals t (j := j) e
theorem pe_listVals {e : Expr} {te : TE} {p apos cpos pos : Pos} (hc : X.calm = true) (he : PE X e te) (hg : Gl X "list") (hm : X.mg "list" = none) (hv : bootBuiltins "list" = some (.type "list")) (hbase : attributeBase e "values" X.env (eval e X.env) = eval e X.env := by rfl) (hline : (apos.endLine == cpos.line) = true := by rfl)
    (hs : starEach [.Call (.Attribute e "values" apos) [] [] cpos] X.env = (false, eval (.Call (.Attribute e "values" apos) [] [] cpos) X.env) :: starEach [] X.env := by rfl) :
    PE X (.Call (.Name "list" p) [.Call (.Attribute e "values" apos) [] [] cpos] [] pos) (tListVals te) := by
  refine ⟨fun pins s σ H Q I hq => ?_⟩
  refine wpAny_Call_Name_kw (ld_blt I hg hm hv ?_)
  refine PyProof.Rows.callWith_type1 ?_ hs rfl
  rw [hs]
  show wpAny _ _ (spliced ((false, eval (.Call (.Attribute e "values" apos) [] [] cpos) X.env) :: backTo pos (starEach [] X.env))) _ _ s
  refine Calls.spliced_cons ?_
  refine wpAny_Call_method (T := "dict") (id := "dict.values") hbase rfl hline F.plainAttrs_dict F.slot_dict_values F.type_dict_values (thn (he.run pins s σ H _ I hq) fun u s1 ⟨x, H1, I1, rx, d, kvs, ex, hd, q⟩ => ?_)
  subst ex
  obtain rfl : u = Value.ref d := rx
  obtain ⟨hz, hs0, vs, kv, hdo⟩ := dk_rd I1.hok hd
  obtain ⟨ep, hat⟩ := hdo.dictAt
  have lk : kvs.length = vs.length := Paired.length kv
  have I2 : Inv X pins σ H1 { s1 with heap := s1.heap.push { cls := .type "dict_values", data := .fields #[.ref d] } } := I1.kept (t' := s1.toks) fun b ob q => Heap.get?_push_of_some _ q
  refine ⟨hdo.typeIs, hdo.mapOf.noDict, ?_⟩
  show wpAny _ _ (callWith cpos (.builtin "dict.values") [.ref d] [] []) _ X.xe s1
  refine method_meetsIn F.slot_dict_values F.entry_dict_values rfl (PySem.evalArgs_none ⟨rfl, hdo.typeIs, F.args_dict_values_1 _, _, meets_dict_values (mixKind X.prog X.w) d hs0, ⟨vs, hdo⟩, ?_⟩)
  refine Calls.spliced_nil ?_
  refine PySem.W.kdl_call (PySem.W.kdl_values (knd := mixKind X.prog X.w) (kvs := vs) (ep := ep)) (I1.ok.hd hc) ⟨⟨_, Heap.get?_push_size _ rfl, rfl, rfl⟩, hat.push _⟩ (by omega) fun h' tk acc' c' hkeep hS hacc => ?_
  refine ⟨.ref _, upd H1 _ (.lst (kvs.map (·.2))), I2.laid hkeep (Nat.le_refl _) (show ObjOk X.prog X.w _ _ _ (.lst (kvs.map (·.2))) from ⟨?_, acc'.toList, c', ?_, ?_⟩), rfl, q _ (I2.hok.fresh (Nat.le_refl _))⟩
  · rw [List.length_map]; exact hz
  · have el : acc'.toList.length = acc'.size := by simp
    refine vals_of_at (by rw [List.length_map, el, hacc.1, lk]) fun j x w h1 h2 => ?_
    obtain ⟨k, hi⟩ := hacc.2 j w (by rw [← Array.getElem?_toList]; exact h2)
    obtain ⟨k', u', g1, g2⟩ := KV.vals kv h1
    rw [hi] at g1
    cases g1
    exact g2
  · rw [Array.toArray_toList]; exact hS
end
section
variable {C : CI} {X : Cx}
theorem ez_dnewC {pos : Pos} : EZ C X (.Dict [] [] pos) zDNewC := ⟨_, pe_dnewK, fun S A σ H Γ Δ P Q hs hc hz k p hp => by
  refine k _ _ (A ++ [p]) _ _ (Ext.newCell hp) (hc.newO (o := dctO []) hp ⟨[], upd_same, rfl, .nil⟩) (.cell ?_) hz
  rw [← hc.len, List.getElem?_append_right (Nat.le_refl _), Nat.sub_self]
  rfl⟩
theorem sz_dput {o i value : Expr} {pos' pos : Pos} {zd zk zv : ZE} (hu64 : X.A.units + 64 < cLine) (ho : EZ C X o zd) (hi : EZ C X i zk) (hv : EZ C X value zv) (hs : swapsWith value (some (.Subscript o i pos')) pos.line X.env = pure false := by rfl) :
    SZ C X (.Assign [.Subscript o i pos'] value pos) (zDPut zd zk zv) := by
  obtain ⟨td, d1, d2⟩ := ho.ex
  obtain ⟨tk, k1, k2⟩ := hi.ex
  obtain ⟨tv, v1, v2⟩ := hv.ex
  have hu : X.A.units + 1 < cLine := Nat.lt_of_le_of_lt (Nat.add_le_add_left (by decide) _) hu64
  refine ⟨_, ps_dput hu d1 k1 v1 hs, fun S A σ H Γ Δ Z N hs hc hz k => ?_⟩
  refine v2 S A σ H Γ Δ _ _ hs hc hz fun v dv A1 H1 Δ1 e1 c1 r1 z1 => d2 S A1 σ H1 Γ Δ1 _ _ (hs.ext e1) c1 z1 fun x dx A2 H2 Δ2 e2 c2 r2 z2 => k2 S A2 σ H2 Γ Δ2 _ _ ((hs.ext e1).ext e2) c2 z2 fun y dy A3 H3 Δ3 e3 c3 r3 z3 => ?_
  obtain ⟨n, l, j, rfl, hd, rfl, hl, z3⟩ := z3
  cases r3
  have r2' := r2.ext e3
  cases r2' with
  | cell g =>
    rename_i a
    obtain ⟨vs, g1, g2⟩ := c3.dct_ g hd
    have rv := (r1.ext e2).ext e3
    have g3 := g2.put (k := j) rv
    have hp : a ∈ A3 := List.mem_of_getElem? g
    have e4 : Ext A3 H3 A3 (upd H3 a (.dK (putK vs (Sum.inl j) v))) := Ext.write hp (by rw [g1]; simp)
    have g4 : RepP X.K C S A3 (upd H3 a (.dK (putK vs (Sum.inl j) v))) (putK vs (Sum.inl j) v) (putI j dv l) := RepP.mono e4.mo g3
    have q := c3.putO (o := dctO (putI j dv l)) g (RepP.cellAt upd_same g4)
    refine ⟨a, _, rfl, DPut.k (k := Sum.inl j) g1 (lt_line (by rw [g2.length]; exact hl)), ?_⟩
    exact k.nx σ A3 _ Γ _ (((e1.trans e2).trans e3).trans q.2) ((((hs.ext e1).ext e2).ext e3).ext q.2) q.1 z3
theorem oz_inD (hu64 : X.A.units + 64 < cLine) : OpZ C X (compareOp .In) zInD := ⟨_, op_inD (Nat.lt_of_le_of_lt (Nat.add_le_add_left (by decide) _) hu64), fun S A H Δ x y dx dy P Q hc rx ry hz k => by
  obtain ⟨l, j, hd, rfl, p⟩ := hz
  obtain ⟨pa, vs, rfl, g1, g2⟩ := Rep.dctOf hc ry hd
  cases rx
  refine ⟨pa, _, rfl, .inl ⟨vs, Sum.inl j, g1, rfl, rfl⟩, ?_⟩
  rw [g2.valO]
  exact k _ _ A H Δ (Ext.refl _ _) hc (.bl _) p⟩
theorem oz_notInD (hu64 : X.A.units + 64 < cLine) : OpZ C X (compareOp .NotIn) zNotInD := ⟨_, op_notInD (Nat.lt_of_le_of_lt (Nat.add_le_add_left (by decide) _) hu64), fun S A H Δ x y dx dy P Q hc rx ry hz k => by
  obtain ⟨l, j, hd, rfl, p⟩ := hz
  obtain ⟨pa, vs, rfl, g1, g2⟩ := Rep.dctOf hc ry hd
  cases rx
  refine ⟨pa, _, rfl, .inl ⟨vs, Sum.inl j, g1, rfl, rfl⟩, ?_⟩
  rw [g2.valO]
  exact k _ _ A H Δ (Ext.refl _ _) hc (.bl _) p⟩
theorem cz_lenD : CallZ C X (.builtin "len") zLenD := ⟨_, cr_lenD, fun S A H Δ xs ds P Q hc r hz k => by
  obtain ⟨x, l, rfl, hd, q⟩ := hz
  obtain ⟨v, rfl, rv⟩ := one_rep r
  obtain ⟨pa, vs, rfl, g1, g2⟩ := Rep.dctOf hc rv hd
  refine ⟨pa, vs, rfl, g1, k _ _ A H Δ (Ext.refl _ _) hc ?_ q⟩
  rw [g2.length]
  exact .int _⟩
theorem ez_listV {e : Expr} {z : ZE} {p apos cpos pos : Pos} (he : EZ C X e z) (hm : X.mg "list" = none) (hg : Gl X "list" := by rfl) (hc : X.calm = true := by rfl) (hv : bootBuiltins "list" = some (.type "list") := by decide +kernel) (hbase : attributeBase e "values" X.env (eval e X.env) = eval e X.env := by rfl) (hline : (apos.endLine == cpos.line) = true := by rfl)
    (hs : starEach [.Call (.Attribute e "values" apos) [] [] cpos] X.env = (false, eval (.Call (.Attribute e "values" apos) [] [] cpos) X.env) :: starEach [] X.env := by rfl) :
    EZ C X (.Call (.Name "list" p) [.Call (.Attribute e "values" apos) [] [] cpos] [] pos) (zListV z) := by
  obtain ⟨t, h1, h2⟩ := he.ex
  refine ⟨_, pe_listVals hc h1 hg hm hv hbase hline hs, fun S A σ H Γ Δ P Q hs hc hz k => h2 S A σ H Γ Δ _ _ hs hc hz fun v d A1 H1 Δ1 e1 c1 r1 hz1 => ?_⟩
  obtain ⟨l, hd, p⟩ := hz1
  obtain ⟨pa, vs, rfl, g1, g2⟩ := Rep.dctOf c1 r1 hd
  refine ⟨pa, vs, rfl, g1, fun q hq => ?_⟩
  have e2 : Ext A1 H1 A1 (upd H1 q (.lst (vs.map (·.2)))) := Ext.new hq
  refine k _ _ A1 _ Δ1 (e1.trans e2) (c1.kept fun a o h => by rw [upd_ne (ne_of_none h hq)]; exact h) (.lst upd_same (c1.fresh hq) (c1.aside hq) ((RepP.zip g2).2.ext e2)) p
theorem ez_updD {o e : Expr} {es : List Expr} {zo : ZE} {za : ZA} {apos cpos : Pos} (ho : EZ C X o zo) (ha : AZ C X (e :: es) za)
    (hbase : attributeBase o "update" X.env (eval o X.env) = eval o X.env := by rfl)
    (hfew : ((backTo cpos (starEach (e :: es) X.env)).all (fun x => !x.1) && (backToKw cpos (keywordEach [] X.env)).all (fun x => x.1.isSome)
      && decide ((e :: es).length + ([] : List Keyword).length + (if ([] : List Keyword).isEmpty then 0 else 1) < 30)) = true := by rfl)
    (hline : (apos.endLine == cpos.line) = true := by rfl) (hs : starEach (e :: es) X.env = (false, eval e X.env) :: starEach es X.env := by rfl) (hplain : (backTo cpos (starEach es X.env)).any (·.1) = false := by rfl) :
    EZ C X (.Call (.Attribute o "update" apos) (e :: es) [] cpos) (zUpdD zo za) := by
  obtain ⟨t, o1, o2⟩ := ho.ex
  obtain ⟨u, a1, a2⟩ := ha.ex
  refine ⟨_, pe_bm PySem.F.plainAttrs_dict PySem.F.slot_dict_update PySem.F.type_dict_update mt_updD o1 a1 hbase hfew hline hs hplain, fun S A σ H Γ Δ P Q hs hc hz k => o2 S A σ H Γ Δ _ _ hs hc hz fun v d A1 H1 Δ1 e1 c1 r1 p => ?_⟩
  obtain ⟨⟨n, l, rfl, hd⟩, p⟩ := p
  cases r1 with
  | cell g =>
    rename_i pa
    obtain ⟨xs, g1, g2⟩ := c1.dct_ g hd
    refine ⟨.inr (.inr (.inl ⟨rfl, .inl ⟨_, g1⟩⟩)), a2 S A1 σ H1 Γ Δ1 _ _ (hs.ext e1) c1 p fun vs as A2 H2 Δ2 e2 c2 r2 p2 => ?_⟩
    obtain ⟨n', l', more, y, hn, hd', rfl, hm, hne, hl, p2⟩ := p2
    cases hn
    obtain ⟨v, rfl, rv⟩ := one_rep r2
    have g' : A2[n]? = some pa := by
      obtain ⟨B, hB, _⟩ := e2.pre
      rw [hB, List.getElem?_append_left (List.getElem?_eq_some_iff.mp g).1]
      exact g
    obtain ⟨vs', g3, g4⟩ := c2.dct_ g' hd'
    obtain ⟨b, ws, rfl, g5, g6⟩ := Rep.dctOf c2 rv hm
    have hpa : pa ∈ A2 := List.mem_of_getElem? g'
    have hab : pa ≠ b := by
      intro e
      subst e
      cases rv with
      | dct _ hA _ _ _ => exact hA hpa
      | cell gm =>
        rename_i m
        have : m = n := by
          have h1 := (List.getElem?_eq_some_iff.mp gm).1
          have h2 := (List.getElem?_eq_some_iff.mp g').1
          exact (List.getElem?_inj h1 c2.nd).mp (gm.trans g'.symm)
        exact hne m rfl this
      | tup hA _ _ _ => cases hm
      | lst hA _ _ _ => cases hm
      | ins hA _ _ _ _ => cases hm
      | cls => cases hm
      | scr => cases hm
      | ktup => cases hm
      | exc => cases hm
    have e4 : Ext A2 H2 A2 (upd H2 pa (.dK (mergeK vs' ws))) := Ext.write hpa (by rw [g3]; simp)
    have q := c2.putO (o := dctO (mrgI l' more)) g' (RepP.cellAt upd_same (RepP.mono e4.mo (RepP.merge g6 g4)))
    exact ⟨pa, b, vs', ws, rfl, rfl, g3, g5, hab, by have h1 := g4.length; have h2 := g6.length; have := sz100 (n := vs'.length + ws.length) (by omega); exact this, k _ _ A2 _ _ ((e1.trans e2).trans q.2) q.1 .non p2⟩
end
end Z

/-! Z27: loops over the values of a dict that is data; lent calls that give a dict; results frozen, all other new cells dropped. -/
namespace Z
open PySem PySem.Spec PyProof.Rows L2
/-- the dict at q, locked or not: the same but for that -/
structure Lk (q : Addr) (kvs : List (Key × V)) (H H' : Hp) : Prop where
  ne : ∀ b, b ≠ q → H' b = H b
  old : Rd H q (.dK kvs)
  new : Rd H' q (.dK kvs)
section
variable {K : PySem.W.Frag} {C : CI} {S A : List Addr} {H H' : Hp} {q : Addr} {kvs : List (Key × V)}
theorem Lk.symm (l : Lk q kvs H H') : Lk q kvs H' H := ⟨fun b h => (l.ne b h).symm, l.new, l.old⟩
theorem Lk.off (l : Lk q kvs H H') {a : Addr} {o : HO} (h : H a = some o) (h1 : ∀ k, o ≠ .dK k) (h2 : ∀ od k, o ≠ .frz od (.dK k)) : H' a = some o := by
  have : a ≠ q := fun e => by
    subst e
    rcases l.old with g | ⟨od, g⟩
    · rw [h] at g; cases g; exact h1 _ rfl
    · rw [h] at g; cases g; exact h2 _ _ rfl
  rw [l.ne a this]; exact h
theorem Lk.rd (l : Lk q kvs H H') {a : Addr} {k : List (Key × V)} (h : Rd H a (.dK k)) : Rd H' a (.dK k) := by
  by_cases e : a = q
  · subst e
    have : k = kvs := by
      rcases h with h | ⟨o, h⟩
      · rcases l.old with g | ⟨o', g⟩
        · rw [h] at g; cases g; rfl
        · rw [h] at g; cases g
      · rcases l.old with g | ⟨o', g⟩
        · rw [h] at g; cases g
        · rw [h] at g; cases g; rfl
    rw [this]; exact l.new
  · rcases h with h | ⟨o, h⟩
    · exact .inl (by rw [l.ne a e]; exact h)
    · exact .inr ⟨o, by rw [l.ne a e]; exact h⟩
mutual
theorem Rep.lk (l : Lk q kvs H H') : ∀ (d : D) {v : V}, Rep K C S A H v d → Rep K C S A H' v d
  | .non, _, h => by cases h; exact .non
  | .bl b, _, h => by cases h; exact .bl b
  | .int i, _, h => by cases h; exact .int i
  | .str x, _, h => by cases h; exact .str x
  | .ty n, _, h => by cases h; exact .ty n
  | .cls c, _, h => by cases h; exact .cls c
  | .ktup ns, _, h => by cases h with | ktup h => exact .ktup h
  | .exc c, _, h => by cases h with | exc h hA hS => exact .exc (l.off h (fun _ e => by cases e) (fun _ _ e => by cases e)) hA hS
  | .tup ds, _, h => by cases h with | tup h hA hS r => exact .tup (l.off h (fun _ e => nomatch e) (fun _ _ e => nomatch e)) hA hS (RepL.lk l ds r)
  | .lst ds, _, h => by cases h with | lst h hA hS r => exact .lst (l.off h (fun _ e => nomatch e) (fun _ _ e => nomatch e)) hA hS (RepL.lk l ds r)
  | .ins c ds, _, h => by cases h with | ins h hA hS hl r => exact .ins (l.off h (fun _ e => nomatch e) (fun _ _ e => nomatch e)) hA hS hl (RepL.lk l ds r)
  | .dct ks ds, _, h => by cases h with | dct h hA hS hl r => exact .dct (l.rd h) hA hS hl (RepL.lk l ds r)
  | .cell n, _, h => by cases h with | cell h => exact .cell h
  | .scr ns, _, h => by
    cases h with
    | scr h =>
      rcases h with ⟨⟨o, h⟩, hA, hS⟩ | h
      · exact .scr (.inl ⟨⟨o, l.off h (fun _ e => nomatch e) (fun _ _ e => nomatch e)⟩, hA, hS⟩)
      · exact .scr (.inr h)
theorem RepL.lk (l : Lk q kvs H H') : ∀ (ds : List D) {vs : List V}, RepL K C S A H vs ds → RepL K C S A H' vs ds
  | [], _, h => by cases h; exact .nil
  | d :: ds, _, h => by cases h with | cons h r => exact .cons (Rep.lk l d h) (RepL.lk l ds r)
end
theorem Cells.lk {Δ : Store} (l : Lk q kvs H H') (hq : q ∉ A) (c : Cells K C S A H Δ) : Cells K C S A H' Δ := by
  refine ⟨c.len, c.nd, c.dj, fun a ha h => ?_, fun n a o h1 h2 => ?_⟩
  · by_cases e : a = q
    · subst e
      rcases l.new with g | ⟨od, g⟩ <;> rw [h] at g <;> cases g
    · rw [l.ne a e] at h
      exact c.as a ha h
  · have e : a ≠ q := fun e => hq (by rw [← e]; exact List.mem_of_getElem? h1)
    have g := c.at_ n a o h1 h2
    cases o with
    | lst ds => obtain ⟨xs, g1, g2⟩ := g; exact ⟨xs, by rw [l.ne a e]; exact g1, RepL.lk l ds g2⟩
    | ins k fs => obtain ⟨dx, xs, g1, g2, g3⟩ := g; exact ⟨dx, xs, by rw [l.ne a e]; exact g1, g2, RepL.lk l _ g3⟩
    | dct ks ds => obtain ⟨xs, g1, g2, g3⟩ := g; exact ⟨xs, by rw [l.ne a e]; exact g1, g2, RepL.lk l ds g3⟩
theorem Slots.lk {σ : L2.St} {Γ : Env} (l : Lk q kvs H H') (s : Slots K C S A H σ Γ) : Slots K C S A H' σ Γ := ⟨s.len, fun i d h => by
  obtain ⟨v, h1, h2⟩ := s.at_ i d h
  exact ⟨v, h1, Rep.lk l d h2⟩⟩
/-- what holds behind the lock's end -/
theorem Ext.unlk {A' : List Addr} {Hl H2 : Hp} (l : Lk q kvs H Hl) (l2 : Lk q kvs H2 H') (hq : q ∉ A) (hH : H q = H' q) (e : Ext A Hl A' H2) : Ext A H A' H' := by
  have nn : Hl q ≠ none := by rcases l.new with g | ⟨od, g⟩ <;> rw [g] <;> simp
  have nn2 : H' q ≠ none := by rcases l2.new with g | ⟨od, g⟩ <;> rw [g] <;> simp
  obtain ⟨B, hB, nB⟩ := e.pre
  refine ⟨⟨B, hB, fun b hb => ?_⟩, fun a o ha h => ?_, fun a h => ?_⟩
  · have hb2 : b ≠ q := fun z => by subst z; exact nn (nB _ hb)
    rw [← l.ne b hb2]
    exact nB b hb
  · by_cases z : a = q
    · subst z; rw [← hH]; exact h
    · rw [l2.ne a z]
      exact e.keep a o ha (by rw [l.ne a z]; exact h)
  · by_cases z : a = q
    · subst z; exact absurd h nn2
    · rw [l2.ne a z] at h
      have := e.trk a h
      rw [l.ne a z] at this
      exact this
end
/-- a for over the values of the dict in the slot i -/
def zForV (i : Nat) (g : ZG) (zs : ZS) : ZS := fun Z Γ Δ => ∃ ks ds, Γ[i]? = some (some (.dct ks ds)) ∧ loopZ (fun x Z' Γ' Δ' => g x Γ' Δ' fun Γ2 Δ2 => zs Z' Γ2 Δ2) Z ds Γ Δ
section
variable {X : Cx}
def tOrS (t1 t2 : TS) : TS := fun D σ H => t1 D σ H ∨ t2 D σ H
theorem ps_or {st : Stmt} {t1 t2 : TS} (h1 : PS X st t1) (h2 : PS X st t2) : PS X st (tOrS t1 t2) :=
  ⟨fun pins s σ H D I h => h.elim (fun h => h1.run pins s σ H D I h) fun h => h2.run pins s σ H D I h⟩
end
section
variable {C : CI} {X : Cx} {pos : Pos}
theorem forV_core {q : Addr} {od : Obj} {g : TG} {zg : ZG} {tb : TS} {zb : ZS} {tg : Expr} (hg : GZ C X tg g zg) (b2 : RefS X.K C tb zb) {S A : List Addr} {σ : L2.St} {H : Hp} {Γ : Env} {Δ : Store} {Z : ZEnds} {N : Ends} {ks : List Int} {xs : List V} {ds : List D}
    (hs : Slots X.K C S A H σ Γ) (hc : Cells X.K C S A H Δ) (hq : q ∉ A) (hS : q ∉ S) (hl : H q = some (.frz od (.dK ((ks.map Sum.inl).zip xs)))) (hx : xs.length = ks.length) (r : RepL X.K C S A H xs ds) (p : loopZ (fun x Z' Γ' Δ' => zg x Γ' Δ' fun Γ2 Δ2 => zb Z' Γ2 Δ2) Z ds Γ Δ) (k : EndsOk X.K C S A H Z N) :
    ∃ W : Nat → Nat → L2.St → Hp → Prop, (∃ m, W 0 m σ H) ∧ ∀ i m σ H, W i m σ H →
      ((Itd q od ((ks.map Sum.inl).zip xs)).stop i H ∧ N.nx σ H) ∨ ((Itd q od ((ks.map Sum.inl).zip xs)).go i H ∧ ∃ M : L2.St → Hp → Prop, (∀ σ' H', M σ' H' → ∃ m', m' < m ∧ W (i + 1) m' σ' H') ∧ ∀ x H', (Itd q od ((ks.map Sum.inl).zip xs)).yld i H x H' → g x σ H' fun σ2 H2 => tb { N with nx := M, ct := M, bk := N.nx } σ2 H2) := by
  have len : ((ks.map Sum.inl : List Key).zip xs).length = ds.length := by rw [List.length_zip, List.length_map, ← r.length]; omega
  refine for_it walk_values (fun i σ2 H2 => ∃ A2 Γ2 Δ2, Ext A H A2 H2 ∧ Slots X.K C S A2 H2 σ2 Γ2 ∧ Cells X.K C S A2 H2 Δ2 ∧ loopZ (fun x Z' Γ' Δ' => zg x Γ' Δ' fun Γ2 Δ2 => zb Z' Γ2 Δ2) Z (ds.drop i) Γ2 Δ2)
    ⟨A, Γ, Δ, Ext.refl _ _, hs, hc, p⟩ (fun i σ2 H2 _ ⟨A2, Γ2, Δ2, e2, _, _, _⟩ => e2.keep q _ hq hl) ?_ ?_
  · rintro i x σ2 H2 H3 hi ⟨A2, Γ2, Δ2, e2, s2, c2, q2⟩ ⟨rfl, k', hk⟩
    have hxi : xs[i]? = some x := by
      rw [List.getElem?_zip_eq_some] at hk
      exact hk.2
    obtain ⟨d, d1, d2⟩ := (r.ext e2).getV hxi
    have hd : ds.drop i = d :: ds.drop (i + 1) := by
      obtain ⟨hl, q⟩ := List.getElem?_eq_some_iff.mp d1
      rw [← q]
      exact List.drop_eq_getElem_cons hl
    rw [hd] at q2
    refine hg.ref S A2 σ2 H3 Γ2 Δ2 x d _ _ s2 c2 d2 q2 fun σ4 A4 H4 Γ4 Δ4 e4 s4 c4 p4 => ?_
    have e14 := e2.trans e4
    refine b2 S A4 σ4 H4 Γ4 Δ4 _ _ s4 c4 p4 ⟨?_, ?_, ?_, ?_⟩
    · exact fun σ5 A5 H5 Γ5 Δ5 e5 s5 c5 p5 => ⟨A5, Γ5, Δ5, e14.trans e5, s5, c5, p5⟩
    · exact k.nx.ext e14
    · exact fun σ5 A5 H5 Γ5 Δ5 e5 s5 c5 p5 => ⟨A5, Γ5, Δ5, e14.trans e5, s5, c5, p5⟩
    · exact fun v d A5 H5 Δ5 e5 c5 r5 p5 => k.rt v d A5 H5 Δ5 (e14.trans e5) c5 r5 p5
  · rintro σ2 H2 ⟨A2, Γ2, Δ2, e2, s2, c2, q2⟩
    rw [len, List.drop_length] at q2
    exact k.nx σ2 A2 H2 Γ2 Δ2 e2 s2 c2 q2
theorem sz_forV (i : Nat) {tg : Expr} {x : Str} {p apos cpos : Pos} {body : List Stmt} {g : TG} {zg : ZG} {zb : ZS} (hg : GZ C X tg g zg) (hb : SZs C X body zb) (hN : X.N[i]? = some x := by rfl) (hv : Vis X.env.scope x := by first | exact Or.inl rfl | exact Or.inr (Or.inl rfl) | exact Or.inr (Or.inr rfl)) (hd : (x == ("__debug__" : Str)) = false := by decide)
    (hcd : (x == ("__classdict__" : Str)) = false := by decide) (hp : PassesOwn (model X.prog X.w) X.A X.env X.xe := by exact PassesOwn.never) (hc : X.calm = true := by rfl)
    (hs : ∀ x', foldedSetIterable (.Call (.Attribute (.Name x p) "values" apos) [] [] cpos) X.env x' = pure x' := by intro _; rfl) (hbase : attributeBase (.Name x p) "values" X.env (eval (.Name x p) X.env) = eval (.Name x p) X.env := by rfl) (hline : (apos.endLine == cpos.line) = true := by rfl) :
    SZ C X (.For tg (.Call (.Attribute (.Name x p) "values" apos) [] [] cpos) body [] pos) (zForV i zg zb) := by
  obtain ⟨tb, b1, b2⟩ := hb.ex
  have t := ps_for (pos := pos) hp hc (pi_values (pe_var hN hv hd hcd) hbase hline) hg.pg b1 hs
  refine ⟨_, ps_or (ps_lock t) t, fun S A σ H Γ Δ Z N hs hc hz k => ?_⟩
  obtain ⟨ks, ds, e, pz⟩ := hz
  obtain ⟨v, s1, r⟩ := hs.at_ i _ e
  cases r with
  | dct h hA hS hl r =>
    rename_i a xs
    rcases h with h | ⟨od, h⟩
    · refine .inl ⟨a, _, h, trivial, fun od => ?_⟩
      have l : Lk a ((ks.map Sum.inl).zip xs) H (upd H a (.frz od (.dK ((ks.map Sum.inl).zip xs)))) := ⟨fun b hb => upd_ne hb, .inl h, .inr ⟨od, upd_same⟩⟩
      refine ⟨_, s1, a, od, _, rfl, upd_same, ?_⟩
      have fin : ∀ A2 H2, Ext A (upd H a (.frz od (.dK ((ks.map Sum.inl).zip xs)))) A2 H2 → H2 a = some (.frz od (.dK ((ks.map Sum.inl).zip xs))) ∧ Lk a ((ks.map Sum.inl).zip xs) H2 (upd H2 a (.dK ((ks.map Sum.inl).zip xs))) ∧ a ∉ A2 ∧ Ext A H A2 (upd H2 a (.dK ((ks.map Sum.inl).zip xs))) := fun A2 H2 e2 => by
        have h2 := e2.keep a _ hA upd_same
        have l2 : Lk a ((ks.map Sum.inl).zip xs) H2 (upd H2 a (.dK ((ks.map Sum.inl).zip xs))) := ⟨fun b hb => upd_ne hb, .inr ⟨od, h2⟩, .inl upd_same⟩
        have n2 : a ∉ A2 := by
          obtain ⟨B, hB, nB⟩ := e2.pre
          rw [hB]
          intro hm
          rcases List.mem_append.mp hm with hm | hm
          · exact hA hm
          · have := nB a hm
            rw [upd_same] at this
            cases this
        exact ⟨h2, l2, n2, Ext.unlk l l2 hA (by rw [upd_same]; exact h) e2⟩
      refine forV_core hg b2 (Slots.lk l hs) (Cells.lk l hA hc) hA hS upd_same hl (RepL.lk l ds r) pz ⟨?_, ?_, ?_, ?_⟩
      · exact fun σ2 A2 H2 Γ2 Δ2 e2 s2 c2 p2 => let ⟨f1, f2, f3, f4⟩ := fin A2 H2 e2; ⟨f1, k.nx σ2 A2 _ Γ2 Δ2 f4 (Slots.lk f2 s2) (Cells.lk f2 f3 c2) p2⟩
      · exact fun σ2 A2 H2 Γ2 Δ2 e2 s2 c2 p2 => let ⟨f1, f2, f3, f4⟩ := fin A2 H2 e2; ⟨f1, k.bk σ2 A2 _ Γ2 Δ2 f4 (Slots.lk f2 s2) (Cells.lk f2 f3 c2) p2⟩
      · exact fun σ2 A2 H2 Γ2 Δ2 e2 s2 c2 p2 => let ⟨f1, f2, f3, f4⟩ := fin A2 H2 e2; ⟨f1, k.ct σ2 A2 _ Γ2 Δ2 f4 (Slots.lk f2 s2) (Cells.lk f2 f3 c2) p2⟩
      · exact fun v d A2 H2 Δ2 e2 c2 r2 p2 => let ⟨f1, f2, f3, f4⟩ := fin A2 H2 e2; ⟨f1, k.rt v d A2 _ Δ2 f4 (Cells.lk f2 f3 c2) (Rep.lk f2 d r2) p2⟩
    · refine .inr ⟨_, s1, a, od, _, rfl, h, ?_⟩
      exact forV_core hg b2 hs hc hA hS h hl r pz k
end
/-! ### lent calls that give a dict -/
section
variable {K : PySem.W.Frag} {C : CI} {S A : List Addr} {H : Hp} {Δ : Store}
theorem Cells.adoptD (c1 : Cells K C S A H Δ) {A' : List Addr} {H' : Hp} {Δ' : Store} (e2 : Ext [] H A' H') (c2 : Cells K C S A' H' Δ') {m : Nat} {a : Addr} {l : List (Int × D)} (h1 : A'[m]? = some a) (h2 : dctOf Δ' (.cell m) = some l) (hb : bareTs (l.map (·.2)) = true) :
    Rep K C S A H' (.ref a) (dctP l) := by
  have kp : ∀ b o, H b = some o → H' b = some o := fun b o h => e2.keep b o (fun q => nomatch q) h
  have ha : a ∈ A' := List.mem_of_getElem? h1
  obtain ⟨B, hB, nB⟩ := e2.pre
  have hn : H a = none := by
    rw [hB, List.nil_append] at ha
    exact nB a ha
  obtain ⟨vs, g1, g2⟩ := c2.dct_ h1 h2
  have k1 := c1.kept kp
  have nt : ∀ b ys, H' b = some (.tup ys) → b ∉ A := fun b ys h => k1.no_tup h
  obtain ⟨z1, z2⟩ := RepP.zip g2
  refine .dct (xs := vs.map (·.2)) (.inl (by rw [← z1]; exact g1)) (c1.fresh hn) (c2.dj a ha) ?_ (RepL.re nt _ hb z2)
  rw [List.length_map, List.length_map, g2.length]
end
def lentD (W : ZRC) : ZRC := fun ds Δ P => Z.belowL 0 (ds.map (Z.thaw Δ)) = true ∧ W (ds.map (Z.thaw Δ)) [] fun d Δ' => ∃ m l, d = .cell m ∧ dctOf Δ' (.cell m) = some l ∧ bareTs (l.map (·.2)) = true ∧ P (dctP l) Δ
def zCallBD (W : ZRC) (za : ZA) : ZE := fun Γ Δ P => za Γ Δ fun ds Δ1 => lentD W ds Δ1 P
section
variable {C : CI} {X : Cx} {e : Expr} {es : List Expr} {za : ZA} {pos p : Pos} {x : Str} {k : Nat} {f : Addr} {fd : FuncData} {ps : List Str} {W : ZRC}
theorem ref_callBD {K : PySem.W.Frag} {ta : TA} {E : XK} (ha : RefA K C ta za) : RefE K C (tCall (SpZ K C W) [] E ta) (zCallBD W za) := fun S A σ H Γ Δ P Q hs hc hz k =>
  ha S A σ H Γ Δ _ _ hs hc hz fun vs ds A1 H1 Δ1 e1 c1 r1 p => by
    obtain ⟨hb, p⟩ := p
    refine ⟨S, [], [], ds.map (Z.thaw Δ1), _, ?_, ⟨rfl, .nil, (fun a ha => nomatch ha), c1.as, (fun n a o h => nomatch h)⟩, p, fun v d A' H' Δ' e2 c2 r2 p2 => ?_⟩
    · rw [List.append_nil]; exact RepL.thw c1 ds hb r1
    · obtain ⟨m, l, rfl, h2, hb2, p2⟩ := p2
      cases r2 with
      | cell h1 =>
        rename_i a
        have kp : ∀ a o, H1 a = some o → H' a = some o := fun a o h => e2.keep a o (fun q => nomatch q) h
        exact k _ _ A1 H' Δ1 (e1.trans (Ext.kept kp)) (c1.kept kp) (c1.adoptD e2 c2 h1 h2 hb2) p2
theorem ez_callbD (F : FnOk X.prog X.w X.K X.mg X.base CX0 k f fd ps (SpZ X.K C W)) (hr : Room k X.A) (hm : X.mg x = some (.ref f)) (hk : PySem.W.keepIn X.K (.ref f) = true) (hb : Binds X.K fd ps [])
    (ha : AZ C X (e :: es) za) (hg : Gl X x := by rfl) (hdb : (x == ("__debug__" : Str)) = false := by decide) (he : starEach (e :: es) X.env = (false, eval e X.env) :: starEach es X.env := by rfl) (hpl : (backTo pos (starEach es X.env)).any (·.1) = false := by rfl) :
    EZ C X (.Call (.Name x p) (e :: es) [] pos) (zCallBD W za) := by
  obtain ⟨t, a1, a2⟩ := ha.ex
  exact ⟨_, pe_call F hr hg hm hk hb .nil pass0 a1 hdb he hpl, ref_callBD a2⟩
end
/-! ### a new list that the caller never changes; all other new cells are dropped -/
section
variable {K : PySem.W.Frag} {C : CI} {S A B : List Addr} {H H0 : Hp} {Δ Δ' : Store}
theorem Cells.freezeA {m : Nat} {x : Addr} {es : List D} (c1 : Cells K C S A H0 Δ) (hc : Cells K C S (A ++ B) H Δ') (hm : A.length ≤ m) (hx : (A ++ B)[m]? = some x) (he : Δ'[m]? = some (.lst es))
    (hw : ∀ (n : Nat) (o : O), n < A.length → Δ'[n]? = some o → Δ[n]? = some o ∨ blwO A.length o = true) (hb : belowL A.length es = true) : Cells K C S A H (Δ'.take A.length) ∧ Rep K C S A H (.ref x) (.lst es) := by
  have hl : A.length ≤ Δ'.length := by rw [← hc.len, List.length_append]; omega
  refine ⟨⟨by rw [List.length_take]; omega, c1.nd, c1.dj, hc.as, fun n a o h1 h2 => ?_⟩, ?_⟩
  · have hn : n < A.length := (List.getElem?_eq_some_iff.mp h1).1
    rw [List.getElem?_take, if_pos hn] at h2
    have q := hc.at_ n a o (by rw [List.getElem?_append_left hn]; exact h1) h2
    have hb2 : blwO A.length o = true := by
      rcases hw n o hn h2 with h | h
      · have q0 := c1.at_ n a o h1 h
        cases o with
        | lst ds =>
          obtain ⟨_, _, g3⟩ := q0
          exact RepL.blw ds g3
        | ins c fs =>
          obtain ⟨_, _, _, _, g4⟩ := q0
          exact RepL.blw _ g4
        | dct ks ds =>
          obtain ⟨_, _, _, g4⟩ := q0
          exact RepL.blw _ g4
      · exact h
    cases o with
    | lst ds =>
      obtain ⟨xs, g1, g2⟩ := q
      exact ⟨xs, g1, RepL.dropB B A ds hb2 g2⟩
    | ins c fs =>
      obtain ⟨dx, xs, g1, g2, g3⟩ := q
      exact ⟨dx, xs, g1, g2, RepL.dropB B A _ hb2 g3⟩
    | dct ks ds =>
      obtain ⟨xs, g1, g2, g3⟩ := q
      exact ⟨xs, g1, g2, RepL.dropB B A _ hb2 g3⟩
  · have q := hc.at_ m x (.lst es) hx he
    obtain ⟨xs, g1, g2⟩ := q
    rw [List.getElem?_append_right hm] at hx
    have hxB : x ∈ B := List.mem_of_getElem? hx
    have hxA : x ∉ A := fun h => (List.nodup_append.mp hc.nd).2.2 x h x hxB rfl
    exact .lst g1 hxA (hc.dj x (List.mem_append_right _ hxB)) (RepL.dropB B A es hb g2)
end
def frzA (W : ZRC) : ZRC := fun ds Δ P => W ds Δ fun d Δ' => ∃ m es, d = .cell m ∧ Δ.length ≤ m ∧ Δ'[m]? = some (.lst es) ∧ (∀ (n : Nat) (o : O), n < Δ.length → Δ'[n]? = some o → Δ[n]? = some o ∨ blwO Δ.length o = true) ∧ belowL Δ.length es = true ∧ P (.lst es) (Δ'.take Δ.length)
section
variable {P : Program} {w : World} {K : PySem.W.Frag} {mg : Str → Option Value} {base : Heap} {C : CI} {k : Nat} {f : Addr} {fd : FuncData} {ps : List Str} {W : ZRC}
theorem sp_frzA {vs : List V} {H : Hp} {Q : VK} {E : XK} (h : SpZ K C (frzA W) vs H Q E) : SpZ K C W vs H Q E := by
  obtain ⟨S, A, Δ, ds, P, r, hc, hw, kk⟩ := h
  refine ⟨S, A, Δ, ds, _, r, hc, hw, fun v d A' H' Δ' e c r' q => ?_⟩
  obtain ⟨m, es, rfl, hm, he, hch, hb, p⟩ := q
  cases r' with
  | cell g =>
    rename_i x
    obtain ⟨B, hB, nB⟩ := e.pre
    subst hB
    obtain ⟨c5, r5⟩ := hc.freezeA c (by rw [hc.len]; exact hm) g he (by rw [hc.len]; exact hch) (by rw [hc.len]; exact hb)
    rw [hc.len] at c5
    exact kk _ _ A H' _ ⟨⟨[], by simp, by simp⟩, fun a o h1 h2 => e.keep a o h1 h2, e.trk⟩ c5 r5 p
theorem fn_frzA (F : FnOk P w K mg base CX0 k f fd ps (SpZ K C W)) : FnOk P w K mg base CX0 k f fd ps (SpZ K C (frzA W)) := F.imp fun _ _ _ _ h => sp_frzA h
end
end Z

/-! Z28: a module's constant that is a tuple of ints; zip of two tuples. -/
namespace Z
open PySem PySem.Spec PyProof.Rows L2
/-- the written part has the tuple of these ints at a -/
def KTup (K : PySem.W.Frag) (a : Addr) (ns : List Int) : Prop := ∃ (o : Obj) (its : Array Value) (n : Nat), K.lookup a = some o ∧ o.cls = .type "tuple" ∧ o.data = .seq its n ∧ its.size ≤ sizeLine ∧ Vals (ns.map V.int) its.toList
section
variable {C : CI} {X : Cx}
theorem ez_ktup {x : Str} {ns : List Int} {pos : Pos} (h : ∃ a, X.mg x = some (.ref a) ∧ KTup X.K a ns) (hg : Gl X x := by rfl) (hd : (x == ("__debug__" : Str)) = false := by decide) : EZ C X (.Name x pos) (zC (.ktup ns)) := by
  obtain ⟨a, hm, h⟩ := h
  exact ⟨_, pe_glob (v := .ref a) hg hm rfl hd, ref_c fun _ _ _ => .ktup h⟩
theorem ktup2 {K : PySem.W.Frag} {a : Addr} {i j : Int} {s t : Tok} {od : Option Addr} {n : Nat} {sl : Array (Option Value)} (h : K.lookup a = some ⟨.type "tuple", od, .seq #[.int i s, .int j t] n, sl⟩) : KTup K a [i, j] :=
  ⟨_, _, n, h, rfl, rfl, by show 2 ≤ sizeLine; decide, .cons ⟨s, rfl⟩ (.cons ⟨t, rfl⟩ .nil)⟩
/-! ### zip of two tuples -/
theorem walk_zipT {K : PySem.W.Frag} {a b : Addr} {xs ys : List V} {n : Nat} (hn : n = min xs.length ys.length) : Walk (RZ.ItzT K a b) n (fun H => SqT K H a xs ∧ SqT K H b ys) (YPair (fun i => xs[i]?) (fun i => ys[i]?)) := by
  subst hn
  refine ⟨fun i _ hi q => ?_, fun _ q => ⟨xs, ys, q.1, q.2, by omega⟩, fun i H v H' _ q y => ?_⟩
  · have h1 : i < xs.length := by omega
    have h2 : i < ys.length := by omega
    exact ⟨xs, ys, xs[i], ys[i], q.1, q.2, by simp [h1], by simp [h2]⟩
  · obtain ⟨T, x, z, h1, h2, h3, h4, h5⟩ := y
    exact ⟨T, x, z, h1, h2, h3, h4 xs q.1, h5 ys q.2⟩
def ziZipT (za : ZA) : ZI := fun Γ Δ P => za Γ Δ fun ds Δ1 => ∃ xs ys, ds = [.tup xs, .tup ys] ∧ P ((xs.zip ys).map fun q => .tup [q.1, q.2]) Δ1
theorem iz_zipT {p pos : Pos} {e e2 : Expr} {za : ZA} {tpos : Pos} {elts : List Expr} {kk : Nat} (ha : AZ C X [e, e2] za) (hm : X.mg "zip" = none) (hg : Gl X "zip" := by rfl)
    (hs : starEach [e, e2] X.env = (false, eval e X.env) :: starEach [e2] X.env := by rfl) (hpl : (backTo pos (starEach [e2] X.env)).any (·.1) = false := by rfl) : IZ C X (.Tuple elts kk tpos) (.Call (.Name "zip" p) [e, e2] [] pos) (ziZipT za) := by
  obtain ⟨t, a1, a2⟩ := ha.ex
  refine ⟨_, RZ.pi_zipA hg hm a1 hs hpl, fun S A σ H Γ Δ P R hs hc hz k => a2 S A σ H Γ Δ _ _ hs hc hz fun vs ds A1 H1 Δ1 e1 c1 r1 q => ?_⟩
  obtain ⟨xs, ys, rfl, q⟩ := q
  obtain ⟨v, v', rfl, rv, rv'⟩ := two_rep r1
  cases rv with
  | tup g1 g2 g3 g4 =>
    cases rv' with
    | tup h1 h2 h3 h4 =>
      rename_i a us b ws
      refine ⟨a, b, us, ws, rfl, .inr ⟨SqT.of g1, SqT.of h1, ?_⟩⟩
      refine k (RZ.ItzT X.K a b) (min us.length ws.length) _ _ _ A1 H1 Δ1 e1 c1 q (by rw [List.length_map, List.length_zip, g4.length, h4.length]) (walk_zipT rfl) (fun S2 A2 H2 m => ⟨SqT.of (m.keep _ _ g2 g3 g1), SqT.of (m.keep _ _ h2 h3 h1)⟩) fun S2 A2 H2 Δ2 i x H3 hi m c2 y => ?_
      obtain ⟨T, y1, y2, rfl, nT, rfl, f1, f2⟩ := y
      obtain ⟨d1, q1, q2⟩ := (RepL.mono m _ g4).getV f1
      obtain ⟨d2, q3, q4⟩ := (RepL.mono m _ h4).getV f2
      refine ⟨.tup [d1, d2], ?_, fun b o h => by rw [upd_ne (ne_of_none h nT)]; exact h, .tup upd_same (c2.fresh nT) (c2.aside nT) (.cons (q2.ext (Ext.new nT)) (.cons (q4.ext (Ext.new nT)) .nil))⟩
      rw [List.getElem?_map, List.getElem?_zip_eq_some.mpr (show xs[i]? = some (d1, d2).1 ∧ ys[i]? = some (d1, d2).2 from ⟨q1, q3⟩)]
      rfl
end
end Z

/-! Z29: x or y where x is None or a tuple with items. -/
namespace Z
open PySem PySem.Spec PyProof.Rows L2
def zOrT (za zb : ZE) : ZE := fun Γ Δ P => za Γ Δ fun x Δ1 => (x = .non ∧ zb Γ Δ1 P) ∨ ∃ d ds, x = .tup (d :: ds) ∧ P (.tup (d :: ds)) Δ1
section
variable {C : CI} {X : Cx} {a b : Expr} {rest : List Expr} {za zb : ZE} {pos : Pos}
theorem ez_orT (ha : EZ C X a za) (hb : EZ C X (.BoolOp .Or (b :: rest) pos) zb) : EZ C X (.BoolOp .Or (a :: b :: rest) pos) (zOrT za zb) := by
  obtain ⟨t, a1, a2⟩ := ha.ex
  obtain ⟨u, b1, b2⟩ := hb.ex
  refine ⟨_, pe_orT a1 b1, fun S A σ H Γ Δ P Q hs hc hz k => a2 S A σ H Γ Δ _ _ hs hc hz fun x dx A1 H1 Δ1 e1 c1 r1 hz1 => ?_⟩
  rcases hz1 with ⟨rfl, p⟩ | ⟨d, ds, rfl, p⟩
  · cases r1
    exact ⟨false, rfl, iteF (b2 S A1 σ H1 Γ Δ1 P Q (hs.ext e1) c1 p fun v d A2 H2 Δ2 e2 c2 r2 p => k v d A2 H2 Δ2 (e1.trans e2) c2 r2 p)⟩
  · have r1' := r1
    cases r1 with
    | tup g1 g2 g3 g4 =>
      rename_i q xs
      refine ⟨true, ?_, iteT (k _ _ A1 H1 Δ1 e1 c1 r1' p)⟩
      refine .inr (.inl ⟨xs, SqT.of g1, ?_⟩)
      cases g4
      rfl
end
end Z

/-! Z30: dict(list of pairs) and sorted(dict), as cells. -/
namespace Z
open PySem PySem.Spec PyProof.Rows L2
def pairT (p : Int × D) : D := .tup [.int p.1, p.2]
def zDictPC : ZRC := fun ds Δ P => ∃ l : List (Int × D), ds = [.lst (l.map pairT)] ∧ P (.cell Δ.length) (Δ ++ [dctO (mrgI [] l)])
def zSortDC : ZRC := fun ds Δ P => ∃ (x : D) (l : List (Int × D)), ds = [x] ∧ dctOf Δ x = some l ∧ ∀ ys : List Int, ys.Perm (l.map (·.1)) → ys.Pairwise (· ≤ ·) → P (.cell Δ.length) (Δ ++ [.lst (ys.map D.int)])
theorem pairs_rep {K : PySem.W.Frag} {C : CI} {S A : List Addr} {H : Hp} : ∀ {l : List (Int × D)} {xs : List V}, RepL K C S A H xs (l.map pairT) → ∃ (ps : List Addr) (kvs : List (Key × V)), xs = ps.map V.ref ∧ Paired (fun p kv => SqT K H p [kV kv.1, kv.2]) ps kvs ∧ RepP K C S A H kvs l
  | [], _, h => by cases h; exact ⟨[], [], rfl, .nil, .nil⟩
  | p :: l, _, h => by
    rw [List.map_cons] at h
    cases h with
    | cons h r =>
      obtain ⟨ps, kvs, rfl, q1, q2⟩ := pairs_rep r
      cases h with
      | tup g1 g2 g3 g4 =>
        rename_i a ys
        obtain ⟨v, v', rfl, rv, rv'⟩ := two_rep g4
        cases rv
        exact ⟨a :: ps, (Sum.inl p.1, v') :: kvs, rfl, .cons (SqT.of g1) q1, .cons rv' q2⟩
section
variable {C : CI} {X : Cx}
theorem cz_dictPC (hc : X.calm = true := by rfl) : CallZ C X (.type "dict") zDictPC := ⟨_, call_dictP hc, fun S A H Δ xs ds P Q hc r hz k => by
  obtain ⟨l, rfl, q⟩ := hz
  obtain ⟨v, rfl, rv⟩ := one_rep r
  cases rv with
  | lst g1 g2 g3 g4 =>
    rename_i a ys
    obtain ⟨ps, kvs, rfl, q1, q2⟩ := pairs_rep g4
    refine ⟨a, ps, kvs, rfl, SqL.of g1, q1, fun p hp => ?_⟩
    have e : Ext A H (A ++ [p]) (upd H p (.dK (mergeK [] kvs))) := Ext.newCell hp
    refine k _ _ (A ++ [p]) _ _ e (hc.newO (o := dctO (mrgI [] l)) hp (RepP.cellAt upd_same (RepP.mono e.mo (RepP.merge q2 .nil)))) (.cell ?_) q
    rw [← hc.len, List.getElem?_append_right (Nat.le_refl _), Nat.sub_self]
    rfl⟩
theorem cz_sortDC (hc : X.calm = true := by rfl) : CallZ C X (.builtin "sorted") zSortDC := ⟨_, cr_sortDI hc, fun S A H Δ xs ds P Q hc r hz k => by
  obtain ⟨x, l, rfl, hd, q⟩ := hz
  obtain ⟨v, rfl, rv⟩ := one_rep r
  obtain ⟨pa, vs, rfl, g1, g2⟩ := Rep.dctOf hc rv hd
  refine ⟨pa, vs, l.map (·.1), rfl, g1, g2.keys, fun ys p h1 h2 hp => ?_⟩
  refine k _ _ (A ++ [p]) _ _ (Ext.newCell hp) (hc.newCell hp (repL_ints ys)) (.cell ?_) (q ys h1 h2)
  rw [← hc.len, List.getElem?_append_right (Nat.le_refl _), Nat.sub_self]
  rfl⟩
end
end Z

/-! Z31: the truth of a list or a tuple. -/
namespace Z
open PySem PySem.Spec PyProof.Rows L2
def zTru (z : ZE) : ZT := fun Γ Δ P => z Γ Δ fun d Δ1 => ∃ ds, seqD Δ1 d = some ds ∧ P (!ds.isEmpty) Δ1
theorem tz_tru {C : CI} {X : Cx} {e : Expr} {z : ZE} (h : EZ C X e z) (he : ∀ whole, isTrue e X.env whole = (do let v ← whole; standAt e.pos; holding [v] (truthy v)) := by intro _; rfl) : TZ C X e (zTru z) := by
  obtain ⟨te, e1, e2⟩ := h.ex
  refine ⟨_, pt_truth e1 he, fun S A σ H Γ Δ P Q hs hc hz k => e2 S A σ H Γ Δ _ _ hs hc hz fun v d A1 H1 Δ1 ex c1 r1 hz1 => ?_⟩
  obtain ⟨ds, hd, p⟩ := hz1
  obtain ⟨pa, xs, rfl, hq, r⟩ := Rep.seq c1 r1 hd
  have el : xs.isEmpty = ds.isEmpty := by
    have := r.length
    cases xs <;> cases ds <;> simp_all
  refine ⟨!ds.isEmpty, ?_, k _ A1 H1 Δ1 ex c1 p⟩
  rw [← el]
  rcases hq with hq | hq
  · exact .inl ⟨xs, hq, rfl⟩
  · exact .inr (.inl ⟨xs, hq, rfl⟩)
end Z

/-! Z32: <<. -/
namespace Z
open PySem PySem.Spec PyProof.Rows L2
theorem oz_shl {C : CI} {X : Cx} : OpZ C X (binaryOp .LShift) (zI CPow fun i j => .int (i * 2 ^ j.toNat)) := ⟨_, op_shl, ref_I fun _ _ _ _ _ => .int _⟩
end Z

/-! Z33: lent calls whose new dict the caller changes. -/
namespace Z
open PySem PySem.Spec PyProof.Rows L2
section
variable {K : PySem.W.Frag} {C : CI} {S A : List Addr} {H : Hp} {Δ : Store}
theorem RepP.re {A A' : List Addr} {H : Hp} (c : ∀ a xs, H a = some (.tup xs) → a ∉ A) : ∀ {l : List (Int × D)} {vs : List (Key × V)}, bareTs (l.map (·.2)) = true → RepP K C S A' H vs l → RepP K C S A H vs l
  | [], _, _, h => by cases h; exact .nil
  | p :: l, _, hb, h => by
    have hb' : (bareT p.2 && bareTs (l.map (·.2))) = true := hb
    rw [Bool.and_eq_true] at hb'
    cases h with
    | cons h r => exact .cons (Rep.re c _ hb'.1 h) (RepP.re c hb'.2 r)
theorem Cells.adoptDC (c1 : Cells K C S A H Δ) {A' : List Addr} {H' : Hp} {Δ' : Store} (e2 : Ext [] H A' H') (c2 : Cells K C S A' H' Δ') {m : Nat} {a : Addr} {l : List (Int × D)} (h1 : A'[m]? = some a) (h2 : dctOf Δ' (.cell m) = some l) (hb : bareTs (l.map (·.2)) = true) :
    Ext A H (A ++ [a]) H' ∧ Cells K C S (A ++ [a]) H' (Δ ++ [dctO l]) := by
  have kp : ∀ b o, H b = some o → H' b = some o := fun b o h => e2.keep b o (fun q => nomatch q) h
  have ha : a ∈ A' := List.mem_of_getElem? h1
  obtain ⟨B, hB, nB⟩ := e2.pre
  have hn : H a = none := by
    rw [hB, List.nil_append] at ha
    exact nB a ha
  have haS : a ∉ S := c2.dj a ha
  have haA : a ∉ A := c1.fresh hn
  obtain ⟨vs, g1, g2⟩ := c2.dct_ h1 h2
  have k1 := c1.kept kp
  have nt2 : ∀ b ys, H' b = some (.tup ys) → b ∉ A ++ [a] := fun b ys h hm => by
    rcases List.mem_append.mp hm with hm | hm
    · exact k1.no_tup h hm
    · rw [List.mem_singleton] at hm
      subst hm
      rw [g1] at h
      cases h
  have ex : Ext A H (A ++ [a]) H' := ⟨⟨[a], rfl, fun b hb => by rw [List.mem_singleton] at hb; rw [hb]; exact hn⟩, fun b o _ h => kp b o h, e2.trk⟩
  refine ⟨ex, ⟨by rw [List.length_append, List.length_append, c1.len] <;> rfl, ?_, ?_, ?_, ?_⟩⟩
  · refine List.nodup_append.mpr ⟨c1.nd, by simp, fun b hb c hc => ?_⟩
    rw [List.mem_singleton] at hc
    subst hc
    exact fun q => haA (q ▸ hb)
  · intro b hb
    rcases List.mem_append.mp hb with hb | hb
    · exact c1.dj b hb
    · rw [List.mem_singleton] at hb
      subst hb
      exact haS
  · exact fun b hb => c2.as b hb
  · intro n b w q1 q2
    by_cases hn2 : n < A.length
    · rw [List.getElem?_append_left hn2] at q1
      rw [List.getElem?_append_left (by rw [← c1.len]; exact hn2)] at q2
      exact (c1.at_ n b w q1 q2).mono ex.mo (kp b)
    · have hn3 : n = A.length := by
        have := (List.getElem?_eq_some_iff.mp q1).1
        rw [List.length_append] at this
        simp at this
        omega
      subst hn3
      rw [List.getElem?_append_right (Nat.le_refl _), Nat.sub_self] at q1
      rw [c1.len, List.getElem?_append_right (Nat.le_refl _), Nat.sub_self] at q2
      simp at q1 q2
      subst q1
      subst q2
      exact RepP.cellAt g1 (RepP.re nt2 hb g2)
end
def lentDC (W : ZRC) : ZRC := fun ds Δ P => Z.belowL 0 (ds.map (Z.thaw Δ)) = true ∧ W (ds.map (Z.thaw Δ)) [] fun d Δ' => ∃ m l, d = .cell m ∧ dctOf Δ' (.cell m) = some l ∧ bareTs (l.map (·.2)) = true ∧ P (.cell Δ.length) (Δ ++ [dctO l])
def zCallBDC (W : ZRC) (za : ZA) : ZE := fun Γ Δ P => za Γ Δ fun ds Δ1 => lentDC W ds Δ1 P
section
variable {C : CI} {X : Cx} {e : Expr} {es : List Expr} {za : ZA} {pos p : Pos} {x : Str} {k : Nat} {f : Addr} {fd : FuncData} {ps : List Str} {W : ZRC}
theorem ref_callBDC {K : PySem.W.Frag} {ta : TA} {E : XK} (ha : RefA K C ta za) : RefE K C (tCall (SpZ K C W) [] E ta) (zCallBDC W za) := fun S A σ H Γ Δ P Q hs hc hz k =>
  ha S A σ H Γ Δ _ _ hs hc hz fun vs ds A1 H1 Δ1 e1 c1 r1 p => by
    obtain ⟨hb, p⟩ := p
    refine ⟨S, [], [], ds.map (Z.thaw Δ1), _, ?_, ⟨rfl, .nil, (fun a ha => nomatch ha), c1.as, (fun n a o h => nomatch h)⟩, p, fun v d A' H' Δ' e2 c2 r2 p2 => ?_⟩
    · rw [List.append_nil]; exact RepL.thw c1 ds hb r1
    · obtain ⟨m, l, rfl, h2, hb2, p2⟩ := p2
      cases r2 with
      | cell h1 =>
        rename_i a
        obtain ⟨q2, q3⟩ := c1.adoptDC e2 c2 h1 h2 hb2
        refine k _ _ (A1 ++ [a]) H' _ (e1.trans q2) q3 (.cell ?_) p2
        rw [← c1.len, List.getElem?_append_right (Nat.le_refl _), Nat.sub_self]
        rfl
theorem ez_callbDC (F : FnOk X.prog X.w X.K X.mg X.base CX0 k f fd ps (SpZ X.K C W)) (hr : Room k X.A) (hm : X.mg x = some (.ref f)) (hk : PySem.W.keepIn X.K (.ref f) = true) (hb : Binds X.K fd ps [])
    (ha : AZ C X (e :: es) za) (hg : Gl X x := by rfl) (hdb : (x == ("__debug__" : Str)) = false := by decide) (he : starEach (e :: es) X.env = (false, eval e X.env) :: starEach es X.env := by rfl) (hpl : (backTo pos (starEach es X.env)).any (·.1) = false := by rfl) :
    EZ C X (.Call (.Name x p) (e :: es) [] pos) (zCallBDC W za) := by
  obtain ⟨t, a1, a2⟩ := ha.ex
  exact ⟨_, pe_call F hr hg hm hk hb .nil pass0 a1 hdb he hpl, ref_callBDC a2⟩
end
end Z

/-! Z34: xs[::-1] that is changed later. -/
namespace Z
open PySem PySem.Spec PyProof.Rows L2
def zRevC (z : ZE) : ZE := fun Γ Δ P => z Γ Δ fun x Δ1 => ∃ ds, lstD Δ1 x = some ds ∧ P (.cell Δ1.length) (Δ1 ++ [.lst ds.reverse])
theorem ez_revC {C : CI} {X : Cx} {e : Expr} {z : ZE} {p1 p2 p3 pos : Pos} (h : EZ C X e z) {k : Nat} : EZ C X (.Subscript e (.Slice none none (some (.UnaryOp .USub (.Constant (.int 1) k p1) p2)) p3) pos) (zRevC z) := by
  obtain ⟨t, h1, h2⟩ := h.ex
  refine ⟨_, pe_revL h1, fun S A σ H Γ Δ P Q hs hc hz k => h2 S A σ H Γ Δ _ _ hs hc hz fun v d A1 H1 Δ1 e1 c1 r1 p => ?_⟩
  obtain ⟨ds, hd, p⟩ := p
  obtain ⟨a, xs, rfl, g1, g2⟩ := Rep.lst_ c1 r1 hd
  refine ⟨a, xs, rfl, SqL.of g1, fun q hq => ?_⟩
  refine k _ _ (A1 ++ [q]) _ _ (e1.trans (Ext.newCell hq)) (c1.newCell hq g2.reverse) (.cell ?_) p
  rw [← c1.len, List.getElem?_append_right (Nat.le_refl _), Nat.sub_self]
  rfl
end Z

/-! Z35: a list that is given (a script) put together with a list. -/
namespace Z
open PySem PySem.Spec PyProof.Rows L2
def rCatS (K : PySem.W.Frag) : R2 := fun x y H Q => ∃ a b xs ys, x = .ref a ∧ y = .ref b ∧ SqL K H a xs ∧ SqL K H b ys ∧ xs.length + ys.length ≤ sizeLine ∧ ∀ p, H p = none → Q (.ref p) (upd H p (.lst (xs ++ ys)))
theorem op_catS {X : Cx} : OpR X (binaryOp .Add) (rCatS X.K) := fun pins s σ H x y v u Q I rx ry h => by
  obtain ⟨a, b, xs, ys, rfl, rfl, hx, hy, hl, q⟩ := h
  cases rx
  cases ry
  obtain ⟨its, r, pl, l⟩ := I.list hx
  obtain ⟨its2, r2, pl2, l2⟩ := I.list hy
  have t1 := pl.isList.typeIs
  have t2 := pl2.isList.typeIs
  obtain ⟨o, n, g1, g2, g3, g4⟩ := pl
  obtain ⟨o2, n2, k1, k2, k3, k4⟩ := pl2
  have e1 := r.length
  have e2 := r2.length
  cases o
  cases o2
  simp only at g2 g3 g4 k2 k3 k4
  subst g2 g3 g4 k2 k3 k4
  refine concat_meets t1 t2 noFill_list_add seq_list_add PySem.F.slot_list_add PySem.F.entry_list_add (PySem.F.args_list_add_2 _ _) (list_addW a b its.toArray its2.toArray n n2 _ _ _ _ (by simp; omega)) ⟨g1, k1, ?_⟩
  have := I.lnew (t' := s.toks) (r.append r2) (by rw [List.length_append]; exact hl)
  refine ⟨.ref s.heap.objs.size, _, ?_, rfl, q _ I.fresh⟩
  rw [show (its ++ its2).toArray = its.toArray ++ its2.toArray by simp] at this
  exact this
section
variable {C : CI} {X : Cx}
def zCatS : ZR2 := fun x y Δ P => ∃ ns es, x = .scr ns ∧ y = .lst es ∧ ns.length + es.length ≤ 100000 ∧ P (.lst (ns.map D.int ++ es)) Δ
theorem oz_catS : OpZ C X (binaryOp .Add) zCatS := ⟨_, op_catS, fun S A H Δ x y dx dy P Q hc rx ry hz k => by
  obtain ⟨ns, es, rfl, rfl, hl, p⟩ := hz
  obtain ⟨b, ys, rfl, g3, g4⟩ := Rep.lst_ hc ry (show lstD Δ (.lst es) = some es from rfl)
  cases rx with
  | scr h =>
    rename_i a
    have sq : SqL X.K H a (ns.map V.int) := by
      rcases h with ⟨⟨o, h⟩, _⟩ | h
      · exact .inl (.inr ⟨o, h⟩)
      · exact .inr h
    refine ⟨a, b, _, ys, rfl, rfl, sq, SqL.of g3, sz100 (by rw [g4.length, List.length_map]; exact hl), fun q hq => ?_⟩
    have e := Ext.new (A := A) (o := .lst (ns.map V.int ++ ys)) hq
    exact k _ _ A _ Δ e (hc.new hq) (.lst upd_same (hc.fresh hq) (hc.aside hq) (((repL_ints ns).append g4).ext e)) p⟩
end
end Z

/-! Z36: xs.insert(i, y) and xs.pop(i) on a list in a cell; sorted(list of ints) of what a cell or data holds stays Z13's. -/
namespace Z
open PySem PySem.Spec PyProof.Rows L2
def zInsert (zo : ZE) (za : ZA) : ZE := fun Γ Δ P => zo Γ Δ fun o Δ1 => (∃ n ds, o = .cell n ∧ Δ1[n]? = some (.lst ds)) ∧ za Γ Δ1 fun as Δ2 => ∃ n ds i y, o = .cell n ∧ Δ2[n]? = some (.lst ds) ∧ as = [.int i, y] ∧ ds.length < 100000 ∧ 0 ≤ i ∧ i < 2 ^ 63 ∧ P .non (Δ2.set n (.lst (ds.take i.toNat ++ [y] ++ ds.drop i.toNat)))
def zPopAt (zo : ZE) (za : ZA) : ZE := fun Γ Δ P => zo Γ Δ fun o Δ1 => (∃ n ds, o = .cell n ∧ Δ1[n]? = some (.lst ds)) ∧ za Γ Δ1 fun as Δ2 => ∃ n ds i y, o = .cell n ∧ Δ2[n]? = some (.lst ds) ∧ as = [.int (i : Nat)] ∧ i < 2 ^ 63 ∧ ds[i]? = some y ∧ P y (Δ2.set n (.lst (ds.eraseIdx i)))
theorem RepL.eraseIdx {K : PySem.W.Frag} {C : CI} {S A : List Addr} {H : Hp} : ∀ {vs : List V} {ds : List D} (i : Nat), RepL K C S A H vs ds → RepL K C S A H (vs.eraseIdx i) (ds.eraseIdx i)
  | _, _, _, .nil => .nil
  | _, _, 0, .cons h r => r
  | _, _, i + 1, .cons h r => .cons h (RepL.eraseIdx i r)
section
variable {C : CI} {X : Cx} {o e : Expr} {es : List Expr} {zo : ZE} {za : ZA} {apos cpos : Pos}
theorem ez_insert (ho : EZ C X o zo) (ha : AZ C X (e :: es) za)
    (hbase : attributeBase o "insert" X.env (eval o X.env) = eval o X.env := by rfl)
    (hfew : ((backTo cpos (starEach (e :: es) X.env)).all (fun x => !x.1) && (backToKw cpos (keywordEach [] X.env)).all (fun x => x.1.isSome)
      && decide ((e :: es).length + ([] : List Keyword).length + (if ([] : List Keyword).isEmpty then 0 else 1) < 30)) = true := by rfl)
    (hline : (apos.endLine == cpos.line) = true := by rfl) (hs : starEach (e :: es) X.env = (false, eval e X.env) :: starEach es X.env := by rfl) (hplain : (backTo cpos (starEach es X.env)).any (·.1) = false := by rfl) :
    EZ C X (.Call (.Attribute o "insert" apos) (e :: es) [] cpos) (zInsert zo za) := by
  obtain ⟨t, o1, o2⟩ := ho.ex
  obtain ⟨u, a1, a2⟩ := ha.ex
  refine ⟨_, pe_bm PySem.F.plainAttrs_list PySem.F.slot_list_insert PySem.F.type_list_insert mt_insert o1 a1 hbase hfew hline hs hplain, fun S A σ H Γ Δ P Q hs hc hz k => o2 S A σ H Γ Δ _ _ hs hc hz fun v d A1 H1 Δ1 e1 c1 r1 p => ?_⟩
  obtain ⟨⟨n, ds, rfl, hd⟩, p⟩ := p
  cases r1 with
  | cell g =>
    obtain ⟨xs, g1, g2⟩ := c1.at_ n _ _ g hd
    refine ⟨.inl ⟨rfl, _, SqL.of g1⟩, a2 S A1 σ H1 Γ Δ1 _ _ (hs.ext e1) c1 p fun vs as A2 H2 Δ2 e2 c2 r2 p2 => ?_⟩
    obtain ⟨n', ds', i, y, hn, hd', rfl, hl, i0, i1, p2⟩ := p2
    cases hn
    obtain ⟨v, w, rfl, rv, rw_⟩ := two_rep r2
    cases rv
    rename_i pa
    have g' : A2[n]? = some pa := by
      obtain ⟨B, hB, _⟩ := e2.pre
      rw [hB, List.getElem?_append_left (List.getElem?_eq_some_iff.mp g).1]
      exact g
    obtain ⟨xs', g3, g4⟩ := c2.at_ n _ _ g' hd'
    have q := c2.put g' (((g4.take i.toNat).append (.cons rw_ .nil)).append (g4.drop i.toNat))
    exact ⟨_, xs', i, w, rfl, rfl, g3, lt_line (by rw [g4.length]; exact hl), i0, i1, k _ _ A2 _ _ ((e1.trans e2).trans q.2) q.1 .non p2⟩
theorem ez_popAt (ho : EZ C X o zo) (ha : AZ C X (e :: es) za)
    (hbase : attributeBase o "pop" X.env (eval o X.env) = eval o X.env := by rfl)
    (hfew : ((backTo cpos (starEach (e :: es) X.env)).all (fun x => !x.1) && (backToKw cpos (keywordEach [] X.env)).all (fun x => x.1.isSome)
      && decide ((e :: es).length + ([] : List Keyword).length + (if ([] : List Keyword).isEmpty then 0 else 1) < 30)) = true := by rfl)
    (hline : (apos.endLine == cpos.line) = true := by rfl) (hs : starEach (e :: es) X.env = (false, eval e X.env) :: starEach es X.env := by rfl) (hplain : (backTo cpos (starEach es X.env)).any (·.1) = false := by rfl) :
    EZ C X (.Call (.Attribute o "pop" apos) (e :: es) [] cpos) (zPopAt zo za) := by
  obtain ⟨t, o1, o2⟩ := ho.ex
  obtain ⟨u, a1, a2⟩ := ha.ex
  refine ⟨_, pe_bm PySem.F.plainAttrs_list PySem.F.slot_list_pop PySem.F.type_list_pop mt_popAt o1 a1 hbase hfew hline hs hplain, fun S A σ H Γ Δ P Q hs hc hz k => o2 S A σ H Γ Δ _ _ hs hc hz fun v d A1 H1 Δ1 e1 c1 r1 p => ?_⟩
  obtain ⟨⟨n, ds, rfl, hd⟩, p⟩ := p
  cases r1 with
  | cell g =>
    obtain ⟨xs, g1, g2⟩ := c1.at_ n _ _ g hd
    refine ⟨.inl ⟨rfl, _, SqL.of g1⟩, a2 S A1 σ H1 Γ Δ1 _ _ (hs.ext e1) c1 p fun vs as A2 H2 Δ2 e2 c2 r2 p2 => ?_⟩
    obtain ⟨n', ds', i, y, hn, hd', rfl, i1, hy, p2⟩ := p2
    cases hn
    obtain ⟨v, rfl, rv⟩ := one_rep r2
    cases rv
    rename_i pa
    have g' : A2[n]? = some pa := by
      obtain ⟨B, hB, _⟩ := e2.pre
      rw [hB, List.getElem?_append_left (List.getElem?_eq_some_iff.mp g).1]
      exact g
    obtain ⟨xs', g3, g4⟩ := c2.at_ n _ _ g' hd'
    have hi : i < ds'.length := (List.getElem?_eq_some_iff.mp hy).1
    have hx : i < xs'.length := by rw [g4.length]; exact hi
    have hxy : xs'[i]? = some xs'[i] := List.getElem?_eq_getElem hx
    obtain ⟨d1, q1, q2⟩ := g4.getV hxy
    rw [hy] at q1
    cases q1
    have q := c2.put g' (g4.eraseIdx i)
    refine ⟨_, xs', (i : Int), i, xs'[i], rfl, rfl, g3, by omega, by omega, ?_, hxy, k _ _ A2 _ _ ((e1.trans e2).trans q.2) q.1 (q2.ext q.2) p2⟩
    unfold seqIndex?
    rw [if_neg (by omega : ¬ ((i : Int) < 0))]
    simp [hx]
end
/-- a slice that is changed later -/
def zSlC (z : ZE) (zl zh : ZO) : ZE := fun Γ Δ P => z Γ Δ fun x Δ1 => zl Γ Δ1 fun l Δ2 => zh Γ Δ2 fun u Δ3 => ∃ ds, lstD Δ3 x = some ds ∧ P (.cell Δ3.length) (Δ3 ++ [.lst (cutD ds l u)])
theorem ez_slC {C : CI} {X : Cx} {a : Expr} {za : ZE} {pos : Pos} {lo hi : Option Expr} {zl zh : ZO} {p2 : Pos} (ha : EZ C X a za) (hl : OZ C X lo zl) (hh : OZ C X hi zh) : EZ C X (.Subscript a (.Slice lo hi none p2) pos) (zSlC za zl zh) := by
  obtain ⟨t, a1, a2⟩ := ha.ex
  obtain ⟨tl, l1, l2⟩ := hl.ex
  obtain ⟨th, u1, u2⟩ := hh.ex
  refine ⟨_, pe_slice sl_list a1 l1 u1, fun S A σ H Γ Δ P Q hs hc hz k => a2 S A σ H Γ Δ _ _ hs hc hz fun x dx A1 H1 Δ1 e1 c1 r1 hz1 => ?_⟩
  refine l2 S A1 σ H1 Γ Δ1 _ _ (hs.ext e1) c1 hz1 fun l A2 H2 Δ2 e2 c2 hz2 => u2 S A2 σ H2 Γ Δ2 _ _ ((hs.ext e1).ext e2) c2 hz2 fun u A3 H3 Δ3 e3 c3 hz3 => ?_
  obtain ⟨ds, hd, p⟩ := hz3
  have r3 := (r1.ext e2).ext e3
  obtain ⟨pa, xs, rfl, hS, r⟩ := Rep.lst_ c3 r3 hd
  have hcut : RepL X.K C S A3 H3 (cutV xs l u) (cutD ds l u) := by
    unfold cutV cutD
    rw [r.length]
    exact (r.drop _).take _
  refine ⟨pa, xs, rfl, SqL.of hS, fun q hq => ?_⟩
  refine k _ _ (A3 ++ [q]) _ _ (((e1.trans e2).trans e3).trans (Ext.newCell hq)) (c3.newCell hq hcut) (.cell ?_) p
  rw [← c3.len, List.getElem?_append_right (Nat.le_refl _), Nat.sub_self]
  rfl
end Z

/-! Y1: an exception that is caught and given to another name stays known behind the try. -/
namespace Z
open PySem PySem.Spec PyProof.Rows L2
section
variable {X : Cx} {pins : List (Addr × Obj)} {σ : L2.St} {H : Hp} {s : Shared} {a : Addr} {cls : Value}
theorem track {ob : Obj} {us : Array Value} (I : Inv X pins σ H s) (hob : s.heap.get? a = some ob) (hzc : Zc cls none ob) (hus : ob.data = .fields us) (na : H a = none) (n0 : X.s_0.heap.get? a = none) (np : ∀ p ∈ X.pn ++ pins, p.1 ≠ a)
    (nL : a ≠ X.env.locals) : Inv X pins σ (upd H a (ExH cls a)) s := by
  have keep : ∀ {b : Addr} {u : HO}, H b = some u → upd H a (ExH cls a) b = some u := fun {b u} e => by rw [upd_ne (ne_of_none e na)]; exact e
  have off : ∀ {b : Addr}, b ≠ a → H b = none → upd H a (ExH cls a) b = none := fun {b} n e => by rw [upd_ne n]; exact e
  have B := I.base
  refine ⟨I.ok, I.os, I.bare, { keep := B.keep, slot := B.slot, there := B.there, free := fun b o q n hx => off (fun e => by rw [e, n0] at q; cases q) (B.free b o q n hx), tups := fun b xs q => keep (B.tups b xs q), frzs := fun b o u q => keep (B.frzs b o u q), tbls := fun b ps q => ?_ },
    I.loc, I.cell, off (fun e => nL e.symm) I.free, fun x c e => off (fun q => ?_) (I.freeC x c e), fun p hp => ?_, fun b u e => ?_, I.len⟩
  · obtain ⟨more, q⟩ := B.tbls b ps q
    exact ⟨more, keep q⟩
  · obtain ⟨v, oc, e1, e2⟩ := I.cell x c e
    rw [q, hob] at e1
    cases e1
    have e2 : ob.data = _ := e2
    rw [hus] at e2
    cases e2
  · obtain ⟨q1, q2, q3⟩ := I.pin p hp
    exact ⟨q1, off (np p hp) q2, q3⟩
  · by_cases hb : b = a
    · rw [hb, upd_same] at e
      cases e
      rw [hb]
      exact ⟨⟨ob, us, hob, hzc, hus⟩, ⟨ob, hob⟩, fun g g' ⟨o', u', w1, w2⟩ k => ⟨o', u', k o' w1, w2⟩⟩
    · rw [upd_ne hb] at e
      exact (I.hok b u e).stay (fun _ _ _ z => z) (fun _ z => keep z) fun _ _ z => keep z
end
/-- what the clause wishes of an exception of the body: it is of the class, and goes on behind the try, tracked -/
def wK (K : PySem.W.Frag) (c : Value) (i : Nat) (ts : Addr → Value → TS) (D : Ends) : WX := fun cls d σ H =>
  PySem.W.exmOne K cls c = some true ∧ d = none ∧ ∀ a, H a = none → ts a cls { nx := fun σ' H' => D.nx (σ'.set i none) (upd H' a (ExH cls a)), rt := fun _ _ => False } (σ.set i (some (.ref a))) H
section
variable {X : Cx} {x n : Str} {c : Value} {i : Nat} {body suite : List Stmt} {b0 : Stmt} {np pos pos1 : Pos} {tb : WX → TS} {ts : Addr → Value → TS}
theorem ps_tryK (e1 : X.stack = X.env :: X.outer) (e2 : X.env.frame = some X.env.locals) (e3 : X.ex = []) (nd : X.N.Nodup) (hi : X.N[i]? = some n) (hl : X.env.kindOf n = some .local) (hc : Names X x c)
    (hb : ∀ (W : WX) (pn : List (Addr × Obj)) (xe : Value → Shared → Prop), Takes (X.tr pn xe) W → PassesOwn (model X.prog X.w) X.A X.env xe → PSs (X.tr pn xe) body (tb W))
    (hsu : ∀ (a : Addr) (ob : Obj) (cls : Value) (pn : List (Addr × Obj)), Zc cls none ob → (∃ us, ob.data = .fields us) → PSs (X.suite a ((a, ob) :: pn)) (b0 :: suite) (ts a cls)) :
    PS X (.Try body [.ExceptHandler (some (.Name x np)) (some n) (b0 :: suite) pos1] [] [] pos) (fun D σ H => tb (wK X.K c i ts D) D σ H) := by
  refine ⟨fun pins s σ H D I hw => ?_⟩
  have xo := I.ok
  have frm : X.A.frames = some (X.env :: X.outer) := xo.frames.trans (congrArg some e1)
  refine wpAny_Try_except ?_
  have run := (hb (wK X.K c i ts D) (X.pn ++ pins) (fun ev sa => wpAny (model X.prog X.w) X.A (noteFrame ev X.env) (fun _ sb => wpAny (model X.prog X.w) X.A (setFlight ev none) (fun _ sc =>
    wpAny (model X.prog X.w) X.A (handleBy ev X.env [.ExceptHandler (some (.Name x np)) (some n) (b0 :: suite) pos1]) (SP X pins D) X.xe sc) X.xe sb) X.xe sa) (fun ev sx air => ?_) PassesOwn.looking).run [] s σ H D (I.toTry _) hw
  · refine wpAny_mono run (fun fl sy end_ => ?_) fun _ _ z => z
    cases fl with
    | next =>
      obtain ⟨σy, Hy, Iy, w⟩ := end_
      exact wpAny_execs_nil ⟨_, _, Iy.ofTry xo, w⟩
    | ret u =>
      obtain ⟨v, σy, Hy, Iy, rv, w⟩ := end_
      exact ⟨_, _, _, Iy.ofTry xo, rv, w⟩
    | brk =>
      obtain ⟨σy, Hy, Iy, w⟩ := end_
      exact ⟨_, _, Iy.ofTry xo, w⟩
    | cont =>
      obtain ⟨σy, Hy, Iy, w⟩ := end_
      exact ⟨_, _, Iy.ofTry xo, w⟩
  · obtain ⟨a, B, sg, pg, σg, Hg, cls, d, rfl, Ig0, inB, ups, air, na, eos, bare, hcls, rfl, more⟩ := air
    have Ig : Inv X pins σg Hg sg := Ig0.ofTry xo
    have air1 : Sky B (X.env :: X.outer) a (Zc cls none) X.env.locals sx.heap := by
      have q := air
      rw [show (X.tr (X.pn ++ pins) _).stack = X.env :: X.outer from e1] at q
      exact q
    -- the ground has not the exception
    have noB : B.get? a = none := by
      rcases air1 with ⟨_, z, _⟩ | z | z
      · exact z
      · exact z.2.1
      · exact z.2.1
    show wpAny (model X.prog X.w) X.A (noteFrame (.ref a) X.env) _ _ _
    refine Sky.land Zc.steady frm e2 air1 fun g1 fly1 up1 => ?_
    have Ia : Inv X pins σg Hg { sx with heap := g1 } := Ig.landed inB fly1.1 (ups.trans up1) eos bare
    obtain ⟨o1, us1, ho1, zc1, hu1⟩ := fly1.there
    have away : ∀ {g : Heap} {ob : Obj} {us : Array Value}, g.FunFrames B (X.env :: X.outer) → g.get? a = some ob → ob.data = .fields us → a ∉ frs (X.env :: X.outer) := fun {g ob us} ff e dd mem => by
      obtain ⟨_, ob', e', nf⟩ := ff.mem mem
      cases e.symm.trans e'
      exact nf _ dd
    have apart := away fly1.2.2.1 ho1 hu1
    have nLoc : a ≠ X.env.locals := fun z => apart (List.mem_filterMap.mpr ⟨X.env, .head _, by rw [e2, z]⟩)
    have nFs : a ∉ X.fs := fun mem => by
      obtain ⟨ev, he, q⟩ := List.mem_filterMap.mp mem
      exact apart (List.mem_filterMap.mpr ⟨ev, .tail _ he, q⟩)
    have gone : sg.heap.get? a = none := by
      cases q : sg.heap.get? a with
      | none => rfl
      | some ob =>
        have := inB a ob q (fun mem => apart (by rw [← e1]; exact mem))
        rw [noB] at this
        cases this
    have n0 : X.s_0.heap.get? a = none := by
      cases q : X.s_0.heap.get? a with
      | none => rfl
      | some ob =>
        by_cases hx : a ∈ X.ex
        · rw [e3] at hx
          cases hx
        · obtain ⟨_, e⟩ := Ig.base.there a ob q hx
          rw [gone] at e
          cases e
    have npin : ∀ p ∈ X.pn ++ pins, p.1 ≠ a := fun p hp e => by
      have := (Ig.pin p hp).1
      rw [e, gone] at this
      cases this
    have Sa := Ia.suite ho1 hu1 na nLoc nFs
    refine wpAny_handleBy_cons (codeAny_handlers_test ?_) (fun q => nomatch q)
    have ltype : PySem.W.Looks (model X.prog X.w) g1 (typeOf (.ref a)) cls := fun _ _ _ _ keeps q => wpAny_typeOf_ref (keeps _ _ ho1) (by rw [zc1.1]; exact q)
    have lmatch := PySem.W.exm_one (M := model X.prog X.w) Ia.kIn ltype hcls
    have look : ∀ {Q : Value → Shared → Prop} {E : Value → Shared → Prop}, Q c { sx with heap := g1 } → wpAny (model X.prog X.w) (X.A.mark (some (.ref a))) (eval (.Name x np) X.env) Q E { sx with heap := g1 } := fun {Q E} q => by
      obtain ⟨g, db, w | ⟨w1, w2, w3⟩⟩ := hc
      · exact ld_glob (X := X.suite a ((a, o1) :: (X.pn ++ pins))) Sa g w q db
      · exact ld_blt (X := X.suite a ((a, o1) :: (X.pn ++ pins))) Sa g w1 w2 q w3 db
    refine look (lmatch.here (codeAny_handlers_suite_as ?_))
    refine HandSPX.lands_againZ fly1 fun g2 fly2 up2 => ?_
    have Ib : Inv X pins σg Hg { sx with heap := g2 } := Ig.landed inB fly2.1 ((ups.trans up1).trans up2) eos bare
    obtain ⟨o2, us2, ho2, zc2, hu2⟩ := fly2.there
    have Sb := Ib.suite ho2 hu2 na nLoc nFs
    refine store_ok (X := X.suite a ((a, o2) :: (X.pn ++ pins))) (v := .ref a) Sb nd hi (.inl hl) rfl (fun sc Sc => ?_) (.inr hl)
    refine wpAny_mono ((hsu a o2 cls (X.pn ++ pins) zc2 ⟨_, hu2⟩).run [] sc _ Hg _ Sc (more a na)) (fun fl sd end_ => ?_) fun _ _ z => z.elim
    cases fl with
    | next =>
      obtain ⟨σd, Hd, Sd, w⟩ := end_
      have pinA := Sd.pin (a, o2) (List.mem_append.mpr (.inl (.head _)))
      have Id := track (Sd.unsuite xo) pinA.1 zc2 hu2 pinA.2.1 n0 npin nLoc
      exact gone_ok Id nd hi hl fun se Ie => ⟨_, _, Ie, w⟩
    | brk =>
      obtain ⟨_, _, _, w⟩ := end_
      exact False.elim w
    | cont =>
      obtain ⟨_, _, _, w⟩ := end_
      exact False.elim w
    | ret u =>
      obtain ⟨_, _, _, _, _, w⟩ := end_
      exact False.elim w
end
end Z

/-! Y2: raise, calls that may raise, try, over data; isinstance of an exception that is kept. -/
namespace Z
open PySem PySem.Spec PyProof.Rows L2
/-! ### isinstance of an exception -/
def rIsX (K : PySem.W.Frag) : List V → Hp → VK → Prop := fun xs H Q => ∃ (a D : Addr) (cv : V) (u : Value) (b : Bool), xs = [.ref a, cv] ∧ H a = some (ExH (.ref D) a) ∧ ExcC K D ∧ ClsV cv u ∧ PySem.W.kitOne K (.ref D) u = some b ∧ Q (.bl b) H
def rIsXT (K : PySem.W.Frag) : List V → Hp → VK → Prop := fun xs H Q => ∃ (a D tp : Addr) (cs : List V) (us : List Value) (b : Bool), xs = [.ref a, .ref tp] ∧ H a = some (ExH (.ref D) a) ∧ ExcC K D ∧ H tp = some (.tup cs) ∧ Paired ClsV cs us ∧ PySem.W.kitAny K (.ref D) us = some b ∧ Q (.bl b) H
section
variable {X : Cx} {C : CI}
theorem exh_at {P : Program} {w : World} {H : Hp} {g : Heap} {a D : Addr} (h : HOk P w H g) (e : H a = some (ExH (.ref D) a)) : ∃ ob, PySem.W.InstAt g a ob D none := by
  obtain ⟨⟨ob, us, w1, w2, w3⟩, _, _⟩ := h a _ e
  obtain ⟨oc, od, odt, osl⟩ := ob
  obtain ⟨z1, z2⟩ := w2
  dsimp only at z1 z2 w3
  subst z1 z2 w3
  exact ⟨_, w1, rfl, rfl, trivial⟩
theorem call_isX : CallR X (.builtin "isinstance") (rIsX X.K) := by
  intro pins s σ H xs us Q I r h
  obtain ⟨a, D, cv, u, b, rfl, hH, E, hc, e, q⟩ := h
  obtain ⟨u1, u2, rfl, r1, r2⟩ := vals2 r
  cases (show u1 = Value.ref a from r1)
  have ec := hc.eq r2
  subst ec
  obtain ⟨ob, J⟩ := exh_at I.hok hH
  exact PySem.W.kia_one (PySem.W.handS_kitx_exc E.hg E.hk E.hs E.hd E.ha E.hn E.ht E.hm) I.kIn J e (fun z => nomatch z) fun tk => ⟨.bl b, H, I.tok tk, rfl, q⟩
theorem call_isXT : CallR X (.builtin "isinstance") (rIsXT X.K) := by
  intro pins s σ H xs us Q I r h
  obtain ⟨a, D, tp, cs, ws, b, rfl, hH, E, hT, hc, e, q⟩ := h
  obtain ⟨u1, u2, rfl, r1, r2⟩ := vals2 r
  cases (show u1 = Value.ref a from r1)
  cases (show u2 = Value.ref tp from r2)
  obtain ⟨ob, J⟩ := exh_at I.hok hH
  obtain ⟨_, its, rv, o, h1, h2, n, h3⟩ := (show ObjOk X.prog X.w H s.heap tp (.tup cs) from I.hok tp _ hT)
  have e3 := ClsV.all hc rv
  subst e3
  obtain ⟨oc, od, dt, sl⟩ := o
  simp only at h2 h3
  subst h2 h3
  exact PySem.W.kia_tup (PySem.W.handS_kitx_exc E.hg E.hk E.hs E.hd E.ha E.hn E.ht E.hm) I.kIn J h1 e (fun z => nomatch z) fun tk => ⟨.bl b, H, I.tok tk, rfl, q⟩
def zIsX (K : PySem.W.Frag) (C : CI) : ZRC := fun ds Δ P => ∃ c y u b, ds = [.exc c, y] ∧ ExcC K (C.adr c) ∧ clsD C y = some u ∧ PySem.W.kitOne K (.ref (C.adr c)) u = some b ∧ P (.bl b) Δ
theorem cz_isX : CallZ C X (.builtin "isinstance") (zIsX X.K C) := ⟨_, call_isX, fun S A H Δ xs ds P Q hc r hz k => by
  obtain ⟨c, y, u, b, rfl, h1, h2, h3, q⟩ := hz
  obtain ⟨v, v', rfl, rv, rv'⟩ := two_rep r
  cases rv with
  | exc g1 g2 g3 => exact ⟨_, C.adr c, v', u, b, rfl, g1, h1, rv'.clsV h2, h3, k _ _ A H Δ (Ext.refl _ _) hc (.bl _) q⟩⟩
def zIsXT (K : PySem.W.Frag) (C : CI) : ZRC := fun ds Δ P => ∃ c ys us b, ds = [.exc c, .tup ys] ∧ ExcC K (C.adr c) ∧ ClsDs C ys us ∧ PySem.W.kitAny K (.ref (C.adr c)) us = some b ∧ P (.bl b) Δ
theorem cz_isXT : CallZ C X (.builtin "isinstance") (zIsXT X.K C) := ⟨_, call_isXT, fun S A H Δ xs ds P Q hc r hz k => by
  obtain ⟨c, ys, us, b, rfl, h1, h2, h3, q⟩ := hz
  obtain ⟨v, v', rfl, rv, rv'⟩ := two_rep r
  cases rv with
  | exc g1 g2 g3 =>
    cases rv' with
    | tup f1 f2 f3 f4 => exact ⟨_, C.adr c, _, _, us, b, rfl, g1, h1, f1, f4.clsVs h2, h3, k _ _ A H Δ (Ext.refl _ _) hc (.bl _) q⟩⟩
end
/-! ### statements that may raise -/
abbrev ZX := Nat → Env → Store → Prop
abbrev ZSX := ZEnds → ZX → Env → Store → Prop
abbrev ZRX := List D → Store → (D → Store → Prop) → (Nat → Store → Prop) → Prop
def XOk (K : PySem.W.Frag) (C : CI) (S A : List Addr) (H : Hp) (R : ZX) (W : WX) : Prop := ∀ c σ' A' H' Γ' Δ', Ext A H A' H' → Slots K C S A' H' σ' Γ' → Cells K C S A' H' Δ' → R c Γ' Δ' → W (.ref (C.adr c)) none σ' H'
theorem XOk.ext {K : PySem.W.Frag} {C : CI} {S A A' : List Addr} {H H' : Hp} {R : ZX} {W : WX} (h : XOk K C S A H R W) (e : Ext A H A' H') : XOk K C S A' H' R W := fun c σ' A2 H2 Γ' Δ' e2 s c2 r => h c σ' A2 H2 Γ' Δ' (e.trans e2) s c2 r
def RefSX (K : PySem.W.Frag) (C : CI) (W : WX) (ts : TS) (z : ZSX) : Prop := ∀ (S A : List Addr) (σ : L2.St) (H : Hp) (Γ : Env) (Δ : Store) (Z : ZEnds) (R : ZX) (N : Ends), Slots K C S A H σ Γ → Cells K C S A H Δ → z Z R Γ Δ → EndsOk K C S A H Z N → XOk K C S A H R W → ts N σ H
def tX (K : PySem.W.Frag) (C : CI) (z : ZSX) (W : WX) : TS := fun N σ H => ∃ (S A : List Addr) (Γ : Env) (Δ : Store) (Z : ZEnds) (R : ZX), Slots K C S A H σ Γ ∧ Cells K C S A H Δ ∧ z Z R Γ Δ ∧ EndsOk K C S A H Z N ∧ XOk K C S A H R W
structure SX (C : CI) (X : Cx) (W : WX) (st : Stmt) (z : ZSX) : Prop where
  ps : PS X st (tX X.K C z W)
structure SXs (C : CI) (X : Cx) (W : WX) (sts : List Stmt) (z : ZSX) : Prop where
  ps : PSs X sts (tX X.K C z W)
section
variable {C : CI} {X : Cx} {W : WX} {st : Stmt} {rest : List Stmt} {ts : TS} {z t u : ZSX} {pos : Pos}
theorem SX.of (h : PS X st ts) (r : RefSX X.K C W ts z) : SX C X W st z := ⟨⟨fun pins s σ H D I q => by
  obtain ⟨S, A, Γ, Δ, Z, R, a, b, c, d, e⟩ := q
  exact h.run pins s σ H D I (r S A σ H Γ Δ Z R D a b c d e)⟩⟩
theorem SXs.of (h : PSs X rest ts) (r : RefSX X.K C W ts z) : SXs C X W rest z := ⟨⟨fun pins s σ H D I q => by
  obtain ⟨S, A, Γ, Δ, Z, R, a, b, c, d, e⟩ := q
  exact h.run pins s σ H D I (r S A σ H Γ Δ Z R D a b c d e)⟩⟩
theorem ref_tX : RefSX X.K C W (tX X.K C z W) z := fun S A σ H Γ Δ Z R N hs hc hz k x => ⟨S, A, Γ, Δ, Z, R, hs, hc, hz, k, x⟩
/-- statements that raise nothing -/
def zLift (z : ZS) : ZSX := fun Z _ => z Z
theorem sxs_lift {zz : ZS} (h : SZs C X.nox rest zz) : SXs C X W rest (zLift zz) := by
  obtain ⟨a, h1, h2⟩ := h.ex
  exact .of h1.nox fun S A σ H Γ Δ Z R N hs hc hz k _ => h2 S A σ H Γ Δ Z N hs hc hz k
def zNextX : ZSX := fun Z _ Γ Δ => Z.nx Γ Δ
theorem sxs_nil : SXs C X W [] zNextX := .of pss_nil fun S A σ H Γ Δ Z R N hs hc hz k _ => k.nx σ A H Γ Δ (Ext.refl _ _) hs hc hz
def zSeqX (t u : ZSX) : ZSX := fun Z R Γ Δ => t { Z with nx := u Z R } R Γ Δ
theorem sxs_cons (h1 : SX C X W st t) (h2 : SXs C X W rest u) : SXs C X W (st :: rest) (zSeqX t u) :=
  .of (pss_cons h1.ps h2.ps) fun S A σ H Γ Δ Z R N hs hc hz k x => ⟨S, A, Γ, Δ, { Z with nx := u Z R }, R, hs, hc, hz, ⟨fun σ' A' H' Γ' Δ' e s c q => ⟨S, A', Γ', Δ', Z, R, s, c, q, k.ext e, x.ext e⟩, k.bk, k.ct, k.rt⟩, x⟩
theorem sxs_one (h : SX C X W st t) : SXs C X W [st] t := .of (pss_one h.ps) ref_tX
def zIfX (zc : ZT) (t u : ZSX) : ZSX := fun Z R Γ Δ => zc Γ Δ fun b Δ1 => (b = true → t Z R Γ Δ1) ∧ (b = false → u Z R Γ Δ1)
theorem sx_if {c : Expr} {a b : List Stmt} {zc : ZT} (hc : TZ C X c zc) (ha : SXs C X W a t) (hb : SXs C X W b u) : SX C X W (.If c a b pos) (zIfX zc t u) := by
  obtain ⟨tc, c1, c2⟩ := hc.ex
  refine .of (ps_if c1 ha.ps hb.ps) fun S A σ H Γ Δ Z R N hs hc hz k x => c2 S A σ H Γ Δ _ _ hs hc hz fun d A1 H1 Δ1 e1 q1 hz1 => ?_
  cases d with
  | true => exact iteT ⟨S, A1, Γ, Δ1, Z, R, hs.ext e1, q1, hz1.1 rfl, k.ext e1, x.ext e1⟩
  | false => exact iteF ⟨S, A1, Γ, Δ1, Z, R, hs.ext e1, q1, hz1.2 rfl, k.ext e1, x.ext e1⟩
/-- raise X('m') -/
def zRaise (c : Nat) : ZSX := fun _ R Γ Δ => R c Γ Δ
theorem sx_raise {c : Nat} {x m : Str} {j : Nat} {p p2 pos2 : Pos} {bmB : List Value} {B newId initId : String} (tk : Takes X W) (F : ExcBaseFacts B newId initId bmB) (q : PySem.W.excIn X.K (C.adr c) bmB newId = true) (gC : X.mg x = some (.ref (C.adr c))) (kC : PySem.W.keepIn X.K (.ref (C.adr c)) = true)
    (r1 : PySem.W.subIn X.K (.ref (C.adr c)) (.type "BaseException") = some true) (r2 : PySem.W.typeIn X.K (.ref (C.adr c)) = some (.type "type")) (hc : X.calm = true := by rfl) (hg : Gl X x := by rfl) (hdb : (x == ("__debug__" : Str)) = false := by decide) :
    SX C X W (.Raise (some (.Call (.Name x p) [.Constant (.str m) j p2] [] pos2)) none pos) (zRaise c) :=
  .of (ps_raise hc tk (pmk_own F q gC kC (raises_own r1 r2) hg hdb)) fun S A σ H Γ Δ Z R N hs hcl hz k x => x c σ A H Γ Δ (Ext.refl _ _) hs hcl hz
def SpX (K : PySem.W.Frag) (C : CI) (T : ZRX) : Sp := fun vs H Q E => ∃ S A Δ ds P R, RepL K C S A H vs ds ∧ Cells K C S A H Δ ∧ T ds Δ P R ∧ (∀ v d A' H' Δ', Ext A H A' H' → Cells K C S A' H' Δ' → Rep K C S A' H' v d → P d Δ' → Q v H') ∧
  ∀ c A' H' Δ', Ext A H A' H' → Cells K C S A' H' Δ' → R c Δ' → E (.ref (C.adr c)) none H'
/-- f(..) as a statement, where f may raise -/
def zCallS (T : ZRX) (za : ZA) : ZSX := fun Z R Γ Δ => za Γ Δ fun ds Δ1 => T ds Δ1 (fun _ Δ2 => Z.nx Γ Δ2) fun c Δ2 => R c Γ Δ2
theorem sx_call {T : ZRX} {x : Str} {e : Expr} {es : List Expr} {za : ZA} {k : Nat} {f : Addr} {fd : FuncData} {ps : List Str} {p pos2 : Pos} (tk : Takes X W) (F : FnOk X.prog X.w X.K X.mg X.base (L2.CX X.prog X.w) k f fd ps (SpX X.K C T)) (hr : Room k X.A) (hm : X.mg x = some (.ref f)) (hk : PySem.W.keepIn X.K (.ref f) = true) (hb : Binds X.K fd ps [])
    (ha : AZ C X (e :: es) za) (hg : Gl X x := by rfl) (hdb : (x == ("__debug__" : Str)) = false := by decide) (he : starEach (e :: es) X.env = (false, eval e X.env) :: starEach es X.env := by rfl) (hpl : (backTo pos2 (starEach es X.env)).any (·.1) = false := by rfl)
    (hs : swapsWith (.Call (.Name x p) (e :: es) [] pos2) none pos.line X.env = pure false := by rfl) : SX C X W (.Expr (.Call (.Name x p) (e :: es) [] pos2) pos) (zCallS T za) := by
  obtain ⟨ta, a1, a2⟩ := ha.ex
  refine .of (ps_expr (pe_callS F hr hg hm hk hb (fun σ => passAt tk σ) a1 hdb he hpl) hs) fun S A σ H Γ Δ Z R N hs hc hz k x => a2 S A σ H Γ Δ _ _ hs hc hz fun vs ds A1 H1 Δ1 e1 c1 r1 q => ?_
  exact ⟨S, A1, Δ1, ds, _, _, r1, c1, q, fun v d A' H' Δ' e2 c2 r2 p2 => k.nx σ A' H' Γ Δ' (e1.trans e2) ((hs.ext e1).ext e2) c2 p2, fun c A' H' Δ' e2 c2 r2 => x c σ A' H' Γ Δ' (e1.trans e2) ((hs.ext e1).ext e2) c2 r2⟩
end
section
variable {C : CI} {k : Nat} {f : Addr} {fd : FuncData} {ps : List Str}
/-- a def that may raise -/
theorem fnx_ok {P : Program} {w : World} {K : PySem.W.Frag} {mg : Str → Option Value} {base : Heap} {y qual : Str} {st : Stmt} {N : List Str} {T : ZRX} (F : Fun K y qual st f fd) (Sc : FnScope N ps (defScope st)) (len : ∀ ds Δ P R, T ds Δ P R → ds.length = ps.length)
    (body : ∀ (cdv : Value) (A : Around) (outer : List PySem.Env) (s : Shared) (H : Hp) (E : XK), Room k (A.deeper (PyProof.Rows.envOfC qual (defScope st) s.heap.objs.size f cdv)) → Takes (cxOf (L2.CX P w) P w K mg base N qual (defScope st) f cdv A outer s H E) (fun cls d _ H => E cls d H) →
      ∃ z : ZSX, SXs C (cxOf (L2.CX P w) P w K mg base N qual (defScope st) f cdv A outer s H E) (fun cls d _ H => E cls d H) (defBody st) z ∧ ∀ ds Δ P R, T ds Δ P R → z { nx := fun _ Δ' => P .non Δ', rt := P } (fun c _ Δ' => R c Δ') (startZ N ds) Δ) : FnOk P w K mg base (L2.CX P w) (k + 1) f fd ps (SpX K C T) := by
  refine F.okX Sc (fun vs H Q E h => ?_) (fun cdv A outer s H vs Q E hr h => ?_)
  · obtain ⟨S, A, Δ, ds, P, R, r, _, hw, _⟩ := h
    rw [r.length]
    exact len ds Δ P R hw
  · obtain ⟨S, A', Δ, ds, P', R, r, hc, hw, kk, xx⟩ := h
    obtain ⟨z, hz, hzz⟩ := body cdv A outer s H E hr (takes_of rfl rfl rfl rfl)
    refine ⟨_, hz.ps, S, A', startZ N ds, Δ, { nx := fun _ Δ' => P' .non Δ', rt := P' }, (fun c _ Δ' => R c Δ'), slots_start r, hc, hzz ds Δ P' R hw, ⟨?_, ?_, ?_, ?_⟩, ?_⟩
    · exact fun σ' A2 H2 Γ2 Δ2 e2 s2 c2 q => kk .non .non A2 H2 Δ2 e2 c2 .non q
    · exact fun σ' A2 H2 Γ2 Δ2 e2 s2 c2 q => q.elim
    · exact fun σ' A2 H2 Γ2 Δ2 e2 s2 c2 q => q.elim
    · exact fun v d A2 H2 Δ2 e2 c2 r2 q => kk v d A2 H2 Δ2 e2 c2 r2 q
    · exact fun c σ' A2 H2 Γ2 Δ2 e2 s2 c2 q => xx c A2 H2 Δ2 e2 c2 q
end
end Z

/-! Y3: try: .. except X as e: caught = e. -/
namespace Z
open PySem PySem.Spec PyProof.Rows L2
section
variable {K : PySem.W.Frag} {C : CI} {S A : List Addr} {H : Hp}
theorem slots_exc {σ : L2.St} {Γ : Env} {v : V} {d : D} {i j : Nat} (h : Slots K C S A H σ Γ) (r : Rep K C S A H v d) : Slots K C S A H (((σ.set i (some v)).set j (some v)).set i none) ((Γ.set j (some d)).set i none) := by
  refine ⟨by simp only [List.length_set]; exact h.len, fun l e q => ?_⟩
  by_cases hi : l = i
  · subst hi
    by_cases hb : l < Γ.length
    · rw [List.getElem?_set_self (by rw [List.length_set]; exact hb)] at q
      cases q
    · rw [List.getElem?_eq_none (by rw [List.length_set, List.length_set]; omega)] at q
      cases q
  · rw [List.getElem?_set_ne (Ne.symm hi)] at q ⊢
    by_cases hj : l = j
    · subst hj
      have hlt : l < Γ.length := by
        have := (List.getElem?_eq_some_iff.mp q).1
        rw [List.length_set] at this
        exact this
      rw [List.getElem?_set_self hlt] at q
      cases q
      exact ⟨v, List.getElem?_set_self (by rw [List.length_set, h.len]; exact hlt), r⟩
    · rw [List.getElem?_set_ne (Ne.symm hj)] at q ⊢
      rw [List.getElem?_set_ne (Ne.symm hi)]
      exact h.at_ l e q
end
/-- try: z, except the class at cT as the i-th slot: the j-th slot is given it -/
def zTryK (K : PySem.W.Frag) (C : CI) (cT : Value) (i j : Nat) (z : ZSX) : ZS := fun Z Γ Δ => z Z (fun c Γ' Δ' => i < Γ'.length ∧ PySem.W.exmOne K (.ref (C.adr c)) cT = some true ∧ Z.nx ((Γ'.set j (some (.exc c))).set i none) Δ') Γ Δ
section
variable {C : CI} {X : Cx} {x n y : Str} {cT : Value} {i j : Nat} {body : List Stmt} {np p1 p2 p3 pos pos1 : Pos} {z : ZSX}
theorem sz_tryK (hc : Names X x cT) (nd : X.N.Nodup) (hi : X.N[i]? = some n) (hj : X.N[j]? = some y) (hl : X.env.kindOf n = some .local) (hly : X.env.scope.names.lookup y = some .local)
    (hb : ∀ (W : WX) (pn : List (Addr × Obj)) (xe : Value → Shared → Prop), Takes (X.tr pn xe) W → SXs C (X.tr pn xe) W body z)
    (e1 : X.stack = X.env :: X.outer := by rfl) (e2 : X.env.frame = some X.env.locals := by rfl) (e3 : X.ex = [] := by rfl) (hv : Vis X.env.scope n := by first | exact Or.inl rfl | exact Or.inr (Or.inl rfl) | exact Or.inr (Or.inr rfl)) (hd : (n == ("__debug__" : Str)) = false := by decide)
    (hcd : (n == ("__classdict__" : Str)) = false := by decide) (hs : swapsWith (.Name n p2) (some (.Name y p1)) p3.line X.env = pure false := by rfl) :
    SZ C X (.Try body [.ExceptHandler (some (.Name x np)) (some n) [.Assign [.Name y p1] (.Name n p2) p3] pos1] [] [] pos) (zTryK X.K C cT i j z) := by
  refine ⟨_, ps_tryK (tb := tX X.K C z) (ts := fun _ _ => tAsg (tVar i) (gName j)) e1 e2 e3 nd hi hl hc (fun W pn xe tk _ => (hb W pn xe tk).ps) (fun a ob cls pn _ _ => pss_one (ps_set (X := X.suite a ((a, ob) :: pn)) nd hj (.inl hly) (pe_var hi hv hd hcd) hs (.inr hly))), fun S A σ H Γ Δ Z N hs hc hz k => ?_⟩
  refine ⟨S, A, Γ, Δ, Z, _, hs, hc, hz, k, fun c σ' A' H' Γ' Δ' e s c' r => ⟨r.2.1, rfl, fun a na => ?_⟩⟩
  have hlt : i < σ'.length := by rw [s.len]; exact r.1
  refine ⟨_, List.getElem?_set_self hlt, ?_⟩
  have e' := Ext.new (A := A') (o := ExH (.ref (C.adr c)) a) na
  refine k.nx _ A' _ _ Δ' (e.trans e') (slots_exc (s.ext e') (.exc upd_same (c'.fresh na) (c'.aside na))) (c'.new na) r.2.2
end
end Z

/-! Y4: list.count, list.index of truth values, {} as data, tuple(list), isinstance that knows dicts. -/
namespace Z
open PySem PySem.Spec PyProof.Rows L2
def rCountV (K : PySem.W.Frag) : V → List V → Hp → VK → Prop := fun x xs H Q => ∃ (a : Addr) (ys : List V) (y : V), x = V.ref a ∧ xs = [y] ∧ SqL K H a ys ∧ flatV y = true ∧ ys.all flatV = true ∧ Q (.int ((ys.countP fun z => eqV z y : Nat) : Int)) H
theorem count_vals {y : V} : ∀ {xs : List V} {us : List Value}, Vals xs us → xs.all flatV = true → us.countP (eqU y) = xs.countP fun z => eqV z y
  | _, _, .nil, _ => rfl
  | x :: xs, u :: us, .cons r t, f => by
    rw [List.all_cons, Bool.and_eq_true] at f
    rw [List.countP_cons, List.countP_cons, count_vals t f.2, eqU_of r f.1]
theorem mt_countV {X : Cx} : MtR X "list.count" (rCountV X.K) := by
  intro pins s σ H x xs v us Q I rx rxs h
  obtain ⟨a, ys, y, rfl, rfl, hs, fy, fys, q⟩ := h
  cases rx
  obtain ⟨uy, rfl, ry⟩ := rxs.one
  obtain ⟨its, rv, ⟨⟨c1, d1, dt, sl⟩, n, ho, e1, _, e2⟩, hlen⟩ := I.list hs
  simp only at e1 e2
  subst e1 e2
  refine call_meets PySem.F.slot_list_count ⟨_, ho, rfl⟩ PySem.F.entry_list_count (PySem.F.args_list_count_2 _ _) (SeqAt.list_countAt a its.toArray n d1 sl uy (eqU y)) ⟨ho, fun u hu => mem_eqAt ry fy rv fys u (by simpa using hu), ?_⟩
  refine ⟨.int ((its.countP (eqU y) : Nat) : Int), H, I.tok _, ⟨_, rfl⟩, ?_⟩
  rw [count_vals rv fys]
  exact q
section
variable {C : CI} {X : Cx} {o e : Expr} {es : List Expr} {zo : ZE} {za : ZA} {apos cpos : Pos}
/-- bs.count(True), of truth values -/
def zCountB (zo : ZE) (za : ZA) : ZE := fun Γ Δ P => zo Γ Δ fun o Δ1 => ∃ bs : List Bool, o = .lst (bs.map D.bl) ∧ za Γ Δ1 fun as Δ2 => as = [.bl true] ∧ P (.int ((bs.countP id : Nat) : Int)) Δ2
/-- bs.index(True), of truth values -/
def zIndexB (zo : ZE) (za : ZA) : ZE := fun Γ Δ P => zo Γ Δ fun o Δ1 => ∃ bs : List Bool, o = .lst (bs.map D.bl) ∧ za Γ Δ1 fun as Δ2 => ∃ j : Nat, as = [.bl true] ∧ bs[j]? = some true ∧ (∀ m, m < j → bs[m]? ≠ some true) ∧ P (.int (j : Nat)) Δ2
theorem repL_blv {K : PySem.W.Frag} {S A : List Addr} {H : Hp} : ∀ {bs : List Bool} {xs : List V}, RepL K C S A H xs (bs.map D.bl) → xs = bs.map V.bl
  | [], _, h => by cases h; rfl
  | b :: bs, _, h => by
    rw [List.map_cons] at h
    cases h with
    | cons h r =>
      cases h
      rw [repL_blv r]
      rfl
theorem all_flat (bs : List Bool) : (bs.map V.bl).all flatV = true := by
  rw [List.all_eq_true]
  intro x hx
  obtain ⟨b, _, rfl⟩ := List.mem_map.mp hx
  rfl
theorem ez_countB (ho : EZ C X o zo) (ha : AZ C X (e :: es) za)
    (hbase : attributeBase o "count" X.env (eval o X.env) = eval o X.env := by rfl)
    (hfew : ((backTo cpos (starEach (e :: es) X.env)).all (fun x => !x.1) && (backToKw cpos (keywordEach [] X.env)).all (fun x => x.1.isSome)
      && decide ((e :: es).length + ([] : List Keyword).length + (if ([] : List Keyword).isEmpty then 0 else 1) < 30)) = true := by rfl)
    (hline : (apos.endLine == cpos.line) = true := by rfl) (hs : starEach (e :: es) X.env = (false, eval e X.env) :: starEach es X.env := by rfl) (hplain : (backTo cpos (starEach es X.env)).any (·.1) = false := by rfl) :
    EZ C X (.Call (.Attribute o "count" apos) (e :: es) [] cpos) (zCountB zo za) := by
  obtain ⟨t, o1, o2⟩ := ho.ex
  obtain ⟨u, a1, a2⟩ := ha.ex
  refine ⟨_, pe_bm PySem.F.plainAttrs_list PySem.F.slot_list_count PySem.F.type_list_count mt_countV o1 a1 hbase hfew hline hs hplain, fun S A σ H Γ Δ P Q hs hc hz k => o2 S A σ H Γ Δ _ _ hs hc hz fun v d A1 H1 Δ1 e1 c1 r1 p => ?_⟩
  obtain ⟨bs, rfl, p⟩ := p
  cases r1 with
  | lst g gA gS gr =>
    refine ⟨.inl ⟨rfl, _, SqL.of g⟩, a2 S A1 σ H1 Γ Δ1 _ _ (hs.ext e1) c1 p fun vs as A2 H2 Δ2 e2 c2 r2 p2 => ?_⟩
    obtain ⟨rfl, p2⟩ := p2
    obtain ⟨w, rfl, rw_⟩ := one_rep r2
    cases rw_
    have gx := repL_blv gr
    subst gx
    have g2 := e2.keep _ _ gA g
    refine ⟨_, bs.map V.bl, .bl true, rfl, rfl, SqL.of g2, rfl, all_flat bs, ?_⟩
    rw [List.countP_map]
    rw [show (List.countP ((fun z => eqV z (.bl true)) ∘ V.bl) bs) = bs.countP id from List.countP_congr fun b _ => by cases b <;> exact Iff.rfl]
    exact k _ _ A2 H2 Δ2 (e1.trans e2) c2 (.int _) p2
theorem ez_indexB (ho : EZ C X o zo) (ha : AZ C X (e :: es) za)
    (hbase : attributeBase o "index" X.env (eval o X.env) = eval o X.env := by rfl)
    (hfew : ((backTo cpos (starEach (e :: es) X.env)).all (fun x => !x.1) && (backToKw cpos (keywordEach [] X.env)).all (fun x => x.1.isSome)
      && decide ((e :: es).length + ([] : List Keyword).length + (if ([] : List Keyword).isEmpty then 0 else 1) < 30)) = true := by rfl)
    (hline : (apos.endLine == cpos.line) = true := by rfl) (hs : starEach (e :: es) X.env = (false, eval e X.env) :: starEach es X.env := by rfl) (hplain : (backTo cpos (starEach es X.env)).any (·.1) = false := by rfl) :
    EZ C X (.Call (.Attribute o "index" apos) (e :: es) [] cpos) (zIndexB zo za) := by
  obtain ⟨t, o1, o2⟩ := ho.ex
  obtain ⟨u, a1, a2⟩ := ha.ex
  refine ⟨_, pe_bm PySem.F.plainAttrs_list PySem.F.slot_list_index PySem.F.type_list_index mt_index o1 a1 hbase hfew hline hs hplain, fun S A σ H Γ Δ P Q hs hc hz k => o2 S A σ H Γ Δ _ _ hs hc hz fun v d A1 H1 Δ1 e1 c1 r1 p => ?_⟩
  obtain ⟨bs, rfl, p⟩ := p
  cases r1 with
  | lst g gA gS gr =>
    refine ⟨.inl ⟨rfl, _, SqL.of g⟩, a2 S A1 σ H1 Γ Δ1 _ _ (hs.ext e1) c1 p fun vs as A2 H2 Δ2 e2 c2 r2 p2 => ?_⟩
    obtain ⟨j, rfl, hj, hno, p2⟩ := p2
    obtain ⟨w, rfl, rw_⟩ := one_rep r2
    cases rw_
    have gx := repL_blv gr
    subst gx
    have g2 := e2.keep _ _ gA g
    refine ⟨_, bs.map V.bl, .bl true, j, .bl true, rfl, rfl, SqL.of g2, rfl, all_flat bs, by rw [List.getElem?_map, hj]; rfl, rfl, fun m z' hm hz' => ?_, k _ _ A2 H2 Δ2 (e1.trans e2) c2 (.int _) p2⟩
    rw [List.getElem?_map] at hz'
    cases q : bs[m]? with
    | none => rw [q] at hz'; cases hz'
    | some b =>
      rw [q] at hz'
      cases hz'
      cases b with
      | false => rfl
      | true => exact absurd q (hno m hm)
/-- {} -/
def zDNew : ZE := fun _ Δ P => P (.dct [] []) Δ
theorem ez_dnew {pos : Pos} : EZ C X (.Dict [] [] pos) zDNew := ⟨_, pe_dnewK, fun S A σ H Γ Δ P Q hs hc hz k p hp =>
  k _ _ A _ Δ (Ext.new hp) (hc.new hp) (.dct (ks := []) (xs := []) (.inl upd_same) (hc.fresh hp) (hc.aside hp) rfl .nil) hz⟩
/-- tuple(list) -/
def zTupOf (z : ZE) : ZE := fun Γ Δ P => z Γ Δ fun x Δ1 => ∃ ds, lstD Δ1 x = some ds ∧ P (.tup ds) Δ1
theorem ez_tupOf {p pos : Pos} {z : ZE} (hm : X.mg "tuple" = none) (h : EZ C X e z) (hg : Gl X "tuple" := by rfl) (na : starEach [e] X.env = (false, eval e X.env) :: starEach [] X.env := by rfl) : EZ C X (.Call (.Name "tuple" p) [e] [] pos) (zTupOf z) := by
  obtain ⟨t, h1, h2⟩ := h.ex
  refine ⟨_, pe_tupleOf hg hm h1 na, fun S A σ H Γ Δ P Q hs hc hz k => h2 S A σ H Γ Δ _ _ hs hc hz fun v d A1 H1 Δ1 e1 c1 r1 q => ?_⟩
  obtain ⟨ds, hd, q⟩ := q
  obtain ⟨pa, xs, rfl, g1, g2⟩ := Rep.lst_ c1 r1 hd
  refine .inl ⟨pa, xs, rfl, SqL.of g1, fun p hp => ?_⟩
  have e2 := Ext.new (A := A1) (o := .tup xs) hp
  exact k _ _ A1 _ Δ1 (e1.trans e2) (c1.new hp) (.tup upd_same (c1.fresh hp) (c1.aside hp) (g2.ext e2)) q
end
end Z

/-! Z37: bit_length; != of own instances by their own ==; == and != of both kinds. -/
namespace Z
open PySem PySem.Spec PyProof.Rows L2
section
variable {C : CI} {X : Cx} {o : Expr} {zo : ZE}
/-- x.bit_length() -/
def zBits (zo : ZE) : ZE := fun Γ Δ P => zo Γ Δ fun x Δ1 => ∃ i : Int, x = .int i ∧ P (.int (Builtin.Int.intBits i : Nat)) Δ1
theorem ez_bits {apos pos : Pos} (ho : EZ C X o zo) (hbase : attributeBase o "bit_length" X.env (eval o X.env) = eval o X.env := by rfl) (hline : (apos.endLine == pos.line) = true := by rfl) :
    EZ C X (.Call (.Attribute o "bit_length" apos) [] [] pos) (zBits zo) := by
  obtain ⟨t, a1, a2⟩ := ho.ex
  refine ⟨_, pe_bits a1 hbase hline, fun S A σ H Γ Δ P Q hs hc hz k => a2 S A σ H Γ Δ _ _ hs hc hz fun v d A1 H1 Δ1 e1 c1 r1 p => ?_⟩
  obtain ⟨i, rfl, p⟩ := p
  cases r1
  exact ⟨i, rfl, k _ _ A1 H1 Δ1 e1 c1 (.int _) p⟩
end
end Z
namespace Z
open PySem PySem.Spec PyProof.Rows PySem.W Builtin
section
variable {prog : Program} {w : World} {K : PySem.W.Frag} {A : Around} {E : Value → Shared → Prop} {s : Shared} {x C f : Addr} {ox : Obj} {od : Option Obj}
/-- a builtin slot is called of an own instance -/
theorem slot_check {M : Model} {id owner n : String} (hk : builtinKind id = some .slot) (hs : splitId id = some (owner, n)) (X : K.In s.heap) (I : InstAt s.heap x ox C od) (hm : mroIn K C (.type owner) = some true) {rest : List Value} {Q : Unit → Shared → Prop} (ha : argsOk id ⟨.ref x :: rest, []⟩) (hq : Q () s) :
    wpAny M A (checkBuiltinCall id ⟨.ref x :: rest, []⟩) Q E s := by
  have L0 := I.type (M := M)
  have L1 := looks_mroIn (M := M) X hm
  obtain ⟨hh, g, dr, t, os⟩ := s
  simp only [checkBuiltinCall, hk, hs]
  refine wpAny_bind ?_
  unfold isInstance
  repeat lk
  cases hsig : Manifest.signature? id with
  | none => exact wpAny_pure hq
  | some sig =>
    simp only [argsOk, hsig] at ha
    have h2 : Bind.checkArgs id sig ⟨.ref x :: rest, []⟩ = pure () := ha
    show wpAny M A (Bind.checkArgs id sig ⟨.ref x :: rest, []⟩) Q E _
    rw [h2]
    exact wpAny_pure hq
/-- object.__ne__ asks the own == -/
theorem ne_entry (X : K.In s.heap) (I : InstAt s.heap x ox C od) {b : Value} (hu : A.units < cLine) (hs : findIn K (.ref C) "__eq__" = some (some (.ref f))) (hf : isFn K (.ref f) = true) {Q : Fin → Shared → Prop}
    (h : wpAny (model prog w) A (call (.ref f) [.ref x, b]) (fun v s' => ∃ r, v = .bool r ∧ Q (.done (.ret (.bool (!r)))) s') E s) :
    wpAny (model prog w) A (Builtin.«object.__ne__» ⟨[.ref x, b], []⟩) Q E s := by
  have one : ∀ {R : Option Value → Shared → Prop}, (∀ r s', Q (.done (.ret (.bool (!r)))) s' → R (some (.bool r)) s') → wpAny (model prog w) A (callSpecialIfBound? (.ref x) (Str.ofString "__eq__") [b]) R E s := fun {R} k => by
    refine ifBound_K X I hs hf (wpAny_mono h (fun v s' hv => ?_) fun _ _ e => e)
    obtain ⟨r, rfl, q⟩ := hv
    exact k r s' q
  obtain ⟨hh, g, dr, t, os⟩ := s
  unfold Builtin.«object.__ne__»
  repeat (first
    | with_reducible refine wpAny_cRoomFor hu ?_
    | (refine wpAny_bind (m := callSpecialIfBound? (.ref x) (Str.ofString "__eq__") [b]) (one fun r s' hq => ?_)
       repeat (first | exact hq | exact wpAny_pure hq | exact wpAny_truthy_bool hq | (refine wpAny_bind (m := truthy (.bool _)) (wpAny_truthy_bool ?_)) | wp_step))
    | wp_step)
theorem ne_K {L : Addr} {h₀ : Heap} {m : _} {tb : Value} {b : Value} {Q : Value → Shared → Prop} (hu : A.units + 1 < cLine) (F0 : Fr h₀ L s.heap m) (X₀ : K.In h₀) (I : InstAt s.heap x ox C od) (hb : Looks (model prog w) s.heap (typeOf b) tb) (hn : notFirst K C tb = true)
    (hne : findIn K (.ref C) "__ne__" = some (some (.builtin "object.__ne__"))) (hm : mroIn K C (.type "object") = some true) (hs : findIn K (.ref C) "__eq__" = some (some (.ref f))) (hf : isFn K (.ref f) = true)
    (h : wpAny (model prog w) A.in1 (call (.ref f) [.ref x, b]) (fun v s' => ∃ r, v = .bool r ∧ Q (.bool (!r)) s') E s) : wpAny (model prog w) A (richCompare .NotEq (.ref x) b) Q E s := by
  have X := X₀.keeps F0.keep
  have one : wpAny (model prog w) A (tryCompare (.ref x) (cmpInfo .NotEq).2.1 b) (fun r s' => ∃ v, r = some (.bool v) ∧ Q (.bool v) s') E s := by
    rw [cmpInfo_NotEq]
    unfold tryCompare
    have hcall : wpAny (model prog w) A (call (.builtin "object.__ne__") ([.ref x] ++ [b])) (fun v s' => ∃ r, v = .bool r ∧ Q (.bool r) s') E s := by
      refine wpAny_call (codeAny_call_builtin (PySem.F.cmp_object).ne.plain PySem.F.cmpEntry_ne (slot_check PySem.F.cmpKind_ne PySem.F.cmpSplit_ne X I hm (PySem.F.cmpArgs_ne _ _) (ne_entry (A := A.in1) X I hu hs hf (wpAny_mono h (fun v s' hv => ?_) fun _ _ e => e))))
      obtain ⟨r, rfl, hq⟩ := hv
      exact ⟨r, rfl, _, rfl, hq⟩
    refine wpAny_bind ?_
    simp only [callSpecialIfBound?, bindSpecialIfBound?]
    refine wpAny_holding (wpAny_bind (wpAny_bind (wpAny_bind (I.type.here ((looks_findIn X hne).here ?_)))))
    simp only [(PySem.F.cmp_object).ne.bind]
    refine wpAny_bind (wpAny_askSetting (wpAny_ite ?_))
    have last : wpAny (model prog w) A (match (some (Value.builtin "object.__ne__", [Value.ref x]) : Option (Value × List Value)) with
          | some (g, first) => do
            let __do_lift ← call g (first ++ [b])
            pure (some __do_lift)
          | x => pure none)
          (fun a s' =>
            wpAny (model prog w) A
              (match a with
              | some Value.notImplemented => pure none
              | none => pure none
              | some __do_lift => pure (some __do_lift))
              (fun r s' => ∃ v, r = some (Value.bool v) ∧ Q (Value.bool v) s') E s') E s :=
      wpAny_bind (wpAny_mono hcall (fun v s' h' => by
        obtain ⟨r, rfl, q⟩ := h'
        exact wpAny_pure (wpAny_pure ⟨r, rfl, q⟩)) fun _ _ h' => h')
    split
    · exact wpAny_bind (wpAny_pure (wpAny_pure last))
    · exact wpAny_tryCatch (wpAny_bind (wpAny_pure (wpAny_pure last)))
  unfold richCompare
  simp only [oneThing_ref]
  refine wpAny_holding (wpAny_bind (wpAny_cRoomFor (Nat.lt_of_succ_lt hu) ?_))
  refine wpAny_bind (I.type.here (wpAny_bind (hb.here ?_)))
  split
  · rename_i q
    have e : subIn K tb (.ref C) = some false := by
      rcases Bool.or_eq_true_iff.mp hn with e | e
      · rw [beq_iff_eq.mp e] at q; simp at q
      · exact beq_iff_eq.mp e
    refine wpAny_bind ((looks_subIn X e).here ?_)
    simp only [Bool.false_eq_true, if_false]
    refine wpAny_bind (wpAny_mono one (fun r s' z => ?_) fun _ _ e => e)
    obtain ⟨v, rfl, hq⟩ := z
    exact wpAny_pure hq
  · refine wpAny_bind (wpAny_pure ?_)
    simp only [Bool.false_eq_true, if_false]
    refine wpAny_bind (wpAny_mono one (fun r s' z => ?_) fun _ _ e => e)
    obtain ⟨v, rfl, hq⟩ := z
    exact wpAny_pure hq
end
end Z
namespace Z
open PySem PySem.Spec PyProof.Rows L2
section
variable {C : CI} {X : Cx}
/-- a != b by the own == of a's class -/
def zNeO (C : CI) (c : Nat) (W : ZRC) : ZR2 := fun x y Δ P => insD Δ c x ∧ (∃ t, tyD C Δ y = some t ∧ (t = .ref (C.adr c) ∨ ∃ n, n ∈ plainTys ∧ t = .type n)) ∧ W [x, y] Δ fun d Δ' => ∃ b, d = .bl b ∧ P (.bl (!b)) Δ'
theorem oz_neO {c k : Nat} {f : Addr} {fd : FuncData} {ps : List Str} {W : ZRC} (F : FnOk X.prog X.w X.K X.mg X.base CX0 k f fd ps (SpZ X.K C W)) (hr : Room (k + 1) X.A) (E : EqO X.K (C.adr c) f) (hne : PySem.W.findIn X.K (.ref (C.adr c)) "__ne__" = some (some (.builtin "object.__ne__"))) (hb : Binds X.K fd ps []) : OpZ C X (compareOp .NotEq) (zNeO C c W) := by
  refine ⟨fun x y H Q => ∃ a dx fs t, x = .ref a ∧ H a = some (.ins (C.adr c) dx fs) ∧ TyX X.K H y t ∧ (t = .ref (C.adr c) ∨ ∃ n, n ∈ plainTys ∧ t = .type n) ∧ SpZ X.K C W [x, y] H (fun v H' => ∃ b, v = .bl b ∧ Q (.bl (!b)) H') E0, ?_, ?_⟩
  · intro pins s σ H x y v u Q I rx ry h
    obtain ⟨a, dx, fs, t, rfl, ha, ty, ht, sp⟩ := h
    obtain rfl : v = Value.ref a := rx
    obtain ⟨mA, J, _⟩ := ins_get I.hok ha
    obtain ⟨od, J, _⟩ := J.look
    obtain ⟨P, kx, hp, _⟩ := kit_of I ry ty
    obtain ⟨m, hF⟩ := I.fr
    have hn : PySem.W.notFirst X.K (C.adr c) t = true := by
      rcases ht with rfl | ⟨n, hn, rfl⟩
      · simp [PySem.W.notFirst]
      · exact E.first n hn
    show wpAny _ _ (richCompare .NotEq (.ref a) u) _ _ _
    refine ne_K (tb := t) (by have := hr.un; omega) hF I.ok.mod.kin J (kx.ty _ _ I.kIn hp) hn hne E.isi.hm E.at_ E.fn ?_
    have hl := F.len _ _ _ _ sp
    have r2 : Vals [V.ref a, y] [Value.ref a, u] := .cons rfl (.cons ry .nil)
    refine wpAny_call (codeAny_mono (F.run X.A.in1 X.stack s H ⟨[.ref a, u], []⟩ [.ref a, u] [.ref a, y] _ _ hr.in1 I.env0.in1 (by
      have b := hb s [.ref a, u] I.kIn (by rw [List.append_nil]; exact hl)
      rw [List.append_nil] at b
      exact b) r2 sp) fun r s' hq => ?_)
    match r, hq with
    | .error e, hq => exact hq.elim
    | .ok .next, hq => exact False.elim hq
    | .ok .brk, hq => exact False.elim hq
    | .ok .cont, hq => exact False.elim hq
    | .ok (.ret w), hq =>
      obtain ⟨z, H', I', rz, b, ez, q⟩ := I.after hq
      subst ez
      cases rz
      exact ⟨b, rfl, .bl (!b), H', I', rfl, q⟩
  · intro S A H Δ x y dx dy P Q hc rx ry hz k
    obtain ⟨hi, ⟨t, ht, ht2⟩, w⟩ := hz
    obtain ⟨a, dx, fs, rfl, g1⟩ := rx.inst hc hi
    refine ⟨a, dx, fs, t, rfl, g1, ry.tyX hc ht fun Ca e => ?_, ht2, S, A, Δ, _, _, .cons rx (.cons ry .nil), hc, w, fun v d A' H' Δ' e2 c2 r2 p2 => ?_⟩
    · rcases ht2 with h | ⟨n, _, h⟩
      · rw [h] at e; cases e; exact E.isi
      · rw [h] at e; cases e
    · obtain ⟨b, rfl, p2⟩ := p2
      cases r2
      exact ⟨b, rfl, k _ _ A' H' Δ' e2 c2 (.bl _) p2⟩
def zEqB (C : CI) (c : Nat) (W : ZRC) : ZR2 := fun x y Δ P => zEqD x y Δ P ∨ zEqO C c W x y Δ P
def zNeB (C : CI) (c : Nat) (W : ZRC) : ZR2 := fun x y Δ P => zNeD x y Δ P ∨ zNeO C c W x y Δ P
theorem oz_eqB {c k : Nat} {f : Addr} {fd : FuncData} {ps : List Str} {W : ZRC} (F : FnOk X.prog X.w X.K X.mg X.base CX0 k f fd ps (SpZ X.K C W)) (hr : Room k X.A) (E : EqO X.K (C.adr c) f) (hb : Binds X.K fd ps []) : OpZ C X (compareOp .Eq) (zEqB C c W) := by
  obtain ⟨r, h1, h2⟩ := (oz_eqD (C := C) (X := X) hr.units).ex
  obtain ⟨r', h1', h2'⟩ := (oz_eqO (C := C) (X := X) F hr E hb).ex
  refine ⟨_, OpR.or h1 h1', fun S A H Δ x y dx dy P Q hc rx ry hz k => ?_⟩
  rcases hz with hz | hz
  · exact .inl (h2 S A H Δ x y dx dy P Q hc rx ry hz k)
  · exact .inr (h2' S A H Δ x y dx dy P Q hc rx ry hz k)
theorem oz_neB {c k : Nat} {f : Addr} {fd : FuncData} {ps : List Str} {W : ZRC} (F : FnOk X.prog X.w X.K X.mg X.base CX0 k f fd ps (SpZ X.K C W)) (hr : Room (k + 1) X.A) (E : EqO X.K (C.adr c) f) (hne : PySem.W.findIn X.K (.ref (C.adr c)) "__ne__" = some (some (.builtin "object.__ne__"))) (hb : Binds X.K fd ps []) : OpZ C X (compareOp .NotEq) (zNeB C c W) := by
  obtain ⟨r, h1, h2⟩ := (oz_neD (C := C) (X := X) hr.units).ex
  obtain ⟨r', h1', h2'⟩ := (oz_neO (C := C) (X := X) F hr E hne hb).ex
  refine ⟨_, OpR.or h1 h1', fun S A H Δ x y dx dy P Q hc rx ry hz k => ?_⟩
  rcases hz with hz | hz
  · exact .inl (h2 S A H Δ x y dx dy P Q hc rx ry hz k)
  · exact .inr (h2' S A H Δ x y dx dy P Q hc rx ry hz k)
end
end Z
namespace Z
open PySem PySem.Spec PyProof.Rows L2
section
variable {C : CI} {X : Cx}
/-- x == y, x != y, y a module's tuple of ints -/
def zEqK : ZR2 := fun x y Δ P => ∃ ns, y = .ktup ns ∧ shp (rdk Δ 3 x) = true ∧ SeqAt.shaped (pd (.tup (ns.map D.int))) = true ∧ P (.bl (eqD (rdk Δ 3 x) (.tup (ns.map D.int)))) Δ
def zNeK : ZR2 := fun x y Δ P => ∃ ns, y = .ktup ns ∧ shp (rdk Δ 3 x) = true ∧ SeqAt.shaped (pd (.tup (ns.map D.int))) = true ∧ P (.bl (!eqD (rdk Δ 3 x) (.tup (ns.map D.int)))) Δ
theorem oz_eqK (hu : X.A.units + 64 < cLine) : OpZ C X (compareOp .Eq) zEqK := ⟨_, op_eqD hu, fun S A H Δ x y dx dy P Q hc rx ry hz k => by
  obtain ⟨ns, rfl, h1, h2, p⟩ := hz
  have g1 := Bool.and_eq_true_iff.mp h1
  cases ry with
  | ktup h => exact ⟨_, _, dp_rdk hc 3 dx x rx g1.1, .tup (.inr h) (pds_ints ns), g1.2, h2, k _ _ A H Δ (Ext.refl _ _) hc (.bl _) p⟩⟩
theorem oz_neK (hu : X.A.units + 64 < cLine) : OpZ C X (compareOp .NotEq) zNeK := ⟨_, op_neD hu, fun S A H Δ x y dx dy P Q hc rx ry hz k => by
  obtain ⟨ns, rfl, h1, h2, p⟩ := hz
  have g1 := Bool.and_eq_true_iff.mp h1
  cases ry with
  | ktup h => exact ⟨_, _, dp_rdk hc 3 dx x rx g1.1, .tup (.inr h) (pds_ints ns), g1.2, h2, k _ _ A H Δ (Ext.refl _ _) hc (.bl _) p⟩⟩
end
end Z
namespace Z
open PySem PySem.Spec PyProof.Rows L2
/-! ### any result with all cells that the call made as data; all new cells are dropped -/
section
variable {K : PySem.W.Frag} {C : CI} {S A B : List Addr} {H H0 : Hp} {Δ Δ' : Store}
theorem Cells.takeB (c1 : Cells K C S A H0 Δ) (hc : Cells K C S (A ++ B) H Δ')
    (hw : ∀ (n : Nat) (o : O), n < A.length → Δ'[n]? = some o → Δ[n]? = some o ∨ blwO A.length o = true) : Cells K C S A H (Δ'.take A.length) := by
  have hl : A.length ≤ Δ'.length := by rw [← hc.len, List.length_append]; omega
  refine ⟨by rw [List.length_take]; omega, c1.nd, c1.dj, hc.as, fun n a o h1 h2 => ?_⟩
  have hn : n < A.length := (List.getElem?_eq_some_iff.mp h1).1
  rw [List.getElem?_take, if_pos hn] at h2
  have q := hc.at_ n a o (by rw [List.getElem?_append_left hn]; exact h1) h2
  have hb2 : blwO A.length o = true := by
    rcases hw n o hn h2 with h | h
    · have q0 := c1.at_ n a o h1 h
      cases o with
      | lst ds =>
        obtain ⟨_, _, g3⟩ := q0
        exact RepL.blw ds g3
      | ins c fs =>
        obtain ⟨_, _, _, _, g4⟩ := q0
        exact RepL.blw _ g4
      | dct ks ds =>
        obtain ⟨_, _, _, g4⟩ := q0
        exact RepL.blw _ g4
    · exact h
  cases o with
  | lst ds =>
    obtain ⟨xs, g1, g2⟩ := q
    exact ⟨xs, g1, RepL.dropB B A ds hb2 g2⟩
  | ins c fs =>
    obtain ⟨dx, xs, g1, g2, g3⟩ := q
    exact ⟨dx, xs, g1, g2, RepL.dropB B A _ hb2 g3⟩
  | dct ks ds =>
    obtain ⟨xs, g1, g2, g3⟩ := q
    exact ⟨xs, g1, g2, RepL.dropB B A _ hb2 g3⟩
end
def frzX (C : CI) (W : ZRC) : ZRC := fun ds Δ P => W ds Δ fun d Δ' => (∀ (n : Nat) (o : O), n < Δ.length → Δ'[n]? = some o → Δ[n]? = some o ∨ blwO Δ.length o = true) ∧ Z.below Δ.length (Z.frx C Δ' Δ.length 4 d) = true ∧ P (Z.frx C Δ' Δ.length 4 d) (Δ'.take Δ.length)
section
variable {P : Program} {w : World} {K : PySem.W.Frag} {mg : Str → Option Value} {base : Heap} {C : CI} {k : Nat} {f : Addr} {fd : FuncData} {ps : List Str} {W : ZRC}
theorem sp_frzX {vs : List V} {H : Hp} {Q : VK} {E : XK} (h : SpZ K C (frzX C W) vs H Q E) : SpZ K C W vs H Q E := by
  obtain ⟨S, A, Δ, ds, P, r, hc, hw, kk⟩ := h
  refine ⟨S, A, Δ, ds, _, r, hc, hw, fun v d A' H' Δ' e c r' q => ?_⟩
  obtain ⟨hch, hb, p⟩ := q
  obtain ⟨B, hB, nB⟩ := e.pre
  subst hB
  have c5 := hc.takeB c (by rw [hc.len]; exact hch)
  have r5 := Rep.frx c 4 d v (by rw [hc.len]; exact hb) r'
  rw [hc.len] at c5 r5
  exact kk _ _ A H' _ ⟨⟨[], by simp, by simp⟩, fun a o h1 h2 => e.keep a o h1 h2, e.trk⟩ c5 r5 p
theorem fn_frzX (F : FnOk P w K mg base CX0 k f fd ps (SpZ K C W)) : FnOk P w K mg base CX0 k f fd ps (SpZ K C (frzX C W)) := F.imp fun _ _ _ _ h => sp_frzX h
end
end Z

/-! Z38: a call that changes its first argument's cell (a list of plain values) and is lent the others' contents. -/
namespace Z
open PySem PySem.Spec PyProof.Rows L2
section
variable {K : PySem.W.Frag} {C : CI} {S A A' : List Addr} {H : Hp} {Δ : Store}
mutual
theorem Rep.sub (s : ∀ x ∈ A', x ∈ A) : ∀ (d : D) {v : V}, below 0 d = true → Rep K C S A H v d → Rep K C S A' H v d
  | .non, _, _, h => by cases h; exact .non
  | .bl b, _, _, h => by cases h; exact .bl b
  | .int i, _, _, h => by cases h; exact .int i
  | .str x, _, _, h => by cases h; exact .str x
  | .ty n, _, _, h => by cases h; exact .ty n
  | .cls c, _, _, h => by cases h; exact .cls c
  | .ktup ns, _, _, h => by cases h with | ktup h => exact .ktup h
  | .exc c, _, _, h => by cases h with | exc h hA hS => exact .exc h (fun q => hA (s _ q)) hS
  | .tup ds, _, hb, h => by cases h with | tup h hA hS r => exact .tup h (fun q => hA (s _ q)) hS (RepL.sub s ds hb r)
  | .lst ds, _, hb, h => by cases h with | lst h hA hS r => exact .lst h (fun q => hA (s _ q)) hS (RepL.sub s ds hb r)
  | .ins c ds, _, hb, h => by cases h with | ins h hA hS hl r => exact .ins h (fun q => hA (s _ q)) hS hl (RepL.sub s ds hb r)
  | .dct ks ds, _, hb, h => by cases h with | dct h hA hS hl r => exact .dct h (fun q => hA (s _ q)) hS hl (RepL.sub s ds hb r)
  | .cell n, _, hb, h => by have := of_decide_eq_true (p := n < 0) hb; omega
  | .scr ns, _, _, h => by
    cases h with
    | scr h =>
      rcases h with ⟨h, hA, hS⟩ | h
      · exact .scr (.inl ⟨h, (fun q => hA (s _ q)), hS⟩)
      · exact .scr (.inr h)
theorem RepL.sub (s : ∀ x ∈ A', x ∈ A) : ∀ (ds : List D) {vs : List V}, belowL 0 ds = true → RepL K C S A H vs ds → RepL K C S A' H vs ds
  | [], _, _, h => by cases h; exact .nil
  | d :: ds, _, hb, h => by
    have hb' : (below 0 d && belowL 0 ds) = true := hb
    rw [Bool.and_eq_true] at hb'
    cases h with
    | cons h r => exact .cons (Rep.sub s d hb'.1 h) (RepL.sub s ds hb'.2 r)
end
theorem Rep.thwM {am : Addr} {m : Nat} (hc : Cells K C S A H Δ) (hm : A[m]? = some am) : ∀ (d : D) {v : V}, d ≠ .cell m → Z.below 0 (Z.thaw Δ d) = true → Rep K C S A H v d → Rep K C S [am] H v (Z.thaw Δ d) := by
  have sb : ∀ x ∈ [am], x ∈ A := fun x hx => by rw [List.mem_singleton] at hx; rw [hx]; exact List.mem_of_getElem? hm
  have ne : ∀ {n : Nat} {a : Addr}, n ≠ m → A[n]? = some a → a ∉ [am] := fun {n a} hn ha hx => by
    rw [List.mem_singleton] at hx
    subst hx
    obtain ⟨l1, e1⟩ := List.getElem?_eq_some_iff.mp ha
    obtain ⟨l2, e2⟩ := List.getElem?_eq_some_iff.mp hm
    exact hn ((List.getElem_inj hc.nd).mp (e1.trans e2.symm))
  intro d v hd hb h
  cases d with
  | cell n =>
    have hnm : n ≠ m := fun q => hd (by rw [q])
    unfold Z.thaw at hb ⊢
    cases q : Δ[n]? with
    | none => simp only [q] at hb; have := of_decide_eq_true (p := n < 0) hb; omega
    | some o =>
      cases o with
      | ins c fs => simp only [q] at hb; have := of_decide_eq_true (p := n < 0) hb; omega
      | dct ks ds =>
        simp only [q] at hb ⊢
        cases h with
        | cell e =>
          obtain ⟨xs, h1, h0, h2⟩ := hc.at_ n _ _ e q
          exact .dct (.inl h1) (ne hnm e) (hc.dj _ (List.mem_of_getElem? e)) h0 (RepL.sub sb ds hb h2)
      | lst ds =>
        simp only [q] at hb ⊢
        cases h with
        | cell e =>
          obtain ⟨xs, h1, h2⟩ := hc.at_ n _ _ e q
          exact .lst h1 (ne hnm e) (hc.dj _ (List.mem_of_getElem? e)) (RepL.sub sb ds hb h2)
  | non => exact Rep.sub sb _ hb h
  | bl b => exact Rep.sub sb _ hb h
  | int i => exact Rep.sub sb _ hb h
  | str x => exact Rep.sub sb _ hb h
  | ty n => exact Rep.sub sb _ hb h
  | cls c => exact Rep.sub sb _ hb h
  | ktup c => exact Rep.sub sb _ hb h
  | exc c => exact Rep.sub sb _ hb h
  | tup ds => exact Rep.sub sb _ hb h
  | lst ds => exact Rep.sub sb _ hb h
  | ins c ds => exact Rep.sub sb _ hb h
  | dct ks ds => exact Rep.sub sb _ hb h
  | scr ns => exact Rep.sub sb _ hb h
theorem RepL.thwM {am : Addr} {m : Nat} (hc : Cells K C S A H Δ) (hm : A[m]? = some am) : ∀ (ds : List D) {vs : List V}, (∀ d ∈ ds, d ≠ .cell m) → Z.belowL 0 (ds.map (Z.thaw Δ)) = true → RepL K C S A H vs ds → RepL K C S [am] H vs (ds.map (Z.thaw Δ))
  | [], _, _, _, h => by cases h; exact .nil
  | d :: ds, _, hd, hb, h => by
    have hb' : (Z.below 0 (Z.thaw Δ d) && Z.belowL 0 (ds.map (Z.thaw Δ))) = true := hb
    rw [Bool.and_eq_true] at hb'
    cases h with
    | cons h r => exact .cons (Rep.thwM hc hm d (hd d List.mem_cons_self) hb'.1 h) (RepL.thwM hc hm ds (fun x hx => hd x (List.mem_cons_of_mem _ hx)) hb'.2 r)
end
def lendS (W : ZRC) : ZRC := fun ds Δ P => ∃ m es rest, ds = .cell m :: rest ∧ Δ[m]? = some (.lst es) ∧ bareTs es = true ∧ (∀ d ∈ rest, d ≠ .cell m) ∧ Z.belowL 0 (rest.map (Z.thaw Δ)) = true ∧ W (.cell 0 :: rest.map (Z.thaw Δ)) [.lst es] fun d Δ' => bareT d = true ∧ ∃ es', Δ'[0]? = some (.lst es') ∧ bareTs es' = true ∧ P d (Δ.set m (.lst es'))
section
variable {P : Program} {w : World} {K : PySem.W.Frag} {mg : Str → Option Value} {base : Heap} {C : CI} {k : Nat} {f : Addr} {fd : FuncData} {ps : List Str} {W : ZRC}
theorem sp_lendS {vs : List V} {H : Hp} {Q : VK} {E : XK} (h : SpZ K C (lendS W) vs H Q E) : SpZ K C W vs H Q E := by
  obtain ⟨S, A, Δ, ds, P, r, hc, hw, kk⟩ := h
  obtain ⟨m, es, rest, rfl, hm, hb, hne, hbr, hw⟩ := hw
  cases r with
  | cons r0 rr =>
  cases r0 with
  | cell e0 =>
  rename_i vs am
  have hlA := (List.getElem?_eq_some_iff.mp e0).1
  have hlm : m < Δ.length := (List.getElem?_eq_some_iff.mp hm).1
  have hmA : am ∈ A := List.mem_of_getElem? e0
  obtain ⟨xs, g1, g2⟩ := hc.at_ m am _ e0 hm
  have nt1 : ∀ a xs, H a = some (.tup xs) → a ∉ [am] := fun a ys h hx => by
    rw [List.mem_singleton] at hx
    subst hx
    exact hc.no_tup h hmA
  have hc1 : Cells K C S [am] H [.lst es] := ⟨rfl, by simp, fun a ha => by rw [List.mem_singleton] at ha; rw [ha]; exact hc.dj _ hmA, hc.as, fun n a o h1 h2 => by
    cases n with
    | zero => cases h1; cases h2; exact ⟨xs, g1, RepL.re nt1 es hb g2⟩
    | succ n => cases h1⟩
  refine ⟨S, [am], [.lst es], .cell 0 :: rest.map (Z.thaw Δ), _, .cons (.cell rfl) (RepL.thwM hc e0 rest hne hbr rr), hc1, hw, fun v d A' H' Δ' e c r' q => ?_⟩
  obtain ⟨hbd, es', he', hb', p⟩ := q
  obtain ⟨B, hB, nB⟩ := e.pre
  have e1 : A'[0]? = some am := by rw [hB]; rfl
  obtain ⟨xs', g1', g2'⟩ := c.at_ 0 am _ e1 he'
  have kp : ∀ a o, a ≠ am → H a = some o → H' a = some o := fun a o h1 h2 => e.keep a o (fun q => by rw [List.mem_singleton] at q; exact h1 q) h2
  have ex : Ext A H A H' := ⟨⟨[], by simp, by simp⟩, fun a o h1 h2 => kp a o (fun q => h1 (by rw [q]; exact hmA)) h2, e.trk⟩
  have nt : ∀ a xs, H' a = some (.tup xs) → a ∉ A := fun a ys h hx => by
    by_cases q : a = am
    · rw [q, g1'] at h; cases h
    · obtain ⟨n, hn⟩ := List.mem_iff_getElem?.mp hx
      have hl : n < Δ.length := by rw [← hc.len]; exact (List.getElem?_eq_some_iff.mp hn).1
      have z := hc.at_ n a _ hn (List.getElem?_eq_getElem hl)
      cases e5 : Δ[n] with
      | lst ds => rw [e5] at z; obtain ⟨xs, g, _⟩ := z; rw [kp a _ q g] at h; cases h
      | ins k fs => rw [e5] at z; obtain ⟨dx, xs, g, _⟩ := z; rw [kp a _ q g] at h; cases h
      | dct ks ds => rw [e5] at z; obtain ⟨xs, g, _⟩ := z; rw [kp a _ q g] at h; cases h
  have hc2 : Cells K C S A H' (Δ.set m (.lst es')) := ⟨by rw [List.length_set]; exact hc.len, hc.nd, hc.dj, c.as, fun n a o h1 h2 => by
    by_cases q : n = m
    · subst q
      rw [e0] at h1
      cases h1
      rw [List.getElem?_set_self hlm] at h2
      cases h2
      exact ⟨xs', g1', RepL.re nt es' hb' g2'⟩
    · rw [List.getElem?_set_ne (Ne.symm q)] at h2
      have hna : a ≠ am := fun z => by
        subst z
        obtain ⟨l1, e1⟩ := List.getElem?_eq_some_iff.mp h1
        obtain ⟨l2, e2⟩ := List.getElem?_eq_some_iff.mp e0
        exact q ((List.getElem_inj hc.nd).mp (e1.trans e2.symm))
      exact (hc.at_ n a o h1 h2).mono ex.mo (fun u hu => kp a u hna hu)⟩
  exact kk v d A H' _ ex hc2 (Rep.re nt d hbd r') p
theorem fn_lendS (F : FnOk P w K mg base CX0 k f fd ps (SpZ K C W)) : FnOk P w K mg base CX0 k f fd ps (SpZ K C (lendS W)) := F.imp fun _ _ _ _ h => sp_lendS h
end
/-- x in l: items of any depth -/
def zInQ : ZR2 := fun x y Δ P => ∃ ds, rdk Δ 3 y = .lst ds ∧ shp (rdk Δ 3 x) = true ∧ shp (.lst ds) = true ∧ P (.bl ((pds ds).any fun z => PyData.eqv z (pd (rdk Δ 3 x)))) Δ
section
variable {C : CI} {X : Cx}
theorem oz_inQ {k : Nat} (hr : Room k X.A) : OpZ C X (compareOp .In) zInQ := ⟨_, L2.op_inD (by have := hr.un; omega), fun S A H Δ x y dx dy P Q hc rx ry hz k => by
  obtain ⟨ds, e, h1, h2, p⟩ := hz
  have g1 := Bool.and_eq_true_iff.mp h1
  have g2 := Bool.and_eq_true_iff.mp h2
  have hy := dp_rdk hc 3 dy y ry (by rw [e]; exact g2.1)
  rw [e] at hy
  exact ⟨_, _, dp_rdk hc 3 dx x rx g1.1, hy, g1.2, g2.2, k _ _ A H Δ (Ext.refl _ _) hc (.bl _) p⟩⟩
end
end Z

namespace Bx
open PySem PySem.Spec PyProof.Rows L2 Z
/-! ### the text by places -/
def top (i : Nat) : Stmt := PySem.Challenge.pw_boxrows_k18_widths_with_a_value.main.body.getD i (.Pass ⟨0, 0, 0, 0⟩)
abbrev s__law_dip_r0 : Stmt := top 42
abbrev s__law_dip_r1 : Stmt := top 42
abbrev s__law_dip_r2 : Stmt := top 42
abbrev s__law_cut : Stmt := top 43
abbrev s__law_plus : Stmt := top 44
abbrev s__law_product : Stmt := top 45
abbrev s__law_long : Stmt := top 54
abbrev s_is_int : Stmt := top 9
abbrev s_is_fraction : Stmt := top 10
abbrev s_is_positive_or_zero : Stmt := top 26
abbrev s_is_point : Stmt := top 27
abbrev s_order : Stmt := top 18
abbrev s_are_points : Stmt := top 28
abbrev s_joined : Stmt := top 31
abbrev s_lowest : Stmt := top 13
abbrev s_over : Stmt := top 17
abbrev s_minus : Stmt := top 15
abbrev s_pieces_between : Stmt := top 30
abbrev s_Curve_d_init_d : Stmt := inClass (top 24) 0
abbrev s_is_rational : Stmt := top 11
abbrev s_as_fraction : Stmt := top 12
abbrev s_last_up_to : Stmt := top 32
abbrev s_plus : Stmt := top 14
abbrev s_widths_inside : Stmt := top 38
abbrev s_widths_with_value : Stmt := top 39
abbrev s_Curve_widths_of : Stmt := inClass (top 24) 7
abbrev s__law_less : Stmt := top 46
abbrev s__law_widths_with : Stmt := top 52
abbrev s__law_long_right : Stmt := top 55
abbrev s__law_spring : Stmt := top 41
abbrev s__law_rise : Stmt := top 47
abbrev s__law_drawn : Stmt := top 48
abbrev s_check_width : Stmt := top 21
abbrev s_times : Stmt := top 16
abbrev s_value_on : Stmt := top 34
abbrev s_pieces_at : Stmt := top 33
abbrev s_values_at : Stmt := top 35
abbrev s_Curve_d_call_d : Stmt := inClass (top 24) 3
abbrev s__law_right : Stmt := top 53
abbrev s_law : Stmt := top 56
abbrev N__law_dip_r0 : List Str := ["spring", "bound", "found", "turn", "mixed"]
theorem sc__law_dip_r0 : FnScope ["spring", "bound", "found", "turn", "mixed"] ["spring", "bound"] (defScope s__law_dip_r0) := ⟨rfl, rfl, rfl, by decide +kernel, rfl, by decide +kernel, by decide +kernel⟩
abbrev N__law_dip_r1 : List Str := ["spring", "bound", "found", "turn", "mixed"]
theorem sc__law_dip_r1 : FnScope ["spring", "bound", "found", "turn", "mixed"] ["spring", "bound"] (defScope s__law_dip_r1) := ⟨rfl, rfl, rfl, by decide +kernel, rfl, by decide +kernel, by decide +kernel⟩
abbrev N__law_dip_r2 : List Str := ["spring", "bound", "found", "turn", "mixed"]
theorem sc__law_dip_r2 : FnScope ["spring", "bound", "found", "turn", "mixed"] ["spring", "bound"] (defScope s__law_dip_r2) := ⟨rfl, rfl, rfl, by decide +kernel, rfl, by decide +kernel, by decide +kernel⟩
abbrev N__law_cut : List Str := ["above", "below", "one", "two"]
theorem sc__law_cut : FnScope ["above", "below", "one", "two"] ["above", "below"] (defScope s__law_cut) := ⟨rfl, rfl, rfl, by decide +kernel, rfl, by decide +kernel, by decide +kernel⟩
abbrev N__law_plus : List Str := ["one", "two"]
theorem sc__law_plus : FnScope ["one", "two"] ["one", "two"] (defScope s__law_plus) := ⟨rfl, rfl, rfl, by decide +kernel, rfl, by decide +kernel, by decide +kernel⟩
abbrev N__law_product : List Str := ["one", "two"]
theorem sc__law_product : FnScope ["one", "two"] ["one", "two"] (defScope s__law_product) := ⟨rfl, rfl, rfl, by decide +kernel, rfl, by decide +kernel, by decide +kernel⟩
abbrev N__law_long : List Str := ["spring", "many", "begin", "found", "rises", "width_here", "k", "rise", "step"]
theorem sc__law_long : FnScope ["spring", "many", "begin", "found", "rises", "width_here", "k", "rise", "step"] ["spring", "many", "begin"] (defScope s__law_long) := ⟨rfl, rfl, rfl, by decide +kernel, rfl, by decide +kernel, by decide +kernel⟩
abbrev N_is_int : List Str := ["value"]
theorem sc_is_int : FnScope ["value"] ["value"] (defScope s_is_int) := ⟨rfl, rfl, rfl, by decide +kernel, rfl, by decide +kernel, by decide +kernel⟩
abbrev N_is_fraction : List Str := ["value", "p", "q"]
theorem sc_is_fraction : FnScope ["value", "p", "q"] ["value"] (defScope s_is_fraction) := ⟨rfl, rfl, rfl, by decide +kernel, rfl, by decide +kernel, by decide +kernel⟩
abbrev N_is_positive_or_zero : List Str := ["value"]
theorem sc_is_positive_or_zero : FnScope ["value"] ["value"] (defScope s_is_positive_or_zero) := ⟨rfl, rfl, rfl, by decide +kernel, rfl, by decide +kernel, by decide +kernel⟩
abbrev N_is_point : List Str := ["value", "item"]
theorem sc_is_point : FnScope ["value", "item"] ["value"] (defScope s_is_point) := ⟨rfl, rfl, rfl, by decide +kernel, rfl, by decide +kernel, by decide +kernel⟩
abbrev N_order : List Str := ["one", "two"]
theorem sc_order : FnScope ["one", "two"] ["one", "two"] (defScope s_order) := ⟨rfl, rfl, rfl, by decide +kernel, rfl, by decide +kernel, by decide +kernel⟩
abbrev N_are_points : List Str := ["points", "steps", "at", "one", "two", "point"]
theorem sc_are_points : FnScope ["points", "steps", "at", "one", "two", "point"] ["points"] (defScope s_are_points) := ⟨rfl, rfl, rfl, by decide +kernel, rfl, by decide +kernel, by decide +kernel⟩
abbrev N_joined : List Str := ["pieces", "found", "at", "is_empty"]
theorem sc_joined : FnScope ["pieces", "found", "at", "is_empty"] ["pieces"] (defScope s_joined) := ⟨rfl, rfl, rfl, by decide +kernel, rfl, by decide +kernel, by decide +kernel⟩
abbrev N_lowest : List Str := ["p", "q", "common"]
theorem sc_lowest : FnScope ["p", "q", "common"] ["p", "q"] (defScope s_lowest) := ⟨rfl, rfl, rfl, by decide +kernel, rfl, by decide +kernel, by decide +kernel⟩
abbrev N_over : List Str := ["one", "two"]
theorem sc_over : FnScope ["one", "two"] ["one", "two"] (defScope s_over) := ⟨rfl, rfl, rfl, by decide +kernel, rfl, by decide +kernel, by decide +kernel⟩
abbrev N_minus : List Str := ["one", "two"]
theorem sc_minus : FnScope ["one", "two"] ["one", "two"] (defScope s_minus) := ⟨rfl, rfl, rfl, by decide +kernel, rfl, by decide +kernel, by decide +kernel⟩
abbrev N_pieces_between : List Str := ["points", "slope", "found", "at", "width", "value", "end", "top"]
theorem sc_pieces_between : FnScope ["points", "slope", "found", "at", "width", "value", "end", "top"] ["points", "slope"] (defScope s_pieces_between) := ⟨rfl, rfl, rfl, by decide +kernel, rfl, by decide +kernel, by decide +kernel⟩
abbrev N_Curve_d_init_d : List Str := ["self", "points", "slope"]
theorem sc_Curve_d_init_d : FnScope ["self", "points", "slope"] ["self", "points", "slope"] (defScope s_Curve_d_init_d) := ⟨rfl, rfl, rfl, by decide +kernel, rfl, by decide +kernel, by decide +kernel⟩
abbrev N_is_rational : List Str := ["value"]
theorem sc_is_rational : FnScope ["value"] ["value"] (defScope s_is_rational) := ⟨rfl, rfl, rfl, by decide +kernel, rfl, by decide +kernel, by decide +kernel⟩
abbrev N_as_fraction : List Str := ["value"]
theorem sc_as_fraction : FnScope ["value"] ["value"] (defScope s_as_fraction) := ⟨rfl, rfl, rfl, by decide +kernel, rfl, by decide +kernel, by decide +kernel⟩
abbrev N_last_up_to : List Str := ["starts", "value", "low", "high", "middle"]
theorem sc_last_up_to : FnScope ["starts", "value", "low", "high", "middle"] ["starts", "value"] (defScope s_last_up_to) := ⟨rfl, rfl, rfl, by decide +kernel, rfl, by decide +kernel, by decide +kernel⟩
abbrev N_plus : List Str := ["one", "two"]
theorem sc_plus : FnScope ["one", "two"] ["one", "two"] (defScope s_plus) := ⟨rfl, rfl, rfl, by decide +kernel, rfl, by decide +kernel, by decide +kernel⟩
abbrev N_widths_inside : List Str := ["pieces", "values", "starts", "found", "value", "width", "start", "slope", "piece"]
theorem sc_widths_inside : FnScope ["pieces", "values", "starts", "found", "value", "width", "start", "slope", "piece"] ["pieces", "values"] (defScope s_widths_inside) := ⟨rfl, rfl, rfl, by decide +kernel, rfl, by decide +kernel, by decide +kernel⟩
abbrev N_widths_with_value : List Str := ["pieces", "value", "at", "width", "start", "slope", "found", "is_flat_before", "least", "piece"]
theorem sc_widths_with_value : FnScope ["pieces", "value", "at", "width", "start", "slope", "found", "is_flat_before", "least", "piece"] ["pieces", "value"] (defScope s_widths_with_value) := ⟨rfl, rfl, rfl, by decide +kernel, rfl, by decide +kernel, by decide +kernel⟩
abbrev N_Curve_widths_of : List Str := ["self", "value"]
theorem sc_Curve_widths_of : FnScope ["self", "value"] ["self", "value"] (defScope s_Curve_widths_of) := ⟨rfl, rfl, rfl, by decide +kernel, rfl, by decide +kernel, by decide +kernel⟩
abbrev N__law_less : List Str := ["one", "two"]
theorem sc__law_less : FnScope ["one", "two"] ["one", "two"] (defScope s__law_less) := ⟨rfl, rfl, rfl, by decide +kernel, rfl, by decide +kernel, by decide +kernel⟩
abbrev N__law_widths_with : List Str := ["points_here", "rises", "value", "lows", "highs", "k", "begin", "height", "last", "over_it", "width_here"]
theorem sc__law_widths_with : FnScope ["points_here", "rises", "value", "lows", "highs", "k", "begin", "height", "last", "over_it", "width_here"] ["points_here", "rises", "value"] (defScope s__law_widths_with) := ⟨rfl, rfl, rfl, by decide +kernel, rfl, by decide +kernel, by decide +kernel⟩
abbrev N__law_long_right : List Str := ["spring", "points_here", "rises", "told", "turn", "spot", "value", "one"]
theorem sc__law_long_right : FnScope ["spring", "points_here", "rises", "told", "turn", "spot", "value", "one"] ["spring"] (defScope s__law_long_right) := ⟨rfl, rfl, rfl, by decide +kernel, rfl, by decide +kernel, by decide +kernel⟩
abbrev N__law_spring : List Str := ["script", "k", "cell"]
theorem sc__law_spring : FnScope ["script", "k", "cell"] ["script", "k"] (defScope s__law_spring) := ⟨rfl, rfl, rfl, by decide +kernel, rfl, by decide +kernel, by decide +kernel⟩
abbrev N__law_rise : List Str := ["spring", "some"]
theorem sc__law_rise : FnScope ["spring", "some"] ["spring"] (defScope s__law_rise) := ⟨rfl, rfl, rfl, by decide +kernel, rfl, by decide +kernel, by decide +kernel⟩
abbrev N__law_drawn : List Str := ["spring", "many", "wide", "found", "rises", "turn", "rise", "step"]
theorem sc__law_drawn : FnScope ["spring", "many", "wide", "found", "rises", "turn", "rise", "step"] ["spring", "many", "wide"] (defScope s__law_drawn) := ⟨rfl, rfl, rfl, by decide +kernel, rfl, by decide +kernel, by decide +kernel⟩
abbrev N_check_width : List Str := ["width"]
theorem sc_check_width : FnScope ["width"] ["width"] (defScope s_check_width) := ⟨rfl, rfl, rfl, by decide +kernel, rfl, by decide +kernel, by decide +kernel⟩
abbrev N_times : List Str := ["one", "two"]
theorem sc_times : FnScope ["one", "two"] ["one", "two"] (defScope s_times) := ⟨rfl, rfl, rfl, by decide +kernel, rfl, by decide +kernel, by decide +kernel⟩
abbrev N_value_on : List Str := ["piece", "width"]
theorem sc_value_on : FnScope ["piece", "width"] ["piece", "width"] (defScope s_value_on) := ⟨rfl, rfl, rfl, by decide +kernel, rfl, by decide +kernel, by decide +kernel⟩
abbrev N_pieces_at : List Str := ["pieces", "widths", "starts", "piece", "width"]
theorem sc_pieces_at : FnScope ["pieces", "widths", "starts", "piece", "width"] ["pieces", "widths"] (defScope s_pieces_at) := ⟨rfl, rfl, rfl, by decide +kernel, rfl, by decide +kernel, by decide +kernel⟩
abbrev N_values_at : List Str := ["pieces", "widths", "piece", "width"]
theorem sc_values_at : FnScope ["pieces", "widths", "piece", "width"] ["pieces", "widths"] (defScope s_values_at) := ⟨rfl, rfl, rfl, by decide +kernel, rfl, by decide +kernel, by decide +kernel⟩
abbrev N_Curve_d_call_d : List Str := ["self", "width"]
theorem sc_Curve_d_call_d : FnScope ["self", "width"] ["self", "width"] (defScope s_Curve_d_call_d) := ⟨rfl, rfl, rfl, by decide +kernel, rfl, by decide +kernel, by decide +kernel⟩
abbrev N__law_right : List Str := ["spring", "points_here", "rises", "told", "some", "one", "two", "last", "value", "due", "least_here", "last_here"]
theorem sc__law_right : FnScope ["spring", "points_here", "rises", "told", "some", "one", "two", "last", "value", "due", "least_here", "last_here"] ["spring", "points_here", "rises"] (defScope s__law_right) := ⟨rfl, rfl, rfl, by decide +kernel, rfl, by decide +kernel, by decide +kernel⟩
abbrev N_law : List Str := ["script", "k", "spring", "many", "wide", "points_here", "rises", "spot", "level", "step", "height", "one", "value"]
theorem sc_law : FnScope ["script", "k", "spring", "many", "wide", "points_here", "rises", "spot", "level", "step", "height", "one", "value"] ["script"] (defScope s_law) := ⟨rfl, rfl, rfl, by decide +kernel, rfl, by decide +kernel, by decide +kernel⟩
/-! ### the readings over data -/
def nmsOf : Nat → List Str
  | 0 => ["_pieces"]
  | _ => []
section
def W__law_dip_r0 (K : PySem.W.Frag) (C : CI) : ZRC := fun _ _ _ => False
/-- _law_dip@1(spring, bound); slots 0:spring 1:bound 2:found 3:turn 4:mixed -/
def z__law_dip_r1 (K : PySem.W.Frag) (C : CI) : ZS := zSeq (zIfS (zTest (zOp (zI0 fun i j => .bl (decide (j < i))) (zVar 1) (zOp (zI CPow fun i j => .int (i ^ j.toNat)) (zC (.int 10)) (zC (.int 30))))) (zSeq (zAsg (zC (.int 0)) (zgName 2))
    (zSeq (zFor (ziR1 (zCons (zOp (zI0 fun i j => .int (i + j)) (zC (.int 1)) (zOp (zI CDivW fun i j => .int (i / j)) (zBits (zVar 1)) (zC (.int 90)))) (zNil))) (zgName 3) (zAsg (zOp (zI0 fun i j => .int (i + j)) (zOp (zI MulOk fun i j => .int (i * j)) (zVar 2) (zOp (zI CPow fun i j => .int (i ^ j.toNat)) (zC (.int 10)) (zC (.int 30)))) (zCall (W__law_dip_r0 K C) [] (zCons (zVar 0) (zCons (zOp (zI CPow fun i j => .int (i ^ j.toNat)) (zC (.int 10)) (zC (.int 30))) (zNil))))) (zgName 2)))
    (zRet (zOp (zI (fun _ j => 0 < j) fun i j => .int (i % j)) (zVar 2) (zVar 1))))) (zNext))
    (zSeq (zIfS (zTest (zOp (zI0 fun i j => .bl (decide (j < i))) (zOp zIx (zVar 0) (zC (.int 0))) (zC (.int 0)))) (zSeq (zAsg (zOp (zI (fun _ j => 0 < j) fun i j => .int (i % j)) (zOp zIx (zVar 0) (zC (.int 0))) (zVar 1)) (zgName 2))
    (zSeq (zAsg (zOp (zI CDivW fun i j => .int (i / j)) (zOp zIx (zVar 0) (zC (.int 0))) (zVar 1)) (zgSub (zVar 0) (zC (.int 0))))
    (zRet (zVar 2)))) (zNext))
    (zSeq (zAsg (zOp (zI0 fun i j => .int (i + j)) (zOp zIx (zVar 0) (zC (.int 2))) (zC (.int 1))) (zgSub (zVar 0) (zC (.int 2))))
    (zSeq (zAsg (zOp (zI (fun _ j => 0 < j) fun i j => .int (i % j)) (zOp (zI CPowW fun i j => .int (i ^ j.toNat)) (zOp (zI0 fun i j => .int (i + j)) (zOp zIx (zVar 0) (zC (.int 1))) (zOp (zI MulOk fun i j => .int (i * j)) (zC (.int 49979687)) (zOp zIx (zVar 0) (zC (.int 2))))) (zC (.int 3))) (zOp (zI0 fun i j => .int (i + j)) (zOp (zI CPow fun i j => .int (i ^ j.toNat)) (zC (.int 10)) (zC (.int 42))) (zC (.int 63)))) (zgName 4))
    (zSeq (zAsg (zOp (zI (fun _ j => 0 < j) fun i j => .int (i % j)) (zOp (zI CPowW fun i j => .int (i ^ j.toNat)) (zOp (zI0 fun i j => .int (i + j)) (zVar 4) (zOp (zI MulOk fun i j => .int (i * j)) (zC (.int 67867967)) (zOp zIx (zVar 0) (zC (.int 2))))) (zC (.int 3))) (zOp (zI0 fun i j => .int (i + j)) (zOp (zI CPow fun i j => .int (i ^ j.toNat)) (zC (.int 10)) (zC (.int 44))) (zC (.int 57)))) (zgName 4))
    (zRet (zOp (zI (fun _ j => 0 < j) fun i j => .int (i % j)) (zOp (zI CDivW fun i j => .int (i / j)) (zVar 4) (zC (.int 786433))) (zVar 1)))))))
def W__law_dip_r1 (K : PySem.W.Frag) (C : CI) : ZRC := fun ds Δ P => ds.length = 2 ∧ z__law_dip_r1 K C { nx := fun _ Δ' => P .non Δ', rt := P } (startZ ["spring", "bound", "found", "turn", "mixed"] ds) Δ
/-- _law_dip@2(spring, bound); slots 0:spring 1:bound 2:found 3:turn 4:mixed -/
def z__law_dip_r2 (K : PySem.W.Frag) (C : CI) : ZS := zSeq (zIfS (zTest (zOp (zI0 fun i j => .bl (decide (j < i))) (zVar 1) (zOp (zI CPow fun i j => .int (i ^ j.toNat)) (zC (.int 10)) (zC (.int 30))))) (zSeq (zAsg (zC (.int 0)) (zgName 2))
    (zSeq (zFor (ziR1 (zCons (zOp (zI0 fun i j => .int (i + j)) (zC (.int 1)) (zOp (zI CDivW fun i j => .int (i / j)) (zBits (zVar 1)) (zC (.int 90)))) (zNil))) (zgName 3) (zAsg (zOp (zI0 fun i j => .int (i + j)) (zOp (zI MulOk fun i j => .int (i * j)) (zVar 2) (zOp (zI CPow fun i j => .int (i ^ j.toNat)) (zC (.int 10)) (zC (.int 30)))) (zCall (W__law_dip_r1 K C) [] (zCons (zVar 0) (zCons (zOp (zI CPow fun i j => .int (i ^ j.toNat)) (zC (.int 10)) (zC (.int 30))) (zNil))))) (zgName 2)))
    (zRet (zOp (zI (fun _ j => 0 < j) fun i j => .int (i % j)) (zVar 2) (zVar 1))))) (zNext))
    (zSeq (zIfS (zTest (zOp (zI0 fun i j => .bl (decide (j < i))) (zOp zIx (zVar 0) (zC (.int 0))) (zC (.int 0)))) (zSeq (zAsg (zOp (zI (fun _ j => 0 < j) fun i j => .int (i % j)) (zOp zIx (zVar 0) (zC (.int 0))) (zVar 1)) (zgName 2))
    (zSeq (zAsg (zOp (zI CDivW fun i j => .int (i / j)) (zOp zIx (zVar 0) (zC (.int 0))) (zVar 1)) (zgSub (zVar 0) (zC (.int 0))))
    (zRet (zVar 2)))) (zNext))
    (zSeq (zAsg (zOp (zI0 fun i j => .int (i + j)) (zOp zIx (zVar 0) (zC (.int 2))) (zC (.int 1))) (zgSub (zVar 0) (zC (.int 2))))
    (zSeq (zAsg (zOp (zI (fun _ j => 0 < j) fun i j => .int (i % j)) (zOp (zI CPowW fun i j => .int (i ^ j.toNat)) (zOp (zI0 fun i j => .int (i + j)) (zOp zIx (zVar 0) (zC (.int 1))) (zOp (zI MulOk fun i j => .int (i * j)) (zC (.int 49979687)) (zOp zIx (zVar 0) (zC (.int 2))))) (zC (.int 3))) (zOp (zI0 fun i j => .int (i + j)) (zOp (zI CPow fun i j => .int (i ^ j.toNat)) (zC (.int 10)) (zC (.int 42))) (zC (.int 63)))) (zgName 4))
    (zSeq (zAsg (zOp (zI (fun _ j => 0 < j) fun i j => .int (i % j)) (zOp (zI CPowW fun i j => .int (i ^ j.toNat)) (zOp (zI0 fun i j => .int (i + j)) (zVar 4) (zOp (zI MulOk fun i j => .int (i * j)) (zC (.int 67867967)) (zOp zIx (zVar 0) (zC (.int 2))))) (zC (.int 3))) (zOp (zI0 fun i j => .int (i + j)) (zOp (zI CPow fun i j => .int (i ^ j.toNat)) (zC (.int 10)) (zC (.int 44))) (zC (.int 57)))) (zgName 4))
    (zRet (zOp (zI (fun _ j => 0 < j) fun i j => .int (i % j)) (zOp (zI CDivW fun i j => .int (i / j)) (zVar 4) (zC (.int 786433))) (zVar 1)))))))
def W__law_dip_r2 (K : PySem.W.Frag) (C : CI) : ZRC := fun ds Δ P => ds.length = 2 ∧ z__law_dip_r2 K C { nx := fun _ Δ' => P .non Δ', rt := P } (startZ ["spring", "bound", "found", "turn", "mixed"] ds) Δ
/-- _law_cut(above, below); slots 0:above 1:below 2:one 3:two -/
def z__law_cut (K : PySem.W.Frag) (C : CI) : ZS := zSeq (zPar 2 3 (zCons (zCB zAbs (zCons (zVar 0) (zNil))) (zCons (zVar 1) (zNil))))
    (zSeq (zWhile (zTest (zOp (zI0 fun i j => .bl (decide (j < i))) (zVar 3) (zC (.int 0)))) (zPar 2 3 (zCons (zVar 3) (zCons (zOp (zI (fun _ j => 0 < j) fun i j => .int (i % j)) (zVar 2) (zVar 3)) (zNil)))))
    (zRet (zTup (zCons (zOp (zI CDivW fun i j => .int (i / j)) (zVar 0) (zVar 2)) (zCons (zOp (zI CDivW fun i j => .int (i / j)) (zVar 1) (zVar 2)) (zNil))))))
def W__law_cut (K : PySem.W.Frag) (C : CI) : ZRC := fun ds Δ P => ds.length = 2 ∧ z__law_cut K C { nx := fun _ Δ' => P .non Δ', rt := P } (startZ ["above", "below", "one", "two"] ds) Δ
/-- _law_plus(one, two); slots 0:one 1:two -/
def z__law_plus (K : PySem.W.Frag) (C : CI) : ZS := zRet (zCall (W__law_cut K C) [] (zCons (zOp (zI0 fun i j => .int (i + j)) (zOp (zI MulOk fun i j => .int (i * j)) (zOp zIx (zVar 0) (zC (.int 0))) (zOp zIx (zVar 1) (zC (.int 1)))) (zOp (zI MulOk fun i j => .int (i * j)) (zOp zIx (zVar 1) (zC (.int 0))) (zOp zIx (zVar 0) (zC (.int 1))))) (zCons (zOp (zI MulOk fun i j => .int (i * j)) (zOp zIx (zVar 0) (zC (.int 1))) (zOp zIx (zVar 1) (zC (.int 1)))) (zNil))))
def W__law_plus (K : PySem.W.Frag) (C : CI) : ZRC := fun ds Δ P => ds.length = 2 ∧ z__law_plus K C { nx := fun _ Δ' => P .non Δ', rt := P } (startZ ["one", "two"] ds) Δ
/-- _law_product(one, two); slots 0:one 1:two -/
def z__law_product (K : PySem.W.Frag) (C : CI) : ZS := zRet (zCall (W__law_cut K C) [] (zCons (zOp (zI MulOk fun i j => .int (i * j)) (zOp zIx (zVar 0) (zC (.int 0))) (zOp zIx (zVar 1) (zC (.int 0)))) (zCons (zOp (zI MulOk fun i j => .int (i * j)) (zOp zIx (zVar 0) (zC (.int 1))) (zOp zIx (zVar 1) (zC (.int 1)))) (zNil))))
def W__law_product (K : PySem.W.Frag) (C : CI) : ZRC := fun ds Δ P => ds.length = 2 ∧ z__law_product K C { nx := fun _ Δ' => P .non Δ', rt := P } (startZ ["one", "two"] ds) Δ
/-- _law_long(spring, many, begin); slots 0:spring 1:many 2:begin 3:found 4:rises 5:width_here 6:k 7:rise 8:step -/
def z__law_long (K : PySem.W.Frag) (C : CI) : ZS := zSeq (zPar3 3 4 5 (zCons (zLstC (zCons (zTup (zCons (zTup (zCons (zC (.int 0)) (zCons (zC (.int 1)) (zNil)))) (zCons (zTup (zCons (zCall (W__law_dip_r2 K C) [] (zCons (zVar 0) (zCons (zC (.int 9)) (zNil)))) (zCons (zC (.int 1)) (zNil)))) (zNil)))) (zNil))) (zCons (zLstC (zNil)) (zCons (zC (.int 0)) (zNil)))))
    (zSeq (zFor (ziR1 (zCons (zVar 1) (zNil))) (zgName 6) (zSeq (zAsg (zOp zIx (zLst (zCons (zTup (zCons (zC (.int 0)) (zCons (zC (.int 1)) (zNil)))) (zCons (zCall (W__law_cut K C) [] (zCons (zOp (zI0 fun i j => .int (i + j)) (zC (.int 1)) (zCall (W__law_dip_r2 K C) [] (zCons (zVar 0) (zCons (zC (.int 9)) (zNil))))) (zCons (zOp (zI0 fun i j => .int (i + j)) (zC (.int 1)) (zCall (W__law_dip_r2 K C) [] (zCons (zVar 0) (zCons (zC (.int 9)) (zNil))))) (zNil)))) (zNil)))) (zOp (zI (fun _ j => 0 < j) fun i j => .int (i % j)) (zVar 6) (zC (.int 2)))) (zgName 7))
    (zSeq (zAsg (zIf (zTest (zOp zEqD (zVar 6) (zC (.int 0)))) (zVar 2) (zC (.int 2))) (zgName 8))
    (zSeq (zAsg (zOp (zI0 fun i j => .int (i + j)) (zVar 5) (zVar 8)) (zgName 5))
    (zSeq (zDrop (zAppend (zVar 4) (zCons (zVar 7) (zNil))))
    (zDrop (zAppend (zVar 3) (zCons (zTup (zCons (zTup (zCons (zVar 5) (zCons (zC (.int 1)) (zNil)))) (zCons (zCall (W__law_plus K C) [] (zCons (zOp zIx (zOp zIx (zVar 3) (zUn zNeg (zC (.int 1)))) (zC (.int 1))) (zCons (zCall (W__law_product K C) [] (zCons (zVar 7) (zCons (zTup (zCons (zVar 8) (zCons (zC (.int 1)) (zNil)))) (zNil)))) (zNil)))) (zNil)))) (zNil)))))))))
    (zRet (zTup (zCons (zVar 3) (zCons (zOp zCat (zVar 4) (zLst (zCons (zOp zIx (zLst (zCons (zTup (zCons (zC (.int 0)) (zCons (zC (.int 1)) (zNil)))) (zCons (zTup (zCons (zC (.int 1)) (zCons (zC (.int 3)) (zNil)))) (zNil)))) (zOp (zI (fun _ j => 0 < j) fun i j => .int (i % j)) (zVar 1) (zC (.int 2)))) (zNil)))) (zNil))))))
def W__law_long (K : PySem.W.Frag) (C : CI) : ZRC := fun ds Δ P => ds.length = 3 ∧ z__law_long K C { nx := fun _ Δ' => P .non Δ', rt := P } (startZ ["spring", "many", "begin", "found", "rises", "width_here", "k", "rise", "step"] ds) Δ
/-- is_int(value); slots 0:value -/
def z_is_int (K : PySem.W.Frag) (C : CI) : ZS := zRet (zAndV (zCB (zIsi K C) (zCons (zVar 0) (zCons (zC (.ty "int")) (zNil)))) (zNotV (zCB (zIsi K C) (zCons (zVar 0) (zCons (zC (.ty "bool")) (zNil))))))
def W_is_int (K : PySem.W.Frag) (C : CI) : ZRC := fun ds Δ P => ds.length = 1 ∧ z_is_int K C { nx := fun _ Δ' => P .non Δ', rt := P } (startZ ["value"] ds) Δ
/-- is_fraction(value); slots 0:value 1:p 2:q -/
def z_is_fraction (K : PySem.W.Frag) (C : CI) : ZS := zSeq (zIfS (zOr (zNot (zTest (zCB (zIsi K C) (zCons (zVar 0) (zCons (zC (.ty "tuple")) (zNil)))))) (zTest (zOp zNeD (zCB zLen (zCons (zVar 0) (zNil))) (zC (.int 2))))) (zRet (zC (.bl false))) (zNext))
    (zSeq (zAsg (zVar 0) (zgTup 2 (zgCons (zgName 1) (zgCons (zgName 2) (zgNil)))))
    (zRet (zAndV (zCall (W_is_int K C) [] (zCons (zVar 1) (zNil))) (zAndV (zCall (W_is_int K C) [] (zCons (zVar 2) (zNil))) (zAndV (zOp (zI0 fun i j => .bl (decide (j ≤ i))) (zVar 2) (zC (.int 1))) (zOp zEqD (zCB zGcd (zCons (zVar 1) (zCons (zVar 2) (zNil)))) (zC (.int 1))))))))
def W_is_fraction (K : PySem.W.Frag) (C : CI) : ZRC := fun ds Δ P => ds.length = 1 ∧ z_is_fraction K C { nx := fun _ Δ' => P .non Δ', rt := P } (startZ ["value", "p", "q"] ds) Δ
/-- is_positive_or_zero(value); slots 0:value -/
def z_is_positive_or_zero (K : PySem.W.Frag) (C : CI) : ZS := zRet (zAndV (zCall (W_is_fraction K C) [] (zCons (zVar 0) (zNil))) (zOp (zI0 fun i j => .bl (decide (j ≤ i))) (zOp zIx (zVar 0) (zC (.int 0))) (zC (.int 0))))
def W_is_positive_or_zero (K : PySem.W.Frag) (C : CI) : ZRC := fun ds Δ P => ds.length = 1 ∧ z_is_positive_or_zero K C { nx := fun _ Δ' => P .non Δ', rt := P } (startZ ["value"] ds) Δ
/-- is_point(value); slots 0:value 1:item -/
def z_is_point (K : PySem.W.Frag) (C : CI) : ZS := zRet (zAndV (zCB (zIsi K C) (zCons (zVar 0) (zCons (zC (.ty "tuple")) (zNil)))) (zAndV (zOp zEqD (zCB zLen (zCons (zVar 0) (zNil))) (zC (.int 2))) (zCB zAll (zCons (zLc (ziTup (zVar 0)) (zgName 1) (zYes) (zCall (W_is_positive_or_zero K C) [] (zCons (zVar 1) (zNil))) [1]) (zNil)))))
def W_is_point (K : PySem.W.Frag) (C : CI) : ZRC := fun ds Δ P => ds.length = 1 ∧ z_is_point K C { nx := fun _ Δ' => P .non Δ', rt := P } (startZ ["value", "item"] ds) Δ
/-- order(one, two); slots 0:one 1:two -/
def z_order (K : PySem.W.Frag) (C : CI) : ZS := zRet (zOp (zI0 fun i j => .int (i - j)) (zOp (zI MulOk fun i j => .int (i * j)) (zOp zIx (zVar 0) (zC (.int 0))) (zOp zIx (zVar 1) (zC (.int 1)))) (zOp (zI MulOk fun i j => .int (i * j)) (zOp zIx (zVar 1) (zC (.int 0))) (zOp zIx (zVar 0) (zC (.int 1)))))
def W_order (K : PySem.W.Frag) (C : CI) : ZRC := fun ds Δ P => ds.length = 2 ∧ z_order K C { nx := fun _ Δ' => P .non Δ', rt := P } (startZ ["one", "two"] ds) Δ
/-- are_points(points); slots 0:points 1:steps 2:at 3:one 4:two 5:point -/
def z_are_points (K : PySem.W.Frag) (C : CI) : ZS := zSeq (zIfS (zOr (zNot (zTest (zCB (zIsi K C) (zCons (zVar 0) (zCons (zC (.ty "list")) (zNil)))))) (zNot (zTest (zChain (zI0 fun i j => .bl (decide (i ≤ j))) (zI0 fun i j => .bl (decide (i ≤ j))) (zC (.int 1)) (zCB zLen (zCons (zVar 0) (zNil))) (zC (.int 200)))))) (zRet (zC (.bl false))) (zNext))
    (zSeq (zIfS (zLendT (zOr (zNot (zTest (zCB zAll (zCons (zLc (ziList (zVar 0)) (zgName 5) (zYes) (zCall (W_is_point K C) [] (zCons (zVar 5) (zNil))) [5]) (zNil))))) (zTest (zOp zNeK (zOp zIx (zOp zIx (zVar 0) (zC (.int 0))) (zC (.int 0))) (zC (.ktup [0, 1])))))) (zRet (zC (.bl false))) (zNext))
    (zSeq (zAsg (zLc (ziR1 (zCons (zOp (zI0 fun i j => .int (i - j)) (zCB zLen (zCons (zVar 0) (zNil))) (zC (.int 1))) (zNil))) (zgName 2) (zYes) (zTup (zCons (zOp zIx (zVar 0) (zVar 2)) (zCons (zOp zIx (zVar 0) (zOp (zI0 fun i j => .int (i + j)) (zVar 2) (zC (.int 1)))) (zNil)))) [2]) (zgName 1))
    (zRet (zCB zAll (zCons (zLc (ziList (zVar 1)) (zgTup 2 (zgCons (zgName 3) (zgCons (zgName 4) (zgNil)))) (zYes) (zAndV (zOp (zI0 fun i j => .bl (decide (i < j))) (zCall (W_order K C) [] (zCons (zOp zIx (zVar 3) (zC (.int 0))) (zCons (zOp zIx (zVar 4) (zC (.int 0))) (zNil)))) (zC (.int 0))) (zOp (zI0 fun i j => .bl (decide (i ≤ j))) (zCall (W_order K C) [] (zCons (zOp zIx (zVar 3) (zC (.int 1))) (zCons (zOp zIx (zVar 4) (zC (.int 1))) (zNil)))) (zC (.int 0)))) [3, 4]) (zNil))))))
def W_are_points (K : PySem.W.Frag) (C : CI) : ZRC := fun ds Δ P => ds.length = 1 ∧ z_are_points K C { nx := fun _ Δ' => P .non Δ', rt := P } (startZ ["points", "steps", "at", "one", "two", "point"] ds) Δ
/-- joined(pieces); slots 0:pieces 1:found 2:at 3:is_empty -/
def z_joined (K : PySem.W.Frag) (C : CI) : ZS := zSeq (zAsg (zLstC (zNil)) (zgName 1))
    (zSeq (zFor (ziR1 (zCons (zCB zLen (zCons (zVar 0) (zNil))) (zNil))) (zgName 2) (zSeq (zAsg (zAndV (zOp (zI0 fun i j => .bl (decide (i < j))) (zOp (zI0 fun i j => .int (i + j)) (zVar 2) (zC (.int 1))) (zCB zLen (zCons (zVar 0) (zNil)))) (zOp zEqD (zOp zIx (zOp zIx (zVar 0) (zOp (zI0 fun i j => .int (i + j)) (zVar 2) (zC (.int 1)))) (zC (.int 0))) (zOp zIx (zOp zIx (zVar 0) (zVar 2)) (zC (.int 0))))) (zgName 3))
    (zIfS (zAnd (zNot (zTest (zVar 3))) (zOr (zNot (zTru (zVar 1))) (zTest (zOp zNeD (zOp zIx (zOp zIx (zVar 1) (zUn zNeg (zC (.int 1)))) (zC (.int 2))) (zOp zIx (zOp zIx (zVar 0) (zVar 2)) (zC (.int 2))))))) (zDrop (zAppend (zVar 1) (zCons (zOp zIx (zVar 0) (zVar 2)) (zNil)))) (zNext))))
    (zRet (zVar 1)))
def W_joined (K : PySem.W.Frag) (C : CI) : ZRC := fun ds Δ P => ds.length = 1 ∧ z_joined K C { nx := fun _ Δ' => P .non Δ', rt := P } (startZ ["pieces", "found", "at", "is_empty"] ds) Δ
/-- lowest(p, q); slots 0:p 1:q 2:common -/
def z_lowest (K : PySem.W.Frag) (C : CI) : ZS := zSeq (zAsg (zCB zGcd (zCons (zVar 0) (zCons (zVar 1) (zNil)))) (zgName 2))
    (zRet (zTup (zCons (zOp (zI CDivW fun i j => .int (i / j)) (zVar 0) (zVar 2)) (zCons (zOp (zI CDivW fun i j => .int (i / j)) (zVar 1) (zVar 2)) (zNil)))))
def W_lowest (K : PySem.W.Frag) (C : CI) : ZRC := fun ds Δ P => ds.length = 2 ∧ z_lowest K C { nx := fun _ Δ' => P .non Δ', rt := P } (startZ ["p", "q", "common"] ds) Δ
/-- over(one, two); slots 0:one 1:two -/
def z_over (K : PySem.W.Frag) (C : CI) : ZS := zRet (zCall (W_lowest K C) [] (zCons (zOp (zI MulOk fun i j => .int (i * j)) (zOp zIx (zVar 0) (zC (.int 0))) (zOp zIx (zVar 1) (zC (.int 1)))) (zCons (zOp (zI MulOk fun i j => .int (i * j)) (zOp zIx (zVar 0) (zC (.int 1))) (zOp zIx (zVar 1) (zC (.int 0)))) (zNil))))
def W_over (K : PySem.W.Frag) (C : CI) : ZRC := fun ds Δ P => ds.length = 2 ∧ z_over K C { nx := fun _ Δ' => P .non Δ', rt := P } (startZ ["one", "two"] ds) Δ
/-- minus(one, two); slots 0:one 1:two -/
def z_minus (K : PySem.W.Frag) (C : CI) : ZS := zRet (zCall (W_lowest K C) [] (zCons (zOp (zI0 fun i j => .int (i - j)) (zOp (zI MulOk fun i j => .int (i * j)) (zOp zIx (zVar 0) (zC (.int 0))) (zOp zIx (zVar 1) (zC (.int 1)))) (zOp (zI MulOk fun i j => .int (i * j)) (zOp zIx (zVar 1) (zC (.int 0))) (zOp zIx (zVar 0) (zC (.int 1))))) (zCons (zOp (zI MulOk fun i j => .int (i * j)) (zOp zIx (zVar 0) (zC (.int 1))) (zOp zIx (zVar 1) (zC (.int 1)))) (zNil))))
def W_minus (K : PySem.W.Frag) (C : CI) : ZRC := fun ds Δ P => ds.length = 2 ∧ z_minus K C { nx := fun _ Δ' => P .non Δ', rt := P } (startZ ["one", "two"] ds) Δ
/-- pieces_between(points, slope); slots 0:points 1:slope 2:found 3:at 4:width 5:value 6:end 7:top -/
def z_pieces_between (K : PySem.W.Frag) (C : CI) : ZS := zSeq (zAsg (zLstC (zNil)) (zgName 2))
    (zSeq (zFor (ziR1 (zCons (zOp (zI0 fun i j => .int (i - j)) (zCB zLen (zCons (zVar 0) (zNil))) (zC (.int 1))) (zNil))) (zgName 3) (zSeq (zAsg (zTup (zCons (zOp zIx (zVar 0) (zVar 3)) (zCons (zOp zIx (zVar 0) (zOp (zI0 fun i j => .int (i + j)) (zVar 3) (zC (.int 1)))) (zNil)))) (zgTup 2 (zgCons (zgTup 2 (zgCons (zgName 4) (zgCons (zgName 5) (zgNil)))) (zgCons (zgTup 2 (zgCons (zgName 6) (zgCons (zgName 7) (zgNil)))) (zgNil)))))
    (zDrop (zAppend (zVar 2) (zCons (zTup (zCons (zVar 4) (zCons (zVar 5) (zCons (zCall (W_over K C) [] (zCons (zCall (W_minus K C) [] (zCons (zVar 7) (zCons (zVar 5) (zNil)))) (zCons (zCall (W_minus K C) [] (zCons (zVar 6) (zCons (zVar 4) (zNil)))) (zNil)))) (zNil))))) (zNil))))))
    (zRet (zOp zCat (zVar 2) (zLst (zCons (zTup (zCons (zOp zIx (zOp zIx (zVar 0) (zUn zNeg (zC (.int 1)))) (zC (.int 0))) (zCons (zOp zIx (zOp zIx (zVar 0) (zUn zNeg (zC (.int 1)))) (zC (.int 1))) (zCons (zVar 1) (zNil))))) (zNil))))))
def W_pieces_between (K : PySem.W.Frag) (C : CI) : ZRC := fun ds Δ P => ds.length = 2 ∧ z_pieces_between K C { nx := fun _ Δ' => P .non Δ', rt := P } (startZ ["points", "slope", "found", "at", "width", "value", "end", "top"] ds) Δ
/-- Curve.__init__(self, points, slope); slots 0:self 1:points 2:slope -/
def z_Curve_d_init_d (K : PySem.W.Frag) (C : CI) : ZS := zSeq (zIfS (zOr (zNot (zTest (zCall (W_are_points K C) [] (zCons (zVar 1) (zNil))))) (zNot (zTest (zCall (W_is_positive_or_zero K C) [] (zCons (zVar 2) (zNil)))))) (zNever) (zNext))
    (zSetF 0 (Str.ofString "_pieces") (zVar 0) (zCall (W_joined K C) [] (zCons (zCall (W_pieces_between K C) [] (zCons (zVar 1) (zCons (zVar 2) (zNil)))) (zNil))))
def W_Curve_d_init_d (K : PySem.W.Frag) (C : CI) : ZRC := fun ds Δ P => ds.length = 3 ∧ z_Curve_d_init_d K C { nx := fun _ Δ' => P .non Δ', rt := P } (startZ ["self", "points", "slope"] ds) Δ
/-- is_rational(value); slots 0:value -/
def z_is_rational (K : PySem.W.Frag) (C : CI) : ZS := zRet (zOrV (zCall (W_is_int K C) [] (zCons (zVar 0) (zNil))) (zCall (W_is_fraction K C) [] (zCons (zVar 0) (zNil))))
def W_is_rational (K : PySem.W.Frag) (C : CI) : ZRC := fun ds Δ P => ds.length = 1 ∧ z_is_rational K C { nx := fun _ Δ' => P .non Δ', rt := P } (startZ ["value"] ds) Δ
/-- as_fraction(value); slots 0:value -/
def z_as_fraction (K : PySem.W.Frag) (C : CI) : ZS := zRet (zIf (zTest (zCB (zIsi K C) (zCons (zVar 0) (zCons (zC (.ty "tuple")) (zNil))))) (zVar 0) (zTup (zCons (zVar 0) (zCons (zC (.int 1)) (zNil)))))
def W_as_fraction (K : PySem.W.Frag) (C : CI) : ZRC := fun ds Δ P => ds.length = 1 ∧ z_as_fraction K C { nx := fun _ Δ' => P .non Δ', rt := P } (startZ ["value"] ds) Δ
/-- last_up_to(starts, value); slots 0:starts 1:value 2:low 3:high 4:middle -/
def z_last_up_to (K : PySem.W.Frag) (C : CI) : ZS := zSeq (zPar 2 3 (zCons (zC (.int 0)) (zCons (zCB zLen (zCons (zVar 0) (zNil))) (zNil))))
    (zSeq (zWhile (zTest (zOp (zI0 fun i j => .bl (decide (j < i))) (zOp (zI0 fun i j => .int (i - j)) (zVar 3) (zVar 2)) (zC (.int 1)))) (zSeq (zAsg (zOp (zI CDivW fun i j => .int (i / j)) (zOp (zI0 fun i j => .int (i + j)) (zVar 2) (zVar 3)) (zC (.int 2))) (zgName 4))
    (zIfS (zTest (zOp (zI0 fun i j => .bl (decide (i ≤ j))) (zCall (W_order K C) [] (zCons (zOp zIx (zVar 0) (zVar 4)) (zCons (zVar 1) (zNil)))) (zC (.int 0)))) (zAsg (zVar 4) (zgName 2)) (zAsg (zVar 4) (zgName 3)))))
    (zRet (zVar 2)))
def W_last_up_to (K : PySem.W.Frag) (C : CI) : ZRC := fun ds Δ P => ds.length = 2 ∧ z_last_up_to K C { nx := fun _ Δ' => P .non Δ', rt := P } (startZ ["starts", "value", "low", "high", "middle"] ds) Δ
/-- plus(one, two); slots 0:one 1:two -/
def z_plus (K : PySem.W.Frag) (C : CI) : ZS := zRet (zCall (W_lowest K C) [] (zCons (zOp (zI0 fun i j => .int (i + j)) (zOp (zI MulOk fun i j => .int (i * j)) (zOp zIx (zVar 0) (zC (.int 0))) (zOp zIx (zVar 1) (zC (.int 1)))) (zOp (zI MulOk fun i j => .int (i * j)) (zOp zIx (zVar 1) (zC (.int 0))) (zOp zIx (zVar 0) (zC (.int 1))))) (zCons (zOp (zI MulOk fun i j => .int (i * j)) (zOp zIx (zVar 0) (zC (.int 1))) (zOp zIx (zVar 1) (zC (.int 1)))) (zNil))))
def W_plus (K : PySem.W.Frag) (C : CI) : ZRC := fun ds Δ P => ds.length = 2 ∧ z_plus K C { nx := fun _ Δ' => P .non Δ', rt := P } (startZ ["one", "two"] ds) Δ
/-- widths_inside(pieces, values); slots 0:pieces 1:values 2:starts 3:found 4:value 5:width 6:start 7:slope 8:piece -/
def z_widths_inside (K : PySem.W.Frag) (C : CI) : ZS := zSeq (zAsg (zLc (ziList (zVar 0)) (zgName 8) (zYes) (zOp zIx (zVar 8) (zC (.int 1))) [8]) (zgName 2))
    (zSeq (zAsg (zLstC (zNil)) (zgName 3))
    (zSeq (zFor (ziList (zVar 1)) (zgName 4) (zSeq (zAsg (zOp zIx (zVar 0) (zCall (W_last_up_to K C) [] (zCons (zVar 2) (zCons (zVar 4) (zNil))))) (zgTup 3 (zgCons (zgName 5) (zgCons (zgName 6) (zgCons (zgName 7) (zgNil))))))
    (zIfS (zAnd (zTest (zOp zNeK (zVar 7) (zC (.ktup [0, 1])))) (zTest (zOp (zI0 fun i j => .bl (decide (i < j))) (zCall (W_order K C) [] (zCons (zVar 6) (zCons (zVar 4) (zNil)))) (zC (.int 0))))) (zDrop (zAppend (zVar 3) (zCons (zCall (W_plus K C) [] (zCons (zVar 5) (zCons (zCall (W_over K C) [] (zCons (zCall (W_minus K C) [] (zCons (zVar 4) (zCons (zVar 6) (zNil)))) (zCons (zVar 7) (zNil)))) (zNil)))) (zNil)))) (zNext))))
    (zRet (zVar 3))))
def W_widths_inside (K : PySem.W.Frag) (C : CI) : ZRC := fun ds Δ P => ds.length = 2 ∧ z_widths_inside K C { nx := fun _ Δ' => P .non Δ', rt := P } (startZ ["pieces", "values", "starts", "found", "value", "width", "start", "slope", "piece"] ds) Δ
/-- widths_with_value(pieces, value); slots 0:pieces 1:value 2:at 3:width 4:start 5:slope 6:found 7:is_flat_before 8:least 9:piece -/
def z_widths_with_value (K : PySem.W.Frag) (C : CI) : ZS := zSeq (zAsg (zCall (W_last_up_to K C) [] (zCons (zLc (ziList (zVar 0)) (zgName 9) (zYes) (zOp zIx (zVar 9) (zC (.int 1))) [9]) (zCons (zVar 1) (zNil)))) (zgName 2))
    (zSeq (zAsg (zOp zIx (zVar 0) (zVar 2)) (zgTup 3 (zgCons (zgName 3) (zgCons (zgName 4) (zgCons (zgName 5) (zgNil))))))
    (zSeq (zIfS (zTest (zOp zNeD (zVar 4) (zVar 1))) (zSeq (zAsg (zCall (frzX C (W_widths_inside K C)) [] (zCons (zVar 0) (zCons (zLst (zCons (zVar 1) (zNil))) (zNil)))) (zgName 6))
    (zRet (zIf (zTru (zVar 6)) (zTup (zCons (zOp zIx (zVar 6) (zC (.int 0))) (zCons (zOp zIx (zVar 6) (zC (.int 0))) (zNil)))) (zC .non)))) (zNext))
    (zSeq (zAsg (zAndV (zOp (zI0 fun i j => .bl (decide (j < i))) (zVar 2) (zC (.int 0))) (zOp zEqD (zOp zIx (zOp zIx (zVar 0) (zOp (zI0 fun i j => .int (i - j)) (zVar 2) (zC (.int 1)))) (zC (.int 1))) (zVar 1))) (zgName 7))
    (zSeq (zAsg (zIf (zTest (zVar 7)) (zOp zIx (zOp zIx (zVar 0) (zOp (zI0 fun i j => .int (i - j)) (zVar 2) (zC (.int 1)))) (zC (.int 0))) (zVar 3)) (zgName 8))
    (zRet (zTup (zCons (zVar 8) (zCons (zIf (zTest (zOp zEqK (zVar 5) (zC (.ktup [0, 1])))) (zC .non) (zVar 3)) (zNil)))))))))
def W_widths_with_value (K : PySem.W.Frag) (C : CI) : ZRC := fun ds Δ P => ds.length = 2 ∧ z_widths_with_value K C { nx := fun _ Δ' => P .non Δ', rt := P } (startZ ["pieces", "value", "at", "width", "start", "slope", "found", "is_flat_before", "least", "piece"] ds) Δ
/-- Curve.widths_of(self, value); slots 0:self 1:value -/
def z_Curve_widths_of (K : PySem.W.Frag) (C : CI) : ZS := zSeq (zIfS (zOr (zNot (zTest (zCall (W_is_rational K C) [] (zCons (zVar 1) (zNil))))) (zTest (zOp (zI0 fun i j => .bl (decide (i < j))) (zOp zIx (zCall (W_as_fraction K C) [] (zCons (zVar 1) (zNil))) (zC (.int 0))) (zC (.int 0))))) (zNever) (zNext))
    (zRet (zCall (W_widths_with_value K C) [] (zCons (zFld C 0 (Str.ofString "_pieces") (zVar 0)) (zCons (zCall (W_as_fraction K C) [] (zCons (zVar 1) (zNil))) (zNil)))))
def W_Curve_widths_of (K : PySem.W.Frag) (C : CI) : ZRC := fun ds Δ P => ds.length = 2 ∧ z_Curve_widths_of K C { nx := fun _ Δ' => P .non Δ', rt := P } (startZ ["self", "value"] ds) Δ
/-- _law_less(one, two); slots 0:one 1:two -/
def z__law_less (K : PySem.W.Frag) (C : CI) : ZS := zRet (zCall (W__law_cut K C) [] (zCons (zOp (zI0 fun i j => .int (i - j)) (zOp (zI MulOk fun i j => .int (i * j)) (zOp zIx (zVar 0) (zC (.int 0))) (zOp zIx (zVar 1) (zC (.int 1)))) (zOp (zI MulOk fun i j => .int (i * j)) (zOp zIx (zVar 1) (zC (.int 0))) (zOp zIx (zVar 0) (zC (.int 1))))) (zCons (zOp (zI MulOk fun i j => .int (i * j)) (zOp zIx (zVar 0) (zC (.int 1))) (zOp zIx (zVar 1) (zC (.int 1)))) (zNil))))
def W__law_less (K : PySem.W.Frag) (C : CI) : ZRC := fun ds Δ P => ds.length = 2 ∧ z__law_less K C { nx := fun _ Δ' => P .non Δ', rt := P } (startZ ["one", "two"] ds) Δ
/-- _law_widths_with(points_here, rises, value); slots 0:points_here 1:rises 2:value 3:lows 4:highs 5:k 6:begin 7:height 8:last 9:over_it 10:width_here -/
def z__law_widths_with (K : PySem.W.Frag) (C : CI) : ZS := zSeq (zPar 3 4 (zCons (zLstC (zNil)) (zCons (zLstC (zNil)) (zNil))))
    (zSeq (zFor (ziEnum (zCons (zVar 0) (zNil))) (zgTup 2 (zgCons (zgName 5) (zgCons (zgTup 2 (zgCons (zgName 6) (zgCons (zgName 7) (zgNil)))) (zgNil)))) (zSeq (zAsg (zIf (zTest (zOp (zI0 fun i j => .bl (decide (i < j))) (zOp (zI0 fun i j => .int (i + j)) (zVar 5) (zC (.int 1))) (zCB zLen (zCons (zVar 0) (zNil))))) (zOp zIx (zVar 0) (zOp (zI0 fun i j => .int (i + j)) (zVar 5) (zC (.int 1)))) (zC .non)) (zgName 8))
    (zSeq (zAsg (zCall (W__law_less K C) [] (zCons (zVar 2) (zCons (zVar 7) (zNil)))) (zgName 9))
    (zSeq (zIfS (zTest (zOp zEqD (zVar 9) (zTup (zCons (zC (.int 0)) (zCons (zC (.int 1)) (zNil)))))) (zSeq (zDrop (zAppend (zVar 3) (zCons (zVar 6) (zNil))))
    (zDrop (zAppend (zVar 4) (zCons (zVar 6) (zNil))))) (zNext))
    (zSeq (zIfS (zAnd (zTest (zOp (zI0 fun i j => .bl (decide (j < i))) (zOp zIx (zOp zIx (zVar 1) (zVar 5)) (zC (.int 0))) (zC (.int 0)))) (zTest (zOp (zI0 fun i j => .bl (decide (j < i))) (zOp zIx (zVar 9) (zC (.int 0))) (zC (.int 0))))) (zSeq (zAsg (zCall (W__law_plus K C) [] (zCons (zVar 6) (zCons (zCall (W__law_cut K C) [] (zCons (zOp (zI MulOk fun i j => .int (i * j)) (zOp zIx (zVar 9) (zC (.int 0))) (zOp zIx (zOp zIx (zVar 1) (zVar 5)) (zC (.int 1)))) (zCons (zOp (zI MulOk fun i j => .int (i * j)) (zOp zIx (zVar 9) (zC (.int 1))) (zOp zIx (zOp zIx (zVar 1) (zVar 5)) (zC (.int 0)))) (zNil)))) (zNil)))) (zgName 10))
    (zIfS (zOr (zTest (zOp zIsN (zVar 8) (zC .non))) (zTest (zOp (zI0 fun i j => .bl (decide (j < i))) (zOp zIx (zCall (W__law_less K C) [] (zCons (zOp zIx (zVar 8) (zC (.int 0))) (zCons (zVar 10) (zNil)))) (zC (.int 0))) (zC (.int 0))))) (zSeq (zDrop (zAppend (zVar 3) (zCons (zVar 10) (zNil))))
    (zDrop (zAppend (zVar 4) (zCons (zVar 10) (zNil))))) (zNext))) (zNext))
    (zIfS (zAnd (zTest (zOp zEqD (zOp zIx (zOp zIx (zVar 1) (zVar 5)) (zC (.int 0))) (zC (.int 0)))) (zAnd (zTest (zOp zEqD (zVar 9) (zTup (zCons (zC (.int 0)) (zCons (zC (.int 1)) (zNil)))))) (zTest (zOp zIsN (zVar 8) (zC .non))))) (zDrop (zAppend (zVar 4) (zCons (zC .non) (zNil)))) (zNext)))))))
    (zSeq (zIfS (zTest (zOp zEqD (zVar 3) (zLst (zNil)))) (zRet (zC .non)) (zNext))
    (zRet (zTup (zCons (zOp zIx (zVar 3) (zC (.int 0))) (zCons (zIf (zTest (zOp zInQ (zC .non) (zVar 4))) (zC .non) (zOp zIx (zVar 4) (zUn zNeg (zC (.int 1))))) (zNil)))))))
def W__law_widths_with (K : PySem.W.Frag) (C : CI) : ZRC := fun ds Δ P => ds.length = 3 ∧ z__law_widths_with K C { nx := fun _ Δ' => P .non Δ', rt := P } (startZ ["points_here", "rises", "value", "lows", "highs", "k", "begin", "height", "last", "over_it", "width_here"] ds) Δ
/-- _law_long_right(spring); slots 0:spring 1:points_here 2:rises 3:told 4:turn 5:spot 6:value 7:one -/
def z__law_long_right (K : PySem.W.Frag) (C : CI) : ZS := zSeq (zAsg (zCall (frzX C (W__law_long K C)) [] (zCons (zVar 0) (zCons (zC (.int 190)) (zCons (zOp (zI0 fun i j => .int (i + j)) (zC (.int 1)) (zCall (W__law_dip_r2 K C) [] (zCons (zVar 0) (zCons (zC (.int 2)) (zNil))))) (zNil))))) (zgTup 2 (zgCons (zgName 1) (zgCons (zgName 2) (zgNil)))))
    (zSeq (zAsg (zMakeX C 0 (W_Curve_d_init_d K C) [] (zCons (zVar 1) (zCons (zOp zIx (zVar 2) (zUn zNeg (zC (.int 1)))) (zNil)))) (zgName 3))
    (zSeq (zFor (ziR1 (zCons (zC (.int 9)) (zNil))) (zgName 4) (zSeq (zAsg (zOp zIx (zLst (zCons (zOp (zI0 fun i j => .int (i - j)) (zC (.int 190)) (zCall (W__law_dip_r2 K C) [] (zCons (zVar 0) (zCons (zC (.int 9)) (zNil))))) (zCons (zCall (W__law_dip_r2 K C) [] (zCons (zVar 0) (zCons (zC (.int 191)) (zNil)))) (zNil)))) (zOp (zI (fun _ j => 0 < j) fun i j => .int (i % j)) (zVar 4) (zC (.int 2)))) (zgName 5))
    (zSeq (zAsg (zOp zIx (zOp zIx (zVar 1) (zVar 5)) (zC (.int 1))) (zgName 6))
    (zFor (ziList (zLst (zCons (zVar 6) (zCons (zCall (W__law_plus K C) [] (zCons (zVar 6) (zCons (zTup (zCons (zC (.int 1)) (zCons (zC (.int 7)) (zNil)))) (zNil)))) (zNil))))) (zgName 7) (zIfS (zTest (zOp zNeD (zMeth C 0 (Str.ofString "widths_of") (W_Curve_widths_of K C) (zVar 3) (zCons (zVar 7) (zNil))) (zCall (frzX C (W__law_widths_with K C)) [] (zCons (zVar 1) (zCons (zVar 2) (zCons (zVar 7) (zNil))))))) (zRet (zC (.bl false))) (zNext))))))
    (zRet (zC (.bl true)))))
def W__law_long_right (K : PySem.W.Frag) (C : CI) : ZRC := fun ds Δ P => ds.length = 1 ∧ z__law_long_right K C { nx := fun _ Δ' => P .non Δ', rt := P } (startZ ["spring", "points_here", "rises", "told", "turn", "spot", "value", "one"] ds) Δ
/-- _law_spring(script, k); slots 0:script 1:k 2:cell -/
def z__law_spring (K : PySem.W.Frag) (C : CI) : ZS := zSeq (zAsg (zC (.int 0)) (zgName 2))
    (zSeq (zIfS (zTest (zOp (zI0 fun i j => .bl (decide (i < j))) (zVar 1) (zCB zLen (zCons (zVar 0) (zNil))))) (zAsg (zOp zIx (zVar 0) (zVar 1)) (zgName 2)) (zNext))
    (zRet (zLstC (zCons (zCB zMax2 (zCons (zC (.int 0)) (zCons (zOp (zI0 fun i j => .int (i - j)) (zVar 2) (zOp (zI CPow fun i j => .int (i ^ j.toNat)) (zC (.int 10)) (zC (.int 18)))) (zNil)))) (zCons (zOp (zI0 fun i j => .int (i + j)) (zOp (zI (fun _ j => 0 < j) fun i j => .int (i % j)) (zVar 2) (zOp (zI0 fun i j => .int (i + j)) (zOp (zI CPow fun i j => .int (i ^ j.toNat)) (zC (.int 10)) (zC (.int 38))) (zC (.int 133)))) (zOp (zI MulOk fun i j => .int (i * j)) (zC (.int 15487469)) (zVar 1))) (zCons (zC (.int 0)) (zNil)))))))
def W__law_spring (K : PySem.W.Frag) (C : CI) : ZRC := fun ds Δ P => ds.length = 2 ∧ z__law_spring K C { nx := fun _ Δ' => P .non Δ', rt := P } (startZ ["script", "k", "cell"] ds) Δ
/-- _law_rise(spring); slots 0:spring 1:some -/
def z__law_rise (K : PySem.W.Frag) (C : CI) : ZS := zSeq (zAsg (zLst (zCons (zCall (W__law_cut K C) [] (zCons (zCall (W__law_dip_r2 K C) [] (zCons (zVar 0) (zCons (zC (.int 9)) (zNil)))) (zCons (zOp (zI0 fun i j => .int (i + j)) (zC (.int 1)) (zCall (W__law_dip_r2 K C) [] (zCons (zVar 0) (zCons (zC (.int 9)) (zNil))))) (zNil)))) (zCons (zCall (W__law_cut K C) [] (zCons (zCall (W__law_dip_r2 K C) [] (zCons (zVar 0) (zCons (zOp (zI CPow fun i j => .int (i ^ j.toNat)) (zC (.int 10)) (zC (.int 20))) (zNil)))) (zCons (zOp (zI CPow fun i j => .int (i ^ j.toNat)) (zC (.int 10)) (zC (.int 20))) (zNil)))) (zNil)))) (zgName 1))
    (zRet (zOp zIx (zOp zCat (zLst (zCons (zTup (zCons (zC (.int 0)) (zCons (zC (.int 1)) (zNil)))) (zCons (zTup (zCons (zC (.int 1)) (zCons (zC (.int 1)) (zNil)))) (zNil)))) (zVar 1)) (zCall (W__law_dip_r2 K C) [] (zCons (zVar 0) (zCons (zC (.int 4)) (zNil))))))
def W__law_rise (K : PySem.W.Frag) (C : CI) : ZRC := fun ds Δ P => ds.length = 1 ∧ z__law_rise K C { nx := fun _ Δ' => P .non Δ', rt := P } (startZ ["spring", "some"] ds) Δ
/-- _law_drawn(spring, many, wide); slots 0:spring 1:many 2:wide 3:found 4:rises 5:turn 6:rise 7:step -/
def z__law_drawn (K : PySem.W.Frag) (C : CI) : ZS := zSeq (zPar 3 4 (zCons (zLstC (zCons (zTup (zCons (zTup (zCons (zC (.int 0)) (zCons (zC (.int 1)) (zNil)))) (zCons (zCall (W__law_cut K C) [] (zCons (zCall (W__law_dip_r2 K C) [] (zCons (zVar 0) (zCons (zVar 2) (zNil)))) (zCons (zOp (zI0 fun i j => .int (i + j)) (zC (.int 1)) (zCall (W__law_dip_r2 K C) [] (zCons (zVar 0) (zCons (zC (.int 3)) (zNil))))) (zNil)))) (zNil)))) (zNil))) (zCons (zLstC (zNil)) (zNil))))
    (zSeq (zFor (ziR1 (zCons (zVar 1) (zNil))) (zgName 5) (zSeq (zAsg (zCall (W__law_rise K C) [] (zCons (zVar 0) (zNil))) (zgName 6))
    (zSeq (zIfS (zAnd (zTest (zOp zNeD (zVar 4) (zLst (zNil)))) (zTest (zOp zEqD (zCall (W__law_dip_r2 K C) [] (zCons (zVar 0) (zCons (zC (.int 3)) (zNil)))) (zC (.int 0))))) (zAsg (zOp zIx (zVar 4) (zUn zNeg (zC (.int 1)))) (zgName 6)) (zNext))
    (zSeq (zAsg (zCall (W__law_cut K C) [] (zCons (zOp (zI0 fun i j => .int (i + j)) (zC (.int 1)) (zCall (W__law_dip_r2 K C) [] (zCons (zVar 0) (zCons (zVar 2) (zNil))))) (zCons (zOp (zI0 fun i j => .int (i + j)) (zC (.int 1)) (zCall (W__law_dip_r2 K C) [] (zCons (zVar 0) (zCons (zC (.int 5)) (zNil))))) (zNil)))) (zgName 7))
    (zSeq (zDrop (zAppend (zVar 4) (zCons (zVar 6) (zNil))))
    (zDrop (zAppend (zVar 3) (zCons (zTup (zCons (zCall (W__law_plus K C) [] (zCons (zOp zIx (zOp zIx (zVar 3) (zUn zNeg (zC (.int 1)))) (zC (.int 0))) (zCons (zVar 7) (zNil)))) (zCons (zCall (W__law_plus K C) [] (zCons (zOp zIx (zOp zIx (zVar 3) (zUn zNeg (zC (.int 1)))) (zC (.int 1))) (zCons (zCall (W__law_product K C) [] (zCons (zVar 6) (zCons (zVar 7) (zNil)))) (zNil)))) (zNil)))) (zNil)))))))))
    (zSeq (zDrop (zAppend (zVar 4) (zCons (zCall (W__law_rise K C) [] (zCons (zVar 0) (zNil))) (zNil))))
    (zRet (zTup (zCons (zVar 3) (zCons (zVar 4) (zNil)))))))
def W__law_drawn (K : PySem.W.Frag) (C : CI) : ZRC := fun ds Δ P => ds.length = 3 ∧ z__law_drawn K C { nx := fun _ Δ' => P .non Δ', rt := P } (startZ ["spring", "many", "wide", "found", "rises", "turn", "rise", "step"] ds) Δ
/-- check_width(width); slots 0:width -/
def z_check_width (K : PySem.W.Frag) (C : CI) : ZS := zIfS (zOr (zNot (zTest (zCall (W_is_rational K C) [] (zCons (zVar 0) (zNil))))) (zTest (zOp (zI0 fun i j => .bl (decide (i < j))) (zOp zIx (zCall (W_as_fraction K C) [] (zCons (zVar 0) (zNil))) (zC (.int 0))) (zC (.int 0))))) (zNever) (zNext)
def W_check_width (K : PySem.W.Frag) (C : CI) : ZRC := fun ds Δ P => ds.length = 1 ∧ z_check_width K C { nx := fun _ Δ' => P .non Δ', rt := P } (startZ ["width"] ds) Δ
/-- times(one, two); slots 0:one 1:two -/
def z_times (K : PySem.W.Frag) (C : CI) : ZS := zRet (zCall (W_lowest K C) [] (zCons (zOp (zI MulOk fun i j => .int (i * j)) (zOp zIx (zVar 0) (zC (.int 0))) (zOp zIx (zVar 1) (zC (.int 0)))) (zCons (zOp (zI MulOk fun i j => .int (i * j)) (zOp zIx (zVar 0) (zC (.int 1))) (zOp zIx (zVar 1) (zC (.int 1)))) (zNil))))
def W_times (K : PySem.W.Frag) (C : CI) : ZRC := fun ds Δ P => ds.length = 2 ∧ z_times K C { nx := fun _ Δ' => P .non Δ', rt := P } (startZ ["one", "two"] ds) Δ
/-- value_on(piece, width); slots 0:piece 1:width -/
def z_value_on (K : PySem.W.Frag) (C : CI) : ZS := zRet (zCall (W_plus K C) [] (zCons (zOp zIx (zVar 0) (zC (.int 1))) (zCons (zCall (W_times K C) [] (zCons (zOp zIx (zVar 0) (zC (.int 2))) (zCons (zCall (W_minus K C) [] (zCons (zVar 1) (zCons (zOp zIx (zVar 0) (zC (.int 0))) (zNil)))) (zNil)))) (zNil))))
def W_value_on (K : PySem.W.Frag) (C : CI) : ZRC := fun ds Δ P => ds.length = 2 ∧ z_value_on K C { nx := fun _ Δ' => P .non Δ', rt := P } (startZ ["piece", "width"] ds) Δ
/-- pieces_at(pieces, widths); slots 0:pieces 1:widths 2:starts 3:piece 4:width -/
def z_pieces_at (K : PySem.W.Frag) (C : CI) : ZS := zSeq (zAsg (zLc (ziList (zVar 0)) (zgName 3) (zYes) (zOp zIx (zVar 3) (zC (.int 0))) [3]) (zgName 2))
    (zRet (zLc (ziList (zVar 1)) (zgName 4) (zYes) (zOp zIx (zVar 0) (zCall (W_last_up_to K C) [] (zCons (zVar 2) (zCons (zVar 4) (zNil))))) [4]))
def W_pieces_at (K : PySem.W.Frag) (C : CI) : ZRC := fun ds Δ P => ds.length = 2 ∧ z_pieces_at K C { nx := fun _ Δ' => P .non Δ', rt := P } (startZ ["pieces", "widths", "starts", "piece", "width"] ds) Δ
/-- values_at(pieces, widths); slots 0:pieces 1:widths 2:piece 3:width -/
def z_values_at (K : PySem.W.Frag) (C : CI) : ZS := zRet (zLc (ziZip (zCons (zCall (W_pieces_at K C) [] (zCons (zVar 0) (zCons (zVar 1) (zNil)))) (zCons (zVar 1) (zNil)))) (zgTup 2 (zgCons (zgName 2) (zgCons (zgName 3) (zgNil)))) (zYes) (zCall (W_value_on K C) [] (zCons (zVar 2) (zCons (zVar 3) (zNil)))) [2, 3])
def W_values_at (K : PySem.W.Frag) (C : CI) : ZRC := fun ds Δ P => ds.length = 2 ∧ z_values_at K C { nx := fun _ Δ' => P .non Δ', rt := P } (startZ ["pieces", "widths", "piece", "width"] ds) Δ
/-- Curve.__call__(self, width); slots 0:self 1:width -/
def z_Curve_d_call_d (K : PySem.W.Frag) (C : CI) : ZS := zSeq (zDrop (zCall (W_check_width K C) [] (zCons (zVar 1) (zNil))))
    (zRet (zOp zIx (zCall (W_values_at K C) [] (zCons (zFld C 0 (Str.ofString "_pieces") (zVar 0)) (zCons (zLst (zCons (zCall (W_as_fraction K C) [] (zCons (zVar 1) (zNil))) (zNil))) (zNil)))) (zC (.int 0))))
def W_Curve_d_call_d (K : PySem.W.Frag) (C : CI) : ZRC := fun ds Δ P => ds.length = 2 ∧ z_Curve_d_call_d K C { nx := fun _ Δ' => P .non Δ', rt := P } (startZ ["self", "width"] ds) Δ
/-- _law_right(spring, points_here, rises); slots 0:spring 1:points_here 2:rises 3:told 4:some 5:one 6:two 7:last 8:value 9:due 10:least_here 11:last_here -/
def z__law_right (K : PySem.W.Frag) (C : CI) : ZS := zSeq (zPar 3 4 (zCons (zMakeX C 0 (W_Curve_d_init_d K C) [] (zCons (zVar 1) (zCons (zOp zIx (zVar 2) (zUn zNeg (zC (.int 1)))) (zNil)))) (zCons (zLst (zCons (zTup (zCons (zC (.int 0)) (zCons (zC (.int 1)) (zNil)))) (zCons (zTup (zCons (zCall (W__law_dip_r2 K C) [] (zCons (zVar 0) (zCons (zC (.int 20)) (zNil)))) (zCons (zC (.int 1)) (zNil)))) (zCons (zTup (zCons (zOp (zI CPow fun i j => .int (i ^ j.toNat)) (zC (.int 10)) (zC (.int 50))) (zCons (zC (.int 1)) (zNil)))) (zNil))))) (zNil))))
    (zSeq (zFor (ziZip (zCons (zVar 1) (zCons (zSl (zVar 1) (zPart (zC (.int 1))) zNoPart) (zNil)))) (zgTup 2 (zgCons (zgName 5) (zgCons (zgName 6) (zgNil)))) (zAsg (zOp zCat (zVar 4) (zLst (zCons (zOp zIx (zVar 5) (zC (.int 1))) (zCons (zOp zIx (zVar 6) (zC (.int 1))) (zCons (zCall (W__law_product K C) [] (zCons (zCall (W__law_plus K C) [] (zCons (zOp zIx (zVar 5) (zC (.int 1))) (zCons (zOp zIx (zVar 6) (zC (.int 1))) (zNil)))) (zCons (zTup (zCons (zC (.int 1)) (zCons (zC (.int 2)) (zNil)))) (zNil)))) (zNil)))))) (zgName 4)))
    (zSeq (zAsg (zOp zIx (zOp zIx (zVar 1) (zUn zNeg (zC (.int 1)))) (zC (.int 1))) (zgName 7))
    (zSeq (zAsg (zOp zCat (zVar 4) (zLst (zCons (zVar 7) (zCons (zCall (W__law_plus K C) [] (zCons (zVar 7) (zCons (zTup (zCons (zC (.int 1)) (zCons (zC (.int 3)) (zNil)))) (zNil)))) (zCons (zCall (W__law_plus K C) [] (zCons (zVar 7) (zCons (zTup (zCons (zCall (W__law_dip_r2 K C) [] (zCons (zVar 0) (zCons (zOp (zI CPow fun i j => .int (i ^ j.toNat)) (zC (.int 10)) (zC (.int 25))) (zNil)))) (zCons (zC (.int 7)) (zNil)))) (zNil)))) (zCons (zOp zIx (zOp zIx (zVar 1) (zC (.int 0))) (zC (.int 1))) (zNil))))))) (zgName 4))
    (zSeq (zFor (ziList (zVar 4)) (zgName 8) (zSeq (zAsg (zCall (frzX C (W__law_widths_with K C)) [] (zCons (zVar 1) (zCons (zVar 2) (zCons (zVar 8) (zNil))))) (zgName 9))
    (zSeq (zIfS (zOr (zTest (zOp zNeD (zMeth C 0 (Str.ofString "widths_of") (W_Curve_widths_of K C) (zVar 3) (zCons (zVar 8) (zNil))) (zVar 9))) (zTest (zOp zNeD (zMeth C 0 (Str.ofString "widths_of") (W_Curve_widths_of K C) (zVar 3) (zCons (zVar 8) (zNil))) (zVar 9)))) (zRet (zC (.bl false))) (zNext))
    (zSeq (zIfS (zAnd (zTest (zOp zEqD (zOp zIx (zVar 8) (zC (.int 1))) (zC (.int 1)))) (zTest (zOp zNeD (zMeth C 0 (Str.ofString "widths_of") (W_Curve_widths_of K C) (zVar 3) (zCons (zOp zIx (zVar 8) (zC (.int 0))) (zNil))) (zVar 9)))) (zRet (zC (.bl false))) (zNext))
    (zIfS (zTest (zOp zNotN (zVar 9) (zC .non))) (zSeq (zAsg (zVar 9) (zgTup 2 (zgCons (zgName 10) (zgCons (zgName 11) (zgNil)))))
    (zSeq (zIfS (zOr (zTest (zOp zNeD (zCallO 0 (W_Curve_d_call_d K C) (zVar 3) (zCons (zVar 10) (zNil))) (zVar 8))) (zAnd (zTest (zOp (zI0 fun i j => .bl (decide (j < i))) (zOp zIx (zVar 10) (zC (.int 0))) (zC (.int 0)))) (zTest (zOp zEqD (zCallO 0 (W_Curve_d_call_d K C) (zVar 3) (zCons (zCall (W__law_product K C) [] (zCons (zVar 10) (zCons (zTup (zCons (zC (.int 9)) (zCons (zC (.int 10)) (zNil)))) (zNil)))) (zNil))) (zVar 8))))) (zRet (zC (.bl false))) (zNext))
    (zSeq (zIfS (zAnd (zTest (zOp zNotN (zVar 11) (zC .non))) (zTest (zOp zNeD (zCallO 0 (W_Curve_d_call_d K C) (zVar 3) (zCons (zVar 11) (zNil))) (zVar 8)))) (zRet (zC (.bl false))) (zNext))
    (zIfS (zAnd (zTest (zOp zNotN (zVar 11) (zC .non))) (zTest (zOp zEqD (zCallO 0 (W_Curve_d_call_d K C) (zVar 3) (zCons (zCall (W__law_plus K C) [] (zCons (zVar 11) (zCons (zTup (zCons (zC (.int 1)) (zCons (zOp (zI CPow fun i j => .int (i ^ j.toNat)) (zC (.int 10)) (zC (.int 9))) (zNil)))) (zNil)))) (zNil))) (zVar 8)))) (zRet (zC (.bl false))) (zNext))))) (zNext))))))
    (zRet (zC (.bl true)))))))
def W__law_right (K : PySem.W.Frag) (C : CI) : ZRC := fun ds Δ P => ds.length = 3 ∧ z__law_right K C { nx := fun _ Δ' => P .non Δ', rt := P } (startZ ["spring", "points_here", "rises", "told", "some", "one", "two", "last", "value", "due", "least_here", "last_here"] ds) Δ
/-- law(script); slots 0:script 1:k 2:spring 3:many 4:wide 5:points_here 6:rises 7:spot 8:level 9:step 10:height 11:one 12:value -/
def z_law (K : PySem.W.Frag) (C : CI) : ZS := zSeq (zIfS (zNot (zTest (zCall (frzX C (W__law_long_right K C)) [] (zCons (zCall (W__law_spring K C) [] (zCons (zVar 0) (zCons (zC (.int 0)) (zNil)))) (zNil))))) (zRet (zC (.bl false))) (zNext))
    (zSeq (zFor (ziR1 (zCons (zCB zMax2 (zCons (zC (.int 1)) (zCons (zCB zMin2 (zCons (zC (.int 6)) (zCons (zCB zLen (zCons (zVar 0) (zNil))) (zNil)))) (zNil)))) (zNil))) (zgName 1) (zSeq (zAsg (zCall (W__law_spring K C) [] (zCons (zVar 0) (zCons (zVar 1) (zNil)))) (zgName 2))
    (zFor (ziList (zLst (zCons (zTup (zCons (zCall (W__law_dip_r2 K C) [] (zCons (zVar 2) (zCons (zC (.int 4)) (zNil)))) (zCons (zC (.int 9)) (zNil)))) (zCons (zTup (zCons (zOp zIx (zLst (zCons (zC (.int 4)) (zCons (zC (.int 11)) (zNil)))) (zCB zInt (zCons (zOp zEqD (zVar 1) (zC (.int 0))) (zNil)))) (zCons (zOp (zI CPow fun i j => .int (i ^ j.toNat)) (zC (.int 10)) (zC (.int 20))) (zNil)))) (zNil))))) (zgTup 2 (zgCons (zgName 3) (zgCons (zgName 4) (zgNil)))) (zSeq (zAsg (zCall (W__law_drawn K C) [] (zCons (zVar 2) (zCons (zVar 3) (zCons (zVar 4) (zNil))))) (zgTup 2 (zgCons (zgName 5) (zgCons (zgName 6) (zgNil)))))
    (zSeq (zIfS (zNot (zTest (zCall (lendS (W__law_right K C)) [] (zCons (zVar 2) (zCons (zVar 5) (zCons (zVar 6) (zNil))))))) (zRet (zC (.bl false))) (zNext))
    (zSeq (zFor (ziR1 (zCons (zCB zLen (zCons (zVar 6) (zNil))) (zNil))) (zgName 7) (zIfS (zTest (zOp zEqD (zCall (W__law_dip_r2 K C) [] (zCons (zVar 2) (zCons (zC (.int 3)) (zNil)))) (zC (.int 0)))) (zAsg (zTup (zCons (zC (.int 0)) (zCons (zC (.int 1)) (zNil)))) (zgSub (zVar 6) (zVar 7))) (zNext)))
    (zSeq (zAsg (zSlC (zVar 5) zNoPart (zPart (zC (.int 1)))) (zgName 8))
    (zSeq (zFor (ziR1 (zCons (zVar 3) (zNil))) (zgName 7) (zSeq (zAsg (zCall (W__law_less K C) [] (zCons (zOp zIx (zOp zIx (zVar 5) (zOp (zI0 fun i j => .int (i + j)) (zVar 7) (zC (.int 1)))) (zC (.int 0))) (zCons (zOp zIx (zOp zIx (zVar 5) (zVar 7)) (zC (.int 0))) (zNil)))) (zgName 9))
    (zSeq (zAsg (zCall (W__law_plus K C) [] (zCons (zOp zIx (zOp zIx (zVar 8) (zUn zNeg (zC (.int 1)))) (zC (.int 1))) (zCons (zCall (W__law_product K C) [] (zCons (zOp zIx (zVar 6) (zVar 7)) (zCons (zVar 9) (zNil)))) (zNil)))) (zgName 10))
    (zDrop (zAppend (zVar 8) (zCons (zTup (zCons (zOp zIx (zOp zIx (zVar 5) (zOp (zI0 fun i j => .int (i + j)) (zVar 7) (zC (.int 1)))) (zC (.int 0))) (zCons (zVar 10) (zNil)))) (zNil)))))))
    (zIfS (zNot (zTest (zCall (lendS (W__law_right K C)) [] (zCons (zVar 2) (zCons (zVar 8) (zCons (zVar 6) (zNil))))))) (zRet (zC (.bl false))) (zNext))))))))))
    (zSeq (zAsg (zMakeX C 0 (W_Curve_d_init_d K C) [] (zCons (zLst (zCons (zTup (zCons (zTup (zCons (zC (.int 0)) (zCons (zC (.int 1)) (zNil)))) (zCons (zTup (zCons (zC (.int 2)) (zCons (zC (.int 1)) (zNil)))) (zNil)))) (zCons (zTup (zCons (zTup (zCons (zC (.int 4)) (zCons (zC (.int 1)) (zNil)))) (zCons (zTup (zCons (zC (.int 2)) (zCons (zC (.int 1)) (zNil)))) (zNil)))) (zCons (zTup (zCons (zTup (zCons (zC (.int 6)) (zCons (zC (.int 1)) (zNil)))) (zCons (zTup (zCons (zC (.int 5)) (zCons (zC (.int 1)) (zNil)))) (zNil)))) (zNil))))) (zCons (zTup (zCons (zC (.int 0)) (zCons (zC (.int 1)) (zNil)))) (zNil)))) (zgName 11))
    (zRet (zOp zEqD (zLc (ziTup (zTup (zCons (zC (.int 1)) (zCons (zC (.int 2)) (zCons (zC (.int 5)) (zCons (zC (.int 6)) (zNil))))))) (zgName 12) (zYes) (zMeth C 0 (Str.ofString "widths_of") (W_Curve_widths_of K C) (zVar 11) (zCons (zVar 12) (zNil))) [12]) (zLst (zCons (zC .non) (zCons (zTup (zCons (zTup (zCons (zC (.int 0)) (zCons (zC (.int 1)) (zNil)))) (zCons (zTup (zCons (zC (.int 4)) (zCons (zC (.int 1)) (zNil)))) (zNil)))) (zCons (zTup (zCons (zTup (zCons (zC (.int 6)) (zCons (zC (.int 1)) (zNil)))) (zCons (zC .non) (zNil)))) (zCons (zC .non) (zNil))))))))))
def W_law (K : PySem.W.Frag) (C : CI) : ZRC := fun ds Δ P => ds.length = 1 ∧ z_law K C { nx := fun _ Δ' => P .non Δ', rt := P } (startZ ["script", "k", "spring", "many", "wide", "points_here", "rises", "spot", "level", "step", "height", "one", "value"] ds) Δ
end
end Bx

namespace Bx
open PySem PySem.Spec PyProof.Rows L2 Z
local macro_rules | `(tactic| walk_at "zz") => `(tactic| simp only [zSeq, zAsg, zRet, zRetN, zIfS, zNext, zDrop, zPar, zPar3, zAug, zDivmod, zIndex, zCatT, zSlT, zMeth, zVar, zC, zOp, zUn, zNeg, zI0, zI, zTest, zAnd, zOr, zNot, zAndV, zOrV, zNotV, zIf, zNil, zCons, zTup, zLst, zLstC, zgName, zgTup, zgCons, zgNil, zgSub, startZ, zCall, zCB, zChain, zIsN, zNotN, zNever,
  zAddA, zMulA, zRepeat, zCat, zIx, seqD, lstD, zMax2, zMin2, zAbs, zLen, zSum, zGcd, zInt, zYes, zBreak, zCont, zMin1, zMax1, zList, zListC, zLcC, zLc, ziR1, ziR2, ziList, ziTup, ziZip, ziEnum, wipeZ, zFor, zSl, zPart, zNoPart, zAppend, zLstR1, zLstR2, zCallBC, zCallBF, zBits, zTru, zProp, zCallO,
  at0, at1, at2, at3, at4, ix2_3, ix0_3, isNon_int, isNon_non, Bool.not_true, Bool.not_false,
  List.map_cons, List.map_nil, List.length_cons, List.length_nil, List.replicate_succ, List.replicate_zero, List.append_nil, List.nil_append, List.cons_append, List.getElem?_cons_zero, List.getElem?_cons_succ, List.set_cons_zero, List.set_cons_succ,
  Option.some.injEq, D.int.injEq, D.bl.injEq, D.tup.injEq, D.lst.injEq, D.str.injEq, D.cell.injEq, O.lst.injEq, reduceCtorEq, exists_eq_left', exists_eq_left, false_and, and_false, true_and, and_true, exists_false, or_false, false_or, exists_and_left, exists_eq', exists_and_right, List.cons.injEq, and_assoc, dec_not, dec_yes, nd_t, nd_f, t_t, t_f, f_t, f_f, true_implies, false_implies, implies_true, and_self, Nat.reduceAdd, Nat.reduceLeDiff, Nat.reduceSub, Nat.reduceLT])
local macro_rules | `(tactic| walk_at "zy") => `(tactic| try simp only [Option.some.injEq, D.int.injEq, D.bl.injEq, D.tup.injEq, D.lst.injEq, D.str.injEq, D.cell.injEq, O.lst.injEq, reduceCtorEq, exists_eq_left', exists_eq_left, false_and, and_false, true_and, and_true, exists_false, or_false, false_or, exists_and_left, exists_eq', exists_and_right, List.cons.injEq, and_assoc, dec_not, dec_yes, nd_t, nd_f, t_t, t_f, f_t, f_f, true_implies, false_implies, implies_true, and_self])
/-! ### small things -/
structure Off (n : Nat) (Δ Δ' : Store) : Prop where
  len : Δ'.length = Δ.length
  at_ : ∀ m, m ≠ n → Δ'[m]? = Δ[m]?
theorem Off.refl (n : Nat) (Δ : Store) : Off n Δ Δ := ⟨rfl, fun _ _ => rfl⟩
theorem Off.trans {n : Nat} {Δ Δ1 Δ2 : Store} (a : Off n Δ Δ1) (b : Off n Δ1 Δ2) : Off n Δ Δ2 := ⟨b.len.trans a.len, fun m h => (b.at_ m h).trans (a.at_ m h)⟩
theorem Off.set (n : Nat) (Δ : Store) (o : O) : Off n Δ (Δ.set n o) := ⟨by rw [List.length_set], fun m h => by rw [List.getElem?_set_ne (Ne.symm h)]⟩
theorem set_get {Δ : Store} {n : Nat} {o : O} (h : Δ[n]? = some o) (o' : O) : (Δ.set n o')[n]? = some o' := List.getElem?_set_self (List.getElem?_eq_some_iff.mp h).1
theorem atM {l : List D} {i : Int} (h0 : 0 ≤ i) (h1 : i < l.length) : ∃ d, d ∈ l ∧ atI l i = some d := by
  obtain ⟨d, h, e⟩ := atN h0 h1
  exact ⟨d, List.mem_of_getElem? h, e⟩
theorem natAbs_lt {i : Int} {n : Nat} (h0 : 0 ≤ i) (h : i < (2 : Int) ^ n) : i.natAbs < 2 ^ n := by
  have : ((2 ^ n : Nat) : Int) = (2 : Int) ^ n := by simp
  omega
theorem sm {i : Int} (h0 : 0 ≤ i) (h : i ≤ 10 ^ 31) : i.natAbs < 2 ^ 8000 := Nat.lt_of_lt_of_le (natAbs_lt (n := 110) h0 (Int.lt_of_le_of_lt h (by decide))) (Nat.pow_le_pow_right (by decide) (by decide))
theorem comp_each {zg : ZG} {ze : ZE} {Γ0 : Z.Env} {P : D → Store → Prop} (J : Store → Prop) (R : D → Prop) : ∀ (items acc : List D) (Δ : Store), J Δ → (∀ y ∈ acc, R y) → acc.length + items.length ≤ 100000 →
    (∀ x ∈ items, ∀ Δ (Q : D → Store → Prop), J Δ → (∀ y Δ', J Δ' → R y → Q y Δ') → zg x Γ0 Δ fun Γ2 Δ2 => ze Γ2 Δ2 Q) →
    (∀ ys Δ', J Δ' → (∀ y ∈ ys, R y) → ys.length = acc.length + items.length → P (.lst ys) Δ') → compZ zg zYes ze Γ0 P items acc Δ
  | [], acc, Δ, hj, ha, _, _, h => h acc Δ hj ha rfl
  | x :: xs, acc, Δ, hj, ha, hl, hs, h => by
    have hl' : acc.length + (xs.length + 1) ≤ 100000 := by simpa using hl
    show zg x Γ0 Δ fun Γ2 Δ2 => (true = true → ze Γ2 Δ2 fun y Δ4 => acc.length < 100000 ∧ compZ zg zYes ze Γ0 P xs (acc ++ [y]) Δ4) ∧ (true = false → compZ zg zYes ze Γ0 P xs acc Δ2)
    simp only [true_implies, reduceCtorEq, false_implies, and_true]
    refine hs x List.mem_cons_self Δ _ hj fun y Δ' hj' hy => ⟨by omega, ?_⟩
    refine comp_each J R xs (acc ++ [y]) Δ' hj' (fun z hz => ?_) (by simp; omega) (fun z hz => hs z (List.mem_cons_of_mem _ hz)) fun ys Δ2 h1 h2 h3 => h ys Δ2 h1 h2 (by simp at h3 ⊢; omega)
    rcases List.mem_append.mp hz with hz | hz
    · exact ha z hz
    · rw [List.mem_singleton] at hz
      subst hz
      exact hy
theorem seq_cut {t u : ZS} {Ze : ZEnds} {Γ : Z.Env} {Δ : Store} (h : ∀ rest : Z.Env → Store → Prop, rest = u Ze → t { Ze with nx := rest } Γ Δ) : zSeq t u Ze Γ Δ := h _ rfl
theorem for_cut {zi : ZI} {g : ZG} {zs : ZS} {Ze : ZEnds} {Γ : Z.Env} {Δ : Store} (h : ∀ body : D → ZS, body = (fun x Z' Γ' Δ' => g x Γ' Δ' fun Γ2 Δ2 => zs Z' Γ2 Δ2) → zi Γ Δ fun items Δ1 => loopZ body Ze items Γ Δ1) : zFor zi g zs Ze Γ Δ := h _ rfl
theorem last_at {Δ : Store} {o : O} : (Δ ++ [o])[Δ.length]? = some o := by rw [List.getElem?_append_right (Nat.le_refl _), Nat.sub_self]; rfl
theorem set_last {Δ : Store} {o o' : O} : (Δ ++ [o]).set Δ.length o' = Δ ++ [o'] := by
  rw [List.set_append_right _ _ (Nat.le_refl _), Nat.sub_self]
  rfl
theorem comp_id {zg : ZG} {ze : ZE} {Γ0 : Z.Env} {P : D → Store → Prop} {Δ : Store} {f : D → D} {xs : List D} (hl : xs.length ≤ 100000)
    (hs : ∀ x ∈ xs, ∀ Q : D → Store → Prop, Q (f x) Δ → zg x Γ0 Δ fun Γ2 Δ2 => ze Γ2 Δ2 Q) (p : P (.lst (xs.map f)) Δ) : compZ zg zYes ze Γ0 P xs [] Δ := by
  have go := comp_map (zg := zg) (ze := ze) (Γ0 := Γ0) (P := P) (Δ := Δ) (g := id) (f := f) xs [] (by rw [List.length_nil, Nat.zero_add]; exact hl) hs (by rw [List.nil_append]; exact p)
  rw [List.map_id] at go
  exact go
theorem range_int (k : Int) : rangeD 0 k = (List.range k.toNat).map fun i : Nat => D.int ((i : Nat) : Int) := by
  unfold rangeD
  rw [show (k - 0).toNat = k.toNat by omega]
  exact List.map_congr_left fun i _ => by rw [Int.zero_add]
end Bx

namespace Bx
open PySem PySem.Spec PyProof.Rows L2 Z
local macro_rules | `(tactic| walk_at "zz") => `(tactic| simp only [zSeq, zAsg, zRet, zRetN, zIfS, zNext, zDrop, zPar, zPar3, zAug, zDivmod, zIndex, zCatT, zSlT, zMeth, zVar, zC, zOp, zUn, zNeg, zI0, zI, zTest, zAnd, zOr, zNot, zAndV, zOrV, zNotV, zIf, zNil, zCons, zTup, zLst, zLstC, zgName, zgTup, zgCons, zgNil, zgSub, startZ, zCall, zCB, zChain, zIsN, zNotN, zNever,
  zAddA, zMulA, zRepeat, zCat, zIx, seqD, lstD, zMax2, zMin2, zAbs, zLen, zSum, zGcd, zInt, zYes, zBreak, zCont, zMin1, zMax1, zList, zListC, zLcC, zLc, ziR1, ziR2, ziList, ziTup, ziZip, ziEnum, wipeZ, zFor, zSl, zPart, zNoPart, zAppend, zLstR1, zLstR2, zCallBC, zCallBF, zBits, zTru, zProp, zCallO,
  at0, at1, at2, at3, at4, ix2_3, ix0_3, isNon_int, isNon_non, Bool.not_true, Bool.not_false,
  List.map_cons, List.map_nil, List.length_cons, List.length_nil, List.replicate_succ, List.replicate_zero, List.append_nil, List.nil_append, List.cons_append, List.getElem?_cons_zero, List.getElem?_cons_succ, List.set_cons_zero, List.set_cons_succ,
  Option.some.injEq, D.int.injEq, D.bl.injEq, D.tup.injEq, D.lst.injEq, D.str.injEq, D.cell.injEq, O.lst.injEq, reduceCtorEq, exists_eq_left', exists_eq_left, false_and, and_false, true_and, and_true, exists_false, or_false, false_or, exists_and_left, exists_eq', exists_and_right, List.cons.injEq, and_assoc, dec_not, dec_yes, nd_t, nd_f, t_t, t_f, f_t, f_f, true_implies, false_implies, implies_true, and_self, Nat.reduceAdd, Nat.reduceLeDiff, Nat.reduceSub, Nat.reduceLT])
local macro_rules | `(tactic| walk_at "zy") => `(tactic| try simp only [Option.some.injEq, D.int.injEq, D.bl.injEq, D.tup.injEq, D.lst.injEq, D.str.injEq, D.cell.injEq, O.lst.injEq, reduceCtorEq, exists_eq_left', exists_eq_left, false_and, and_false, true_and, and_true, exists_false, or_false, false_or, exists_and_left, exists_eq', exists_and_right, List.cons.injEq, and_assoc, dec_not, dec_yes, nd_t, nd_f, t_t, t_f, f_t, f_f, true_implies, false_implies, implies_true, and_self])
/-! ### fractions -/
def frD (x : Rat) : D := .tup [.int x.num, .int (x.den : Int)]
theorem den_dvd (a b : Int) (hb : b ≠ 0) : (Rat.divInt a b).den = b.natAbs / b.gcd a := by rw [Rat.den_divInt, if_neg hb]
theorem num_le (a b : Int) : (Rat.divInt a b).num.natAbs ≤ a.natAbs := by
  rw [Rat.num_divInt]
  have h1 : (b.sign * a).natAbs ≤ a.natAbs := by
    rw [Int.natAbs_mul]
    have : b.sign.natAbs ≤ 1 := by
      rcases Int.lt_trichotomy b 0 with h | h | h
      · rw [Int.sign_eq_neg_one_of_neg h]; decide
      · rw [h]; decide
      · rw [Int.sign_eq_one_of_pos h]; decide
    calc b.sign.natAbs * a.natAbs ≤ 1 * a.natAbs := Nat.mul_le_mul_right _ this
      _ = a.natAbs := Nat.one_mul _
  refine Nat.le_trans ?_ h1
  exact Int.natAbs_ediv_le_natAbs _ _
theorem den_le (a b : Int) (hb : b ≠ 0) : (Rat.divInt a b).den ≤ b.natAbs := by
  rw [den_dvd a b hb]
  exact Nat.div_le_self _ _
theorem frD_inj {x y : Rat} (h : frD x = frD y) : x = y := by
  unfold frD at h
  injection h with h
  injection h with h1 h2
  injection h1 with h1
  injection h2 with h2 _
  injection h2 with h2
  exact Rat.ext h1 (by omega)
theorem gcd_step (a b : Nat) : Nat.gcd b (a % b) = Nat.gcd a b := by
  rw [Nat.gcd_comm b (a % b), ← Nat.gcd_rec, Nat.gcd_comm]
theorem frD_ty {K : PySem.W.Frag} {C : CI} {Δ : Store} {x : Rat} : tyD C Δ (frD x) = some (.type "tuple") := rfl
theorem frD_int (n : Int) : frD (n : Rat) = .tup [.int n, .int 1] := rfl
structure Sz (x : Rat) (N M : Nat) : Prop where
  n : x.num.natAbs < 2 ^ N
  d : x.den ≤ 2 ^ M
theorem den_abs (x : Rat) : ((x.den : Int)).natAbs = x.den := by omega
theorem pow_pos2 (n : Nat) : 0 < 2 ^ n := Nat.pow_pos (by decide)
theorem int_sz (n : Int) {N : Nat} (h : n.natAbs < 2 ^ N) : Sz (n : Rat) N 0 := ⟨h, Nat.le_refl _⟩
theorem Sz.mono {x : Rat} {N M N' M' : Nat} (h : Sz x N M) (h1 : N ≤ N') (h2 : M ≤ M') : Sz x N' M' := ⟨Nat.lt_of_lt_of_le h.n (Nat.pow_le_pow_right (by decide) h1), Nat.le_trans h.d (Nat.pow_le_pow_right (by decide) h2)⟩
theorem add_eq (x y : Rat) : Rat.divInt (x.num * y.den + y.num * x.den) (x.den * y.den) = x + y := by
  rw [Rat.add_def', ← Rat.divInt_ofNat, Int.natCast_mul]
theorem sz_add {x y : Rat} {N1 M1 N2 M2 : Nat} (hx : Sz x N1 M1) (hy : Sz y N2 M2) {N : Nat} (h1 : N1 + M2 + 1 ≤ N) (h2 : N2 + M1 + 1 ≤ N) : Sz (x + y) N (M1 + M2) := by
  have dx := x.den_pos
  have dy := y.den_pos
  have hne : (x.den : Int) * (y.den : Int) ≠ 0 := by
    have := Int.mul_pos (show (0 : Int) < x.den by omega) (show (0 : Int) < y.den by omega)
    omega
  rw [← add_eq]
  constructor
  · refine Nat.lt_of_le_of_lt (num_le _ _) (Nat.lt_of_le_of_lt (Int.natAbs_add_le _ _) ?_)
    rw [Int.natAbs_mul, Int.natAbs_mul, den_abs, den_abs]
    have a1 : x.num.natAbs * y.den < 2 ^ (N1 + M2) := by
      rw [Nat.pow_add]
      exact Nat.mul_lt_mul_of_lt_of_le hx.n hy.d (pow_pos2 _)
    have a2 : y.num.natAbs * x.den < 2 ^ (N2 + M1) := by
      rw [Nat.pow_add]
      exact Nat.mul_lt_mul_of_lt_of_le hy.n hx.d (pow_pos2 _)
    have b1 : 2 ^ (N1 + M2) ≤ 2 ^ (N - 1) := Nat.pow_le_pow_right (by decide) (by omega)
    have b2 : 2 ^ (N2 + M1) ≤ 2 ^ (N - 1) := Nat.pow_le_pow_right (by decide) (by omega)
    have b3 : 2 ^ N = 2 ^ (N - 1) + 2 ^ (N - 1) := by
      rw [← Nat.two_mul, ← Nat.pow_succ']
      congr 1
      omega
    omega
  · refine Nat.le_trans (den_le _ _ hne) ?_
    rw [Int.natAbs_mul, den_abs, den_abs, Nat.pow_add]
    exact Nat.mul_le_mul hx.d hy.d
/-- the sum of a list of fractions -/
def sumQ : Rat → List Rat → Rat
  | a, [] => a
  | a, x :: xs => sumQ (a + x) xs
/-! ### own functions over data -/
structure Kf (K : PySem.W.Frag) (C : CI) : Prop where
  isi : Isi K (C.adr 0)
  nms : C.nms 0 = nmsOf 0
section
variable {K : PySem.W.Frag} {C : CI} {Δ : Store} {P : D → Store → Prop}
theorem isi_ty {x : D} {a b : String} {r : Bool} (h1 : tyD C Δ x = some (.type a)) (h : kitB a b = some r) (p : P (.bl r) Δ) : zIsi K C [x, .ty b] Δ P :=
  ⟨x, _, _, _, r, rfl, h1, rfl, (fun _ q => nomatch q), kit_ty h, p⟩
theorem isi_own {x : D} {c : Nat} (hi : Isi K (C.adr c)) (h1 : tyD C Δ x = some (.ref (C.adr c))) (p : P (.bl true) Δ) : zIsi K C [x, .cls c] Δ P :=
  ⟨x, _, _, _, true, rfl, h1, rfl, (fun _ q => by cases q; exact hi), if_pos (beq_self_eq_true _), p⟩
theorem all_ok {l : List D} {bs : List Bool} (h : l = bs.map D.bl) (p : P (.bl (bs.all id)) Δ) : zAll [.lst l] Δ P := ⟨_, bs, rfl, by rw [h]; rfl, p⟩
theorem any_ok {l : List D} {bs : List Bool} (h : l = bs.map D.bl) (p : P (.bl (bs.any id)) Δ) : zAny [.lst l] Δ P := ⟨_, bs, rfl, by rw [h]; rfl, p⟩
theorem sumI_ok {l : List D} {ns : List Int} (h : l = ns.map D.int) (p : P (.int ns.sum) Δ) : zSum [.lst l] Δ P := ⟨_, ns, rfl, by rw [h]; rfl, p⟩
theorem isint_i {i : Int} (p : P (.bl true) Δ) : W_is_int K C [.int i] Δ P := by
  unfold W_is_int z_is_int
  walk_at "zz"
  refine isi_ty (r := true) rfl (by decide +kernel) ?_
  walk_at "zz"
  refine isi_ty (r := false) rfl (by decide +kernel) ?_
  walk_at "zz"
  exact p
theorem isint_t {ds : List D} (p : P (.bl false) Δ) : W_is_int K C [.tup ds] Δ P := by
  unfold W_is_int z_is_int
  walk_at "zz"
  refine isi_ty (r := false) rfl (by decide +kernel) ?_
  walk_at "zz"
  exact p
theorem get_end {o : O} : (Δ ++ [o])[Δ.length]? = some o := by rw [List.getElem?_append_right (Nat.le_refl _), Nat.sub_self]; rfl
theorem set_end {o o' : O} : (Δ ++ [o]).set Δ.length o' = Δ ++ [o'] := by rw [List.set_append_right _ _ (Nat.le_refl _), Nat.sub_self]; rfl
theorem setF_ok {Ze : ZEnds} {Γ : Z.Env} {f : Str} {c i : Nat} {y : D} {fs : List (Str × D)} (h0 : Γ[0]? = some (some (.cell Δ.length))) (h1 : Γ[i]? = some (some y)) (hl : fs.length < 1000) (h : Ze.nx Γ (Δ ++ [.ins c (putFd f y fs)])) : zSetF c f (zVar 0) (zVar i) Ze Γ (Δ ++ [.ins c fs]) :=
  ⟨y, h1, _, h0, _, fs, rfl, get_end, hl, by rw [set_end]; exact h⟩
theorem putFd_len {f : Str} {v : D} {n : Nat} : ∀ {l : List (Str × D)}, l.length ≤ n → (putFd f v l).length ≤ n + 1
  | [], _ => by show 1 ≤ n + 1; omega
  | (g, x) :: r, h => by
    have h' : r.length + 1 ≤ n := h
    unfold putFd
    split
    · show r.length + 1 ≤ n + 1; omega
    · have := putFd_len (f := f) (v := v) (n := n - 1) (l := r) (by omega)
      show (putFd f v r).length + 1 ≤ n + 1
      omega
theorem lt1000 {a n : Nat} (h : a ≤ n) (hn : n < 1000) : a < 1000 := Nat.lt_of_le_of_lt h hn
theorem divInt_parts {a b : Int} (hb : 0 < b) : a / (Int.gcd a b : Int) = (Rat.divInt a b).num ∧ b / (Int.gcd a b : Int) = ((Rat.divInt a b).den : Int) := by
  have e : b.gcd a = Int.gcd a b := Int.gcd_comm _ _
  have gd : Int.gcd a b ∣ b.natAbs := Nat.gcd_dvd_right _ _
  have gp : 0 < Int.gcd a b := Nat.pos_of_dvd_of_pos gd (by omega)
  refine ⟨?_, ?_⟩
  · rw [Rat.num_divInt, e, Int.sign_eq_one_of_pos hb, Int.one_mul]
  · rw [den_dvd a b (by omega), e]
    obtain ⟨k, hk⟩ := gd
    rw [hk, Nat.mul_div_cancel_left _ gp]
    have : b = (Int.gcd a b : Int) * k := by rw [← Int.natCast_mul, ← hk]; omega
    rw [show b / (Int.gcd a b : Int) = ((Int.gcd a b : Int) * k) / (Int.gcd a b : Int) from by rw [← this]]
    exact Int.mul_ediv_cancel_left _ (by omega)
theorem lowest_ok {a b : Int} (hb : 0 < b) (sb : b.natAbs < 2 ^ 8000) (p : P (frD (Rat.divInt a b)) Δ) : W_lowest K C [.int a, .int b] Δ P := by
  have gd : Int.gcd a b ∣ b.natAbs := Nat.gcd_dvd_right _ _
  have gl : Int.gcd a b ≤ b.natAbs := Nat.le_of_dvd (by omega) gd
  have gp : 0 < Int.gcd a b := Nat.pos_of_dvd_of_pos gd (by omega)
  have dv : ∀ i : Int, CDivW i (Int.gcd a b : Int) := fun i => wide_div (b := 8000) (by omega) (by
    have : ((Int.gcd a b : Int)).natAbs = Int.gcd a b := by omega
    rw [this]
    exact Nat.lt_of_le_of_lt gl sb) (by decide) (by decide)
  unfold W_lowest z_lowest
  walk_at "zz"
  refine ⟨dv _, dv _, ?_⟩
  rw [(divInt_parts hb).1, (divInt_parts hb).2]
  exact p
theorem isfrac_ok {x : Rat} (h : P (.bl true) Δ) : W_is_fraction K C [frD x] Δ P := by
  have hd := x.den_pos
  unfold W_is_fraction z_is_fraction frD
  walk_at "zz"
  refine isi_ty (r := true) rfl (by decide +kernel) ?_
  walk_at "zz"
  refine ⟨rfl, rfl, ?_⟩
  have g1 : Int.gcd x.num (x.den : Int) = 1 := by
    show Nat.gcd x.num.natAbs ((x.den : Int)).natAbs = 1
    rw [den_abs]
    exact x.reduced
  refine ⟨false, rfl, (fun q => nomatch q), fun _ => isint_i ⟨true, rfl, fun _ => isint_i ⟨true, rfl, fun _ => ⟨fun _ => ⟨rfl, rfl, ?_⟩, fun h => by omega⟩, fun q => nomatch q⟩, fun q => nomatch q⟩⟩
  rw [g1]
  exact h
end
end Bx

namespace Bx
open PySem PySem.Spec PyProof.Rows L2 Z
local macro_rules | `(tactic| walk_at "zz") => `(tactic| simp only [zSeq, zAsg, zRet, zRetN, zIfS, zNext, zDrop, zPar, zPar3, zAug, zDivmod, zIndex, zCatT, zSlT, zMeth, zVar, zC, zOp, zUn, zNeg, zI0, zI, zTest, zAnd, zOr, zNot, zAndV, zOrV, zNotV, zIf, zNil, zCons, zTup, zLst, zLstC, zgName, zgTup, zgCons, zgNil, zgSub, startZ, zCall, zCB, zChain, zIsN, zNotN, zNever,
  zAddA, zMulA, zRepeat, zCat, zIx, seqD, lstD, zMax2, zMin2, zAbs, zLen, zSum, zGcd, zInt, zYes, zBreak, zCont, zMin1, zMax1, zList, zListC, zLcC, zLc, ziR1, ziR2, ziList, ziTup, ziZip, ziEnum, wipeZ, zFor, zSl, zPart, zNoPart, zAppend, zLstR1, zLstR2, zCallBC, zCallBF, zBits, zTru, zProp, zCallO,
  at0, at1, at2, at3, at4, ix2_3, ix0_3, isNon_int, isNon_non, Bool.not_true, Bool.not_false,
  List.map_cons, List.map_nil, List.length_cons, List.length_nil, List.replicate_succ, List.replicate_zero, List.append_nil, List.nil_append, List.cons_append, List.getElem?_cons_zero, List.getElem?_cons_succ, List.set_cons_zero, List.set_cons_succ,
  Option.some.injEq, D.int.injEq, D.bl.injEq, D.tup.injEq, D.lst.injEq, D.str.injEq, D.cell.injEq, O.lst.injEq, reduceCtorEq, exists_eq_left', exists_eq_left, false_and, and_false, true_and, and_true, exists_false, or_false, false_or, exists_and_left, exists_eq', exists_and_right, List.cons.injEq, and_assoc, dec_not, dec_yes, nd_t, nd_f, t_t, t_f, f_t, f_f, true_implies, false_implies, implies_true, and_self, Nat.reduceAdd, Nat.reduceLeDiff, Nat.reduceSub, Nat.reduceLT])
local macro_rules | `(tactic| walk_at "zy") => `(tactic| try simp only [Option.some.injEq, D.int.injEq, D.bl.injEq, D.tup.injEq, D.lst.injEq, D.str.injEq, D.cell.injEq, O.lst.injEq, reduceCtorEq, exists_eq_left', exists_eq_left, false_and, and_false, true_and, and_true, exists_false, or_false, false_or, exists_and_left, exists_eq', exists_and_right, List.cons.injEq, and_assoc, dec_not, dec_yes, nd_t, nd_f, t_t, t_f, f_t, f_f, true_implies, false_implies, implies_true, and_self])
/-! ### the program's fractions -/
theorem mulW {a b : Int} {n m : Nat} (ha : a.natAbs < 2 ^ n) (hb : b.natAbs < 2 ^ m) (h1 : n ≤ 9000) (h2 : m ≤ 9000) : MulOk a b := .w 9000 9000 (Nat.lt_of_lt_of_le ha (Nat.pow_le_pow_right (by decide) h1)) (Nat.lt_of_lt_of_le hb (Nat.pow_le_pow_right (by decide) h2))
theorem Sz.dl {x : Rat} {N M : Nat} (h : Sz x N M) : ((x.den : Int)).natAbs < 2 ^ (M + 1) := by
  rw [den_abs]
  exact Nat.lt_of_le_of_lt h.d (Nat.pow_lt_pow_right (by decide) (by omega))
theorem dpos (x : Rat) : (0 : Int) < (x.den : Int) := by
  have := x.den_pos
  omega
theorem dp2 (x y : Rat) : (0 : Int) < (x.den : Int) * (y.den : Int) := Int.mul_pos (dpos x) (dpos y)
theorem dd_lt {x y : Rat} {N M : Nat} (hx : Sz x N M) (hy : Sz y N M) (h2 : M ≤ 3900) : ((x.den : Int) * (y.den : Int)).natAbs < 2 ^ 8000 := by
  rw [Int.natAbs_mul]
  refine Nat.lt_of_lt_of_le (Nat.mul_lt_mul'' hx.dl hy.dl) ?_
  rw [← Nat.pow_add]
  exact Nat.pow_le_pow_right (by decide) (by omega)
theorem sub_eq (x y : Rat) : Rat.divInt (x.num * y.den - y.num * x.den) (x.den * y.den) = x - y := by
  have h := add_eq x (-y)
  rw [Rat.neg_num, Rat.neg_den] at h
  rw [Rat.sub_eq_add_neg, ← h]
  congr 1
  rw [Int.neg_mul, Int.sub_eq_add_neg]
theorem ord_lt {x y : Rat} : x.num * y.den - y.num * x.den < 0 ↔ x < y := by
  have e := Rat.lt_iff x y
  rw [e]
  omega
theorem ord_le {x y : Rat} : x.num * y.den - y.num * x.den ≤ 0 ↔ x ≤ y := by
  have e := Rat.le_iff x y
  rw [e]
  omega
theorem ord_gt {x y : Rat} : 0 < x.num * y.den - y.num * x.den ↔ y < x := by
  rw [Rat.lt_iff y x]
  omega
theorem ord_ge {x y : Rat} : 0 ≤ x.num * y.den - y.num * x.den ↔ y ≤ x := by
  rw [Rat.le_iff y x]
  omega
section
variable {K : PySem.W.Frag} {C : CI} {Δ : Store} {P : D → Store → Prop}
theorem plus_ok {x y : Rat} {N M : Nat} (hx : Sz x N M) (hy : Sz y N M) (h1 : N ≤ 3900) (h2 : M ≤ 3900) (h : P (frD (x + y)) Δ) : W_plus K C [frD x, frD y] Δ P := by
  unfold W_plus z_plus frD
  walk_at "zz"
  refine ⟨mulW hx.n hy.dl (by omega) (by omega), mulW hy.n hx.dl (by omega) (by omega), mulW hx.dl hy.dl (by omega) (by omega), ?_⟩
  refine lowest_ok (dp2 x y) (dd_lt hx hy h2) ?_
  rw [add_eq]
  exact h
theorem minus_ok {x y : Rat} {N M : Nat} (hx : Sz x N M) (hy : Sz y N M) (h1 : N ≤ 3900) (h2 : M ≤ 3900) (h : P (frD (x - y)) Δ) : W_minus K C [frD x, frD y] Δ P := by
  unfold W_minus z_minus frD
  walk_at "zz"
  refine ⟨mulW hx.n hy.dl (by omega) (by omega), mulW hy.n hx.dl (by omega) (by omega), mulW hx.dl hy.dl (by omega) (by omega), ?_⟩
  refine lowest_ok (dp2 x y) (dd_lt hx hy h2) ?_
  rw [sub_eq]
  exact h
theorem pord_ok {x y : Rat} {N M : Nat} (hx : Sz x N M) (hy : Sz y N M) (h1 : N ≤ 3900) (h2 : M ≤ 3900) (h : P (.int (x.num * y.den - y.num * x.den)) Δ) : W_order K C [frD x, frD y] Δ P := by
  unfold W_order z_order frD
  walk_at "zz"
  exact ⟨mulW hx.n hy.dl (by omega) (by omega), mulW hy.n hx.dl (by omega) (by omega), h⟩
theorem sz_neg {x : Rat} {N M : Nat} (h : Sz x N M) : Sz (-x) N M := ⟨by rw [Rat.neg_num, Int.natAbs_neg]; exact h.n, by rw [Rat.neg_den]; exact h.d⟩
theorem sz_sub {x y : Rat} {N1 M1 N2 M2 : Nat} (hx : Sz x N1 M1) (hy : Sz y N2 M2) {N : Nat} (h1 : N1 + M2 + 1 ≤ N) (h2 : N2 + M1 + 1 ≤ N) : Sz (x - y) N (M1 + M2) := by
  rw [Rat.sub_eq_add_neg]
  exact sz_add hx (sz_neg hy) h1 h2
theorem sz_div {a b : Int} {N M : Nat} (hb : b ≠ 0) (h1 : a.natAbs < 2 ^ N) (h2 : b.natAbs ≤ 2 ^ M) : Sz (Rat.divInt a b) N M := ⟨Nat.lt_of_le_of_lt (num_le a b) h1, Nat.le_trans (den_le a b hb) h2⟩
theorem divQ (a b : Int) : Rat.divInt a b = (a : Rat) / (b : Rat) := Rat.divInt_eq_div a b
end
/-- a width, as it is passed -/
inductive IsW (W : Rat) : D → Prop where
  | fr : IsW W (frD W)
  | int (n : Int) (e : W = (n : Rat)) : IsW W (.int n)
theorem atI_end {α : Type} {xs : List α} {x : α} (h : xs.getLast? = some x) : atI xs (-1) = some x := by
  obtain ⟨ys, rfl⟩ := List.getLast?_eq_some_iff.mp h
  exact atI_last ys x
section
variable {K : PySem.W.Frag} {C : CI} {Δ : Store} {P : D → Store → Prop}
theorem div_den {x : Rat} {k : Int} : Rat.divInt x.num ((x.den : Int) * k) = x / (k : Rat) := by
  have e : (x.num : Rat) / ((x.den : Int) : Rat) = x := by rw [← divQ]; exact Rat.num_divInt_den x
  rw [divQ, Rat.intCast_mul]
  have hd : ((x.den : Int) : Rat) ≠ 0 := Rat.ne_of_gt (Rat.intCast_pos.mpr (dpos x))
  generalize ((x.den : Int) : Rat) = d at e hd ⊢
  generalize (x.num : Rat) = n at e ⊢
  rw [← e, Rat.div_def, Rat.div_def, Rat.div_def, Rat.inv_mul_rev]
  rw [Rat.mul_assoc, Rat.mul_comm _ d⁻¹]
theorem tyD_int {n : Int} : tyD C Δ (.int n) = some (.type "int") := rfl
theorem chkW_ok {W : Rat} {d : D} (hw : IsW W d) (h0 : 0 ≤ W) (p : P .non Δ) : W_check_width K C [d] Δ P := by
  have hn : 0 ≤ W.num := Rat.num_nonneg.mpr h0
  unfold W_check_width z_check_width W_is_rational z_is_rational W_as_fraction z_as_fraction
  cases hw with
  | fr =>
    walk_at "zz"
    refine isint_t ?_
    walk_at "zz"
    refine isfrac_ok ?_
    walk_at "zz"
    refine isi_ty (r := true) rfl (by decide +kernel) ?_
    unfold frD
    walk_at "zz"
    exact ⟨fun q => by omega, fun _ => p⟩
  | int n e =>
    subst e
    rw [Rat.num_intCast] at hn
    walk_at "zz"
    refine isint_i ?_
    walk_at "zz"
    refine isi_ty (r := false) rfl (by decide +kernel) ?_
    walk_at "zz"
    exact ⟨fun q => by omega, fun _ => p⟩
theorem asF_ok {W : Rat} {d : D} (hw : IsW W d) (p : P (frD W) Δ) : W_as_fraction K C [d] Δ P := by
  unfold W_as_fraction z_as_fraction
  cases hw with
  | fr =>
    walk_at "zz"
    refine isi_ty (r := true) rfl (by decide +kernel) ?_
    walk_at "zz"
    exact p
  | int n e =>
    subst e
    walk_at "zz"
    refine isi_ty (r := false) rfl (by decide +kernel) ?_
    walk_at "zz"
    exact p
end
end Bx

namespace Bx
open PySem PySem.Spec PyProof.Rows L2 Z
local macro_rules | `(tactic| walk_at "zz") => `(tactic| simp only [zSeq, zAsg, zRet, zRetN, zIfS, zNext, zDrop, zPar, zPar3, zAug, zDivmod, zIndex, zCatT, zSlT, zMeth, zVar, zC, zOp, zUn, zNeg, zI0, zI, zTest, zAnd, zOr, zNot, zAndV, zOrV, zNotV, zIf, zNil, zCons, zTup, zLst, zLstC, zgName, zgTup, zgCons, zgNil, zgSub, startZ, zCall, zCB, zChain, zIsN, zNotN, zNever,
  zAddA, zMulA, zRepeat, zCat, zIx, seqD, lstD, zMax2, zMin2, zAbs, zLen, zSum, zGcd, zInt, zYes, zBreak, zCont, zMin1, zMax1, zList, zListC, zLcC, zLc, ziR1, ziR2, ziList, ziTup, ziZip, ziEnum, wipeZ, zFor, zSl, zPart, zNoPart, zAppend, zLstR1, zLstR2, zCallBC, zCallBF, zBits, zTru, zProp, zCallO,
  at0, at1, at2, at3, at4, ix2_3, ix0_3, isNon_int, isNon_non, Bool.not_true, Bool.not_false,
  List.map_cons, List.map_nil, List.length_cons, List.length_nil, List.replicate_succ, List.replicate_zero, List.append_nil, List.nil_append, List.cons_append, List.getElem?_cons_zero, List.getElem?_cons_succ, List.set_cons_zero, List.set_cons_succ,
  Option.some.injEq, D.int.injEq, D.bl.injEq, D.tup.injEq, D.lst.injEq, D.str.injEq, D.cell.injEq, O.lst.injEq, reduceCtorEq, exists_eq_left', exists_eq_left, false_and, and_false, true_and, and_true, exists_false, or_false, false_or, exists_and_left, exists_eq', exists_and_right, List.cons.injEq, and_assoc, dec_not, dec_yes, nd_t, nd_f, t_t, t_f, f_t, f_f, true_implies, false_implies, implies_true, and_self, Nat.reduceAdd, Nat.reduceLeDiff, Nat.reduceSub, Nat.reduceLT])
local macro_rules | `(tactic| walk_at "zy") => `(tactic| try simp only [Option.some.injEq, D.int.injEq, D.bl.injEq, D.tup.injEq, D.lst.injEq, D.str.injEq, D.cell.injEq, O.lst.injEq, reduceCtorEq, exists_eq_left', exists_eq_left, false_and, and_false, true_and, and_true, exists_false, or_false, false_or, exists_and_left, exists_eq', exists_and_right, List.cons.injEq, and_assoc, dec_not, dec_yes, nd_t, nd_f, t_t, t_f, f_t, f_f, true_implies, false_implies, implies_true, and_self])
/-! ### the spring: three ints in a cell, asked at most c times -/
def Spr (Δ : Store) (n : Nat) (c : Int) : Prop := ∃ x y z : Int, Δ[n]? = some (.lst [.int x, .int y, .int z]) ∧ 0 ≤ x ∧ 0 ≤ y ∧ y < 2 ^ 150 ∧ 0 ≤ z ∧ z ≤ c
theorem Spr.mono {Δ : Store} {n : Nat} {c c' : Int} (h : Spr Δ n c) (hc : c ≤ c') : Spr Δ n c' := by
  obtain ⟨x, y, z, e, h1, h2, h3, h4, h5⟩ := h
  exact ⟨x, y, z, e, h1, h2, h3, h4, by omega⟩
theorem Spr.app {Δ : Store} {n : Nat} {c : Int} (h : Spr Δ n c) (r : Store) : Spr (Δ ++ r) n c := by
  obtain ⟨x, y, z, e, h1⟩ := h
  exact ⟨x, y, z, by rw [List.getElem?_append_left (List.getElem?_eq_some_iff.mp e).1]; exact e, h1⟩
theorem Spr.lt {Δ : Store} {n : Nat} {c : Int} (h : Spr Δ n c) : n < Δ.length := by
  obtain ⟨x, y, z, e, h1⟩ := h
  exact (List.getElem?_eq_some_iff.mp e).1
theorem Spr.off {Δ Δ' : Store} {n m : Nat} {c : Int} (h : Spr Δ n c) (o : Off m Δ Δ') (hm : n ≠ m) : Spr Δ' n c := by
  obtain ⟨x, y, z, e, h1⟩ := h
  exact ⟨x, y, z, by rw [o.at_ n hm]; exact e, h1⟩
theorem pow3 {i : Int} (h : i.natAbs < 2 ^ 200) : CPowW i 3 := by
  have q := PySem.Flt.log2_lt_of (show 0 < 200 by decide) h
  refine ⟨by decide, ?_⟩
  omega
theorem pow_ok {a b : Int} (h1 : 0 ≤ b) (h2 : b ≤ 1000000) (h3 : a.natAbs < 2 ^ 64) : CPow a b := ⟨h1, h2, h3⟩
theorem divk {i : Int} {j : Int} (h0 : 0 < j) (h1 : j < 2 ^ 200) : CDivW i j := wide_div (b := 8000) h0 (Nat.lt_of_lt_of_le (natAbs_lt (n := 200) (by omega) h1) (Nat.pow_le_pow_right (by decide) (by decide))) (by decide) (by decide)
theorem e30 : (10 : Int) ^ Int.toNat 30 = 10 ^ 30 := rfl
theorem ten (n : Nat) : (10 : Int) ^ (n : Int).toNat = 10 ^ n := by rw [Int.toNat_natCast]
section
variable {K : PySem.W.Frag} {C : CI}
theorem dip1_ok {n : Nat} {many c : Int} {Δ : Store} {P : D → Store → Prop} (hb : Spr Δ n c) (hc : c ≤ 10 ^ 20) (h1 : 1 ≤ many) (h2 : many ≤ 10 ^ 30)
    (h : ∀ k Δ', 0 ≤ k → k < many → Spr Δ' n (c + 1) → Off n Δ Δ' → P (.int k) Δ') : W__law_dip_r1 K C [.cell n, .int many] Δ P := by
  obtain ⟨x, y, z, e, hx, hy0, hy1, hz0, hz1⟩ := hb
  have es := set_get e
  have es2 : ∀ o o', ((Δ.set n o).set n o')[n]? = some o' := fun o o' => set_get (es o) o'
  have dv : CDivW x many := wide_div (b := 8000) (by omega) (Nat.lt_of_lt_of_le (natAbs_lt (n := 110) (by omega) (Int.lt_of_le_of_lt h2 (by decide))) (Nat.pow_le_pow_right (by decide) (by decide))) (by decide) (by decide)
  unfold W__law_dip_r1 z__law_dip_r1
  walk_at "zz"
  refine ⟨pow_ok (by decide) (by decide) (by decide), fun hbig => ?_, fun _ => ?_⟩
  · rw [e30] at hbig; omega
  simp only [e, es, List.length_cons, List.length_nil, Nat.reduceAdd, ix2_3, ix0_3, at0, at1, at2, Option.some.injEq, exists_eq_left', List.set_cons_zero, List.set_cons_succ, O.lst.injEq, exists_eq_left, D.int.injEq, D.cell.injEq]
  refine ⟨fun hpos => ⟨by omega, dv, ?_⟩, fun hpos => ?_⟩
  · exact h _ _ (Int.emod_nonneg _ (by omega)) (Int.emod_lt_of_pos _ (by omega)) ⟨x / many, y, z, by rw [es], Int.ediv_nonneg hx (by omega), hy0, hy1, hz0, by omega⟩ (Off.set _ _ _)
  · have e43 : (10 : Int) ^ Int.toNat 42 = 10 ^ 42 := rfl
    have e41 : (10 : Int) ^ Int.toNat 44 = 10 ^ 44 := rfl
    rw [e43, e41]
    have b1 : (y + 49979687 * (z + 1)).natAbs < 2 ^ 200 := natAbs_lt (by omega) (by omega)
    generalize (y + 49979687 * (z + 1)) ^ Int.toNat 3 = p1
    have m1 : 0 ≤ p1 % (10 ^ 42 + 63) ∧ p1 % (10 ^ 42 + 63) < 10 ^ 42 + 63 := ⟨Int.emod_nonneg _ (by decide), Int.emod_lt_of_pos _ (by decide)⟩
    generalize p1 % (10 ^ 42 + 63) = q1 at *
    have b2 : (q1 + 67867967 * (z + 1)).natAbs < 2 ^ 200 := natAbs_lt (by omega) (by omega)
    refine ⟨.l (by decide) (by decide), pow3 b1, pow_ok (by decide) (by decide) (by decide), by decide, .l (by decide) (by decide), pow3 b2, pow_ok (by decide) (by decide) (by decide), by decide, divk (by decide) (by decide), by omega, ?_⟩
    exact h _ _ (Int.emod_nonneg _ (by omega)) (Int.emod_lt_of_pos _ (by omega)) ⟨x, y, z + 1, by rw [es], hx, hy0, hy1, by omega, by omega⟩ (Off.set _ _ _)
theorem dip2_ok {n : Nat} {many c : Int} {Δ : Store} {P : D → Store → Prop} (hb : Spr Δ n c) (hc : c ≤ 10 ^ 19) (h1 : 1 ≤ many) (h2 : many ≤ 10 ^ 30 ∨ many = 10 ^ 40)
    (h : ∀ k Δ', 0 ≤ k → k < many → Spr Δ' n (c + 2) → Off n Δ Δ' → P (.int k) Δ') : W__law_dip_r2 K C [.cell n, .int many] Δ P := by
  obtain ⟨x, y, z, e, hx, hy0, hy1, hz0, hz1⟩ := hb
  have es := set_get e
  have es2 : ∀ o o', ((Δ.set n o).set n o')[n]? = some o' := fun o o' => set_get (es o) o'
  have dv : CDivW x many := wide_div (b := 8000) (by omega) (Nat.lt_of_lt_of_le (natAbs_lt (n := 140) (by omega) (show many < 2 ^ 140 by omega)) (Nat.pow_le_pow_right (by decide) (by decide))) (by decide) (by decide)
  unfold W__law_dip_r2 z__law_dip_r2
  walk_at "zz"
  refine ⟨pow_ok (by decide) (by decide) (by decide), fun hbig => ?_, fun _ => ?_⟩
  · rw [e30] at hbig
    have hm : many = 10 ^ 40 := by omega
    subst hm
    refine ⟨divk (by decide) (by decide), ?_⟩
    have eb : ((1 : Int) + ((Builtin.Int.intBits (10 ^ 40) : Nat) : Int) / 90) = 2 := by decide +kernel
    rw [eb]
    refine ⟨by decide, by decide, ?_⟩
    refine loop_inv (fun k Γ E => ∃ (u3 : Option D) (f : Int), 0 ≤ f ∧ f < (if k = 0 then 1 else if k = 1 then 10 ^ 30 else 10 ^ 60) ∧ Spr E n (c + (k : Int)) ∧ Off n Δ E ∧ Γ = [some (.cell n), some (.int (10 ^ 40)), some (.int f), u3, none]) _ 0 _ _ ⟨none, 0, by decide, by decide, ⟨x, y, z, e, hx, hy0, hy1, hz0, by omega⟩, Off.refl _ _, rfl⟩ ?_ ?_
    · rintro i d Γ E Z' hd ⟨u3, f, f0, f1, sp, of, rfl⟩ hn hc' hr hk
      have hi : i < 2 := by
        have := (List.getElem?_eq_some_iff.mp hd).1
        exact this
      walk_at "zz"
      refine ⟨pow_ok (by decide) (by decide) (by decide), .w 8000 8000 (Nat.lt_of_lt_of_le (natAbs_lt (n := 400) f0 (Int.lt_of_lt_of_le f1 (by split <;> first | decide | (split <;> decide)))) (Nat.pow_le_pow_right (by decide) (by decide))) (by decide), pow_ok (by decide) (by decide) (by decide), ?_⟩
      refine dip1_ok sp (by omega) (by decide) (by decide) fun r E' r0 r1 sp' of' => ?_
      rw [e30] at r1
      refine ⟨_, rfl, hn _ _ ⟨some d, f * 10 ^ 30 + r, ?_, ?_, by rw [show c + ((0 + i + 1 : Nat) : Int) = c + ((0 + i : Nat) : Int) + 1 by omega]; exact sp', of.trans of', rfl⟩⟩
      · have := Int.mul_nonneg f0 (show (0 : Int) ≤ 10 ^ 30 by decide)
        omega
      · rcases (by omega : i = 0 ∨ i = 1) with rfl | rfl
        · have : f < 1 := f1
          show f * 10 ^ 30 + r < 10 ^ 30
          omega
        · have : f < 10 ^ 30 := f1
          show f * 10 ^ 30 + r < 10 ^ 60
          omega
    · rintro Γ E ⟨u3, f, f0, f1, sp, of, rfl⟩
      walk_at "zz"
      exact ⟨by decide, h _ _ (Int.emod_nonneg _ (by omega)) (Int.emod_lt_of_pos _ (by omega)) sp of⟩
  simp only [e, es, List.length_cons, List.length_nil, Nat.reduceAdd, ix2_3, ix0_3, at0, at1, at2, Option.some.injEq, exists_eq_left', List.set_cons_zero, List.set_cons_succ, O.lst.injEq, exists_eq_left, D.int.injEq, D.cell.injEq]
  refine ⟨fun hpos => ⟨by omega, dv, ?_⟩, fun hpos => ?_⟩
  · exact h _ _ (Int.emod_nonneg _ (by omega)) (Int.emod_lt_of_pos _ (by omega)) ⟨x / many, y, z, by rw [es], Int.ediv_nonneg hx (by omega), hy0, hy1, hz0, by omega⟩ (Off.set _ _ _)
  · have e43 : (10 : Int) ^ Int.toNat 42 = 10 ^ 42 := rfl
    have e41 : (10 : Int) ^ Int.toNat 44 = 10 ^ 44 := rfl
    rw [e43, e41]
    have b1 : (y + 49979687 * (z + 1)).natAbs < 2 ^ 200 := natAbs_lt (by omega) (by omega)
    generalize (y + 49979687 * (z + 1)) ^ Int.toNat 3 = p1
    have m1 : 0 ≤ p1 % (10 ^ 42 + 63) ∧ p1 % (10 ^ 42 + 63) < 10 ^ 42 + 63 := ⟨Int.emod_nonneg _ (by decide), Int.emod_lt_of_pos _ (by decide)⟩
    generalize p1 % (10 ^ 42 + 63) = q1 at *
    have b2 : (q1 + 67867967 * (z + 1)).natAbs < 2 ^ 200 := natAbs_lt (by omega) (by omega)
    refine ⟨.l (by decide) (by decide), pow3 b1, pow_ok (by decide) (by decide) (by decide), by decide, .l (by decide) (by decide), pow3 b2, pow_ok (by decide) (by decide) (by decide), by decide, divk (by decide) (by decide), by omega, ?_⟩
    exact h _ _ (Int.emod_nonneg _ (by omega)) (Int.emod_lt_of_pos _ (by omega)) ⟨x, y, z + 1, by rw [es], hx, hy0, hy1, by omega, by omega⟩ (Off.set _ _ _)
theorem spring_ok {ns : List Int} {k : Int} {Δ : Store} {P : D → Store → Prop} (k0 : 0 ≤ k) (k1 : k ≤ 100) (h : ∀ Δ' o, Δ' = Δ ++ [o] → Spr Δ' Δ.length 0 → P (.cell Δ.length) Δ') : W__law_spring K C [.scr ns, .int k] Δ P := by
  have fin : ∀ cell : Int, P (.cell Δ.length) (Δ ++ [.lst [.int (if cell - 10 ^ 18 > 0 then cell - 10 ^ 18 else 0), .int (cell % (10 ^ 38 + 133) + 15487469 * k), .int 0]]) := fun cell => by
    refine h _ _ rfl ⟨if cell - 10 ^ 18 > 0 then cell - 10 ^ 18 else 0, cell % (10 ^ 38 + 133) + 15487469 * k, 0, ?_, ?_, ?_, ?_, Int.le_refl _, Int.le_refl _⟩
    · rw [List.getElem?_append_right (Nat.le_refl _), Nat.sub_self]
      rfl
    · split <;> omega
    · have := Int.emod_nonneg cell (b := 10 ^ 38 + 133) (by decide)
      omega
    · have := Int.emod_lt_of_pos cell (b := 10 ^ 38 + 133) (by decide)
      omega
  unfold W__law_spring z__law_spring
  walk_at "zz"
  rw [List.length_map]
  refine ⟨fun hk => ?_, fun hk => ?_⟩
  · have hk' : k.toNat < ns.length := by omega
    have ea : atI (ns.map D.int) k = some (.int ns[k.toNat]) := by
      obtain ⟨d, h1, h2⟩ := atN (l := ns.map D.int) (i := k) k0 (by rw [List.length_map]; omega)
      rw [h2]
      rw [List.getElem?_map, List.getElem?_eq_getElem hk'] at h1
      exact h1.symm
    simp only [ea]
    walk_at "zz"
    exact ⟨pow_ok (by decide) (by decide) (by decide), pow_ok (by decide) (by decide) (by decide), by decide, .l (by decide) (by decide), fin _⟩
  · exact ⟨pow_ok (by decide) (by decide) (by decide), pow_ok (by decide) (by decide) (by decide), by decide, .l (by decide) (by decide), fin _⟩
end
end Bx

namespace Bx
open PySem PySem.Spec PyProof.Rows L2 Z
local macro_rules | `(tactic| walk_at "zz") => `(tactic| simp only [zSeq, zAsg, zRet, zRetN, zIfS, zNext, zDrop, zPar, zPar3, zAug, zDivmod, zIndex, zCatT, zSlT, zMeth, zVar, zC, zOp, zUn, zNeg, zI0, zI, zTest, zAnd, zOr, zNot, zAndV, zOrV, zNotV, zIf, zNil, zCons, zTup, zLst, zLstC, zgName, zgTup, zgCons, zgNil, zgSub, startZ, zCall, zCB, zChain, zIsN, zNotN, zNever,
  zAddA, zMulA, zRepeat, zCat, zIx, seqD, lstD, zMax2, zMin2, zAbs, zLen, zSum, zGcd, zInt, zYes, zBreak, zCont, zMin1, zMax1, zList, zListC, zLcC, zLc, ziR1, ziR2, ziList, ziTup, ziZip, ziEnum, wipeZ, zFor, zSl, zPart, zNoPart, zAppend, zLstR1, zLstR2, zCallBC, zCallBF, zBits, zTru, zProp, zCallO,
  at0, at1, at2, at3, at4, ix2_3, ix0_3, isNon_int, isNon_non, Bool.not_true, Bool.not_false,
  List.map_cons, List.map_nil, List.length_cons, List.length_nil, List.replicate_succ, List.replicate_zero, List.append_nil, List.nil_append, List.cons_append, List.getElem?_cons_zero, List.getElem?_cons_succ, List.set_cons_zero, List.set_cons_succ,
  Option.some.injEq, D.int.injEq, D.bl.injEq, D.tup.injEq, D.lst.injEq, D.str.injEq, D.cell.injEq, O.lst.injEq, reduceCtorEq, exists_eq_left', exists_eq_left, false_and, and_false, true_and, and_true, exists_false, or_false, false_or, exists_and_left, exists_eq', exists_and_right, List.cons.injEq, and_assoc, dec_not, dec_yes, nd_t, nd_f, t_t, t_f, f_t, f_f, true_implies, false_implies, implies_true, and_self, Nat.reduceAdd, Nat.reduceLeDiff, Nat.reduceSub, Nat.reduceLT])
local macro_rules | `(tactic| walk_at "zy") => `(tactic| try simp only [Option.some.injEq, D.int.injEq, D.bl.injEq, D.tup.injEq, D.lst.injEq, D.str.injEq, D.cell.injEq, O.lst.injEq, reduceCtorEq, exists_eq_left', exists_eq_left, false_and, and_false, true_and, and_true, exists_false, or_false, false_or, exists_and_left, exists_eq', exists_and_right, List.cons.injEq, and_assoc, dec_not, dec_yes, nd_t, nd_f, t_t, t_f, f_t, f_f, true_implies, false_implies, implies_true, and_self])
/-! ### fractions: the law's, the program's -/
theorem mul_eq (x y : Rat) : Rat.divInt (x.num * y.num) ((x.den : Int) * y.den) = x * y := by
  rw [divQ, Rat.intCast_mul, Rat.intCast_mul]
  have hx : (x.num : Rat) / ((x.den : Int) : Rat) = x := by rw [← divQ]; exact Rat.num_divInt_den x
  have hy : (y.num : Rat) / ((y.den : Int) : Rat) = y := by rw [← divQ]; exact Rat.num_divInt_den y
  have dx : ((x.den : Int) : Rat) ≠ 0 := Rat.ne_of_gt (Rat.intCast_pos.mpr (dpos x))
  have dy : ((y.den : Int) : Rat) ≠ 0 := Rat.ne_of_gt (Rat.intCast_pos.mpr (dpos y))
  generalize (x.num : Rat) = a at *
  generalize (y.num : Rat) = b at *
  generalize ((x.den : Int) : Rat) = c at *
  generalize ((y.den : Int) : Rat) = d at *
  rw [← hx, ← hy]
  grind
theorem num_pos {y : Rat} (h : 0 < y) : 0 < y.num := by
  have h1 := Rat.num_nonneg.mpr (Rat.le_of_lt h)
  rcases (by omega : y.num = 0 ∨ 0 < y.num) with q | q
  · have := Rat.num_eq_zero.mp q
    grind
  · exact q
theorem over_eq {x y : Rat} (h : 0 < y) : Rat.divInt (x.num * y.den) ((x.den : Int) * y.num) = x / y := by
  rw [divQ, Rat.intCast_mul, Rat.intCast_mul]
  have hx : (x.num : Rat) / ((x.den : Int) : Rat) = x := by rw [← divQ]; exact Rat.num_divInt_den x
  have hy : (y.num : Rat) / ((y.den : Int) : Rat) = y := by rw [← divQ]; exact Rat.num_divInt_den y
  have dx : ((x.den : Int) : Rat) ≠ 0 := Rat.ne_of_gt (Rat.intCast_pos.mpr (dpos x))
  have dy : ((y.den : Int) : Rat) ≠ 0 := Rat.ne_of_gt (Rat.intCast_pos.mpr (dpos y))
  have ny : (y.num : Rat) ≠ 0 := Rat.ne_of_gt (Rat.intCast_pos.mpr (num_pos h))
  generalize (x.num : Rat) = a at *
  generalize (y.num : Rat) = b at *
  generalize ((x.den : Int) : Rat) = c at *
  generalize ((y.den : Int) : Rat) = d at *
  rw [← hx, ← hy]
  grind
theorem absP {a b : Int} {n m : Nat} (ha : a.natAbs < 2 ^ n) (hb : b.natAbs < 2 ^ m) : (a * b).natAbs < 2 ^ (n + m) := by
  rw [Int.natAbs_mul, Nat.pow_add]
  exact Nat.mul_lt_mul'' ha hb
theorem sz_mul {x y : Rat} {N1 M1 N2 M2 : Nat} (hx : Sz x N1 M1) (hy : Sz y N2 M2) : Sz (x * y) (N1 + N2) (M1 + M2) := by
  rw [← mul_eq]
  refine sz_div (by have := dp2 x y; omega) (absP hx.n hy.n) ?_
  rw [Int.natAbs_mul, den_abs, den_abs, Nat.pow_add]
  exact Nat.mul_le_mul hx.d hy.d
theorem sz_over {x y : Rat} {N1 M1 N2 M2 : Nat} (h : 0 < y) (hx : Sz x N1 M1) (hy : Sz y N2 M2) : Sz (x / y) (N1 + M2 + 1) (M1 + N2) := by
  rw [← over_eq h]
  have := num_pos h
  refine sz_div (by have := Int.mul_pos (dpos x) this; omega) (by rw [show N1 + M2 + 1 = N1 + (M2 + 1) by omega]; exact absP hx.n hy.dl) ?_
  rw [Int.natAbs_mul, den_abs, Nat.pow_add]
  exact Nat.mul_le_mul hx.d (Nat.le_of_lt hy.n)
section
variable {K : PySem.W.Frag} {C : CI} {Δ : Store} {P : D → Store → Prop}
theorem cut_ok {a b : Int} (hb : 0 < b) (sb : b.natAbs < 2 ^ 8000) (h : P (frD (Rat.divInt a b)) Δ) : W__law_cut K C [.int a, .int b] Δ P := by
  unfold W__law_cut z__law_cut
  walk_at "zz"
  simp only [zWhile]
  have absN : ∀ i : Int, (if i < 0 then -i else i) = (i.natAbs : Int) := fun i => by split <;> omega
  rw [absN]
  refine ⟨fun m Γ Δ' => Δ' = Δ ∧ ∃ u v : Nat, Γ = [some (.int a), some (.int b), some (.int (u : Int)), some (.int (v : Int))] ∧ Nat.gcd u v = Nat.gcd a.natAbs b.natAbs ∧ m = v, ⟨b.natAbs, rfl, a.natAbs, b.natAbs, ?_, rfl, rfl⟩, ?_⟩
  · rw [show ((b.natAbs : Nat) : Int) = b by omega]
  rintro m Γ Δ' ⟨rfl, u, v, rfl, hg, rfl⟩
  walk_at "zz"
  refine ⟨fun hv => ⟨hv, u % m, Nat.mod_lt _ (by omega), m, rfl, u % m, (Int.natCast_emod u m).symm, ?_, rfl⟩, fun hv => ?_⟩
  · rw [gcd_step]; exact hg
  · have hm : m = 0 := by omega
    subst hm
    rw [Nat.gcd_zero_right] at hg
    have hg' : u = Int.gcd a b := hg
    have gd : Int.gcd a b ∣ b.natAbs := Nat.gcd_dvd_right _ _
    have gp : 0 < Int.gcd a b := Nat.pos_of_dvd_of_pos gd (by omega)
    have gl : Int.gcd a b ≤ b.natAbs := Nat.le_of_dvd (by omega) gd
    have dv : ∀ i : Int, CDivW i (Int.gcd a b : Int) := fun i => wide_div (b := 8000) (by omega) (by
      have : ((Int.gcd a b : Int)).natAbs = Int.gcd a b := by omega
      rw [this]
      exact Nat.lt_of_le_of_lt gl sb) (by decide) (by decide)
    rw [hg']
    refine ⟨dv _, dv _, ?_⟩
    rw [(divInt_parts hb).1, (divInt_parts hb).2]
    exact h
variable {x y : Rat} {N M : Nat}
theorem lplus_ok (hx : Sz x N M) (hy : Sz y N M) (h1 : N ≤ 3900) (h2 : M ≤ 3900) (h : P (frD (x + y)) Δ) : W__law_plus K C [frD x, frD y] Δ P := by
  unfold W__law_plus z__law_plus frD
  walk_at "zz"
  refine ⟨mulW hx.n hy.dl (by omega) (by omega), mulW hy.n hx.dl (by omega) (by omega), mulW hx.dl hy.dl (by omega) (by omega), ?_⟩
  refine cut_ok (dp2 x y) (dd_lt hx hy h2) ?_
  rw [add_eq]
  exact h
theorem lless_ok (hx : Sz x N M) (hy : Sz y N M) (h1 : N ≤ 3900) (h2 : M ≤ 3900) (h : P (frD (x - y)) Δ) : W__law_less K C [frD x, frD y] Δ P := by
  unfold W__law_less z__law_less frD
  walk_at "zz"
  refine ⟨mulW hx.n hy.dl (by omega) (by omega), mulW hy.n hx.dl (by omega) (by omega), mulW hx.dl hy.dl (by omega) (by omega), ?_⟩
  refine cut_ok (dp2 x y) (dd_lt hx hy h2) ?_
  rw [sub_eq]
  exact h
theorem lprod_ok (hx : Sz x N M) (hy : Sz y N M) (h1 : N ≤ 3900) (h2 : M ≤ 3900) (h : P (frD (x * y)) Δ) : W__law_product K C [frD x, frD y] Δ P := by
  unfold W__law_product z__law_product frD
  walk_at "zz"
  refine ⟨mulW hx.n hy.n (by omega) (by omega), mulW hx.dl hy.dl (by omega) (by omega), ?_⟩
  refine cut_ok (dp2 x y) (dd_lt hx hy h2) ?_
  rw [mul_eq]
  exact h
theorem times_ok (hx : Sz x N M) (hy : Sz y N M) (h1 : N ≤ 3900) (h2 : M ≤ 3900) (h : P (frD (x * y)) Δ) : W_times K C [frD x, frD y] Δ P := by
  unfold W_times z_times frD
  walk_at "zz"
  refine ⟨mulW hx.n hy.n (by omega) (by omega), mulW hx.dl hy.dl (by omega) (by omega), ?_⟩
  refine lowest_ok (dp2 x y) (dd_lt hx hy h2) ?_
  rw [mul_eq]
  exact h
theorem over_ok (hy0 : 0 < y) (hx : Sz x N M) (hy : Sz y N M) (h1 : N ≤ 3900) (h2 : M ≤ 3900) (h : P (frD (x / y)) Δ) : W_over K C [frD x, frD y] Δ P := by
  have np := num_pos hy0
  unfold W_over z_over frD
  walk_at "zz"
  refine ⟨mulW hx.n hy.dl (by omega) (by omega), mulW hx.dl hy.n (by omega) (by omega), ?_⟩
  refine lowest_ok (Int.mul_pos (dpos x) np) (Nat.lt_of_lt_of_le (absP hx.dl hy.n) (Nat.pow_le_pow_right (by decide) (by omega))) ?_
  rw [over_eq hy0]
  exact h
end
end Bx

namespace Bx
open PySem PySem.Spec PyProof.Rows L2 Z
local macro_rules | `(tactic| walk_at "zz") => `(tactic| simp only [zSeq, zAsg, zRet, zRetN, zIfS, zNext, zDrop, zPar, zPar3, zAug, zDivmod, zIndex, zCatT, zSlT, zMeth, zVar, zC, zOp, zUn, zNeg, zI0, zI, zTest, zAnd, zOr, zNot, zAndV, zOrV, zNotV, zIf, zNil, zCons, zTup, zLst, zLstC, zgName, zgTup, zgCons, zgNil, zgSub, startZ, zCall, zCB, zChain, zIsN, zNotN, zNever,
  zAddA, zMulA, zRepeat, zCat, zIx, seqD, lstD, zMax2, zMin2, zAbs, zLen, zSum, zGcd, zInt, zYes, zBreak, zCont, zMin1, zMax1, zList, zListC, zLcC, zLc, ziR1, ziR2, ziList, ziTup, ziZip, ziEnum, wipeZ, zFor, zSl, zPart, zNoPart, zAppend, zLstR1, zLstR2, zCallBC, zCallBF, zBits, zTru, zProp, zCallO,
  at0, at1, at2, at3, at4, ix2_3, ix0_3, isNon_int, isNon_non, Bool.not_true, Bool.not_false,
  List.map_cons, List.map_nil, List.length_cons, List.length_nil, List.replicate_succ, List.replicate_zero, List.append_nil, List.nil_append, List.cons_append, List.getElem?_cons_zero, List.getElem?_cons_succ, List.set_cons_zero, List.set_cons_succ,
  Option.some.injEq, D.int.injEq, D.bl.injEq, D.tup.injEq, D.lst.injEq, D.str.injEq, D.cell.injEq, O.lst.injEq, reduceCtorEq, exists_eq_left', exists_eq_left, false_and, and_false, true_and, and_true, exists_false, or_false, false_or, exists_and_left, exists_eq', exists_and_right, List.cons.injEq, and_assoc, dec_not, dec_yes, nd_t, nd_f, t_t, t_f, f_t, f_f, true_implies, false_implies, implies_true, and_self, Nat.reduceAdd, Nat.reduceLeDiff, Nat.reduceSub, Nat.reduceLT])
local macro_rules | `(tactic| walk_at "zy") => `(tactic| try simp only [Option.some.injEq, D.int.injEq, D.bl.injEq, D.tup.injEq, D.lst.injEq, D.str.injEq, D.cell.injEq, O.lst.injEq, reduceCtorEq, exists_eq_left', exists_eq_left, false_and, and_false, true_and, and_true, exists_false, or_false, false_or, exists_and_left, exists_eq', exists_and_right, List.cons.injEq, and_assoc, dec_not, dec_yes, nd_t, nd_f, t_t, t_f, f_t, f_f, true_implies, false_implies, implies_true, and_self])
/-! ### curves: pieces, joined pieces, values -/
/-- a piece: where it begins, its value there, its slope -/
structure Pc where
  w : Rat
  v : Rat
  s : Rat
  deriving DecidableEq
def on (p : Pc) (x : Rat) : Rat := p.v + p.s * (x - p.w)
def Ch : Pc → List Pc → Prop
  | _, [] => True
  | p, q :: r => p.w < q.w ∧ q.v = on p q.w ∧ Ch q r
def jn : Rat → List Pc → List Pc
  | _, [] => []
  | s, q :: r => if q.s = s then jn s r else q :: jn q.s r
def jnP : List Pc → List Pc
  | [] => []
  | p :: r => p :: jn p.s r
def evl : Pc → List Pc → Rat → Rat
  | p, [], x => on p x
  | p, q :: r, x => if q.w ≤ x then evl q r x else on p x
/-- the last piece that begins at x or ahead of it -/
structure AtP (ps : List Pc) (x : Rat) (i : Nat) (p : Pc) : Prop where
  at_ : ps[i]? = some p
  le : p.w ≤ x
  gt : ∀ j q, i < j → ps[j]? = some q → x < q.w
theorem ch_lt : ∀ {r : List Pc} {p : Pc} {i j : Nat} {a b : Pc}, Ch p r → i < j → (p :: r)[i]? = some a → (p :: r)[j]? = some b → a.w < b.w := by
  intro r
  induction r with
  | nil =>
    intro p i j a b _ hij ha hb
    have := (List.getElem?_eq_some_iff.mp hb).1
    simp at this
    omega
  | cons q r ih =>
    intro p i j a b h hij ha hb
    cases j with
    | zero => omega
    | succ j =>
      have hb' : (q :: r)[j]? = some b := hb
      have ge : q.w ≤ b.w := by
        cases j with
        | zero =>
          have e : q = b := Option.some.inj hb'
          rw [e]
          exact Rat.le_refl
        | succ j => exact Rat.le_of_lt (ih (i := 0) h.2.2 (Nat.succ_pos j) rfl hb')
      cases i with
      | zero =>
        have e : p = a := Option.some.inj ha
        rw [← e]
        have := h.1
        grind
      | succ i => exact ih h.2.2 (by omega) (show (q :: r)[i]? = some a from ha) hb'
theorem evl_before {q : Pc} {r : List Pc} {x : Rat} (h : Ch q r) (hx : x < q.w) : evl q r x = on q x := by
  cases r with
  | nil => rfl
  | cons a r =>
    show (if a.w ≤ x then evl a r x else on q x) = on q x
    rw [if_neg]
    have := h.1
    grind
theorem at_evl : ∀ {r : List Pc} {p q : Pc} {x : Rat} {i : Nat}, Ch p r → AtP (p :: r) x i q → evl p r x = on q x := by
  intro r
  induction r with
  | nil =>
    intro p q x i _ h
    have hi := (List.getElem?_eq_some_iff.mp h.at_).1
    have e0 : i = 0 := by simp at hi; exact hi
    subst e0
    have e : p = q := Option.some.inj h.at_
    rw [← e]
    rfl
  | cons a r ih =>
    intro p q x i hc h
    cases i with
    | zero =>
      have e : p = q := Option.some.inj h.at_
      have := h.gt 1 a (by omega) rfl
      show (if a.w ≤ x then evl a r x else on p x) = on q x
      rw [if_neg (by grind), e]
    | succ i =>
      have ha : (a :: r)[i]? = some q := h.at_
      have ge : a.w ≤ q.w := by
        cases i with
        | zero =>
          have e : a = q := Option.some.inj ha
          rw [e]
          exact Rat.le_refl
        | succ i => exact Rat.le_of_lt (ch_lt (i := 0) hc.2.2 (Nat.succ_pos i) rfl ha)
      have := h.le
      show (if a.w ≤ x then evl a r x else on p x) = on q x
      rw [if_pos (by grind)]
      exact ih hc.2.2 ⟨ha, h.le, fun j b hj hb => h.gt (j + 1) b (by omega) hb⟩
theorem on_same {p q : Pc} (h : q.v = on p q.w) (hs : q.s = p.s) (x : Rat) : on q x = on p x := by
  unfold on at *
  rw [h, hs]
  grind
theorem jn_evl : ∀ {r : List Pc} {p p' : Pc} {x : Rat}, Ch p r → (∀ y, on p' y = on p y) → evl p' (jn p.s r) x = evl p r x := by
  intro r
  induction r with
  | nil =>
    intro p p' x _ h
    exact h x
  | cons q r ih =>
    intro p p' x hc h
    show evl p' (if q.s = p.s then jn p.s r else q :: jn q.s r) x = if q.w ≤ x then evl q r x else on p x
    by_cases hs : q.s = p.s
    · rw [if_pos hs, ← hs]
      have on2 := on_same hc.2.1 hs
      rw [ih hc.2.2 fun y => by rw [h y, on2 y]]
      split
      · rfl
      · rename_i hx
        rw [evl_before hc.2.2 (by grind), on2]
    · rw [if_neg hs]
      show (if q.w ≤ x then evl q (jn q.s r) x else on p' x) = _
      rw [ih hc.2.2 fun y => rfl, h x]
theorem jn_ch : ∀ {r : List Pc} {p p' : Pc}, Ch p r → (∀ y, on p' y = on p y) → p'.w ≤ p.w → Ch p' (jn p.s r) := by
  intro r
  induction r with
  | nil => intro p p' _ _ _; trivial
  | cons q r ih =>
    intro p p' hc h hw
    have h1 := hc.1
    show Ch p' (if q.s = p.s then jn p.s r else q :: jn q.s r)
    by_cases hs : q.s = p.s
    · rw [if_pos hs, ← hs]
      have on2 := on_same hc.2.1 hs
      exact ih hc.2.2 (fun y => by rw [h y, on2 y]) (by grind)
    · rw [if_neg hs]
      exact ⟨by grind, by rw [h, hc.2.1], ih hc.2.2 (fun _ => rfl) Rat.le_refl⟩
theorem jn_mem : ∀ {r : List Pc} {s : Rat} {q : Pc}, q ∈ jn s r → q ∈ r := by
  intro r
  induction r with
  | nil => intro s q h; exact nomatch h
  | cons a r ih =>
    intro s q h
    have h' : q ∈ (if a.s = s then jn s r else a :: jn a.s r) := h
    split at h'
    · exact List.mem_cons_of_mem _ (ih h')
    · rcases List.mem_cons.mp h' with rfl | h'
      · exact List.mem_cons_self
      · exact List.mem_cons_of_mem _ (ih h')
theorem jn_len : ∀ {r : List Pc} {s : Rat}, (jn s r).length ≤ r.length := by
  intro r
  induction r with
  | nil => intro s; exact Nat.le_refl _
  | cons a r ih =>
    intro s
    show (if a.s = s then jn s r else a :: jn a.s r).length ≤ r.length + 1
    split
    · exact Nat.le_succ_of_le ih
    · exact Nat.succ_le_succ ih
theorem jn_jn : ∀ {r : List Pc} {s : Rat}, jn s (jn s r) = jn s r := by
  intro r
  induction r with
  | nil => intro s; rfl
  | cons a r ih =>
    intro s
    show jn s (if a.s = s then jn s r else a :: jn a.s r) = if a.s = s then jn s r else a :: jn a.s r
    by_cases h : a.s = s
    · rw [if_pos h, ih]
    · rw [if_neg h]
      show (if a.s = s then jn s (jn a.s r) else a :: jn a.s (jn a.s r)) = _
      rw [if_neg h, ih]
/-- the slope at the end -/
def lastS : Pc → List Pc → Rat
  | p, [] => p.s
  | _, q :: r => lastS q r
theorem lastS_jn : ∀ {r : List Pc} {p p' : Pc}, p'.s = p.s → lastS p' (jn p.s r) = lastS p r := by
  intro r
  induction r with
  | nil => intro p p' h; exact h
  | cons q r ih =>
    intro p p' h
    show lastS p' (if q.s = p.s then jn p.s r else q :: jn q.s r) = lastS q r
    by_cases hs : q.s = p.s
    · rw [if_pos hs, ← hs]
      exact ih (by rw [h, hs])
    · rw [if_neg hs]
      exact ih rfl
theorem lastS_eq : ∀ {r : List Pc} {p : Pc}, (p :: r).getLast? = some q → lastS p r = q.s := by
  intro r
  induction r with
  | nil => intro p h; simp at h; rw [h]; rfl
  | cons a r ih =>
    intro p h
    rw [List.getLast?_cons_cons] at h
    exact ih h
/-- pieces are told by their points and the last slope -/
theorem ch_uniq : ∀ {r r' : List Pc} {p p' : Pc}, Ch p r → Ch p' r' → (p :: r).map (fun q => (q.w, q.v)) = (p' :: r').map (fun q => (q.w, q.v)) → lastS p r = lastS p' r' → p :: r = p' :: r' := by
  intro r
  induction r with
  | nil =>
    intro r' p p' _ _ h hs
    cases r' with
    | nil =>
      obtain ⟨w, v, s⟩ := p
      obtain ⟨w', v', s'⟩ := p'
      simp at h
      have hs' : s = s' := hs
      rw [h.1, h.2, hs']
    | cons a r' => simp at h
  | cons q r ih =>
    intro r' p p' hc hc' h hs
    cases r' with
    | nil => simp at h
    | cons q' r' =>
      have h := List.cons.inj (show (p.w, p.v) :: (q :: r).map (fun q => (q.w, q.v)) = (p'.w, p'.v) :: (q' :: r').map (fun q => (q.w, q.v)) from h)
      have e := ih hc.2.2 hc'.2.2 h.2 hs
      have eq : q = q' := (List.cons.inj e).1
      have ep : p = p' := by
        obtain ⟨w, v, s⟩ := p
        obtain ⟨w', v', s'⟩ := p'
        have h1 := hc.1
        have h2 := hc.2.1
        have h1' := hc'.1
        have h2' := hc'.2.1
        rw [← eq] at h1' h2'
        simp only [Prod.mk.injEq] at h
        obtain ⟨⟨rfl, rfl⟩, _⟩ := h
        simp only [on] at h1 h2 h1' h2'
        have : s * (q.w - w) = s' * (q.w - w) := by grind
        have hne : q.w - w ≠ 0 := by grind
        have : s = s' := by grind
        rw [this]
      rw [ep, e]
/-- a point list and a slope as pieces -/
def pcs (s : Rat) : Rat × Rat → List (Rat × Rat) → List Pc
  | a, [] => [⟨a.1, a.2, s⟩]
  | a, b :: r => ⟨a.1, a.2, (b.2 - a.2) / (b.1 - a.1)⟩ :: pcs s b r
/-- widths that ascend -/
def AscW : Rat × Rat → List (Rat × Rat) → Prop
  | _, [] => True
  | a, b :: r => a.1 < b.1 ∧ AscW b r
theorem pcs_ch {s : Rat} : ∀ {r : List (Rat × Rat)} {a : Rat × Rat}, AscW a r → ∃ p ps, pcs s a r = p :: ps ∧ Ch p ps ∧ lastS p ps = s ∧ p.w = a.1 ∧ p.v = a.2 := by
  intro r
  induction r with
  | nil => intro a _; exact ⟨_, _, rfl, trivial, rfl, rfl, rfl⟩
  | cons b r ih =>
    intro a h
    obtain ⟨p, ps, e, hc, hs, hw, hv⟩ := ih h.2
    have h1 := h.1
    refine ⟨⟨a.1, a.2, (b.2 - a.2) / (b.1 - a.1)⟩, p :: ps, by show _ :: pcs s b r = _; rw [e], ⟨by rw [hw]; exact h1, ?_, hc⟩, hs, rfl, rfl⟩
    rw [hv, hw]
    show b.2 = a.2 + (b.2 - a.2) / (b.1 - a.1) * (b.1 - a.1)
    have hne : b.1 - a.1 ≠ 0 := by grind
    generalize b.1 - a.1 = k at *
    rw [Rat.div_mul_cancel hne]
    grind
theorem pcs_map {s : Rat} : ∀ {r : List (Rat × Rat)} {a : Rat × Rat}, (pcs s a r).map (fun q => (q.w, q.v)) = a :: r := by
  intro r
  induction r with
  | nil => intro a; rfl
  | cons b r ih =>
    intro a
    show (a.1, a.2) :: (pcs s b r).map _ = a :: b :: r
    rw [ih]
theorem ch_asc : ∀ {r : List Pc} {p : Pc}, Ch p r → AscW (p.w, p.v) (r.map fun q => (q.w, q.v)) := by
  intro r
  induction r with
  | nil => intro p _; trivial
  | cons q r ih => intro p h; exact ⟨h.1, ih h.2.2⟩
theorem pcs_of {r : List Pc} {p : Pc} (h : Ch p r) : pcs (lastS p r) (p.w, p.v) (r.map fun q => (q.w, q.v)) = p :: r := by
  obtain ⟨q, qs, e, hc, hs, hw, hv⟩ := pcs_ch (s := lastS p r) (ch_asc h)
  rw [e]
  refine ch_uniq hc h ?_ hs
  rw [← e, pcs_map]
  rfl
end Bx

namespace Bx
open PySem PySem.Spec PyProof.Rows L2 Z
local macro_rules | `(tactic| walk_at "zz") => `(tactic| simp only [zSeq, zAsg, zRet, zRetN, zIfS, zNext, zDrop, zPar, zPar3, zAug, zDivmod, zIndex, zCatT, zSlT, zMeth, zVar, zC, zOp, zUn, zNeg, zI0, zI, zTest, zAnd, zOr, zNot, zAndV, zOrV, zNotV, zIf, zNil, zCons, zTup, zLst, zLstC, zgName, zgTup, zgCons, zgNil, zgSub, startZ, zCall, zCB, zChain, zIsN, zNotN, zNever,
  zAddA, zMulA, zRepeat, zCat, zIx, seqD, lstD, zMax2, zMin2, zAbs, zLen, zSum, zGcd, zInt, zYes, zBreak, zCont, zMin1, zMax1, zList, zListC, zLcC, zLc, ziR1, ziR2, ziList, ziTup, ziZip, ziEnum, wipeZ, zFor, zSl, zPart, zNoPart, zAppend, zLstR1, zLstR2, zCallBC, zCallBF, zBits, zTru, zProp, zCallO,
  at0, at1, at2, at3, at4, ix2_3, ix0_3, isNon_int, isNon_non, Bool.not_true, Bool.not_false,
  List.map_cons, List.map_nil, List.length_cons, List.length_nil, List.replicate_succ, List.replicate_zero, List.append_nil, List.nil_append, List.cons_append, List.getElem?_cons_zero, List.getElem?_cons_succ, List.set_cons_zero, List.set_cons_succ,
  Option.some.injEq, D.int.injEq, D.bl.injEq, D.tup.injEq, D.lst.injEq, D.str.injEq, D.cell.injEq, O.lst.injEq, reduceCtorEq, exists_eq_left', exists_eq_left, false_and, and_false, true_and, and_true, exists_false, or_false, false_or, exists_and_left, exists_eq', exists_and_right, List.cons.injEq, and_assoc, dec_not, dec_yes, nd_t, nd_f, t_t, t_f, f_t, f_f, true_implies, false_implies, implies_true, and_self, Nat.reduceAdd, Nat.reduceLeDiff, Nat.reduceSub, Nat.reduceLT])
local macro_rules | `(tactic| walk_at "zy") => `(tactic| try simp only [Option.some.injEq, D.int.injEq, D.bl.injEq, D.tup.injEq, D.lst.injEq, D.str.injEq, D.cell.injEq, O.lst.injEq, reduceCtorEq, exists_eq_left', exists_eq_left, false_and, and_false, true_and, and_true, exists_false, or_false, false_or, exists_and_left, exists_eq', exists_and_right, List.cons.injEq, and_assoc, dec_not, dec_yes, nd_t, nd_f, t_t, t_f, f_t, f_f, true_implies, false_implies, implies_true, and_self])
/-! ### points, pieces as data -/
def ptD (a : Rat × Rat) : D := .tup [frD a.1, frD a.2]
def pcD (p : Pc) : D := .tup [frD p.w, frD p.v, frD p.s]
def ptP (p : Pc) : Rat × Rat := (p.w, p.v)
theorem atI_nat {α : Type} {xs : List α} {i : Nat} {x : α} (h : xs[i]? = some x) : atI xs (i : Int) = some x := by
  have hi := (List.getElem?_eq_some_iff.mp h).1
  obtain ⟨d, h1, h2⟩ := atN (l := xs) (i := (i : Int)) (by omega) (by omega)
  rw [h2]
  rw [show ((i : Int)).toNat = i by omega, h] at h1
  exact h1.symm
theorem frD_eq {x y : Rat} {Δ : Store} : eqD (rdk Δ 3 (frD x)) (frD y) = decide (x = y) := by
  have e : rdk Δ 3 (frD x) = frD x := rfl
  rw [e]
  show (PyData.eqv (.int x.num) (.int y.num) && (PyData.eqv (.int (x.den : Int)) (.int (y.den : Int)) && true)) = _
  have h1 : PyData.eqv (.int x.num) (.int y.num) = decide (x.num = y.num) := by simp only [PyData.eqv]; exact Bool.eq_iff_iff.mpr (by simp)
  have h2 : PyData.eqv (.int (x.den : Int)) (.int (y.den : Int)) = decide ((x.den : Int) = (y.den : Int)) := by simp only [PyData.eqv]; exact Bool.eq_iff_iff.mpr (by simp)
  rw [h1, h2, Bool.and_true, Bool.eq_iff_iff, Bool.and_eq_true, decide_eq_true_iff, decide_eq_true_iff, decide_eq_true_iff]
  constructor
  · rintro ⟨a, b⟩
    exact Rat.ext a (by omega)
  · rintro rfl
    exact ⟨rfl, rfl⟩
theorem frD_shp {x : Rat} {Δ : Store} : shp (rdk Δ 3 (frD x)) = true := rfl
section
variable {K : PySem.W.Frag} {C : CI} {Δ : Store} {P : D → Store → Prop}
theorem ispz_ok {x : Rat} (h0 : 0 ≤ x) (p : P (.bl true) Δ) : W_is_positive_or_zero K C [frD x] Δ P := by
  have hn := Rat.num_nonneg.mpr h0
  unfold W_is_positive_or_zero z_is_positive_or_zero
  walk_at "zz"
  refine isfrac_ok ⟨true, rfl, fun _ => ?_, fun q => nomatch q⟩
  unfold frD
  walk_at "zz"
  rw [decide_eq_true hn]
  exact p
theorem ispt_ok {a : Rat × Rat} (h1 : 0 ≤ a.1) (h2 : 0 ≤ a.2) (p : P (.bl true) Δ) : W_is_point K C [ptD a] Δ P := by
  unfold W_is_point z_is_point ptD
  walk_at "zz"
  refine isi_ty (r := true) rfl (by decide +kernel) ?_
  walk_at "zz"
  refine ⟨rfl, rfl, true, rfl, fun _ => ?_, fun q => nomatch q⟩
  refine comp_map (g := frD) (f := fun _ => .bl true) [a.1, a.2] [] (by simp) (fun x hx Q q => ?_) (all_ok (bs := [true, true]) rfl p)
  walk_at "zz"
  refine ispz_ok ?_ q
  rcases List.mem_cons.mp hx with rfl | hx
  · exact h1
  · rw [List.mem_singleton] at hx
    rw [hx]
    exact h2
/-- a row of pieces that a curve is made of -/
structure Cv (N M : Nat) (p : Pc) (r : List Pc) : Prop where
  ch : Ch p r
  w0 : p.w = 0
  n200 : r.length < 200
  v0 : ∀ q ∈ p :: r, 0 ≤ q.v
  s0 : ∀ q ∈ p :: r, 0 ≤ q.s
  zw : ∀ q ∈ p :: r, Sz q.w N M
  zv : ∀ q ∈ p :: r, Sz q.v N M
  zs : ∀ q ∈ p :: r, Sz q.s N M
theorem Cv.wpos {N M : Nat} {p : Pc} {r : List Pc} (c : Cv N M p r) {q : Pc} (hq : q ∈ p :: r) : 0 ≤ q.w := by
  obtain ⟨i, hi⟩ := List.getElem?_of_mem hq
  have := c.w0
  cases i with
  | zero =>
    have e : p = q := Option.some.inj hi
    rw [← e, c.w0]
    exact Rat.le_refl
  | succ i =>
    have := ch_lt (i := 0) c.ch (Nat.succ_pos i) rfl hi
    grind
/-- the i-th piece -/
def pa (p : Pc) (r : List Pc) (i : Nat) : Pc := (p :: r).getD i p
theorem pa_get {p : Pc} {r : List Pc} {i : Nat} (h : i ≤ r.length) : (p :: r)[i]? = some (pa p r i) := by
  have hi : i < (p :: r).length := by rw [List.length_cons]; omega
  unfold pa
  rw [List.getD_eq_getElem?_getD, List.getElem?_eq_getElem hi]
  rfl
theorem pa_mem {p : Pc} {r : List Pc} {i : Nat} (h : i ≤ r.length) : pa p r i ∈ p :: r := List.mem_of_getElem? (pa_get h)
theorem ch_next : ∀ {r : List Pc} {p : Pc} {i : Nat} {a b : Pc}, Ch p r → (p :: r)[i]? = some a → (p :: r)[i + 1]? = some b → a.w < b.w ∧ b.v = on a b.w := by
  intro r
  induction r with
  | nil =>
    intro p i a b _ _ hb
    have := (List.getElem?_eq_some_iff.mp hb).1
    simp at this
  | cons q r ih =>
    intro p i a b h ha hb
    cases i with
    | zero =>
      have ea : p = a := Option.some.inj ha
      have eb : q = b := Option.some.inj hb
      rw [← ea, ← eb]
      exact ⟨h.1, h.2.1⟩
    | succ i => exact ih h.2.2 (show (q :: r)[i]? = some a from ha) hb
theorem mul_nn {a b : Rat} (ha : 0 ≤ a) (hb : 0 ≤ b) : 0 ≤ a * b := Rat.mul_nonneg ha hb
theorem Cv.next {N M : Nat} {p : Pc} {r : List Pc} (c : Cv N M p r) {i : Nat} (h : i < r.length) : (pa p r i).w < (pa p r (i + 1)).w ∧ (pa p r i).v ≤ (pa p r (i + 1)).v := by
  obtain ⟨h1, h2⟩ := ch_next c.ch (pa_get (p := p) (r := r) (i := i) (by omega)) (pa_get (p := p) (r := r) (i := i + 1) (by omega))
  refine ⟨h1, ?_⟩
  rw [h2]
  unfold on
  have := mul_nn (c.s0 _ (pa_mem (p := p) (i := i) (by omega))) (show (0 : Rat) ≤ (pa p r (i + 1)).w - (pa p r i).w by grind)
  grind
/-- a list as it is passed: data or a cell -/
structure Pt (C : CI) (Δ : Store) (d : D) (ds : List D) : Prop where
  seq : ∀ r, seqD (Δ ++ r) d = some ds
  ty : ∀ r, tyD C (Δ ++ r) d = some (.type "list")
  lent : ∀ r, lent1 (Δ ++ r) (some d) = some (.lst ds)
theorem Pt.app {d : D} {ds : List D} (h : Pt C Δ d ds) (r : Store) : Pt C (Δ ++ r) d ds :=
  ⟨fun r2 => by rw [List.append_assoc]; exact h.seq _, fun r2 => by rw [List.append_assoc]; exact h.ty _, fun r2 => by rw [List.append_assoc]; exact h.lent _⟩
theorem Pt.lst {ds : List D} (hb : Z.below 0 (.lst ds) = true) : Pt C Δ (.lst ds) ds := ⟨fun _ => rfl, fun _ => rfl, fun r => if_pos hb⟩
theorem Pt.cell {n : Nat} {ds : List D} (hb : Z.below 0 (.lst ds) = true) (h : Δ[n]? = some (.lst ds)) : Pt C Δ (.cell n) ds := by
  have g : ∀ r : Store, (Δ ++ r)[n]? = some (.lst ds) := fun r => by rw [List.getElem?_append_left (List.getElem?_eq_some_iff.mp h).1]; exact h
  refine ⟨fun r => ?_, fun r => ?_, fun r => ?_⟩
  · show (match (Δ ++ r)[n]? with | some (O.lst ds) => some ds | _ => none) = some ds
    rw [g r]
  · show (match (Δ ++ r)[n]? with | some (O.lst _) => some (Value.type "list") | some (O.ins c _) => some (Value.ref (C.adr c)) | _ => none) = _
    rw [g r]
  · have e : Z.thaw (Δ ++ r) (.cell n) = .lst ds := by
      show (match (Δ ++ r)[n]? with | some (O.lst ds) => D.lst ds | some (O.dct ks ds) => D.dct ks ds | _ => D.cell n) = _
      rw [g r]
    show (if Z.below 0 (Z.thaw (Δ ++ r) (.cell n)) = true then some (Z.thaw (Δ ++ r) (.cell n)) else none) = _
    rw [e]
    exact if_pos hb
theorem Pt.seq0 {d : D} {ds : List D} (h : Pt C Δ d ds) : seqD Δ d = some ds := by have := h.seq []; rw [List.append_nil] at this; exact this
theorem Pt.ty0 {d : D} {ds : List D} (h : Pt C Δ d ds) : tyD C Δ d = some (.type "list") := by have := h.ty []; rw [List.append_nil] at this; exact this
theorem Pt.lent0 {d : D} {ds : List D} (h : Pt C Δ d ds) : lent1 Δ (some d) = some (.lst ds) := by have := h.lent []; rw [List.append_nil] at this; exact this
theorem arep_ok {N M : Nat} {p : Pc} {r : List Pc} (c : Cv N M p r) (hN : N ≤ 3900) (hM : M ≤ 3900) {d : D} (hd : Pt C Δ d ((p :: r).map fun q => ptD (ptP q))) (h : P (.bl true) Δ) : W_are_points K C [d] Δ P := by
  have hl : ((p :: r).map fun q => ptD (ptP q)).length = r.length + 1 := by rw [List.length_map, List.length_cons]
  have hn := c.n200
  have hg : ∀ i q, (p :: r)[i]? = some q → ((p :: r).map fun q => ptD (ptP q))[i]? = some (ptD (ptP q)) := fun i q h => by rw [List.getElem?_map, h]; rfl
  have h0 : ((p :: r).map fun q => ptD (ptP q))[0]? = some (ptD (ptP p)) := rfl
  have hpl : ∀ d ∈ ((p :: r).map fun q => ptD (ptP q)), ∃ q ∈ p :: r, d = ptD (ptP q) := fun d hd => by
    obtain ⟨q, hq, rfl⟩ := List.mem_map.mp hd
    exact ⟨q, hq, rfl⟩
  generalize hds : ((p :: r).map fun q => ptD (ptP q)) = ds at *
  unfold W_are_points z_are_points
  refine ⟨rfl, ?_⟩
  refine seq_cut fun rest hr => ?_
  walk_at "zz"
  refine isi_ty (r := true) hd.ty0 (by decide +kernel) ?_
  walk_at "zz"
  refine ⟨ds, hd.seq0, ?_⟩
  rw [hl]
  refine ⟨fun _ => ⟨fun q => by omega, fun _ => ?_⟩, fun q => by omega⟩
  subst hr
  refine seq_cut fun rest hr => ?_
  simp only [zIfS, zLendT, List.map_cons, List.map_nil, hd.lent0]
  walk_at "zz"
  refine comp_id (f := fun _ => .bl true) (by rw [hl]; omega) (fun y hy Q q => ?_) ?_
  · obtain ⟨a, ha, rfl⟩ := hpl y hy
    walk_at "zz"
    exact ispt_ok (c.wpos ha) (c.v0 a ha) q
  refine all_ok (bs := ds.map fun _ => true) (by rw [List.map_map]; rfl) ?_
  have ea : (ds.map fun _ => true).all id = true := by rw [List.all_eq_true]; intro x hx; obtain ⟨_, _, rfl⟩ := List.mem_map.mp hx; rfl
  rw [ea]
  walk_at "zz"
  refine ⟨_, atI_nat (i := 0) h0, _, rfl, _, atI_nat (i := 0) (x := frD p.w) rfl, [0, 1], rfl, frD_shp, rfl, false, ?_, (fun q => nomatch q), fun _ => ?_⟩
  · have e0 : D.tup ([0, 1].map D.int) = frD 0 := rfl
    rw [e0, frD_eq, c.w0]
    rfl
  subst hr
  refine seq_cut fun rest hr => ?_
  walk_at "zz"
  refine ⟨ds, hd.seq0, by omega, by omega, ?_⟩
  rw [range_int, show ((ds.length : Int) - 1).toNat = r.length by omega]
  refine comp_map (g := fun i : Nat => D.int ((i : Nat) : Int)) (f := fun i => .tup [ptD (ptP (pa p r i)), ptD (ptP (pa p r (i + 1)))]) (List.range r.length) [] (by simp; omega) (fun i hi Q q => ?_) ?_
  · have hi' := List.mem_range.mp hi
    walk_at "zz"
    exact ⟨_, hd.seq0, _, atI_nat (hg i _ (pa_get (by omega))), _, hd.seq0, _, by rw [show ((i : Int) + 1) = ((i + 1 : Nat) : Int) by omega]; exact atI_nat (hg (i + 1) _ (pa_get (by omega))), q⟩
  subst hr
  walk_at "zz"
  refine comp_map (g := fun i : Nat => D.tup [ptD (ptP (pa p r i)), ptD (ptP (pa p r (i + 1)))]) (f := fun _ => .bl true) (List.range r.length) [] (by simp; omega) (fun i hi Q q => ?_) ?_
  · have hi' := List.mem_range.mp hi
    have nx := c.next hi'
    have m1 := pa_mem (p := p) (r := r) (i := i) (by omega)
    have m2 := pa_mem (p := p) (r := r) (i := i + 1) (by omega)
    unfold ptD ptP
    walk_at "zz"
    refine pord_ok (c.zw _ m1) (c.zw _ m2) hN hM ⟨_, rfl, fun _ => pord_ok (c.zv _ m1) (c.zv _ m2) hN hM ⟨_, rfl, ?_⟩, fun hx => absurd (ord_lt.mpr nx.1) hx⟩
    rw [decide_eq_true (ord_le.mpr nx.2)]
    exact q
  · refine all_ok (bs := (List.range r.length).map fun _ => true) (by rw [List.map_map]; rfl) ?_
    have ea : ((List.range r.length).map fun _ => true).all id = true := by rw [List.all_eq_true]; intro x hx; obtain ⟨_, _, rfl⟩ := List.mem_map.mp hx; rfl
    rw [ea]
    exact h
end
end Bx

namespace Bx
open PySem PySem.Spec PyProof.Rows L2 Z
local macro_rules | `(tactic| walk_at "zz") => `(tactic| simp only [zSeq, zAsg, zRet, zRetN, zIfS, zNext, zDrop, zPar, zPar3, zAug, zDivmod, zIndex, zCatT, zSlT, zMeth, zVar, zC, zOp, zUn, zNeg, zI0, zI, zTest, zAnd, zOr, zNot, zAndV, zOrV, zNotV, zIf, zNil, zCons, zTup, zLst, zLstC, zgName, zgTup, zgCons, zgNil, zgSub, startZ, zCall, zCB, zChain, zIsN, zNotN, zNever,
  zAddA, zMulA, zRepeat, zCat, zIx, seqD, lstD, zMax2, zMin2, zAbs, zLen, zSum, zGcd, zInt, zYes, zBreak, zCont, zMin1, zMax1, zList, zListC, zLcC, zLc, ziR1, ziR2, ziList, ziTup, ziZip, ziEnum, wipeZ, zFor, zSl, zPart, zNoPart, zAppend, zLstR1, zLstR2, zCallBC, zCallBF, zBits, zTru, zProp, zCallO,
  at0, at1, at2, at3, at4, ix2_3, ix0_3, isNon_int, isNon_non, Bool.not_true, Bool.not_false,
  List.map_cons, List.map_nil, List.length_cons, List.length_nil, List.replicate_succ, List.replicate_zero, List.append_nil, List.nil_append, List.cons_append, List.getElem?_cons_zero, List.getElem?_cons_succ, List.set_cons_zero, List.set_cons_succ,
  Option.some.injEq, D.int.injEq, D.bl.injEq, D.tup.injEq, D.lst.injEq, D.str.injEq, D.cell.injEq, O.lst.injEq, reduceCtorEq, exists_eq_left', exists_eq_left, false_and, and_false, true_and, and_true, exists_false, or_false, false_or, exists_and_left, exists_eq', exists_and_right, List.cons.injEq, and_assoc, dec_not, dec_yes, nd_t, nd_f, t_t, t_f, f_t, f_f, true_implies, false_implies, implies_true, and_self, Nat.reduceAdd, Nat.reduceLeDiff, Nat.reduceSub, Nat.reduceLT])
local macro_rules | `(tactic| walk_at "zy") => `(tactic| try simp only [Option.some.injEq, D.int.injEq, D.bl.injEq, D.tup.injEq, D.lst.injEq, D.str.injEq, D.cell.injEq, O.lst.injEq, reduceCtorEq, exists_eq_left', exists_eq_left, false_and, and_false, true_and, and_true, exists_false, or_false, false_or, exists_and_left, exists_eq', exists_and_right, List.cons.injEq, and_assoc, dec_not, dec_yes, nd_t, nd_f, t_t, t_f, f_t, f_f, true_implies, false_implies, implies_true, and_self])
/-! ### a curve is made -/
theorem atI_lastL {α : Type} {ds : List α} {n : Nat} {d : α} (hl : ds.length = n + 1) (h : ds[n]? = some d) : atI ds (-1) = some d := by
  unfold atI ixN
  rw [hl, if_neg (by decide), if_pos (by omega)]
  show ds[(-1 + ((n + 1 : Nat) : Int)).toNat]? = _
  rw [show (-1 + ((n + 1 : Nat) : Int)).toNat = n by omega]
  exact h
theorem take_succ' {α : Type} {l : List α} {i : Nat} {a : α} (h : l[i]? = some a) : l.take (i + 1) = l.take i ++ [a] := by
  rw [List.take_add_one, h]
  rfl
theorem last_pa : ∀ {r : List Pc} {p : Pc}, (pa p r r.length).s = lastS p r := by
  intro r
  induction r with
  | nil => intro p; rfl
  | cons q r ih =>
    intro p
    show _ = lastS q r
    rw [← ih (p := q)]
    have h1 := pa_get (p := p) (r := q :: r) (i := (q :: r).length) (Nat.le_refl _)
    have h2 := pa_get (p := q) (r := r) (i := r.length) (Nat.le_refl _)
    have h3 : (p :: q :: r)[(q :: r).length]? = (q :: r)[r.length]? := rfl
    rw [h3, h2] at h1
    rw [Option.some.inj h1]
section
variable {K : PySem.W.Frag} {C : CI} {Δ : Store} {P : D → Store → Prop}
theorem pbt_ok {N M : Nat} {p : Pc} {r : List Pc} (c : Cv N M p r) (hN : N ≤ 900) (hM : M ≤ 900) {d : D} (hd : Pt C Δ d ((p :: r).map fun q => ptD (ptP q))) (h : P (.lst ((p :: r).map pcD)) (Δ ++ [.lst (((p :: r).map pcD).take r.length)])) :
    W_pieces_between K C [d, frD (lastS p r)] Δ P := by
  have hl : ((p :: r).map fun q => ptD (ptP q)).length = r.length + 1 := by rw [List.length_map, List.length_cons]
  have hn := c.n200
  have hg : ∀ i q, (p :: r)[i]? = some q → ((p :: r).map fun q => ptD (ptP q))[i]? = some (ptD (ptP q)) := fun i q h => by rw [List.getElem?_map, h]; rfl
  generalize hds : ((p :: r).map fun q => ptD (ptP q)) = ds at *
  have hpg : ∀ i, i ≤ r.length → ((p :: r).map pcD)[i]? = some (pcD (pa p r i)) := fun i hi => by rw [List.getElem?_map, pa_get hi]; rfl
  generalize hps : (p :: r).map pcD = ps at *
  have hpl : ps.length = r.length + 1 := by rw [← hps, List.length_map, List.length_cons]
  unfold W_pieces_between z_pieces_between
  refine ⟨rfl, ?_⟩
  refine seq_cut fun rest hr => ?_
  walk_at "zz"
  subst hr
  refine seq_cut fun rest hr => ?_
  refine for_cut fun body hB => ?_
  walk_at "zz"
  refine ⟨ds, hd.seq _, by omega, by omega, ?_⟩
  rw [range_int, show ((ds.length : Int) - 1).toNat = r.length by omega]
  refine loop_inv (fun k Γ E => ∃ u3 u4 u5 u6 u7, E = Δ ++ [.lst (ps.take k)] ∧ Γ = [some d, some (frD (lastS p r)), some (.cell Δ.length), u3, u4, u5, u6, u7]) _ 0 _ _ ⟨none, none, none, none, none, rfl, rfl⟩ ?_ ?_
  · rintro i x Γ E Z' hx ⟨u3, u4, u5, u6, u7, rfl, rfl⟩ hn' hc' hr' hk'
    have hi : i < r.length := by
      have := (List.getElem?_eq_some_iff.mp hx).1
      simpa using this
    rw [List.getElem?_map, List.getElem?_range hi] at hx
    have ex : x = D.int (i : Int) := (Option.some.inj hx).symm
    subst ex hB
    rw [Nat.zero_add]
    obtain ⟨h1, h2⟩ := ch_next c.ch (pa_get (p := p) (r := r) (i := i) (by omega)) (pa_get (p := p) (r := r) (i := i + 1) (by omega))
    have m1 := pa_mem (p := p) (r := r) (i := i) (by omega)
    have m2 := pa_mem (p := p) (r := r) (i := i + 1) (by omega)
    simp only [zgName, List.set_cons_succ, List.set_cons_zero]
    refine seq_cut fun rest2 hr2 => ?_
    walk_at "zz"
    refine ⟨_, hd.seq _, _, atI_nat (hg i _ (pa_get (by omega))), _, hd.seq _, _, by rw [show ((i : Int) + 1) = ((i + 1 : Nat) : Int) by omega]; exact atI_nat (hg (i + 1) _ (pa_get (by omega))), _, rfl, rfl, _, _, rfl, _, _, rfl, rfl, _, rfl, rfl, _, _, rfl, _, _, rfl, rfl, ?_⟩
    subst hr2
    walk_at "zz"
    refine ⟨⟨_, last_at⟩, ?_⟩
    unfold ptP
    refine minus_ok (c.zv _ m2) (c.zv _ m1) (by omega) (by omega) ?_
    refine minus_ok (c.zw _ m2) (c.zw _ m1) (by omega) (by omega) ?_
    have hpos : 0 < (pa p r (i + 1)).w - (pa p r i).w := by grind
    refine over_ok hpos (N := 2000) (M := 2000) ((sz_sub (c.zv _ m2) (c.zv _ m1) (N := N + M + 1) (by omega) (by omega)).mono (by omega) (by omega)) ((sz_sub (c.zw _ m2) (c.zw _ m1) (N := N + M + 1) (by omega) (by omega)).mono (by omega) (by omega)) (by omega) (by omega) ?_
    have es : ((pa p r (i + 1)).v - (pa p r i).v) / ((pa p r (i + 1)).w - (pa p r i).w) = (pa p r i).s := by
      rw [h2]
      unfold on
      have hne : (pa p r (i + 1)).w - (pa p r i).w ≠ 0 := by grind
      generalize (pa p r (i + 1)).w - (pa p r i).w = k at *
      rw [show (pa p r i).v + (pa p r i).s * k - (pa p r i).v = (pa p r i).s * k by grind]
      exact Rat.mul_div_cancel hne
    rw [es]
    refine ⟨_, last_at, by rw [List.length_take]; omega, ?_⟩
    rw [set_last]
    refine hn' _ _ ⟨_, _, _, _, _, ?_, rfl⟩
    rw [Nat.zero_add, take_succ' (hpg i (by omega))]
    rfl
  · rintro Γ E ⟨u3, u4, u5, u6, u7, rfl, rfl⟩
    subst hr
    walk_at "zz"
    have eL : (0 + (List.map (fun i : Nat => D.int (i : Int)) (List.range r.length)).length) = r.length := by simp
    rw [eL]
    have eD := atI_lastL hl (hg r.length _ (pa_get (Nat.le_refl _)))
    refine ⟨_, hd.seq _, _, eD, _, rfl, _, atI_nat (i := 0) rfl, _, hd.seq _, _, eD, _, rfl, _, atI_nat (i := 1) rfl, ?_⟩
    rw [last_at]
    refine ⟨_, rfl, by rw [List.length_take]; omega, ?_⟩
    have e1 : ps.take r.length ++ [D.tup [frD (ptP (pa p r r.length)).fst, frD (ptP (pa p r r.length)).snd, frD (lastS p r)]] = ps := by
      rw [← last_pa]
      have := take_succ' (hpg r.length (Nat.le_refl _))
      rw [List.take_of_length_le (by omega)] at this
      exact this.symm
    rw [e1]
    exact h
end
def lkS : Rat → List Pc → Rat
  | s, [] => s
  | _, q :: r => lkS q.s r
theorem jn_app {q : Pc} : ∀ {l : List Pc} {s : Rat}, jn s (l ++ [q]) = jn s l ++ if q.s = lkS s (jn s l) then [] else [q] := by
  intro l
  induction l with
  | nil =>
    intro s
    show (if q.s = s then jn s [] else q :: jn q.s []) = [] ++ if q.s = s then [] else [q]
    split <;> rfl
  | cons a l ih =>
    intro s
    show (if a.s = s then jn s (l ++ [q]) else a :: jn a.s (l ++ [q])) = (if a.s = s then jn s l else a :: jn a.s l) ++ if q.s = lkS s (if a.s = s then jn s l else a :: jn a.s l) then [] else [q]
    by_cases h : a.s = s
    · rw [if_pos h, if_pos h, ih]
    · rw [if_neg h, if_neg h, ih]
      rfl
theorem lk_last : ∀ {l : List Pc} {p x : Pc}, (p :: l).getLast? = some x → x.s = lkS p.s l := by
  intro l
  induction l with
  | nil => intro p x h; simp at h; rw [h]; rfl
  | cons a l ih => intro p x h; rw [List.getLast?_cons_cons] at h; exact ih h
theorem sl_eq {p q : Pc} {Δ : Store} : eqD (rdk Δ 3 (frD p.s)) (rdk Δ 3 (frD q.s)) = decide (p.s = q.s) := frD_eq
section
variable {K : PySem.W.Frag} {C : CI} {Δ : Store} {P : D → Store → Prop}
/-- what joined has found behind k pieces -/
def fdP (p : Pc) (r : List Pc) : Nat → List Pc
  | 0 => []
  | k + 1 => p :: jn p.s (r.take k)
theorem join_ok {p : Pc} {r : List Pc} (hc : Ch p r) (hn : r.length < 1000) (h : P (.cell Δ.length) (Δ ++ [.lst ((p :: jn p.s r).map pcD)])) :
    W_joined K C [.lst ((p :: r).map pcD)] Δ P := by
  have hpg : ∀ i, i ≤ r.length → ((p :: r).map pcD)[i]? = some (pcD (pa p r i)) := fun i hi => by rw [List.getElem?_map, pa_get hi]; rfl
  generalize hps : (p :: r).map pcD = ps at *
  have hpl : ps.length = r.length + 1 := by rw [← hps, List.length_map, List.length_cons]
  unfold W_joined z_joined
  refine ⟨rfl, ?_⟩
  refine seq_cut fun rest hr => ?_
  walk_at "zz"
  subst hr
  refine seq_cut fun rest hr => ?_
  refine for_cut fun body hB => ?_
  walk_at "zz"
  refine ⟨by omega, by omega, ?_⟩
  rw [range_int, show ((ps.length : Int)).toNat = r.length + 1 by omega]
  refine loop_inv (fun k Γ E => ∃ u2 u3, E = Δ ++ [.lst ((fdP p r k).map pcD)] ∧ Γ = [some (.lst ps), some (.cell Δ.length), u2, u3]) _ 0 _ _ ⟨none, none, rfl, rfl⟩ ?_ ?_
  · rintro i x Γ E Z' hx ⟨u2, u3, rfl, rfl⟩ hn' hc' hr' hk'
    have hi : i < r.length + 1 := by
      have := (List.getElem?_eq_some_iff.mp hx).1
      simpa using this
    rw [List.getElem?_map, List.getElem?_range hi] at hx
    have ex : x = D.int (i : Int) := (Option.some.inj hx).symm
    subst ex hB
    rw [Nat.zero_add] at *
    simp only [zgName, List.set_cons_succ, List.set_cons_zero]
    refine seq_cut fun rest2 hr2 => ?_
    walk_at "zz"
    have go : rest2 [some (D.lst ps), some (D.cell Δ.length), some (D.int (i : Int)), some (.bl false)] (Δ ++ [O.lst ((fdP p r i).map pcD)]) := by
      subst hr2
      walk_at "zz"
      refine ⟨(fdP p r i).map pcD, by show (match (Δ ++ [O.lst ((fdP p r i).map pcD)])[Δ.length]? with | some (O.lst ds) => some ds | _ => none) = _; rw [last_at], ?_⟩
      have lenF : ((fdP p r i).map pcD).length < 100000 := by
        rw [List.length_map]
        cases i with
        | zero => show 0 < 100000; decide
        | succ k =>
          show (jn p.s (r.take k)).length + 1 < 100000
          have := jn_len (r := r.take k) (s := p.s)
          rw [List.length_take] at this
          omega
      have app : fdP p r (i + 1) = fdP p r i ++ [pa p r i] → (∃ x, atI ps (i : Int) = some x ∧ ∃ x_1, (Δ ++ [O.lst ((fdP p r i).map pcD)])[Δ.length]? = some (O.lst x_1) ∧ x_1.length < 100000 ∧ Z'.nx [some (D.lst ps), some (D.cell (List.length Δ)), some (D.int (i : Int)), some (D.bl false)] (List.set (Δ ++ [O.lst ((fdP p r i).map pcD)]) (List.length Δ) (O.lst (x_1 ++ [x])))) := fun e => by
        refine ⟨_, atI_nat (hpg i (by omega)), _, last_at, lenF, ?_⟩
        rw [set_last]
        refine hn' _ _ ⟨_, _, ?_, rfl⟩
        rw [e, List.map_append]
        rfl
      cases i with
      | zero =>
        refine ⟨fun _ => ⟨⟨_, last_at⟩, app ?_⟩, fun q => nomatch q⟩
        show p :: jn p.s (r.take 0) = [] ++ [pa p r 0]
        rfl
      | succ k =>
        refine ⟨(fun q => nomatch q), fun _ => ?_⟩
        have ep : fdP p r (k + 1 + 1) = fdP p r (k + 1) ++ if (pa p r (k + 1)).s = lkS p.s (jn p.s (r.take k)) then [] else [pa p r (k + 1)] := by
          show p :: jn p.s (r.take (k + 1)) = (p :: jn p.s (r.take k)) ++ _
          have hq : r[k]? = some (pa p r (k + 1)) := pa_get (p := p) (r := r) (i := k + 1) (by omega)
          rw [take_succ' hq, jn_app]
          rfl
        have hx : (p :: jn p.s (r.take k)) ≠ [] := List.cons_ne_nil _ _
        have hlast : (p :: jn p.s (r.take k)).getLast? = some ((p :: jn p.s (r.take k)).getLast hx) := List.getLast?_eq_some_getLast hx
        have hs := lk_last hlast
        generalize hla : (p :: jn p.s (r.take k)).getLast hx = la at *
        rw [last_at]
        refine ⟨_, rfl, pcD la, atI_end (by rw [List.getLast?_map]; show Option.map pcD ((p :: jn p.s (r.take k)).getLast?) = _; rw [hlast]; rfl), _, rfl, _, atI_nat (i := 2) rfl, _, atI_nat (hpg (k + 1) (by omega)), _, rfl, _, atI_nat (i := 2) rfl, frD_shp, frD_shp, _, rfl, fun hne => ?_, fun heq => ?_⟩
        · refine ⟨⟨_, last_at⟩, app ?_⟩
          rw [ep, if_neg]
          intro e
          have : eqD (rdk (Δ ++ [O.lst ((fdP p r (k + 1)).map pcD)]) 3 (frD la.s)) (rdk (Δ ++ [O.lst ((fdP p r (k + 1)).map pcD)]) 3 (frD (pa p r (k + 1)).s)) = true := (frD_eq (x := la.s) (y := (pa p r (k + 1)).s)).trans (decide_eq_true (by rw [hs, e]))
          rw [this] at hne
          exact nomatch hne
        · refine hn' _ _ ⟨_, _, ?_, rfl⟩
          rw [ep, if_pos, List.append_nil]
          have : eqD (rdk (Δ ++ [O.lst ((fdP p r (k + 1)).map pcD)]) 3 (frD la.s)) (rdk (Δ ++ [O.lst ((fdP p r (k + 1)).map pcD)]) 3 (frD (pa p r (k + 1)).s)) = decide (la.s = (pa p r (k + 1)).s) := frD_eq (x := la.s) (y := (pa p r (k + 1)).s)
          rw [this] at heq
          have h3 : la.s = (pa p r (k + 1)).s := by simpa using heq
          rw [← h3, hs]
    refine ⟨fun hlt => ?_, fun _ => go⟩
    have hi2 : i < r.length := by omega
    obtain ⟨h1, _⟩ := ch_next hc (pa_get (p := p) (r := r) (i := i) (by omega)) (pa_get (p := p) (r := r) (i := i + 1) (by omega))
    refine ⟨_, by rw [show ((i : Int) + 1) = ((i + 1 : Nat) : Int) by omega]; exact atI_nat (hpg (i + 1) (by omega)), _, rfl, _, atI_nat (i := 0) rfl, _, atI_nat (hpg i (by omega)), _, rfl, _, atI_nat (i := 0) rfl, frD_shp, frD_shp, ?_⟩
    have ef : eqD (rdk (Δ ++ [O.lst ((fdP p r i).map pcD)]) 3 (frD (pa p r (i + 1)).w)) (rdk (Δ ++ [O.lst ((fdP p r i).map pcD)]) 3 (frD (pa p r i).w)) = false := by
      refine (frD_eq (x := (pa p r (i + 1)).w) (y := (pa p r i).w)).trans (decide_eq_false fun q => ?_)
      grind
    rw [ef]
    exact go
  · rintro Γ E ⟨u2, u3, rfl, rfl⟩
    subst hr
    walk_at "zz"
    have eL : (0 + (List.map (fun i : Nat => D.int (i : Int)) (List.range (r.length + 1))).length) = r.length + 1 := by simp
    rw [eL]
    have ef : fdP p r (r.length + 1) = p :: jn p.s r := by
      show p :: jn p.s (r.take r.length) = _
      rw [List.take_length]
    rw [ef]
    exact h
end
end Bx

namespace Bx
open PySem PySem.Spec PyProof.Rows L2 Z
local macro_rules | `(tactic| walk_at "zz") => `(tactic| simp only [zSeq, zAsg, zRet, zRetN, zIfS, zNext, zDrop, zPar, zPar3, zAug, zDivmod, zIndex, zCatT, zSlT, zMeth, zVar, zC, zOp, zUn, zNeg, zI0, zI, zTest, zAnd, zOr, zNot, zAndV, zOrV, zNotV, zIf, zNil, zCons, zTup, zLst, zLstC, zgName, zgTup, zgCons, zgNil, zgSub, startZ, zCall, zCB, zChain, zIsN, zNotN, zNever,
  zAddA, zMulA, zRepeat, zCat, zIx, seqD, lstD, zMax2, zMin2, zAbs, zLen, zSum, zGcd, zInt, zYes, zBreak, zCont, zMin1, zMax1, zList, zListC, zLcC, zLc, ziR1, ziR2, ziList, ziTup, ziZip, ziEnum, wipeZ, zFor, zSl, zPart, zNoPart, zAppend, zLstR1, zLstR2, zCallBC, zCallBF, zBits, zTru, zProp, zCallO,
  at0, at1, at2, at3, at4, ix2_3, ix0_3, isNon_int, isNon_non, Bool.not_true, Bool.not_false,
  List.map_cons, List.map_nil, List.length_cons, List.length_nil, List.replicate_succ, List.replicate_zero, List.append_nil, List.nil_append, List.cons_append, List.getElem?_cons_zero, List.getElem?_cons_succ, List.set_cons_zero, List.set_cons_succ,
  Option.some.injEq, D.int.injEq, D.bl.injEq, D.tup.injEq, D.lst.injEq, D.str.injEq, D.cell.injEq, O.lst.injEq, reduceCtorEq, exists_eq_left', exists_eq_left, false_and, and_false, true_and, and_true, exists_false, or_false, false_or, exists_and_left, exists_eq', exists_and_right, List.cons.injEq, and_assoc, dec_not, dec_yes, nd_t, nd_f, t_t, t_f, f_t, f_f, true_implies, false_implies, implies_true, and_self, Nat.reduceAdd, Nat.reduceLeDiff, Nat.reduceSub, Nat.reduceLT])
local macro_rules | `(tactic| walk_at "zy") => `(tactic| try simp only [Option.some.injEq, D.int.injEq, D.bl.injEq, D.tup.injEq, D.lst.injEq, D.str.injEq, D.cell.injEq, O.lst.injEq, reduceCtorEq, exists_eq_left', exists_eq_left, false_and, and_false, true_and, and_true, exists_false, or_false, false_or, exists_and_left, exists_eq', exists_and_right, List.cons.injEq, and_assoc, dec_not, dec_yes, nd_t, nd_f, t_t, t_f, f_t, f_f, true_implies, false_implies, implies_true, and_self])
/-! ### a curve as an object; its points, its slope, its values -/
def crvD (l : List Pc) : D := .ins 0 [.lst (l.map pcD)]
theorem frx_pc {C : CI} {E : Store} {m : Nat} (p : Pc) : Z.frx C E m 2 (pcD p) = pcD p := rfl
theorem belowL_fr {m : Nat} {x : Rat} : Z.below m (frD x) = true := rfl
theorem below_pcs {m : Nat} : ∀ l : List Pc, Z.belowL m (l.map pcD) = true
  | [] => rfl
  | p :: l => by
    show (Z.below m (pcD p) && Z.belowL m (l.map pcD)) = true
    rw [below_pcs l]
    rfl
theorem below_pts {m : Nat} : ∀ l : List (Rat × Rat), Z.belowL m (l.map ptD) = true
  | [] => rfl
  | p :: l => by
    show (Z.below m (ptD p) && Z.belowL m (l.map ptD)) = true
    rw [below_pts l]
    rfl
theorem at_ex {x : Rat} : ∀ {r : List Pc} {p : Pc}, Ch p r → p.w ≤ x → ∃ i, i ≤ r.length ∧ AtP (p :: r) x i (pa p r i) := by
  intro r
  induction r with
  | nil =>
    intro p _ h
    exact ⟨0, Nat.le_refl _, rfl, h, fun j q hj hq => by
      have := (List.getElem?_eq_some_iff.mp hq).1
      simp at this
      omega⟩
  | cons q r ih =>
    intro p hc h
    by_cases hx : q.w ≤ x
    · obtain ⟨i, hi, ha⟩ := ih hc.2.2 hx
      refine ⟨i + 1, Nat.succ_le_succ hi, ⟨pa_get (Nat.succ_le_succ hi), ?_, fun j b hj hb => ?_⟩⟩
      · have e : pa p (q :: r) (i + 1) = pa q r i := by
          have h1 := pa_get (p := p) (r := q :: r) (i := i + 1) (Nat.succ_le_succ hi)
          have h2 := pa_get (p := q) (r := r) (i := i) hi
          exact Option.some.inj (h1.symm.trans h2)
        rw [e]
        exact ha.le
      · cases j with
        | zero => omega
        | succ j => exact ha.gt j b (by omega) hb
    · refine ⟨0, Nat.zero_le _, rfl, h, fun j b hj hb => ?_⟩
      have hq : x < q.w := by grind
      rcases Nat.lt_or_eq_of_le (show 1 ≤ j from hj) with h1 | h1
      · have := ch_lt hc h1 (show (p :: q :: r)[1]? = some q from rfl) hb
        grind
      · subst h1
        have e : q = b := Option.some.inj hb
        rw [← e]
        exact hq
theorem at_uniq {x : Rat} {ps : List Pc} {i j : Nat} {a b : Pc} (h1 : AtP ps x i a) (h2 : AtP ps x j b) : i = j := by
  rcases Nat.lt_trichotomy i j with h | h | h
  · have := h1.gt j b h h2.at_
    have := h2.le
    grind
  · exact h
  · have := h2.gt i a h h1.at_
    have := h1.le
    grind
section
variable {K : PySem.W.Frag} {C : CI} {Δ : Store} {P : D → Store → Prop}
theorem init_ok (F : Kf K C) {N M : Nat} {p : Pc} {r : List Pc} (c : Cv N M p r) (hN : N ≤ 900) (hM : M ≤ 900) {d : D} (hd : Pt C Δ d ((p :: r).map fun q => ptD (ptP q))) (h : P (crvD (p :: jn p.s r)) Δ) :
    W_Curve_d_init_d K C [.cell Δ.length, d, frD (lastS p r)] (Δ ++ [.ins 0 []]) fun v Δ2 => v = .non ∧ ∃ r', Δ2 = Δ ++ r' ∧ Z.below Δ.length (Z.frx C Δ2 Δ.length 4 (.cell Δ.length)) = true ∧ P (Z.frx C Δ2 Δ.length 4 (.cell Δ.length)) Δ := by
  have hls : 0 ≤ lastS p r := by rw [← last_pa]; exact c.s0 _ (pa_mem (Nat.le_refl _))
  unfold W_Curve_d_init_d z_Curve_d_init_d
  refine ⟨rfl, ?_⟩
  refine seq_cut fun rest hr => ?_
  walk_at "zz"
  refine arep_ok c (by omega) (by omega) (hd.app _) ?_
  walk_at "zz"
  refine ispz_ok hls ?_
  walk_at "zz"
  subst hr
  simp only [zSetF]
  walk_at "zz"
  refine pbt_ok c hN hM (hd.app _) ?_
  refine join_ok c.ch (by have := c.n200; omega) ?_
  generalize O.lst (List.take r.length (List.map pcD (p :: r))) = g
  have es : (Δ ++ [O.ins 0 []] ++ [g] ++ [O.lst (List.map pcD (p :: jn p.s r))]) = Δ ++ [O.ins 0 [], g, O.lst (List.map pcD (p :: jn p.s r))] := by simp
  have el : (Δ ++ [O.ins 0 []] ++ [g]).length = Δ.length + 2 := by simp
  have e0 : ∀ o : O, (Δ ++ [o, g, O.lst (List.map pcD (p :: jn p.s r))])[Δ.length]? = some o := fun o => by rw [List.getElem?_append_right (Nat.le_refl _), Nat.sub_self]; rfl
  have e2 : ∀ o : O, (Δ ++ [o, g, O.lst (List.map pcD (p :: jn p.s r))])[Δ.length + 2]? = some (O.lst (List.map pcD (p :: jn p.s r))) := fun o => by rw [List.getElem?_append_right (by omega), show Δ.length + 2 - Δ.length = 2 by omega]; rfl
  rw [es, el]
  refine ⟨_, e0 _, by decide, ?_⟩
  have eset : (Δ ++ [O.ins 0 [], g, O.lst (List.map pcD (p :: jn p.s r))]).set Δ.length (O.ins 0 (putFd (Str.ofString "_pieces") (D.cell (Δ.length + 2)) [])) = Δ ++ [O.ins 0 [(Str.ofString "_pieces", D.cell (Δ.length + 2))], g, O.lst (List.map pcD (p :: jn p.s r))] := by
    rw [List.set_append_right _ _ (Nat.le_refl _), Nat.sub_self]
    rfl
  rw [eset]
  have ef : Z.frx C (Δ ++ [O.ins 0 [(Str.ofString "_pieces", D.cell (Δ.length + 2))], g, O.lst (List.map pcD (p :: jn p.s r))]) Δ.length 4 (.cell Δ.length) = crvD (p :: jn p.s r) := by
    show (if Δ.length < Δ.length then D.cell Δ.length else _) = _
    rw [if_neg (Nat.lt_irrefl _)]
    simp only [e0]
    rw [if_pos (show [(Str.ofString "_pieces", D.cell (Δ.length + 2))].map (·.1) = C.nms 0 by rw [F.nms]; rfl)]
    show D.ins 0 [Z.frx C _ Δ.length 3 (.cell (Δ.length + 2))] = _
    have e3 : Z.frx C (Δ ++ [O.ins 0 [(Str.ofString "_pieces", D.cell (Δ.length + 2))], g, O.lst (List.map pcD (p :: jn p.s r))]) Δ.length 3 (.cell (Δ.length + 2)) = .lst ((p :: jn p.s r).map pcD) := by
      show (if Δ.length + 2 < Δ.length then D.cell (Δ.length + 2) else _) = _
      rw [if_neg (by omega)]
      simp only [e2]
      rw [List.map_map]
      congr 1
    rw [e3]
    rfl
  rw [ef]
  refine ⟨⟨_, rfl⟩, ?_, h⟩
  show (Z.belowL Δ.length ((p :: jn p.s r).map pcD) && true) = true
  rw [below_pcs]
  rfl
theorem crv_fld (F : Kf K C) {l : List Pc} : fldD C Δ 0 (Str.ofString "_pieces") (crvD l) = some (.lst (l.map pcD)) := by
  unfold fldD crvD
  rw [F.nms]
  rfl
/-- told.points: a new list -/
theorem valon_ok {p : Pc} {x : Rat} {N M : Nat} (hw : Sz p.w N M) (hv : Sz p.v N M) (hs : Sz p.s N M) (hx : Sz x N M) (hN : N ≤ 1200) (hM : M ≤ 1200) (h : P (frD (on p x)) Δ) : W_value_on K C [pcD p, frD x] Δ P := by
  unfold W_value_on z_value_on pcD
  walk_at "zz"
  refine minus_ok hx hw (by omega) (by omega) ?_
  have s1 := sz_sub hx hw (N := N + M + 1) (by omega) (by omega)
  refine times_ok (N := 2500) (M := 2500) (hs.mono (by omega) (by omega)) (s1.mono (by omega) (by omega)) (by omega) (by omega) ?_
  have s2 := sz_mul hs s1
  refine plus_ok (N := 3700) (M := 3700) (hv.mono (by omega) (by omega)) (s2.mono (by omega) (by omega)) (by omega) (by omega) ?_
  exact h
theorem last_ok {N M : Nat} {p : Pc} {r : List Pc} (hc : Ch p r) (hz : ∀ q ∈ p :: r, Sz q.w N M) (hn : r.length ≤ 1000) {x : Rat} (hx : Sz x N M) (hN : N ≤ 3900) (hM : M ≤ 3900) (h0 : p.w ≤ x)
    (h : ∀ i, i ≤ r.length → AtP (p :: r) x i (pa p r i) → P (.int (i : Nat)) Δ) : W_last_up_to K C [.lst ((p :: r).map fun q => frD q.w), frD x] Δ P := by
  have hl : ((p :: r).map fun q => frD q.w).length = r.length + 1 := by rw [List.length_map, List.length_cons]
  have hg : ∀ i, i ≤ r.length → ((p :: r).map fun q => frD q.w)[i]? = some (frD (pa p r i).w) := fun i hi => by rw [List.getElem?_map, pa_get hi]; rfl
  generalize ((p :: r).map fun q => frD q.w) = ds at *
  unfold W_last_up_to z_last_up_to
  walk_at "zz"
  simp only [zWhile]
  refine ⟨fun m Γ E => E = Δ ∧ ∃ (lo hi : Nat) (u4 : Option D), Γ = [some (.lst ds), some (frD x), some (.int (lo : Int)), some (.int (hi : Int)), u4] ∧ lo < hi ∧ hi ≤ r.length + 1 ∧ (pa p r lo).w ≤ x ∧ (∀ j q, hi ≤ j → (p :: r)[j]? = some q → x < q.w) ∧ m = hi - lo,
    ⟨r.length + 1, rfl, 0, r.length + 1, none, by rw [hl]; rfl, by omega, Nat.le_refl _, h0, fun j q hj hq => ?_, rfl⟩, ?_⟩
  · have := (List.getElem?_eq_some_iff.mp hq).1
    rw [List.length_cons] at this
    omega
  rintro m Γ E ⟨rfl, lo, hi, u4, rfl, h1, h2, h3, h4, rfl⟩
  walk_at "zz"
  refine ⟨fun hlt => ?_, fun hge => ?_⟩
  · refine ⟨divk (by decide) (by decide), ?_⟩
    have em : ((lo : Int) + (hi : Int)) / 2 = (((lo + hi) / 2 : Nat) : Int) := by omega
    rw [em]
    generalize hmid : (lo + hi) / 2 = mid
    have b1 : lo < mid := by omega
    have b2 : mid < hi := by omega
    refine ⟨_, atI_nat (hg mid (by omega)), ?_⟩
    refine pord_ok (hz _ (pa_mem (by omega))) hx hN hM ⟨_, rfl, fun hle => ⟨hi - mid, by omega, rfl, mid, rfl, hi, rfl, b2, h2, ord_le.mp hle, h4, rfl⟩, fun hgt => ⟨mid - lo, by omega, rfl, lo, rfl, mid, rfl, b1, by omega, h3, fun j q hj hq => ?_, rfl⟩⟩
    have hxm : x < (pa p r mid).w := by
      have : ¬ (pa p r mid).w ≤ x := fun q => hgt (ord_le.mpr q)
      grind
    rcases Nat.lt_or_eq_of_le hj with hj | hj
    · have := ch_lt hc hj (pa_get (p := p) (r := r) (i := mid) (by omega)) hq
      grind
    · subst hj
      rw [pa_get (by omega)] at hq
      rw [← Option.some.inj hq]
      exact hxm
  · have e : hi = lo + 1 := by omega
    exact h lo (by omega) ⟨pa_get (by omega), h3, fun j q hj hq => h4 j q (by omega) hq⟩
/-- told(width) -/
theorem call_ok (F : Kf K C) {N M : Nat} {p : Pc} {r : List Pc} (hc : Ch p r) (hw : ∀ q ∈ p :: r, Sz q.w N M) (hv : ∀ q ∈ p :: r, Sz q.v N M) (hs : ∀ q ∈ p :: r, Sz q.s N M) (hn : r.length ≤ 1000) {x : Rat} {d : D} (hd : IsW x d) (hx : Sz x N M) (hN : N ≤ 1200) (hM : M ≤ 1200) (h0 : p.w = 0) (x0 : 0 ≤ x)
    (h : P (frD (evl p r x)) Δ) : W_Curve_d_call_d K C [crvD (p :: r), d] Δ P := by
  unfold W_Curve_d_call_d z_Curve_d_call_d zFld
  refine ⟨rfl, ?_⟩
  refine seq_cut fun rest hr => ?_
  walk_at "zz"
  refine chkW_ok hd x0 ?_
  subst hr
  walk_at "zz"
  refine ⟨_, crv_fld F, ?_⟩
  refine asF_ok hd ?_
  unfold W_values_at z_values_at W_pieces_at z_pieces_at
  walk_at "zz"
  refine comp_map (g := pcD) (f := fun q => frD q.w) (p :: r) [] (by simp; omega) (fun q _ Q hq => ?_) ?_
  · unfold pcD
    walk_at "zz"
    exact hq
  obtain ⟨i, hi, ha⟩ := at_ex hc (show p.w ≤ x by rw [h0]; exact x0)
  refine comp_id (xs := [frD x]) (f := fun _ => pcD (pa p r i)) (by simp) (fun y hy Q hq => ?_) ?_
  · rw [List.mem_singleton] at hy
    subst hy
    walk_at "zz"
    refine last_ok hc hw hn hx (by omega) (by omega) (by rw [h0]; exact x0) fun j hj hb => ?_
    have e := at_uniq ha hb
    subst e
    exact ⟨_, _, rfl, rfl, _, atI_nat (i := i) (show (pcD p :: r.map pcD)[i]? = some (pcD (pa p r i)) from by show ((p :: r).map pcD)[i]? = _; rw [List.getElem?_map, pa_get hi]; rfl), hq⟩
  refine ⟨_, rfl, ?_⟩
  refine comp_id (xs := [D.tup [pcD (pa p r i), frD x]]) (f := fun _ => frD (on (pa p r i) x)) (by simp) (fun y hy Q hq => ?_) ?_
  · rw [List.mem_singleton] at hy
    subst hy
    walk_at "zz"
    have m := pa_mem (p := p) hi
    exact valon_ok (hw _ m) (hv _ m) (hs _ m) hx hN hM hq
  · refine ⟨_, rfl, _, atI_nat (i := 0) rfl, ?_⟩
    rw [← at_evl hc ha]
    exact h
end
end Bx

namespace Bx
open PySem PySem.Spec PyProof.Rows L2 Z
local macro_rules | `(tactic| walk_at "zz") => `(tactic| simp only [zSeq, zAsg, zRet, zRetN, zIfS, zNext, zDrop, zPar, zPar3, zAug, zDivmod, zIndex, zCatT, zSlT, zMeth, zVar, zC, zOp, zUn, zNeg, zI0, zI, zTest, zAnd, zOr, zNot, zAndV, zOrV, zNotV, zIf, zNil, zCons, zTup, zLst, zLstC, zgName, zgTup, zgCons, zgNil, zgSub, startZ, zCall, zCB, zChain, zIsN, zNotN, zNever,
  zAddA, zMulA, zRepeat, zCat, zIx, seqD, lstD, zMax2, zMin2, zAbs, zLen, zSum, zGcd, zInt, zYes, zBreak, zCont, zMin1, zMax1, zList, zListC, zLcC, zLc, ziR1, ziR2, ziList, ziTup, ziZip, ziEnum, wipeZ, zFor, zSl, zPart, zNoPart, zAppend, zLstR1, zLstR2, zCallBC, zCallBF, zBits, zTru, zProp, zCallO,
  at0, at1, at2, at3, at4, ix2_3, ix0_3, isNon_int, isNon_non, Bool.not_true, Bool.not_false,
  List.map_cons, List.map_nil, List.length_cons, List.length_nil, List.replicate_succ, List.replicate_zero, List.append_nil, List.nil_append, List.cons_append, List.getElem?_cons_zero, List.getElem?_cons_succ, List.set_cons_zero, List.set_cons_succ,
  Option.some.injEq, D.int.injEq, D.bl.injEq, D.tup.injEq, D.lst.injEq, D.str.injEq, D.cell.injEq, O.lst.injEq, reduceCtorEq, exists_eq_left', exists_eq_left, false_and, and_false, true_and, and_true, exists_false, or_false, false_or, exists_and_left, exists_eq', exists_and_right, List.cons.injEq, and_assoc, dec_not, dec_yes, nd_t, nd_f, t_t, t_f, f_t, f_f, true_implies, false_implies, implies_true, and_self, Nat.reduceAdd, Nat.reduceLeDiff, Nat.reduceSub, Nat.reduceLT])
local macro_rules | `(tactic| walk_at "zy") => `(tactic| try simp only [Option.some.injEq, D.int.injEq, D.bl.injEq, D.tup.injEq, D.lst.injEq, D.str.injEq, D.cell.injEq, O.lst.injEq, reduceCtorEq, exists_eq_left', exists_eq_left, false_and, and_false, true_and, and_true, exists_false, or_false, false_or, exists_and_left, exists_eq', exists_and_right, List.cons.injEq, and_assoc, dec_not, dec_yes, nd_t, nd_f, t_t, t_f, f_t, f_f, true_implies, false_implies, implies_true, and_self])
/-! ### curves compared -/
theorem eqv_i {i j : Int} : PyData.eqv (.int i) (.int j) = decide (i = j) := by
  simp only [PyData.eqv]
  exact Bool.eq_iff_iff.mpr (by simp)
theorem frQ {x y : Rat} : PyData.eqv (pd (frD x)) (pd (frD y)) = decide (x = y) := by
  show (PyData.eqv (.int x.num) (.int y.num) && (PyData.eqv (.int (x.den : Int)) (.int (y.den : Int)) && true)) = _
  rw [eqv_i, eqv_i, Bool.and_true, Bool.eq_iff_iff, Bool.and_eq_true, decide_eq_true_iff, decide_eq_true_iff, decide_eq_true_iff]
  constructor
  · rintro ⟨a, b⟩
    exact Rat.ext a (by omega)
  · rintro rfl
    exact ⟨rfl, rfl⟩
/-- lists that are told by items -/
theorem eqAll {α : Type} [DecidableEq α] {f : α → D} (hf : ∀ x y, PyData.eqv (pd (f x)) (pd (f y)) = decide (x = y)) : ∀ a b : List α, PyData.eqvAll (pds (a.map f)) (pds (b.map f)) = decide (a = b)
  | [], [] => rfl
  | [], _ :: _ => rfl
  | _ :: _, [] => rfl
  | x :: a, y :: b => by
    show (PyData.eqv (pd (f x)) (pd (f y)) && PyData.eqvAll (pds (a.map f)) (pds (b.map f))) = _
    rw [hf, eqAll hf a b, Bool.eq_iff_iff, Bool.and_eq_true, decide_eq_true_iff, decide_eq_true_iff, decide_eq_true_iff]
    constructor
    · rintro ⟨rfl, rfl⟩; rfl
    · intro h; injection h with h1 h2; exact ⟨h1, h2⟩
theorem ptQ (a b : Rat × Rat) : PyData.eqv (pd (ptD a)) (pd (ptD b)) = decide (a = b) := by
  show (PyData.eqv (pd (frD a.1)) (pd (frD b.1)) && (PyData.eqv (pd (frD a.2)) (pd (frD b.2)) && true)) = _
  rw [frQ, frQ, Bool.and_true, Bool.eq_iff_iff, Bool.and_eq_true, decide_eq_true_iff, decide_eq_true_iff, decide_eq_true_iff]
  constructor
  · rintro ⟨h1, h2⟩; exact Prod.ext h1 h2
  · rintro rfl; exact ⟨rfl, rfl⟩
theorem pcQ (a b : Pc) : PyData.eqv (pd (pcD a)) (pd (pcD b)) = decide (a = b) := by
  obtain ⟨w, v, s⟩ := a
  obtain ⟨w', v', s'⟩ := b
  show (PyData.eqv (pd (frD w)) (pd (frD w')) && (PyData.eqv (pd (frD v)) (pd (frD v')) && (PyData.eqv (pd (frD s)) (pd (frD s')) && true))) = _
  rw [frQ, frQ, frQ, Bool.and_true, Bool.eq_iff_iff, Bool.and_eq_true, Bool.and_eq_true, decide_eq_true_iff, decide_eq_true_iff, decide_eq_true_iff, decide_eq_true_iff]
  constructor
  · rintro ⟨rfl, rfl, rfl⟩; rfl
  · intro h; injection h with h1 h2 h3; exact ⟨h1, h2, h3⟩
theorem shp_list {α : Type} {f : α → D} (hf : ∀ x, plainD (f x) = true ∧ (pd (f x)).canLay0 = true ∧ (pd (f x)).depth ≤ 10) (l : List α) : shp (.lst (l.map f)) = true := by
  have h : ∀ l : List α, plainDs (l.map f) = true ∧ PyData.canLayAll0 (pds (l.map f)) = true ∧ PyData.depthAll (pds (l.map f)) ≤ 10 := by
    intro l
    induction l with
    | nil => exact ⟨rfl, rfl, Nat.zero_le _⟩
    | cons x l ih =>
      obtain ⟨a, b, c⟩ := hf x
      refine ⟨by show (plainD (f x) && plainDs (l.map f)) = true; rw [a, ih.1]; rfl, by show (PyData.canLay0 (pd (f x)) && PyData.canLayAll0 (pds (l.map f))) = true; rw [b, ih.2.1]; rfl, ?_⟩
      show max _ _ ≤ 10
      exact Nat.max_le.mpr ⟨c, ih.2.2⟩
  obtain ⟨a, b, c⟩ := h l
  show (plainDs (l.map f) && SeqAt.shaped (.list (pds (l.map f)))) = true
  rw [a]
  show (PyData.canLayAll0 (pds (l.map f)) && decide (PyData.depthAll (pds (l.map f)) + 1 ≤ 64)) = true
  rw [b, decide_eq_true (by omega)]
  rfl
theorem shp_pcs (l : List Pc) : shp (.lst (l.map pcD)) = true := shp_list (fun _ => ⟨rfl, rfl, Nat.le_of_ble_eq_true rfl⟩) l
theorem shp_pts (l : List (Rat × Rat)) : shp (.lst (l.map ptD)) = true := shp_list (fun _ => ⟨rfl, rfl, Nat.le_of_ble_eq_true rfl⟩) l
theorem rdk_map {α : Type} {f : α → D} {Δ : Store} {k : Nat} (hf : ∀ x, rdk Δ k (f x) = f x) (l : List α) : rdk Δ (k + 1) (.lst (l.map f)) = .lst (l.map f) := by
  show D.lst ((l.map f).map (rdk Δ k)) = _
  rw [List.map_map]
  congr 1
  exact List.map_congr_left fun x _ => hf x
theorem rdk_pcs {Δ : Store} (l : List Pc) : rdk Δ 3 (.lst (l.map pcD)) = .lst (l.map pcD) := rdk_map (fun _ => rfl) l
theorem rdk_pts {Δ : Store} (l : List (Rat × Rat)) : rdk Δ 3 (.lst (l.map ptD)) = .lst (l.map ptD) := rdk_map (fun _ => rfl) l
theorem rdk_ptc {Δ : Store} {n : Nat} {l : List (Rat × Rat)} (h : Δ[n]? = some (.lst (l.map ptD))) : rdk Δ 3 (.cell n) = .lst (l.map ptD) := by
  have e : rdk Δ 3 (.cell n) = .lst ((l.map ptD).map (rdk Δ 2)) := by
    show (match Δ[n]? with | some (O.lst ds) => D.lst (ds.map (rdk Δ 2)) | _ => D.cell n) = _
    rw [h]
  rw [e, List.map_map]
  congr 1
theorem eqD_pcs {a b : List Pc} : eqD (.lst (a.map pcD)) (.lst (b.map pcD)) = decide (a = b) := eqAll pcQ a b
theorem eqD_pts {a b : List (Rat × Rat)} : eqD (.lst (a.map ptD)) (.lst (b.map ptD)) = decide (a = b) := eqAll ptQ a b
section
variable {K : PySem.W.Frag} {C : CI} {Δ : Store} {P : D → Store → Prop}
theorem isi_crv (F : Kf K C) {l : List Pc} (p : P (.bl true) Δ) : zIsi K C [crvD l, .cls 0] Δ P := isi_own F.isi rfl p
end
end Bx

namespace Bx
open PySem PySem.Spec PyProof.Rows L2 Z
local macro_rules | `(tactic| walk_at "zz") => `(tactic| simp only [zSeq, zAsg, zRet, zRetN, zIfS, zNext, zDrop, zPar, zPar3, zAug, zDivmod, zIndex, zCatT, zSlT, zMeth, zVar, zC, zOp, zUn, zNeg, zI0, zI, zTest, zAnd, zOr, zNot, zAndV, zOrV, zNotV, zIf, zNil, zCons, zTup, zLst, zLstC, zgName, zgTup, zgCons, zgNil, zgSub, startZ, zCall, zCB, zChain, zIsN, zNotN, zNever,
  zAddA, zMulA, zRepeat, zCat, zIx, seqD, lstD, zMax2, zMin2, zAbs, zLen, zSum, zGcd, zInt, zYes, zBreak, zCont, zMin1, zMax1, zList, zListC, zLcC, zLc, ziR1, ziR2, ziList, ziTup, ziZip, ziEnum, wipeZ, zFor, zSl, zPart, zNoPart, zAppend, zLstR1, zLstR2, zCallBC, zCallBF, zBits, zTru, zProp, zCallO,
  at0, at1, at2, at3, at4, ix2_3, ix0_3, isNon_int, isNon_non, Bool.not_true, Bool.not_false,
  List.map_cons, List.map_nil, List.length_cons, List.length_nil, List.replicate_succ, List.replicate_zero, List.append_nil, List.nil_append, List.cons_append, List.getElem?_cons_zero, List.getElem?_cons_succ, List.set_cons_zero, List.set_cons_succ,
  Option.some.injEq, D.int.injEq, D.bl.injEq, D.tup.injEq, D.lst.injEq, D.str.injEq, D.cell.injEq, O.lst.injEq, reduceCtorEq, exists_eq_left', exists_eq_left, false_and, and_false, true_and, and_true, exists_false, or_false, false_or, exists_and_left, exists_eq', exists_and_right, List.cons.injEq, and_assoc, dec_not, dec_yes, nd_t, nd_f, t_t, t_f, f_t, f_f, true_implies, false_implies, implies_true, and_self, Nat.reduceAdd, Nat.reduceLeDiff, Nat.reduceSub, Nat.reduceLT])
local macro_rules | `(tactic| walk_at "zy") => `(tactic| try simp only [Option.some.injEq, D.int.injEq, D.bl.injEq, D.tup.injEq, D.lst.injEq, D.str.injEq, D.cell.injEq, O.lst.injEq, reduceCtorEq, exists_eq_left', exists_eq_left, false_and, and_false, true_and, and_true, exists_false, or_false, false_or, exists_and_left, exists_eq', exists_and_right, List.cons.injEq, and_assoc, dec_not, dec_yes, nd_t, nd_f, t_t, t_f, f_t, f_f, true_implies, false_implies, implies_true, and_self])
/-! ### drawn numbers: one denominator -/
def Rq (q : Int) (B : Nat) (x : Rat) : Prop := ∃ z : Int, x = Rat.divInt z q ∧ z.natAbs ≤ B
theorem Rq.mono {q : Int} {B B' : Nat} {x : Rat} (h : Rq q B x) (hb : B ≤ B') : Rq q B' x := by
  obtain ⟨z, e, hz⟩ := h
  exact ⟨z, e, Nat.le_trans hz hb⟩
theorem rq_sz {q : Int} {B N M : Nat} {x : Rat} (hq : q ≠ 0) (h : Rq q B x) (hB : B < 2 ^ N) (hM : q.natAbs ≤ 2 ^ M) : Sz x N M := by
  obtain ⟨z, rfl, hz⟩ := h
  exact sz_div hq (Nat.lt_of_le_of_lt hz hB) hM
theorem rq_add {q : Int} {A B : Nat} {x y : Rat} (hq : q ≠ 0) (hx : Rq q A x) (hy : Rq q B y) : Rq q (A + B) (x + y) := by
  obtain ⟨z, rfl, hz⟩ := hx
  obtain ⟨z', rfl, hz'⟩ := hy
  exact ⟨z + z', by rw [divQ, divQ, divQ, Rat.intCast_add]; grind, by have := Int.natAbs_add_le z z'; omega⟩
theorem rq_mul {p q : Int} {A B : Nat} {x y : Rat} (hx : Rq p A x) (hy : Rq q B y) : Rq (p * q) (A * B) (x * y) := by
  obtain ⟨z, rfl, hz⟩ := hx
  obtain ⟨z', rfl, hz'⟩ := hy
  exact ⟨z * z', Rat.divInt_mul_divInt _ _, by rw [Int.natAbs_mul]; exact Nat.mul_le_mul hz hz'⟩
theorem rq_div {a b k : Int} (hk : k ≠ 0) : Rq (b * k) (a.natAbs * k.natAbs) (Rat.divInt a b) := ⟨a * k, (Rat.divInt_mul_right hk).symm, by rw [Int.natAbs_mul]; exact Nat.le_refl _⟩
theorem div_nn {a b : Int} (ha : 0 ≤ a) (hb : 0 < b) : 0 ≤ Rat.divInt a b := (Rat.divInt_nonneg_iff_of_pos_right hb).mpr ha
theorem div_pos {a b : Int} (ha : 0 < a) (hb : 0 < b) : 0 < Rat.divInt a b := by
  have h := div_nn (Int.le_of_lt ha) hb
  have hne : Rat.divInt a b ≠ 0 := fun e => by
    rw [divQ] at e
    have h2 : ((b : Int) : Rat) ≠ 0 := Rat.ne_of_gt (Rat.intCast_pos.mpr hb)
    have h3 : (a : Rat) = 0 := by
      have := congrArg (· * (b : Rat)) e
      simp only [Rat.div_mul_cancel h2, Rat.zero_mul] at this
      exact this
    have := Rat.intCast_pos.mpr ha
    grind
  grind
theorem sm9 {b : Int} (h0 : 0 < b) (h1 : b ≤ 10 ^ 41) : b.natAbs < 2 ^ 8000 := Nat.lt_of_lt_of_le (natAbs_lt (n := 140) (by omega) (Int.lt_of_le_of_lt h1 (by decide))) (Nat.pow_le_pow_right (by decide) (by decide))
/-- the rises' denominator -/
abbrev qR : Int := 252000000000000000000000
theorem rise_rq {a b : Int} (a0 : 0 ≤ a) (a1 : a < 9) (b0 : 1 ≤ b) (b1 : b ≤ 9) : Rq qR (9 * 252000000000000000000000) (Rat.divInt a b) := by
  have key : ∀ k : Int, b * k = qR → 0 < k → Rq qR (9 * 252000000000000000000000) (Rat.divInt a b) := fun k e hk => by
    have h := rq_div (a := a) (b := b) (k := k) (by omega)
    rw [e] at h
    refine h.mono ?_
    have : k ≤ qR := by rw [← e]; exact (by have := Int.mul_le_mul_of_nonneg_right b0 (show 0 ≤ k by omega); omega)
    refine Nat.mul_le_mul (by omega) (by have e2 : qR = 252000000000000000000000 := rfl; omega)
  rcases (by omega : b = 1 ∨ b = 2 ∨ b = 3 ∨ b = 4 ∨ b = 5 ∨ b = 6 ∨ b = 7 ∨ b = 8 ∨ b = 9) with rfl | rfl | rfl | rfl | rfl | rfl | rfl | rfl | rfl
  · exact key 252000000000000000000000 rfl (by decide)
  · exact key 126000000000000000000000 rfl (by decide)
  · exact key 84000000000000000000000 rfl (by decide)
  · exact key 63000000000000000000000 rfl (by decide)
  · exact key 50400000000000000000000 rfl (by decide)
  · exact key 42000000000000000000000 rfl (by decide)
  · exact key 36000000000000000000000 rfl (by decide)
  · exact key 31500000000000000000000 rfl (by decide)
  · exact key 28000000000000000000000 rfl (by decide)
theorem e20 : (10 : Int) ^ Int.toNat 20 = 10 ^ 20 := rfl
section
variable {K : PySem.W.Frag} {C : CI} {Δ : Store} {P : D → Store → Prop}
theorem rise_ok {n : Nat} {c : Int} (hb : Spr Δ n c) (hc : c ≤ 10 ^ 18) (h : ∀ x Δ', 0 ≤ x → Rq qR (9 * 252000000000000000000000) x → Spr Δ' n (c + 8) → Off n Δ Δ' → P (frD x) Δ') : W__law_rise K C [.cell n] Δ P := by
  unfold W__law_rise z__law_rise
  walk_at "zz"
  refine dip2_ok hb (by omega) (by decide) (.inl (by decide)) fun a E1 a0 a1 s1 o1 => ?_
  refine dip2_ok s1 (by omega) (by decide) (.inl (by decide)) fun b E2 b0 b1 s2 o2 => ?_
  refine ⟨_, rfl, ?_⟩
  refine cut_ok (by omega) (sm9 (by omega) (by omega)) ?_
  refine ⟨pow_ok (by decide) (by decide) (by decide), ?_⟩
  rw [e20]
  refine dip2_ok s2 (by omega) (by decide) (.inl (by decide)) fun d E3 d0 d1 s3 o3 => ?_
  refine ⟨pow_ok (by decide) (by decide) (by decide), ?_⟩
  refine cut_ok (b := 10 ^ 20) (by decide) (sm9 (by decide) (by decide)) ?_
  refine dip2_ok s3 (by omega) (by decide) (.inl (by decide)) fun k E4 k0 k1 s4 o4 => ?_
  have oo := ((o1.trans o2).trans o3).trans o4
  have sp : Spr E4 n (c + 8) := s4.mono (by omega)
  have fin : ∀ x : Rat, 0 ≤ x → Rq qR (9 * 252000000000000000000000) x → P (frD x) E4 := fun x x0 hx => h x E4 x0 hx sp oo
  rcases (by omega : k = 0 ∨ k = 1 ∨ k = 2 ∨ k = 3) with rfl | rfl | rfl | rfl
  · exact ⟨_, _, rfl, rfl, _, atI_nat (i := 0) rfl, fin 0 Rat.le_refl ⟨0, (Rat.zero_divInt _).symm, Nat.zero_le _⟩⟩
  · exact ⟨_, _, rfl, rfl, _, atI_nat (i := 1) rfl, fin 1 (by decide) (by
      have := rise_rq (a := 1) (b := 1) (by decide) (by decide) (by decide) (by decide)
      rw [show Rat.divInt 1 1 = 1 by rfl] at this
      exact this)⟩
  · exact ⟨_, _, rfl, rfl, _, atI_nat (i := 2) rfl, fin _ (div_nn a0 (by omega)) (rise_rq a0 a1 (by omega) (by omega))⟩
  · refine ⟨_, _, rfl, rfl, _, atI_nat (i := 3) rfl, fin _ (div_nn d0 (by decide)) ?_⟩
    have := rq_div (a := d) (b := 10 ^ 20) (k := 2520) (by decide)
    exact this.mono (Nat.le_trans (Nat.mul_le_mul_right _ (show d.natAbs ≤ 10 ^ 20 by omega)) (by decide))
end
end Bx

namespace Bx
open PySem PySem.Spec PyProof.Rows L2 Z
local macro_rules | `(tactic| walk_at "zz") => `(tactic| simp only [zSeq, zAsg, zRet, zRetN, zIfS, zNext, zDrop, zPar, zPar3, zAug, zDivmod, zIndex, zCatT, zSlT, zMeth, zVar, zC, zOp, zUn, zNeg, zI0, zI, zTest, zAnd, zOr, zNot, zAndV, zOrV, zNotV, zIf, zNil, zCons, zTup, zLst, zLstC, zgName, zgTup, zgCons, zgNil, zgSub, startZ, zCall, zCB, zChain, zIsN, zNotN, zNever,
  zAddA, zMulA, zRepeat, zCat, zIx, seqD, lstD, zMax2, zMin2, zAbs, zLen, zSum, zGcd, zInt, zYes, zBreak, zCont, zMin1, zMax1, zList, zListC, zLcC, zLc, ziR1, ziR2, ziList, ziTup, ziZip, ziEnum, wipeZ, zFor, zSl, zPart, zNoPart, zAppend, zLstR1, zLstR2, zCallBC, zCallBF, zBits, zTru, zProp, zCallO,
  at0, at1, at2, at3, at4, ix2_3, ix0_3, isNon_int, isNon_non, Bool.not_true, Bool.not_false,
  List.map_cons, List.map_nil, List.length_cons, List.length_nil, List.replicate_succ, List.replicate_zero, List.append_nil, List.nil_append, List.cons_append, List.getElem?_cons_zero, List.getElem?_cons_succ, List.set_cons_zero, List.set_cons_succ,
  Option.some.injEq, D.int.injEq, D.bl.injEq, D.tup.injEq, D.lst.injEq, D.str.injEq, D.cell.injEq, O.lst.injEq, reduceCtorEq, exists_eq_left', exists_eq_left, false_and, and_false, true_and, and_true, exists_false, or_false, false_or, exists_and_left, exists_eq', exists_and_right, List.cons.injEq, and_assoc, dec_not, dec_yes, nd_t, nd_f, t_t, t_f, f_t, f_f, true_implies, false_implies, implies_true, and_self, Nat.reduceAdd, Nat.reduceLeDiff, Nat.reduceSub, Nat.reduceLT])
local macro_rules | `(tactic| walk_at "zy") => `(tactic| try simp only [Option.some.injEq, D.int.injEq, D.bl.injEq, D.tup.injEq, D.lst.injEq, D.str.injEq, D.cell.injEq, O.lst.injEq, reduceCtorEq, exists_eq_left', exists_eq_left, false_and, and_false, true_and, and_true, exists_false, or_false, false_or, exists_and_left, exists_eq', exists_and_right, List.cons.injEq, and_assoc, dec_not, dec_yes, nd_t, nd_f, t_t, t_f, f_t, f_f, true_implies, false_implies, implies_true, and_self])
/-! ### two lists of a call's own behind the old store, where only the spring changes -/
structure Two (n : Nat) (Δ E : Store) (c : Int) (fs rs : List D) : Prop where
  sp : Spr E n c
  lt : n < Δ.length
  len : E.length = Δ.length + 2
  old : ∀ m, m < Δ.length → m ≠ n → E[m]? = Δ[m]?
  f : E[Δ.length]? = some (.lst fs)
  r : E[Δ.length + 1]? = some (.lst rs)
theorem Two.off {n : Nat} {Δ E E' : Store} {c c' : Int} {fs rs : List D} (t : Two n Δ E c fs rs) (o : Off n E E') (s : Spr E' n c') : Two n Δ E' c' fs rs := by
  have := t.lt
  exact ⟨s, t.lt, o.len.trans t.len, fun m h1 h2 => (o.at_ m h2).trans (t.old m h1 h2), (o.at_ _ (by omega)).trans t.f, (o.at_ _ (by omega)).trans t.r⟩
theorem Spr.set {Δ : Store} {n m : Nat} {c : Int} {o : O} (h : Spr Δ n c) (hm : m ≠ n) : Spr (Δ.set m o) n c := by
  obtain ⟨x, y, z, e, h1⟩ := h
  exact ⟨x, y, z, by rw [List.getElem?_set_ne hm]; exact e, h1⟩
theorem Two.setF {n : Nat} {Δ E : Store} {c : Int} {fs rs fs' : List D} (t : Two n Δ E c fs rs) : Two n Δ (E.set Δ.length (.lst fs')) c fs' rs := by
  have := t.lt
  refine ⟨t.sp.set (by omega), t.lt, by rw [List.length_set]; exact t.len, fun m h1 h2 => ?_, set_get t.f _, ?_⟩
  · rw [List.getElem?_set_ne (by omega)]; exact t.old m h1 h2
  · rw [List.getElem?_set_ne (by omega)]; exact t.r
theorem Two.setR {n : Nat} {Δ E : Store} {c : Int} {fs rs rs' : List D} (t : Two n Δ E c fs rs) : Two n Δ (E.set (Δ.length + 1) (.lst rs')) c fs rs' := by
  have := t.lt
  refine ⟨t.sp.set (by omega), t.lt, by rw [List.length_set]; exact t.len, fun m h1 h2 => ?_, ?_, set_get t.r _⟩
  · rw [List.getElem?_set_ne (by omega)]; exact t.old m h1 h2
  · rw [List.getElem?_set_ne (by omega)]; exact t.f
theorem Two.new {n : Nat} {Δ E : Store} {c : Int} {fs rs : List D} (s : Spr E n c) (lt : n < Δ.length) (o : Off n Δ E) : Two n Δ (E ++ [.lst fs, .lst rs]) c fs rs := by
  have hl := o.len
  refine ⟨s.app _, lt, by rw [List.length_append, hl]; rfl, fun m h1 h2 => ?_, ?_, ?_⟩
  · rw [List.getElem?_append_left (by omega)]; exact o.at_ m h2
  · rw [List.getElem?_append_right (by omega), hl, Nat.sub_self]; rfl
  · rw [List.getElem?_append_right (by omega), hl, show Δ.length + 1 - Δ.length = 1 by omega]; rfl
theorem Two.mono {n : Nat} {Δ E : Store} {c c' : Int} {fs rs : List D} (t : Two n Δ E c fs rs) (h : c ≤ c') : Two n Δ E c' fs rs := ⟨t.sp.mono h, t.lt, t.len, t.old, t.f, t.r⟩
theorem rdk_cell {α : Type} {f : α → D} {E : Store} {m : Nat} {l : List α} (h : E[m]? = some (.lst (l.map f))) (hf : ∀ x, rdk E 2 (f x) = f x) : rdk E 3 (.cell m) = .lst (l.map f) := by
  have e : rdk E 3 (.cell m) = .lst ((l.map f).map (rdk E 2)) := by
    show (match E[m]? with | some (O.lst ds) => D.lst (ds.map (rdk E 2)) | _ => D.cell m) = _
    rw [h]
  rw [e, List.map_map]
  congr 1
  exact List.map_congr_left fun x _ => hf x
theorem frx_cell {α : Type} {C : CI} {f : α → D} {E : Store} {m k : Nat} {l : List α} (h : E[k]? = some (.lst (l.map f))) (hk : m ≤ k) (hf : ∀ x, Z.frx C E m 2 (f x) = f x) : Z.frx C E m 3 (.cell k) = .lst (l.map f) := by
  have e : Z.frx C E m 3 (.cell k) = .lst ((l.map f).map (Z.frx C E m 2)) := by
    show (if k < m then D.cell k else match E[k]? with | some (O.lst ds) => D.lst (ds.map (Z.frx C E m 2)) | some (O.ins c fs) => if fs.map (·.1) = C.nms c then .ins c ((fs.map (·.2)).map (Z.frx C E m 2)) else .cell k | _ => .cell k) = _
    rw [if_neg (by omega), h]
  rw [e, List.map_map]
  congr 1
  exact List.map_congr_left fun x _ => hf x
theorem belowL_map {α : Type} {f : α → D} {m : Nat} (hf : ∀ x, Z.below m (f x) = true) : ∀ l : List α, Z.belowL m (l.map f) = true
  | [] => rfl
  | x :: l => by
    show (Z.below m (f x) && Z.belowL m (l.map f)) = true
    rw [hf, belowL_map hf l]
    rfl
theorem Two.take {n : Nat} {Δ E : Store} {c : Int} {fs rs : List D} (t : Two n Δ E c fs rs) : Off n Δ (E.take Δ.length) ∧ Spr (E.take Δ.length) n c := by
  have hl := t.len
  refine ⟨⟨by rw [List.length_take]; omega, fun m h => ?_⟩, ?_⟩
  · rw [List.getElem?_take]
    split
    · rename_i hm; exact t.old m hm h
    · rename_i hm; rw [List.getElem?_eq_none (by omega)]
  · obtain ⟨x, y, z, e, h1⟩ := t.sp
    exact ⟨x, y, z, by rw [List.getElem?_take, if_pos t.lt]; exact e, h1⟩
theorem Two.below {n : Nat} {Δ E : Store} {c : Int} {fs rs : List D} (t : Two n Δ E c fs rs) : ∀ (m : Nat) (o : O), m < Δ.length → E[m]? = some o → Δ[m]? = some o ∨ blwO Δ.length o = true := fun m o hm he => by
  by_cases h : m = n
  · subst h
    obtain ⟨x, y, z, e, _⟩ := t.sp
    rw [e] at he
    cases he
    exact .inr rfl
  · rw [t.old m hm h] at he
    exact .inl he
/-! ### a row is drawn -/
def ChL : List Pc → Prop
  | [] => True
  | p :: r => Ch p r
theorem ch_snoc {b : Pc} : ∀ {l : List Pc} {p a : Pc}, Ch p (l ++ [a]) → a.w < b.w → b.v = on a b.w → Ch p (l ++ [a] ++ [b]) := by
  intro l
  induction l with
  | nil => intro p a h h1 h2; exact ⟨h.1, h.2.1, h1, h2, trivial⟩
  | cons q l ih => intro p a h h1 h2; exact ⟨h.1, h.2.1, ih h.2.2 h1 h2⟩
theorem chl_snoc {l : List Pc} {a b : Pc} (h : ChL (l ++ [a])) (h1 : a.w < b.w) (h2 : b.v = on a b.w) : ChL (l ++ [a] ++ [b]) := by
  cases l with
  | nil => exact ⟨h1, h2, trivial⟩
  | cons p l => exact ch_snoc h h1 h2
theorem ch_slope {s s' w v : Rat} : ∀ {l : List Pc} {p : Pc}, Ch p (l ++ [⟨w, v, s⟩]) → Ch p (l ++ [⟨w, v, s'⟩]) := by
  intro l
  induction l with
  | nil => intro p h; exact ⟨h.1, h.2.1, trivial⟩
  | cons q l ih => intro p h; exact ⟨h.1, h.2.1, ih h.2.2⟩
theorem chl_slope {l : List Pc} {s s' w v : Rat} (h : ChL (l ++ [⟨w, v, s⟩])) : ChL (l ++ [⟨w, v, s'⟩]) := by
  cases l with
  | nil => trivial
  | cons p l => exact ch_slope h
/-- what a drawn row keeps: k pieces, and the point behind them -/
structure Drw (l : List Pc) (k : Nat) (w v : Rat) : Prop where
  n : l.length = k
  ch : ∀ s, ChL (l ++ [⟨w, v, s⟩])
  w0 : ∀ s, ((l ++ [(⟨w, v, s⟩ : Pc)]).map Pc.w).head? = some 0
  nn : ∀ q ∈ l, 0 ≤ q.v ∧ 0 ≤ q.s ∧ Sz q.w 200 200 ∧ Sz q.v 200 200 ∧ Sz q.s 200 200
  v0 : 0 ≤ v
  rs : ∀ q ∈ l, Rq qR (9 * 252000000000000000000000) q.s
  qw : Rq 60 (k * (60 * 10 ^ 21)) w
  qv : Rq (60 * qR) ((k + 1) * (10 ^ 50)) v
theorem Drw.zw {l : List Pc} {k : Nat} {w v : Rat} (d : Drw l k w v) (hk : k ≤ 1000) : Sz w 200 200 := by
  refine (rq_sz (N := 200) (M := 6) (by decide) d.qw ?_ (by decide)).mono (Nat.le_refl _) (by decide)
  exact Nat.lt_of_le_of_lt (Nat.mul_le_mul_right (60 * 10 ^ 21) hk) (by decide)
theorem Drw.zv {l : List Pc} {k : Nat} {w v : Rat} (d : Drw l k w v) (hk : k ≤ 1000) : Sz v 200 200 := by
  refine (rq_sz (N := 200) (M := 100) (by decide) d.qv ?_ (by decide)).mono (Nat.le_refl _) (by decide)
  exact Nat.lt_of_le_of_lt (Nat.mul_le_mul_right (10 ^ 50) (show k + 1 ≤ 1001 by omega)) (by decide)
theorem Drw.step {l : List Pc} {k : Nat} {w v s t : Rat} (d : Drw l k w v) (hk : k ≤ 1000) (s0 : 0 ≤ s) (hs : Rq qR (9 * 252000000000000000000000) s) (t0 : 0 < t) (ht : Rq 60 (60 * 10 ^ 21) t) : Drw (l ++ [⟨w, v, s⟩]) (k + 1) (w + t) (v + s * t) := by
  have st0 : 0 ≤ s * t := mul_nn s0 (Rat.le_of_lt t0)
  refine ⟨by rw [List.length_append, d.n]; rfl, fun s' => chl_snoc (d.ch s) ?_ ?_, fun s' => ?_, fun q hq => ?_, ?_, ?_, ?_, ?_⟩
  · show w < w + t
    grind
  · show v + s * t = v + s * (w + t - w)
    grind
  · have h := d.w0 s
    rw [List.map_append] at h ⊢
    cases l with
    | nil => exact h
    | cons a l => exact h
  · rcases List.mem_append.mp hq with hq | hq
    · exact d.nn q hq
    · rw [List.mem_singleton] at hq
      subst hq
      refine ⟨d.v0, s0, d.zw hk, d.zv hk, (rq_sz (N := 200) (M := 100) (by decide) hs (by decide) (by decide)).mono (Nat.le_refl _) (by decide)⟩
  · have := d.v0
    grind
  · intro q hq
    rcases List.mem_append.mp hq with hq | hq
    · exact d.rs q hq
    · rw [List.mem_singleton] at hq
      subst hq
      exact hs
  · refine (rq_add (by decide) d.qw ht).mono ?_
    exact Nat.le_of_eq (Nat.succ_mul k (60 * 10 ^ 21)).symm
  · have h := rq_mul hs ht
    have e : qR * 60 = 60 * qR := Int.mul_comm _ _
    rw [e] at h
    refine (rq_add (by decide) d.qv h).mono ?_
    have h2 : 9 * 252000000000000000000000 * (60 * 10 ^ 21) ≤ 10 ^ 50 := by decide
    rw [Nat.succ_mul (k + 1)]
    exact Nat.add_le_add_left h2 _
end Bx

namespace Bx
open PySem PySem.Spec PyProof.Rows L2 Z
local macro_rules | `(tactic| walk_at "zz") => `(tactic| simp only [zSeq, zAsg, zRet, zRetN, zIfS, zNext, zDrop, zPar, zPar3, zAug, zDivmod, zIndex, zCatT, zSlT, zMeth, zVar, zC, zOp, zUn, zNeg, zI0, zI, zTest, zAnd, zOr, zNot, zAndV, zOrV, zNotV, zIf, zNil, zCons, zTup, zLst, zLstC, zgName, zgTup, zgCons, zgNil, zgSub, startZ, zCall, zCB, zChain, zIsN, zNotN, zNever,
  zAddA, zMulA, zRepeat, zCat, zIx, seqD, lstD, zMax2, zMin2, zAbs, zLen, zSum, zGcd, zInt, zYes, zBreak, zCont, zMin1, zMax1, zList, zListC, zLcC, zLc, ziR1, ziR2, ziList, ziTup, ziZip, ziEnum, wipeZ, zFor, zSl, zPart, zNoPart, zAppend, zLstR1, zLstR2, zCallBC, zCallBF, zBits, zTru, zProp, zCallO,
  at0, at1, at2, at3, at4, ix2_3, ix0_3, isNon_int, isNon_non, Bool.not_true, Bool.not_false,
  List.map_cons, List.map_nil, List.length_cons, List.length_nil, List.replicate_succ, List.replicate_zero, List.append_nil, List.nil_append, List.cons_append, List.getElem?_cons_zero, List.getElem?_cons_succ, List.set_cons_zero, List.set_cons_succ,
  Option.some.injEq, D.int.injEq, D.bl.injEq, D.tup.injEq, D.lst.injEq, D.str.injEq, D.cell.injEq, O.lst.injEq, reduceCtorEq, exists_eq_left', exists_eq_left, false_and, and_false, true_and, and_true, exists_false, or_false, false_or, exists_and_left, exists_eq', exists_and_right, List.cons.injEq, and_assoc, dec_not, dec_yes, nd_t, nd_f, t_t, t_f, f_t, f_f, true_implies, false_implies, implies_true, and_self, Nat.reduceAdd, Nat.reduceLeDiff, Nat.reduceSub, Nat.reduceLT])
local macro_rules | `(tactic| walk_at "zy") => `(tactic| try simp only [Option.some.injEq, D.int.injEq, D.bl.injEq, D.tup.injEq, D.lst.injEq, D.str.injEq, D.cell.injEq, O.lst.injEq, reduceCtorEq, exists_eq_left', exists_eq_left, false_and, and_false, true_and, and_true, exists_false, or_false, false_or, exists_and_left, exists_eq', exists_and_right, List.cons.injEq, and_assoc, dec_not, dec_yes, nd_t, nd_f, t_t, t_f, f_t, f_f, true_implies, false_implies, implies_true, and_self])
section
variable {K : PySem.W.Frag} {C : CI} {Δ : Store} {P : D → Store → Prop}
theorem step_rq {a b : Int} (a0 : 1 ≤ a) (a1 : a ≤ 10 ^ 20 + 1) (b0 : 1 ≤ b) (b1 : b ≤ 5) : Rq 60 (60 * 10 ^ 21) (Rat.divInt a b) := by
  have key : ∀ k : Int, b * k = 60 → 0 < k → Rq 60 (60 * 10 ^ 21) (Rat.divInt a b) := fun k e hk => by
    have h := rq_div (a := a) (b := b) (k := k) (by omega)
    rw [e] at h
    refine h.mono ?_
    have : k ≤ 60 := by have := Int.mul_le_mul_of_nonneg_right b0 (show 0 ≤ k by omega); omega
    rw [Nat.mul_comm]
    exact Nat.mul_le_mul (by omega) (by omega)
  rcases (by omega : b = 1 ∨ b = 2 ∨ b = 3 ∨ b = 4 ∨ b = 5) with rfl | rfl | rfl | rfl | rfl
  · exact key 60 rfl (by decide)
  · exact key 30 rfl (by decide)
  · exact key 20 rfl (by decide)
  · exact key 15 rfl (by decide)
  · exact key 12 rfl (by decide)
theorem first_rq {a b : Int} (a0 : 0 ≤ a) (a1 : a ≤ 10 ^ 20) (b0 : 1 ≤ b) (b1 : b ≤ 3) : Rq (60 * qR) (10 ^ 50) (Rat.divInt a b) := by
  have key : ∀ k : Int, b * k = 60 * qR → 0 < k → Rq (60 * qR) (10 ^ 50) (Rat.divInt a b) := fun k e hk => by
    have h := rq_div (a := a) (b := b) (k := k) (by omega)
    rw [e] at h
    refine h.mono ?_
    have : k ≤ 60 * qR := by rw [← e]; have := Int.mul_le_mul_of_nonneg_right b0 (show 0 ≤ k by omega); omega
    have e2 : (60 * qR : Int) = 15120000000000000000000000 := by decide
    have h1 : a.natAbs * k.natAbs ≤ 10 ^ 20 * 15120000000000000000000000 := Nat.mul_le_mul (by omega) (by omega)
    exact Nat.le_trans h1 (by decide)
  rcases (by omega : b = 1 ∨ b = 2 ∨ b = 3) with rfl | rfl | rfl
  · exact key 15120000000000000000000000 (by decide) (by decide)
  · exact key 7560000000000000000000000 (by decide) (by decide)
  · exact key 5040000000000000000000000 (by decide) (by decide)
/-- a row that was drawn -/
def DrawnR (n : Nat) (Δ : Store) (c : Int) (many : Nat) (P : D → Store → Prop) : Prop := ∀ (p : Pc) (r : List Pc) (Δ' : Store), Cv 200 200 p r → r.length = many → Spr Δ' n (c + 5000) → Off n Δ Δ' → P (.tup [.lst ((p :: r).map fun q => ptD (ptP q)), .lst ((p :: r).map fun q => frD q.s)]) Δ'
theorem drawn_ok {n : Nat} {c wide : Int} {many : Nat} (hb : Spr Δ n c) (hc : c ≤ 10 ^ 17) (hm : many ≤ 198) (w1 : 1 ≤ wide) (w2 : wide ≤ 10 ^ 20) (h : DrawnR n Δ c many P) : frzX C (W__law_drawn K C) [.cell n, .int (many : Int), .int wide] Δ P := by
  unfold frzX W__law_drawn z__law_drawn
  refine ⟨rfl, ?_⟩
  refine seq_cut fun rest hr => ?_
  walk_at "zz"
  refine dip2_ok hb (by omega) w1 (.inl (by omega)) fun a E1 a0 a1 s1 o1 => ?_
  refine dip2_ok s1 (by omega) (by decide) (.inl (by decide)) fun b E2 b0 b1 s2 o2 => ?_
  refine ⟨_, rfl, ?_⟩
  refine cut_ok (by omega) (sm9 (by omega) (by omega)) ?_
  have oo := o1.trans o2
  have tw : Two n Δ (E2 ++ [O.lst [D.tup [D.tup [D.int 0, D.int 1], frD (Rat.divInt a (1 + b))]], O.lst []]) (c + 4) (([] : List Pc).map (fun q => ptD (ptP q)) ++ [ptD (0, Rat.divInt a (1 + b))]) (([] : List Pc).map fun q => frD q.s) := Two.new (s2.mono (by omega)) hb.lt oo
  have el : (E2 ++ [O.lst [D.tup [D.tup [D.int 0, D.int 1], frD (Rat.divInt a (1 + b))]]]).length = Δ.length + 1 := by rw [List.length_append, oo.len]; rfl
  have ee : E2 ++ [O.lst [D.tup [D.tup [D.int 0, D.int 1], frD (Rat.divInt a (1 + b))]]] ++ [O.lst []] = E2 ++ [O.lst [D.tup [D.tup [D.int 0, D.int 1], frD (Rat.divInt a (1 + b))]], O.lst []] := by rw [List.append_assoc]; rfl
  rw [el, ee, oo.len]
  have d0 : Drw [] 0 0 (Rat.divInt a (1 + b)) := ⟨rfl, fun _ => trivial, fun _ => rfl, (fun q hq => nomatch hq), div_nn a0 (by omega), (fun q hq => nomatch hq), ⟨0, (Rat.zero_divInt _).symm, Nat.zero_le _⟩, (first_rq a0 (by omega) (by omega) (by omega)).mono (by decide)⟩
  generalize (E2 ++ [O.lst [D.tup [D.tup [D.int 0, D.int 1], frD (Rat.divInt a (1 + b))]], O.lst []]) = E at *
  subst hr
  refine seq_cut fun rest hr => ?_
  refine for_cut fun body hB => ?_
  walk_at "zz"
  refine ⟨by omega, by omega, ?_⟩
  rw [range_int, show ((many : Int)).toNat = many by omega]
  refine loop_inv (fun k Γ E => ∃ l w v u5 u6 u7, Drw l k w v ∧ Two n Δ E (c + 4 + 20 * k) (l.map (fun q => ptD (ptP q)) ++ [ptD (w, v)]) (l.map fun q => frD q.s) ∧ Γ = [some (.cell n), some (.int (many : Int)), some (.int wide), some (.cell Δ.length), some (.cell (Δ.length + 1)), u5, u6, u7]) _ 0 _ _ ⟨[], 0, _, none, none, none, d0, by rw [show (c + 4 + 20 * ((0 : Nat) : Int)) = c + 4 by omega]; exact tw, rfl⟩ ?_ ?_
  · rintro i x Γ E Z' hx ⟨l, w, v, u5, u6, u7, dr, tw, rfl⟩ hn' hc' hr' hk'
    have hi : i < many := by
      have := (List.getElem?_eq_some_iff.mp hx).1
      simpa using this
    rw [List.getElem?_map, List.getElem?_range hi] at hx
    have ex : x = D.int (i : Int) := (Option.some.inj hx).symm
    subst ex hB
    rw [Nat.zero_add] at *
    simp only [zgName, List.set_cons_succ, List.set_cons_zero]
    refine seq_cut fun rest2 hr2 => ?_
    walk_at "zz"
    refine rise_ok tw.sp (by omega) fun s E3 s0 sq s3 o3 => ?_
    have t3 := tw.off o3 s3
    subst hr2
    refine seq_cut fun rest2 hr2 => ?_
    -- whichever the rise is
    have go : ∀ (E4 : Store) (s' : Rat), 0 ≤ s' → Rq qR (9 * 252000000000000000000000) s' → Two n Δ E4 (c + 4 + 20 * i + 10) (l.map (fun q => ptD (ptP q)) ++ [ptD (w, v)]) (l.map fun q => frD q.s) → rest2 [some (.cell n), some (.int (many : Int)), some (.int wide), some (.cell Δ.length), some (.cell (Δ.length + 1)), some (.int (i : Int)), some (frD s'), u7] E4 := fun E4 s' s0' sq' t4 => by
      subst hr2
      refine seq_cut fun rest3 hr3 => ?_
      walk_at "zz"
      refine dip2_ok t4.sp (by omega) w1 (.inl (by omega)) fun a E5 a0 a1 s5 o5 => ?_
      refine ⟨_, rfl, ?_⟩
      refine dip2_ok s5 (by omega) (by decide) (.inl (by decide)) fun b E6 b0 b1 s6 o6 => ?_
      have t6 := (t4.off o5 s5).off o6 s6
      refine ⟨_, rfl, ?_⟩
      refine cut_ok (by omega) (sm9 (by omega) (by omega)) ?_
      subst hr3
      refine seq_cut fun rest3 hr3 => ?_
      walk_at "zz"
      have t0 : 0 < Rat.divInt (1 + a) (1 + b) := div_pos (by omega) (by omega)
      have tq := step_rq (a := 1 + a) (b := 1 + b) (by omega) (by omega) (by omega) (by omega)
      generalize Rat.divInt (1 + a) (1 + b) = t at *
      have tz : Sz t 200 200 := (rq_sz (N := 200) (M := 200) (by decide) tq (by decide) (by decide))
      have sz' : Sz s' 200 200 := (rq_sz (N := 200) (M := 200) (by decide) sq' (by decide) (by decide))
      have zw := dr.zw (by omega)
      have zv := dr.zv (by omega)
      have hll := dr.n
      refine ⟨⟨_, t6.r⟩, _, t6.r, by rw [List.length_map]; omega, ?_⟩
      have t7 := t6.setR (rs' := (l.map fun q => frD q.s) ++ [frD s'])
      generalize E6.set (Δ.length + 1) (.lst ((l.map fun q => frD q.s) ++ [frD s'])) = E7 at *
      subst hr3
      walk_at "zz"
      rw [t7.f]
      refine ⟨⟨_, rfl⟩, _, rfl, ptD (w, v), atI_last _ _, _, rfl, _, atI_nat (i := 0) rfl, ?_⟩
      refine lplus_ok zw tz (by omega) (by omega) ?_
      refine ⟨_, by rw [t7.f], ptD (w, v), atI_last _ _, _, rfl, _, atI_nat (i := 1) rfl, ?_⟩
      refine lprod_ok sz' tz (by omega) (by omega) ?_
      refine lplus_ok (N := 400) (M := 400) (zv.mono (by omega) (by omega)) (sz_mul sz' tz) (by omega) (by omega) ?_
      refine ⟨_, t7.f, by rw [List.length_append, List.length_map]; show _ + 1 < _; omega, ?_⟩
      refine hn' _ _ ⟨l ++ [⟨w, v, s'⟩], w + t, v + s' * t, _, _, _, dr.step (by omega) s0' sq' t0 tq, ?_, rfl⟩
      have t8 := t7.setF (fs' := (l.map (fun q => ptD (ptP q)) ++ [ptD (w, v)]) ++ [D.tup [frD (w + t), frD (v + s' * t)]])
      refine (show Two n Δ _ (c + 4 + 20 * i + 14) _ _ from ?_).mono (by omega)
      rw [List.map_append, List.map_append]
      exact t8.mono (by omega)
    walk_at "zz"
    have er := rdk_cell (f := fun q : Pc => frD q.s) t3.r (fun _ => rfl)
    refine ⟨by rw [er]; exact shp_list (f := fun q : Pc => frD q.s) (fun _ => ⟨rfl, rfl, Nat.le_of_ble_eq_true rfl⟩) l, rfl, _, rfl, fun hne => ?_, fun _ => go E3 s s0 sq (t3.mono (by omega))⟩
    have hl : l ≠ [] := fun e => by
      rw [er, e] at hne
      exact nomatch hne
    obtain ⟨q, hq⟩ : ∃ q, l.getLast? = some q := ⟨_, List.getLast?_eq_some_getLast hl⟩
    have hm : q ∈ l := List.mem_of_getLast? hq
    refine dip2_ok t3.sp (by omega) (by decide) (.inl (by decide)) fun b E4 b0 b1 s4 o4 => ?_
    have t4 := t3.off o4 s4
    refine ⟨rfl, rfl, _, rfl, fun _ => ?_, fun _ => go E4 s s0 sq (t4.mono (by omega))⟩
    rw [t4.r]
    refine ⟨_, rfl, frD q.s, atI_end (by rw [List.getLast?_map, hq]; rfl), go E4 q.s (dr.nn q hm).2.1 (dr.rs q hm) (t4.mono (by omega))⟩
  · rintro Γ E ⟨l, w, v, u5, u6, u7, dr, tw, rfl⟩
    subst hr
    have hk : (0 + (List.map (fun i : Nat => D.int (i : Int)) (List.range many)).length) = many := by simp
    rw [hk] at dr tw
    show zSeq (zDrop (zAppend (zVar 4) (zCons (zCall (W__law_rise K C) [] (zCons (zVar 0) zNil)) zNil))) (zRet (zTup (zCons (zVar 3) (zCons (zVar 4) zNil)))) _ _ E
    walk_at "zz"
    refine ⟨⟨_, tw.r⟩, ?_⟩
    refine rise_ok tw.sp (by omega) fun s E3 s0 sq s3 o3 => ?_
    have t3 := tw.off o3 s3
    have hll := dr.n
    refine ⟨_, t3.r, by rw [List.length_map]; omega, ?_⟩
    have t4 := t3.setR (rs' := (l.map fun q => frD q.s) ++ [frD s])
    generalize E3.set (Δ.length + 1) (.lst ((l.map fun q => frD q.s) ++ [frD s])) = E4 at *
    have ef : (l.map (fun q => ptD (ptP q)) ++ [ptD (w, v)]) = (l ++ [(⟨w, v, s⟩ : Pc)]).map fun q => ptD (ptP q) := by rw [List.map_append]; rfl
    have er : (l.map (fun q : Pc => frD q.s) ++ [frD s]) = (l ++ [(⟨w, v, s⟩ : Pc)]).map fun q => frD q.s := by rw [List.map_append]; rfl
    rw [ef, er] at t4
    have e1 : Z.frx C E4 Δ.length 4 (.tup [.cell Δ.length, .cell (Δ.length + 1)]) = .tup [.lst ((l ++ [(⟨w, v, s⟩ : Pc)]).map fun q => ptD (ptP q)), .lst ((l ++ [(⟨w, v, s⟩ : Pc)]).map fun q => frD q.s)] := by
      show D.tup [Z.frx C E4 Δ.length 3 (.cell Δ.length), Z.frx C E4 Δ.length 3 (.cell (Δ.length + 1))] = _
      rw [frx_cell (f := fun q : Pc => ptD (ptP q)) t4.f (Nat.le_refl _) (fun _ => rfl), frx_cell (f := fun q : Pc => frD q.s) t4.r (by omega) (fun _ => rfl)]
    rw [e1]
    refine ⟨t4.below, ?_, ?_⟩
    · show (Z.belowL Δ.length ((l ++ [(⟨w, v, s⟩ : Pc)]).map fun q => ptD (ptP q)) && (Z.belowL Δ.length ((l ++ [(⟨w, v, s⟩ : Pc)]).map fun q => frD q.s) && true)) = true
      rw [belowL_map (fun _ => rfl), belowL_map (fun _ => rfl)]
      rfl
    · obtain ⟨oT, sT⟩ := t4.take
      have hch := dr.ch s
      have hw0 := dr.w0 s
      have hin : ∀ q ∈ l ++ [(⟨w, v, s⟩ : Pc)], 0 ≤ q.v ∧ 0 ≤ q.s ∧ Sz q.w 200 200 ∧ Sz q.v 200 200 ∧ Sz q.s 200 200 := fun q hq => by
        rcases List.mem_append.mp hq with hq | hq
        · exact dr.nn q hq
        · rw [List.mem_singleton] at hq
          subst hq
          exact ⟨dr.v0, s0, dr.zw (by omega), dr.zv (by omega), rq_sz (N := 200) (M := 200) (by decide) sq (by decide) (by decide)⟩
      have hlen : (l ++ [(⟨w, v, s⟩ : Pc)]).length = many + 1 := by rw [List.length_append, hll]; rfl
      generalize l ++ [(⟨w, v, s⟩ : Pc)] = L at *
      cases L with
      | nil => cases hlen
      | cons p r =>
        have hr : r.length = many := by rw [List.length_cons] at hlen; omega
        exact h p r _ ⟨hch, Option.some.inj hw0, by omega, fun q hq => (hin q hq).1, fun q hq => (hin q hq).2.1, fun q hq => (hin q hq).2.2.1, fun q hq => (hin q hq).2.2.2.1, fun q hq => (hin q hq).2.2.2.2⟩ hr (sT.mono (by omega)) oT
end
end Bx

namespace Bx
open PySem PySem.Spec PyProof.Rows L2 Z
local macro_rules | `(tactic| walk_at "zz") => `(tactic| simp only [zSeq, zAsg, zRet, zRetN, zIfS, zNext, zDrop, zPar, zPar3, zAug, zDivmod, zIndex, zCatT, zSlT, zMeth, zVar, zC, zOp, zUn, zNeg, zI0, zI, zTest, zAnd, zOr, zNot, zAndV, zOrV, zNotV, zIf, zNil, zCons, zTup, zLst, zLstC, zgName, zgTup, zgCons, zgNil, zgSub, startZ, zCall, zCB, zChain, zIsN, zNotN, zNever,
  zAddA, zMulA, zRepeat, zCat, zIx, seqD, lstD, zMax2, zMin2, zAbs, zLen, zSum, zGcd, zInt, zYes, zBreak, zCont, zMin1, zMax1, zList, zListC, zLcC, zLc, ziR1, ziR2, ziList, ziTup, ziZip, ziEnum, wipeZ, zFor, zSl, zPart, zNoPart, zAppend, zLstR1, zLstR2, zCallBC, zCallBF, zBits, zTru, zProp, zCallO,
  at0, at1, at2, at3, at4, ix2_3, ix0_3, isNon_int, isNon_non, Bool.not_true, Bool.not_false,
  List.map_cons, List.map_nil, List.length_cons, List.length_nil, List.replicate_succ, List.replicate_zero, List.append_nil, List.nil_append, List.cons_append, List.getElem?_cons_zero, List.getElem?_cons_succ, List.set_cons_zero, List.set_cons_succ,
  Option.some.injEq, D.int.injEq, D.bl.injEq, D.tup.injEq, D.lst.injEq, D.str.injEq, D.cell.injEq, O.lst.injEq, reduceCtorEq, exists_eq_left', exists_eq_left, false_and, and_false, true_and, and_true, exists_false, or_false, false_or, exists_and_left, exists_eq', exists_and_right, List.cons.injEq, and_assoc, dec_not, dec_yes, nd_t, nd_f, t_t, t_f, f_t, f_f, true_implies, false_implies, implies_true, and_self, Nat.reduceAdd, Nat.reduceLeDiff, Nat.reduceSub, Nat.reduceLT])
local macro_rules | `(tactic| walk_at "zy") => `(tactic| try simp only [Option.some.injEq, D.int.injEq, D.bl.injEq, D.tup.injEq, D.lst.injEq, D.str.injEq, D.cell.injEq, O.lst.injEq, reduceCtorEq, exists_eq_left', exists_eq_left, false_and, and_false, true_and, and_true, exists_false, or_false, false_or, exists_and_left, exists_eq', exists_and_right, List.cons.injEq, and_assoc, dec_not, dec_yes, nd_t, nd_f, t_t, t_f, f_t, f_f, true_implies, false_implies, implies_true, and_self])
/-! ### the widths with a value -/
def xAt (p : Pc) (y : Rat) : Rat := p.w + (y - p.v) / p.s
abbrev Rs := Option (Rat × Option Rat)
def extR (w : Rat) : Rs → Rs
  | none => some (w, some w)
  | some (_, h) => some (w, h)
def resW : Pc → List Pc → Rat → Rs
  | p, [], y => if y = p.v then some (p.w, if p.s = 0 then none else some p.w) else if 0 < p.s ∧ p.v < y then some (xAt p y, some (xAt p y)) else none
  | p, q :: r, y => if y = p.v then extR p.w (resW q r y) else if 0 < p.s ∧ p.v < y ∧ xAt p y < q.w then some (xAt p y, some (xAt p y)) else resW q r y
/-- slopes are not negative -/
def Sn (p : Pc) (r : List Pc) : Prop := ∀ q ∈ p :: r, 0 ≤ q.s
theorem Sn.tl {p q : Pc} {r : List Pc} (h : Sn p (q :: r)) : Sn q r := fun a ha => h a (List.mem_cons_of_mem _ ha)
theorem Sn.hd {p : Pc} {r : List Pc} (h : Sn p r) : 0 ≤ p.s := h p List.mem_cons_self
theorem on_ge {p q : Pc} (h : p.w < q.w) (hs : 0 ≤ p.s) (e : q.v = on p q.w) : p.v ≤ q.v := by
  have := mul_nn hs (show (0 : Rat) ≤ q.w - p.w by grind)
  rw [e]
  unfold on
  grind
theorem mul_pos' {a b : Rat} (ha : 0 < a) (hb : 0 < b) : 0 < a * b := Rat.mul_pos ha hb
theorem xAt_eq {p : Pc} {y : Rat} (h : 0 < p.s) : p.s * (xAt p y - p.w) = y - p.v := by
  unfold xAt
  have e : p.w + (y - p.v) / p.s - p.w = (y - p.v) / p.s := by grind
  rw [e, Rat.mul_comm, Rat.div_mul_cancel (by grind)]
theorem lt_of_mul {a x y : Rat} (ha : 0 < a) : a * x < a * y ↔ x < y := by
  constructor
  · intro h
    rcases (by grind : x < y ∨ y ≤ x) with q | q
    · exact q
    · have := mul_nn (Rat.le_of_lt ha) (show (0 : Rat) ≤ x - y by grind)
      grind
  · intro h
    have := mul_pos' ha (show (0 : Rat) < y - x by grind)
    grind
/-- on a rising piece the place of a value is ahead of the next piece just if the value is less than that one's -/
theorem xAt_lt {p q : Pc} {y : Rat} (hs : 0 < p.s) (e : q.v = on p q.w) : xAt p y < q.w ↔ y < q.v := by
  have h := xAt_eq (p := p) (y := y) hs
  have h2 := lt_of_mul (x := xAt p y - p.w) (y := q.w - p.w) hs
  rw [h] at h2
  unfold on at e
  constructor
  · intro h3
    have := h2.mpr (by grind)
    grind
  · intro h3
    have := h2.mp (by grind)
    grind
theorem resW_none : ∀ {r : List Pc} {p : Pc} {y : Rat}, Ch p r → Sn p r → y < p.v → resW p r y = none := by
  intro r
  induction r with
  | nil =>
    intro p y _ _ h
    show (if y = p.v then _ else if 0 < p.s ∧ p.v < y then _ else none) = none
    rw [if_neg (by grind), if_neg (by grind)]
  | cons q r ih =>
    intro p y hc hs h
    have h1 := on_ge hc.1 hs.hd hc.2.1
    show (if y = p.v then _ else if 0 < p.s ∧ p.v < y ∧ xAt p y < q.w then _ else resW q r y) = none
    rw [if_neg (by grind), if_neg (by grind), ih hc.2.2 hs.tl (by grind)]
theorem resW_some {p : Pc} {r : List Pc} {y : Rat} (h : y = p.v) : ∃ hh, resW p r y = some (p.w, hh) := by
  cases r with
  | nil => exact ⟨_, if_pos h⟩
  | cons q r =>
    have e : resW p (q :: r) y = extR p.w (resW q r y) := if_pos h
    rw [e]
    cases resW q r y with
    | none => exact ⟨_, rfl⟩
    | some z => exact ⟨_, rfl⟩
/-- a point on the line ahead of it is needless -/
theorem resW_drop {p q : Pc} {y : Rat} {r : List Pc} (hc : Ch p (q :: r)) (hs : Sn p (q :: r)) (e : q.s = p.s) : resW p (q :: r) y = resW p r y := by
  have hw := hc.1
  have hv := hc.2.1
  have hp := hs.hd
  have hge := on_ge hw hp hv
  have hx : 0 < p.s → xAt q y = xAt p y := fun h => by
    have h1 := xAt_eq (p := p) (y := y) h
    have h2 := xAt_eq (p := q) (y := y) (by rw [e]; exact h)
    rw [e] at h2
    unfold on at hv
    have h3 : p.s * (xAt q y) = p.s * (xAt p y) := by grind
    have h4 := lt_of_mul (x := xAt q y) (y := xAt p y) h
    have h5 := lt_of_mul (x := xAt p y) (y := xAt q y) h
    grind
  have hx2 : 0 < p.s → (xAt p y < q.w ↔ y < q.v) := fun h => xAt_lt h hv
  cases r with
  | nil =>
    show (if y = p.v then extR p.w (if y = q.v then some (q.w, if q.s = 0 then none else some q.w) else if 0 < q.s ∧ q.v < y then some (xAt q y, some (xAt q y)) else none) else if 0 < p.s ∧ p.v < y ∧ xAt p y < q.w then some (xAt p y, some (xAt p y)) else (if y = q.v then some (q.w, if q.s = 0 then none else some q.w) else if 0 < q.s ∧ q.v < y then some (xAt q y, some (xAt q y)) else none)) = (if y = p.v then some (p.w, if p.s = 0 then none else some p.w) else if 0 < p.s ∧ p.v < y then some (xAt p y, some (xAt p y)) else none)
    rw [e]
    by_cases hs0 : p.s = 0
    · have hvv : q.v = p.v := by rw [hv]; unfold on; rw [hs0]; grind
      rw [hvv]
      by_cases h1 : y = p.v
      · rw [if_pos h1, if_pos h1, if_pos h1, if_pos hs0, if_pos hs0]; rfl
      · rw [if_neg h1, if_neg h1, if_neg h1, if_neg (by grind), if_neg (by grind), if_neg (by grind)]
    · have hs1 : 0 < p.s := by grind
      have hxx := hx hs1
      have hxl := hx2 hs1
      have hlt : p.v < q.v := by
        rw [hv]; unfold on
        have := mul_pos' hs1 (show (0 : Rat) < q.w - p.w by grind)
        grind
      have hxe : y = q.v → xAt p y = q.w := fun h => by
        have h1 := xAt_eq (p := p) (y := y) hs1
        unfold on at hv
        have h3 : p.s * (xAt p y) = p.s * q.w := by grind
        have h4 := lt_of_mul (x := xAt p y) (y := q.w) hs1
        have h5 := lt_of_mul (x := q.w) (y := xAt p y) hs1
        grind
      rw [hxx]
      by_cases h1 : y = p.v
      · rw [if_pos h1, if_pos h1, if_neg (by grind), if_neg (by grind), if_neg hs0]; rfl
      · rw [if_neg h1, if_neg h1]
        by_cases h2 : p.v < y
        · by_cases h3 : y < q.v
          · rw [if_pos ⟨hs1, h2, hxl.mpr h3⟩, if_pos ⟨hs1, h2⟩]
          · rw [if_neg (show ¬ (0 < p.s ∧ p.v < y ∧ xAt p y < q.w) by grind)]
            by_cases h4 : y = q.v
            · rw [if_pos h4, if_neg hs0, if_pos ⟨hs1, h2⟩, hxe h4]
            · rw [if_neg h4, if_pos ⟨hs1, by grind⟩, if_pos ⟨hs1, h2⟩]
        · rw [if_neg (by grind), if_neg (by grind), if_neg (by grind), if_neg (by grind)]
  | cons a r =>
    have hv2 := hc.2.2.2.1
    have hw2 := hc.2.2.1
    have hva : a.v = on p a.w := by rw [hv2]; exact on_same hv e a.w
    have hge2 := on_ge hw2 (hs.tl).hd hv2
    show (if y = p.v then extR p.w (if y = q.v then extR q.w (resW a r y) else if 0 < q.s ∧ q.v < y ∧ xAt q y < a.w then some (xAt q y, some (xAt q y)) else resW a r y) else if 0 < p.s ∧ p.v < y ∧ xAt p y < q.w then some (xAt p y, some (xAt p y)) else (if y = q.v then extR q.w (resW a r y) else if 0 < q.s ∧ q.v < y ∧ xAt q y < a.w then some (xAt q y, some (xAt q y)) else resW a r y)) = (if y = p.v then extR p.w (resW a r y) else if 0 < p.s ∧ p.v < y ∧ xAt p y < a.w then some (xAt p y, some (xAt p y)) else resW a r y)
    rw [e]
    by_cases hs0 : p.s = 0
    · have hvv : q.v = p.v := by rw [hv]; unfold on; rw [hs0]; grind
      rw [hvv]
      by_cases h1 : y = p.v
      · rw [if_pos h1, if_pos h1, if_pos h1]
        have hav : a.v = p.v := by rw [hva]; unfold on; rw [hs0]; grind
        obtain ⟨hh, e2⟩ := resW_some (p := a) (r := r) (y := y) (by rw [hav, h1])
        rw [e2]
        rfl
      · rw [if_neg h1, if_neg h1, if_neg h1, if_neg (by grind), if_neg (by grind), if_neg (by grind)]
    · have hs1 : 0 < p.s := by grind
      have hxx := hx hs1
      have hxl := hx2 hs1
      have hxl2 := xAt_lt (p := p) (q := a) (y := y) hs1 hva
      have hlt : p.v < q.v := by
        rw [hv]; unfold on
        have := mul_pos' hs1 (show (0 : Rat) < q.w - p.w by grind)
        grind
      have hlt2 : q.v < a.v := by
        rw [hv2]; unfold on
        have := mul_pos' (show 0 < q.s by rw [e]; exact hs1) (show (0 : Rat) < a.w - q.w by grind)
        grind
      have hxe : y = q.v → xAt p y = q.w := fun h => by
        have h1 := xAt_eq (p := p) (y := y) hs1
        unfold on at hv
        have h3 : p.s * (xAt p y) = p.s * q.w := by grind
        have h4 := lt_of_mul (x := xAt p y) (y := q.w) hs1
        have h5 := lt_of_mul (x := q.w) (y := xAt p y) hs1
        grind
      have hnone : y < a.v → resW a r y = none := fun h => resW_none hc.2.2.2.2 hs.tl.tl h
      rw [hxx]
      by_cases h1 : y = p.v
      · rw [if_pos h1, if_pos h1, if_neg (by grind), if_neg (by grind)]
      · rw [if_neg h1, if_neg h1]
        by_cases h2 : p.v < y
        · by_cases h3 : y < q.v
          · rw [if_pos ⟨hs1, h2, hxl.mpr h3⟩, if_pos ⟨hs1, h2, hxl2.mpr (by grind)⟩]
          · rw [if_neg (by grind)]
            by_cases h4 : y = q.v
            · rw [if_pos h4, hnone (by grind), if_pos ⟨hs1, h2, hxl2.mpr (by grind)⟩, hxe h4]
              rfl
            · rw [if_neg h4]
              by_cases h5 : y < a.v
              · rw [if_pos ⟨hs1, by grind, hxl2.mpr h5⟩, if_pos ⟨hs1, h2, hxl2.mpr h5⟩]
              · rw [if_neg (by grind), if_neg (by grind)]
        · rw [if_neg (by grind), if_neg (by grind), if_neg (by grind), if_neg (by grind)]
/-- joined pieces have the same widths -/
theorem resW_jn : ∀ (n : Nat) {r : List Pc} {p : Pc} {y : Rat}, r.length ≤ n → Ch p r → Sn p r → resW p (jn p.s r) y = resW p r y := by
  intro n
  induction n with
  | zero =>
    intro r p y hn _ _
    have : r = [] := List.length_eq_zero_iff.mp (by omega)
    subst this
    rfl
  | succ n ih =>
    intro r p y hn hc hs
    cases r with
    | nil => rfl
    | cons q r =>
      rw [List.length_cons] at hn
      have e0 : jn p.s (q :: r) = if q.s = p.s then jn p.s r else q :: jn q.s r := rfl
      rw [e0]
      by_cases e : q.s = p.s
      · rw [if_pos e, resW_drop hc hs e]
        refine ih (by omega) ?_ fun a ha => ?_
        · cases r with
          | nil => trivial
          | cons a r =>
            exact ⟨by have := hc.1; have := hc.2.2.1; grind, by rw [hc.2.2.2.1]; exact on_same hc.2.1 e a.w, hc.2.2.2.2⟩
        · rcases List.mem_cons.mp ha with rfl | ha
          · exact hs.hd
          · exact hs a (List.mem_cons_of_mem _ (List.mem_cons_of_mem _ ha))
      · rw [if_neg e]
        show (if y = p.v then extR p.w (resW q (jn q.s r) y) else if 0 < p.s ∧ p.v < y ∧ xAt p y < q.w then some (xAt p y, some (xAt p y)) else resW q (jn q.s r) y) = _
        rw [ih (by omega) hc.2.2 hs.tl]
        rfl
/-! the program's search -/
def finW (o : Option Pc) (p : Pc) (y : Rat) : Rs := if p.v ≠ y then (if p.s ≠ 0 ∧ p.v < y then some (xAt p y, some (xAt p y)) else none) else some (match o with | some o => if o.v = y then o.w else p.w | none => p.w, if p.s = 0 then none else some p.w)
def prgW : Option Pc → Pc → List Pc → Rat → Rs
  | o, p, [], y => finW o p y
  | o, p, q :: r, y => if q.v ≤ y then prgW (some p) q r y else finW o p y
/-- no two pieces side by side have one slope -/
def Dif : Pc → List Pc → Prop
  | _, [] => True
  | p, q :: r => q.s ≠ p.s ∧ Dif q r
theorem dif_jn : ∀ {r : List Pc} {p : Pc}, Dif p (jn p.s r) := by
  have key : ∀ {r : List Pc} {p : Pc} {s : Rat}, p.s = s → Dif p (jn s r) := by
    intro r
    induction r with
    | nil => intro p s _; trivial
    | cons q r ih =>
      intro p s hs
      show Dif p (if q.s = s then jn s r else q :: jn q.s r)
      by_cases e : q.s = s
      · rw [if_pos e]; exact ih hs
      · rw [if_neg e]; exact ⟨by rw [hs]; exact e, ih rfl⟩
  intro r p
  exact key rfl
def combW (o : Pc) (y : Rat) (R : Rs) : Rs := if o.v = y then (match R with | some (_, h) => some (o.w, h) | none => none) else R
theorem fin_last {p : Pc} {y : Rat} (hs : 0 ≤ p.s) : finW none p y = resW p [] y := by
  show (if p.v ≠ y then (if p.s ≠ 0 ∧ p.v < y then some (xAt p y, some (xAt p y)) else none) else some (p.w, if p.s = 0 then none else some p.w)) = (if y = p.v then some (p.w, if p.s = 0 then none else some p.w) else if 0 < p.s ∧ p.v < y then some (xAt p y, some (xAt p y)) else none)
  by_cases h : p.v = y
  · rw [if_neg (show ¬ (p.v ≠ y) from fun z => z h), if_pos h.symm]
  · rw [if_pos h, if_neg (show ¬ (y = p.v) from fun z => h z.symm)]
    by_cases h2 : p.s ≠ 0 ∧ p.v < y
    · have : 0 < p.s := by have := h2.1; grind
      rw [if_pos h2, if_pos ⟨this, h2.2⟩]
    · rw [if_neg h2, if_neg (show ¬ (0 < p.s ∧ p.v < y) from fun z => h2 ⟨by have := z.1; grind, z.2⟩)]
theorem fin_mid {p q : Pc} {r : List Pc} {y : Rat} (hc : Ch p (q :: r)) (hs : Sn p (q :: r)) (hy : y < q.v) : finW none p y = resW p (q :: r) y := by
  show (if p.v ≠ y then (if p.s ≠ 0 ∧ p.v < y then some (xAt p y, some (xAt p y)) else none) else some (p.w, if p.s = 0 then none else some p.w)) = (if y = p.v then extR p.w (resW q r y) else if 0 < p.s ∧ p.v < y ∧ xAt p y < q.w then some (xAt p y, some (xAt p y)) else resW q r y)
  rw [resW_none hc.2.2 hs.tl hy]
  have hp := hs.hd
  by_cases h : p.v = y
  · rw [if_neg (show ¬ (p.v ≠ y) from fun z => z h), if_pos h.symm]
    have : p.s ≠ 0 := fun e => by
      have : q.v = p.v := by rw [hc.2.1]; unfold on; rw [e]; grind
      grind
    rw [if_neg this]
    rfl
  · rw [if_pos h, if_neg (show ¬ (y = p.v) from fun z => h z.symm)]
    by_cases h2 : p.s ≠ 0 ∧ p.v < y
    · have : 0 < p.s := by have := h2.1; grind
      rw [if_pos h2, if_pos ⟨this, h2.2, (xAt_lt this hc.2.1).mpr hy⟩]
    · rw [if_neg h2, if_neg (show ¬ (0 < p.s ∧ p.v < y ∧ xAt p y < q.w) from fun z => h2 ⟨by have := z.1; grind, z.2.1⟩)]
theorem fin_comb {o p : Pc} {y : Rat} (ho : o.v ≤ p.v) (hp : p.v ≤ y) : finW (some o) p y = combW o y (finW none p y) := by
  show (if p.v ≠ y then (if p.s ≠ 0 ∧ p.v < y then some (xAt p y, some (xAt p y)) else none) else some ((if o.v = y then o.w else p.w), if p.s = 0 then none else some p.w)) = (if o.v = y then (match (if p.v ≠ y then (if p.s ≠ 0 ∧ p.v < y then some (xAt p y, some (xAt p y)) else none) else some (p.w, if p.s = 0 then none else some p.w) : Rs) with | some (_, h) => some (o.w, h) | none => none) else (if p.v ≠ y then (if p.s ≠ 0 ∧ p.v < y then some (xAt p y, some (xAt p y)) else none) else some (p.w, if p.s = 0 then none else some p.w)))
  by_cases h : o.v = y
  · have h2 : p.v = y := by grind
    rw [if_neg (show ¬ (p.v ≠ y) from fun z => z h2), if_pos h, if_pos h, if_neg (show ¬ (p.v ≠ y) from fun z => z h2)]
  · rw [if_neg h, if_neg h]
theorem res_comb {o p : Pc} {r : List Pc} {y : Rat} (hc : Ch o (p :: r)) (hs : Sn o (p :: r)) (hp : p.v ≤ y) : resW o (p :: r) y = combW o y (resW p r y) := by
  have hge := on_ge hc.1 hs.hd hc.2.1
  show (if y = o.v then extR o.w (resW p r y) else if 0 < o.s ∧ o.v < y ∧ xAt o y < p.w then some (xAt o y, some (xAt o y)) else resW p r y) = (if o.v = y then (match resW p r y with | some (_, h) => some (o.w, h) | none => none) else resW p r y)
  by_cases h : o.v = y
  · rw [if_pos h.symm, if_pos h]
    obtain ⟨hh, e⟩ := resW_some (p := p) (r := r) (y := y) (by grind)
    rw [e]
    rfl
  · rw [if_neg (show ¬ (y = o.v) from fun z => h z.symm), if_neg h, if_neg]
    rintro ⟨h1, _, h3⟩
    have := (xAt_lt h1 hc.2.1).mp h3
    grind
theorem prg_some : ∀ {r : List Pc} {o p : Pc} {y : Rat}, Ch o (p :: r) → Sn o (p :: r) → Dif o (p :: r) → p.v ≤ y → prgW (some o) p r y = combW o y (resW p r y) := by
  intro r
  induction r with
  | nil =>
    intro o p y hc hs _ hp
    show finW (some o) p y = _
    rw [fin_comb (on_ge hc.1 hs.hd hc.2.1) hp, fin_last hs.tl.hd]
  | cons q r ih =>
    intro o p y hc hs hd hp
    have hop := on_ge hc.1 hs.hd hc.2.1
    have hpq := on_ge hc.2.2.1 hs.tl.hd hc.2.2.2.1
    show (if q.v ≤ y then prgW (some p) q r y else finW (some o) p y) = _
    by_cases h : q.v ≤ y
    · rw [if_pos h, ih hc.2.2 hs.tl hd.2 h, ← res_comb hc.2.2 hs.tl h]
      have hne : o.v ≠ y := fun e => by
        have e1 : p.v = o.v := by grind
        have e2 : q.v = p.v := by grind
        have z1 : o.s = 0 := by
          have := hc.2.1
          unfold on at this
          have hw := hc.1
          have h3 : o.s * (p.w - o.w) = 0 := by grind
          rcases Rat.mul_eq_zero.mp h3 with h4 | h4
          · exact h4
          · grind
        have z2 : p.s = 0 := by
          have := hc.2.2.2.1
          unfold on at this
          have hw := hc.2.2.1
          have h3 : p.s * (q.w - p.w) = 0 := by grind
          rcases Rat.mul_eq_zero.mp h3 with h4 | h4
          · exact h4
          · grind
        exact hd.1 (by rw [z1, z2])
      show _ = if o.v = y then _ else _
      rw [if_neg hne]
    · rw [if_neg h, fin_comb hop hp, fin_mid hc.2.2 hs.tl (by grind)]
theorem prg_none {p : Pc} {r : List Pc} {y : Rat} (hc : Ch p r) (hs : Sn p r) (hd : Dif p r) : prgW none p r y = resW p r y := by
  cases r with
  | nil => exact fin_last hs.hd
  | cons q r =>
    show (if q.v ≤ y then prgW (some p) q r y else finW none p y) = _
    by_cases h : q.v ≤ y
    · rw [if_pos h, prg_some hc hs hd h, ← res_comb hc hs h]
    · rw [if_neg h, fin_mid hc hs (by grind)]
end Bx

namespace Bx
open PySem PySem.Spec PyProof.Rows L2 Z
local macro_rules | `(tactic| walk_at "zz") => `(tactic| simp only [zSeq, zAsg, zRet, zRetN, zIfS, zNext, zDrop, zPar, zPar3, zAug, zDivmod, zIndex, zCatT, zSlT, zMeth, zVar, zC, zOp, zUn, zNeg, zI0, zI, zTest, zAnd, zOr, zNot, zAndV, zOrV, zNotV, zIf, zNil, zCons, zTup, zLst, zLstC, zgName, zgTup, zgCons, zgNil, zgSub, startZ, zCall, zCB, zChain, zIsN, zNotN, zNever,
  zAddA, zMulA, zRepeat, zCat, zIx, seqD, lstD, zMax2, zMin2, zAbs, zLen, zSum, zGcd, zInt, zYes, zBreak, zCont, zMin1, zMax1, zList, zListC, zLcC, zLc, ziR1, ziR2, ziList, ziTup, ziZip, ziEnum, wipeZ, zFor, zSl, zPart, zNoPart, zAppend, zLstR1, zLstR2, zCallBC, zCallBF, zBits, zTru, zProp, zCallO,
  at0, at1, at2, at3, at4, ix2_3, ix0_3, isNon_int, isNon_non, Bool.not_true, Bool.not_false,
  List.map_cons, List.map_nil, List.length_cons, List.length_nil, List.replicate_succ, List.replicate_zero, List.append_nil, List.nil_append, List.cons_append, List.getElem?_cons_zero, List.getElem?_cons_succ, List.set_cons_zero, List.set_cons_succ,
  Option.some.injEq, D.int.injEq, D.bl.injEq, D.tup.injEq, D.lst.injEq, D.str.injEq, D.cell.injEq, O.lst.injEq, reduceCtorEq, exists_eq_left', exists_eq_left, false_and, and_false, true_and, and_true, exists_false, or_false, false_or, exists_and_left, exists_eq', exists_and_right, List.cons.injEq, and_assoc, dec_not, dec_yes, nd_t, nd_f, t_t, t_f, f_t, f_f, true_implies, false_implies, implies_true, and_self, Nat.reduceAdd, Nat.reduceLeDiff, Nat.reduceSub, Nat.reduceLT])
local macro_rules | `(tactic| walk_at "zy") => `(tactic| try simp only [Option.some.injEq, D.int.injEq, D.bl.injEq, D.tup.injEq, D.lst.injEq, D.str.injEq, D.cell.injEq, O.lst.injEq, reduceCtorEq, exists_eq_left', exists_eq_left, false_and, and_false, true_and, and_true, exists_false, or_false, false_or, exists_and_left, exists_eq', exists_and_right, List.cons.injEq, and_assoc, dec_not, dec_yes, nd_t, nd_f, t_t, t_f, f_t, f_f, true_implies, false_implies, implies_true, and_self])
theorem frx_cellS {α : Type} {C : CI} {f : α → D} {E : Store} {m k j : Nat} {l : List α} (h : E[k]? = some (.lst (l.map f))) (hk : m ≤ k) (hf : ∀ x, Z.frx C E m j (f x) = f x) : Z.frx C E m (j + 1) (.cell k) = .lst (l.map f) := by
  have e : Z.frx C E m (j + 1) (.cell k) = .lst ((l.map f).map (Z.frx C E m j)) := by
    show (if k < m then D.cell k else match E[k]? with | some (O.lst ds) => D.lst (ds.map (Z.frx C E m j)) | some (O.ins c fs) => if fs.map (·.1) = C.nms c then .ins c ((fs.map (·.2)).map (Z.frx C E m j)) else .cell k | _ => .cell k) = _
    rw [if_neg (by omega), h]
  rw [e, List.map_map]
  congr 1
  exact List.map_congr_left fun x _ => hf x
theorem app_old {Δ r : Store} : ∀ (n : Nat) (o : O), n < Δ.length → (Δ ++ r)[n]? = some o → Δ[n]? = some o ∨ blwO Δ.length o = true := fun n o hn h => by
  rw [List.getElem?_append_left hn] at h
  exact .inl h
theorem app_take {Δ r : Store} : (Δ ++ r).take Δ.length = Δ := by rw [List.take_append_of_le_length (Nat.le_refl _), List.take_length]
theorem ch_ge : ∀ {r : List Pc} {p : Pc} {i j : Nat} {a b : Pc}, Ch p r → Sn p r → i ≤ j → (p :: r)[i]? = some a → (p :: r)[j]? = some b → a.v ≤ b.v := by
  intro r
  induction r with
  | nil =>
    intro p i j a b _ _ hij ha hb
    have := (List.getElem?_eq_some_iff.mp hb).1
    have := (List.getElem?_eq_some_iff.mp ha).1
    simp at *
    have h1 : i = 0 := by omega
    have h2 : j = 0 := by omega
    subst h1; subst h2
    simp at ha hb
    subst ha; subst hb
    exact Rat.le_refl
  | cons q r ih =>
    intro p i j a b h hs hij ha hb
    cases j with
    | zero =>
      have h1 : i = 0 := by omega
      subst h1
      rw [ha] at hb
      rw [Option.some.inj hb]
      exact Rat.le_refl
    | succ j =>
      have hb' : (q :: r)[j]? = some b := hb
      cases i with
      | zero =>
        have e : p = a := Option.some.inj ha
        have h1 := ih (i := 0) h.2.2 hs.tl (Nat.zero_le j) rfl hb'
        have h2 := on_ge h.1 hs.hd h.2.1
        rw [← e]
        grind
      | succ i => exact ih h.2.2 hs.tl (by omega) (show (q :: r)[i]? = some a from ha) hb'
/-- the place of a value -/
structure AtV (ps : List Pc) (y : Rat) (i : Nat) (p : Pc) : Prop where
  at_ : ps[i]? = some p
  le : i = 0 ∨ p.v ≤ y
  gt : ∀ j q, i < j → ps[j]? = some q → y < q.v
theorem atv_uniq {y : Rat} {ps : List Pc} {i j : Nat} {a b : Pc} (h1 : AtV ps y i a) (h2 : AtV ps y j b) : i = j := by
  rcases Nat.lt_trichotomy i j with h | h | h
  · have := h1.gt j b h h2.at_
    rcases h2.le with q | q
    · omega
    · exact absurd q (by grind)
  · exact h
  · have := h2.gt i a h h1.at_
    rcases h1.le with q | q
    · omega
    · exact absurd q (by grind)
def prevP (o : Option Pc) (p : Pc) (r : List Pc) : Nat → Option Pc
  | 0 => o
  | i + 1 => some (pa p r i)
theorem pa_succ {p q : Pc} {r : List Pc} {i : Nat} (h : i ≤ r.length) : pa p (q :: r) (i + 1) = pa q r i := by
  have h1 := pa_get (p := p) (r := q :: r) (i := i + 1) (by rw [List.length_cons]; omega)
  have h2 := pa_get (p := q) (r := r) h
  rw [List.getElem?_cons_succ] at h1
  exact Option.some.inj (h1.symm.trans h2)
theorem prg_at {y : Rat} : ∀ {r : List Pc} {o : Option Pc} {p : Pc} {i : Nat}, Ch p r → Sn p r → i ≤ r.length → AtV (p :: r) y i (pa p r i) → prgW o p r y = finW (prevP o p r i) (pa p r i) y := by
  intro r
  induction r with
  | nil =>
    intro o p i _ _ hi _
    have : i = 0 := Nat.le_zero.mp hi
    subst this
    rfl
  | cons q r ih =>
    intro o p i hc hs hi ha
    show (if q.v ≤ y then prgW (some p) q r y else finW o p y) = _
    cases i with
    | zero =>
      rw [if_neg]
      · rfl
      · have := ha.gt 1 q (by omega) rfl
        grind
    | succ i =>
      have hi' : i ≤ r.length := by rw [List.length_cons] at hi; omega
      have e1 := pa_succ (p := p) (q := q) hi'
      rw [e1] at ha ⊢
      have hle : (pa q r i).v ≤ y := by
        rcases ha.le with h | h
        · omega
        · exact h
      have hq : q.v ≤ (pa q r i).v := ch_ge hc.2.2 hs.tl (Nat.zero_le i) rfl (pa_get hi')
      rw [if_pos (by grind), ih hc.2.2 hs.tl hi' ⟨pa_get hi', .inr hle, fun j a hj h => ha.gt (j + 1) a (by omega) h⟩]
      cases i with
      | zero => rfl
      | succ i =>
        show finW (some (pa q r i)) _ _ = finW (some (pa p (q :: r) (i + 1))) _ _
        rw [pa_succ (by omega)]
section
variable {K : PySem.W.Frag} {C : CI} {Δ : Store} {P : D → Store → Prop}
theorem lastV_ok {N M : Nat} {p : Pc} {r : List Pc} (hc : Ch p r) (hs : Sn p r) (hz : ∀ q ∈ p :: r, Sz q.v N M) (hn : r.length ≤ 1000) {x : Rat} (hx : Sz x N M) (hN : N ≤ 3900) (hM : M ≤ 3900)
    (h : ∀ i, i ≤ r.length → AtV (p :: r) x i (pa p r i) → P (.int (i : Nat)) Δ) : W_last_up_to K C [.lst ((p :: r).map fun q => frD q.v), frD x] Δ P := by
  have hl : ((p :: r).map fun q => frD q.v).length = r.length + 1 := by rw [List.length_map, List.length_cons]
  have hg : ∀ i, i ≤ r.length → ((p :: r).map fun q => frD q.v)[i]? = some (frD (pa p r i).v) := fun i hi => by rw [List.getElem?_map, pa_get hi]; rfl
  generalize ((p :: r).map fun q => frD q.v) = ds at *
  unfold W_last_up_to z_last_up_to
  walk_at "zz"
  simp only [zWhile]
  refine ⟨fun m Γ E => E = Δ ∧ ∃ (lo hi : Nat) (u4 : Option D), Γ = [some (.lst ds), some (frD x), some (.int (lo : Int)), some (.int (hi : Int)), u4] ∧ lo < hi ∧ hi ≤ r.length + 1 ∧ (lo = 0 ∨ (pa p r lo).v ≤ x) ∧ (∀ j q, hi ≤ j → (p :: r)[j]? = some q → x < q.v) ∧ m = hi - lo,
    ⟨r.length + 1, rfl, 0, r.length + 1, none, by rw [hl]; rfl, by omega, Nat.le_refl _, .inl rfl, fun j q hj hq => ?_, rfl⟩, ?_⟩
  · have := (List.getElem?_eq_some_iff.mp hq).1
    rw [List.length_cons] at this
    omega
  rintro m Γ E ⟨rfl, lo, hi, u4, rfl, h1, h2, h3, h4, rfl⟩
  walk_at "zz"
  refine ⟨fun hlt => ?_, fun hge => ?_⟩
  · refine ⟨divk (by decide) (by decide), ?_⟩
    have em : ((lo : Int) + (hi : Int)) / 2 = (((lo + hi) / 2 : Nat) : Int) := by omega
    rw [em]
    generalize hmid : (lo + hi) / 2 = mid
    have b1 : lo < mid := by omega
    have b2 : mid < hi := by omega
    refine ⟨_, atI_nat (hg mid (by omega)), ?_⟩
    refine pord_ok (hz _ (pa_mem (by omega))) hx hN hM ⟨_, rfl, fun hle => ⟨hi - mid, by omega, rfl, mid, rfl, hi, rfl, b2, h2, .inr (ord_le.mp hle), h4, rfl⟩, fun hgt => ⟨mid - lo, by omega, rfl, lo, rfl, mid, rfl, b1, by omega, h3, fun j q hj hq => ?_, rfl⟩⟩
    have hxm : x < (pa p r mid).v := by
      have : ¬ (pa p r mid).v ≤ x := fun q => hgt (ord_le.mpr q)
      grind
    have := ch_ge hc hs hj (pa_get (p := p) (r := r) (i := mid) (by omega)) hq
    grind
  · have e : hi = lo + 1 := by omega
    exact h lo (by omega) ⟨pa_get (by omega), h3, fun j q hj hq => h4 j q (by omega) hq⟩
def optD : Option Rat → D
  | none => .non
  | some b => frD b
def rsD : Rs → D
  | none => .non
  | some (a, h) => .tup [frD a, optD h]
/-- the curve's pieces and the value asked -/
structure Vw (p : Pc) (r : List Pc) (y : Rat) : Prop where
  ch : Ch p r
  sn : Sn p r
  n : r.length ≤ 1000
  zw : ∀ q ∈ p :: r, Sz q.w 900 900
  zv : ∀ q ∈ p :: r, Sz q.v 900 900
  zs : ∀ q ∈ p :: r, Sz q.s 900 900
  zy : Sz y 900 900
theorem inside_ok {p : Pc} {r : List Pc} {y : Rat} (c : Vw p r y) {i : Nat} (hi : i ≤ r.length) (ha : AtV (p :: r) y i (pa p r i))
    (h : P (.lst (if (pa p r i).s ≠ 0 ∧ (pa p r i).v < y then [frD (xAt (pa p r i) y)] else [])) Δ) : frzX C (W_widths_inside K C) [.lst ((p :: r).map pcD), .lst [frD y]] Δ P := by
  unfold frzX W_widths_inside z_widths_inside
  refine ⟨rfl, ?_⟩
  refine seq_cut fun rest hr => ?_
  walk_at "zz"
  refine comp_map (g := pcD) (f := fun q => frD q.v) (p :: r) [] (by have := c.n; simp; omega) (fun q _ Q hq => ?_) ?_
  · unfold pcD
    walk_at "zz"
    exact hq
  subst hr
  refine seq_cut fun rest hr => ?_
  walk_at "zz"
  subst hr
  refine seq_cut fun rest hr => ?_
  walk_at "zz"
  simp only [loopZ]
  walk_at "zz"
  refine lastV_ok c.ch c.sn c.zv c.n c.zy (by decide) (by decide) fun j hj hb => ?_
  have e := atv_uniq ha hb
  subst e
  refine ⟨_, _, rfl, rfl, _, atI_nat (i := i) (show (pcD p :: r.map pcD)[i]? = some (pcD (pa p r i)) from by show ((p :: r).map pcD)[i]? = _; rw [List.getElem?_map, pa_get hi]; rfl), ?_⟩
  have m := pa_mem (p := p) hi
  have z1 := c.zw _ m
  have z2 := c.zv _ m
  have z3 := c.zs _ m
  have z4 := c.sn _ m
  generalize pa p r i = q at *
  have fin : ∀ xs : List Rat, (.lst (xs.map frD)) = (.lst (if q.s ≠ 0 ∧ q.v < y then [frD (xAt q y)] else []) : D) → ∀ (G : Z.Env), G[3]? = some (some (.cell Δ.length)) → rest G (Δ ++ [.lst (xs.map frD)]) := fun xs e G hG => by
    subst hr
    dsimp only [zRet, zVar]
    refine ⟨_, hG, app_old, ?_, ?_⟩
    · rw [frx_cellS (f := frD) last_at (Nat.le_refl _) (fun _ => rfl)]
      exact belowL_map (fun _ => rfl) xs
    · rw [frx_cellS (f := frD) last_at (Nat.le_refl _) (fun _ => rfl), app_take, e]
      exact h
  unfold pcD
  walk_at "zz"
  refine ⟨_, rfl, frD_shp, rfl, _, rfl, fun hne => ?_, fun heq => ?_⟩
  · have e2 := frD_eq (Δ := Δ ++ [O.lst []]) (x := q.s) (y := 0)
    have h3 : (!eqD (rdk (Δ ++ [O.lst []]) 3 (frD q.s)) (frD 0)) = true := hne
    rw [e2] at h3
    have h4 : q.s ≠ 0 := by simpa using h3
    refine pord_ok z2 c.zy (by decide) (by decide) ⟨_, rfl, fun hlt => ?_, fun hge => ?_⟩
    · have h5 := ord_lt.mp hlt
      refine ⟨⟨_, last_at⟩, ?_⟩
      refine minus_ok c.zy z2 (by decide) (by decide) ?_
      have s1 := sz_sub c.zy z2 (N := 1801) (by decide) (by decide)
      refine over_ok (N := 1801) (M := 1801) (by grind) (s1.mono (by decide) (by decide)) (z3.mono (by decide) (by decide)) (by decide) (by decide) ?_
      have s2 := sz_over (by grind) s1 z3
      refine plus_ok (N := 3000) (M := 3000) (z1.mono (by decide) (by decide)) (s2.mono (by decide) (by decide)) (by decide) (by decide) ?_
      refine ⟨_, last_at, by decide, ?_⟩
      rw [set_last]
      exact fin [xAt q y] (by rw [if_pos ⟨h4, h5⟩]; rfl) _ rfl
    · have h5 : ¬ q.v < y := fun z => hge (ord_lt.mpr z)
      exact fin [] (by rw [if_neg (fun z => h5 z.2)]; rfl) _ rfl
  · have e2 := frD_eq (Δ := Δ ++ [O.lst []]) (x := q.s) (y := 0)
    have h3 : (!eqD (rdk (Δ ++ [O.lst []]) 3 (frD q.s)) (frD 0)) = false := heq
    rw [e2] at h3
    have h4 : q.s = 0 := by simpa using h3
    exact fin [] (by rw [if_neg (fun z => z.1 h4)]; rfl) _ rfl
end
end Bx

namespace Bx
open PySem PySem.Spec PyProof.Rows L2 Z
local macro_rules | `(tactic| walk_at "zz") => `(tactic| simp only [zSeq, zAsg, zRet, zRetN, zIfS, zNext, zDrop, zPar, zPar3, zAug, zDivmod, zIndex, zCatT, zSlT, zMeth, zVar, zC, zOp, zUn, zNeg, zI0, zI, zTest, zAnd, zOr, zNot, zAndV, zOrV, zNotV, zIf, zNil, zCons, zTup, zLst, zLstC, zgName, zgTup, zgCons, zgNil, zgSub, startZ, zCall, zCB, zChain, zIsN, zNotN, zNever,
  zAddA, zMulA, zRepeat, zCat, zIx, seqD, lstD, zMax2, zMin2, zAbs, zLen, zSum, zGcd, zInt, zYes, zBreak, zCont, zMin1, zMax1, zList, zListC, zLcC, zLc, ziR1, ziR2, ziList, ziTup, ziZip, ziEnum, wipeZ, zFor, zSl, zPart, zNoPart, zAppend, zLstR1, zLstR2, zCallBC, zCallBF, zBits, zTru, zProp, zCallO,
  at0, at1, at2, at3, at4, ix2_3, ix0_3, isNon_int, isNon_non, Bool.not_true, Bool.not_false,
  List.map_cons, List.map_nil, List.length_cons, List.length_nil, List.replicate_succ, List.replicate_zero, List.append_nil, List.nil_append, List.cons_append, List.getElem?_cons_zero, List.getElem?_cons_succ, List.set_cons_zero, List.set_cons_succ,
  Option.some.injEq, D.int.injEq, D.bl.injEq, D.tup.injEq, D.lst.injEq, D.str.injEq, D.cell.injEq, O.lst.injEq, reduceCtorEq, exists_eq_left', exists_eq_left, false_and, and_false, true_and, and_true, exists_false, or_false, false_or, exists_and_left, exists_eq', exists_and_right, List.cons.injEq, and_assoc, dec_not, dec_yes, nd_t, nd_f, t_t, t_f, f_t, f_f, true_implies, false_implies, implies_true, and_self, Nat.reduceAdd, Nat.reduceLeDiff, Nat.reduceSub, Nat.reduceLT])
local macro_rules | `(tactic| walk_at "zy") => `(tactic| try simp only [Option.some.injEq, D.int.injEq, D.bl.injEq, D.tup.injEq, D.lst.injEq, D.str.injEq, D.cell.injEq, O.lst.injEq, reduceCtorEq, exists_eq_left', exists_eq_left, false_and, and_false, true_and, and_true, exists_false, or_false, false_or, exists_and_left, exists_eq', exists_and_right, List.cons.injEq, and_assoc, dec_not, dec_yes, nd_t, nd_f, t_t, t_f, f_t, f_f, true_implies, false_implies, implies_true, and_self])
section
variable {K : PySem.W.Frag} {C : CI} {Δ : Store} {P : D → Store → Prop}
theorem wwv_ok {p : Pc} {r : List Pc} {y : Rat} (c : Vw p r y) (h : P (rsD (prgW none p r y)) Δ) : W_widths_with_value K C [.lst ((p :: r).map pcD), frD y] Δ P := by
  unfold W_widths_with_value z_widths_with_value
  refine ⟨rfl, ?_⟩
  refine seq_cut fun rest hr => ?_
  walk_at "zz"
  refine comp_map (g := pcD) (f := fun q => frD q.v) (p :: r) [] (by have := c.n; simp; omega) (fun q _ Q hq => ?_) ?_
  · unfold pcD
    walk_at "zz"
    exact hq
  refine lastV_ok c.ch c.sn c.zv c.n c.zy (by decide) (by decide) fun i hi ha => ?_
  have hI : ∀ (E : Store) (Q : D → Store → Prop), Q (.lst (if (pa p r i).s ≠ 0 ∧ (pa p r i).v < y then [frD (xAt (pa p r i) y)] else [])) E → frzX C (W_widths_inside K C) [.lst (pcD p :: r.map pcD), .lst [frD y]] E Q := fun E Q q => inside_ok c hi ha q
  rw [prg_at c.ch c.sn hi ha] at h
  have hg : ∀ i, i ≤ r.length → (pcD p :: r.map pcD)[i]? = some (pcD (pa p r i)) := fun i h => by show ((p :: r).map pcD)[i]? = _; rw [List.getElem?_map, pa_get h]; rfl
  have hgi := hg i hi
  subst hr
  refine seq_cut fun rest hr => ?_
  walk_at "zz"
  generalize (pcD p :: r.map pcD) = ds at *
  refine ⟨_, atI_nat hgi, [frD (pa p r i).w, frD (pa p r i).v, frD (pa p r i).s], rfl, rfl, _, _, rfl, _, _, rfl, _, _, rfl, rfl, ?_⟩
  subst hr
  refine seq_cut fun rest hr => ?_
  walk_at "zz"
  refine ⟨frD_shp, frD_shp, _, rfl, fun hne => ?_, fun heq => ?_⟩
  · have h3 : (!eqD (rdk Δ 3 (frD (pa p r i).v)) (frD y)) = true := hne
    rw [frD_eq] at h3
    have h4 : (pa p r i).v ≠ y := by simpa using h3
    have ef : ∀ o, finW o (pa p r i) y = (if (pa p r i).s ≠ 0 ∧ (pa p r i).v < y then some (xAt (pa p r i) y, some (xAt (pa p r i) y)) else none) := fun o => if_pos h4
    rw [ef] at h
    refine hI _ _ ?_
    by_cases h5 : (pa p r i).s ≠ 0 ∧ (pa p r i).v < y
    · rw [if_pos h5] at h ⊢
      exact ⟨_, rfl, fun _ => ⟨_, rfl, _, rfl, _, rfl, _, rfl, h⟩, fun q => nomatch q⟩
    · rw [if_neg h5] at h ⊢
      exact ⟨_, rfl, (fun q => nomatch q), fun _ => h⟩
  · have h3 : (!eqD (rdk Δ 3 (frD (pa p r i).v)) (frD y)) = false := heq
    rw [frD_eq] at h3
    have h4 : (pa p r i).v = y := by simpa using h3
    have ef : ∀ o, finW o (pa p r i) y = some (match o with | some o => if o.v = y then o.w else (pa p r i).w | none => (pa p r i).w, if (pa p r i).s = 0 then none else some (pa p r i).w) := fun o => if_neg (fun z => z h4)
    rw [ef] at h
    have last : ∀ (G : Z.Env) (w : Rat), G[8]? = some (some (frD w)) → G[5]? = some (some (frD (pa p r i).s)) → G[3]? = some (some (frD (pa p r i).w)) → P (rsD (some (w, if (pa p r i).s = 0 then none else some (pa p r i).w))) Δ → zRet (zTup (zCons (zVar 8) (zCons (zIf (zTest (zOp zEqK (zVar 5) (zC (.ktup [0, 1])))) (zC .non) (zVar 3)) (zNil)))) { nx := fun _ Δ' => P .non Δ', rt := P } G Δ := fun G w g8 g5 g3 q => by
      dsimp only [zRet, zTup, zCons, zVar, zIf, zTest, zOp, zC, zNil, zEqK]
      refine ⟨_, g8, _, g5, _, rfl, frD_shp, rfl, _, rfl, fun hz => ⟨Nat.le_of_ble_eq_true rfl, ?_⟩, fun hz => ⟨_, g3, Nat.le_of_ble_eq_true rfl, ?_⟩⟩
      · have h5 : eqD (rdk Δ 3 (frD (pa p r i).s)) (frD 0) = true := hz
        have h6 : (pa p r i).s = 0 := by rw [show eqD (rdk Δ 3 (frD (pa p r i).s)) (frD 0) = decide ((pa p r i).s = 0) from frD_eq] at h5; simpa using h5
        rw [if_pos h6] at q
        exact q
      · have h5 : eqD (rdk Δ 3 (frD (pa p r i).s)) (frD 0) = false := hz
        have h6 : ¬ (pa p r i).s = 0 := by rw [show eqD (rdk Δ 3 (frD (pa p r i).s)) (frD 0) = decide ((pa p r i).s = 0) from frD_eq] at h5; simpa using h5
        rw [if_neg h6] at q
        exact q
    subst hr
    refine seq_cut fun rest hr => ?_
    walk_at "zz"
    cases i with
    | zero =>
      refine ⟨fun q => absurd q (by decide), fun _ => ?_⟩
      subst hr
      refine seq_cut fun rest hr => ?_
      walk_at "zz"
      subst hr
      exact last _ _ rfl rfl rfl h
    | succ k =>
      refine ⟨fun _ => ⟨_, by rw [show (((k + 1 : Nat) : Int) - 1) = ((k : Nat) : Int) by omega]; exact atI_nat (hg k (by omega)), _, rfl, _, rfl, frD_shp, frD_shp, ?_⟩, fun q => absurd (show (0 : Int) < ((k + 1 : Nat) : Int) by omega) q⟩
      have e4 : eqD (rdk Δ 3 (frD (pa p r k).v)) (rdk Δ 3 (frD y)) = decide ((pa p r k).v = y) := frD_eq
      rw [e4]
      subst hr
      refine seq_cut fun rest hr => ?_
      walk_at "zz"
      have h : P (rsD (some (if (pa p r k).v = y then (pa p r k).w else (pa p r (k + 1)).w, if (pa p r (k + 1)).s = 0 then none else some (pa p r (k + 1)).w))) Δ := h
      by_cases h7 : (pa p r k).v = y
      · rw [if_pos h7] at h
        refine ⟨fun _ => ⟨_, by rw [show (((k + 1 : Nat) : Int) - 1) = ((k : Nat) : Int) by omega]; exact atI_nat (hg k (by omega)), _, rfl, _, rfl, ?_⟩, fun q => absurd h7 q⟩
        subst hr
        exact last _ _ rfl rfl rfl h
      · rw [if_neg h7] at h
        refine ⟨fun q => absurd q h7, fun _ => ?_⟩
        subst hr
        exact last _ _ rfl rfl rfl h
theorem israt_ok {W : Rat} {d : D} (hw : IsW W d) (p : P (.bl true) Δ) : W_is_rational K C [d] Δ P := by
  unfold W_is_rational z_is_rational
  cases hw with
  | fr =>
    walk_at "zz"
    refine isint_t ?_
    walk_at "zz"
    exact isfrac_ok p
  | int n e =>
    subst e
    walk_at "zz"
    refine isint_i ?_
    walk_at "zz"
    exact p
/-- curve.widths_of(value) -/
theorem wof_ok (F : Kf K C) {p : Pc} {r : List Pc} {y : Rat} (c : Vw p r y) (hd : Dif p r) {d : D} (hy : IsW y d) (y0 : 0 ≤ y) (h : P (rsD (resW p r y)) Δ) : W_Curve_widths_of K C [crvD (p :: r), d] Δ P := by
  unfold W_Curve_widths_of z_Curve_widths_of zFld
  refine ⟨rfl, ?_⟩
  refine seq_cut fun rest hr => ?_
  walk_at "zz"
  refine israt_ok hy ⟨true, rfl, (fun q => nomatch q), fun _ => ?_⟩
  have hn : 0 ≤ y.num := Rat.num_nonneg.mpr y0
  refine asF_ok hy ⟨_, rfl, _, rfl, _, rfl, fun q => by omega, fun _ => ?_⟩
  subst hr
  walk_at "zz"
  refine ⟨_, crv_fld F, asF_ok hy ?_⟩
  refine wwv_ok c ?_
  rw [prg_none c.ch c.sn hd]
  exact h
end
end Bx

namespace Bx
open PySem PySem.Spec PyProof.Rows L2 Z
local macro_rules | `(tactic| walk_at "zz") => `(tactic| simp only [zSeq, zAsg, zRet, zRetN, zIfS, zNext, zDrop, zPar, zPar3, zAug, zDivmod, zIndex, zCatT, zSlT, zMeth, zVar, zC, zOp, zUn, zNeg, zI0, zI, zTest, zAnd, zOr, zNot, zAndV, zOrV, zNotV, zIf, zNil, zCons, zTup, zLst, zLstC, zgName, zgTup, zgCons, zgNil, zgSub, startZ, zCall, zCB, zChain, zIsN, zNotN, zNever,
  zAddA, zMulA, zRepeat, zCat, zIx, seqD, lstD, zMax2, zMin2, zAbs, zLen, zSum, zGcd, zInt, zYes, zBreak, zCont, zMin1, zMax1, zList, zListC, zLcC, zLc, ziR1, ziR2, ziList, ziTup, ziZip, ziEnum, wipeZ, zFor, zSl, zPart, zNoPart, zAppend, zLstR1, zLstR2, zCallBC, zCallBF, zBits, zTru, zProp, zCallO,
  at0, at1, at2, at3, at4, ix2_3, ix0_3, isNon_int, isNon_non, Bool.not_true, Bool.not_false,
  List.map_cons, List.map_nil, List.length_cons, List.length_nil, List.replicate_succ, List.replicate_zero, List.append_nil, List.nil_append, List.cons_append, List.getElem?_cons_zero, List.getElem?_cons_succ, List.set_cons_zero, List.set_cons_succ,
  Option.some.injEq, D.int.injEq, D.bl.injEq, D.tup.injEq, D.lst.injEq, D.str.injEq, D.cell.injEq, O.lst.injEq, reduceCtorEq, exists_eq_left', exists_eq_left, false_and, and_false, true_and, and_true, exists_false, or_false, false_or, exists_and_left, exists_eq', exists_and_right, List.cons.injEq, and_assoc, dec_not, dec_yes, nd_t, nd_f, t_t, t_f, f_t, f_f, true_implies, false_implies, implies_true, and_self, Nat.reduceAdd, Nat.reduceLeDiff, Nat.reduceSub, Nat.reduceLT])
local macro_rules | `(tactic| walk_at "zy") => `(tactic| try simp only [Option.some.injEq, D.int.injEq, D.bl.injEq, D.tup.injEq, D.lst.injEq, D.str.injEq, D.cell.injEq, O.lst.injEq, reduceCtorEq, exists_eq_left', exists_eq_left, false_and, and_false, true_and, and_true, exists_false, or_false, false_or, exists_and_left, exists_eq', exists_and_right, List.cons.injEq, and_assoc, dec_not, dec_yes, nd_t, nd_f, t_t, t_f, f_t, f_f, true_implies, false_implies, implies_true, and_self])
/-! ### the law's own widths -/
def incL (p : Pc) (nx : Option Pc) (y : Rat) : List Rat := (if y - p.v = 0 then [p.w] else []) ++ (if (0 < p.s ∧ 0 < y - p.v) ∧ (∀ q, nx = some q → 0 < q.w - xAt p y) then [xAt p y] else [])
def incH (p : Pc) (nx : Option Pc) (y : Rat) : List (Option Rat) := (incL p nx y).map some ++ (if p.s = 0 ∧ y - p.v = 0 ∧ nx = none then [none] else [])
def lowL : Pc → List Pc → Rat → List Rat
  | p, [], y => incL p none y
  | p, q :: r, y => incL p (some q) y ++ lowL q r y
def highL : Pc → List Pc → Rat → List (Option Rat)
  | p, [], y => incH p none y
  | p, q :: r, y => incH p (some q) y ++ highL q r y
def resL (l : List Rat) (h : List (Option Rat)) : Rs :=
  match l with
  | [] => none
  | a :: _ => some (a, if none ∈ h then none else h.getLast?.getD none)
theorem inc_at {p : Pc} {nx : Option Pc} {y : Rat} (h : y = p.v) : incL p nx y = [p.w] := by
  unfold incL
  rw [if_pos (by grind), if_neg (by grind)]
  rfl
theorem inc_lo {p : Pc} {nx : Option Pc} {y : Rat} (h : y < p.v) : incL p nx y = [] := by
  unfold incL
  rw [if_neg (by grind), if_neg (by grind)]
  rfl
theorem low_none : ∀ {r : List Pc} {p : Pc} {y : Rat}, Ch p r → Sn p r → y < p.v → lowL p r y = [] ∧ highL p r y = [] := by
  intro r
  induction r with
  | nil =>
    intro p y _ _ h
    refine ⟨inc_lo h, ?_⟩
    show (incL p none y).map some ++ _ = []
    rw [inc_lo h, if_neg (by grind)]
    rfl
  | cons q r ih =>
    intro p y hc hs h
    have h1 := on_ge hc.1 hs.hd hc.2.1
    obtain ⟨e1, e2⟩ := ih hc.2.2 hs.tl (show y < q.v by grind)
    refine ⟨?_, ?_⟩
    · show incL p (some q) y ++ lowL q r y = []
      rw [inc_lo h, e1]
      rfl
    · show ((incL p (some q) y).map some ++ _) ++ highL q r y = []
      rw [inc_lo h, e2, if_neg (by rintro ⟨_, _, h⟩; exact nomatch h)]
      rfl
theorem low_high : ∀ {r : List Pc} {p : Pc} {y : Rat}, lowL p r y = [] ↔ highL p r y = [] := by
  have key : ∀ {p : Pc} {nx : Option Pc} {y : Rat}, incL p nx y = [] ↔ incH p nx y = [] := by
    intro p nx y
    constructor
    · intro h
      unfold incH
      rw [h, if_neg]
      · rfl
      · rintro ⟨_, h2, _⟩
        have := inc_at (p := p) (nx := nx) (y := y) (by grind)
        rw [h] at this
        exact nomatch this
    · intro h
      have h1 : (incL p nx y).map some = [] := (List.append_eq_nil_iff.mp h).1
      exact List.map_eq_nil_iff.mp h1
  intro r
  induction r with
  | nil => intro p y; exact key
  | cons q r ih =>
    intro p y
    show incL p (some q) y ++ lowL q r y = [] ↔ incH p (some q) y ++ highL q r y = []
    rw [List.append_eq_nil_iff, List.append_eq_nil_iff, key, ih]
theorem resL_cons {a : Rat} {l : List Rat} {h : List (Option Rat)} (e : l = [] ↔ h = []) : resL (a :: l) (some a :: h) = extR a (resL l h) := by
  cases l with
  | nil =>
    rw [e.mp rfl]
    rfl
  | cons b l =>
    cases h with
    | nil => exact nomatch e.mpr rfl
    | cons c h =>
      show some (a, if none ∈ some a :: c :: h then none else (some a :: c :: h).getLast?.getD none) = some (a, if none ∈ c :: h then none else (c :: h).getLast?.getD none)
      have e1 : (none ∈ some a :: c :: h) ↔ (none ∈ c :: h) := by
        rw [List.mem_cons]
        simp
      rw [List.getLast?_cons_cons]
      by_cases h3 : none ∈ c :: h
      · rw [if_pos h3, if_pos (e1.mpr h3)]
      · rw [if_neg h3, if_neg (fun z => h3 (e1.mp z))]
theorem resL_ok : ∀ {r : List Pc} {p : Pc} {y : Rat}, Ch p r → Sn p r → resL (lowL p r y) (highL p r y) = resW p r y := by
  intro r
  induction r with
  | nil =>
    intro p y _ hs
    have hp := hs.hd
    show resL (incL p none y) ((incL p none y).map some ++ (if p.s = 0 ∧ y - p.v = 0 ∧ (none : Option Pc) = none then [none] else [])) = (if y = p.v then some (p.w, if p.s = 0 then none else some p.w) else if 0 < p.s ∧ p.v < y then some (xAt p y, some (xAt p y)) else none)
    by_cases h : y = p.v
    · rw [inc_at h, if_pos h]
      by_cases h2 : p.s = 0
      · rw [if_pos ⟨h2, by grind, rfl⟩, if_pos h2]
        rfl
      · rw [if_neg (fun z => h2 z.1), if_neg h2]
        rfl
    · rw [if_neg h, if_neg (show ¬ (p.s = 0 ∧ y - p.v = 0 ∧ (none : Option Pc) = none) from fun z => h (by have := z.2.1; grind)), List.append_nil]
      unfold incL
      rw [if_neg (show ¬ (y - p.v = 0) from fun z => h (by grind)), List.nil_append]
      by_cases h2 : 0 < p.s ∧ p.v < y
      · rw [if_pos ⟨⟨h2.1, by have := h2.2; grind⟩, fun q e => nomatch e⟩, if_pos h2]
        rfl
      · rw [if_neg (fun z => h2 ⟨z.1.1, by have := z.1.2; grind⟩), if_neg h2]
        rfl
  | cons q r ih =>
    intro p y hc hs
    have hp := hs.hd
    have ih := ih (p := q) (y := y) hc.2.2 hs.tl
    show resL (incL p (some q) y ++ lowL q r y) (((incL p (some q) y).map some ++ (if p.s = 0 ∧ y - p.v = 0 ∧ some q = none then [none] else [])) ++ highL q r y) = (if y = p.v then extR p.w (resW q r y) else if 0 < p.s ∧ p.v < y ∧ xAt p y < q.w then some (xAt p y, some (xAt p y)) else resW q r y)
    rw [if_neg (show ¬ (p.s = 0 ∧ y - p.v = 0 ∧ some q = none) from fun z => nomatch z.2.2), List.append_nil, ← ih]
    by_cases h : y = p.v
    · rw [inc_at h, if_pos h]
      exact resL_cons low_high
    · rw [if_neg h]
      unfold incL
      rw [if_neg (show ¬ (y - p.v = 0) from fun z => h (by grind)), List.nil_append]
      by_cases h2 : 0 < p.s ∧ p.v < y ∧ xAt p y < q.w
      · have hy : y < q.v := (xAt_lt h2.1 hc.2.1).mp h2.2.2
        obtain ⟨e1, e2⟩ := low_none hc.2.2 hs.tl hy
        rw [if_pos ⟨⟨h2.1, by have := h2.2.1; grind⟩, fun a e => by rw [← Option.some.inj e]; have := h2.2.2; grind⟩, if_pos h2, e1, e2]
        rfl
      · rw [if_neg (fun z => h2 ⟨z.1.1, by have := z.1.2; grind, by have := z.2 q rfl; grind⟩), if_neg h2]
        rfl
/-! step by step -/
def lowK (p : Pc) (r : List Pc) (y : Rat) (k : Nat) : List Rat := (List.range k).flatMap fun i => incL (pa p r i) ((p :: r)[i + 1]?) y
def highK (p : Pc) (r : List Pc) (y : Rat) (k : Nat) : List (Option Rat) := (List.range k).flatMap fun i => incH (pa p r i) ((p :: r)[i + 1]?) y
theorem lowK_succ {p : Pc} {r : List Pc} {y : Rat} {k : Nat} : lowK p r y (k + 1) = lowK p r y k ++ incL (pa p r k) ((p :: r)[k + 1]?) y := by
  unfold lowK
  rw [List.range_succ, List.flatMap_append]
  simp
theorem highK_succ {p : Pc} {r : List Pc} {y : Rat} {k : Nat} : highK p r y (k + 1) = highK p r y k ++ incH (pa p r k) ((p :: r)[k + 1]?) y := by
  unfold highK
  rw [List.range_succ, List.flatMap_append]
  simp
theorem flat_all {α : Type} (f : Pc → Option Pc → List α) (g : Pc → List Pc → List α) (h1 : ∀ p, g p [] = f p none) (h2 : ∀ p q r, g p (q :: r) = f p (some q) ++ g q r) : ∀ (r : List Pc) (p : Pc), ((List.range (r.length + 1)).flatMap fun i => f (pa p r i) ((p :: r)[i + 1]?)) = g p r := by
  intro r
  induction r with
  | nil =>
    intro p
    rw [h1]
    show (List.range 1).flatMap _ = _
    simp [List.range_succ]
    rfl
  | cons q r ih =>
    intro p
    rw [h2, ← ih q, List.length_cons, List.range_succ_eq_map, List.flatMap_cons, List.flatMap_map]
    refine congrArg (f p (some q) ++ ·) ?_
    have e : ∀ i, i < r.length + 1 → f (pa p (q :: r) (i + 1)) ((p :: q :: r)[i + 1 + 1]?) = f (pa q r i) ((q :: r)[i + 1]?) := fun i hi => by
      rw [pa_succ (by omega)]
      rfl
    have gen : ∀ {l : List Nat}, (∀ i ∈ l, i < r.length + 1) → (l.flatMap fun i => f (pa p (q :: r) (i + 1)) ((p :: q :: r)[i + 1 + 1]?)) = l.flatMap fun i => f (pa q r i) ((q :: r)[i + 1]?) := by
      intro l
      induction l with
      | nil => intro _; rfl
      | cons a l ihl =>
        intro h
        rw [List.flatMap_cons, List.flatMap_cons, e a (h a List.mem_cons_self), ihl fun i hi => h i (List.mem_cons_of_mem _ hi)]
    exact gen fun i hi => List.mem_range.mp hi
theorem lowK_all {p : Pc} {r : List Pc} {y : Rat} : lowK p r y (r.length + 1) = lowL p r y := flat_all (fun p nx => incL p nx y) (fun p r => lowL p r y) (fun _ => rfl) (fun _ _ _ => rfl) r p
theorem highK_all {p : Pc} {r : List Pc} {y : Rat} : highK p r y (r.length + 1) = highL p r y := flat_all (fun p nx => incH p nx y) (fun p r => highL p r y) (fun _ => rfl) (fun _ _ _ => rfl) r p
theorem incL_len {p : Pc} {nx : Option Pc} {y : Rat} : (incL p nx y).length ≤ 2 := by
  unfold incL
  split <;> split <;> simp
theorem incH_len {p : Pc} {nx : Option Pc} {y : Rat} : (incH p nx y).length ≤ 3 := by
  have := incL_len (p := p) (nx := nx) (y := y)
  unfold incH
  rw [List.length_append, List.length_map]
  split <;> simp <;> omega
theorem lowK_len {p : Pc} {r : List Pc} {y : Rat} : ∀ k, (lowK p r y k).length ≤ 2 * k
  | 0 => Nat.le_refl _
  | k + 1 => by
    have := lowK_len (p := p) (r := r) (y := y) k
    have := incL_len (p := pa p r k) (nx := (p :: r)[k + 1]?) (y := y)
    rw [lowK_succ, List.length_append]
    omega
theorem highK_len {p : Pc} {r : List Pc} {y : Rat} : ∀ k, (highK p r y k).length ≤ 3 * k
  | 0 => Nat.le_refl _
  | k + 1 => by
    have := highK_len (p := p) (r := r) (y := y) k
    have := incH_len (p := pa p r k) (nx := (p :: r)[k + 1]?) (y := y)
    rw [highK_succ, List.length_append]
    omega
end Bx

namespace Bx
open PySem PySem.Spec PyProof.Rows L2 Z
local macro_rules | `(tactic| walk_at "zz") => `(tactic| simp only [zSeq, zAsg, zRet, zRetN, zIfS, zNext, zDrop, zPar, zPar3, zAug, zDivmod, zIndex, zCatT, zSlT, zMeth, zVar, zC, zOp, zUn, zNeg, zI0, zI, zTest, zAnd, zOr, zNot, zAndV, zOrV, zNotV, zIf, zNil, zCons, zTup, zLst, zLstC, zgName, zgTup, zgCons, zgNil, zgSub, startZ, zCall, zCB, zChain, zIsN, zNotN, zNever,
  zAddA, zMulA, zRepeat, zCat, zIx, seqD, lstD, zMax2, zMin2, zAbs, zLen, zSum, zGcd, zInt, zYes, zBreak, zCont, zMin1, zMax1, zList, zListC, zLcC, zLc, ziR1, ziR2, ziList, ziTup, ziZip, ziEnum, wipeZ, zFor, zSl, zPart, zNoPart, zAppend, zLstR1, zLstR2, zCallBC, zCallBF, zBits, zTru, zProp, zCallO,
  at0, at1, at2, at3, at4, ix2_3, ix0_3, isNon_int, isNon_non, Bool.not_true, Bool.not_false,
  List.map_cons, List.map_nil, List.length_cons, List.length_nil, List.replicate_succ, List.replicate_zero, List.append_nil, List.nil_append, List.cons_append, List.getElem?_cons_zero, List.getElem?_cons_succ, List.set_cons_zero, List.set_cons_succ,
  Option.some.injEq, D.int.injEq, D.bl.injEq, D.tup.injEq, D.lst.injEq, D.str.injEq, D.cell.injEq, O.lst.injEq, reduceCtorEq, exists_eq_left', exists_eq_left, false_and, and_false, true_and, and_true, exists_false, or_false, false_or, exists_and_left, exists_eq', exists_and_right, List.cons.injEq, and_assoc, dec_not, dec_yes, nd_t, nd_f, t_t, t_f, f_t, f_f, true_implies, false_implies, implies_true, and_self, Nat.reduceAdd, Nat.reduceLeDiff, Nat.reduceSub, Nat.reduceLT])
local macro_rules | `(tactic| walk_at "zy") => `(tactic| try simp only [Option.some.injEq, D.int.injEq, D.bl.injEq, D.tup.injEq, D.lst.injEq, D.str.injEq, D.cell.injEq, O.lst.injEq, reduceCtorEq, exists_eq_left', exists_eq_left, false_and, and_false, true_and, and_true, exists_false, or_false, false_or, exists_and_left, exists_eq', exists_and_right, List.cons.injEq, and_assoc, dec_not, dec_yes, nd_t, nd_f, t_t, t_f, f_t, f_f, true_implies, false_implies, implies_true, and_self])
theorem cut_to {xs : List D} {p : Nat} : Z.cutD xs none (some (p : Int)) = xs.take p := by
  unfold Z.cutD
  rw [HT.sIx_none, HT.sIx_nat, List.drop_zero, Nat.sub_zero]
  by_cases h : p ≤ xs.length
  · rw [Nat.min_eq_left h]
  · rw [Nat.min_eq_right (by omega), List.take_of_length_le (Nat.le_refl _), List.take_of_length_le (by omega)]
theorem cut_from {xs : List D} {p : Nat} : Z.cutD xs (some (p : Int)) none = xs.drop p := by
  unfold Z.cutD
  rw [HT.sIx_none, HT.sIx_nat]
  by_cases h : p ≤ xs.length
  · rw [Nat.min_eq_left h, List.take_of_length_le (by rw [List.length_drop]; omega)]
  · rw [Nat.min_eq_right (by omega), List.drop_eq_nil_of_le (Nat.le_refl _), List.drop_eq_nil_of_le (by omega)]
    simp
theorem enumD_get {ds : List D} {i : Nat} {d : D} (h : ds[i]? = some d) : (enumD ds)[i]? = some (.tup [.int (i : Nat), d]) := by
  unfold enumD
  rw [List.getElem?_map, List.getElem?_zipIdx, h]
  simp
theorem enumD_len {ds : List D} : (enumD ds).length = ds.length := by
  unfold enumD
  rw [List.length_map, List.length_zipIdx]
theorem mulS {x y : Rat} {N M : Nat} (hx : Sz x N M) (hy : Sz y N M) (hN : N ≤ 3900) (hM : M ≤ 3900) : MulOk x.num y.den := mulW hx.n hy.dl (by omega) (by omega)
theorem num_pos_iff {x : Rat} : 0 < x.num ↔ 0 < x := by
  constructor
  · intro h
    have h1 := Rat.num_nonneg.mp (Int.le_of_lt h)
    rcases (by grind : x = 0 ∨ 0 < x) with q | q
    · rw [q] at h; exact absurd h (by decide)
    · exact q
  · exact num_pos
theorem opt_any : ∀ H : List (Option Rat), ((pds (H.map optD)).any fun z => PyData.eqv z (pd .non)) = decide (none ∈ H)
  | [] => rfl
  | none :: H => by
    rw [decide_eq_true List.mem_cons_self]
    rfl
  | some a :: H => by
    have h := opt_any H
    show (false || (pds (H.map optD)).any fun z => PyData.eqv z (pd .non)) = _
    rw [h, Bool.false_or]
    exact decide_eq_decide.mpr ⟨fun z => List.mem_cons_of_mem _ z, fun z => (List.mem_cons.mp z).resolve_left (fun q => nomatch q)⟩
theorem opt_shp (H : List (Option Rat)) : shp (.lst (H.map optD)) = true := shp_list (f := optD) (fun x => by cases x <;> exact ⟨rfl, rfl, Nat.le_of_ble_eq_true rfl⟩) H
theorem fr_empty {L : List Rat} : eqD (.lst (L.map frD)) (.lst []) = decide (L = []) := by
  cases L with
  | nil => rfl
  | cons a l => rfl
def nxD : Option Pc → D
  | none => .non
  | some q => ptD (ptP q)
theorem two0 {Δ : Store} {x y : O} : (Δ ++ [x, y])[Δ.length]? = some x := by rw [List.getElem?_append_right (Nat.le_refl _), Nat.sub_self]; rfl
theorem two1 {Δ : Store} {x y : O} : (Δ ++ [x, y])[Δ.length + 1]? = some y := by rw [List.getElem?_append_right (by omega), show Δ.length + 1 - Δ.length = 1 by omega]; rfl
theorem set0 {Δ : Store} {x y z : O} : (Δ ++ [x, y]).set Δ.length z = Δ ++ [z, y] := by rw [List.set_append_right _ _ (Nat.le_refl _), Nat.sub_self]; rfl
theorem set1 {Δ : Store} {x y z : O} : (Δ ++ [x, y]).set (Δ.length + 1) z = Δ ++ [x, z] := by rw [List.set_append_right _ _ (by omega), show Δ.length + 1 - Δ.length = 1 by omega]; rfl
section
variable {K : PySem.W.Frag} {C : CI} {Δ : Store} {P : D → Store → Prop}
theorem lww_ok {p : Pc} {r : List Pc} {y : Rat} (c : Vw p r y) (h : P (rsD (resW p r y)) Δ) :
    frzX C (W__law_widths_with K C) [.lst ((p :: r).map fun q => ptD (ptP q)), .lst ((p :: r).map fun q => frD q.s), frD y] Δ P := by
  have hn := c.n
  have hg : ∀ i, i ≤ r.length → ((p :: r).map fun q => ptD (ptP q))[i]? = some (ptD (ptP (pa p r i))) := fun i h => by rw [List.getElem?_map, pa_get h]; rfl
  have hs : ∀ i, i ≤ r.length → ((p :: r).map fun q => frD q.s)[i]? = some (frD (pa p r i).s) := fun i h => by rw [List.getElem?_map, pa_get h]; rfl
  have hl : ((p :: r).map fun q => ptD (ptP q)).length = r.length + 1 := by rw [List.length_map, List.length_cons]
  generalize ((p :: r).map fun q => ptD (ptP q)) = ds at *
  generalize ((p :: r).map fun q => frD q.s) = rs at *
  unfold frzX W__law_widths_with z__law_widths_with
  refine ⟨rfl, ?_⟩
  refine seq_cut fun rest hr => ?_
  walk_at "zz"
  subst hr
  refine seq_cut fun rest hr => ?_
  refine for_cut fun body hB => ?_
  walk_at "zz"
  refine loop_inv (fun k Γ E => ∃ (u5 u6 u7 u8 u9 u10 : Option D), E = Δ ++ [.lst ((lowK p r y k).map frD), .lst ((highK p r y k).map optD)] ∧ Γ = [some (.lst ds), some (.lst rs), some (frD y), some (.cell Δ.length), some (.cell (Δ.length + 1)), u5, u6, u7, u8, u9, u10]) _ 0 _ _ ⟨none, none, none, none, none, none, ?_, ?_⟩ ?_ ?_
  · simp [lowK, highK]
  · simp
  · rintro i x Γ E Z' hx ⟨u5, u6, u7, u8, u9, u10, rfl, rfl⟩ hn' hc' hr' hk'
    have hi : i < r.length + 1 := by
      have := (List.getElem?_eq_some_iff.mp hx).1
      rw [enumD_len] at this
      omega
    rw [enumD_get (hg i (by omega))] at hx
    have ey := (Option.some.inj hx).symm
    subst ey hB
    rw [Nat.zero_add] at *
    unfold ptD
    refine ⟨_, rfl, rfl, _, _, rfl, _, _, rfl, _, rfl, rfl, _, _, rfl, _, _, rfl, rfl, rfl, ?_⟩
    simp only [zgName, List.set_cons_succ, List.set_cons_zero]
    refine seq_cut fun rest2 hr2 => ?_
    walk_at "zz"
    have b1 := lowK_len (p := p) (r := r) (y := y) i
    have b2 := highK_len (p := p) (r := r) (y := y) i
    have m := pa_mem (p := p) (r := r) (i := i) (by omega)
    have zw := c.zw _ m
    have zv := c.zv _ m
    have zs := c.zs _ m
    have s0 := c.sn _ m
    have hsi := hs i (by omega)
    have elow := lowK_succ (p := p) (r := r) (y := y) (k := i)
    have ehigh := highK_succ (p := p) (r := r) (y := y) (k := i)
    have znx : ∀ q, (p :: r)[i + 1]? = some q → Sz q.w 900 900 := fun q hq => c.zw q (List.mem_of_getElem? hq)
    have after : ∀ nx : Option Pc, (p :: r)[i + 1]? = nx → rest2 [some (D.lst ds), some (D.lst rs), some (frD y), some (D.cell (List.length Δ)), some (D.cell (List.length Δ + 1)), some (D.int (i : Int)), some (frD (ptP (pa p r i)).fst), some (frD (ptP (pa p r i)).snd), some (nxD nx), u9, u10] (Δ ++ [O.lst (List.map frD (lowK p r y i)), O.lst (List.map optD (highK p r y i))]) := fun nx hnx => by
      rw [hnx] at elow ehigh
      have znx : ∀ q, nx = some q → Sz q.w 900 900 := fun q hq => znx q (hnx.trans hq)
      generalize pa p r i = q at *
      generalize lowK p r y i = L0 at *
      generalize highK p r y i = H0 at *
      subst hr2
      refine seq_cut fun rest3 hr3 => ?_
      walk_at "zz"
      have so := sz_sub c.zy zv (N := 1801) (by decide) (by decide)
      refine lless_ok (N := 900) (M := 900) c.zy zv (by decide) (by decide) ?_
      show rest3 [some (D.lst ds), some (D.lst rs), some (frD y), some (D.cell (List.length Δ)), some (D.cell (List.length Δ + 1)), some (D.int (i : Int)), some (frD q.w), some (frD q.v), some (nxD nx), some (frD (y - q.v)), u10] _
      subst hr3
      refine seq_cut fun rest4 hr4 => ?_
      walk_at "zz"
      have afterB : ∀ (L : List Rat) (H : List (Option Rat)), L = L0 ++ (if y - q.v = 0 then [q.w] else []) → H = H0 ++ (if y - q.v = 0 then [q.w] else []).map some → rest4 [some (D.lst ds), some (D.lst rs), some (frD y), some (D.cell (List.length Δ)), some (D.cell (List.length Δ + 1)), some (D.int (i : Int)), some (frD q.w), some (frD q.v), some (nxD nx), some (frD (y - q.v)), u10] (Δ ++ [O.lst (List.map frD L), O.lst (List.map optD H)]) := fun L H eL eH => by
        have bL : L.length ≤ 2 * i + 1 := by
          rw [eL, List.length_append]
          split <;> simp <;> omega
        have bH : H.length ≤ 3 * i + 1 := by
          rw [eH, List.length_append]
          split <;> simp <;> omega
        subst hr4
        refine seq_cut fun rest5 hr5 => ?_
        walk_at "zz"
        have hp1 : 0 < q.s.num ↔ 0 < q.s := num_pos_iff
        have hp2 : 0 < (y - q.v).num ↔ 0 < y - q.v := num_pos_iff
        have afterC : ∀ (L' : List Rat) (H' : List (Option Rat)) (w10 : Option D), L' = L0 ++ incL q nx y → H' = H0 ++ (incL q nx y).map some → rest5 [some (D.lst ds), some (D.lst rs), some (frD y), some (D.cell (List.length Δ)), some (D.cell (List.length Δ + 1)), some (D.int (i : Int)), some (frD q.w), some (frD q.v), some (nxD nx), some (frD (y - q.v)), w10] (Δ ++ [O.lst (List.map frD L'), O.lst (List.map optD H')]) := fun L' H' w10 eL' eH' => by
          have bH' : H'.length ≤ 3 * i + 3 := by
            have := incL_len (p := q) (nx := nx) (y := y)
            rw [eH', List.length_append, List.length_map]
            omega
          subst hr5
          walk_at "zz"
          have ez1 : eqD (rdk (Δ ++ [O.lst (List.map frD L'), O.lst (List.map optD H')]) 3 (D.int q.s.num)) (rdk (Δ ++ [O.lst (List.map frD L'), O.lst (List.map optD H')]) 3 (D.int 0)) = decide (q.s.num = 0) := eqv_i
          have ez2 : eqD (rdk (Δ ++ [O.lst (List.map frD L'), O.lst (List.map optD H')]) 3 (frD (y - q.v))) (rdk (Δ ++ [O.lst (List.map frD L'), O.lst (List.map optD H')]) 3 (D.tup [.int 0, .int 1])) = decide (y - q.v = 0) := frD_eq (y := 0)
          have no3 : ∀ Γ : Z.Env, (∃ u5 u6 u7 u8 u9 u10 : Option D, Γ = [some (.lst ds), some (.lst rs), some (frD y), some (.cell Δ.length), some (.cell (Δ.length + 1)), u5, u6, u7, u8, u9, u10]) → ¬ (q.s = 0 ∧ y - q.v = 0 ∧ nx = none) → Z'.nx Γ (Δ ++ [O.lst (List.map frD L'), O.lst (List.map optD H')]) := fun Γ hΓ hno => by
            obtain ⟨u5, u6, u7, u8, u9, u10, e⟩ := hΓ
            refine hn' _ _ ⟨u5, u6, u7, u8, u9, u10, ?_, e⟩
            rw [elow, ehigh, ← eL', show incH q nx y = (incL q nx y).map some from by unfold incH; rw [if_neg hno, List.append_nil], ← eH']
          refine ⟨_, atI_nat hsi, _, rfl, _, rfl, rfl, rfl, _, rfl, fun h1 => ⟨frD_shp, frD_shp (x := 0), _, rfl, fun h2 => ?_, fun h2 => ?_⟩, fun h1 => ?_⟩
          · rw [ez1] at h1
            rw [ez2] at h2
            have h1 : q.s = 0 := Rat.num_eq_zero.mp (by simpa using h1)
            have h2 : y - q.v = 0 := by simpa using h2
            cases nx with
            | some q' => exact ⟨fun z => (nomatch z), fun _ => no3 _ ⟨_, _, _, _, _, _, rfl⟩ (fun z => nomatch z.2.2)⟩
            | none =>
              refine ⟨fun _ => ⟨⟨_, two1⟩, _, two1, by rw [List.length_map]; omega, ?_⟩, fun z => nomatch z⟩
              rw [set1]
              refine hn' _ _ ⟨_, _, _, _, _, _, ?_, rfl⟩
              rw [elow, ehigh, ← eL', show incH q none y = (incL q none y).map some ++ [none] from by unfold incH; rw [if_pos ⟨h1, h2, rfl⟩], ← List.append_assoc, ← eH', show List.map optD (H' ++ [(none : Option Rat)]) = List.map optD H' ++ [D.non] from (by rw [List.map_append]; rfl)]
          · rw [ez2] at h2
            have h2 : ¬ y - q.v = 0 := by simpa using h2
            exact no3 _ ⟨_, _, _, _, _, _, rfl⟩ (fun z => h2 z.2.1)
          · rw [ez1] at h1
            have h1 : ¬ q.s.num = 0 := by simpa using h1
            exact no3 _ ⟨_, _, _, _, _, _, rfl⟩ (fun z => h1 (Rat.num_eq_zero.mpr z.1))
        have no2 : ∀ (w10 : Option D), ¬ ((0 < q.s ∧ 0 < y - q.v) ∧ (∀ q', nx = some q' → 0 < q'.w - xAt q y)) → rest5 [some (D.lst ds), some (D.lst rs), some (frD y), some (D.cell (List.length Δ)), some (D.cell (List.length Δ + 1)), some (D.int (i : Int)), some (frD q.w), some (frD q.v), some (nxD nx), some (frD (y - q.v)), w10] (Δ ++ [O.lst (List.map frD L), O.lst (List.map optD H)]) := fun w10 hno => by
          have e : incL q nx y = (if y - q.v = 0 then [q.w] else []) := by
            unfold incL
            rw [if_neg hno, List.append_nil]
          exact afterC L H w10 (by rw [e]; exact eL) (by rw [e]; exact eH)
        refine ⟨_, atI_nat hsi, _, rfl, _, rfl, _, rfl, fun hs1 => ⟨_, rfl, _, rfl, _, rfl, fun ho1 => ⟨_, rfl, _, rfl, _, atI_nat hsi, _, rfl, _, rfl, _, rfl, _, rfl, mulW so.n zs.dl (by decide) (by decide), _, rfl, _, rfl, _, atI_nat hsi, _, rfl, _, rfl, _, rfl, _, rfl, mulW so.dl zs.n (by decide) (by decide), ?_⟩, fun ho0 => ?_⟩, fun hs0 => ?_⟩
        · have k1 := hp1.mp hs1
          have k2 := hp2.mp ho1
          refine cut_ok (Int.mul_pos (dpos (y - q.v)) hs1) (Nat.lt_of_lt_of_le (absP so.dl zs.n) (Nat.pow_le_pow_right (by decide) (by decide))) ?_
          rw [over_eq k1]
          have so2 := sz_over k1 so zs
          refine lplus_ok (N := 2702) (M := 2702) (zw.mono (by decide) (by decide)) (so2.mono (by decide) (by decide)) (by decide) (by decide) ?_
          have sx : Sz (xAt q y) 3603 3600 := sz_add zw so2 (by decide) (by decide)
          have doit : (∀ q', nx = some q' → 0 < q'.w - xAt q y) → ∀ w10 : Option D, w10 = some (frD (xAt q y)) → rest5 [some (D.lst ds), some (D.lst rs), some (frD y), some (D.cell (List.length Δ)), some (D.cell (List.length Δ + 1)), some (D.int (i : Int)), some (frD q.w), some (frD q.v), some (nxD nx), some (frD (y - q.v)), w10] (Δ ++ [O.lst (List.map frD (L ++ [xAt q y])), O.lst (List.map optD (H ++ [some (xAt q y)]))]) := fun hlt w10 e10 => by
            have e : incL q nx y = (if y - q.v = 0 then [q.w] else []) ++ [xAt q y] := by
              unfold incL
              rw [if_pos (⟨⟨k1, k2⟩, hlt⟩ : (0 < q.s ∧ 0 < y - q.v) ∧ (∀ q', nx = some q' → 0 < q'.w - xAt q y))]
            exact afterC _ _ w10 (by rw [e, eL, List.append_assoc]) (by rw [e, eH, List.map_append, List.append_assoc]; rfl)
          have app : ∀ (Q : Store → Prop), Q (Δ ++ [O.lst (List.map frD (L ++ [xAt q y])), O.lst (List.map optD (H ++ [some (xAt q y)]))]) → (∃ x, (Δ ++ [O.lst (List.map frD L), O.lst (List.map optD H)])[List.length Δ]? = some (O.lst x)) ∧ ∃ x, (Δ ++ [O.lst (List.map frD L), O.lst (List.map optD H)])[List.length Δ]? = some (O.lst x) ∧ x.length < 100000 ∧ (∃ x_5, ((Δ ++ [O.lst (List.map frD L), O.lst (List.map optD H)]).set (List.length Δ) (O.lst (x ++ [frD (xAt q y)])))[List.length Δ + 1]? = some (O.lst x_5)) ∧ ∃ x_5, ((Δ ++ [O.lst (List.map frD L), O.lst (List.map optD H)]).set (List.length Δ) (O.lst (x ++ [frD (xAt q y)])))[List.length Δ + 1]? = some (O.lst x_5) ∧ x_5.length < 100000 ∧ Q (((Δ ++ [O.lst (List.map frD L), O.lst (List.map optD H)]).set (List.length Δ) (O.lst (x ++ [frD (xAt q y)]))).set (List.length Δ + 1) (O.lst (x_5 ++ [frD (xAt q y)]))) := fun Q hQ => by
            refine ⟨⟨_, two0⟩, _, two0, by rw [List.length_map]; omega, ⟨_, by rw [set0]; exact two1⟩, _, by rw [set0]; exact two1, by rw [List.length_map]; omega, ?_⟩
            rw [set0, set1]
            rw [List.map_append, List.map_append] at hQ
            exact hQ
          cases nx with
          | none => exact ⟨fun _ => app _ (doit (fun q' e => nomatch e) _ rfl), fun z => nomatch z⟩
          | some q' =>
            have zq := znx q' rfl
            refine ⟨fun z => (nomatch z), fun _ => ⟨_, rfl, _, rfl, ?_⟩⟩
            refine lless_ok (N := 3603) (M := 3603) (zq.mono (by decide) (by decide)) (sx.mono (by decide) (by decide)) (by decide) (by decide) ?_
            refine ⟨_, rfl, _, rfl, _, rfl, fun hlt => app _ (doit (fun a e => by rw [← Option.some.inj e]; exact num_pos_iff.mp hlt) _ rfl), fun hge => no2 _ fun z => hge (num_pos_iff.mpr (z.2 q' rfl))⟩
        · exact no2 _ fun z => ho0 (hp2.mpr z.1.2)
        · exact no2 _ fun z => hs0 (hp1.mpr z.1.1)
      have ez : eqD (rdk (Δ ++ [O.lst (List.map frD L0), O.lst (List.map optD H0)]) 3 (frD (y - q.v))) (frD 0) = decide (y - q.v = 0) := frD_eq
      refine ⟨frD_shp, frD_shp (x := 0), _, rfl, fun h1 => ?_, fun h1 => ?_⟩
      · have h2 : y - q.v = 0 := by
          rw [show eqD (rdk (Δ ++ [O.lst (List.map frD L0), O.lst (List.map optD H0)]) 3 (frD (y - q.v))) (rdk (Δ ++ [O.lst (List.map frD L0), O.lst (List.map optD H0)]) 3 (D.tup [.int 0, .int 1])) = decide (y - q.v = 0) from ez] at h1
          simpa using h1
        refine ⟨⟨_, two0⟩, _, two0, by rw [List.length_map]; omega, ⟨_, by rw [set0]; exact two1⟩, _, by rw [set0]; exact two1, by rw [List.length_map]; omega, ?_⟩
        rw [set0, set1]
        have := afterB (L0 ++ [q.w]) (H0 ++ [some q.w]) (by rw [if_pos h2]) (by rw [if_pos h2]; rfl)
        rw [List.map_append, List.map_append] at this
        exact this
      · have h2 : ¬ y - q.v = 0 := by
          rw [show eqD (rdk (Δ ++ [O.lst (List.map frD L0), O.lst (List.map optD H0)]) 3 (frD (y - q.v))) (rdk (Δ ++ [O.lst (List.map frD L0), O.lst (List.map optD H0)]) 3 (D.tup [.int 0, .int 1])) = decide (y - q.v = 0) from ez] at h1
          simpa using h1
        exact afterB L0 H0 (by rw [if_neg h2, List.append_nil]) (by rw [if_neg h2]; exact (List.append_nil _).symm)
    refine ⟨fun h1 => ?_, fun h1 => ?_⟩
    · have h2 : i + 1 ≤ r.length := by rw [hl] at h1; omega
      exact ⟨_, by rw [show ((i : Int) + 1) = ((i + 1 : Nat) : Int) by omega]; exact atI_nat (hg (i + 1) h2), after (some (pa p r (i + 1))) (pa_get h2)⟩
    · exact after none (List.getElem?_eq_none (by rw [List.length_cons]; rw [hl] at h1; omega))
  · rintro Γ E ⟨u5, u6, u7, u8, u9, u10, rfl, rfl⟩
    rw [Nat.zero_add, enumD_len, hl, lowK_all, highK_all]
    rw [← resL_ok c.ch c.sn] at h
    have lh := low_high (p := p) (r := r) (y := y)
    generalize lowL p r y = L at *
    generalize highL p r y = H at *
    subst hr
    dsimp only
    refine seq_cut fun rest hr => ?_
    walk_at "zz"
    have er := rdk_cell (f := frD) (E := Δ ++ [O.lst (List.map frD L), O.lst (List.map optD H)]) two0 (fun _ => rfl)
    have er2 := rdk_cell (f := optD) (E := Δ ++ [O.lst (List.map frD L), O.lst (List.map optD H)]) two1 (fun x => by cases x <;> rfl)
    have e0 : eqD (rdk (Δ ++ [O.lst (List.map frD L), O.lst (List.map optD H)]) 3 (D.cell Δ.length)) (rdk (Δ ++ [O.lst (List.map frD L), O.lst (List.map optD H)]) 3 (D.lst [])) = decide (L = []) := by
      rw [er]
      exact fr_empty
    refine ⟨by rw [er]; exact shp_list (f := frD) (fun _ => ⟨rfl, rfl, Nat.le_of_ble_eq_true rfl⟩) L, rfl, _, rfl, fun h1 => ?_, fun h1 => ?_⟩
    · rw [e0] at h1
      have h1 : L = [] := by simpa using h1
      subst h1
      exact ⟨app_old, rfl, by rw [app_take]; exact h⟩
    · rw [e0] at h1
      have h1 : ¬ L = [] := by simpa using h1
      cases L with
      | nil => exact absurd rfl h1
      | cons a L =>
        subst hr
        have out : ∀ b : Option Rat, P (rsD (some (a, b))) Δ → (∀ (n : Nat) (o : O), n < List.length Δ → (Δ ++ [O.lst (List.map frD (a :: L)), O.lst (List.map optD H)])[n]? = some o → Δ[n]? = some o ∨ blwO (List.length Δ) o = true) ∧ Z.below (List.length Δ) (Z.frx C (Δ ++ [O.lst (List.map frD (a :: L)), O.lst (List.map optD H)]) (List.length Δ) 4 (.tup [frD a, optD b])) = true ∧ P (Z.frx C (Δ ++ [O.lst (List.map frD (a :: L)), O.lst (List.map optD H)]) (List.length Δ) 4 (.tup [frD a, optD b])) (List.take (List.length Δ) (Δ ++ [O.lst (List.map frD (a :: L)), O.lst (List.map optD H)])) := fun b hb => by
          have ef : Z.frx C (Δ ++ [O.lst (List.map frD (a :: L)), O.lst (List.map optD H)]) (List.length Δ) 4 (.tup [frD a, optD b]) = .tup [frD a, optD b] := by cases b <;> rfl
          rw [ef, app_take]
          exact ⟨app_old, by cases b <;> rfl, hb⟩
        have h : P (rsD (some (a, if none ∈ H then none else H.getLast?.getD none))) Δ := h
        walk_at "zz"
        rw [two0]
        refine ⟨_, rfl, _, atI_nat (i := 0) rfl, ?_⟩
        refine ⟨_, er2, rfl, opt_shp H, _, rfl, fun h2 => ?_, fun h2 => ?_⟩
        · have h2 : decide (none ∈ H) = true := (opt_any H).symm.trans h2
          have h2 : none ∈ H := by simpa using h2
          rw [if_pos h2] at h
          exact out none h
        · have h2 : decide (none ∈ H) = false := (opt_any H).symm.trans h2
          have h2 : ¬ none ∈ H := by simpa using h2
          rw [if_neg h2] at h
          rw [two1]
          have hH : H ≠ [] := fun z => h1 (lh.mpr z)
          obtain ⟨b, hb⟩ : ∃ b, H.getLast? = some b := ⟨_, List.getLast?_eq_some_getLast hH⟩
          rw [hb] at h
          refine ⟨_, rfl, optD b, atI_end (by rw [List.getLast?_map, hb]; rfl), ?_⟩
          exact out b h
end
end Bx

namespace Bx
open PySem PySem.Spec PyProof.Rows L2 Z
local macro_rules | `(tactic| walk_at "zz") => `(tactic| simp only [zSeq, zAsg, zRet, zRetN, zIfS, zNext, zDrop, zPar, zPar3, zAug, zDivmod, zIndex, zCatT, zSlT, zMeth, zVar, zC, zOp, zUn, zNeg, zI0, zI, zTest, zAnd, zOr, zNot, zAndV, zOrV, zNotV, zIf, zNil, zCons, zTup, zLst, zLstC, zgName, zgTup, zgCons, zgNil, zgSub, startZ, zCall, zCB, zChain, zIsN, zNotN, zNever,
  zAddA, zMulA, zRepeat, zCat, zIx, seqD, lstD, zMax2, zMin2, zAbs, zLen, zSum, zGcd, zInt, zYes, zBreak, zCont, zMin1, zMax1, zList, zListC, zLcC, zLc, ziR1, ziR2, ziList, ziTup, ziZip, ziEnum, wipeZ, zFor, zSl, zPart, zNoPart, zAppend, zLstR1, zLstR2, zCallBC, zCallBF, zBits, zTru, zProp, zCallO,
  at0, at1, at2, at3, at4, ix2_3, ix0_3, isNon_int, isNon_non, Bool.not_true, Bool.not_false,
  List.map_cons, List.map_nil, List.length_cons, List.length_nil, List.replicate_succ, List.replicate_zero, List.append_nil, List.nil_append, List.cons_append, List.getElem?_cons_zero, List.getElem?_cons_succ, List.set_cons_zero, List.set_cons_succ,
  Option.some.injEq, D.int.injEq, D.bl.injEq, D.tup.injEq, D.lst.injEq, D.str.injEq, D.cell.injEq, O.lst.injEq, reduceCtorEq, exists_eq_left', exists_eq_left, false_and, and_false, true_and, and_true, exists_false, or_false, false_or, exists_and_left, exists_eq', exists_and_right, List.cons.injEq, and_assoc, dec_not, dec_yes, nd_t, nd_f, t_t, t_f, f_t, f_f, true_implies, false_implies, implies_true, and_self, Nat.reduceAdd, Nat.reduceLeDiff, Nat.reduceSub, Nat.reduceLT])
local macro_rules | `(tactic| walk_at "zy") => `(tactic| try simp only [Option.some.injEq, D.int.injEq, D.bl.injEq, D.tup.injEq, D.lst.injEq, D.str.injEq, D.cell.injEq, O.lst.injEq, reduceCtorEq, exists_eq_left', exists_eq_left, false_and, and_false, true_and, and_true, exists_false, or_false, false_or, exists_and_left, exists_eq', exists_and_right, List.cons.injEq, and_assoc, dec_not, dec_yes, nd_t, nd_f, t_t, t_f, f_t, f_f, true_implies, false_implies, implies_true, and_self])
/-! ### what the widths tell -/
theorem on_at {p : Pc} : on p p.w = p.v := by unfold on; grind
theorem on_lt {p : Pc} {x z : Rat} (h : 0 < p.s) (hx : x < z) : on p x < on p z := by
  have := (lt_of_mul (x := x - p.w) (y := z - p.w) h).mpr (by grind)
  unfold on
  grind
theorem on_le {p : Pc} {x z : Rat} (h : 0 ≤ p.s) (hx : x ≤ z) : on p x ≤ on p z := by
  have := mul_nn h (show (0 : Rat) ≤ z - x by grind)
  unfold on
  grind
theorem on_xAt {p : Pc} {y : Rat} (h : 0 < p.s) : on p (xAt p y) = y := by
  have := xAt_eq (p := p) (y := y) h
  unfold on
  rw [this]
  grind
theorem xAt_gt {p : Pc} {y : Rat} (h : 0 < p.s) (hy : p.v < y) : p.w < xAt p y := by
  have e := xAt_eq (p := p) (y := y) h
  have := lt_of_mul (x := 0) (y := xAt p y - p.w) h
  grind
theorem evl_ge : ∀ {r : List Pc} {p : Pc} {x : Rat}, Ch p r → Sn p r → p.w ≤ x → p.v ≤ evl p r x := by
  intro r
  induction r with
  | nil =>
    intro p x _ hs h
    show p.v ≤ on p x
    have := on_le hs.hd h
    rw [on_at] at this
    exact this
  | cons q r ih =>
    intro p x hc hs h
    show p.v ≤ if q.w ≤ x then evl q r x else on p x
    split
    · rename_i h1
      have := ih hc.2.2 hs.tl h1
      have := on_ge hc.1 hs.hd hc.2.1
      grind
    · have := on_le hs.hd h
      rw [on_at] at this
      exact this
structure LoW (f : Rat → Rat) (w0 y a : Rat) : Prop where
  ge : w0 ≤ a
  at_ : f a = y
  lt : ∀ x, w0 ≤ x → x < a → f x < y
structure HiW (f : Rat → Rat) (y a b : Rat) : Prop where
  ge : a ≤ b
  at_ : f b = y
  gt : ∀ x, b < x → y < f x
theorem resW_low : ∀ {r : List Pc} {p : Pc} {y a : Rat} {h : Option Rat}, Ch p r → Sn p r → resW p r y = some (a, h) → LoW (evl p r) p.w y a := by
  intro r
  induction r with
  | nil =>
    intro p y a h _ hs e
    have e : (if y = p.v then some (p.w, if p.s = 0 then none else some p.w) else if 0 < p.s ∧ p.v < y then some (xAt p y, some (xAt p y)) else none) = some (a, h) := e
    by_cases h1 : y = p.v
    · rw [if_pos h1] at e
      have ea : p.w = a := congrArg Prod.fst (Option.some.inj e)
      subst ea
      exact ⟨Rat.le_refl, by rw [h1]; exact on_at, fun x z1 z2 => by grind⟩
    · rw [if_neg h1] at e
      by_cases h2 : 0 < p.s ∧ p.v < y
      · rw [if_pos h2] at e
        have ea : xAt p y = a := congrArg Prod.fst (Option.some.inj e)
        subst ea
        refine ⟨Rat.le_of_lt (xAt_gt h2.1 h2.2), on_xAt h2.1, fun x _ z2 => ?_⟩
        have := on_lt h2.1 z2
        rw [on_xAt h2.1] at this
        exact this
      · rw [if_neg h2] at e
        exact nomatch e
  | cons q r ih =>
    intro p y a h hc hs e
    have e : (if y = p.v then extR p.w (resW q r y) else if 0 < p.s ∧ p.v < y ∧ xAt p y < q.w then some (xAt p y, some (xAt p y)) else resW q r y) = some (a, h) := e
    have hw := hc.1
    have ev : ∀ x, x < q.w → evl p (q :: r) x = on p x := fun x hx => if_neg (by grind)
    have ev2 : ∀ x, q.w ≤ x → evl p (q :: r) x = evl q r x := fun x hx => if_pos hx
    by_cases h1 : y = p.v
    · rw [if_pos h1] at e
      have ea : p.w = a := by
        cases hR : resW q r y with
        | none => rw [hR] at e; exact congrArg Prod.fst (Option.some.inj e)
        | some z => rw [hR] at e; exact congrArg Prod.fst (Option.some.inj e)
      subst ea
      exact ⟨Rat.le_refl, by rw [ev _ hw, h1]; exact on_at, fun x z1 z2 => by grind⟩
    · rw [if_neg h1] at e
      by_cases h2 : 0 < p.s ∧ p.v < y ∧ xAt p y < q.w
      · rw [if_pos h2] at e
        have ea : xAt p y = a := congrArg Prod.fst (Option.some.inj e)
        subst ea
        refine ⟨Rat.le_of_lt (xAt_gt h2.1 h2.2.1), by rw [ev _ h2.2.2]; exact on_xAt h2.1, fun x _ z2 => ?_⟩
        have := on_lt h2.1 z2
        rw [on_xAt h2.1] at this
        rw [ev x (by have := h2.2.2; grind)]
        exact this
      · rw [if_neg h2] at e
        have i := ih hc.2.2 hs.tl e
        have hge := i.ge
        refine ⟨by grind, by rw [ev2 a hge]; exact i.at_, fun x z1 z2 => ?_⟩
        by_cases h3 : q.w ≤ x
        · rw [ev2 x h3]
          exact i.lt x h3 z2
        · rw [ev x (by grind)]
          have hq : q.v ≤ y := by
            rcases (by grind : y < q.v ∨ q.v ≤ y) with z | z
            · rw [resW_none hc.2.2 hs.tl z] at e
              exact nomatch e
            · exact z
          have hp := hs.hd
          by_cases h4 : p.s = 0
          · have e1 : on p x = p.v := by unfold on; rw [h4]; grind
            have e2 : q.v = p.v := by rw [hc.2.1]; unfold on; rw [h4]; grind
            rw [e1]
            grind
          · have := on_lt (p := p) (x := x) (z := q.w) (by grind) (by grind)
            rw [← hc.2.1] at this
            grind
theorem resW_high : ∀ {r : List Pc} {p : Pc} {y a b : Rat}, Ch p r → Sn p r → resW p r y = some (a, some b) → HiW (evl p r) y a b := by
  intro r
  induction r with
  | nil =>
    intro p y a b _ hs e
    have hp := hs.hd
    have e : (if y = p.v then some (p.w, if p.s = 0 then none else some p.w) else if 0 < p.s ∧ p.v < y then some (xAt p y, some (xAt p y)) else none) = some (a, some b) := e
    by_cases h1 : y = p.v
    · rw [if_pos h1] at e
      have ea : p.w = a := congrArg Prod.fst (Option.some.inj e)
      have eb : (if p.s = 0 then none else some p.w) = some b := congrArg Prod.snd (Option.some.inj e)
      by_cases h2 : p.s = 0
      · rw [if_pos h2] at eb
        exact nomatch eb
      rw [if_neg h2] at eb
      have eb := Option.some.inj eb
      subst ea eb
      refine ⟨Rat.le_refl, by rw [h1]; exact on_at, fun x hx => ?_⟩
      have := on_lt (p := p) (by grind) hx
      rw [on_at] at this
      rw [h1]
      exact this
    · rw [if_neg h1] at e
      by_cases h2 : 0 < p.s ∧ p.v < y
      · rw [if_pos h2] at e
        have ea : xAt p y = a := congrArg Prod.fst (Option.some.inj e)
        have eb : xAt p y = b := Option.some.inj (congrArg Prod.snd (Option.some.inj e))
        subst ea eb
        refine ⟨Rat.le_refl, on_xAt h2.1, fun x z2 => ?_⟩
        have := on_lt h2.1 z2
        rw [on_xAt h2.1] at this
        exact this
      · rw [if_neg h2] at e
        exact nomatch e
  | cons q r ih =>
    intro p y a b hc hs e
    have hp := hs.hd
    have e : (if y = p.v then extR p.w (resW q r y) else if 0 < p.s ∧ p.v < y ∧ xAt p y < q.w then some (xAt p y, some (xAt p y)) else resW q r y) = some (a, some b) := e
    have hw := hc.1
    have ev : ∀ x, x < q.w → evl p (q :: r) x = on p x := fun x hx => if_neg (by grind)
    have ev2 : ∀ x, q.w ≤ x → evl p (q :: r) x = evl q r x := fun x hx => if_pos hx
    by_cases h1 : y = p.v
    · rw [if_pos h1] at e
      cases hR : resW q r y with
      | none =>
        rw [hR] at e
        have ea : p.w = a := congrArg Prod.fst (Option.some.inj e)
        have eb : p.w = b := Option.some.inj (congrArg Prod.snd (Option.some.inj e))
        subst ea eb
        have h2 : 0 < p.s := by
          rcases (by grind : p.s = 0 ∨ 0 < p.s) with z | z
          · have e2 : q.v = p.v := by rw [hc.2.1]; unfold on; rw [z]; grind
            obtain ⟨hh, e3⟩ := resW_some (p := q) (r := r) (y := y) (by rw [h1, e2])
            rw [hR] at e3
            exact nomatch e3
          · exact z
        refine ⟨Rat.le_refl, by rw [ev _ hw, h1]; exact on_at, fun x hx => ?_⟩
        by_cases h3 : q.w ≤ x
        · rw [ev2 x h3]
          have := evl_ge hc.2.2 hs.tl h3
          have h4 := on_lt (p := p) h2 hw
          rw [on_at, ← hc.2.1] at h4
          grind
        · rw [ev x (by grind), h1]
          have := on_lt (p := p) h2 hx
          rw [on_at] at this
          exact this
      | some z =>
        obtain ⟨a', h'⟩ := z
        rw [hR] at e
        have ea : p.w = a := congrArg Prod.fst (Option.some.inj e)
        have eb : h' = some b := congrArg Prod.snd (Option.some.inj e)
        subst ea eb
        have i := ih hc.2.2 hs.tl hR
        have j := resW_low hc.2.2 hs.tl hR
        have g1 := i.ge
        have g2 := j.ge
        refine ⟨by grind, by rw [ev2 b (by grind)]; exact i.at_, fun x hx => ?_⟩
        rw [ev2 x (by grind)]
        exact i.gt x hx
    · rw [if_neg h1] at e
      by_cases h2 : 0 < p.s ∧ p.v < y ∧ xAt p y < q.w
      · rw [if_pos h2] at e
        have ea : xAt p y = a := congrArg Prod.fst (Option.some.inj e)
        have eb : xAt p y = b := Option.some.inj (congrArg Prod.snd (Option.some.inj e))
        subst ea eb
        refine ⟨Rat.le_refl, by rw [ev _ h2.2.2]; exact on_xAt h2.1, fun x z2 => ?_⟩
        by_cases h3 : q.w ≤ x
        · rw [ev2 x h3]
          have := evl_ge hc.2.2 hs.tl h3
          have := (xAt_lt h2.1 hc.2.1).mp h2.2.2
          grind
        · rw [ev x (by grind)]
          have := on_lt h2.1 z2
          rw [on_xAt h2.1] at this
          exact this
      · rw [if_neg h2] at e
        have i := ih hc.2.2 hs.tl e
        have j := resW_low hc.2.2 hs.tl e
        have g1 := i.ge
        have g2 := j.ge
        refine ⟨g1, by rw [ev2 b (by grind)]; exact i.at_, fun x hx => ?_⟩
        rw [ev2 x (by grind)]
        exact i.gt x hx
/-- the widths' sizes -/
theorem resW_sz {N : Nat} : ∀ {r : List Pc} {p : Pc} {y : Rat}, (∀ q ∈ p :: r, Sz q.w 200 200 ∧ Sz q.v 200 200 ∧ Sz q.s 200 200) → Sn p r → Sz y 420 420 → N = 1040 → ∀ a h, resW p r y = some (a, h) → Sz a N N ∧ ∀ b, h = some b → Sz b N N := by
  have key : ∀ {p : Pc} {y : Rat}, Sz p.w 200 200 → Sz p.v 200 200 → Sz p.s 200 200 → Sz y 420 420 → 0 < p.s → Sz (xAt p y) 1040 1040 := fun hw hv hs hy h0 => by
    have s1 := sz_sub hy hv (N := 621) (by decide) (by decide)
    have s2 := sz_over h0 s1 hs
    exact (sz_add hw s2 (N := 1040) (by decide) (by decide)).mono (by decide) (by decide)
  intro r
  induction r with
  | nil =>
    intro p y hz hs hy hN a h e
    subst hN
    obtain ⟨zw, zv, zs⟩ := hz p List.mem_cons_self
    have e : (if y = p.v then some (p.w, if p.s = 0 then none else some p.w) else if 0 < p.s ∧ p.v < y then some (xAt p y, some (xAt p y)) else none) = some (a, h) := e
    split at e
    · have ea : p.w = a := congrArg Prod.fst (Option.some.inj e)
      have eb : (if p.s = 0 then none else some p.w) = h := congrArg Prod.snd (Option.some.inj e)
      subst ea
      refine ⟨zw.mono (by decide) (by decide), fun b hb => ?_⟩
      rw [← eb] at hb
      split at hb
      · exact nomatch hb
      · rw [← Option.some.inj hb]; exact zw.mono (by decide) (by decide)
    · split at e
      · rename_i h2
        have ea : xAt p y = a := congrArg Prod.fst (Option.some.inj e)
        have eb : some (xAt p y) = h := congrArg Prod.snd (Option.some.inj e)
        subst ea
        have := key zw zv zs hy h2.1
        exact ⟨this, fun b hb => by rw [← eb] at hb; rw [← Option.some.inj hb]; exact this⟩
      · exact nomatch e
  | cons q r ih =>
    intro p y hz hs hy hN a h e
    obtain ⟨zw, zv, zs⟩ := hz p List.mem_cons_self
    have ih := ih (p := q) (y := y) (fun a ha => hz a (List.mem_cons_of_mem _ ha)) hs.tl hy hN
    subst hN
    have e : (if y = p.v then extR p.w (resW q r y) else if 0 < p.s ∧ p.v < y ∧ xAt p y < q.w then some (xAt p y, some (xAt p y)) else resW q r y) = some (a, h) := e
    split at e
    · cases hR : resW q r y with
      | none =>
        rw [hR] at e
        have ea : p.w = a := congrArg Prod.fst (Option.some.inj e)
        have eb : some p.w = h := congrArg Prod.snd (Option.some.inj e)
        subst ea
        exact ⟨zw.mono (by decide) (by decide), fun b hb => by rw [← eb] at hb; rw [← Option.some.inj hb]; exact zw.mono (by decide) (by decide)⟩
      | some z =>
        obtain ⟨a', h'⟩ := z
        rw [hR] at e
        have ea : p.w = a := congrArg Prod.fst (Option.some.inj e)
        have eb : h' = h := congrArg Prod.snd (Option.some.inj e)
        subst ea eb
        exact ⟨zw.mono (by decide) (by decide), (ih a' h' hR).2⟩
    · split at e
      · rename_i h2
        have ea : xAt p y = a := congrArg Prod.fst (Option.some.inj e)
        have eb : some (xAt p y) = h := congrArg Prod.snd (Option.some.inj e)
        subst ea
        have := key zw zv zs hy h2.1
        exact ⟨this, fun b hb => by rw [← eb] at hb; rw [← Option.some.inj hb]; exact this⟩
      · exact ih a h e
end Bx

namespace Bx
open PySem PySem.Spec PyProof.Rows L2 Z
local macro_rules | `(tactic| walk_at "zz") => `(tactic| simp only [zSeq, zAsg, zRet, zRetN, zIfS, zNext, zDrop, zPar, zPar3, zAug, zDivmod, zIndex, zCatT, zSlT, zMeth, zVar, zC, zOp, zUn, zNeg, zI0, zI, zTest, zAnd, zOr, zNot, zAndV, zOrV, zNotV, zIf, zNil, zCons, zTup, zLst, zLstC, zgName, zgTup, zgCons, zgNil, zgSub, startZ, zCall, zCB, zChain, zIsN, zNotN, zNever,
  zAddA, zMulA, zRepeat, zCat, zIx, seqD, lstD, zMax2, zMin2, zAbs, zLen, zSum, zGcd, zInt, zYes, zBreak, zCont, zMin1, zMax1, zList, zListC, zLcC, zLc, ziR1, ziR2, ziList, ziTup, ziZip, ziEnum, wipeZ, zFor, zSl, zPart, zNoPart, zAppend, zLstR1, zLstR2, zCallBC, zCallBF, zBits, zTru, zProp, zCallO,
  at0, at1, at2, at3, at4, ix2_3, ix0_3, isNon_int, isNon_non, Bool.not_true, Bool.not_false,
  List.map_cons, List.map_nil, List.length_cons, List.length_nil, List.replicate_succ, List.replicate_zero, List.append_nil, List.nil_append, List.cons_append, List.getElem?_cons_zero, List.getElem?_cons_succ, List.set_cons_zero, List.set_cons_succ,
  Option.some.injEq, D.int.injEq, D.bl.injEq, D.tup.injEq, D.lst.injEq, D.str.injEq, D.cell.injEq, O.lst.injEq, reduceCtorEq, exists_eq_left', exists_eq_left, false_and, and_false, true_and, and_true, exists_false, or_false, false_or, exists_and_left, exists_eq', exists_and_right, List.cons.injEq, and_assoc, dec_not, dec_yes, nd_t, nd_f, t_t, t_f, f_t, f_f, true_implies, false_implies, implies_true, and_self, Nat.reduceAdd, Nat.reduceLeDiff, Nat.reduceSub, Nat.reduceLT])
local macro_rules | `(tactic| walk_at "zy") => `(tactic| try simp only [Option.some.injEq, D.int.injEq, D.bl.injEq, D.tup.injEq, D.lst.injEq, D.str.injEq, D.cell.injEq, O.lst.injEq, reduceCtorEq, exists_eq_left', exists_eq_left, false_and, and_false, true_and, and_true, exists_false, or_false, false_or, exists_and_left, exists_eq', exists_and_right, List.cons.injEq, and_assoc, dec_not, dec_yes, nd_t, nd_f, t_t, t_f, f_t, f_f, true_implies, false_implies, implies_true, and_self])
theorem pts_of {p : Pc} {r : List Pc} : ((p :: r).map fun q => ptD (ptP q)) = ((p :: r).map ptP).map ptD := by rw [List.map_map]; rfl
theorem below_pt {m : Nat} (l : List Pc) : Z.below m (.lst (l.map fun q => ptD (ptP q))) = true := belowL_map (fun _ => rfl) l
theorem ins_crv {Δ : Store} {l : List Pc} : insD Δ 0 (crvD l) := .inl ⟨_, rfl⟩
theorem due_cv {N M : Nat} {p : Pc} {r : List Pc} (c : Cv N M p r) : Cv N M p (jn p.s r) := by
  have hm : ∀ q ∈ p :: jn p.s r, q ∈ p :: r := fun q hq => by
    rcases List.mem_cons.mp hq with rfl | hq
    · exact List.mem_cons_self
    · exact List.mem_cons_of_mem _ (jn_mem hq)
  exact ⟨jn_ch c.ch (fun _ => rfl) Rat.le_refl, c.w0, Nat.lt_of_le_of_lt jn_len c.n200, fun q hq => c.v0 q (hm q hq), fun q hq => c.s0 q (hm q hq), fun q hq => c.zw q (hm q hq), fun q hq => c.zv q (hm q hq), fun q hq => c.zs q (hm q hq)⟩
theorem Cv.mono {N M N' M' : Nat} {p : Pc} {r : List Pc} (c : Cv N M p r) (h1 : N ≤ N') (h2 : M ≤ M') : Cv N' M' p r :=
  ⟨c.ch, c.w0, c.n200, c.v0, c.s0, fun q hq => (c.zw q hq).mono h1 h2, fun q hq => (c.zv q hq).mono h1 h2, fun q hq => (c.zs q hq).mono h1 h2⟩
theorem rs_rdk {Δ : Store} (R : Rs) : rdk Δ 3 (rsD R) = rsD R := by
  rcases R with _ | ⟨a, _ | b⟩ <;> rfl
theorem rs_shp (R : Rs) : shp (rsD R) = true := by
  rcases R with _ | ⟨a, _ | b⟩ <;> rfl
theorem rs_eq (R : Rs) : eqD (rsD R) (rsD R) = true := by
  have h : ∀ x : Rat, PyData.eqv (pd (frD x)) (pd (frD x)) = true := fun x => by rw [frQ, decide_eq_true rfl]
  rcases R with _ | ⟨a, _ | b⟩
  · rfl
  · show (PyData.eqv (pd (frD a)) (pd (frD a)) && (true && true)) = true
    rw [h]; rfl
  · show (PyData.eqv (pd (frD a)) (pd (frD a)) && (PyData.eqv (pd (frD b)) (pd (frD b)) && true)) = true
    rw [h, h]; rfl
section
variable {K : PySem.W.Frag} {C : CI} {Δ : Store} {P : D → Store → Prop}
theorem lplusR_ok {x : Rat} {a b : Int} {N M : Nat} (hx : Sz x N M) (hb : 0 < b) (sa : a.natAbs < 2 ^ 64) (sb : b.natAbs < 2 ^ 64) (hN : N ≤ 3000) (hM : M ≤ 3000) (q : P (frD (x + Rat.divInt a b)) Δ) : W__law_plus K C [frD x, .tup [.int a, .int b]] Δ P := by
  have e : Rat.divInt (x.num * b + a * (x.den : Int)) ((x.den : Int) * b) = x + Rat.divInt a b := by
    have h := Rat.divInt_add_divInt x.num a (d₁ := (x.den : Int)) (d₂ := b) (by have := dpos x; omega) (by omega)
    rw [← h, Rat.num_divInt_den]
  unfold W__law_plus z__law_plus frD
  walk_at "zz"
  refine ⟨mulW hx.n sb (by omega) (by omega), mulW sa hx.dl (by omega) (by omega), mulW hx.dl sb (by omega) (by omega), ?_⟩
  refine cut_ok (Int.mul_pos (dpos x) hb) (Nat.lt_of_lt_of_le (absP hx.dl sb) (Nat.pow_le_pow_right (by decide) (by omega))) ?_
  rw [e]
  exact q
def mkG (K : PySem.W.Frag) (C : CI) (ds : List D) (E : Store) (P : D → Store → Prop) : Prop := W_Curve_d_init_d K C (.cell E.length :: (ds ++ [])) (E ++ [.ins 0 []]) fun v Δ2 => v = .non ∧ ∃ r, Δ2 = E ++ r ∧ Z.below E.length (Z.frx C Δ2 E.length 4 (.cell E.length)) = true ∧ P (Z.frx C Δ2 E.length 4 (.cell E.length)) E
theorem mk_eq {za : ZA} : zMakeX C 0 (W_Curve_d_init_d K C) [] za = fun Γ Δ P => za Γ Δ fun ds E => mkG K C ds E P := rfl
theorem mk_ok (F : Kf K C) {N M : Nat} {p : Pc} {r : List Pc} (c : Cv N M p r) (hN : N ≤ 900) (hM : M ≤ 900) {d : D} (hd : Pt C Δ d ((p :: r).map fun q => ptD (ptP q))) (h : P (crvD (p :: jn p.s r)) Δ) : mkG K C [d, frD (lastS p r)] Δ P := init_ok F c hN hM hd h
theorem ne_rs {R : Rs} (q : P (.bl false) Δ) : zNeD (rsD R) (rsD R) Δ P := by
  refine ⟨by rw [rs_rdk]; exact rs_shp R, by rw [rs_rdk]; exact rs_shp R, ?_⟩
  rw [rs_rdk, rs_eq]
  exact q
theorem ne_fr {x y : Rat} (q : P (.bl (!decide (x = y))) Δ) : zNeD (frD x) (frD y) Δ P := by
  refine ⟨frD_shp, frD_shp, ?_⟩
  rw [show eqD (rdk Δ 3 (frD x)) (rdk Δ 3 (frD y)) = decide (x = y) from frD_eq]
  exact q
theorem eq_fr {x y : Rat} (q : P (.bl (decide (x = y))) Δ) : zEqD (frD x) (frD y) Δ P := by
  refine ⟨frD_shp, frD_shp, ?_⟩
  rw [show eqD (rdk Δ 3 (frD x)) (rdk Δ 3 (frD y)) = decide (x = y) from frD_eq]
  exact q
theorem eq_in {i j : Int} (q : P (.bl (decide (i = j))) Δ) : zEqD (.int i) (.int j) Δ P := by
  refine ⟨rfl, rfl, ?_⟩
  rw [show eqD (rdk Δ 3 (.int i)) (rdk Δ 3 (.int j)) = decide (i = j) from eqv_i]
  exact q
/-- a value that is asked -/
structure Wv (y : Rat) : Prop where
  nn : 0 ≤ y
  z : Sz y 420 420
theorem Cv.vw {p : Pc} {r : List Pc} (c : Cv 200 200 p r) {y : Rat} (hy : Wv y) : Vw p r y :=
  ⟨c.ch, c.s0, by have := c.n200; omega, fun q hq => (c.zw q hq).mono (by decide) (by decide), fun q hq => (c.zv q hq).mono (by decide) (by decide), fun q hq => (c.zs q hq).mono (by decide) (by decide), hy.z.mono (by decide) (by decide)⟩
theorem told_ok (F : Kf K C) {p : Pc} {r : List Pc} (c : Cv 200 200 p r) {x : Rat} {d : D} (hd : IsW x d) (x0 : 0 ≤ x) (hx : Sz x 1200 1200) (q : P (frD (evl p r x)) Δ) : W_Curve_d_call_d K C [crvD (p :: jn p.s r), d] Δ P := by
  have c2 := (due_cv c).mono (N' := 1200) (M' := 1200) (by decide) (by decide)
  refine call_ok F c2.ch c2.zw c2.zv c2.zs (by have := c2.n200; omega) hd hx (by decide) (by decide) c2.w0 x0 ?_
  rw [jn_evl c.ch fun _ => rfl]
  exact q
theorem toldW_ok (F : Kf K C) {p : Pc} {r : List Pc} (c : Cv 200 200 p r) {y : Rat} (hy : Wv y) {d : D} (hd : IsW y d) (q : P (rsD (resW p r y)) Δ) : W_Curve_widths_of K C [crvD (p :: jn p.s r), d] Δ P := by
  refine wof_ok F ((due_cv c).vw hy) dif_jn hd hy.nn ?_
  rw [resW_jn r.length (Nat.le_refl _) c.ch c.s0]
  exact q
end
end Bx

namespace Bx
open PySem PySem.Spec PyProof.Rows L2 Z
local macro_rules | `(tactic| walk_at "zz") => `(tactic| simp only [zSeq, zAsg, zRet, zRetN, zIfS, zNext, zDrop, zPar, zPar3, zAug, zDivmod, zIndex, zCatT, zSlT, zMeth, zVar, zC, zOp, zUn, zNeg, zI0, zI, zTest, zAnd, zOr, zNot, zAndV, zOrV, zNotV, zIf, zNil, zCons, zTup, zLst, zLstC, zgName, zgTup, zgCons, zgNil, zgSub, startZ, zCall, zCB, zChain, zIsN, zNotN, zNever,
  zAddA, zMulA, zRepeat, zCat, zIx, seqD, lstD, zMax2, zMin2, zAbs, zLen, zSum, zGcd, zInt, zYes, zBreak, zCont, zMin1, zMax1, zList, zListC, zLcC, zLc, ziR1, ziR2, ziList, ziTup, ziZip, ziEnum, wipeZ, zFor, zSl, zPart, zNoPart, zAppend, zLstR1, zLstR2, zCallBC, zCallBF, zBits, zTru, zProp, zCallO,
  at0, at1, at2, at3, at4, ix2_3, ix0_3, isNon_int, isNon_non, Bool.not_true, Bool.not_false,
  List.map_cons, List.map_nil, List.length_cons, List.length_nil, List.replicate_succ, List.replicate_zero, List.append_nil, List.nil_append, List.cons_append, List.getElem?_cons_zero, List.getElem?_cons_succ, List.set_cons_zero, List.set_cons_succ,
  Option.some.injEq, D.int.injEq, D.bl.injEq, D.tup.injEq, D.lst.injEq, D.str.injEq, D.cell.injEq, O.lst.injEq, reduceCtorEq, exists_eq_left', exists_eq_left, false_and, and_false, true_and, and_true, exists_false, or_false, false_or, exists_and_left, exists_eq', exists_and_right, List.cons.injEq, and_assoc, dec_not, dec_yes, nd_t, nd_f, t_t, t_f, f_t, f_f, true_implies, false_implies, implies_true, and_self, Nat.reduceAdd, Nat.reduceLeDiff, Nat.reduceSub, Nat.reduceLT])
local macro_rules | `(tactic| walk_at "zy") => `(tactic| try simp only [Option.some.injEq, D.int.injEq, D.bl.injEq, D.tup.injEq, D.lst.injEq, D.str.injEq, D.cell.injEq, O.lst.injEq, reduceCtorEq, exists_eq_left', exists_eq_left, false_and, and_false, true_and, and_true, exists_false, or_false, false_or, exists_and_left, exists_eq', exists_and_right, List.cons.injEq, and_assoc, dec_not, dec_yes, nd_t, nd_f, t_t, t_f, f_t, f_f, true_implies, false_implies, implies_true, and_self])
theorem cut_map {α : Type} {f : α → D} {l : List α} {lo hi : Option Int} : ∃ l' : List α, Z.cutD (l.map f) lo hi = l'.map f ∧ l'.length ≤ l.length ∧ ∀ x ∈ l', x ∈ l := by
  unfold Z.cutD
  refine ⟨(l.drop (HT.sIx (l.map f).length 0 lo)).take (HT.sIx (l.map f).length (l.map f).length hi - HT.sIx (l.map f).length 0 lo), by rw [List.map_take, List.map_drop], ?_, fun x hx => List.mem_of_mem_drop (List.mem_of_mem_take hx)⟩
  rw [List.length_take, List.length_drop]
  omega
theorem zip_mem {α : Type} {f : α → D} {l l' : List α} (hs : ∀ x ∈ l', x ∈ l) {y : D} (h : y ∈ ((l.map f).zip (l'.map f)).map fun q => D.tup [q.1, q.2]) : ∃ a ∈ l, ∃ b ∈ l, y = .tup [f a, f b] := by
  obtain ⟨⟨a, b⟩, hq, rfl⟩ := List.mem_map.mp h
  obtain ⟨ha, hb⟩ := List.of_mem_zip hq
  obtain ⟨a', ha', e1⟩ := List.mem_map.mp ha
  obtain ⟨b', hb', e2⟩ := List.mem_map.mp hb
  exact ⟨a', ha', b', hs b' hb', by rw [e1, e2]⟩
theorem half_sz : Sz (Rat.divInt 1 2) 2 2 := sz_div (by decide) (by decide) (by decide)
theorem mth_crv {K : PySem.W.Frag} {C : CI} (F : Kf K C) {Δ : Store} {l : List Pc} : insM C Δ 0 (Str.ofString "widths_of") (crvD l) := .inl ⟨_, rfl, by rw [F.nms]; decide⟩
def c910 : Rat := ⟨9, 10, by decide, by decide⟩
def c12 : Rat := ⟨1, 2, by decide, by decide⟩
section
variable {K : PySem.W.Frag} {C : CI} {Δ : Store} {P : D → Store → Prop}
theorem lplusR_ok' {x : Rat} {a b : Int} (hx : Sz x 200 200) (hb : 0 < b) (sa : a.natAbs < 2 ^ 84) (sb : b.natAbs < 2 ^ 64) (q : P (frD (x + Rat.divInt a b)) Δ) : W__law_plus K C [frD x, .tup [.int a, .int b]] Δ P := by
  have e : Rat.divInt (x.num * b + a * (x.den : Int)) ((x.den : Int) * b) = x + Rat.divInt a b := by
    have h := Rat.divInt_add_divInt x.num a (d₁ := (x.den : Int)) (d₂ := b) (by have := dpos x; omega) (by omega)
    rw [← h, Rat.num_divInt_den]
  unfold W__law_plus z__law_plus frD
  walk_at "zz"
  refine ⟨mulW hx.n sb (by omega) (by omega), mulW sa hx.dl (by omega) (by omega), mulW hx.dl sb (by omega) (by omega), ?_⟩
  refine cut_ok (Int.mul_pos (dpos x) hb) (Nat.lt_of_lt_of_le (absP hx.dl sb) (Nat.pow_le_pow_right (by decide) (by omega))) ?_
  rw [e]
  exact q
theorem right_ok (F : Kf K C) {n : Nat} {c0 : Int} (hb : Spr Δ n c0) (hc : c0 ≤ 10 ^ 16) {p : Pc} {r : List Pc} (c : Cv 200 200 p r) (hn1 : r.length + 1 < 200) (h : ∀ Δ', Spr Δ' n (c0 + 50) → P (.bl true) Δ') :
    W__law_right K C [.cell n, .lst ((p :: r).map fun q => ptD (ptP q)), .lst ((p :: r).map fun q => frD q.s)] Δ P := by
  have hls : atI ((p :: r).map fun q => frD q.s) (-1) = some (frD (lastS p r)) := by
    rw [← last_pa]
    exact atI_lastL (n := r.length) (by rw [List.length_map, List.length_cons]) (by rw [List.getElem?_map, pa_get (Nat.le_refl _)]; rfl)
  have hI : ∀ (E : Store) (Q : D → Store → Prop), Q (crvD (p :: jn p.s r)) E → mkG K C [.lst ((p :: r).map fun q => ptD (ptP q)), frD (lastS p r)] E Q := fun E Q q => mk_ok F c (by decide) (by decide) (Pt.lst (below_pt _)) q
  have hC : ∀ (x : Rat) (_ : 0 ≤ x) (_ : Sz x 1200 1200) (E : Store) (Q : D → Store → Prop), Q (frD (evl p r x)) E → W_Curve_d_call_d K C [crvD (p :: jn p.s r), frD x] E Q := fun x x0 hx E Q q => told_ok F c .fr x0 hx q
  have hW : ∀ (y : Rat) (d : D) (_ : Wv y) (_ : IsW y d) (E : Store) (Q : D → Store → Prop), Q (rsD (resW p r y)) E → W_Curve_widths_of K C [crvD (p :: jn p.s r), d] E Q := fun y d hy hd E Q q => toldW_ok F c hy hd q
  have hL : ∀ (y : Rat) (_ : Wv y) (E : Store) (Q : D → Store → Prop), Q (rsD (resW p r y)) E → frzX C (W__law_widths_with K C) [.lst ((p :: r).map fun q => ptD (ptP q)), .lst ((p :: r).map fun q => frD q.s), frD y] E Q := fun y hy E Q q => lww_ok (c.vw hy) q
  have hins : ∀ E : Store, insD E 0 (crvD (p :: jn p.s r)) := fun E => ins_crv
  have hmth : ∀ E : Store, insM C E 0 (Str.ofString "widths_of") (crvD (p :: jn p.s r)) := fun E => mth_crv F
  have hlow := fun (y a : Rat) (h : Option Rat) => resW_low (y := y) (a := a) (h := h) c.ch c.s0
  have hhigh := fun (y a b : Rat) => resW_high (y := y) (a := a) (b := b) c.ch c.s0
  have hsz := fun (y : Rat) (hy : Sz y 420 420) => resW_sz (p := p) (r := r) (fun q hq => ⟨c.zw q hq, c.zv q hq, c.zs q hq⟩) c.s0 hy rfl
  have hw0 := c.w0
  have hm : ((p :: r).map fun q => ptD (ptP q)) = ((p :: r).map ptP).map ptD := pts_of
  have hpt : ∀ a ∈ (p :: r).map ptP, 0 ≤ a.2 ∧ Sz a.2 200 200 := fun a ha => by
    obtain ⟨q, hq, rfl⟩ := List.mem_map.mp ha
    exact ⟨c.v0 q hq, c.zv q hq⟩
  have hl : ((p :: r).map ptP).length = r.length + 1 := by rw [List.length_map, List.length_cons]
  have hlast : ((p :: r).map ptP).getLast? = some (ptP (pa p r r.length)) := by
    rw [List.getLast?_eq_getElem?, List.length_map, List.length_cons, List.getElem?_map, Nat.add_sub_cancel, pa_get (Nat.le_refl _)]
    rfl
  have hlm : ptP (pa p r r.length) ∈ (p :: r).map ptP := List.mem_map.mpr ⟨_, pa_mem (Nat.le_refl _), rfl⟩
  have hfm : ptP p ∈ (p :: r).map ptP := List.mem_map.mpr ⟨_, List.mem_cons_self, rfl⟩
  have hf0 : ((p :: r).map ptP)[0]? = some (ptP p) := rfl
  rw [hm] at hI hL ⊢
  generalize ((p :: r).map ptP) = pts at *
  generalize ((p :: r).map fun q => frD q.s) = rs at *
  generalize crvD (p :: jn p.s r) = crv at *
  generalize resW p r = RW at *
  generalize evl p r = EV at *
  generalize ptP (pa p r r.length) = pl at *
  generalize ptP p = pf at *
  rw [hw0] at hlow
  unfold W__law_right z__law_right
  refine ⟨rfl, ?_⟩
  refine seq_cut fun rest hr => ?_
  simp only [mk_eq]
  walk_at "zz"
  refine ⟨_, hls, ?_⟩
  refine hI _ _ ?_
  refine dip2_ok hb (by omega) (by decide) (.inl (by decide)) fun a E1 a0 a1 s1 o1 => ?_
  refine ⟨pow_ok (by decide) (by decide) (by decide), ?_⟩
  have e50 : (10 : Int) ^ Int.toNat 50 = 10 ^ 50 := rfl
  rw [e50]
  have hx0 : ∀ x ∈ [(0 : Rat), ((a : Int) : Rat), (((10 : Int) ^ 50 : Int) : Rat)], Wv x := fun x hx => by
    rcases List.mem_cons.mp hx with rfl | hx
    · exact ⟨Rat.le_refl, ⟨by decide, by decide⟩⟩
    rcases List.mem_cons.mp hx with rfl | hx
    · exact ⟨Rat.intCast_nonneg.mpr a0, (int_sz a (N := 420) (natAbs_lt (n := 420) a0 (Int.lt_of_lt_of_le a1 (by decide)))).mono (Nat.le_refl _) (by decide)⟩
    · rw [List.mem_singleton] at hx
      subst hx
      exact ⟨Rat.intCast_nonneg.mpr (by decide), (int_sz ((10 : Int) ^ 50) (N := 420) (by decide)).mono (Nat.le_refl _) (by decide)⟩
  have ex0 : [D.tup [.int 0, .int 1], D.tup [.int a, .int 1], D.tup [.int (10 ^ 50), .int 1]] = [(0 : Rat), ((a : Int) : Rat), (((10 : Int) ^ 50 : Int) : Rat)].map frD := rfl
  rw [ex0]
  have hxl : [(0 : Rat), ((a : Int) : Rat), (((10 : Int) ^ 50 : Int) : Rat)].length = 3 := rfl
  generalize [(0 : Rat), ((a : Int) : Rat), (((10 : Int) ^ 50 : Int) : Rat)] = xs0 at *
  subst hr
  refine seq_cut fun rest hr => ?_
  refine for_cut fun body hB => ?_
  walk_at "zz"
  rw [show Z.cutD (pts.map ptD) (some 1) none = (pts.map ptD).drop 1 from cut_from (p := 1), ← List.map_drop]
  have hzm := fun y => zip_mem (f := ptD) (l := pts) (l' := pts.drop 1) (fun x hx => List.mem_of_mem_drop hx) (y := y)
  have hzl : (((pts.map ptD).zip ((pts.drop 1).map ptD)).map fun q => D.tup [q.1, q.2]).length ≤ 400 := by
    rw [List.length_map, List.length_zip, List.length_map]
    omega
  generalize (((pts.map ptD).zip ((pts.drop 1).map ptD)).map fun q => D.tup [q.1, q.2]) = zs at *
  refine loop_inv (fun k Γ E => ∃ (xs : List Rat) (u5 u6 : Option D), E = E1 ∧ (∀ x ∈ xs, Wv x) ∧ xs.length = 3 + 3 * k ∧ Γ = [some (.cell n), some (.lst (pts.map ptD)), some (.lst rs), some crv, some (.lst (xs.map frD)), u5, u6, none, none, none, none, none]) _ 0 _ _ ⟨xs0, none, none, rfl, hx0, hxl, rfl⟩ ?_ ?_
  · rintro i y Γ E Z' hy ⟨xs, u5, u6, rfl, hx, hlx, rfl⟩ hn' hc' hr' hk'
    have hi := (List.getElem?_eq_some_iff.mp hy).1
    obtain ⟨u, hu, v, hv, rfl⟩ := hzm y (List.mem_of_getElem? hy)
    obtain ⟨pu, zu⟩ := hpt u hu
    obtain ⟨pv, zv⟩ := hpt v hv
    subst hB
    unfold ptD
    walk_at "zz"
    refine lplus_ok zu zv (by omega) (by omega) ?_
    have s1 := sz_add zu zv (N := 401) (by decide) (by decide)
    refine lprod_ok (x := u.2 + v.2) (y := Rat.divInt 1 2) (N := 500) (M := 500) (s1.mono (by decide) (by decide)) (half_sz.mono (by decide) (by decide)) (by decide) (by decide) ?_
    refine ⟨by rw [List.length_map]; omega, ?_⟩
    have e : xs.map frD ++ [frD u.2, frD v.2, frD ((u.2 + v.2) * Rat.divInt 1 2)] = (xs ++ [u.2, v.2, (u.2 + v.2) * Rat.divInt 1 2]).map frD := by rw [List.map_append]; rfl
    rw [e]
    refine hn' _ _ ⟨xs ++ [u.2, v.2, (u.2 + v.2) * Rat.divInt 1 2], _, _, rfl, fun x hxx => ?_, by rw [List.length_append, hlx]; show 3 + 3 * (0 + i) + 3 = _; omega, rfl⟩
    have p12 : (0 : Rat) ≤ Rat.divInt 1 2 := div_nn (by decide) (by decide)
    rcases List.mem_append.mp hxx with hxx | hxx
    · exact hx x hxx
    rcases List.mem_cons.mp hxx with rfl | hxx
    · exact ⟨pu, zu.mono (by decide) (by decide)⟩
    rcases List.mem_cons.mp hxx with rfl | hxx
    · exact ⟨pv, zv.mono (by decide) (by decide)⟩
    · rw [List.mem_singleton] at hxx
      subst hxx
      exact ⟨mul_nn (by grind) p12, (sz_mul s1 half_sz).mono (by decide) (by decide)⟩
  rintro Γ E ⟨xs, u5, u6, rfl, hx, hlx, rfl⟩
  subst hr
  dsimp only
  refine seq_cut fun rest hr => ?_
  walk_at "zz"
  refine ⟨_, atI_end (by rw [List.getLast?_map, hlast]; rfl), [frD pl.1, frD pl.2], rfl, _, rfl, ?_⟩
  obtain ⟨pv, zv⟩ := hpt pl hlm
  subst hr
  refine seq_cut fun rest hr => ?_
  walk_at "zz"
  refine lplusR_ok zv (by decide) (by decide) (by decide) (by decide) (by decide) ?_
  refine ⟨pow_ok (by decide) (by decide) (by decide), ?_⟩
  have e25 : (10 : Int) ^ Int.toNat 25 = 10 ^ 25 := rfl
  rw [e25]
  refine dip2_ok s1 (by omega) (by decide) (.inl (by decide)) fun b E2 b0 b1 s2 o2 => ?_
  have hbn : b.natAbs < 2 ^ 84 := natAbs_lt b0 (Int.lt_of_lt_of_le b1 (by decide))
  refine lplusR_ok' zv (by decide) hbn (by decide) ?_
  refine ⟨_, atI_nat (i := 0) (by rw [List.getElem?_map, hf0]; rfl), [frD pf.1, frD pf.2], rfl, _, rfl, by rw [List.length_map, hlx]; omega, ?_⟩
  obtain ⟨pw, zw⟩ := hpt pf hfm
  have hx2 : ∀ x ∈ xs ++ [pl.2, pl.2 + Rat.divInt 1 3, pl.2 + Rat.divInt b 7, pf.2], Wv x := fun x hxx => by
    have p13 : (0 : Rat) ≤ Rat.divInt 1 3 := div_nn (by decide) (by decide)
    have pb7 : (0 : Rat) ≤ Rat.divInt b 7 := div_nn b0 (by decide)
    rcases List.mem_append.mp hxx with hxx | hxx
    · exact hx x hxx
    rcases List.mem_cons.mp hxx with rfl | hxx
    · exact ⟨pv, zv.mono (by decide) (by decide)⟩
    rcases List.mem_cons.mp hxx with rfl | hxx
    · exact ⟨by grind, (sz_add zv (sz_div (N := 2) (M := 3) (by decide) (by decide) (by decide)) (N := 300) (by decide) (by decide)).mono (by decide) (by decide)⟩
    rcases List.mem_cons.mp hxx with rfl | hxx
    · exact ⟨by grind, (sz_add zv (sz_div (N := 84) (M := 3) (by decide) hbn (by decide)) (N := 300) (by decide) (by decide)).mono (by decide) (by decide)⟩
    · rw [List.mem_singleton] at hxx
      subst hxx
      exact ⟨pw, zw.mono (by decide) (by decide)⟩
  have e2 : xs.map frD ++ [frD pl.2, frD (pl.2 + Rat.divInt 1 3), frD (pl.2 + Rat.divInt b 7), frD pf.2] = (xs ++ [pl.2, pl.2 + Rat.divInt 1 3, pl.2 + Rat.divInt b 7, pf.2]).map frD := by rw [List.map_append]; rfl
  rw [e2]
  generalize xs ++ [pl.2, pl.2 + Rat.divInt 1 3, pl.2 + Rat.divInt b 7, pf.2] = ys at *
  have s3 : Spr E2 n (c0 + 50) := s2.mono (by omega)
  subst hr
  refine seq_cut fun rest hr => ?_
  refine for_cut fun body hB => ?_
  walk_at "zz"
  refine loop_all (fun Γ E => E = E2 ∧ ∃ (u5 u6 u8 u9 u10 u11 : Option D), Γ = [some (.cell n), some (.lst (pts.map ptD)), some (.lst rs), some crv, some (.lst (ys.map frD)), u5, u6, some (frD pl.2), u8, u9, u10, u11]) ⟨rfl, _, _, _, _, _, _, rfl⟩ ?_ ?_
  · rintro y Γ E Z' hy ⟨rfl, u5, u6, u8, u9, u10, u11, rfl⟩ hn' hc' hr' hk'
    obtain ⟨y, hy2, rfl⟩ := List.mem_map.mp hy
    have wy := hx2 y hy2
    subst hB
    simp only [zgName, List.set_cons_succ, List.set_cons_zero]
    refine seq_cut fun rest2 hr2 => ?_
    walk_at "zz"
    refine hL y wy _ _ ?_
    subst hr2
    refine seq_cut fun rest2 hr2 => ?_
    walk_at "zz"
    refine ⟨hmth _, hW y _ wy .fr _ _ (ne_rs ⟨false, rfl, (fun q => nomatch q), fun _ => ⟨hmth _, hW y _ wy .fr _ _ (ne_rs ⟨false, rfl, (fun q => nomatch q), fun _ => ?_⟩)⟩⟩)⟩
    subst hr2
    refine seq_cut fun rest2 hr2 => ?_
    walk_at "zz"
    have tail : rest2 [some (.cell n), some (.lst (pts.map ptD)), some (.lst rs), some crv, some (.lst (ys.map frD)), u5, u6, some (frD pl.2), some (frD y), some (rsD (RW y)), u10, u11] E := by
      have hl1 := hlow y
      have hh1 := hhigh y
      have hz1 := hsz y wy.z
      generalize RW y = R at *
      subst hr2
      walk_at "zz"
      rcases R with _ | ⟨a, h⟩
      · exact ⟨fun z => (nomatch z), fun _ => hn' _ _ ⟨rfl, _, _, _, _, _, _, rfl⟩⟩
      refine ⟨fun _ => ?_, fun z => nomatch z⟩
      obtain ⟨za, zb⟩ := hz1 a h rfl
      have lo := hl1 a h rfl
      have a0 : 0 ≤ a := lo.ge
      have za2 : Sz a 1200 1200 := za.mono (by decide) (by decide)
      have ea : decide (EV a = y) = true := decide_eq_true lo.at_
      have low : 0 < a.num → 0 ≤ a * c910 ∧ Sz (a * c910) 1200 1200 ∧ decide (EV (a * c910) = y) = false := fun hpos => by
        have hp := num_pos_iff.mp hpos
        have k1 : (0 : Rat) ≤ c910 := by decide
        have k2 : (0 : Rat) < 1 - c910 := by decide +kernel
        have k3 := mul_pos' hp k2
        have k4 : a * c910 < a := by grind
        have k5 := mul_nn a0 k1
        have k6 := lo.lt _ k5 k4
        refine ⟨k5, (sz_mul za (show Sz c910 4 4 from ⟨by decide, by decide⟩)).mono (by decide) (by decide), decide_eq_false ?_⟩
        grind
      have zc : Sz c910 1040 1040 := ⟨by decide, by decide⟩
      rcases h with _ | b
      · refine ⟨_, rfl, rfl, _, _, rfl, _, _, rfl, rfl, hins _, hins _, hC a a0 za2 _ _ (ne_fr ?_)⟩
        rw [ea]
        refine ⟨false, rfl, (fun q => nomatch q), fun _ => ⟨_, rfl, _, rfl, _, rfl, fun hpos => ⟨hins _, ?_⟩, fun _ => ?_⟩⟩
        · obtain ⟨l1, l2, l3⟩ := low hpos
          refine lprod_ok (x := a) (y := c910) (N := 1040) (M := 1040) za zc (by decide) (by decide) ⟨hins _, hC _ l1 l2 _ _ (eq_fr ?_)⟩
          rw [l3]
          refine ⟨false, rfl, (fun q => nomatch q), fun _ => ?_⟩
          exact ⟨(fun z => nomatch z), fun _ => ⟨(fun z => nomatch z), fun _ => hn' _ _ ⟨rfl, _, _, _, _, _, _, rfl⟩⟩⟩
        · exact ⟨(fun z => nomatch z), fun _ => ⟨(fun z => nomatch z), fun _ => hn' _ _ ⟨rfl, _, _, _, _, _, _, rfl⟩⟩⟩
      have hi := hh1 a b rfl
      have zb := zb b rfl
      have b0 : 0 ≤ b := by have := hi.ge; grind
      have zb2 : Sz b 1200 1200 := zb.mono (by decide) (by decide)
      have eb : decide (EV b = y) = true := decide_eq_true hi.at_
      have p9 : (0 : Rat) < Rat.divInt 1 (10 ^ 9) := by decide +kernel
      have z9 : Sz (b + Rat.divInt 1 (10 ^ 9)) 1200 1200 := (sz_add zb (sz_div (a := 1) (b := 10 ^ 9) (N := 2) (M := 31) (by decide) (by decide) (by decide)) (N := 1100) (by decide) (by decide)).mono (by decide) (by decide)
      have e9 : decide (EV (b + Rat.divInt 1 (10 ^ 9)) = y) = false := decide_eq_false (by have := hi.gt (b + Rat.divInt 1 (10 ^ 9)) (by grind); grind)
      have n9 : 0 ≤ b + Rat.divInt 1 (10 ^ 9) := by grind
      have ee9 : (10 : Int) ^ Int.toNat 9 = 10 ^ 9 := rfl
      refine ⟨_, rfl, rfl, _, _, rfl, _, _, rfl, rfl, hins _, hins _, hC a a0 za2 _ _ (ne_fr ?_)⟩
      rw [ea]
      refine ⟨false, rfl, (fun q => nomatch q), fun _ => ⟨_, rfl, _, rfl, _, rfl, fun hpos => ⟨hins _, ?_⟩, fun _ => ?_⟩⟩
      · obtain ⟨l1, l2, l3⟩ := low hpos
        refine lprod_ok (x := a) (y := c910) (N := 1040) (M := 1040) za zc (by decide) (by decide) ⟨hins _, hC _ l1 l2 _ _ (eq_fr ?_)⟩
        rw [l3]
        refine ⟨false, rfl, (fun q => nomatch q), fun _ => ?_⟩
        refine ⟨fun _ => ⟨hins _, hins _, hC b b0 zb2 _ _ (ne_fr ?_)⟩, fun z => nomatch z⟩
        rw [eb]
        refine ⟨false, rfl, (fun q => nomatch q), fun _ => ⟨fun _ => ⟨hins _, pow_ok (by decide) (by decide) (by decide), ?_⟩, fun z => nomatch z⟩⟩
        rw [ee9]
        refine lplusR_ok zb (by decide) (by decide) (by decide) (by decide) (by decide) ⟨hins _, hC _ n9 z9 _ _ (eq_fr ?_)⟩
        rw [e9]
        exact ⟨false, rfl, (fun q => nomatch q), fun _ => hn' _ _ ⟨rfl, _, _, _, _, _, _, rfl⟩⟩
      · refine ⟨fun _ => ⟨hins _, hins _, hC b b0 zb2 _ _ (ne_fr ?_)⟩, fun z => nomatch z⟩
        rw [eb]
        refine ⟨false, rfl, (fun q => nomatch q), fun _ => ⟨fun _ => ⟨hins _, pow_ok (by decide) (by decide) (by decide), ?_⟩, fun z => nomatch z⟩⟩
        rw [ee9]
        refine lplusR_ok zb (by decide) (by decide) (by decide) (by decide) (by decide) ⟨hins _, hC _ n9 z9 _ _ (eq_fr ?_)⟩
        rw [e9]
        exact ⟨false, rfl, (fun q => nomatch q), fun _ => hn' _ _ ⟨rfl, _, _, _, _, _, _, rfl⟩⟩
    refine ⟨_, rfl, _, rfl, eq_in ⟨_, rfl, fun h1 => ⟨hmth _, _, rfl, _, rfl, ?_⟩, fun _ => tail⟩⟩
    have h1 : ((y.den : Int) = 1) := by simpa using h1
    have hy1 : y = (y.num : Rat) := Rat.ext rfl (by show y.den = 1; omega)
    exact hW y _ wy (.int y.num hy1) _ _ (ne_rs ⟨false, rfl, (fun q => nomatch q), fun _ => tail⟩)
  · rintro Γ E ⟨rfl, u5, u6, u8, u9, u10, u11, rfl⟩
    subst hr
    walk_at "zz"
    exact h _ s3
end
end Bx

namespace Bx
open PySem PySem.Spec PyProof.Rows L2 Z
local macro_rules | `(tactic| walk_at "zz") => `(tactic| simp only [zSeq, zAsg, zRet, zRetN, zIfS, zNext, zDrop, zPar, zPar3, zAug, zDivmod, zIndex, zCatT, zSlT, zMeth, zVar, zC, zOp, zUn, zNeg, zI0, zI, zTest, zAnd, zOr, zNot, zAndV, zOrV, zNotV, zIf, zNil, zCons, zTup, zLst, zLstC, zgName, zgTup, zgCons, zgNil, zgSub, startZ, zCall, zCB, zChain, zIsN, zNotN, zNever,
  zAddA, zMulA, zRepeat, zCat, zIx, seqD, lstD, zMax2, zMin2, zAbs, zLen, zSum, zGcd, zInt, zYes, zBreak, zCont, zMin1, zMax1, zList, zListC, zLcC, zLc, ziR1, ziR2, ziList, ziTup, ziZip, ziEnum, wipeZ, zFor, zSl, zPart, zNoPart, zAppend, zLstR1, zLstR2, zCallBC, zCallBF, zBits, zTru, zProp, zCallO,
  at0, at1, at2, at3, at4, ix2_3, ix0_3, isNon_int, isNon_non, Bool.not_true, Bool.not_false,
  List.map_cons, List.map_nil, List.length_cons, List.length_nil, List.replicate_succ, List.replicate_zero, List.append_nil, List.nil_append, List.cons_append, List.getElem?_cons_zero, List.getElem?_cons_succ, List.set_cons_zero, List.set_cons_succ,
  Option.some.injEq, D.int.injEq, D.bl.injEq, D.tup.injEq, D.lst.injEq, D.str.injEq, D.cell.injEq, O.lst.injEq, reduceCtorEq, exists_eq_left', exists_eq_left, false_and, and_false, true_and, and_true, exists_false, or_false, false_or, exists_and_left, exists_eq', exists_and_right, List.cons.injEq, and_assoc, dec_not, dec_yes, nd_t, nd_f, t_t, t_f, f_t, f_f, true_implies, false_implies, implies_true, and_self, Nat.reduceAdd, Nat.reduceLeDiff, Nat.reduceSub, Nat.reduceLT])
local macro_rules | `(tactic| walk_at "zy") => `(tactic| try simp only [Option.some.injEq, D.int.injEq, D.bl.injEq, D.tup.injEq, D.lst.injEq, D.str.injEq, D.cell.injEq, O.lst.injEq, reduceCtorEq, exists_eq_left', exists_eq_left, false_and, and_false, true_and, and_true, exists_false, or_false, false_or, exists_and_left, exists_eq', exists_and_right, List.cons.injEq, and_assoc, dec_not, dec_yes, nd_t, nd_f, t_t, t_f, f_t, f_f, true_implies, false_implies, implies_true, and_self])
def StL : List Pc → Prop
  | [] => True
  | [_] => True
  | p :: q :: r => Rq 60 (60 * 10 ^ 21) (q.w - p.w) ∧ StL (q :: r)
theorem stl_snoc {a b : Pc} : ∀ {l : List Pc}, StL (l ++ [a]) → Rq 60 (60 * 10 ^ 21) (b.w - a.w) → StL (l ++ [a] ++ [b])
  | [], _, h => ⟨h, trivial⟩
  | [c], h, h2 => ⟨h.1, h2, trivial⟩
  | c :: d :: l, h, h2 => ⟨h.1, stl_snoc (l := d :: l) h.2 h2⟩
structure Xtr (l : List Pc) (w v : Rat) : Prop where
  st : ∀ s, StL (l ++ [⟨w, v, s⟩])
  v1 : ∀ s, ∃ z, ((l ++ [(⟨w, v, s⟩ : Pc)]).map Pc.v).head? = some z ∧ Rq (60 * qR) (10 ^ 50) z
theorem Xtr.step {l : List Pc} {w v s t : Rat} (x : Xtr l w v) (ht : Rq 60 (60 * 10 ^ 21) t) : Xtr (l ++ [⟨w, v, s⟩]) (w + t) (v + s * t) := by
  refine ⟨fun s' => stl_snoc (x.st s) ?_, fun s' => ?_⟩
  · show Rq 60 (60 * 10 ^ 21) (w + t - w)
    rw [show w + t - w = t by grind]
    exact ht
  · obtain ⟨z, h1, h2⟩ := x.v1 s
    refine ⟨z, ?_, h2⟩
    rw [List.map_append] at h1 ⊢
    cases l with
    | nil => exact h1
    | cons a l => exact h1
/-- a row whose sizes have few denominators -/
structure Fq (p : Pc) (r : List Pc) : Prop where
  cv : Cv 200 200 p r
  rs : ∀ q ∈ p :: r, Rq qR (9 * 252000000000000000000000) q.s
  st : StL (p :: r)
  v1 : Rq (60 * qR) (10 ^ 50) p.v
def DrawnC (n : Nat) (Δ : Store) (c : Int) (many : Nat) (P : D → Store → Prop) : Prop := ∀ (p : Pc) (r : List Pc) (E : Store), Fq p r → r.length = many → Two n Δ E (c + 5000) ((p :: r).map fun q => ptD (ptP q)) ((p :: r).map fun q => frD q.s) → P (.tup [.cell Δ.length, .cell (Δ.length + 1)]) E
section
variable {K : PySem.W.Frag} {C : CI} {Δ : Store} {P : D → Store → Prop}
theorem drawnC_ok {n : Nat} {c wide : Int} {many : Nat} (hb : Spr Δ n c) (hc : c ≤ 10 ^ 17) (hm : many ≤ 198) (w1 : 1 ≤ wide) (w2 : wide ≤ 10 ^ 20) (h : DrawnC n Δ c many P) : W__law_drawn K C [.cell n, .int (many : Int), .int wide] Δ P := by
  unfold W__law_drawn z__law_drawn
  refine ⟨rfl, ?_⟩
  refine seq_cut fun rest hr => ?_
  walk_at "zz"
  refine dip2_ok hb (by omega) w1 (.inl (by omega)) fun a E1 a0 a1 s1 o1 => ?_
  refine dip2_ok s1 (by omega) (by decide) (.inl (by decide)) fun b E2 b0 b1 s2 o2 => ?_
  refine ⟨_, rfl, ?_⟩
  refine cut_ok (by omega) (sm9 (by omega) (by omega)) ?_
  have oo := o1.trans o2
  have tw : Two n Δ (E2 ++ [O.lst [D.tup [D.tup [D.int 0, D.int 1], frD (Rat.divInt a (1 + b))]], O.lst []]) (c + 4) (([] : List Pc).map (fun q => ptD (ptP q)) ++ [ptD (0, Rat.divInt a (1 + b))]) (([] : List Pc).map fun q => frD q.s) := Two.new (s2.mono (by omega)) hb.lt oo
  have el : (E2 ++ [O.lst [D.tup [D.tup [D.int 0, D.int 1], frD (Rat.divInt a (1 + b))]]]).length = Δ.length + 1 := by rw [List.length_append, oo.len]; rfl
  have ee : E2 ++ [O.lst [D.tup [D.tup [D.int 0, D.int 1], frD (Rat.divInt a (1 + b))]]] ++ [O.lst []] = E2 ++ [O.lst [D.tup [D.tup [D.int 0, D.int 1], frD (Rat.divInt a (1 + b))]], O.lst []] := by rw [List.append_assoc]; rfl
  rw [el, ee, oo.len]
  have d0 : Drw [] 0 0 (Rat.divInt a (1 + b)) := ⟨rfl, fun _ => trivial, fun _ => rfl, (fun q hq => nomatch hq), div_nn a0 (by omega), (fun q hq => nomatch hq), ⟨0, (Rat.zero_divInt _).symm, Nat.zero_le _⟩, (first_rq a0 (by omega) (by omega) (by omega)).mono (by decide)⟩
  have x0 : Xtr [] 0 (Rat.divInt a (1 + b)) := ⟨fun _ => trivial, fun _ => ⟨_, rfl, first_rq a0 (by omega) (by omega) (by omega)⟩⟩
  generalize (E2 ++ [O.lst [D.tup [D.tup [D.int 0, D.int 1], frD (Rat.divInt a (1 + b))]], O.lst []]) = E at *
  subst hr
  refine seq_cut fun rest hr => ?_
  refine for_cut fun body hB => ?_
  walk_at "zz"
  refine ⟨by omega, by omega, ?_⟩
  rw [range_int, show ((many : Int)).toNat = many by omega]
  refine loop_inv (fun k Γ E => ∃ l w v u5 u6 u7, Drw l k w v ∧ Xtr l w v ∧ Two n Δ E (c + 4 + 20 * k) (l.map (fun q => ptD (ptP q)) ++ [ptD (w, v)]) (l.map fun q => frD q.s) ∧ Γ = [some (.cell n), some (.int (many : Int)), some (.int wide), some (.cell Δ.length), some (.cell (Δ.length + 1)), u5, u6, u7]) _ 0 _ _ ⟨[], 0, _, none, none, none, d0, x0, by rw [show (c + 4 + 20 * ((0 : Nat) : Int)) = c + 4 by omega]; exact tw, rfl⟩ ?_ ?_
  · rintro i x Γ E Z' hx ⟨l, w, v, u5, u6, u7, dr, xt, tw, rfl⟩ hn' hc' hr' hk'
    have hi : i < many := by
      have := (List.getElem?_eq_some_iff.mp hx).1
      simpa using this
    rw [List.getElem?_map, List.getElem?_range hi] at hx
    have ex : x = D.int (i : Int) := (Option.some.inj hx).symm
    subst ex hB
    rw [Nat.zero_add] at *
    simp only [zgName, List.set_cons_succ, List.set_cons_zero]
    refine seq_cut fun rest2 hr2 => ?_
    walk_at "zz"
    refine rise_ok tw.sp (by omega) fun s E3 s0 sq s3 o3 => ?_
    have t3 := tw.off o3 s3
    subst hr2
    refine seq_cut fun rest2 hr2 => ?_
    -- whichever the rise is
    have go : ∀ (E4 : Store) (s' : Rat), 0 ≤ s' → Rq qR (9 * 252000000000000000000000) s' → Two n Δ E4 (c + 4 + 20 * i + 10) (l.map (fun q => ptD (ptP q)) ++ [ptD (w, v)]) (l.map fun q => frD q.s) → rest2 [some (.cell n), some (.int (many : Int)), some (.int wide), some (.cell Δ.length), some (.cell (Δ.length + 1)), some (.int (i : Int)), some (frD s'), u7] E4 := fun E4 s' s0' sq' t4 => by
      subst hr2
      refine seq_cut fun rest3 hr3 => ?_
      walk_at "zz"
      refine dip2_ok t4.sp (by omega) w1 (.inl (by omega)) fun a E5 a0 a1 s5 o5 => ?_
      refine ⟨_, rfl, ?_⟩
      refine dip2_ok s5 (by omega) (by decide) (.inl (by decide)) fun b E6 b0 b1 s6 o6 => ?_
      have t6 := (t4.off o5 s5).off o6 s6
      refine ⟨_, rfl, ?_⟩
      refine cut_ok (by omega) (sm9 (by omega) (by omega)) ?_
      subst hr3
      refine seq_cut fun rest3 hr3 => ?_
      walk_at "zz"
      have t0 : 0 < Rat.divInt (1 + a) (1 + b) := div_pos (by omega) (by omega)
      have tq := step_rq (a := 1 + a) (b := 1 + b) (by omega) (by omega) (by omega) (by omega)
      generalize Rat.divInt (1 + a) (1 + b) = t at *
      have tz : Sz t 200 200 := (rq_sz (N := 200) (M := 200) (by decide) tq (by decide) (by decide))
      have sz' : Sz s' 200 200 := (rq_sz (N := 200) (M := 200) (by decide) sq' (by decide) (by decide))
      have zw := dr.zw (by omega)
      have zv := dr.zv (by omega)
      have hll := dr.n
      refine ⟨⟨_, t6.r⟩, _, t6.r, by rw [List.length_map]; omega, ?_⟩
      have t7 := t6.setR (rs' := (l.map fun q => frD q.s) ++ [frD s'])
      generalize E6.set (Δ.length + 1) (.lst ((l.map fun q => frD q.s) ++ [frD s'])) = E7 at *
      subst hr3
      walk_at "zz"
      rw [t7.f]
      refine ⟨⟨_, rfl⟩, _, rfl, ptD (w, v), atI_last _ _, _, rfl, _, atI_nat (i := 0) rfl, ?_⟩
      refine lplus_ok zw tz (by omega) (by omega) ?_
      refine ⟨_, by rw [t7.f], ptD (w, v), atI_last _ _, _, rfl, _, atI_nat (i := 1) rfl, ?_⟩
      refine lprod_ok sz' tz (by omega) (by omega) ?_
      refine lplus_ok (N := 400) (M := 400) (zv.mono (by omega) (by omega)) (sz_mul sz' tz) (by omega) (by omega) ?_
      refine ⟨_, t7.f, by rw [List.length_append, List.length_map]; show _ + 1 < _; omega, ?_⟩
      refine hn' _ _ ⟨l ++ [⟨w, v, s'⟩], w + t, v + s' * t, _, _, _, dr.step (by omega) s0' sq' t0 tq, xt.step tq, ?_, rfl⟩
      have t8 := t7.setF (fs' := (l.map (fun q => ptD (ptP q)) ++ [ptD (w, v)]) ++ [D.tup [frD (w + t), frD (v + s' * t)]])
      refine (show Two n Δ _ (c + 4 + 20 * i + 14) _ _ from ?_).mono (by omega)
      rw [List.map_append, List.map_append]
      exact t8.mono (by omega)
    walk_at "zz"
    have er := rdk_cell (f := fun q : Pc => frD q.s) t3.r (fun _ => rfl)
    refine ⟨by rw [er]; exact shp_list (f := fun q : Pc => frD q.s) (fun _ => ⟨rfl, rfl, Nat.le_of_ble_eq_true rfl⟩) l, rfl, _, rfl, fun hne => ?_, fun _ => go E3 s s0 sq (t3.mono (by omega))⟩
    have hl : l ≠ [] := fun e => by
      rw [er, e] at hne
      exact nomatch hne
    obtain ⟨q, hq⟩ : ∃ q, l.getLast? = some q := ⟨_, List.getLast?_eq_some_getLast hl⟩
    have hm : q ∈ l := List.mem_of_getLast? hq
    refine dip2_ok t3.sp (by omega) (by decide) (.inl (by decide)) fun b E4 b0 b1 s4 o4 => ?_
    have t4 := t3.off o4 s4
    refine ⟨rfl, rfl, _, rfl, fun _ => ?_, fun _ => go E4 s s0 sq (t4.mono (by omega))⟩
    rw [t4.r]
    refine ⟨_, rfl, frD q.s, atI_end (by rw [List.getLast?_map, hq]; rfl), go E4 q.s (dr.nn q hm).2.1 (dr.rs q hm) (t4.mono (by omega))⟩
  · rintro Γ E ⟨l, w, v, u5, u6, u7, dr, xt, tw, rfl⟩
    subst hr
    have hk : (0 + (List.map (fun i : Nat => D.int (i : Int)) (List.range many)).length) = many := by simp
    rw [hk] at dr tw
    show zSeq (zDrop (zAppend (zVar 4) (zCons (zCall (W__law_rise K C) [] (zCons (zVar 0) zNil)) zNil))) (zRet (zTup (zCons (zVar 3) (zCons (zVar 4) zNil)))) _ _ E
    walk_at "zz"
    refine ⟨⟨_, tw.r⟩, ?_⟩
    refine rise_ok tw.sp (by omega) fun s E3 s0 sq s3 o3 => ?_
    have t3 := tw.off o3 s3
    have hll := dr.n
    refine ⟨_, t3.r, by rw [List.length_map]; omega, ?_⟩
    have t4 := t3.setR (rs' := (l.map fun q => frD q.s) ++ [frD s])
    generalize E3.set (Δ.length + 1) (.lst ((l.map fun q => frD q.s) ++ [frD s])) = E4 at *
    have ef : (l.map (fun q => ptD (ptP q)) ++ [ptD (w, v)]) = (l ++ [(⟨w, v, s⟩ : Pc)]).map fun q => ptD (ptP q) := by rw [List.map_append]; rfl
    have er : (l.map (fun q : Pc => frD q.s) ++ [frD s]) = (l ++ [(⟨w, v, s⟩ : Pc)]).map fun q => frD q.s := by rw [List.map_append]; rfl
    rw [ef, er] at t4
    have hch := dr.ch s
    have hw0 := dr.w0 s
    have hst := xt.st s
    obtain ⟨v1, hv1, rv1⟩ := xt.v1 s
    have hin : ∀ q ∈ l ++ [(⟨w, v, s⟩ : Pc)], 0 ≤ q.v ∧ 0 ≤ q.s ∧ Sz q.w 200 200 ∧ Sz q.v 200 200 ∧ Sz q.s 200 200 := fun q hq => by
      rcases List.mem_append.mp hq with hq | hq
      · exact dr.nn q hq
      · rw [List.mem_singleton] at hq
        subst hq
        exact ⟨dr.v0, s0, dr.zw (by omega), dr.zv (by omega), rq_sz (N := 200) (M := 200) (by decide) sq (by decide) (by decide)⟩
    have hrs : ∀ q ∈ l ++ [(⟨w, v, s⟩ : Pc)], Rq qR (9 * 252000000000000000000000) q.s := fun q hq => by
      rcases List.mem_append.mp hq with hq | hq
      · exact dr.rs q hq
      · rw [List.mem_singleton] at hq
        subst hq
        exact sq
    have hlen : (l ++ [(⟨w, v, s⟩ : Pc)]).length = many + 1 := by rw [List.length_append, hll]; rfl
    generalize l ++ [(⟨w, v, s⟩ : Pc)] = L at *
    cases L with
    | nil => cases hlen
    | cons p r =>
      have hr : r.length = many := by rw [List.length_cons] at hlen; omega
      have ev : p.v = v1 := Option.some.inj hv1
      exact h p r E4 ⟨⟨hch, Option.some.inj hw0, by omega, fun q hq => (hin q hq).1, fun q hq => (hin q hq).2.1, fun q hq => (hin q hq).2.2.1, fun q hq => (hin q hq).2.2.2.1, fun q hq => (hin q hq).2.2.2.2⟩, hrs, hst, by rw [ev]; exact rv1⟩ hr (t4.mono (by omega))
end
end Bx

namespace Bx
open PySem PySem.Spec PyProof.Rows L2 Z
local macro_rules | `(tactic| walk_at "zz") => `(tactic| simp only [zSeq, zAsg, zRet, zRetN, zIfS, zNext, zDrop, zPar, zPar3, zAug, zDivmod, zIndex, zCatT, zSlT, zMeth, zVar, zC, zOp, zUn, zNeg, zI0, zI, zTest, zAnd, zOr, zNot, zAndV, zOrV, zNotV, zIf, zNil, zCons, zTup, zLst, zLstC, zgName, zgTup, zgCons, zgNil, zgSub, startZ, zCall, zCB, zChain, zIsN, zNotN, zNever,
  zAddA, zMulA, zRepeat, zCat, zIx, seqD, lstD, zMax2, zMin2, zAbs, zLen, zSum, zGcd, zInt, zYes, zBreak, zCont, zMin1, zMax1, zList, zListC, zLcC, zLc, ziR1, ziR2, ziList, ziTup, ziZip, ziEnum, wipeZ, zFor, zSl, zPart, zNoPart, zAppend, zLstR1, zLstR2, zCallBC, zCallBF, zBits, zTru, zProp, zCallO,
  at0, at1, at2, at3, at4, ix2_3, ix0_3, isNon_int, isNon_non, Bool.not_true, Bool.not_false,
  List.map_cons, List.map_nil, List.length_cons, List.length_nil, List.replicate_succ, List.replicate_zero, List.append_nil, List.nil_append, List.cons_append, List.getElem?_cons_zero, List.getElem?_cons_succ, List.set_cons_zero, List.set_cons_succ,
  Option.some.injEq, D.int.injEq, D.bl.injEq, D.tup.injEq, D.lst.injEq, D.str.injEq, D.cell.injEq, O.lst.injEq, reduceCtorEq, exists_eq_left', exists_eq_left, false_and, and_false, true_and, and_true, exists_false, or_false, false_or, exists_and_left, exists_eq', exists_and_right, List.cons.injEq, and_assoc, dec_not, dec_yes, nd_t, nd_f, t_t, t_f, f_t, f_f, true_implies, false_implies, implies_true, and_self, Nat.reduceAdd, Nat.reduceLeDiff, Nat.reduceSub, Nat.reduceLT])
local macro_rules | `(tactic| walk_at "zy") => `(tactic| try simp only [Option.some.injEq, D.int.injEq, D.bl.injEq, D.tup.injEq, D.lst.injEq, D.str.injEq, D.cell.injEq, O.lst.injEq, reduceCtorEq, exists_eq_left', exists_eq_left, false_and, and_false, true_and, and_true, exists_false, or_false, false_or, exists_and_left, exists_eq', exists_and_right, List.cons.injEq, and_assoc, dec_not, dec_yes, nd_t, nd_f, t_t, t_f, f_t, f_f, true_implies, false_implies, implies_true, and_self])
theorem rise_rq9 {a b : Int} (a0 : 0 ≤ a) (a1 : a ≤ 9) (b0 : 1 ≤ b) (b1 : b ≤ 9) : Rq qR (9 * 252000000000000000000000) (Rat.divInt a b) := by
  have key : ∀ k : Int, b * k = qR → 0 < k → Rq qR (9 * 252000000000000000000000) (Rat.divInt a b) := fun k e hk => by
    have h := rq_div (a := a) (b := b) (k := k) (by omega)
    rw [e] at h
    refine h.mono ?_
    have : k ≤ qR := by rw [← e]; exact (by have := Int.mul_le_mul_of_nonneg_right b0 (show 0 ≤ k by omega); omega)
    refine Nat.mul_le_mul (by omega) (by have e2 : qR = 252000000000000000000000 := rfl; omega)
  rcases (by omega : b = 1 ∨ b = 2 ∨ b = 3 ∨ b = 4 ∨ b = 5 ∨ b = 6 ∨ b = 7 ∨ b = 8 ∨ b = 9) with rfl | rfl | rfl | rfl | rfl | rfl | rfl | rfl | rfl
  · exact key 252000000000000000000000 rfl (by decide)
  · exact key 126000000000000000000000 rfl (by decide)
  · exact key 84000000000000000000000 rfl (by decide)
  · exact key 63000000000000000000000 rfl (by decide)
  · exact key 50400000000000000000000 rfl (by decide)
  · exact key 42000000000000000000000 rfl (by decide)
  · exact key 36000000000000000000000 rfl (by decide)
  · exact key 31500000000000000000000 rfl (by decide)
  · exact key 28000000000000000000000 rfl (by decide)
theorem div_one' (a : Int) : Rat.divInt a 1 = (a : Rat) := by
  rw [divQ, show (((1 : Int)) : Rat) = 1 from rfl]
  grind
section
variable {K : PySem.W.Frag} {C : CI} {Δ : Store} {P : D → Store → Prop}
theorem llong_ok {n : Nat} {c beg : Int} (hb : Spr Δ n c) (hc : c ≤ 10 ^ 17) (w1 : 1 ≤ beg) (w2 : beg ≤ 3) (h : DrawnR n Δ c 190 P) : frzX C (W__law_long K C) [.cell n, .int 190, .int beg] Δ P := by
  unfold frzX W__law_long z__law_long
  refine ⟨rfl, ?_⟩
  refine seq_cut fun rest hr => ?_
  walk_at "zz"
  refine dip2_ok hb (by omega) (by decide) (.inl (by omega)) fun a E2 a0 a1 s2 oo => ?_
  have tw : Two n Δ (E2 ++ [O.lst [D.tup [D.tup [D.int 0, D.int 1], frD (a : Rat)]], O.lst []]) (c + 4) (([] : List Pc).map (fun q => ptD (ptP q)) ++ [ptD (0, (a : Rat))]) (([] : List Pc).map fun q => frD q.s) := Two.new (s2.mono (by omega)) hb.lt oo
  have el : (E2 ++ [O.lst [D.tup [D.tup [D.int 0, D.int 1], frD (a : Rat)]]]).length = Δ.length + 1 := by rw [List.length_append, oo.len]; rfl
  have ee : E2 ++ [O.lst [D.tup [D.tup [D.int 0, D.int 1], frD (a : Rat)]]] ++ [O.lst []] = E2 ++ [O.lst [D.tup [D.tup [D.int 0, D.int 1], frD (a : Rat)]], O.lst []] := by rw [List.append_assoc]; rfl
  have ea1 : Rat.divInt a 1 = (a : Rat) := div_one' a
  have d0 : Drw [] 0 0 (a : Rat) := ⟨rfl, fun _ => trivial, fun _ => rfl, (fun q hq => nomatch hq), Rat.intCast_nonneg.mpr a0, (fun q hq => nomatch hq), ⟨0, (Rat.zero_divInt _).symm, Nat.zero_le _⟩, by
    have := first_rq (a := a) (b := 1) a0 (by omega) (by omega) (by omega)
    rw [ea1] at this
    exact this.mono (by decide)⟩
  rw [← frD_int a, el, ee, oo.len]
  generalize (E2 ++ [O.lst [D.tup [D.tup [D.int 0, D.int 1], frD (a : Rat)]], O.lst []]) = E at *
  subst hr
  refine seq_cut fun rest hr => ?_
  refine for_cut fun body hB => ?_
  walk_at "zz"
  refine ⟨by omega, by omega, ?_⟩
  rw [range_int, show ((190 : Int)).toNat = 190 by omega]
  refine loop_inv (fun k Γ E => ∃ (l : List Pc) (W : Int) (v : Rat) (u6 u7 u8 : Option D), Drw l k (W : Rat) v ∧ Two n Δ E (c + 4 + 20 * k) (l.map (fun q => ptD (ptP q)) ++ [ptD ((W : Rat), v)]) (l.map fun q => frD q.s) ∧ Γ = [some (.cell n), some (.int 190), some (.int beg), some (.cell Δ.length), some (.cell (Δ.length + 1)), some (.int W), u6, u7, u8]) _ 0 _ _ ⟨[], 0, _, none, none, none, d0, by rw [show (c + 4 + 20 * ((0 : Nat) : Int)) = c + 4 by omega]; exact tw, rfl⟩ ?_ ?_
  · rintro i x Γ E Z' hx ⟨l, W, v, u6, u7, u8, dr, tw, rfl⟩ hn' hc' hr' hk'
    have hi : i < 190 := by
      have := (List.getElem?_eq_some_iff.mp hx).1
      simpa using this
    rw [List.getElem?_map, List.getElem?_range hi] at hx
    have ex : x = D.int (i : Int) := (Option.some.inj hx).symm
    subst ex hB
    rw [Nat.zero_add] at *
    simp only [zgName, List.set_cons_succ, List.set_cons_zero]
    refine seq_cut fun rest2 hr2 => ?_
    walk_at "zz"
    refine dip2_ok tw.sp (by omega) (by decide) (.inl (by omega)) fun a E3 a0 a1 s3 o3 => ?_
    have t3 := tw.off o3 s3
    refine ⟨_, rfl, ?_⟩
    refine dip2_ok s3 (by omega) (by decide) (.inl (by omega)) fun b E4 b0 b1 s4 o4 => ?_
    have t4 := t3.off o4 s4
    refine ⟨_, rfl, ?_⟩
    refine cut_ok (by omega) (sm9 (by omega) (by omega)) ?_
    have go : ∀ (s' : Rat), 0 ≤ s' → Rq qR (9 * 252000000000000000000000) s' → rest2 [some (.cell n), some (.int 190), some (.int beg), some (.cell Δ.length), some (.cell (Δ.length + 1)), some (.int W), some (.int (i : Int)), some (frD s'), u8] E4 := fun s' s0' sq' => by
      subst hr2
      refine seq_cut fun rest3 hr3 => ?_
      walk_at "zz"
      have go2 : ∀ T : Int, 1 ≤ T → T ≤ 3 → rest3 [some (.cell n), some (.int 190), some (.int beg), some (.cell Δ.length), some (.cell (Δ.length + 1)), some (.int W), some (.int (i : Int)), some (frD s'), some (.int T)] E4 := fun T T1 T2 => by
        have t0 : (0 : Rat) < (T : Rat) := Rat.intCast_pos.mpr (by omega)
        have tq : Rq 60 (60 * 10 ^ 21) (T : Rat) := by
          have := step_rq (a := T) (b := 1) T1 (by omega) (by omega) (by omega)
          rw [div_one'] at this
          exact this
        have tz : Sz (T : Rat) 200 200 := (rq_sz (N := 200) (M := 200) (by decide) tq (by decide) (by decide))
        have sz' : Sz s' 200 200 := (rq_sz (N := 200) (M := 200) (by decide) sq' (by decide) (by decide))
        have zv := dr.zv (by omega)
        have hll := dr.n
        have dr2 := dr.step (by omega) s0' sq' t0 tq
        have eW : (W : Rat) + (T : Rat) = ((W + T : Int) : Rat) := (Rat.intCast_add W T).symm
        subst hr3
        refine seq_cut fun rest3 hr3 => ?_
        walk_at "zz"
        subst hr3
        refine seq_cut fun rest3 hr3 => ?_
        walk_at "zz"
        refine ⟨⟨_, t4.r⟩, _, t4.r, by rw [List.length_map]; omega, ?_⟩
        have t7 := t4.setR (rs' := (l.map fun q => frD q.s) ++ [frD s'])
        generalize E4.set (Δ.length + 1) (.lst ((l.map fun q => frD q.s) ++ [frD s'])) = E7 at *
        subst hr3
        walk_at "zz"
        rw [t7.f]
        refine ⟨⟨_, rfl⟩, _, rfl, ptD ((W : Rat), v), atI_last _ _, _, rfl, _, atI_nat (i := 1) rfl, ?_⟩
        rw [← frD_int T]
        refine lprod_ok sz' tz (by omega) (by omega) ?_
        refine lplus_ok (N := 400) (M := 400) (zv.mono (by omega) (by omega)) (sz_mul sz' tz) (by omega) (by omega) ?_
        refine ⟨_, t7.f, by rw [List.length_append, List.length_map]; show _ + 1 < _; omega, ?_⟩
        rw [eW] at dr2
        refine hn' _ _ ⟨l ++ [⟨(W : Rat), v, s'⟩], W + T, v + s' * T, _, _, _, dr2, ?_, rfl⟩
        rw [← frD_int (W + T)]
        have t8 := t7.setF (fs' := (l.map (fun q => ptD (ptP q)) ++ [ptD ((W : Rat), v)]) ++ [D.tup [frD ((W + T : Int) : Rat), frD (v + s' * (T : Rat))]])
        refine (show Two n Δ _ (c + 4 + 20 * i + 14) _ _ from ?_).mono (by omega)
        rw [List.map_append, List.map_append]
        exact t8.mono (by omega)
      exact eq_in ⟨_, rfl, fun _ => go2 beg w1 w2, fun _ => go2 2 (by decide) (by decide)⟩
    have hmod : (i : Int) % 2 = 0 ∨ (i : Int) % 2 = 1 := by omega
    refine ⟨by decide, ?_⟩
    rcases hmod with e | e
    · rw [e]
      exact ⟨_, atI_nat (i := 0) rfl, go 0 Rat.le_refl ⟨0, (Rat.zero_divInt _).symm, Nat.zero_le _⟩⟩
    · rw [e]
      exact ⟨_, atI_nat (i := 1) rfl, go _ (div_nn (by omega) (by omega)) (rise_rq9 (by omega) (by omega) (by omega) (by omega))⟩
  · rintro Γ E ⟨l, W, v, u6, u7, u8, dr, tw, rfl⟩
    rw [List.length_map, List.length_range, Nat.zero_add] at dr tw
    subst hr
    dsimp only
    walk_at "zz"
    rw [tw.r]
    refine ⟨by decide, _, atI_nat (i := 0) rfl, _, rfl, by rw [List.length_map, dr.n]; decide, ?_⟩
    have t4 := tw
    have ef : (l.map (fun q => ptD (ptP q)) ++ [ptD ((W : Rat), v)]) = (l ++ [(⟨(W : Rat), v, 0⟩ : Pc)]).map fun q => ptD (ptP q) := by rw [List.map_append]; rfl
    have er : (l.map (fun q : Pc => frD q.s) ++ [D.tup [.int 0, .int 1]]) = (l ++ [(⟨(W : Rat), v, 0⟩ : Pc)]).map fun q => frD q.s := by rw [List.map_append]; rfl
    rw [er]
    rw [ef] at t4
    have e1 : Z.frx C E Δ.length 4 (.tup [.cell Δ.length, .lst ((l ++ [(⟨(W : Rat), v, 0⟩ : Pc)]).map fun q => frD q.s)]) = .tup [.lst ((l ++ [(⟨(W : Rat), v, 0⟩ : Pc)]).map fun q => ptD (ptP q)), .lst ((l ++ [(⟨(W : Rat), v, 0⟩ : Pc)]).map fun q => frD q.s)] := by
      show D.tup [Z.frx C E Δ.length 3 (.cell Δ.length), Z.frx C E Δ.length 3 (.lst ((l ++ [(⟨(W : Rat), v, 0⟩ : Pc)]).map fun q => frD q.s))] = _
      rw [frx_cell (f := fun q : Pc => ptD (ptP q)) t4.f (Nat.le_refl _) (fun _ => rfl)]
      have e2 : Z.frx C E Δ.length 3 (.lst ((l ++ [(⟨(W : Rat), v, 0⟩ : Pc)]).map fun q => frD q.s)) = .lst (((l ++ [(⟨(W : Rat), v, 0⟩ : Pc)]).map fun q => frD q.s).map (Z.frx C E Δ.length 2)) := rfl
      rw [e2, List.map_map]
      rfl
    rw [e1]
    refine ⟨t4.below, ?_, ?_⟩
    · show (Z.belowL Δ.length ((l ++ [(⟨(W : Rat), v, 0⟩ : Pc)]).map fun q => ptD (ptP q)) && (Z.belowL Δ.length ((l ++ [(⟨(W : Rat), v, 0⟩ : Pc)]).map fun q => frD q.s) && true)) = true
      rw [belowL_map (fun _ => rfl), belowL_map (fun _ => rfl)]
      rfl
    · obtain ⟨oT, sT⟩ := t4.take
      have hch := dr.ch 0
      have hw0 := dr.w0 0
      have hin : ∀ q ∈ l ++ [(⟨(W : Rat), v, 0⟩ : Pc)], 0 ≤ q.v ∧ 0 ≤ q.s ∧ Sz q.w 200 200 ∧ Sz q.v 200 200 ∧ Sz q.s 200 200 := fun q hq => by
        rcases List.mem_append.mp hq with hq | hq
        · exact dr.nn q hq
        · rw [List.mem_singleton] at hq
          subst hq
          exact ⟨dr.v0, Rat.le_refl, dr.zw (by omega), dr.zv (by omega), show Sz (0 : Rat) 200 200 from ⟨by decide, by decide⟩⟩
      have hlen : (l ++ [(⟨(W : Rat), v, 0⟩ : Pc)]).length = 190 + 1 := by rw [List.length_append, dr.n]; rfl
      generalize l ++ [(⟨(W : Rat), v, 0⟩ : Pc)] = L at *
      cases L with
      | nil => cases hlen
      | cons p r =>
        have hr : r.length = 190 := by rw [List.length_cons] at hlen; omega
        exact h p r _ ⟨hch, Option.some.inj hw0, by omega, fun q hq => (hin q hq).1, fun q hq => (hin q hq).2.1, fun q hq => (hin q hq).2.2.1, fun q hq => (hin q hq).2.2.2.1, fun q hq => (hin q hq).2.2.2.2⟩ hr (sT.mono (by omega)) oT
theorem off_below {n : Nat} {Δ E : Store} {c : Int} (o : Off n Δ E) (s : Spr E n c) : ∀ (m : Nat) (w : O), m < Δ.length → E[m]? = some w → Δ[m]? = some w ∨ blwO Δ.length w = true := fun m w hm he => by
  by_cases h : m = n
  · subst h
    obtain ⟨x, y, z, e, _⟩ := s
    rw [e] at he
    cases he
    exact .inr rfl
  · rw [o.at_ m h] at he
    exact .inl he
theorem sev_sz : Sz (Rat.divInt 1 7) 2 3 := sz_div (by decide) (by decide) (by decide)
theorem llr_ok (F : Kf K C) {n : Nat} {c : Int} (hb : Spr Δ n c) (hc : c ≤ 10 ^ 15) (h : ∀ Δ', P (.bl true) Δ') : frzX C (W__law_long_right K C) [.cell n] Δ P := by
  unfold frzX W__law_long_right z__law_long_right
  refine ⟨rfl, ?_⟩
  refine seq_cut fun rest hr => ?_
  walk_at "zz"
  refine dip2_ok hb (by omega) (by decide) (.inl (by omega)) fun a E1 a0 a1 s1 o1 => ?_
  refine ⟨_, rfl, ?_⟩
  refine llong_ok s1 (by omega) (by omega) (by omega) fun p r E2 cv hrl s2 o2 => ?_
  have oo := o1.trans o2
  have hls : atI ((p :: r).map fun q => frD q.s) (-1) = some (frD (lastS p r)) := by
    rw [← last_pa]
    exact atI_lastL (n := r.length) (by rw [List.length_map, List.length_cons]) (by rw [List.getElem?_map, pa_get (Nat.le_refl _)]; rfl)
  have hI : ∀ (E : Store) (Q : D → Store → Prop), Q (crvD (p :: jn p.s r)) E → mkG K C [.lst ((p :: r).map fun q => ptD (ptP q)), frD (lastS p r)] E Q := fun E Q q => mk_ok F cv (by decide) (by decide) (Pt.lst (below_pt _)) q
  have hW : ∀ (y : Rat) (_ : Wv y) (E : Store) (Q : D → Store → Prop), Q (rsD (resW p r y)) E → W_Curve_widths_of K C [crvD (p :: jn p.s r), frD y] E Q := fun y hy E Q q => toldW_ok F cv hy .fr q
  have hL : ∀ (y : Rat) (_ : Wv y) (E : Store) (Q : D → Store → Prop), Q (rsD (resW p r y)) E → frzX C (W__law_widths_with K C) [.lst ((p :: r).map fun q => ptD (ptP q)), .lst ((p :: r).map fun q => frD q.s), frD y] E Q := fun y hy E Q q => lww_ok (cv.vw hy) q
  have hmth : ∀ E : Store, insM C E 0 (Str.ofString "widths_of") (crvD (p :: jn p.s r)) := fun E => mth_crv F
  have hgp : ∀ i, i ≤ 190 → ((p :: r).map fun q => ptD (ptP q))[i]? = some (.tup [frD (pa p r i).w, frD (pa p r i).v]) := fun i h => by rw [List.getElem?_map, pa_get (by omega)]; rfl
  have hpv : ∀ i, i ≤ 190 → 0 ≤ (pa p r i).v ∧ Sz (pa p r i).v 200 200 := fun i h => ⟨cv.v0 _ (pa_mem (by omega)), cv.zv _ (pa_mem (by omega))⟩
  generalize ((p :: r).map fun q => ptD (ptP q)) = ds at *
  generalize ((p :: r).map fun q => frD q.s) = rs at *
  generalize crvD (p :: jn p.s r) = crv at *
  walk_at "zz"
  subst hr
  refine seq_cut fun rest hr => ?_
  simp only [mk_eq]
  walk_at "zz"
  refine ⟨_, hls, ?_⟩
  refine hI _ _ ?_
  subst hr
  refine seq_cut fun rest hr => ?_
  refine for_cut fun body hB => ?_
  walk_at "zz"
  refine ⟨by omega, by omega, ?_⟩
  rw [range_int, show ((9 : Int)).toNat = 9 by omega]
  have s2 := s2.mono (show c + 2 + 5000 ≤ c + 6000 + 4 * ((0 : Nat) : Int) by omega)
  refine loop_inv (fun k Γ E => ∃ (u4 u5 u6 u7 : Option D), Spr E n (c + 6000 + 4 * k) ∧ Off n Δ E ∧ Γ = [some (.cell n), some (.lst ds), some (.lst rs), some crv, u4, u5, u6, u7]) _ 0 _ _ ⟨none, none, none, none, s2, oo, rfl⟩ ?_ ?_
  · rintro i x Γ E Z' hx ⟨u4, u5, u6, u7, sE, oE, rfl⟩ hn' hc' hr' hk'
    have hi : i < 9 := by
      have := (List.getElem?_eq_some_iff.mp hx).1
      simpa using this
    rw [List.getElem?_map, List.getElem?_range hi] at hx
    have ex : x = D.int (i : Int) := (Option.some.inj hx).symm
    subst ex hB
    rw [Nat.zero_add] at *
    simp only [zgName, List.set_cons_succ, List.set_cons_zero]
    refine seq_cut fun rest2 hr2 => ?_
    walk_at "zz"
    refine dip2_ok sE (by omega) (by decide) (.inl (by omega)) fun a E3 a0 a1 s3 o3 => ?_
    refine ⟨_, rfl, ?_⟩
    refine dip2_ok s3 (by omega) (by decide) (.inl (by omega)) fun b E4 b0 b1 s4 o4 => ?_
    have o4 := (oE.trans o3).trans o4
    have s4 := s4.mono (show c + 6000 + 4 * (i : Int) + 2 + 2 ≤ c + 6000 + 4 * ((i + 1 : Nat) : Int) by omega)
    have go : ∀ t : Nat, t ≤ 190 → rest2 [some (.cell n), some (.lst ds), some (.lst rs), some crv, some (.int (i : Int)), some (.int (t : Int)), u6, u7] E4 := fun t ht => by
      obtain ⟨pv, zv⟩ := hpv t ht
      subst hr2
      refine seq_cut fun rest3 hr3 => ?_
      walk_at "zz"
      refine ⟨_, atI_nat (hgp t ht), _, rfl, _, rfl, ?_⟩
      subst hr3
      refine for_cut fun body2 hB2 => ?_
      walk_at "zz"
      refine lplusR_ok zv (by decide) (by decide) (by decide) (by decide) (by decide) ?_
      generalize (pa p r t).v = v at *
      have p17 : (0 : Rat) ≤ Rat.divInt 1 7 := div_nn (by decide) (by decide)
      have hx2 : ∀ x ∈ [v, v + Rat.divInt 1 7], Wv x := fun x hxx => by
        rcases List.mem_cons.mp hxx with rfl | hxx
        · exact ⟨pv, zv.mono (by decide) (by decide)⟩
        · rw [List.mem_singleton] at hxx
          subst hxx
          exact ⟨by grind, (sz_add zv sev_sz (N := 300) (by decide) (by decide)).mono (by decide) (by decide)⟩
      rw [show [frD v, frD (v + Rat.divInt 1 7)] = [v, v + Rat.divInt 1 7].map frD from rfl]
      generalize [v, v + Rat.divInt 1 7] = ys at *
      refine loop_all (fun Γ E => E = E4 ∧ ∃ (u6 u7 : Option D), Γ = [some (.cell n), some (.lst ds), some (.lst rs), some crv, some (.int (i : Int)), some (.int (t : Int)), u6, u7]) ⟨rfl, _, _, rfl⟩ ?_ ?_
      · rintro y Γ E Z3 hy ⟨rfl, u6, u7, rfl⟩ hn3 hc3 hr3 hk3
        obtain ⟨y, hy2, rfl⟩ := List.mem_map.mp hy
        have wy := hx2 y hy2
        subst hB2
        walk_at "zz"
        refine ⟨hmth _, hW y wy _ _ (hL y wy _ _ (ne_rs ⟨false, rfl, (fun q => nomatch q), fun _ => hn3 _ _ ⟨rfl, _, _, rfl⟩⟩))⟩
      · rintro Γ E ⟨rfl, u6, u7, rfl⟩
        exact hn' _ _ ⟨_, _, _, _, s4, o4, rfl⟩
    have hmod : (i : Int) % 2 = 0 ∨ (i : Int) % 2 = 1 := by omega
    refine ⟨by decide, ?_⟩
    rcases hmod with e | e
    · rw [e]
      refine ⟨_, atI_nat (i := 0) rfl, ?_⟩
      have := go (190 - a).toNat (by omega)
      rw [Int.toNat_of_nonneg (by omega)] at this
      exact this
    · rw [e]
      refine ⟨_, atI_nat (i := 1) rfl, ?_⟩
      have := go b.toNat (by omega)
      rw [Int.toNat_of_nonneg (by omega)] at this
      exact this
  · rintro Γ E ⟨u4, u5, u6, u7, sE, oE, rfl⟩
    subst hr
    walk_at "zz"
    exact ⟨off_below oE sE, rfl, h _⟩
end
end Bx

namespace Bx
open PySem PySem.Spec PyProof.Rows L2 Z
local macro_rules | `(tactic| walk_at "zz") => `(tactic| simp only [zSeq, zAsg, zRet, zRetN, zIfS, zNext, zDrop, zPar, zPar3, zAug, zDivmod, zIndex, zCatT, zSlT, zMeth, zVar, zC, zOp, zUn, zNeg, zI0, zI, zTest, zAnd, zOr, zNot, zAndV, zOrV, zNotV, zIf, zNil, zCons, zTup, zLst, zLstC, zgName, zgTup, zgCons, zgNil, zgSub, startZ, zCall, zCB, zChain, zIsN, zNotN, zNever,
  zAddA, zMulA, zRepeat, zCat, zIx, seqD, lstD, zMax2, zMin2, zAbs, zLen, zSum, zGcd, zInt, zYes, zBreak, zCont, zMin1, zMax1, zList, zListC, zLcC, zLc, ziR1, ziR2, ziList, ziTup, ziZip, ziEnum, wipeZ, zFor, zSl, zPart, zNoPart, zAppend, zLstR1, zLstR2, zCallBC, zCallBF, zBits, zTru, zProp, zCallO,
  at0, at1, at2, at3, at4, ix2_3, ix0_3, isNon_int, isNon_non, Bool.not_true, Bool.not_false,
  List.map_cons, List.map_nil, List.length_cons, List.length_nil, List.replicate_succ, List.replicate_zero, List.append_nil, List.nil_append, List.cons_append, List.getElem?_cons_zero, List.getElem?_cons_succ, List.set_cons_zero, List.set_cons_succ,
  Option.some.injEq, D.int.injEq, D.bl.injEq, D.tup.injEq, D.lst.injEq, D.str.injEq, D.cell.injEq, O.lst.injEq, reduceCtorEq, exists_eq_left', exists_eq_left, false_and, and_false, true_and, and_true, exists_false, or_false, false_or, exists_and_left, exists_eq', exists_and_right, List.cons.injEq, and_assoc, dec_not, dec_yes, nd_t, nd_f, t_t, t_f, f_t, f_f, true_implies, false_implies, implies_true, and_self, Nat.reduceAdd, Nat.reduceLeDiff, Nat.reduceSub, Nat.reduceLT])
local macro_rules | `(tactic| walk_at "zy") => `(tactic| try simp only [Option.some.injEq, D.int.injEq, D.bl.injEq, D.tup.injEq, D.lst.injEq, D.str.injEq, D.cell.injEq, O.lst.injEq, reduceCtorEq, exists_eq_left', exists_eq_left, false_and, and_false, true_and, and_true, exists_false, or_false, false_or, exists_and_left, exists_eq', exists_and_right, List.cons.injEq, and_assoc, dec_not, dec_yes, nd_t, nd_f, t_t, t_f, f_t, f_f, true_implies, false_implies, implies_true, and_self])
theorem thaw_lst {E : Store} {k : Nat} {l : List D} (h : E[k]? = some (.lst l)) : Z.thaw E (.cell k) = .lst l := by
  show (match E[k]? with | some (O.lst ds) => D.lst ds | some (O.dct ks ds) => D.dct ks ds | _ => D.cell k) = _
  rw [h]
theorem off_set {E : Store} {n : Nat} {o : O} : Off n E (E.set n o) := ⟨by rw [List.length_set], fun m h => by rw [List.getElem?_set_ne (Ne.symm h)]⟩
theorem stl_at : ∀ {r : List Pc} {p a b : Pc} {i : Nat}, StL (p :: r) → (p :: r)[i]? = some a → (p :: r)[i + 1]? = some b → Rq 60 (60 * 10 ^ 21) (b.w - a.w) := by
  intro r
  induction r with
  | nil => intro p a b i _ _ h; exact nomatch h
  | cons q r ih =>
    intro p a b i hs ha hb
    cases i with
    | zero =>
      have e1 : p = a := Option.some.inj ha
      have e2 : q = b := Option.some.inj hb
      rw [← e1, ← e2]
      exact hs.1
    | succ i => exact ih hs.2 ha hb
section
variable {K : PySem.W.Frag} {C : CI} {P : D → Store → Prop}
theorem lright_ok (F : Kf K C) {E : Store} {sn fp rp : Nat} {c0 : Int} (hb : Spr E sn c0) (hc : c0 ≤ 10 ^ 16) {p : Pc} {r : List Pc} (c : Cv 200 200 p r) (hn1 : r.length + 1 < 200) (hf : E[fp]? = some (.lst ((p :: r).map fun q => ptD (ptP q)))) (hr : E[rp]? = some (.lst ((p :: r).map fun q => frD q.s))) (h1 : fp ≠ sn) (h2 : rp ≠ sn)
    (h : ∀ E', Spr E' sn (c0 + 50) → Off sn E E' → P (.bl true) E') : lendS (W__law_right K C) [.cell sn, .cell fp, .cell rp] E P := by
  obtain ⟨x, y, z, e, hx⟩ := hb
  have hl := (List.getElem?_eq_some_iff.mp e).1
  refine ⟨sn, _, [.cell fp, .cell rp], rfl, e, rfl, fun d hd => ?_, ?_, ?_⟩
  · rcases List.mem_cons.mp hd with rfl | hd
    · exact fun q => h1 (D.cell.inj q)
    · rw [List.mem_singleton] at hd
      subst hd
      exact fun q => h2 (D.cell.inj q)
  · rw [List.map_cons, List.map_cons, List.map_nil, thaw_lst hf, thaw_lst hr]
    show (Z.belowL 0 ((p :: r).map fun q => ptD (ptP q)) && (Z.belowL 0 ((p :: r).map fun q => frD q.s) && true)) = true
    rw [belowL_map (fun _ => rfl), belowL_map (fun _ => rfl)]
    rfl
  · rw [List.map_cons, List.map_cons, List.map_nil, thaw_lst hf, thaw_lst hr]
    refine right_ok F (n := 0) (c0 := c0) ⟨x, y, z, rfl, hx⟩ hc c hn1 fun Δ' hs => ?_
    obtain ⟨x', y', z', e', hx'⟩ := hs
    exact ⟨rfl, _, e', rfl, h _ ⟨x', y', z', by rw [List.getElem?_set_self hl], hx'⟩ off_set⟩
end
end Bx

namespace Bx
open PySem PySem.Spec PyProof.Rows L2 Z
local macro_rules | `(tactic| walk_at "zz") => `(tactic| simp only [zSeq, zAsg, zRet, zRetN, zIfS, zNext, zDrop, zPar, zPar3, zAug, zDivmod, zIndex, zCatT, zSlT, zMeth, zVar, zC, zOp, zUn, zNeg, zI0, zI, zTest, zAnd, zOr, zNot, zAndV, zOrV, zNotV, zIf, zNil, zCons, zTup, zLst, zLstC, zgName, zgTup, zgCons, zgNil, zgSub, startZ, zCall, zCB, zChain, zIsN, zNotN, zNever,
  zAddA, zMulA, zRepeat, zCat, zIx, seqD, lstD, zMax2, zMin2, zAbs, zLen, zSum, zGcd, zInt, zYes, zBreak, zCont, zMin1, zMax1, zList, zListC, zLcC, zLc, ziR1, ziR2, ziList, ziTup, ziZip, ziEnum, wipeZ, zFor, zSl, zPart, zNoPart, zAppend, zLstR1, zLstR2, zCallBC, zCallBF, zBits, zTru, zProp, zCallO,
  at0, at1, at2, at3, at4, ix2_3, ix0_3, isNon_int, isNon_non, Bool.not_true, Bool.not_false,
  List.map_cons, List.map_nil, List.length_cons, List.length_nil, List.replicate_succ, List.replicate_zero, List.append_nil, List.nil_append, List.cons_append, List.getElem?_cons_zero, List.getElem?_cons_succ, List.set_cons_zero, List.set_cons_succ,
  Option.some.injEq, D.int.injEq, D.bl.injEq, D.tup.injEq, D.lst.injEq, D.str.injEq, D.cell.injEq, O.lst.injEq, reduceCtorEq, exists_eq_left', exists_eq_left, false_and, and_false, true_and, and_true, exists_false, or_false, false_or, exists_and_left, exists_eq', exists_and_right, List.cons.injEq, and_assoc, dec_not, dec_yes, nd_t, nd_f, t_t, t_f, f_t, f_f, true_implies, false_implies, implies_true, and_self, Nat.reduceAdd, Nat.reduceLeDiff, Nat.reduceSub, Nat.reduceLT])
local macro_rules | `(tactic| walk_at "zy") => `(tactic| try simp only [Option.some.injEq, D.int.injEq, D.bl.injEq, D.tup.injEq, D.lst.injEq, D.str.injEq, D.cell.injEq, O.lst.injEq, reduceCtorEq, exists_eq_left', exists_eq_left, false_and, and_false, true_and, and_true, exists_false, or_false, false_or, exists_and_left, exists_eq', exists_and_right, List.cons.injEq, and_assoc, dec_not, dec_yes, nd_t, nd_f, t_t, t_f, f_t, f_f, true_implies, false_implies, implies_true, and_self])
theorem ixNn {m t : Nat} (h : t < m) : ixN m (t : Int) = some t := by
  unfold ixN
  rw [if_pos (by omega), if_pos (by omega)]
  rfl
def h32 : Rat := ⟨3, 2, by decide, by decide⟩
def q0 : Pc := ⟨0, 2, 0⟩
def qr : List Pc := [⟨4, 2, h32⟩, ⟨6, 5, 0⟩]
theorem cv0 : Cv 200 200 q0 qr := by
  have hz : ∀ q ∈ q0 :: qr, 0 ≤ q.v ∧ 0 ≤ q.s ∧ Sz q.w 200 200 ∧ Sz q.v 200 200 ∧ Sz q.s 200 200 := fun q hq => by
    rcases List.mem_cons.mp hq with rfl | hq
    · exact ⟨by decide, by decide, ⟨by decide, by decide⟩, ⟨by decide, by decide⟩, ⟨by decide, by decide⟩⟩
    rcases List.mem_cons.mp hq with rfl | hq
    · exact ⟨by decide, by decide, ⟨by decide, by decide⟩, ⟨by decide, by decide⟩, ⟨by decide, by decide⟩⟩
    · rw [List.mem_singleton] at hq
      subst hq
      exact ⟨by decide, by decide, ⟨by decide, by decide⟩, ⟨by decide, by decide⟩, ⟨by decide, by decide⟩⟩
  exact ⟨⟨by decide, by decide +kernel, by decide, by decide +kernel, trivial⟩, rfl, by decide, fun q hq => (hz q hq).1, fun q hq => (hz q hq).2.1, fun q hq => (hz q hq).2.2.1, fun q hq => (hz q hq).2.2.2.1, fun q hq => (hz q hq).2.2.2.2⟩
theorem rw1 : resW q0 qr (1 : Int) = none := by decide +kernel
theorem rw2 : resW q0 qr (2 : Int) = some (0, some 4) := by decide +kernel
theorem rw5 : resW q0 qr (5 : Int) = some (6, none) := by decide +kernel
theorem rw6 : resW q0 qr (6 : Int) = none := by decide +kernel
section
variable {K : PySem.W.Frag} {C : CI}
theorem law_ok (F : Kf K C) {ns : List Int} (hl : ns.length ≤ 63) : W_law K C [.scr ns] [] fun d _ => d = .bl true := by
  unfold W_law z_law
  refine ⟨rfl, ?_⟩
  refine seq_cut fun rest hr => ?_
  walk_at "zz"
  refine spring_ok (by decide) (by decide) fun E1 o e1 s1 => ?_
  refine llr_ok F s1 (by decide) fun E2 => ⟨true, rfl, (fun q => nomatch q), fun _ => ?_⟩
  subst hr
  refine seq_cut fun rest hr => ?_
  refine for_cut fun body hB => ?_
  walk_at "zz"
  have hm : ∃ m : Int, 1 ≤ m ∧ m ≤ 6 ∧ (if (if ((ns.map D.int).length : Int) < 6 then ((ns.map D.int).length : Int) else 6) > 1 then if ((ns.map D.int).length : Int) < 6 then ((ns.map D.int).length : Int) else 6 else 1) = m := ⟨_, by split <;> (try split) <;> omega, by split <;> (try split) <;> omega, rfl⟩
  obtain ⟨m, m1, m2, em⟩ := hm
  rw [em]
  refine ⟨by omega, by omega, ?_⟩
  rw [range_int]
  refine loop_all (fun Γ _ => ∃ u1 u2 u3 u4 u5 u6 u7 u8 u9 u10 : Option D, Γ = [some (D.scr ns), u1, u2, u3, u4, u5, u6, u7, u8, u9, u10, none, none]) ⟨none, none, none, none, none, none, none, none, none, none, rfl⟩ ?_ ?_
  · rintro x Γ E Z' hx ⟨u1, u2, u3, u4, u5, u6, u7, u8, u9, u10, rfl⟩ hn' hc' hr' hk'
    obtain ⟨i, hi, rfl⟩ := List.mem_map.mp hx
    have hi' := List.mem_range.mp hi
    subst hB
    simp only [zgName, List.set_cons_succ, List.set_cons_zero]
    refine seq_cut fun rest2 hr2 => ?_
    walk_at "zz"
    refine spring_ok (by omega) (by omega) fun E1 o e1 s1 => ?_
    generalize E.length = sn at *
    subst hr2
    refine for_cut fun body2 hB2 => ?_
    walk_at "zz"
    refine dip2_ok s1 (by decide) (by decide) (.inl (by decide)) fun a E2 a0 a1 s2 o2 => ?_
    have go : ∀ x : Int, 0 ≤ x → x ≤ 11 → loopZ body2 Z' [D.tup [D.int a, D.int 9], D.tup [D.int x, D.int (10 ^ Int.toNat 20)]] [some (D.scr ns), some (D.int (i : Int)), some (D.cell sn), u3, u4, u5, u6, u7, u8, u9, u10, none, none] E2 := fun x x0 x1 => by
      rw [e20]
      have hit : ∀ y ∈ [D.tup [D.int a, D.int 9], D.tup [D.int x, D.int (10 ^ 20)]], ∃ (many : Nat) (wide : Int), many ≤ 11 ∧ 1 ≤ wide ∧ wide ≤ 10 ^ 20 ∧ y = .tup [.int (many : Int), .int wide] := fun y hy => by
        rcases List.mem_cons.mp hy with rfl | hy
        · exact ⟨a.toNat, 9, by omega, by decide, by decide, by rw [Int.toNat_of_nonneg a0]⟩
        · rw [List.mem_singleton] at hy
          subst hy
          exact ⟨x.toNat, 10 ^ 20, by omega, by decide, by decide, by rw [Int.toNat_of_nonneg x0]⟩
      have hlen : [D.tup [D.int a, D.int 9], D.tup [D.int x, D.int (10 ^ 20)]].length = 2 := rfl
      generalize [D.tup [D.int a, D.int 9], D.tup [D.int x, D.int (10 ^ 20)]] = items at *
      refine loop_inv (fun k Γ E => ∃ v3 v4 v5 v6 v7 v8 v9 v10 : Option D, Spr E sn (10 + 6000 * k) ∧ Γ = [some (D.scr ns), some (D.int (i : Int)), some (D.cell sn), v3, v4, v5, v6, v7, v8, v9, v10, none, none]) _ 0 _ _ ⟨u3, u4, u5, u6, u7, u8, u9, u10, s2.mono (by decide), rfl⟩ ?_ ?_
      · rintro j y Γ E4 Z2 hy ⟨v3, v4, v5, v6, v7, v8, v9, v10, s4, rfl⟩ hn2 hc2 hr2 hk2
        have hj := (List.getElem?_eq_some_iff.mp hy).1
        obtain ⟨many, wide, q1, q2, q3, rfl⟩ := hit y (List.mem_of_getElem? hy)
        subst hB2
        refine ⟨_, rfl, rfl, _, _, rfl, _, _, rfl, rfl, ?_⟩
        simp only [zgName, List.set_cons_succ, List.set_cons_zero]
        refine seq_cut fun rest3 hr3 => ?_
        walk_at "zz"
        refine drawnC_ok s4 (by omega) (by omega) q2 q3 fun p r E5 fq hrl tw => ?_
        walk_at "zz"
        have hlt := tw.lt
        have cv := fq.cv
        have nP : E4.length ≠ sn := by omega
        have nR : E4.length + 1 ≠ sn := by omega
        subst hr3
        refine seq_cut fun rest3 hr3 => ?_
        walk_at "zz"
        refine lright_ok F tw.sp (by omega) cv (by omega) tw.f tw.r nP nR fun E6 s6 o6 => ⟨true, rfl, (fun q => nomatch q), fun _ => ?_⟩
        have f6 := (o6.at_ E4.length nP).trans tw.f
        have r6 := (o6.at_ (E4.length + 1) nR).trans tw.r
        generalize hPn : E4.length = Pn at *
        have hpl : ((p :: r).map fun q => ptD (ptP q)).length = many + 1 := by rw [List.length_map, List.length_cons, hrl]
        have hgp : ∀ i, i ≤ many → ((p :: r).map fun q => ptD (ptP q))[i]? = some (ptD (ptP (pa p r i))) := fun i h => by rw [List.getElem?_map, pa_get (by omega)]; rfl
        have hp0 : Z.cutD ((p :: r).map fun q => ptD (ptP q)) none (some 1) = [ptD (ptP p)] := (cut_to (p := 1)).trans rfl
        have hrr : ((p :: r).map fun q => frD q.s) = ((p :: r).map Pc.s).map frD := by rw [List.map_map]; rfl
        have hss : ∀ s ∈ (p :: r).map Pc.s, 0 ≤ s ∧ Rq qR (9 * 252000000000000000000000) s := fun s hs => by
          obtain ⟨q, hq, rfl⟩ := List.mem_map.mp hs
          exact ⟨cv.s0 q hq, fq.rs q hq⟩
        have hsl : ((p :: r).map Pc.s).length = many + 1 := by rw [List.length_map, List.length_cons, hrl]
        rw [hrr] at r6
        generalize ((p :: r).map Pc.s) = ss0 at *
        generalize hds : ((p :: r).map fun q => ptD (ptP q)) = ds at *
        subst hr3
        refine seq_cut fun rest3 hr3 => ?_
        refine for_cut fun body3 hB3 => ?_
        walk_at "zz"
        rw [r6]
        have hml : (((ss0.map frD).length : Nat) : Int) = ((many + 1 : Nat) : Int) := by rw [List.length_map, hsl]
        refine ⟨_, rfl, by rw [hml]; omega, by rw [hml]; omega, ?_⟩
        rw [hml, range_int, show ((((many + 1 : Nat) : Int))).toNat = many + 1 by omega]
        obtain ⟨c6, hc6, s6⟩ : ∃ c6 : Int, c6 = 10 + 6000 * ((0 + j : Nat) : Int) + 5050 ∧ Spr E6 sn c6 := ⟨_, rfl, s6.mono (by omega)⟩
        refine loop_inv (fun k Γ E => ∃ (ss : List Rat) (v7 : Option D), Spr E sn (c6 + 2 * k) ∧ E[Pn]? = some (.lst ds) ∧ E[Pn + 1]? = some (.lst (ss.map frD)) ∧ ss.length = many + 1 ∧ (∀ s ∈ ss, 0 ≤ s ∧ Rq qR (9 * 252000000000000000000000) s) ∧ Γ = [some (D.scr ns), some (D.int (i : Int)), some (D.cell sn), some (D.int (many : Int)), some (D.int wide), some (D.cell Pn), some (D.cell (Pn + 1)), v7, v8, v9, v10, none, none]) _ 0 _ _ ⟨ss0, v7, s6.mono (by omega), f6, r6, hsl, hss, rfl⟩ ?_ ?_
        · rintro t x Γ E Z3 hx ⟨ss, v7, s7, f7, r7, hl7, hs7, rfl⟩ hn3 hc3 hr3' hk3
          have ht : t < many + 1 := by
            have := (List.getElem?_eq_some_iff.mp hx).1
            simpa using this
          rw [List.getElem?_map, List.getElem?_range ht] at hx
          have ex : x = D.int (t : Int) := (Option.some.inj hx).symm
          subst ex hB3
          rw [Nat.zero_add] at hn3 s7
          walk_at "zz"
          refine dip2_ok s7 (by omega) (by decide) (.inl (by decide)) fun b E8 b0 b1 s8 o8 => ?_
          have f8 := (o8.at_ Pn nP).trans f7
          have r8 := (o8.at_ (Pn + 1) nR).trans r7
          refine eq_in ⟨_, rfl, fun _ => ?_, fun _ => hn3 _ _ ⟨ss, _, s8.mono (by omega), f8, r8, hl7, hs7, rfl⟩⟩
          refine ⟨_, r8, t, ixNn (by rw [List.length_map, hl7]; exact ht), ?_⟩
          rw [show (ss.map frD).set t (D.tup [.int 0, .int 1]) = (ss.set t 0).map frD from (by show (ss.map frD).set t (frD 0) = _; exact List.map_set.symm)]
          refine hn3 _ _ ⟨ss.set t 0, _, (s8.set nR).mono (by omega), by rw [List.getElem?_set_ne (by omega)]; exact f8, set_get r8 _, by rw [List.length_set]; exact hl7, fun s hs => ?_, rfl⟩
          rcases List.mem_or_eq_of_mem_set hs with hs | rfl
          · exact hs7 s hs
          · exact ⟨Rat.le_refl, ⟨0, (Rat.zero_divInt _).symm, Nat.zero_le _⟩⟩
        rintro Γ E ⟨ss, v7, s7, f7, r7, hl7, hs7, rfl⟩
        rw [List.length_map, List.length_range, Nat.zero_add] at s7
        subst hr3
        dsimp only
        refine seq_cut fun rest3 hr3 => ?_
        walk_at "zz"
        simp only [zSlC]
        walk_at "zz"
        rw [f7]
        refine ⟨_, rfl, ?_⟩
        rw [hp0]
        have hPl : Pn + 1 < E.length := (List.getElem?_eq_some_iff.mp r7).1
        have s9 := s7.app [O.lst [ptD (ptP p)]]
        have f9 : (E ++ [O.lst [ptD (ptP p)]])[Pn]? = some (.lst ds) := by rw [List.getElem?_append_left (by omega)]; exact f7
        have r9 : (E ++ [O.lst [ptD (ptP p)]])[Pn + 1]? = some (.lst (ss.map frD)) := by rw [List.getElem?_append_left (by omega)]; exact r7
        have l9 : (E ++ [O.lst [ptD (ptP p)]])[E.length]? = some (.lst [ptD (ptP p)]) := last_at
        generalize E ++ [O.lst [ptD (ptP p)]] = E9 at *
        generalize hLn : E.length = Ln at *
        have nL : Ln ≠ sn := by omega
        subst hr3
        refine seq_cut fun rest3 hr3 => ?_
        refine for_cut fun body3 hB3 => ?_
        walk_at "zz"
        refine ⟨by omega, by omega, ?_⟩
        rw [range_int, show ((many : Int)).toNat = many by omega]
        have d0 : Drw [] 0 0 p.v := ⟨rfl, fun _ => trivial, fun _ => rfl, (fun q hq => nomatch hq), cv.v0 p List.mem_cons_self, (fun q hq => nomatch hq), ⟨0, (Rat.zero_divInt _).symm, Nat.zero_le _⟩, fq.v1.mono (by decide)⟩
        have hpw : ptD (ptP p) = ptD (0, p.v) := by rw [← cv.w0]; rfl
        refine loop_inv (fun k Γ E => ∃ (l : List Pc) (w v : Rat) (v7 v9 v10 : Option D), Drw l k w v ∧ w = (pa p r k).w ∧ l.map Pc.s = ss.take k ∧ E[Ln]? = some (.lst (l.map (fun q => ptD (ptP q)) ++ [ptD (w, v)])) ∧ E[Pn]? = some (.lst ds) ∧ E[Pn + 1]? = some (.lst (ss.map frD)) ∧ Spr E sn (c6 + 2 * ((many + 1 : Nat) : Int)) ∧ Γ = [some (D.scr ns), some (D.int (i : Int)), some (D.cell sn), some (D.int (many : Int)), some (D.int wide), some (D.cell Pn), some (D.cell (Pn + 1)), v7, some (D.cell Ln), v9, v10, none, none]) _ 0 _ _ ⟨[], 0, p.v, v7, v9, v10, d0, cv.w0.symm, rfl, by rw [← hpw]; exact l9, f9, r9, s9, rfl⟩ ?_ ?_
        · rintro t x Γ E Z3 hx ⟨l, w, v, v7, v9, v10, dr, hw, hls, lE, fE, rE, sE, rfl⟩ hn3 hc3 hr3' hk3
          have ht : t < many := by
            have := (List.getElem?_eq_some_iff.mp hx).1
            simpa using this
          rw [List.getElem?_map, List.getElem?_range ht] at hx
          have ex : x = D.int (t : Int) := (Option.some.inj hx).symm
          subst ex hB3
          rw [Nat.zero_add] at *
          simp only [zgName, List.set_cons_succ, List.set_cons_zero]
          refine seq_cut fun rest4 hr4 => ?_
          walk_at "zz"
          have m1 := pa_mem (p := p) (r := r) (i := t + 1) (by omega)
          have m2 := pa_mem (p := p) (r := r) (i := t) (by omega)
          have rqt := stl_at fq.st (pa_get (p := p) (r := r) (i := t) (by omega)) (pa_get (p := p) (r := r) (i := t + 1) (by omega))
          have t0 := ch_lt cv.ch (Nat.lt_succ_self t) (pa_get (p := p) (r := r) (i := t) (by omega)) (pa_get (p := p) (r := r) (i := t + 1) (by omega))
          obtain ⟨s', hs'⟩ : ∃ s', ss[t]? = some s' := ⟨_, List.getElem?_eq_getElem (by omega)⟩
          have hs2 := hs7 s' (List.mem_of_getElem? hs')
          rw [fE]
          refine ⟨_, rfl, _, by rw [show ((t : Int) + 1) = ((t + 1 : Nat) : Int) by omega]; exact atI_nat (hgp (t + 1) (by omega)), _, rfl, _, rfl, _, rfl, _, atI_nat (hgp t (by omega)), _, rfl, _, rfl, ?_⟩
          refine lless_ok (N := 200) (M := 200) (cv.zw _ m1) (cv.zw _ m2) (by decide) (by decide) ?_
          subst hr4
          refine seq_cut fun rest4 hr4 => ?_
          walk_at "zz"
          rw [lE]
          refine ⟨_, rfl, _, atI_last _ _, [frD w, frD v], rfl, _, rfl, ?_⟩
          rw [rE]
          refine ⟨_, rfl, _, atI_nat (by rw [List.getElem?_map, hs']; rfl), ?_⟩
          show W__law_product K C [frD s', frD ((pa p r (t + 1)).w - (pa p r t).w)] E _
          have eT : w + ((pa p r (t + 1)).w - (pa p r t).w) = (pa p r (t + 1)).w := by rw [hw]; grind
          have hT0 : 0 < (pa p r (t + 1)).w - (pa p r t).w := by grind
          have dr2 := dr.step (by omega) hs2.1 hs2.2 hT0 rqt
          have zs2 : Sz s' 200 200 := rq_sz (N := 200) (M := 200) (by decide) hs2.2 (by decide) (by decide)
          have zT : Sz ((pa p r (t + 1)).w - (pa p r t).w) 200 200 := rq_sz (N := 200) (M := 200) (by decide) rqt (by decide) (by decide)
          refine lprod_ok zs2 zT (by decide) (by decide) ?_
          refine lplus_ok (N := 400) (M := 400) ((dr.zv (by omega)).mono (by decide) (by decide)) (sz_mul zs2 zT) (by decide) (by decide) ?_
          subst hr4
          walk_at "zz"
          rw [lE]
          rw [fE]
          refine ⟨⟨_, rfl⟩, _, rfl, _, by rw [show ((t : Int) + 1) = ((t + 1 : Nat) : Int) by omega]; exact atI_nat (hgp (t + 1) (by omega)), _, rfl, _, rfl, ?_⟩
          refine ⟨_, rfl, by rw [List.length_append, List.length_map, dr.n]; show t + 1 < _; omega, ?_⟩
          generalize hT : (pa p r (t + 1)).w - (pa p r t).w = T at *
          have e1 : (l.map (fun q => ptD (ptP q)) ++ [ptD (w, v)]) ++ [D.tup [frD (ptP (pa p r (t + 1))).fst, frD (v + s' * T)]] = (l ++ [(⟨w, v, s'⟩ : Pc)]).map (fun q => ptD (ptP q)) ++ [ptD (w + T, v + s' * T)] := by
            rw [eT, List.map_append]
            rfl
          rw [e1]
          refine hn3 _ _ ⟨l ++ [⟨w, v, s'⟩], w + T, v + s' * T, _, _, _, dr2, eT, ?_, ?_, ?_, ?_, sE.set nL, rfl⟩
          · have hlt2 : t < ss.length := by omega
            rw [List.map_append, hls, List.take_succ, hs']
            rfl
          · exact set_get lE _
          · rw [List.getElem?_set_ne (by omega)]; exact fE
          · rw [List.getElem?_set_ne (by omega)]; exact rE
        rintro Γ E ⟨l, w, v, v7, v9, v10, dr, hw, hls, lE, fE, rE, sE, rfl⟩
        rw [List.length_map, List.length_range, Nat.zero_add] at dr hls
        subst hr3
        dsimp only
        obtain ⟨s', hs'⟩ : ∃ s', ss[many]? = some s' := ⟨_, List.getElem?_eq_getElem (by omega)⟩
        have hs2 := hs7 s' (List.mem_of_getElem? hs')
        have hch := dr.ch s'
        have hw0 := dr.w0 s'
        have hin : ∀ q ∈ l ++ [(⟨w, v, s'⟩ : Pc)], 0 ≤ q.v ∧ 0 ≤ q.s ∧ Sz q.w 200 200 ∧ Sz q.v 200 200 ∧ Sz q.s 200 200 := fun q hq => by
          rcases List.mem_append.mp hq with hq | hq
          · exact dr.nn q hq
          · rw [List.mem_singleton] at hq
            subst hq
            exact ⟨dr.v0, hs2.1, dr.zw (by omega), dr.zv (by omega), rq_sz (N := 200) (M := 200) (by decide) hs2.2 (by decide) (by decide)⟩
        have hlen : (l ++ [(⟨w, v, s'⟩ : Pc)]).length = many + 1 := by rw [List.length_append, dr.n]; rfl
        have hm1 : (l.map (fun q => ptD (ptP q)) ++ [ptD (w, v)]) = (l ++ [(⟨w, v, s'⟩ : Pc)]).map fun q => ptD (ptP q) := by rw [List.map_append]; rfl
        have hm2 : ss.map frD = (l ++ [(⟨w, v, s'⟩ : Pc)]).map fun q => frD q.s := by
          have e : ss = (l ++ [(⟨w, v, s'⟩ : Pc)]).map Pc.s := by
            rw [List.map_append, hls]
            show ss = ss.take many ++ [s']
            have := List.take_append_drop many ss
            have h2 : ss.drop many = [s'] := by
              rw [List.drop_eq_getElem_cons (by omega), List.drop_eq_nil_of_le (by omega)]
              rw [List.getElem?_eq_getElem (by omega)] at hs'
              rw [Option.some.inj hs']
            rw [h2] at this
            exact this.symm
          rw [e, List.map_map]
          rfl
        rw [hm1] at lE
        rw [hm2] at rE
        generalize l ++ [(⟨w, v, s'⟩ : Pc)] = L at *
        cases L with
        | nil => cases hlen
        | cons p' r' =>
          have hr' : r'.length = many := by rw [List.length_cons] at hlen; omega
          have cv' : Cv 200 200 p' r' := ⟨hch, Option.some.inj hw0, by omega, fun q hq => (hin q hq).1, fun q hq => (hin q hq).2.1, fun q hq => (hin q hq).2.2.1, fun q hq => (hin q hq).2.2.2.1, fun q hq => (hin q hq).2.2.2.2⟩
          walk_at "zz"
          refine lright_ok F sE (by omega) cv' (by omega) lE rE nL nR fun E10 s10 o10 => ⟨true, rfl, (fun q => nomatch q), fun _ => ?_⟩
          exact hn2 _ _ ⟨_, _, _, _, _, _, _, _, s10.mono (by omega), rfl⟩
      · rintro Γ E4 ⟨v3, v4, v5, v6, v7, v8, v9, v10, s4, rfl⟩
        exact hn' _ _ ⟨_, _, _, _, _, _, _, _, _, _, rfl⟩
    refine ⟨rfl, rfl, .inr ⟨_, rfl, ?_⟩⟩
    cases (eqD (rdk E2 3 (D.int (i : Int))) (rdk E2 3 (D.int 0)))
    · exact ⟨_, atI_nat (i := 0) rfl, pow_ok (by decide) (by decide) (by decide), go 4 (by decide) (by decide)⟩
    · exact ⟨_, atI_nat (i := 1) rfl, pow_ok (by decide) (by decide) (by decide), go 11 (by decide) (by decide)⟩
  · rintro Γ E ⟨u1, u2, u3, u4, u5, u6, u7, u8, u9, u10, rfl⟩
    subst hr
    dsimp only
    refine seq_cut fun rest hr => ?_
    simp only [mk_eq]
    walk_at "zz"
    show mkG K C [.lst ((q0 :: qr).map fun q => ptD (ptP q)), frD (lastS q0 qr)] E _
    refine mk_ok F cv0 (by decide) (by decide) (Pt.lst (below_pt _)) ?_
    have hW : ∀ (n : Int) (h : 0 ≤ n ∧ n ≤ 6) (E : Store) (Q : D → Store → Prop), Q (rsD (resW q0 qr n)) E → W_Curve_widths_of K C [crvD (q0 :: jn q0.s qr), .int n] E Q := fun n hn E Q q => toldW_ok F cv0 (y := (n : Rat)) ⟨Rat.intCast_nonneg.mpr hn.1, (int_sz n (N := 420) (natAbs_lt (n := 420) hn.1 (Int.lt_of_le_of_lt hn.2 (by decide)))).mono (Nat.le_refl _) (by decide)⟩ (.int n rfl) q
    have hmth : ∀ E : Store, insM C E 0 (Str.ofString "widths_of") (crvD (q0 :: jn q0.s qr)) := fun E => mth_crv F
    generalize crvD (q0 :: jn q0.s qr) = crv at *
    subst hr
    walk_at "zz"
    refine comp_map (g := D.int) (f := fun n : Int => rsD (resW q0 qr n)) [1, 2, 5, 6] [] (by decide) (fun n hn Q hq => ?_) ?_
    · walk_at "zz"
      refine ⟨hmth _, hW n ?_ _ _ hq⟩
      rcases List.mem_cons.mp hn with rfl | hn
      · decide
      rcases List.mem_cons.mp hn with rfl | hn
      · decide
      rcases List.mem_cons.mp hn with rfl | hn
      · decide
      · rw [List.mem_singleton] at hn
        subst hn
        decide
    · simp only [List.map_cons, List.map_nil, List.nil_append]
      rw [rw1, rw2, rw5, rw6]
      exact ⟨rfl, rfl, rfl⟩
end
end Bx

namespace Bx
open PySem PySem.Spec PyProof.Rows L2 Z
/-! ### what the top has written -/
structure Ad where
  f__law_dip_r0 : Addr
  d__law_dip_r0 : FuncData
  f__law_dip_r1 : Addr
  d__law_dip_r1 : FuncData
  f__law_dip_r2 : Addr
  d__law_dip_r2 : FuncData
  f__law_cut : Addr
  d__law_cut : FuncData
  f__law_plus : Addr
  d__law_plus : FuncData
  f__law_product : Addr
  d__law_product : FuncData
  f__law_long : Addr
  d__law_long : FuncData
  f_is_int : Addr
  d_is_int : FuncData
  f_is_fraction : Addr
  d_is_fraction : FuncData
  f_is_positive_or_zero : Addr
  d_is_positive_or_zero : FuncData
  f_is_point : Addr
  d_is_point : FuncData
  f_order : Addr
  d_order : FuncData
  f_are_points : Addr
  d_are_points : FuncData
  f_joined : Addr
  d_joined : FuncData
  f_lowest : Addr
  d_lowest : FuncData
  f_over : Addr
  d_over : FuncData
  f_minus : Addr
  d_minus : FuncData
  f_pieces_between : Addr
  d_pieces_between : FuncData
  f_Curve_d_init_d : Addr
  d_Curve_d_init_d : FuncData
  f_is_rational : Addr
  d_is_rational : FuncData
  f_as_fraction : Addr
  d_as_fraction : FuncData
  f_last_up_to : Addr
  d_last_up_to : FuncData
  f_plus : Addr
  d_plus : FuncData
  f_widths_inside : Addr
  d_widths_inside : FuncData
  f_widths_with_value : Addr
  d_widths_with_value : FuncData
  f_Curve_widths_of : Addr
  d_Curve_widths_of : FuncData
  f__law_less : Addr
  d__law_less : FuncData
  f__law_widths_with : Addr
  d__law_widths_with : FuncData
  f__law_long_right : Addr
  d__law_long_right : FuncData
  f__law_spring : Addr
  d__law_spring : FuncData
  f__law_rise : Addr
  d__law_rise : FuncData
  f__law_drawn : Addr
  d__law_drawn : FuncData
  f_check_width : Addr
  d_check_width : FuncData
  f_times : Addr
  d_times : FuncData
  f_value_on : Addr
  d_value_on : FuncData
  f_pieces_at : Addr
  d_pieces_at : FuncData
  f_values_at : Addr
  d_values_at : FuncData
  f_Curve_d_call_d : Addr
  d_Curve_d_call_d : FuncData
  f__law_right : Addr
  d__law_right : FuncData
  f_law : Addr
  d_law : FuncData
  c_Curve : Addr
  p_Curve_points : Addr
  p_Curve_slope : Addr
def adrOf (q : Ad) : Nat → Addr
  | 0 => q.c_Curve
  | _ => 0
abbrev CIof (q : Ad) : CI := ⟨adrOf q, nmsOf⟩
structure Tx (K : PySem.W.Frag) (mg : Str → Option Value) (q : Ad) : Prop where
  F__law_dip_r0 : Fun K "_law_dip" "_law_dip" s__law_dip_r0 q.f__law_dip_r0 q.d__law_dip_r0
  b__law_dip_r0 : Binds K q.d__law_dip_r0 ["spring", "bound"] []
  m__law_dip_r0 : mg "_law_dip" = some (.ref q.f__law_dip_r0)
  F__law_dip_r1 : Fun K "_law_dip" "_law_dip" s__law_dip_r1 q.f__law_dip_r1 q.d__law_dip_r1
  b__law_dip_r1 : Binds K q.d__law_dip_r1 ["spring", "bound"] []
  m__law_dip_r1 : mg "_law_dip" = some (.ref q.f__law_dip_r1)
  F__law_dip_r2 : Fun K "_law_dip" "_law_dip" s__law_dip_r2 q.f__law_dip_r2 q.d__law_dip_r2
  b__law_dip_r2 : Binds K q.d__law_dip_r2 ["spring", "bound"] []
  m__law_dip_r2 : mg "_law_dip" = some (.ref q.f__law_dip_r2)
  F__law_cut : Fun K "_law_cut" "_law_cut" s__law_cut q.f__law_cut q.d__law_cut
  b__law_cut : Binds K q.d__law_cut ["above", "below"] []
  m__law_cut : mg "_law_cut" = some (.ref q.f__law_cut)
  F__law_plus : Fun K "_law_plus" "_law_plus" s__law_plus q.f__law_plus q.d__law_plus
  b__law_plus : Binds K q.d__law_plus ["one", "two"] []
  m__law_plus : mg "_law_plus" = some (.ref q.f__law_plus)
  F__law_product : Fun K "_law_product" "_law_product" s__law_product q.f__law_product q.d__law_product
  b__law_product : Binds K q.d__law_product ["one", "two"] []
  m__law_product : mg "_law_product" = some (.ref q.f__law_product)
  F__law_long : Fun K "_law_long" "_law_long" s__law_long q.f__law_long q.d__law_long
  b__law_long : Binds K q.d__law_long ["spring", "many", "begin"] []
  m__law_long : mg "_law_long" = some (.ref q.f__law_long)
  F_is_int : Fun K "is_int" "is_int" s_is_int q.f_is_int q.d_is_int
  b_is_int : Binds K q.d_is_int ["value"] []
  m_is_int : mg "is_int" = some (.ref q.f_is_int)
  F_is_fraction : Fun K "is_fraction" "is_fraction" s_is_fraction q.f_is_fraction q.d_is_fraction
  b_is_fraction : Binds K q.d_is_fraction ["value"] []
  m_is_fraction : mg "is_fraction" = some (.ref q.f_is_fraction)
  F_is_positive_or_zero : Fun K "is_positive_or_zero" "is_positive_or_zero" s_is_positive_or_zero q.f_is_positive_or_zero q.d_is_positive_or_zero
  b_is_positive_or_zero : Binds K q.d_is_positive_or_zero ["value"] []
  m_is_positive_or_zero : mg "is_positive_or_zero" = some (.ref q.f_is_positive_or_zero)
  F_is_point : Fun K "is_point" "is_point" s_is_point q.f_is_point q.d_is_point
  b_is_point : Binds K q.d_is_point ["value"] []
  m_is_point : mg "is_point" = some (.ref q.f_is_point)
  F_order : Fun K "order" "order" s_order q.f_order q.d_order
  b_order : Binds K q.d_order ["one", "two"] []
  m_order : mg "order" = some (.ref q.f_order)
  F_are_points : Fun K "are_points" "are_points" s_are_points q.f_are_points q.d_are_points
  b_are_points : Binds K q.d_are_points ["points"] []
  m_are_points : mg "are_points" = some (.ref q.f_are_points)
  F_joined : Fun K "joined" "joined" s_joined q.f_joined q.d_joined
  b_joined : Binds K q.d_joined ["pieces"] []
  m_joined : mg "joined" = some (.ref q.f_joined)
  F_lowest : Fun K "lowest" "lowest" s_lowest q.f_lowest q.d_lowest
  b_lowest : Binds K q.d_lowest ["p", "q"] []
  m_lowest : mg "lowest" = some (.ref q.f_lowest)
  F_over : Fun K "over" "over" s_over q.f_over q.d_over
  b_over : Binds K q.d_over ["one", "two"] []
  m_over : mg "over" = some (.ref q.f_over)
  F_minus : Fun K "minus" "minus" s_minus q.f_minus q.d_minus
  b_minus : Binds K q.d_minus ["one", "two"] []
  m_minus : mg "minus" = some (.ref q.f_minus)
  F_pieces_between : Fun K "pieces_between" "pieces_between" s_pieces_between q.f_pieces_between q.d_pieces_between
  b_pieces_between : Binds K q.d_pieces_between ["points", "slope"] []
  m_pieces_between : mg "pieces_between" = some (.ref q.f_pieces_between)
  F_Curve_d_init_d : Fun K "__init__" "Curve.__init__" s_Curve_d_init_d q.f_Curve_d_init_d q.d_Curve_d_init_d
  b_Curve_d_init_d : Binds K q.d_Curve_d_init_d ["self", "points", "slope"] []
  F_is_rational : Fun K "is_rational" "is_rational" s_is_rational q.f_is_rational q.d_is_rational
  b_is_rational : Binds K q.d_is_rational ["value"] []
  m_is_rational : mg "is_rational" = some (.ref q.f_is_rational)
  F_as_fraction : Fun K "as_fraction" "as_fraction" s_as_fraction q.f_as_fraction q.d_as_fraction
  b_as_fraction : Binds K q.d_as_fraction ["value"] []
  m_as_fraction : mg "as_fraction" = some (.ref q.f_as_fraction)
  F_last_up_to : Fun K "last_up_to" "last_up_to" s_last_up_to q.f_last_up_to q.d_last_up_to
  b_last_up_to : Binds K q.d_last_up_to ["starts", "value"] []
  m_last_up_to : mg "last_up_to" = some (.ref q.f_last_up_to)
  F_plus : Fun K "plus" "plus" s_plus q.f_plus q.d_plus
  b_plus : Binds K q.d_plus ["one", "two"] []
  m_plus : mg "plus" = some (.ref q.f_plus)
  F_widths_inside : Fun K "widths_inside" "widths_inside" s_widths_inside q.f_widths_inside q.d_widths_inside
  b_widths_inside : Binds K q.d_widths_inside ["pieces", "values"] []
  m_widths_inside : mg "widths_inside" = some (.ref q.f_widths_inside)
  F_widths_with_value : Fun K "widths_with_value" "widths_with_value" s_widths_with_value q.f_widths_with_value q.d_widths_with_value
  b_widths_with_value : Binds K q.d_widths_with_value ["pieces", "value"] []
  m_widths_with_value : mg "widths_with_value" = some (.ref q.f_widths_with_value)
  F_Curve_widths_of : Fun K "widths_of" "Curve.widths_of" s_Curve_widths_of q.f_Curve_widths_of q.d_Curve_widths_of
  b_Curve_widths_of : Binds K q.d_Curve_widths_of ["self", "value"] []
  F__law_less : Fun K "_law_less" "_law_less" s__law_less q.f__law_less q.d__law_less
  b__law_less : Binds K q.d__law_less ["one", "two"] []
  m__law_less : mg "_law_less" = some (.ref q.f__law_less)
  F__law_widths_with : Fun K "_law_widths_with" "_law_widths_with" s__law_widths_with q.f__law_widths_with q.d__law_widths_with
  b__law_widths_with : Binds K q.d__law_widths_with ["points_here", "rises", "value"] []
  m__law_widths_with : mg "_law_widths_with" = some (.ref q.f__law_widths_with)
  F__law_long_right : Fun K "_law_long_right" "_law_long_right" s__law_long_right q.f__law_long_right q.d__law_long_right
  b__law_long_right : Binds K q.d__law_long_right ["spring"] []
  m__law_long_right : mg "_law_long_right" = some (.ref q.f__law_long_right)
  F__law_spring : Fun K "_law_spring" "_law_spring" s__law_spring q.f__law_spring q.d__law_spring
  b__law_spring : Binds K q.d__law_spring ["script", "k"] []
  m__law_spring : mg "_law_spring" = some (.ref q.f__law_spring)
  F__law_rise : Fun K "_law_rise" "_law_rise" s__law_rise q.f__law_rise q.d__law_rise
  b__law_rise : Binds K q.d__law_rise ["spring"] []
  m__law_rise : mg "_law_rise" = some (.ref q.f__law_rise)
  F__law_drawn : Fun K "_law_drawn" "_law_drawn" s__law_drawn q.f__law_drawn q.d__law_drawn
  b__law_drawn : Binds K q.d__law_drawn ["spring", "many", "wide"] []
  m__law_drawn : mg "_law_drawn" = some (.ref q.f__law_drawn)
  F_check_width : Fun K "check_width" "check_width" s_check_width q.f_check_width q.d_check_width
  b_check_width : Binds K q.d_check_width ["width"] []
  m_check_width : mg "check_width" = some (.ref q.f_check_width)
  F_times : Fun K "times" "times" s_times q.f_times q.d_times
  b_times : Binds K q.d_times ["one", "two"] []
  m_times : mg "times" = some (.ref q.f_times)
  F_value_on : Fun K "value_on" "value_on" s_value_on q.f_value_on q.d_value_on
  b_value_on : Binds K q.d_value_on ["piece", "width"] []
  m_value_on : mg "value_on" = some (.ref q.f_value_on)
  F_pieces_at : Fun K "pieces_at" "pieces_at" s_pieces_at q.f_pieces_at q.d_pieces_at
  b_pieces_at : Binds K q.d_pieces_at ["pieces", "widths"] []
  m_pieces_at : mg "pieces_at" = some (.ref q.f_pieces_at)
  F_values_at : Fun K "values_at" "values_at" s_values_at q.f_values_at q.d_values_at
  b_values_at : Binds K q.d_values_at ["pieces", "widths"] []
  m_values_at : mg "values_at" = some (.ref q.f_values_at)
  F_Curve_d_call_d : Fun K "__call__" "Curve.__call__" s_Curve_d_call_d q.f_Curve_d_call_d q.d_Curve_d_call_d
  b_Curve_d_call_d : Binds K q.d_Curve_d_call_d ["self", "width"] []
  F__law_right : Fun K "_law_right" "_law_right" s__law_right q.f__law_right q.d__law_right
  b__law_right : Binds K q.d__law_right ["spring", "points_here", "rises"] []
  m__law_right : mg "_law_right" = some (.ref q.f__law_right)
  F_law : Fun K "law" "law" s_law q.f_law q.d_law
  b_law : Binds K q.d_law ["script"] []
  m_law : mg "law" = some (.ref q.f_law)
  m_Curve : mg "Curve" = some (.ref q.c_Curve)
  cl_Curve : Cls K q.c_Curve
  no_Curve__pieces : NoAttr K q.c_Curve "_pieces"
  mk_Curve : Mk K q.c_Curve q.f_Curve_d_init_d
  me_Curve_widths_of : Meth K q.c_Curve "widths_of" q.f_Curve_widths_of
  co_Curve : StX.CallO K q.c_Curve q.f_Curve_d_call_d
  is_Curve : Isi K q.c_Curve
  c_MOST_POINTS : ∃ t, mg "MOST_POINTS" = some (.int 200 t)
  c_ZERO : ∃ a, mg "ZERO" = some (.ref a) ∧ KTup K a [0, 1]
  n_abs : mg "abs" = none
  n_all : mg "all" = none
  n_bool : mg "bool" = none
  n_enumerate : mg "enumerate" = none
  g_gcd : mg "gcd" = some (.builtin "math.gcd")
  n_int : mg "int" = none
  n_isinstance : mg "isinstance" = none
  n_len : mg "len" = none
  n_list : mg "list" = none
  n_max : mg "max" = none
  n_min : mg "min" = none
  n_range : mg "range" = none
  n_tuple : mg "tuple" = none
  n_zip : mg "zip" = none
section
variable {P : Program} {w : World} {K : PySem.W.Frag} {mg : Str → Option Value} {base : Heap} {q : Ad}
theorem ok__law_dip_r0 (T : Tx K mg q) : FnOk P w K mg base CX0 1 q.f__law_dip_r0 q.d__law_dip_r0 ["spring", "bound"] (SpZ K (CIof q) (W__law_dip_r0 K (CIof q))) := fn_never
theorem ok__law_dip_r1 (T : Tx K mg q) : FnOk P w K mg base CX0 2 q.f__law_dip_r1 q.d__law_dip_r1 ["spring", "bound"] (SpZ K (CIof q) (W__law_dip_r1 K (CIof q))) :=
  fnz_ok T.F__law_dip_r1 sc__law_dip_r1 (fun _ _ _ h => h.1) fun cdv A outer s H E hr => ⟨z__law_dip_r1 K (CIof q),
    szs_cons (sz_if (tz_cmp oz_gt (ez_var 1) (ez_op oz_pow (ez_int) (ez_int))) (szs_cons (sz_set (i := 2) sc__law_dip_r1.nd (ez_int))
    (szs_cons (sz_for (iz_r1 (az_cons (ez_op oz_add (ez_int) (ez_op oz_fdiv (ez_bits (ez_var 1)) (ez_int))) (az_nil)) T.n_range) (gz_name (i := 3) sc__law_dip_r1.nd rfl) (szs_one (sz_set (i := 2) sc__law_dip_r1.nd (ez_op oz_add (ez_op oz_mul (ez_var 2) (ez_op oz_pow (ez_int) (ez_int))) (ez_calln (ok__law_dip_r0 T) (hr.mono (by decide)) T.m__law_dip_r0 T.F__law_dip_r0.kp T.b__law_dip_r0 (az_cons (ez_var 0) (az_cons (ez_op oz_pow (ez_int) (ez_int)) (az_nil))))))))
    (szs_one (sz_ret (ez_op oz_mod (ez_var 2) (ez_var 1)))))) (szs_nil))
    (szs_cons (sz_if (tz_cmp oz_gt (ez_ix (ez_var 0) (ez_int)) (ez_int)) (szs_cons (sz_set (i := 2) sc__law_dip_r1.nd (ez_op oz_mod (ez_ix (ez_var 0) (ez_int)) (ez_var 1)))
    (szs_cons (sz_asgSub (ez_op oz_fdiv (ez_ix (ez_var 0) (ez_int)) (ez_var 1)) (gz_sub (ez_var 0) (ez_int)))
    (szs_one (sz_ret (ez_var 2))))) (szs_nil))
    (szs_cons (sz_asgSub (ez_op oz_add (ez_ix (ez_var 0) (ez_int)) (ez_int)) (gz_sub (ez_var 0) (ez_int)))
    (szs_cons (sz_set (i := 4) sc__law_dip_r1.nd (ez_op oz_mod (ez_op oz_powW (ez_op oz_add (ez_ix (ez_var 0) (ez_int)) (ez_op oz_mul (ez_int) (ez_ix (ez_var 0) (ez_int)))) (ez_int)) (ez_op oz_add (ez_op oz_pow (ez_int) (ez_int)) (ez_int))))
    (szs_cons (sz_set (i := 4) sc__law_dip_r1.nd (ez_op oz_mod (ez_op oz_powW (ez_op oz_add (ez_var 4) (ez_op oz_mul (ez_int) (ez_ix (ez_var 0) (ez_int)))) (ez_int)) (ez_op oz_add (ez_op oz_pow (ez_int) (ez_int)) (ez_int))))
    (szs_one (sz_ret (ez_op oz_mod (ez_op oz_fdiv (ez_var 4) (ez_int)) (ez_var 1)))))))),
    fun _ _ _ h => h.2⟩
theorem ok__law_dip_r2 (T : Tx K mg q) : FnOk P w K mg base CX0 3 q.f__law_dip_r2 q.d__law_dip_r2 ["spring", "bound"] (SpZ K (CIof q) (W__law_dip_r2 K (CIof q))) :=
  fnz_ok T.F__law_dip_r2 sc__law_dip_r2 (fun _ _ _ h => h.1) fun cdv A outer s H E hr => ⟨z__law_dip_r2 K (CIof q),
    szs_cons (sz_if (tz_cmp oz_gt (ez_var 1) (ez_op oz_pow (ez_int) (ez_int))) (szs_cons (sz_set (i := 2) sc__law_dip_r2.nd (ez_int))
    (szs_cons (sz_for (iz_r1 (az_cons (ez_op oz_add (ez_int) (ez_op oz_fdiv (ez_bits (ez_var 1)) (ez_int))) (az_nil)) T.n_range) (gz_name (i := 3) sc__law_dip_r2.nd rfl) (szs_one (sz_set (i := 2) sc__law_dip_r2.nd (ez_op oz_add (ez_op oz_mul (ez_var 2) (ez_op oz_pow (ez_int) (ez_int))) (ez_calln (ok__law_dip_r1 T) (hr.mono (by decide)) T.m__law_dip_r1 T.F__law_dip_r1.kp T.b__law_dip_r1 (az_cons (ez_var 0) (az_cons (ez_op oz_pow (ez_int) (ez_int)) (az_nil))))))))
    (szs_one (sz_ret (ez_op oz_mod (ez_var 2) (ez_var 1)))))) (szs_nil))
    (szs_cons (sz_if (tz_cmp oz_gt (ez_ix (ez_var 0) (ez_int)) (ez_int)) (szs_cons (sz_set (i := 2) sc__law_dip_r2.nd (ez_op oz_mod (ez_ix (ez_var 0) (ez_int)) (ez_var 1)))
    (szs_cons (sz_asgSub (ez_op oz_fdiv (ez_ix (ez_var 0) (ez_int)) (ez_var 1)) (gz_sub (ez_var 0) (ez_int)))
    (szs_one (sz_ret (ez_var 2))))) (szs_nil))
    (szs_cons (sz_asgSub (ez_op oz_add (ez_ix (ez_var 0) (ez_int)) (ez_int)) (gz_sub (ez_var 0) (ez_int)))
    (szs_cons (sz_set (i := 4) sc__law_dip_r2.nd (ez_op oz_mod (ez_op oz_powW (ez_op oz_add (ez_ix (ez_var 0) (ez_int)) (ez_op oz_mul (ez_int) (ez_ix (ez_var 0) (ez_int)))) (ez_int)) (ez_op oz_add (ez_op oz_pow (ez_int) (ez_int)) (ez_int))))
    (szs_cons (sz_set (i := 4) sc__law_dip_r2.nd (ez_op oz_mod (ez_op oz_powW (ez_op oz_add (ez_var 4) (ez_op oz_mul (ez_int) (ez_ix (ez_var 0) (ez_int)))) (ez_int)) (ez_op oz_add (ez_op oz_pow (ez_int) (ez_int)) (ez_int))))
    (szs_one (sz_ret (ez_op oz_mod (ez_op oz_fdiv (ez_var 4) (ez_int)) (ez_var 1)))))))),
    fun _ _ _ h => h.2⟩
theorem ok__law_cut (T : Tx K mg q) : FnOk P w K mg base CX0 1 q.f__law_cut q.d__law_cut ["above", "below"] (SpZ K (CIof q) (W__law_cut K (CIof q))) :=
  fnz_ok T.F__law_cut sc__law_cut (fun _ _ _ h => h.1) fun cdv A outer s H E hr => ⟨z__law_cut K (CIof q),
    szs_cons (sz_par (i := 2) (j := 3) sc__law_cut.nd rfl rfl (by decide) rfl rfl (az_cons (ez_callB cz_abs T.n_abs (by decide +kernel) (az_cons (ez_var 0) (az_nil))) (az_cons (ez_var 1) (az_nil))))
    (szs_cons (sz_while (tz_cmp oz_gt (ez_var 3) (ez_int)) (szs_one (sz_par (i := 2) (j := 3) sc__law_cut.nd rfl rfl (by decide) rfl rfl (az_cons (ez_var 3) (az_cons (ez_op oz_mod (ez_var 2) (ez_var 3)) (az_nil))))))
    (szs_one (sz_ret (ez_tup (az_cons (ez_op oz_fdiv (ez_var 0) (ez_var 2)) (az_cons (ez_op oz_fdiv (ez_var 1) (ez_var 2)) (az_nil))))))),
    fun _ _ _ h => h.2⟩
theorem ok__law_plus (T : Tx K mg q) : FnOk P w K mg base CX0 2 q.f__law_plus q.d__law_plus ["one", "two"] (SpZ K (CIof q) (W__law_plus K (CIof q))) :=
  fnz_ok T.F__law_plus sc__law_plus (fun _ _ _ h => h.1) fun cdv A outer s H E hr => ⟨z__law_plus K (CIof q),
    szs_one (sz_ret (ez_calln (ok__law_cut T) (hr.mono (by decide)) T.m__law_cut T.F__law_cut.kp T.b__law_cut (az_cons (ez_op oz_add (ez_op oz_mul (ez_ix (ez_var 0) (ez_int)) (ez_ix (ez_var 1) (ez_int))) (ez_op oz_mul (ez_ix (ez_var 1) (ez_int)) (ez_ix (ez_var 0) (ez_int)))) (az_cons (ez_op oz_mul (ez_ix (ez_var 0) (ez_int)) (ez_ix (ez_var 1) (ez_int))) (az_nil))))),
    fun _ _ _ h => h.2⟩
theorem ok__law_product (T : Tx K mg q) : FnOk P w K mg base CX0 2 q.f__law_product q.d__law_product ["one", "two"] (SpZ K (CIof q) (W__law_product K (CIof q))) :=
  fnz_ok T.F__law_product sc__law_product (fun _ _ _ h => h.1) fun cdv A outer s H E hr => ⟨z__law_product K (CIof q),
    szs_one (sz_ret (ez_calln (ok__law_cut T) (hr.mono (by decide)) T.m__law_cut T.F__law_cut.kp T.b__law_cut (az_cons (ez_op oz_mul (ez_ix (ez_var 0) (ez_int)) (ez_ix (ez_var 1) (ez_int))) (az_cons (ez_op oz_mul (ez_ix (ez_var 0) (ez_int)) (ez_ix (ez_var 1) (ez_int))) (az_nil))))),
    fun _ _ _ h => h.2⟩
theorem ok__law_long (T : Tx K mg q) : FnOk P w K mg base CX0 4 q.f__law_long q.d__law_long ["spring", "many", "begin"] (SpZ K (CIof q) (W__law_long K (CIof q))) :=
  fnz_ok T.F__law_long sc__law_long (fun _ _ _ h => h.1) fun cdv A outer s H E hr => ⟨z__law_long K (CIof q),
    szs_cons (sz_par3 (i := 3) (j := 4) (l := 5) sc__law_long.nd rfl rfl rfl (by decide) (by decide) (by decide) rfl rfl rfl (az_cons (ez_lstC (az_cons (ez_tup (az_cons (ez_tup (az_cons (ez_int) (az_cons (ez_int) (az_nil)))) (az_cons (ez_tup (az_cons (ez_calln (ok__law_dip_r2 T) (hr.mono (by decide)) T.m__law_dip_r2 T.F__law_dip_r2.kp T.b__law_dip_r2 (az_cons (ez_var 0) (az_cons (ez_int) (az_nil)))) (az_cons (ez_int) (az_nil)))) (az_nil)))) (az_nil))) (az_cons (ez_lstC (az_nil)) (az_cons (ez_int) (az_nil)))))
    (szs_cons (sz_for (iz_r1 (az_cons (ez_var 1) (az_nil)) T.n_range) (gz_name (i := 6) sc__law_long.nd rfl) (szs_cons (sz_set (i := 7) sc__law_long.nd (ez_ix (ez_lst (az_cons (ez_tup (az_cons (ez_int) (az_cons (ez_int) (az_nil)))) (az_cons (ez_calln (ok__law_cut T) (hr.mono (by decide)) T.m__law_cut T.F__law_cut.kp T.b__law_cut (az_cons (ez_op oz_add (ez_int) (ez_calln (ok__law_dip_r2 T) (hr.mono (by decide)) T.m__law_dip_r2 T.F__law_dip_r2.kp T.b__law_dip_r2 (az_cons (ez_var 0) (az_cons (ez_int) (az_nil))))) (az_cons (ez_op oz_add (ez_int) (ez_calln (ok__law_dip_r2 T) (hr.mono (by decide)) T.m__law_dip_r2 T.F__law_dip_r2.kp T.b__law_dip_r2 (az_cons (ez_var 0) (az_cons (ez_int) (az_nil))))) (az_nil)))) (az_nil)))) (ez_op oz_mod (ez_var 6) (ez_int))))
    (szs_cons (sz_set (i := 8) sc__law_long.nd (ez_if (tz_cmp (oz_eqD hr.units) (ez_var 6) (ez_int)) (ez_var 2) (ez_int)))
    (szs_cons (sz_set (i := 5) sc__law_long.nd (ez_op oz_add (ez_var 5) (ez_var 8)))
    (szs_cons (sz_expr (ez_append (ez_var 4) (az_cons (ez_var 7) (az_nil))))
    (szs_one (sz_expr (ez_append (ez_var 3) (az_cons (ez_tup (az_cons (ez_tup (az_cons (ez_var 5) (az_cons (ez_int) (az_nil)))) (az_cons (ez_calln (ok__law_plus T) (hr.mono (by decide)) T.m__law_plus T.F__law_plus.kp T.b__law_plus (az_cons (ez_ix (ez_ix (ez_var 3) (ez_neg (ez_int))) (ez_int)) (az_cons (ez_calln (ok__law_product T) (hr.mono (by decide)) T.m__law_product T.F__law_product.kp T.b__law_product (az_cons (ez_var 7) (az_cons (ez_tup (az_cons (ez_var 8) (az_cons (ez_int) (az_nil)))) (az_nil)))) (az_nil)))) (az_nil)))) (az_nil))))))))))
    (szs_one (sz_ret (ez_tup (az_cons (ez_var 3) (az_cons (ez_op oz_cat (ez_var 4) (ez_lst (az_cons (ez_ix (ez_lst (az_cons (ez_tup (az_cons (ez_int) (az_cons (ez_int) (az_nil)))) (az_cons (ez_tup (az_cons (ez_int) (az_cons (ez_int) (az_nil)))) (az_nil)))) (ez_op oz_mod (ez_var 1) (ez_int))) (az_nil)))) (az_nil))))))),
    fun _ _ _ h => h.2⟩
theorem ok_is_int (T : Tx K mg q) : FnOk P w K mg base CX0 1 q.f_is_int q.d_is_int ["value"] (SpZ K (CIof q) (W_is_int K (CIof q))) :=
  fnz_ok T.F_is_int sc_is_int (fun _ _ _ h => h.1) fun cdv A outer s H E hr => ⟨z_is_int K (CIof q),
    szs_one (sz_ret (ez_and (ez_callB cz_isi T.n_isinstance (by decide +kernel) (az_cons (ez_var 0) (az_cons (ez_ty T.n_int PyProof.Rows.boot_int) (az_nil)))) (ez_one (ez_not (ez_callB cz_isi T.n_isinstance (by decide +kernel) (az_cons (ez_var 0) (az_cons (ez_ty T.n_bool PyProof.Rows.boot_bool) (az_nil)))))))),
    fun _ _ _ h => h.2⟩
theorem ok_is_fraction (T : Tx K mg q) : FnOk P w K mg base CX0 2 q.f_is_fraction q.d_is_fraction ["value"] (SpZ K (CIof q) (W_is_fraction K (CIof q))) :=
  fnz_ok T.F_is_fraction sc_is_fraction (fun _ _ _ h => h.1) fun cdv A outer s H E hr => ⟨z_is_fraction K (CIof q),
    szs_cons (sz_if ((wz_or (tz_not (tz_val (ez_callB cz_isi T.n_isinstance (by decide +kernel) (az_cons (ez_var 0) (az_cons (ez_ty T.n_tuple PyProof.Rows.boot_tuple) (az_nil)))))) (wz_or1 (tz_cmp (oz_neD hr.units) (ez_callB cz_len T.n_len (by decide +kernel) (az_cons (ez_var 0) (az_nil))) (ez_int)))).tz) (szs_one (sz_ret (ez_bl))) (szs_nil))
    (szs_cons (sz_asg (ez_var 0) (gz_tup (gsz_cons (gz_name (i := 1) sc_is_fraction.nd rfl) (gsz_cons (gz_name (i := 2) sc_is_fraction.nd rfl) (gsz_nil)))))
    (szs_one (sz_ret (ez_and (ez_calln (ok_is_int T) (hr.mono (by decide)) T.m_is_int T.F_is_int.kp T.b_is_int (az_cons (ez_var 1) (az_nil))) (ez_and (ez_calln (ok_is_int T) (hr.mono (by decide)) T.m_is_int T.F_is_int.kp T.b_is_int (az_cons (ez_var 2) (az_nil))) (ez_and (ez_cmp oz_ge (ez_var 2) (ez_int)) (ez_one (ez_cmp (oz_eqD hr.units) (ez_callMod cz_gcd T.g_gcd (az_cons (ez_var 1) (az_cons (ez_var 2) (az_nil)))) (ez_int))))))))),
    fun _ _ _ h => h.2⟩
theorem ok_is_positive_or_zero (T : Tx K mg q) : FnOk P w K mg base CX0 3 q.f_is_positive_or_zero q.d_is_positive_or_zero ["value"] (SpZ K (CIof q) (W_is_positive_or_zero K (CIof q))) :=
  fnz_ok T.F_is_positive_or_zero sc_is_positive_or_zero (fun _ _ _ h => h.1) fun cdv A outer s H E hr => ⟨z_is_positive_or_zero K (CIof q),
    szs_one (sz_ret (ez_and (ez_calln (ok_is_fraction T) (hr.mono (by decide)) T.m_is_fraction T.F_is_fraction.kp T.b_is_fraction (az_cons (ez_var 0) (az_nil))) (ez_one (ez_cmp oz_ge (ez_ix (ez_var 0) (ez_int)) (ez_int))))),
    fun _ _ _ h => h.2⟩
theorem ok_is_point (T : Tx K mg q) : FnOk P w K mg base CX0 4 q.f_is_point q.d_is_point ["value"] (SpZ K (CIof q) (W_is_point K (CIof q))) :=
  fnz_ok T.F_is_point sc_is_point (fun _ _ _ h => h.1) fun cdv A outer s H E hr => ⟨z_is_point K (CIof q),
    szs_one (sz_ret (ez_and (ez_callB cz_isi T.n_isinstance (by decide +kernel) (az_cons (ez_var 0) (az_cons (ez_ty T.n_tuple PyProof.Rows.boot_tuple) (az_nil)))) (ez_and (ez_cmp (oz_eqD hr.units) (ez_callB cz_len T.n_len (by decide +kernel) (az_cons (ez_var 0) (az_nil))) (ez_int)) (ez_one (ez_callB (cz_all rfl) T.n_all (by decide +kernel) (az_cons (ez_lc (own := [("item", 1)]) sc_is_point.nd (iz_tup (ez_var 0)) (blkOk_by (N := N_is_point) (sc := defScope s_is_point) (by decide +kernel)) (own_name (i := 1) (by decide)) (blkz (ref_gName) (fun _ _ _ _ _ => pg_name (i := 1) sc_is_point.nd rfl (by first | exact Or.inl rfl | exact Or.inr rfl) (by first | exact Or.inl rfl | exact Or.inr rfl)) (fun _ _ _ _ _ => tsz_nil) (fun _ _ _ _ _ => ez_calln (ok_is_positive_or_zero T) (hr.mono (by decide)) T.m_is_positive_or_zero T.F_is_positive_or_zero.kp T.b_is_positive_or_zero (az_cons (ez_var 1) (az_nil))))) (az_nil))))))),
    fun _ _ _ h => h.2⟩
theorem ok_order (T : Tx K mg q) : FnOk P w K mg base CX0 1 q.f_order q.d_order ["one", "two"] (SpZ K (CIof q) (W_order K (CIof q))) :=
  fnz_ok T.F_order sc_order (fun _ _ _ h => h.1) fun cdv A outer s H E hr => ⟨z_order K (CIof q),
    szs_one (sz_ret (ez_op oz_sub (ez_op oz_mul (ez_ix (ez_var 0) (ez_int)) (ez_ix (ez_var 1) (ez_int))) (ez_op oz_mul (ez_ix (ez_var 1) (ez_int)) (ez_ix (ez_var 0) (ez_int))))),
    fun _ _ _ h => h.2⟩
theorem ok_are_points (T : Tx K mg q) : FnOk P w K mg base CX0 5 q.f_are_points q.d_are_points ["points"] (SpZ K (CIof q) (W_are_points K (CIof q))) :=
  fnz_ok T.F_are_points sc_are_points (fun _ _ _ h => h.1) fun cdv A outer s H E hr => ⟨z_are_points K (CIof q),
    szs_cons (sz_if ((wz_or (tz_not (tz_val (ez_callB cz_isi T.n_isinstance (by decide +kernel) (az_cons (ez_var 0) (az_cons (ez_ty T.n_list PyProof.Rows.boot_list) (az_nil)))))) (wz_or1 (tz_not (tz_chain oz_le oz_le (ez_int) (ez_callB cz_len T.n_len (by decide +kernel) (az_cons (ez_var 0) (az_nil))) (ez_gint (Classical.choose_spec T.c_MOST_POINTS)))))).tz) (szs_one (sz_ret (ez_bl))) (szs_nil))
    (szs_cons (sz_if (tz_lend ((wz_or (tz_not (tz_val (ez_callB (cz_all rfl) T.n_all (by decide +kernel) (az_cons (ez_lc (own := [("point", 5)]) sc_are_points.nd (iz_list (ez_var 0)) (blkOk_by (N := N_are_points) (sc := defScope s_are_points) (by decide +kernel)) (own_name (i := 5) (by decide)) (blkz (ref_gName) (fun _ _ _ _ _ => pg_name (i := 5) sc_are_points.nd rfl (by first | exact Or.inl rfl | exact Or.inr rfl) (by first | exact Or.inl rfl | exact Or.inr rfl)) (fun _ _ _ _ _ => tsz_nil) (fun _ _ _ _ _ => ez_calln (ok_is_point T) (hr.mono (by decide)) T.m_is_point T.F_is_point.kp T.b_is_point (az_cons (ez_var 5) (az_nil))))) (az_nil))))) (wz_or1 (tz_cmp (oz_neK hr.units) (ez_ix (ez_ix (ez_var 0) (ez_int)) (ez_int)) (ez_ktup T.c_ZERO)))).tz)) (szs_one (sz_ret (ez_bl))) (szs_nil))
    (szs_cons (sz_setLc (i := 1) (own := [("at", 2)]) sc_are_points.nd rfl rfl (sw_true rfl rfl rfl (by decide +kernel)) (iz_r1 (az_cons (ez_op oz_sub (ez_callB cz_len T.n_len (by decide +kernel) (az_cons (ez_var 0) (az_nil))) (ez_int)) (az_nil)) T.n_range) (blkOk_by (N := N_are_points) (sc := defScope s_are_points) (by decide +kernel)) (own_name (i := 2) (by decide)) (blkz (ref_gName) (fun _ _ _ _ _ => pg_name (i := 2) sc_are_points.nd rfl (by first | exact Or.inl rfl | exact Or.inr rfl) (by first | exact Or.inl rfl | exact Or.inr rfl)) (fun _ _ _ _ _ => tsz_nil) (fun _ _ _ _ _ => ez_tup (az_cons (ez_ix (ez_var 0) (ez_var 2)) (az_cons (ez_ix (ez_var 0) (ez_op oz_add (ez_var 2) (ez_int))) (az_nil))))))
    (szs_one (sz_ret (ez_callB (cz_all rfl) T.n_all (by decide +kernel) (az_cons (ez_lc (own := [("one", 3), ("two", 4)]) sc_are_points.nd (iz_list (ez_var 1)) (blkOk_by (N := N_are_points) (sc := defScope s_are_points) (by decide +kernel)) (own_tup (owns_cons (i := 3) (by decide) (owns_cons (i := 4) (by decide) (owns_nil)))) (blkz (ref_gTup (ref_gCons ref_gName (ref_gCons ref_gName (ref_gNil)))) (fun _ _ _ _ _ => pg_tup rfl (pgs_cons (pg_name (i := 3) sc_are_points.nd rfl (by first | exact Or.inl rfl | exact Or.inr rfl) (by first | exact Or.inl rfl | exact Or.inr rfl)) (pgs_cons (pg_name (i := 4) sc_are_points.nd rfl (by first | exact Or.inl rfl | exact Or.inr rfl) (by first | exact Or.inl rfl | exact Or.inr rfl)) (pgs_nil)))) (fun _ _ _ _ _ => tsz_nil) (fun _ _ _ _ _ => ez_and (ez_cmp oz_lt (ez_calln (ok_order T) (hr.mono (by decide)) T.m_order T.F_order.kp T.b_order (az_cons (ez_ix (ez_var 3) (ez_int)) (az_cons (ez_ix (ez_var 4) (ez_int)) (az_nil)))) (ez_int)) (ez_one (ez_cmp oz_le (ez_calln (ok_order T) (hr.mono (by decide)) T.m_order T.F_order.kp T.b_order (az_cons (ez_ix (ez_var 3) (ez_int)) (az_cons (ez_ix (ez_var 4) (ez_int)) (az_nil)))) (ez_int)))))) (az_nil))))))),
    fun _ _ _ h => h.2⟩
theorem ok_joined (T : Tx K mg q) : FnOk P w K mg base CX0 1 q.f_joined q.d_joined ["pieces"] (SpZ K (CIof q) (W_joined K (CIof q))) :=
  fnz_ok T.F_joined sc_joined (fun _ _ _ h => h.1) fun cdv A outer s H E hr => ⟨z_joined K (CIof q),
    szs_cons (sz_set (i := 1) sc_joined.nd (ez_lstC (az_nil)))
    (szs_cons (sz_for (iz_r1 (az_cons (ez_callB cz_len T.n_len (by decide +kernel) (az_cons (ez_var 0) (az_nil))) (az_nil)) T.n_range) (gz_name (i := 2) sc_joined.nd rfl) (szs_cons (sz_set (i := 3) sc_joined.nd (ez_and (ez_cmp oz_lt (ez_op oz_add (ez_var 2) (ez_int)) (ez_callB cz_len T.n_len (by decide +kernel) (az_cons (ez_var 0) (az_nil)))) (ez_one (ez_cmp (oz_eqD hr.units) (ez_ix (ez_ix (ez_var 0) (ez_op oz_add (ez_var 2) (ez_int))) (ez_int)) (ez_ix (ez_ix (ez_var 0) (ez_var 2)) (ez_int))))))
    (szs_one (sz_if ((wz_and (tz_not (tz_val (ez_var 3))) (wz_and1 ((wz_or (tz_not (tz_tru (ez_var 1))) (wz_or1 (tz_cmp (oz_neD hr.units) (ez_ix (ez_ix (ez_var 1) (ez_neg (ez_int))) (ez_int)) (ez_ix (ez_ix (ez_var 0) (ez_var 2)) (ez_int))))).tz))).tz) (szs_one (sz_expr (ez_append (ez_var 1) (az_cons (ez_ix (ez_var 0) (ez_var 2)) (az_nil))))) (szs_nil)))))
    (szs_one (sz_ret (ez_var 1)))),
    fun _ _ _ h => h.2⟩
theorem ok_lowest (T : Tx K mg q) : FnOk P w K mg base CX0 1 q.f_lowest q.d_lowest ["p", "q"] (SpZ K (CIof q) (W_lowest K (CIof q))) :=
  fnz_ok T.F_lowest sc_lowest (fun _ _ _ h => h.1) fun cdv A outer s H E hr => ⟨z_lowest K (CIof q),
    szs_cons (sz_set (i := 2) sc_lowest.nd (ez_callMod cz_gcd T.g_gcd (az_cons (ez_var 0) (az_cons (ez_var 1) (az_nil)))))
    (szs_one (sz_ret (ez_tup (az_cons (ez_op oz_fdiv (ez_var 0) (ez_var 2)) (az_cons (ez_op oz_fdiv (ez_var 1) (ez_var 2)) (az_nil)))))),
    fun _ _ _ h => h.2⟩
theorem ok_over (T : Tx K mg q) : FnOk P w K mg base CX0 2 q.f_over q.d_over ["one", "two"] (SpZ K (CIof q) (W_over K (CIof q))) :=
  fnz_ok T.F_over sc_over (fun _ _ _ h => h.1) fun cdv A outer s H E hr => ⟨z_over K (CIof q),
    szs_one (sz_ret (ez_calln (ok_lowest T) (hr.mono (by decide)) T.m_lowest T.F_lowest.kp T.b_lowest (az_cons (ez_op oz_mul (ez_ix (ez_var 0) (ez_int)) (ez_ix (ez_var 1) (ez_int))) (az_cons (ez_op oz_mul (ez_ix (ez_var 0) (ez_int)) (ez_ix (ez_var 1) (ez_int))) (az_nil))))),
    fun _ _ _ h => h.2⟩
theorem ok_minus (T : Tx K mg q) : FnOk P w K mg base CX0 2 q.f_minus q.d_minus ["one", "two"] (SpZ K (CIof q) (W_minus K (CIof q))) :=
  fnz_ok T.F_minus sc_minus (fun _ _ _ h => h.1) fun cdv A outer s H E hr => ⟨z_minus K (CIof q),
    szs_one (sz_ret (ez_calln (ok_lowest T) (hr.mono (by decide)) T.m_lowest T.F_lowest.kp T.b_lowest (az_cons (ez_op oz_sub (ez_op oz_mul (ez_ix (ez_var 0) (ez_int)) (ez_ix (ez_var 1) (ez_int))) (ez_op oz_mul (ez_ix (ez_var 1) (ez_int)) (ez_ix (ez_var 0) (ez_int)))) (az_cons (ez_op oz_mul (ez_ix (ez_var 0) (ez_int)) (ez_ix (ez_var 1) (ez_int))) (az_nil))))),
    fun _ _ _ h => h.2⟩
theorem ok_pieces_between (T : Tx K mg q) : FnOk P w K mg base CX0 3 q.f_pieces_between q.d_pieces_between ["points", "slope"] (SpZ K (CIof q) (W_pieces_between K (CIof q))) :=
  fnz_ok T.F_pieces_between sc_pieces_between (fun _ _ _ h => h.1) fun cdv A outer s H E hr => ⟨z_pieces_between K (CIof q),
    szs_cons (sz_set (i := 2) sc_pieces_between.nd (ez_lstC (az_nil)))
    (szs_cons (sz_for (iz_r1 (az_cons (ez_op oz_sub (ez_callB cz_len T.n_len (by decide +kernel) (az_cons (ez_var 0) (az_nil))) (ez_int)) (az_nil)) T.n_range) (gz_name (i := 3) sc_pieces_between.nd rfl) (szs_cons (sz_asg (ez_tup (az_cons (ez_ix (ez_var 0) (ez_var 3)) (az_cons (ez_ix (ez_var 0) (ez_op oz_add (ez_var 3) (ez_int))) (az_nil)))) (gz_tup (gsz_cons (gz_tup (gsz_cons (gz_name (i := 4) sc_pieces_between.nd rfl) (gsz_cons (gz_name (i := 5) sc_pieces_between.nd rfl) (gsz_nil)))) (gsz_cons (gz_tup (gsz_cons (gz_name (i := 6) sc_pieces_between.nd rfl) (gsz_cons (gz_name (i := 7) sc_pieces_between.nd rfl) (gsz_nil)))) (gsz_nil)))))
    (szs_one (sz_expr (ez_append (ez_var 2) (az_cons (ez_tup (az_cons (ez_var 4) (az_cons (ez_var 5) (az_cons (ez_calln (ok_over T) (hr.mono (by decide)) T.m_over T.F_over.kp T.b_over (az_cons (ez_calln (ok_minus T) (hr.mono (by decide)) T.m_minus T.F_minus.kp T.b_minus (az_cons (ez_var 7) (az_cons (ez_var 5) (az_nil)))) (az_cons (ez_calln (ok_minus T) (hr.mono (by decide)) T.m_minus T.F_minus.kp T.b_minus (az_cons (ez_var 6) (az_cons (ez_var 4) (az_nil)))) (az_nil)))) (az_nil))))) (az_nil)))))))
    (szs_one (sz_ret (ez_op oz_cat (ez_var 2) (ez_lst (az_cons (ez_tup (az_cons (ez_ix (ez_ix (ez_var 0) (ez_neg (ez_int))) (ez_int)) (az_cons (ez_ix (ez_ix (ez_var 0) (ez_neg (ez_int))) (ez_int)) (az_cons (ez_var 1) (az_nil))))) (az_nil))))))),
    fun _ _ _ h => h.2⟩
theorem ok_Curve_d_init_d (T : Tx K mg q) : FnOk P w K mg base CX0 6 q.f_Curve_d_init_d q.d_Curve_d_init_d ["self", "points", "slope"] (SpZ K (CIof q) (W_Curve_d_init_d K (CIof q))) :=
  fnz_ok T.F_Curve_d_init_d sc_Curve_d_init_d (fun _ _ _ h => h.1) fun cdv A outer s H E hr => ⟨z_Curve_d_init_d K (CIof q),
    szs_cons (sz_if ((wz_or (tz_not (tz_val (ez_calln (ok_are_points T) (hr.mono (by decide)) T.m_are_points T.F_are_points.kp T.b_are_points (az_cons (ez_var 1) (az_nil))))) (wz_or1 (tz_not (tz_val (ez_calln (ok_is_positive_or_zero T) (hr.mono (by decide)) T.m_is_positive_or_zero T.F_is_positive_or_zero.kp T.b_is_positive_or_zero (az_cons (ez_var 2) (az_nil))))))).tz) (szs_one (sz_never)) (szs_nil))
    (szs_one (sz_setF (c := 0) (ez_var 0) (ez_calln (ok_joined T) (hr.mono (by decide)) T.m_joined T.F_joined.kp T.b_joined (az_cons (ez_calln (ok_pieces_between T) (hr.mono (by decide)) T.m_pieces_between T.F_pieces_between.kp T.b_pieces_between (az_cons (ez_var 1) (az_cons (ez_var 2) (az_nil)))) (az_nil))) T.cl_Curve T.no_Curve__pieces)),
    fun _ _ _ h => h.2⟩
theorem ok_is_rational (T : Tx K mg q) : FnOk P w K mg base CX0 3 q.f_is_rational q.d_is_rational ["value"] (SpZ K (CIof q) (W_is_rational K (CIof q))) :=
  fnz_ok T.F_is_rational sc_is_rational (fun _ _ _ h => h.1) fun cdv A outer s H E hr => ⟨z_is_rational K (CIof q),
    szs_one (sz_ret (ez_or (ez_calln (ok_is_int T) (hr.mono (by decide)) T.m_is_int T.F_is_int.kp T.b_is_int (az_cons (ez_var 0) (az_nil))) (ez_one (ez_calln (ok_is_fraction T) (hr.mono (by decide)) T.m_is_fraction T.F_is_fraction.kp T.b_is_fraction (az_cons (ez_var 0) (az_nil)))))),
    fun _ _ _ h => h.2⟩
theorem ok_as_fraction (T : Tx K mg q) : FnOk P w K mg base CX0 1 q.f_as_fraction q.d_as_fraction ["value"] (SpZ K (CIof q) (W_as_fraction K (CIof q))) :=
  fnz_ok T.F_as_fraction sc_as_fraction (fun _ _ _ h => h.1) fun cdv A outer s H E hr => ⟨z_as_fraction K (CIof q),
    szs_one (sz_ret (ez_if (tz_val (ez_callB cz_isi T.n_isinstance (by decide +kernel) (az_cons (ez_var 0) (az_cons (ez_ty T.n_tuple PyProof.Rows.boot_tuple) (az_nil))))) (ez_var 0) (ez_tup (az_cons (ez_var 0) (az_cons (ez_int) (az_nil)))))),
    fun _ _ _ h => h.2⟩
theorem ok_last_up_to (T : Tx K mg q) : FnOk P w K mg base CX0 2 q.f_last_up_to q.d_last_up_to ["starts", "value"] (SpZ K (CIof q) (W_last_up_to K (CIof q))) :=
  fnz_ok T.F_last_up_to sc_last_up_to (fun _ _ _ h => h.1) fun cdv A outer s H E hr => ⟨z_last_up_to K (CIof q),
    szs_cons (sz_par (i := 2) (j := 3) sc_last_up_to.nd rfl rfl (by decide) rfl rfl (az_cons (ez_int) (az_cons (ez_callB cz_len T.n_len (by decide +kernel) (az_cons (ez_var 0) (az_nil))) (az_nil))))
    (szs_cons (sz_while (tz_cmp oz_gt (ez_op oz_sub (ez_var 3) (ez_var 2)) (ez_int)) (szs_cons (sz_set (i := 4) sc_last_up_to.nd (ez_op oz_fdiv (ez_op oz_add (ez_var 2) (ez_var 3)) (ez_int)))
    (szs_one (sz_if (tz_cmp oz_le (ez_calln (ok_order T) (hr.mono (by decide)) T.m_order T.F_order.kp T.b_order (az_cons (ez_ix (ez_var 0) (ez_var 4)) (az_cons (ez_var 1) (az_nil)))) (ez_int)) (szs_one (sz_set (i := 2) sc_last_up_to.nd (ez_var 4))) (szs_one (sz_set (i := 3) sc_last_up_to.nd (ez_var 4)))))))
    (szs_one (sz_ret (ez_var 2)))),
    fun _ _ _ h => h.2⟩
theorem ok_plus (T : Tx K mg q) : FnOk P w K mg base CX0 2 q.f_plus q.d_plus ["one", "two"] (SpZ K (CIof q) (W_plus K (CIof q))) :=
  fnz_ok T.F_plus sc_plus (fun _ _ _ h => h.1) fun cdv A outer s H E hr => ⟨z_plus K (CIof q),
    szs_one (sz_ret (ez_calln (ok_lowest T) (hr.mono (by decide)) T.m_lowest T.F_lowest.kp T.b_lowest (az_cons (ez_op oz_add (ez_op oz_mul (ez_ix (ez_var 0) (ez_int)) (ez_ix (ez_var 1) (ez_int))) (ez_op oz_mul (ez_ix (ez_var 1) (ez_int)) (ez_ix (ez_var 0) (ez_int)))) (az_cons (ez_op oz_mul (ez_ix (ez_var 0) (ez_int)) (ez_ix (ez_var 1) (ez_int))) (az_nil))))),
    fun _ _ _ h => h.2⟩
theorem ok_widths_inside (T : Tx K mg q) : FnOk P w K mg base CX0 3 q.f_widths_inside q.d_widths_inside ["pieces", "values"] (SpZ K (CIof q) (W_widths_inside K (CIof q))) :=
  fnz_ok T.F_widths_inside sc_widths_inside (fun _ _ _ h => h.1) fun cdv A outer s H E hr => ⟨z_widths_inside K (CIof q),
    szs_cons (sz_setLc (i := 2) (own := [("piece", 8)]) sc_widths_inside.nd rfl rfl (sw_true rfl rfl rfl (by decide +kernel)) (iz_list (ez_var 0)) (blkOk_by (N := N_widths_inside) (sc := defScope s_widths_inside) (by decide +kernel)) (own_name (i := 8) (by decide)) (blkz (ref_gName) (fun _ _ _ _ _ => pg_name (i := 8) sc_widths_inside.nd rfl (by first | exact Or.inl rfl | exact Or.inr rfl) (by first | exact Or.inl rfl | exact Or.inr rfl)) (fun _ _ _ _ _ => tsz_nil) (fun _ _ _ _ _ => ez_ix (ez_var 8) (ez_int))))
    (szs_cons (sz_set (i := 3) sc_widths_inside.nd (ez_lstC (az_nil)))
    (szs_cons (sz_for (iz_list (ez_var 1)) (gz_name (i := 4) sc_widths_inside.nd rfl) (szs_cons (sz_asg (ez_ix (ez_var 0) (ez_calln (ok_last_up_to T) (hr.mono (by decide)) T.m_last_up_to T.F_last_up_to.kp T.b_last_up_to (az_cons (ez_var 2) (az_cons (ez_var 4) (az_nil))))) (gz_tup (gsz_cons (gz_name (i := 5) sc_widths_inside.nd rfl) (gsz_cons (gz_name (i := 6) sc_widths_inside.nd rfl) (gsz_cons (gz_name (i := 7) sc_widths_inside.nd rfl) (gsz_nil))))))
    (szs_one (sz_if ((wz_and (tz_cmp (oz_neK hr.units) (ez_var 7) (ez_ktup T.c_ZERO)) (wz_and1 (tz_cmp oz_lt (ez_calln (ok_order T) (hr.mono (by decide)) T.m_order T.F_order.kp T.b_order (az_cons (ez_var 6) (az_cons (ez_var 4) (az_nil)))) (ez_int)))).tz) (szs_one (sz_expr (ez_append (ez_var 3) (az_cons (ez_calln (ok_plus T) (hr.mono (by decide)) T.m_plus T.F_plus.kp T.b_plus (az_cons (ez_var 5) (az_cons (ez_calln (ok_over T) (hr.mono (by decide)) T.m_over T.F_over.kp T.b_over (az_cons (ez_calln (ok_minus T) (hr.mono (by decide)) T.m_minus T.F_minus.kp T.b_minus (az_cons (ez_var 4) (az_cons (ez_var 6) (az_nil)))) (az_cons (ez_var 7) (az_nil)))) (az_nil)))) (az_nil))))) (szs_nil)))))
    (szs_one (sz_ret (ez_var 3))))),
    fun _ _ _ h => h.2⟩
theorem ok_widths_with_value (T : Tx K mg q) : FnOk P w K mg base CX0 4 q.f_widths_with_value q.d_widths_with_value ["pieces", "value"] (SpZ K (CIof q) (W_widths_with_value K (CIof q))) :=
  fnz_ok T.F_widths_with_value sc_widths_with_value (fun _ _ _ h => h.1) fun cdv A outer s H E hr => ⟨z_widths_with_value K (CIof q),
    szs_cons (sz_set (i := 2) sc_widths_with_value.nd (ez_calln (ok_last_up_to T) (hr.mono (by decide)) T.m_last_up_to T.F_last_up_to.kp T.b_last_up_to (az_cons (ez_lc (own := [("piece", 9)]) sc_widths_with_value.nd (iz_list (ez_var 0)) (blkOk_by (N := N_widths_with_value) (sc := defScope s_widths_with_value) (by decide +kernel)) (own_name (i := 9) (by decide)) (blkz (ref_gName) (fun _ _ _ _ _ => pg_name (i := 9) sc_widths_with_value.nd rfl (by first | exact Or.inl rfl | exact Or.inr rfl) (by first | exact Or.inl rfl | exact Or.inr rfl)) (fun _ _ _ _ _ => tsz_nil) (fun _ _ _ _ _ => ez_ix (ez_var 9) (ez_int)))) (az_cons (ez_var 1) (az_nil)))))
    (szs_cons (sz_asg (ez_ix (ez_var 0) (ez_var 2)) (gz_tup (gsz_cons (gz_name (i := 3) sc_widths_with_value.nd rfl) (gsz_cons (gz_name (i := 4) sc_widths_with_value.nd rfl) (gsz_cons (gz_name (i := 5) sc_widths_with_value.nd rfl) (gsz_nil))))))
    (szs_cons (sz_if (tz_cmp (oz_neD hr.units) (ez_var 4) (ez_var 1)) (szs_cons (sz_set (i := 6) sc_widths_with_value.nd (ez_calln (fn_frzX (ok_widths_inside T)) (hr.mono (by decide)) T.m_widths_inside T.F_widths_inside.kp T.b_widths_inside (az_cons (ez_var 0) (az_cons (ez_lst (az_cons (ez_var 1) (az_nil))) (az_nil)))))
    (szs_one (sz_ret (ez_if (tz_tru (ez_var 6)) (ez_tup (az_cons (ez_ix (ez_var 6) (ez_int)) (az_cons (ez_ix (ez_var 6) (ez_int)) (az_nil)))) (ez_non))))) (szs_nil))
    (szs_cons (sz_set (i := 7) sc_widths_with_value.nd (ez_and (ez_cmp oz_gt (ez_var 2) (ez_int)) (ez_one (ez_cmp (oz_eqD hr.units) (ez_ix (ez_ix (ez_var 0) (ez_op oz_sub (ez_var 2) (ez_int))) (ez_int)) (ez_var 1)))))
    (szs_cons (sz_set (i := 8) sc_widths_with_value.nd (ez_if (tz_val (ez_var 7)) (ez_ix (ez_ix (ez_var 0) (ez_op oz_sub (ez_var 2) (ez_int))) (ez_int)) (ez_var 3)))
    (szs_one (sz_ret (ez_tup (az_cons (ez_var 8) (az_cons (ez_if (tz_cmp (oz_eqK hr.units) (ez_var 5) (ez_ktup T.c_ZERO)) (ez_non) (ez_var 3)) (az_nil)))))))))),
    fun _ _ _ h => h.2⟩
theorem ok_Curve_widths_of (T : Tx K mg q) : FnOk P w K mg base CX0 5 q.f_Curve_widths_of q.d_Curve_widths_of ["self", "value"] (SpZ K (CIof q) (W_Curve_widths_of K (CIof q))) :=
  fnz_ok T.F_Curve_widths_of sc_Curve_widths_of (fun _ _ _ h => h.1) fun cdv A outer s H E hr => ⟨z_Curve_widths_of K (CIof q),
    szs_cons (sz_if ((wz_or (tz_not (tz_val (ez_calln (ok_is_rational T) (hr.mono (by decide)) T.m_is_rational T.F_is_rational.kp T.b_is_rational (az_cons (ez_var 1) (az_nil))))) (wz_or1 (tz_cmp oz_lt (ez_ix (ez_calln (ok_as_fraction T) (hr.mono (by decide)) T.m_as_fraction T.F_as_fraction.kp T.b_as_fraction (az_cons (ez_var 1) (az_nil))) (ez_int)) (ez_int)))).tz) (szs_one (sz_never)) (szs_nil))
    (szs_one (sz_ret (ez_calln (ok_widths_with_value T) (hr.mono (by decide)) T.m_widths_with_value T.F_widths_with_value.kp T.b_widths_with_value (az_cons (ez_fld (c := 0) (ez_var 0) T.cl_Curve T.no_Curve__pieces) (az_cons (ez_calln (ok_as_fraction T) (hr.mono (by decide)) T.m_as_fraction T.F_as_fraction.kp T.b_as_fraction (az_cons (ez_var 1) (az_nil))) (az_nil)))))),
    fun _ _ _ h => h.2⟩
theorem ok__law_less (T : Tx K mg q) : FnOk P w K mg base CX0 2 q.f__law_less q.d__law_less ["one", "two"] (SpZ K (CIof q) (W__law_less K (CIof q))) :=
  fnz_ok T.F__law_less sc__law_less (fun _ _ _ h => h.1) fun cdv A outer s H E hr => ⟨z__law_less K (CIof q),
    szs_one (sz_ret (ez_calln (ok__law_cut T) (hr.mono (by decide)) T.m__law_cut T.F__law_cut.kp T.b__law_cut (az_cons (ez_op oz_sub (ez_op oz_mul (ez_ix (ez_var 0) (ez_int)) (ez_ix (ez_var 1) (ez_int))) (ez_op oz_mul (ez_ix (ez_var 1) (ez_int)) (ez_ix (ez_var 0) (ez_int)))) (az_cons (ez_op oz_mul (ez_ix (ez_var 0) (ez_int)) (ez_ix (ez_var 1) (ez_int))) (az_nil))))),
    fun _ _ _ h => h.2⟩
theorem ok__law_widths_with (T : Tx K mg q) : FnOk P w K mg base CX0 3 q.f__law_widths_with q.d__law_widths_with ["points_here", "rises", "value"] (SpZ K (CIof q) (W__law_widths_with K (CIof q))) :=
  fnz_ok T.F__law_widths_with sc__law_widths_with (fun _ _ _ h => h.1) fun cdv A outer s H E hr => ⟨z__law_widths_with K (CIof q),
    szs_cons (sz_par (i := 3) (j := 4) sc__law_widths_with.nd rfl rfl (by decide) rfl rfl (az_cons (ez_lstC (az_nil)) (az_cons (ez_lstC (az_nil)) (az_nil))))
    (szs_cons (sz_for (iz_enum (az_cons (ez_var 0) (az_nil)) T.n_enumerate) (gz_tup (gsz_cons (gz_name (i := 5) sc__law_widths_with.nd rfl) (gsz_cons (gz_tup (gsz_cons (gz_name (i := 6) sc__law_widths_with.nd rfl) (gsz_cons (gz_name (i := 7) sc__law_widths_with.nd rfl) (gsz_nil)))) (gsz_nil)))) (szs_cons (sz_set (i := 8) sc__law_widths_with.nd (ez_if (tz_cmp oz_lt (ez_op oz_add (ez_var 5) (ez_int)) (ez_callB cz_len T.n_len (by decide +kernel) (az_cons (ez_var 0) (az_nil)))) (ez_ix (ez_var 0) (ez_op oz_add (ez_var 5) (ez_int))) (ez_non)))
    (szs_cons (sz_set (i := 9) sc__law_widths_with.nd (ez_calln (ok__law_less T) (hr.mono (by decide)) T.m__law_less T.F__law_less.kp T.b__law_less (az_cons (ez_var 2) (az_cons (ez_var 7) (az_nil)))))
    (szs_cons (sz_if (tz_cmp (oz_eqD hr.units) (ez_var 9) (ez_tup (az_cons (ez_int) (az_cons (ez_int) (az_nil))))) (szs_cons (sz_expr (ez_append (ez_var 3) (az_cons (ez_var 6) (az_nil))))
    (szs_one (sz_expr (ez_append (ez_var 4) (az_cons (ez_var 6) (az_nil)))))) (szs_nil))
    (szs_cons (sz_if ((wz_and (tz_cmp oz_gt (ez_ix (ez_ix (ez_var 1) (ez_var 5)) (ez_int)) (ez_int)) (wz_and1 (tz_cmp oz_gt (ez_ix (ez_var 9) (ez_int)) (ez_int)))).tz) (szs_cons (sz_set (i := 10) sc__law_widths_with.nd (ez_calln (ok__law_plus T) (hr.mono (by decide)) T.m__law_plus T.F__law_plus.kp T.b__law_plus (az_cons (ez_var 6) (az_cons (ez_calln (ok__law_cut T) (hr.mono (by decide)) T.m__law_cut T.F__law_cut.kp T.b__law_cut (az_cons (ez_op oz_mul (ez_ix (ez_var 9) (ez_int)) (ez_ix (ez_ix (ez_var 1) (ez_var 5)) (ez_int))) (az_cons (ez_op oz_mul (ez_ix (ez_var 9) (ez_int)) (ez_ix (ez_ix (ez_var 1) (ez_var 5)) (ez_int))) (az_nil)))) (az_nil)))))
    (szs_one (sz_if ((wz_or (tz_cmp oz_isN (ez_var 8) (ez_non)) (wz_or1 (tz_cmp oz_gt (ez_ix (ez_calln (ok__law_less T) (hr.mono (by decide)) T.m__law_less T.F__law_less.kp T.b__law_less (az_cons (ez_ix (ez_var 8) (ez_int)) (az_cons (ez_var 10) (az_nil)))) (ez_int)) (ez_int)))).tz) (szs_cons (sz_expr (ez_append (ez_var 3) (az_cons (ez_var 10) (az_nil))))
    (szs_one (sz_expr (ez_append (ez_var 4) (az_cons (ez_var 10) (az_nil)))))) (szs_nil)))) (szs_nil))
    (szs_one (sz_if ((wz_and (tz_cmp (oz_eqD hr.units) (ez_ix (ez_ix (ez_var 1) (ez_var 5)) (ez_int)) (ez_int)) (wz_and (tz_cmp (oz_eqD hr.units) (ez_var 9) (ez_tup (az_cons (ez_int) (az_cons (ez_int) (az_nil))))) (wz_and1 (tz_cmp oz_isN (ez_var 8) (ez_non))))).tz) (szs_one (sz_expr (ez_append (ez_var 4) (az_cons (ez_non) (az_nil))))) (szs_nil))))))))
    (szs_cons (sz_if (tz_cmp (oz_eqD hr.units) (ez_var 3) (ez_lst (az_nil))) (szs_one (sz_ret (ez_non))) (szs_nil))
    (szs_one (sz_ret (ez_tup (az_cons (ez_ix (ez_var 3) (ez_int)) (az_cons (ez_if (tz_cmp (oz_inQ hr) (ez_non) (ez_var 4)) (ez_non) (ez_ix (ez_var 4) (ez_neg (ez_int)))) (az_nil)))))))),
    fun _ _ _ h => h.2⟩
theorem ok__law_long_right (T : Tx K mg q) : FnOk P w K mg base CX0 8 q.f__law_long_right q.d__law_long_right ["spring"] (SpZ K (CIof q) (W__law_long_right K (CIof q))) :=
  fnz_ok T.F__law_long_right sc__law_long_right (fun _ _ _ h => h.1) fun cdv A outer s H E hr => ⟨z__law_long_right K (CIof q),
    szs_cons (sz_asg (ez_calln (fn_frzX (ok__law_long T)) (hr.mono (by decide)) T.m__law_long T.F__law_long.kp T.b__law_long (az_cons (ez_var 0) (az_cons (ez_int) (az_cons (ez_op oz_add (ez_int) (ez_calln (ok__law_dip_r2 T) (hr.mono (by decide)) T.m__law_dip_r2 T.F__law_dip_r2.kp T.b__law_dip_r2 (az_cons (ez_var 0) (az_cons (ez_int) (az_nil))))) (az_nil))))) (gz_tup (gsz_cons (gz_name (i := 1) sc__law_long_right.nd rfl) (gsz_cons (gz_name (i := 2) sc__law_long_right.nd rfl) (gsz_nil)))))
    (szs_cons (sz_set (i := 3) sc__law_long_right.nd (ez_makeX (c := 0) T.mk_Curve (ok_Curve_d_init_d T) (hr.mono (by decide)) T.m_Curve T.b_Curve_d_init_d .nil (fun _ _ _ => .nil) (az_cons (ez_var 1) (az_cons (ez_ix (ez_var 2) (ez_neg (ez_int))) (az_nil)))))
    (szs_cons (sz_for (iz_r1 (az_cons (ez_int) (az_nil)) T.n_range) (gz_name (i := 4) sc__law_long_right.nd rfl) (szs_cons (sz_set (i := 5) sc__law_long_right.nd (ez_ix (ez_lst (az_cons (ez_op oz_sub (ez_int) (ez_calln (ok__law_dip_r2 T) (hr.mono (by decide)) T.m__law_dip_r2 T.F__law_dip_r2.kp T.b__law_dip_r2 (az_cons (ez_var 0) (az_cons (ez_int) (az_nil))))) (az_cons (ez_calln (ok__law_dip_r2 T) (hr.mono (by decide)) T.m__law_dip_r2 T.F__law_dip_r2.kp T.b__law_dip_r2 (az_cons (ez_var 0) (az_cons (ez_int) (az_nil)))) (az_nil)))) (ez_op oz_mod (ez_var 4) (ez_int))))
    (szs_cons (sz_set (i := 6) sc__law_long_right.nd (ez_ix (ez_ix (ez_var 1) (ez_var 5)) (ez_int)))
    (szs_one (sz_for (iz_list (ez_lst (az_cons (ez_var 6) (az_cons (ez_calln (ok__law_plus T) (hr.mono (by decide)) T.m__law_plus T.F__law_plus.kp T.b__law_plus (az_cons (ez_var 6) (az_cons (ez_tup (az_cons (ez_int) (az_cons (ez_int) (az_nil)))) (az_nil)))) (az_nil))))) (gz_name (i := 7) sc__law_long_right.nd rfl) (szs_one (sz_if (tz_cmp (oz_neD hr.units) (ez_meth (c := 0) (ez_var 3) T.cl_Curve T.me_Curve_widths_of (ok_Curve_widths_of T) (hr.mono (by decide)) T.b_Curve_widths_of (az_cons (ez_var 7) (az_nil))) (ez_calln (fn_frzX (ok__law_widths_with T)) (hr.mono (by decide)) T.m__law_widths_with T.F__law_widths_with.kp T.b__law_widths_with (az_cons (ez_var 1) (az_cons (ez_var 2) (az_cons (ez_var 7) (az_nil)))))) (szs_one (sz_ret (ez_bl))) (szs_nil))))))))
    (szs_one (sz_ret (ez_bl))))),
    fun _ _ _ h => h.2⟩
theorem ok__law_spring (T : Tx K mg q) : FnOk P w K mg base CX0 1 q.f__law_spring q.d__law_spring ["script", "k"] (SpZ K (CIof q) (W__law_spring K (CIof q))) :=
  fnz_ok T.F__law_spring sc__law_spring (fun _ _ _ h => h.1) fun cdv A outer s H E hr => ⟨z__law_spring K (CIof q),
    szs_cons (sz_set (i := 2) sc__law_spring.nd (ez_int))
    (szs_cons (sz_if (tz_cmp oz_lt (ez_var 1) (ez_callB cz_len T.n_len (by decide +kernel) (az_cons (ez_var 0) (az_nil)))) (szs_one (sz_set (i := 2) sc__law_spring.nd (ez_ix (ez_var 0) (ez_var 1)))) (szs_nil))
    (szs_one (sz_ret (ez_lstC (az_cons (ez_callB (cz_max2 rfl) T.n_max (by decide +kernel) (az_cons (ez_int) (az_cons (ez_op oz_sub (ez_var 2) (ez_op oz_pow (ez_int) (ez_int))) (az_nil)))) (az_cons (ez_op oz_add (ez_op oz_mod (ez_var 2) (ez_op oz_add (ez_op oz_pow (ez_int) (ez_int)) (ez_int))) (ez_op oz_mul (ez_int) (ez_var 1))) (az_cons (ez_int) (az_nil)))))))),
    fun _ _ _ h => h.2⟩
theorem ok__law_rise (T : Tx K mg q) : FnOk P w K mg base CX0 4 q.f__law_rise q.d__law_rise ["spring"] (SpZ K (CIof q) (W__law_rise K (CIof q))) :=
  fnz_ok T.F__law_rise sc__law_rise (fun _ _ _ h => h.1) fun cdv A outer s H E hr => ⟨z__law_rise K (CIof q),
    szs_cons (sz_set (i := 1) sc__law_rise.nd (ez_lst (az_cons (ez_calln (ok__law_cut T) (hr.mono (by decide)) T.m__law_cut T.F__law_cut.kp T.b__law_cut (az_cons (ez_calln (ok__law_dip_r2 T) (hr.mono (by decide)) T.m__law_dip_r2 T.F__law_dip_r2.kp T.b__law_dip_r2 (az_cons (ez_var 0) (az_cons (ez_int) (az_nil)))) (az_cons (ez_op oz_add (ez_int) (ez_calln (ok__law_dip_r2 T) (hr.mono (by decide)) T.m__law_dip_r2 T.F__law_dip_r2.kp T.b__law_dip_r2 (az_cons (ez_var 0) (az_cons (ez_int) (az_nil))))) (az_nil)))) (az_cons (ez_calln (ok__law_cut T) (hr.mono (by decide)) T.m__law_cut T.F__law_cut.kp T.b__law_cut (az_cons (ez_calln (ok__law_dip_r2 T) (hr.mono (by decide)) T.m__law_dip_r2 T.F__law_dip_r2.kp T.b__law_dip_r2 (az_cons (ez_var 0) (az_cons (ez_op oz_pow (ez_int) (ez_int)) (az_nil)))) (az_cons (ez_op oz_pow (ez_int) (ez_int)) (az_nil)))) (az_nil)))))
    (szs_one (sz_ret (ez_ix (ez_op oz_cat (ez_lst (az_cons (ez_tup (az_cons (ez_int) (az_cons (ez_int) (az_nil)))) (az_cons (ez_tup (az_cons (ez_int) (az_cons (ez_int) (az_nil)))) (az_nil)))) (ez_var 1)) (ez_calln (ok__law_dip_r2 T) (hr.mono (by decide)) T.m__law_dip_r2 T.F__law_dip_r2.kp T.b__law_dip_r2 (az_cons (ez_var 0) (az_cons (ez_int) (az_nil))))))),
    fun _ _ _ h => h.2⟩
theorem ok__law_drawn (T : Tx K mg q) : FnOk P w K mg base CX0 5 q.f__law_drawn q.d__law_drawn ["spring", "many", "wide"] (SpZ K (CIof q) (W__law_drawn K (CIof q))) :=
  fnz_ok T.F__law_drawn sc__law_drawn (fun _ _ _ h => h.1) fun cdv A outer s H E hr => ⟨z__law_drawn K (CIof q),
    szs_cons (sz_par (i := 3) (j := 4) sc__law_drawn.nd rfl rfl (by decide) rfl rfl (az_cons (ez_lstC (az_cons (ez_tup (az_cons (ez_tup (az_cons (ez_int) (az_cons (ez_int) (az_nil)))) (az_cons (ez_calln (ok__law_cut T) (hr.mono (by decide)) T.m__law_cut T.F__law_cut.kp T.b__law_cut (az_cons (ez_calln (ok__law_dip_r2 T) (hr.mono (by decide)) T.m__law_dip_r2 T.F__law_dip_r2.kp T.b__law_dip_r2 (az_cons (ez_var 0) (az_cons (ez_var 2) (az_nil)))) (az_cons (ez_op oz_add (ez_int) (ez_calln (ok__law_dip_r2 T) (hr.mono (by decide)) T.m__law_dip_r2 T.F__law_dip_r2.kp T.b__law_dip_r2 (az_cons (ez_var 0) (az_cons (ez_int) (az_nil))))) (az_nil)))) (az_nil)))) (az_nil))) (az_cons (ez_lstC (az_nil)) (az_nil))))
    (szs_cons (sz_for (iz_r1 (az_cons (ez_var 1) (az_nil)) T.n_range) (gz_name (i := 5) sc__law_drawn.nd rfl) (szs_cons (sz_set (i := 6) sc__law_drawn.nd (ez_calln (ok__law_rise T) (hr.mono (by decide)) T.m__law_rise T.F__law_rise.kp T.b__law_rise (az_cons (ez_var 0) (az_nil))))
    (szs_cons (sz_if ((wz_and (tz_cmp (oz_neD hr.units) (ez_var 4) (ez_lst (az_nil))) (wz_and1 (tz_cmp (oz_eqD hr.units) (ez_calln (ok__law_dip_r2 T) (hr.mono (by decide)) T.m__law_dip_r2 T.F__law_dip_r2.kp T.b__law_dip_r2 (az_cons (ez_var 0) (az_cons (ez_int) (az_nil)))) (ez_int)))).tz) (szs_one (sz_set (i := 6) sc__law_drawn.nd (ez_ix (ez_var 4) (ez_neg (ez_int))))) (szs_nil))
    (szs_cons (sz_set (i := 7) sc__law_drawn.nd (ez_calln (ok__law_cut T) (hr.mono (by decide)) T.m__law_cut T.F__law_cut.kp T.b__law_cut (az_cons (ez_op oz_add (ez_int) (ez_calln (ok__law_dip_r2 T) (hr.mono (by decide)) T.m__law_dip_r2 T.F__law_dip_r2.kp T.b__law_dip_r2 (az_cons (ez_var 0) (az_cons (ez_var 2) (az_nil))))) (az_cons (ez_op oz_add (ez_int) (ez_calln (ok__law_dip_r2 T) (hr.mono (by decide)) T.m__law_dip_r2 T.F__law_dip_r2.kp T.b__law_dip_r2 (az_cons (ez_var 0) (az_cons (ez_int) (az_nil))))) (az_nil)))))
    (szs_cons (sz_expr (ez_append (ez_var 4) (az_cons (ez_var 6) (az_nil))))
    (szs_one (sz_expr (ez_append (ez_var 3) (az_cons (ez_tup (az_cons (ez_calln (ok__law_plus T) (hr.mono (by decide)) T.m__law_plus T.F__law_plus.kp T.b__law_plus (az_cons (ez_ix (ez_ix (ez_var 3) (ez_neg (ez_int))) (ez_int)) (az_cons (ez_var 7) (az_nil)))) (az_cons (ez_calln (ok__law_plus T) (hr.mono (by decide)) T.m__law_plus T.F__law_plus.kp T.b__law_plus (az_cons (ez_ix (ez_ix (ez_var 3) (ez_neg (ez_int))) (ez_int)) (az_cons (ez_calln (ok__law_product T) (hr.mono (by decide)) T.m__law_product T.F__law_product.kp T.b__law_product (az_cons (ez_var 6) (az_cons (ez_var 7) (az_nil)))) (az_nil)))) (az_nil)))) (az_nil))))))))))
    (szs_cons (sz_expr (ez_append (ez_var 4) (az_cons (ez_calln (ok__law_rise T) (hr.mono (by decide)) T.m__law_rise T.F__law_rise.kp T.b__law_rise (az_cons (ez_var 0) (az_nil))) (az_nil))))
    (szs_one (sz_ret (ez_tup (az_cons (ez_var 3) (az_cons (ez_var 4) (az_nil)))))))),
    fun _ _ _ h => h.2⟩
theorem ok_check_width (T : Tx K mg q) : FnOk P w K mg base CX0 4 q.f_check_width q.d_check_width ["width"] (SpZ K (CIof q) (W_check_width K (CIof q))) :=
  fnz_ok T.F_check_width sc_check_width (fun _ _ _ h => h.1) fun cdv A outer s H E hr => ⟨z_check_width K (CIof q),
    szs_one (sz_if ((wz_or (tz_not (tz_val (ez_calln (ok_is_rational T) (hr.mono (by decide)) T.m_is_rational T.F_is_rational.kp T.b_is_rational (az_cons (ez_var 0) (az_nil))))) (wz_or1 (tz_cmp oz_lt (ez_ix (ez_calln (ok_as_fraction T) (hr.mono (by decide)) T.m_as_fraction T.F_as_fraction.kp T.b_as_fraction (az_cons (ez_var 0) (az_nil))) (ez_int)) (ez_int)))).tz) (szs_one (sz_never)) (szs_nil)),
    fun _ _ _ h => h.2⟩
theorem ok_times (T : Tx K mg q) : FnOk P w K mg base CX0 2 q.f_times q.d_times ["one", "two"] (SpZ K (CIof q) (W_times K (CIof q))) :=
  fnz_ok T.F_times sc_times (fun _ _ _ h => h.1) fun cdv A outer s H E hr => ⟨z_times K (CIof q),
    szs_one (sz_ret (ez_calln (ok_lowest T) (hr.mono (by decide)) T.m_lowest T.F_lowest.kp T.b_lowest (az_cons (ez_op oz_mul (ez_ix (ez_var 0) (ez_int)) (ez_ix (ez_var 1) (ez_int))) (az_cons (ez_op oz_mul (ez_ix (ez_var 0) (ez_int)) (ez_ix (ez_var 1) (ez_int))) (az_nil))))),
    fun _ _ _ h => h.2⟩
theorem ok_value_on (T : Tx K mg q) : FnOk P w K mg base CX0 3 q.f_value_on q.d_value_on ["piece", "width"] (SpZ K (CIof q) (W_value_on K (CIof q))) :=
  fnz_ok T.F_value_on sc_value_on (fun _ _ _ h => h.1) fun cdv A outer s H E hr => ⟨z_value_on K (CIof q),
    szs_one (sz_ret (ez_calln (ok_plus T) (hr.mono (by decide)) T.m_plus T.F_plus.kp T.b_plus (az_cons (ez_ix (ez_var 0) (ez_int)) (az_cons (ez_calln (ok_times T) (hr.mono (by decide)) T.m_times T.F_times.kp T.b_times (az_cons (ez_ix (ez_var 0) (ez_int)) (az_cons (ez_calln (ok_minus T) (hr.mono (by decide)) T.m_minus T.F_minus.kp T.b_minus (az_cons (ez_var 1) (az_cons (ez_ix (ez_var 0) (ez_int)) (az_nil)))) (az_nil)))) (az_nil))))),
    fun _ _ _ h => h.2⟩
theorem ok_pieces_at (T : Tx K mg q) : FnOk P w K mg base CX0 3 q.f_pieces_at q.d_pieces_at ["pieces", "widths"] (SpZ K (CIof q) (W_pieces_at K (CIof q))) :=
  fnz_ok T.F_pieces_at sc_pieces_at (fun _ _ _ h => h.1) fun cdv A outer s H E hr => ⟨z_pieces_at K (CIof q),
    szs_cons ((by first | exact sz_setLc (i := 2) (own := [("piece", 3)]) sc_pieces_at.nd rfl rfl (sw_true rfl rfl rfl (by decide +kernel)) (iz_list (ez_var 0)) (blkOk_by (N := N_pieces_at) (sc := defScope s_pieces_at) (by decide +kernel)) (own_name (i := 3) (by decide)) (blkz (ref_gName) (fun _ _ _ _ _ => pg_name (i := 3) sc_pieces_at.nd rfl (by first | exact Or.inl rfl | exact Or.inr rfl) (by first | exact Or.inl rfl | exact Or.inr rfl)) (fun _ _ _ _ _ => tsz_nil) (fun _ _ _ _ _ => ez_ix (ez_var 3) (ez_int))) | exact sz_set (i := 2) sc_pieces_at.nd (ez_lc (own := [("piece", 3)]) sc_pieces_at.nd (iz_list (ez_var 0)) (blkOk_by (N := N_pieces_at) (sc := defScope s_pieces_at) (by decide +kernel)) (own_name (i := 3) (by decide)) (blkz (ref_gName) (fun _ _ _ _ _ => pg_name (i := 3) sc_pieces_at.nd rfl (by first | exact Or.inl rfl | exact Or.inr rfl) (by first | exact Or.inl rfl | exact Or.inr rfl)) (fun _ _ _ _ _ => tsz_nil) (fun _ _ _ _ _ => ez_ix (ez_var 3) (ez_int))))))
    (szs_one (sz_ret (ez_lc (own := [("width", 4)]) sc_pieces_at.nd (iz_list (ez_var 1)) (blkOk_by (N := N_pieces_at) (sc := defScope s_pieces_at) (by decide +kernel)) (own_name (i := 4) (by decide)) (blkz (ref_gName) (fun _ _ _ _ _ => pg_name (i := 4) sc_pieces_at.nd rfl (by first | exact Or.inl rfl | exact Or.inr rfl) (by first | exact Or.inl rfl | exact Or.inr rfl)) (fun _ _ _ _ _ => tsz_nil) (fun _ _ _ _ _ => ez_ix (ez_var 0) (ez_calln (ok_last_up_to T) (hr.mono (by decide)) T.m_last_up_to T.F_last_up_to.kp T.b_last_up_to (az_cons (ez_var 2) (az_cons (ez_var 4) (az_nil))))))))),
    fun _ _ _ h => h.2⟩
theorem ok_values_at (T : Tx K mg q) : FnOk P w K mg base CX0 4 q.f_values_at q.d_values_at ["pieces", "widths"] (SpZ K (CIof q) (W_values_at K (CIof q))) :=
  fnz_ok T.F_values_at sc_values_at (fun _ _ _ h => h.1) fun cdv A outer s H E hr => ⟨z_values_at K (CIof q),
    szs_one (sz_ret (ez_lc (own := [("piece", 2), ("width", 3)]) sc_values_at.nd (iz_zip (az_cons (ez_calln (ok_pieces_at T) (hr.mono (by decide)) T.m_pieces_at T.F_pieces_at.kp T.b_pieces_at (az_cons (ez_var 0) (az_cons (ez_var 1) (az_nil)))) (az_cons (ez_var 1) (az_nil))) T.n_zip) (blkOk_by (N := N_values_at) (sc := defScope s_values_at) (by decide +kernel)) (own_tup (owns_cons (i := 2) (by decide) (owns_cons (i := 3) (by decide) (owns_nil)))) (blkz (ref_gTup (ref_gCons ref_gName (ref_gCons ref_gName (ref_gNil)))) (fun _ _ _ _ _ => pg_tup rfl (pgs_cons (pg_name (i := 2) sc_values_at.nd rfl (by first | exact Or.inl rfl | exact Or.inr rfl) (by first | exact Or.inl rfl | exact Or.inr rfl)) (pgs_cons (pg_name (i := 3) sc_values_at.nd rfl (by first | exact Or.inl rfl | exact Or.inr rfl) (by first | exact Or.inl rfl | exact Or.inr rfl)) (pgs_nil)))) (fun _ _ _ _ _ => tsz_nil) (fun _ _ _ _ _ => ez_calln (ok_value_on T) (hr.mono (by decide)) T.m_value_on T.F_value_on.kp T.b_value_on (az_cons (ez_var 2) (az_cons (ez_var 3) (az_nil))))))),
    fun _ _ _ h => h.2⟩
theorem ok_Curve_d_call_d (T : Tx K mg q) : FnOk P w K mg base CX0 5 q.f_Curve_d_call_d q.d_Curve_d_call_d ["self", "width"] (SpZ K (CIof q) (W_Curve_d_call_d K (CIof q))) :=
  fnz_ok T.F_Curve_d_call_d sc_Curve_d_call_d (fun _ _ _ h => h.1) fun cdv A outer s H E hr => ⟨z_Curve_d_call_d K (CIof q),
    szs_cons (sz_expr (ez_calln (ok_check_width T) (hr.mono (by decide)) T.m_check_width T.F_check_width.kp T.b_check_width (az_cons (ez_var 1) (az_nil))))
    (szs_one (sz_ret (ez_ix (ez_calln (ok_values_at T) (hr.mono (by decide)) T.m_values_at T.F_values_at.kp T.b_values_at (az_cons (ez_fld (c := 0) (ez_var 0) T.cl_Curve T.no_Curve__pieces) (az_cons (ez_lst (az_cons (ez_calln (ok_as_fraction T) (hr.mono (by decide)) T.m_as_fraction T.F_as_fraction.kp T.b_as_fraction (az_cons (ez_var 1) (az_nil))) (az_nil))) (az_nil)))) (ez_int)))),
    fun _ _ _ h => h.2⟩
theorem ok__law_right (T : Tx K mg q) : FnOk P w K mg base CX0 8 q.f__law_right q.d__law_right ["spring", "points_here", "rises"] (SpZ K (CIof q) (W__law_right K (CIof q))) :=
  fnz_ok T.F__law_right sc__law_right (fun _ _ _ h => h.1) fun cdv A outer s H E hr => ⟨z__law_right K (CIof q),
    szs_cons (sz_par (i := 3) (j := 4) sc__law_right.nd rfl rfl (by decide) rfl rfl (az_cons (ez_makeX (c := 0) T.mk_Curve (ok_Curve_d_init_d T) (hr.mono (by decide)) T.m_Curve T.b_Curve_d_init_d .nil (fun _ _ _ => .nil) (az_cons (ez_var 1) (az_cons (ez_ix (ez_var 2) (ez_neg (ez_int))) (az_nil)))) (az_cons (ez_lst (az_cons (ez_tup (az_cons (ez_int) (az_cons (ez_int) (az_nil)))) (az_cons (ez_tup (az_cons (ez_calln (ok__law_dip_r2 T) (hr.mono (by decide)) T.m__law_dip_r2 T.F__law_dip_r2.kp T.b__law_dip_r2 (az_cons (ez_var 0) (az_cons (ez_int) (az_nil)))) (az_cons (ez_int) (az_nil)))) (az_cons (ez_tup (az_cons (ez_op oz_pow (ez_int) (ez_int)) (az_cons (ez_int) (az_nil)))) (az_nil))))) (az_nil))))
    (szs_cons (sz_for (iz_zip (az_cons (ez_var 1) (az_cons (ez_sl (ez_var 1) (oz_some (ez_int)) oz_none) (az_nil))) T.n_zip) (gz_tup (gsz_cons (gz_name (i := 5) sc__law_right.nd rfl) (gsz_cons (gz_name (i := 6) sc__law_right.nd rfl) (gsz_nil)))) (szs_one (sz_set (i := 4) sc__law_right.nd (ez_op oz_cat (ez_var 4) (ez_lst (az_cons (ez_ix (ez_var 5) (ez_int)) (az_cons (ez_ix (ez_var 6) (ez_int)) (az_cons (ez_calln (ok__law_product T) (hr.mono (by decide)) T.m__law_product T.F__law_product.kp T.b__law_product (az_cons (ez_calln (ok__law_plus T) (hr.mono (by decide)) T.m__law_plus T.F__law_plus.kp T.b__law_plus (az_cons (ez_ix (ez_var 5) (ez_int)) (az_cons (ez_ix (ez_var 6) (ez_int)) (az_nil)))) (az_cons (ez_tup (az_cons (ez_int) (az_cons (ez_int) (az_nil)))) (az_nil)))) (az_nil)))))))))
    (szs_cons (sz_set (i := 7) sc__law_right.nd (ez_ix (ez_ix (ez_var 1) (ez_neg (ez_int))) (ez_int)))
    (szs_cons (sz_set (i := 4) sc__law_right.nd (ez_op oz_cat (ez_var 4) (ez_lst (az_cons (ez_var 7) (az_cons (ez_calln (ok__law_plus T) (hr.mono (by decide)) T.m__law_plus T.F__law_plus.kp T.b__law_plus (az_cons (ez_var 7) (az_cons (ez_tup (az_cons (ez_int) (az_cons (ez_int) (az_nil)))) (az_nil)))) (az_cons (ez_calln (ok__law_plus T) (hr.mono (by decide)) T.m__law_plus T.F__law_plus.kp T.b__law_plus (az_cons (ez_var 7) (az_cons (ez_tup (az_cons (ez_calln (ok__law_dip_r2 T) (hr.mono (by decide)) T.m__law_dip_r2 T.F__law_dip_r2.kp T.b__law_dip_r2 (az_cons (ez_var 0) (az_cons (ez_op oz_pow (ez_int) (ez_int)) (az_nil)))) (az_cons (ez_int) (az_nil)))) (az_nil)))) (az_cons (ez_ix (ez_ix (ez_var 1) (ez_int)) (ez_int)) (az_nil))))))))
    (szs_cons (sz_for (iz_list (ez_var 4)) (gz_name (i := 8) sc__law_right.nd rfl) (szs_cons (sz_set (i := 9) sc__law_right.nd (ez_calln (fn_frzX (ok__law_widths_with T)) (hr.mono (by decide)) T.m__law_widths_with T.F__law_widths_with.kp T.b__law_widths_with (az_cons (ez_var 1) (az_cons (ez_var 2) (az_cons (ez_var 8) (az_nil))))))
    (szs_cons (sz_if ((wz_or (tz_cmp (oz_neD hr.units) (ez_meth (c := 0) (ez_var 3) T.cl_Curve T.me_Curve_widths_of (ok_Curve_widths_of T) (hr.mono (by decide)) T.b_Curve_widths_of (az_cons (ez_var 8) (az_nil))) (ez_var 9)) (wz_or1 (tz_cmp (oz_neD hr.units) (ez_meth (c := 0) (ez_var 3) T.cl_Curve T.me_Curve_widths_of (ok_Curve_widths_of T) (hr.mono (by decide)) T.b_Curve_widths_of (az_cons (ez_var 8) (az_nil))) (ez_var 9)))).tz) (szs_one (sz_ret (ez_bl))) (szs_nil))
    (szs_cons (sz_if ((wz_and (tz_cmp (oz_eqD hr.units) (ez_ix (ez_var 8) (ez_int)) (ez_int)) (wz_and1 (tz_cmp (oz_neD hr.units) (ez_meth (c := 0) (ez_var 3) T.cl_Curve T.me_Curve_widths_of (ok_Curve_widths_of T) (hr.mono (by decide)) T.b_Curve_widths_of (az_cons (ez_ix (ez_var 8) (ez_int)) (az_nil))) (ez_var 9)))).tz) (szs_one (sz_ret (ez_bl))) (szs_nil))
    (szs_one (sz_if (tz_cmp oz_notN (ez_var 9) (ez_non)) (szs_cons (sz_asg (ez_var 9) (gz_tup (gsz_cons (gz_name (i := 10) sc__law_right.nd rfl) (gsz_cons (gz_name (i := 11) sc__law_right.nd rfl) (gsz_nil)))))
    (szs_cons (sz_if ((wz_or (tz_cmp (oz_neD hr.units) (ez_callO (c := 0) (ez_var 3) T.co_Curve (ok_Curve_d_call_d T) (hr.mono (by decide)) T.b_Curve_d_call_d (az_cons (ez_var 10) (az_nil))) (ez_var 8)) (wz_or1 ((wz_and (tz_cmp oz_gt (ez_ix (ez_var 10) (ez_int)) (ez_int)) (wz_and1 (tz_cmp (oz_eqD hr.units) (ez_callO (c := 0) (ez_var 3) T.co_Curve (ok_Curve_d_call_d T) (hr.mono (by decide)) T.b_Curve_d_call_d (az_cons (ez_calln (ok__law_product T) (hr.mono (by decide)) T.m__law_product T.F__law_product.kp T.b__law_product (az_cons (ez_var 10) (az_cons (ez_tup (az_cons (ez_int) (az_cons (ez_int) (az_nil)))) (az_nil)))) (az_nil))) (ez_var 8)))).tz))).tz) (szs_one (sz_ret (ez_bl))) (szs_nil))
    (szs_cons (sz_if ((wz_and (tz_cmp oz_notN (ez_var 11) (ez_non)) (wz_and1 (tz_cmp (oz_neD hr.units) (ez_callO (c := 0) (ez_var 3) T.co_Curve (ok_Curve_d_call_d T) (hr.mono (by decide)) T.b_Curve_d_call_d (az_cons (ez_var 11) (az_nil))) (ez_var 8)))).tz) (szs_one (sz_ret (ez_bl))) (szs_nil))
    (szs_one (sz_if ((wz_and (tz_cmp oz_notN (ez_var 11) (ez_non)) (wz_and1 (tz_cmp (oz_eqD hr.units) (ez_callO (c := 0) (ez_var 3) T.co_Curve (ok_Curve_d_call_d T) (hr.mono (by decide)) T.b_Curve_d_call_d (az_cons (ez_calln (ok__law_plus T) (hr.mono (by decide)) T.m__law_plus T.F__law_plus.kp T.b__law_plus (az_cons (ez_var 11) (az_cons (ez_tup (az_cons (ez_int) (az_cons (ez_op oz_pow (ez_int) (ez_int)) (az_nil)))) (az_nil)))) (az_nil))) (ez_var 8)))).tz) (szs_one (sz_ret (ez_bl))) (szs_nil)))))) (szs_nil)))))))
    (szs_one (sz_ret (ez_bl))))))),
    fun _ _ _ h => h.2⟩
theorem ok_law (T : Tx K mg q) : FnOk P w K mg base CX0 9 q.f_law q.d_law ["script"] (SpZ K (CIof q) (W_law K (CIof q))) :=
  fnz_ok T.F_law sc_law (fun _ _ _ h => h.1) fun cdv A outer s H E hr => ⟨z_law K (CIof q),
    szs_cons (sz_if (tz_not (tz_val (ez_calln (fn_frzX (ok__law_long_right T)) (hr.mono (by decide)) T.m__law_long_right T.F__law_long_right.kp T.b__law_long_right (az_cons (ez_calln (ok__law_spring T) (hr.mono (by decide)) T.m__law_spring T.F__law_spring.kp T.b__law_spring (az_cons (ez_var 0) (az_cons (ez_int) (az_nil)))) (az_nil))))) (szs_one (sz_ret (ez_bl))) (szs_nil))
    (szs_cons (sz_for (iz_r1 (az_cons (ez_callB (cz_max2 rfl) T.n_max (by decide +kernel) (az_cons (ez_int) (az_cons (ez_callB (cz_min2 rfl) T.n_min (by decide +kernel) (az_cons (ez_int) (az_cons (ez_callB cz_len T.n_len (by decide +kernel) (az_cons (ez_var 0) (az_nil))) (az_nil)))) (az_nil)))) (az_nil)) T.n_range) (gz_name (i := 1) sc_law.nd rfl) (szs_cons (sz_set (i := 2) sc_law.nd (ez_calln (ok__law_spring T) (hr.mono (by decide)) T.m__law_spring T.F__law_spring.kp T.b__law_spring (az_cons (ez_var 0) (az_cons (ez_var 1) (az_nil)))))
    (szs_one (sz_for (iz_list (ez_lst (az_cons (ez_tup (az_cons (ez_calln (ok__law_dip_r2 T) (hr.mono (by decide)) T.m__law_dip_r2 T.F__law_dip_r2.kp T.b__law_dip_r2 (az_cons (ez_var 2) (az_cons (ez_int) (az_nil)))) (az_cons (ez_int) (az_nil)))) (az_cons (ez_tup (az_cons (ez_ix (ez_lst (az_cons (ez_int) (az_cons (ez_int) (az_nil)))) (ez_callTy cz_int T.n_int (by decide +kernel) (az_cons (ez_cmp (oz_eqD hr.units) (ez_var 1) (ez_int)) (az_nil)))) (az_cons (ez_op oz_pow (ez_int) (ez_int)) (az_nil)))) (az_nil))))) (gz_tup (gsz_cons (gz_name (i := 3) sc_law.nd rfl) (gsz_cons (gz_name (i := 4) sc_law.nd rfl) (gsz_nil)))) (szs_cons (sz_asg (ez_calln (ok__law_drawn T) (hr.mono (by decide)) T.m__law_drawn T.F__law_drawn.kp T.b__law_drawn (az_cons (ez_var 2) (az_cons (ez_var 3) (az_cons (ez_var 4) (az_nil))))) (gz_tup (gsz_cons (gz_name (i := 5) sc_law.nd rfl) (gsz_cons (gz_name (i := 6) sc_law.nd rfl) (gsz_nil)))))
    (szs_cons (sz_if (tz_not (tz_val (ez_calln (fn_lendS (ok__law_right T)) (hr.mono (by decide)) T.m__law_right T.F__law_right.kp T.b__law_right (az_cons (ez_var 2) (az_cons (ez_var 5) (az_cons (ez_var 6) (az_nil))))))) (szs_one (sz_ret (ez_bl))) (szs_nil))
    (szs_cons (sz_for (iz_r1 (az_cons (ez_callB cz_len T.n_len (by decide +kernel) (az_cons (ez_var 6) (az_nil))) (az_nil)) T.n_range) (gz_name (i := 7) sc_law.nd rfl) (szs_one (sz_if (tz_cmp (oz_eqD hr.units) (ez_calln (ok__law_dip_r2 T) (hr.mono (by decide)) T.m__law_dip_r2 T.F__law_dip_r2.kp T.b__law_dip_r2 (az_cons (ez_var 2) (az_cons (ez_int) (az_nil)))) (ez_int)) (szs_one (sz_asgSub (ez_tup (az_cons (ez_int) (az_cons (ez_int) (az_nil)))) (gz_sub (ez_var 6) (ez_var 7)))) (szs_nil))))
    (szs_cons (sz_set (i := 8) sc_law.nd (ez_slC (ez_var 5) oz_none (oz_some (ez_int))))
    (szs_cons (sz_for (iz_r1 (az_cons (ez_var 3) (az_nil)) T.n_range) (gz_name (i := 7) sc_law.nd rfl) (szs_cons (sz_set (i := 9) sc_law.nd (ez_calln (ok__law_less T) (hr.mono (by decide)) T.m__law_less T.F__law_less.kp T.b__law_less (az_cons (ez_ix (ez_ix (ez_var 5) (ez_op oz_add (ez_var 7) (ez_int))) (ez_int)) (az_cons (ez_ix (ez_ix (ez_var 5) (ez_var 7)) (ez_int)) (az_nil)))))
    (szs_cons (sz_set (i := 10) sc_law.nd (ez_calln (ok__law_plus T) (hr.mono (by decide)) T.m__law_plus T.F__law_plus.kp T.b__law_plus (az_cons (ez_ix (ez_ix (ez_var 8) (ez_neg (ez_int))) (ez_int)) (az_cons (ez_calln (ok__law_product T) (hr.mono (by decide)) T.m__law_product T.F__law_product.kp T.b__law_product (az_cons (ez_ix (ez_var 6) (ez_var 7)) (az_cons (ez_var 9) (az_nil)))) (az_nil)))))
    (szs_one (sz_expr (ez_append (ez_var 8) (az_cons (ez_tup (az_cons (ez_ix (ez_ix (ez_var 5) (ez_op oz_add (ez_var 7) (ez_int))) (ez_int)) (az_cons (ez_var 10) (az_nil)))) (az_nil))))))))
    (szs_one (sz_if (tz_not (tz_val (ez_calln (fn_lendS (ok__law_right T)) (hr.mono (by decide)) T.m__law_right T.F__law_right.kp T.b__law_right (az_cons (ez_var 2) (az_cons (ez_var 8) (az_cons (ez_var 6) (az_nil))))))) (szs_one (sz_ret (ez_bl))) (szs_nil))))))))))))
    (szs_cons (sz_set (i := 11) sc_law.nd (ez_makeX (c := 0) T.mk_Curve (ok_Curve_d_init_d T) (hr.mono (by decide)) T.m_Curve T.b_Curve_d_init_d .nil (fun _ _ _ => .nil) (az_cons (ez_lst (az_cons (ez_tup (az_cons (ez_tup (az_cons (ez_int) (az_cons (ez_int) (az_nil)))) (az_cons (ez_tup (az_cons (ez_int) (az_cons (ez_int) (az_nil)))) (az_nil)))) (az_cons (ez_tup (az_cons (ez_tup (az_cons (ez_int) (az_cons (ez_int) (az_nil)))) (az_cons (ez_tup (az_cons (ez_int) (az_cons (ez_int) (az_nil)))) (az_nil)))) (az_cons (ez_tup (az_cons (ez_tup (az_cons (ez_int) (az_cons (ez_int) (az_nil)))) (az_cons (ez_tup (az_cons (ez_int) (az_cons (ez_int) (az_nil)))) (az_nil)))) (az_nil))))) (az_cons (ez_tup (az_cons (ez_int) (az_cons (ez_int) (az_nil)))) (az_nil)))))
    (szs_one (sz_ret (ez_cmp (oz_eqD hr.units) (ez_lc (own := [("value", 12)]) sc_law.nd (iz_tup (ez_tup (az_cons (ez_int) (az_cons (ez_int) (az_cons (ez_int) (az_cons (ez_int) (az_nil))))))) (blkOk_by (N := N_law) (sc := defScope s_law) (by decide +kernel)) (own_name (i := 12) (by decide)) (blkz (ref_gName) (fun _ _ _ _ _ => pg_name (i := 12) sc_law.nd rfl (by first | exact Or.inl rfl | exact Or.inr rfl) (by first | exact Or.inl rfl | exact Or.inr rfl)) (fun _ _ _ _ _ => tsz_nil) (fun _ _ _ _ _ => ez_meth (c := 0) (ez_var 11) T.cl_Curve T.me_Curve_widths_of (ok_Curve_widths_of T) (hr.mono (by decide)) T.b_Curve_widths_of (az_cons (ez_var 12) (az_nil))))) (ez_lst (az_cons (ez_non) (az_cons (ez_tup (az_cons (ez_tup (az_cons (ez_int) (az_cons (ez_int) (az_nil)))) (az_cons (ez_tup (az_cons (ez_int) (az_cons (ez_int) (az_nil)))) (az_nil)))) (az_cons (ez_tup (az_cons (ez_tup (az_cons (ez_int) (az_cons (ez_int) (az_nil)))) (az_cons (ez_non) (az_nil)))) (az_cons (ez_non) (az_nil))))))))))),
    fun _ _ _ h => h.2⟩
end
theorem all_mk {l : PySem.W.OpenLaw} {w : World} {K : PySem.W.Frag} {h : Heap} {mg : Str → Option Value} {fa : Addr} (X : K.In h) (G : h.Ns mainGlobals mg) (hfa : mg "law" = some (.ref fa))
    {f__law_dip_r0 : Addr} {od__law_dip_r0 : Option Addr} {an__law_dip_r0 : Option Addr} {sl__law_dip_r0 : Array (Option Value)} {oc__law_dip_r0 : Value} {kV__law_dip_r0 : Value} {dc__law_dip_r0 : Value} {pm__law_dip_r0 : Value} {cd__law_dip_r0 : Value} {ct__law_dip_r0 : Value} {f__law_dip_r1 : Addr} {od__law_dip_r1 : Option Addr} {an__law_dip_r1 : Option Addr} {sl__law_dip_r1 : Array (Option Value)} {oc__law_dip_r1 : Value} {kV__law_dip_r1 : Value} {dc__law_dip_r1 : Value} {pm__law_dip_r1 : Value} {cd__law_dip_r1 : Value} {ct__law_dip_r1 : Value} {f__law_dip_r2 : Addr} {od__law_dip_r2 : Option Addr} {an__law_dip_r2 : Option Addr} {sl__law_dip_r2 : Array (Option Value)} {oc__law_dip_r2 : Value} {kV__law_dip_r2 : Value} {dc__law_dip_r2 : Value} {pm__law_dip_r2 : Value} {cd__law_dip_r2 : Value} {ct__law_dip_r2 : Value} {f__law_cut : Addr} {od__law_cut : Option Addr} {an__law_cut : Option Addr} {sl__law_cut : Array (Option Value)} {oc__law_cut : Value} {kV__law_cut : Value} {dc__law_cut : Value} {pm__law_cut : Value} {cd__law_cut : Value} {ct__law_cut : Value} {f__law_plus : Addr} {od__law_plus : Option Addr} {an__law_plus : Option Addr} {sl__law_plus : Array (Option Value)} {oc__law_plus : Value} {kV__law_plus : Value} {dc__law_plus : Value} {pm__law_plus : Value} {cd__law_plus : Value} {ct__law_plus : Value} {f__law_product : Addr} {od__law_product : Option Addr} {an__law_product : Option Addr} {sl__law_product : Array (Option Value)} {oc__law_product : Value} {kV__law_product : Value} {dc__law_product : Value} {pm__law_product : Value} {cd__law_product : Value} {ct__law_product : Value} {f__law_long : Addr} {od__law_long : Option Addr} {an__law_long : Option Addr} {sl__law_long : Array (Option Value)} {oc__law_long : Value} {kV__law_long : Value} {dc__law_long : Value} {pm__law_long : Value} {cd__law_long : Value} {ct__law_long : Value} {f_is_int : Addr} {od_is_int : Option Addr} {an_is_int : Option Addr} {sl_is_int : Array (Option Value)} {oc_is_int : Value} {kV_is_int : Value} {dc_is_int : Value} {pm_is_int : Value} {cd_is_int : Value} {ct_is_int : Value} {f_is_fraction : Addr} {od_is_fraction : Option Addr} {an_is_fraction : Option Addr} {sl_is_fraction : Array (Option Value)} {oc_is_fraction : Value} {kV_is_fraction : Value} {dc_is_fraction : Value} {pm_is_fraction : Value} {cd_is_fraction : Value} {ct_is_fraction : Value} {f_is_positive_or_zero : Addr} {od_is_positive_or_zero : Option Addr} {an_is_positive_or_zero : Option Addr} {sl_is_positive_or_zero : Array (Option Value)} {oc_is_positive_or_zero : Value} {kV_is_positive_or_zero : Value} {dc_is_positive_or_zero : Value} {pm_is_positive_or_zero : Value} {cd_is_positive_or_zero : Value} {ct_is_positive_or_zero : Value} {f_is_point : Addr} {od_is_point : Option Addr} {an_is_point : Option Addr} {sl_is_point : Array (Option Value)} {oc_is_point : Value} {kV_is_point : Value} {dc_is_point : Value} {pm_is_point : Value} {cd_is_point : Value} {ct_is_point : Value} {f_order : Addr} {od_order : Option Addr} {an_order : Option Addr} {sl_order : Array (Option Value)} {oc_order : Value} {kV_order : Value} {dc_order : Value} {pm_order : Value} {cd_order : Value} {ct_order : Value} {f_are_points : Addr} {od_are_points : Option Addr} {an_are_points : Option Addr} {sl_are_points : Array (Option Value)} {oc_are_points : Value} {kV_are_points : Value} {dc_are_points : Value} {pm_are_points : Value} {cd_are_points : Value} {ct_are_points : Value} {f_joined : Addr} {od_joined : Option Addr} {an_joined : Option Addr} {sl_joined : Array (Option Value)} {oc_joined : Value} {kV_joined : Value} {dc_joined : Value} {pm_joined : Value} {cd_joined : Value} {ct_joined : Value} {f_lowest : Addr} {od_lowest : Option Addr} {an_lowest : Option Addr} {sl_lowest : Array (Option Value)} {oc_lowest : Value} {kV_lowest : Value} {dc_lowest : Value} {pm_lowest : Value} {cd_lowest : Value} {ct_lowest : Value} {f_over : Addr} {od_over : Option Addr} {an_over : Option Addr} {sl_over : Array (Option Value)} {oc_over : Value} {kV_over : Value} {dc_over : Value} {pm_over : Value} {cd_over : Value} {ct_over : Value} {f_minus : Addr} {od_minus : Option Addr} {an_minus : Option Addr} {sl_minus : Array (Option Value)} {oc_minus : Value} {kV_minus : Value} {dc_minus : Value} {pm_minus : Value} {cd_minus : Value} {ct_minus : Value} {f_pieces_between : Addr} {od_pieces_between : Option Addr} {an_pieces_between : Option Addr} {sl_pieces_between : Array (Option Value)} {oc_pieces_between : Value} {kV_pieces_between : Value} {dc_pieces_between : Value} {pm_pieces_between : Value} {cd_pieces_between : Value} {ct_pieces_between : Value} {f_Curve_d_init_d : Addr} {od_Curve_d_init_d : Option Addr} {an_Curve_d_init_d : Option Addr} {sl_Curve_d_init_d : Array (Option Value)} {oc_Curve_d_init_d : Value} {kV_Curve_d_init_d : Value} {dc_Curve_d_init_d : Value} {pm_Curve_d_init_d : Value} {cd_Curve_d_init_d : Value} {ct_Curve_d_init_d : Value} {f_is_rational : Addr} {od_is_rational : Option Addr} {an_is_rational : Option Addr} {sl_is_rational : Array (Option Value)} {oc_is_rational : Value} {kV_is_rational : Value} {dc_is_rational : Value} {pm_is_rational : Value} {cd_is_rational : Value} {ct_is_rational : Value} {f_as_fraction : Addr} {od_as_fraction : Option Addr} {an_as_fraction : Option Addr} {sl_as_fraction : Array (Option Value)} {oc_as_fraction : Value} {kV_as_fraction : Value} {dc_as_fraction : Value} {pm_as_fraction : Value} {cd_as_fraction : Value} {ct_as_fraction : Value} {f_last_up_to : Addr} {od_last_up_to : Option Addr} {an_last_up_to : Option Addr} {sl_last_up_to : Array (Option Value)} {oc_last_up_to : Value} {kV_last_up_to : Value} {dc_last_up_to : Value} {pm_last_up_to : Value} {cd_last_up_to : Value} {ct_last_up_to : Value} {f_plus : Addr} {od_plus : Option Addr} {an_plus : Option Addr} {sl_plus : Array (Option Value)} {oc_plus : Value} {kV_plus : Value} {dc_plus : Value} {pm_plus : Value} {cd_plus : Value} {ct_plus : Value} {f_widths_inside : Addr} {od_widths_inside : Option Addr} {an_widths_inside : Option Addr} {sl_widths_inside : Array (Option Value)} {oc_widths_inside : Value} {kV_widths_inside : Value} {dc_widths_inside : Value} {pm_widths_inside : Value} {cd_widths_inside : Value} {ct_widths_inside : Value} {f_widths_with_value : Addr} {od_widths_with_value : Option Addr} {an_widths_with_value : Option Addr} {sl_widths_with_value : Array (Option Value)} {oc_widths_with_value : Value} {kV_widths_with_value : Value} {dc_widths_with_value : Value} {pm_widths_with_value : Value} {cd_widths_with_value : Value} {ct_widths_with_value : Value} {f_Curve_widths_of : Addr} {od_Curve_widths_of : Option Addr} {an_Curve_widths_of : Option Addr} {sl_Curve_widths_of : Array (Option Value)} {oc_Curve_widths_of : Value} {kV_Curve_widths_of : Value} {dc_Curve_widths_of : Value} {pm_Curve_widths_of : Value} {cd_Curve_widths_of : Value} {ct_Curve_widths_of : Value} {f__law_less : Addr} {od__law_less : Option Addr} {an__law_less : Option Addr} {sl__law_less : Array (Option Value)} {oc__law_less : Value} {kV__law_less : Value} {dc__law_less : Value} {pm__law_less : Value} {cd__law_less : Value} {ct__law_less : Value} {f__law_widths_with : Addr} {od__law_widths_with : Option Addr} {an__law_widths_with : Option Addr} {sl__law_widths_with : Array (Option Value)} {oc__law_widths_with : Value} {kV__law_widths_with : Value} {dc__law_widths_with : Value} {pm__law_widths_with : Value} {cd__law_widths_with : Value} {ct__law_widths_with : Value} {f__law_long_right : Addr} {od__law_long_right : Option Addr} {an__law_long_right : Option Addr} {sl__law_long_right : Array (Option Value)} {oc__law_long_right : Value} {kV__law_long_right : Value} {dc__law_long_right : Value} {pm__law_long_right : Value} {cd__law_long_right : Value} {ct__law_long_right : Value} {f__law_spring : Addr} {od__law_spring : Option Addr} {an__law_spring : Option Addr} {sl__law_spring : Array (Option Value)} {oc__law_spring : Value} {kV__law_spring : Value} {dc__law_spring : Value} {pm__law_spring : Value} {cd__law_spring : Value} {ct__law_spring : Value} {f__law_rise : Addr} {od__law_rise : Option Addr} {an__law_rise : Option Addr} {sl__law_rise : Array (Option Value)} {oc__law_rise : Value} {kV__law_rise : Value} {dc__law_rise : Value} {pm__law_rise : Value} {cd__law_rise : Value} {ct__law_rise : Value} {f__law_drawn : Addr} {od__law_drawn : Option Addr} {an__law_drawn : Option Addr} {sl__law_drawn : Array (Option Value)} {oc__law_drawn : Value} {kV__law_drawn : Value} {dc__law_drawn : Value} {pm__law_drawn : Value} {cd__law_drawn : Value} {ct__law_drawn : Value} {f_check_width : Addr} {od_check_width : Option Addr} {an_check_width : Option Addr} {sl_check_width : Array (Option Value)} {oc_check_width : Value} {kV_check_width : Value} {dc_check_width : Value} {pm_check_width : Value} {cd_check_width : Value} {ct_check_width : Value} {f_times : Addr} {od_times : Option Addr} {an_times : Option Addr} {sl_times : Array (Option Value)} {oc_times : Value} {kV_times : Value} {dc_times : Value} {pm_times : Value} {cd_times : Value} {ct_times : Value} {f_value_on : Addr} {od_value_on : Option Addr} {an_value_on : Option Addr} {sl_value_on : Array (Option Value)} {oc_value_on : Value} {kV_value_on : Value} {dc_value_on : Value} {pm_value_on : Value} {cd_value_on : Value} {ct_value_on : Value} {f_pieces_at : Addr} {od_pieces_at : Option Addr} {an_pieces_at : Option Addr} {sl_pieces_at : Array (Option Value)} {oc_pieces_at : Value} {kV_pieces_at : Value} {dc_pieces_at : Value} {pm_pieces_at : Value} {cd_pieces_at : Value} {ct_pieces_at : Value} {f_values_at : Addr} {od_values_at : Option Addr} {an_values_at : Option Addr} {sl_values_at : Array (Option Value)} {oc_values_at : Value} {kV_values_at : Value} {dc_values_at : Value} {pm_values_at : Value} {cd_values_at : Value} {ct_values_at : Value} {f_Curve_d_call_d : Addr} {od_Curve_d_call_d : Option Addr} {an_Curve_d_call_d : Option Addr} {sl_Curve_d_call_d : Array (Option Value)} {oc_Curve_d_call_d : Value} {kV_Curve_d_call_d : Value} {dc_Curve_d_call_d : Value} {pm_Curve_d_call_d : Value} {cd_Curve_d_call_d : Value} {ct_Curve_d_call_d : Value} {f__law_right : Addr} {od__law_right : Option Addr} {an__law_right : Option Addr} {sl__law_right : Array (Option Value)} {oc__law_right : Value} {kV__law_right : Value} {dc__law_right : Value} {pm__law_right : Value} {cd__law_right : Value} {ct__law_right : Value} {f_law : Addr} {od_law : Option Addr} {an_law : Option Addr} {sl_law : Array (Option Value)} {oc_law : Value} {kV_law : Value} {dc_law : Value} {pm_law : Value} {cd_law : Value} {ct_law : Value} {c_Curve : Addr} {p_Curve_points : Addr} {p_Curve_slope : Addr} {tk_MOST_POINTS : Tok} {z_ZERO : Addr} {od_ZERO : Option Addr} {nn_ZERO : Nat} {sl_ZERO : Array (Option Value)} {ta_ZERO : Tok} {tb_ZERO : Tok}
    (a__law_dip_r0 : PySem.W.nsIn K mainGlobals "_law_dip" = some (some (.ref f__law_dip_r0)))
    (l__law_dip_r0 : K.lookup f__law_dip_r0 = some ⟨oc__law_dip_r0, od__law_dip_r0, .func (PySem.W.fnOf "_law_dip" "_law_dip" (defArgs s__law_dip_r0) (defBody s__law_dip_r0) (defScope s__law_dip_r0) .none kV__law_dip_r0 dc__law_dip_r0 pm__law_dip_r0 an__law_dip_r0 cd__law_dip_r0 ct__law_dip_r0), sl__law_dip_r0⟩)
    (e__law_dip_r0 : PySem.W.codeIn K cd__law_dip_r0 "_law_dip" = true)
    (k__law_dip_r0 : PySem.W.keepIn K (.ref f__law_dip_r0) = true)
    (a__law_dip_r1 : PySem.W.nsIn K mainGlobals "_law_dip" = some (some (.ref f__law_dip_r1)))
    (l__law_dip_r1 : K.lookup f__law_dip_r1 = some ⟨oc__law_dip_r1, od__law_dip_r1, .func (PySem.W.fnOf "_law_dip" "_law_dip" (defArgs s__law_dip_r1) (defBody s__law_dip_r1) (defScope s__law_dip_r1) .none kV__law_dip_r1 dc__law_dip_r1 pm__law_dip_r1 an__law_dip_r1 cd__law_dip_r1 ct__law_dip_r1), sl__law_dip_r1⟩)
    (e__law_dip_r1 : PySem.W.codeIn K cd__law_dip_r1 "_law_dip" = true)
    (k__law_dip_r1 : PySem.W.keepIn K (.ref f__law_dip_r1) = true)
    (a__law_dip_r2 : PySem.W.nsIn K mainGlobals "_law_dip" = some (some (.ref f__law_dip_r2)))
    (l__law_dip_r2 : K.lookup f__law_dip_r2 = some ⟨oc__law_dip_r2, od__law_dip_r2, .func (PySem.W.fnOf "_law_dip" "_law_dip" (defArgs s__law_dip_r2) (defBody s__law_dip_r2) (defScope s__law_dip_r2) .none kV__law_dip_r2 dc__law_dip_r2 pm__law_dip_r2 an__law_dip_r2 cd__law_dip_r2 ct__law_dip_r2), sl__law_dip_r2⟩)
    (e__law_dip_r2 : PySem.W.codeIn K cd__law_dip_r2 "_law_dip" = true)
    (k__law_dip_r2 : PySem.W.keepIn K (.ref f__law_dip_r2) = true)
    (a__law_cut : PySem.W.nsIn K mainGlobals "_law_cut" = some (some (.ref f__law_cut)))
    (l__law_cut : K.lookup f__law_cut = some ⟨oc__law_cut, od__law_cut, .func (PySem.W.fnOf "_law_cut" "_law_cut" (defArgs s__law_cut) (defBody s__law_cut) (defScope s__law_cut) .none kV__law_cut dc__law_cut pm__law_cut an__law_cut cd__law_cut ct__law_cut), sl__law_cut⟩)
    (e__law_cut : PySem.W.codeIn K cd__law_cut "_law_cut" = true)
    (k__law_cut : PySem.W.keepIn K (.ref f__law_cut) = true)
    (a__law_plus : PySem.W.nsIn K mainGlobals "_law_plus" = some (some (.ref f__law_plus)))
    (l__law_plus : K.lookup f__law_plus = some ⟨oc__law_plus, od__law_plus, .func (PySem.W.fnOf "_law_plus" "_law_plus" (defArgs s__law_plus) (defBody s__law_plus) (defScope s__law_plus) .none kV__law_plus dc__law_plus pm__law_plus an__law_plus cd__law_plus ct__law_plus), sl__law_plus⟩)
    (e__law_plus : PySem.W.codeIn K cd__law_plus "_law_plus" = true)
    (k__law_plus : PySem.W.keepIn K (.ref f__law_plus) = true)
    (a__law_product : PySem.W.nsIn K mainGlobals "_law_product" = some (some (.ref f__law_product)))
    (l__law_product : K.lookup f__law_product = some ⟨oc__law_product, od__law_product, .func (PySem.W.fnOf "_law_product" "_law_product" (defArgs s__law_product) (defBody s__law_product) (defScope s__law_product) .none kV__law_product dc__law_product pm__law_product an__law_product cd__law_product ct__law_product), sl__law_product⟩)
    (e__law_product : PySem.W.codeIn K cd__law_product "_law_product" = true)
    (k__law_product : PySem.W.keepIn K (.ref f__law_product) = true)
    (a__law_long : PySem.W.nsIn K mainGlobals "_law_long" = some (some (.ref f__law_long)))
    (l__law_long : K.lookup f__law_long = some ⟨oc__law_long, od__law_long, .func (PySem.W.fnOf "_law_long" "_law_long" (defArgs s__law_long) (defBody s__law_long) (defScope s__law_long) .none kV__law_long dc__law_long pm__law_long an__law_long cd__law_long ct__law_long), sl__law_long⟩)
    (e__law_long : PySem.W.codeIn K cd__law_long "_law_long" = true)
    (k__law_long : PySem.W.keepIn K (.ref f__law_long) = true)
    (a_is_int : PySem.W.nsIn K mainGlobals "is_int" = some (some (.ref f_is_int)))
    (l_is_int : K.lookup f_is_int = some ⟨oc_is_int, od_is_int, .func (PySem.W.fnOf "is_int" "is_int" (defArgs s_is_int) (defBody s_is_int) (defScope s_is_int) .none kV_is_int dc_is_int pm_is_int an_is_int cd_is_int ct_is_int), sl_is_int⟩)
    (e_is_int : PySem.W.codeIn K cd_is_int "is_int" = true)
    (k_is_int : PySem.W.keepIn K (.ref f_is_int) = true)
    (a_is_fraction : PySem.W.nsIn K mainGlobals "is_fraction" = some (some (.ref f_is_fraction)))
    (l_is_fraction : K.lookup f_is_fraction = some ⟨oc_is_fraction, od_is_fraction, .func (PySem.W.fnOf "is_fraction" "is_fraction" (defArgs s_is_fraction) (defBody s_is_fraction) (defScope s_is_fraction) .none kV_is_fraction dc_is_fraction pm_is_fraction an_is_fraction cd_is_fraction ct_is_fraction), sl_is_fraction⟩)
    (e_is_fraction : PySem.W.codeIn K cd_is_fraction "is_fraction" = true)
    (k_is_fraction : PySem.W.keepIn K (.ref f_is_fraction) = true)
    (a_is_positive_or_zero : PySem.W.nsIn K mainGlobals "is_positive_or_zero" = some (some (.ref f_is_positive_or_zero)))
    (l_is_positive_or_zero : K.lookup f_is_positive_or_zero = some ⟨oc_is_positive_or_zero, od_is_positive_or_zero, .func (PySem.W.fnOf "is_positive_or_zero" "is_positive_or_zero" (defArgs s_is_positive_or_zero) (defBody s_is_positive_or_zero) (defScope s_is_positive_or_zero) .none kV_is_positive_or_zero dc_is_positive_or_zero pm_is_positive_or_zero an_is_positive_or_zero cd_is_positive_or_zero ct_is_positive_or_zero), sl_is_positive_or_zero⟩)
    (e_is_positive_or_zero : PySem.W.codeIn K cd_is_positive_or_zero "is_positive_or_zero" = true)
    (k_is_positive_or_zero : PySem.W.keepIn K (.ref f_is_positive_or_zero) = true)
    (a_is_point : PySem.W.nsIn K mainGlobals "is_point" = some (some (.ref f_is_point)))
    (l_is_point : K.lookup f_is_point = some ⟨oc_is_point, od_is_point, .func (PySem.W.fnOf "is_point" "is_point" (defArgs s_is_point) (defBody s_is_point) (defScope s_is_point) .none kV_is_point dc_is_point pm_is_point an_is_point cd_is_point ct_is_point), sl_is_point⟩)
    (e_is_point : PySem.W.codeIn K cd_is_point "is_point" = true)
    (k_is_point : PySem.W.keepIn K (.ref f_is_point) = true)
    (a_order : PySem.W.nsIn K mainGlobals "order" = some (some (.ref f_order)))
    (l_order : K.lookup f_order = some ⟨oc_order, od_order, .func (PySem.W.fnOf "order" "order" (defArgs s_order) (defBody s_order) (defScope s_order) .none kV_order dc_order pm_order an_order cd_order ct_order), sl_order⟩)
    (e_order : PySem.W.codeIn K cd_order "order" = true)
    (k_order : PySem.W.keepIn K (.ref f_order) = true)
    (a_are_points : PySem.W.nsIn K mainGlobals "are_points" = some (some (.ref f_are_points)))
    (l_are_points : K.lookup f_are_points = some ⟨oc_are_points, od_are_points, .func (PySem.W.fnOf "are_points" "are_points" (defArgs s_are_points) (defBody s_are_points) (defScope s_are_points) .none kV_are_points dc_are_points pm_are_points an_are_points cd_are_points ct_are_points), sl_are_points⟩)
    (e_are_points : PySem.W.codeIn K cd_are_points "are_points" = true)
    (k_are_points : PySem.W.keepIn K (.ref f_are_points) = true)
    (a_joined : PySem.W.nsIn K mainGlobals "joined" = some (some (.ref f_joined)))
    (l_joined : K.lookup f_joined = some ⟨oc_joined, od_joined, .func (PySem.W.fnOf "joined" "joined" (defArgs s_joined) (defBody s_joined) (defScope s_joined) .none kV_joined dc_joined pm_joined an_joined cd_joined ct_joined), sl_joined⟩)
    (e_joined : PySem.W.codeIn K cd_joined "joined" = true)
    (k_joined : PySem.W.keepIn K (.ref f_joined) = true)
    (a_lowest : PySem.W.nsIn K mainGlobals "lowest" = some (some (.ref f_lowest)))
    (l_lowest : K.lookup f_lowest = some ⟨oc_lowest, od_lowest, .func (PySem.W.fnOf "lowest" "lowest" (defArgs s_lowest) (defBody s_lowest) (defScope s_lowest) .none kV_lowest dc_lowest pm_lowest an_lowest cd_lowest ct_lowest), sl_lowest⟩)
    (e_lowest : PySem.W.codeIn K cd_lowest "lowest" = true)
    (k_lowest : PySem.W.keepIn K (.ref f_lowest) = true)
    (a_over : PySem.W.nsIn K mainGlobals "over" = some (some (.ref f_over)))
    (l_over : K.lookup f_over = some ⟨oc_over, od_over, .func (PySem.W.fnOf "over" "over" (defArgs s_over) (defBody s_over) (defScope s_over) .none kV_over dc_over pm_over an_over cd_over ct_over), sl_over⟩)
    (e_over : PySem.W.codeIn K cd_over "over" = true)
    (k_over : PySem.W.keepIn K (.ref f_over) = true)
    (a_minus : PySem.W.nsIn K mainGlobals "minus" = some (some (.ref f_minus)))
    (l_minus : K.lookup f_minus = some ⟨oc_minus, od_minus, .func (PySem.W.fnOf "minus" "minus" (defArgs s_minus) (defBody s_minus) (defScope s_minus) .none kV_minus dc_minus pm_minus an_minus cd_minus ct_minus), sl_minus⟩)
    (e_minus : PySem.W.codeIn K cd_minus "minus" = true)
    (k_minus : PySem.W.keepIn K (.ref f_minus) = true)
    (a_pieces_between : PySem.W.nsIn K mainGlobals "pieces_between" = some (some (.ref f_pieces_between)))
    (l_pieces_between : K.lookup f_pieces_between = some ⟨oc_pieces_between, od_pieces_between, .func (PySem.W.fnOf "pieces_between" "pieces_between" (defArgs s_pieces_between) (defBody s_pieces_between) (defScope s_pieces_between) .none kV_pieces_between dc_pieces_between pm_pieces_between an_pieces_between cd_pieces_between ct_pieces_between), sl_pieces_between⟩)
    (e_pieces_between : PySem.W.codeIn K cd_pieces_between "pieces_between" = true)
    (k_pieces_between : PySem.W.keepIn K (.ref f_pieces_between) = true)
    (a_is_rational : PySem.W.nsIn K mainGlobals "is_rational" = some (some (.ref f_is_rational)))
    (l_is_rational : K.lookup f_is_rational = some ⟨oc_is_rational, od_is_rational, .func (PySem.W.fnOf "is_rational" "is_rational" (defArgs s_is_rational) (defBody s_is_rational) (defScope s_is_rational) .none kV_is_rational dc_is_rational pm_is_rational an_is_rational cd_is_rational ct_is_rational), sl_is_rational⟩)
    (e_is_rational : PySem.W.codeIn K cd_is_rational "is_rational" = true)
    (k_is_rational : PySem.W.keepIn K (.ref f_is_rational) = true)
    (a_as_fraction : PySem.W.nsIn K mainGlobals "as_fraction" = some (some (.ref f_as_fraction)))
    (l_as_fraction : K.lookup f_as_fraction = some ⟨oc_as_fraction, od_as_fraction, .func (PySem.W.fnOf "as_fraction" "as_fraction" (defArgs s_as_fraction) (defBody s_as_fraction) (defScope s_as_fraction) .none kV_as_fraction dc_as_fraction pm_as_fraction an_as_fraction cd_as_fraction ct_as_fraction), sl_as_fraction⟩)
    (e_as_fraction : PySem.W.codeIn K cd_as_fraction "as_fraction" = true)
    (k_as_fraction : PySem.W.keepIn K (.ref f_as_fraction) = true)
    (a_last_up_to : PySem.W.nsIn K mainGlobals "last_up_to" = some (some (.ref f_last_up_to)))
    (l_last_up_to : K.lookup f_last_up_to = some ⟨oc_last_up_to, od_last_up_to, .func (PySem.W.fnOf "last_up_to" "last_up_to" (defArgs s_last_up_to) (defBody s_last_up_to) (defScope s_last_up_to) .none kV_last_up_to dc_last_up_to pm_last_up_to an_last_up_to cd_last_up_to ct_last_up_to), sl_last_up_to⟩)
    (e_last_up_to : PySem.W.codeIn K cd_last_up_to "last_up_to" = true)
    (k_last_up_to : PySem.W.keepIn K (.ref f_last_up_to) = true)
    (a_plus : PySem.W.nsIn K mainGlobals "plus" = some (some (.ref f_plus)))
    (l_plus : K.lookup f_plus = some ⟨oc_plus, od_plus, .func (PySem.W.fnOf "plus" "plus" (defArgs s_plus) (defBody s_plus) (defScope s_plus) .none kV_plus dc_plus pm_plus an_plus cd_plus ct_plus), sl_plus⟩)
    (e_plus : PySem.W.codeIn K cd_plus "plus" = true)
    (k_plus : PySem.W.keepIn K (.ref f_plus) = true)
    (a_widths_inside : PySem.W.nsIn K mainGlobals "widths_inside" = some (some (.ref f_widths_inside)))
    (l_widths_inside : K.lookup f_widths_inside = some ⟨oc_widths_inside, od_widths_inside, .func (PySem.W.fnOf "widths_inside" "widths_inside" (defArgs s_widths_inside) (defBody s_widths_inside) (defScope s_widths_inside) .none kV_widths_inside dc_widths_inside pm_widths_inside an_widths_inside cd_widths_inside ct_widths_inside), sl_widths_inside⟩)
    (e_widths_inside : PySem.W.codeIn K cd_widths_inside "widths_inside" = true)
    (k_widths_inside : PySem.W.keepIn K (.ref f_widths_inside) = true)
    (a_widths_with_value : PySem.W.nsIn K mainGlobals "widths_with_value" = some (some (.ref f_widths_with_value)))
    (l_widths_with_value : K.lookup f_widths_with_value = some ⟨oc_widths_with_value, od_widths_with_value, .func (PySem.W.fnOf "widths_with_value" "widths_with_value" (defArgs s_widths_with_value) (defBody s_widths_with_value) (defScope s_widths_with_value) .none kV_widths_with_value dc_widths_with_value pm_widths_with_value an_widths_with_value cd_widths_with_value ct_widths_with_value), sl_widths_with_value⟩)
    (e_widths_with_value : PySem.W.codeIn K cd_widths_with_value "widths_with_value" = true)
    (k_widths_with_value : PySem.W.keepIn K (.ref f_widths_with_value) = true)
    (a__law_less : PySem.W.nsIn K mainGlobals "_law_less" = some (some (.ref f__law_less)))
    (l__law_less : K.lookup f__law_less = some ⟨oc__law_less, od__law_less, .func (PySem.W.fnOf "_law_less" "_law_less" (defArgs s__law_less) (defBody s__law_less) (defScope s__law_less) .none kV__law_less dc__law_less pm__law_less an__law_less cd__law_less ct__law_less), sl__law_less⟩)
    (e__law_less : PySem.W.codeIn K cd__law_less "_law_less" = true)
    (k__law_less : PySem.W.keepIn K (.ref f__law_less) = true)
    (a__law_widths_with : PySem.W.nsIn K mainGlobals "_law_widths_with" = some (some (.ref f__law_widths_with)))
    (l__law_widths_with : K.lookup f__law_widths_with = some ⟨oc__law_widths_with, od__law_widths_with, .func (PySem.W.fnOf "_law_widths_with" "_law_widths_with" (defArgs s__law_widths_with) (defBody s__law_widths_with) (defScope s__law_widths_with) .none kV__law_widths_with dc__law_widths_with pm__law_widths_with an__law_widths_with cd__law_widths_with ct__law_widths_with), sl__law_widths_with⟩)
    (e__law_widths_with : PySem.W.codeIn K cd__law_widths_with "_law_widths_with" = true)
    (k__law_widths_with : PySem.W.keepIn K (.ref f__law_widths_with) = true)
    (a__law_long_right : PySem.W.nsIn K mainGlobals "_law_long_right" = some (some (.ref f__law_long_right)))
    (l__law_long_right : K.lookup f__law_long_right = some ⟨oc__law_long_right, od__law_long_right, .func (PySem.W.fnOf "_law_long_right" "_law_long_right" (defArgs s__law_long_right) (defBody s__law_long_right) (defScope s__law_long_right) .none kV__law_long_right dc__law_long_right pm__law_long_right an__law_long_right cd__law_long_right ct__law_long_right), sl__law_long_right⟩)
    (e__law_long_right : PySem.W.codeIn K cd__law_long_right "_law_long_right" = true)
    (k__law_long_right : PySem.W.keepIn K (.ref f__law_long_right) = true)
    (a__law_spring : PySem.W.nsIn K mainGlobals "_law_spring" = some (some (.ref f__law_spring)))
    (l__law_spring : K.lookup f__law_spring = some ⟨oc__law_spring, od__law_spring, .func (PySem.W.fnOf "_law_spring" "_law_spring" (defArgs s__law_spring) (defBody s__law_spring) (defScope s__law_spring) .none kV__law_spring dc__law_spring pm__law_spring an__law_spring cd__law_spring ct__law_spring), sl__law_spring⟩)
    (e__law_spring : PySem.W.codeIn K cd__law_spring "_law_spring" = true)
    (k__law_spring : PySem.W.keepIn K (.ref f__law_spring) = true)
    (a__law_rise : PySem.W.nsIn K mainGlobals "_law_rise" = some (some (.ref f__law_rise)))
    (l__law_rise : K.lookup f__law_rise = some ⟨oc__law_rise, od__law_rise, .func (PySem.W.fnOf "_law_rise" "_law_rise" (defArgs s__law_rise) (defBody s__law_rise) (defScope s__law_rise) .none kV__law_rise dc__law_rise pm__law_rise an__law_rise cd__law_rise ct__law_rise), sl__law_rise⟩)
    (e__law_rise : PySem.W.codeIn K cd__law_rise "_law_rise" = true)
    (k__law_rise : PySem.W.keepIn K (.ref f__law_rise) = true)
    (a__law_drawn : PySem.W.nsIn K mainGlobals "_law_drawn" = some (some (.ref f__law_drawn)))
    (l__law_drawn : K.lookup f__law_drawn = some ⟨oc__law_drawn, od__law_drawn, .func (PySem.W.fnOf "_law_drawn" "_law_drawn" (defArgs s__law_drawn) (defBody s__law_drawn) (defScope s__law_drawn) .none kV__law_drawn dc__law_drawn pm__law_drawn an__law_drawn cd__law_drawn ct__law_drawn), sl__law_drawn⟩)
    (e__law_drawn : PySem.W.codeIn K cd__law_drawn "_law_drawn" = true)
    (k__law_drawn : PySem.W.keepIn K (.ref f__law_drawn) = true)
    (a_check_width : PySem.W.nsIn K mainGlobals "check_width" = some (some (.ref f_check_width)))
    (l_check_width : K.lookup f_check_width = some ⟨oc_check_width, od_check_width, .func (PySem.W.fnOf "check_width" "check_width" (defArgs s_check_width) (defBody s_check_width) (defScope s_check_width) .none kV_check_width dc_check_width pm_check_width an_check_width cd_check_width ct_check_width), sl_check_width⟩)
    (e_check_width : PySem.W.codeIn K cd_check_width "check_width" = true)
    (k_check_width : PySem.W.keepIn K (.ref f_check_width) = true)
    (a_times : PySem.W.nsIn K mainGlobals "times" = some (some (.ref f_times)))
    (l_times : K.lookup f_times = some ⟨oc_times, od_times, .func (PySem.W.fnOf "times" "times" (defArgs s_times) (defBody s_times) (defScope s_times) .none kV_times dc_times pm_times an_times cd_times ct_times), sl_times⟩)
    (e_times : PySem.W.codeIn K cd_times "times" = true)
    (k_times : PySem.W.keepIn K (.ref f_times) = true)
    (a_value_on : PySem.W.nsIn K mainGlobals "value_on" = some (some (.ref f_value_on)))
    (l_value_on : K.lookup f_value_on = some ⟨oc_value_on, od_value_on, .func (PySem.W.fnOf "value_on" "value_on" (defArgs s_value_on) (defBody s_value_on) (defScope s_value_on) .none kV_value_on dc_value_on pm_value_on an_value_on cd_value_on ct_value_on), sl_value_on⟩)
    (e_value_on : PySem.W.codeIn K cd_value_on "value_on" = true)
    (k_value_on : PySem.W.keepIn K (.ref f_value_on) = true)
    (a_pieces_at : PySem.W.nsIn K mainGlobals "pieces_at" = some (some (.ref f_pieces_at)))
    (l_pieces_at : K.lookup f_pieces_at = some ⟨oc_pieces_at, od_pieces_at, .func (PySem.W.fnOf "pieces_at" "pieces_at" (defArgs s_pieces_at) (defBody s_pieces_at) (defScope s_pieces_at) .none kV_pieces_at dc_pieces_at pm_pieces_at an_pieces_at cd_pieces_at ct_pieces_at), sl_pieces_at⟩)
    (e_pieces_at : PySem.W.codeIn K cd_pieces_at "pieces_at" = true)
    (k_pieces_at : PySem.W.keepIn K (.ref f_pieces_at) = true)
    (a_values_at : PySem.W.nsIn K mainGlobals "values_at" = some (some (.ref f_values_at)))
    (l_values_at : K.lookup f_values_at = some ⟨oc_values_at, od_values_at, .func (PySem.W.fnOf "values_at" "values_at" (defArgs s_values_at) (defBody s_values_at) (defScope s_values_at) .none kV_values_at dc_values_at pm_values_at an_values_at cd_values_at ct_values_at), sl_values_at⟩)
    (e_values_at : PySem.W.codeIn K cd_values_at "values_at" = true)
    (k_values_at : PySem.W.keepIn K (.ref f_values_at) = true)
    (a__law_right : PySem.W.nsIn K mainGlobals "_law_right" = some (some (.ref f__law_right)))
    (l__law_right : K.lookup f__law_right = some ⟨oc__law_right, od__law_right, .func (PySem.W.fnOf "_law_right" "_law_right" (defArgs s__law_right) (defBody s__law_right) (defScope s__law_right) .none kV__law_right dc__law_right pm__law_right an__law_right cd__law_right ct__law_right), sl__law_right⟩)
    (e__law_right : PySem.W.codeIn K cd__law_right "_law_right" = true)
    (k__law_right : PySem.W.keepIn K (.ref f__law_right) = true)
    (a_law : PySem.W.nsIn K mainGlobals "law" = some (some (.ref f_law)))
    (l_law : K.lookup f_law = some ⟨oc_law, od_law, .func (PySem.W.fnOf "law" "law" (defArgs s_law) (defBody s_law) (defScope s_law) .none kV_law dc_law pm_law an_law cd_law ct_law), sl_law⟩)
    (e_law : PySem.W.codeIn K cd_law "law" = true)
    (k_law : PySem.W.keepIn K (.ref f_law) = true)
    (a_Curve : PySem.W.nsIn K mainGlobals "Curve" = some (some (.ref c_Curve)))
    (pg_Curve : PySem.W.plainGet K c_Curve Str.empty = true)
    (hd_Curve : PySem.W.hasDictIn K c_Curve = true)
    (po_Curve : PySem.W.plainOver K c_Curve = true)
    (sa_Curve : PySem.W.findIn K (.ref c_Curve) "__setattr__" = some (some (.builtin "object.__setattr__")))
    (no_Curve__pieces : PySem.W.findIn K (.ref c_Curve) "_pieces" = some none)
    (at_Curve_d_init_d : PySem.W.findIn K (.ref c_Curve) "__init__" = some (some (.ref f_Curve_d_init_d)))
    (fn_Curve_d_init_d : PySem.W.isFn K (.ref f_Curve_d_init_d) = true)
    (mk_Curve : PySem.W.makesIn K c_Curve = true)
    (kc_Curve : PySem.W.keepIn K (.ref c_Curve) = true)
    (pa_Curve_points : PySem.W.findIn K (.ref c_Curve) "points" = some (some (.ref p_Curve_points)))
    (pa_Curve_slope : PySem.W.findIn K (.ref c_Curve) "slope" = some (some (.ref p_Curve_slope)))
    (at_Curve_widths_of : PySem.W.findIn K (.ref c_Curve) "widths_of" = some (some (.ref f_Curve_widths_of)))
    (fn_Curve_widths_of : PySem.W.isFn K (.ref f_Curve_widths_of) = true)
    (at_Curve_d_call_d : PySem.W.findIn K (.ref c_Curve) "__call__" = some (some (.ref f_Curve_d_call_d)))
    (fn_Curve_d_call_d : PySem.W.isFn K (.ref f_Curve_d_call_d) = true)
    (fi_Curve_d_call_d : PySem.W.fnIn K f_Curve_d_call_d = true)
    (ia_Curve : PySem.W.findIn K (.ref c_Curve) "__class__" = some (some (.builtin "object.__class__")))
    (ib_Curve : PySem.W.specialIn K (.builtin "object.__class__") "__get__" = some (some (.builtin "getset_descriptor.__get__")))
    (ic_Curve : PySem.W.takesIn K (.builtin "object.__class__") = some true)
    (id_Curve : PySem.W.mroIn K c_Curve (.type "object") = some true)
    (x_MOST_POINTS : PySem.W.nsIn K mainGlobals "MOST_POINTS" = some (some (.int 200 tk_MOST_POINTS)))
    (x_ZERO : PySem.W.nsIn K mainGlobals "ZERO" = some (some (.ref z_ZERO)))
    (y_ZERO : K.lookup z_ZERO = some ⟨.type "tuple", od_ZERO, .seq #[.int 0 ta_ZERO, .int 1 tb_ZERO] nn_ZERO, sl_ZERO⟩)
    (x_abs : PySem.W.nsIn K mainGlobals "abs" = some none)
    (x_all : PySem.W.nsIn K mainGlobals "all" = some none)
    (x_bool : PySem.W.nsIn K mainGlobals "bool" = some none)
    (x_enumerate : PySem.W.nsIn K mainGlobals "enumerate" = some none)
    (x_gcd : PySem.W.nsIn K mainGlobals "gcd" = some (some (.builtin "math.gcd")))
    (x_int : PySem.W.nsIn K mainGlobals "int" = some none)
    (x_isinstance : PySem.W.nsIn K mainGlobals "isinstance" = some none)
    (x_len : PySem.W.nsIn K mainGlobals "len" = some none)
    (x_list : PySem.W.nsIn K mainGlobals "list" = some none)
    (x_max : PySem.W.nsIn K mainGlobals "max" = some none)
    (x_min : PySem.W.nsIn K mainGlobals "min" = some none)
    (x_range : PySem.W.nsIn K mainGlobals "range" = some none)
    (x_tuple : PySem.W.nsIn K mainGlobals "tuple" = some none)
    (x_zip : PySem.W.nsIn K mainGlobals "zip" = some none)
    (l_Curve_d_init_d : K.lookup f_Curve_d_init_d = some ⟨oc_Curve_d_init_d, od_Curve_d_init_d, .func (PySem.W.fnOf "__init__" "Curve.__init__" (defArgs s_Curve_d_init_d) (defBody s_Curve_d_init_d) (defScope s_Curve_d_init_d) .none kV_Curve_d_init_d dc_Curve_d_init_d pm_Curve_d_init_d an_Curve_d_init_d cd_Curve_d_init_d ct_Curve_d_init_d), sl_Curve_d_init_d⟩)
    (e_Curve_d_init_d : PySem.W.codeIn K cd_Curve_d_init_d "Curve.__init__" = true)
    (k_Curve_d_init_d : PySem.W.keepIn K (.ref f_Curve_d_init_d) = true)
    (l_Curve_widths_of : K.lookup f_Curve_widths_of = some ⟨oc_Curve_widths_of, od_Curve_widths_of, .func (PySem.W.fnOf "widths_of" "Curve.widths_of" (defArgs s_Curve_widths_of) (defBody s_Curve_widths_of) (defScope s_Curve_widths_of) .none kV_Curve_widths_of dc_Curve_widths_of pm_Curve_widths_of an_Curve_widths_of cd_Curve_widths_of ct_Curve_widths_of), sl_Curve_widths_of⟩)
    (e_Curve_widths_of : PySem.W.codeIn K cd_Curve_widths_of "Curve.widths_of" = true)
    (k_Curve_widths_of : PySem.W.keepIn K (.ref f_Curve_widths_of) = true)
    (l_Curve_d_call_d : K.lookup f_Curve_d_call_d = some ⟨oc_Curve_d_call_d, od_Curve_d_call_d, .func (PySem.W.fnOf "__call__" "Curve.__call__" (defArgs s_Curve_d_call_d) (defBody s_Curve_d_call_d) (defScope s_Curve_d_call_d) .none kV_Curve_d_call_d dc_Curve_d_call_d pm_Curve_d_call_d an_Curve_d_call_d cd_Curve_d_call_d ct_Curve_d_call_d), sl_Curve_d_call_d⟩)
    (e_Curve_d_call_d : PySem.W.codeIn K cd_Curve_d_call_d "Curve.__call__" = true)
    (k_Curve_d_call_d : PySem.W.keepIn K (.ref f_Curve_d_call_d) = true)
    (hmain : ∀ q : Ad, Tx K mg q → ∀ ns : List Int, ns.length ≤ 63 → W_law K (CIof q) [.scr ns] [] fun d _ => d = .bl true) :
    ∃ (fd : FuncData) (C : CI) (W : ZRC), (∀ (s : Shared) (u : Value), BindsTo s fd ⟨[u], []⟩ [("script", u)]) ∧ (∀ base : Heap, K.In base → base.Ns mainGlobals mg → FnG l.prog w K mg base 9 fa fd ["script"] (SpZ K C W)) ∧
      ∀ ns : List Int, ns.length ≤ 63 → W [.scr ns] [] fun d _ => d = .bl true := by
  have e : f_law = fa := by
    have q := (PySem.W.mg_of X G a_law).symm.trans hfa
    cases q
    rfl
  subst e
  let q : Ad := { f__law_dip_r0 := f__law_dip_r0, d__law_dip_r0 := (PySem.W.fnOf "_law_dip" "_law_dip" (defArgs s__law_dip_r0) (defBody s__law_dip_r0) (defScope s__law_dip_r0) .none kV__law_dip_r0 dc__law_dip_r0 pm__law_dip_r0 an__law_dip_r0 cd__law_dip_r0 ct__law_dip_r0), f__law_dip_r1 := f__law_dip_r1, d__law_dip_r1 := (PySem.W.fnOf "_law_dip" "_law_dip" (defArgs s__law_dip_r1) (defBody s__law_dip_r1) (defScope s__law_dip_r1) .none kV__law_dip_r1 dc__law_dip_r1 pm__law_dip_r1 an__law_dip_r1 cd__law_dip_r1 ct__law_dip_r1), f__law_dip_r2 := f__law_dip_r2, d__law_dip_r2 := (PySem.W.fnOf "_law_dip" "_law_dip" (defArgs s__law_dip_r2) (defBody s__law_dip_r2) (defScope s__law_dip_r2) .none kV__law_dip_r2 dc__law_dip_r2 pm__law_dip_r2 an__law_dip_r2 cd__law_dip_r2 ct__law_dip_r2), f__law_cut := f__law_cut, d__law_cut := (PySem.W.fnOf "_law_cut" "_law_cut" (defArgs s__law_cut) (defBody s__law_cut) (defScope s__law_cut) .none kV__law_cut dc__law_cut pm__law_cut an__law_cut cd__law_cut ct__law_cut), f__law_plus := f__law_plus, d__law_plus := (PySem.W.fnOf "_law_plus" "_law_plus" (defArgs s__law_plus) (defBody s__law_plus) (defScope s__law_plus) .none kV__law_plus dc__law_plus pm__law_plus an__law_plus cd__law_plus ct__law_plus), f__law_product := f__law_product, d__law_product := (PySem.W.fnOf "_law_product" "_law_product" (defArgs s__law_product) (defBody s__law_product) (defScope s__law_product) .none kV__law_product dc__law_product pm__law_product an__law_product cd__law_product ct__law_product), f__law_long := f__law_long, d__law_long := (PySem.W.fnOf "_law_long" "_law_long" (defArgs s__law_long) (defBody s__law_long) (defScope s__law_long) .none kV__law_long dc__law_long pm__law_long an__law_long cd__law_long ct__law_long), f_is_int := f_is_int, d_is_int := (PySem.W.fnOf "is_int" "is_int" (defArgs s_is_int) (defBody s_is_int) (defScope s_is_int) .none kV_is_int dc_is_int pm_is_int an_is_int cd_is_int ct_is_int), f_is_fraction := f_is_fraction, d_is_fraction := (PySem.W.fnOf "is_fraction" "is_fraction" (defArgs s_is_fraction) (defBody s_is_fraction) (defScope s_is_fraction) .none kV_is_fraction dc_is_fraction pm_is_fraction an_is_fraction cd_is_fraction ct_is_fraction), f_is_positive_or_zero := f_is_positive_or_zero, d_is_positive_or_zero := (PySem.W.fnOf "is_positive_or_zero" "is_positive_or_zero" (defArgs s_is_positive_or_zero) (defBody s_is_positive_or_zero) (defScope s_is_positive_or_zero) .none kV_is_positive_or_zero dc_is_positive_or_zero pm_is_positive_or_zero an_is_positive_or_zero cd_is_positive_or_zero ct_is_positive_or_zero), f_is_point := f_is_point, d_is_point := (PySem.W.fnOf "is_point" "is_point" (defArgs s_is_point) (defBody s_is_point) (defScope s_is_point) .none kV_is_point dc_is_point pm_is_point an_is_point cd_is_point ct_is_point), f_order := f_order, d_order := (PySem.W.fnOf "order" "order" (defArgs s_order) (defBody s_order) (defScope s_order) .none kV_order dc_order pm_order an_order cd_order ct_order), f_are_points := f_are_points, d_are_points := (PySem.W.fnOf "are_points" "are_points" (defArgs s_are_points) (defBody s_are_points) (defScope s_are_points) .none kV_are_points dc_are_points pm_are_points an_are_points cd_are_points ct_are_points), f_joined := f_joined, d_joined := (PySem.W.fnOf "joined" "joined" (defArgs s_joined) (defBody s_joined) (defScope s_joined) .none kV_joined dc_joined pm_joined an_joined cd_joined ct_joined), f_lowest := f_lowest, d_lowest := (PySem.W.fnOf "lowest" "lowest" (defArgs s_lowest) (defBody s_lowest) (defScope s_lowest) .none kV_lowest dc_lowest pm_lowest an_lowest cd_lowest ct_lowest), f_over := f_over, d_over := (PySem.W.fnOf "over" "over" (defArgs s_over) (defBody s_over) (defScope s_over) .none kV_over dc_over pm_over an_over cd_over ct_over), f_minus := f_minus, d_minus := (PySem.W.fnOf "minus" "minus" (defArgs s_minus) (defBody s_minus) (defScope s_minus) .none kV_minus dc_minus pm_minus an_minus cd_minus ct_minus), f_pieces_between := f_pieces_between, d_pieces_between := (PySem.W.fnOf "pieces_between" "pieces_between" (defArgs s_pieces_between) (defBody s_pieces_between) (defScope s_pieces_between) .none kV_pieces_between dc_pieces_between pm_pieces_between an_pieces_between cd_pieces_between ct_pieces_between), f_Curve_d_init_d := f_Curve_d_init_d, d_Curve_d_init_d := (PySem.W.fnOf "__init__" "Curve.__init__" (defArgs s_Curve_d_init_d) (defBody s_Curve_d_init_d) (defScope s_Curve_d_init_d) .none kV_Curve_d_init_d dc_Curve_d_init_d pm_Curve_d_init_d an_Curve_d_init_d cd_Curve_d_init_d ct_Curve_d_init_d), f_is_rational := f_is_rational, d_is_rational := (PySem.W.fnOf "is_rational" "is_rational" (defArgs s_is_rational) (defBody s_is_rational) (defScope s_is_rational) .none kV_is_rational dc_is_rational pm_is_rational an_is_rational cd_is_rational ct_is_rational), f_as_fraction := f_as_fraction, d_as_fraction := (PySem.W.fnOf "as_fraction" "as_fraction" (defArgs s_as_fraction) (defBody s_as_fraction) (defScope s_as_fraction) .none kV_as_fraction dc_as_fraction pm_as_fraction an_as_fraction cd_as_fraction ct_as_fraction), f_last_up_to := f_last_up_to, d_last_up_to := (PySem.W.fnOf "last_up_to" "last_up_to" (defArgs s_last_up_to) (defBody s_last_up_to) (defScope s_last_up_to) .none kV_last_up_to dc_last_up_to pm_last_up_to an_last_up_to cd_last_up_to ct_last_up_to), f_plus := f_plus, d_plus := (PySem.W.fnOf "plus" "plus" (defArgs s_plus) (defBody s_plus) (defScope s_plus) .none kV_plus dc_plus pm_plus an_plus cd_plus ct_plus), f_widths_inside := f_widths_inside, d_widths_inside := (PySem.W.fnOf "widths_inside" "widths_inside" (defArgs s_widths_inside) (defBody s_widths_inside) (defScope s_widths_inside) .none kV_widths_inside dc_widths_inside pm_widths_inside an_widths_inside cd_widths_inside ct_widths_inside), f_widths_with_value := f_widths_with_value, d_widths_with_value := (PySem.W.fnOf "widths_with_value" "widths_with_value" (defArgs s_widths_with_value) (defBody s_widths_with_value) (defScope s_widths_with_value) .none kV_widths_with_value dc_widths_with_value pm_widths_with_value an_widths_with_value cd_widths_with_value ct_widths_with_value), f_Curve_widths_of := f_Curve_widths_of, d_Curve_widths_of := (PySem.W.fnOf "widths_of" "Curve.widths_of" (defArgs s_Curve_widths_of) (defBody s_Curve_widths_of) (defScope s_Curve_widths_of) .none kV_Curve_widths_of dc_Curve_widths_of pm_Curve_widths_of an_Curve_widths_of cd_Curve_widths_of ct_Curve_widths_of), f__law_less := f__law_less, d__law_less := (PySem.W.fnOf "_law_less" "_law_less" (defArgs s__law_less) (defBody s__law_less) (defScope s__law_less) .none kV__law_less dc__law_less pm__law_less an__law_less cd__law_less ct__law_less), f__law_widths_with := f__law_widths_with, d__law_widths_with := (PySem.W.fnOf "_law_widths_with" "_law_widths_with" (defArgs s__law_widths_with) (defBody s__law_widths_with) (defScope s__law_widths_with) .none kV__law_widths_with dc__law_widths_with pm__law_widths_with an__law_widths_with cd__law_widths_with ct__law_widths_with), f__law_long_right := f__law_long_right, d__law_long_right := (PySem.W.fnOf "_law_long_right" "_law_long_right" (defArgs s__law_long_right) (defBody s__law_long_right) (defScope s__law_long_right) .none kV__law_long_right dc__law_long_right pm__law_long_right an__law_long_right cd__law_long_right ct__law_long_right), f__law_spring := f__law_spring, d__law_spring := (PySem.W.fnOf "_law_spring" "_law_spring" (defArgs s__law_spring) (defBody s__law_spring) (defScope s__law_spring) .none kV__law_spring dc__law_spring pm__law_spring an__law_spring cd__law_spring ct__law_spring), f__law_rise := f__law_rise, d__law_rise := (PySem.W.fnOf "_law_rise" "_law_rise" (defArgs s__law_rise) (defBody s__law_rise) (defScope s__law_rise) .none kV__law_rise dc__law_rise pm__law_rise an__law_rise cd__law_rise ct__law_rise), f__law_drawn := f__law_drawn, d__law_drawn := (PySem.W.fnOf "_law_drawn" "_law_drawn" (defArgs s__law_drawn) (defBody s__law_drawn) (defScope s__law_drawn) .none kV__law_drawn dc__law_drawn pm__law_drawn an__law_drawn cd__law_drawn ct__law_drawn), f_check_width := f_check_width, d_check_width := (PySem.W.fnOf "check_width" "check_width" (defArgs s_check_width) (defBody s_check_width) (defScope s_check_width) .none kV_check_width dc_check_width pm_check_width an_check_width cd_check_width ct_check_width), f_times := f_times, d_times := (PySem.W.fnOf "times" "times" (defArgs s_times) (defBody s_times) (defScope s_times) .none kV_times dc_times pm_times an_times cd_times ct_times), f_value_on := f_value_on, d_value_on := (PySem.W.fnOf "value_on" "value_on" (defArgs s_value_on) (defBody s_value_on) (defScope s_value_on) .none kV_value_on dc_value_on pm_value_on an_value_on cd_value_on ct_value_on), f_pieces_at := f_pieces_at, d_pieces_at := (PySem.W.fnOf "pieces_at" "pieces_at" (defArgs s_pieces_at) (defBody s_pieces_at) (defScope s_pieces_at) .none kV_pieces_at dc_pieces_at pm_pieces_at an_pieces_at cd_pieces_at ct_pieces_at), f_values_at := f_values_at, d_values_at := (PySem.W.fnOf "values_at" "values_at" (defArgs s_values_at) (defBody s_values_at) (defScope s_values_at) .none kV_values_at dc_values_at pm_values_at an_values_at cd_values_at ct_values_at), f_Curve_d_call_d := f_Curve_d_call_d, d_Curve_d_call_d := (PySem.W.fnOf "__call__" "Curve.__call__" (defArgs s_Curve_d_call_d) (defBody s_Curve_d_call_d) (defScope s_Curve_d_call_d) .none kV_Curve_d_call_d dc_Curve_d_call_d pm_Curve_d_call_d an_Curve_d_call_d cd_Curve_d_call_d ct_Curve_d_call_d), f__law_right := f__law_right, d__law_right := (PySem.W.fnOf "_law_right" "_law_right" (defArgs s__law_right) (defBody s__law_right) (defScope s__law_right) .none kV__law_right dc__law_right pm__law_right an__law_right cd__law_right ct__law_right), f_law := f_law, d_law := (PySem.W.fnOf "law" "law" (defArgs s_law) (defBody s_law) (defScope s_law) .none kV_law dc_law pm_law an_law cd_law ct_law), c_Curve := c_Curve, p_Curve_points := p_Curve_points, p_Curve_slope := p_Curve_slope }
  have T : Tx K mg q := {
    F__law_dip_r0 := (fun_mk (st := s__law_dip_r0) l__law_dip_r0 e__law_dip_r0 k__law_dip_r0)
    b__law_dip_r0 := ((fun_mk (st := s__law_dip_r0) l__law_dip_r0 e__law_dip_r0 k__law_dip_r0).binds (ps := ["spring", "bound"]) fun _ _ _ _ _ _ us hl => match us, hl with | [_, _], _ => rfl)
    m__law_dip_r0 := (PySem.W.mg_of X G a__law_dip_r0)
    F__law_dip_r1 := (fun_mk (st := s__law_dip_r1) l__law_dip_r1 e__law_dip_r1 k__law_dip_r1)
    b__law_dip_r1 := ((fun_mk (st := s__law_dip_r1) l__law_dip_r1 e__law_dip_r1 k__law_dip_r1).binds (ps := ["spring", "bound"]) fun _ _ _ _ _ _ us hl => match us, hl with | [_, _], _ => rfl)
    m__law_dip_r1 := (PySem.W.mg_of X G a__law_dip_r1)
    F__law_dip_r2 := (fun_mk (st := s__law_dip_r2) l__law_dip_r2 e__law_dip_r2 k__law_dip_r2)
    b__law_dip_r2 := ((fun_mk (st := s__law_dip_r2) l__law_dip_r2 e__law_dip_r2 k__law_dip_r2).binds (ps := ["spring", "bound"]) fun _ _ _ _ _ _ us hl => match us, hl with | [_, _], _ => rfl)
    m__law_dip_r2 := (PySem.W.mg_of X G a__law_dip_r2)
    F__law_cut := (fun_mk (st := s__law_cut) l__law_cut e__law_cut k__law_cut)
    b__law_cut := ((fun_mk (st := s__law_cut) l__law_cut e__law_cut k__law_cut).binds (ps := ["above", "below"]) fun _ _ _ _ _ _ us hl => match us, hl with | [_, _], _ => rfl)
    m__law_cut := (PySem.W.mg_of X G a__law_cut)
    F__law_plus := (fun_mk (st := s__law_plus) l__law_plus e__law_plus k__law_plus)
    b__law_plus := ((fun_mk (st := s__law_plus) l__law_plus e__law_plus k__law_plus).binds (ps := ["one", "two"]) fun _ _ _ _ _ _ us hl => match us, hl with | [_, _], _ => rfl)
    m__law_plus := (PySem.W.mg_of X G a__law_plus)
    F__law_product := (fun_mk (st := s__law_product) l__law_product e__law_product k__law_product)
    b__law_product := ((fun_mk (st := s__law_product) l__law_product e__law_product k__law_product).binds (ps := ["one", "two"]) fun _ _ _ _ _ _ us hl => match us, hl with | [_, _], _ => rfl)
    m__law_product := (PySem.W.mg_of X G a__law_product)
    F__law_long := (fun_mk (st := s__law_long) l__law_long e__law_long k__law_long)
    b__law_long := ((fun_mk (st := s__law_long) l__law_long e__law_long k__law_long).binds (ps := ["spring", "many", "begin"]) fun _ _ _ _ _ _ us hl => match us, hl with | [_, _, _], _ => rfl)
    m__law_long := (PySem.W.mg_of X G a__law_long)
    F_is_int := (fun_mk (st := s_is_int) l_is_int e_is_int k_is_int)
    b_is_int := ((fun_mk (st := s_is_int) l_is_int e_is_int k_is_int).binds (ps := ["value"]) fun _ _ _ _ _ _ us hl => match us, hl with | [_], _ => rfl)
    m_is_int := (PySem.W.mg_of X G a_is_int)
    F_is_fraction := (fun_mk (st := s_is_fraction) l_is_fraction e_is_fraction k_is_fraction)
    b_is_fraction := ((fun_mk (st := s_is_fraction) l_is_fraction e_is_fraction k_is_fraction).binds (ps := ["value"]) fun _ _ _ _ _ _ us hl => match us, hl with | [_], _ => rfl)
    m_is_fraction := (PySem.W.mg_of X G a_is_fraction)
    F_is_positive_or_zero := (fun_mk (st := s_is_positive_or_zero) l_is_positive_or_zero e_is_positive_or_zero k_is_positive_or_zero)
    b_is_positive_or_zero := ((fun_mk (st := s_is_positive_or_zero) l_is_positive_or_zero e_is_positive_or_zero k_is_positive_or_zero).binds (ps := ["value"]) fun _ _ _ _ _ _ us hl => match us, hl with | [_], _ => rfl)
    m_is_positive_or_zero := (PySem.W.mg_of X G a_is_positive_or_zero)
    F_is_point := (fun_mk (st := s_is_point) l_is_point e_is_point k_is_point)
    b_is_point := ((fun_mk (st := s_is_point) l_is_point e_is_point k_is_point).binds (ps := ["value"]) fun _ _ _ _ _ _ us hl => match us, hl with | [_], _ => rfl)
    m_is_point := (PySem.W.mg_of X G a_is_point)
    F_order := (fun_mk (st := s_order) l_order e_order k_order)
    b_order := ((fun_mk (st := s_order) l_order e_order k_order).binds (ps := ["one", "two"]) fun _ _ _ _ _ _ us hl => match us, hl with | [_, _], _ => rfl)
    m_order := (PySem.W.mg_of X G a_order)
    F_are_points := (fun_mk (st := s_are_points) l_are_points e_are_points k_are_points)
    b_are_points := ((fun_mk (st := s_are_points) l_are_points e_are_points k_are_points).binds (ps := ["points"]) fun _ _ _ _ _ _ us hl => match us, hl with | [_], _ => rfl)
    m_are_points := (PySem.W.mg_of X G a_are_points)
    F_joined := (fun_mk (st := s_joined) l_joined e_joined k_joined)
    b_joined := ((fun_mk (st := s_joined) l_joined e_joined k_joined).binds (ps := ["pieces"]) fun _ _ _ _ _ _ us hl => match us, hl with | [_], _ => rfl)
    m_joined := (PySem.W.mg_of X G a_joined)
    F_lowest := (fun_mk (st := s_lowest) l_lowest e_lowest k_lowest)
    b_lowest := ((fun_mk (st := s_lowest) l_lowest e_lowest k_lowest).binds (ps := ["p", "q"]) fun _ _ _ _ _ _ us hl => match us, hl with | [_, _], _ => rfl)
    m_lowest := (PySem.W.mg_of X G a_lowest)
    F_over := (fun_mk (st := s_over) l_over e_over k_over)
    b_over := ((fun_mk (st := s_over) l_over e_over k_over).binds (ps := ["one", "two"]) fun _ _ _ _ _ _ us hl => match us, hl with | [_, _], _ => rfl)
    m_over := (PySem.W.mg_of X G a_over)
    F_minus := (fun_mk (st := s_minus) l_minus e_minus k_minus)
    b_minus := ((fun_mk (st := s_minus) l_minus e_minus k_minus).binds (ps := ["one", "two"]) fun _ _ _ _ _ _ us hl => match us, hl with | [_, _], _ => rfl)
    m_minus := (PySem.W.mg_of X G a_minus)
    F_pieces_between := (fun_mk (st := s_pieces_between) l_pieces_between e_pieces_between k_pieces_between)
    b_pieces_between := ((fun_mk (st := s_pieces_between) l_pieces_between e_pieces_between k_pieces_between).binds (ps := ["points", "slope"]) fun _ _ _ _ _ _ us hl => match us, hl with | [_, _], _ => rfl)
    m_pieces_between := (PySem.W.mg_of X G a_pieces_between)
    F_Curve_d_init_d := (fun_mk (st := s_Curve_d_init_d) l_Curve_d_init_d e_Curve_d_init_d k_Curve_d_init_d)
    b_Curve_d_init_d := ((fun_mk (st := s_Curve_d_init_d) l_Curve_d_init_d e_Curve_d_init_d k_Curve_d_init_d).binds (ps := ["self", "points", "slope"]) fun _ _ _ _ _ _ us hl => match us, hl with | [_, _, _], _ => rfl)
    F_is_rational := (fun_mk (st := s_is_rational) l_is_rational e_is_rational k_is_rational)
    b_is_rational := ((fun_mk (st := s_is_rational) l_is_rational e_is_rational k_is_rational).binds (ps := ["value"]) fun _ _ _ _ _ _ us hl => match us, hl with | [_], _ => rfl)
    m_is_rational := (PySem.W.mg_of X G a_is_rational)
    F_as_fraction := (fun_mk (st := s_as_fraction) l_as_fraction e_as_fraction k_as_fraction)
    b_as_fraction := ((fun_mk (st := s_as_fraction) l_as_fraction e_as_fraction k_as_fraction).binds (ps := ["value"]) fun _ _ _ _ _ _ us hl => match us, hl with | [_], _ => rfl)
    m_as_fraction := (PySem.W.mg_of X G a_as_fraction)
    F_last_up_to := (fun_mk (st := s_last_up_to) l_last_up_to e_last_up_to k_last_up_to)
    b_last_up_to := ((fun_mk (st := s_last_up_to) l_last_up_to e_last_up_to k_last_up_to).binds (ps := ["starts", "value"]) fun _ _ _ _ _ _ us hl => match us, hl with | [_, _], _ => rfl)
    m_last_up_to := (PySem.W.mg_of X G a_last_up_to)
    F_plus := (fun_mk (st := s_plus) l_plus e_plus k_plus)
    b_plus := ((fun_mk (st := s_plus) l_plus e_plus k_plus).binds (ps := ["one", "two"]) fun _ _ _ _ _ _ us hl => match us, hl with | [_, _], _ => rfl)
    m_plus := (PySem.W.mg_of X G a_plus)
    F_widths_inside := (fun_mk (st := s_widths_inside) l_widths_inside e_widths_inside k_widths_inside)
    b_widths_inside := ((fun_mk (st := s_widths_inside) l_widths_inside e_widths_inside k_widths_inside).binds (ps := ["pieces", "values"]) fun _ _ _ _ _ _ us hl => match us, hl with | [_, _], _ => rfl)
    m_widths_inside := (PySem.W.mg_of X G a_widths_inside)
    F_widths_with_value := (fun_mk (st := s_widths_with_value) l_widths_with_value e_widths_with_value k_widths_with_value)
    b_widths_with_value := ((fun_mk (st := s_widths_with_value) l_widths_with_value e_widths_with_value k_widths_with_value).binds (ps := ["pieces", "value"]) fun _ _ _ _ _ _ us hl => match us, hl with | [_, _], _ => rfl)
    m_widths_with_value := (PySem.W.mg_of X G a_widths_with_value)
    F_Curve_widths_of := (fun_mk (st := s_Curve_widths_of) l_Curve_widths_of e_Curve_widths_of k_Curve_widths_of)
    b_Curve_widths_of := ((fun_mk (st := s_Curve_widths_of) l_Curve_widths_of e_Curve_widths_of k_Curve_widths_of).binds (ps := ["self", "value"]) fun _ _ _ _ _ _ us hl => match us, hl with | [_, _], _ => rfl)
    F__law_less := (fun_mk (st := s__law_less) l__law_less e__law_less k__law_less)
    b__law_less := ((fun_mk (st := s__law_less) l__law_less e__law_less k__law_less).binds (ps := ["one", "two"]) fun _ _ _ _ _ _ us hl => match us, hl with | [_, _], _ => rfl)
    m__law_less := (PySem.W.mg_of X G a__law_less)
    F__law_widths_with := (fun_mk (st := s__law_widths_with) l__law_widths_with e__law_widths_with k__law_widths_with)
    b__law_widths_with := ((fun_mk (st := s__law_widths_with) l__law_widths_with e__law_widths_with k__law_widths_with).binds (ps := ["points_here", "rises", "value"]) fun _ _ _ _ _ _ us hl => match us, hl with | [_, _, _], _ => rfl)
    m__law_widths_with := (PySem.W.mg_of X G a__law_widths_with)
    F__law_long_right := (fun_mk (st := s__law_long_right) l__law_long_right e__law_long_right k__law_long_right)
    b__law_long_right := ((fun_mk (st := s__law_long_right) l__law_long_right e__law_long_right k__law_long_right).binds (ps := ["spring"]) fun _ _ _ _ _ _ us hl => match us, hl with | [_], _ => rfl)
    m__law_long_right := (PySem.W.mg_of X G a__law_long_right)
    F__law_spring := (fun_mk (st := s__law_spring) l__law_spring e__law_spring k__law_spring)
    b__law_spring := ((fun_mk (st := s__law_spring) l__law_spring e__law_spring k__law_spring).binds (ps := ["script", "k"]) fun _ _ _ _ _ _ us hl => match us, hl with | [_, _], _ => rfl)
    m__law_spring := (PySem.W.mg_of X G a__law_spring)
    F__law_rise := (fun_mk (st := s__law_rise) l__law_rise e__law_rise k__law_rise)
    b__law_rise := ((fun_mk (st := s__law_rise) l__law_rise e__law_rise k__law_rise).binds (ps := ["spring"]) fun _ _ _ _ _ _ us hl => match us, hl with | [_], _ => rfl)
    m__law_rise := (PySem.W.mg_of X G a__law_rise)
    F__law_drawn := (fun_mk (st := s__law_drawn) l__law_drawn e__law_drawn k__law_drawn)
    b__law_drawn := ((fun_mk (st := s__law_drawn) l__law_drawn e__law_drawn k__law_drawn).binds (ps := ["spring", "many", "wide"]) fun _ _ _ _ _ _ us hl => match us, hl with | [_, _, _], _ => rfl)
    m__law_drawn := (PySem.W.mg_of X G a__law_drawn)
    F_check_width := (fun_mk (st := s_check_width) l_check_width e_check_width k_check_width)
    b_check_width := ((fun_mk (st := s_check_width) l_check_width e_check_width k_check_width).binds (ps := ["width"]) fun _ _ _ _ _ _ us hl => match us, hl with | [_], _ => rfl)
    m_check_width := (PySem.W.mg_of X G a_check_width)
    F_times := (fun_mk (st := s_times) l_times e_times k_times)
    b_times := ((fun_mk (st := s_times) l_times e_times k_times).binds (ps := ["one", "two"]) fun _ _ _ _ _ _ us hl => match us, hl with | [_, _], _ => rfl)
    m_times := (PySem.W.mg_of X G a_times)
    F_value_on := (fun_mk (st := s_value_on) l_value_on e_value_on k_value_on)
    b_value_on := ((fun_mk (st := s_value_on) l_value_on e_value_on k_value_on).binds (ps := ["piece", "width"]) fun _ _ _ _ _ _ us hl => match us, hl with | [_, _], _ => rfl)
    m_value_on := (PySem.W.mg_of X G a_value_on)
    F_pieces_at := (fun_mk (st := s_pieces_at) l_pieces_at e_pieces_at k_pieces_at)
    b_pieces_at := ((fun_mk (st := s_pieces_at) l_pieces_at e_pieces_at k_pieces_at).binds (ps := ["pieces", "widths"]) fun _ _ _ _ _ _ us hl => match us, hl with | [_, _], _ => rfl)
    m_pieces_at := (PySem.W.mg_of X G a_pieces_at)
    F_values_at := (fun_mk (st := s_values_at) l_values_at e_values_at k_values_at)
    b_values_at := ((fun_mk (st := s_values_at) l_values_at e_values_at k_values_at).binds (ps := ["pieces", "widths"]) fun _ _ _ _ _ _ us hl => match us, hl with | [_, _], _ => rfl)
    m_values_at := (PySem.W.mg_of X G a_values_at)
    F_Curve_d_call_d := (fun_mk (st := s_Curve_d_call_d) l_Curve_d_call_d e_Curve_d_call_d k_Curve_d_call_d)
    b_Curve_d_call_d := ((fun_mk (st := s_Curve_d_call_d) l_Curve_d_call_d e_Curve_d_call_d k_Curve_d_call_d).binds (ps := ["self", "width"]) fun _ _ _ _ _ _ us hl => match us, hl with | [_, _], _ => rfl)
    F__law_right := (fun_mk (st := s__law_right) l__law_right e__law_right k__law_right)
    b__law_right := ((fun_mk (st := s__law_right) l__law_right e__law_right k__law_right).binds (ps := ["spring", "points_here", "rises"]) fun _ _ _ _ _ _ us hl => match us, hl with | [_, _, _], _ => rfl)
    m__law_right := (PySem.W.mg_of X G a__law_right)
    F_law := (fun_mk (st := s_law) l_law e_law k_law)
    b_law := ((fun_mk (st := s_law) l_law e_law k_law).binds (ps := ["script"]) fun _ _ _ _ _ _ us hl => match us, hl with | [_], _ => rfl)
    m_law := (PySem.W.mg_of X G a_law)
    m_Curve := (PySem.W.mg_of X G a_Curve)
    cl_Curve := (⟨pg_Curve, hd_Curve, po_Curve, sa_Curve⟩)
    no_Curve__pieces := (no_Curve__pieces)
    mk_Curve := (⟨mk_Curve, at_Curve_d_init_d, fn_Curve_d_init_d, kc_Curve⟩)
    me_Curve_widths_of := (⟨at_Curve_widths_of, fn_Curve_widths_of, k_Curve_widths_of⟩)
    co_Curve := (⟨at_Curve_d_call_d, fn_Curve_d_call_d, fi_Curve_d_call_d⟩)
    is_Curve := (⟨⟨pg_Curve, hd_Curve, po_Curve, sa_Curve⟩, ia_Curve, ib_Curve, ic_Curve, id_Curve⟩)
    c_MOST_POINTS := (⟨_, PySem.W.mg_of X G x_MOST_POINTS⟩)
    c_ZERO := (⟨_, PySem.W.mg_of X G x_ZERO, ktup2 y_ZERO⟩)
    n_abs := (PySem.W.mg_none_of X G x_abs)
    n_all := (PySem.W.mg_none_of X G x_all)
    n_bool := (PySem.W.mg_none_of X G x_bool)
    n_enumerate := (PySem.W.mg_none_of X G x_enumerate)
    g_gcd := (PySem.W.mg_of X G x_gcd)
    n_int := (PySem.W.mg_none_of X G x_int)
    n_isinstance := (PySem.W.mg_none_of X G x_isinstance)
    n_len := (PySem.W.mg_none_of X G x_len)
    n_list := (PySem.W.mg_none_of X G x_list)
    n_max := (PySem.W.mg_none_of X G x_max)
    n_min := (PySem.W.mg_none_of X G x_min)
    n_range := (PySem.W.mg_none_of X G x_range)
    n_tuple := (PySem.W.mg_none_of X G x_tuple)
    n_zip := (PySem.W.mg_none_of X G x_zip) }
  exact ⟨q.d_law, CIof q, W_law K (CIof q), fun s u => .of_eq rfl, fun base _ _ => fng_of (ok_law T), hmain q T⟩
end Bx

namespace Bx
open PySem PySem.Spec PyProof.Rows L2 Z
local macro_rules | `(tactic| walk_at "zz") => `(tactic| simp only [zSeq, zAsg, zRet, zRetN, zIfS, zNext, zDrop, zPar, zPar3, zAug, zDivmod, zIndex, zCatT, zSlT, zMeth, zVar, zC, zOp, zUn, zNeg, zI0, zI, zTest, zAnd, zOr, zNot, zAndV, zOrV, zNotV, zIf, zNil, zCons, zTup, zLst, zLstC, zgName, zgTup, zgCons, zgNil, zgSub, startZ, zCall, zCB, zChain, zIsN, zNotN, zNever,
  zAddA, zMulA, zRepeat, zCat, zIx, seqD, lstD, zMax2, zMin2, zAbs, zLen, zSum, zGcd, zInt, zYes, zBreak, zCont, zMin1, zMax1, zList, zListC, zLcC, zLc, ziR1, ziR2, ziList, ziTup, ziZip, ziEnum, wipeZ, zFor, zSl, zPart, zNoPart, zAppend, zLstR1, zLstR2, zCallBC, zCallBF, zBits, zTru, zProp, zCallO,
  at0, at1, at2, at3, at4, ix2_3, ix0_3, isNon_int, isNon_non, Bool.not_true, Bool.not_false,
  List.map_cons, List.map_nil, List.length_cons, List.length_nil, List.replicate_succ, List.replicate_zero, List.append_nil, List.nil_append, List.cons_append, List.getElem?_cons_zero, List.getElem?_cons_succ, List.set_cons_zero, List.set_cons_succ,
  Option.some.injEq, D.int.injEq, D.bl.injEq, D.tup.injEq, D.lst.injEq, D.str.injEq, D.cell.injEq, O.lst.injEq, reduceCtorEq, exists_eq_left', exists_eq_left, false_and, and_false, true_and, and_true, exists_false, or_false, false_or, exists_and_left, exists_eq', exists_and_right, List.cons.injEq, and_assoc, dec_not, dec_yes, nd_t, nd_f, t_t, t_f, f_t, f_f, true_implies, false_implies, implies_true, and_self, Nat.reduceAdd, Nat.reduceLeDiff, Nat.reduceSub, Nat.reduceLT])
local macro_rules | `(tactic| walk_at "zy") => `(tactic| try simp only [Option.some.injEq, D.int.injEq, D.bl.injEq, D.tup.injEq, D.lst.injEq, D.str.injEq, D.cell.injEq, O.lst.injEq, reduceCtorEq, exists_eq_left', exists_eq_left, false_and, and_false, true_and, and_true, exists_false, or_false, false_or, exists_and_left, exists_eq', exists_and_right, List.cons.injEq, and_assoc, dec_not, dec_yes, nd_t, nd_f, t_t, t_f, f_t, f_f, true_implies, false_implies, implies_true, and_self])
theorem main {K : PySem.W.Frag} {mg : Str → Option Value} {q : Ad} (T : Tx K mg q) : ∀ ns : List Int, ns.length ≤ 63 → W_law K (CIof q) [.scr ns] [] fun d _ => d = .bl true := fun ns hl => law_ok ⟨T.is_Curve, rfl⟩ hl
end Bx

open PySem PySem.W PyProof.Rows
set_option maxRecDepth 100000 in
set_option maxHeartbeats 0 in
set_option pp.maxSteps 60 in
set_option pp.deepTerms false in
theorem PySem.Challenge.cw_boxrows_k18_widths_with_a_value_holds : PySem.Challenge.rw_boxrows_k18_widths_with_a_value.Holds := by
  w_on; o_law
  refine holds_open (r := OpenLaw.row PySem.Challenge.rw_boxrows_k18_widths_with_a_value) (q := Hd.qv) (loose := Hd.ll) (Xt := Hd.XX) (XP := XL Hd.qv []) (Yf := Hook.obs (kHook Hd.A.heap_39 Hd.as (fun _ => by kernel_rfl))) (Ya := Hook.val (kHook Hd.A.heap_39 Hd.as (fun _ => by kernel_rfl))) (YP := Hook.says (kHook Hd.A.heap_39 Hd.as (fun _ => by kernel_rfl))) (N := 30000) ?hl (Hook.of (kHook Hd.A.heap_39 Hd.as (fun _ => by kernel_rfl))) (Hook.keeps (kHook Hd.A.heap_39 Hd.as (fun _ => by kernel_rfl))) (fun s e => xl_of s (Bool.and_eq_true_iff.mp e).1) XL.keeps (by rfl) (by rfl) (by rfl) (fun s e => recFacts_of (Bool.and_eq_true_iff.mp e).2) (by rfl) (by first | assumption | decide +kernel) (by decide +kernel) ⟨rfl, rfl, rfl, rfl, rfl, by decide +kernel⟩ ?hw ?hc
  case hl => exact HeadRun.left_impK Hd.run
  case hw => w_witness2
  case hc =>
  k_fill
  refine Z.walkZ (l := PySem.Challenge.rw_boxrows_k18_widths_with_a_value) (n := 63) (k := 9) (x := "script") rfl (by decide) rfl ⟨rfl, by decide, by decide⟩ (fun w h Y => PySem.W.kIn_of Y) ?F
  case F =>
    intro w mg fa h KX Gm hmg
    refine' Bx.all_mk KX Gm hmg ?a__law_dip_r0 ?l__law_dip_r0 ?e__law_dip_r0 ?k__law_dip_r0 ?a__law_dip_r1 ?l__law_dip_r1 ?e__law_dip_r1 ?k__law_dip_r1 ?a__law_dip_r2 ?l__law_dip_r2 ?e__law_dip_r2 ?k__law_dip_r2 ?a__law_cut ?l__law_cut ?e__law_cut ?k__law_cut ?a__law_plus ?l__law_plus ?e__law_plus ?k__law_plus ?a__law_product ?l__law_product ?e__law_product ?k__law_product ?a__law_long ?l__law_long ?e__law_long ?k__law_long ?a_is_int ?l_is_int ?e_is_int ?k_is_int ?a_is_fraction ?l_is_fraction ?e_is_fraction ?k_is_fraction ?a_is_positive_or_zero ?l_is_positive_or_zero ?e_is_positive_or_zero ?k_is_positive_or_zero ?a_is_point ?l_is_point ?e_is_point ?k_is_point ?a_order ?l_order ?e_order ?k_order ?a_are_points ?l_are_points ?e_are_points ?k_are_points ?a_joined ?l_joined ?e_joined ?k_joined ?a_lowest ?l_lowest ?e_lowest ?k_lowest ?a_over ?l_over ?e_over ?k_over ?a_minus ?l_minus ?e_minus ?k_minus ?a_pieces_between ?l_pieces_between ?e_pieces_between ?k_pieces_between ?a_is_rational ?l_is_rational ?e_is_rational ?k_is_rational ?a_as_fraction ?l_as_fraction ?e_as_fraction ?k_as_fraction ?a_last_up_to ?l_last_up_to ?e_last_up_to ?k_last_up_to ?a_plus ?l_plus ?e_plus ?k_plus ?a_widths_inside ?l_widths_inside ?e_widths_inside ?k_widths_inside ?a_widths_with_value ?l_widths_with_value ?e_widths_with_value ?k_widths_with_value ?a__law_less ?l__law_less ?e__law_less ?k__law_less ?a__law_widths_with ?l__law_widths_with ?e__law_widths_with ?k__law_widths_with ?a__law_long_right ?l__law_long_right ?e__law_long_right ?k__law_long_right ?a__law_spring ?l__law_spring ?e__law_spring ?k__law_spring ?a__law_rise ?l__law_rise ?e__law_rise ?k__law_rise ?a__law_drawn ?l__law_drawn ?e__law_drawn ?k__law_drawn ?a_check_width ?l_check_width ?e_check_width ?k_check_width ?a_times ?l_times ?e_times ?k_times ?a_value_on ?l_value_on ?e_value_on ?k_value_on ?a_pieces_at ?l_pieces_at ?e_pieces_at ?k_pieces_at ?a_values_at ?l_values_at ?e_values_at ?k_values_at ?a__law_right ?l__law_right ?e__law_right ?k__law_right ?a_law ?l_law ?e_law ?k_law ?a_Curve ?pg_Curve ?hd_Curve ?po_Curve ?sa_Curve ?no_Curve__pieces ?at_Curve_d_init_d ?fn_Curve_d_init_d ?mk_Curve ?kc_Curve ?pa_Curve_points ?pa_Curve_slope ?at_Curve_widths_of ?fn_Curve_widths_of ?at_Curve_d_call_d ?fn_Curve_d_call_d ?fi_Curve_d_call_d ?ia_Curve ?ib_Curve ?ic_Curve ?id_Curve ?x_MOST_POINTS ?x_ZERO ?y_ZERO ?x_abs ?x_all ?x_bool ?x_enumerate ?x_gcd ?x_int ?x_isinstance ?x_len ?x_list ?x_max ?x_min ?x_range ?x_tuple ?x_zip ?l_Curve_d_init_d ?e_Curve_d_init_d ?k_Curve_d_init_d ?l_Curve_widths_of ?e_Curve_widths_of ?k_Curve_widths_of ?l_Curve_d_call_d ?e_Curve_d_call_d ?k_Curve_d_call_d ?main
    (case a__law_dip_r0 => k_is)
    (case l__law_dip_r0 => k_is)
    (case e__law_dip_r0 => k_is)
    (case k__law_dip_r0 => k_is)
    (case a__law_dip_r1 => k_is)
    (case l__law_dip_r1 => k_is)
    (case e__law_dip_r1 => k_is)
    (case k__law_dip_r1 => k_is)
    (case a__law_dip_r2 => k_is)
    (case l__law_dip_r2 => k_is)
    (case e__law_dip_r2 => k_is)
    (case k__law_dip_r2 => k_is)
    (case a__law_cut => k_is)
    (case l__law_cut => k_is)
    (case e__law_cut => k_is)
    (case k__law_cut => k_is)
    (case a__law_plus => k_is)
    (case l__law_plus => k_is)
    (case e__law_plus => k_is)
    (case k__law_plus => k_is)
    (case a__law_product => k_is)
    (case l__law_product => k_is)
    (case e__law_product => k_is)
    (case k__law_product => k_is)
    (case a__law_long => k_is)
    (case l__law_long => k_is)
    (case e__law_long => k_is)
    (case k__law_long => k_is)
    (case a_is_int => k_is)
    (case l_is_int => k_is)
    (case e_is_int => k_is)
    (case k_is_int => k_is)
    (case a_is_fraction => k_is)
    (case l_is_fraction => k_is)
    (case e_is_fraction => k_is)
    (case k_is_fraction => k_is)
    (case a_is_positive_or_zero => k_is)
    (case l_is_positive_or_zero => k_is)
    (case e_is_positive_or_zero => k_is)
    (case k_is_positive_or_zero => k_is)
    (case a_is_point => k_is)
    (case l_is_point => k_is)
    (case e_is_point => k_is)
    (case k_is_point => k_is)
    (case a_order => k_is)
    (case l_order => k_is)
    (case e_order => k_is)
    (case k_order => k_is)
    (case a_are_points => k_is)
    (case l_are_points => k_is)
    (case e_are_points => k_is)
    (case k_are_points => k_is)
    (case a_joined => k_is)
    (case l_joined => k_is)
    (case e_joined => k_is)
    (case k_joined => k_is)
    (case a_lowest => k_is)
    (case l_lowest => k_is)
    (case e_lowest => k_is)
    (case k_lowest => k_is)
    (case a_over => k_is)
    (case l_over => k_is)
    (case e_over => k_is)
    (case k_over => k_is)
    (case a_minus => k_is)
    (case l_minus => k_is)
    (case e_minus => k_is)
    (case k_minus => k_is)
    (case a_pieces_between => k_is)
    (case l_pieces_between => k_is)
    (case e_pieces_between => k_is)
    (case k_pieces_between => k_is)
    (case a_is_rational => k_is)
    (case l_is_rational => k_is)
    (case e_is_rational => k_is)
    (case k_is_rational => k_is)
    (case a_as_fraction => k_is)
    (case l_as_fraction => k_is)
    (case e_as_fraction => k_is)
    (case k_as_fraction => k_is)
    (case a_last_up_to => k_is)
    (case l_last_up_to => k_is)
    (case e_last_up_to => k_is)
    (case k_last_up_to => k_is)
    (case a_plus => k_is)
    (case l_plus => k_is)
    (case e_plus => k_is)
    (case k_plus => k_is)
    (case a_widths_inside => k_is)
    (case l_widths_inside => k_is)
    (case e_widths_inside => k_is)
    (case k_widths_inside => k_is)
    (case a_widths_with_value => k_is)
    (case l_widths_with_value => k_is)
    (case e_widths_with_value => k_is)
    (case k_widths_with_value => k_is)
    (case a__law_less => k_is)
    (case l__law_less => k_is)
    (case e__law_less => k_is)
    (case k__law_less => k_is)
    (case a__law_widths_with => k_is)
    (case l__law_widths_with => k_is)
    (case e__law_widths_with => k_is)
    (case k__law_widths_with => k_is)
    (case a__law_long_right => k_is)
    (case l__law_long_right => k_is)
    (case e__law_long_right => k_is)
    (case k__law_long_right => k_is)
    (case a__law_spring => k_is)
    (case l__law_spring => k_is)
    (case e__law_spring => k_is)
    (case k__law_spring => k_is)
    (case a__law_rise => k_is)
    (case l__law_rise => k_is)
    (case e__law_rise => k_is)
    (case k__law_rise => k_is)
    (case a__law_drawn => k_is)
    (case l__law_drawn => k_is)
    (case e__law_drawn => k_is)
    (case k__law_drawn => k_is)
    (case a_check_width => k_is)
    (case l_check_width => k_is)
    (case e_check_width => k_is)
    (case k_check_width => k_is)
    (case a_times => k_is)
    (case l_times => k_is)
    (case e_times => k_is)
    (case k_times => k_is)
    (case a_value_on => k_is)
    (case l_value_on => k_is)
    (case e_value_on => k_is)
    (case k_value_on => k_is)
    (case a_pieces_at => k_is)
    (case l_pieces_at => k_is)
    (case e_pieces_at => k_is)
    (case k_pieces_at => k_is)
    (case a_values_at => k_is)
    (case l_values_at => k_is)
    (case e_values_at => k_is)
    (case k_values_at => k_is)
    (case a__law_right => k_is)
    (case l__law_right => k_is)
    (case e__law_right => k_is)
    (case k__law_right => k_is)
    (case a_law => k_is)
    (case l_law => k_is)
    (case e_law => k_is)
    (case k_law => k_is)
    (case a_Curve => k_is)
    (case pg_Curve => k_is)
    (case hd_Curve => k_is)
    (case po_Curve => k_is)
    (case sa_Curve => k_is)
    (case no_Curve__pieces => k_is)
    (case at_Curve_d_init_d => k_is)
    (case fn_Curve_d_init_d => k_is)
    (case mk_Curve => k_is)
    (case kc_Curve => k_is)
    (case pa_Curve_points => k_is)
    (case pa_Curve_slope => k_is)
    (case at_Curve_widths_of => k_is)
    (case fn_Curve_widths_of => k_is)
    (case at_Curve_d_call_d => k_is)
    (case fn_Curve_d_call_d => k_is)
    (case fi_Curve_d_call_d => k_is)
    (case ia_Curve => k_is)
    (case ib_Curve => k_is)
    (case ic_Curve => k_is)
    (case id_Curve => k_is)
    (case x_MOST_POINTS => k_is)
    (case x_ZERO => k_is)
    (case y_ZERO => k_is)
    (case x_abs => k_is)
    (case x_all => k_is)
    (case x_bool => k_is)
    (case x_enumerate => k_is)
    (case x_gcd => k_is)
    (case x_int => k_is)
    (case x_isinstance => k_is)
    (case x_len => k_is)
    (case x_list => k_is)
    (case x_max => k_is)
    (case x_min => k_is)
    (case x_range => k_is)
    (case x_tuple => k_is)
    (case x_zip => k_is)
    (case l_Curve_d_init_d => k_is)
    (case e_Curve_d_init_d => k_is)
    (case k_Curve_d_init_d => k_is)
    (case l_Curve_widths_of => k_is)
    (case e_Curve_widths_of => k_is)
    (case k_Curve_widths_of => k_is)
    (case l_Curve_d_call_d => k_is)
    (case e_Curve_d_call_d => k_is)
    (case k_Curve_d_call_d => k_is)
    (case main => exact fun q T => Bx.main T)
