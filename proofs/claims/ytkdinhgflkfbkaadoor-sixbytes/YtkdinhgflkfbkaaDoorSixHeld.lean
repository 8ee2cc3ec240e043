/- Three arrays that a walk holds while it calls six.Of and six.Bytes. -/
import Derived.Test.YtkdinhgflkfbkaaDoorSixLives
import Derived.Test.YtkdinhgflkfbkaaDoorSixBytesOwn
import Derived.OpenShut
import Derived.Deep.RegionHeld3
import Derived.Deep.MidRow
namespace Go.Proofs.YtkdinhgflkfbkaaDoor
open Go.RowKit
set_option linter.unusedVariables false

theorem eq_bytes (bs : List Nat) (h : bs.length = 16) (W : World) : (Op.equalIn 10000 33 (.agg (bs.map fun n => Value.int .u8 ((n : Nat) : Int)).toArray) (.agg (bs.map fun n => Value.int .u8 ((n : Nat) : Int)).toArray)).run Tryd.prog W = .ok true W := by
  obtain ⟨i, hi⟩ : ∃ i, Tryd.prog.info? 5 = some i := ⟨_, rfl⟩
  have := run_eq_ints W (k := .u8) Tryd.underlying33 (by kernel_rfl) Tryd.underlying5 hi (by kernel_rfl) (bs.map fun n => ((n : Nat) : Int)) (bs.map fun n => ((n : Nat) : Int)) (by simpa using h) (by simpa using h)
  rw [List.map_map, decide_eq_true rfl] at this
  exact this
theorem range_of {k : IntKind} {n : Nat} {w : World} {B : Nat} {l : List Nat} (h : ArrI k n w B l) : w.rangeAt B 0 (l.map fun x => Value.int k ((x : Nat) : Int)) := by
  intro j v hv
  rw [List.getElem?_map] at hv
  cases hj : l[j]? with
  | none => rw [hj] at hv; cases hv
  | some x =>
    rw [hj] at hv
    have hjl : j < l.length := (List.getElem?_eq_some_iff.1 hj).1
    rw [Nat.zero_add, h.cells j (by rw [← h.len]; exact hjl), List.getD_eq_getElem?_getD, hj]
    exact hv
/-- Three arrays that the walk holds while it calls. -/
abbrev Held6 (G B C : Nat) (x0 x1 x2 x3 x4 x5 x6 x7 : Nat) (csB csC : List Value) (W w' : World) : Prop :=
  w'.cell? ⟨G, 0, none⟩ = some (.int .u16 (x0 : Int)) ∧ w'.cell? ⟨G, 1, none⟩ = some (.int .u16 (x1 : Int)) ∧ w'.cell? ⟨G, 2, none⟩ = some (.int .u16 (x2 : Int)) ∧ w'.cell? ⟨G, 3, none⟩ = some (.int .u16 (x3 : Int)) ∧ w'.cell? ⟨G, 4, none⟩ = some (.int .u16 (x4 : Int)) ∧ w'.cell? ⟨G, 5, none⟩ = some (.int .u16 (x5 : Int)) ∧ w'.cell? ⟨G, 6, none⟩ = some (.int .u16 (x6 : Int)) ∧ w'.cell? ⟨G, 7, none⟩ = some (.int .u16 (x7 : Int)) ∧ w'.rangeAt B 0 csB ∧ w'.rangeAt C 0 csC ∧ G < w'.heap.size ∧ B < w'.heap.size ∧ C < w'.heap.size ∧ Below W.heap.size W w'
section
variable {G B C x0 x1 x2 x3 x4 x5 x6 x7 : Nat} {csB csC : List Value} {W w w' : World}
theorem Held6.next (h : Held6 G B C x0 x1 x2 x3 x4 x5 x6 x7 csB csC W w) (hb : Below w.heap.size w w') : Held6 G B C x0 x1 x2 x3 x4 x5 x6 x7 csB csC W w' := by
  obtain ⟨h0, h1, h2, h3, h4, h5, h6, h7, hr1, hr2, hG, hB, hC, hw⟩ := h
  refine ⟨?_, ?_, ?_, ?_, ?_, ?_, ?_, ?_, ?_, ?_, Nat.lt_of_lt_of_le hG hb.size, Nat.lt_of_lt_of_le hB hb.size, Nat.lt_of_lt_of_le hC hb.size, chain hw hb⟩
  · rw [hb.cell (p := ⟨G, 0, none⟩) hG]; exact h0
  · rw [hb.cell (p := ⟨G, 1, none⟩) hG]; exact h1
  · rw [hb.cell (p := ⟨G, 2, none⟩) hG]; exact h2
  · rw [hb.cell (p := ⟨G, 3, none⟩) hG]; exact h3
  · rw [hb.cell (p := ⟨G, 4, none⟩) hG]; exact h4
  · rw [hb.cell (p := ⟨G, 5, none⟩) hG]; exact h5
  · rw [hb.cell (p := ⟨G, 6, none⟩) hG]; exact h6
  · rw [hb.cell (p := ⟨G, 7, none⟩) hG]; exact h7
  · intro j v hv
    rw [hb.cell (p := ⟨B, 0 + j, none⟩) hB]
    exact hr1 j v hv
  · intro j v hv
    rw [hb.cell (p := ⟨C, 0 + j, none⟩) hC]
    exact hr2 j v hv
theorem Held6.bel (h : Held6 G B C x0 x1 x2 x3 x4 x5 x6 x7 csB csC W w) : Below W.heap.size W w := h.2.2.2.2.2.2.2.2.2.2.2.2.2
theorem Held6.drew (h : Held6 G B C x0 x1 x2 x3 x4 x5 x6 x7 csB csC W w) : Held6 G B C x0 x1 x2 x3 x4 x5 x6 x7 csB csC W w.drew := by
  obtain ⟨h0, h1, h2, h3, h4, h5, h6, h7, hr1, hr2, hG, hB, hC, hw⟩ := h
  exact ⟨h0, h1, h2, h3, h4, h5, h6, h7, hr1, hr2, hG, hB, hC, hw.drew⟩
theorem Calls.held6 {P : Program} {f : FuncId} {args : Array Value} {v : Value} (hc : Calls P f args w fun e w' => e = .returned v ∧ Below w.heap.size w w') (h : Held6 G B C x0 x1 x2 x3 x4 x5 x6 x7 csB csC W w) :
    Calls P f args w fun e w' => e = .returned v ∧ Held6 G B C x0 x1 x2 x3 x4 x5 x6 x7 csB csC W w' :=
  hc.mono fun _ _ ⟨he, hb⟩ => ⟨he, h.next hb⟩
end
/-- What Of and Bytes answer, written out. -/
def OfIs (a b : Value) : Prop := ∃ bs gs : List Nat, arr16 bs = a ∧ arr8 gs = b ∧ bs.length = 16 ∧ (∀ x ∈ bs, x < 256) ∧ grL bs 8 = gs
def BytesIs (a b : Value) : Prop := ∃ gs bs : List Nat, arr8 gs = a ∧ arr16 bs = b ∧ gs.length = 8 ∧ (∀ x ∈ gs, x < 65536) ∧ byL gs = bs
theorem of_is (a b : Value) (w : World) (h : Hid (OfIs a b)) : Calls Tryd.prog 19 #[a] w fun e w' => e = .returned b ∧ Below w.heap.size w w' := by
  obtain ⟨bs, gs, rfl, rfl, h1, h2, rfl⟩ := h.out
  exact sixOf_any bs w h1 h2
theorem bytes_is (a b : Value) (w : World) (h : Hid (BytesIs a b)) : Calls Tryd.prog 18 #[a] w fun e w' => e = .returned b ∧ Below w.heap.size w w' := by
  obtain ⟨gs, bs, rfl, rfl, h1, h2, rfl⟩ := h.out
  exact sixBytes_any gs w h1 h2
theorem lives_is (W w : World) (ht : Hid (Tabs W)) (hb : Below W.heap.size W w) : Calls Tryd.prog 13 #[] w fun e w' => e = .returned (.bool true) ∧ Below w.heap.size w w' := lives3_any w (ht.out.below hb)

theorem bytes_of (z0 : List Int) (l0 : z0.length = 16) (w0 : ∀ z ∈ z0, (Lit.int .u8 z).wf = true) : ∃ bs : List Nat, bs.length = 16 ∧ (∀ x ∈ bs, x < 256) ∧ Value.agg (z0.map (Value.int .u8)).toArray = arr16 bs := by
  refine ⟨z0.map Int.toNat, by simpa using l0, ?_, ?_⟩
  · intro x hx
    obtain ⟨z, hz, rfl⟩ := List.mem_map.1 hx
    have := bounds_u8 (w0 z hz)
    omega
  · unfold arr16
    rw [List.map_map]
    congr 2
    apply List.map_congr_left
    intro z hz
    have := bounds_u8 (w0 z hz)
    show Value.int .u8 z = Value.int .u8 ((z.toNat : Nat) : Int)
    congr 1
    omega
end Go.Proofs.YtkdinhgflkfbkaaDoor
