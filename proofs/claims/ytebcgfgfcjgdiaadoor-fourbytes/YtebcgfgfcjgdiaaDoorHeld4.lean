/- Two arrays of four bytes that a walk holds while it calls: what is kept of the world; contracts that keep it. -/
import Derived.Test.YtebcgfgfcjgdiaaDoorPrints
import Derived.Deep.RegionHeld3
namespace Go.Proofs.YtebcgfgfcjgdiaaDoor
open Go.RowKit
set_option linter.unusedVariables false

/-- Two arrays of four bytes lie at A and B, and nothing of W has turned. -/
abbrev Held (A B : Nat) (a b c d a' b' c' d' : Nat) (W w' : World) : Prop :=
  w'.cell? ⟨A, 0, none⟩ = some (.int .u8 (a : Int)) ∧ w'.cell? ⟨A, 1, none⟩ = some (.int .u8 (b : Int)) ∧ w'.cell? ⟨A, 2, none⟩ = some (.int .u8 (c : Int)) ∧ w'.cell? ⟨A, 3, none⟩ = some (.int .u8 (d : Int)) ∧
  w'.cell? ⟨B, 0, none⟩ = some (.int .u8 (a' : Int)) ∧ w'.cell? ⟨B, 1, none⟩ = some (.int .u8 (b' : Int)) ∧ w'.cell? ⟨B, 2, none⟩ = some (.int .u8 (c' : Int)) ∧ w'.cell? ⟨B, 3, none⟩ = some (.int .u8 (d' : Int)) ∧
  A < w'.heap.size ∧ B < w'.heap.size ∧ Below W.heap.size W w'
section
variable {A B a b c d a' b' c' d' : Nat} {W w w' : World}
theorem Held.next (h : Held A B a b c d a' b' c' d' W w) (hb : Below w.heap.size w w') : Held A B a b c d a' b' c' d' W w' := by
  obtain ⟨h0, h1, h2, h3, h4, h5, h6, h7, hA, hB, hw⟩ := h
  refine ⟨?_, ?_, ?_, ?_, ?_, ?_, ?_, ?_, Nat.lt_of_lt_of_le hA hb.size, Nat.lt_of_lt_of_le hB hb.size, chain hw hb⟩
  · rw [hb.cell (p := ⟨A, 0, none⟩) hA]; exact h0
  · rw [hb.cell (p := ⟨A, 1, none⟩) hA]; exact h1
  · rw [hb.cell (p := ⟨A, 2, none⟩) hA]; exact h2
  · rw [hb.cell (p := ⟨A, 3, none⟩) hA]; exact h3
  · rw [hb.cell (p := ⟨B, 0, none⟩) hB]; exact h4
  · rw [hb.cell (p := ⟨B, 1, none⟩) hB]; exact h5
  · rw [hb.cell (p := ⟨B, 2, none⟩) hB]; exact h6
  · rw [hb.cell (p := ⟨B, 3, none⟩) hB]; exact h7
theorem Held.start (a b c d a' b' c' d' : Nat) (w : World) (t : TypeId) :
    Held w.heap.size (w.heap.size + 1) a b c d a' b' c' d' w ((w.alloc (.cells #[.int .u8 (a : Int), .int .u8 (b : Int), .int .u8 (c : Int), .int .u8 (d : Int)] t)).alloc (.cells #[.int .u8 (a' : Int), .int .u8 (b' : Int), .int .u8 (c' : Int), .int .u8 (d' : Int)] t)) := by
  have hz : w.heap.size < (w.alloc (.cells #[.int .u8 (a : Int), .int .u8 (b : Int), .int .u8 (c : Int), .int .u8 (d : Int)] t)).heap.size := by simp
  have hz2 : (w.alloc (.cells #[.int .u8 (a : Int), .int .u8 (b : Int), .int .u8 (c : Int), .int .u8 (d : Int)] t)).heap.size = w.heap.size + 1 := by simp
  refine ⟨?_, ?_, ?_, ?_, ?_, ?_, ?_, ?_, by simp; omega, by simp, ((Below.refl _ _).alloc (Nat.le_refl _) _).alloc (by simp) _⟩
  · rw [World.cell?_alloc_lt _ _ _ hz]; simp [World.cell?_alloc_new]
  · rw [World.cell?_alloc_lt _ _ _ hz]; simp [World.cell?_alloc_new]
  · rw [World.cell?_alloc_lt _ _ _ hz]; simp [World.cell?_alloc_new]
  · rw [World.cell?_alloc_lt _ _ _ hz]; simp [World.cell?_alloc_new]
  · rw [← hz2]; simp
  · rw [← hz2]; simp
  · rw [← hz2]; simp
  · rw [← hz2]; simp
theorem Held.drew (h : Held A B a b c d a' b' c' d' W w) : Held A B a b c d a' b' c' d' W w.drew := by
  obtain ⟨h0, h1, h2, h3, h4, h5, h6, h7, hA, hB, hw⟩ := h
  exact ⟨h0, h1, h2, h3, h4, h5, h6, h7, hA, hB, hw.drew⟩
theorem refDecimal_wrap (u : Nat) (D : ByteArray) (w : World) (hD : Hid (u < 256 ∧ ofL (dec u) = D)) :
    Calls Tryd.prog 12 #[.int .i64 (IntKind.i64.wrap (u : Int))] w fun e w' => e = .returned (.string D) ∧ Below w.heap.size w w' := by
  obtain ⟨h, rfl⟩ := hD.out
  rw [show IntKind.i64.wrap (u : Int) = (u : Int) by rw [IntKind.wrap_i64]; omega]
  exact refDecimal_ofL u w (by omega)
theorem of_hid (a b c d n : Nat) (w : World) (h : Hid (a < 256 ∧ b < 256 ∧ c < 256 ∧ d < 256 ∧ n = num4 a b c d)) :
    Calls Tryd.prog 10 #[.agg #[.int .u8 (a : Int), .int .u8 (b : Int), .int .u8 (c : Int), .int .u8 (d : Int)]] w fun e w' => e = .returned (.int .u32 (n : Int)) ∧ Below w.heap.size w w' :=
  of_num a b c d n w h.out.1 h.out.2.1 h.out.2.2.1 h.out.2.2.2.1 h.out.2.2.2.2
theorem bytes_hid (a b c d n : Nat) (w : World) (h : Hid (a < 256 ∧ b < 256 ∧ c < 256 ∧ d < 256 ∧ n = num4 a b c d)) :
    Calls Tryd.prog 8 #[.int .u32 (n : Int)] w fun e w' => e = .returned (.agg #[.int .u8 (a : Int), .int .u8 (b : Int), .int .u8 (c : Int), .int .u8 (d : Int)]) ∧ Below w.heap.size w w' :=
  bytes_any a b c d n w h.out.1 h.out.2.1 h.out.2.2.1 h.out.2.2.2.1 h.out.2.2.2.2
theorem print_hid (a b c d n : Nat) (T : ByteArray) (W w : World) (h : Hid (a < 256 ∧ b < 256 ∧ c < 256 ∧ d < 256 ∧ n = num4 a b c d)) (hT : Hid (text4 a b c d = T))
    (ht : Hid (∀ w', Below W.heap.size W w' → Lib.TabIs Tryd.prog w' "internal/strconv.uint64pow10" .u64 Lib.pow10Tab)) (hw : Below W.heap.size W w) :
    Calls Tryd.prog 5 #[.int .u32 (n : Int)] w fun e w' => e = .returned (.string T) ∧ Below w.heap.size w w' := by
  have hT := hT.out
  subst hT
  exact print_any a b c d n w h.out.1 h.out.2.1 h.out.2.2.1 h.out.2.2.2.1 h.out.2.2.2.2 (fun w' hb => ht.out w' (chain hw hb))
theorem Held.bel (h : Held A B a b c d a' b' c' d' W w) : Below W.heap.size W w := h.2.2.2.2.2.2.2.2.2.2
theorem text4_cat (a b c d : Nat) (X Y Z : ByteArray) (hX : X.data.toList = [46]) (hY : Y.data.toList = [46]) (hZ : Z.data.toList = [46]) : ofL (dec a) ++ X ++ ofL (dec b) ++ Y ++ ofL (dec c) ++ Z ++ ofL (dec d) = text4 a b c d :=
  bytes_ext (by simp only [data_append, ofL_data, text4_data, hX, hY, hZ]; simp)
theorem Calls.held {P : Program} {f : FuncId} {args : Array Value} {v : Value} (hc : Calls P f args w fun e w' => e = .returned v ∧ Below w.heap.size w w') (h : Held A B a b c d a' b' c' d' W w) :
    Calls P f args w fun e w' => e = .returned v ∧ Held A B a b c d a' b' c' d' W w' :=
  hc.mono fun _ _ ⟨he, hb⟩ => ⟨he, h.next hb⟩
end
end Go.Proofs.YtebcgfgfcjgdiaaDoor
