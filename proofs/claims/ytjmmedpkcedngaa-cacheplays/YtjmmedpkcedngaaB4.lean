/- Texts that belong together, one behind the other: CacRoom, CacPut, CacLives, CacSk. -/
import Derived.Test.YtjmmedpkcedngaaB3
import Derived.Lib.ItoaLen
/- Contract of Cache.makeRoom. -/
namespace Go.Proofs.Ytjmmedpkcedngaa
open Go.RowKit Go.Maps
set_option linter.unusedVariables false
set_option maxRecDepth 20000

/-- What is left where room is made, and whom it lets go. -/
def makesC (room : Int) (es : List Ce) (x : ByteArray) (t now : Int) : List Ce × Option Ce :=
  if (getE es x t).isSome then (es, none)
  else if (es.length : Int) < room then (es, none)
  else if (sweepC es now).length < es.length then (sweepC es now, none)
  else (withoutC es (kAt es (bestC es es.length)), es[bestC es es.length]?)
theorem makesC_had {room : Int} {es : List Ce} {x : ByteArray} {t now : Int} (h : (getE es x t).isSome = true) : makesC room es x t now = (es, none) := by unfold makesC; rw [if_pos h]
theorem makesC_room {room : Int} {es : List Ce} {x : ByteArray} {t now : Int} (h : (getE es x t).isSome = false) (h2 : (es.length : Int) < room) : makesC room es x t now = (es, none) := by unfold makesC; rw [if_neg (by rw [h]; simp), if_pos h2]
theorem makesC_swept {room : Int} {es : List Ce} {x : ByteArray} {t now : Int} (h : (getE es x t).isSome = false) (h2 : ¬ (es.length : Int) < room) (h3 : (sweepC es now).length < es.length) : makesC room es x t now = (sweepC es now, none) := by unfold makesC; rw [if_neg (by rw [h]; simp), if_neg h2, if_pos h3]
theorem makesC_let {room : Int} {es : List Ce} {x : ByteArray} {t now : Int} (h : (getE es x t).isSome = false) (h2 : ¬ (es.length : Int) < room) (h3 : ¬ (sweepC es now).length < es.length) : makesC room es x t now = (withoutC es (kAt es (bestC es es.length)), es[bestC es es.length]?) := by unfold makesC; rw [if_neg (by rw [h]; simp), if_neg h2, if_neg h3]
theorem wp_delete_own {o : Oper} {a : Act} {w : World} {K : Act → World → Prop} {Q : Exit → Act → World → Prop} (m x : Operand) (hop : o.op = Op.call { callee := Callee.builtin Builtin.delete, args := #[m, x], argTypes := #[66, 39] })
    {b : Nat} {es : List Ce} (hm : a.eval m = .map (some b)) (h : CacMap w b es) (hk : KeysOk es) {p : ByteArray × Int} (hx : a.eval x = keyV p) (hp : KeyOk p)
    (hK : ∀ w', CacMap w' b (withoutC es p) → w.mapTurned w' b → K (a.put o.dst (.tuple #[])) w') : o.wp Try.prog a w K Q := by
  obtain ⟨w', hrun, r1, r2⟩ := h.drop hk p hp o.type
  unfold Oper.wp
  simp [execOp, hop, resolve, invoke, builtin, hm, hx, hrun, Result.andThen]
  exact hK w' r1 r2
theorem build_key0 {ops : Array Oper} {rest : List Oper} {op : Oper} {a : Act} {w : World} {Q : Exit → Act → World → Prop} (hg : op.guard = none) (ho : op.op = .build 39 #[])
    (h : wpList Try.prog ops Q rest (a.put op.dst (keyV noKey)) w) : wpList Try.prog ops Q (op :: rest) a w := by
  have e0 : Try.prog.built 39 [] = some (keyL noKey).toArray := rfl
  have e : Try.prog.built 39 ((#[] : Array (Nat × Operand)).map fun (i, x) => (i, a.eval x)).toList = some (keyL noKey).toArray := by simpa using e0
  refine wpList_build hg 39 _ ho (by rw [e]; rfl) ?_
  rw [e]
  exact h
theorem grown_drew {w w' : World} {r : Option Nat} (h : w.grownBy w' r) : w.grownBy w'.drew r := ⟨h.os, h.tape, h.output, h.size, h.block⟩
theorem grown_sets {w w' : World} {r : Option Nat} {B : Nat} (h : w.grownBy w' r) (hB : w.heap.size ≤ B) (vs : List Value) : w.grownBy (w'.setCells B 0 vs) r := by
  have hb : Below w.heap.size w' (w'.setCells B 0 vs) := below_cells hB _ _ _ (Below.refl _ _)
  exact ⟨hb.os.trans h.os, hb.tape.trans h.tape, hb.output.trans h.output, Nat.le_trans h.size hb.size, fun k hk hne => (hb.block k hk).trans (h.block k hk hne)⟩
theorem CellsAt.grown {w w' : World} {G b : Nat} {vs : List Value} (h : CellsAt w G vs) (hg : w.grownBy w' (some b)) (hne : G ≠ b) : CellsAt w' G vs := h.kept hg.size (hg.block G h.lt (fun e => hne (by injection e)))
theorem CacAt.setsAt {w : World} {G b B : Nat} {room : Int} {es : List Ce} {vs : List Value} (h : CacAt w G b room es) (h1 : b ≠ B) (h2 : G ≠ B) : CacAt (w.setCells B 0 vs) G b room es :=
  h.kept (by rw [size_setCells]; exact Nat.le_refl _) (heap_setCs _ _ _ _ _ h2) (heap_setCs _ _ _ _ _ h1)
set_option maxRecDepth 100000 in
set_option maxHeartbeats 4000000 in
theorem makeRoom_any (G b : Nat) (room : Int) (es : List Ce) (x : ByteArray) (t now : Int) (w : World) (h : CacAt w G b room es) (hp : KeyOk (x, t)) :
    Calls Try.prog 32 #[.pointer (some ⟨G, 0, none⟩), keyV (x, t), .int .i64 now] w fun e w' => e = .returned (.tuple #[keyV (((makesC room es x t now).2.map keyC).getD noKey), .bool (makesC room es x t now).2.isSome]) ∧ CacAt w' G b room (makesC room es x t now).1 ∧ w.grownBy w' (some b) := by
  obtain ⟨W1, hW1⟩ : ∃ W1, (w.alloc (.cells #[.string x, .int .i64 t] 39)).alloc (.cells #[.string ⟨#[]⟩, .int .i64 0] 39) = W1 := ⟨_, rfl⟩
  have hb1 : Below w.heap.size w W1 := by rw [← hW1]; exact ((Below.refl _ _).alloc (Nat.le_refl _) _).alloc (by simp) _
  have hk1 : W1.rangeAt w.heap.size 0 (keyL (x, t)) := by rw [← hW1]; exact range_belowC (CellsAt.new w 39 (keyL (x, t))).range ((Below.refl _ _).alloc (Nat.le_refl _) _) (by simp)
  have hz1 : CellsAt W1 (w.heap.size + 1) (keyL noKey) := by
    have := CellsAt.new (w.alloc (.cells #[.string x, .int .i64 t] 39)) 39 (keyL noKey)
    rw [← hW1]; simpa [keyL] using this
  have hlt : w.heap.size + 2 = W1.heap.size := by rw [← hW1]; simp
  have HH := Lib.hid (h.below hb1)
  have HK1 := Lib.hid hk1
  have HZ := Lib.hid hz1
  have HB := Lib.hid hb1
  have HLT := Lib.hid hlt
  have h64 := h.len
  have hr1 := h.r1
  have HBL := Lib.hid h.lt.2
  have HGL := Lib.hid h.lt.1
  obtain ⟨S, hS⟩ : ∃ S : World → Prop, (fun W => Below W1.heap.size W1 W) = S := ⟨_, rfl⟩
  have HS0 : Hid (S W1.drew) := Lib.hid (by rw [← hS]; exact (Below.refl _ _).drew)
  have HSB : Hid (∀ W, S W → Below W1.heap.size W1 W) := Lib.hid (fun W hW => by rw [← hS] at hW; exact hW)
  have HSI : Hid (∀ W W', S W → Below W.heap.size W W' → S W') := Lib.hid (fun W W' hW hb => by rw [← hS] at hW ⊢; exact chain hW hb)
  have HSI2 : Hid (∀ W B vs, S W → W1.heap.size ≤ B → S (W.setCells B 0 vs)) := Lib.hid (fun W B vs hW hb => by rw [← hS] at hW ⊢; exact below_cells hb _ _ _ hW)
  have MG : Hid (∀ W, S W → W.cell? ⟨G, 1, none⟩ = some (.map (some b))) := Lib.hid (fun W hW => (HH.out.below (HSB.out W hW)).cs.cell 1 _ rfl)
  have MK : Hid (∀ W, S W → W.rangeAt w.heap.size 0 (keyL (x, t))) := Lib.hid (fun W hW => range_belowC HK1.out (HSB.out W hW) (by have := HLT.out; omega))
  have HL : Hid (∀ W, S W → (Instr.lookup 66 (.map (some b)) (keyV (x, t)) true).run Try.prog W = .ok (.tuple #[entV (theE es x t), .bool (getE es x t).isSome]) W) := Lib.hid (fun W hW => ((HH.out.below (HSB.out W hW)).mp).look2 h.ok h.so.apart _ _ hp)
  obtain ⟨had, hhad⟩ : ∃ had, (getE es x t).isSome = had := ⟨_, rfl⟩
  have HHAD := Lib.hid hhad
  rw [hhad] at HL
  clear h hb1 hk1 hz1 hlt hS hhad
  generalize theE es x t = E at *
  obtain ⟨es0, et, ea, en, ec, eu⟩ := E
  unfold entV at HL
  simp only at HL
  obtain ⟨M, hM⟩ : ∃ M, makesC room es x t now = M := ⟨_, rfl⟩
  have HMM := Lib.hid hM
  rw [hM, show keyV (x, t) = .agg #[.string x, .int .i64 t] from rfl]
  clear hM
  go_enter Try.func32, Try.ntmps32
  go_upto_region 1 with fail
  first | rw [hW1] | skip
  clear hW1
  refine wp_region_noPanic ?_
  refine wp_region_held_drew (S := S) (by kernel_rfl) HS0.out (fun hHeld => ?_)
  refine wpAnyH_take (i := 0) (v := ?_) rfl (by kernel_rfl) (by kernel_rfl) (by kernel_rfl) (fun _ _ _ h => h) (Or.inl ⟨by rfl, ?_⟩) (by assumption) ?_
  rotate_left
  · (intro w hSw; go_simp; try (with_reducible rfl))
  try simp only [Act.put, List.getElem_toArray, List.getElem_cons_zero, List.setIfInBounds_toArray, List.set_cons_zero, List.set_cons_succ]
  refine wpAnyH_take (i := 1) (v := ?_) rfl (by kernel_rfl) (by kernel_rfl) (by kernel_rfl) (fun _ _ _ h => h) (Or.inl ⟨by rfl, ?_⟩) (by assumption) ?_
  rotate_left
  · (intro w hSw; go_simp; try (with_reducible rfl))
  try simp only [Act.put, List.getElem_toArray, List.getElem_cons_zero, List.getElem_cons_succ, List.setIfInBounds_toArray, List.set_cons_zero, List.set_cons_succ]
  refine wpAnyH_take (i := 2) (v := ?_) rfl (by kernel_rfl) (by kernel_rfl) (by kernel_rfl) (fun _ _ _ h => h) (Or.inl ⟨by rfl, ?_⟩) (by assumption) ?_
  rotate_left
  · (intro w hSw; go_simp; try (with_reducible rfl))
  try simp only [Act.put, List.getElem_toArray, List.getElem_cons_zero, List.getElem_cons_succ, List.setIfInBounds_toArray, List.set_cons_zero, List.set_cons_succ]
  refine wpAnyH_take (i := 3) (v := ?_) rfl (by kernel_rfl) (by kernel_rfl) (by kernel_rfl) (fun _ _ _ h => h) (Or.inl ⟨by rfl, ?_⟩) (by assumption) ?_
  rotate_left
  · (intro w hSw; have hc0 := MG.out w hSw; go_simp; try (with_reducible rfl))
  try simp only [Act.put, List.getElem_toArray, List.getElem_cons_zero, List.getElem_cons_succ, List.setIfInBounds_toArray, List.set_cons_zero, List.set_cons_succ]
  refine wpAnyH_take (i := 4) rfl (by kernel_rfl) (by kernel_rfl) (by kernel_rfl) (fun _ _ _ h => h) (yields_key (p:=(x,t)) MK (by rfl) _ rfl rfl) (by assumption) ?_
  try simp only [Act.put, List.getElem_toArray, List.getElem_cons_zero, List.getElem_cons_succ, List.setIfInBounds_toArray, List.set_cons_zero, List.set_cons_succ]
  refine wpAnyH_take (i := 5) (v := ?_) rfl (by kernel_rfl) (by kernel_rfl) (by kernel_rfl) (fun _ _ _ h => h) (Or.inl ⟨by rfl, ?_⟩) (by assumption) ?_
  rotate_left
  · (intro w hSw; have hc0 := HL.out w hSw; go_simp; try (with_reducible rfl))
  try simp only [Act.put, List.getElem_toArray, List.getElem_cons_zero, List.getElem_cons_succ, List.setIfInBounds_toArray, List.set_cons_zero, List.set_cons_succ]
  refine wpAnyH_take (i := 6) (v := ?_) rfl (by kernel_rfl) (by kernel_rfl) (by kernel_rfl) (fun _ _ _ h => h) (Or.inl ⟨by rfl, ?_⟩) (by assumption) ?_
  rotate_left
  · (intro w hSw; go_simp; try (with_reducible rfl))
  try simp only [Act.put, List.getElem_toArray, List.getElem_cons_zero, List.getElem_cons_succ, List.setIfInBounds_toArray, List.set_cons_zero, List.set_cons_succ]
  refine wpAnyH_take (i := 7) (v := ?_) rfl (by kernel_rfl) (by kernel_rfl) (by kernel_rfl) (fun _ _ _ h => h) (Or.inl ⟨by rfl, ?_⟩) (by assumption) ?_
  rotate_left
  · (intro w hSw; go_simp; try (with_reducible rfl))
  try simp only [Act.put, List.getElem_toArray, List.getElem_cons_zero, List.getElem_cons_succ, List.setIfInBounds_toArray, List.set_cons_zero, List.set_cons_succ]
  refine wpAnyH_take (i := 8) (v := ?_) rfl (by kernel_rfl) (by kernel_rfl) (by kernel_rfl) (fun _ _ _ h => h) (Or.inl ⟨by rfl, ?_⟩) (by assumption) ?_
  rotate_left
  · (intro w hSw; go_simp; try (with_reducible rfl))
  try simp only [Act.put, List.getElem_toArray, List.getElem_cons_zero, List.getElem_cons_succ, List.setIfInBounds_toArray, List.set_cons_zero, List.set_cons_succ]
  refine wpAnyH_ready (rs := [9]) (by kernel_rfl) (by simp) ?_
  refine AllReadyH.cons rfl (fun K hK => ?_) AllReadyH.nil
  go_simp
  go_wp2_with fail
  have HZE := Lib.hid (CellsAt.new W1.drew 78 [.slice none 0 0, .int .i64 0])
  have HSW : Hid (S (W1.drew.alloc (.cells #[.slice none 0 0, .int .i64 0] 78))) := Lib.hid (HSI.out _ _ hHeld ((Below.refl _ _).alloc (Nat.le_refl _) _))
  refine hK.out _ _ HSW.out (fun hHeld => ?_)
  clear hK K HSW
  try simp only [Act.put, List.getElem_toArray, List.getElem_cons_zero, List.getElem_cons_succ, List.setIfInBounds_toArray, List.set_cons_zero, List.set_cons_succ]
  have HZE : Hid (CellsAt (W1.alloc (.cells #[.slice none 0 0, .int .i64 0] 78)).drew W1.heap.size [.slice none 0 0, .int .i64 0]) := HZE
  generalize (W1.alloc (.cells #[.slice none 0 0, .int .i64 0] 78)).drew = W2 at *
  refine wpAnyH_ready (rs := [10]) (by kernel_rfl) (by simp) ?_
  refine AllReadyH.one rfl rfl (fun K hK => ?_)
  refine wp_store_ent (e := ⟨es0, et, ea, en, ec, eu⟩) HZE rfl _ _ rfl rfl rfl (fun V HV HVC => ?_)
  have HSV : Hid (S V) := Lib.hid (by rw [HV.out]; exact HSI2.out _ _ _ hHeld (Nat.le_refl _))
  refine hK.out _ _ HSV.out (fun hHeld => ?_)
  clear hK K
  try simp only [Act.put]
  refine wpAnyH_take (i := 11) (v := ?_) rfl (by kernel_rfl) (by kernel_rfl) (by kernel_rfl) (fun _ _ _ h => h) (Or.inl ⟨by rfl, ?_⟩) (by assumption) ?_
  rotate_left
  · (intro w hSw; go_simp; try (with_reducible rfl))
  try simp only [Act.put, List.getElem_toArray, List.getElem_cons_zero, List.getElem_cons_succ, List.setIfInBounds_toArray, List.set_cons_zero, List.set_cons_succ]
  refine wpAnyH_done (by kernel_rfl) ?_ _
  refine NoPanic.normal ?_
  have HBV := Lib.hid (HSB.out _ hHeld)
  have HHV := Lib.hid (HH.out.below HBV.out)
  have HZV := Lib.hid (HZ.out.below HBV.out)
  have HGV := Lib.hid (grown_of_below (chain HB.out HBV.out))
  clear HSV hHeld HZE HVC HV HH HZ HS0 HSI HSI2 HSB MG MK HL
  have HBB : Hid (b < w.heap.size) := Lib.hid HBL.out
  have HGG : Hid (G < w.heap.size) := Lib.hid HGL.out
  have HZD : Hid (CellsAt V.drew (w.heap.size + 1) (keyL noKey)) := Lib.hid (HZV.out.below (Below.refl _ _).drew)
  have HHD : Hid (CacAt V.drew G b room es) := Lib.hid (HHV.out.below (Below.refl _ _).drew)
  have HGD : Hid (w.grownBy V.drew (some b)) := Lib.hid (grown_drew (HGV.out.but (some b)))
  clear HZV HHV HGV
  cases had with
  | true =>
    have HM := Lib.hid (HMM.out.symm.trans (makesC_had (room := room) (now := now) HHAD.out))
    go_upto_region 2 with fail
    refine wp_region_noPanic ?_
    refine wp_region_held_drew (S := fun _ => True) (by kernel_rfl) trivial (fun hHeld => ?_)
    refine wpAnyH_take (i := 0) (v := ?_) rfl (by kernel_rfl) (by kernel_rfl) (by kernel_rfl) (fun _ _ _ h => h) (Or.inl ⟨by rfl, ?_⟩) (by assumption) ?_
    rotate_left
    · (intro w hSw; go_simp; try (with_reducible rfl))
    try simp only [Act.put, List.getElem_toArray, List.getElem_cons_zero, List.setIfInBounds_toArray, List.set_cons_zero, List.set_cons_succ]
    refine wpAnyH_take (i := 1) (v := ?_) rfl (by kernel_rfl) (by kernel_rfl) (by kernel_rfl) (fun _ _ _ h => h) (Or.inl ⟨by rfl, ?_⟩) (by assumption) ?_
    rotate_left
    · (intro w hSw; go_simp; try (with_reducible rfl))
    try simp only [Act.put, List.getElem_toArray, List.getElem_cons_zero, List.getElem_cons_succ, List.setIfInBounds_toArray, List.set_cons_zero, List.set_cons_succ]
    refine wpAnyH_take (i := 2) (v := undef) rfl (by kernel_rfl) (by kernel_rfl) (by kernel_rfl) (fun _ _ _ h => h) (Or.inr ⟨by rfl, rfl⟩) (by assumption) ?_
    try simp only [Act.put, List.getElem_toArray, List.getElem_cons_zero, List.getElem_cons_succ, List.setIfInBounds_toArray, List.set_cons_zero, List.set_cons_succ]
    refine wpAnyH_take (i := 3) (v := undef) rfl (by kernel_rfl) (by kernel_rfl) (by kernel_rfl) (fun _ _ _ h => h) (Or.inr ⟨by rfl, rfl⟩) (by assumption) ?_
    try simp only [Act.put, List.getElem_toArray, List.getElem_cons_zero, List.getElem_cons_succ, List.setIfInBounds_toArray, List.set_cons_zero, List.set_cons_succ]
    refine wpAnyH_take (i := 4) (v := undef) rfl (by kernel_rfl) (by kernel_rfl) (by kernel_rfl) (fun _ _ _ h => h) (Or.inr ⟨by rfl, rfl⟩) (by assumption) ?_
    try simp only [Act.put, List.getElem_toArray, List.getElem_cons_zero, List.getElem_cons_succ, List.setIfInBounds_toArray, List.set_cons_zero, List.set_cons_succ]
    refine wpAnyH_take (i := 5) (v := undef) rfl (by kernel_rfl) (by kernel_rfl) (by kernel_rfl) (fun _ _ _ h => h) (Or.inr ⟨by rfl, rfl⟩) (by assumption) ?_
    try simp only [Act.put, List.getElem_toArray, List.getElem_cons_zero, List.getElem_cons_succ, List.setIfInBounds_toArray, List.set_cons_zero, List.set_cons_succ]
    refine wpAnyH_take (i := 6) (v := undef) rfl (by kernel_rfl) (by kernel_rfl) (by kernel_rfl) (fun _ _ _ h => h) (Or.inr ⟨by rfl, rfl⟩) (by assumption) ?_
    try simp only [Act.put, List.getElem_toArray, List.getElem_cons_zero, List.getElem_cons_succ, List.setIfInBounds_toArray, List.set_cons_zero, List.set_cons_succ]
    refine wpAnyH_take (i := 7) (v := undef) rfl (by kernel_rfl) (by kernel_rfl) (by kernel_rfl) (fun _ _ _ h => h) (Or.inr ⟨by rfl, rfl⟩) (by assumption) ?_
    try simp only [Act.put, List.getElem_toArray, List.getElem_cons_zero, List.getElem_cons_succ, List.setIfInBounds_toArray, List.set_cons_zero, List.set_cons_succ]
    refine wpAnyH_take (i := 8) (v := undef) rfl (by kernel_rfl) (by kernel_rfl) (by kernel_rfl) (fun _ _ _ h => h) (Or.inr ⟨by rfl, rfl⟩) (by assumption) ?_
    try simp only [Act.put, List.getElem_toArray, List.getElem_cons_zero, List.getElem_cons_succ, List.setIfInBounds_toArray, List.set_cons_zero, List.set_cons_succ]
    refine wpAnyH_take (i := 9) (v := ?_) rfl (by kernel_rfl) (by kernel_rfl) (by kernel_rfl) (fun _ _ _ h => h) (Or.inl ⟨by rfl, ?_⟩) (by assumption) ?_
    rotate_left
    · (intro w hSw; go_simp; try (with_reducible rfl))
    try simp only [Act.put, List.getElem_toArray, List.getElem_cons_zero, List.getElem_cons_succ, List.setIfInBounds_toArray, List.set_cons_zero, List.set_cons_succ]
    refine wpAnyH_take (i := 10) (v := ?_) rfl (by kernel_rfl) (by kernel_rfl) (by kernel_rfl) (fun _ _ _ h => h) (Or.inl ⟨by rfl, ?_⟩) (by assumption) ?_
    rotate_left
    · (intro w hSw; go_simp; try (with_reducible rfl))
    try simp only [Act.put, List.getElem_toArray, List.getElem_cons_zero, List.getElem_cons_succ, List.setIfInBounds_toArray, List.set_cons_zero, List.set_cons_succ]
    refine wpAnyH_take (i := 11) (v := undef) rfl (by kernel_rfl) (by kernel_rfl) (by kernel_rfl) (fun _ _ _ h => h) (Or.inr ⟨by rfl, rfl⟩) (by assumption) ?_
    try simp only [Act.put, List.getElem_toArray, List.getElem_cons_zero, List.getElem_cons_succ, List.setIfInBounds_toArray, List.set_cons_zero, List.set_cons_succ]
    refine wpAnyH_take (i := 12) (v := undef) rfl (by kernel_rfl) (by kernel_rfl) (by kernel_rfl) (fun _ _ _ h => h) (Or.inr ⟨by rfl, rfl⟩) (by assumption) ?_
    try simp only [Act.put, List.getElem_toArray, List.getElem_cons_zero, List.getElem_cons_succ, List.setIfInBounds_toArray, List.set_cons_zero, List.set_cons_succ]
    refine wpAnyH_take (i := 13) (v := undef) rfl (by kernel_rfl) (by kernel_rfl) (by kernel_rfl) (fun _ _ _ h => h) (Or.inr ⟨by rfl, rfl⟩) (by assumption) ?_
    try simp only [Act.put, List.getElem_toArray, List.getElem_cons_zero, List.getElem_cons_succ, List.setIfInBounds_toArray, List.set_cons_zero, List.set_cons_succ]
    refine wpAnyH_take (i := 14) (v := undef) rfl (by kernel_rfl) (by kernel_rfl) (by kernel_rfl) (fun _ _ _ h => h) (Or.inr ⟨by rfl, rfl⟩) (by assumption) ?_
    try simp only [Act.put, List.getElem_toArray, List.getElem_cons_zero, List.getElem_cons_succ, List.setIfInBounds_toArray, List.set_cons_zero, List.set_cons_succ]
    refine wpAnyH_take (i := 15) (v := ?_) rfl (by kernel_rfl) (by kernel_rfl) (by kernel_rfl) (fun _ _ _ h => h) (Or.inl ⟨by rfl, ?_⟩) (by assumption) ?_
    rotate_left
    · (intro w hSw; go_simp; try (with_reducible rfl))
    try simp only [Act.put, List.getElem_toArray, List.getElem_cons_zero, List.getElem_cons_succ, List.setIfInBounds_toArray, List.set_cons_zero, List.set_cons_succ]
    refine wpAnyH_done (by kernel_rfl) ?_ _
    refine NoPanic.normal ?_
    go_wp2_with (first | (refine build_key0 rfl rfl ?_) | (refine store_key HZD _ _ rfl rfl rfl rfl (fun W8 HW8 HC8 => ?_)))
    refine bodyPost_ret (results_key2 Try.results32 rfl HC8.out) rfl ⟨by rw [HM.out]; rfl, ?_, ?_⟩
    · rw [HW8.out, HM.out]; exact HHD.out.setsAt (by have := HHD.out.lt; have := HBB.out; omega) (by have := HGG.out; omega)
    · rw [HW8.out]; exact grown_sets HGD.out (Nat.le_succ _) _
  | false =>
    obtain ⟨n, hn⟩ : ∃ n, es.length = n := ⟨_, rfl⟩
    have HLEN := Lib.hid (len_any G b room es V.drew HHD.out)
    have HSW := Lib.hid (sweep_any G b room es now V.drew HHD.out)
    have MR : Hid (∀ W : World, W.cell? ⟨G, 0, none⟩ = some (.int .i64 room) → W.cell? ⟨G, 0, none⟩ = some (.int .i64 room)) := Lib.hid (fun W h => h)
    have HS0 : Hid (V.drew.cell? ⟨G, 0, none⟩ = some (.int .i64 room)) := Lib.hid (HHD.out.cs.cell 0 _ rfl)
    have HNN := Lib.hid hn
    rw [hn] at HLEN HSW
    by_cases hrm : (n : Int) < room
    · have HM := Lib.hid (HMM.out.symm.trans (makesC_room (room := room) (now := now) HHAD.out (by rw [HNN.out]; exact hrm)))
      have hd : decide ((n : Int) < room) = true := decide_eq_true hrm
      clear hn
      go_upto_region 2 with fail
      refine wp_region_noPanic ?_
      refine wp_region_held_drew (S := fun (W : World) => W.cell? ⟨G, 0, none⟩ = some (.int .i64 room)) (by kernel_rfl) HS0.out (fun hHeld => ?_)
      refine wpAnyH_take (i := 0) (v := ?_) rfl (by kernel_rfl) (by kernel_rfl) (by kernel_rfl) (fun _ _ _ h => h) (Or.inl ⟨by rfl, ?_⟩) (by assumption) ?_
      rotate_left
      · (intro w hSw; go_simp; try (with_reducible rfl))
      try simp only [Act.put, List.getElem_toArray, List.getElem_cons_zero, List.setIfInBounds_toArray, List.set_cons_zero, List.set_cons_succ]
      refine wpAnyH_take (i := 1) (v := ?_) rfl (by kernel_rfl) (by kernel_rfl) (by kernel_rfl) (fun _ _ _ h => h) (Or.inl ⟨by rfl, ?_⟩) (by assumption) ?_
      rotate_left
      · (intro w hSw; go_simp; try (with_reducible rfl))
      try simp only [Act.put, List.getElem_toArray, List.getElem_cons_zero, List.getElem_cons_succ, List.setIfInBounds_toArray, List.set_cons_zero, List.set_cons_succ]
      refine wpAnyH_take (i := 2) (v := ?_) rfl (by kernel_rfl) (by kernel_rfl) (by kernel_rfl) (fun _ _ _ h => h) (Or.inl ⟨by rfl, ?_⟩) (by assumption) ?_
      rotate_left
      · (intro w hSw; go_simp; try (with_reducible rfl))
      try simp only [Act.put, List.getElem_toArray, List.getElem_cons_zero, List.getElem_cons_succ, List.setIfInBounds_toArray, List.set_cons_zero, List.set_cons_succ]
      refine wpAnyH_take (i := 4) (v := ?_) rfl (by kernel_rfl) (by kernel_rfl) (by kernel_rfl) (fun _ _ _ h => h) (Or.inl ⟨by rfl, ?_⟩) (by assumption) ?_
      rotate_left
      · (intro w hSw; go_simp; try (with_reducible rfl))
      try simp only [Act.put, List.getElem_toArray, List.getElem_cons_zero, List.getElem_cons_succ, List.setIfInBounds_toArray, List.set_cons_zero, List.set_cons_succ]
      refine wpAnyH_take (i := 5) (v := ?_) rfl (by kernel_rfl) (by kernel_rfl) (by kernel_rfl) (fun _ _ _ h => h) (Or.inl ⟨by rfl, ?_⟩) (by assumption) ?_
      rotate_left
      · (intro w hSw; go_simp; try (with_reducible rfl))
      try simp only [Act.put, List.getElem_toArray, List.getElem_cons_zero, List.getElem_cons_succ, List.setIfInBounds_toArray, List.set_cons_zero, List.set_cons_succ]
      refine wpAnyH_take (i := 6) (v := ?_) rfl (by kernel_rfl) (by kernel_rfl) (by kernel_rfl) (fun _ _ _ h => h) (Or.inl ⟨by rfl, ?_⟩) (by assumption) ?_
      rotate_left
      · (intro w hSw; go_simp; try (with_reducible rfl))
      try simp only [Act.put, List.getElem_toArray, List.getElem_cons_zero, List.getElem_cons_succ, List.setIfInBounds_toArray, List.set_cons_zero, List.set_cons_succ]
      refine wpAnyH_take (i := 7) (v := ?_) rfl (by kernel_rfl) (by kernel_rfl) (by kernel_rfl) (fun _ _ _ h => h) (Or.inl ⟨by rfl, ?_⟩) (by assumption) ?_
      rotate_left
      · (intro w hSw; have hc0 := MR.out w hSw; go_simp; try (with_reducible rfl))
      try simp only [Act.put, List.getElem_toArray, List.getElem_cons_zero, List.getElem_cons_succ, List.setIfInBounds_toArray, List.set_cons_zero, List.set_cons_succ]
      refine wpAnyH_ready (rs := [3]) (by kernel_rfl) (by simp) ?_
      refine AllReadyH.cons rfl (fun K hK => ?_) AllReadyH.nil
      go_simp
      refine HLEN.out.mono ?_
      rintro e w3 ⟨rfl, hw3⟩
      rw [hw3]
      clear hw3
      go_wp2_with fail
      refine hK.out _ _ hHeld (fun hHeld => ?_)
      clear hK K
      try simp only [Act.put, List.getElem_toArray, List.getElem_cons_zero, List.getElem_cons_succ, List.setIfInBounds_toArray, List.set_cons_zero, List.set_cons_succ]
      refine wpAnyH_take (i := 8) (v := ?_) rfl (by kernel_rfl) (by kernel_rfl) (by kernel_rfl) (fun _ _ _ h => h) (Or.inl ⟨by rfl, ?_⟩) (by assumption) ?_
      rotate_left
      · (intro w hSw; go_simp; try (with_reducible rfl))
      try simp only [Act.put, List.getElem_toArray, List.getElem_cons_zero, List.getElem_cons_succ, List.setIfInBounds_toArray, List.set_cons_zero, List.set_cons_succ]
      refine wpAnyH_take (i := 9) (v := ?_) rfl (by kernel_rfl) (by kernel_rfl) (by kernel_rfl) (fun _ _ _ h => h) (Or.inl ⟨by rfl, ?_⟩) (by assumption) ?_
      rotate_left
      · (intro w hSw; go_simp; try (with_reducible rfl))
      try simp only [Act.put, List.getElem_toArray, List.getElem_cons_zero, List.getElem_cons_succ, List.setIfInBounds_toArray, List.set_cons_zero, List.set_cons_succ]
      refine wpAnyH_take (i := 10) (v := ?_) rfl (by kernel_rfl) (by kernel_rfl) (by kernel_rfl) (fun _ _ _ h => h) (Or.inl ⟨by rfl, ?_⟩) (by assumption) ?_
      rotate_left
      · (intro w hSw; go_simp; try (with_reducible rfl))
      try simp only [Act.put, List.getElem_toArray, List.getElem_cons_zero, List.getElem_cons_succ, List.setIfInBounds_toArray, List.set_cons_zero, List.set_cons_succ]
      refine wpAnyH_take (i := 11) (v := undef) rfl (by kernel_rfl) (by kernel_rfl) (by kernel_rfl) (fun _ _ _ h => h) (Or.inr ⟨by rfl, rfl⟩) (by assumption) ?_
      try simp only [Act.put, List.getElem_toArray, List.getElem_cons_zero, List.getElem_cons_succ, List.setIfInBounds_toArray, List.set_cons_zero, List.set_cons_succ]
      refine wpAnyH_take (i := 12) (v := undef) rfl (by kernel_rfl) (by kernel_rfl) (by kernel_rfl) (fun _ _ _ h => h) (Or.inr ⟨by rfl, rfl⟩) (by assumption) ?_
      try simp only [Act.put, List.getElem_toArray, List.getElem_cons_zero, List.getElem_cons_succ, List.setIfInBounds_toArray, List.set_cons_zero, List.set_cons_succ]
      refine wpAnyH_take (i := 13) (v := undef) rfl (by kernel_rfl) (by kernel_rfl) (by kernel_rfl) (fun _ _ _ h => h) (Or.inr ⟨by rfl, rfl⟩) (by assumption) ?_
      try simp only [Act.put, List.getElem_toArray, List.getElem_cons_zero, List.getElem_cons_succ, List.setIfInBounds_toArray, List.set_cons_zero, List.set_cons_succ]
      refine wpAnyH_take (i := 14) (v := undef) rfl (by kernel_rfl) (by kernel_rfl) (by kernel_rfl) (fun _ _ _ h => h) (Or.inr ⟨by rfl, rfl⟩) (by assumption) ?_
      try simp only [Act.put, List.getElem_toArray, List.getElem_cons_zero, List.getElem_cons_succ, List.setIfInBounds_toArray, List.set_cons_zero, List.set_cons_succ]
      refine wpAnyH_take (i := 15) (v := ?_) rfl (by kernel_rfl) (by kernel_rfl) (by kernel_rfl) (fun _ _ _ h => h) (Or.inl ⟨by rfl, ?_⟩) (by assumption) ?_
      rotate_left
      · (intro w hSw; go_simp; try (with_reducible rfl))
      try simp only [Act.put, List.getElem_toArray, List.getElem_cons_zero, List.getElem_cons_succ, List.setIfInBounds_toArray, List.set_cons_zero, List.set_cons_succ]
      refine wpAnyH_done (by kernel_rfl) ?_ _
      refine NoPanic.normal ?_
      go_wp2_with (first | (refine build_key0 rfl rfl ?_) | (refine store_key HZD _ _ rfl rfl rfl rfl (fun W8 HW8 HC8 => ?_)))
      refine bodyPost_ret (results_key2 Try.results32 rfl HC8.out) rfl ⟨by rw [HM.out]; rfl, ?_, ?_⟩
      · rw [HW8.out, HM.out]; exact HHD.out.setsAt (by have := HHD.out.lt; have := HBB.out; omega) (by have := HGG.out; omega)
      · rw [HW8.out]; exact grown_sets HGD.out (Nat.le_succ _) _
    · have hd : decide ((n : Int) < room) = false := decide_eq_false hrm
      obtain ⟨q, hq⟩ : ∃ q, n - (sweepC es now).length = q := ⟨_, rfl⟩
      have hsl := sweepC_len es now
      rw [hn] at hsl
      have HQ := Lib.hid hq
      have HSL := Lib.hid hsl
      rw [hq] at HSW
      clear hn hq hsl
      go_upto_region 2 with fail
      refine wp_region_noPanic ?_
      refine wp_region_held_drew (S := fun (W : World) => W.cell? ⟨G, 0, none⟩ = some (.int .i64 room)) (by kernel_rfl) HS0.out (fun hHeld => ?_)
      refine wpAnyH_take (i := 0) (v := ?_) rfl (by kernel_rfl) (by kernel_rfl) (by kernel_rfl) (fun _ _ _ h => h) (Or.inl ⟨by rfl, ?_⟩) (by assumption) ?_
      rotate_left
      · (intro w hSw; go_simp; try (with_reducible rfl))
      try simp only [Act.put, List.getElem_toArray, List.getElem_cons_zero, List.setIfInBounds_toArray, List.set_cons_zero, List.set_cons_succ]
      refine wpAnyH_take (i := 1) (v := ?_) rfl (by kernel_rfl) (by kernel_rfl) (by kernel_rfl) (fun _ _ _ h => h) (Or.inl ⟨by rfl, ?_⟩) (by assumption) ?_
      rotate_left
      · (intro w hSw; go_simp; try (with_reducible rfl))
      try simp only [Act.put, List.getElem_toArray, List.getElem_cons_zero, List.getElem_cons_succ, List.setIfInBounds_toArray, List.set_cons_zero, List.set_cons_succ]
      refine wpAnyH_take (i := 2) (v := ?_) rfl (by kernel_rfl) (by kernel_rfl) (by kernel_rfl) (fun _ _ _ h => h) (Or.inl ⟨by rfl, ?_⟩) (by assumption) ?_
      rotate_left
      · (intro w hSw; go_simp; try (with_reducible rfl))
      try simp only [Act.put, List.getElem_toArray, List.getElem_cons_zero, List.getElem_cons_succ, List.setIfInBounds_toArray, List.set_cons_zero, List.set_cons_succ]
      refine wpAnyH_take (i := 4) (v := ?_) rfl (by kernel_rfl) (by kernel_rfl) (by kernel_rfl) (fun _ _ _ h => h) (Or.inl ⟨by rfl, ?_⟩) (by assumption) ?_
      rotate_left
      · (intro w hSw; go_simp; try (with_reducible rfl))
      try simp only [Act.put, List.getElem_toArray, List.getElem_cons_zero, List.getElem_cons_succ, List.setIfInBounds_toArray, List.set_cons_zero, List.set_cons_succ]
      refine wpAnyH_take (i := 5) (v := ?_) rfl (by kernel_rfl) (by kernel_rfl) (by kernel_rfl) (fun _ _ _ h => h) (Or.inl ⟨by rfl, ?_⟩) (by assumption) ?_
      rotate_left
      · (intro w hSw; go_simp; try (with_reducible rfl))
      try simp only [Act.put, List.getElem_toArray, List.getElem_cons_zero, List.getElem_cons_succ, List.setIfInBounds_toArray, List.set_cons_zero, List.set_cons_succ]
      refine wpAnyH_take (i := 6) (v := ?_) rfl (by kernel_rfl) (by kernel_rfl) (by kernel_rfl) (fun _ _ _ h => h) (Or.inl ⟨by rfl, ?_⟩) (by assumption) ?_
      rotate_left
      · (intro w hSw; go_simp; try (with_reducible rfl))
      try simp only [Act.put, List.getElem_toArray, List.getElem_cons_zero, List.getElem_cons_succ, List.setIfInBounds_toArray, List.set_cons_zero, List.set_cons_succ]
      refine wpAnyH_take (i := 7) (v := ?_) rfl (by kernel_rfl) (by kernel_rfl) (by kernel_rfl) (fun _ _ _ h => h) (Or.inl ⟨by rfl, ?_⟩) (by assumption) ?_
      rotate_left
      · (intro w hSw; have hc0 := MR.out w hSw; go_simp; try (with_reducible rfl))
      try simp only [Act.put, List.getElem_toArray, List.getElem_cons_zero, List.getElem_cons_succ, List.setIfInBounds_toArray, List.set_cons_zero, List.set_cons_succ]
      refine wpAnyH_ready (rs := [3]) (by kernel_rfl) (by simp) ?_
      refine AllReadyH.cons rfl (fun K hK => ?_) AllReadyH.nil
      go_simp
      refine HLEN.out.mono ?_
      rintro e w3 ⟨rfl, hw3⟩
      rw [hw3]
      clear hw3
      go_wp2_with fail
      refine hK.out _ _ hHeld (fun hHeld => ?_)
      clear hK K
      try simp only [Act.put, List.getElem_toArray, List.getElem_cons_zero, List.getElem_cons_succ, List.setIfInBounds_toArray, List.set_cons_zero, List.set_cons_succ]
      refine wpAnyH_take (i := 8) (v := ?_) rfl (by kernel_rfl) (by kernel_rfl) (by kernel_rfl) (fun _ _ _ h => h) (Or.inl ⟨by rfl, ?_⟩) (by assumption) ?_
      rotate_left
      · (intro w hSw; go_simp; try (with_reducible rfl))
      try simp only [Act.put, List.getElem_toArray, List.getElem_cons_zero, List.getElem_cons_succ, List.setIfInBounds_toArray, List.set_cons_zero, List.set_cons_succ]
      refine wpAnyH_take (i := 9) (v := ?_) rfl (by kernel_rfl) (by kernel_rfl) (by kernel_rfl) (fun _ _ _ h => h) (Or.inl ⟨by rfl, ?_⟩) (by assumption) ?_
      rotate_left
      · (intro w hSw; go_simp; try (with_reducible rfl))
      try simp only [Act.put, List.getElem_toArray, List.getElem_cons_zero, List.getElem_cons_succ, List.setIfInBounds_toArray, List.set_cons_zero, List.set_cons_succ]
      refine wpAnyH_take (i := 10) (v := ?_) rfl (by kernel_rfl) (by kernel_rfl) (by kernel_rfl) (fun _ _ _ h => h) (Or.inl ⟨by rfl, ?_⟩) (by assumption) ?_
      rotate_left
      · (intro w hSw; go_simp; try (with_reducible rfl))
      try simp only [Act.put, List.getElem_toArray, List.getElem_cons_zero, List.getElem_cons_succ, List.setIfInBounds_toArray, List.set_cons_zero, List.set_cons_succ]
      refine wpAnyH_take (i := 11) (v := ?_) rfl (by kernel_rfl) (by kernel_rfl) (by kernel_rfl) (fun _ _ _ h => h) (Or.inl ⟨by rfl, ?_⟩) (by assumption) ?_
      rotate_left
      · (intro w hSw; go_simp; try (with_reducible rfl))
      try simp only [Act.put, List.getElem_toArray, List.getElem_cons_zero, List.getElem_cons_succ, List.setIfInBounds_toArray, List.set_cons_zero, List.set_cons_succ]
      refine wpAnyH_take (i := 12) (v := ?_) rfl (by kernel_rfl) (by kernel_rfl) (by kernel_rfl) (fun _ _ _ h => h) (Or.inl ⟨by rfl, ?_⟩) (by assumption) ?_
      rotate_left
      · (intro w hSw; go_simp; try (with_reducible rfl))
      try simp only [Act.put, List.getElem_toArray, List.getElem_cons_zero, List.getElem_cons_succ, List.setIfInBounds_toArray, List.set_cons_zero, List.set_cons_succ]
      refine wpAnyH_ready (rs := [13]) (by kernel_rfl) (by simp) ?_
      refine AllReadyH.cons rfl (fun K hK => ?_) AllReadyH.nil
      go_simp
      refine HSW.out.mono ?_
      rintro e w4 ⟨rfl, hc4, hg4⟩
      have HC4 := Lib.hid hc4
      have HG4 := Lib.hid (HGD.out.andThen hg4 (fun j hj => .inr hj))
      have HZ4 := Lib.hid (HZD.out.grown hg4 (by have := HBB.out; omega))
      clear hc4 hg4 HSW HZD HHD HGD HLEN
      go_wp2_with fail
      refine hK.out _ _ (HC4.out.cs.cell 0 _ rfl) (fun hHeld => ?_)
      clear hK K
      try simp only [Act.put, List.getElem_toArray, List.getElem_cons_zero, List.getElem_cons_succ, List.setIfInBounds_toArray, List.set_cons_zero, List.set_cons_succ]
      refine wpAnyH_take (i := 14) (v := ?_) rfl (by kernel_rfl) (by kernel_rfl) (by kernel_rfl) (fun _ _ _ h => h) (Or.inl ⟨by rfl, ?_⟩) (by assumption) ?_
      rotate_left
      · (intro w hSw; go_simp; try (with_reducible rfl))
      try simp only [Act.put, List.getElem_toArray, List.getElem_cons_zero, List.getElem_cons_succ, List.setIfInBounds_toArray, List.set_cons_zero, List.set_cons_succ]
      refine wpAnyH_take (i := 15) (v := ?_) rfl (by kernel_rfl) (by kernel_rfl) (by kernel_rfl) (fun _ _ _ h => h) (Or.inl ⟨by rfl, ?_⟩) (by assumption) ?_
      rotate_left
      · (intro w hSw; go_simp; try (with_reducible rfl))
      try simp only [Act.put, List.getElem_toArray, List.getElem_cons_zero, List.getElem_cons_succ, List.setIfInBounds_toArray, List.set_cons_zero, List.set_cons_succ]
      refine wpAnyH_done (by kernel_rfl) ?_ _
      refine NoPanic.normal ?_
      by_cases hq0 : 0 < q
      · have hdq : decide (0 < q) = true := decide_eq_true hq0
        have hdi : decide ((0 : Int) < (q : Int)) = true := decide_eq_true (by omega)
        have HM := Lib.hid (HMM.out.symm.trans (makesC_swept (room := room) (now := now) HHAD.out (by rw [HNN.out]; omega) (by rw [HNN.out]; have := HQ.out; omega)))
        go_wp2_with (first | (refine build_key0 rfl rfl ?_) | (refine store_key HZ4 _ _ rfl rfl rfl rfl (fun W8 HW8 HC8 => ?_)))
        refine bodyPost_ret (results_key2 Try.results32 rfl HC8.out) rfl ⟨by rw [HM.out]; rfl, ?_, ?_⟩
        · rw [HW8.out, HM.out]; exact HC4.out.setsAt (by have := HC4.out.lt; have := HBB.out; omega) (by have := HGG.out; omega)
        · rw [HW8.out]; exact grown_sets HG4.out (Nat.le_succ _) _
      · have hdq : decide (0 < q) = false := decide_eq_false hq0
        obtain rfl : q = 0 := by omega
        have hnl : ¬ (sweepC es now).length < es.length := by rw [HNN.out]; have := HQ.out; omega
        have HM := Lib.hid (HMM.out.symm.trans (makesC_let (room := room) (now := now) HHAD.out (by rw [HNN.out]; omega) hnl))
        have hse : sweepC es now = es := sweepC_same (by rw [HNN.out]; have := HQ.out; have := HSL.out; omega)
        rw [hse] at HC4
        have hlen1 : 1 ≤ es.length := by rw [HNN.out]; omega
        have HSO := Lib.hid (soonest_any G b room es w4 HC4.out hlen1)
        have hbl : bestC es es.length < es.length := by
          cases he : es.length with
          | zero => omega
          | succ k => have := bestC_lt es k; omega
        have HKO := Lib.hid (show KeyOk (kAt es (bestC es es.length)) from by rw [kAt_eq hbl]; exact HC4.out.ok _ (List.getElem_mem hbl))
        have HGE : Hid ((es[bestC es es.length]?.map keyC).getD noKey = kAt es (bestC es es.length) ∧ (es[bestC es es.length]?).isSome = true) := Lib.hid (by rw [List.getElem?_eq_getElem hbl, kAt_eq hbl]; exact ⟨rfl, rfl⟩)
        have HWO := Lib.hid (withoutC_cut HC4.out.so.apart _ hbl)
        have HKA := Lib.hid (kAt_eq hbl)
        obtain ⟨kb, hkb⟩ : ∃ kb, kAt es (bestC es es.length) = kb := ⟨_, rfl⟩
        rw [hkb] at HSO HKO HKA HGE
        rw [hkb] at HM
        clear hkb hse hlen1 hnl
        have HCUT : Hid (∀ W, CellsAt W G [.int .i64 room, .map (some b)] → CacMap W b (withoutC es kb) → CacAt W G b room (withoutC es kb)) := Lib.hid (fun W h1 h2 => by
          have e : withoutC es kb = cutC es (bestC es es.length) := by rw [HKA.out]; exact HWO.out
          have hl := cutC_len es _ hbl
          refine ⟨h1, h2, by rw [e]; exact cutC_sorted HC4.out.so _, (fun y hy => HC4.out.ok y (List.mem_filter.1 hy).1), ?_, HC4.out.r1, HC4.out.r2⟩
          rw [e]
          have := HC4.out.le
          omega)
        go_wp2_with fail
        refine HSO.out.mono ?_
        rintro e w5 ⟨rfl, hb5⟩
        have HC5 := Lib.hid (HC4.out.below hb5)
        have HZ5 := Lib.hid (HZ4.out.below hb5)
        have HG5 := Lib.hid (HG4.out.andThen (grown_of_below hb5) (fun j hj => by cases hj))
        clear hb5 HSO HC4 HZ4 HG4 HWO HKA hbl
        have hba : Below w5.heap.size w5 (w5.alloc (.cells #[.string ⟨#[]⟩, .int .i64 0] 39)) := (Below.refl _ _).alloc (Nat.le_refl _) _
        have HZ10 : Hid (CellsAt (w5.alloc (.cells #[.string ⟨#[]⟩, .int .i64 0] 39)) w5.heap.size (keyL noKey)) := Lib.hid (CellsAt.new w5 39 (keyL noKey))
        have HC5a := Lib.hid (HC5.out.below hba)
        have HZ5a := Lib.hid (HZ5.out.below hba)
        have HG5a := Lib.hid (HG5.out.andThen (grown_of_below hba) (fun j hj => by cases hj))
        have HLT5 := Lib.hid HC5.out.lt
        have HLZ5 := Lib.hid HZ5.out.lt
        have HSZ5 := Lib.hid HG5.out.size
        clear hba HC5 HZ5 HG5
        go_upto_region 5 with (first | (refine store_key HZ10 _ _ rfl rfl rfl rfl (fun W6 HW6 HC6 => ?_)))
        have HA6 : Hid (CacAt W6 G b room es) := Lib.hid (by rw [HW6.out]; exact HC5a.out.setsAt (by have := HLT5.out.2; omega) (by have := HLT5.out.1; omega))
        have HZ6 : Hid (CellsAt W6 (w.heap.size + 1) (keyL noKey)) := Lib.hid (by rw [HW6.out]; exact HZ5a.out.apart (by have := HLZ5.out; omega) _)
        have HG6 : Hid (w.grownBy W6 (some b)) := Lib.hid (by rw [HW6.out]; exact grown_sets HG5a.out HSZ5.out _)
        have HNB : Hid (w5.heap.size ≠ b) := Lib.hid (by have := HLT5.out.2; omega)
        have HNZ : Hid (w.heap.size + 1 ≠ b) := Lib.hid (by have := HBB.out; omega)
        generalize w5.heap.size = P10 at *
        clear HW6 HC5a HZ5a HG5a HLT5 HLZ5 HSZ5 HZ10
        obtain ⟨S2, hS2⟩ : ∃ S2 : World → Prop, (fun W => W.cell? ⟨G, 1, none⟩ = some (.map (some b)) ∧ W.rangeAt P10 0 (keyL kb)) = S2 := ⟨_, rfl⟩
        have HS20 : Hid (S2 W6.drew) := Lib.hid (by rw [← hS2]; exact ⟨HA6.out.cs.cell 1 _ rfl, HC6.out.range⟩)
        have HS21 : Hid (∀ W, W6.drew.mapTurned W b → S2 W) := Lib.hid (fun W ht => by
          have hg := grown_undrew ht.grown
          rw [← hS2]
          exact ⟨(HA6.out.cs.grown hg HA6.out.ne).cell 1 _ rfl, (HC6.out.grown hg HNB.out).range⟩)
        have M1 : Hid (∀ W, S2 W → W.cell? ⟨G, 1, none⟩ = some (.map (some b))) := Lib.hid (fun W h => by rw [← hS2] at h; exact h.1)
        have M2 : Hid (∀ W, S2 W → W.rangeAt P10 0 (keyL kb)) := Lib.hid (fun W h => by rw [← hS2] at h; exact h.2)
        have HMD : Hid (CacMap W6.drew b es) := Lib.hid (HA6.out.below (Below.refl _ _).drew).mp
        clear hS2
        refine wp_region_noPanic ?_
        refine wp_region_held_drew (S := S2) (by kernel_rfl) HS20.out (fun hHeld => ?_)
        refine wpAnyH_take (i := 0) (v := ?_) rfl (by kernel_rfl) (by kernel_rfl) (by kernel_rfl) (fun _ _ _ h => h) (Or.inl ⟨by rfl, ?_⟩) (by assumption) ?_
        rotate_left
        · (intro w hSw; go_simp; try (with_reducible rfl))
        try simp only [Act.put, List.getElem_toArray, List.getElem_cons_zero, List.setIfInBounds_toArray, List.set_cons_zero, List.set_cons_succ]
        refine wpAnyH_take (i := 1) (v := ?_) rfl (by kernel_rfl) (by kernel_rfl) (by kernel_rfl) (fun _ _ _ h => h) (Or.inl ⟨by rfl, ?_⟩) (by assumption) ?_
        rotate_left
        · (intro w hSw; go_simp; try (with_reducible rfl))
        try simp only [Act.put, List.getElem_toArray, List.getElem_cons_zero, List.getElem_cons_succ, List.setIfInBounds_toArray, List.set_cons_zero, List.set_cons_succ]
        refine wpAnyH_take (i := 2) (v := ?_) rfl (by kernel_rfl) (by kernel_rfl) (by kernel_rfl) (fun _ _ _ h => h) (Or.inl ⟨by rfl, ?_⟩) (by assumption) ?_
        rotate_left
        · (intro w hSw; go_simp; try (with_reducible rfl))
        try simp only [Act.put, List.getElem_toArray, List.getElem_cons_zero, List.getElem_cons_succ, List.setIfInBounds_toArray, List.set_cons_zero, List.set_cons_succ]
        refine wpAnyH_take (i := 3) (v := ?_) rfl (by kernel_rfl) (by kernel_rfl) (by kernel_rfl) (fun _ _ _ h => h) (Or.inl ⟨by rfl, ?_⟩) (by assumption) ?_
        rotate_left
        · (intro w hSw; have hc0 := M1.out w hSw; go_simp; try (with_reducible rfl))
        try simp only [Act.put, List.getElem_toArray, List.getElem_cons_zero, List.getElem_cons_succ, List.setIfInBounds_toArray, List.set_cons_zero, List.set_cons_succ]
        refine wpAnyH_take (i := 4) rfl (by kernel_rfl) (by kernel_rfl) (by kernel_rfl) (fun _ _ _ h => h) (yields_key (p:=kb) M2 (by rfl) _ rfl rfl) (by assumption) ?_
        try simp only [Act.put, List.getElem_toArray, List.getElem_cons_zero, List.getElem_cons_succ, List.setIfInBounds_toArray, List.set_cons_zero, List.set_cons_succ]
        refine wpAnyH_ready (rs := [5]) (by kernel_rfl) (by simp) ?_
        refine AllReadyH.one rfl rfl (fun K hK => ?_)
        refine wp_delete_own (w := W6.drew) _ _ rfl rfl HMD.out HA6.out.ok (p := kb) rfl HKO.out (fun w7 hm7 ht7 => ?_)
        have hg7 := grown_undrew ht7.grown
        have HA7 := Lib.hid (HCUT.out w7 (HA6.out.cs.grown hg7 HA6.out.ne) hm7)
        have HZ7 := Lib.hid (HZ6.out.grown hg7 HNZ.out)
        have HK7 := Lib.hid (HC6.out.grown hg7 HNB.out).range
        have HG7 := Lib.hid (HG6.out.andThen hg7 (fun j hj => .inr hj))
        refine hK.out _ _ (HS21.out _ ht7) (fun hHeld => ?_)
        clear hK K hm7 ht7 hg7
        try simp only [Act.put]
        refine wpAnyH_done (by kernel_rfl) ?_ _
        refine NoPanic.normal ?_
        go_wp2_with (first | refine load_key HK7 _ rfl rfl rfl ?_ | (refine store_key HZ7 _ _ rfl rfl rfl rfl (fun W8 HW8 HC8 => ?_)))
        refine bodyPost_ret (results_key2 Try.results32 rfl HC8.out) rfl ⟨?_, ?_, ?_⟩
        · rw [HM.out]
          show _ = Ending.returned (.tuple #[keyV _, .bool _])
          rw [HGE.out.1, HGE.out.2]
          rfl
        · rw [HW8.out, HM.out]; exact HA7.out.setsAt (by have := HBB.out; omega) (by have := HGG.out; omega)
        · rw [HW8.out]; exact grown_sets HG7.out (Nat.le_succ _) _
end Go.Proofs.Ytjmmedpkcedngaa
/- Contract of Cache.Put. -/
namespace Go.Proofs.Ytjmmedpkcedngaa
open Go.RowKit Go.Maps
set_option linter.unusedVariables false
set_option maxRecDepth 20000

/-- What the landed Put leaves is what the reference's leaves. -/
theorem put_makes {room : Int} {es : List Ce} (own : Ce) (now : Int) (hs : SortedC es) (hr : (es.length : Int) ≤ room) (h1 : 1 ≤ room) :
    (makesC room es own.s own.t now).2 = (putC room es own now).2 ∧ (putC room es own now).1.Perm (own :: withoutC (makesC room es own.s own.t now).1 (keyC own)) := by
  unfold putC
  cases hf : findC es own.s own.t with
  | some i =>
    obtain ⟨hi, hk⟩ := findC_lt _ _ _ _ hf
    have hg : (getE es own.s own.t).isSome = true := by unfold getE; rw [hf]; simp only [List.getElem?_eq_getElem hi]; rfl
    rw [makesC_had hg]
    have e : keyC es[i] = keyC own := Prod.ext hk.1 hk.2
    have hc := withoutC_cut hs.apart i hi
    refine ⟨rfl, ?_⟩
    rw [← e, hc]
    exact insC_perm _ _
  | none =>
    have hg : (getE es own.s own.t).isSome = false := by unfold getE; rw [hf]; rfl
    have hno : ∀ e ∈ es, keyC e ≠ keyC own := findC_none_iff hf
    have hsl := sweepC_len es now
    simp only
    by_cases hl : (es.length : Int) = room
    · rw [if_pos hl]
      by_cases h2 : (sweepC es now).length < es.length
      · rw [makesC_swept hg (by omega) h2, if_neg (by omega)]
        refine ⟨rfl, ?_⟩
        show List.Perm (insC own (sweepC es now)) (own :: withoutC (sweepC es now) (keyC own))
        rw [withoutC_none (es := sweepC es now) (fun e he => hno e (List.mem_filter.1 he).1)]
        exact insC_perm _ _
      · have hse : sweepC es now = es := sweepC_same (by omega)
        rw [makesC_let hg (by omega) h2, hse, if_pos hl]
        refine ⟨rfl, ?_⟩
        have hb : bestC es es.length < es.length := by
          cases he : es.length with
          | zero => rw [he] at hl; omega
          | succ k => have := bestC_lt es k; omega
        show List.Perm _ (own :: withoutC (withoutC es (kAt es (bestC es es.length))) (keyC own))
        rw [kAt_eq hb, withoutC_cut hs.apart _ hb, withoutC_none (fun e he => hno e (cutC_mem he))]
        exact insC_perm _ _
    · rw [makesC_room hg (by omega), if_neg hl]
      refine ⟨rfl, ?_⟩
      show List.Perm (insC own es) (own :: withoutC es (keyC own))
      rw [withoutC_none hno]
      exact insC_perm _ _
theorem wp_update_own {o : Oper} {a : Act} {w : World} {K : Act → World → Prop} {Q : Exit → Act → World → Prop} (m x v : Operand) (hop : o.op = Op.mapUpdate 66 m x v)
    {b : Nat} {es : List Ce} (hm : a.eval m = .map (some b)) (h : CacMap w b es) (hk : KeysOk es) {e : Ce} (hx : a.eval x = keyV (keyC e)) (hv : a.eval v = entV e) (hp : KeyOk (keyC e)) (hl : es.length ≤ 1000)
    (hK : ∀ w', CacMap w' b (e :: withoutC es (keyC e)) → w.mapTurned w' b → K (a.put o.dst undef) w') : o.wp Try.prog a w K Q := by
  obtain ⟨w', hrun, r1, r2⟩ := h.store hk e hp hl
  unfold Oper.wp
  simp [execOp, hop, hm, hx, hv, hrun, Result.andThen]
  exact hK w' r1 r2
theorem AdsIn.grown {w w' : World} {a : Option Addr} {c b : Nat} {L : List Ad} (h : AdsIn w a c L) (hg : w.grownBy w' (some b)) (hb : ∃ e0 cl, w.heap[b]? = some (.map e0 cl)) : AdsIn w' a c L := by
  obtain ⟨⟨h1, h2, h3, h4⟩, h5⟩ := h
  refine ⟨⟨h1, h2, h3, ?_⟩, h5⟩
  rcases h4 with h4 | ⟨g, o, e, hgl, hr⟩
  · exact .inl h4
  · by_cases hl : L.length = 0
    · exact .inl hl
    · refine .inr ⟨g, o, e, Nat.lt_of_lt_of_le hgl hg.size, range_farC hr hg hgl (fun e2 => ?_)⟩
      injection e2 with e2
      obtain ⟨e0, cl, hb⟩ := hb
      cases L with
      | nil => simp at hl
      | cons r L =>
        have := hr 0 _ (by show (adL r ++ _)[0]? = _; rfl)
        rw [e2] at this
        simp [World.cell?, hb] at this
theorem AdsIn.sets {w : World} {a : Option Addr} {c B : Nat} {vs : List Value} {L : List Ad} (h : AdsIn w a c L) (hne : ∀ g o, a = some ⟨g, o, none⟩ → g ≠ B) : AdsIn (w.setCells B 0 vs) a c L := by
  obtain ⟨⟨h1, h2, h3, h4⟩, h5⟩ := h
  refine ⟨⟨h1, h2, h3, ?_⟩, h5⟩
  rcases h4 with h4 | ⟨g, o, e, hgl, hr⟩
  · exact .inl h4
  · exact .inr ⟨g, o, e, by rw [size_setCells]; exact hgl, World.rangeAt_setCells_apart hr B 0 vs (.inl (hne g o e))⟩
theorem RowA.far {w : World} {base : Nat} {a : Option Addr} {n c : Nat} {D : List Ad} (h : RowA w base (.slice a n c) D) : ∀ g o, a = some ⟨g, o, none⟩ → base ≤ g := by
  rintro g o rfl
  exact (h.lt g rfl).1
theorem putNo_any (G b : Nat) (room : Int) (es : List Ce) (s : ByteArray) (t ttl now : Int) (a : Option Addr) (n c : Nat) (w : World) (h : CacAt w G b room es) (httl : ttl < 1) :
    Calls Try.prog 17 #[.pointer (some ⟨G, 0, none⟩), .string s, .int .i64 t, .slice a n c, .int .i64 ttl, .int .i64 now] w fun e w' => e = .returned (.tuple #[keyV noKey, .bool false]) ∧ Below w.heap.size w w' := by
  obtain ⟨W, hW⟩ : ∃ W, w.alloc (.cells #[.string ⟨#[]⟩, .int .i64 0] 39) = W := ⟨_, rfl⟩
  have HB : Hid (Below w.heap.size w W) := Lib.hid (by rw [← hW]; exact (Below.refl _ _).alloc (Nat.le_refl _) _)
  have HZ : Hid (CellsAt W w.heap.size (keyL noKey)) := Lib.hid (by rw [← hW]; exact CellsAt.new w 39 (keyL noKey))
  have hd : decide (ttl < 1) = true := decide_eq_true httl
  clear h
  go_enter Try.func17, Try.ntmps17
  go_upto_region 1 with fail
  first | rw [hW] | skip
  clear hW
  go_wp2_with (first | (refine build_key0 rfl rfl ?_) | (refine store_key HZ _ _ rfl rfl rfl rfl (fun W8 HW8 HC8 => ?_)))
  refine bodyPost_ret (results_key2 Try.results17 rfl HC8.out) rfl ⟨rfl, ?_⟩
  rw [HW8.out]
  exact below_cells (Nat.le_refl _) _ _ _ HB.out
set_option maxRecDepth 100000 in
set_option maxHeartbeats 4000000 in
theorem put_any (G b : Nat) (room : Int) (es : List Ce) (s : ByteArray) (t ttl now : Int) (a : Option Addr) (c : Nat) (L : List Ad) (w : World) (h : CacAt w G b room es) (hs : s.size ≤ 2000000) (ht : (Lit.int .i64 t).wf = true) (httl : 1 ≤ ttl) (hn0 : 0 ≤ now) (hn1 : now ≤ 2199023255552) (hA : AdsIn w a c L) (hl : L.length ≤ 1000) :
    Calls Try.prog 17 #[.pointer (some ⟨G, 0, none⟩), .string s, .int .i64 t, .slice a L.length c, .int .i64 ttl, .int .i64 now] w fun e w' => ∃ a' c', e = .returned (.tuple #[keyV (((putC room es ⟨lowB s, t, a', L.length, c', now + min ttl 604800⟩ now).2.map keyC).getD noKey), .bool (putC room es ⟨lowB s, t, a', L.length, c', now + min ttl 604800⟩ now).2.isSome]) ∧ CacAt w' G b room (putC room es ⟨lowB s, t, a', L.length, c', now + min ttl 604800⟩ now).1 ∧ AdsIn w' a' c' L ∧ w.grownBy w' (some b) := by
  have hx : (lowB s).size ≤ 2000000 := by rw [lowB_size]; exact hs
  have HPM : Hid (∀ a' c', (makesC room es (lowB s) t now).2 = (putC room es ⟨lowB s, t, a', L.length, c', now + min ttl 604800⟩ now).2 ∧ (putC room es ⟨lowB s, t, a', L.length, c', now + min ttl 604800⟩ now).1.Perm (⟨lowB s, t, a', L.length, c', now + min ttl 604800⟩ :: withoutC (makesC room es (lowB s) t now).1 (lowB s, t)) ∧ SortedC (putC room es ⟨lowB s, t, a', L.length, c', now + min ttl 604800⟩ now).1 ∧ ((putC room es ⟨lowB s, t, a', L.length, c', now + min ttl 604800⟩ now).1.length : Int) ≤ room ∧ KeysOk (putC room es ⟨lowB s, t, a', L.length, c', now + min ttl 604800⟩ now).1) := Lib.hid (fun a' c' => by
    obtain ⟨h1, h2⟩ := put_makes ⟨lowB s, t, a', L.length, c', now + min ttl 604800⟩ now h.so h.le h.r1
    obtain ⟨h3, h4, h5⟩ := putC_ok (own := ⟨lowB s, t, a', L.length, c', now + min ttl 604800⟩) (now := now) h.so h.le h.r1
    refine ⟨h1, h2, h3, h4, fun e he => ?_⟩
    rcases h5 e he with rfl | he
    · exact ⟨hx, ht⟩
    · exact h.ok e he)
  have HKO := fun W => Lib.hid (keyOf_any s t W hs)
  obtain ⟨x, hxx⟩ : ∃ x, lowB s = x := ⟨_, rfl⟩
  rw [hxx] at hx HPM HKO ⊢
  have HKY : Hid (KeyOk (x, t)) := Lib.hid ⟨hx, ht⟩
  have HMR := Lib.hid (fun W (hc : CacAt W G b room es) => makeRoom_any G b room es x t now W hc HKY.out)
  obtain ⟨M, hM⟩ : ∃ M, makesC room es x t now = M := ⟨_, rfl⟩
  obtain ⟨l, g⟩ := M
  rw [hM] at HPM HMR
  simp only at HPM HMR
  have hw : IntKind.i64.wrap (now + min ttl 604800) = now + min ttl 604800 := by rw [IntKind.wrap_i64]; omega
  obtain ⟨W, hW⟩ : ∃ W, w.alloc (.cells #[.string ⟨#[]⟩, .int .i64 0] 39) = W := ⟨_, rfl⟩
  have HB : Hid (Below w.heap.size w W) := Lib.hid (by rw [← hW]; exact (Below.refl _ _).alloc (Nat.le_refl _) _)
  have HZ : Hid (CellsAt W w.heap.size (keyL noKey)) := Lib.hid (by rw [← hW]; exact CellsAt.new w 39 (keyL noKey))
  have hd : decide (ttl < 1) = false := decide_eq_false (by omega)
  have HH := Lib.hid (h.below HB.out)
  have HAD : Hid (∀ W, w.grownBy W (some b) → AdsIn W a c L) := Lib.hid (fun W hg => hA.grown hg h.mp.block)
  have HLB := Lib.hid h.lt
  clear h hA hM hx hxx
  go_enter Try.func17, Try.ntmps17
  go_upto_region 1 with fail
  first | rw [hW] | skip
  clear hW
  go_wp2_with fail
  refine (HKO _).out.mono ?_
  rintro e w1 ⟨rfl, hb1⟩
  have HH1 := Lib.hid (HH.out.below hb1)
  have HZ1 := Lib.hid (HZ.out.below hb1)
  have HB1 := Lib.hid (chain HB.out hb1)
  clear hb1 HH HZ HB HKO
  have hba : Below w1.heap.size w1 (w1.alloc (.cells #[.string ⟨#[]⟩, .int .i64 0] 39)) := (Below.refl _ _).alloc (Nat.le_refl _) _
  have HK2 : Hid (CellsAt (w1.alloc (.cells #[.string ⟨#[]⟩, .int .i64 0] 39)) w1.heap.size (keyL noKey)) := Lib.hid (CellsAt.new w1 39 (keyL noKey))
  have HH2 := Lib.hid (HH1.out.below hba)
  have HZ2 := Lib.hid (HZ1.out.below hba)
  have HB2 := Lib.hid (chain HB1.out hba)
  have HLT1 := Lib.hid HH1.out.lt
  have HLZ1 := Lib.hid HZ1.out.lt
  clear hba HH1 HZ1
  go_upto_region 4 with (first | (refine store_key HK2 _ _ rfl rfl rfl rfl (fun W3 HW3 HC3 => ?_)))
  have HG3 : Hid (w.grownBy W3 (some b)) := Lib.hid (by rw [HW3.out]; exact grown_sets ((grown_of_below HB2.out).but _) HB1.out.size _)
  have HH3 : Hid (CacAt W3 G b room es) := Lib.hid (by rw [HW3.out]; exact HH2.out.setsAt (by have := HLT1.out.2; omega) (by have := HLT1.out.1; omega))
  have HZ3 : Hid (CellsAt W3 w.heap.size (keyL noKey)) := Lib.hid (by rw [HW3.out]; exact HZ2.out.apart (by have := HLZ1.out; omega) _)
  have HN14 : Hid (w1.heap.size ≠ b ∧ w1.heap.size ≠ w.heap.size) := Lib.hid (by have := HLT1.out.2; have := HLZ1.out; omega)
  have HN12 : Hid (w.heap.size ≠ b) := Lib.hid (by have := HLB.out.2; omega)
  have HK3 := Lib.hid HC3.out.range
  generalize w1.heap.size = P14 at *
  clear HW3 HH2 HZ2 HB2 HB1 HLT1 HLZ1 HK2
  have HMR3 := Lib.hid (HMR.out W3 HH3.out)
  obtain ⟨gk, hgk⟩ : ∃ gk, (g.map keyC).getD noKey = gk := ⟨_, rfl⟩
  obtain ⟨gb, hgb⟩ : ∃ gb, g.isSome = gb := ⟨_, rfl⟩
  have HGK : Hid (∀ g' : Option Ce, g = g' → (g'.map keyC).getD noKey = gk ∧ g'.isSome = gb) := Lib.hid (fun g' e => by subst e; exact ⟨hgk, hgb⟩)
  rw [hgk, hgb] at HMR3
  clear HMR hgk hgb
  go_wp2_with (first | refine load_key HK3 _ rfl rfl rfl ?_)
  refine HMR3.out.mono ?_
  rintro e w4 ⟨rfl, hc4, hg4⟩
  have HC4 := Lib.hid hc4
  have HG4 := Lib.hid (HG3.out.andThen hg4 (fun j hj => .inr hj))
  have HK4 := Lib.hid (HC3.out.grown hg4 HN14.out.1)
  have HZ4 := Lib.hid (HZ3.out.grown hg4 HN12.out)
  clear hc4 hg4 HMR3 HC3 HZ3 HH3 HG3 HK3
  have hba : Below w4.heap.size w4 (w4.alloc (.cells #[.string ⟨#[]⟩, .int .i64 0] 39)) := (Below.refl _ _).alloc (Nat.le_refl _) _
  have HK5 : Hid (CellsAt (w4.alloc (.cells #[.string ⟨#[]⟩, .int .i64 0] 39)) w4.heap.size (keyL noKey)) := Lib.hid (CellsAt.new w4 39 (keyL noKey))
  have HC5 := Lib.hid (HC4.out.below hba)
  have HP5 := Lib.hid (HK4.out.below hba)
  have HZ5 := Lib.hid (HZ4.out.below hba)
  have HG5 := Lib.hid (HG4.out.andThen (grown_of_below hba) (fun j hj => by cases hj))
  have HLC := Lib.hid HC4.out.lt
  have HLP := Lib.hid HK4.out.lt
  have HLZ := Lib.hid HZ4.out.lt
  have HSZ := Lib.hid HG4.out.size
  clear hba HC4 HK4 HZ4 HG4
  go_upto_region 5 with (first | (refine store_key HK5 _ _ rfl rfl rfl rfl (fun W6 HW6 HC6 => ?_)))
  have HA6 : Hid (CacAt W6 G b room l) := Lib.hid (by rw [HW6.out]; exact HC5.out.setsAt (by have := HLC.out.2; omega) (by have := HLC.out.1; omega))
  have HP6 : Hid (CellsAt W6 P14 (keyL (x, t))) := Lib.hid (by rw [HW6.out]; exact HP5.out.apart (by have := HLP.out; omega) _)
  have HZ6 : Hid (CellsAt W6 w.heap.size (keyL noKey)) := Lib.hid (by rw [HW6.out]; exact HZ5.out.apart (by have := HLZ.out; omega) _)
  have HG6 : Hid (w.grownBy W6 (some b)) := Lib.hid (by rw [HW6.out]; exact grown_sets HG5.out HSZ.out _)
  have HN15 : Hid (w4.heap.size ≠ b) := Lib.hid (by have := HLC.out.2; omega)
  generalize w4.heap.size = P15 at *
  clear HW6 HC5 HP5 HZ5 HG5 HLC HLP HLZ HSZ HK5
  obtain ⟨S2, hS2⟩ : ∃ S2 : World → Prop, (fun W => W.cell? ⟨G, 1, none⟩ = some (.map (some b)) ∧ W.rangeAt P14 0 (keyL (x, t))) = S2 := ⟨_, rfl⟩
  have HS20 : Hid (S2 W6.drew) := Lib.hid (by rw [← hS2]; exact ⟨HA6.out.cs.cell 1 _ rfl, HP6.out.range⟩)
  have HS21 : Hid (∀ W, W6.grownBy W (some b) → S2 W) := Lib.hid (fun W hg => by
    rw [← hS2]
    exact ⟨(HA6.out.cs.grown hg HA6.out.ne).cell 1 _ rfl, (HP6.out.grown hg HN14.out.1).range⟩)
  have M1 : Hid (∀ W, S2 W → W.cell? ⟨G, 1, none⟩ = some (.map (some b))) := Lib.hid (fun W h => by rw [← hS2] at h; exact h.1)
  have M2 : Hid (∀ W, S2 W → W.rangeAt P14 0 (keyL (x, t))) := Lib.hid (fun W h => by rw [← hS2] at h; exact h.2)
  have HCL := Lib.hid (cloneA_any a c L W6.drew (HAD.out _ (grown_drew HG6.out)) hl)
  clear hS2
  refine wp_region_noPanic ?_
  refine wp_region_held_drew (S := S2) (by kernel_rfl) HS20.out (fun hHeld => ?_)
  refine wpAnyH_take (i := 0) (v := ?_) rfl (by kernel_rfl) (by kernel_rfl) (by kernel_rfl) (fun _ _ _ h => h) (Or.inl ⟨by rfl, ?_⟩) (by assumption) ?_
  rotate_left
  · (intro w hSw; go_simp; try (with_reducible rfl))
  try simp only [Act.put, List.getElem_toArray, List.getElem_cons_zero, List.setIfInBounds_toArray, List.set_cons_zero, List.set_cons_succ]
  refine wpAnyH_take (i := 1) (v := ?_) rfl (by kernel_rfl) (by kernel_rfl) (by kernel_rfl) (fun _ _ _ h => h) (Or.inl ⟨by rfl, ?_⟩) (by assumption) ?_
  rotate_left
  · (intro w hSw; go_simp; try (with_reducible rfl))
  try simp only [Act.put, List.getElem_toArray, List.getElem_cons_zero, List.getElem_cons_succ, List.setIfInBounds_toArray, List.set_cons_zero, List.set_cons_succ]
  refine wpAnyH_take (i := 2) (v := ?_) rfl (by kernel_rfl) (by kernel_rfl) (by kernel_rfl) (fun _ _ _ h => h) (Or.inl ⟨by rfl, ?_⟩) (by assumption) ?_
  rotate_left
  · (intro w hSw; go_simp; try (with_reducible rfl))
  try simp only [Act.put, List.getElem_toArray, List.getElem_cons_zero, List.getElem_cons_succ, List.setIfInBounds_toArray, List.set_cons_zero, List.set_cons_succ]
  refine wpAnyH_take (i := 3) (v := ?_) rfl (by kernel_rfl) (by kernel_rfl) (by kernel_rfl) (fun _ _ _ h => h) (Or.inl ⟨by rfl, ?_⟩) (by assumption) ?_
  rotate_left
  · (intro w hSw; have hc0 := M1.out w hSw; go_simp; try (with_reducible rfl))
  try simp only [Act.put, List.getElem_toArray, List.getElem_cons_zero, List.getElem_cons_succ, List.setIfInBounds_toArray, List.set_cons_zero, List.set_cons_succ]
  refine wpAnyH_take (i := 4) rfl (by kernel_rfl) (by kernel_rfl) (by kernel_rfl) (fun _ _ _ h => h) (yields_key (p:=(x,t)) M2 (by rfl) _ rfl rfl) (by assumption) ?_
  try simp only [Act.put, List.getElem_toArray, List.getElem_cons_zero, List.getElem_cons_succ, List.setIfInBounds_toArray, List.set_cons_zero, List.set_cons_succ]
  refine wpAnyH_take (i := 5) (v := ?_) rfl (by kernel_rfl) (by kernel_rfl) (by kernel_rfl) (fun _ _ _ h => h) (Or.inl ⟨by rfl, ?_⟩) (by assumption) ?_
  rotate_left
  · (intro w hSw; go_simp; try (with_reducible rfl))
  try simp only [Act.put, List.getElem_toArray, List.getElem_cons_zero, List.getElem_cons_succ, List.setIfInBounds_toArray, List.set_cons_zero, List.set_cons_succ]
  refine wpAnyH_take (i := 7) (v := ?_) rfl (by kernel_rfl) (by kernel_rfl) (by kernel_rfl) (fun _ _ _ h => h) (Or.inl ⟨by rfl, ?_⟩) (by assumption) ?_
  rotate_left
  · (intro w hSw; go_simp; try (with_reducible rfl))
  try simp only [Act.put, List.getElem_toArray, List.getElem_cons_zero, List.getElem_cons_succ, List.setIfInBounds_toArray, List.set_cons_zero, List.set_cons_succ]
  refine wpAnyH_take (i := 8) (v := ?_) rfl (by kernel_rfl) (by kernel_rfl) (by kernel_rfl) (fun _ _ _ h => h) (Or.inl ⟨by rfl, ?_⟩) (by assumption) ?_
  rotate_left
  · (intro w hSw; go_simp; try (with_reducible rfl))
  try simp only [Act.put, List.getElem_toArray, List.getElem_cons_zero, List.getElem_cons_succ, List.setIfInBounds_toArray, List.set_cons_zero, List.set_cons_succ]
  refine wpAnyH_take (i := 9) (v := ?_) rfl (by kernel_rfl) (by kernel_rfl) (by kernel_rfl) (fun _ _ _ h => h) (Or.inl ⟨by rfl, ?_⟩) (by assumption) ?_
  rotate_left
  · (intro w hSw; go_simp; try (with_reducible rfl))
  try simp only [Act.put, List.getElem_toArray, List.getElem_cons_zero, List.getElem_cons_succ, List.setIfInBounds_toArray, List.set_cons_zero, List.set_cons_succ]
  refine wpAnyH_take (i := 10) (v := ?_) rfl (by kernel_rfl) (by kernel_rfl) (by kernel_rfl) (fun _ _ _ h => h) (Or.inl ⟨by rfl, ?_⟩) (by assumption) ?_
  rotate_left
  · (intro w hSw; go_simp; try (with_reducible rfl))
  try simp only [Act.put, List.getElem_toArray, List.getElem_cons_zero, List.getElem_cons_succ, List.setIfInBounds_toArray, List.set_cons_zero, List.set_cons_succ]
  refine wpAnyH_ready (rs := [6]) (by kernel_rfl) (by simp) ?_
  refine AllReadyH.cons rfl (fun K hK => ?_) AllReadyH.nil
  go_simp
  refine HCL.out.mono ?_
  rintro e w7 ⟨v, rfl, hr7, hb7⟩
  obtain ⟨a7, c7, rfl, had7⟩ := hr7.ads
  have hg7 : W6.grownBy w7 (some b) := grown_undrew ((grown_of_below hb7).but _)
  have HAD7 := Lib.hid had7
  have HFR : Hid (∀ g o, a7 = some ⟨g, o, none⟩ → g ≠ w.heap.size) := Lib.hid (fun g o e => by have h1 := hr7.far g o e; have h2 := HZ6.out.lt; have h3 : W6.heap.size ≤ g := h1; omega)
  have HA7 := Lib.hid ((HA6.out.below (Below.refl _ _).drew).below hb7)
  have HG7 := Lib.hid hg7
  clear hr7 hb7 had7 HCL HAD
  go_wp2_with fail
  refine hK.out _ _ (HS21.out _ hg7) (fun hHeld => ?_)
  clear hK K
  try simp only [Act.put, List.getElem_toArray, List.getElem_cons_zero, List.getElem_cons_succ, List.setIfInBounds_toArray, List.set_cons_zero, List.set_cons_succ]
  refine wpAnyH_take (i := 11) (v := ?_) rfl (by kernel_rfl) (by kernel_rfl) (by kernel_rfl) (fun _ _ _ h => h) (Or.inl ⟨by rfl, ?_⟩) (by assumption) ?_
  rotate_left
  · (intro w hSw; go_simp; try (with_reducible rfl))
  try simp only [Act.put, List.getElem_toArray, List.getElem_cons_zero, List.getElem_cons_succ, List.setIfInBounds_toArray, List.set_cons_zero, List.set_cons_succ]
  refine wpAnyH_ready (rs := [12]) (by kernel_rfl) (by simp) ?_
  refine AllReadyH.one rfl rfl (fun K hK => ?_)
  refine wp_update_own (e := ⟨x, t, a7, L.length, c7, now + min ttl 604800⟩) _ _ _ rfl rfl HA7.out.mp HA7.out.ok rfl rfl HKY.out (by have := HA7.out.len; omega) (fun w8 hm8 ht8 => ?_)
  have hg8 := ht8.grown
  have hg68 : W6.grownBy w8 (some b) := HG7.out.andThen hg8 (fun j hj => .inr hj)
  obtain ⟨p1, p2, p3, p4, p5⟩ := HPM.out a7 c7
  have HF8 : Hid (CacAt w8 G b room (putC room es ⟨x, t, a7, L.length, c7, now + min ttl 604800⟩ now).1) := Lib.hid
    ⟨HA7.out.cs.grown hg8 HA7.out.ne, hm8.perm p2.symm, p3, p5, p4, HA7.out.r1, HA7.out.r2⟩
  have HAD8 := Lib.hid (HAD7.out.grown hg8 HA7.out.mp.block)
  have HZ8 := Lib.hid (HZ6.out.grown hg68 HN12.out)
  have HK8 := Lib.hid (HC6.out.grown hg68 HN15.out).range
  have HG8 := Lib.hid (HG6.out.andThen hg68 (fun j hj => .inr hj))
  have HGO := Lib.hid (HGK.out _ p1)
  refine hK.out _ _ (HS21.out _ hg68) (fun hHeld => ?_)
  clear hK K hm8 ht8 hg8 hg68 p1 p2 p3 p4 p5 HPM HGK HA7 HA6 HP6
  try simp only [Act.put]
  refine wpAnyH_done (by kernel_rfl) ?_ _
  refine NoPanic.normal ?_
  go_wp2_with (first | refine load_key HK8 _ rfl rfl rfl ?_ | (refine store_key HZ8 _ _ rfl rfl rfl rfl (fun W9 HW9 HC9 => ?_)))
  refine bodyPost_ret (results_key2 Try.results17 rfl HC9.out) rfl ⟨a7, c7, ?_, ?_, ?_, ?_⟩
  · rw [HGO.out.1, HGO.out.2]; rfl
  · rw [HW9.out]; exact HF8.out.setsAt (by have := HLB.out.2; omega) (by have := HLB.out.1; omega)
  · rw [HW9.out]; exact HAD8.out.sets HFR.out
  · rw [HW9.out]; exact grown_sets HG8.out (Nat.le_refl _) _
end Go.Proofs.Ytjmmedpkcedngaa
/- Lives of layer 10: the document's example. -/
namespace Go.Proofs.Ytjmmedpkcedngaa
open Go.RowKit Go.Maps
set_option linter.unusedVariables false
set_option maxRecDepth 20000

def tA : ByteArray := ⟨#[97]⟩
def tB : ByteArray := ⟨#[98]⟩
theorem lowA : lowB tA = tA := by decide
theorem lowBB : lowB tB = tB := by decide
theorem putC_first (room : Int) (own : Ce) (now : Int) (h : 1 ≤ room) : putC room [] own now = ([own], none) := by
  unfold putC
  simp only [findC, List.length_nil]
  rw [if_neg (by show ¬ ((0 : Int) = room); omega)]
  rfl
theorem putC_lives (a a2 : Option Addr) (c c2 : Nat) : (putC 1 [⟨tA, 1, a, 0, c, 60⟩] ⟨tB, 1, a2, 0, c2, 61⟩ 1).2 = some ⟨tA, 1, a, 0, c, 60⟩ := by
  have h : ¬ tA = tB := by decide
  simp [putC, findC, sweepC, bestC, h]
set_option maxRecDepth 100000 in
set_option maxHeartbeats 1000000 in
theorem lives10_any (w : World) :
    Calls Try.prog 15 #[] w fun e w' => e = .returned (.bool true) ∧ Below w.heap.size w w' := by
  have HNW := Lib.hid (new_any 1 w)
  have HP1 := fun G b W (h : CacAt W G b 1 []) => Lib.hid (put_any G b 1 [] tA 1 60 0 none 0 [] W h (by decide) (by decide) (by decide) (by decide) (by decide) (AdsIn.nil W) (by decide))
  have HP2 := fun G b W a c (h : CacAt W G b 1 [⟨tA, 1, a, 0, c, 60⟩]) => Lib.hid (put_any G b 1 [⟨tA, 1, a, 0, c, 60⟩] tB 1 60 1 none 0 [] W h (by decide) (by decide) (by decide) (by decide) (by decide) (AdsIn.nil W) (by decide))
  have q : ∀ W, (binOp .eql 39 (.agg #[.string ⟨#[97]⟩, .int .i64 1]) (.agg #[.string ⟨#[97]⟩, .int .i64 1])).run Try.prog W = .ok (.bool true) W := fun W => by kernel_rfl
  have gd : ∀ x y W, (eqGuard .eql 39 x y (.agg #[.string ⟨#[97]⟩, .int .i64 1]) (.agg #[.string ⟨#[97]⟩, .int .i64 1])).run Try.prog W = .ok () W := fun x y W => by kernel_rfl
  rw [lowBB] at HP2
  rw [lowA] at HP1
  have e1 : ∀ a' c', putC 1 [] ⟨tA, 1, a', 0, c', 60⟩ 0 = ([⟨tA, 1, a', 0, c', 60⟩], none) := fun a' c' => putC_first _ _ _ (by decide)
  have e2 := putC_lives
  have m1 : (0 : Int) + min 60 604800 = 60 := by decide
  have m2 : (1 : Int) + min 60 604800 = 61 := by decide
  simp only [m1, List.length_nil] at HP1
  simp only [m2, List.length_nil] at HP2
  have hr : min (max (1 : Int) 1) 64 = 1 := by decide
  rw [hr] at HNW
  have HE1 := Lib.hid e1
  have HE2 := Lib.hid e2
  have ta : tA = ⟨#[97]⟩ := rfl
  have tb : tB = ⟨#[98]⟩ := rfl
  clear e1 e2 m1 m2 hr
  go_enter Try.func15, Try.ntmps15
  go_wp2_with fail
  refine HNW.out.mono ?_
  rintro e w1 ⟨G, b, rfl, hc1, hG, hb, hb1⟩
  have HB1 := Lib.hid hb1
  have HGB : Hid (w.heap.size ≤ b) := Lib.hid hb
  have HPP := HP1 G b w1 hc1
  clear HNW hc1 hb1 hG hb HP1
  rw [ta] at HPP
  go_wp2_with fail
  refine HPP.out.mono ?_
  rintro e w2 ⟨a2, c2, rfl, hc2, _, hg2⟩
  rw [← ta] at hc2
  rw [HE1.out] at hc2
  have HB2 := Lib.hid (HB1.out.grown hg2 HB1.out.size (fun k e => by cases e; exact HGB.out))
  have HPQ := HP2 G b w2 a2 c2 hc2
  clear HPP hc2 hg2 HP2
  simp only [HE2.out, Option.map_some, Option.getD_some, Option.isSome_some] at HPQ
  rw [tb] at HPQ
  simp only [show ∀ a c, keyV (keyC ⟨tA, 1, a, 0, c, 60⟩) = .agg #[.string ⟨#[97]⟩, .int .i64 1] from fun _ _ => rfl] at HPQ
  go_wp2_with fail
  refine HPQ.out.mono ?_
  rintro e w3 ⟨a3, c3, rfl, _, _, hg3⟩
  have HB3 := Lib.hid (HB2.out.grown hg3 HB2.out.size (fun k e => by cases e; exact HGB.out))
  clear HPQ hg3
  have HA4 : Hid (Below w.heap.size w (w3.alloc (.cells #[.string ⟨#[97]⟩, .int .i64 1] 39))) := Lib.hid (HB3.out.alloc HB3.out.size _)
  go_wp2_with fail
  go_ret
  exact ⟨rfl, HA4.out⟩
end Go.Proofs.Ytjmmedpkcedngaa
/- Entries of the names 0, 1, ..: what a cache holds of them, in whatever order: plain facts. -/
namespace Go.Proofs.Ytjmmedpkcedngaa
open Go.RowKit Go.Maps
set_option linter.unusedVariables false
set_option maxRecDepth 20000

/-- A number's digits, as a name. -/
def dc (j : Nat) : ByteArray := ⟨(Lib.itoa (j : Int)).toArray⟩
theorem dc_facts : ∀ i, i < 70 → lowB (dc i) = dc i ∧ (dc i).size ≤ 100 := by decide +kernel
theorem dc_inj : ∀ i, i < 70 → ∀ j, j < 70 → dc i = dc j → i = j := by decide +kernel
def sk (e : Ce) : ByteArray × Int × Int := (e.s, e.t, e.u)
def PS (T : Nat → Int) (i : Nat) (es : List Ce) : Prop := (es.map sk).Perm ((List.range i).map (fun j => (dc j, (1 : Int), T j)))
theorem ps_len {T : Nat → Int} {i : Nat} {es : List Ce} (h : PS T i es) : es.length = i := by
  have := h.length_eq
  simpa using this
theorem ps_mem {T : Nat → Int} {i : Nat} {es : List Ce} (h : PS T i es) {e : Ce} (he : e ∈ es) : ∃ j, j < i ∧ e.s = dc j ∧ e.t = 1 ∧ e.u = T j := by
  have := h.mem_iff.1 (List.mem_map.2 ⟨e, he, rfl⟩)
  obtain ⟨j, hj, e2⟩ := List.mem_map.1 this
  have h3 := Prod.mk.inj e2
  have h4 := Prod.mk.inj h3.2
  exact ⟨j, List.mem_range.1 hj, h3.1.symm, h4.1.symm, h4.2.symm⟩
theorem ps_has {T : Nat → Int} {i : Nat} {es : List Ce} (h : PS T i es) {j : Nat} (hj : j < i) : ∃ e ∈ es, e.s = dc j ∧ e.t = 1 ∧ e.u = T j := by
  have := h.mem_iff.2 (List.mem_map.2 ⟨j, List.mem_range.2 hj, rfl⟩)
  obtain ⟨e, he, e2⟩ := List.mem_map.1 this
  have h3 := Prod.mk.inj e2
  have h4 := Prod.mk.inj h3.2
  exact ⟨e, he, h3.1, h4.1, h4.2⟩
theorem ps_step {T : Nat → Int} {i : Nat} {es es' : List Ce} {own : Ce} (h : PS T i es) (hp : es'.Perm (own :: es)) (ho : sk own = (dc i, 1, T i)) : PS T (i + 1) es' := by
  unfold PS at *
  refine (hp.map sk).trans ?_
  rw [List.range_succ, List.map_append, List.map_cons, ho]
  exact (h.cons _).trans (List.perm_append_comm (l₁ := [_]))
theorem ps_no {T : Nat → Int} {i : Nat} {es : List Ce} (h : PS T i es) (hi : i < 70) : findC es (dc i) 1 = none := by
  cases hf : findC es (dc i) 1 with
  | none => rfl
  | some k =>
    obtain ⟨hk, h1, h2⟩ := findC_lt _ _ _ _ hf
    obtain ⟨j, hj, e1, _⟩ := ps_mem h (List.getElem_mem hk)
    have := dc_inj i hi j (by omega) (by rw [← h1, e1])
    omega
/-- How many are over. -/
def ovN (T : Nat → Int) (now : Int) : Nat → Nat
  | 0 => 0
  | i + 1 => ovN T now i + (if T i ≤ now then 1 else 0)
theorem ov_range (T : Nat → Int) (now : Int) : ∀ i, ((List.range i).filter (fun j => decide (now < T j))).length + ovN T now i = i
  | 0 => rfl
  | i + 1 => by
    have ih := ov_range T now i
    rw [List.range_succ, List.filter_append, List.length_append]
    unfold ovN
    by_cases h : T i ≤ now
    · have h2 : ¬ now < T i := by omega
      simp [h, h2]; omega
    · have h2 : now < T i := by omega
      simp [h, h2]; omega
theorem ps_sweep {T : Nat → Int} {i : Nat} {es : List Ce} (h : PS T i es) (now : Int) : (sweepC es now).length + ovN T now i = i := by
  have h2 := (h.filter (fun p => decide (now < p.2.2))).length_eq
  rw [List.filter_map, List.filter_map, List.length_map, List.length_map] at h2
  have h3 : (sweepC es now).length = ((List.range i).filter (fun j => decide (now < T j))).length := h2
  rw [h3]
  exact ov_range T now i
theorem sweep_sweep (es : List Ce) (now : Int) : sweepC (sweepC es now) now = sweepC es now := by
  unfold sweepC
  rw [List.filter_filter]
  refine List.filter_congr (fun e _ => ?_)
  simp
theorem getE_isSome {es : List Ce} {x : ByteArray} {t : Int} : (getE es x t).isSome = true ↔ ∃ e ∈ es, keyC e = (x, t) := by
  cases h : getE es x t with
  | none =>
    constructor
    · intro h2; cases h2
    · rintro ⟨e, he, hk⟩; exact absurd hk (getE_none h e he)
  | some e =>
    obtain ⟨h1, h2⟩ := getE_some h
    exact ⟨fun _ => ⟨e, h1, h2⟩, fun _ => rfl⟩
theorem ps_there {T : Nat → Int} {i : Nat} {es : List Ce} (h : PS T i es) (hi : i ≤ 70) (now : Int) {j : Nat} (hj : j < i) : (getE (sweepC es now) (dc j) 1).isSome = decide (now < T j) := by
  rw [Bool.eq_iff_iff, getE_isSome, decide_eq_true_iff]
  constructor
  · rintro ⟨e, he, hk⟩
    obtain ⟨h1, h2⟩ := List.mem_filter.1 he
    obtain ⟨j2, hj2, e1, e2, e3⟩ := ps_mem h h1
    have hk2 := Prod.mk.inj hk
    have : j = j2 := dc_inj j (by omega) j2 (by omega) (by rw [← e1]; exact hk2.1.symm)
    subst this
    rw [← e3]
    simpa using h2
  · intro hlt
    obtain ⟨e, he, e1, e2, e3⟩ := ps_has h hj
    exact ⟨e, List.mem_filter.2 ⟨he, by rw [e3]; simpa using hlt⟩, Prod.ext e1 e2⟩
theorem putC_roomy {room : Int} {es : List Ce} {own : Ce} {now : Int} (hf : findC es own.s own.t = none) (hl : (es.length : Int) ≠ room) : putC room es own now = (insC own es, none) := by
  unfold putC
  rw [hf]
  simp only
  rw [if_neg hl]
theorem Below.cacheOp {B : Nat} {w w1 w2 : World} {b : Nat} (h : Below B w w1) (hg : w1.grownBy w2 (some b)) (hb : B ≤ b) (hs : B ≤ w1.heap.size) : Below B w w2 := h.grown hg hs (fun k e => by cases e; exact hb)
end Go.Proofs.Ytjmmedpkcedngaa
