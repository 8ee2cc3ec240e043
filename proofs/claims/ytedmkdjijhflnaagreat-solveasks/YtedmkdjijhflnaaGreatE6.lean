/- Texts that belong together, one behind the other: CacRoom, CacPut, MatRefCh, EqRec, RefWireSame, RefWireSame2, WirEqual, WirSame, WirAsk, MatRefFo, RefMat2, MinStep, MatRefTe, SolTold, LabCut, LabParts, LabReadMath. -/
import Derived.Test.YtedmkdjijhflnaaGreatE5
import Derived.Deep.RegionHeld3
import Derived.Deep.Cut
import Derived.Test.YtedmkdjijhflnaaGreatShelf
import Derived.Laws.BitsLemmas
set_option linter.unusedVariables false
set_option linter.unusedSimpArgs false
set_option maxRecDepth 20000
namespace Go.Proofs.YtedmkdjijhflnaaGreat
open Go.RowKit Go.Maps

def makesC (room : Int) (es : List Ce) (x : ByteArray) (t now : Int) : List Ce × Option Ce :=
  if (getE es x t).isSome then (es, none)
  else if (es.length : Int) < room then (es, none)
  else if (sweepC es now).length < es.length then (sweepC es now, none)
  else (withoutC es (kAt es (bestC es es.length)), es[bestC es es.length]?)
theorem makesC_had {room : Int} {es : List Ce} {x : ByteArray} {t now : Int} (h : (getE es x t).isSome = true) : makesC room es x t now = (es, none) := by unfold makesC; rw [if_pos h]
theorem makesC_room {room : Int} {es : List Ce} {x : ByteArray} {t now : Int} (h : (getE es x t).isSome = false) (h2 : (es.length : Int) < room) : makesC room es x t now = (es, none) := by unfold makesC; rw [if_neg (by rw [h]; simp), if_pos h2]
theorem makesC_swept {room : Int} {es : List Ce} {x : ByteArray} {t now : Int} (h : (getE es x t).isSome = false) (h2 : ¬ (es.length : Int) < room) (h3 : (sweepC es now).length < es.length) : makesC room es x t now = (sweepC es now, none) := by unfold makesC; rw [if_neg (by rw [h]; simp), if_neg h2, if_pos h3]
theorem makesC_let {room : Int} {es : List Ce} {x : ByteArray} {t now : Int} (h : (getE es x t).isSome = false) (h2 : ¬ (es.length : Int) < room) (h3 : ¬ (sweepC es now).length < es.length) : makesC room es x t now = (withoutC es (kAt es (bestC es es.length)), es[bestC es es.length]?) := by unfold makesC; rw [if_neg (by rw [h]; simp), if_neg h2, if_neg h3]
theorem wp_delete_own {o : Oper} {a : Act} {w : World} {K : Act → World → Prop} {Q : Exit → Act → World → Prop} (m x : Operand) (hop : o.op = Op.call { callee := Callee.builtin Builtin.delete, args := #[m, x], argTypes := #[151, 155] })
    {b : Nat} {es : List Ce} (hm : a.eval m = .map (some b)) (h : CacMap w b es) (hk : KeysOk es) {p : ByteArray × Int} (hx : a.eval x = keyV p) (hp : KeyOk p)
    (hK : ∀ w', CacMap w' b (withoutC es p) → w.mapTurned w' b → K (a.put o.dst (.tuple #[])) w') : o.wp Tryz.prog a w K Q := by
  obtain ⟨w', hrun, r1, r2⟩ := h.drop hk p hp o.type
  unfold Oper.wp
  simp [execOp, hop, resolve, invoke, builtin, hm, hx, hrun, Result.andThen]
  exact hK w' r1 r2
theorem build_key0 {ops : Array Oper} {rest : List Oper} {op : Oper} {a : Act} {w : World} {Q : Exit → Act → World → Prop} (hg : op.guard = none) (ho : op.op = .build 155 #[])
    (h : wpList Tryz.prog ops Q rest (a.put op.dst (keyV noKey)) w) : wpList Tryz.prog ops Q (op :: rest) a w := by
  have e0 : Tryz.prog.built 155 [] = some (keyL noKey).toArray := rfl
  have e : Tryz.prog.built 155 ((#[] : Array (Nat × Operand)).map fun (i, x) => (i, a.eval x)).toList = some (keyL noKey).toArray := by simpa using e0
  refine wpList_build hg 155 _ ho (by rw [e]; rfl) ?_
  rw [e]
  exact h
theorem grown_drew {w w' : World} {r : Option Nat} (h : w.grownBy w' r) : w.grownBy w'.drew r := ⟨h.os, h.tape, h.output, h.size, h.block⟩
theorem grown_sets {w w' : World} {r : Option Nat} {B : Nat} (h : w.grownBy w' r) (hB : w.heap.size ≤ B) (vs : List Value) : w.grownBy (w'.setCells B 0 vs) r := by
  have hb : Below w.heap.size w' (w'.setCells B 0 vs) := below_cells hB _ _ _ (Below.refl _ _)
  exact ⟨hb.os.trans h.os, hb.tape.trans h.tape, hb.output.trans h.output, Nat.le_trans h.size hb.size, fun k hk hne => (hb.block k hk).trans (h.block k hk hne)⟩
theorem CellsAt.grown {w w' : World} {G b : Nat} {vs : List Value} (h : CellsAt w G vs) (hg : w.grownBy w' (some b)) (hne : G ≠ b) : CellsAt w' G vs := h.kept hg.size (hg.block G h.lt (fun e => hne (by injection e)))
theorem CacAt.setsAt {w : World} {G b B : Nat} {room : Int} {es : List Ce} {vs : List Value} (h : CacAt w G b room es) (h1 : b ≠ B) (h2 : G ≠ B) : CacAt (w.setCells B 0 vs) G b room es :=
  h.kept (by rw [size_setCells]; exact Nat.le_refl _) (heap_setCs _ _ _ _ _ h2) (heap_setCs _ _ _ _ _ h1)
set_option maxRecDepth 100000 in
set_option maxHeartbeats 4000000 in
theorem makeRoom_any (G b : Nat) (room : Int) (es : List Ce) (x : ByteArray) (t now : Int) (w : World) (h : CacAt w G b room es) (hp : KeyOk (x, t)) :
    Calls Tryz.prog 112 #[.pointer (some ⟨G, 0, none⟩), keyV (x, t), .int .i64 now] w fun e w' => e = .returned (.tuple #[keyV (((makesC room es x t now).2.map keyC).getD noKey), .bool (makesC room es x t now).2.isSome]) ∧ CacAt w' G b room (makesC room es x t now).1 ∧ w.grownBy w' (some b) := by
  obtain ⟨W1, hW1⟩ : ∃ W1, (w.alloc (.cells #[.string x, .int .i64 t] 155)).alloc (.cells #[.string ⟨#[]⟩, .int .i64 0] 155) = W1 := ⟨_, rfl⟩
  have hb1 : Below w.heap.size w W1 := by rw [← hW1]; exact ((Below.refl _ _).alloc (Nat.le_refl _) _).alloc (by simp) _
  have hk1 : W1.rangeAt w.heap.size 0 (keyL (x, t)) := by rw [← hW1]; exact range_belowC (CellsAt.new w 155 (keyL (x, t))).range ((Below.refl _ _).alloc (Nat.le_refl _) _) (by simp)
  have hz1 : CellsAt W1 (w.heap.size + 1) (keyL noKey) := by
    have := CellsAt.new (w.alloc (.cells #[.string x, .int .i64 t] 155)) 155 (keyL noKey)
    rw [← hW1]; simpa [keyL] using this
  have hlt : w.heap.size + 2 = W1.heap.size := by rw [← hW1]; simp
  have HH := Lib.hid (h.below hb1)
  have HK1 := Lib.hid hk1
  have HZ := Lib.hid hz1
  have HB := Lib.hid hb1
  have HLT := Lib.hid hlt
  have h64 := h.len
  have hr1 := h.r1
  have HBL := Lib.hid h.lt.2
  have HGL := Lib.hid h.lt.1
  obtain ⟨S, hS⟩ : ∃ S : World → Prop, (fun W => Below W1.heap.size W1 W) = S := ⟨_, rfl⟩
  have HS0 : Hid (S W1.drew) := Lib.hid (by rw [← hS]; exact (Below.refl _ _).drew)
  have HSB : Hid (∀ W, S W → Below W1.heap.size W1 W) := Lib.hid (fun W hW => by rw [← hS] at hW; exact hW)
  have HSI : Hid (∀ W W', S W → Below W.heap.size W W' → S W') := Lib.hid (fun W W' hW hb => by rw [← hS] at hW ⊢; exact chain hW hb)
  have HSI2 : Hid (∀ W B vs, S W → W1.heap.size ≤ B → S (W.setCells B 0 vs)) := Lib.hid (fun W B vs hW hb => by rw [← hS] at hW ⊢; exact below_cells hb _ _ _ hW)
  have MG : Hid (∀ W, S W → W.cell? ⟨G, 1, none⟩ = some (.map (some b))) := Lib.hid (fun W hW => (HH.out.below (HSB.out W hW)).cs.cell 1 _ rfl)
  have MK : Hid (∀ W, S W → W.rangeAt w.heap.size 0 (keyL (x, t))) := Lib.hid (fun W hW => range_belowC HK1.out (HSB.out W hW) (by have := HLT.out; omega))
  have HL : Hid (∀ W, S W → (Instr.lookup 151 (.map (some b)) (keyV (x, t)) true).run Tryz.prog W = .ok (.tuple #[entV (theE es x t), .bool (getE es x t).isSome]) W) := Lib.hid (fun W hW => ((HH.out.below (HSB.out W hW)).mp).look2 h.ok h.so.apart _ _ hp)
  obtain ⟨had, hhad⟩ : ∃ had, (getE es x t).isSome = had := ⟨_, rfl⟩
  have HHAD := Lib.hid hhad
  rw [hhad] at HL
  clear h hb1 hk1 hz1 hlt hS hhad
  generalize theE es x t = E at *
  obtain ⟨es0, et, ea, en, ec, eu⟩ := E
  unfold entV at HL
  simp only at HL
  obtain ⟨M, hM⟩ : ∃ M, makesC room es x t now = M := ⟨_, rfl⟩
  have HMM := Lib.hid hM
  rw [hM, show keyV (x, t) = .agg #[.string x, .int .i64 t] from rfl]
  clear hM
  go_enter Tryz.func112, Tryz.ntmps112
  go_upto_region 1 with fail
  first | rw [hW1] | skip
  clear hW1
  refine wp_region_noPanic ?_
  refine wp_region_held_drew (S := S) (by kernel_rfl) HS0.out (fun hHeld => ?_)
  refine tkT 0 ?_ rfl (Or.inl ⟨by rfl, ?_⟩) ?_
  rotate_left
  · (intro w hSw; go_simp; try (with_reducible rfl))
  try simp only [Act.put, pZ]
  refine tkT 1 ?_ rfl (Or.inl ⟨by rfl, ?_⟩) ?_
  rotate_left
  · (intro w hSw; go_simp; try (with_reducible rfl))
  try simp only [Act.put, pZ]
  refine tkT 2 ?_ rfl (Or.inl ⟨by rfl, ?_⟩) ?_
  rotate_left
  · (intro w hSw; go_simp; try (with_reducible rfl))
  try simp only [Act.put, pZ]
  refine tkT 3 ?_ rfl (Or.inl ⟨by rfl, ?_⟩) ?_
  rotate_left
  · (intro w hSw; have hc0 := MG.out w hSw; go_simp; try (with_reducible rfl))
  try simp only [Act.put, pZ]
  refine wpAnyH_take (i := 4) rfl (by kernel_rfl) (by kernel_rfl) (by kernel_rfl) (fun _ _ _ h => h) (yields_key (p:=(x,t)) MK (by rfl) _ rfl rfl) (by assumption) ?_
  try simp only [Act.put, pZ]
  refine tkT 5 ?_ rfl (Or.inl ⟨by rfl, ?_⟩) ?_
  rotate_left
  · (intro w hSw; have hc0 := HL.out w hSw; go_simp; try (with_reducible rfl))
  try simp only [Act.put, pZ]
  refine tkT 6 ?_ rfl (Or.inl ⟨by rfl, ?_⟩) ?_
  rotate_left
  · (intro w hSw; go_simp; try (with_reducible rfl))
  try simp only [Act.put, pZ]
  refine tkT 7 ?_ rfl (Or.inl ⟨by rfl, ?_⟩) ?_
  rotate_left
  · (intro w hSw; go_simp; try (with_reducible rfl))
  try simp only [Act.put, pZ]
  refine tkT 8 ?_ rfl (Or.inl ⟨by rfl, ?_⟩) ?_
  rotate_left
  · (intro w hSw; go_simp; try (with_reducible rfl))
  try simp only [Act.put, pZ]
  refine wpAnyH_ready (rs := [9]) (by kernel_rfl) (by simp) ?_
  refine AllReadyH.cons rfl (fun K hK => ?_) AllReadyH.nil
  go_simp
  go_wp2_with fail
  have HZE := Lib.hid (CellsAt.new W1.drew 149 [.slice none 0 0, .int .i64 0])
  have HSW : Hid (S (W1.drew.alloc (.cells #[.slice none 0 0, .int .i64 0] 149))) := Lib.hid (HSI.out _ _ hHeld ((Below.refl _ _).alloc (Nat.le_refl _) _))
  refine hK.out _ _ HSW.out (fun hHeld => ?_)
  clear hK K HSW
  try simp only [Act.put, pZ]
  have HZE : Hid (CellsAt (W1.alloc (.cells #[.slice none 0 0, .int .i64 0] 149)).drew W1.heap.size [.slice none 0 0, .int .i64 0]) := HZE
  generalize (W1.alloc (.cells #[.slice none 0 0, .int .i64 0] 149)).drew = W2 at *
  refine wpAnyH_ready (rs := [10]) (by kernel_rfl) (by simp) ?_
  refine AllReadyH.one rfl rfl (fun K hK => ?_)
  refine wp_store_ent (e := ⟨es0, et, ea, en, ec, eu⟩) HZE rfl _ _ rfl rfl rfl (fun V HV HVC => ?_)
  have HSV : Hid (S V) := Lib.hid (by rw [HV.out]; exact HSI2.out _ _ _ hHeld (Nat.le_refl _))
  refine hK.out _ _ HSV.out (fun hHeld => ?_)
  clear hK K
  try simp only [Act.put]
  refine tkT 11 ?_ rfl (Or.inl ⟨by rfl, ?_⟩) ?_
  rotate_left
  · (intro w hSw; go_simp; try (with_reducible rfl))
  try simp only [Act.put, pZ]
  refine wpAnyH_done (by kernel_rfl) ?_ _
  refine NoPanic.normal ?_
  have HBV := Lib.hid (HSB.out _ hHeld)
  have HHV := Lib.hid (HH.out.below HBV.out)
  have HZV := Lib.hid (HZ.out.below HBV.out)
  have HGV := Lib.hid (grown_of_below (chain HB.out HBV.out))
  clear HSV hHeld HZE HVC HV HH HZ HS0 HSI HSI2 HSB MG MK HL
  have HBB : Hid (b < w.heap.size) := Lib.hid HBL.out
  have HGG : Hid (G < w.heap.size) := Lib.hid HGL.out
  have HZD : Hid (CellsAt V.drew (w.heap.size + 1) (keyL noKey)) := Lib.hid (HZV.out.below (Below.refl _ _).drew)
  have HHD : Hid (CacAt V.drew G b room es) := Lib.hid (HHV.out.below (Below.refl _ _).drew)
  have HGD : Hid (w.grownBy V.drew (some b)) := Lib.hid (grown_drew (HGV.out.but (some b)))
  clear HZV HHV HGV
  cases had with
  | true =>
    have HM := Lib.hid (HMM.out.symm.trans (makesC_had (room := room) (now := now) HHAD.out))
    go_upto_region 2 with fail
    refine wp_region_noPanic ?_
    refine wp_region_held_drew (S := fun _ => True) (by kernel_rfl) trivial (fun hHeld => ?_)
    refine tkT 0 ?_ rfl (Or.inl ⟨by rfl, ?_⟩) ?_
    rotate_left
    · (intro w hSw; go_simp; try (with_reducible rfl))
    try simp only [Act.put, pZ]
    refine tkT 1 ?_ rfl (Or.inl ⟨by rfl, ?_⟩) ?_
    rotate_left
    · (intro w hSw; go_simp; try (with_reducible rfl))
    try simp only [Act.put, pZ]
    refine wpAnyH_take (i := 2) (v := undef) rfl (by kernel_rfl) (by kernel_rfl) (by kernel_rfl) (fun _ _ _ h => h) (Or.inr ⟨by rfl, rfl⟩) (by assumption) ?_
    try simp only [Act.put, pZ]
    refine wpAnyH_take (i := 3) (v := undef) rfl (by kernel_rfl) (by kernel_rfl) (by kernel_rfl) (fun _ _ _ h => h) (Or.inr ⟨by rfl, rfl⟩) (by assumption) ?_
    try simp only [Act.put, pZ]
    refine wpAnyH_take (i := 4) (v := undef) rfl (by kernel_rfl) (by kernel_rfl) (by kernel_rfl) (fun _ _ _ h => h) (Or.inr ⟨by rfl, rfl⟩) (by assumption) ?_
    try simp only [Act.put, pZ]
    refine wpAnyH_take (i := 5) (v := undef) rfl (by kernel_rfl) (by kernel_rfl) (by kernel_rfl) (fun _ _ _ h => h) (Or.inr ⟨by rfl, rfl⟩) (by assumption) ?_
    try simp only [Act.put, pZ]
    refine wpAnyH_take (i := 6) (v := undef) rfl (by kernel_rfl) (by kernel_rfl) (by kernel_rfl) (fun _ _ _ h => h) (Or.inr ⟨by rfl, rfl⟩) (by assumption) ?_
    try simp only [Act.put, pZ]
    refine wpAnyH_take (i := 7) (v := undef) rfl (by kernel_rfl) (by kernel_rfl) (by kernel_rfl) (fun _ _ _ h => h) (Or.inr ⟨by rfl, rfl⟩) (by assumption) ?_
    try simp only [Act.put, pZ]
    refine wpAnyH_take (i := 8) (v := undef) rfl (by kernel_rfl) (by kernel_rfl) (by kernel_rfl) (fun _ _ _ h => h) (Or.inr ⟨by rfl, rfl⟩) (by assumption) ?_
    try simp only [Act.put, pZ]
    refine tkT 9 ?_ rfl (Or.inl ⟨by rfl, ?_⟩) ?_
    rotate_left
    · (intro w hSw; go_simp; try (with_reducible rfl))
    try simp only [Act.put, pZ]
    refine tkT 10 ?_ rfl (Or.inl ⟨by rfl, ?_⟩) ?_
    rotate_left
    · (intro w hSw; go_simp; try (with_reducible rfl))
    try simp only [Act.put, pZ]
    refine wpAnyH_take (i := 11) (v := undef) rfl (by kernel_rfl) (by kernel_rfl) (by kernel_rfl) (fun _ _ _ h => h) (Or.inr ⟨by rfl, rfl⟩) (by assumption) ?_
    try simp only [Act.put, pZ]
    refine wpAnyH_take (i := 12) (v := undef) rfl (by kernel_rfl) (by kernel_rfl) (by kernel_rfl) (fun _ _ _ h => h) (Or.inr ⟨by rfl, rfl⟩) (by assumption) ?_
    try simp only [Act.put, pZ]
    refine wpAnyH_take (i := 13) (v := undef) rfl (by kernel_rfl) (by kernel_rfl) (by kernel_rfl) (fun _ _ _ h => h) (Or.inr ⟨by rfl, rfl⟩) (by assumption) ?_
    try simp only [Act.put, pZ]
    refine wpAnyH_take (i := 14) (v := undef) rfl (by kernel_rfl) (by kernel_rfl) (by kernel_rfl) (fun _ _ _ h => h) (Or.inr ⟨by rfl, rfl⟩) (by assumption) ?_
    try simp only [Act.put, pZ]
    refine tkT 15 ?_ rfl (Or.inl ⟨by rfl, ?_⟩) ?_
    rotate_left
    · (intro w hSw; go_simp; try (with_reducible rfl))
    try simp only [Act.put, pZ]
    refine wpAnyH_done (by kernel_rfl) ?_ _
    refine NoPanic.normal ?_
    go_wp2_with (first | (refine build_key0 rfl rfl ?_) | (refine store_key HZD _ _ rfl rfl rfl rfl (fun W8 HW8 HC8 => ?_)))
    refine bodyPost_ret (results_key2 Tryz.results112 rfl HC8.out) rfl ⟨by rw [HM.out]; rfl, ?_, ?_⟩
    · rw [HW8.out, HM.out]; exact HHD.out.setsAt (by have := HHD.out.lt; have := HBB.out; omega) (by have := HGG.out; omega)
    · rw [HW8.out]; exact grown_sets HGD.out (Nat.le_succ _) _
  | false =>
    obtain ⟨n, hn⟩ : ∃ n, es.length = n := ⟨_, rfl⟩
    have HLEN := Lib.hid (len_any G b room es V.drew HHD.out)
    have HSW := Lib.hid (sweep_any G b room es now V.drew HHD.out)
    have MR : Hid (∀ W : World, W.cell? ⟨G, 0, none⟩ = some (.int .i64 room) → W.cell? ⟨G, 0, none⟩ = some (.int .i64 room)) := Lib.hid (fun W h => h)
    have HS0 : Hid (V.drew.cell? ⟨G, 0, none⟩ = some (.int .i64 room)) := Lib.hid (HHD.out.cs.cell 0 _ rfl)
    have HNN := Lib.hid hn
    rw [hn] at HLEN HSW
    by_cases hrm : (n : Int) < room
    · have HM := Lib.hid (HMM.out.symm.trans (makesC_room (room := room) (now := now) HHAD.out (by rw [HNN.out]; exact hrm)))
      have hd : decide ((n : Int) < room) = true := decide_eq_true hrm
      clear hn
      go_upto_region 2 with fail
      refine wp_region_noPanic ?_
      refine wp_region_held_drew (S := fun (W : World) => W.cell? ⟨G, 0, none⟩ = some (.int .i64 room)) (by kernel_rfl) HS0.out (fun hHeld => ?_)
      refine tkT 0 ?_ rfl (Or.inl ⟨by rfl, ?_⟩) ?_
      rotate_left
      · (intro w hSw; go_simp; try (with_reducible rfl))
      try simp only [Act.put, pZ]
      refine tkT 1 ?_ rfl (Or.inl ⟨by rfl, ?_⟩) ?_
      rotate_left
      · (intro w hSw; go_simp; try (with_reducible rfl))
      try simp only [Act.put, pZ]
      refine tkT 2 ?_ rfl (Or.inl ⟨by rfl, ?_⟩) ?_
      rotate_left
      · (intro w hSw; go_simp; try (with_reducible rfl))
      try simp only [Act.put, pZ]
      refine tkT 4 ?_ rfl (Or.inl ⟨by rfl, ?_⟩) ?_
      rotate_left
      · (intro w hSw; go_simp; try (with_reducible rfl))
      try simp only [Act.put, pZ]
      refine tkT 5 ?_ rfl (Or.inl ⟨by rfl, ?_⟩) ?_
      rotate_left
      · (intro w hSw; go_simp; try (with_reducible rfl))
      try simp only [Act.put, pZ]
      refine tkT 6 ?_ rfl (Or.inl ⟨by rfl, ?_⟩) ?_
      rotate_left
      · (intro w hSw; go_simp; try (with_reducible rfl))
      try simp only [Act.put, pZ]
      refine tkT 7 ?_ rfl (Or.inl ⟨by rfl, ?_⟩) ?_
      rotate_left
      · (intro w hSw; have hc0 := MR.out w hSw; go_simp; try (with_reducible rfl))
      try simp only [Act.put, pZ]
      refine wpAnyH_ready (rs := [3]) (by kernel_rfl) (by simp) ?_
      refine AllReadyH.cons rfl (fun K hK => ?_) AllReadyH.nil
      go_simp
      refine HLEN.out.mono ?_
      rintro e w3 ⟨rfl, hw3⟩
      rw [hw3]
      clear hw3
      go_wp2_with fail
      refine hK.out _ _ hHeld (fun hHeld => ?_)
      clear hK K
      try simp only [Act.put, pZ]
      refine tkT 8 ?_ rfl (Or.inl ⟨by rfl, ?_⟩) ?_
      rotate_left
      · (intro w hSw; go_simp; try (with_reducible rfl))
      try simp only [Act.put, pZ]
      refine tkT 9 ?_ rfl (Or.inl ⟨by rfl, ?_⟩) ?_
      rotate_left
      · (intro w hSw; go_simp; try (with_reducible rfl))
      try simp only [Act.put, pZ]
      refine tkT 10 ?_ rfl (Or.inl ⟨by rfl, ?_⟩) ?_
      rotate_left
      · (intro w hSw; go_simp; try (with_reducible rfl))
      try simp only [Act.put, pZ]
      refine wpAnyH_take (i := 11) (v := undef) rfl (by kernel_rfl) (by kernel_rfl) (by kernel_rfl) (fun _ _ _ h => h) (Or.inr ⟨by rfl, rfl⟩) (by assumption) ?_
      try simp only [Act.put, pZ]
      refine wpAnyH_take (i := 12) (v := undef) rfl (by kernel_rfl) (by kernel_rfl) (by kernel_rfl) (fun _ _ _ h => h) (Or.inr ⟨by rfl, rfl⟩) (by assumption) ?_
      try simp only [Act.put, pZ]
      refine wpAnyH_take (i := 13) (v := undef) rfl (by kernel_rfl) (by kernel_rfl) (by kernel_rfl) (fun _ _ _ h => h) (Or.inr ⟨by rfl, rfl⟩) (by assumption) ?_
      try simp only [Act.put, pZ]
      refine wpAnyH_take (i := 14) (v := undef) rfl (by kernel_rfl) (by kernel_rfl) (by kernel_rfl) (fun _ _ _ h => h) (Or.inr ⟨by rfl, rfl⟩) (by assumption) ?_
      try simp only [Act.put, pZ]
      refine tkT 15 ?_ rfl (Or.inl ⟨by rfl, ?_⟩) ?_
      rotate_left
      · (intro w hSw; go_simp; try (with_reducible rfl))
      try simp only [Act.put, pZ]
      refine wpAnyH_done (by kernel_rfl) ?_ _
      refine NoPanic.normal ?_
      go_wp2_with (first | (refine build_key0 rfl rfl ?_) | (refine store_key HZD _ _ rfl rfl rfl rfl (fun W8 HW8 HC8 => ?_)))
      refine bodyPost_ret (results_key2 Tryz.results112 rfl HC8.out) rfl ⟨by rw [HM.out]; rfl, ?_, ?_⟩
      · rw [HW8.out, HM.out]; exact HHD.out.setsAt (by have := HHD.out.lt; have := HBB.out; omega) (by have := HGG.out; omega)
      · rw [HW8.out]; exact grown_sets HGD.out (Nat.le_succ _) _
    · have hd : decide ((n : Int) < room) = false := decide_eq_false hrm
      obtain ⟨q, hq⟩ : ∃ q, n - (sweepC es now).length = q := ⟨_, rfl⟩
      have hsl := sweepC_len es now
      rw [hn] at hsl
      have HQ := Lib.hid hq
      have HSL := Lib.hid hsl
      rw [hq] at HSW
      clear hn hq hsl
      go_upto_region 2 with fail
      refine wp_region_noPanic ?_
      refine wp_region_held_drew (S := fun (W : World) => W.cell? ⟨G, 0, none⟩ = some (.int .i64 room)) (by kernel_rfl) HS0.out (fun hHeld => ?_)
      refine tkT 0 ?_ rfl (Or.inl ⟨by rfl, ?_⟩) ?_
      rotate_left
      · (intro w hSw; go_simp; try (with_reducible rfl))
      try simp only [Act.put, pZ]
      refine tkT 1 ?_ rfl (Or.inl ⟨by rfl, ?_⟩) ?_
      rotate_left
      · (intro w hSw; go_simp; try (with_reducible rfl))
      try simp only [Act.put, pZ]
      refine tkT 2 ?_ rfl (Or.inl ⟨by rfl, ?_⟩) ?_
      rotate_left
      · (intro w hSw; go_simp; try (with_reducible rfl))
      try simp only [Act.put, pZ]
      refine tkT 4 ?_ rfl (Or.inl ⟨by rfl, ?_⟩) ?_
      rotate_left
      · (intro w hSw; go_simp; try (with_reducible rfl))
      try simp only [Act.put, pZ]
      refine tkT 5 ?_ rfl (Or.inl ⟨by rfl, ?_⟩) ?_
      rotate_left
      · (intro w hSw; go_simp; try (with_reducible rfl))
      try simp only [Act.put, pZ]
      refine tkT 6 ?_ rfl (Or.inl ⟨by rfl, ?_⟩) ?_
      rotate_left
      · (intro w hSw; go_simp; try (with_reducible rfl))
      try simp only [Act.put, pZ]
      refine tkT 7 ?_ rfl (Or.inl ⟨by rfl, ?_⟩) ?_
      rotate_left
      · (intro w hSw; have hc0 := MR.out w hSw; go_simp; try (with_reducible rfl))
      try simp only [Act.put, pZ]
      refine wpAnyH_ready (rs := [3]) (by kernel_rfl) (by simp) ?_
      refine AllReadyH.cons rfl (fun K hK => ?_) AllReadyH.nil
      go_simp
      refine HLEN.out.mono ?_
      rintro e w3 ⟨rfl, hw3⟩
      rw [hw3]
      clear hw3
      go_wp2_with fail
      refine hK.out _ _ hHeld (fun hHeld => ?_)
      clear hK K
      try simp only [Act.put, pZ]
      refine tkT 8 ?_ rfl (Or.inl ⟨by rfl, ?_⟩) ?_
      rotate_left
      · (intro w hSw; go_simp; try (with_reducible rfl))
      try simp only [Act.put, pZ]
      refine tkT 9 ?_ rfl (Or.inl ⟨by rfl, ?_⟩) ?_
      rotate_left
      · (intro w hSw; go_simp; try (with_reducible rfl))
      try simp only [Act.put, pZ]
      refine tkT 10 ?_ rfl (Or.inl ⟨by rfl, ?_⟩) ?_
      rotate_left
      · (intro w hSw; go_simp; try (with_reducible rfl))
      try simp only [Act.put, pZ]
      refine tkT 11 ?_ rfl (Or.inl ⟨by rfl, ?_⟩) ?_
      rotate_left
      · (intro w hSw; go_simp; try (with_reducible rfl))
      try simp only [Act.put, pZ]
      refine tkT 12 ?_ rfl (Or.inl ⟨by rfl, ?_⟩) ?_
      rotate_left
      · (intro w hSw; go_simp; try (with_reducible rfl))
      try simp only [Act.put, pZ]
      refine wpAnyH_ready (rs := [13]) (by kernel_rfl) (by simp) ?_
      refine AllReadyH.cons rfl (fun K hK => ?_) AllReadyH.nil
      go_simp
      refine HSW.out.mono ?_
      rintro e w4 ⟨rfl, hc4, hg4⟩
      have HC4 := Lib.hid hc4
      have HG4 := Lib.hid (HGD.out.andThen hg4 (fun j hj => .inr hj))
      have HZ4 := Lib.hid (HZD.out.grown hg4 (by have := HBB.out; omega))
      clear hc4 hg4 HSW HZD HHD HGD HLEN
      go_wp2_with fail
      refine hK.out _ _ (HC4.out.cs.cell 0 _ rfl) (fun hHeld => ?_)
      clear hK K
      try simp only [Act.put, pZ]
      refine tkT 14 ?_ rfl (Or.inl ⟨by rfl, ?_⟩) ?_
      rotate_left
      · (intro w hSw; go_simp; try (with_reducible rfl))
      try simp only [Act.put, pZ]
      refine tkT 15 ?_ rfl (Or.inl ⟨by rfl, ?_⟩) ?_
      rotate_left
      · (intro w hSw; go_simp; try (with_reducible rfl))
      try simp only [Act.put, pZ]
      refine wpAnyH_done (by kernel_rfl) ?_ _
      refine NoPanic.normal ?_
      by_cases hq0 : 0 < q
      · have hdq : decide (0 < q) = true := decide_eq_true hq0
        have hdi : decide ((0 : Int) < (q : Int)) = true := decide_eq_true (by omega)
        have HM := Lib.hid (HMM.out.symm.trans (makesC_swept (room := room) (now := now) HHAD.out (by rw [HNN.out]; omega) (by rw [HNN.out]; have := HQ.out; omega)))
        go_wp2_with (first | (refine build_key0 rfl rfl ?_) | (refine store_key HZ4 _ _ rfl rfl rfl rfl (fun W8 HW8 HC8 => ?_)))
        refine bodyPost_ret (results_key2 Tryz.results112 rfl HC8.out) rfl ⟨by rw [HM.out]; rfl, ?_, ?_⟩
        · rw [HW8.out, HM.out]; exact HC4.out.setsAt (by have := HC4.out.lt; have := HBB.out; omega) (by have := HGG.out; omega)
        · rw [HW8.out]; exact grown_sets HG4.out (Nat.le_succ _) _
      · have hdq : decide (0 < q) = false := decide_eq_false hq0
        obtain rfl : q = 0 := by omega
        have hnl : ¬ (sweepC es now).length < es.length := by rw [HNN.out]; have := HQ.out; omega
        have HM := Lib.hid (HMM.out.symm.trans (makesC_let (room := room) (now := now) HHAD.out (by rw [HNN.out]; omega) hnl))
        have hse : sweepC es now = es := sweepC_same (by rw [HNN.out]; have := HQ.out; have := HSL.out; omega)
        rw [hse] at HC4
        have hlen1 : 1 ≤ es.length := by rw [HNN.out]; omega
        have HSO := Lib.hid (soonest_any G b room es w4 HC4.out hlen1)
        have hbl : bestC es es.length < es.length := by
          cases he : es.length with
          | zero => omega
          | succ k => have := bestC_lt es k; omega
        have HKO := Lib.hid (show KeyOk (kAt es (bestC es es.length)) from by rw [kAt_eq hbl]; exact HC4.out.ok _ (List.getElem_mem hbl))
        have HGE : Hid ((es[bestC es es.length]?.map keyC).getD noKey = kAt es (bestC es es.length) ∧ (es[bestC es es.length]?).isSome = true) := Lib.hid (by rw [List.getElem?_eq_getElem hbl, kAt_eq hbl]; exact ⟨rfl, rfl⟩)
        have HWO := Lib.hid (withoutC_cut HC4.out.so.apart _ hbl)
        have HKA := Lib.hid (kAt_eq hbl)
        obtain ⟨kb, hkb⟩ : ∃ kb, kAt es (bestC es es.length) = kb := ⟨_, rfl⟩
        rw [hkb] at HSO HKO HKA HGE
        rw [hkb] at HM
        clear hkb hse hlen1 hnl
        have HCUT : Hid (∀ W, CellsAt W G [.int .i64 room, .map (some b)] → CacMap W b (withoutC es kb) → CacAt W G b room (withoutC es kb)) := Lib.hid (fun W h1 h2 => by
          have e : withoutC es kb = cutC es (bestC es es.length) := by rw [HKA.out]; exact HWO.out
          have hl := cutC_len es _ hbl
          refine ⟨h1, h2, by rw [e]; exact cutC_sorted HC4.out.so _, (fun y hy => HC4.out.ok y (List.mem_filter.1 hy).1), ?_, HC4.out.r1, HC4.out.r2⟩
          rw [e]
          have := HC4.out.le
          omega)
        go_wp2_with fail
        refine HSO.out.mono ?_
        rintro e w5 ⟨rfl, hb5⟩
        have HC5 := Lib.hid (HC4.out.below hb5)
        have HZ5 := Lib.hid (HZ4.out.below hb5)
        have HG5 := Lib.hid (HG4.out.andThen (grown_of_below hb5) (fun j hj => by cases hj))
        clear hb5 HSO HC4 HZ4 HG4 HWO HKA hbl
        have hba : Below w5.heap.size w5 (w5.alloc (.cells #[.string ⟨#[]⟩, .int .i64 0] 155)) := (Below.refl _ _).alloc (Nat.le_refl _) _
        have HZ10 : Hid (CellsAt (w5.alloc (.cells #[.string ⟨#[]⟩, .int .i64 0] 155)) w5.heap.size (keyL noKey)) := Lib.hid (CellsAt.new w5 155 (keyL noKey))
        have HC5a := Lib.hid (HC5.out.below hba)
        have HZ5a := Lib.hid (HZ5.out.below hba)
        have HG5a := Lib.hid (HG5.out.andThen (grown_of_below hba) (fun j hj => by cases hj))
        have HLT5 := Lib.hid HC5.out.lt
        have HLZ5 := Lib.hid HZ5.out.lt
        have HSZ5 := Lib.hid HG5.out.size
        clear hba HC5 HZ5 HG5
        go_upto_region 5 with (first | (refine store_key HZ10 _ _ rfl rfl rfl rfl (fun W6 HW6 HC6 => ?_)))
        have HA6 : Hid (CacAt W6 G b room es) := Lib.hid (by rw [HW6.out]; exact HC5a.out.setsAt (by have := HLT5.out.2; omega) (by have := HLT5.out.1; omega))
        have HZ6 : Hid (CellsAt W6 (w.heap.size + 1) (keyL noKey)) := Lib.hid (by rw [HW6.out]; exact HZ5a.out.apart (by have := HLZ5.out; omega) _)
        have HG6 : Hid (w.grownBy W6 (some b)) := Lib.hid (by rw [HW6.out]; exact grown_sets HG5a.out HSZ5.out _)
        have HNB : Hid (w5.heap.size ≠ b) := Lib.hid (by have := HLT5.out.2; omega)
        have HNZ : Hid (w.heap.size + 1 ≠ b) := Lib.hid (by have := HBB.out; omega)
        generalize w5.heap.size = P10 at *
        clear HW6 HC5a HZ5a HG5a HLT5 HLZ5 HSZ5 HZ10
        obtain ⟨S2, hS2⟩ : ∃ S2 : World → Prop, (fun W => W.cell? ⟨G, 1, none⟩ = some (.map (some b)) ∧ W.rangeAt P10 0 (keyL kb)) = S2 := ⟨_, rfl⟩
        have HS20 : Hid (S2 W6.drew) := Lib.hid (by rw [← hS2]; exact ⟨HA6.out.cs.cell 1 _ rfl, HC6.out.range⟩)
        have HS21 : Hid (∀ W, W6.drew.mapTurned W b → S2 W) := Lib.hid (fun W ht => by
          have hg := grown_undrew ht.grown
          rw [← hS2]
          exact ⟨(HA6.out.cs.grown hg HA6.out.ne).cell 1 _ rfl, (HC6.out.grown hg HNB.out).range⟩)
        have M1 : Hid (∀ W, S2 W → W.cell? ⟨G, 1, none⟩ = some (.map (some b))) := Lib.hid (fun W h => by rw [← hS2] at h; exact h.1)
        have M2 : Hid (∀ W, S2 W → W.rangeAt P10 0 (keyL kb)) := Lib.hid (fun W h => by rw [← hS2] at h; exact h.2)
        have HMD : Hid (CacMap W6.drew b es) := Lib.hid (HA6.out.below (Below.refl _ _).drew).mp
        clear hS2
        refine wp_region_noPanic ?_
        refine wp_region_held_drew (S := S2) (by kernel_rfl) HS20.out (fun hHeld => ?_)
        refine tkT 0 ?_ rfl (Or.inl ⟨by rfl, ?_⟩) ?_
        rotate_left
        · (intro w hSw; go_simp; try (with_reducible rfl))
        try simp only [Act.put, pZ]
        refine tkT 1 ?_ rfl (Or.inl ⟨by rfl, ?_⟩) ?_
        rotate_left
        · (intro w hSw; go_simp; try (with_reducible rfl))
        try simp only [Act.put, pZ]
        refine tkT 2 ?_ rfl (Or.inl ⟨by rfl, ?_⟩) ?_
        rotate_left
        · (intro w hSw; go_simp; try (with_reducible rfl))
        try simp only [Act.put, pZ]
        refine tkT 3 ?_ rfl (Or.inl ⟨by rfl, ?_⟩) ?_
        rotate_left
        · (intro w hSw; have hc0 := M1.out w hSw; go_simp; try (with_reducible rfl))
        try simp only [Act.put, pZ]
        refine wpAnyH_take (i := 4) rfl (by kernel_rfl) (by kernel_rfl) (by kernel_rfl) (fun _ _ _ h => h) (yields_key (p:=kb) M2 (by rfl) _ rfl rfl) (by assumption) ?_
        try simp only [Act.put, pZ]
        refine wpAnyH_ready (rs := [5]) (by kernel_rfl) (by simp) ?_
        refine AllReadyH.one rfl rfl (fun K hK => ?_)
        refine wp_delete_own (w := W6.drew) _ _ rfl rfl HMD.out HA6.out.ok (p := kb) rfl HKO.out (fun w7 hm7 ht7 => ?_)
        have hg7 := grown_undrew ht7.grown
        have HA7 := Lib.hid (HCUT.out w7 (HA6.out.cs.grown hg7 HA6.out.ne) hm7)
        have HZ7 := Lib.hid (HZ6.out.grown hg7 HNZ.out)
        have HK7 := Lib.hid (HC6.out.grown hg7 HNB.out).range
        have HG7 := Lib.hid (HG6.out.andThen hg7 (fun j hj => .inr hj))
        refine hK.out _ _ (HS21.out _ ht7) (fun hHeld => ?_)
        clear hK K hm7 ht7 hg7
        try simp only [Act.put]
        refine wpAnyH_done (by kernel_rfl) ?_ _
        refine NoPanic.normal ?_
        go_wp2_with (first | refine load_key HK7 _ rfl rfl rfl ?_ | (refine store_key HZ7 _ _ rfl rfl rfl rfl (fun W8 HW8 HC8 => ?_)))
        refine bodyPost_ret (results_key2 Tryz.results112 rfl HC8.out) rfl ⟨?_, ?_, ?_⟩
        · rw [HM.out]
          show _ = Ending.returned (.tuple #[keyV _, .bool _])
          rw [HGE.out.1, HGE.out.2]
          rfl
        · rw [HW8.out, HM.out]; exact HA7.out.setsAt (by have := HBB.out; omega) (by have := HGG.out; omega)
        · rw [HW8.out]; exact grown_sets HG7.out (Nat.le_succ _) _
end Go.Proofs.YtedmkdjijhflnaaGreat
namespace Go.Proofs.YtedmkdjijhflnaaGreat
open Go.RowKit Go.Maps

theorem put_makes {room : Int} {es : List Ce} (own : Ce) (now : Int) (hs : SortedC es) (hr : (es.length : Int) ≤ room) (h1 : 1 ≤ room) :
    (makesC room es own.s own.t now).2 = (putC room es own now).2 ∧ (putC room es own now).1.Perm (own :: withoutC (makesC room es own.s own.t now).1 (keyC own)) := by
  unfold putC
  cases hf : findC es own.s own.t with
  | some i =>
    obtain ⟨hi, hk⟩ := findC_lt _ _ _ _ hf
    have hg : (getE es own.s own.t).isSome = true := by unfold getE; rw [hf]; simp only [List.getElem?_eq_getElem hi]; rfl
    rw [makesC_had hg]
    have e : keyC es[i] = keyC own := Prod.ext hk.1 hk.2
    have hc := withoutC_cut hs.apart i hi
    refine ⟨rfl, ?_⟩
    rw [← e, hc]
    exact insC_perm _ _
  | none =>
    have hg : (getE es own.s own.t).isSome = false := by unfold getE; rw [hf]; rfl
    have hno : ∀ e ∈ es, keyC e ≠ keyC own := findC_none_iff hf
    have hsl := sweepC_len es now
    simp only
    by_cases hl : (es.length : Int) = room
    · rw [if_pos hl]
      by_cases h2 : (sweepC es now).length < es.length
      · rw [makesC_swept hg (by omega) h2, if_neg (by omega)]
        refine ⟨rfl, ?_⟩
        show List.Perm (insC own (sweepC es now)) (own :: withoutC (sweepC es now) (keyC own))
        rw [withoutC_none (es := sweepC es now) (fun e he => hno e (List.mem_filter.1 he).1)]
        exact insC_perm _ _
      · have hse : sweepC es now = es := sweepC_same (by omega)
        rw [makesC_let hg (by omega) h2, hse, if_pos hl]
        refine ⟨rfl, ?_⟩
        have hb : bestC es es.length < es.length := by
          cases he : es.length with
          | zero => rw [he] at hl; omega
          | succ k => have := bestC_lt es k; omega
        show List.Perm _ (own :: withoutC (withoutC es (kAt es (bestC es es.length))) (keyC own))
        rw [kAt_eq hb, withoutC_cut hs.apart _ hb, withoutC_none (fun e he => hno e (cutC_mem he))]
        exact insC_perm _ _
    · rw [makesC_room hg (by omega), if_neg hl]
      refine ⟨rfl, ?_⟩
      show List.Perm (insC own es) (own :: withoutC es (keyC own))
      rw [withoutC_none hno]
      exact insC_perm _ _
theorem wp_update_own {o : Oper} {a : Act} {w : World} {K : Act → World → Prop} {Q : Exit → Act → World → Prop} (m x v : Operand) (hop : o.op = Op.mapUpdate 151 m x v)
    {b : Nat} {es : List Ce} (hm : a.eval m = .map (some b)) (h : CacMap w b es) (hk : KeysOk es) {e : Ce} (hx : a.eval x = keyV (keyC e)) (hv : a.eval v = entV e) (hp : KeyOk (keyC e)) (hl : es.length ≤ 1000)
    (hK : ∀ w', CacMap w' b (e :: withoutC es (keyC e)) → w.mapTurned w' b → K (a.put o.dst undef) w') : o.wp Tryz.prog a w K Q := by
  obtain ⟨w', hrun, r1, r2⟩ := h.store hk e hp hl
  unfold Oper.wp
  simp [execOp, hop, hm, hx, hv, hrun, Result.andThen]
  exact hK w' r1 r2
theorem AdsIn.grown {w w' : World} {a : Option Addr} {c b : Nat} {L : List Ad} (h : AdsIn w a c L) (hg : w.grownBy w' (some b)) (hb : ∃ e0 cl, w.heap[b]? = some (.map e0 cl)) : AdsIn w' a c L := by
  obtain ⟨⟨h1, h2, h3, h4⟩, h5⟩ := h
  refine ⟨⟨h1, h2, h3, ?_⟩, h5⟩
  rcases h4 with h4 | ⟨g, o, e, hgl, hr⟩
  · exact .inl h4
  · by_cases hl : L.length = 0
    · exact .inl hl
    · refine .inr ⟨g, o, e, Nat.lt_of_lt_of_le hgl hg.size, range_farC hr hg hgl (fun e2 => ?_)⟩
      injection e2 with e2
      obtain ⟨e0, cl, hb⟩ := hb
      cases L with
      | nil => simp at hl
      | cons r L =>
        have := hr 0 _ (by show (adL r ++ _)[0]? = _; rfl)
        rw [e2] at this
        simp [World.cell?, hb] at this
theorem AdsIn.sets {w : World} {a : Option Addr} {c B : Nat} {vs : List Value} {L : List Ad} (h : AdsIn w a c L) (hne : ∀ g o, a = some ⟨g, o, none⟩ → g ≠ B) : AdsIn (w.setCells B 0 vs) a c L := by
  obtain ⟨⟨h1, h2, h3, h4⟩, h5⟩ := h
  refine ⟨⟨h1, h2, h3, ?_⟩, h5⟩
  rcases h4 with h4 | ⟨g, o, e, hgl, hr⟩
  · exact .inl h4
  · exact .inr ⟨g, o, e, by rw [size_setCells]; exact hgl, World.rangeAt_setCells_apart hr B 0 vs (.inl (hne g o e))⟩
theorem RowA.far {w : World} {base : Nat} {a : Option Addr} {n c : Nat} {D : List Ad} (h : RowA w base (.slice a n c) D) : ∀ g o, a = some ⟨g, o, none⟩ → base ≤ g := by
  rintro g o rfl
  exact (h.lt g rfl).1
theorem putNo_any (G b : Nat) (room : Int) (es : List Ce) (s : ByteArray) (t ttl now : Int) (a : Option Addr) (n c : Nat) (w : World) (h : CacAt w G b room es) (httl : ttl < 1) :
    Calls Tryz.prog 84 #[.pointer (some ⟨G, 0, none⟩), .string s, .int .i64 t, .slice a n c, .int .i64 ttl, .int .i64 now] w fun e w' => e = .returned (.tuple #[keyV noKey, .bool false]) ∧ Below w.heap.size w w' := by
  obtain ⟨W, hW⟩ : ∃ W, w.alloc (.cells #[.string ⟨#[]⟩, .int .i64 0] 155) = W := ⟨_, rfl⟩
  have HB : Hid (Below w.heap.size w W) := Lib.hid (by rw [← hW]; exact (Below.refl _ _).alloc (Nat.le_refl _) _)
  have HZ : Hid (CellsAt W w.heap.size (keyL noKey)) := Lib.hid (by rw [← hW]; exact CellsAt.new w 155 (keyL noKey))
  have hd : decide (ttl < 1) = true := decide_eq_true httl
  clear h
  go_enter Tryz.func84, Tryz.ntmps84
  go_upto_region 1 with fail
  first | rw [hW] | skip
  clear hW
  go_wp2_with (first | (refine build_key0 rfl rfl ?_) | (refine store_key HZ _ _ rfl rfl rfl rfl (fun W8 HW8 HC8 => ?_)))
  refine bodyPost_ret (results_key2 Tryz.results84 rfl HC8.out) rfl ⟨rfl, ?_⟩
  rw [HW8.out]
  exact below_cells (Nat.le_refl _) _ _ _ HB.out
set_option maxRecDepth 100000 in
set_option maxHeartbeats 4000000 in
theorem putF_any (G b : Nat) (room : Int) (es : List Ce) (s : ByteArray) (t ttl now : Int) (a : Option Addr) (c : Nat) (L : List Ad) (w : World) (h : CacAt w G b room es) (hs : s.size ≤ 2000000) (ht : (Lit.int .i64 t).wf = true) (httl : 1 ≤ ttl) (hn0 : 0 ≤ now) (hn1 : now ≤ 2199023255552) (hA : AdsIn w a c L) (hl : L.length ≤ 1000) :
    Calls Tryz.prog 84 #[.pointer (some ⟨G, 0, none⟩), .string s, .int .i64 t, .slice a L.length c, .int .i64 ttl, .int .i64 now] w fun e w' => ∃ a' c', e = .returned (.tuple #[keyV (((putC room es ⟨lowB s, t, a', L.length, c', now + min ttl 604800⟩ now).2.map keyC).getD noKey), .bool (putC room es ⟨lowB s, t, a', L.length, c', now + min ttl 604800⟩ now).2.isSome]) ∧ CacAt w' G b room (putC room es ⟨lowB s, t, a', L.length, c', now + min ttl 604800⟩ now).1 ∧ AdsIn w' a' c' L ∧ w.grownBy w' (some b) ∧ (∀ g o, a' = some ⟨g, o, none⟩ → w.heap.size ≤ g) := by
  have hx : (lowB s).size ≤ 2000000 := by rw [lowB_size]; exact hs
  have HPM : Hid (∀ a' c', (makesC room es (lowB s) t now).2 = (putC room es ⟨lowB s, t, a', L.length, c', now + min ttl 604800⟩ now).2 ∧ (putC room es ⟨lowB s, t, a', L.length, c', now + min ttl 604800⟩ now).1.Perm (⟨lowB s, t, a', L.length, c', now + min ttl 604800⟩ :: withoutC (makesC room es (lowB s) t now).1 (lowB s, t)) ∧ SortedC (putC room es ⟨lowB s, t, a', L.length, c', now + min ttl 604800⟩ now).1 ∧ ((putC room es ⟨lowB s, t, a', L.length, c', now + min ttl 604800⟩ now).1.length : Int) ≤ room ∧ KeysOk (putC room es ⟨lowB s, t, a', L.length, c', now + min ttl 604800⟩ now).1) := Lib.hid (fun a' c' => by
    obtain ⟨h1, h2⟩ := put_makes ⟨lowB s, t, a', L.length, c', now + min ttl 604800⟩ now h.so h.le h.r1
    obtain ⟨h3, h4, h5⟩ := putC_ok (own := ⟨lowB s, t, a', L.length, c', now + min ttl 604800⟩) (now := now) h.so h.le h.r1
    refine ⟨h1, h2, h3, h4, fun e he => ?_⟩
    rcases h5 e he with rfl | he
    · exact ⟨hx, ht⟩
    · exact h.ok e he)
  have HKO := fun W => Lib.hid (keyOf_any s t W hs)
  obtain ⟨x, hxx⟩ : ∃ x, lowB s = x := ⟨_, rfl⟩
  rw [hxx] at hx HPM HKO ⊢
  have HKY : Hid (KeyOk (x, t)) := Lib.hid ⟨hx, ht⟩
  have HMR := Lib.hid (fun W (hc : CacAt W G b room es) => makeRoom_any G b room es x t now W hc HKY.out)
  obtain ⟨M, hM⟩ : ∃ M, makesC room es x t now = M := ⟨_, rfl⟩
  obtain ⟨l, g⟩ := M
  rw [hM] at HPM HMR
  simp only at HPM HMR
  have hw : IntKind.i64.wrap (now + min ttl 604800) = now + min ttl 604800 := by rw [IntKind.wrap_i64]; omega
  obtain ⟨W, hW⟩ : ∃ W, w.alloc (.cells #[.string ⟨#[]⟩, .int .i64 0] 155) = W := ⟨_, rfl⟩
  have HB : Hid (Below w.heap.size w W) := Lib.hid (by rw [← hW]; exact (Below.refl _ _).alloc (Nat.le_refl _) _)
  have HZ : Hid (CellsAt W w.heap.size (keyL noKey)) := Lib.hid (by rw [← hW]; exact CellsAt.new w 155 (keyL noKey))
  have hd : decide (ttl < 1) = false := decide_eq_false (by omega)
  have HH := Lib.hid (h.below HB.out)
  have HAD : Hid (∀ W, w.grownBy W (some b) → AdsIn W a c L) := Lib.hid (fun W hg => hA.grown hg h.mp.block)
  have HLB := Lib.hid h.lt
  clear h hA hM hx hxx
  go_enter Tryz.func84, Tryz.ntmps84
  go_upto_region 1 with fail
  first | rw [hW] | skip
  clear hW
  go_wp2_with fail
  refine (HKO _).out.mono ?_
  rintro e w1 ⟨rfl, hb1⟩
  have HH1 := Lib.hid (HH.out.below hb1)
  have HZ1 := Lib.hid (HZ.out.below hb1)
  have HB1 := Lib.hid (chain HB.out hb1)
  clear hb1 HH HZ HB HKO
  have hba : Below w1.heap.size w1 (w1.alloc (.cells #[.string ⟨#[]⟩, .int .i64 0] 155)) := (Below.refl _ _).alloc (Nat.le_refl _) _
  have HK2 : Hid (CellsAt (w1.alloc (.cells #[.string ⟨#[]⟩, .int .i64 0] 155)) w1.heap.size (keyL noKey)) := Lib.hid (CellsAt.new w1 155 (keyL noKey))
  have HH2 := Lib.hid (HH1.out.below hba)
  have HZ2 := Lib.hid (HZ1.out.below hba)
  have HB2 := Lib.hid (chain HB1.out hba)
  have HLT1 := Lib.hid HH1.out.lt
  have HLZ1 := Lib.hid HZ1.out.lt
  clear hba HH1 HZ1
  go_upto_region 4 with (first | (refine store_key HK2 _ _ rfl rfl rfl rfl (fun W3 HW3 HC3 => ?_)))
  have HG3 : Hid (w.grownBy W3 (some b)) := Lib.hid (by rw [HW3.out]; exact grown_sets ((grown_of_below HB2.out).but _) HB1.out.size _)
  have HH3 : Hid (CacAt W3 G b room es) := Lib.hid (by rw [HW3.out]; exact HH2.out.setsAt (by have := HLT1.out.2; omega) (by have := HLT1.out.1; omega))
  have HZ3 : Hid (CellsAt W3 w.heap.size (keyL noKey)) := Lib.hid (by rw [HW3.out]; exact HZ2.out.apart (by have := HLZ1.out; omega) _)
  have HN14 : Hid (w1.heap.size ≠ b ∧ w1.heap.size ≠ w.heap.size) := Lib.hid (by have := HLT1.out.2; have := HLZ1.out; omega)
  have HN12 : Hid (w.heap.size ≠ b) := Lib.hid (by have := HLB.out.2; omega)
  have HK3 := Lib.hid HC3.out.range
  generalize w1.heap.size = P14 at *
  clear HW3 HH2 HZ2 HB2 HB1 HLT1 HLZ1 HK2
  have HMR3 := Lib.hid (HMR.out W3 HH3.out)
  obtain ⟨gk, hgk⟩ : ∃ gk, (g.map keyC).getD noKey = gk := ⟨_, rfl⟩
  obtain ⟨gb, hgb⟩ : ∃ gb, g.isSome = gb := ⟨_, rfl⟩
  have HGK : Hid (∀ g' : Option Ce, g = g' → (g'.map keyC).getD noKey = gk ∧ g'.isSome = gb) := Lib.hid (fun g' e => by subst e; exact ⟨hgk, hgb⟩)
  rw [hgk, hgb] at HMR3
  clear HMR hgk hgb
  go_wp2_with (first | refine load_key HK3 _ rfl rfl rfl ?_)
  refine HMR3.out.mono ?_
  rintro e w4 ⟨rfl, hc4, hg4⟩
  have HC4 := Lib.hid hc4
  have HG4 := Lib.hid (HG3.out.andThen hg4 (fun j hj => .inr hj))
  have HK4 := Lib.hid (HC3.out.grown hg4 HN14.out.1)
  have HZ4 := Lib.hid (HZ3.out.grown hg4 HN12.out)
  clear hc4 hg4 HMR3 HC3 HZ3 HH3 HG3 HK3
  have hba : Below w4.heap.size w4 (w4.alloc (.cells #[.string ⟨#[]⟩, .int .i64 0] 155)) := (Below.refl _ _).alloc (Nat.le_refl _) _
  have HK5 : Hid (CellsAt (w4.alloc (.cells #[.string ⟨#[]⟩, .int .i64 0] 155)) w4.heap.size (keyL noKey)) := Lib.hid (CellsAt.new w4 155 (keyL noKey))
  have HC5 := Lib.hid (HC4.out.below hba)
  have HP5 := Lib.hid (HK4.out.below hba)
  have HZ5 := Lib.hid (HZ4.out.below hba)
  have HG5 := Lib.hid (HG4.out.andThen (grown_of_below hba) (fun j hj => by cases hj))
  have HLC := Lib.hid HC4.out.lt
  have HLP := Lib.hid HK4.out.lt
  have HLZ := Lib.hid HZ4.out.lt
  have HSZ := Lib.hid HG4.out.size
  clear hba HC4 HK4 HZ4 HG4
  go_upto_region 5 with (first | (refine store_key HK5 _ _ rfl rfl rfl rfl (fun W6 HW6 HC6 => ?_)))
  have HA6 : Hid (CacAt W6 G b room l) := Lib.hid (by rw [HW6.out]; exact HC5.out.setsAt (by have := HLC.out.2; omega) (by have := HLC.out.1; omega))
  have HP6 : Hid (CellsAt W6 P14 (keyL (x, t))) := Lib.hid (by rw [HW6.out]; exact HP5.out.apart (by have := HLP.out; omega) _)
  have HZ6 : Hid (CellsAt W6 w.heap.size (keyL noKey)) := Lib.hid (by rw [HW6.out]; exact HZ5.out.apart (by have := HLZ.out; omega) _)
  have HG6 : Hid (w.grownBy W6 (some b)) := Lib.hid (by rw [HW6.out]; exact grown_sets HG5.out HSZ.out _)
  have HN15 : Hid (w4.heap.size ≠ b) := Lib.hid (by have := HLC.out.2; omega)
  generalize w4.heap.size = P15 at *
  clear HW6 HC5 HP5 HZ5 HG5 HLC HLP HLZ HSZ HK5
  obtain ⟨S2, hS2⟩ : ∃ S2 : World → Prop, (fun W => W.cell? ⟨G, 1, none⟩ = some (.map (some b)) ∧ W.rangeAt P14 0 (keyL (x, t))) = S2 := ⟨_, rfl⟩
  have HS20 : Hid (S2 W6.drew) := Lib.hid (by rw [← hS2]; exact ⟨HA6.out.cs.cell 1 _ rfl, HP6.out.range⟩)
  have HS21 : Hid (∀ W, W6.grownBy W (some b) → S2 W) := Lib.hid (fun W hg => by
    rw [← hS2]
    exact ⟨(HA6.out.cs.grown hg HA6.out.ne).cell 1 _ rfl, (HP6.out.grown hg HN14.out.1).range⟩)
  have M1 : Hid (∀ W, S2 W → W.cell? ⟨G, 1, none⟩ = some (.map (some b))) := Lib.hid (fun W h => by rw [← hS2] at h; exact h.1)
  have M2 : Hid (∀ W, S2 W → W.rangeAt P14 0 (keyL (x, t))) := Lib.hid (fun W h => by rw [← hS2] at h; exact h.2)
  have HCL := Lib.hid (cloneA_any a c L W6.drew (HAD.out _ (grown_drew HG6.out)) hl)
  clear hS2
  refine wp_region_noPanic ?_
  refine wp_region_held_drew (S := S2) (by kernel_rfl) HS20.out (fun hHeld => ?_)
  refine tkT 0 ?_ rfl (Or.inl ⟨by rfl, ?_⟩) ?_
  rotate_left
  · (intro w hSw; go_simp; try (with_reducible rfl))
  try simp only [Act.put, pZ]
  refine tkT 1 ?_ rfl (Or.inl ⟨by rfl, ?_⟩) ?_
  rotate_left
  · (intro w hSw; go_simp; try (with_reducible rfl))
  try simp only [Act.put, pZ]
  refine tkT 2 ?_ rfl (Or.inl ⟨by rfl, ?_⟩) ?_
  rotate_left
  · (intro w hSw; go_simp; try (with_reducible rfl))
  try simp only [Act.put, pZ]
  refine tkT 3 ?_ rfl (Or.inl ⟨by rfl, ?_⟩) ?_
  rotate_left
  · (intro w hSw; have hc0 := M1.out w hSw; go_simp; try (with_reducible rfl))
  try simp only [Act.put, pZ]
  refine wpAnyH_take (i := 4) rfl (by kernel_rfl) (by kernel_rfl) (by kernel_rfl) (fun _ _ _ h => h) (yields_key (p:=(x,t)) M2 (by rfl) _ rfl rfl) (by assumption) ?_
  try simp only [Act.put, pZ]
  refine tkT 5 ?_ rfl (Or.inl ⟨by rfl, ?_⟩) ?_
  rotate_left
  · (intro w hSw; go_simp; try (with_reducible rfl))
  try simp only [Act.put, pZ]
  refine tkT 7 ?_ rfl (Or.inl ⟨by rfl, ?_⟩) ?_
  rotate_left
  · (intro w hSw; go_simp; try (with_reducible rfl))
  try simp only [Act.put, pZ]
  refine tkT 8 ?_ rfl (Or.inl ⟨by rfl, ?_⟩) ?_
  rotate_left
  · (intro w hSw; go_simp; try (with_reducible rfl))
  try simp only [Act.put, pZ]
  refine tkT 9 ?_ rfl (Or.inl ⟨by rfl, ?_⟩) ?_
  rotate_left
  · (intro w hSw; go_simp; try (with_reducible rfl))
  try simp only [Act.put, pZ]
  refine tkT 10 ?_ rfl (Or.inl ⟨by rfl, ?_⟩) ?_
  rotate_left
  · (intro w hSw; go_simp; try (with_reducible rfl))
  try simp only [Act.put, pZ]
  refine wpAnyH_ready (rs := [6]) (by kernel_rfl) (by simp) ?_
  refine AllReadyH.cons rfl (fun K hK => ?_) AllReadyH.nil
  go_simp
  refine HCL.out.mono ?_
  rintro e w7 ⟨v, rfl, hr7, hb7⟩
  obtain ⟨a7, c7, rfl, had7⟩ := hr7.ads
  have hg7 : W6.grownBy w7 (some b) := grown_undrew ((grown_of_below hb7).but _)
  have HAD7 := Lib.hid had7
  have HFR : Hid (∀ g o, a7 = some ⟨g, o, none⟩ → g ≠ w.heap.size) := Lib.hid (fun g o e => by have h1 := hr7.far g o e; have h2 := HZ6.out.lt; have h3 : W6.heap.size ≤ g := h1; omega)
  have HFG : Hid (∀ g o, a7 = some ⟨g, o, none⟩ → w.heap.size ≤ g) := Lib.hid (fun g o e => by have h1 := hr7.far g o e; have h2 := HZ6.out.lt; have h3 : W6.heap.size ≤ g := h1; omega)
  have HA7 := Lib.hid ((HA6.out.below (Below.refl _ _).drew).below hb7)
  have HG7 := Lib.hid hg7
  clear hr7 hb7 had7 HCL HAD
  go_wp2_with fail
  refine hK.out _ _ (HS21.out _ hg7) (fun hHeld => ?_)
  clear hK K
  try simp only [Act.put, pZ]
  refine tkT 11 ?_ rfl (Or.inl ⟨by rfl, ?_⟩) ?_
  rotate_left
  · (intro w hSw; go_simp; try (with_reducible rfl))
  try simp only [Act.put, pZ]
  refine wpAnyH_ready (rs := [12]) (by kernel_rfl) (by simp) ?_
  refine AllReadyH.one rfl rfl (fun K hK => ?_)
  refine wp_update_own (e := ⟨x, t, a7, L.length, c7, now + min ttl 604800⟩) _ _ _ rfl rfl HA7.out.mp HA7.out.ok rfl rfl HKY.out (by have := HA7.out.len; omega) (fun w8 hm8 ht8 => ?_)
  have hg8 := ht8.grown
  have hg68 : W6.grownBy w8 (some b) := HG7.out.andThen hg8 (fun j hj => .inr hj)
  obtain ⟨p1, p2, p3, p4, p5⟩ := HPM.out a7 c7
  have HF8 : Hid (CacAt w8 G b room (putC room es ⟨x, t, a7, L.length, c7, now + min ttl 604800⟩ now).1) := Lib.hid
    ⟨HA7.out.cs.grown hg8 HA7.out.ne, hm8.perm p2.symm, p3, p5, p4, HA7.out.r1, HA7.out.r2⟩
  have HAD8 := Lib.hid (HAD7.out.grown hg8 HA7.out.mp.block)
  have HZ8 := Lib.hid (HZ6.out.grown hg68 HN12.out)
  have HK8 := Lib.hid (HC6.out.grown hg68 HN15.out).range
  have HG8 := Lib.hid (HG6.out.andThen hg68 (fun j hj => .inr hj))
  have HGO := Lib.hid (HGK.out _ p1)
  refine hK.out _ _ (HS21.out _ hg68) (fun hHeld => ?_)
  clear hK K hm8 ht8 hg8 hg68 p1 p2 p3 p4 p5 HPM HGK HA7 HA6 HP6
  try simp only [Act.put]
  refine wpAnyH_done (by kernel_rfl) ?_ _
  refine NoPanic.normal ?_
  go_wp2_with (first | refine load_key HK8 _ rfl rfl rfl ?_ | (refine store_key HZ8 _ _ rfl rfl rfl rfl (fun W9 HW9 HC9 => ?_)))
  refine bodyPost_ret (results_key2 Tryz.results84 rfl HC9.out) rfl ⟨a7, c7, ?_, ?_, ?_, ?_, HFG.out⟩
  · rw [HGO.out.1, HGO.out.2]; rfl
  · rw [HW9.out]; exact HF8.out.setsAt (by have := HLB.out.2; omega) (by have := HLB.out.1; omega)
  · rw [HW9.out]; exact HAD8.out.sets HFR.out
  · rw [HW9.out]; exact grown_sets HG8.out (Nat.le_refl _) _
end Go.Proofs.YtedmkdjijhflnaaGreat
namespace Go.Proofs.YtedmkdjijhflnaaGreat
open Go.RowKit

def RowT (w : World) (base : Nat) (v : Value) (l : List ByteArray) : Prop := w.ownsRow base 9 1 v l.length (l.map Value.string)
theorem RowT.below {w w' : World} {base : Nat} {v : Value} {l : List ByteArray} (h : RowT w base v l) (hb : Below w.heap.size w w') : RowT w' base v l := own_below8 h hb
theorem RowT.last {w : World} {base : Nat} {v : Value} {l : List ByteArray} {x : ByteArray} (h : RowT w base v (l ++ [x])) : ∃ g c, v = .slice (some ⟨g, 0, none⟩) (l.length + 1) c ∧ g < w.heap.size ∧ w.cell? ⟨g, l.length, none⟩ = some (.string x) := by
  obtain ⟨g, c, e, h1, h2⟩ := h.form (by simp)
  subst e
  have hl : (l ++ [x]).length = l.length + 1 := by simp
  have hc := own_cells (l := l ++ [x]) h l.length (by simp)
  rw [hl]
  exact ⟨g, c, rfl, h2, by rw [hc]; simp⟩
theorem RowT.one (w : World) (x : ByteArray) : RowT (w.alloc (.cells #[.string x] 9)) w.heap.size (.slice (some ⟨w.heap.size, 0, none⟩) 1 1) [x] :=
  ⟨rfl, .inr ⟨w.heap.size, 1, #[.string x], rfl, Nat.le_refl _, by show (w.heap.push _)[w.heap.size]? = _; simp, Nat.le_refl _, by decide, rfl, rfl⟩⟩
def ChainRet (w : World) (x : List ByteArray × Int × Bool) (e : Ending) (w' : World) : Prop :=
  ∃ v, e = .returned (.tuple #[v, .int .i64 x.2.1, .bool x.2.2]) ∧ RowT w' w.heap.size v x.1 ∧ Below w.heap.size w w'
end Go.Proofs.YtedmkdjijhflnaaGreat
namespace Go.Proofs.YtedmkdjijhflnaaGreat
open Go.RowKit

end Go.Proofs.YtedmkdjijhflnaaGreat
namespace Go.Proofs.YtedmkdjijhflnaaGreat
open Go.RowKit

theorem yields_rec {ops : Array Oper} {S : World → Prop} {op : Oper} {a : Act} {G o : Nat} {r : Rec} (h16 : Hid (r.b.length = 16)) (hS : Hid (∀ w, S w → w.rangeAt G o (recL r))) (hw : Region.wanted op (yielded ops a.tmps) = true) (x : Operand) (ho : op.op = .load 71 x) (hx : a.eval x = .pointer (some ⟨G, o, none⟩)) : YieldsIf Tryz.prog ops S op (recV r) a :=
  yieldsIf_load_mid hw 71 x ho G o hx (recL r) _ (fun w h => hS.out w h) Tryz.underlying71 rfl (by rw [rec_size, recL_len r h16.out])
end Go.Proofs.YtedmkdjijhflnaaGreat
namespace Go.Proofs.YtedmkdjijhflnaaGreat
open Go.RowKit

theorem QusAt.range {w : World} {a : Option Addr} {cap : Nat} {D : List Qu} (h : QusAt w a cap D) (k : Nat) (hk : k < D.length) : ∃ g o, a = some ⟨g, o, none⟩ ∧ g < w.heap.size ∧ w.rangeAt g (o + k * 3) (quL D[k]) := by
  obtain ⟨h1, h2, h3, h4⟩ := h
  rcases h4 with h4 | ⟨g, o, e, hg, hr⟩
  · omega
  · exact ⟨g, o, e, hg, range_at hr (S := 3) (fun d hd => rfl) k hk⟩
def Lens (m : Msg) : Prop := m.qs.length ≤ 1000000 ∧ m.an.length ≤ 1000000 ∧ m.au.length ≤ 1000000 ∧ m.mo.length ≤ 1000000
end Go.Proofs.YtedmkdjijhflnaaGreat
namespace Go.Proofs.YtedmkdjijhflnaaGreat
open Go.RowKit

end Go.Proofs.YtedmkdjijhflnaaGreat
namespace Go.Proofs.YtedmkdjijhflnaaGreat
open Go.RowKit

end Go.Proofs.YtedmkdjijhflnaaGreat
namespace Go.Proofs.YtedmkdjijhflnaaGreat
open Go.RowKit

def askM (id : Int) (s : ByteArray) (k : Int) : Msg := ⟨id, 256, [⟨s, k, 1⟩], [], [], []⟩
def ansM (q : Msg) (D : List Rec) : Msg := ⟨q.id, 33152, q.qs, D, [], []⟩
def AnsRet (w : World) (q : Msg) (D : List Rec) (e : Ending) (w' : World) : Prop :=
  Below w.heap.size w w' ∧ ∃ aq a1 cq c1, e = .returned (msgV (ansM q D) aq a1 none none cq c1 0 0) ∧ MsgIn w' (ansM q D) aq a1 none none cq c1 0 0
end Go.Proofs.YtedmkdjijhflnaaGreat
namespace Go.Proofs.YtedmkdjijhflnaaGreat
open Go.RowKit

def forgeM (q : Qry) (D : List Rec) : Msg := ⟨q.id, 33152, [⟨q.nm, q.ty, 1⟩], D, [], []⟩
theorem ownQ_new (W : World) (q : Qu) : RowQ (W.alloc (.cells (quL q).toArray 139)) W.heap.size (.slice (some ⟨W.heap.size, 0, none⟩) 1 1) [q] :=
  ⟨rfl, .inr ⟨W.heap.size, 1, (quL q).toArray, rfl, Nat.le_refl _, by show (W.heap.push _)[W.heap.size]? = _; simp, Nat.le_refl _, by decide, rfl, by simp [flatQ, quL]⟩⟩
theorem RowQ.cells {w w' : World} {B : Nat} {v : Value} {D : List Qu} (h : RowQ w B v D) {G : Nat} (hG : G < B) (hk : ∀ k, k ≠ G → w'.heap[k]? = w.heap[k]?) : RowQ w' B v D := by
  obtain ⟨h1, h2⟩ := h
  refine ⟨h1, ?_⟩
  rcases h2 with h2 | ⟨g, cap, cur, e1, e2, e3, e4⟩
  · exact .inl h2
  · exact .inr ⟨g, cap, cur, e1, e2, (hk g (by omega)).trans e3, e4⟩
set_option maxRecDepth 100000 in
set_option maxHeartbeats 2000000 in
theorem refForge11_any (q : Qry) (a : Option Addr) (c : Nat) (D : List Rec) (w : World) (hA : RecsAt w a c D) :
    Calls Tryz.prog 26 #[qryV q, .slice a D.length c] w fun e w' => ∃ g, e = .returned (msgV (forgeM q D) (some ⟨g, 0, none⟩) a none none 1 c 0 0) ∧ w.heap.size ≤ g ∧ RowQ w' g (.slice (some ⟨g, 0, none⟩) 1 1) [⟨q.nm, q.ty, 1⟩] ∧ RecsAt w' a c D ∧ Below w.heap.size w w' := by
  obtain ⟨id, nm, ty, sv⟩ := q
  unfold qryV
  simp only
  have HA := Lib.hid hA
  obtain ⟨N, hN⟩ : ∃ N, D.length = N := ⟨_, rfl⟩
  have HN := Lib.hid hN
  have HMV : Hid (∀ g, msgV (forgeM ⟨id, nm, ty, sv⟩ D) (some ⟨g, 0, none⟩) a none none 1 c 0 0 = .agg #[.int .i64 id, .int .i64 33152, .slice (some ⟨g, 0, none⟩) 1 1, .slice a N c, .slice none 0 0, .slice none 0 0]) := Lib.hid (fun g => by unfold msgV forgeM; simp only; rw [hN]; rfl)
  rw [hN]
  obtain ⟨W0, hW0⟩ : ∃ W0, (w.alloc (.cells #[.int .i64 id, .string nm, .int .i64 ty, .int .i64 sv] 85)).alloc (.cells #[.int .i64 0, .int .i64 0, .slice none 0 0, .slice none 0 0, .slice none 0 0, .slice none 0 0] 83) = W0 := ⟨_, rfl⟩
  have HZ : Hid (CellsAt W0 (w.heap.size + 1) zM) := Lib.hid (by
    have := CellsAt.new (w.alloc (.cells #[.int .i64 id, .string nm, .int .i64 ty, .int .i64 sv] 85)) 83 zM
    rw [← hW0]; simpa using this)
  have HQ : Hid (CellsAt W0 w.heap.size [.int .i64 id, .string nm, .int .i64 ty, .int .i64 sv]) := Lib.hid (by
    have := (CellsAt.new w 85 [.int .i64 id, .string nm, .int .i64 ty, .int .i64 sv]).below ((Below.refl _ _).alloc (Nat.le_refl _) (.cells #[.int .i64 0, .int .i64 0, .slice none 0 0, .slice none 0 0, .slice none 0 0, .slice none 0 0] 83))
    rw [← hW0]; exact this)
  have HB0 : Hid (Below w.heap.size w W0) := Lib.hid (by rw [← hW0]; exact ((Below.refl _ _).alloc (Nat.le_refl _) _).alloc (by simp) _)
  have HS0 : Hid (W0.heap.size = w.heap.size + 2) := Lib.hid (by rw [← hW0]; simp)
  clear hA hN
  go_enter Tryz.func26, Tryz.ntmps26
  go_upto_region 1 with fail
  try rw [hW0]
  clear hW0
  obtain ⟨G, hG⟩ : ∃ G, w.heap.size = G := ⟨_, rfl⟩
  have HG := Lib.hid hG
  rw [hG] at HZ HQ
  try rw [hG]
  clear hG
  have hc0 := HQ.out.cell 0 _ rfl
  have hc1 := HQ.out.cell 1 _ rfl
  have hc2 := HQ.out.cell 2 _ rfl
  go_wp2_with (first | refine build_qu3 rfl _ _ _ rfl rfl rfl rfl ?_ | (refine build_quS rfl _ rfl rfl (fun W HW => ?_); have HZ1 : Hid (CellsAt W (G + 1) zM) := Lib.hid (by rw [HW.out]; exact HZ.out.below ((Below.refl _ _).alloc (Nat.le_refl _) _))) | (have HZ2 := HZ1; refine store_msg HZ2 rfl _ _ rfl rfl rfl rfl rfl rfl (fun V HV HVC => ?_); clear HZ1))
  have hs := HS0.out
  have hg := HG.out
  have hb1 : Below W0.heap.size W0 W := by rw [HW.out]; exact (Below.refl _ _).alloc (Nat.le_refl _) _
  have HB1 : Hid (Below w.heap.size w V) := Lib.hid (by rw [HV.out]; exact below_cells (by omega) _ _ _ (chain HB0.out hb1))
  refine bodyPost_ret (v := msgV (forgeM ⟨id, nm, ty, sv⟩ D) (some ⟨W0.heap.size, 0, none⟩) a none none 1 c 0 0) (by rw [HMV.out]; exact results_msg Tryz.results26 rfl HVC.out rfl) rfl ⟨_, rfl, by omega, ?_, HA.out.below HB1.out, HB1.out⟩
  refine RowQ.cells (w := W) (by rw [HW.out]; exact ownQ_new W0 ⟨nm, ty, 1⟩) (G := G + 1) (by omega) (fun k hk => ?_)
  rw [HV.out]
  exact heap_setCells_other _ _ _ _ _ hk
end Go.Proofs.YtedmkdjijhflnaaGreat
namespace Go.Proofs.YtedmkdjijhflnaaGreat
open Go.RowKit

theorem hasA_step {D : List (Int × List Nat)} {r : Int × List Nat} {k : Nat} (hk : k < D.length) (h : ∀ j (hj : j < D.length), j < k → D[j] ≠ r) (hn : D[k] ≠ r) : ∀ j (hj : j < D.length), j < k + 1 → D[j] ≠ r := fun j hj h2 => by
  by_cases e : j < k
  · exact h j hj e
  · obtain rfl : j = k := by omega
    exact hn
end Go.Proofs.YtedmkdjijhflnaaGreat
namespace Go.Proofs.YtedmkdjijhflnaaGreat
open Go.RowKit

theorem run_min (w : World) (t : TypeId) (m n : Int) (ats : Array TypeId) : (Builtin.min_ ats t #[Value.int .i64 m, Value.int .i64 n]).run Tryz.prog w = .ok (.int .i64 (min m n)) w := by
  by_cases h : n < m
  · rw [show min m n = n by omega]
    simp [Builtin.min_, Builtin.min2, go_sem, h]
  · rw [show min m n = m by omega]
    simp [Builtin.min_, Builtin.min2, go_sem, h]
theorem min_step {ops : Array Oper} {rest : List Oper} {op : Oper} {a : Act} {w : World} {Q : Exit → Act → World → Prop} (hg : op.guard = none) (x y : Operand) {ats : Array TypeId} (ho : op.op = .call { callee := .builtin .min, args := #[x, y], argTypes := ats }) {m n : Int} (hx : a.eval x = .int .i64 m) (hy : a.eval y = .int .i64 n)
    (h : wpList Tryz.prog ops Q rest (a.put op.dst (.int .i64 (min m n))) w) : wpList Tryz.prog ops Q (op :: rest) a w := by
  refine wpList_plain hg fun K hK => ?_
  unfold Oper.wp execOp
  simp only [ho, resolve, invoke, builtin, Sem.run_bind, Sem.run_pure, Result.andThen_ok, List.map_toArray, List.map_cons, List.map_nil, hx, hy, run_min]
  exact hK _ _ h
theorem yields_min {ops : Array Oper} {S : World → Prop} {op : Oper} {a : Act} {ats : Array TypeId} (hw : Region.wanted op (yielded ops a.tmps) = true) (x y : Operand) (ho : op.op = .call { callee := .builtin .min, args := #[x, y], argTypes := ats }) {m n : Int} (hx : a.eval x = .int .i64 m) (hy : a.eval y = .int .i64 n) : YieldsIf Tryz.prog ops S op (.int .i64 (min m n)) a := by
  refine .inl ⟨hw, fun w _ => ?_⟩
  unfold execOp
  simp only [ho, resolve, invoke, builtin, Sem.run_bind, Sem.run_pure, Result.andThen_ok, List.map_toArray, List.map_cons, List.map_nil, hx, hy, run_min]
end Go.Proofs.YtedmkdjijhflnaaGreat
namespace Go.Proofs.YtedmkdjijhflnaaGreat
open Go.RowKit

def tldL (x : Tld) (v : Value) : List Value := [.int .i64 x.e, v, .int .i64 x.ttl, .string x.nx, .int .i64 (x.st : Int)]
def TellRet (w : World) (x : Tld) (e : Ending) (w' : World) : Prop :=
  ∃ v, e = .returned (.agg (tldL x v).toArray) ∧ RowA w' w.heap.size v x.ad ∧ Below w.heap.size w w'
theorem RowA.cells {w w' : World} {B : Nat} {v : Value} {D : List Ad} (h : RowA w B v D) {G : Nat} (hG : G < B) (hk : ∀ k, k ≠ G → w'.heap[k]? = w.heap[k]?) : RowA w' B v D := h.kept2 (fun g hg => hk g (by have := (h.lt g hg).1; omega))
abbrev zT : List Value := [.int .i64 0, .slice none 0 0, .int .i64 0, .string ⟨#[]⟩, .int .i64 0]
end Go.Proofs.YtedmkdjijhflnaaGreat
namespace Go.Proofs.YtedmkdjijhflnaaGreat
open Go.RowKit Go.Sort Go.Shelf Go.Maps

theorem foot_grown {w w' : World} {b : Nat} (hg : w.grownBy w' (some b)) : Foot [b] [b] w w' :=
  ⟨hg.os, hg.tape, hg.output, hg.size, fun k hk hn => hg.block k hk (fun e => hn (by injection e with e; simp [e])), fun k hk => .inl hk⟩
theorem AdsIn.foot {F F' : List Nat} {w w' : World} {a : Option Addr} {c : Nat} {L : List Ad} (h : AdsIn w a c L) (hf : Foot F F' w w') (hn : ∀ g o, a = some ⟨g, o, none⟩ → g ∉ F) : AdsIn w' a c L := by
  obtain ⟨⟨h1, h2, h3, h4⟩, h5⟩ := h
  refine ⟨⟨h1, h2, h3, ?_⟩, h5⟩
  rcases h4 with h4 | ⟨g, o, e, hgl, hr⟩
  · exact .inl h4
  · exact .inr ⟨g, o, e, Nat.lt_of_lt_of_le hgl hf.size, fun j u hu => by rw [World.cell?_of_block (w := w) (a := ⟨g, o + j, none⟩) (hf.keep g hgl (hn g o e))]; exact hr j u hu⟩
theorem CacAt.foot {F F' : List Nat} {w w' : World} {cp b : Nat} {rm : Int} {es : List Ce} (h : CacAt w cp b rm es) (hf : Foot F F' w w') (h1 : cp ∉ F) (h2 : b ∉ F) : CacAt w' cp b rm es :=
  h.kept hf.size (hf.keep cp h.lt.1 h1) (hf.keep b h.lt.2 h2)
def goL (l : Lk) (x : Tld) : Lk := { l with st := l.st + (x.st : Int), tt := min l.tt x.ttl }
def askL (l : Lk) (x : Tld) : Lk := { goL l x with q := { l.q with nm := x.nx, sv := 0 }, se := 0 }
def nextL (c : Cfg) (l : Lk) (x : Tld) (draw now : Int) : Lk := sendL c (askL l x) draw now
def putE (rm : Int) (es : List Ce) (s : ByteArray) (t ttl now : Int) (m : Nat) (a' : Option Addr) (c' : Nat) : List Ce := (putC rm es ⟨lowB s, t, a', m, c', now + min ttl 604800⟩ now).1
def PutW (w w' : World) (rm : Int) (es : List Ce) (s : ByteArray) (t ttl now : Int) (L : List Ad) (es' : List Ce) : Prop :=
  (ttl < 1 ∧ es' = es) ∨ (1 ≤ ttl ∧ ∃ a' c', es' = putE rm es s t ttl now L.length a' c' ∧ AdsIn w' a' c' L ∧ ∀ g o, a' = some ⟨g, o, none⟩ → w.heap.size ≤ g)
theorem put12_any (cp b : Nat) (rm : Int) (es : List Ce) (s : ByteArray) (t ttl now : Int) (a : Option Addr) (c : Nat) (L : List Ad) (w : World) (h : CacAt w cp b rm es) (hs : s.size ≤ 2000000) (ht : (Lit.int .i64 t).wf = true) (hn0 : 0 ≤ now) (hn1 : now ≤ 2199023255552) (hA : AdsIn w a c L) (hl : L.length ≤ 1000) :
    Calls Tryz.prog 84 #[.pointer (some ⟨cp, 0, none⟩), .string s, .int .i64 t, .slice a L.length c, .int .i64 ttl, .int .i64 now] w fun e w' => ∃ y z es', e = .returned (.tuple #[y, z]) ∧ CacAt w' cp b rm es' ∧ Foot [b] [b] w w' ∧ PutW w w' rm es s t ttl now L es' := by
  by_cases hx : ttl < 1
  · refine (putNo_any cp b rm es s t ttl now a L.length c w h hx).mono ?_
    rintro e w' ⟨rfl, hb⟩
    exact ⟨_, _, es, rfl, h.below hb, Foot.ofBelow _ hb, .inl ⟨hx, rfl⟩⟩
  · refine (putF_any cp b rm es s t ttl now a c L w h hs ht (by omega) hn0 hn1 hA hl).mono ?_
    rintro e w' ⟨a', c', rfl, h1, h2, h3, h4⟩
    exact ⟨_, _, _, rfl, h1, foot_grown h3, .inr ⟨by omega, a', c', rfl, h2, h4⟩⟩
def ToldW (w w' : World) (c : Cfg) (A : List PL) (es : List Ce) (p : PL) (x : Tld) (a : Option Addr) (cap : Nat) (draw now : Int) (ev : Ev) (A' : List PL) (es' : List Ce) : Prop :=
  (x.e = 7 ∧ ev = againE c p.2 draw now ∧ A' = againA c A p draw now ∧ es' = es) ∨
  (x.e ≠ 0 ∧ x.e ≠ 7 ∧ ev = evF p.2.n x.e ∧ A' = cutA A p.1 ∧ es' = es) ∨
  (x.e = 0 ∧ 8 < p.2.st + (x.st : Int) ∧ ev = evF p.2.n 3 ∧ A' = cutA A p.1 ∧ es' = es) ∨
  (x.e = 0 ∧ p.2.st + (x.st : Int) ≤ 8 ∧ x.ad ≠ [] ∧ ev = evD p.2.n a x.ad.length cap ∧ A' = cutA A p.1 ∧ AdsIn w' a cap x.ad ∧ PutW w w' c.rm es p.2.nm p.2.q.ty (min p.2.tt x.ttl) now x.ad es') ∨
  (x.e = 0 ∧ p.2.st + (x.st : Int) ≤ 8 ∧ x.ad = [] ∧ ev = evS (nextL c p.2 x draw now) ∧ A' = setA A p.1 (nextL c p.2 x draw now) ∧ es' = es)
def ToldRet (w : World) (G cp b : Nat) (c : Cfg) (n : Int) (v : Value) (A : List PL) (es : List Ce) (p : PL) (x : Tld) (a : Option Addr) (cap : Nat) (draw now : Int) (e : Ending) (w' : World) : Prop :=
  ∃ ev v' A' es', e = .returned (evV ev) ∧ v'.ownBlock = v.ownBlock ∧ SolO w' G cp c n v' A' ∧ CacAt w' cp b c.rm es' ∧ Foot (b :: fpO G v A) (b :: fpO G v A) w w' ∧ (∀ k ∈ A'.map Prod.fst, k ∈ A.map Prod.fst) ∧ ToldW w w' c A es p x a cap draw now ev A' es'
theorem goL_ok {c : Cfg} {l : Lk} {x : Tld} (h : l.Ok c) (h1 : l.st ≤ 8) (h2 : x.st ≤ 100) (h3 : (Lit.int .i64 x.ttl).wf = true) : (goL l x).Ok c :=
  ⟨h.se0, h.se1, h.sv0, h.sv1, h.n0, h.n1, h.un0, h.un1, by have := h.st0; show 0 ≤ l.st + (x.st : Int); omega, by show l.st + (x.st : Int) ≤ 1000; omega, by
    show (Lit.int .i64 (min l.tt x.ttl)).wf = true
    rcases Int.le_total l.tt x.ttl with e | e
    · rw [Int.min_eq_left e]; exact h.tt
    · rw [Int.min_eq_right e]; exact h3, by have := h.tt1; show min l.tt x.ttl ≤ 604800; omega, h.ty, h.id0, h.id1, h.nm, h.qn⟩
theorem askL_ok {c : Cfg} {l : Lk} {x : Tld} (h : (goL l x).Ok c) (hc : c.Ok) (h2 : x.nx.size ≤ 2000000) : (askL l x).Ok c :=
  ⟨Int.le_refl _, by have := hc.t1; show 0 ≤ c.tr; omega, Int.le_refl _, by have := hc.s1; show 0 < c.sv; omega, h.n0, h.n1, h.un0, h.un1, h.st0, h.st1, h.tt, h.tt1, h.ty, h.id0, h.id1, h.nm, h2⟩
theorem cutA_sub {A : List PL} {g : Nat} : ∀ k ∈ (cutA A g).map Prod.fst, k ∈ A.map Prod.fst := fun k hk => by
  obtain ⟨q, hq, rfl⟩ := List.mem_map.1 hk
  exact mem_fst (List.mem_filter.1 hq).1
theorem againA_sub {c : Cfg} {A : List PL} {p : PL} {draw now : Int} : ∀ k ∈ (againA c A p draw now).map Prod.fst, k ∈ A.map Prod.fst := fun k hk => by
  unfold againA at hk
  split at hk
  · exact cutA_sub k hk
  · rw [setA_fst] at hk; exact hk
theorem fpO_set (G : Nat) (v : Value) (A : List PL) (g : Nat) (l : Lk) : fpO G v (setA A g l) = fpO G v A := by unfold fpO; rw [setA_fst]
set_option maxRecDepth 100000 in
set_option maxHeartbeats 4000000 in
theorem answered_any (G cp b : Nat) (p : PL) (x : Tld) (a : Option Addr) (cap : Nat) (draw now : Int) (c : Cfg) (n : Int) (v : Value) (A : List PL) (es : List Ce) (w : World)
    (h : SolO w G cp c n v A) (hc : CacAt w cp b c.rm es) (hna : cp ∉ fpO G v A ∧ b ∉ fpO G v A) (hp : p ∈ A) (hse : p.2.se < c.tr) (hst : p.2.st ≤ 8)
    (hd : (Lit.int .i64 draw).wf = true) (h0 : 0 ≤ now) (h1 : now ≤ 2199023255552) (hA : AdsIn w a cap x.ad) (hfa : ∀ g o, a = some ⟨g, o, none⟩ → g < w.heap.size ∧ g ∉ b :: fpO G v A)
    (hl : x.ad.length ≤ 1000) (hxs : x.st ≤ 100) (hxt : (Lit.int .i64 x.ttl).wf = true) (hxn : x.nx.size ≤ 2000000) :
    Calls Tryz.prog 45 #[.pointer (some ⟨G, 0, none⟩), .pointer (some ⟨p.1, 0, none⟩), .agg (tldL x (.slice a x.ad.length cap)).toArray, .int .i64 draw, .int .i64 now] w (ToldRet w G cp b c n v A es p x a cap draw now) := by
  obtain ⟨g, l⟩ := p
  have hse : l.se < c.tr := hse
  have hst : l.st ≤ 8 := hst
  have hok : l.Ok c := h.ok _ hp
  have hgb : g ∈ fpO G v A := mem_fpO (p := (g, l)) hp
  have HST := Lib.hid hst
  obtain ⟨W0, hW0⟩ : ∃ W0, (w.alloc (.cells #[.int .i64 x.e, .slice a x.ad.length cap, .int .i64 x.ttl, .string x.nx, .int .i64 (x.st : Int)] 124)).alloc (.cells #[.int .i64 0, .int .i64 0, .int .i64 0, .string ⟨#[]⟩, .int .i64 0, .int .i64 0, .slice none 0 0, .int .i64 0] 77) = W0 := ⟨_, rfl⟩
  have hb : Below w.heap.size w W0 := by rw [← hW0]; exact ((Below.refl _ _).alloc (Nat.le_refl _) _).alloc (by simp) _
  have HS0 : Hid (W0.heap.size = w.heap.size + 2) := Lib.hid (by rw [← hW0]; simp)
  have HT0 : Hid (CellsAt W0 w.heap.size (tldL x (.slice a x.ad.length cap))) := Lib.hid (by
    rw [← hW0]; exact (CellsAt.new w 124 (tldL x (.slice a x.ad.length cap))).below ((Below.refl _ _).alloc (Nat.le_refl _) _))
  have HZ0 : Hid (CellsAt W0 (w.heap.size + 1) evZ) := Lib.hid (by
    have := CellsAt.new (w.alloc (.cells #[.int .i64 x.e, .slice a x.ad.length cap, .int .i64 x.ttl, .string x.nx, .int .i64 (x.st : Int)] 124)) 77 evZ
    rw [← hW0]; simpa [evZ] using this)
  obtain ⟨T0, hT0⟩ : ∃ T0, w.heap.size = T0 := ⟨_, rfl⟩
  have HTT := Lib.hid hT0
  have hin : ∀ k ∈ fpO G v A, k < T0 := fun k hk => by rw [← hT0]; exact fpO_lt h k hk
  have HIN := Lib.hid hin
  have hcb := hc.lt
  rw [hT0] at HS0 HT0 HZ0 hcb
  have HCB := Lib.hid hcb
  have HNA := Lib.hid hna
  have HSO := Lib.hid (h.below hb)
  have HCA := Lib.hid (hc.below hb)
  have HAD := Lib.hid (hA.below hb)
  have HFW : Hid (Foot (b :: fpO G v A) (b :: fpO G v A) w W0) := Lib.hid (Foot.ofBelow _ hb)
  have HFA : Hid (∀ g o, a = some ⟨g, o, none⟩ → g < T0 ∧ g ∉ b :: fpO G v A) := Lib.hid (by rw [← hT0]; exact hfa)
  have HP := Lib.hid hp
  have HOK := Lib.hid hok
  have HCF := Lib.hid h.cf
  have HGB := Lib.hid hgb
  have HNG : Hid (G ≠ g) := Lib.hid (fun e => h.gp _ hp e.symm)
  have HNV : Hid (g ∉ G :: v.ownBlock.toList) := Lib.hid (by
    intro e
    rcases List.mem_cons.1 e with e | e
    · exact h.gp _ hp e
    · have e2 : v.ownBlock = some g := by simpa using e
      exact (h.vb g e2).2 _ hp rfl)
  have HND := Lib.hid h.nd
  have HD := Lib.hid hd
  have HN0 := Lib.hid h0
  have HN1 := Lib.hid h1
  have HL := Lib.hid hl
  have HXN := Lib.hid hxn
  have HGO := Lib.hid (goL_ok (x := x) hok hst hxs hxt)
  have HSE := Lib.hid hse
  have hws : IntKind.i64.wrap (l.st + (x.st : Int)) = l.st + (x.st : Int) := by have := hok.st0; rw [IntKind.wrap_i64]; omega
  -- the end of each way: what the answer is kept in
  have HFI : Hid (∀ (W3 U : World) (v' : Value) (A' : List PL) (es' : List Ce) (vs : List Value), SolO W3 G cp c n v' A' → CacAt W3 cp b c.rm es' → Foot (b :: fpO G v A) (b :: fpO G v A) w W3 → v'.ownBlock = v.ownBlock → (∀ k ∈ A'.map Prod.fst, k ∈ A.map Prod.fst) → U = W3.setCells (T0 + 1) 0 vs → SolO U G cp c n v' A' ∧ CacAt U cp b c.rm es' ∧ Foot (b :: fpO G v A) (b :: fpO G v A) w U) := Lib.hid (fun W3 U v' A' es' vs hs hc hf hv hA hU => by
    have hcb := HCB.out
    refine ⟨hs.foot (by rw [hU]; exact foot_cells (T0 + 1) 0 vs) (fun k hk => ?_), hc.foot (by rw [hU]; exact foot_cells (T0 + 1) 0 vs) (by simp; omega) (by simp; omega), by rw [hU]; exact foot_new hf (by have := HTT.out; omega)⟩
    have hk2 : k ∈ fpO G v A := by
      rcases List.mem_cons.1 hk with rfl | hk
      · simp [fpO]
      rcases List.mem_append.1 hk with hk | hk
      · rw [hv] at hk; exact List.mem_cons_of_mem _ (List.mem_append_left _ hk)
      · exact List.mem_cons_of_mem _ (List.mem_append_right _ (hA k hk))
    have := HIN.out k hk2
    simp
    omega)
  have HSUB : Hid (∀ F : List Nat, (∀ k ∈ F, k ∈ fpO G v A) → ∀ k ∈ F, k ∈ b :: fpO G v A) := Lib.hid (fun F hF k hk => List.mem_cons_of_mem _ (hF k hk))
  clear h hc hna hp hse hst hd h0 h1 hA hfa hl hxs hxt hxn hok hgb hin hcb hb
  unfold tldL
  go_enter Tryz.func45, Tryz.ntmps45
  go_upto_region 1 with fail
  try rw [hW0]
  try rw [hT0]
  clear hW0 hT0
  have te := HT0.out.cell 0 _ rfl
  by_cases he : x.e = 0
  · have hbe : ((x.e : Int) == 0) = true := by simp [he]
    have HC0 : Hid (CellsAt W0 g (lkL l)) := Lib.hid (HSO.out.lk _ HP.out).1
    have HBK0 : Hid (Blk W0 g) := Lib.hid (HSO.out.lk _ HP.out).2
    go_upto_region 6 with fail
    obtain ⟨S, hS⟩ : ∃ S : World → Prop, (fun V => V.cell? ⟨T0, 4, none⟩ = some (.int .i64 (x.st : Int))) = S := ⟨_, rfl⟩
    have C1 : Hid (∀ w', S w' → w'.cell? ⟨T0, 4, none⟩ = some (.int .i64 (x.st : Int))) := Lib.hid (fun w' h => by rw [← hS] at h; exact h)
    have HSI : Hid (∀ V, CellsAt V T0 (tldL x (.slice a x.ad.length cap)) → S V) := Lib.hid (fun V h => by rw [← hS]; exact h.cell 4 _ rfl)
    clear hS
    have HCd := Lib.hid (HC0.out.below (Below.refl W0.heap.size W0).drew)
    have HBd := Lib.hid (HBK0.out.below (Below.refl W0.heap.size W0).drew)
    have HTd := Lib.hid (HT0.out.below (Below.refl W0.heap.size W0).drew)
    have HFd : Hid (Foot [g] [g] W0 W0.drew) := Lib.hid (Foot.ofBelow _ (Below.refl _ _).drew)
    refine wp_region_noPanic ?_
    refine wp_region_held_drew (S := S) (by kernel_rfl) (HSI.out _ HTd.out) (fun hHeld => ?_)
    generalize W0.drew = V1 at *
    refine tkT 0 ?_ rfl (Or.inl ⟨by rfl, ?_⟩) ?_
    rotate_left
    · (intro w hSw; go_simp; try (with_reducible rfl))
    try simp only [Act.put, pZ]
    refine tkT 1 ?_ rfl (Or.inl ⟨by rfl, ?_⟩) ?_
    rotate_left
    · (intro w hSw; go_simp; try (with_reducible rfl))
    try simp only [Act.put, pZ]
    refine tkT 2 ?_ rfl (Or.inl ⟨by rfl, ?_⟩) ?_
    rotate_left
    · (intro w hSw; go_simp; try (with_reducible rfl))
    try simp only [Act.put, pZ]
    refine tkT 4 ?_ rfl (Or.inl ⟨by rfl, ?_⟩) ?_
    rotate_left
    · (intro w hSw; go_simp; try (with_reducible rfl))
    try simp only [Act.put, pZ]
    refine tkT 5 ?_ rfl (Or.inl ⟨by rfl, ?_⟩) ?_
    rotate_left
    · (intro w hSw; have hc0 := C1.out w hSw; go_simp; try (with_reducible rfl))
    try simp only [Act.put, pZ]
    have hc1 := HCd.out.cell 8 _ rfl
    have hf1 := HCd.out.live 8 (show 8 < 10 by decide)
    refine wpAnyH_ready (rs := [3]) (by kernel_rfl) (by simp) ?_
    refine ready_one rfl rfl (fun K hK => ?_)
    go_wp2_with fail
    refine hK.out _ _ hHeld (fun hHeld2 => ?_)
    clear hK K
    try simp only [Act.put, pZ]
    refine tkT 6 ?_ rfl (Or.inl ⟨by rfl, ?_⟩) ?_
    rotate_left
    · (intro w hSw; go_simp; try (with_reducible rfl))
    try simp only [Act.put, pZ]
    refine tkT 7 ?_ rfl (Or.inl ⟨by rfl, ?_⟩) ?_
    rotate_left
    · (intro w hSw; go_simp; try (with_reducible rfl))
    try simp only [Act.put, pZ]
    refine tkT 8 ?_ rfl (Or.inl ⟨by rfl, ?_⟩) ?_
    rotate_left
    · (intro w hSw; go_simp; try (with_reducible rfl))
    try simp only [Act.put, pZ]
    refine wpAnyH_ready (rs := [9]) (by kernel_rfl) (by simp) ?_
    refine ready_one rfl rfl (fun K hK => ?_)
    go_wp2_with fail
    have HC1 : Hid (CellsAt (V1.setCell ⟨g, 8, none⟩ (.int .i64 (l.st + (x.st : Int)))) g (lkL ({ l with st := l.st + (x.st : Int) }))) := Lib.hid (HCd.out.set 8 _ (show 8 < 10 by decide))
    have HBK1 := Lib.hid (HBd.out.set 8 (.int .i64 (l.st + (x.st : Int))))
    have HF1 : Hid (Foot [g] [g] W0 (V1.setCell ⟨g, 8, none⟩ (.int .i64 (l.st + (x.st : Int))))) := Lib.hid (foot_set HFd.out 8 _)
    have HT1 := Lib.hid (HT0.out.foot HF1.out (by have := HIN.out g HGB.out; simp; omega))
    refine hK.out _ _ (HSI.out _ HT1.out) (fun hHeld3 => ?_)
    clear hK K
    try simp only [Act.put, pZ]
    refine wpAnyH_done (by kernel_rfl) ?_ _
    refine NoPanic.normal ?_
    clear hHeld hHeld2 hHeld3 C1 HSI hc1 hf1 HCd HBd HTd HFd
    generalize V1.setCell ⟨g, 8, none⟩ (.int .i64 (l.st + (x.st : Int))) = W1 at *
    clear HC0 HBK0
    go_upto_region 7 with fail
    obtain ⟨S, hS⟩ : ∃ S : World → Prop, (fun V => V.cell? ⟨T0, 2, none⟩ = some (.int .i64 x.ttl)) = S := ⟨_, rfl⟩
    have C1 : Hid (∀ w', S w' → w'.cell? ⟨T0, 2, none⟩ = some (.int .i64 x.ttl)) := Lib.hid (fun w' h => by rw [← hS] at h; exact h)
    have HSI : Hid (∀ V, CellsAt V T0 (tldL x (.slice a x.ad.length cap)) → S V) := Lib.hid (fun V h => by rw [← hS]; exact h.cell 2 _ rfl)
    clear hS
    have HCd := Lib.hid (HC1.out.below (Below.refl W1.heap.size W1).drew)
    have HBd := Lib.hid (HBK1.out.below (Below.refl W1.heap.size W1).drew)
    have HTd := Lib.hid (HT1.out.below (Below.refl W1.heap.size W1).drew)
    have HFd : Hid (Foot [g] [g] W0 W1.drew) := Lib.hid (HF1.out.trans (Foot.ofBelow _ (Below.refl _ _).drew))
    refine wp_region_noPanic ?_
    refine wp_region_held_drew (S := S) (by kernel_rfl) (HSI.out _ HTd.out) (fun hHeld => ?_)
    generalize W1.drew = V2 at *
    refine tkT 0 ?_ rfl (Or.inl ⟨by rfl, ?_⟩) ?_
    rotate_left
    · (intro w hSw; go_simp; try (with_reducible rfl))
    try simp only [Act.put, pZ]
    refine tkT 1 ?_ rfl (Or.inl ⟨by rfl, ?_⟩) ?_
    rotate_left
    · (intro w hSw; go_simp; try (with_reducible rfl))
    try simp only [Act.put, pZ]
    refine tkT 2 ?_ rfl (Or.inl ⟨by rfl, ?_⟩) ?_
    rotate_left
    · (intro w hSw; go_simp; try (with_reducible rfl))
    try simp only [Act.put, pZ]
    refine tkT 3 ?_ rfl (Or.inl ⟨by rfl, ?_⟩) ?_
    rotate_left
    · (intro w hSw; go_simp; try (with_reducible rfl))
    try simp only [Act.put, pZ]
    refine tkT 5 ?_ rfl (Or.inl ⟨by rfl, ?_⟩) ?_
    rotate_left
    · (intro w hSw; go_simp; try (with_reducible rfl))
    try simp only [Act.put, pZ]
    refine tkT 6 ?_ rfl (Or.inl ⟨by rfl, ?_⟩) ?_
    rotate_left
    · (intro w hSw; have hc0 := C1.out w hSw; go_simp; try (with_reducible rfl))
    try simp only [Act.put, pZ]
    have hc1 := HCd.out.cell 9 _ rfl
    have hf1 := HCd.out.live 9 (show 9 < 10 by decide)
    refine wpAnyH_ready (rs := [4]) (by kernel_rfl) (by simp) ?_
    refine ready_one rfl rfl (fun K hK => ?_)
    go_wp2_with fail
    refine hK.out _ _ hHeld (fun hHeld2 => ?_)
    clear hK K
    try simp only [Act.put, pZ]
    refine wpAnyH_take (i := 7) rfl (by kernel_rfl) (by kernel_rfl) (by kernel_rfl) (fun _ _ _ h => h) (yields_min (by rfl) _ _ rfl rfl rfl) (by assumption) ?_
    try simp only [Act.put, pZ]
    refine tkT 8 ?_ rfl (Or.inl ⟨by rfl, ?_⟩) ?_
    rotate_left
    · (intro w hSw; go_simp; try (with_reducible rfl))
    try simp only [Act.put, pZ]
    refine tkT 9 ?_ rfl (Or.inl ⟨by rfl, ?_⟩) ?_
    rotate_left
    · (intro w hSw; go_simp; try (with_reducible rfl))
    try simp only [Act.put, pZ]
    refine wpAnyH_ready (rs := [10]) (by kernel_rfl) (by simp) ?_
    refine ready_one rfl rfl (fun K hK => ?_)
    go_wp2_with fail
    have HC2 : Hid (CellsAt (V2.setCell ⟨g, 9, none⟩ (.int .i64 (min l.tt x.ttl))) g (lkL (goL l x))) := Lib.hid (HCd.out.set 9 _ (show 9 < 10 by decide))
    have HBK2 := Lib.hid (HBd.out.set 9 (.int .i64 (min l.tt x.ttl)))
    have HF2 : Hid (Foot [g] [g] W0 (V2.setCell ⟨g, 9, none⟩ (.int .i64 (min l.tt x.ttl)))) := Lib.hid (foot_set HFd.out 9 _)
    have HT2 := Lib.hid (HT0.out.foot HF2.out (by have := HIN.out g HGB.out; simp; omega))
    refine hK.out _ _ (HSI.out _ HT2.out) (fun hHeld3 => ?_)
    clear hK K
    try simp only [Act.put, pZ]
    refine wpAnyH_done (by kernel_rfl) ?_ _
    refine NoPanic.normal ?_
    clear hHeld hHeld2 hHeld3 C1 HSI hc1 hf1 HCd HBd HTd HFd
    generalize V2.setCell ⟨g, 9, none⟩ (.int .i64 (min l.tt x.ttl)) = W2 at *
    clear HC1 HBK1 HF1 HT1
    have HZ2 := Lib.hid (HZ0.out.foot HF2.out (by have := HIN.out g HGB.out; simp; omega))
    have HS2 := Lib.hid (HSO.out.put HP.out HC2.out HBK2.out HGO.out HF2.out)
    have HP2 : Hid ((g, goL l x) ∈ setA A g (goL l x)) := Lib.hid (setA_own HND.out ⟨_, HP.out⟩)
    have HFW2 : Hid (Foot (b :: fpO G v A) (b :: fpO G v A) w W2) := Lib.hid (HFW.out.trans (foot_sub HF2.out (fun k hk => by rw [List.mem_singleton.1 hk]; exact List.mem_cons_of_mem _ HGB.out)))
    have HCA2 := Lib.hid (HCA.out.foot HF2.out (by simp; rintro rfl; exact HNA.out.1 HGB.out) (by simp; rintro rfl; exact HNA.out.2 HGB.out))
    have HAD2 := Lib.hid (HAD.out.foot HF2.out (fun k o e => by simp; rintro rfl; exact (HFA.out _ o e).2 (List.mem_cons_of_mem _ HGB.out)))
    clear HSO HT0 HZ0 HFW HCA HAD HP te hbe
    have hc8 : W2.cell? ⟨g, 8, none⟩ = some (.int .i64 (l.st + (x.st : Int))) := HC2.out.cell 8 _ rfl
    by_cases ho : 8 < l.st + (x.st : Int)
    · have hd8 : decide (8 < l.st + (x.st : Int)) = true := decide_eq_true ho
      have HFL := Lib.hid (solFail_any G cp (g, goL l x) 3 c n v _ W2 HS2.out HP2.out)
      rw [fpO_set, cutA_set] at HFL
      clear HAD2 HBK2 HC2
      go_wp2_with fail
      refine HFL.out.mono ?_
      rintro e w3 ⟨rfl, v', hv, hs, hf⟩
      have HZ3 := Lib.hid (HZ2.out.foot hf (fun e => by have := HIN.out _ e; omega))
      have HK3 := Lib.hid (fun U vs => HFI.out w3 U v' _ es vs hs (HCA2.out.foot hf HNA.out.1 HNA.out.2) (HFW2.out.trans (foot_sub hf (fun k hk => List.mem_cons_of_mem _ hk))) hv cutA_sub)
      have HV := Lib.hid hv
      clear hv hs hf HFL HS2 HZ2 hc8
      unfold evV
      go_wp2_with (refine store_of HZ3 rfl ev_size _ _ rfl rfl rfl (vs := evL (evF l.n 3)) rfl rfl rfl (fun U HU HUC => ?_))
      obtain ⟨r1, r2, r3⟩ := HK3.out U _ HU.out
      exact bodyPost_ret (results_of Tryz.results45 rfl HUC.out Tryz.underlying77 rfl ev_size) rfl ⟨_, v', _, es, rfl, HV.out, r1, r2, r3, cutA_sub, .inr (.inr (.inl ⟨he, ho, rfl, rfl, rfl⟩))⟩
    · have hd8 : decide (8 < l.st + (x.st : Int)) = false := decide_eq_false ho
      have ho2 : l.st + (x.st : Int) ≤ 8 := by omega
      have HO2 := Lib.hid ho2
      clear ho2
      have ht1 := HT2.out.cell 1 _ rfl
      go_upto_region 10 with fail
      by_cases ha : x.ad = []
      · have hm0 : x.ad.length = 0 := by rw [ha]; rfl
        have HA0 := Lib.hid ha
        have hdm : decide ((0 : Int) < (x.ad.length : Int)) = false := decide_eq_false (by omega)
        have hdn : decide (0 < x.ad.length) = false := decide_eq_false (by omega)
        clear ha hm0
        go_upto_region 14 with fail
        have q3 := HC2.out.cell 3 _ rfl
        have q5 := HC2.out.cell 5 _ rfl
        have q6 := HC2.out.cell 6 _ rfl
        have f3 := HC2.out.live 3 (show 3 < 10 by decide)
        have f5 := HC2.out.live 5 (show 5 < 10 by decide)
        have f6 := HC2.out.live 6 (show 6 < 10 by decide)
        have tn := HT2.out.cell 3 _ rfl
        go_upto_region 15 with fail
        have HC3 : Hid (CellsAt (((W2.setCell ⟨g, 3, none⟩ (.string x.nx)).setCell ⟨g, 5, none⟩ (.int .i64 0)).setCell ⟨g, 6, none⟩ (.int .i64 0)) g (lkL (askL l x))) := Lib.hid (((HC2.out.set 3 _ (show 3 < 10 by decide)).set 5 _ (show 5 < 10 by decide)).set 6 _ (show 6 < 10 by decide))
        have HBK3 : Hid (Blk (((W2.setCell ⟨g, 3, none⟩ (.string x.nx)).setCell ⟨g, 5, none⟩ (.int .i64 0)).setCell ⟨g, 6, none⟩ (.int .i64 0)) g) := Lib.hid (((HBK2.out.set 3 _).set 5 _).set 6 _)
        have HF3 : Hid (Foot [g] [g] W2 (((W2.setCell ⟨g, 3, none⟩ (.string x.nx)).setCell ⟨g, 5, none⟩ (.int .i64 0)).setCell ⟨g, 6, none⟩ (.int .i64 0))) := Lib.hid (foot_set (foot_set (foot_set (Foot.ofBelow _ (Below.refl _ _)) 3 _) 5 _) 6 _)
        clear q3 q5 q6 f3 f5 f6 tn hc8
        generalize ((W2.setCell ⟨g, 3, none⟩ (.string x.nx)).setCell ⟨g, 5, none⟩ (.int .i64 0)).setCell ⟨g, 6, none⟩ (.int .i64 0) = W3 at *
        have HOK3 := Lib.hid (askL_ok HGO.out HCF.out HXN.out)
        have HS3 := Lib.hid (HS2.out.put HP2.out HC3.out HBK3.out HOK3.out HF3.out)
        rw [setA_set] at HS3
        have HP3 : Hid ((g, askL l x) ∈ setA A g (askL l x)) := Lib.hid (by rw [← setA_set A g (goL l x)]; exact setA_own HS2.out.nd ⟨_, HP2.out⟩)
        have HSND := Lib.hid (send_any G g c (askL l x) draw now W3 (HS3.out.cs.cell 3 _ rfl) HS3.out.cs.lt HC3.out HBK3.out HNG.out HD.out HN0.out HN1.out HCF.out)
        have HZ3 := Lib.hid (HZ2.out.foot HF3.out (by have := HIN.out g HGB.out; simp; omega))
        have HFW3 : Hid (Foot (b :: fpO G v A) (b :: fpO G v A) w W3) := Lib.hid (HFW2.out.trans (foot_sub HF3.out (fun k hk => by rw [List.mem_singleton.1 hk]; exact List.mem_cons_of_mem _ HGB.out)))
        have HCA3 := Lib.hid (HCA2.out.foot HF3.out (by simp; rintro rfl; exact HNA.out.1 HGB.out) (by simp; rintro rfl; exact HNA.out.2 HGB.out))
        have HOK4 := Lib.hid (sendL_ok HCF.out HOK3.out draw now HN0.out HN1.out)
        clear HC2 HBK2 HC3 HBK3 HS2 HP2 HZ2 HFW2 HCA2 HT2 HAD2 ht1
        go_wp2_with fail
        refine HSND.out.mono ?_
        rintro e w6 ⟨rfl, hc6, hk6, hf6⟩
        have HS6 := Lib.hid (HS3.out.put HP3.out hc6 hk6 HOK4.out hf6)
        rw [setA_set] at HS6
        have HZ6 := Lib.hid (HZ3.out.foot hf6 (by have := HIN.out g HGB.out; simp; omega))
        have HK6 := Lib.hid (fun U vs => HFI.out w6 U v _ es vs HS6.out (HCA3.out.foot hf6 (by simp; rintro rfl; exact HNA.out.1 HGB.out) (by simp; rintro rfl; exact HNA.out.2 HGB.out)) (HFW3.out.trans (foot_sub hf6 (fun k hk => by rw [List.mem_singleton.1 hk]; exact List.mem_cons_of_mem _ HGB.out))) rfl (fun k hk => by rw [setA_fst] at hk; exact hk))
        clear hc6 hk6 hf6 HSND HS3 HZ3 HFW3 HCA3 HS6
        unfold evV
        go_wp2_with (refine store_of HZ6 rfl ev_size _ _ rfl rfl rfl (vs := evL (evS (nextL c l x draw now))) rfl rfl rfl (fun U HU HUC => ?_))
        obtain ⟨r1, r2, r3⟩ := HK6.out U _ HU.out
        exact bodyPost_ret (results_of Tryz.results45 rfl HUC.out Tryz.underlying77 rfl ev_size) rfl ⟨_, v, _, es, rfl, rfl, r1, r2, r3, (fun k hk => by rw [setA_fst] at hk; exact hk), .inr (.inr (.inr (.inr ⟨he, HO2.out, HA0.out, rfl, rfl, rfl⟩)))⟩
      · have hm0 : 0 < x.ad.length := List.length_pos_iff.2 ha
        have HA0 := Lib.hid ha
        have hdm : decide ((0 : Int) < (x.ad.length : Int)) = true := decide_eq_true (by omega)
        have hdn : decide (0 < x.ad.length) = true := decide_eq_true (by omega)
        clear ha hm0
        go_upto_region 11 with fail
        clear hdm hdn
        have HS2d := Lib.hid (HS2.out.below (Below.refl W2.heap.size W2).drew)
        have HC2d : Hid (CellsAt W2.drew g (lkL (goL l x))) := Lib.hid (HC2.out.below (Below.refl _ _).drew)
        have HT2d := Lib.hid (HT2.out.below (Below.refl W2.heap.size W2).drew)
        have HZ2d := Lib.hid (HZ2.out.below (Below.refl W2.heap.size W2).drew)
        have HFW2d : Hid (Foot (b :: fpO G v A) (b :: fpO G v A) w W2.drew) := Lib.hid (HFW2.out.trans (Foot.ofBelow _ (Below.refl _ _).drew))
        have HCA2d := Lib.hid (HCA2.out.below (Below.refl W2.heap.size W2).drew)
        have HAD2d := Lib.hid (HAD2.out.below (Below.refl W2.heap.size W2).drew)
        clear HS2 HC2 HT2 HZ2 HFW2 HCA2 HAD2 hc8 ht1 HBK2
        obtain ⟨S, hS⟩ : ∃ S : World → Prop, (fun V => V.cell? ⟨G, 0, none⟩ = some (.pointer (some ⟨cp, 0, none⟩)) ∧ V.cell? ⟨g, 1, none⟩ = some (.string l.nm) ∧ V.cell? ⟨g, 4, none⟩ = some (.int .i64 l.q.ty) ∧ V.cell? ⟨T0, 1, none⟩ = some (.slice a x.ad.length cap) ∧ V.cell? ⟨g, 9, none⟩ = some (.int .i64 (min l.tt x.ttl))) = S := ⟨_, rfl⟩
        have D0 : Hid (∀ w', S w' → w'.cell? ⟨G, 0, none⟩ = some (.pointer (some ⟨cp, 0, none⟩))) := Lib.hid (fun w' h => by rw [← hS] at h; exact h.1)
        have D1 : Hid (∀ w', S w' → w'.cell? ⟨g, 1, none⟩ = some (.string l.nm)) := Lib.hid (fun w' h => by rw [← hS] at h; exact h.2.1)
        have D2 : Hid (∀ w', S w' → w'.cell? ⟨g, 4, none⟩ = some (.int .i64 l.q.ty)) := Lib.hid (fun w' h => by rw [← hS] at h; exact h.2.2.1)
        have D3 : Hid (∀ w', S w' → w'.cell? ⟨T0, 1, none⟩ = some (.slice a x.ad.length cap)) := Lib.hid (fun w' h => by rw [← hS] at h; exact h.2.2.2.1)
        have D4 : Hid (∀ w', S w' → w'.cell? ⟨g, 9, none⟩ = some (.int .i64 (min l.tt x.ttl))) := Lib.hid (fun w' h => by rw [← hS] at h; exact h.2.2.2.2)
        have HSI : Hid (∀ V, CellsAt V G (solL cp c n v) → CellsAt V g (lkL (goL l x)) → CellsAt V T0 (tldL x (.slice a x.ad.length cap)) → S V) := Lib.hid (fun V h1 h2 h3 => by rw [← hS]; exact ⟨h1.cell 0 _ rfl, h2.cell 1 _ rfl, h2.cell 4 _ rfl, h3.cell 1 _ rfl, h2.cell 9 _ rfl⟩)
        clear hS
        have hTY : (Lit.int .i64 l.q.ty).wf = true := by rcases HOK.out.ty with e | e <;> rw [e] <;> decide
        refine wp_region_noPanic ?_
        refine wp_region_held_drew (S := S) (by kernel_rfl) (HSI.out _ HS2d.out.cs HC2d.out HT2d.out) (fun hHeld => ?_)
        generalize W2.drew = V at *
        have HPU := Lib.hid (put12_any cp b c.rm es l.nm l.q.ty (min l.tt x.ttl) now a cap x.ad V HCA2d.out HOK.out.nm hTY HN0.out HN1.out HAD2d.out HL.out)
        clear hTY
        refine tkT 0 ?_ rfl (Or.inl ⟨by rfl, ?_⟩) ?_
        rotate_left
        · (intro w hSw; go_simp; try (with_reducible rfl))
        try simp only [Act.put, pZ]
        refine tkT 1 ?_ rfl (Or.inl ⟨by rfl, ?_⟩) ?_
        rotate_left
        · (intro w hSw; go_simp; try (with_reducible rfl))
        try simp only [Act.put, pZ]
        refine tkT 2 ?_ rfl (Or.inl ⟨by rfl, ?_⟩) ?_
        rotate_left
        · (intro w hSw; go_simp; try (with_reducible rfl))
        try simp only [Act.put, pZ]
        refine tkT 3 ?_ rfl (Or.inl ⟨by rfl, ?_⟩) ?_
        rotate_left
        · (intro w hSw; have hc0 := D0.out w hSw; go_simp; try (with_reducible rfl))
        try simp only [Act.put, pZ]
        refine tkT 4 ?_ rfl (Or.inl ⟨by rfl, ?_⟩) ?_
        rotate_left
        · (intro w hSw; go_simp; try (with_reducible rfl))
        try simp only [Act.put, pZ]
        refine tkT 5 ?_ rfl (Or.inl ⟨by rfl, ?_⟩) ?_
        rotate_left
        · (intro w hSw; go_simp; try (with_reducible rfl))
        try simp only [Act.put, pZ]
        refine tkT 6 ?_ rfl (Or.inl ⟨by rfl, ?_⟩) ?_
        rotate_left
        · (intro w hSw; go_simp; try (with_reducible rfl))
        try simp only [Act.put, pZ]
        refine tkT 7 ?_ rfl (Or.inl ⟨by rfl, ?_⟩) ?_
        rotate_left
        · (intro w hSw; have hc0 := D1.out w hSw; go_simp; try (with_reducible rfl))
        try simp only [Act.put, pZ]
        refine tkT 8 ?_ rfl (Or.inl ⟨by rfl, ?_⟩) ?_
        rotate_left
        · (intro w hSw; go_simp; try (with_reducible rfl))
        try simp only [Act.put, pZ]
        refine tkT 9 ?_ rfl (Or.inl ⟨by rfl, ?_⟩) ?_
        rotate_left
        · (intro w hSw; go_simp; try (with_reducible rfl))
        try simp only [Act.put, pZ]
        refine tkT 10 ?_ rfl (Or.inl ⟨by rfl, ?_⟩) ?_
        rotate_left
        · (intro w hSw; go_simp; try (with_reducible rfl))
        try simp only [Act.put, pZ]
        refine tkT 11 ?_ rfl (Or.inl ⟨by rfl, ?_⟩) ?_
        rotate_left
        · (intro w hSw; go_simp; try (with_reducible rfl))
        try simp only [Act.put, pZ]
        refine tkT 12 ?_ rfl (Or.inl ⟨by rfl, ?_⟩) ?_
        rotate_left
        · (intro w hSw; have hc0 := D2.out w hSw; go_simp; try (with_reducible rfl))
        try simp only [Act.put, pZ]
        refine tkT 13 ?_ rfl (Or.inl ⟨by rfl, ?_⟩) ?_
        rotate_left
        · (intro w hSw; go_simp; try (with_reducible rfl))
        try simp only [Act.put, pZ]
        refine tkT 14 ?_ rfl (Or.inl ⟨by rfl, ?_⟩) ?_
        rotate_left
        · (intro w hSw; have hc0 := D3.out w hSw; go_simp; try (with_reducible rfl))
        try simp only [Act.put, pZ]
        refine tkT 15 ?_ rfl (Or.inl ⟨by rfl, ?_⟩) ?_
        rotate_left
        · (intro w hSw; go_simp; try (with_reducible rfl))
        try simp only [Act.put, pZ]
        refine tkT 16 ?_ rfl (Or.inl ⟨by rfl, ?_⟩) ?_
        rotate_left
        · (intro w hSw; go_simp; try (with_reducible rfl))
        try simp only [Act.put, pZ]
        refine tkT 17 ?_ rfl (Or.inl ⟨by rfl, ?_⟩) ?_
        rotate_left
        · (intro w hSw; go_simp; try (with_reducible rfl))
        try simp only [Act.put, pZ]
        refine tkT 18 ?_ rfl (Or.inl ⟨by rfl, ?_⟩) ?_
        rotate_left
        · (intro w hSw; have hc0 := D4.out w hSw; go_simp; try (with_reducible rfl))
        try simp only [Act.put, pZ]
        refine tkT 19 ?_ rfl (Or.inl ⟨by rfl, ?_⟩) ?_
        rotate_left
        · (intro w hSw; go_simp; try (with_reducible rfl))
        try simp only [Act.put, pZ]
        refine wpAnyH_ready (rs := [20]) (by kernel_rfl) (by simp) ?_
        refine AllReadyH.cons rfl (fun K hK => ?_) AllReadyH.nil
        go_simp
        refine HPU.out.mono ?_
        rintro e w3 ⟨y, z, es2, rfl, hca3, hf3, hpw⟩
        have HGb : Hid (G ∉ [b]) := Lib.hid (by simp; rintro rfl; exact HNA.out.2 (by simp [fpO]))
        have Hgb : Hid (g ∉ [b]) := Lib.hid (by simp; rintro rfl; exact HNA.out.2 HGB.out)
        have HTb : Hid (T0 ∉ [b] ∧ T0 + 1 ∉ [b]) := Lib.hid (by have := HCB.out.2; simp; omega)
        have HS3 := Lib.hid (HS2d.out.foot hf3 (fun k hk => by rw [fpO_set] at hk; simp; rintro rfl; exact HNA.out.2 hk))
        have HC3 := Lib.hid (HC2d.out.foot hf3 Hgb.out)
        have HT3 := Lib.hid (HT2d.out.foot hf3 HTb.out.1)
        have HZ3 := Lib.hid (HZ2d.out.foot hf3 HTb.out.2)
        have HFW3 : Hid (Foot (b :: fpO G v A) (b :: fpO G v A) w w3) := Lib.hid (HFW2d.out.trans (foot_sub hf3 (fun k hk => by rw [List.mem_singleton.1 hk]; simp)))
        have HAD3 := Lib.hid (HAD2d.out.foot hf3 (fun k o e => by simp; rintro rfl; exact (HFA.out _ o e).2 (by simp)))
        have HCA3 := Lib.hid hca3
        have HPW3 := Lib.hid hpw
        have HWV : Hid (w.heap.size ≤ V.heap.size ∧ T0 + 1 < V.heap.size) := Lib.hid ⟨HFW2d.out.size, HZ2d.out.lt⟩
        go_wp2_with fail
        refine hK.out _ _ (HSI.out _ HS3.out.cs HC3.out HT3.out) (fun hHeld2 => ?_)
        clear hK K hca3 hf3 hpw HPU HS2d HC2d HT2d HZ2d HFW2d HCA2d HAD2d
        try simp only [Act.put, pZ]
        refine wpAnyH_done (by kernel_rfl) ?_ _
        refine NoPanic.normal ?_
        clear hHeld hHeld2 HSI D0 D1 D2 D3 D4
        have HEN := Lib.hid (end_any G cp g c n v _ w3 HS3.out (mem_fst HP2.out))
        rw [cutA_set] at HEN
        go_wp2_with fail
        refine HEN.out.mono ?_
        rintro e w4 ⟨rfl, v4, hv4, hs4, hf4⟩
        have HIG : Hid (∀ k ∈ G :: v.ownBlock.toList, k ∈ fpO G v A) := Lib.hid (fun k hk => by
          rcases List.mem_cons.1 hk with rfl | hk
          · simp [fpO]
          · exact List.mem_cons_of_mem _ (List.mem_append_left _ hk))
        have HC4 := Lib.hid (HC3.out.foot hf4 HNV.out)
        have HT4 := Lib.hid (HT3.out.foot hf4 (fun e => by have := HIN.out _ (HIG.out _ e); omega))
        have HZ4 := Lib.hid (HZ3.out.foot hf4 (fun e => by have := HIN.out _ (HIG.out _ e); omega))
        have HFW4 : Hid (Foot (b :: fpO G v A) (b :: fpO G v A) w w4) := Lib.hid (HFW3.out.trans (foot_sub hf4 (fun k hk => List.mem_cons_of_mem _ (HIG.out k hk))))
        have HAD4 := Lib.hid (HAD3.out.foot hf4 (fun k o e h2 => (HFA.out _ o e).2 (List.mem_cons_of_mem _ (HIG.out k h2))))
        have HCA4 := Lib.hid (HCA3.out.foot hf4 (fun e => HNA.out.1 (HIG.out _ e)) (fun e => HNA.out.2 (HIG.out _ e)))
        have HS4 := Lib.hid hs4
        have HV4 := Lib.hid hv4
        have HPW4 : Hid (PutW V w4 c.rm es l.nm l.q.ty (min l.tt x.ttl) now x.ad es2) := Lib.hid (by
          rcases HPW3.out with h | ⟨h1, a2, c2, h2, h3, h4⟩
          · exact .inl h
          · refine .inr ⟨h1, a2, c2, h2, h3.foot hf4 (fun k o e h5 => ?_), h4⟩
            have e1 := HIN.out _ (HIG.out _ h5); have e2 := h4 k o e; have e3 := HWV.out.1; have e4 := HTT.out; omega)
        clear hv4 hs4 hf4 HEN HS3 HC3 HT3 HZ3 HFW3 HAD3 HCA3 HPW3
        go_upto_region 13 with fail
        have HC5 : Hid (CellsAt w4.drew g (lkL (goL l x))) := Lib.hid (HC4.out.below (Below.refl _ _).drew)
        have HT5 := Lib.hid (HT4.out.below (Below.refl w4.heap.size w4).drew)
        have HZ5 := Lib.hid (HZ4.out.below (Below.refl w4.heap.size w4).drew)
        have HB5 : Hid (Below w4.heap.size w4 w4.drew) := Lib.hid (Below.refl _ _).drew
        clear HC4 HT4 HZ4
        obtain ⟨S, hS⟩ : ∃ S : World → Prop, (fun V => V.cell? ⟨g, 0, none⟩ = some (.int .i64 l.n) ∧ V.cell? ⟨T0, 1, none⟩ = some (.slice a x.ad.length cap)) = S := ⟨_, rfl⟩
        have E0 : Hid (∀ w', S w' → w'.cell? ⟨g, 0, none⟩ = some (.int .i64 l.n)) := Lib.hid (fun w' h => by rw [← hS] at h; exact h.1)
        have E1 : Hid (∀ w', S w' → w'.cell? ⟨T0, 1, none⟩ = some (.slice a x.ad.length cap)) := Lib.hid (fun w' h => by rw [← hS] at h; exact h.2)
        have HSI : Hid (∀ V, CellsAt V g (lkL (goL l x)) → CellsAt V T0 (tldL x (.slice a x.ad.length cap)) → S V) := Lib.hid (fun V h1 h2 => by rw [← hS]; exact ⟨h1.cell 0 _ rfl, h2.cell 1 _ rfl⟩)
        clear hS
        refine wp_region_noPanic ?_
        refine wp_region_held_drew (S := S) (by kernel_rfl) (HSI.out _ HC5.out HT5.out) (fun hHeld => ?_)
        generalize w4.drew = V5 at *
        refine tkT 0 ?_ rfl (Or.inl ⟨by rfl, ?_⟩) ?_
        rotate_left
        · (intro w hSw; go_simp; try (with_reducible rfl))
        try simp only [Act.put, pZ]
        refine tkT 1 ?_ rfl (Or.inl ⟨by rfl, ?_⟩) ?_
        rotate_left
        · (intro w hSw; go_simp; try (with_reducible rfl))
        try simp only [Act.put, pZ]
        refine tkT 2 ?_ rfl (Or.inl ⟨by rfl, ?_⟩) ?_
        rotate_left
        · (intro w hSw; go_simp; try (with_reducible rfl))
        try simp only [Act.put, pZ]
        refine tkT 3 ?_ rfl (Or.inl ⟨by rfl, ?_⟩) ?_
        rotate_left
        · (intro w hSw; have hc0 := E0.out w hSw; go_simp; try (with_reducible rfl))
        try simp only [Act.put, pZ]
        refine tkT 4 ?_ rfl (Or.inl ⟨by rfl, ?_⟩) ?_
        rotate_left
        · (intro w hSw; go_simp; try (with_reducible rfl))
        try simp only [Act.put, pZ]
        refine tkT 5 ?_ rfl (Or.inl ⟨by rfl, ?_⟩) ?_
        rotate_left
        · (intro w hSw; have hc0 := E1.out w hSw; go_simp; try (with_reducible rfl))
        try simp only [Act.put, pZ]
        refine wpAnyH_ready (rs := [6]) (by kernel_rfl) (by simp) ?_
        refine AllReadyH.cons rfl (fun K hK => ?_) AllReadyH.nil
        go_simp
        refine (done_any l.n a x.ad.length cap V5).mono ?_
        rintro e w6 ⟨rfl, hb6⟩
        have HC6 := Lib.hid (HC5.out.below hb6)
        have HT6 := Lib.hid (HT5.out.below hb6)
        have HZ6 := Lib.hid (HZ5.out.below hb6)
        have HB6 := Lib.hid (chain HB5.out hb6)
        unfold evV
        go_wp2_with fail
        refine hK.out _ _ (HSI.out _ HC6.out HT6.out) (fun hHeld2 => ?_)
        clear hK K hb6 HC5 HT5 HZ5 HB5
        try simp only [Act.put, pZ]
        refine wpAnyH_ready (rs := [7]) (by kernel_rfl) (by simp) ?_
        refine ready_one rfl rfl (fun K hK => ?_)
        refine wp_store_of HZ6 rfl ev_size _ _ rfl rfl rfl (vs := evL (evD l.n a x.ad.length cap)) rfl rfl rfl (fun U HU HUC => ?_)
        have HC7 : Hid (CellsAt U g (lkL (goL l x))) := Lib.hid (by rw [HU.out]; exact HC6.out.apart (by have := HIN.out g HGB.out; omega) _)
        have HT7 : Hid (CellsAt U T0 (tldL x (.slice a x.ad.length cap))) := Lib.hid (by rw [HU.out]; exact HT6.out.apart (by omega) _)
        refine hK.out _ _ (HSI.out _ HC7.out HT7.out) (fun hHeld3 => ?_)
        clear hK K
        try simp only [Act.put, pZ]
        refine wpAnyH_done (by kernel_rfl) ?_ _
        refine NoPanic.normal ?_
        clear hHeld hHeld2 hHeld3 HSI E0 E1 HC7 HT7 HC6 HT6
        go_wp2_with fail
        obtain ⟨r1, r2, r3⟩ := HFI.out w6 U v4 _ es2 _ (HS4.out.below HB6.out) (HCA4.out.below HB6.out) (HFW4.out.trans (Foot.ofBelow _ HB6.out)) HV4.out cutA_sub HU.out
        refine bodyPost_ret (results_of Tryz.results45 rfl HUC.out Tryz.underlying77 rfl ev_size) rfl ⟨_, v4, _, es2, rfl, HV4.out, r1, r2, r3, cutA_sub, .inr (.inr (.inr (.inl ⟨he, HO2.out, HA0.out, rfl, rfl, ?_, ?_⟩)))⟩
        · rw [HU.out]; exact (HAD4.out.below HB6.out).sets (fun k o e => by have := (HFA.out k o e).1; omega)
        · rcases HPW4.out with h | ⟨h1, a2, c2, h2, h3, h4⟩
          · exact .inl h
          · refine .inr ⟨h1, a2, c2, h2, ?_, fun k o e => by have e2 := h4 k o e; have e3 := HWV.out.1; omega⟩
            rw [HU.out]
            exact (h3.below HB6.out).sets (fun k o e => by have e2 := h4 k o e; have e3 := HWV.out.2; omega)
  · have hbe : ((x.e : Int) == 0) = false := by simp [he]
    clear HGO hws HL HXN HFA HAD
    by_cases h7 : x.e = 7
    · have hb7 : ((x.e : Int) == 7) = true := by simp [h7]
      have HAG := Lib.hid (again_any G cp (g, l) draw now c n v A W0 HSO.out HP.out HSE.out HD.out HN0.out HN1.out)
      go_wp2_with fail
      refine HAG.out.mono ?_
      rintro e w3 ⟨rfl, v', hv, hs, hf⟩
      have HZ3 := Lib.hid (HZ0.out.foot hf (fun e => by have := HIN.out _ e; omega))
      have HK3 := Lib.hid (fun U vs => HFI.out w3 U v' _ es vs hs (HCA.out.foot hf HNA.out.1 HNA.out.2) (HFW.out.trans (foot_sub hf (fun k hk => List.mem_cons_of_mem _ hk))) hv againA_sub)
      have HV := Lib.hid hv
      clear hv hs hf HAG HSO HZ0 te
      unfold evV
      go_wp2_with (refine store_of HZ3 rfl ev_size _ _ rfl rfl rfl (vs := evL (againE c l draw now)) rfl rfl rfl (fun U HU HUC => ?_))
      obtain ⟨r1, r2, r3⟩ := HK3.out U _ HU.out
      exact bodyPost_ret (results_of Tryz.results45 rfl HUC.out Tryz.underlying77 rfl ev_size) rfl ⟨_, v', _, es, rfl, HV.out, r1, r2, r3, againA_sub, .inl ⟨h7, rfl, rfl, rfl⟩⟩
    · have hb7 : ((x.e : Int) == 7) = false := by simp [h7]
      have HFL := Lib.hid (solFail_any G cp (g, l) x.e c n v A W0 HSO.out HP.out)
      go_wp2_with fail
      refine HFL.out.mono ?_
      rintro e w3 ⟨rfl, v', hv, hs, hf⟩
      have HZ3 := Lib.hid (HZ0.out.foot hf (fun e => by have := HIN.out _ e; omega))
      have HK3 := Lib.hid (fun U vs => HFI.out w3 U v' _ es vs hs (HCA.out.foot hf HNA.out.1 HNA.out.2) (HFW.out.trans (foot_sub hf (fun k hk => List.mem_cons_of_mem _ hk))) hv cutA_sub)
      have HV := Lib.hid hv
      clear hv hs hf HFL HSO HZ0 te
      unfold evV
      go_wp2_with (refine store_of HZ3 rfl ev_size _ _ rfl rfl rfl (vs := evL (evF l.n x.e)) rfl rfl rfl (fun U HU HUC => ?_))
      obtain ⟨r1, r2, r3⟩ := HK3.out U _ HU.out
      exact bodyPost_ret (results_of Tryz.results45 rfl HUC.out Tryz.underlying77 rfl ev_size) rfl ⟨_, v', _, es, rfl, HV.out, r1, r2, r3, cutA_sub, .inr (.inl ⟨he, h7, rfl, rfl, rfl⟩)⟩
end Go.Proofs.YtedmkdjijhflnaaGreat
namespace Go.Proofs.YtedmkdjijhflnaaGreat
open Go.RowKit

def CutRet (a b : ByteArray) (w : World) (e : Ending) (w' : World) : Prop := ∃ f, e = .returned (.tuple #[.string a, .string b, .bool f]) ∧ Below w.heap.size w w'
def strSz : Value → Nat
  | .string s => s.size
  | _ => 0
end Go.Proofs.YtedmkdjijhflnaaGreat
namespace Go.Proofs.YtedmkdjijhflnaaGreat
open Go.RowKit

def labOf (ds : List UInt8) : ByteArray × Bool :=
  if ds.length < 1 + (ds.getD 0 0).toNat then (⟨#[]⟩, false) else (ownAt ds 0 (ds.getD 0 0).toNat, !has8 (ownAt ds 0 (ds.getD 0 0).toNat) 46)
set_option maxRecDepth 100000 in
set_option maxHeartbeats 2000000 in
theorem labelOf_any (y : Addr) (ds : List UInt8) (c : Nat) (w : World) (hc : ds.length ≤ c) (hcm : c ≤ maxLen) (hp : 0 < ds.length) (hcells : ∀ j (h : j < ds.length), w.cell? (y.add j) = some (.int .u8 ((ds[j].toNat : Nat) : Int))) :
    Calls Tryz.prog 140 #[.slice (some y) ds.length c] w fun e w' => e = .returned (.tuple #[.string (labOf ds).1, .bool (labOf ds).2]) ∧ w' = w := by
  have hcm2 : c ≤ 9223372036854775807 := by unfold maxLen at hcm; omega
  have hc0 := hcells 0 hp
  have hy0 : y.add 0 = y := by cases y; simp [Addr.add]
  rw [hy0] at hc0
  have hgd : ds.getD 0 0 = ds[0] := by rw [List.getD_eq_getElem?_getD, List.getElem?_eq_getElem hp]; rfl
  have HL : Hid (labOf ds = if ds.length < 1 + ds[0].toNat then (⟨#[]⟩, false) else (ownAt ds 0 ds[0].toNat, !has8 (ownAt ds 0 ds[0].toNat) 46)) := Lib.hid (by unfold labOf; rw [hgd])
  have HCV : Hid (∀ n c, 0 + 1 + n ≤ ds.length → (convert 38 9 (.slice (some (y.add (0 + 1))) n c)).run Tryz.prog w = .ok (.string (ownAt ds 0 n)) w) := Lib.hid (fun n c hn => own_text_at c hcells hn)
  have hu := ds[0].toNat_lt
  generalize ds[0].toNat = n at *
  obtain ⟨N, hN⟩ : ∃ N, ds.length = N := ⟨_, rfl⟩
  have HOS : Hid (1 + n ≤ N → (ownAt ds 0 n).size = n) := Lib.hid (fun h => ownAt_size (by omega))
  rw [hN] at hc hp HL HCV ⊢
  clear hcells hy0 hgd hcm hN
  have hnw : IntKind.i64.wrap (n : Int) = (n : Int) := by rw [IntKind.wrap_i64]; omega
  have hb0 : (0 : Int) < (N : Int) := by omega
  by_cases h : N < 1 + n
  · have EL := HL.out
    rw [if_pos h] at EL
    rw [EL]
    have hd : decide ((N : Int) < 1 + (n : Int)) = true := decide_eq_true (by omega)
    clear EL HL HCV
    go_enter Tryz.func140, Tryz.ntmps140
    go_wp2_with fail
    go_ret2
    exact ⟨rfl, rfl⟩
  · have EL := HL.out
    rw [if_neg h] at EL
    rw [EL]
    have hd : decide ((N : Int) < 1 + (n : Int)) = false := decide_eq_false (by omega)
    have hcv := HCV.out n (c - 1) (by omega)
    rw [show y.add (0 + 1) = ⟨y.block, y.off + 1, none⟩ from by simp [Addr.add]] at hcv
    have hos := HOS.out (by omega)
    have HCO := Lib.hid (Tryz.strings_Contains_one (ownAt ds 0 n) 46 w)
    rw [contains_dot] at HCO
    generalize ownAt ds 0 n = own at *
    generalize has8 own 46 = b at *
    have hck : ¬ c = 1 ∨ c = 1 := by omega
    have hb3 : (1 : Int) ≤ 1 + (n : Int) := by omega
    have hb4 : 1 + (n : Int) ≤ (c : Int) := by omega
    have hcs : 1 + n ≤ c := by omega
    clear EL HL HCV HOS
    by_cases hc1 : c = 1
    · obtain rfl : n = 0 := by omega
      subst hc1
      have hos0 := empty_of hos
      subst hos0
      have hcv0 : (convert 38 9 (.slice (some y) 0 0)).run Tryz.prog w = .ok (.string ⟨#[]⟩) w := by rfl
      clear hcv
      go_enter Tryz.func140, Tryz.ntmps140
      go_wp2_with fail
      refine HCO.out.mono ?_
      rintro e w1 ⟨rfl, rfl⟩
      go_wp2_with fail
      go_ret2
      exact ⟨rfl, rfl⟩
    · go_enter Tryz.func140, Tryz.ntmps140
      go_wp2_with fail
      refine HCO.out.mono ?_
      rintro e w1 ⟨rfl, rfl⟩
      go_wp2_with fail
      go_ret2
      exact ⟨rfl, rfl⟩
theorem placeOf_short (y : Addr) (c n : Nat) (w : World) (hn : n < 2) :
    Calls Tryz.prog 141 #[.slice (some y) n c] w fun e w' => e = .returned (.tuple #[.int .i64 0, .bool false]) ∧ Below w.heap.size w w' := by
  have hd : decide ((n : Int) < 2) = true := decide_eq_true (by omega)
  have hdn : decide (n < 2) = true := decide_eq_true hn
  go_enter Tryz.func141, Tryz.ntmps141
  go_wp2_with fail
  go_ret2
  exact ⟨rfl, Below.refl _ _⟩
set_option maxRecDepth 100000 in
set_option maxHeartbeats 2000000 in
theorem placeOf_any (y : Addr) (c n q1 q2 : Nat) (w : World) (hn : 2 ≤ n) (hc : n ≤ c) (hcm : c ≤ maxLen) (h1 : 192 ≤ q1) (h1b : q1 < 256) (h2 : q2 < 256) (hc1 : w.cell? y = some (.int .u8 (q1 : Int))) (hc2 : w.cell? (y.add 1) = some (.int .u8 (q2 : Int))) :
    Calls Tryz.prog 141 #[.slice (some y) n c] w fun e w' => e = .returned (.tuple #[.int .i64 ((((q1 - 192) * 256 + q2 : Nat)) : Int), .bool true]) ∧ Below w.heap.size w w' := by
  have hd : decide ((n : Int) < 2) = false := decide_eq_false (by omega)
  have hdn : decide (n < 2) = false := decide_eq_false (by omega)
  have hcm2 : c ≤ 9223372036854775807 := by unfold maxLen at hcm; omega
  have hb1 : (0 : Int) < (n : Int) := by omega
  have hb2 : (1 : Int) < (n : Int) := by omega
  have hb3 : 0 < n := by omega
  have hb4 : 1 < n := by omega
  have hw1 : IntKind.u8.wrap ((q1 : Int) - 192) = (q1 : Int) - 192 := by rw [IntKind.wrap_u8]; omega
  have hw2 : IntKind.i64.wrap ((q1 : Int) - 192) = (q1 : Int) - 192 := by rw [IntKind.wrap_i64]; omega
  have hw3 : IntKind.i64.wrap (((q1 : Int) - 192) * 256) = ((q1 : Int) - 192) * 256 := by rw [IntKind.wrap_i64]; omega
  have hw4 : IntKind.i64.wrap (q2 : Int) = (q2 : Int) := by rw [IntKind.wrap_i64]; omega
  have q : bits .or .i64 (((q1 : Int) - 192) * 256) (q2 : Int) = (((q1 - 192) * 256 + q2 : Nat) : Int) := by
    rw [bits_join .i64 32 (by decide) (fun n h0 h1 => by rw [IntKind.wrap_i64]; omega) 8 (((q1 : Int) - 192) * 256) q2 (by omega) (by omega) (by omega) (by omega) (by omega) (by omega)]
    omega
  rw [show y.add 1 = ⟨y.block, y.off + 1, none⟩ from by simp [Addr.add]] at hc2
  obtain ⟨T, hT⟩ : ∃ T, (q1 - 192) * 256 + q2 = T := ⟨_, rfl⟩
  rw [hT] at q ⊢
  clear hT
  go_enter Tryz.func141, Tryz.ntmps141
  go_upto_region 3 with fail
  obtain ⟨S, hS⟩ : ∃ S : World → Prop, (fun W => W.cell? y = some (.int .u8 (q1 : Int)) ∧ W.cell? ⟨y.block, y.off + 1, none⟩ = some (.int .u8 (q2 : Int))) = S := ⟨_, rfl⟩
  have C1 : Hid (∀ w', S w' → w'.cell? y = some (.int .u8 (q1 : Int))) := Lib.hid (fun w' h => by rw [← hS] at h; exact h.1)
  have C2 : Hid (∀ w', S w' → w'.cell? ⟨y.block, y.off + 1, none⟩ = some (.int .u8 (q2 : Int))) := Lib.hid (fun w' h => by rw [← hS] at h; exact h.2)
  have HSS : Hid (S w.drew) := Lib.hid (by rw [← hS]; exact ⟨hc1, hc2⟩)
  clear hS hc1 hc2
  refine wp_region_noPanic ?_
  refine wp_region_held_drew (S := S) (by kernel_rfl) HSS.out (fun hHeld => ?_)
  refine tkT 0 ?_ rfl (Or.inl ⟨by rfl, ?_⟩) ?_
  rotate_left
  · (intro w hSw; go_simp; try (with_reducible rfl))
  try simp only [Act.put, pZ]
  refine tkT 1 ?_ rfl (Or.inl ⟨by rfl, ?_⟩) ?_
  rotate_left
  · (intro w hSw; go_simp; try (with_reducible rfl))
  try simp only [Act.put, pZ]
  refine tkT 2 ?_ rfl (Or.inl ⟨by rfl, ?_⟩) ?_
  rotate_left
  · (intro w hSw; have hc0 := C1.out w hSw; go_simp; try (with_reducible rfl))
  try simp only [Act.put, pZ]
  refine tkT 3 ?_ rfl (Or.inl ⟨by rfl, ?_⟩) ?_
  rotate_left
  · (intro w hSw; go_simp; try (with_reducible rfl))
  try simp only [Act.put, pZ]
  refine tkT 4 ?_ rfl (Or.inl ⟨by rfl, ?_⟩) ?_
  rotate_left
  · (intro w hSw; go_simp; try (with_reducible rfl))
  try simp only [Act.put, pZ]
  refine tkT 5 ?_ rfl (Or.inl ⟨by rfl, ?_⟩) ?_
  rotate_left
  · (intro w hSw; go_simp; try (with_reducible rfl))
  try simp only [Act.put, pZ]
  refine tkT 6 ?_ rfl (Or.inl ⟨by rfl, ?_⟩) ?_
  rotate_left
  · (intro w hSw; go_simp; try (with_reducible rfl))
  try simp only [Act.put, pZ]
  refine tkT 7 ?_ rfl (Or.inl ⟨by rfl, ?_⟩) ?_
  rotate_left
  · (intro w hSw; go_simp; try (with_reducible rfl))
  try simp only [Act.put, pZ]
  refine tkT 8 ?_ rfl (Or.inl ⟨by rfl, ?_⟩) ?_
  rotate_left
  · (intro w hSw; have hc0 := C2.out w hSw; go_simp; try (with_reducible rfl))
  try simp only [Act.put, pZ]
  refine tkT 9 ?_ rfl (Or.inl ⟨by rfl, ?_⟩) ?_
  rotate_left
  · (intro w hSw; go_simp; try (with_reducible rfl))
  try simp only [Act.put, pZ]
  refine tkT 10 ?_ rfl (Or.inl ⟨by rfl, ?_⟩) ?_
  rotate_left
  · (intro w hSw; go_simp; try (with_reducible rfl))
  try simp only [Act.put, pZ]
  refine tkT 11 ?_ rfl (Or.inl ⟨by rfl, ?_⟩) ?_
  rotate_left
  · (intro w hSw; go_simp; try (with_reducible rfl))
  try simp only [Act.put, pZ]
  refine tkT 12 ?_ rfl (Or.inl ⟨by rfl, ?_⟩) ?_
  rotate_left
  · (intro w hSw; go_simp; try (with_reducible rfl))
  try simp only [Act.put, pZ]
  refine wpAnyH_done (by kernel_rfl) ?_ _
  refine NoPanic.normal ?_
  go_wp2_with fail
  go_ret2
  exact ⟨rfl, (Below.refl _ _).drew⟩
end Go.Proofs.YtedmkdjijhflnaaGreat
namespace Go.Proofs.YtedmkdjijhflnaaGreat
open Go.RowKit

def contR (bs : List UInt8) (g i : Nat) (l : List ByteArray) (nx : Option Nat) (r : List ByteArray × Nat × Bool × Int) : ByteArray × Nat × Int :=
  match r with
  | (l2, e, p, er) =>
    if er ≠ 0 then (⟨#[]⟩, 0, er) else
    if p = false then (joinB (l ++ l2) ⟨#[46]⟩, nx.getD (e + 1), 0) else
    if bs.length ≤ e + 1 then (⟨#[]⟩, 0, 2) else
    if i ≤ toAt bs e then (⟨#[]⟩, 0, 2) else
    readB bs g (toAt bs e) (l ++ l2) (some (nx.getD (e + 2)))
theorem readB_cont (bs : List UInt8) (g i : Nat) (l : List ByteArray) (nx : Option Nat) : readB bs (g + 1) i l nx = contR bs g i l nx (runB bs (sizeL l - 1) (bs.length + 1 - i) i []) := rfl
def RdSt (bs : List UInt8) (R : ByteArray × Nat × Int) (i b : Nat) (l : List ByteArray) (nx : Option Nat) : Prop :=
  ∃ f g l0 l2, bs.length + 1 ≤ i + f ∧ b ≤ g ∧ l = l0 ++ l2 ∧ sizeL l ≤ 255 ∧ contR bs g b l0 nx (runB bs (sizeL l0 - 1) f i l2) = R
theorem RdSt.start (bs : List UInt8) (at0 : Nat) : RdSt bs (readB bs (at0 + 1) at0 [] none) at0 at0 [] none :=
  ⟨bs.length + 1 - at0, at0, [], [], by omega, Nat.le_refl _, rfl, by decide, rfl⟩
section
variable {bs : List UInt8} {R : ByteArray × Nat × Int} {i b : Nat} {l : List ByteArray} {nx : Option Nat}
theorem RdSt.out (h : RdSt bs R i b l nx) (hi : bs.length ≤ i) : R = (⟨#[]⟩, 0, 2) := by
  obtain ⟨f, g, l0, l2, h1, h2, h3, h4, h5⟩ := h
  cases f with
  | zero => rw [← h5]; rfl
  | succ f =>
    unfold runB at h5
    rw [if_pos hi] at h5
    rw [← h5]; rfl
theorem RdSt.zero (h : RdSt bs R i b l nx) (hi : i < bs.length) (hn : (bs.getD i 0).toNat = 0) : R = (joinB l ⟨#[46]⟩, nx.getD (i + 1), 0) := by
  obtain ⟨f, g, l0, l2, h1, h2, h3, h4, h5⟩ := h
  obtain ⟨f, rfl⟩ : ∃ k, f = k + 1 := ⟨f - 1, by omega⟩
  unfold runB at h5
  rw [if_neg (by omega), if_pos hn] at h5
  rw [← h5, h3]; rfl
theorem RdSt.bad (h : RdSt bs R i b l nx) (hi : i < bs.length) (hn : 63 < (bs.getD i 0).toNat) (hn2 : (bs.getD i 0).toNat < 192) : R = (⟨#[]⟩, 0, 2) := by
  obtain ⟨f, g, l0, l2, h1, h2, h3, h4, h5⟩ := h
  obtain ⟨f, rfl⟩ : ∃ k, f = k + 1 := ⟨f - 1, by omega⟩
  unfold runB at h5
  rw [if_neg (by omega), if_neg (by omega), if_neg (by omega), if_pos (.inl hn)] at h5
  rw [← h5]; rfl
theorem RdSt.short (h : RdSt bs R i b l nx) (hi : i < bs.length) (hn : (bs.getD i 0).toNat ≠ 0) (hn2 : (bs.getD i 0).toNat ≤ 63) (hs : bs.length < i + 1 + (bs.getD i 0).toNat) : R = (⟨#[]⟩, 0, 2) := by
  obtain ⟨f, g, l0, l2, h1, h2, h3, h4, h5⟩ := h
  obtain ⟨f, rfl⟩ : ∃ k, f = k + 1 := ⟨f - 1, by omega⟩
  unfold runB at h5
  rw [if_neg (by omega), if_neg hn, if_neg (by omega), if_pos (.inr hs)] at h5
  rw [← h5]; rfl
theorem RdSt.dot (h : RdSt bs R i b l nx) (hi : i < bs.length) (hn : (bs.getD i 0).toNat ≠ 0) (hn2 : (bs.getD i 0).toNat ≤ 63) (hs : i + 1 + (bs.getD i 0).toNat ≤ bs.length) (hd : has8 (ownAt bs i (bs.getD i 0).toNat) 46 = true) : R = (⟨#[]⟩, 0, 2) := by
  obtain ⟨f, g, l0, l2, h1, h2, h3, h4, h5⟩ := h
  obtain ⟨f, rfl⟩ : ∃ k, f = k + 1 := ⟨f - 1, by omega⟩
  unfold runB at h5
  rw [if_neg (by omega), if_neg hn, if_neg (by omega), if_neg (by omega), if_pos hd] at h5
  rw [← h5]; rfl
theorem size_three (l0 l2 : List ByteArray) (x : ByteArray) : sizeL l0 - 1 + sizeL (l2 ++ [x]) = sizeL (l0 ++ l2 ++ [x]) := by
  have := sizeL_app l0 (l2 ++ [x])
  rw [← List.append_assoc] at this
  have := sizeL_pos l0
  omega
theorem size_snoc (l : List ByteArray) (x : ByteArray) : sizeL (l ++ [x]) = sizeL l + 1 + x.size := by
  have := sizeL_app l [x]
  have e : sizeL [x] = 2 + x.size := by
    show 1 + 1 + x.size = 2 + x.size
    omega
  omega
theorem RdSt.long (h : RdSt bs R i b l nx) (hi : i < bs.length) (hn : (bs.getD i 0).toNat ≠ 0) (hn2 : (bs.getD i 0).toNat ≤ 63) (hs : i + 1 + (bs.getD i 0).toNat ≤ bs.length) (hd : has8 (ownAt bs i (bs.getD i 0).toNat) 46 = false) (hz : 255 < sizeL (l ++ [ownAt bs i (bs.getD i 0).toNat])) : R = (⟨#[]⟩, 0, 3) := by
  obtain ⟨f, g, l0, l2, h1, h2, h3, h4, h5⟩ := h
  obtain ⟨f, rfl⟩ : ∃ k, f = k + 1 := ⟨f - 1, by omega⟩
  unfold runB at h5
  rw [if_neg (by omega), if_neg hn, if_neg (by omega), if_neg (by omega), hd, if_neg (by decide), if_pos (by rw [size_three, ← h3]; exact hz)] at h5
  rw [← h5]; rfl
theorem RdSt.lab (h : RdSt bs R i b l nx) (hi : i < bs.length) (hn : (bs.getD i 0).toNat ≠ 0) (hn2 : (bs.getD i 0).toNat ≤ 63) (hs : i + 1 + (bs.getD i 0).toNat ≤ bs.length) (hd : has8 (ownAt bs i (bs.getD i 0).toNat) 46 = false) (hz : sizeL (l ++ [ownAt bs i (bs.getD i 0).toNat]) ≤ 255) : RdSt bs R (i + 1 + (bs.getD i 0).toNat) b (l ++ [ownAt bs i (bs.getD i 0).toNat]) nx := by
  obtain ⟨f, g, l0, l2, h1, h2, h3, h4, h5⟩ := h
  obtain ⟨f, rfl⟩ : ∃ k, f = k + 1 := ⟨f - 1, by omega⟩
  unfold runB at h5
  rw [if_neg (by omega), if_neg hn, if_neg (by omega), if_neg (by omega), hd, if_neg (by decide), if_neg (by rw [size_three, ← h3]; omega)] at h5
  exact ⟨f, g, l0, _, by omega, h2, by rw [h3, List.append_assoc], hz, h5⟩
theorem RdSt.ptr1 (h : RdSt bs R i b l nx) (hi : i < bs.length) (hn : 192 ≤ (bs.getD i 0).toNat) (he : bs.length ≤ i + 1) : R = (⟨#[]⟩, 0, 2) := by
  obtain ⟨f, g, l0, l2, h1, h2, h3, h4, h5⟩ := h
  obtain ⟨f, rfl⟩ : ∃ k, f = k + 1 := ⟨f - 1, by omega⟩
  unfold runB at h5
  rw [if_neg (by omega), if_neg (by omega), if_pos hn] at h5
  unfold contR at h5
  simp only at h5
  rw [if_neg (by decide), if_neg (by decide), if_pos he] at h5
  exact h5.symm
theorem RdSt.ptr2 (h : RdSt bs R i b l nx) (hi : i < bs.length) (hn : 192 ≤ (bs.getD i 0).toNat) (he : i + 1 < bs.length) (ht : b ≤ toAt bs i) : R = (⟨#[]⟩, 0, 2) := by
  obtain ⟨f, g, l0, l2, h1, h2, h3, h4, h5⟩ := h
  obtain ⟨f, rfl⟩ : ∃ k, f = k + 1 := ⟨f - 1, by omega⟩
  unfold runB at h5
  rw [if_neg (by omega), if_neg (by omega), if_pos hn] at h5
  unfold contR at h5
  simp only at h5
  rw [if_neg (by decide), if_neg (by decide), if_neg (by omega), if_pos ht] at h5
  exact h5.symm
theorem RdSt.ptr (h : RdSt bs R i b l nx) (hi : i < bs.length) (hn : 192 ≤ (bs.getD i 0).toNat) (he : i + 1 < bs.length) (ht : toAt bs i < b) : RdSt bs R (toAt bs i) (toAt bs i) l (some (nx.getD (i + 2))) := by
  obtain ⟨f, g, l0, l2, h1, h2, h3, h4, h5⟩ := h
  obtain ⟨f, rfl⟩ : ∃ k, f = k + 1 := ⟨f - 1, by omega⟩
  unfold runB at h5
  rw [if_neg (by omega), if_neg (by omega), if_pos hn] at h5
  unfold contR at h5
  simp only at h5
  rw [if_neg (by decide), if_neg (by decide), if_neg (by omega), if_neg (by omega)] at h5
  obtain ⟨g, rfl⟩ : ∃ k, g = k + 1 := ⟨g - 1, by omega⟩
  rw [readB_cont] at h5
  exact ⟨_, g, l0 ++ l2, [], by omega, by omega, by rw [List.append_nil]; exact h3, h4, h5⟩
theorem RdSt.small (h : RdSt bs R i b l nx) : sizeL l ≤ 255 := by
  obtain ⟨f, g, l0, l2, h1, h2, h3, h4, h5⟩ := h
  exact h4
end
theorem meas8 {T b N i : Nat} (h : T < b) : T * (N + 2) + (N + 1 - T) < b * (N + 2) + (N + 1 - i) := by
  have h1 := Nat.mul_le_mul_right (N + 2) (show T + 1 ≤ b from h)
  rw [Nat.succ_mul] at h1
  omega
end Go.Proofs.YtedmkdjijhflnaaGreat
