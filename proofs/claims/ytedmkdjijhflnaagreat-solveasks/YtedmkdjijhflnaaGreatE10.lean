/- Texts that belong together, one behind the other: SolNew, SolQ, SolE, LabWrOps, LabNote, LabName, LabBytes, LabWrites, WirSpec, LabGood, WxWr, WxName, Parts, Loose, DecParts, RefPrints, WirAddr, WirMay, WirNum, WirAsked, AddrBitsOwn, WirData, RefGoodRec, RefGoodRecs, RefGoodMsg, WirRecs, WirMayM, WirW9, WirRecW, WirWhole, WirWrite, HeadMath, RdTrip, SolAsk, SmallName, RefWireSt, ConvT. -/
import Derived.Test.YtedmkdjijhflnaaGreatE9
import Derived.Lib.SliceRun
import Derived.Laws.BitsLemmas
import Derived.Lib.ConvBytes
import Derived.Deep.Cut
import Derived.Laws.Rows
set_option linter.unusedVariables false
set_option linter.unusedSimpArgs false
set_option maxRecDepth 20000
namespace Go.Proofs.YtedmkdjijhflnaaGreat
open Go.RowKit Go.Sort Go.Shelf Go.Maps

theorem within_any (n m : Int) (w : World) : Calls Tryz.prog 48 #[.int .i64 n, .int .i64 m] w fun e w' => e = .returned (.int .i64 (min (max n 1) m)) ∧ w' = w := by
  obtain ⟨r, hr⟩ : ∃ r, min (max n 1) m = r := ⟨_, rfl⟩
  go_enter Tryz.func48, Tryz.ntmps48
  go_wp2_with fail
  go_ret
  exact ⟨by rw [hr]; rfl, rfl⟩
def cfgL (s t u r : Int) : List Value := [.int .i64 s, .int .i64 t, .int .i64 u, .int .i64 r]
def cfgP (s t u r : Int) : Cfg := ⟨min (max s 1) 4, min (max t 1) 5, min (max u 1) 1000, min (max r 1) 64⟩
theorem cfgP_ok (s t u r : Int) : (cfgP s t u r).Ok := ⟨by simp only [cfgP]; omega, by simp only [cfgP]; omega, by simp only [cfgP]; omega, by simp only [cfgP]; omega, by simp only [cfgP]; omega, by simp only [cfgP]; omega⟩
theorem built_cf (s t u r : Int) : Tryz.prog.built 23 [(0, .int .i64 s), (1, .int .i64 t), (2, .int .i64 u), (3, .int .i64 r)] = some #[.int .i64 s, .int .i64 t, .int .i64 u, .int .i64 r] := by kernel_rfl
theorem built_so (cp : Nat) (s t u r : Int) : Tryz.prog.built 93 [(0, .pointer (some ⟨cp, 0, none⟩)), (1, .agg #[.int .i64 s, .int .i64 t, .int .i64 u, .int .i64 r])] = some #[.pointer (some ⟨cp, 0, none⟩), .int .i64 s, .int .i64 t, .int .i64 u, .int .i64 r, .int .i64 0, .slice none 0 0] := by kernel_rfl
theorem solO_new (w : World) (t : TypeId) (cp : Nat) {s u r x : Int} (h : Cfg.Ok ⟨s, u, r, x⟩) : SolO (w.alloc (.cells #[.pointer (some ⟨cp, 0, none⟩), .int .i64 s, .int .i64 u, .int .i64 r, .int .i64 x, .int .i64 0, .slice none 0 0] t)) w.heap.size cp ⟨s, u, r, x⟩ 0 (.slice none 0 0) [] :=
  ⟨CellsAt.new w t (solL cp ⟨s, u, r, x⟩ 0 (.slice none 0 0)), RowP.nil _ _, (fun p hp => by cases hp), List.nodup_nil, (fun p hp => by cases hp), (fun g hg => by cases hg), (fun p hp => by cases hp), h⟩
set_option maxRecDepth 100000 in
set_option maxHeartbeats 2000000 in
theorem new12_any (s t u r : Int) (w : World) :
    Calls Tryz.prog 23 #[.agg #[.int .i64 s, .int .i64 t, .int .i64 u, .int .i64 r]] w fun e w' => ∃ G cp b, e = .returned (.pointer (some ⟨G, 0, none⟩)) ∧ SolO w' G cp (cfgP s t u r) 0 (.slice none 0 0) [] ∧ CacAt w' cp b (cfgP s t u r).rm [] ∧ w.heap.size ≤ G ∧ w.heap.size ≤ cp ∧ w.heap.size ≤ b ∧ G ≠ cp ∧ G ≠ b ∧ Below w.heap.size w w' := by
  obtain ⟨W, hW⟩ : ∃ W, w.alloc (.cells #[.int .i64 s, .int .i64 t, .int .i64 u, .int .i64 r] 23) = W := ⟨_, rfl⟩
  have hb : Below w.heap.size w W := by rw [← hW]; exact (Below.refl _ _).alloc (Nat.le_refl _) _
  have HC : Hid (CellsAt W w.heap.size [.int .i64 s, .int .i64 t, .int .i64 u, .int .i64 r]) := Lib.hid (by rw [← hW]; exact CellsAt.new w _ [.int .i64 s, .int .i64 t, .int .i64 u, .int .i64 r])
  have HB := Lib.hid hb
  have HW0 : Hid (w.heap.size ≤ W.heap.size) := Lib.hid hb.size
  obtain ⟨R, hR⟩ : ∃ R, w.heap.size = R := ⟨_, rfl⟩
  have HRR := Lib.hid hR
  rw [hR] at HC
  have HNW := Lib.hid (new_any r W)
  have HOK := Lib.hid (cfgP_ok s t u r)
  obtain ⟨c, hc⟩ : ∃ c, cfgP s t u r = c := ⟨_, rfl⟩
  have HW1 := fun V => Lib.hid (within_any s 4 V)
  have HW2 := fun V => Lib.hid (within_any t 5 V)
  have HW3 := fun V => Lib.hid (within_any u 1000 V)
  obtain ⟨s', hs'⟩ : ∃ s', min (max s 1) 4 = s' := ⟨_, rfl⟩
  obtain ⟨t', ht'⟩ : ∃ t', min (max t 1) 5 = t' := ⟨_, rfl⟩
  obtain ⟨u', hu'⟩ : ∃ u', min (max u 1) 1000 = u' := ⟨_, rfl⟩
  obtain ⟨r', hr'⟩ : ∃ r', min (max r 1) 64 = r' := ⟨_, rfl⟩
  have hcc : c = ⟨s', t', u', r'⟩ := by rw [← hc, ← hs', ← ht', ← hu', ← hr']; rfl
  rw [hs'] at HW1
  rw [ht'] at HW2
  rw [hu'] at HW3
  rw [hr'] at HNW
  rw [hc, hcc] at HOK
  rw [hc, hcc]
  clear hb hc hcc hs' ht' hu' hr'
  go_enter Tryz.func23, Tryz.ntmps23
  go_upto_region 1 with fail
  try rw [hW]
  try rw [hR]
  clear hW hR
  have h3 := HC.out.cell 3 _ rfl
  go_wp2_with fail
  refine HNW.out.mono ?_
  rintro e w1 ⟨cp, b, rfl, hca, hcp, hbb, hb1⟩
  have HC1 := Lib.hid (HC.out.below hb1)
  have HB1 := Lib.hid (chain HB.out hb1)
  have HCA := Lib.hid hca
  have HCP := Lib.hid hcp
  have HBB := Lib.hid hbb
  have HWS : Hid (W.heap.size ≤ w1.heap.size) := Lib.hid hb1.size
  clear hca hcp hbb hb1 h3 HNW HC HB
  go_upto_region 2 with fail
  obtain ⟨S, hS⟩ : ∃ S : World → Prop, (fun V => Below w1.heap.size w1 V) = S := ⟨_, rfl⟩
  have HSB : Hid (∀ V, S V → Below w1.heap.size w1 V) := Lib.hid (fun V h => by rw [← hS] at h; exact h)
  have HSC : Hid (∀ V, S V → CellsAt V R [.int .i64 s, .int .i64 t, .int .i64 u, .int .i64 r]) := Lib.hid (fun V h => HC1.out.below (HSB.out V h))
  have C0 : Hid (∀ V, S V → V.cell? ⟨R, 0, none⟩ = some (.int .i64 s)) := Lib.hid (fun V h => (HSC.out V h).cell 0 _ rfl)
  have C1 : Hid (∀ V, S V → V.cell? ⟨R, 1, none⟩ = some (.int .i64 t)) := Lib.hid (fun V h => (HSC.out V h).cell 1 _ rfl)
  have C2 : Hid (∀ V, S V → V.cell? ⟨R, 2, none⟩ = some (.int .i64 u)) := Lib.hid (fun V h => (HSC.out V h).cell 2 _ rfl)
  have K1 : ∀ V, S V → Hid (Calls Tryz.prog 48 #[.int .i64 s, .int .i64 4] V fun e w' => e = .returned (.int .i64 s') ∧ S w') := fun V h => Lib.hid ((HW1 V).out.mono (by rintro e w' ⟨rfl, rfl⟩; exact ⟨rfl, h⟩))
  have K2 : ∀ V, S V → Hid (Calls Tryz.prog 48 #[.int .i64 t, .int .i64 5] V fun e w' => e = .returned (.int .i64 t') ∧ S w') := fun V h => Lib.hid ((HW2 V).out.mono (by rintro e w' ⟨rfl, rfl⟩; exact ⟨rfl, h⟩))
  have K3 : ∀ V, S V → Hid (Calls Tryz.prog 48 #[.int .i64 u, .int .i64 1000] V fun e w' => e = .returned (.int .i64 u') ∧ S w') := fun V h => Lib.hid ((HW3 V).out.mono (by rintro e w' ⟨rfl, rfl⟩; exact ⟨rfl, h⟩))
  have K4 : ∀ V, S V → Hid (Calls Tryz.prog 49 #[.pointer (some ⟨cp, 0, none⟩)] V fun e w' => e = .returned (.int .i64 r') ∧ S w') := fun V h => Lib.hid ((room_any cp b r' [] V (HCA.out.below (HSB.out V h))).mono (by rintro e w' ⟨rfl, rfl⟩; exact ⟨rfl, h⟩))
  have HS0 : Hid (S w1.drew) := Lib.hid (by rw [← hS]; exact (Below.refl _ _).drew)
  have HSA : Hid (∀ V (o : Obj), S V → S (V.alloc o)) := Lib.hid (fun V o h => by rw [← hS] at h ⊢; exact h.alloc h.size _)
  clear hS
  refine wp_region_noPanic ?_
  refine wp_region_held_drew (S := S) (by kernel_rfl) HS0.out (fun hHeld => ?_)
  generalize w1.drew = V at *
  refine tkT 0 ?_ rfl (Or.inl ⟨by rfl, ?_⟩) ?_
  rotate_left
  · (intro w hSw; go_simp; try (with_reducible rfl))
  try simp only [Act.put, pZ]
  refine tkT 1 ?_ rfl (Or.inl ⟨by rfl, ?_⟩) ?_
  rotate_left
  · (intro w hSw; go_simp; try (with_reducible rfl))
  try simp only [Act.put, pZ]
  refine tkT 2 ?_ rfl (Or.inl ⟨by rfl, ?_⟩) ?_
  rotate_left
  · (intro w hSw; have hc0 := C0.out w hSw; go_simp; try (with_reducible rfl))
  try simp only [Act.put, pZ]
  refine tkT 4 ?_ rfl (Or.inl ⟨by rfl, ?_⟩) ?_
  rotate_left
  · (intro w hSw; go_simp; try (with_reducible rfl))
  try simp only [Act.put, pZ]
  refine tkT 5 ?_ rfl (Or.inl ⟨by rfl, ?_⟩) ?_
  rotate_left
  · (intro w hSw; have hc0 := C1.out w hSw; go_simp; try (with_reducible rfl))
  try simp only [Act.put, pZ]
  refine tkT 7 ?_ rfl (Or.inl ⟨by rfl, ?_⟩) ?_
  rotate_left
  · (intro w hSw; go_simp; try (with_reducible rfl))
  try simp only [Act.put, pZ]
  refine tkT 8 ?_ rfl (Or.inl ⟨by rfl, ?_⟩) ?_
  rotate_left
  · (intro w hSw; have hc0 := C2.out w hSw; go_simp; try (with_reducible rfl))
  try simp only [Act.put, pZ]
  refine tkT 10 ?_ rfl (Or.inl ⟨by rfl, ?_⟩) ?_
  rotate_left
  · (intro w hSw; go_simp; try (with_reducible rfl))
  try simp only [Act.put, pZ]
  refine wpAnyH_ready (rs := [3]) (by kernel_rfl) (by simp) ?_
  refine AllReadyH.cons rfl (fun K hK => ?_) AllReadyH.nil
  go_simp
  refine (K1 _ (by assumption)).out.mono ?_
  rintro e wr3 ⟨rfl, hS3⟩
  go_wp2_with fail
  refine hK.out _ _ hS3 (fun hHeld => ?_)
  clear hK K
  try simp only [Act.put, pZ]
  refine wpAnyH_ready (rs := [6]) (by kernel_rfl) (by simp) ?_
  refine AllReadyH.cons rfl (fun K hK => ?_) AllReadyH.nil
  go_simp
  refine (K2 _ (by assumption)).out.mono ?_
  rintro e wr6 ⟨rfl, hS6⟩
  go_wp2_with fail
  refine hK.out _ _ hS6 (fun hHeld => ?_)
  clear hK K
  try simp only [Act.put, pZ]
  refine wpAnyH_ready (rs := [9]) (by kernel_rfl) (by simp) ?_
  refine AllReadyH.cons rfl (fun K hK => ?_) AllReadyH.nil
  go_simp
  refine (K3 _ (by assumption)).out.mono ?_
  rintro e wr9 ⟨rfl, hS9⟩
  go_wp2_with fail
  refine hK.out _ _ hS9 (fun hHeld => ?_)
  clear hK K
  try simp only [Act.put, pZ]
  refine wpAnyH_ready (rs := [11]) (by kernel_rfl) (by simp) ?_
  refine AllReadyH.cons rfl (fun K hK => ?_) AllReadyH.nil
  go_simp
  refine (K4 _ (by assumption)).out.mono ?_
  rintro e wr11 ⟨rfl, hS11⟩
  go_wp2_with fail
  refine hK.out _ _ hS11 (fun hHeld => ?_)
  clear hK K
  try simp only [Act.put, pZ]
  refine wpAnyH_take (i := 12) rfl (by kernel_rfl) (by kernel_rfl) (by kernel_rfl) (fun _ _ _ h => h) (yields_build (by rfl) rfl (built_cf s' t' u' r') (by simp only [List.map_toArray, List.map_cons, List.map_nil]; rfl)) (by assumption) ?_
  try simp only [Act.put, pZ]
  refine wpAnyH_take (i := 13) rfl (by kernel_rfl) (by kernel_rfl) (by kernel_rfl) (fun _ _ _ h => h) (yields_build (by rfl) rfl (built_so cp s' t' u' r') (by simp only [List.map_toArray, List.map_cons, List.map_nil]; rfl)) (by assumption) ?_
  try simp only [Act.put, pZ]
  refine wpAnyH_ready (rs := [14]) (by kernel_rfl) (by simp) ?_
  refine AllReadyH.one rfl rfl (fun K hK => ?_)
  go_wp2_with fail
  have HV := Lib.hid (HSB.out _ hHeld)
  refine hK.out _ _ (HSA.out _ _ hHeld) (fun hHeld2 => ?_)
  clear hK K
  try simp only [Act.put, pZ]
  refine tkT 15 ?_ rfl (Or.inl ⟨by rfl, ?_⟩) ?_
  rotate_left
  · (intro w hSw; go_simp; try (with_reducible rfl))
  try simp only [Act.put, pZ]
  refine wpAnyH_done (by kernel_rfl) ?_ _
  refine NoPanic.normal ?_
  have HSN := Lib.hid (solO_new wr11 93 cp HOK.out)
  clear hHeld hHeld2
  go_wp2_with fail
  go_ret
  have hv := HV.out
  have hws := HWS.out
  have hrr := HRR.out
  have hbs := HB1.out.size
  have hcl := HCA.out.lt
  have hvs := hv.size
  refine ⟨wr11.heap.size, cp, b, rfl, HSN.out, (HCA.out.below hv).below ((Below.refl _ _).alloc (Nat.le_refl _) _), by omega, ?_, ?_, by omega, by omega, (chain HB1.out hv).alloc (by omega) _⟩
  · exact Nat.le_trans HW0.out HCP.out
  · exact Nat.le_trans HW0.out HBB.out
def intsV (D : List Int) : List Value := D.map (Value.int .i64)
end Go.Proofs.YtedmkdjijhflnaaGreat
namespace Go.Proofs.YtedmkdjijhflnaaGreat
open Go.RowKit Go.Sort Go.Shelf Go.Maps

structure SolQ (w : World) (B G cp b : Nat) (c : Cfg) (n : Int) (v : Value) (A : List PL) : Prop where
  so : SolO w G cp c n v A
  ca : CacAt w cp b c.rm []
  na : cp ∉ fpO G v A ∧ b ∉ fpO G v A
  bs : ∀ k ∈ fpO G v A, B ≤ k
  lt : B ≤ w.heap.size
section
variable {w w' : World} {B G cp b : Nat} {c : Cfg} {n m : Int} {v v' : Value} {A A' : List PL}
theorem SolQ.below (h : SolQ w B G cp b c n v A) (hb : Below w.heap.size w w') : SolQ w' B G cp b c n v A :=
  ⟨h.so.below hb, h.ca.below hb, h.na, h.bs, Nat.le_trans h.lt hb.size⟩
theorem SolQ.next (h : SolQ w B G cp b c n v A) (hs : SolO w' G cp c m v' A') (hf : Foot (fpO G v A) (fpO G v' A') w w') : SolQ w' B G cp b c m v' A' ∧ Below B w w' := by
  have h1 := h.ca.lt
  refine ⟨⟨hs, h.ca.kept hf.size (hf.keep cp h1.1 h.na.1) (hf.keep b h1.2 h.na.2), ⟨hf.out h1.1 h.na.1, hf.out h1.2 h.na.2⟩, fun k hk => ?_, Nat.le_trans h.lt hf.size⟩, hf.below h.bs h.lt⟩
  rcases hf.new k hk with e | e
  · exact h.bs k e
  · exact Nat.le_trans h.lt e
end
theorem newQ_any (s t u r : Int) (w : World) :
    Calls Tryz.prog 23 #[.agg #[.int .i64 s, .int .i64 t, .int .i64 u, .int .i64 r]] w fun e w' => ∃ G cp b, e = .returned (.pointer (some ⟨G, 0, none⟩)) ∧ SolQ w' w.heap.size G cp b (cfgP s t u r) 0 (.slice none 0 0) [] ∧ Below w.heap.size w w' := by
  refine (new12_any s t u r w).mono ?_
  rintro e w' ⟨G, cp, b, rfl, h1, h2, h3, h4, h5, h6, h7, h8⟩
  refine ⟨G, cp, b, rfl, ⟨h1, h2, ⟨?_, ?_⟩, fun k hk => ?_, h8.size⟩, h8⟩
  · simp [fpO, Value.ownBlock]; omega
  · simp [fpO, Value.ownBlock]; omega
  · simp [fpO, Value.ownBlock] at hk; omega
theorem startQ_any (B G cp b : Nat) (nm : ByteArray) (kd draw now : Int) (c : Cfg) (n : Int) (v : Value) (A : List PL) (w : World) (h : SolQ w B G cp b c n v A) (hask : askOk nm kd = true)
    (hn : nm.size ≤ 2000000) (hk : (Lit.int .i64 kd).wf = true) (hd : (Lit.int .i64 draw).wf = true) (h0 : 0 ≤ now) (h1 : now ≤ 2199023255552) (hn0 : 0 ≤ n) (hn1 : n ≤ 999999) (hA : A.length ≤ 16) :
    Calls Tryz.prog 24 #[.pointer (some ⟨G, 0, none⟩), .string nm, .int .i64 kd, .int .i64 draw, .int .i64 now] w fun e w' => ∃ ev v' A', e = .returned (.tuple #[.int .i64 n, evV ev]) ∧ SolQ w' B G cp b c (n + 1) v' A' ∧ Below B w w' ∧ Foot (fpO G v A) (fpO G v' A') w w' ∧
      ((A.length = 16 ∧ ev = evF n 6 ∧ A' = A) ∨ (A.length ≠ 16 ∧ ev = evS (newLk c n nm kd draw now) ∧ ∃ g, A' = A ++ [(g, newLk c n nm kd draw now)])) := by
  have hl := h.ca.lt
  refine (start_any G cp b c.rm [] nm kd draw now [] c n v A w h.so (fun W hf => h.ca.kept hf.size (hf.keep cp hl.1 h.na.1) (hf.keep b hl.2 h.na.2)) (fun W _ e he => by cases he) (by decide) hn hk hd h0 h1 hn0 hn1 hA).mono ?_
  rintro e w' ⟨ev, v', A', rfl, hs, hf, hd⟩
  have hq := h.next hs hf
  refine ⟨ev, v', A', rfl, hq.1, hq.2, hf, ?_⟩
  have hg : (getE ([] : List Ce) (lowB nm) kd).isSome = false := rfl
  rw [hg, hask] at hd
  rcases hd with ⟨h, _⟩ | ⟨_, h, _⟩ | ⟨_, _, h, h2, _, h3⟩ | ⟨_, _, h, h2, g, _, h3⟩
  · cases h
  · cases h
  · exact .inl ⟨h, h2, h3⟩
  · exact .inr ⟨h, h2, g, h3⟩
theorem tickQ_any (B G cp b : Nat) (draw now : Int) (c : Cfg) (n : Int) (v : Value) (A : List PL) (w : World) (h : SolQ w B G cp b c n v A) (hal : ∀ p ∈ A, p.2.se < c.tr) (hd : (Lit.int .i64 draw).wf = true) (h0 : 0 ≤ now) (h1 : now ≤ 2199023255552) (hl : A.length ≤ 100) :
    Calls Tryz.prog 34 #[.pointer (some ⟨G, 0, none⟩), .int .i64 now, .int .i64 draw] w fun e w' => ∃ v' ve, e = .returned ve ∧ RowEv w' w.heap.size ve (tickE c now draw 0 A) ∧ SolQ w' B G cp b c n v' (tickA c now draw 0 A) ∧ Below B w w' ∧ Foot (fpO G v A) (fpO G v' (tickA c now draw 0 A)) w w' ∧ (∀ k ∈ fpO G v' (tickA c now draw 0 A), k < w.heap.size) := by
  refine (tick_any G cp draw now c n v A w h.so hal hd h0 h1 hl).mono ?_
  rintro e w' ⟨v', ve, rfl, hr, hv, hs, hf⟩
  have hsub : ∀ k ∈ fpO G v' (tickA c now draw 0 A), k ∈ fpO G v A := fun k hk => by
    rcases List.mem_cons.1 hk with rfl | hk
    · simp [fpO]
    rcases List.mem_append.1 hk with hk | hk
    · rw [hv] at hk
      exact List.mem_cons_of_mem _ (List.mem_append_left _ hk)
    · obtain ⟨q, hq, rfl⟩ := List.mem_map.1 hk
      exact List.mem_cons_of_mem _ (List.mem_append_right _ (tickA_sub _ _ q hq))
  have hq := h.next hs (⟨hf.os, hf.tape, hf.output, hf.size, hf.keep, fun k hk => .inl (hsub k hk)⟩)
  exact ⟨v', ve, rfl, hr, hq.1, hq.2, (⟨hf.os, hf.tape, hf.output, hf.size, hf.keep, fun k hk => .inl (hsub k hk)⟩), fun k hk => fpO_lt h.so k (hsub k hk)⟩
def cfg12 : Cfg := ⟨2, 2, 5, 1⟩
def nmA : ByteArray := ⟨#[97]⟩
def lv1 : Lk := ⟨0, nmA, ⟨7, nmA, 1, 0⟩, 0, 5, 0, 604800⟩
def lv2 : Lk := ⟨0, nmA, ⟨8, nmA, 1, 1⟩, 1, 10, 0, 604800⟩
theorem lv_ask : askOk nmA 1 = true := by kernel_rfl
theorem lv_new : newLk cfg12 0 nmA 1 7 0 = lv1 := by kernel_rfl
theorem lv_t1 (g : Nat) : tickA cfg12 5 8 0 [(g, lv1)] = [(g, lv2)] := by kernel_rfl
theorem lv_e1 (g : Nat) : tickE cfg12 5 8 0 [(g, lv1)] = [evS lv2] := by kernel_rfl
theorem lv_t2 (g : Nat) : tickA cfg12 10 9 0 [(g, lv2)] = [] := by kernel_rfl
theorem lv_e2 (g : Nat) : tickE cfg12 10 9 0 [(g, lv2)] = [evF 0 9] := by kernel_rfl
theorem RowEv.one {w : World} {B : Nat} {v : Value} {e : Ev} (h : RowEv w B v [e]) : ∃ g c, v = .slice (some ⟨g, 0, none⟩) 1 c ∧ B ≤ g ∧ g < w.heap.size ∧ w.rangeAt g 0 (evL e) := by
  rcases h.form with ⟨_, e2⟩ | ⟨g, cap, e1, h1, h2, _, _, h3⟩
  · cases e2
  · exact ⟨g, cap, e1, h1, h2, by simpa [flatEv] using h3⟩
end Go.Proofs.YtedmkdjijhflnaaGreat
namespace Go.Proofs.YtedmkdjijhflnaaGreat
open Go.RowKit Go.Sort Go.Shelf Go.Maps

structure SolE (w : World) (B G cp b : Nat) (c : Cfg) (n : Int) (v : Value) (A : List PL) (es : List Ce) : Prop where
  so : SolO w G cp c n v A
  ca : CacAt w cp b c.rm es
  na : cp ∉ fpO G v A ∧ b ∉ fpO G v A
  bs : ∀ k ∈ b :: fpO G v A, B ≤ k
  lt : B ≤ w.heap.size
section
variable {w w' : World} {B G cp b : Nat} {c : Cfg} {n m : Int} {v v' : Value} {A A' : List PL} {es es' : List Ce}
theorem SolE.below (h : SolE w B G cp b c n v A es) (hb : Below w.heap.size w w') : SolE w' B G cp b c n v A es :=
  ⟨h.so.below hb, h.ca.below hb, h.na, h.bs, Nat.le_trans h.lt hb.size⟩
theorem SolE.next (h : SolE w B G cp b c n v A es) (hs : SolO w' G cp c m v' A') (hf : Foot (fpO G v A) (fpO G v' A') w w') : SolE w' B G cp b c m v' A' es ∧ Below B w w' := by
  have h1 := h.ca.lt
  refine ⟨⟨hs, h.ca.kept hf.size (hf.keep cp h1.1 h.na.1) (hf.keep b h1.2 h.na.2), ⟨hf.out h1.1 h.na.1, hf.out h1.2 h.na.2⟩, fun k hk => ?_, Nat.le_trans h.lt hf.size⟩, hf.below (fun k hk => h.bs k (List.mem_cons_of_mem _ hk)) h.lt⟩
  rcases List.mem_cons.1 hk with rfl | hk
  · exact h.bs k (by simp)
  rcases hf.new k hk with e | e
  · exact h.bs k (List.mem_cons_of_mem _ e)
  · exact Nat.le_trans h.lt e
theorem fpO_less (hv : v'.ownBlock = v.ownBlock) (hA : ∀ k ∈ A'.map Prod.fst, k ∈ A.map Prod.fst) : ∀ k ∈ fpO G v' A', k ∈ fpO G v A := fun k hk => by
  rcases List.mem_cons.1 hk with rfl | hk
  · simp [fpO]
  rcases List.mem_append.1 hk with hk | hk
  · rw [hv] at hk; exact List.mem_cons_of_mem _ (List.mem_append_left _ hk)
  · exact List.mem_cons_of_mem _ (List.mem_append_right _ (hA k hk))
theorem SolE.less (h : SolE w B G cp b c n v A es) (hs : SolO w' G cp c n v' A') (hc : CacAt w' cp b c.rm es') (hv : v'.ownBlock = v.ownBlock) (hA : ∀ k ∈ A'.map Prod.fst, k ∈ A.map Prod.fst) (hf : Foot (b :: fpO G v A) (b :: fpO G v A) w w') : SolE w' B G cp b c n v' A' es' ∧ Below B w w' := by
  have hl := fpO_less (G := G) hv hA
  refine ⟨⟨hs, hc, ⟨fun e => h.na.1 (hl _ e), fun e => h.na.2 (hl _ e)⟩, fun k hk => ?_, Nat.le_trans h.lt hf.size⟩, hf.below h.bs h.lt⟩
  rcases List.mem_cons.1 hk with rfl | hk
  · exact h.bs k (by simp)
  · exact h.bs k (List.mem_cons_of_mem _ (hl k hk))
end
theorem newE_any (s t u r : Int) (w : World) :
    Calls Tryz.prog 23 #[.agg #[.int .i64 s, .int .i64 t, .int .i64 u, .int .i64 r]] w fun e w' => ∃ G cp b, e = .returned (.pointer (some ⟨G, 0, none⟩)) ∧ SolE w' w.heap.size G cp b (cfgP s t u r) 0 (.slice none 0 0) [] [] ∧ Below w.heap.size w w' := by
  refine (new12_any s t u r w).mono ?_
  rintro e w' ⟨G, cp, b, rfl, h1, h2, h3, h4, h5, h6, h7, h8⟩
  refine ⟨G, cp, b, rfl, ⟨h1, h2, ⟨?_, ?_⟩, fun k hk => ?_, h8.size⟩, h8⟩
  · simp [fpO, Value.ownBlock]; omega
  · simp [fpO, Value.ownBlock]; omega
  · simp [fpO, Value.ownBlock] at hk; omega
def StartW (w w' : World) (c : Cfg) (n : Int) (v : Value) (A : List PL) (nm : ByteArray) (kd draw now : Int) (E : Ce) (hb : Bool) (L : List Ad) (ev : Ev) (v' : Value) (A' : List PL) : Prop :=
  (askOk nm kd = false ∧ ev = evF n 1 ∧ v' = v ∧ A' = A) ∨
  (askOk nm kd = true ∧ hb = true ∧ now < E.u ∧ v' = v ∧ A' = A ∧ ∃ a c, ev = evD n a L.length c ∧ RowA w' w.heap.size (.slice a L.length c) L) ∨
  (askOk nm kd = true ∧ (hb = false ∨ E.u ≤ now) ∧ A.length = 16 ∧ ev = evF n 6 ∧ v' = v ∧ A' = A) ∨
  (askOk nm kd = true ∧ (hb = false ∨ E.u ≤ now) ∧ A.length ≠ 16 ∧ ev = evS (newLk c n nm kd draw now) ∧ ∃ g, w.heap.size ≤ g ∧ A' = A ++ [(g, newLk c n nm kd draw now)])
theorem startE_any (B G cp b : Nat) (nm : ByteArray) (kd draw now : Int) (L : List Ad) (c : Cfg) (n : Int) (v : Value) (A : List PL) (es : List Ce) (w : World) (h : SolE w B G cp b c n v A es)
    (hL : ∀ e, getE es (lowB nm) kd = some e → e.n = L.length ∧ AdsIn w e.a e.c L ∧ ∀ g o, e.a = some ⟨g, o, none⟩ → g ∉ fpO G v A) (hl : L.length ≤ 1000)
    (hn : nm.size ≤ 2000000) (hk : (Lit.int .i64 kd).wf = true) (hd : (Lit.int .i64 draw).wf = true) (h0 : 0 ≤ now) (h1 : now ≤ 2199023255552) (hn0 : 0 ≤ n) (hn1 : n ≤ 999999) (hA : A.length ≤ 16) :
    Calls Tryz.prog 24 #[.pointer (some ⟨G, 0, none⟩), .string nm, .int .i64 kd, .int .i64 draw, .int .i64 now] w fun e w' => ∃ ev v' A', e = .returned (.tuple #[.int .i64 n, evV ev]) ∧ SolE w' B G cp b c (n + 1) v' A' es ∧ Below B w w' ∧ Foot (fpO G v A) (fpO G v' A') w w' ∧
      StartW w w' c n v A nm kd draw now (theE es (lowB nm) kd) (getE es (lowB nm) kd).isSome L ev v' A' := by
  have hlt := h.ca.lt
  refine (start_any G cp b c.rm es nm kd draw now L c n v A w h.so (fun W hf => h.ca.foot hf h.na.1 h.na.2) (fun W hf e he => ?_) hl hn hk hd h0 h1 hn0 hn1 hA).mono ?_
  · obtain ⟨e1, e2, e3⟩ := hL e he
    exact ⟨e1, e2.foot hf e3⟩
  · rintro e w' ⟨ev, v', A', rfl, hs, hf, hd⟩
    have hq := h.next hs hf
    exact ⟨ev, v', A', rfl, hq.1, hq.2, hf, hd⟩
theorem hearE_any (B G cp b : Nat) (sv draw now : Int) (ad : Option Addr) (cb : Nat) (bs : List UInt8) (c : Cfg) (n : Int) (v : Value) (A : List PL) (es : List Ce) (w : World) (h : SolE w B G cp b c n v A es) (hal : ∀ p ∈ A, p.2.se < c.tr ∧ p.2.st ≤ 8)
    (hd : (Lit.int .i64 draw).wf = true) (h0 : 0 ≤ now) (h1 : now ≤ 2199023255552) (hl : A.length ≤ 100) (hB : BytesIn2 w ad cb bs) (had : ∀ x, ad = some x → bs.length ≠ 0 → x.block < w.heap.size) (hcnt : ∀ m, mgP bs = some m → m.an.length ≤ 900) :
    Calls Tryz.prog 21 #[.pointer (some ⟨G, 0, none⟩), .int .i64 sv, .slice ad bs.length cb, .int .i64 draw, .int .i64 now] w fun e w' => ∃ ve L v' A' es', e = .returned ve ∧ RowEv w' w.heap.size ve L ∧ SolE w' B G cp b c n v' A' es' ∧ Below B w w' ∧ Foot (b :: fpO G v A) (b :: fpO G v A) w w' ∧ (∀ k ∈ fpO G v' A', k ∈ fpO G v A) ∧
    ((L = [] ∧ A' = A ∧ es' = es ∧ ((bs.length ≤ 1232 → mgP bs = none) ∨ ∃ m, bs.length ≤ 1232 ∧ mgP bs = some m ∧ ∀ q ∈ A, ansP q.2.q sv m = false)) ∨
     ∃ m P p D ev a cap, bs.length ≤ 1232 ∧ mgP bs = some m ∧ A = P ++ p :: D ∧ (∀ q ∈ P, ansP q.2.q sv m = false) ∧ ansP p.2.q sv m = true ∧ L = [ev] ∧ (∀ g o, a = some ⟨g, o, none⟩ → w.heap.size ≤ g) ∧ ToldW w w' c A es p (tellP m.fl p.2.q.nm p.2.q.ty m.an) a cap draw now ev A' es') := by
  refine (hear_any G cp b sv draw now ad cb bs c n v A es w h.so h.ca h.na hal hd h0 h1 hl hB had hcnt).mono ?_
  rintro e w' ⟨ve, L, v', A', es', rfl, hr, hv, hs, hc, hf, hsub, hd⟩
  have hq := h.less hs hc hv hsub hf
  exact ⟨ve, L, v', A', es', rfl, hr, hq.1, hq.2, hf, fpO_less hv hsub, hd⟩
end Go.Proofs.YtedmkdjijhflnaaGreat
namespace Go.Proofs.YtedmkdjijhflnaaGreat
open Go.RowKit Go.Maps

end Go.Proofs.YtedmkdjijhflnaaGreat
namespace Go.Proofs.YtedmkdjijhflnaaGreat
open Go.RowKit Go.Maps

def NoteRet (w : World) (G B : Nat) (vB : Value) (m : Option Nat) (l : List UInt8) (ns : List ByteArray) (ats : List Nat) (e : Ending) (w' : World) : Prop :=
  e = .returned (.tuple #[]) ∧ ∃ m', WrAt w' G B vB m' l ns ats ∧ Foot (wblk G vB m) (wblk G vB m') w w'
end Go.Proofs.YtedmkdjijhflnaaGreat
namespace Go.Proofs.YtedmkdjijhflnaaGreat
open Go.RowKit Go.Maps

def WNameRet (w : World) (G B : Nat) (F0 : List Nat) (b : Bool) (R : List UInt8 × List ByteArray × List Nat) (e : Ending) (w' : World) : Prop :=
  e = .returned (.bool b) ∧ ∃ vB m, WrAt w' G B vB m R.1 R.2.1 R.2.2 ∧ Foot F0 (wblk G vB m) w w'
theorem conv_below (w : World) (s : ByteArray) : Below w.heap.size w (Lib.bytesWorld w 5 s) := ⟨rfl, rfl, rfl, by rw [Lib.bytesWorld_size]; omega, fun k hk => Lib.bytesWorld_at_old w _ s k hk⟩
theorem conv_cells (w : World) (s : ByteArray) : ∀ j u, (bys s.data.toList)[j]? = some u → (Lib.bytesWorld w 5 s).cell? ⟨w.heap.size, j, none⟩ = some u := by
  intro j u hu
  have hj : j < s.size := by
    have := (List.getElem?_eq_some_iff.1 hu).1
    rw [bys_length, data_size] at this
    exact this
  rw [Lib.bytesWorld_cell w _ s j hj]
  have hj2 : j < s.data.toList.length := by rw [data_size]; exact hj
  unfold bys at hu
  rw [List.getElem?_map, List.getElem?_eq_getElem hj2] at hu
  rw [List.getD_eq_getElem?_getD, List.getElem?_eq_getElem hj2]
  exact hu
end Go.Proofs.YtedmkdjijhflnaaGreat
namespace Go.Proofs.YtedmkdjijhflnaaGreat
open Go.RowKit Go.Maps

theorem find8_longer : ∀ (ns : List ByteArray) (ats : List Nat) (x : ByteArray), (∀ n ∈ ns, x.size < n.size) → find8 ns ats x = none := by
  intro ns ats x h
  refine find8_none ns ats x (fun j hj e => ?_)
  have := h _ (List.getElem_mem hj)
  rw [e] at this
  omega
theorem bytesTo_size (l : List ByteArray) : ∀ k, (bytesTo l k).length + 1 = sizeTo l k
  | 0 => rfl
  | k + 1 => by
    have h := bytesTo_size l k
    have e : sizeTo l (k + 1) = sizeTo l k + 1 + (l.getD k ⟨#[]⟩).size := rfl
    have e2 : (bytesTo l (k + 1)).length = (bytesTo l k).length + (1 + (l.getD k ⟨#[]⟩).size) := by
      show (bytesTo l k ++ labL _).length = _
      rw [List.length_append]
      unfold labL
      rw [List.length_cons, data_size]
      omega
    omega
theorem bytesL_size (l : List ByteArray) : (bytesL l).length = sizeL l := by
  unfold bytesL sizeL
  rw [List.length_append, ← bytesTo_size]
  rfl
def bytes8 (s : ByteArray) : List UInt8 := if mayN s = true then bytesL (labelsB s) else []
def errI (s : ByteArray) : Int := if mayN s = true then 0 else 1
end Go.Proofs.YtedmkdjijhflnaaGreat
namespace Go.Proofs.YtedmkdjijhflnaaGreat
open Go.RowKit

theorem ptr_facts (l rest : List UInt8) (n : Nat) (h : n < 16384) : l.length + 1 < (l ++ [UInt8.ofNat (192 + n / 256), UInt8.ofNat (n % 256)] ++ rest).length ∧ 192 ≤ ((l ++ [UInt8.ofNat (192 + n / 256), UInt8.ofNat (n % 256)] ++ rest).getD l.length 0).toNat ∧ toAt (l ++ [UInt8.ofNat (192 + n / 256), UInt8.ofNat (n % 256)] ++ rest) l.length = n := by
  have hl : (l ++ [UInt8.ofNat (192 + n / 256), UInt8.ofNat (n % 256)] ++ rest).length = l.length + 2 + rest.length := by simp; omega
  have g1 : ((l ++ [UInt8.ofNat (192 + n / 256), UInt8.ofNat (n % 256)] ++ rest).getD l.length 0).toNat = 192 + n / 256 := by
    rw [List.append_assoc, List.getD_eq_getElem?_getD, List.getElem?_append_right (Nat.le_refl _), Nat.sub_self]
    show (UInt8.ofNat (192 + n / 256)).toNat = _
    rw [UInt8.toNat_ofNat', Nat.mod_eq_of_lt (by omega)]
  have g2 : ((l ++ [UInt8.ofNat (192 + n / 256), UInt8.ofNat (n % 256)] ++ rest).getD (l.length + 1) 0).toNat = n % 256 := by
    rw [List.append_assoc, List.getD_eq_getElem?_getD, List.getElem?_append_right (by omega), Nat.add_sub_cancel_left]
    show (UInt8.ofNat (n % 256)).toNat = _
    rw [UInt8.toNat_ofNat', Nat.mod_eq_of_lt (by omega)]
  refine ⟨by omega, by omega, ?_⟩
  unfold toAt
  rw [g1, g2]
  omega
def WInv (l : List UInt8) (ns : List ByteArray) (ats : List Nat) : Prop :=
  ats.length = ns.length ∧ (∀ a ∈ ats, a < 16384) ∧ ∀ x n, find8 ns ats x = some n → ∃ nx, Sp l n n (labelsB x) nx
theorem WInv.nil : WInv [] [] [] := ⟨rfl, by simp, fun x n h => by unfold find8 at h; cases h⟩
theorem WInv.more {l : List UInt8} {ns : List ByteArray} {ats : List Nat} (h : WInv l ns ats) (x : List UInt8) : WInv (l ++ x) ns ats :=
  ⟨h.1, h.2.1, fun y n hy => by obtain ⟨nx, hs⟩ := h.2.2 y n hy; exact ⟨nx, hs.more x⟩⟩
theorem nm8_sp (s : ByteArray) (hm : mayN s = true) (P0 : Nat) : ∀ (f i : Nat) (l : List UInt8) (ns : List ByteArray) (ats : List Nat), (labelsB s).length + 1 = i + f → i ≤ (labelsB s).length → ats.length = ns.length → (∀ a ∈ ats, a < 16384) → P0 ≤ l.length →
    (∀ x n, x.size ≤ (restB s i).size → find8 ns ats x = some n → n < P0 ∧ ∃ nx, Sp l n n (labelsB x) nx) →
    ∃ tl, (nm8 s (labelsB s) f i l ns ats).1 = l ++ tl ∧ tl.length ≤ ((labelsB s).length - i) * 64 + 2 ∧ (nm8 s (labelsB s) f i l ns ats).2.1.length ≤ ns.length + ((labelsB s).length - i) ∧ (∃ nx, Sp (l ++ tl) P0 l.length ((labelsB s).drop i) nx) ∧
      (∀ x, (restB s i).size < x.size → find8 (nm8 s (labelsB s) f i l ns ats).2.1 (nm8 s (labelsB s) f i l ns ats).2.2 x = find8 ns ats x) ∧
      (∀ x n, x.size ≤ (restB s i).size → find8 (nm8 s (labelsB s) f i l ns ats).2.1 (nm8 s (labelsB s) f i l ns ats).2.2 x = some n → ∃ nx, Sp (l ++ tl) n n (labelsB x) nx) ∧
      (nm8 s (labelsB s) f i l ns ats).2.2.length = (nm8 s (labelsB s) f i l ns ats).2.1.length ∧ (∀ a ∈ (nm8 s (labelsB s) f i l ns ats).2.2, a < 16384)
  | 0, i, l, ns, ats, h, hi, _, _, _, _ => by omega
  | f + 1, i, l, ns, ats, h, hi, hla, hat, hP, hG => by
    unfold nm8
    by_cases hl : (labelsB s).length ≤ i
    · rw [if_pos hl]
      refine ⟨[0], rfl, by simp, by simp, ?_, fun x _ => rfl, fun x n hx hf => ?_, hla, hat⟩
      · rw [List.drop_eq_nil_iff.2 hl]
        refine ⟨_, .zero (by simp) ?_⟩
        rw [List.getD_eq_getElem?_getD, List.getElem?_append_right (Nat.le_refl _), Nat.sub_self]
        rfl
      · obtain ⟨_, nx, hs⟩ := hG x n hx hf
        exact ⟨nx, hs.more _⟩
    · rw [if_neg hl]
      have hil : i < (labelsB s).length := by omega
      have hdrop : (labelsB s).drop i = labelsB (restB s i) := (labels_rest i (may_full hm)).symm
      cases hf : find8 ns ats (restB s i) with
      | some n =>
        have hn := hat n (find8_mem ns ats _ n hf)
        obtain ⟨hnP, nx, hs⟩ := hG (restB s i) n (Nat.le_refl _) hf
        obtain ⟨f1, f2, f3⟩ := ptr_facts l [] n hn
        rw [List.append_nil] at f1 f2 f3
        refine ⟨_, rfl, by simp, by simp, ?_, fun x _ => rfl, fun x k hx hf => ?_, hla, hat⟩
        · rw [hdrop]
          exact ⟨_, .ptr f1 f2 (by rw [f3]; exact hnP) (by rw [f3]; exact hs.more _)⟩
        · obtain ⟨_, nx, hs⟩ := hG x k hx hf
          exact ⟨nx, hs.more _⟩
      | none =>
        simp only
        have hrp : 0 < (restB s i).size := (rest_pos (may_full hm) i).2 hil
        have hlt : (restB s (i + 1)).size < (restB s i).size := by rw [rest_par]; exact par_lt _ hrp
        obtain ⟨p, hp⟩ : ∃ p, (labelsB s).getD i ⟨#[]⟩ = p := ⟨_, rfl⟩
        have hpm : p ∈ labelsB s := by
          rw [← hp, List.getD_eq_getElem?_getD, List.getElem?_eq_getElem hil]
          exact List.getElem_mem hil
        have hpl := may_label hm p hpm
        have hcons : (labelsB s).drop i = p :: (labelsB s).drop (i + 1) := by
          rw [List.drop_eq_getElem_cons hil]
          congr 1
          rw [← hp, List.getD_eq_getElem?_getD, List.getElem?_eq_getElem hil]
          rfl
        rw [hp]
        have hlab : (labL p).length = 1 + p.size := by unfold labL; rw [List.length_cons, data_size]; omega
        obtain ⟨ns2, hns2⟩ : ∃ ns2, (if l.length < 16384 then ns ++ [restB s i] else ns) = ns2 := ⟨_, rfl⟩
        obtain ⟨ats2, hats2⟩ : ∃ ats2, (if l.length < 16384 then ats ++ [l.length] else ats) = ats2 := ⟨_, rfl⟩
        rw [hns2, hats2]
        -- what is found behind the note
        have hfind : ats2.length = ns2.length ∧ (∀ a ∈ ats2, a < 16384) ∧ ns2.length ≤ ns.length + 1 ∧ ∀ x, find8 ns2 ats2 x = match find8 ns ats x with | some k => some k | none => if restB s i = x ∧ l.length < 16384 then some l.length else none := by
          by_cases hb : l.length < 16384
          · rw [if_pos hb] at hns2 hats2
            rw [← hns2, ← hats2]
            refine ⟨by simp [hla], fun a ha => ?_, by simp, fun x => ?_⟩
            · rcases List.mem_append.1 ha with ha | ha
              · exact hat a ha
              · rw [List.mem_singleton.1 ha]; exact hb
            · rw [find8_snoc ns ats _ _ x hla]
              cases find8 ns ats x with
              | some k => rfl
              | none => simp [hb]
          · rw [if_neg hb] at hns2 hats2
            rw [← hns2, ← hats2]
            refine ⟨hla, hat, by omega, fun x => ?_⟩
            cases find8 ns ats x with
            | some k => rfl
            | none => simp [hb]
        obtain ⟨hla2, hat2, hnn2, hf2⟩ := hfind
        have hll : (l ++ labL p).length = l.length + 1 + p.size := by rw [List.length_append, hlab]; omega
        obtain ⟨tl, t1, t2, t3, ⟨nx, t4⟩, t5, t6, t7, t8⟩ := nm8_sp s hm P0 f (i + 1) (l ++ labL p) ns2 ats2 (by omega) (by omega) hla2 hat2 (by omega) (fun x n hx hfx => by
          rw [hf2 x] at hfx
          cases hfo : find8 ns ats x with
          | some k =>
            rw [hfo] at hfx
            have : k = n := by simpa using hfx
            subst this
            obtain ⟨g1, g2, g3⟩ := hG x k (by omega) hfo
            exact ⟨g1, g2, g3.more _⟩
          | none =>
            rw [hfo] at hfx
            simp only at hfx
            by_cases hrx : restB s i = x ∧ l.length < 16384
            · rw [← hrx.1] at hx; omega
            · rw [if_neg hrx] at hfx; cases hfx)
        have hspell : ∃ nx, Sp (l ++ (labL p ++ tl)) P0 l.length ((labelsB s).drop i) nx := by
          obtain ⟨f1, f2, f3, f4⟩ := lab_facts l tl p hpl.2
          rw [hll] at t4
          rw [hcons, ← List.append_assoc]
          exact ⟨nx, .lab f1 f2 (by omega) hpl.2 f3 f4 (labels_free s p hpm) t4⟩
        have hmul : ((labelsB s).length - i) * 64 = ((labelsB s).length - (i + 1)) * 64 + 64 := by
          have : (labelsB s).length - i = (labelsB s).length - (i + 1) + 1 := by omega
          rw [this, Nat.succ_mul]
        refine ⟨labL p ++ tl, by rw [t1, List.append_assoc], by rw [List.length_append, hlab, hmul]; omega, by omega, hspell, fun x hx => ?_, fun x n hx hfx => ?_, t7, t8⟩
        · rw [t5 x (by omega), hf2 x]
          cases find8 ns ats x with
          | some k => rfl
          | none =>
            simp only
            rw [if_neg (fun e => by rw [e.1] at hx; omega)]
        · by_cases hsm : x.size ≤ (restB s (i + 1)).size
          · obtain ⟨nx2, h2⟩ := t6 x n hsm hfx
            rw [List.append_assoc] at h2
            exact ⟨nx2, h2⟩
          · rw [t5 x (by omega), hf2 x] at hfx
            cases hfo : find8 ns ats x with
            | some k =>
              rw [hfo] at hfx
              have : k = n := by simpa using hfx
              subst this
              obtain ⟨_, g2, g3⟩ := hG x k hx hfo
              exact ⟨g2, g3.more _⟩
            | none =>
              rw [hfo] at hfx
              simp only at hfx
              by_cases hrx : restB s i = x ∧ l.length < 16384
              · rw [if_pos hrx] at hfx
                have : l.length = n := by simpa using hfx
                subst this
                obtain ⟨nx2, h2⟩ := hspell
                rw [← hrx.1, ← hdrop]
                exact ⟨nx2, h2.wider hP⟩
              · rw [if_neg hrx] at hfx; cases hfx
def nmAll (s : ByteArray) (l : List UInt8) (ns : List ByteArray) (ats : List Nat) : List UInt8 × List ByteArray × List Nat :=
  if mayN s = true then nm8 s (labelsB s) ((labelsB s).length + 1) 0 l ns ats else (l, ns, ats)
end Go.Proofs.YtedmkdjijhflnaaGreat
namespace Go.Proofs.YtedmkdjijhflnaaGreat
open Go.RowKit

theorem nm8_facts (s : ByteArray) (L : List ByteArray) (hL : ∀ p ∈ L, p.size ≤ 63) : ∀ (f i n : Nat) (ns : List ByteArray) (ats : List Nat), ∃ tl ns' ats', (∀ l : List UInt8, l.length = n → nm8 s L f i l ns ats = (l ++ tl, ns', ats')) ∧ tl.length ≤ (L.length - i) * 64 + 2 ∧ ns'.length ≤ ns.length + (L.length - i) ∧ (ats.length = ns.length → ats'.length = ns'.length) ∧ ((∀ a ∈ ats, a < 16384) → ∀ a ∈ ats', a < 16384) ∧ (∀ p ∈ ns', p ∈ ns ∨ p.size ≤ s.size) ∧ ns'.length ≤ ns.length + tl.length
  | 0, i, n, ns, ats => ⟨[], ns, ats, fun l _ => by simp [nm8], by simp, by omega, id, id, fun p hp => .inl hp, by simp⟩
  | f + 1, i, n, ns, ats => by
    by_cases hi : L.length ≤ i
    · exact ⟨[0], ns, ats, fun l _ => by rw [nm8, if_pos hi], by simp, by omega, id, id, fun p hp => .inl hp, by simp⟩
    · cases hf : find8 ns ats (restB s i) with
      | some k => exact ⟨[UInt8.ofNat (192 + k / 256), UInt8.ofNat (k % 256)], ns, ats, fun l _ => by rw [nm8, if_neg hi, hf], by simp, by omega, id, id, fun p hp => .inl hp, by simp⟩
      | none =>
        have hlab : (labL (L.getD i ⟨#[]⟩)).length ≤ 64 := by
          have : L.getD i ⟨#[]⟩ ∈ L := by
            rw [List.getD_eq_getElem?_getD, List.getElem?_eq_getElem (by omega)]
            exact List.getElem_mem _
          have := hL _ this
          generalize L.getD i ⟨#[]⟩ = q at *
          have := data_size q
          unfold labL
          simp only [List.length_cons]
          omega
        obtain ⟨tl, ns', ats', h1, h2, h3, h4, h5, h6, h7⟩ := nm8_facts s L hL f (i + 1) (n + (labL (L.getD i ⟨#[]⟩)).length) (if n < 16384 then ns ++ [restB s i] else ns) (if n < 16384 then ats ++ [n] else ats)
        refine ⟨labL (L.getD i ⟨#[]⟩) ++ tl, ns', ats', fun l hl => ?_, ?_, ?_, fun e => h4 ?_, fun e => h5 ?_, fun p hp => ?_, ?_⟩
        · rw [nm8, if_neg hi, hf]
          simp only [hl]
          rw [h1 _ (by rw [List.length_append, hl]), List.append_assoc]
        · rw [List.length_append]; omega
        · by_cases hn : n < 16384
          · rw [if_pos hn] at h3; simp at h3; omega
          · rw [if_neg hn] at h3; omega
        · by_cases hn : n < 16384
          · rw [if_pos hn, if_pos hn]; simp [e]
          · rw [if_neg hn, if_neg hn]; exact e
        · by_cases hn : n < 16384
          · rw [if_pos hn]
            intro a ha
            rcases List.mem_append.1 ha with ha | ha
            · exact e a ha
            · rw [List.mem_singleton.1 ha]; exact hn
          · rw [if_neg hn]; exact e
        · rcases h6 p hp with h | h
          · by_cases hn : n < 16384
            · rw [if_pos hn] at h
              rcases List.mem_append.1 h with h | h
              · exact .inl h
              · rw [List.mem_singleton.1 h]; exact .inr (rest_le s i)
            · rw [if_neg hn] at h; exact .inl h
          · exact .inr h
        · have hlb : 1 ≤ (labL (L.getD i ⟨#[]⟩)).length := by unfold labL; simp
          rw [List.length_append]
          by_cases hn : n < 16384
          · rw [if_pos hn] at h7; simp only [List.length_append, List.length_cons, List.length_nil] at h7; omega
          · rw [if_neg hn] at h7; omega
abbrev Wst := List UInt8 × List ByteArray × List Nat
def nmT (s : ByteArray) (n : Nat) (ns : List ByteArray) (ats : List Nat) : Wst :=
  ((nm8 s (labelsB s) ((labelsB s).length + 1) 0 (List.replicate n 0) ns ats).1.drop n, (nm8 s (labelsB s) ((labelsB s).length + 1) 0 (List.replicate n 0) ns ats).2)
structure NmT (s : ByteArray) (n : Nat) (ns : List ByteArray) (ats : List Nat) : Prop where
  eq : ∀ l : List UInt8, l.length = n → nm8 s (labelsB s) ((labelsB s).length + 1) 0 l ns ats = (l ++ (nmT s n ns ats).1, (nmT s n ns ats).2.1, (nmT s n ns ats).2.2)
  len : (nmT s n ns ats).1.length ≤ 16300
  lns : (nmT s n ns ats).2.1.length ≤ ns.length + 254
  two : ats.length = ns.length → (nmT s n ns ats).2.2.length = (nmT s n ns ats).2.1.length
  low : (∀ a ∈ ats, a < 16384) → ∀ a ∈ (nmT s n ns ats).2.2, a < 16384
  lnt : (nmT s n ns ats).2.1.length ≤ ns.length + (nmT s n ns ats).1.length
  sm : (∀ p ∈ ns, p.size ≤ 253) → ∀ p ∈ (nmT s n ns ats).2.1, p.size ≤ 253
theorem nmT_is {s : ByteArray} (hm : mayN s = true) (n : Nat) (ns : List ByteArray) (ats : List Nat) : NmT s n ns ats := by
  have hs := may_small hm
  have hl := labels_len s
  obtain ⟨tl, ns', ats', h1, h2, h3, h4, h5, h6, h7⟩ := nm8_facts s (labelsB s) (fun p hp => (may_label hm p hp).2) ((labelsB s).length + 1) 0 n ns ats
  have hT : nmT s n ns ats = (tl, ns', ats') := by
    unfold nmT
    rw [h1 (List.replicate n 0) (by simp)]
    simp
  refine ⟨fun l e => by rw [hT, h1 l e], ?_, ?_, ?_, ?_, ?_, ?_⟩ <;> rw [hT]
  · show tl.length ≤ 16300
    omega
  · show ns'.length ≤ _
    omega
  · exact h4
  · exact h5
  · exact h7
  · intro e p hp
    rcases h6 p hp with h | h
    · exact e p h
    · omega
def byB (b : List Nat) : List UInt8 := b.map UInt8.ofNat
def daT (r : Rec) (n : Nat) (ns : List ByteArray) (ats : List Nat) : Wst :=
  if r.ty = 1 then (byB (r.b.take 4), ns, ats) else if r.ty = 28 then (byB r.b, ns, ats) else if r.ty = 5 then nmT r.tg n ns ats else (r.da.data.toList, ns, ats)
def numsR (r : Rec) : List UInt8 := twoL r.ty.toNat ++ twoL r.cl.toNat ++ twoL (r.ttl.toNat / 65536) ++ twoL (r.ttl.toNat % 65536)
theorem numsR_len (r : Rec) : (numsR r).length = 8 := rfl
def qW (t : Wst) (q : Qu) : Wst :=
  (t.1 ++ (nmT q.name t.1.length t.2.1 t.2.2).1 ++ (twoL q.ty.toNat ++ twoL q.cl.toNat), (nmT q.name t.1.length t.2.1 t.2.2).2)
def atR (t : Wst) (r : Rec) : Nat := t.1.length + (nmT r.name t.1.length t.2.1 t.2.2).1.length + 10
def daR (t : Wst) (r : Rec) : Wst := daT r (atR t r) (nmT r.name t.1.length t.2.1 t.2.2).2.1 (nmT r.name t.1.length t.2.1 t.2.2).2.2
def rW (t : Wst) (r : Rec) : Wst :=
  (t.1 ++ (nmT r.name t.1.length t.2.1 t.2.2).1 ++ numsR r ++ twoL (daR t r).1.length ++ (daR t r).1, (daR t r).2)
def hdB (m : Msg) : List UInt8 := twoL m.id.toNat ++ twoL m.fl.toNat ++ twoL m.qs.length ++ twoL m.an.length ++ twoL m.au.length ++ twoL m.mo.length
def wM (m : Msg) : Wst := m.mo.foldl rW (m.au.foldl rW (m.an.foldl rW (m.qs.foldl qW (hdB m, [], []))))
def wB (m : Msg) : List UInt8 := (wM m).1
def gd {α : Type} (f : Wst → α → Wst) (t : Wst) (x : α) : Wst := if 1232 < t.1.length then t else f t x
def Rg (t t' : Wst) : Prop := t = t' ∨ (1232 < t.1.length ∧ 1232 < t'.1.length)
def gM (m : Msg) : Wst := m.mo.foldl (gd rW) (m.au.foldl (gd rW) (m.an.foldl (gd rW) (m.qs.foldl (gd qW) (hdB m, [], []))))
def patch (l : List UInt8) (at0 n : Nat) : List UInt8 := (l.set at0 (UInt8.ofNat (n / 256))).set (at0 + 1) (UInt8.ofNat (n % 256))
def patchAll (l : List UInt8) (zs : List (Nat × Nat)) : List UInt8 := zs.foldl (fun l z => patch l z.1 z.2) l
theorem patch_mid (l x : List UInt8) (n : Nat) : patch (l ++ [0, 0] ++ x) l.length n = l ++ twoL n ++ x := by
  unfold patch twoL
  rw [List.append_assoc, List.set_append_right _ _ (Nat.le_refl _), List.set_append_right _ _ (Nat.le_succ _)]
  simp
structure PR (u : Wst) (zs : List (Nat × Nat)) (t : Wst) : Prop where
  len : u.1.length = t.1.length
  two : u.2 = t.2
  eq : patchAll u.1 zs = t.1
  at0 : ∀ z ∈ zs, z.1 + 2 ≤ u.1.length
  low : ∀ z ∈ zs, z.2 ≤ 65535
def rU (u : Wst) (r : Rec) : Wst := (u.1 ++ (nmT r.name u.1.length u.2.1 u.2.2).1 ++ numsR r ++ [0, 0] ++ (daR u r).1, (daR u r).2)
structure Wok (K : Nat) (t : Wst) : Prop where
  len : t.1.length ≤ K
  lns : t.2.1.length ≤ t.1.length
  two : t.2.2.length = t.2.1.length
  low : ∀ a ∈ t.2.2, a < 16384
  sm : ∀ p ∈ t.2.1, p.size ≤ 253
theorem Wok.wider {K K' : Nat} {t : Wst} (h : Wok K t) (hk : K ≤ K') : Wok K' t := ⟨Nat.le_trans h.len hk, h.lns, h.two, h.low, h.sm⟩
theorem Wok.nm {K : Nat} {t : Wst} (h : Wok K t) {s : ByteArray} (hm : mayN s = true) : Wok (K + 16300) (t.1 ++ (nmT s t.1.length t.2.1 t.2.2).1, (nmT s t.1.length t.2.1 t.2.2).2) := by
  have N := nmT_is hm t.1.length t.2.1 t.2.2
  have h1 := h.len
  have h2 := h.lns
  have h3 := N.len
  have h4 := N.lnt
  exact ⟨by rw [List.length_append]; omega, by rw [List.length_append]; exact Nat.le_trans h4 (by omega), N.two h.two, N.low h.low, N.sm h.sm⟩
theorem Wok.put {K : Nat} {t : Wst} (h : Wok K t) (x : List UInt8) : Wok (K + x.length) (t.1 ++ x, t.2) := by
  have h1 := h.len
  have h2 := h.lns
  exact ⟨by rw [List.length_append]; omega, by rw [List.length_append]; exact Nat.le_trans h2 (by omega), h.two, h.low, h.sm⟩
theorem mayQ9_name {q : Qu} (h : mayQ9 q = true) : mayN q.name = true ∧ wordN q.ty = true ∧ wordN q.cl = true := by
  unfold mayQ9 at h
  simp only [Bool.and_eq_true] at h
  exact ⟨h.1.1, h.1.2, h.2⟩
theorem Wok.q {K : Nat} {t : Wst} (h : Wok K t) {q : Qu} (hm : mayQ9 q = true) : Wok (K + 16304) (qW t q) := (h.nm (mayQ9_name hm).1).put (twoL q.ty.toNat ++ twoL q.cl.toNat)
structure MayRec (r : Rec) : Prop where
  name : mayN r.name = true
  ty : 0 ≤ r.ty ∧ r.ty ≤ 65535
  cl : 0 ≤ r.cl ∧ r.cl ≤ 65535
  ttl : 0 ≤ r.ttl ∧ r.ttl ≤ 2147483647
  tg : r.ty = 5 → mayN r.tg = true
  da : r.da.size ≤ 65535
  body : bodyR r = true
theorem mayRec {r : Rec} (h : mayR r = true) : MayRec r := by
  unfold mayR headR at h
  simp only [Bool.and_eq_true, decide_eq_true_eq, wordN] at h
  obtain ⟨⟨⟨⟨⟨⟨h1, h2⟩, h3⟩, h4⟩, h5⟩, h6⟩, h7⟩ := h
  refine ⟨h1, h2, h3, ⟨h4, h5⟩, fun e => ?_, h6, h7⟩
  unfold bodyR at h7
  rw [if_neg (by omega), if_neg (by omega), if_pos e] at h7
  simp only [Bool.and_eq_true] at h7
  exact h7.1.1
theorem byB_len (b : List Nat) : (byB b).length = b.length := by simp [byB]
theorem Wok.da {K : Nat} {t : Wst} (h : Wok K t) {r : Rec} (hm : mayR r = true) (h16 : r.b.length = 16) : Wok (K + 65535) (t.1 ++ (daT r t.1.length t.2.1 t.2.2).1, (daT r t.1.length t.2.1 t.2.2).2) ∧ (daT r t.1.length t.2.1 t.2.2).1.length ≤ 65535 := by
  have M := mayRec hm
  unfold daT
  by_cases h1 : r.ty = 1
  · rw [if_pos h1]
    refine ⟨(h.put (byB (r.b.take 4))).wider ?_, ?_⟩
    · rw [byB_len, List.length_take]; omega
    · show (byB (r.b.take 4)).length ≤ _
      rw [byB_len, List.length_take]; omega
  · rw [if_neg h1]
    by_cases h2 : r.ty = 28
    · rw [if_pos h2]
      refine ⟨(h.put (byB r.b)).wider ?_, ?_⟩
      · rw [byB_len]; omega
      · show (byB r.b).length ≤ _
        rw [byB_len]; omega
    · rw [if_neg h2]
      by_cases h3 : r.ty = 5
      · rw [if_pos h3]
        exact ⟨(h.nm (M.tg h3)).wider (by omega), Nat.le_trans (nmT_is (M.tg h3) _ _ _).len (by omega)⟩
      · rw [if_neg h3]
        have := M.da
        refine ⟨(h.put r.da.data.toList).wider (by rw [data_size]; omega), ?_⟩
        show r.da.data.toList.length ≤ _
        rw [data_size]
        omega
def hR (t : Wst) (r : Rec) (x : List UInt8) : Wst := (t.1 ++ (nmT r.name t.1.length t.2.1 t.2.2).1 ++ numsR r ++ x, (nmT r.name t.1.length t.2.1 t.2.2).2)
theorem hR_len (t : Wst) (r : Rec) (x : List UInt8) (hx : x.length = 2) : (hR t r x).1.length = atR t r := by
  simp only [hR, atR, List.length_append, numsR_len, hx]
theorem daR_hR (t : Wst) (r : Rec) (x : List UInt8) (hx : x.length = 2) : daR t r = daT r (hR t r x).1.length (hR t r x).2.1 (hR t r x).2.2 := by rw [hR_len t r x hx]; rfl
theorem Wok.head {K : Nat} {t : Wst} (h : Wok K t) {r : Rec} (hm : mayR r = true) (x : List UInt8) (hx : x.length = 2) : Wok (K + 16310) (hR t r x) := by
  have := ((h.nm (mayRec hm).name).put (numsR r)).put x
  rw [numsR_len, hx] at this
  exact this
theorem Wok.r {K : Nat} {t : Wst} (h : Wok K t) {r : Rec} (hm : mayR r = true) (h16 : r.b.length = 16) : Wok (K + 81845) (rW t r) ∧ Wok (K + 81845) (rU t r) ∧ (daR t r).1.length ≤ 65535 := by
  have h1 := (h.head hm (twoL (daR t r).1.length) rfl).da hm h16
  have h2 := (h.head hm [0, 0] rfl).da hm h16
  rw [← daR_hR t r _ rfl] at h1 h2
  exact ⟨h1.1, h2.1, h1.2⟩
end Go.Proofs.YtedmkdjijhflnaaGreat
namespace Go.Proofs.YtedmkdjijhflnaaGreat
open Go.RowKit

end Go.Proofs.YtedmkdjijhflnaaGreat
namespace Go.Proofs.YtedmkdjijhflnaaGreat
open Go.RowKit Go.Maps

structure WxAt (X : Nat → Option Value) (w : World) (G B : Nat) (vB : Value) (m : Option Nat) (l : List UInt8) (ns : List ByteArray) (ats : List Nat) : Prop extends WrAt w G B vB m l ns ats where
  cx : ∀ k, 2 ≤ k → w.cell? ⟨G, k, none⟩ = X k
  fx : ∀ k, 2 ≤ k → w.frozen? ⟨G, k, none⟩ = false
section
variable {X : Nat → Option Value} {w w' : World} {G B : Nat} {vB : Value} {m : Option Nat} {l : List UInt8} {ns : List ByteArray} {ats : List Nat}
end
def NoteRetX (X : Nat → Option Value) (w : World) (G B : Nat) (vB : Value) (m : Option Nat) (l : List UInt8) (ns : List ByteArray) (ats : List Nat) (e : Ending) (w' : World) : Prop :=
  e = .returned (.tuple #[]) ∧ ∃ m', WxAt X w' G B vB m' l ns ats ∧ Foot (wblk G vB m) (wblk G vB m') w w'
end Go.Proofs.YtedmkdjijhflnaaGreat
namespace Go.Proofs.YtedmkdjijhflnaaGreat
open Go.RowKit Go.Maps

def WNameRetX (X : Nat → Option Value) (w : World) (G B : Nat) (F0 : List Nat) (b : Bool) (R : List UInt8 × List ByteArray × List Nat) (e : Ending) (w' : World) : Prop :=
  e = .returned (.bool b) ∧ ∃ vB m, WxAt X w' G B vB m R.1 R.2.1 R.2.2 ∧ Foot F0 (wblk G vB m) w w'
end Go.Proofs.YtedmkdjijhflnaaGreat
namespace Go.Proofs.YtedmkdjijhflnaaGreat
open Go.RowKit

def partB (p : ByteArray) : Option Nat :=
  if p.size = 0 then none else
  if 1 < p.size ∧ byteOf p 0 = 48 ∧ (byteOf p 1 = 120 ∨ byteOf p 1 = 88) then readF (p.extract 2 p.size) 16 else
  if 1 < p.size ∧ byteOf p 0 = 48 then readF (p.extract 1 p.size) 8 else readF p 10
def endsB (p : ByteArray) : Bool := decide (0 < p.size) && ((readF p 10).isSome || (partB p).isSome)

end Go.Proofs.YtedmkdjijhflnaaGreat
namespace Go.Proofs.YtedmkdjijhflnaaGreat
open Go.RowKit

def lparts (s : ByteArray) : List ByteArray :=
  if 1 < (pieces s 46).length ∧ ((pieces s 46).getD ((pieces s 46).length - 1) ⟨#[]⟩).size = 0 then (pieces s 46).take ((pieces s 46).length - 1) else pieces s 46
def outTo (l : List ByteArray) : Nat → Option Nat
  | 0 => some 0
  | k + 1 => match outTo l k with
    | none => none
    | some m => match partB (l.getD k ⟨#[]⟩) with
      | none => none
      | some n => if 255 < n then none else some (m * 256 + n)
def roomB (k : Nat) : Nat := 256 ^ (4 - k)
def joinP (l : List ByteArray) : Option Nat :=
  if 4 < l.length then none else
  match outTo l (l.length - 1) with
  | none => none
  | some m => match partB (l.getD (l.length - 1) ⟨#[]⟩) with
    | none => none
    | some n => if roomB (l.length - 1) ≤ n then none else some (m * roomB (l.length - 1) + n)
def joinRet (o : Option Nat) : Value := .tuple #[.int .u32 ((o.getD 0 : Nat) : Int), .bool o.isSome]
def looseB (s : ByteArray) : Nat × Nat :=
  if endsB ((lparts s).getD ((lparts s).length - 1) ⟨#[]⟩) then
    match joinP (lparts s) with
    | none => (0, 1)
    | some a => (a, 2)
  else (0, 0)
def looseRet (r : Nat × Nat) : Value := .tuple #[.int .u32 ((r.1 : Nat) : Int), .int .i64 ((r.2 : Nat) : Int)]
end Go.Proofs.YtedmkdjijhflnaaGreat
namespace Go.Proofs.YtedmkdjijhflnaaGreat
open Go.RowKit

def readL (b : Nat) : Nat → List UInt8 → Option Nat
  | n, [] => some n
  | n, c :: l => if b ≤ digC c.toNat then none else readL b (min (n * b + digC c.toNat) 4294967296) l
theorem dec_mem (u : Nat) : ∀ c ∈ Lib.decDigits u, 48 ≤ c.toNat ∧ c.toNat ≤ 57 := by
  have one : ∀ d, d < 10 → 48 ≤ (UInt8.ofNat (48 + d)).toNat ∧ (UInt8.ofNat (48 + d)).toNat ≤ 57 := by
    intro d hd
    rw [UInt8.toNat_ofNat', Nat.mod_eq_of_lt (by omega)]
    omega
  induction u using Nat.strongRecOn with
  | _ u ih =>
    rw [Lib.decDigits]
    split
    · intro c hc
      simp at hc
      subst hc
      rw [show (48 : UInt8) + UInt8.ofNat u = UInt8.ofNat (48 + u) by simp]
      exact one u (by omega)
    · intro c hc
      rcases List.mem_append.1 hc with h | h
      · exact ih (u / 10) (by omega) c h
      · rw [List.mem_singleton] at h
        rw [h]
        exact one _ (by omega)
theorem dec_dot (u : Nat) : ∀ c ∈ Lib.decDigits u, c.toNat ≠ 46 := fun c hc => by have := dec_mem u c hc; omega
abbrev dec (u : Nat) : List UInt8 := Lib.decDigits u
end Go.Proofs.YtedmkdjijhflnaaGreat
namespace Go.Proofs.YtedmkdjijhflnaaGreat
open Go.RowKit

def num4 (a b c d : Nat) : Nat := ((a * 256 + b) * 256 + c) * 256 + d
def prR (a b c d : Nat) : Nat → List UInt8
  | 0 => []
  | 1 => dec d
  | 2 => dec c ++ 46 :: dec d
  | 3 => dec b ++ 46 :: (dec c ++ 46 :: dec d)
  | _ => dec a ++ 46 :: (dec b ++ 46 :: (dec c ++ 46 :: dec d))
def text4 (a b c d : Nat) : ByteArray := ofL (dec a ++ 46 :: (dec b ++ 46 :: (dec c ++ 46 :: dec d)))
end Go.Proofs.YtedmkdjijhflnaaGreat
namespace Go.Proofs.YtedmkdjijhflnaaGreat
open Go.RowKit

end Go.Proofs.YtedmkdjijhflnaaGreat
namespace Go.Proofs.YtedmkdjijhflnaaGreat
open Go.RowKit

def ints9 (l : List Int) : List Value := l.map fun z => Value.int .i64 z
def mayD (r : Rec) : Bool :=
  if r.ty = 1 then decide (r.f = 4) && mayB r.f r.b && decide (r.tg.size = 0) && decide (r.da.size = 0)
  else if r.ty = 28 then decide (r.f = 6) && mayB r.f r.b && decide (r.tg.size = 0) && decide (r.da.size = 0)
  else if r.ty = 5 then decide (r.f = 0 ∧ r.b = zB) && mayN r.tg && decide (r.da.size = 0)
  else decide (r.f = 0 ∧ r.b = zB) && decide (r.tg.size = 0) && decide (r.da.size ≤ 65535)
end Go.Proofs.YtedmkdjijhflnaaGreat
namespace Go.Proofs.YtedmkdjijhflnaaGreat
open Go.RowKit Go.Maps

def flat2 (l : List Nat) : List UInt8 := l.flatMap twoL
def nats9 (l : List Nat) : List Value := l.map fun (z : Nat) => Value.int .i64 (z : Int)
end Go.Proofs.YtedmkdjijhflnaaGreat
namespace Go.Proofs.YtedmkdjijhflnaaGreat
open Go.RowKit Go.Maps

def WrRet (X : Nat → Option Value) (w : World) (G B : Nat) (F0 : List Nat) (t : Wst) (e : Ending) (w' : World) : Prop :=
  e = .returned (.tuple #[]) ∧ ∃ vB m, WxAt X w' G B vB m t.1 t.2.1 t.2.2 ∧ Foot F0 (wblk G vB m) w w'
end Go.Proofs.YtedmkdjijhflnaaGreat
namespace Go.Proofs.YtedmkdjijhflnaaGreat
open Go.RowKit

end Go.Proofs.YtedmkdjijhflnaaGreat
namespace Go.Proofs.YtedmkdjijhflnaaGreat
open Go.RowKit Go.Maps

theorem addr_bytes {w : World} {P : Nat} {f : Int} {b : List Nat} (h : w.rangeAt P 4 (addrL f b)) (h16 : b.length = 16) (hlt : ∀ x ∈ b, x < 256) (k : Nat) (hk : k ≤ 16) : BytesIn2 w (some ⟨P, 5, none⟩) 16 (byB (b.take k)) := by
  have hl : (byB (b.take k)).length = k := by rw [byB_len, List.length_take]; omega
  refine ⟨⟨by omega, by unfold maxLen; omega, .inr ⟨_, rfl, fun i hi => ?_⟩⟩, fun e => by cases e⟩
  rw [hl] at hi
  have hib : i < b.length := by omega
  have := h (1 + i) (.int .u8 ((b[i] : Nat) : Int)) (by
    unfold addrL
    rw [Nat.add_comm, List.getElem?_cons_succ, List.getElem?_map, List.getElem?_eq_getElem hib]
    rfl)
  have e2 : ((byB (b.take k))[i]'(by rw [hl]; exact hi)).toNat = b[i] := by
    simp only [byB, List.getElem_map, List.getElem_take, UInt8.toNat_ofNat']
    exact Nat.mod_eq_of_lt (hlt _ (List.getElem_mem hib))
  rw [e2]
  have hadd : (⟨P, 5, none⟩ : Addr).add i = ⟨P, 5 + i, none⟩ := by unfold Addr.add; split <;> simp_all
  rw [hadd, show 5 + i = 4 + (1 + i) by omega]
  exact this
end Go.Proofs.YtedmkdjijhflnaaGreat
namespace Go.Proofs.YtedmkdjijhflnaaGreat
open Go.RowKit

def goodR (r : Rec) : Rec :=
  if maskN r.ty 3 = 0 then ⟨goodN r.name, 1, (maskN r.cl 65535 : Nat), (maskN r.ttl 2147483647 : Nat), 4, b4 (fourB (goodB r.f r.b)), ⟨#[]⟩, ⟨#[]⟩⟩
  else if maskN r.ty 3 = 1 then ⟨goodN r.name, 28, (maskN r.cl 65535 : Nat), (maskN r.ttl 2147483647 : Nat), mapF (goodF r.f), mapB (goodF r.f) (goodB r.f r.b), ⟨#[]⟩, ⟨#[]⟩⟩
  else if maskN r.ty 3 = 2 then ⟨goodN r.name, 5, (maskN r.cl 65535 : Nat), (maskN r.ttl 2147483647 : Nat), 0, List.replicate 16 0, goodN r.tg, ⟨#[]⟩⟩
  else ⟨goodN r.name, 41, (maskN r.cl 65535 : Nat), (maskN r.ttl 2147483647 : Nat), 0, List.replicate 16 0, ⟨#[]⟩, few r.da 20⟩
end Go.Proofs.YtedmkdjijhflnaaGreat
namespace Go.Proofs.YtedmkdjijhflnaaGreat
open Go.RowKit

def goodRs (D : List Rec) : List Rec := (D.take 3).map goodR
end Go.Proofs.YtedmkdjijhflnaaGreat
namespace Go.Proofs.YtedmkdjijhflnaaGreat
open Go.RowKit

def goodQ (q : Qu) : Qu := ⟨goodN q.name, (maskN q.ty 65535 : Nat), (maskN q.cl 65535 : Nat)⟩
def goodM (m : Msg) : Msg := ⟨(maskN m.id 65535 : Nat), (maskN m.fl 65535 : Nat), (m.qs.take 3).map goodQ, goodRs m.an, goodRs m.au, goodRs m.mo⟩
structure GSt (w0 : World) (P : Nat) (id fl : Int) (vq v1 v2 v3 : Value) (Q : List Qu) (D1 D2 D3 : List Rec) (w : World) : Prop where
  cells : CellsAt w P [.int .i64 id, .int .i64 fl, vq, v1, v2, v3]
  rq : RowQ w (w0.heap.size + 2) vq Q
  r1 : RowR w (w0.heap.size + 2) v1 D1
  r2 : RowR w (w0.heap.size + 2) v2 D2
  r3 : RowR w (w0.heap.size + 2) v3 D3
  nq : vq.ownBlock ≠ some P
  n1 : v1.ownBlock ≠ some P
  n2 : v2.ownBlock ≠ some P
  n3 : v3.ownBlock ≠ some P
  bel : Below w0.heap.size w0 w
  le : w0.heap.size + 1 < P
def RoomG (m : Msg) : Prop := (∀ q ∈ m.qs, q.name.size ≤ 1900000) ∧ (∀ r ∈ m.an, Room r) ∧ (∀ r ∈ m.au, Room r) ∧ ∀ r ∈ m.mo, Room r
end Go.Proofs.YtedmkdjijhflnaaGreat
namespace Go.Proofs.YtedmkdjijhflnaaGreat
open Go.RowKit

end Go.Proofs.YtedmkdjijhflnaaGreat
namespace Go.Proofs.YtedmkdjijhflnaaGreat
open Go.RowKit

end Go.Proofs.YtedmkdjijhflnaaGreat
namespace Go.Proofs.YtedmkdjijhflnaaGreat
open Go.RowKit Go.Maps

def szL (z : Nat × Nat) : List Value := [.int .i64 (z.1 : Int), .int .i64 (z.2 : Int)]
def flatZ (zs : List (Nat × Nat)) : List Value := zs.flatMap szL
def x9 (vS : Value) : Nat → Option Value := fun k => if k = 2 then some vS else none
def w9blk (G : Nat) (vB : Value) (m : Option Nat) (vS : Value) : List Nat := wblk G vB m ++ vS.ownBlock.toList
section
variable {w w' : World} {G B : Nat} {vB vS : Value} {m : Option Nat} {u : Wst} {zs : List (Nat × Nat)}
end
end Go.Proofs.YtedmkdjijhflnaaGreat
namespace Go.Proofs.YtedmkdjijhflnaaGreat
open Go.RowKit Go.Maps

end Go.Proofs.YtedmkdjijhflnaaGreat
namespace Go.Proofs.YtedmkdjijhflnaaGreat
open Go.RowKit Go.Maps

theorem own_setB {w : World} {B g c n : Nat} {l : List UInt8} (h : w.ownsRow B 5 1 (.slice (some ⟨g, 0, none⟩) n c) l.length (bys l)) (i : Nat) (x : UInt8) (hi : i < l.length) :
    (w.setCell ⟨g, i, none⟩ (.int .u8 (x.toNat : Int))).ownsRow B 5 1 (.slice (some ⟨g, 0, none⟩) n c) (l.set i x).length (bys (l.set i x)) ∧ w.frozen? ⟨g, i, none⟩ = false ∧ ∃ v, w.cell? ⟨g, i, none⟩ = some v := by
  obtain ⟨h1, h2⟩ := h
  rcases h2 with ⟨h2, _⟩ | ⟨g', cap, cur, hv, hg, hh, h3, h4, h5, h6⟩
  · cases h2
  · cases hv
    rw [Nat.mul_one] at h5 h6
    have hb : (bys (l.set i x)) = (bys l).set i (.int .u8 (x.toNat : Int)) := by unfold bys; rw [List.map_set]
    refine ⟨⟨by rw [bys_length, Nat.mul_one], .inr ⟨g, c, cur.setIfInBounds i (.int .u8 (x.toNat : Int)), by rw [List.length_set], hg, heap_setCell_same w g i cur _ _ hh, by rw [List.length_set]; exact h3, h4, by rw [Array.size_setIfInBounds, Nat.mul_one]; exact h5, ?_⟩⟩, ?_, ?_⟩
    · rw [List.length_set, Nat.mul_one, hb, ← h6, Array.toList_setIfInBounds, List.take_set]
    · simp [World.frozen?, hh]
    · have : i < cur.size := by omega
      exact ⟨cur[i], by simp [World.cell?, hh, this]⟩
end Go.Proofs.YtedmkdjijhflnaaGreat
namespace Go.Proofs.YtedmkdjijhflnaaGreat
open Go.RowKit Go.Maps

def WriteRet (w : World) (m : Msg) (e : Ending) (w' : World) : Prop :=
  Below w.heap.size w w' ∧ ((mayM m = false ∧ e = .returned (.tuple #[.slice none 0 0, .int .i64 1])) ∨ (mayM m = true ∧ 1232 < (wB m).length ∧ e = .returned (.tuple #[.slice none 0 0, .int .i64 3])) ∨
    (mayM m = true ∧ (wB m).length ≤ 1232 ∧ ∃ v', e = .returned (.tuple #[v', .int .i64 0]) ∧ w'.ownsRow w.heap.size 5 1 v' (wB m).length (bys (wB m))))
theorem mayM_parts {m : Msg} (h : mayM m = true) : (∀ q ∈ m.qs, mayQ9 q = true) ∧ (0 ≤ m.id ∧ m.id ≤ 65535) ∧ (0 ≤ m.fl ∧ m.fl ≤ 65535) ∧ (∀ r ∈ m.an, mayR r = true) ∧ (∀ r ∈ m.au, mayR r = true) ∧ ∀ r ∈ m.mo, mayR r = true := by
  unfold mayM at h
  simp only [Bool.and_eq_true, List.all_eq_true, wordN, decide_eq_true_eq] at h
  obtain ⟨⟨⟨⟨⟨h1, h2⟩, h3⟩, h4⟩, h5⟩, h6⟩ := h
  exact ⟨h1, h2, h3, h4, h5, h6⟩
def Len4 (m : Msg) : Prop := m.qs.length ≤ 65535 ∧ m.an.length ≤ 65535 ∧ m.au.length ≤ 65535 ∧ m.mo.length ≤ 65535
end Go.Proofs.YtedmkdjijhflnaaGreat
namespace Go.Proofs.YtedmkdjijhflnaaGreat
open Go.RowKit

theorem qs_pre : ∀ (Q : List Qu) (t : Wst), ∃ x, (Q.foldl qW t).1 = t.1 ++ x
  | [], t => ⟨[], by simp⟩
  | q :: Q, t => by
    obtain ⟨x, hx⟩ := qs_pre Q (qW t q)
    exact ⟨(nmT q.name t.1.length t.2.1 t.2.2).1 ++ (twoL q.ty.toNat ++ twoL q.cl.toNat) ++ x, by rw [List.foldl_cons, hx]; simp only [qW, List.append_assoc]⟩
theorem rs_pre : ∀ (D : List Rec) (t : Wst), ∃ x, (D.foldl rW t).1 = t.1 ++ x
  | [], t => ⟨[], by simp⟩
  | r :: D, t => by
    obtain ⟨x, hx⟩ := rs_pre D (rW t r)
    exact ⟨(nmT r.name t.1.length t.2.1 t.2.2).1 ++ numsR r ++ twoL (daR t r).1.length ++ (daR t r).1 ++ x, by rw [List.foldl_cons, hx]; simp only [rW, List.append_assoc]⟩
def wants (m : Msg) : List Nat := [m.id.toNat, m.fl.toNat, m.qs.length, m.an.length, m.au.length, m.mo.length]
end Go.Proofs.YtedmkdjijhflnaaGreat
namespace Go.Proofs.YtedmkdjijhflnaaGreat
open Go.RowKit

theorem nm8_spe (s : ByteArray) (hm : mayN s = true) (P0 : Nat) : ∀ (f i : Nat) (l : List UInt8) (ns : List ByteArray) (ats : List Nat), (labelsB s).length + 1 = i + f → i ≤ (labelsB s).length → ats.length = ns.length → (∀ a ∈ ats, a < 16384) → P0 ≤ l.length →
    (∀ x n, x.size ≤ (restB s i).size → find8 ns ats x = some n → n < P0 ∧ ∃ nx, Sp l n n (labelsB x) nx) →
    ∃ tl, (nm8 s (labelsB s) f i l ns ats).1 = l ++ tl ∧ tl.length ≤ ((labelsB s).length - i) * 64 + 2 ∧ (nm8 s (labelsB s) f i l ns ats).2.1.length ≤ ns.length + ((labelsB s).length - i) ∧ Sp (l ++ tl) P0 l.length ((labelsB s).drop i) (l.length + tl.length) ∧
      (∀ x, (restB s i).size < x.size → find8 (nm8 s (labelsB s) f i l ns ats).2.1 (nm8 s (labelsB s) f i l ns ats).2.2 x = find8 ns ats x) ∧
      (∀ x n, x.size ≤ (restB s i).size → find8 (nm8 s (labelsB s) f i l ns ats).2.1 (nm8 s (labelsB s) f i l ns ats).2.2 x = some n → ∃ nx, Sp (l ++ tl) n n (labelsB x) nx) ∧
      (nm8 s (labelsB s) f i l ns ats).2.2.length = (nm8 s (labelsB s) f i l ns ats).2.1.length ∧ (∀ a ∈ (nm8 s (labelsB s) f i l ns ats).2.2, a < 16384)
  | 0, i, l, ns, ats, h, hi, _, _, _, _ => by omega
  | f + 1, i, l, ns, ats, h, hi, hla, hat, hP, hG => by
    unfold nm8
    by_cases hl : (labelsB s).length ≤ i
    · rw [if_pos hl]
      refine ⟨[0], rfl, by simp, by simp, ?_, fun x _ => rfl, fun x n hx hf => ?_, hla, hat⟩
      · rw [List.drop_eq_nil_iff.2 hl]
        refine .zero (by simp) ?_
        rw [List.getD_eq_getElem?_getD, List.getElem?_append_right (Nat.le_refl _), Nat.sub_self]
        rfl
      · obtain ⟨_, nx, hs⟩ := hG x n hx hf
        exact ⟨nx, hs.more _⟩
    · rw [if_neg hl]
      have hil : i < (labelsB s).length := by omega
      have hdrop : (labelsB s).drop i = labelsB (restB s i) := (labels_rest i (may_full hm)).symm
      cases hf : find8 ns ats (restB s i) with
      | some n =>
        have hn := hat n (find8_mem ns ats _ n hf)
        obtain ⟨hnP, nx, hs⟩ := hG (restB s i) n (Nat.le_refl _) hf
        obtain ⟨f1, f2, f3⟩ := ptr_facts l [] n hn
        rw [List.append_nil] at f1 f2 f3
        refine ⟨_, rfl, by simp, by simp, ?_, fun x _ => rfl, fun x k hx hf => ?_, hla, hat⟩
        · rw [hdrop]
          exact .ptr f1 f2 (by rw [f3]; exact hnP) (by rw [f3]; exact hs.more _)
        · obtain ⟨_, nx, hs⟩ := hG x k hx hf
          exact ⟨nx, hs.more _⟩
      | none =>
        simp only
        have hrp : 0 < (restB s i).size := (rest_pos (may_full hm) i).2 hil
        have hlt : (restB s (i + 1)).size < (restB s i).size := by rw [rest_par]; exact par_lt _ hrp
        obtain ⟨p, hp⟩ : ∃ p, (labelsB s).getD i ⟨#[]⟩ = p := ⟨_, rfl⟩
        have hpm : p ∈ labelsB s := by
          rw [← hp, List.getD_eq_getElem?_getD, List.getElem?_eq_getElem hil]
          exact List.getElem_mem hil
        have hpl := may_label hm p hpm
        have hcons : (labelsB s).drop i = p :: (labelsB s).drop (i + 1) := by
          rw [List.drop_eq_getElem_cons hil]
          congr 1
          rw [← hp, List.getD_eq_getElem?_getD, List.getElem?_eq_getElem hil]
          rfl
        rw [hp]
        have hlab : (labL p).length = 1 + p.size := by unfold labL; rw [List.length_cons, data_size]; omega
        obtain ⟨ns2, hns2⟩ : ∃ ns2, (if l.length < 16384 then ns ++ [restB s i] else ns) = ns2 := ⟨_, rfl⟩
        obtain ⟨ats2, hats2⟩ : ∃ ats2, (if l.length < 16384 then ats ++ [l.length] else ats) = ats2 := ⟨_, rfl⟩
        rw [hns2, hats2]
        -- what is found behind the note
        have hfind : ats2.length = ns2.length ∧ (∀ a ∈ ats2, a < 16384) ∧ ns2.length ≤ ns.length + 1 ∧ ∀ x, find8 ns2 ats2 x = match find8 ns ats x with | some k => some k | none => if restB s i = x ∧ l.length < 16384 then some l.length else none := by
          by_cases hb : l.length < 16384
          · rw [if_pos hb] at hns2 hats2
            rw [← hns2, ← hats2]
            refine ⟨by simp [hla], fun a ha => ?_, by simp, fun x => ?_⟩
            · rcases List.mem_append.1 ha with ha | ha
              · exact hat a ha
              · rw [List.mem_singleton.1 ha]; exact hb
            · rw [find8_snoc ns ats _ _ x hla]
              cases find8 ns ats x with
              | some k => rfl
              | none => simp [hb]
          · rw [if_neg hb] at hns2 hats2
            rw [← hns2, ← hats2]
            refine ⟨hla, hat, by omega, fun x => ?_⟩
            cases find8 ns ats x with
            | some k => rfl
            | none => simp [hb]
        obtain ⟨hla2, hat2, hnn2, hf2⟩ := hfind
        have hll : (l ++ labL p).length = l.length + 1 + p.size := by rw [List.length_append, hlab]; omega
        obtain ⟨tl, t1, t2, t3, t4, t5, t6, t7, t8⟩ := nm8_spe s hm P0 f (i + 1) (l ++ labL p) ns2 ats2 (by omega) (by omega) hla2 hat2 (by omega) (fun x n hx hfx => by
          rw [hf2 x] at hfx
          cases hfo : find8 ns ats x with
          | some k =>
            rw [hfo] at hfx
            have : k = n := by simpa using hfx
            subst this
            obtain ⟨g1, g2, g3⟩ := hG x k (by omega) hfo
            exact ⟨g1, g2, g3.more _⟩
          | none =>
            rw [hfo] at hfx
            simp only at hfx
            by_cases hrx : restB s i = x ∧ l.length < 16384
            · rw [← hrx.1] at hx; omega
            · rw [if_neg hrx] at hfx; cases hfx)
        have hspell : Sp (l ++ (labL p ++ tl)) P0 l.length ((labelsB s).drop i) (l.length + (labL p ++ tl).length) := by
          obtain ⟨f1, f2, f3, f4⟩ := lab_facts l tl p hpl.2
          rw [hll] at t4
          rw [hcons, show l.length + (labL p ++ tl).length = l.length + 1 + p.size + tl.length by rw [List.length_append, hlab]; omega, ← List.append_assoc]
          exact .lab f1 f2 (by omega) hpl.2 f3 f4 (labels_free s p hpm) t4
        have hmul : ((labelsB s).length - i) * 64 = ((labelsB s).length - (i + 1)) * 64 + 64 := by
          have : (labelsB s).length - i = (labelsB s).length - (i + 1) + 1 := by omega
          rw [this, Nat.succ_mul]
        refine ⟨labL p ++ tl, by rw [t1, List.append_assoc], by rw [List.length_append, hlab, hmul]; omega, by omega, hspell, fun x hx => ?_, fun x n hx hfx => ?_, t7, t8⟩
        · rw [t5 x (by omega), hf2 x]
          cases find8 ns ats x with
          | some k => rfl
          | none =>
            simp only
            rw [if_neg (fun e => by rw [e.1] at hx; omega)]
        · by_cases hsm : x.size ≤ (restB s (i + 1)).size
          · obtain ⟨nx2, h2⟩ := t6 x n hsm hfx
            rw [List.append_assoc] at h2
            exact ⟨nx2, h2⟩
          · rw [t5 x (by omega), hf2 x] at hfx
            cases hfo : find8 ns ats x with
            | some k =>
              rw [hfo] at hfx
              have : k = n := by simpa using hfx
              subst this
              obtain ⟨_, g2, g3⟩ := hG x k hx hfo
              exact ⟨g2, g3.more _⟩
            | none =>
              rw [hfo] at hfx
              simp only at hfx
              by_cases hrx : restB s i = x ∧ l.length < 16384
              · rw [if_pos hrx] at hfx
                have : l.length = n := by simpa using hfx
                subst this
                rw [← hrx.1, ← hdrop]
                exact ⟨_, hspell.wider hP⟩
              · rw [if_neg hrx] at hfx; cases hfx
theorem nm_trip {l : List UInt8} {ns : List ByteArray} {ats : List Nat} (hI : WInv l ns ats) {s : ByteArray} (hm : mayN s = true) {bs x : List UInt8} (hb : bs = l ++ (nmT s l.length ns ats).1 ++ x) :
    naO bs (some l.length) = some (s, l.length + (nmT s l.length ns ats).1.length) ∧ WInv (l ++ (nmT s l.length ns ats).1) (nmT s l.length ns ats).2.1 (nmT s l.length ns ats).2.2 := by
  have hE := (nmT_is hm l.length ns ats).eq l rfl
  obtain ⟨tl, t1, t2, t3, t4, t5, t6, t7, t8⟩ := nm8_spe s hm l.length ((labelsB s).length + 1) 0 l ns ats (by omega) (Nat.zero_le _) hI.1 hI.2.1 (Nat.le_refl _) (fun x n _ hf => by
    obtain ⟨nx, hs⟩ := hI.2.2 x n hf
    exact ⟨hs.lt, nx, hs⟩)
  rw [hE] at t1 t5 t6 t7 t8
  simp only at t1 t5 t6 t7 t8
  have htl : (nmT s l.length ns ats).1 = tl := List.append_cancel_left t1
  rw [htl] at hb ⊢
  refine ⟨?_, t7, t8, fun y n hf => ?_⟩
  · rw [List.drop_zero] at t4
    have hsz : sizeL (labelsB s) ≤ 255 := (of_decide_eq_true hm : MayL _).2
    have hr := sp_readB (t4.more x) hsz
    rw [← hb, join_labels] at hr
    show (if (readB bs (l.length + 1) l.length [] none).2.2 = 0 then _ else none) = _
    rw [hr]
    rfl
  · by_cases hx : y.size ≤ (restB s 0).size
    · exact t6 y n hx hf
    · rw [t5 y (by omega)] at hf
      obtain ⟨nx, hs⟩ := hI.2.2 y n hf
      exact ⟨nx, hs.more _⟩
theorem tk_trip {bs l y x : List UInt8} {a n : Nat} (hb : bs = l ++ y ++ x) (ha : a = l.length) (hn : n = y.length) : tkO bs (some a) n = some (y, a + n) := by
  subst hb ha hn
  show (if (l ++ y ++ x).length - l.length < y.length then none else some (((l ++ y ++ x).drop l.length).take y.length, l.length + y.length)) = _
  rw [if_neg (by rw [List.length_append, List.length_append]; omega), List.append_assoc, List.drop_left, List.take_left]
theorem val_two (n : Nat) (hn : n ≤ 65535) : valB (twoL n) = n := by
  show (0 * 256 + (UInt8.ofNat (n / 256)).toNat) * 256 + (UInt8.ofNat (n % 256)).toNat = n
  rw [UInt8.toNat_ofNat', UInt8.toNat_ofNat', Nat.mod_eq_of_lt (by omega), Nat.mod_eq_of_lt (by omega)]
  omega
theorem nu_trip {bs l x : List UInt8} {a n : Nat} (hb : bs = l ++ twoL n ++ x) (ha : a = l.length) (hn : n ≤ 65535) : nuO bs (some a) 2 = some (n, a + 2) := by
  unfold nuO
  rw [tk_trip (n := 2) hb ha rfl]
  show some (valB (twoL n), a + 2) = _
  rw [val_two n hn]
theorem nu4_trip {bs l x : List UInt8} {a n : Nat} (hb : bs = l ++ (twoL (n / 65536) ++ twoL (n % 65536)) ++ x) (ha : a = l.length) (hn : n ≤ 4294967295) : nuO bs (some a) 4 = some (n, a + 4) := by
  unfold nuO
  rw [tk_trip (n := 4) hb ha rfl]
  show some (valB (twoL (n / 65536) ++ twoL (n % 65536)), a + 4) = _
  have e : valB (twoL (n / 65536) ++ twoL (n % 65536)) = n := by
    show (((0 * 256 + (UInt8.ofNat (n / 65536 / 256)).toNat) * 256 + (UInt8.ofNat (n / 65536 % 256)).toNat) * 256 + (UInt8.ofNat (n % 65536 / 256)).toNat) * 256 + (UInt8.ofNat (n % 65536 % 256)).toNat = n
    rw [UInt8.toNat_ofNat', UInt8.toNat_ofNat', UInt8.toNat_ofNat', UInt8.toNat_ofNat']
    omega
  rw [e]
theorem word_is {n : Int} (h : wordN n = true) : 0 ≤ n ∧ n ≤ 65535 := of_decide_eq_true h
def WI (t : Wst) : Prop := WInv t.1 t.2.1 t.2.2
theorem qu_trip {t : Wst} (hI : WI t) {q : Qu} (hm : mayQ9 q = true) {bs x : List UInt8} (hb : bs = (qW t q).1 ++ x) : quO bs (some t.1.length) = some (q, (qW t q).1.length) ∧ WI (qW t q) := by
  obtain ⟨m1, m2, m3⟩ := mayQ9_name hm
  obtain ⟨n1, n2⟩ := word_is m2
  obtain ⟨n3, n4⟩ := word_is m3
  have hb1 : bs = t.1 ++ (nmT q.name t.1.length t.2.1 t.2.2).1 ++ (twoL q.ty.toNat ++ twoL q.cl.toNat ++ x) := by rw [hb]; unfold qW; simp only [List.append_assoc]
  obtain ⟨h1, h2⟩ := nm_trip hI m1 hb1
  have hL : (qW t q).1.length = t.1.length + (nmT q.name t.1.length t.2.1 t.2.2).1.length + 2 + 2 := by
    unfold qW
    simp only [List.length_append, twoL]
    rfl
  refine ⟨?_, ?_⟩
  · unfold quO
    rw [h1]
    simp only [Option.bind_some]
    rw [nu_trip (l := t.1 ++ (nmT q.name t.1.length t.2.1 t.2.2).1) (n := q.ty.toNat) (x := twoL q.cl.toNat ++ x) (by rw [hb1]; simp only [List.append_assoc]) (by rw [List.length_append]) (by omega)]
    simp only [Option.bind_some]
    rw [nu_trip (l := t.1 ++ (nmT q.name t.1.length t.2.1 t.2.2).1 ++ twoL q.ty.toNat) (n := q.cl.toNat) (x := x) (by rw [hb1]; simp only [List.append_assoc]) (by rw [List.length_append, List.length_append]; rfl) (by omega)]
    rw [hL]
    obtain ⟨nm, ty, cl⟩ := q
    simp only [Option.map_some]
    have e1 : ((ty.toNat : Nat) : Int) = ty := by simp only at n1; omega
    have e2 : ((cl.toNat : Nat) : Int) = cl := by simp only at n3; omega
    rw [e1, e2]
  · show WInv (t.1 ++ (nmT q.name t.1.length t.2.1 t.2.2).1 ++ (twoL q.ty.toNat ++ twoL q.cl.toNat)) _ _
    exact h2.more _
theorem daR_len {t : Wst} {r : Rec} (hm : mayR r = true) (h16 : r.b.length = 16) : (daR t r).1.length ≤ 65535 := by
  have M := mayRec hm
  unfold daR daT
  by_cases h1 : r.ty = 1
  · rw [if_pos h1]
    show (byB (r.b.take 4)).length ≤ _
    rw [byB_len, List.length_take]; omega
  · rw [if_neg h1]
    by_cases h2 : r.ty = 28
    · rw [if_pos h2]
      show (byB r.b).length ≤ _
      rw [byB_len]; omega
    · rw [if_neg h2]
      by_cases h3 : r.ty = 5
      · rw [if_pos h3]
        exact Nat.le_trans (nmT_is (M.tg h3) _ _ _).len (by omega)
      · rw [if_neg h3]
        show r.da.data.toList.length ≤ _
        rw [data_size]
        exact M.da
theorem by_back {b : List Nat} (h : ∀ x ∈ b, x < 256) : (byB b).map UInt8.toNat = b := by
  unfold byB
  rw [List.map_map]
  conv => rhs; rw [← List.map_id b]
  apply List.map_congr_left
  intro x hx
  show (UInt8.ofNat x).toNat = x
  rw [UInt8.toNat_ofNat', Nat.mod_eq_of_lt (h x hx)]
theorem putB_16 {b : List Nat} (h16 : b.length = 16) (hlt : ∀ x ∈ b, x < 256) : putB (List.replicate 16 0) (byB b) = b := by
  unfold putB
  have hl : (byB b).length = 16 := by rw [byB_len]; exact h16
  rw [List.take_of_length_le (by omega), by_back hlt, hl]
  simp
theorem putB_4 {b : List Nat} (h16 : b.length = 16) (hlt : ∀ x ∈ b, x < 256) (hm : mayB 4 b = true) : putB (List.replicate 16 0) (byB (b.take 4)) = b := by
  unfold putB
  have hl : (byB (b.take 4)).length = 4 := by rw [byB_len, List.length_take]; omega
  rw [List.take_of_length_le (by omega), by_back (fun x hx => hlt x (List.mem_of_mem_take hx)), hl]
  obtain ⟨y0, y1, y2, y3, y4, y5, y6, y7, y8, y9, y10, y11, y12, y13, y14, y15, rfl⟩ := list16 b h16
  simp [mayB, zeroTo, fromN] at hm
  simp
  omega
theorem text_back (da : ByteArray) : (⟨da.data.toList.toArray⟩ : ByteArray) = da := by cases da; simp
theorem re_trip {t : Wst} (hI : WI t) {r : Rec} (hm : mayR r = true) (hf : Fit r) {bs x : List UInt8} (hb : bs = (rW t r).1 ++ x) : reO bs (some t.1.length) = some (r, (rW t r).1.length) ∧ WI (rW t r) := by
  have M := mayRec hm
  have hdl := daR_len (t := t) hm hf.1
  obtain ⟨d, hd⟩ : ∃ d, daR t r = d := ⟨_, rfl⟩
  obtain ⟨u, hu⟩ : ∃ u, nmT r.name t.1.length t.2.1 t.2.2 = u := ⟨_, rfl⟩
  rw [hd] at hdl
  have hR : rW t r = (t.1 ++ u.1 ++ numsR r ++ twoL d.1.length ++ d.1, d.2) := by unfold rW; rw [hd, hu]
  have hat : atR t r = (t.1 ++ u.1 ++ numsR r ++ twoL d.1.length).length := by unfold atR; rw [hu]; simp only [List.length_append, numsR_len]; rfl
  rw [hR] at hb ⊢
  simp only at hb ⊢
  have hb1 : bs = t.1 ++ u.1 ++ (numsR r ++ twoL d.1.length ++ d.1 ++ x) := by rw [hb]; simp only [List.append_assoc]
  have h1 := nm_trip hI M.name (bs := bs) (x := numsR r ++ twoL d.1.length ++ d.1 ++ x) (by rw [hu]; exact hb1)
  rw [hu] at h1
  obtain ⟨h1, hI1⟩ := h1
  have hI5 : WInv (t.1 ++ u.1 ++ numsR r ++ twoL d.1.length) u.2.1 u.2.2 := (hI1.more _).more _
  obtain ⟨nm, ty, cl, ttl, f, b, tg, da⟩ := r
  have m1 := M.ty
  have m2 := M.cl
  have m3 := M.ttl
  have mb := M.body
  simp only at m1 m2 m3 h1 hu
  obtain ⟨ty, rfl⟩ : ∃ n : Nat, ty = (n : Int) := ⟨ty.toNat, by omega⟩
  obtain ⟨cl, rfl⟩ : ∃ n : Nat, cl = (n : Int) := ⟨cl.toNat, by omega⟩
  obtain ⟨ttl, rfl⟩ : ∃ n : Nat, ttl = (n : Int) := ⟨ttl.toNat, by omega⟩
  have hN : numsR ⟨nm, (ty : Int), (cl : Int), (ttl : Int), f, b, tg, da⟩ = twoL ty ++ twoL cl ++ twoL (ttl / 65536) ++ twoL (ttl % 65536) := rfl
  rw [hN] at hb hb1 hat hI5 ⊢
  obtain ⟨l1, hl1⟩ : ∃ l1, t.1 ++ u.1 = l1 := ⟨_, rfl⟩
  have hl1l : t.1.length + u.1.length = l1.length := by rw [← hl1, List.length_append]
  rw [hl1l] at h1
  rw [hl1] at hb hb1 hat hI5 ⊢
  have s2 := nu_trip (bs := bs) (l := l1) (n := ty) (x := twoL cl ++ twoL (ttl / 65536) ++ twoL (ttl % 65536) ++ twoL d.1.length ++ d.1 ++ x) (by rw [hb]; simp only [List.append_assoc]) rfl (by omega)
  have s3 := nu_trip (bs := bs) (l := l1 ++ twoL ty) (n := cl) (a := l1.length + 2) (x := twoL (ttl / 65536) ++ twoL (ttl % 65536) ++ twoL d.1.length ++ d.1 ++ x) (by rw [hb]; simp only [List.append_assoc]) (by rw [List.length_append]; rfl) (by omega)
  have s4 := nu4_trip (bs := bs) (l := l1 ++ twoL ty ++ twoL cl) (n := ttl) (a := l1.length + 2 + 2) (x := twoL d.1.length ++ d.1 ++ x) (by rw [hb]; simp only [List.append_assoc]) (by rw [List.length_append, List.length_append]; rfl) (by omega)
  have s5 := nu_trip (bs := bs) (l := l1 ++ twoL ty ++ twoL cl ++ (twoL (ttl / 65536) ++ twoL (ttl % 65536))) (n := d.1.length) (a := l1.length + 2 + 2 + 4) (x := d.1 ++ x) (by rw [hb]; simp only [List.append_assoc]) (by simp only [List.length_append]; rfl) hdl
  have hlen5 : (l1 ++ (twoL ty ++ twoL cl ++ twoL (ttl / 65536) ++ twoL (ttl % 65536)) ++ twoL d.1.length).length = l1.length + 2 + 2 + 4 + 2 := by simp only [List.length_append]; rfl
  have s6 : tkO bs (some (l1.length + 2 + 2 + 4 + 2)) d.1.length = some (d.1, l1.length + 2 + 2 + 4 + 2 + d.1.length) := tk_trip (l := l1 ++ (twoL ty ++ twoL cl ++ twoL (ttl / 65536) ++ twoL (ttl % 65536)) ++ twoL d.1.length) hb hlen5.symm rfl
  have hh : hdO nm ty cl ttl = ⟨nm, (ty : Int), (cl : Int), (ttl : Int), 0, List.replicate 16 0, ⟨#[]⟩, ⟨#[]⟩⟩ := by unfold hdO ttlO; rw [if_neg (by omega)]
  have hE : (l1 ++ (twoL ty ++ twoL cl ++ twoL (ttl / 65536) ++ twoL (ttl % 65536)) ++ twoL d.1.length ++ d.1).length = l1.length + 2 + 2 + 4 + 2 + d.1.length := by rw [List.length_append, hlen5]
  unfold reO
  rw [h1]
  simp only [Option.bind_some]
  rw [s2]
  simp only [Option.bind_some]
  rw [s3]
  simp only [Option.bind_some]
  rw [s4]
  simp only [Option.bind_some]
  rw [s5]
  simp only [Option.bind_some]
  rw [hh, hE]
  unfold bodyR at mb
  simp only at mb
  have hty0 : (⟨nm, (ty : Int), (cl : Int), (ttl : Int), 0, List.replicate 16 0, ⟨#[]⟩, ⟨#[]⟩⟩ : Rec).ty = (ty : Int) := rfl
  unfold daO
  rw [hty0]
  unfold daR at hd
  rw [hu] at hd
  unfold daT at hd
  simp only at hd
  by_cases e1 : (ty : Int) = 1
  · rw [if_pos e1] at mb hd
    rw [if_pos e1]
    simp only [Bool.and_eq_true, decide_eq_true_eq] at mb
    obtain ⟨⟨⟨mb1, mb2⟩, mb3⟩, mb4⟩ := mb
    have hd1 : d.1 = byB (b.take 4) := by rw [← hd]
    have hd2 : d.2 = u.2 := by rw [← hd]
    have hdn : d.1.length = 4 := by rw [hd1, byB_len, List.length_take, show b.length = 16 from hf.1]; rfl
    rw [mb2] at mb1
    refine ⟨?_, ?_⟩
    · unfold adO
      rw [if_pos hdn, s6]
      simp only [Option.map_some]
      rw [hd1, putB_4 hf.1 hf.2.1 mb1, mb2, empty_of mb3, empty_of mb4]
    · show WInv _ d.2.1 d.2.2
      rw [hd2]
      exact hI5.more _
  · rw [if_neg e1] at mb hd
    rw [if_neg e1]
    by_cases e2 : (ty : Int) = 28
    · rw [if_pos e2] at mb hd
      rw [if_pos e2]
      simp only [Bool.and_eq_true, decide_eq_true_eq] at mb
      obtain ⟨⟨⟨mb1, mb2⟩, mb3⟩, mb4⟩ := mb
      have hd1 : d.1 = byB b := by rw [← hd]
      have hd2 : d.2 = u.2 := by rw [← hd]
      have hdn : d.1.length = 16 := by rw [hd1, byB_len]; exact hf.1
      refine ⟨?_, ?_⟩
      · unfold adO
        rw [if_pos hdn, s6]
        simp only [Option.map_some]
        rw [hd1, putB_16 hf.1 hf.2.1, mb2, empty_of mb3, empty_of mb4]
      · show WInv _ d.2.1 d.2.2
        rw [hd2]
        exact hI5.more _
    · rw [if_neg e2] at mb hd
      rw [if_neg e2]
      by_cases e3 : (ty : Int) = 5
      · rw [if_pos e3] at mb hd
        rw [if_pos e3]
        simp only [Bool.and_eq_true, decide_eq_true_eq] at mb
        obtain ⟨⟨mb1, mb2, mb3⟩, mb4⟩ := mb
        have ha9 : atR t ⟨nm, (ty : Int), (cl : Int), (ttl : Int), f, b, tg, da⟩ = (l1 ++ (twoL ty ++ twoL cl ++ twoL (ttl / 65536) ++ twoL (ttl % 65536)) ++ twoL d.1.length).length := hat
        rw [ha9] at hd
        have h9 := nm_trip hI5 mb1 (bs := bs) (x := x) (by rw [hd]; exact hb)
        rw [hd, hlen5] at h9
        refine ⟨?_, h9.2⟩
        unfold cnO
        simp only [Option.bind_some]
        rw [h9.1]
        simp only [Option.bind_some]
        rw [if_pos trivial, mb2, mb3, empty_of mb4]
        rfl
      · rw [if_neg e3] at mb hd
        rw [if_neg e3]
        simp only [Bool.and_eq_true, decide_eq_true_eq] at mb
        obtain ⟨⟨mb2, mb3⟩, mb4⟩ := mb
        have hd1 : d.1 = da.data.toList := by rw [← hd]
        have hd2 : d.2 = u.2 := by rw [← hd]
        refine ⟨?_, ?_⟩
        · unfold otO
          rw [s6]
          simp only [Option.map_some]
          rw [hd1, text_back, mb2, mb3, empty_of mb4]
          rfl
        · show WInv _ d.2.1 d.2.2
          rw [hd2]
          exact hI5.more _
theorem qs_trip : ∀ (D : List Qu) (t : Wst), WI t → (∀ q ∈ D, mayQ9 q = true) → ∀ bs x : List UInt8, bs = (D.foldl qW t).1 ++ x → sqO (quO bs) D.length (some t.1.length) = some (D, (D.foldl qW t).1.length) ∧ WI (D.foldl qW t)
  | [], t, hI, _, bs, x, hb => ⟨rfl, hI⟩
  | q :: D, t, hI, hm, bs, x, hb => by
    obtain ⟨y, hy⟩ := qs_pre D (qW t q)
    rw [List.foldl_cons] at hb ⊢
    obtain ⟨h1, h2⟩ := qu_trip hI (hm q (List.mem_cons_self ..)) (bs := bs) (x := y ++ x) (by rw [hb, hy, List.append_assoc])
    obtain ⟨h3, h4⟩ := qs_trip D (qW t q) h2 (fun z hz => hm z (List.mem_cons_of_mem _ hz)) bs x hb
    refine ⟨?_, h4⟩
    show (quO bs (some t.1.length)).bind (fun p => (sqO (quO bs) D.length (some p.2)).map fun t => (p.1 :: t.1, t.2)) = _
    rw [h1]
    simp only [Option.bind_some]
    rw [h3]
    rfl
theorem rs_trip : ∀ (D : List Rec) (t : Wst), WI t → (∀ r ∈ D, mayR r = true) → (∀ r ∈ D, Fit r) → ∀ bs x : List UInt8, bs = (D.foldl rW t).1 ++ x → sqO (reO bs) D.length (some t.1.length) = some (D, (D.foldl rW t).1.length) ∧ WI (D.foldl rW t)
  | [], t, hI, _, _, bs, x, hb => ⟨rfl, hI⟩
  | r :: D, t, hI, hm, hf, bs, x, hb => by
    obtain ⟨y, hy⟩ := rs_pre D (rW t r)
    rw [List.foldl_cons] at hb ⊢
    obtain ⟨h1, h2⟩ := re_trip hI (hm r (List.mem_cons_self ..)) (hf r (List.mem_cons_self ..)) (bs := bs) (x := y ++ x) (by rw [hb, hy, List.append_assoc])
    obtain ⟨h3, h4⟩ := rs_trip D (rW t r) h2 (fun z hz => hm z (List.mem_cons_of_mem _ hz)) (fun z hz => hf z (List.mem_cons_of_mem _ hz)) bs x hb
    refine ⟨?_, h4⟩
    show (reO bs (some t.1.length)).bind (fun p => (sqO (reO bs) D.length (some p.2)).map fun t => (p.1 :: t.1, t.2)) = _
    rw [h1]
    simp only [Option.bind_some]
    rw [h3]
    rfl
theorem hd_trip (a b c d e f : Nat) (ha : a ≤ 65535) (hb : b ≤ 65535) (hc : c ≤ 65535) (hd : d ≤ 65535) (he : e ≤ 65535) (hf : f ≤ 65535) (bs x : List UInt8) (h : bs = twoL a ++ twoL b ++ twoL c ++ twoL d ++ twoL e ++ twoL f ++ x) :
    sqO (fun o => nuO bs o 2) 6 (some 0) = some ([a, b, c, d, e, f], 12) := by
  have s1 := nu_trip (bs := bs) (l := []) (n := a) (a := 0) (x := twoL b ++ twoL c ++ twoL d ++ twoL e ++ twoL f ++ x) (by rw [h]; simp only [List.append_assoc, List.nil_append]) rfl ha
  have s2 := nu_trip (bs := bs) (l := twoL a) (n := b) (a := 2) (x := twoL c ++ twoL d ++ twoL e ++ twoL f ++ x) (by rw [h]; simp only [List.append_assoc]) rfl hb
  have s3 := nu_trip (bs := bs) (l := twoL a ++ twoL b) (n := c) (a := 4) (x := twoL d ++ twoL e ++ twoL f ++ x) (by rw [h]; simp only [List.append_assoc]) rfl hc
  have s4 := nu_trip (bs := bs) (l := twoL a ++ twoL b ++ twoL c) (n := d) (a := 6) (x := twoL e ++ twoL f ++ x) (by rw [h]; simp only [List.append_assoc]) rfl hd
  have s5 := nu_trip (bs := bs) (l := twoL a ++ twoL b ++ twoL c ++ twoL d) (n := e) (a := 8) (x := twoL f ++ x) (by rw [h]; simp only [List.append_assoc]) rfl he
  have s6 := nu_trip (bs := bs) (l := twoL a ++ twoL b ++ twoL c ++ twoL d ++ twoL e) (n := f) (a := 10) (x := x) (by rw [h]) rfl hf
  simp [sqO, s1, s2, s3, s4, s5, s6]
theorem mgP_wB {m : Msg} (hm : mayM m = true) (hl : m.qs.length ≤ 65535 ∧ m.an.length ≤ 65535 ∧ m.au.length ≤ 65535 ∧ m.mo.length ≤ 65535) (h1 : ∀ r ∈ m.an, Fit r) (h2 : ∀ r ∈ m.au, Fit r) (h3 : ∀ r ∈ m.mo, Fit r) : mgP (wB m) = some m := by
  have hp : (∀ q ∈ m.qs, mayQ9 q = true) ∧ (0 ≤ m.id ∧ m.id ≤ 65535) ∧ (0 ≤ m.fl ∧ m.fl ≤ 65535) ∧ (∀ r ∈ m.an, mayR r = true) ∧ (∀ r ∈ m.au, mayR r = true) ∧ ∀ r ∈ m.mo, mayR r = true := by
    unfold mayM at hm
    simp only [Bool.and_eq_true, List.all_eq_true, wordN, decide_eq_true_eq] at hm
    obtain ⟨⟨⟨⟨⟨h1, h2⟩, h3⟩, h4⟩, h5⟩, h6⟩ := hm
    exact ⟨h1, h2, h3, h4, h5, h6⟩
  obtain ⟨p1, p2, p3, p4, p5, p6⟩ := hp
  obtain ⟨bs, hbs⟩ : ∃ bs, wB m = bs := ⟨_, rfl⟩
  have hB : bs = (wM m).1 ++ [] := by rw [← hbs, List.append_nil]; rfl
  rw [hbs]
  obtain ⟨x0, e0⟩ := qs_pre m.qs (hdB m, [], [])
  obtain ⟨x1, e1⟩ := rs_pre m.an (m.qs.foldl qW (hdB m, [], []))
  obtain ⟨x2, e2⟩ := rs_pre m.au (m.an.foldl rW (m.qs.foldl qW (hdB m, [], [])))
  obtain ⟨x3, e3⟩ := rs_pre m.mo (m.au.foldl rW (m.an.foldl rW (m.qs.foldl qW (hdB m, [], []))))
  have hI0 : WI (hdB m, [], []) := by
    have := WInv.nil.more (hdB m)
    rwa [List.nil_append] at this
  have b3 : bs = (m.mo.foldl rW (m.au.foldl rW (m.an.foldl rW (m.qs.foldl qW (hdB m, [], []))))).1 ++ [] := hB
  have b2 : bs = (m.au.foldl rW (m.an.foldl rW (m.qs.foldl qW (hdB m, [], [])))).1 ++ x3 := by rw [b3, e3, List.append_nil]
  have b1 : bs = (m.an.foldl rW (m.qs.foldl qW (hdB m, [], []))).1 ++ (x2 ++ x3) := by rw [b2, e2, List.append_assoc]
  have b0 : bs = (m.qs.foldl qW (hdB m, [], [])).1 ++ (x1 ++ (x2 ++ x3)) := by rw [b1, e1, List.append_assoc]
  have bh : bs = hdB m ++ (x0 ++ (x1 ++ (x2 ++ x3))) := by rw [b0, e0, List.append_assoc]
  have s0 := hd_trip m.id.toNat m.fl.toNat m.qs.length m.an.length m.au.length m.mo.length (by omega) (by omega) hl.1 hl.2.1 hl.2.2.1 hl.2.2.2 bs _ bh
  obtain ⟨s1, hI1⟩ := qs_trip m.qs (hdB m, [], []) hI0 p1 bs _ b0
  obtain ⟨s2, hI2⟩ := rs_trip m.an _ hI1 p4 h1 bs _ b1
  obtain ⟨s3, hI3⟩ := rs_trip m.au _ hI2 p5 h2 bs _ b2
  obtain ⟨s4, hI4⟩ := rs_trip m.mo _ hI3 p6 h3 bs _ b3
  have hhl : ((hdB m, ([] : List ByteArray), ([] : List Nat)) : Wst).1.length = 12 := rfl
  rw [hhl] at s1
  unfold mgP
  rw [s0]
  simp only [Option.bind_some, List.getD_cons_zero, List.getD_cons_succ]
  rw [s1]
  simp only [Option.bind_some]
  rw [s2]
  simp only [Option.bind_some]
  rw [s3]
  simp only [Option.bind_some]
  rw [s4]
  simp only [Option.bind_some]
  rw [if_pos (by rw [b3, List.append_nil])]
  have i1 : ((m.id.toNat : Nat) : Int) = m.id := by omega
  have i2 : ((m.fl.toNat : Nat) : Int) = m.fl := by omega
  rw [i1, i2]
end Go.Proofs.YtedmkdjijhflnaaGreat
namespace Go.Proofs.YtedmkdjijhflnaaGreat
open Go.RowKit

def nmK (u : Nat) : ByteArray := (⟨#[97]⟩ : ByteArray) ++ ⟨(Lib.decDigits u).toArray⟩
theorem nmK_data (u : Nat) : (nmK u).data.toList = 97 :: Lib.decDigits u := by
  unfold nmK
  simp [ByteArray.data_append]
theorem nmK_size (u : Nat) (h : u < 1000) : 1 ≤ (nmK u).size ∧ (nmK u).size ≤ 22 := by
  have e : (nmK u).size = (nmK u).data.toList.length := (Array.length_toList ..).symm
  have := dec_length u (by omega)
  rw [e, nmK_data, List.length_cons]
  omega
theorem nmK_labels (u : Nat) (h : u < 1000) : labelsB (nmK u) = [nmK u] := by
  have hs := nmK_size u h
  unfold labelsB
  rw [if_neg (by omega)]
  have hd : ∀ c ∈ (nmK u).data.toList, c.toNat ≠ 46 := fun c hc => by
    rw [nmK_data] at hc
    rcases List.mem_cons.1 hc with rfl | hc
    · decide
    · exact dec_dot u c hc
  rw [show nmK u = ofL (nmK u).data.toList from eq_ofL rfl, pieces_ofL, cutL_none 46 _ (by simpa using hd)]
  rfl
theorem nmK_may (u : Nat) (h : u < 1000) : mayN (nmK u) = true := by
  have hs := nmK_size u h
  rw [may_is]
  refine decide_eq_true ⟨by omega, fun k hk => ?_⟩
  rw [nmK_labels u h] at hk ⊢
  obtain rfl : k = 0 := by simpa using hk
  simp only [List.getD_cons_zero]
  omega
theorem nmK_ask (u : Nat) (h : u < 1000) : askOk (nmK u) 1 = true := by
  have hs := nmK_size u h
  unfold askOk
  rw [nmK_may u h]
  have : (nmK u).toList ≠ [] := by
    rw [ByteArray.toList_eq, nmK_data]
    simp
  simp [this]
def adK (x i : Nat) : Ad := (4, [x, i, 1, 1, 0, 0, 0, 0, 0, 0, 0, 0, 0, 0, 0, 0])
def recK (nm : ByteArray) (t : Int) (a : Ad) : Rec := ⟨nm, 1, 1, t, a.1, a.2, ⟨#[]⟩, ⟨#[]⟩⟩
theorem likeB_own (s : ByteArray) : likeB s s = true := by rw [likeB_iff]
theorem isRec_K (nm : ByteArray) (t : Int) (a : Ad) : isRec nm 1 (recK nm t a) = true ∧ isRec nm 5 (recK nm t a) = false := by
  constructor
  · simp [isRec, recK, likeB_own]
  · simp [isRec, recK]
theorem filter_K (nm : ByteArray) (t : Int) (l : List Ad) : (l.map (recK nm t)).filter (isRec nm 1) = l.map (recK nm t) :=
  List.filter_eq_self.2 (fun r hr => by obtain ⟨a, _, rfl⟩ := List.mem_map.1 hr; exact (isRec_K nm t a).1)
theorem next_K (nm : ByteArray) (t : Int) (l : List Ad) : nextR (l.map (recK nm t)) nm = none := by
  unfold nextR
  rw [List.find?_eq_none]
  intro r hr
  obtain ⟨a, _, rfl⟩ := List.mem_map.1 hr
  rw [(isRec_K nm t a).2]
  decide
theorem tellAll_K (nm : ByteArray) (t : Int) : ∀ (l pre : List Ad) (s : Int), (pre ++ l).Nodup → tellAll (s, pre) (l.map (recK nm t)) = (if l = [] then s else min s t, pre ++ l)
  | [], pre, s, _ => by simp [tellAll]
  | a :: l, pre, s, h => by
    have hn : a ∉ pre := fun e => (List.nodup_append.1 h).2.2 a e a (by simp) rfl
    have hst : tellStep (s, pre) (recK nm t a) = (min s t, pre ++ [a]) := by
      unfold tellStep
      show (min s t, if (a.1, a.2) ∈ pre then pre else pre ++ [(a.1, a.2)]) = _
      rw [if_neg hn]
    rw [List.map_cons, tell_cons, hst, tellAll_K nm t l (pre ++ [a]) (min s t) (by simpa using h)]
    have hne : ¬ (a :: l = []) := by simp
    rw [if_neg hne]
    refine Prod.ext ?_ (by simp)
    show (if l = [] then min s t else min (min s t) t) = min s t
    split <;> omega
theorem tell_K (nm : ByteArray) (t : Int) (l : List Ad) (hl : l.Nodup) (ht : t ≤ 604800) : tellP 33152 nm 1 (l.map (recK nm t)) = if l = [] then errT 8 else ⟨0, l, t, ⟨#[]⟩, 0⟩ := by
  unfold tellP
  rw [if_neg (by decide), if_neg (by decide)]
  dsimp only
  rw [chain_none (next_K nm t l)]
  dsimp only
  rw [if_pos rfl, show lastB [nm] = nm from rfl, filter_K, tellAll_K nm t l [] 604800 (by simpa using hl)]
  unfold endT
  cases l with
  | nil => rfl
  | cons a l =>
    rw [if_neg (by simp), if_neg (by simp), if_neg (by simp)]
    simp
    omega
theorem ans_K (id : Int) (nm : ByteArray) (D : List Rec) : ansP ⟨id, nm, 1, 0⟩ 0 (forgeM ⟨id, nm, 1, 0⟩ D) = true := by
  unfold ansP forgeM ansQ
  simp [likeB_own]
  decide
theorem recK_ok (nm : ByteArray) (t : Int) (x i : Nat) (hn : mayN nm = true) (hs : nm.size ≤ 253) (ht : 0 ≤ t ∧ t ≤ 604800) (hx : x < 256) (hi : i < 256) : mayR (recK nm t (adK x i)) = true ∧ Fit (recK nm t (adK x i)) := by
  constructor
  · unfold mayR headR bodyR recK adK
    simp [hn, wordN]
    refine ⟨⟨⟨ht.1, by omega⟩, by decide⟩, ?_⟩
    exact ⟨rfl, rfl⟩
  · refine ⟨rfl, ?_, by show (Lit.int .i64 1).wf = true; decide, by show (Lit.int .i64 1).wf = true; decide, ?_, by show (Lit.int .i64 4).wf = true; decide, by show nm.size ≤ maxLen; unfold maxLen; omega, Nat.zero_le _, Nat.zero_le _⟩
    · intro y hy
      simp [recK, adK] at hy
      omega
    · exact WalkArith.wf_i64 (by show -9223372036854775808 ≤ t ∧ t ≤ 9223372036854775807; omega)
theorem forge_ok (id : Int) (nm : ByteArray) (t : Int) (l : List (Nat × Nat)) (hid : 0 ≤ id ∧ id < 65536) (hn : mayN nm = true) (hs : nm.size ≤ 253) (ht : 0 ≤ t ∧ t ≤ 604800) (hl : ∀ p ∈ l, p.1 < 256 ∧ p.2 < 256) (hc : l.length ≤ 3) :
    mayM (forgeM ⟨id, nm, 1, 0⟩ ((l.map (fun p => adK p.1 p.2)).map (recK nm t))) = true ∧ (∀ r ∈ (l.map (fun p => adK p.1 p.2)).map (recK nm t), Fit r) := by
  have hm : ∀ r ∈ (l.map (fun p => adK p.1 p.2)).map (recK nm t), mayR r = true ∧ Fit r := fun r hr => by
    obtain ⟨a, ha, rfl⟩ := List.mem_map.1 hr
    obtain ⟨p, hp, rfl⟩ := List.mem_map.1 ha
    exact recK_ok nm t p.1 p.2 hn hs ht (hl p hp).1 (hl p hp).2
  refine ⟨?_, fun r hr => (hm r hr).2⟩
  have h1 : ((l.map (fun p => adK p.1 p.2)).map (recK nm t)).all mayR = true := List.all_eq_true.2 (fun r hr => (hm r hr).1)
  unfold mayM forgeM mayQ9 wordN
  simp only [h1]
  simp [hn]
  omega
end Go.Proofs.YtedmkdjijhflnaaGreat
namespace Go.Proofs.YtedmkdjijhflnaaGreat
open Go.RowKit

theorem nm8_firstL (l : List UInt8) (s : ByteArray) (hf : Full s) : ∀ (f i : Nat) (ns : List ByteArray) (ats : List Nat), (labelsB s).length + 1 = i + f → i ≤ (labelsB s).length → (∀ n ∈ ns, (restB s i).size < n.size) → (nm8 s (labelsB s) f i (l ++ bytesTo (labelsB s) i) ns ats).1 = l ++ bytesL (labelsB s)
  | 0, i, ns, ats, h, hi, _ => by omega
  | f + 1, i, ns, ats, h, hi, hn => by
    unfold nm8
    by_cases hl : (labelsB s).length ≤ i
    · rw [if_pos hl]
      have : i = (labelsB s).length := by omega
      rw [this, List.append_assoc]
      rfl
    · rw [if_neg hl, find8_longer ns ats _ hn]
      have hr : (restB s (i + 1)).size < (restB s i).size := by
        have h1 := (rest_pos hf i).2 (by omega)
        rw [rest_par]
        exact par_lt _ h1
      simp only
      rw [List.append_assoc]
      refine nm8_firstL l s hf f (i + 1) _ _ (by omega) (by omega) (fun n hm => ?_)
      split at hm
      · rcases List.mem_append.1 hm with hm | hm
        · have := hn n hm; omega
        · rw [List.mem_singleton.1 hm]; exact hr
      · have := hn n hm; omega
theorem small_first {s : ByteArray} (hm : mayN s = true) (n : Nat) (hn : n < 16384) : (nmT s n [] []).1 = bytesL (labelsB s) ∧ (0 < s.size → find8 (nmT s n [] []).2.1 (nmT s n [] []).2.2 s = some n) := by
  have hf := may_full hm
  have h1 := nm8_firstL (List.replicate n 0) s hf ((labelsB s).length + 1) 0 [] [] (by omega) (Nat.zero_le _) (fun x hx => by cases hx)
  rw [show bytesTo (labelsB s) 0 = [] from rfl, List.append_nil] at h1
  refine ⟨by unfold nmT; rw [h1]; simp, fun hs => ?_⟩
  have hL : 0 < (labelsB s).length := by
    have h2 := (rest_pos hf 0).1 (by rw [rest_zero]; exact hs)
    exact h2
  unfold nmT
  simp only
  unfold nm8
  rw [if_neg (by omega)]
  simp only [find8, List.length_replicate, if_pos hn, List.nil_append]
  have hr : (restB s 1).size < s.size := by
    have e : restB s 1 = parB (restB s 0) := rest_par 0 s
    rw [e, rest_zero]
    exact par_lt _ hs
  obtain ⟨_, _, _, _, _, h5, _⟩ := nm8_sp s hm (n + 1) (labelsB s).length 1 (List.replicate n 0 ++ labL ((labelsB s).getD 0 ⟨#[]⟩)) [restB s 0] [n] (by omega) (by omega) rfl (by simpa using hn) (by simp [labL]) (fun x k hx hk => by
    rw [rest_zero] at hk
    unfold find8 at hk
    by_cases e : s = x
    · subst e; omega
    · rw [if_neg e] at hk; simp [find8] at hk)
  have := h5 s hr
  rw [this, rest_zero]
  unfold find8
  rw [if_pos rfl]
theorem small_next {s : ByteArray} {n k : Nat} {ns : List ByteArray} {ats : List Nat} (hm : mayN s = true) (hs : 0 < s.size) (h : find8 ns ats s = some k) : (nmT s n ns ats).1.length = 2 ∧ (nmT s n ns ats).2 = (ns, ats) := by
  have hL : 0 < (labelsB s).length := (rest_pos (may_full hm) 0).1 (by rw [rest_zero]; exact hs)
  unfold nmT nm8
  rw [if_neg (by omega), rest_zero, h]
  simp
end Go.Proofs.YtedmkdjijhflnaaGreat
namespace Go.Proofs.YtedmkdjijhflnaaGreat
open Go.RowKit

theorem w_size : (Tryz.prog.info? 133).map (·.size) = some 3 := by kernel_rfl
abbrev zW : List Value := [.slice none 0 0, .slice none 0 0, .slice none 0 0]
theorem loadVar_W9 {w : World} {G : Nat} {vs : List Value} (h : CellsAt w G vs) (hl : vs.length = 3) : (loadVar 133 ⟨G, 0, none⟩).run Tryz.prog w = .ok (.agg vs.toArray) w :=
  run_loadVar_mid w G 0 133 vs _ h.range Tryz.underlying133 rfl (by rw [w_size, hl])
theorem results_W9 {fn : Func} {a : Tmp} {tmps : Array Value} {W : World} {R : Nat} {vs : List Value} (h : fn.results = #[.cell a 133]) (ha : tmps.getD a undef = .pointer (some ⟨R, 0, none⟩)) (hA : CellsAt W R vs) (hl : vs.length = 3) : (results fn tmps).run Tryz.prog W = .ok (.agg vs.toArray) W := by
  rw [Array.getD_eq_getD_getElem?] at ha
  simp [results, h, ha, asAddr, loadVar_W9 hA hl]
theorem store_W9 {ops : Array Oper} {rest : List Oper} {op : Oper} {a : Act} {w : World} {Q : Exit → Act → World → Prop} {G : Nat} {us vs : List Value} (hA : Hid (CellsAt w G us)) (hu : us.length = 3) (x y : Operand) (hgd : op.guard = none) (ho : op.op = .store 133 x y)
    (hx : a.eval x = .pointer (some ⟨G, 0, none⟩)) (hy : a.eval y = .agg vs.toArray) (hl : vs.length = 3) (h1 : vs.all (fun u => u.oneCell') = true) (h : ∀ W, Hid (W = w.setCells G 0 vs) → Hid (CellsAt W G vs) → wpList Tryz.prog ops Q rest (a.put op.dst undef) W) : wpList Tryz.prog ops Q (op :: rest) a w :=
  wpList_store_mid hgd 133 x y ho G 0 vs.toArray hx hy (by rw [List.size_toArray, hl, ← hu]; exact hA.out.there) (by rw [w_size, List.size_toArray, hl]) (all_oneCell_toArray (List.all_eq_true.1 h1)) (h _ (Lib.hid rfl) (Lib.hid (hA.out.stored vs (hl.trans hu.symm))))
theorem wp_store_W9 {op : Oper} {a : Act} {w : World} {K : Act → World → Prop} {Q : Exit → Act → World → Prop} {G : Nat} {us vs : List Value} (hA : Hid (CellsAt w G us)) (hu : us.length = 3) (x y : Operand) (ho : op.op = .store 133 x y)
    (hx : a.eval x = .pointer (some ⟨G, 0, none⟩)) (hy : a.eval y = .agg vs.toArray) (hl : vs.length = 3) (h1 : vs.all (fun u => u.oneCell') = true) (h : ∀ W, Hid (W = w.setCells G 0 vs) → Hid (CellsAt W G vs) → K (a.put op.dst undef) W) : op.wp Tryz.prog a w K Q :=
  wp_store_mid 133 x y ho G 0 vs.toArray hx hy (by rw [List.size_toArray, hl, ← hu]; exact hA.out.there) (by rw [w_size, List.size_toArray, hl]) (all_oneCell_toArray (List.all_eq_true.1 h1)) (h _ (Lib.hid rfl) (Lib.hid (hA.out.stored vs (hl.trans hu.symm))))
def HeldS (L : List (Nat × Nat × List Value)) (w : World) : Prop := ∀ x ∈ L, w.rangeAt x.1 x.2.1 x.2.2
theorem yields_W9 {ops : Array Oper} {op : Oper} {a : Act} {L : List (Nat × Nat × List Value)} {G : Nat} {vs : List Value} (hm : Hid ((G, 0, vs) ∈ L ∧ vs.length = 3)) (hw : Region.wanted op (yielded ops a.tmps) = true) (x : Operand) (ho : op.op = .load 133 x)
    (hx : a.eval x = .pointer (some ⟨G, 0, none⟩)) : YieldsIf Tryz.prog ops (HeldS L) op (.agg vs.toArray) a :=
  yieldsIf_load_mid hw 133 x ho G 0 hx _ _ (fun w h => h _ hm.out.1) Tryz.underlying133 rfl (by rw [w_size, hm.out.2])
structure Kept (L : List (Nat × Nat × List Value)) (F : List Nat) (w : World) : Prop where
  at0 : HeldS L w
  lt : ∀ x ∈ L, x.1 < w.heap.size
  off : ∀ x ∈ L, x.1 ∉ F
  th : ∀ x ∈ L, w.there x.1 x.2.1 x.2.2.length
section
variable {L : List (Nat × Nat × List Value)} {F F' : List Nat} {w w' : World}
theorem Kept.nil (F : List Nat) (w : World) : Kept [] F w := ⟨fun x hx => (by cases hx), fun x hx => (by cases hx), fun x hx => (by cases hx), fun x hx => (by cases hx)⟩
theorem Kept.cons (h : Kept L F w) {G o : Nat} {vs : List Value} (hr : w.rangeAt G o vs) (ht : w.there G o vs.length) (hG : G < w.heap.size) (hF : G ∉ F) : Kept ((G, o, vs) :: L) F w :=
  ⟨fun x hx => by
    rcases List.mem_cons.1 hx with rfl | hx
    · exact hr
    · exact h.at0 x hx, fun x hx => by
    rcases List.mem_cons.1 hx with rfl | hx
    · exact hG
    · exact h.lt x hx, fun x hx => by
    rcases List.mem_cons.1 hx with rfl | hx
    · exact hF
    · exact h.off x hx, fun x hx => by
    rcases List.mem_cons.1 hx with rfl | hx
    · exact ht
    · exact h.th x hx⟩
theorem Kept.foot (h : Kept L F w) (hf : Foot F F' w w') : Kept L F' w' :=
  ⟨fun x hx => range_foot hf (h.at0 x hx) (h.lt x hx) (h.off x hx), fun x hx => Nat.lt_of_lt_of_le (h.lt x hx) hf.size, fun x hx => hf.out (h.lt x hx) (h.off x hx), fun x hx j hj => by
    have hk := hf.keep x.1 (h.lt x hx) (h.off x hx)
    have := h.th x hx j hj
    rwa [World.cell?_of_block (w := w) (a := ⟨x.1, x.2.1 + j, none⟩) hk, World.frozen?_of_block (w := w) (a := ⟨x.1, x.2.1 + j, none⟩) hk]⟩
theorem Kept.below (h : Kept L F w) (hb : Below w.heap.size w w') : Kept L F w' := h.foot (Foot.ofBelow F hb)
theorem Kept.store (h : Kept L F w) {G o : Nat} (hG : ∀ x ∈ L, x.1 ≠ G) (us : List Value) : Kept L F (w.setCells G o us) :=
  ⟨fun x hx => World.rangeAt_setCells_apart (h.at0 x hx) G o us (.inl (hG x hx)), fun x hx => by rw [size_setCells]; exact h.lt x hx, h.off, fun x hx => World.there_setCells (h.th x hx) G o us⟩
theorem Kept.sub (h : Kept L F w) {L' : List (Nat × Nat × List Value)} (hs : ∀ x ∈ L', x ∈ L) : Kept L' F w := ⟨fun x hx => h.at0 x (hs x hx), fun x hx => h.lt x (hs x hx), fun x hx => h.off x (hs x hx), fun x hx => h.th x (hs x hx)⟩
end
structure W3 (w : World) (B : Nat) (vB vN vA : Value) (t : Wst) : Prop where
  rb : w.ownsRow B 5 1 vB t.1.length (bys t.1)
  rn : w.ownsRow B 9 1 vN t.2.1.length (t.2.1.map Value.string)
  ra : w.ownsRow B 3 1 vA t.2.2.length (intsL t.2.2)
theorem W3.blk {w : World} {B : Nat} {vB vN vA : Value} {t : Wst} (h : W3 w B vB vN vA t) : ∀ k ∈ blk3 vB vN vA, B ≤ k ∧ k < w.heap.size := fun k hk => by
  rcases mem_blk3.1 hk with e | e | e
  · exact h.rb.lt k e
  · exact h.rn.lt k e
  · exact h.ra.lt k e
theorem W3.keep {w w' : World} {B : Nat} {vB vN vA : Value} {t : Wst} (h : W3 w B vB vN vA t) (hk : ∀ k ∈ blk3 vB vN vA, w'.heap[k]? = w.heap[k]?) : W3 w' B vB vN vA t :=
  ⟨own_kept h.rb (fun g hg => hk g (mem_blk3.2 (.inl hg))), own_kept h.rn (fun g hg => hk g (mem_blk3.2 (.inr (.inl hg)))), own_kept h.ra (fun g hg => hk g (mem_blk3.2 (.inr (.inr hg))))⟩
structure St9 (w0 : World) (B : Nat) (F0 : List Nat) (L : List (Nat × Nat × List Value)) (vB vN vA : Value) (t : Wst) (w : World) : Prop where
  rows : W3 w B vB vN vA t
  foot : Foot F0 (blk3 vB vN vA) w0 w
  kept : Kept L (blk3 vB vN vA) w
  size : B ≤ w.heap.size
section
variable {w0 w w' : World} {B G : Nat} {F0 : List Nat} {L : List (Nat × Nat × List Value)} {vB vN vA : Value} {t : Wst} {us : List Value}
theorem St9.begin (h : W3 w B vB vN vA t) (hB : B ≤ w.heap.size) : St9 w B (blk3 vB vN vA) [] vB vN vA t w := ⟨h, Foot.ofBelow _ (Below.refl _ _), Kept.nil _ _, hB⟩
theorem St9.below (h : St9 w0 B F0 L vB vN vA t w) (hb : Below w.heap.size w w') : St9 w0 B F0 L vB vN vA t w' :=
  ⟨h.rows.keep (fun k hk => hb.block k (h.rows.blk k hk).2), h.foot.trans (Foot.ofBelow _ hb), h.kept.below hb, Nat.le_trans h.size hb.size⟩
theorem St9.drew (h : St9 w0 B F0 L vB vN vA t w) : St9 w0 B F0 L vB vN vA t w.drew := h.below (Below.refl _ _).drew
theorem St9.hold (h : St9 w0 B F0 L vB vN vA t w) {o : Nat} {vs : List Value} (hr : w.rangeAt G o vs) (ht : w.there G o vs.length) (hG : G < w.heap.size) (hF : G ∉ blk3 vB vN vA) : St9 w0 B F0 ((G, o, vs) :: L) vB vN vA t w := ⟨h.rows, h.foot, h.kept.cons hr ht hG hF, h.size⟩
theorem St9.alloc (h : St9 w0 B F0 L vB vN vA t w) (vs : List Value) (ty : TypeId) : St9 w0 B F0 ((w.heap.size, 0, vs) :: L) vB vN vA t (w.alloc (.cells vs.toArray ty)) :=
  (h.below ((Below.refl _ _).alloc (Nat.le_refl _) _)).hold (built_new _) (CellsAt.new w ty vs).there (by simp) (fun hk => by have := (h.rows.blk _ hk).2; omega)
theorem St9.sub (h : St9 w0 B F0 L vB vN vA t w) {L' : List (Nat × Nat × List Value)} (hs : ∀ x ∈ L', x ∈ L) : St9 w0 B F0 L' vB vN vA t w := ⟨h.rows, h.foot, h.kept.sub hs, h.size⟩
theorem St9.store (h : St9 w0 B F0 L vB vN vA t w) {o : Nat} (hn : ∀ x ∈ L, x.1 ≠ G) (hF : G ∉ blk3 vB vN vA) (h0 : w0.heap.size ≤ G) (us : List Value) : St9 w0 B F0 L vB vN vA t (w.setCells G o us) := by
  have hb : Below w0.heap.size w (w.setCells G o us) := below_cells h0 _ _ _ (Below.refl _ _)
  refine ⟨h.rows.keep (fun k hk => setCells_block _ _ _ _ _ (fun e => hF (e ▸ hk))), ?_, h.kept.store hn us, by rw [size_setCells]; exact h.size⟩
  refine ⟨hb.os.trans h.foot.os, hb.tape.trans h.foot.tape, hb.output.trans h.foot.output, Nat.le_trans h.foot.size hb.size, fun k hk hn => (setCells_block _ _ _ _ _ (by omega)).trans (h.foot.keep k hk hn), h.foot.new⟩
theorem St9.cells (h : St9 w0 B F0 L vB vN vA t w) {vs : List Value} (hm : (G, 0, vs) ∈ L) : CellsAt w G vs := ⟨h.kept.lt _ hm, h.kept.at0 _ hm, h.kept.th _ hm⟩
theorem St9.set (h : St9 w0 B F0 ((G, 0, us) :: L) vB vN vA t w) (hn : ∀ x ∈ L, x.1 ≠ G) (h0 : w0.heap.size ≤ G) (vs : List Value) (hl : vs.length = us.length) : St9 w0 B F0 ((G, 0, vs) :: L) vB vN vA t (w.setCells G 0 vs) := by
  have hF := h.kept.off _ (List.mem_cons_self ..)
  have hc := (h.cells (List.mem_cons_self ..)).stored vs hl
  exact ((h.sub (fun x hx => List.mem_cons_of_mem _ hx)).store hn hF h0 vs).hold hc.range hc.there hc.lt hF
theorem W3.one (h : W3 w B vB vN vA t) : [vB, vN, vA].all (fun u => u.oneCell') = true := by
  simp only [List.all_cons, List.all_nil, own_oneCell h.rb, own_oneCell h.rn, own_oneCell h.ra, Bool.and_self]
theorem St9.ret (h : St9 w0 B F0 L vB vN vA t w) : PutRet w0 B F0 t.1 t.2.1 t.2.2 (.returned (.agg #[vB, vN, vA])) w := ⟨vB, vN, vA, rfl, h.rows.rb, h.rows.rn, h.rows.ra, h.foot⟩
theorem twoL_len (n : Nat) : (twoL n).length = 2 := rfl
theorem St9.twoc (h : St9 w0 B F0 L vB vN vA t w) {n : Nat} (hn : n ≤ 65535) : Calls Tryz.prog 55 #[.int .i64 (n : Int)] w fun e w' => e = .returned (.slice (some ⟨w.heap.size, 0, none⟩) 2 2) ∧ BytesIn2 w' (some ⟨w.heap.size, 0, none⟩) 2 (twoL n) ∧ St9 w0 B F0 L vB vN vA t w' := by
  refine (two9_any n w hn).mono ?_
  rintro e w' ⟨h1, h2, h3⟩
  obtain ⟨a, c, h4, h5⟩ := in_own h2
  injection h4 with e1 e2 e3
  subst e1
  subst e3
  exact ⟨h1, h5, h.below h3⟩
theorem St9.more (h : St9 w0 B F0 L vB vN vA t w) {vB' vN' vA' : Value} {t' : Wst} (h1 : W3 w' B vB' vN' vA' t') (h2 : Foot (blk3 vB vN vA) (blk3 vB' vN' vA') w w') : St9 w0 B F0 L vB' vN' vA' t' w' := ⟨h1, h.foot.trans h2, h.kept.foot h2, Nat.le_trans h.size h2.size⟩
theorem St9.putc (h : St9 w0 B F0 L vB vN vA t w) {ad : Option Addr} {c n : Nat} {m : List UInt8} (hm : BytesIn2 w ad c m) (hl : t.1.length + m.length ≤ 1000000000) (hn : m.length = n) :
    Calls Tryz.prog 54 #[.agg #[vB, vN, vA], .slice ad n c] w fun e w' => ∃ vB' vN' vA', e = .returned (.agg #[vB', vN', vA']) ∧ St9 w0 B F0 L vB' vN' vA' (t.1 ++ m, t.2) w' := by
  subst hn
  refine (put9_any vB vN vA t.1 t.2.1 t.2.2 ad c m w B h.rows.rb h.rows.rn h.rows.ra hm h.size hl).mono ?_
  rintro e w' ⟨b, n, a, h1, h2, h3, h4, h5⟩
  exact ⟨b, n, a, h1, h.more ⟨h2, h3, h4⟩ h5⟩
theorem St9.namec (h : St9 w0 B F0 L vB vN vA t w) {s : ByteArray} (hm : mayN s = true) {K : Nat} (hK : Wok K t) (hk : K ≤ 1000000) :
    Calls Tryz.prog 56 #[.agg #[vB, vN, vA], .string s] w fun e w' => ∃ vB' vN' vA', e = .returned (.tuple #[.agg #[vB', vN', vA'], .bool true]) ∧ St9 w0 B F0 L vB' vN' vA' (t.1 ++ (nmT s t.1.length t.2.1 t.2.2).1, (nmT s t.1.length t.2.1 t.2.2).2) w' := by
  have hs := may_small hm
  have k1 := hK.len
  have k2 := hK.lns
  have H := refName8_any vB vN vA t.1 t.2.1 t.2.2 s w B h.rows.rb h.rows.rn h.rows.ra h.size hK.two (by omega) (by omega) (fun p hp => by have := hK.sm p hp; omega) hK.low (by omega)
  rw [hm, if_pos rfl, (nmT_is hm t.1.length t.2.1 t.2.2).eq t.1 rfl] at H
  refine H.mono ?_
  rintro e w' ⟨b, n, a, h1, h2, h3, h4, h5⟩
  exact ⟨b, n, a, h1, h.more ⟨h2, h3, h4⟩ h5⟩
end
end Go.Proofs.YtedmkdjijhflnaaGreat
namespace Go.Proofs.YtedmkdjijhflnaaGreat
open Go.RowKit

theorem bytes_of_held {w : World} {G c : Nat} {l : List UInt8} (hr : w.rangeAt G 0 (bys l)) (h1 : l.length ≤ c) (h2 : c ≤ maxLen) : BytesIn2 w (some ⟨G, 0, none⟩) c l :=
  ⟨⟨h1, h2, .inr ⟨_, rfl, fun i hi => by
    have := hr i (.int .u8 ((l[i].toNat : Nat) : Int)) (by unfold bys; rw [List.getElem?_map, List.getElem?_eq_getElem hi]; rfl)
    have hadd : (⟨G, 0, none⟩ : Addr).add i = ⟨G, 0 + i, none⟩ := by unfold Addr.add; split <;> simp_all
    rw [hadd]
    exact this⟩⟩, fun h => by cases h⟩
theorem conv_range (w : World) (s : ByteArray) : (Lib.bytesWorld w 5 s).rangeAt w.heap.size 0 (bys s.data.toList) := fun j u hu => by
  rw [Nat.zero_add]
  exact conv_cells w s j u hu
theorem conv_there (w : World) (s : ByteArray) : (Lib.bytesWorld w 5 s).there w.heap.size 0 (bys s.data.toList).length := fun j hj => by
  have hc := conv_range w s j _ (List.getElem?_eq_getElem hj)
  have h0 := hc
  refine ⟨by rw [hc]; rfl, ?_⟩
  unfold World.cell? at hc
  have hb := Lib.bytesWorld_at_new w 5 s
  simp only [hb] at hc
  have hlt : 0 + j < (Lib.bytesCells w 5 s).size := by
    apply Classical.byContradiction
    intro h
    rw [Nat.zero_add] at h hc

    exact h (Array.getElem?_eq_some_iff.1 hc).1
  unfold World.frozen?
  simp only [hb]
  simp
  omega
theorem St9.conv {w0 w : World} {B : Nat} {F0 : List Nat} {L : List (Nat × Nat × List Value)} {vB vN vA : Value} {t : Wst} (h : St9 w0 B F0 L vB vN vA t w) (s : ByteArray) : St9 w0 B F0 ((w.heap.size, 0, bys s.data.toList) :: L) vB vN vA t (Lib.bytesWorld w 5 s) :=
  (h.below (conv_below w s)).hold (conv_range w s) (conv_there w s) (by rw [Lib.bytesWorld_size]; omega) (fun hk => by have := (h.rows.blk _ hk).2; omega)
theorem St9.conv_ex {w0 w : World} {B : Nat} {F0 : List Nat} {g : Nat × Nat × List Value} {L : List (Nat × Nat × List Value)} {vB vN vA : Value} {t : Wst} (h : St9 w0 B F0 (g :: L) vB vN vA t w) (s : ByteArray) (hs : s.size ≤ maxLen) :
    ∃ (P : Nat) (V : World) (c : Nat), (convert 9 38 (.string s)).run Tryz.prog w = .ok (.slice (some ⟨P, 0, none⟩) s.size c) V ∧ s.size ≤ c ∧ c ≤ maxLen ∧ P ≠ g.1 ∧ St9 w0 B F0 (g :: (P, 0, bys s.data.toList) :: L) vB vN vA t V ∧ Below w.heap.size w V :=
  ⟨_, _, _, Lib.run_convert_string_bytes (P := Tryz.prog) w 9 38 5 s Tryz.underlying9 Tryz.underlying38 Tryz.underlying5, grownCap_ge _ _ _ _, grownCap_le_maxLen _ _ _ _ hs, Nat.ne_of_gt (h.kept.lt _ (List.mem_cons_self ..)), (h.conv s).sub (fun x hx => by
    simp only [List.mem_cons] at hx ⊢
    rcases hx with h | h | h <;> simp [h]), conv_below w s⟩
theorem St9.alloc_ex {w0 w : World} {B : Nat} {F0 : List Nat} {L : List (Nat × Nat × List Value)} {vB vN vA : Value} {t : Wst} (h : St9 w0 B F0 L vB vN vA t w) :
    ∃ (P : Nat) (V : World), w.heap.size = P ∧ w.alloc (.cells #[.slice none 0 0, .slice none 0 0, .slice none 0 0] 133) = V ∧ (∀ x ∈ L, x.1 ≠ P) ∧ w0.heap.size ≤ P ∧ St9 w0 B F0 ((P, 0, zW) :: L) vB vN vA t V ∧ Below w.heap.size w V :=
  ⟨_, _, rfl, rfl, fun x hx => Nat.ne_of_lt (h.kept.lt x hx), h.foot.size, h.alloc zW _, (Below.refl _ _).alloc (Nat.le_refl _) _⟩
theorem own_some {w : World} {B n : Nat} {t : TypeId} {z : Nat} {v : Value} {xs : List Value} (h : w.ownsRow B t z v n xs) (hn : 0 < n) : ∃ g c, v = .slice (some ⟨g, 0, none⟩) n c := by
  rcases h.2 with ⟨_, e⟩ | ⟨g, cap, cur, e, _⟩
  · omega
  · exact ⟨g, cap, e⟩
theorem St9.setB {w0 w : World} {B g n c i : Nat} {F0 : List Nat} {L : List (Nat × Nat × List Value)} {vN vA : Value} {t : Wst} (h : St9 w0 B F0 L (.slice (some ⟨g, 0, none⟩) n c) vN vA t w) (x : UInt8) (hi : i < t.1.length) :
    St9 w0 B F0 L (.slice (some ⟨g, 0, none⟩) n c) vN vA (t.1.set i x, t.2) (w.setCell ⟨g, i, none⟩ (.int .u8 (x.toNat : Int))) ∧ w.frozen? ⟨g, i, none⟩ = false ∧ ∃ v, w.cell? ⟨g, i, none⟩ = some v := by
  obtain ⟨h1, h2, h3⟩ := own_setB h.rows.rb i x hi
  have hg : ∀ k, k ≠ g → (w.setCell ⟨g, i, none⟩ (.int .u8 (x.toNat : Int))).heap[k]? = w.heap[k]? := fun k hk => heap_setCell_other _ _ _ _ hk
  have hgm : g ∈ blk3 (.slice (some ⟨g, 0, none⟩) n c) vN vA := mem_blk3.2 (.inl rfl)
  have hsz : (w.setCell ⟨g, i, none⟩ (.int .u8 (x.toNat : Int))).heap.size = w.heap.size := by simp
  refine ⟨⟨⟨h1, own_kept h.rows.rn (fun k hk => hg k (fun e => own_types h.rows.rb h.rows.rn (by decide) g rfl (e ▸ hk))), own_kept h.rows.ra (fun k hk => hg k (fun e => own_types h.rows.rb h.rows.ra (by decide) g rfl (e ▸ hk)))⟩, ?_, ?_, by rw [hsz]; exact h.size⟩, h2, h3⟩
  · have hb : Below 0 w (w.setCell ⟨g, i, none⟩ (.int .u8 (x.toNat : Int))) := (Below.refl 0 w).setCell (p := ⟨g, i, none⟩) (Nat.zero_le _) _
    refine ⟨hb.os.trans h.foot.os, hb.tape.trans h.foot.tape, hb.output.trans h.foot.output, by rw [hsz]; exact h.foot.size, fun k hk hn => (hg k (fun e => ?_)).trans (h.foot.keep k hk hn), h.foot.new⟩
    subst e
    rcases h.foot.new k hgm with e | e
    · exact hn e
    · omega
  · have hne : ∀ x ∈ L, x.1 ≠ g := fun x hx e => h.kept.off x hx (e ▸ hgm)
    exact ⟨fun y hy j u hu => (World.cell?_of_block (a := ⟨y.1, y.2.1 + j, none⟩) (hg _ (hne y hy))).trans (h.kept.at0 y hy j u hu), fun y hy => by rw [hsz]; exact h.kept.lt y hy, h.kept.off, fun y hy j hj => by
      have := h.kept.th y hy j hj
      rwa [World.cell?_of_block (w := w) (a := ⟨y.1, y.2.1 + j, none⟩) (hg _ (hne y hy)), World.frozen?_of_block (w := w) (a := ⟨y.1, y.2.1 + j, none⟩) (hg _ (hne y hy))]⟩
theorem two_cells {w : World} {P c : Nat} {n : Nat} (h : BytesIn2 w (some ⟨P, 0, none⟩) c (twoL n)) : w.cell? ⟨P, 0, none⟩ = some (.int .u8 ((UInt8.ofNat (n / 256)).toNat : Int)) ∧ w.cell? ⟨P, 1, none⟩ = some (.int .u8 ((UInt8.ofNat (n % 256)).toNat : Int)) := by
  obtain ⟨⟨_, _, h3⟩, _⟩ := h
  rcases h3 with h3 | ⟨x, e, h3⟩
  · cases h3
  · cases e
    have e0 := h3 0 (by rw [twoL_len]; decide)
    have e1 := h3 1 (by rw [twoL_len]; decide)
    exact ⟨e0, e1⟩
end Go.Proofs.YtedmkdjijhflnaaGreat
