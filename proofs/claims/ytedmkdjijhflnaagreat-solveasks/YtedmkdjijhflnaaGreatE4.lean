/- Texts that belong together, one behind the other: SolTick, CacCmp, CeRow, CeCut, CeKit, CeFind, CacMap, CeSweep, CacMath, CacRow, RangeKit, RangeLaw, RangeList, CacKeys, CacCollect, CacOps, CacGet, Cuts. -/
import Derived.Test.YtedmkdjijhflnaaGreatE3
import Derived.Sort.Grow
import Derived.Deep.Cut
import Derived.Deep.Draws
import Derived.Laws.OwnMore
import Derived.Deep.AppendLies
import Derived.Maps.AppendAt
import Derived.Maps.RangeWalk
import Derived.DeepKeys4
import Derived.Lib.SlMapFilter
import Derived.WalkArith
import Derived.Sort.Walk0
import Derived.RangeFuncCalls
import Derived.RangeFuncSeq
import Derived.RangeFuncIn
import Derived.OrdersIn
import Derived.TacticsIn
import Derived.Deep.RegionHeld3
import Derived.RangeFuncGives
import Derived.RangeFuncOwn
set_option linter.unusedVariables false
set_option linter.unusedSimpArgs false
set_option maxRecDepth 20000
namespace Go.Proofs.YtedmkdjijhflnaaGreat
open Go.RowKit Go.Sort Go.Shelf

theorem wrap_wf (x : Int) : (Lit.int .i64 (IntKind.i64.wrap x)).wf = true := by
  refine WalkArith.wf_i64 ?_
  rw [IntKind.wrap_i64]
  omega
theorem wrap_next (d : Int) (j : Nat) : IntKind.i64.wrap (IntKind.i64.wrap (d + (j : Int)) + 1) = IntKind.i64.wrap (d + ((j + 1 : Nat) : Int)) := by
  simp only [IntKind.wrap_i64]
  omega
theorem wrap_id {d : Int} (h : (Lit.int .i64 d).wf = true) : IntKind.i64.wrap d = d := by
  have := bounds_i64 h
  rw [IntKind.wrap_i64]
  omega
section
variable {c : Cfg} {now d : Int}
theorem tickA_cons (g : Nat) (l : Lk) (r : List PL) (j : Int) : tickA c now d j ((g, l) :: r) = if l.un ≤ now then (if overL c l = true then tickA c now d (j + 1) r else (g, againL c l (IntKind.i64.wrap (d + j)) now) :: tickA c now d (j + 1) r) else (g, l) :: tickA c now d j r := rfl
theorem tickE_cons (g : Nat) (l : Lk) (r : List PL) (j : Int) : tickE c now d j ((g, l) :: r) = if l.un ≤ now then againE c l (IntKind.i64.wrap (d + j)) now :: tickE c now d (j + 1) r else tickE c now d j r := rfl
theorem tickA_app (X Y : List PL) : ∀ j : Int, tickA c now d j (X ++ Y) = tickA c now d j X ++ tickA c now d (j + (tickE c now d j X).length) Y := by
  induction X with
  | nil => intro j; simp [tickA, tickE]
  | cons p r ih =>
    intro j
    obtain ⟨g, l⟩ := p
    rw [List.cons_append, tickA_cons, tickA_cons, tickE_cons]
    by_cases h : l.un ≤ now
    · rw [if_pos h, if_pos h, if_pos h]
      have e : j + 1 + ((tickE c now d (j + 1) r).length : Int) = j + ((againE c l (IntKind.i64.wrap (d + j)) now :: tickE c now d (j + 1) r).length : Int) := by rw [List.length_cons]; omega
      by_cases ho : overL c l = true
      · rw [if_pos ho, if_pos ho, ih, e]
      · rw [if_neg ho, if_neg ho, ih, e, List.cons_append]
    · rw [if_neg h, if_neg h, if_neg h, ih, List.cons_append]
theorem tickE_app (X Y : List PL) : ∀ j : Int, tickE c now d j (X ++ Y) = tickE c now d j X ++ tickE c now d (j + (tickE c now d j X).length) Y := by
  induction X with
  | nil => intro j; simp [tickE]
  | cons p r ih =>
    intro j
    obtain ⟨g, l⟩ := p
    rw [List.cons_append, tickE_cons, tickE_cons]
    by_cases h : l.un ≤ now
    · have e : j + 1 + ((tickE c now d (j + 1) r).length : Int) = j + ((againE c l (IntKind.i64.wrap (d + j)) now :: tickE c now d (j + 1) r).length : Int) := by rw [List.length_cons]; omega
      rw [if_pos h, if_pos h, ih, List.cons_append, e]
    · rw [if_neg h, if_neg h, ih]
theorem tickA_sub : ∀ (X : List PL) (j : Int), ∀ q ∈ tickA c now d j X, q.1 ∈ X.map Prod.fst := by
  intro X
  induction X with
  | nil => intro j q hq; cases hq
  | cons p r ih =>
    intro j q hq
    obtain ⟨g, l⟩ := p
    unfold tickA at hq
    rw [List.map_cons]
    split at hq
    · split at hq
      · exact List.mem_cons_of_mem _ (ih _ q hq)
      · rcases List.mem_cons.1 hq with rfl | hq
        · exact List.mem_cons_self ..
        · exact List.mem_cons_of_mem _ (ih _ q hq)
    · rcases List.mem_cons.1 hq with rfl | hq
      · exact List.mem_cons_self ..
      · exact List.mem_cons_of_mem _ (ih _ q hq)
theorem tickE_len : ∀ (X : List PL) (j : Int), (tickE c now d j X).length ≤ X.length := by
  intro X
  induction X with
  | nil => intro j; exact Nat.le_refl _
  | cons p r ih =>
    intro j
    obtain ⟨g, l⟩ := p
    unfold tickE
    rw [List.length_cons]
    split
    · rw [List.length_cons]; exact Nat.succ_le_succ (ih _)
    · exact Nat.le_succ_of_le (ih _)
theorem againA_mid {P D : List PL} {g : Nat} {l : Lk} (hP : ∀ q ∈ P, q.1 ≠ g) (hD : ∀ q ∈ D, q.1 ≠ g) : againA c (P ++ (g, l) :: D) (g, l) d now = P ++ (if overL c l = true then [] else [(g, againL c l d now)]) ++ D := by
  have f1 : ∀ X : List PL, (∀ q ∈ X, q.1 ≠ g) → X.filter (fun p => decide (p.1 ≠ g)) = X := fun X h => List.filter_eq_self.2 (fun q hq => decide_eq_true (h q hq))
  have f2 : ∀ (X : List PL) (y : PL), (∀ q ∈ X, q.1 ≠ g) → X.map (fun x => if x.1 = g then y else x) = X := fun X y h => by
    conv => rhs; rw [← List.map_id X]
    exact List.map_congr_left (fun q hq => by rw [if_neg (h q hq)]; rfl)
  unfold againA
  show (if overL c l = true then cutA (P ++ (g, l) :: D) g else setA (P ++ (g, l) :: D) g (againL c l d now)) = _
  by_cases ho : overL c l = true
  · rw [if_pos ho, if_pos ho]
    unfold cutA
    rw [List.filter_append, List.filter_cons_of_neg (by simp), f1 P hP, f1 D hD, List.append_nil]
  · rw [if_neg ho, if_neg ho]
    unfold setA
    rw [List.map_append, List.map_cons, f2 P _ hP, f2 D _ hD, if_pos rfl]
    simp
end
theorem SolO.old {w w' : World} {B G cp : Nat} {c : Cfg} {n : Int} {v : Value} {A : List PL} (h : SolO w G cp c n v A) (hb : Below B w w') (hk : ∀ k ∈ fpO G v A, k < B) : SolO w' G cp c n v A := by
  have hm : ∀ p ∈ A, p.1 < B := fun p hp => hk _ (mem_fpO hp)
  exact ⟨h.cs.keptB hb.size (hb.block G (hk G (by simp [fpO]))), h.row.kept2 (fun g hg => hb.block g (hk g (by simp [fpO, hg]))), fun p hp => ⟨(h.lk p hp).1.keptB hb.size (hb.block _ (hm p hp)), (h.lk p hp).2.kept (hb.block _ (hm p hp))⟩, h.nd, h.gp, h.vb, h.ok, h.cf⟩
structure TkSt (w : World) (G cp : Nat) (c : Cfg) (n : Int) (b : Option Nat) (gc B : Nat) (A0 : List PL) (now d : Int) (k : Nat) (v ve : Value) (wr : World) : Prop where
  so : SolO wr G cp c n v (tickA c now d 0 (A0.take k) ++ A0.drop k)
  vb : v.ownBlock = b
  ev : RowEv wr B ve (tickE c now d 0 (A0.take k))
  bb : w.heap.size ≤ B ∧ B ≤ wr.heap.size
  cl : wr.rangeAt gc 0 (ptsV (A0.map Prod.fst))
  ft : Foot (G :: (b.toList ++ A0.map Prod.fst)) (G :: (b.toList ++ A0.map Prod.fst)) w wr
theorem mem_tick {G : Nat} {c : Cfg} {now d : Int} {b : Option Nat} {A0 : List PL} {k : Nat} {v : Value} (hv : v.ownBlock = b) : ∀ x ∈ fpO G v (tickA c now d 0 (A0.take k) ++ A0.drop k), x ∈ G :: (b.toList ++ A0.map Prod.fst) := by
  intro x hx
  rcases List.mem_cons.1 hx with rfl | hx
  · simp
  rcases List.mem_append.1 hx with hx | hx
  · rw [hv] at hx
    exact List.mem_cons_of_mem _ (List.mem_append_left _ hx)
  · refine List.mem_cons_of_mem _ (List.mem_append_right _ ?_)
    obtain ⟨q, hq, rfl⟩ := List.mem_map.1 hx
    rcases List.mem_append.1 hq with hq | hq
    · have := tickA_sub _ _ q hq
      obtain ⟨y, hy, e⟩ := List.mem_map.1 this
      rw [← e]
      exact List.mem_map.2 ⟨y, List.mem_of_mem_take hy, rfl⟩
    · exact List.mem_map.2 ⟨q, List.mem_of_mem_drop hq, rfl⟩
theorem foot_old {F F' : List Nat} {w w2 w6 : World} {B : Nat} (h : Foot F F' w w2) (hb : Below B w2 w6) (hB : w.heap.size ≤ B) : Foot F F' w w6 :=
  ⟨hb.os.trans h.os, hb.tape.trans h.tape, hb.output.trans h.output, Nat.le_trans h.size hb.size, fun k hk hn => (hb.block k (Nat.lt_of_lt_of_le hk hB)).trans (h.keep k hk hn), h.new⟩
theorem TkSt.mem {w wr : World} {G cp gc B : Nat} {c : Cfg} {n now d : Int} {b : Option Nat} {A0 : List PL} {k : Nat} {v ve : Value} (h : TkSt w G cp c n b gc B A0 now d k v ve wr) : ∀ x ∈ fpO G v (tickA c now d 0 (A0.take k) ++ A0.drop k), x ∈ G :: (b.toList ++ A0.map Prod.fst) := mem_tick h.vb
set_option maxRecDepth 100000 in
set_option maxHeartbeats 2000000 in
theorem tick_any (G cp : Nat) (draw now : Int) (c : Cfg) (n : Int) (v0 : Value) (A0 : List PL) (w : World) (h : SolO w G cp c n v0 A0) (hal : ∀ p ∈ A0, p.2.se < c.tr) (hd : (Lit.int .i64 draw).wf = true) (h0 : 0 ≤ now) (h1 : now ≤ 2199023255552) (hl : A0.length ≤ 100) :
    Calls Tryz.prog 34 #[.pointer (some ⟨G, 0, none⟩), .int .i64 now, .int .i64 draw] w fun e w' => ∃ v ve, e = .returned ve ∧ RowEv w' w.heap.size ve (tickE c now draw 0 A0) ∧ v.ownBlock = v0.ownBlock ∧ SolO w' G cp c n v (tickA c now draw 0 A0) ∧ Foot (fpO G v0 A0) (fpO G v0 A0) w w' := by
  have HCL := Lib.hid (clonePt_any 0 v0 (A0.map Prod.fst) w h.row)
  have hin : ∀ k ∈ fpO G v0 A0, k < w.heap.size := fun k hk => by
    rcases List.mem_cons.1 hk with rfl | hk
    · exact h.cs.lt
    rcases List.mem_append.1 hk with hk | hk
    · exact (h.row.lt k (by simpa using hk)).2
    · obtain ⟨q, hq, rfl⟩ := List.mem_map.1 hk
      exact (h.lk q hq).1.lt
  have HIN := Lib.hid hin
  have HND := Lib.hid h.nd
  have HAL := Lib.hid hal
  have HD := Lib.hid hd
  have HN0 := Lib.hid h0
  have HN1 := Lib.hid h1
  have HL := Lib.hid hl
  have HS := Lib.hid h
  have c6 := h.cs.cell 6 _ rfl
  clear h hin hal hd h0 h1 hl
  go_enter Tryz.func34, Tryz.ntmps34
  go_wp2_with fail
  refine HCL.out.mono ?_
  rintro e w1 ⟨vc, rfl, hrc, hb1⟩
  clear HCL c6
  obtain ⟨ac, cc, rfl⟩ := hrc.slice
  obtain ⟨B, hB⟩ : ∃ B, w1.heap.size = B := ⟨_, rfl⟩
  have hbs := hb1.size
  have HS1 : Hid (∀ gc, ac = some ⟨gc, 0, none⟩ ∨ A0 = [] → TkSt w G cp c n v0.ownBlock gc B A0 now draw 0 v0 (.slice none 0 0) w1) := Lib.hid (fun gc hgc => ⟨by simpa [tickA] using HS.out.below hb1, rfl, by simpa [tickE] using RowEv.nil w1 B, ⟨by omega, by omega⟩, by
    rcases hgc with hgc | hgc
    · rcases hrc.form with ⟨e, e2⟩ | ⟨g, cap, e, _, _, _, _, h5⟩
      · rw [hgc] at e; cases e
      · rw [hgc] at e
        injection e with e
        injection e with e
        injection e with e
        subst e
        exact h5
    · rw [hgc]; intro j u hu; simp [ptsV] at hu, Foot.ofBelow _ hb1⟩)
  have HGC : Hid (∃ gc, (ac = some ⟨gc, 0, none⟩ ∨ A0 = []) ∧ (A0 ≠ [] → w.heap.size ≤ gc ∧ gc < B)) := Lib.hid (by
    rcases hrc.form with ⟨e, e2⟩ | ⟨g, cap, e, hg, hg2, _⟩
    · exact ⟨0, .inr (by simpa using e2), fun h => absurd (by simpa using e2) h⟩
    · injection e with e
      exact ⟨g, .inl e, fun _ => ⟨hg, by omega⟩⟩)
  have hlen : (A0.map Prod.fst).length = A0.length := List.length_map _
  rw [hlen]
  clear hrc hb1 HS hlen hbs hB
  obtain ⟨gc, hgc, hgl⟩ := HGC.out
  have HS2 := Lib.hid (HS1.out gc hgc)
  have HGL := Lib.hid hgl
  have HAC := Lib.hid hgc
  clear HS1 HGC hgc hgl
  obtain ⟨N, hN⟩ : ∃ N, A0.length = N := ⟨_, rfl⟩
  have HNN := Lib.hid hN
  rw [hN]
  have hn100 : N ≤ 100 := by rw [← hN]; exact HL.out
  clear hN
  go_wp2_with fail
  go_loopw [2, 7, 9, 16] (fun s2 s7 _ s16 wr => ∃ (k : Nat) (v : Value), k ≤ N ∧ s16 = .int .i64 (k : Int) ∧ s2 = .int .i64 (IntKind.i64.wrap (draw + ((tickE c now draw 0 (A0.take k)).length : Int))) ∧ Hid (TkSt w G cp c n v0.ownBlock gc B A0 now draw k v s7 wr)) (fun _ _ _ i _ => N - (intOf i).toNat)
  case atStart => exact ⟨0, v0, Nat.zero_le _, rfl, by simp only [List.take_zero, tickE, List.length_nil]; rw [show draw + ((0 : Nat) : Int) = draw by omega, wrap_id HD.out], HS2⟩
  case round =>
    clear HS2
    obtain ⟨k, v, hk, rfl, rfl, HS⟩ := hrel
    by_cases hkN : k < N
    · have hd : decide ((k : Int) < (N : Int)) = true := decide_eq_true (by omega)
      have hdn : decide (k < N) = true := decide_eq_true hkN
      have hk0 : k < A0.length := by rw [HNN.out]; exact hkN
      have hne : A0 ≠ [] := fun e => by rw [e] at hk0; cases hk0
      have hac : ac = some ⟨gc, 0, none⟩ := HAC.out.resolve_right hne
      have hgl := HGL.out hne
      obtain ⟨g, l, hgl2⟩ : ∃ g l, A0[k] = (g, l) := ⟨_, _, rfl⟩
      have hdr : A0.drop k = (g, l) :: A0.drop (k + 1) := by rw [List.drop_eq_getElem_cons hk0, hgl2]
      have htk : A0.take (k + 1) = A0.take k ++ [(g, l)] := by rw [List.take_succ_eq_append_getElem hk0, hgl2]
      have hmem : (g, l) ∈ A0 := by rw [← hgl2]; exact List.getElem_mem hk0
      have hcell : wr.cell? ⟨gc, k, none⟩ = some (.pointer (some ⟨g, 0, none⟩)) := by
        have := HS.out.cl k (ptV g) (by rw [ptsV_at (by simpa using hk0)]; simp [hgl2])
        rwa [Nat.zero_add] at this
      have hso := HS.out.so
      rw [hdr] at hso
      have hin2 : (g, l) ∈ tickA c now draw 0 (A0.take k) ++ (g, l) :: A0.drop (k + 1) := by simp
      have hun := (hso.lk _ hin2).1.cell 7 _ rfl
      have hnd2 := hso.nd
      have hPg : ∀ q ∈ tickA c now draw 0 (A0.take k), q.1 ≠ g := fun q hq e => by
        rw [List.map_append, List.map_cons] at hnd2
        exact (List.nodup_append.1 hnd2).2.2 q.1 (mem_fst hq) g (by simp) e
      have hDg : ∀ q ∈ A0.drop (k + 1), q.1 ≠ g := fun q hq e => by
        rw [List.map_append, List.map_cons] at hnd2
        have h2 := (List.nodup_append.1 hnd2).2.1
        rw [List.nodup_cons] at h2
        exact h2.1 (by have h3 := mem_fst hq; rw [e] at h3; exact h3)
      have HMID : Hid (∀ d, againA c (tickA c now draw 0 (A0.take k) ++ (g, l) :: A0.drop (k + 1)) (g, l) d now = _) := Lib.hid (fun d => againA_mid (c := c) (now := now) (d := d) hPg hDg)
      have HTA := Lib.hid (tickA_app (c := c) (now := now) (d := draw) (A0.take k) [(g, l)] 0)
      have HTE := Lib.hid (tickE_app (c := c) (now := now) (d := draw) (A0.take k) [(g, l)] 0)
      rw [← htk] at HTA HTE
      rw [tickA_cons, Int.zero_add] at HTA
      rw [tickE_cons, Int.zero_add] at HTE
      rw [show ∀ j, tickA c now draw j [] = [] from fun _ => rfl, show ∀ j, tickA c now draw j [] = [] from fun _ => rfl] at HTA
      rw [show ∀ j, tickE c now draw j [] = [] from fun _ => rfl, show ∀ j, tickE c now draw j [] = [] from fun _ => rfl] at HTE
      obtain ⟨T, hT⟩ : ∃ T, tickA c now draw 0 (A0.take k) = T := ⟨_, rfl⟩
      obtain ⟨E, hE⟩ : ∃ E, tickE c now draw 0 (A0.take k) = E := ⟨_, rfl⟩
      have hel : E.length ≤ 100 := by
        rw [← hE]
        have := tickE_len (c := c) (now := now) (d := draw) (A0.take k) 0
        rw [List.length_take] at this
        have := HL.out
        omega
      rw [hT, hE] at HTA
      rw [hE] at HTE
      have HMEM := Lib.hid HS.out.mem
      rw [hdr, hT] at HMEM
      have HSO := Lib.hid hso
      rw [hT] at HSO HMID
      rw [hT] at hin2
      have HEV := Lib.hid HS.out.ev
      rw [hE] at HEV
      have HCLR := Lib.hid HS.out.cl
      have HVB := Lib.hid HS.out.vb
      have HFT := Lib.hid HS.out.ft
      have HM2 := Lib.hid hin2
      have HGC2 := Lib.hid hgl
      have HBB := Lib.hid HS.out.bb
      have HAL2 := Lib.hid (HAL.out _ hmem)
      rw [hE]
      subst hac
      clear HS hk0 hne hgl hgl2 hdr htk hmem hso hin2 hnd2 hPg hDg hT hE HAC HGL
      by_cases hu : l.un ≤ now
      · have hdu : decide (l.un ≤ now) = true := decide_eq_true hu
        rw [if_pos hu] at HTA HTE
        have HAG0 := again_any G cp (g, l) (IntKind.i64.wrap (draw + (E.length : Int))) now c n v (T ++ (g, l) :: A0.drop (k + 1)) wr HSO.out HM2.out HAL2.out (wrap_wf _) HN0.out HN1.out
        have HEL : Hid (E.length + [againE c l (IntKind.i64.wrap (draw + (E.length : Int))) now].length ≤ 1000) := Lib.hid (by simp only [List.length_cons, List.length_nil]; omega)
        have hnx := wrap_next draw E.length
        obtain ⟨dw, hdw⟩ : ∃ dw, IntKind.i64.wrap (draw + (E.length : Int)) = dw := ⟨_, rfl⟩
        obtain ⟨dx, hdx⟩ : ∃ dx, IntKind.i64.wrap (draw + ((E.length + 1 : Nat) : Int)) = dx := ⟨_, rfl⟩
        rw [hdw] at hnx HAG0 HTA HTE HEL ⊢
        rw [hdx] at hnx
        have HDX := Lib.hid hdx
        obtain ⟨EV, hEV⟩ : ∃ EV, againE c l dw now = EV := ⟨_, rfl⟩
        rw [hEV] at HTE HEL
        simp only [hEV] at HAG0
        have HAG := Lib.hid HAG0
        clear hdw hdx hEV HAG0
        go_wp2_with fail
        refine HAG.out.mono ?_
        rintro e w2 ⟨rfl, v2, hv2, hs2, hf2⟩
        have hKin : ∀ x ∈ fpO G v (T ++ (g, l) :: A0.drop (k + 1)), x < w.heap.size := fun x hx => HIN.out x (HMEM.out x hx)
        have HS2 := Lib.hid hs2
        rw [HMID.out] at HS2
        have HE2 : Hid (RowEv w2 B u7 E) := Lib.hid (by
          have h := HEV.out
          obtain ⟨⟨e1, e2⟩, e3⟩ := h
          refine ⟨⟨e1, ?_⟩, e3⟩
          rcases e2 with e2 | ⟨gg, cap, cur, f1, f2, f3, f4⟩
          · exact .inl e2
          · refine .inr ⟨gg, cap, cur, f1, f2, ?_, f4⟩
            have hlt : gg < wr.heap.size := by
              apply Classical.byContradiction
              intro h
              rw [Array.getElem?_eq_none (by omega)] at f3
              cases f3
            rw [hf2.keep gg hlt (fun e => by have := hKin gg e; have := HBB.out; omega)]
            exact f3)
        have HC2 : Hid (w2.rangeAt gc 0 (ptsV (A0.map Prod.fst))) := Lib.hid (range_foot hf2 HCLR.out (by have := HBB.out; have := HGC2.out; omega) (fun e => by have := hKin gc e; have := HGC2.out; omega))
        have HF2 : Hid (Foot (G :: (v0.ownBlock.toList ++ A0.map Prod.fst)) (G :: (v0.ownBlock.toList ++ A0.map Prod.fst)) w w2) := Lib.hid (HFT.out.trans (foot_sub hf2 HMEM.out))
        have HV2 : Hid (v2.ownBlock = v0.ownBlock) := Lib.hid (hv2.trans HVB.out)
        have HSB : Hid (wr.heap.size ≤ w2.heap.size) := Lib.hid hf2.size
        clear hs2 hf2 hv2 HAG HSO HM2 HEV HCLR HFT HVB hKin hcell hun HMID HMEM
        have HM5 : Hid (1 = [EV].length) := Lib.hid rfl
        have HS0 : Hid (B ≤ w2.heap.size) := Lib.hid (Nat.le_trans HBB.out.2 HSB.out)
        clear HSB
        go_wp2_with (first
          | (refine build_evS rfl _ rfl rfl (fun W5 HW5 => ?_); have HB5 : Hid (Below w2.heap.size w2 W5) := Lib.hid (by rw [HW5.out]; exact (Below.refl _ _).alloc (Nat.le_refl _) _); have HO5 := Lib.hid (HE2.out.below HB5.out); have HR5 : Hid (W5.rangeAt w2.heap.size 0 (flatEv [EV])) := Lib.hid (by rw [HW5.out]; have := (CellsAt.new w2 77 (evL EV)).range; simpa [flatEv] using this); have HS5 := Lib.hid (Nat.le_trans HS0.out HB5.out.size))
          | (at_builtin; refine append_evs HO5 _ _ rfl rfl rfl [EV] rfl HM5 HR5 HEL HS5 (fun v6 w6 HO6 HG6 HA6 => ?_)))
        have hb6 : Below B w2 w6 := ((HB5.out.mono HS0.out)).grown HG6.out HS5.out (fun j hj => (HO5.out.1.lt j hj).1)
        go_roundw
        case rel =>
          have hbb := HBB.out
          have hgc := HGC2.out
          have HT2 : T ++ (if overL c l = true then [] else [(g, againL c l dw now)]) ++ A0.drop (k + 1) = tickA c now draw 0 (A0.take (k + 1)) ++ A0.drop (k + 1) := by rw [HTA.out]
          have hsz := hb6.size
          refine ⟨k + 1, v2, by omega, by go_num, ?_, Lib.hid ⟨?_, HV2.out, by rw [HTE.out]; exact HO6.out, ⟨hbb.1, by have := HS0.out; omega⟩, range_belowC HC2.out hb6 hgc.2, foot_old HF2.out hb6 hbb.1⟩⟩
          · rw [HTE.out, List.length_append, ← HDX.out]
            rfl
          · have h2 := HS2.out
            rw [HT2] at h2
            exact h2.old hb6 (fun x hx => by have := HIN.out x (mem_tick HV2.out x hx); omega)
        case measure => simp [intOf]; omega
      · have hdu : decide (l.un ≤ now) = false := decide_eq_false hu
        rw [if_neg hu] at HTA HTE
        go_wp2_with fail
        go_roundw
        case rel =>
          have HT2 : T ++ [(g, l)] ++ A0.drop (k + 1) = T ++ (g, l) :: A0.drop (k + 1) := by simp
          refine ⟨k + 1, v, by omega, by go_num, ?_, Lib.hid ⟨?_, HVB.out, by rw [HTE.out, List.append_nil]; exact HEV.out, HBB.out, HCLR.out, HFT.out⟩⟩
          · rw [HTE.out, List.append_nil]
          · rw [HTA.out, HT2]; exact HSO.out
        case measure => simp [intOf]; omega
    · obtain rfl : k = N := by omega
      have hd : decide ((k : Int) < (k : Int)) = false := by simp
      have hdn : decide (k < k) = false := by simp
      have htk : A0.take k = A0 := List.take_of_length_le (by rw [HNN.out]; exact Nat.le_refl _)
      have hdr : A0.drop k = [] := List.drop_eq_nil_of_le (by rw [HNN.out]; exact Nat.le_refl _)
      have HE := HS.out
      have h1 := HE.so
      have h2 := HE.ev
      rw [htk, hdr, List.append_nil] at h1
      rw [htk] at h2
      have HF := Lib.hid (show ∃ (v' : Value), RowEv wr w.heap.size u7 (tickE c now draw 0 A0) ∧ v'.ownBlock = v0.ownBlock ∧ SolO wr G cp c n v' (tickA c now draw 0 A0) ∧ Foot (fpO G v0 A0) (fpO G v0 A0) w wr from ⟨v, h2.mono HE.bb.1, HE.vb, h1, HE.ft⟩)
      clear h1 h2 HE HS htk hdr
      go_wp2_with fail
      go_ret
      obtain ⟨v', h1, h2, h3, h4⟩ := HF.out
      exact ⟨v', _, rfl, h1, h2, h3, h4⟩
end Go.Proofs.YtedmkdjijhflnaaGreat
namespace Go.Proofs.YtedmkdjijhflnaaGreat
open Go.RowKit

theorem nanS_any (s : ByteArray) (w : World) : Calls Tryz.prog 162 #[.string s] w fun e w' => e = .returned (.bool false) ∧ w' = w := by
  go_enter Tryz.func162, Tryz.ntmps162
  go_wp2
  go_ret
  exact ⟨by simp, rfl⟩
theorem nanI_any (n : Int) (w : World) : Calls Tryz.prog 146 #[.int .i64 n] w fun e w' => e = .returned (.bool false) ∧ w' = w := by
  go_enter Tryz.func146, Tryz.ntmps146
  go_wp2
  go_ret
  exact ⟨by simp, rfl⟩
def cmpI (x y : Int) : Int := if x < y then -1 else if y < x then 1 else 0
def ltB (x y : ByteArray) : Bool := Op.bytesLess x.toList y.toList
def cmpS (x y : ByteArray) : Int := if ltB x y then -1 else if x = y then 0 else 1
set_option maxHeartbeats 1000000 in
theorem cmpI_any (x y : Int) (w : World) : Calls Tryz.prog 139 #[.int .i64 x, .int .i64 y] w fun e w' => e = .returned (.int .i64 (cmpI x y)) ∧ w' = w := by
  have H := fun n W => Lib.hid (nanI_any n W)
  go_enter Tryz.func139, Tryz.ntmps139
  go_wp2_with (go_at_call 146; refine (H _ _).out.mono ?_; rintro e w' ⟨rfl, hw⟩; rw [hw])
  all_goals (go_ret; refine ⟨?_, rfl⟩; unfold cmpI; (repeat' split) <;> first | rfl | (exfalso; omega))
theorem toList_eq {x y : ByteArray} : (x.toList == y.toList) = true ↔ x = y := by
  rw [beq_iff_eq, ByteArray.toList_eq, ByteArray.toList_eq]
  exact ⟨fun h => bytes_ext h, fun h => by rw [h]⟩
set_option maxHeartbeats 1000000 in
theorem cmpS_any (x y : ByteArray) (w : World) : Calls Tryz.prog 155 #[.string x, .string y] w fun e w' => e = .returned (.int .i64 (cmpS x y)) ∧ w' = w := by
  have H := fun n W => Lib.hid (nanS_any n W)
  have Hq := Lib.hid (@toList_eq x y)
  go_enter Tryz.func155, Tryz.ntmps155
  go_wp2_with (go_at_call 162; refine (H _ _).out.mono ?_; rintro e w' ⟨rfl, hw⟩; rw [hw])
  · rename_i h
    go_ret
    exact ⟨by unfold cmpS ltB; rw [if_pos h]; rfl, rfl⟩
  · rename_i h1 _ _ h
    go_ret
    have hn : ¬ x = y := fun e => by rw [Hq.out.2 e] at h; cases h
    exact ⟨by unfold cmpS ltB; rw [h1, if_neg (by simp), if_neg hn]; rfl, rfl⟩
  · rename_i h1 h
    go_ret
    have he : x = y := Hq.out.1 (by simpa using h)
    exact ⟨by unfold cmpS ltB; rw [h1, if_neg (by simp), if_pos he]; rfl, rfl⟩
def orI (a b : Int) : Int := if a = 0 then b else a
set_option maxHeartbeats 1000000 in
theorem or2_any (a b : Int) (W : World) : Calls Tryz.prog 154 #[.slice (some ⟨W.heap.size, 0, none⟩) 2 2] (W.alloc (.cells #[.int .i64 a, .int .i64 b] 3)) fun e w' => e = .returned (.int .i64 (orI a b)) ∧ w' = W.alloc (.cells #[.int .i64 a, .int .i64 b] 3) := by
  have c0 : (W.alloc (.cells #[.int .i64 a, .int .i64 b] 3)).cell? ⟨W.heap.size, 0, none⟩ = some (.int .i64 a) := by rw [World.cell?_alloc_new]; rfl
  have c1 : (W.alloc (.cells #[.int .i64 a, .int .i64 b] 3)).cell? ⟨W.heap.size, 1, none⟩ = some (.int .i64 b) := by rw [World.cell?_alloc_new]; rfl
  obtain ⟨W1, hW1⟩ : ∃ W1, W.alloc (.cells #[.int .i64 a, .int .i64 b] 3) = W1 := ⟨_, rfl⟩
  rw [hW1] at c0 c1 ⊢
  clear hW1
  generalize W.heap.size = B at *
  go_enter Tryz.func154, Tryz.ntmps154
  go_wp2
  go_loopw [8] (fun i wr => wr = W1 ∧ ((i = .int .i64 0) ∨ (i = .int .i64 1 ∧ a = 0) ∨ (i = .int .i64 2 ∧ a = 0 ∧ b = 0))) (fun i _ => 3 - (intOf i).toNat)
  case atStart => exact ⟨rfl, .inl rfl⟩
  case round =>
    obtain ⟨rfl, h⟩ := hrel
    rcases h with rfl | ⟨rfl, rfl⟩ | ⟨rfl, rfl, rfl⟩
    · by_cases h0 : a = 0
      · subst h0
        go_wp2
        go_roundw
        case rel => exact ⟨by trivial, by simp⟩
        case measure => simp [intOf]
      · have hn : (a != 0) = true := by simp [h0]
        go_wp2
        go_ret
        exact ⟨by unfold orI; rw [if_neg h0]; rfl, rfl⟩
    · by_cases h0 : b = 0
      · subst h0
        go_wp2
        go_roundw
        case rel => exact ⟨by trivial, by simp⟩
        case measure => simp [intOf]
      · have hn : (b != 0) = true := by simp [h0]
        go_wp2
        go_ret
        exact ⟨rfl, rfl⟩
    · go_wp2
      go_ret
      exact ⟨rfl, rfl⟩
def cmpKey (p q : ByteArray × Int) : Int := orI (cmpS p.1 q.1) (cmpI p.2 q.2)
def keyL (p : ByteArray × Int) : List Value := [.string p.1, .int .i64 p.2]
def keyV (p : ByteArray × Int) : Value := .agg (keyL p).toArray
theorem grow_cell {w : World} {n : Nat} {os : Array Obj} {a : Addr} {v : Value} (h : w.cell? a = some v) : (Sort.grow (w.drewN n) os).cell? a = some v := by
  have hlt := World.block_lt_of_cell? w a h
  have e : (Sort.grow (w.drewN n) os).heap[a.block]? = w.heap[a.block]? := by
    show (w.heap ++ os)[a.block]? = _
    rw [Array.getElem?_append_left hlt]
  exact (World.cell?_of_block e).trans h
theorem grow_step (w : World) (n : Nat) (os : Array Obj) (o : Obj) : (Sort.grow (w.drewN n) os).alloc o = Sort.grow (w.drewN n) (os ++ #[o]) := by
  rw [Sort.alloc_eq_grow, Sort.grow_grow]
set_option maxHeartbeats 1000000 in
theorem compare_any (p q : ByteArray × Int) (w : World) : Calls Tryz.prog 145 #[keyV p, keyV q] w fun e w' => e = .returned (.int .i64 (cmpKey p q)) ∧ ∃ n os, w' = Sort.grow (w.drewN n) os := by
  obtain ⟨x, i⟩ := p
  obtain ⟨y, j⟩ := q
  have HO := fun W => Lib.hid (or2_any (cmpS x y) (cmpI i j) W)
  obtain ⟨w2, hw2⟩ : ∃ w2, (w.alloc (.cells #[.string x, .int .i64 i] 155)).alloc (.cells #[.string y, .int .i64 j] 155) = w2 := ⟨_, rfl⟩
  have e2 : w2 = Sort.grow (w.drewN 0) #[.cells #[.string x, .int .i64 i] 155, .cells #[.string y, .int .i64 j] 155] := by
    rw [← hw2, Sort.alloc_eq_grow, Sort.alloc_eq_grow, Sort.grow_grow]; rfl
  have a0 : w2.cell? ⟨w.heap.size, 0, none⟩ = some (.string x) := by rw [← hw2, World.cell?_alloc_old _ _ _ (by simp), World.cell?_alloc_new]; rfl
  have a1 : w2.cell? ⟨w.heap.size, 1, none⟩ = some (.int .i64 i) := by rw [← hw2, World.cell?_alloc_old _ _ _ (by simp), World.cell?_alloc_new]; rfl
  have b0 : w2.cell? ⟨w.heap.size + 1, 0, none⟩ = some (.string y) := by rw [← hw2, ← World.size_alloc w (.cells #[.string x, .int .i64 i] 155), World.cell?_alloc_new]; rfl
  have b1 : w2.cell? ⟨w.heap.size + 1, 1, none⟩ = some (.int .i64 j) := by rw [← hw2, ← World.size_alloc w (.cells #[.string x, .int .i64 i] 155), World.cell?_alloc_new]; rfl
  obtain ⟨S, hS⟩ : ∃ S : World → Prop, (fun W => ∃ n os, W = Sort.grow (w2.drewN n) os) = S := ⟨_, rfl⟩
  have HSI := Lib.hid (show ∀ W, S W ↔ ∃ n os, W = Sort.grow (w2.drewN n) os from fun W => by rw [← hS])
  have HS0 := Lib.hid ((HSI.out w2.drew).2 ⟨1, #[], by rw [Sort.grow_empty]; rfl⟩)
  have HSA : Hid (∀ W o, S W → S (W.alloc o)) := Lib.hid (fun W o h => by
    obtain ⟨n, os, rfl⟩ := (HSI.out W).1 h
    exact (HSI.out _).2 ⟨n, _, grow_step _ _ _ _⟩)
  have HEND : Hid (∀ W, S W → ∃ n os, W = Sort.grow (w.drewN n) os) := Lib.hid (fun W h => by
    obtain ⟨n, os, rfl⟩ := (HSI.out W).1 h
    exact ⟨n, _, by rw [e2, show ∀ os', (Sort.grow (w.drewN 0) os').drewN n = Sort.grow (w.drewN n) os' from fun os' => by simp [Sort.grow, World.drewN], Sort.grow_grow]⟩)
  have K4 : ∀ W, S W → Hid (Calls Tryz.prog 155 #[.string x, .string y] W fun e w' => e = .returned (.int .i64 (cmpS x y)) ∧ S w') := fun W h => Lib.hid ((cmpS_any x y W).mono (by rintro e w' ⟨rfl, rfl⟩; exact ⟨rfl, h⟩))
  have K9 : ∀ W, S W → Hid (Calls Tryz.prog 139 #[.int .i64 i, .int .i64 j] W fun e w' => e = .returned (.int .i64 (cmpI i j)) ∧ S w') := fun W h => Lib.hid ((cmpI_any i j W).mono (by rintro e w' ⟨rfl, rfl⟩; exact ⟨rfl, h⟩))
  have cell : ∀ {B k v}, w2.cell? ⟨B, k, none⟩ = some v → ∀ W, S W → W.cell? ⟨B, k, none⟩ = some v := fun h0 W h => by
    obtain ⟨n, os, rfl⟩ := (HSI.out W).1 h
    exact grow_cell h0
  have A0 := Lib.hid (cell a0)
  have A1 := Lib.hid (cell a1)
  have B0 := Lib.hid (cell b0)
  have B1 := Lib.hid (cell b1)
  have HE : Hid (cmpKey (x, i) (y, j) = orI (cmpS x y) (cmpI i j)) := Lib.hid rfl
  rw [HE.out]
  clear hS a0 a1 b0 b1 cell e2 HE HSI
  generalize cmpS x y = a at *
  generalize cmpI i j = b at *
  unfold keyV keyL
  go_enter Tryz.func145, Tryz.ntmps145
  go_upto_region 1 with fail
  first | rw [hw2] | skip
  clear hw2
  refine wp_region_noPanic ?_
  refine wp_region_held_drew (S := S) (by kernel_rfl) HS0.out (fun hHeld => ?_)
  refine tkT 0 ?_ rfl (Or.inl ⟨by rfl, ?_⟩) ?_
  rotate_left
  · (intro w hSw; go_simp; try (with_reducible rfl))
  try simp only [Act.put, pZ]
  refine tkT 1 ?_ rfl (Or.inl ⟨by rfl, ?_⟩) ?_
  rotate_left
  · (intro w hSw; have hc0 := A0.out w hSw; go_simp; try (with_reducible rfl))
  try simp only [Act.put, pZ]
  refine tkT 2 ?_ rfl (Or.inl ⟨by rfl, ?_⟩) ?_
  rotate_left
  · (intro w hSw; go_simp; try (with_reducible rfl))
  try simp only [Act.put, pZ]
  refine tkT 3 ?_ rfl (Or.inl ⟨by rfl, ?_⟩) ?_
  rotate_left
  · (intro w hSw; have hc0 := B0.out w hSw; go_simp; try (with_reducible rfl))
  try simp only [Act.put, pZ]
  refine tkT 5 ?_ rfl (Or.inl ⟨by rfl, ?_⟩) ?_
  rotate_left
  · (intro w hSw; go_simp; try (with_reducible rfl))
  try simp only [Act.put, pZ]
  refine tkT 6 ?_ rfl (Or.inl ⟨by rfl, ?_⟩) ?_
  rotate_left
  · (intro w hSw; have hc0 := A1.out w hSw; go_simp; try (with_reducible rfl))
  try simp only [Act.put, pZ]
  refine tkT 7 ?_ rfl (Or.inl ⟨by rfl, ?_⟩) ?_
  rotate_left
  · (intro w hSw; go_simp; try (with_reducible rfl))
  try simp only [Act.put, pZ]
  refine tkT 8 ?_ rfl (Or.inl ⟨by rfl, ?_⟩) ?_
  rotate_left
  · (intro w hSw; have hc0 := B1.out w hSw; go_simp; try (with_reducible rfl))
  try simp only [Act.put, pZ]
  refine wpAnyH_ready (rs := [4]) (by kernel_rfl) (by simp) ?_
  refine AllReadyH.cons rfl (fun K hK => ?_) AllReadyH.nil
  go_simp
  refine (K4 _ (by assumption)).out.mono ?_
  rintro e wr4 ⟨rfl, hS4⟩
  go_wp2_with fail
  refine hK.out _ _ hS4 (fun hHeld => ?_)
  clear hK K
  try simp only [Act.put, pZ]
  refine wpAnyH_ready (rs := [9]) (by kernel_rfl) (by simp) ?_
  refine AllReadyH.cons rfl (fun K hK => ?_) AllReadyH.nil
  go_simp
  refine (K9 _ (by assumption)).out.mono ?_
  rintro e wr9 ⟨rfl, hS9⟩
  go_wp2_with fail
  refine hK.out _ _ hS9 (fun hHeld => ?_)
  clear hK K
  try simp only [Act.put, pZ]
  refine wpAnyH_ready (rs := [10]) (by kernel_rfl) (by simp) ?_
  refine AllReadyH.cons rfl (fun K hK => ?_) AllReadyH.nil
  go_simp
  go_wp2_with fail
  refine hK.out _ _ (HSA.out _ _ (by assumption)) (fun hHeld => ?_)
  clear hK K
  try simp only [Act.put, pZ]
  refine wpAnyH_ready (rs := [11]) (by kernel_rfl) (by simp) ?_
  refine AllReadyH.cons rfl (fun K hK => ?_) AllReadyH.nil
  go_simp
  refine (HO _).out.mono ?_
  rintro e wr11 ⟨rfl, rfl⟩
  go_wp2_with fail
  refine hK.out _ _ hHeld (fun hHeld => ?_)
  clear hK K
  try simp only [Act.put, pZ]
  refine tkT 12 ?_ rfl (Or.inl ⟨by rfl, ?_⟩) ?_
  rotate_left
  · (intro w hSw; go_simp; try (with_reducible rfl))
  try simp only [Act.put, pZ]
  refine wpAnyH_done (by kernel_rfl) ?_ _
  refine NoPanic.normal ?_
  go_wp2_with fail
  go_ret
  exact ⟨rfl, HEND.out _ hHeld⟩
end Go.Proofs.YtedmkdjijhflnaaGreat
namespace Go.Proofs.YtedmkdjijhflnaaGreat
open Go.RowKit

structure Ce where
  s : ByteArray
  t : Int
  a : Option Addr
  n : Nat
  c : Nat
  u : Int
def ceL (e : Ce) : List Value := [Value.string e.s, .int .i64 e.t, .slice e.a e.n e.c, .int .i64 e.u]
def ceV (e : Ce) : Value := .agg (ceL e).toArray
def flatC (D : List Ce) : List Value := D.flatMap ceL
abbrev zCrow : Array Value := #[.string ⟨#[]⟩, .int .i64 0, .slice none 0 0, .int .i64 0]
def RowC (w : World) (base : Nat) (v : Value) (D : List Ce) : Prop := w.ownsRow base 108 4 v D.length (flatC D) ∧ D.length ≤ 1000
end Go.Proofs.YtedmkdjijhflnaaGreat
namespace Go.Proofs.YtedmkdjijhflnaaGreat
open Go.RowKit

def cutC (es : List Ce) (i : Nat) : List Ce := es.take i ++ es.drop (i + 1)
theorem cutC_len (es : List Ce) (i : Nat) (hi : i < es.length) : (cutC es i).length + 1 = es.length := by
  unfold cutC
  rw [List.length_append, List.length_take, List.length_drop]
  omega
end Go.Proofs.YtedmkdjijhflnaaGreat
namespace Go.Proofs.YtedmkdjijhflnaaGreat
open Go.RowKit

abbrev ccV (room : Int) (v : Value) : Value := .agg #[.int .i64 room, v]
theorem CellsAt.belowB {w w' : World} {G B : Nat} {vs : List Value} (h : CellsAt w G vs) (hb : Below B w w') (hG : G < B) : CellsAt w' G vs :=
  ⟨Nat.lt_of_lt_of_le h.lt hb.size, range_belowC h.range hb hG, fun j hj => by
    rw [hb.cell (p := ⟨G, 0 + j, none⟩) hG, hb.frozen (p := ⟨G, 0 + j, none⟩) hG]
    exact h.there j hj⟩
theorem heap_setC (w : World) (b o : Nat) (v : Value) (k : Nat) (h : k ≠ b) : (w.setCell ⟨b, o, none⟩ v).heap[k]? = w.heap[k]? := heap_setCell_other _ _ _ _ h
theorem heap_setCs (b : Nat) : ∀ (vs : List Value) (o : Nat) (w : World) (k : Nat), k ≠ b → (w.setCells b o vs).heap[k]? = w.heap[k]?
  | [], _, _, _, _ => rfl
  | v :: r, o, w, k, h => by rw [World.setCells, heap_setCs b r _ _ k h, heap_setC _ _ _ _ _ h]
end Go.Proofs.YtedmkdjijhflnaaGreat
namespace Go.Proofs.YtedmkdjijhflnaaGreat
open Go.RowKit

def findC : List Ce → ByteArray → Int → Option Nat
  | [], _, _ => none
  | e :: es, x, t => if e.s = x ∧ e.t = t then some 0 else (findC es x t).map (· + 1)
def findI (es : List Ce) (x : ByteArray) (t : Int) : Int := match findC es x t with | some k => (k : Int) | none => -1
theorem findC_at (x : ByteArray) (t : Int) : ∀ (es : List Ce) (k : Nat) (hk : k < es.length), (es[k].s = x ∧ es[k].t = t) → (∀ j (hj : j < es.length), j < k → ¬ (es[j].s = x ∧ es[j].t = t)) → findC es x t = some k
  | [], k, hk, _, _ => absurd hk (by simp)
  | e :: es, 0, _, h, _ => by unfold findC; rw [if_pos (show e.s = x ∧ e.t = t from h)]
  | e :: es, k + 1, hk, h, ho => by
    unfold findC
    rw [if_neg (show ¬ (e.s = x ∧ e.t = t) from ho 0 (by simp) (by omega)), findC_at x t es k (by simpa using hk) h (fun j hj hjk => ho (j + 1) (by simpa using hj) (by omega))]
    rfl
theorem findC_lt (x : ByteArray) (t : Int) : ∀ (es : List Ce) (k : Nat), findC es x t = some k → ∃ hk : k < es.length, es[k].s = x ∧ es[k].t = t
  | [], k, h => by cases h
  | e :: es, k, h => by
    unfold findC at h
    split at h
    · cases h
      exact ⟨by simp, by assumption⟩
    · cases h2 : findC es x t with
      | none => rw [h2] at h; cases h
      | some j =>
        rw [h2] at h
        cases h
        obtain ⟨hj, h3⟩ := findC_lt x t es j h2
        exact ⟨by simp; omega, h3⟩
end Go.Proofs.YtedmkdjijhflnaaGreat
namespace Go.Proofs.YtedmkdjijhflnaaGreat
open Go.RowKit Go.Maps

def keyLit (p : ByteArray × Int) : Lit := .string (keyBytes [.string p.1.data.toList, .int .i64 p.2])
set_option maxRecDepth 100000 in
theorem lawK : Keyed Tryz.prog 155 := Keyed.of_law (deep_law_laid laidOut (m := 5) (by decide) (Nat.le_of_ble_eq_true (by kernel_rfl)) (by kernel_rfl) (by kernel_rfl))
theorem keyFormed (p : ByteArray × Int) : (keyV p).formed Tryz.prog 155 = true := by
  unfold keyV keyL
  rfl
theorem keyTypeK : Tryz.prog.keyType 155 = true := by kernel_rfl
theorem typesK : ∃ m, Tryz.prog.types.size = m + 1 := ⟨Tryz.prog.types.size - 1, by kernel_rfl⟩
def KeyOk (p : ByteArray × Int) : Prop := p.1.size ≤ 2000000 ∧ (Lit.int .i64 p.2).wf = true
theorem keyOf_key (p : ByteArray × Int) (h : KeyOk p) : keyOf Tryz.prog 155 (keyV p) = some (keyLit p) := by
  obtain ⟨hs, ht⟩ := h
  obtain ⟨m, hm⟩ := typesK
  have hs2 : p.1.size ≤ maxLen := by unfold maxLen; omega
  have c0 : Tryz.prog.cellsOf 155 = 2 := by kernel_rfl
  have c1 : Tryz.prog.cellsOf 9 = 1 := by kernel_rfl
  have c2 : Tryz.prog.cellsOf 3 = 1 := by kernel_rfl
  unfold keyOf
  rw [Tryz.underlying155]
  simp only [keyTypeK, keyFormed, Bool.and_self, if_true, hm]
  simp only [Program.keyLits, Tryz.underlying155]
  simp [keyV, keyL, Value.cells, c0, c1, c2, Tryz.underlying9, Tryz.underlying3, hs2, ht, keyLit]
theorem keyV_inj {p q : ByteArray × Int} (h : keyV p = keyV q) : p = q := by
  unfold keyV keyL at h
  simp at h
  exact Prod.ext h.1 h.2
theorem keyLit_inj {p q : ByteArray × Int} (hp : KeyOk p) (hq : KeyOk q) (h : keyLit p = keyLit q) : p = q :=
  keyV_inj (lawK.inj (keyOf_key p hp) (h ▸ keyOf_key q hq))
def elemV (v : Value) : Option (DataW Value × List MemPlace) := some (.held v, [])
theorem elemV_inv {v : Value} {d : DataW Value} {ps : List MemPlace} (h : elemV v = some (d, ps)) : d = .held v := by
  unfold elemV at h
  injection h with h
  exact (Prod.mk.inj h).1.symm
def entV (e : Ce) : Value := .agg #[.slice e.a e.n e.c, .int .i64 e.u]
def zeroE : Value := .agg #[.slice none 0 0, .int .i64 0]
def keyC (e : Ce) : ByteArray × Int := (e.s, e.t)
def entD (e : Ce) : Lit × DataW Value := (keyLit (keyC e), .held (entV e))
def TellsC (D : DataW Value) (es : List Ce) : Prop := ∃ l, D = .map l ∧ l.Perm (es.map entD)
def KeysOk (es : List Ce) : Prop := ∀ e ∈ es, KeyOk (keyC e)
def KeysApart (es : List Ce) : Prop := es.Pairwise (fun a b => keyC a ≠ keyC b)
def CacMap (w : World) (b : Nat) (es : List Ce) : Prop := ∃ n D, w.ownsMap Tryz.prog 155 elemV b n D ∧ n ≤ 1000000 ∧ TellsC D es
theorem entD_apart {es : List Ce} (ho : KeysOk es) (ha : KeysApart es) : (es.map entD).Pairwise (fun p q => p.1 ≠ q.1) := by
  rw [List.pairwise_map]
  refine (List.Pairwise.imp_of_mem ?_ ha)
  intro a b h1 h2 h e
  exact h (keyLit_inj (ho a h1) (ho b h2) e)
theorem isKeyLit (p : ByteArray × Int) : WideAt.IsKeyLit (keyLit p) := trivial
theorem same_lit {p q : ByteArray × Int} (hp : KeyOk p) (hq : KeyOk q) : (keyLit p).sameKey (keyLit q) = decide (p = q) := by
  by_cases h : p = q
  · subst h
    rw [WideAt.sameKey_self (isKeyLit p)]; simp
  · have : (keyLit p).sameKey (keyLit q) = false := by
      cases hs : (keyLit p).sameKey (keyLit q)
      · rfl
      · exact absurd (keyLit_inj hp hq (WideAt.sameKey_eq hs)) h
    rw [this]; simp [h]
def getE (es : List Ce) (x : ByteArray) (t : Int) : Option Ce := match findC es x t with
  | none => none
  | some k => es[k]?
theorem getE_none {es : List Ce} {x : ByteArray} {t : Int} (h : getE es x t = none) : ∀ e ∈ es, keyC e ≠ (x, t) := by
  induction es with
  | nil => intro e he; cases he
  | cons e es ih =>
    unfold getE findC at h
    by_cases hk : e.s = x ∧ e.t = t
    · rw [if_pos hk] at h
      simp at h
    · rw [if_neg hk] at h
      have h2 : getE es x t = none := by
        unfold getE
        cases hf : findC es x t with
        | none => rfl
        | some k => rw [hf] at h; simpa using h
      intro e' he'
      rcases List.mem_cons.1 he' with rfl | he'
      · exact fun h3 => hk (Prod.mk.inj h3)
      · exact ih h2 e' he'
theorem getE_some {es : List Ce} {x : ByteArray} {t : Int} {e : Ce} (h : getE es x t = some e) : e ∈ es ∧ keyC e = (x, t) := by
  unfold getE at h
  cases hf : findC es x t with
  | none => rw [hf] at h; cases h
  | some k =>
    rw [hf] at h
    obtain ⟨hk, h1, h2⟩ := findC_lt x t es k hf
    simp only at h
    rw [List.getElem?_eq_getElem hk] at h
    cases h
    exact ⟨List.getElem_mem hk, Prod.ext h1 h2⟩
section
variable {w w' : World} {b : Nat} {es es' : List Ce}
theorem CacMap.perm (h : CacMap w b es) (hp : es.Perm es') : CacMap w b es' := by
  obtain ⟨n, D, ho, hn, l, hD, hl⟩ := h
  exact ⟨n, D, ho, hn, l, hD, hl.trans (hp.map _)⟩
theorem CacMap.kept (h : CacMap w b es) (hk : w'.heap[b]? = w.heap[b]?) : CacMap w' b es := by
  obtain ⟨n, D, ⟨es0, cl, hb, r⟩, hn⟩ := h
  exact ⟨n, D, ⟨es0, cl, hk.trans hb, r⟩, hn⟩
theorem CacMap.lt (h : CacMap w b es) : b < w.heap.size := by
  obtain ⟨n, D, ho, _⟩ := h
  exact ho.lt
theorem CacMap.block (h : CacMap w b es) : ∃ e0 cl, w.heap[b]? = some (.map e0 cl) := by
  obtain ⟨n, D, ⟨e0, cl, hb, _⟩, _⟩ := h
  exact ⟨e0, cl, hb⟩
theorem CacMap.owns (h : CacMap w b es) : ∃ D, w.ownsMap Tryz.prog 155 elemV b es.length D ∧ TellsC D es := by
  obtain ⟨n, D, ⟨e0, cl, hb, F, hs, hD⟩, hn, l, rfl, hl⟩ := h
  refine ⟨.map l, ⟨e0, cl, hb, F, ?_, hD⟩, l, rfl, hl⟩
  injection hD with hD
  have h1 := hl.length_eq
  rw [hD, length_sorted] at h1
  simp at h1
  simpa using Nat.le_of_eq h1
theorem CacMap.len (h : CacMap w b es) (ty : TypeId) : (Builtin.len_ #[151] ty #[.map (some b)]).run Tryz.prog w = .ok (.int .i64 (es.length : Int)) w := by
  obtain ⟨n, D, ho, hn, l, rfl, hl⟩ := h
  have h1 : l.length = es.length := by rw [hl.length_eq]; simp
  rw [ho.len Tryz.underlying151 ty, size_eq, h1]
theorem CacMap.look (h : CacMap w b es) (hk : KeysOk es) (ha : KeysApart es) (x : ByteArray) (t : Int) (hp : KeyOk (x, t)) :
    (Instr.lookup 151 (.map (some b)) (keyV (x, t)) true).run Tryz.prog w = .ok (.tuple #[((getE es x t).map entV).getD zeroE, .bool (getE es x t).isSome]) w := by
  obtain ⟨n, D, ho, hn, l, rfl, hl⟩ := h
  have hz : (zeroValue 149).run Tryz.prog w = .ok zeroE w := by kernel_rfl
  obtain ⟨v, ps, hr, hv⟩ := ho.look_ok lawK Tryz.underlying151 hz (show elemV zeroE = some (.held zeroE, []) from rfl) (keyOf_key _ hp)
  have hv2 := elemV_inv hv
  rw [hr]
  cases hg : getE es x t with
  | none =>
    have hno : Maps.has (DataW.map l) (keyLit (x, t)) = false := by
      rw [has_eq, List.any_eq_false]
      intro p hp2
      obtain ⟨e, he, rfl⟩ := List.mem_map.1 (hl.mem_iff.1 hp2)
      show ¬ (keyLit (keyC e)).sameKey (keyLit (x, t)) = true
      rw [same_lit (hk e he) hp]
      simpa using getE_none hg e he
    rw [Maps.atKey_of_not_has hno] at hv2
    rw [hno]
    injection hv2 with hv2
    rw [← hv2]; rfl
  | some e =>
    obtain ⟨he, hke⟩ := getE_some hg
    have hm : (keyLit (x, t), DataW.held (entV e)) ∈ l := hl.mem_iff.2 (by rw [← hke]; exact List.mem_map.2 ⟨e, he, rfl⟩)
    have hap : l.Pairwise (fun p q => p.1 ≠ q.1) := (hl.pairwise_iff (fun {_ _} hne => Ne.symm hne)).2 (entD_apart hk ha)
    have hat := fun z => WideAt.atKey_mem z (isKeyLit (x, t)) hap hm
    rw [Maps.has_true_of_atKey hat]
    rw [hat] at hv2
    injection hv2 with hv2
    rw [← hv2]; rfl
def withoutC (es : List Ce) (p : ByteArray × Int) : List Ce := es.filter (fun e => !decide (keyC e = p))
theorem filter_notKey (es : List Ce) (hk : KeysOk es) (p : ByteArray × Int) (hp : KeyOk p) : (es.map entD).filter (ChangeMaps.notKey (keyLit p)) = (withoutC es p).map entD := by
  unfold withoutC
  rw [List.filter_map]
  congr 1
  refine List.filter_congr (fun e he => ?_)
  show (!(keyLit (keyC e)).sameKey (keyLit p)) = _
  rw [same_lit (hk e he) hp]
theorem CacMap.store (h : CacMap w b es) (hk : KeysOk es) (e : Ce) (hp : KeyOk (keyC e)) (hl : es.length ≤ 1000) :
    ∃ w', (Instr.mapUpdate 151 (.map (some b)) (keyV (keyC e)) (entV e)).run Tryz.prog w = .ok () w' ∧ CacMap w' b (e :: withoutC es (keyC e)) ∧ w.mapTurned w' b := by
  obtain ⟨D, ho, l, rfl, hl2⟩ := h.owns
  obtain ⟨w', hr, ho', ht⟩ := ho.store lawK Tryz.underlying151 (by unfold maxLen; omega) (keyOf_key _ hp) (show elemV (entV e) = some (.held (entV e), []) from rfl)
  refine ⟨w', hr, ⟨_, _, ho', by omega, ?_⟩, ht⟩
  rw [DataW.put_eq]
  refine ⟨_, rfl, ?_⟩
  refine (WideShapes.insert_perm _ _).trans ?_
  show List.Perm _ (entD e :: (withoutC es (keyC e)).map entD)
  refine List.Perm.cons _ ?_
  rw [← filter_notKey es hk _ hp]
  exact hl2.filter _
theorem CacMap.drop (h : CacMap w b es) (hk : KeysOk es) (p : ByteArray × Int) (hp : KeyOk p) (ty : TypeId) :
    ∃ w', (Builtin.delete_ #[151, 155] ty #[.map (some b), keyV p]).run Tryz.prog w = .ok (.tuple #[]) w' ∧ CacMap w' b (withoutC es p) ∧ w.mapTurned w' b := by
  obtain ⟨n, D, ho, hn, l, rfl, hl⟩ := h
  obtain ⟨w', hr, ho', ht⟩ := ho.drop lawK Tryz.underlying151 (keyOf_key _ hp) ty
  refine ⟨w', hr, ⟨_, _, ho', hn, ?_⟩, ht⟩
  rw [DataW.del_eq]
  refine ⟨_, rfl, ?_⟩
  rw [← filter_notKey es hk _ hp]
  exact hl.filter _
theorem cacMap_made (w : World) : CacMap (w.alloc (.map #[] 0)) w.heap.size [] := ⟨0, _, World.ownsMap_made w _ _ _, by decide, [], rfl, .refl _⟩
end
end Go.Proofs.YtedmkdjijhflnaaGreat
namespace Go.Proofs.YtedmkdjijhflnaaGreat
open Go.RowKit

def sweepC (es : List Ce) (now : Int) : List Ce := es.filter (fun e => decide (now < e.u))
theorem sweepC_len (es : List Ce) (now : Int) : (sweepC es now).length ≤ es.length := List.length_filter_le _ _
end Go.Proofs.YtedmkdjijhflnaaGreat
namespace Go.Proofs.YtedmkdjijhflnaaGreat
open Go.RowKit Go.Maps

theorem ltB_eq (x y : ByteArray) : ltB x y = decide (x.data.toList < y.data.toList) := by
  unfold ltB
  rw [bytesLess_eq, ByteArray.toList_eq, ByteArray.toList_eq]
theorem ltB_irrefl (x : ByteArray) : ltB x x = false := by rw [ltB_eq]; simp [List.lt_irrefl]
theorem ltB_trans {x y z : ByteArray} (h1 : ltB x y = true) (h2 : ltB y z = true) : ltB x z = true := by
  rw [ltB_eq, decide_eq_true_eq] at *
  exact List.lt_trans h1 h2
theorem ltB_total {x y : ByteArray} (h : x ≠ y) : ltB x y = true ∨ ltB y x = true := by
  rw [ltB_eq, ltB_eq, decide_eq_true_eq, decide_eq_true_eq]
  by_cases h1 : x.data.toList < y.data.toList
  · exact .inl h1
  · by_cases h2 : y.data.toList < x.data.toList
    · exact .inr h2
    · exact absurd (bytes_ext (List.le_antisymm (List.not_lt.1 h2) (List.not_lt.1 h1))) h
def ltK (p q : ByteArray × Int) : Bool := ltB p.1 q.1 || (decide (p.1 = q.1) && decide (p.2 < q.2))
theorem ltK_irrefl (p : ByteArray × Int) : ltK p p = false := by unfold ltK; rw [ltB_irrefl]; simp
theorem ltK_iff (p q : ByteArray × Int) : ltK p q = true ↔ ltB p.1 q.1 = true ∨ (p.1 = q.1 ∧ p.2 < q.2) := by unfold ltK; simp
theorem ltK_trans {p q r : ByteArray × Int} (h1 : ltK p q = true) (h2 : ltK q r = true) : ltK p r = true := by
  rw [ltK_iff] at *
  rcases h1 with h1 | ⟨e1, h1⟩ <;> rcases h2 with h2 | ⟨e2, h2⟩
  · exact .inl (ltB_trans h1 h2)
  · exact .inl (e2 ▸ h1)
  · exact .inl (e1 ▸ h2)
  · exact .inr ⟨e1.trans e2, by omega⟩
theorem ltK_total {p q : ByteArray × Int} (h : p ≠ q) : ltK p q = true ∨ ltK q p = true := by
  rw [ltK_iff, ltK_iff]
  by_cases e : p.1 = q.1
  · have : p.2 ≠ q.2 := fun e2 => h (Prod.ext e e2)
    rcases Int.lt_or_gt_of_ne this with h2 | h2
    · exact .inl (.inr ⟨e, h2⟩)
    · exact .inr (.inr ⟨e.symm, h2⟩)
  · rcases ltB_total e with h2 | h2
    · exact .inl (.inl h2)
    · exact .inr (.inl h2)
theorem ltK_asymm {p q : ByteArray × Int} (h : ltK p q = true) : ltK q p = false := by
  cases h2 : ltK q p
  · rfl
  · have := ltK_trans h h2
    rw [ltK_irrefl] at this
    cases this
theorem cmpKey_neg (p q : ByteArray × Int) : decide (cmpKey p q < 0) = ltK p q := by
  unfold cmpKey orI cmpS cmpI ltK
  cases hb : ltB p.1 q.1
  · by_cases e : p.1 = q.1
    · by_cases h1 : p.2 < q.2
      · simp [e, h1]
      · by_cases h2 : q.2 < p.2 <;> simp [e, h1, h2]
    · simp [e]
  · simp
def SortedC (es : List Ce) : Prop := es.Pairwise (fun a b => ltK (keyC a) (keyC b) = true)
theorem SortedC.apart {es : List Ce} (h : SortedC es) : KeysApart es := h.imp (fun h e => by rw [e, ltK_irrefl] at h; cases h)
theorem sorted_keys {es : List Ce} (h : SortedC es) {ks : List (ByteArray × Int)} (hp : ks.Perm (es.map keyC)) : ks.mergeSort (fun x y => !ltK y x) = es.map keyC := by
  have tr : ∀ a b c : ByteArray × Int, (!ltK b a) = true → (!ltK c b) = true → (!ltK c a) = true := fun a b c h1 h2 => by
    rw [Bool.not_eq_true'] at *
    cases hca : ltK c a
    · rfl
    · by_cases e : b = c
      · subst e; rw [hca] at h1; cases h1
      · rcases ltK_total e with h3 | h3
        · rw [ltK_trans h3 hca] at h1; cases h1
        · rw [h3] at h2; cases h2
  have to : ∀ a b : ByteArray × Int, ((!ltK b a) || (!ltK a b)) = true := fun a b => by
    cases h1 : ltK b a
    · rfl
    · rw [ltK_asymm h1]; rfl
  refine List.Perm.eq_of_pairwise (le := fun a b => (!ltK b a) = true) (fun a b _ _ h1 h2 => ?_) (List.pairwise_mergeSort tr to ks) ?_ ((List.mergeSort_perm ks _).trans hp)
  · by_cases e : a = b
    · exact e
    · rw [Bool.not_eq_true'] at h1 h2
      rcases ltK_total e with h3 | h3
      · rw [h3] at h2; cases h2
      · rw [h3] at h1; cases h1
  · rw [List.pairwise_map]
    exact h.imp (fun h => by rw [ltK_asymm h]; rfl)
def placeC (p : ByteArray × Int) (es : List Ce) : Nat → Nat
  | 0 => 0
  | k + 1 => match es[k]? with
    | some e => if ltK p (keyC e) then placeC p es k else k + 1
    | none => k + 1
theorem placeC_le (p : ByteArray × Int) (es : List Ce) : ∀ n, placeC p es n ≤ n
  | 0 => Nat.le_refl _
  | k + 1 => by
    unfold placeC
    split
    · split
      · have := placeC_le p es k; omega
      · omega
    · omega
theorem placeC_yes {p : ByteArray × Int} {es : List Ce} {k : Nat} (hk : k < es.length) (h : ltK p (keyC es[k]) = true) : placeC p es (k + 1) = placeC p es k := by
  rw [placeC, List.getElem?_eq_getElem hk]; simp [h]
theorem placeC_no {p : ByteArray × Int} {es : List Ce} {k : Nat} (hk : k < es.length) (h : ltK p (keyC es[k]) = false) : placeC p es (k + 1) = k + 1 := by
  rw [placeC, List.getElem?_eq_getElem hk]; simp [h]
theorem placeC_after (p : ByteArray × Int) (es : List Ce) : ∀ n, n ≤ es.length → ∀ j (hj : j < es.length), placeC p es n ≤ j → j < n → ltK p (keyC es[j]) = true
  | 0, _, j, hj, _, h => absurd h (by omega)
  | k + 1, hn, j, hj, h1, h2 => by
    have hk : k < es.length := by omega
    cases h : ltK p (keyC es[k])
    · rw [placeC_no hk h] at h1; omega
    · rw [placeC_yes hk h] at h1
      by_cases e : j = k
      · subst e; exact h
      · exact placeC_after p es k (by omega) j hj h1 (by omega)
theorem placeC_before (p : ByteArray × Int) (es : List Ce) : ∀ n, n ≤ es.length → ∀ k, placeC p es n = k + 1 → ∃ hk : k < es.length, ltK p (keyC es[k]) = false
  | 0, _, k, h => by cases h
  | n + 1, hn, k, h => by
    have hk : n < es.length := by omega
    cases h2 : ltK p (keyC es[n])
    · rw [placeC_no hk h2] at h
      obtain rfl : n = k := by omega
      exact ⟨hk, h2⟩
    · rw [placeC_yes hk h2] at h
      exact placeC_before p es n (by omega) k h
def insC (own : Ce) (es : List Ce) : List Ce := es.take (placeC (keyC own) es es.length) ++ own :: es.drop (placeC (keyC own) es es.length)
theorem insC_perm (own : Ce) (es : List Ce) : (insC own es).Perm (own :: es) := by
  unfold insC
  refine List.perm_middle.trans ?_
  rw [List.take_append_drop]
theorem insC_len (own : Ce) (es : List Ce) : (insC own es).length = es.length + 1 := by rw [(insC_perm own es).length_eq]; rfl
theorem insC_sorted {own : Ce} {es : List Ce} (h : SortedC es) (hn : ∀ e ∈ es, keyC e ≠ keyC own) : SortedC (insC own es) := by
  have hle := placeC_le (keyC own) es es.length
  have hA := placeC_after (keyC own) es es.length (Nat.le_refl _)
  have hB := placeC_before (keyC own) es es.length (Nat.le_refl _)
  have hs : ∀ i j (hi : i < es.length) (hj : j < es.length), i < j → ltK (keyC es[i]) (keyC es[j]) = true := fun i j hi hj hij => List.pairwise_iff_getElem.1 h i j hi hj hij
  unfold insC SortedC
  generalize placeC (keyC own) es es.length = k at *
  rw [List.pairwise_append]
  refine ⟨h.take, ?_, ?_⟩
  · rw [List.pairwise_cons]
    refine ⟨fun e he => ?_, h.drop⟩
    obtain ⟨j, hj, rfl⟩ := List.getElem_of_mem he
    rw [List.getElem_drop]
    rw [List.length_drop] at hj
    exact hA (k + j) (by omega) (by omega) (by omega)
  · intro a ha b hb
    obtain ⟨i, hi, rfl⟩ := List.getElem_of_mem ha
    rw [List.length_take] at hi
    rw [List.getElem_take]
    have hio : ltK (keyC es[i]) (keyC own) = true := by
      cases k with
      | zero => omega
      | succ k =>
        obtain ⟨hk, h1⟩ := hB k rfl
        have h2 : ltK (keyC es[k]) (keyC own) = true := by
          rcases ltK_total (hn _ (List.getElem_mem hk)) with h3 | h3
          · exact h3
          · rw [h1] at h3; cases h3
        by_cases e : i = k
        · subst e; exact h2
        · exact ltK_trans (hs i k (by omega) hk (by omega)) h2
    rcases List.mem_cons.1 hb with rfl | hb
    · exact hio
    · obtain ⟨j, hj, rfl⟩ := List.getElem_of_mem hb
      rw [List.getElem_drop]
      rw [List.length_drop] at hj
      exact hs i (k + j) (by omega) (by omega) (by omega)
def uAt (es : List Ce) (k : Nat) : Int := match es[k]? with
  | some e => e.u
  | none => 0
theorem uAt_eq {es : List Ce} {k : Nat} (hk : k < es.length) : uAt es k = es[k].u := by unfold uAt; rw [List.getElem?_eq_getElem hk]
def bestC (es : List Ce) : Nat → Nat
  | 0 => 0
  | k + 1 => if uAt es k < uAt es (bestC es k) then k else bestC es k
theorem bestC_one (es : List Ce) : bestC es 1 = 0 := by unfold bestC bestC; simp
theorem bestC_lt (es : List Ce) : ∀ k, bestC es (k + 1) ≤ k
  | 0 => by rw [bestC_one]; omega
  | k + 1 => by
    unfold bestC
    split
    · omega
    · have := bestC_lt es k; omega
def putC (room : Int) (es : List Ce) (own : Ce) (now : Int) : List Ce × Option Ce :=
  match findC es own.s own.t with
  | some i => (insC own (cutC es i), none)
  | none => if (es.length : Int) = room then
      (if ((sweepC es now).length : Int) = room then (insC own (cutC (sweepC es now) (bestC (sweepC es now) (sweepC es now).length)), (sweepC es now)[bestC (sweepC es now) (sweepC es now).length]?) else (insC own (sweepC es now), none))
    else (insC own es, none)
theorem sweepC_sorted {es : List Ce} (h : SortedC es) (now : Int) : SortedC (sweepC es now) := h.filter _
theorem cutC_sorted {es : List Ce} (h : SortedC es) (i : Nat) : SortedC (cutC es i) := by
  unfold cutC SortedC
  rw [List.pairwise_append]
  refine ⟨h.take, h.drop, fun a ha b hb => ?_⟩
  obtain ⟨x, hx, rfl⟩ := List.getElem_of_mem ha
  obtain ⟨y, hy, rfl⟩ := List.getElem_of_mem hb
  rw [List.length_take] at hx
  rw [List.length_drop] at hy
  rw [List.getElem_take, List.getElem_drop]
  exact List.pairwise_iff_getElem.1 h _ _ (by omega) (by omega) (by omega)
theorem cutC_mem {es : List Ce} {i : Nat} {e : Ce} (h : e ∈ cutC es i) : e ∈ es := by
  unfold cutC at h
  rcases List.mem_append.1 h with h | h
  · exact List.mem_of_mem_take h
  · exact List.mem_of_mem_drop h
theorem withoutC_none {es : List Ce} {p : ByteArray × Int} (h : ∀ e ∈ es, keyC e ≠ p) : withoutC es p = es := by
  unfold withoutC
  exact List.filter_eq_self.2 (fun e he => by simp [h e he])
theorem withoutC_cut : ∀ {es : List Ce} (ha : KeysApart es) (i : Nat) (hi : i < es.length), withoutC es (keyC es[i]) = cutC es i
  | [], _, i, hi => absurd hi (by simp)
  | e :: es, ha, 0, hi => by
    obtain ⟨h1, h2⟩ := List.pairwise_cons.1 ha
    show withoutC (e :: es) (keyC e) = es
    unfold withoutC
    rw [List.filter_cons_of_neg (by simp)]
    exact withoutC_none (fun x hx => (h1 x hx).symm)
  | e :: es, ha, i + 1, hi => by
    obtain ⟨h1, h2⟩ := List.pairwise_cons.1 ha
    have hi2 : i < es.length := by simpa using hi
    have ih := withoutC_cut h2 i hi2
    show withoutC (e :: es) (keyC es[i]) = e :: cutC es i
    rw [← ih]
    unfold withoutC
    rw [List.filter_cons_of_pos (by simpa using h1 _ (List.getElem_mem hi2))]
theorem withoutC_no (es : List Ce) (p : ByteArray × Int) : ∀ e ∈ withoutC es p, keyC e ≠ p := fun e he => by
  have := (List.mem_filter.1 he).2
  simpa using this
theorem sweepC_same {es : List Ce} {now : Int} (h : (sweepC es now).length = es.length) : sweepC es now = es := by
  unfold sweepC at *
  exact List.filter_eq_self.2 (List.length_filter_eq_length_iff.1 h)
theorem findC_none_iff {es : List Ce} {x : ByteArray} {t : Int} (h : findC es x t = none) : ∀ e ∈ es, keyC e ≠ (x, t) := getE_none (by unfold getE; rw [h])
theorem putC_ok {room : Int} {es : List Ce} {own : Ce} {now : Int} (h : SortedC es) (hr : (es.length : Int) ≤ room) (h1 : 1 ≤ room) : SortedC (putC room es own now).1 ∧ ((putC room es own now).1.length : Int) ≤ room ∧ ∀ e ∈ (putC room es own now).1, e = own ∨ e ∈ es := by
  have mem : ∀ {l : List Ce} {e}, e ∈ insC own l → e = own ∨ e ∈ l := fun he => by simpa using (insC_perm own _).mem_iff.1 he
  unfold putC
  cases hf : findC es own.s own.t with
  | some i =>
    obtain ⟨hi, hk⟩ := findC_lt _ _ _ _ hf
    have e : keyC es[i] = keyC own := Prod.ext hk.1 hk.2
    have hc := withoutC_cut h.apart i hi
    refine ⟨insC_sorted (cutC_sorted h i) (fun x hx => ?_), ?_, fun x hx => (mem hx).imp id cutC_mem⟩
    · rw [← hc, e] at hx
      exact withoutC_no _ _ x hx
    · have := cutC_len es i hi
      simp only [insC_len]
      omega
  | none =>
    have hno := findC_none_iff hf
    have hno2 : ∀ e ∈ sweepC es now, keyC e ≠ keyC own := fun e he => hno e (List.mem_filter.1 he).1
    have hl := sweepC_len es now
    simp only
    split
    · split
      · rename_i _ h3
        have hb : bestC (sweepC es now) (sweepC es now).length < (sweepC es now).length := by
          cases hn : (sweepC es now).length with
          | zero => rw [hn] at h3; omega
          | succ n => have := bestC_lt (sweepC es now) n; omega
        have := cutC_len _ _ hb
        refine ⟨insC_sorted (cutC_sorted (sweepC_sorted h now) _) (fun e he => hno2 e (cutC_mem he)), ?_, fun e he => (mem he).imp id (fun he => (List.mem_filter.1 (cutC_mem he)).1)⟩
        simp only [insC_len]
        omega
      · refine ⟨insC_sorted (sweepC_sorted h now) hno2, ?_, fun e he => (mem he).imp id (fun he => (List.mem_filter.1 he).1)⟩
        simp only [insC_len]
        omega
    · refine ⟨insC_sorted h hno, ?_, fun e he => mem he⟩
      simp only [insC_len]
      omega
end Go.Proofs.YtedmkdjijhflnaaGreat
namespace Go.Proofs.YtedmkdjijhflnaaGreat
open Go.RowKit

def flatK (D : List (ByteArray × Int)) : List Value := D.flatMap keyL
theorem flatK_len : ∀ (D : List (ByteArray × Int)), (flatK D).length = D.length * 2
  | [] => rfl
  | e :: es => by
    have h2 := flatK_len es
    show (keyL e ++ flatK es).length = _
    rw [List.length_append, h2, List.length_cons]
    show 2 + es.length * 2 = _
    omega
theorem flatK_append (xs ys : List (ByteArray × Int)) : flatK (xs ++ ys) = flatK xs ++ flatK ys := by simp [flatK]
theorem flatK_one (D : List (ByteArray × Int)) : ∀ u ∈ flatK D, u.oneCell' = true := by
  intro u hu
  obtain ⟨e, he, h2⟩ := List.mem_flatMap.1 hu
  unfold keyL at h2
  simp at h2
  rcases h2 with rfl | rfl <;> rfl
theorem flatK_at : ∀ (es : List (ByteArray × Int)) k (hk : k < es.length) j, j < 2 → (flatK es)[k * 2 + j]? = (keyL es[k])[j]?
  | [], k, hk, j, hj => absurd hk (by simp)
  | e :: es, k, hk, j, hj => by
    have h1 : (keyL e).length = 2 := rfl
    show (keyL e ++ flatK es)[k * 2 + j]? = _
    cases k with
    | zero => rw [Nat.zero_mul, Nat.zero_add, List.getElem?_append_left (by omega)]; rfl
    | succ k =>
      rw [List.getElem?_append_right (by omega), h1, show (k + 1) * 2 + j - 2 = k * 2 + j by omega]
      exact flatK_at es k (by simpa using hk) j hj
abbrev zK : Array Value := #[.string ⟨#[]⟩, .int .i64 0]
theorem infoK : (Tryz.prog.info? 155).map (fun i => (i.zero, i.size, i.bytes)) = some (some (.agg zK), 2, 24) := by kernel_rfl
def RowK (w : World) (base : Nat) (v : Value) (D : List (ByteArray × Int)) : Prop := w.ownsRow base 155 2 v D.length (flatK D) ∧ D.length ≤ 1000
theorem RowK.nil (w : World) (base : Nat) : RowK w base (.slice none 0 0) [] := ⟨World.ownsRow_nil _ _ _ _, by decide⟩
theorem RowK.below {w w' : World} {base : Nat} {v : Value} {es : List (ByteArray × Int)} (h : RowK w base v es) (hb : Below w.heap.size w w') : RowK w' base v es := by
  obtain ⟨⟨h1, h2⟩, h3⟩ := h
  refine ⟨⟨h1, ?_⟩, h3⟩
  rcases h2 with h2 | ⟨g, cap, cur, e1, e2, e3, e4⟩
  · exact .inl h2
  · refine .inr ⟨g, cap, cur, e1, e2, ?_, e4⟩
    have hlt : g < w.heap.size := by
      apply Classical.byContradiction
      intro h
      rw [Array.getElem?_eq_none (by omega)] at e3
      cases e3
    rw [hb.block g hlt]
    exact e3
theorem RowK.mono {w : World} {base base' : Nat} {v : Value} {es : List (ByteArray × Int)} (h : RowK w base v es) (hb : base' ≤ base) : RowK w base' v es := by
  obtain ⟨⟨h1, h2⟩, h3⟩ := h
  refine ⟨⟨h1, ?_⟩, h3⟩
  rcases h2 with h2 | ⟨g, cap, cur, e1, e2, e3⟩
  · exact .inl h2
  · exact .inr ⟨g, cap, cur, e1, by omega, e3⟩
theorem RowK.form {w : World} {base : Nat} {v : Value} {es : List (ByteArray × Int)} (h : RowK w base v es) : (v = .slice none 0 0 ∧ es = []) ∨ ∃ g cap, v = .slice (some ⟨g, 0, none⟩) es.length cap ∧ base ≤ g ∧ g < w.heap.size ∧ es.length ≤ cap ∧ cap ≤ maxLen ∧ w.rangeAt g 0 (flatK es) := by
  obtain ⟨hr, hle⟩ := h
  obtain ⟨h1, h2⟩ := hr
  rcases h2 with ⟨e1, e2⟩ | ⟨g, cap, cur, e1, e2, e3, e4, e5, e6, e7⟩
  · exact .inl ⟨e1, List.eq_nil_of_length_eq_zero e2⟩
  · refine .inr ⟨g, cap, e1, e2, ?_, e4, e5, fun j u hu => ?_⟩
    · apply Classical.byContradiction
      intro h
      rw [Array.getElem?_eq_none (by omega)] at e3
      cases e3
    · rw [Nat.zero_add, cell_of_row w g j cur _ _ e3, ← Array.getElem?_toList]
      rw [← e7, List.getElem?_take] at hu
      split at hu
      · exact hu
      · cases hu
theorem range_key {w : World} {g o : Nat} {es : List (ByteArray × Int)} (h : w.rangeAt g o (flatK es)) (k : Nat) (hk : k < es.length) : w.rangeAt g (o + k * 2) (keyL es[k]) := by
  intro j u hu
  have hj : j < 2 := by
    apply Classical.byContradiction
    intro h2
    rw [List.getElem?_eq_none (by show 2 ≤ j; omega)] at hu
    cases hu
  have := h (k * 2 + j) u (by rw [flatK_at es k hk j hj]; exact hu)
  rw [← Nat.add_assoc] at this
  exact this
theorem RowK.kept {w w' : World} {base : Nat} {v : Value} {es : List (ByteArray × Int)} {row : Option Nat} (h : RowK w base v es) (hg : w.grownBy w' row) (hne : v.ownBlock = none ∨ v.ownBlock ≠ row) : RowK w' base v es := ⟨h.1.kept hg hne, h.2⟩
theorem append_keys {ops : Array Oper} {rest : List Oper} {op : Oper} {a : Act} {w : World} {Q : Exit → Act → World → Prop} {base : Nat} {v : Value} {es : List (ByteArray × Int)} (hE : Hid (RowK w base v es)) (s x : Operand) (hgd : op.guard = none) (ho : op.op = .call { callee := .builtin .append, args := #[s, x], argTypes := #[234, 234] })
    (hs : a.eval s = v) {G o m c : Nat} (ys : List (ByteArray × Int)) (hx : a.eval x = .slice (some ⟨G, o, none⟩) m c) (hm : Hid (m = ys.length)) (hr : Hid (w.rangeAt G o (flatK ys))) (hle : Hid (es.length + ys.length ≤ 1000)) (hbase : Hid (base ≤ w.heap.size))
    (h : ∀ v' w', Hid (RowK w' base v' (es ++ ys)) → Hid (w.grownBy w' v.ownBlock) → Hid (v'.ownBlock = v.ownBlock ∨ v'.ownBlock = some w.heap.size) → wpList Tryz.prog ops Q rest (a.put op.dst v') w') : wpList Tryz.prog ops Q (op :: rest) a w := by
  obtain ⟨i0, hi0, hz0, hz1, hz2⟩ := info_parts infoK
  have hml := hm.out
  have hll := hle.out
  refine wpList_append_own_at w hgd s x 234 ho base 155 i0 _ 2 24 Tryz.underlying234 hi0 hz0 hz1 hz2 rfl (by decide) v es.length (flatK es) hs hE.out.1 ⟨G, o, none⟩ m c (flatK ys) hx (by rw [flatK_len ys, hml]) (fun j u hu => ?_) (flatK_one ys) (by unfold maxLen; omega) (by omega) hbase.out (fun v' w' h1 h2 _ h4 => ?_)
  · have := hr.out j u hu
    have hadd : (⟨G, o, none⟩ : Addr).add j = ⟨G, o + j, none⟩ := by unfold Addr.add; split <;> simp_all
    rw [hadd]
    exact this
  · refine h v' w' (Lib.hid ⟨?_, ?_⟩) (Lib.hid h2) (Lib.hid h4)
    · rw [List.length_append, flatK_append, ← hml]; exact h1
    · rw [List.length_append]; exact hll
theorem fillK (q : (ByteArray × Int)) : Instr.fill (fun i => some (i * 2, 2)) ((Array.range (1 * 2)).map fun j => zK[j % zK.size]!) [(0, keyV q)] = some (keyL q).toArray := by
  obtain ⟨s, t⟩ := q
  kernel_rfl
theorem run_buildK (q : (ByteArray × Int)) (w : World) : (Instr.buildSlice 234 1 #[(0, keyV q)]).run Tryz.prog w = .ok (.slice (some ⟨w.heap.size, 0, none⟩) 1 1) (w.alloc (.cells (keyL q).toArray 155)) := by
  obtain ⟨i0, hi0, hz0, hz1, hz2⟩ := info_parts infoK
  have hf := fillK q
  obtain ⟨Z, hZ⟩ : ∃ Z : Array Value, zK = Z := ⟨_, rfl⟩
  rw [hZ] at hf hz0
  have hsz : (sizeOf 155).run Tryz.prog w = .ok 2 w := by simp [sizeOf, typeInfo, hi0, hz1]
  have hzv : (zeroValue 155).run Tryz.prog w = .ok (.agg Z) w := by simp [zeroValue, typeInfo, hi0, hz0]
  have hnr : ∀ cs : Array Value, (newRow 155 cs).run Tryz.prog w = .ok ⟨w.heap.size, 0, none⟩ (w.alloc (.cells cs 155)) := fun cs => by simp [newRow]
  have hu : (underlying 234).run Tryz.prog w = .ok _ w := run_underlying Tryz.underlying234 w
  have hfc : Instr.fill (fun i => some (i * 2, 2)) ((Array.range (1 * 2)).map fun j => (Value.agg Z).cells[j % (Value.agg Z).cells.size]!) (#[(0, keyV q)] : Array (Nat × Value)).toList = some (keyL q).toArray := hf
  unfold Instr.buildSlice
  simp only [Sem.run_bind, hu, Result.andThen_ok, hsz, if_neg (show ¬ (1 * 2 > 2 ^ 24) by decide), Sem.run_pure, if_neg (show ¬ (1 * 2 = 0) by decide), hzv, hfc, hnr]
theorem build_keyS {ops : Array Oper} {rest : List Oper} {op : Oper} {a : Act} {w : World} {Q : Exit → Act → World → Prop} {q : (ByteArray × Int)} (hg : op.guard = none) (x : Operand) (ho : op.op = .buildSlice 234 1 #[(0, x)])
    (hx : a.eval x = keyV q) (h : ∀ W, Hid (W = w.alloc (.cells (keyL q).toArray 155)) → wpList Tryz.prog ops Q rest (a.put op.dst (.slice (some ⟨w.heap.size, 0, none⟩) 1 1)) W) : wpList Tryz.prog ops Q (op :: rest) a w := by
  refine wpList_plain hg fun K hK => ?_
  unfold Oper.wp execOp
  simp only [ho, List.map_toArray, List.map_cons, List.map_nil, hx, Sem.run_bind, run_buildK q w, Result.andThen_ok]
  exact hK _ _ (h _ (Lib.hid rfl))
end Go.Proofs.YtedmkdjijhflnaaGreat
namespace Go.Proofs.YtedmkdjijhflnaaGreat
open Go.RowKit

section
variable {P : Program} {ops : Array Oper} {Q : Exit → Act → World → Prop} {n r : Nat}
theorem rows_in {row : String} {args : Array Value} {w : World} {R : Value → World → Prop} (h : Rows P row args w R) : RowsIn (Fence.wide.inRound r) n P row args w R := fun c cs _ => by
  obtain ⟨v, w', hr, hs⟩ := h c cs
  exact ⟨v, w', hr, stepsIn_wide.2 hs⟩
theorem depth_no : (Fence.wide.inRound r).depth.isSome = true → 1 ≤ n := fun h => by cases h
theorem op_in {o : Oper} {a : Act} {w : World} {K : Act → World → Prop} (hd : ∀ c, o.op ≠ .defer c) (hq : ¬ LetsOut Q) (h : o.wp P a w K Q ∨ (o.asks P a w ∧ LetsOut Q)) : o.wpIn (Fence.wide.inRound r) n P a w K Q := by
  rcases h with h | ⟨_, h⟩
  · refine ⟨fun _ _ => trivial, ?_⟩
    rw [show o.semAt (Fence.wide.inRound r).round a.eval = execOp a.eval o from Oper.semAt_some r _ _ hd]
    unfold Oper.wp at h
    generalize (execOp a.eval o).run P w = x at *
    cases x with
    | ok y w' =>
      cases y <;> simp only [Oper.upon, Oper.uponIn] at h ⊢ <;> first
        | exact h
        | exact ⟨depth_no, CallsIn.inRound r (callsIn_wide.2 h)⟩
        | exact ⟨depth_no, rows_in h⟩
        | exact h.elim
    | halt y w' => cases y <;> simp only [Oper.upon, Oper.uponIn] at h ⊢ <;> first | exact h | exact h.elim
  · exact absurd h hq
theorem list_in (hq : ¬ LetsOut Q) : ∀ (l : List Oper) (a : Act) (w : World), (∀ o ∈ l, ∀ c, o.op ≠ .defer c) → wpList P ops Q l a w → wpListIn (Fence.wide.inRound r) n P ops Q l a w
  | [], _, _, _, h => h
  | o :: l, a, w, hd, h => by
    unfold wpListIn
    unfold wpList at h
    split
    · rename_i hw
      rw [if_pos hw] at h
      exact Oper.wpIn_mono (fun a w h => list_in hq l a w (fun o ho => hd o (List.mem_cons_of_mem _ ho)) h) (op_in (hd o (by simp)) hq h)
    · rename_i hw
      rw [if_neg hw] at h
      exact ⟨fun _ _ => trivial, list_in hq l _ w (fun o ho => hd o (List.mem_cons_of_mem _ ho)) h⟩
def noDefer (l : List Oper) : Bool := l.all fun o => match o.op with
  | .defer _ => false
  | _ => true
theorem noDefer_spec {l : List Oper} (h : noDefer l = true) : ∀ o ∈ l, ∀ c, o.op ≠ .defer c := fun o ho c e => by
  have := List.all_eq_true.1 h o ho
  rw [e] at this
  cases this
theorem round_region {id : Nat} {l : List Oper} {a : Act} {w : World} (hd : noDefer l = true) (hq : ¬ LetsOut Q) (h : wpList P l.toArray Q l a w) : (Code.region id l.toArray false).wpIn (Fence.wide.inRound r) n P Q a w :=
  wpIn_region_lit (list_in hq l a w (noDefer_spec hd) h)
end
end Go.Proofs.YtedmkdjijhflnaaGreat
namespace Go.Proofs.YtedmkdjijhflnaaGreat
open Go.RowKit

section
variable {P : Program} {α : Type}
theorem foot_put (W : World) (l : Nat) (o : Obj) : Foot [l] [l] W (W.putObj l o) :=
  ⟨rfl, rfl, rfl, by simp, fun k _ hn => World.putObj_heap_other (fun e => hn (by simp [e])), fun k hk => .inl hk⟩
theorem below_put {W : World} {l n : Nat} (o : Obj) (h : n ≤ l) : Below n W (W.putObj l o) :=
  ⟨rfl, rfl, rfl, by simp, fun k hk => World.putObj_heap_other (by omega)⟩
theorem yield_step {ops : Array Oper} {rest : List Oper} {o : Oper} {a : Act} {w : World} {Q : Exit → Act → World → Prop} {l : Nat} {v : Value} {ts : Array TypeId} {R : Ending → World → Prop} (hY : YieldAt Fence.wide 0 P l #[v] w R)
    (hw : Region.wanted o (yielded ops a.tmps) = true) (x y : Operand) (ho : o.op = .call { callee := .value x, args := #[y], argTypes := ts })
    (hx : a.eval x = .func (.yield l) #[] #[]) (hy : a.eval y = v) (h : ∀ e w', R e w' → ∃ u, e = .returned u ∧ wpListIn Fence.wide 0 P ops Q rest (a.put o.dst u) w') : wpListIn Fence.wide 0 P ops Q (o :: rest) a w := by
  obtain ⟨fn, tmps, assign, body, hr, hR⟩ := hY
  unfold wpListIn
  rw [if_pos hw]
  refine ⟨fun _ _ => trivial, ?_⟩
  have e : (o.semAt Fence.wide.round a.eval).run P w = .ok (.round l fn tmps assign body) w := by
    show (execOp a.eval o).run P w = _
    unfold execOp
    simp only [ho, resolve, List.map_toArray, List.map_cons, List.map_nil, hx, hy, Sem.run_bind]
    simp [Deferred.ofValue, invoke, hr]
  rw [e, Oper.uponIn_round]
  refine ⟨(fun h => by cases h), hR.mono fun e w' he => ?_⟩
  obtain ⟨u, rfl, hu⟩ := h e w' he
  exact hu
theorem wide_step {ops : Array Oper} {rest : List Oper} {o : Oper} {a : Act} {w : World} {Q : Exit → Act → World → Prop} {v : Value} (hw : Region.wanted o (yielded ops a.tmps) = true) (hr : (execOp a.eval o).run P w = .ok (.value v) w)
    (h : wpListIn Fence.wide 0 P ops Q rest (a.put o.dst v) w) : wpListIn Fence.wide 0 P ops Q (o :: rest) a w := by
  unfold wpListIn
  rw [if_pos hw]
  refine ⟨fun _ _ => trivial, ?_⟩
  rw [show (o.semAt Fence.wide.round a.eval).run P w = .ok (.value v) w from hr, Oper.uponIn_value]
  exact h
def Tells (P : Program) (gf : Nat) (lb : Array Value) (xs : List α) (enc : α → Value) (M : List Nat) (w : World) : Prop :=
  ∀ (l : Nat) (J : Nat → World → Prop) (W : World), Below w.heap.size w W → (∀ k A B, J k A → Below A.heap.size A B → J k B) →
    (∀ k (hk : k < xs.length) W1, J k W1 → YieldAt Fence.wide 0 P l #[enc xs[k]] W1 fun e W' => e = .returned (.bool true) ∧ J (k + 1) W' ∧ Foot M M W1 W') → J 0 W →
    CallsIn Fence.wide 0 P gf (#[.func (.yield l) #[] #[]] ++ lb) W fun e W' => (∃ v, e = .returned v) ∧ J xs.length W'
def recOf (fn : FuncId) (a : Act) (ps : Array Tmp) (assign body : Code) (D : Nat) (st : LoopState) (pe : Option Code) : Loop := { state := st, pending := pe, fn, tmps := a.tmps, params := ps, assign, body, defers := D }
theorem zip_one (p : Tmp) (v : Value) (t : Array Value) : (#[p].zip #[v]).foldl (fun tmps (t, a) => tmps.setIfInBounds t a) t = t.setIfInBounds p v := by simp
theorem enter_law {g : Operand} {ps : Array Tmp} {assign body : Code} {Q : Exit → Act → World → Prop} {a : Act} {w : World} {gf : Nat} {lb : Array Value} (hg : a.eval g = .func (.func gf) #[] lb) (eg : ∀ args w, (callFunc gf args).run P w = .ok (.enter gf args) w)
    (h : ∀ fn W1, Below w.heap.size w W1 → W1.heap[w.heap.size + 1]? = some (.loop (recOf fn a ps assign body w.heap.size .ready none)) → W1.heap[w.heap.size]? = some (.deferred (some [])) →
      CallsIn Fence.wide 0 P gf (#[.func (.yield (w.heap.size + 1)) #[] #[]] ++ lb) W1 (rangePost Fence.wide 0 P (w.heap.size + 1) Q { a with defers := [{ target := .collected w.heap.size, args := #[] }] ++ a.defers })) :
    (Code.rangeFunc g ps assign body).wp P Q a w := by
  refine (wpIn_wide (n := 0)).1 (wpIn_rangeFunc fun fn _ => ?_)
  obtain ⟨W1, hW1⟩ : ∃ W1, (w.alloc (.deferred (some []))).alloc (.loop (recOf fn a ps assign body w.heap.size .ready none)) = W1 := ⟨_, rfl⟩
  have hL1 : W1.heap[w.heap.size + 1]? = some (.loop (recOf fn a ps assign body w.heap.size .ready none)) := by
    rw [← hW1]; have := World.alloc_heap_new (w.alloc (.deferred (some []))) (.loop (recOf fn a ps assign body w.heap.size .ready none)); rwa [World.size_alloc] at this
  have hK1 : W1.heap[w.heap.size]? = some (.deferred (some [])) := by
    rw [← hW1]; exact (Below.heap_alloc _ _ _ (by simp)).trans (World.alloc_heap_new w _)
  have hb1 : Below w.heap.size w W1 := by
    rw [← hW1]; exact ((Below.refl _ w).alloc (Nat.le_refl _) _).alloc (by simp) _
  have e1 : (Instr.enterLoop fn a.tmps ps assign body none).run P w = .ok (w.heap.size + 1, [{ target := .collected w.heap.size, args := #[] }]) W1 := by
    rw [← hW1]; exact run_enterLoop_outer _ _ _ _ _
  have e2 : (resolve a.eval (rangeCall g (w.heap.size + 1)) 0).run P W1 = .ok { target := .fn (.func gf) lb, args := #[.func (.yield (w.heap.size + 1)) #[] #[]] } W1 := by
    simp only [resolve, hg]
    simp [go_sem]
  have e3 : (invoke (.fn (.func gf) lb) #[.func (.yield (w.heap.size + 1)) #[] #[]]).run P W1 = .ok (.enter gf (#[.func (.yield (w.heap.size + 1)) #[] #[]] ++ lb)) W1 := by
    simp only [invoke]
    exact eg _ _
  have e4 := h fn W1 hb1 hL1 hK1
  clear hL1 hK1 hb1 hW1 h eg hg
  exact ⟨_, _, W1, _, W1, gf, _, W1, e1, e2, fun _ _ => trivial, e3, (fun h => by cases h), e4⟩
def TellsOne (P : Program) (gf : Nat) (lb : Array Value) (best : Option α) (enc : α → Value) (G : Nat) (Inv : World → Prop) (w : World) : Prop :=
  ∀ (l : Nat) (Jx : World → Prop) (W : World), Below w.heap.size w W →
    (∀ x W1, best = some x → Inv W1 → Foot [G] [G] W W1 → YieldAt Fence.wide 0 P l #[enc x] W1 fun e W' => e = .returned (.bool false) ∧ Jx W') →
    CallsIn Fence.wide 0 P gf (#[.func (.yield l) #[] #[]] ++ lb) W fun e W' => (∃ v, e = .returned v) ∧ ((best = none ∧ Inv W' ∧ Foot [G] [G] W W') ∨ (∃ x, best = some x ∧ Jx W'))
end
end Go.Proofs.YtedmkdjijhflnaaGreat
namespace Go.Proofs.YtedmkdjijhflnaaGreat
open Go.RowKit

def OwnFrom {β : Type} (B : Nat) (I : β → World → Prop) : Prop :=
  ∀ s W W' row, I s W → W.grownBy W' row → (∀ r, row = some r → B ≤ r ∧ ∃ o : Obj, W.heap[r]? = some o ∧ o.isCells = false) → I s W'
theorem OwnFrom.putObj {β : Type} {B : Nat} {I : β → World → Prop} (h : OwnFrom B I) {s : β} {W : World} {l : Nat} {o : Obj} (o' : Obj) (hs : I s W) (hB : B ≤ l) (hl : W.heap[l]? = some o) (ho : o.isCells = false) : I s (W.putObj l o') :=
  h s W _ (some l) hs (grownBy_putObj' W l o') (fun r e => by cases e; exact ⟨hB, o, hl, ho⟩)
section
variable {P : Program} {α : Type}
theorem range_list {g : Operand} {p : Tmp} {assign body : Code} {Q : Exit → Act → World → Prop} {a : Act} {w : World} {gf : Nat} {lb : Array Value} (hg : a.eval g = .func (.func gf) #[] lb) (eg : ∀ args w, (callFunc gf args).run P w = .ok (.enter gf args) w)
    (enc : α → Value) (S : List α → Prop) (N : Nat) (w0 : World) (hseq : SeqGives Fence.wide 0 P gf lb enc S N w0) (hb0 : Below w0.heap.size w0 w)
    (I : List α → World → Prop) (hI : OwnFrom w.heap.size I) (h0 : I [] w)
    (hround : ∀ l pre x W, w.heap.size ≤ l → pre.length < N → I pre W → (∃ o : Obj, W.heap[l]? = some o ∧ o.isCells = false) →
      assign.wpIn (Fence.wide.inRound l) 0 P (Exit.then (fun a₁ w₁ => KeepsOthers W w₁ ∧ I pre w₁ ∧ ∀ w₂, w₁.grownBy w₂ (some l) → (∃ o : Obj, w₁.heap[l]? = some o ∧ o.isCells = false) → I pre w₂ → body.wpIn (Fence.wide.inRound l) 0 P (fun e _ W3 => e = .normal ∧ KeepsOthers w₂ W3 ∧ I (pre ++ [x]) W3) a₁ w₂) (fun _ _ _ => False))
        { tmps := a.tmps.setIfInBounds p (enc x), defers := [] } W)
    (hdone : ∀ xs W, S xs → I xs W → W.heap[w.heap.size]? = some (.deferred (some [])) → Q .normal { a with defers := [{ target := .collected w.heap.size, args := #[] }] ++ a.defers } W) :
    (Code.rangeFunc g #[p] assign body).wp P Q a w := by
  refine enter_law hg eg fun fn W1 hb1 hL1 hK1 => ?_
  obtain ⟨l, hl⟩ : ∃ l, w.heap.size + 1 = l := ⟨_, rfl⟩
  rw [hl] at hL1 ⊢
  obtain ⟨rec, hrec⟩ : ∃ rec, recOf fn a #[p] assign body w.heap.size = rec := ⟨_, rfl⟩
  rw [hrec] at hL1
  have hI1 : I [] W1 := hI [] w W1 none h0 ⟨hb1.os, hb1.tape, hb1.output, hb1.size, fun k hk _ => hb1.block k hk⟩ (fun r e => by cases e)
  refine (hseq l (fun pre W => I pre W ∧ W.heap[l]? = some (.loop (rec .ready none)) ∧ W.heap[w.heap.size]? = some (.deferred (some []))) W1 (hb0.trans (hb1.mono hb0.size)) ?_ ?_ ⟨hI1, hL1, hK1⟩).mono ?_
  · rintro s A B row ⟨h1, h2, h3⟩ hgr hr
    have hr2 : ∀ r, row = some r → w.heap.size ≤ r ∧ ∃ o : Obj, A.heap[r]? = some o ∧ o.isCells = false := fun r e => by
      obtain ⟨hb, o, ho, hw⟩ := hr r e
      exact ⟨Nat.le_trans hb1.size hb, o, ho, Obj.not_cells_of_walk hw⟩
    exact ⟨hI s A B row h1 hgr hr2, (grownBy_keeps hgr (fun r e => (hr r e).2) h2 rfl).trans h2, (grownBy_keeps hgr (fun r e => (hr r e).2) h3 rfl).trans h3⟩
  · rintro pre x W ⟨h1, h2, h3⟩ hlen
    have hlW : l < W.heap.size := (Array.getElem?_eq_some_iff.1 h2).1
    have hy := run_yield (P := P) (args := #[enc x]) h2 (by rw [← hrec]; simp [recOf])
    refine ⟨_, _, _, _, hy, roundIn_of_wpIn trivial ?_⟩
    rw [← hrec]
    show assign.wpIn _ _ _ _ { tmps := (#[p].zip #[_]).foldl _ a.tmps, defers := [] } W
    rw [zip_one]
    refine wpIn_mono (hround l pre x W (by omega) hlen h1 ⟨_, h2, rfl⟩) ?_
    rintro e a₁ w₁ he
    cases e with
    | normal =>
      obtain ⟨hko, hi1, hbody⟩ := he
      have hl1 : w₁.heap[l]? = some (.loop (rec .ready none)) := hko.same l _ h2 rfl
      have hk1 : w₁.heap[w.heap.size]? = some (.deferred (some [])) := hko.same _ _ h3 rfl
      have hll : l < w₁.heap.size := (Array.getElem?_eq_some_iff.1 hl1).1
      refine ⟨_, run_beginRound hl1 (by rw [← hrec]; rfl), ?_⟩
      have hi2 := hI.putObj (.loop { rec .ready none with state := .busy }) hi1 (by omega) hl1 rfl
      refine wpIn_mono (hbody _ (grownBy_putObj' w₁ l _) ⟨_, hl1, rfl⟩ hi2) ?_
      rintro e a₂ W3 ⟨rfl, hk3o, hi3⟩
      have hl3 := hk3o.same l _ (World.putObj_heap_same hll) rfl
      have hk3 := hk3o.same w.heap.size _ ((World.putObj_heap_other (by omega)).trans hk1) rfl
      have hr3 := run_endRound (P := P) (none : Option Code) hl3
      refine ⟨_, _, hr3, rfl, ⟨hI.putObj _ hi3 (by omega) hl3 rfl, ?_, ?_⟩, ?_⟩
      · rw [World.putObj_heap_same (Array.getElem?_eq_some_iff.1 hl3).1, ← hrec]; rfl
      · rw [World.putObj_heap_other (by omega)]; exact hk3
      · exact ((hko.walks.trans (KeepsWalks.putObj _ hl1 rfl)).trans hk3o.walks).trans (KeepsWalks.putObj _ hl3 rfl)
    | exit id => exact he.elim
    | goto t => exact he.elim
    | ret => exact he.elim
    | panic c => exact he.elim
    | outgrown => exact he.elim
  · rintro e W2 ⟨⟨v, rfl⟩, xs, hS, hi, h2, h3⟩
    refine ⟨none, _, by have := run_endLoop (P := P) h2 (by rw [← hrec]; simp [recOf]); rw [← hrec] at this; exact this, hdone xs _ hS (hI.putObj _ hi (by omega) h2 rfl) ((World.putObj_heap_other (by omega)).trans h3)⟩
end
end Go.Proofs.YtedmkdjijhflnaaGreat
namespace Go.Proofs.YtedmkdjijhflnaaGreat
open Go.RowKit Go.Maps

def ToldK (es : List Ce) (left : Lit → Bool) (ss : List (ByteArray × Int)) : Prop := (ss ++ (es.filter (fun e => left (keyLit (keyC e)))).map keyC).Perm (es.map keyC)
theorem left_split : ∀ (es : List Ce) (hk : KeysOk es) (ha : KeysApart es) (left : Lit → Bool) (e : Ce), e ∈ es → left (keyLit (keyC e)) = true →
    (es.filter (fun x => left (keyLit (keyC x)))).Perm (e :: es.filter (fun x => left (keyLit (keyC x)) && !(keyLit (keyC x)).sameKey (keyLit (keyC e))))
  | [], _, _, _, _, h, _ => by cases h
  | x :: es, hk, ha, left, e, he, hl => by
    obtain ⟨h1, h2⟩ := List.pairwise_cons.1 ha
    have hk2 : KeysOk es := fun y hy => hk y (by simp [hy])
    rcases List.mem_cons.1 he with rfl | he
    · have e1 : es.filter (fun x => left (keyLit (keyC x)) && !(keyLit (keyC x)).sameKey (keyLit (keyC e))) = es.filter (fun x => left (keyLit (keyC x))) := by
        refine List.filter_congr (fun y hy => ?_)
        rw [same_lit (hk2 y hy) (hk e (by simp))]
        simp [(h1 y hy).symm]
      rw [List.filter_cons_of_pos (by simpa using hl), List.filter_cons_of_neg (by rw [same_lit (hk e (by simp)) (hk e (by simp))]; simp), e1]
    · have ih := left_split es hk2 h2 left e he hl
      have hne : keyC x ≠ keyC e := h1 e he
      have hs : (keyLit (keyC x)).sameKey (keyLit (keyC e)) = false := by rw [same_lit (hk x (by simp)) (hk e (by simp [he]))]; simp [hne]
      by_cases hlx : left (keyLit (keyC x)) = true
      · rw [List.filter_cons_of_pos (by simpa using hlx), List.filter_cons_of_pos (by simp [hlx, hs])]
        exact (ih.cons x).trans (List.Perm.swap _ _ _)
      · rw [List.filter_cons_of_neg (by simpa using hlx), List.filter_cons_of_neg (by simp [hlx])]
        exact ih
theorem ToldK.step {es : List Ce} {left : Lit → Bool} {ss : List (ByteArray × Int)} (h : ToldK es left ss) (hk : KeysOk es) (ha : KeysApart es) (e : Ce) (he : e ∈ es) (hl : left (keyLit (keyC e)) = true) : ToldK es (fun z => left z && !z.sameKey (keyLit (keyC e))) (ss ++ [keyC e]) := by
  unfold ToldK at *
  refine List.Perm.trans ?_ h
  rw [List.append_assoc]
  refine List.Perm.append_left _ ?_
  exact ((left_split es hk ha left e he hl).map keyC).symm
theorem ToldK.done {es : List Ce} {left : Lit → Bool} {ss : List (ByteArray × Int)} (h : ToldK es left ss) (hl : ∀ kl, left kl = false) : ss.Perm (es.map keyC) := by
  unfold ToldK at h
  rw [show es.filter (fun e => left (keyLit (keyC e))) = [] from List.filter_eq_nil_iff.2 (fun e _ => by simp [hl])] at h
  simpa using h
theorem key_of_at {es : List Ce} {D : DataW Value} (ht : TellsC D es) (hk : KeysOk es) {key : Value} {kl : Lit} {y : DataW Value} (hkey : keyOf Tryz.prog 155 key = some kl) (hat : ∀ zd, D.atKey kl zd = y) : ∃ e ∈ es, kl = keyLit (keyC e) ∧ key = keyV (keyC e) := by
  obtain ⟨l, rfl, hl⟩ := ht
  have hh := Maps.has_true_of_atKey hat
  rw [has_eq, List.any_eq_true] at hh
  obtain ⟨p, hp, hs⟩ := hh
  obtain ⟨e, he, rfl⟩ := List.mem_map.1 (hl.mem_iff.1 hp)
  have e1 : keyLit (keyC e) = kl := WideAt.sameKey_eq hs
  exact ⟨e, he, e1.symm, lawK.inj hkey (e1 ▸ keyOf_key _ (hk e he))⟩
theorem key_size : (Tryz.prog.info? 155).map (·.size) = some 2 := by kernel_rfl
theorem exec_key {o : Oper} {a : Act} {w : World} {G b : Nat} {p : ByteArray × Int} (hA : w.rangeAt G b (keyL p)) (x : Operand) (ho : o.op = .load 155 x) (hx : a.eval x = .pointer (some ⟨G, b, none⟩)) :
    (execOp a.eval o).run Tryz.prog w = .ok (.value (keyV p)) w := by
  unfold execOp
  simp only [ho, hx, Sem.run_bind, run_loadAt_mid w G b 155 (keyL p) _ hA Tryz.underlying155 rfl (by rw [key_size]; rfl)]
  rfl
theorem wp_of_listIn {P : Program} {id : Nat} {l : List Oper} {Q : Exit → Act → World → Prop} {a : Act} {w : World} (h : wpListIn Fence.wide 0 P l.toArray Q l a w) : (Code.region id l.toArray false).wp P Q a w :=
  (wpIn_wide (n := 0)).1 (wpIn_region_lit h)
set_option maxRecDepth 100000 in
set_option maxHeartbeats 1000000 in
theorem keysGives (Bm b : Nat) (es : List Ce) (w : World) (hB : w.cell? ⟨Bm, 0, none⟩ = some (.map (some b))) (hM : CacMap w b es) (hk : KeysOk es) (ha : KeysApart es) :
    SeqGives Fence.wide 0 Tryz.prog 153 #[.pointer (some ⟨Bm, 0, none⟩)] keyV (fun ss => ss.Perm (es.map keyC)) es.length w := by
  intro l J W hb hJ hY h0
  have hBl : Bm < w.heap.size := World.block_lt_of_cell? w ⟨Bm, 0, none⟩ hB
  have hcell : W.cell? ⟨Bm, 0, none⟩ = some (.map (some b)) := (hb.cell (p := ⟨Bm, 0, none⟩) hBl).trans hB
  have hM2 := hM.kept (hb.block b hM.lt)
  obtain ⟨n, D, hown, hn, ht⟩ := hM2
  obtain ⟨n0, D0, ⟨e0, cl, hb0, F0, hs0, hD0⟩, hn0, l0, hDl, hl0⟩ := hM.kept (hb.block b hM.lt)
  have hsz : Maps.size D = es.length := by
    obtain ⟨l, rfl, hl⟩ := ht
    rw [size_eq, hl.length_eq]; simp
  have HT := Lib.hid ht
  have HK := Lib.hid hk
  have HA := Lib.hid ha
  have HJ := Lib.hid hJ
  have HY := Lib.hid hY
  have H0 := Lib.hid h0
  have HSZ := Lib.hid hsz
  have HST : Hid (ToldK es (Maps.has D) []) := Lib.hid (by
    unfold ToldK
    obtain ⟨l, rfl, hl⟩ := ht
    rw [show es.filter (fun e => Maps.has (DataW.map l) (keyLit (keyC e))) = es from List.filter_eq_self.2 (fun e he => by
      rw [has_eq, List.any_eq_true]
      exact ⟨entD e, hl.mem_iff.2 (List.mem_map.2 ⟨e, he, rfl⟩), WideAt.sameKey_self (isKeyLit _)⟩)]
    simp)
  clear hM ht hk ha hJ hY h0 hb hB hBl hsz hb0 F0 hs0 hD0 hn0 hDl hl0 hn
  refine callsIn_of_wp Tryz.func153 rfl trivial (wpIn_wide.2 ?_)
  simp only [Tryz.ntmps153, List.size_toArray, List.length_cons, List.length_nil, Nat.reduceAdd, Nat.reduceSub, Array.replicate_succ, Array.replicate_zero, List.push_toArray, List.append_toArray, List.nil_append, List.cons_append]
  go_wp2_with (first
    | (at_range; refine wpList_range_own _ rfl _ 151 rfl 155 149 lawK Tryz.underlying151 _ b n _ rfl hown ?_; intro w0 hrg0 hg0 hs0))
  go_frame
  clear hcell
  have HRG := Lib.hid hrg0
  have HJ1 := Lib.hid (HJ.out [] W w0 none H0.out hg0 (fun r e => by cases e))
  clear hrg0 hg0 hs0 hown
  go_loopw [6] (fun _ wr => ∃ (left : Lit → Bool) (cnt : Nat) (ss : List (ByteArray × Int)), Hid (wr.ranges Tryz.prog 155 elemV b W.heap.size n D left cnt) ∧ ss.length + cnt ≤ es.length ∧ Hid (ToldK es left ss) ∧ Hid (J ss wr)) (fun _ wr => wr.rangeLeft b W.heap.size)
  case atStart => exact ⟨_, _, [], HRG, by rw [HSZ.out]; simp, HST, HJ1⟩
  case round =>
    obtain ⟨left, cnt, ss, HR, hcs, HC, HJs⟩ := hrel
    have hrg := HR.out
    go_wp2_with (first
      | (at_next; refine wpList_next_ranges _ rfl _ rfl 155 lawK elemV id id (fun key _ _ => ⟨key, rfl⟩) (fun v _ _ => ⟨v, rfl⟩) b W.heap.size n _ _ _ rfl hrg ?_ ?_))
    · intro hc0 hl0
      go_wp2_with fail
      go_end0
      exact ⟨⟨_, rfl⟩, ss, HC.out.done hl0, HJs.out⟩
    · intro key v kl y yp w2 cnt2 hkey hlk hv hat hrg2 hlt hg2 hs2 hen
      obtain ⟨e, he, rfl, hke⟩ := key_of_at HT.out HK.out hkey hat
      have HR2 := Lib.hid hrg2
      have HLT : Hid (cnt2 < cnt) := Lib.hid hlt
      have HJ2 := Lib.hid (HJ.out ss wr w2 (some W.heap.size) HJs.out hg2 (fun r e => by cases e; exact ⟨Nat.le_refl _, hrg.iter_walk⟩))
      have HC2 := Lib.hid (HC.out.step HK.out HA.out e he hlk)
      have HLE := Lib.hid hrg.left_eq
      obtain ⟨⟨s, t⟩, hst⟩ : ∃ p, keyC e = p := ⟨_, rfl⟩
      rw [hst] at hke HC2 HR2
      have hke2 : key = .agg #[.string s, .int .i64 t] := hke
      subst hke2
      clear hrg hrg2 hkey hlk hv hat hlt hg2 hs2 HC HJs hke hst he HR
      obtain ⟨W1, hW1⟩ : ∃ W1, w2.alloc (.cells #[.string s, .int .i64 t] 155) = W1 := ⟨_, rfl⟩
      have HKR : Hid (W1.rangeAt w2.heap.size 0 (keyL (s, t))) := Lib.hid (by rw [← hW1]; exact (CellsAt.new w2 155 (keyL (s, t))).range)
      have HR3 := Lib.hid (show W1.ranges Tryz.prog 155 elemV b W.heap.size n D _ cnt2 from by rw [← hW1]; exact HR2.out.alloc _)
      have HJ3 := Lib.hid (show J ss W1 from by rw [← hW1]; exact HJ.out ss w2 _ none HJ2.out (World.grownBy_alloc _ _ _) (fun r e => by cases e))
      have HYY := Lib.hid (HY.out ss (s, t) W1 HJ3.out (by have := HLT.out; omega))
      clear HR2 HJ2 HST HRG HJ1 H0 HY
      go_upto_region 3 with fail
      first | rw [hW1] | skip
      clear hW1 hen
      refine wp_of_listIn ?_
      refine wide_step rfl rfl ?_
      refine wide_step rfl (exec_key HKR.out _ rfl rfl) ?_
      refine yield_step HYY.out rfl _ _ rfl rfl rfl ?_
      rintro e3 W3 ⟨rfl, hJ3, hk3⟩
      refine ⟨_, rfl, ?_⟩
      have HR4 := Lib.hid (HR3.out.of_walks hk3)
      have HJ4 := Lib.hid hJ3
      clear hJ3 hk3 HYY HR3 HJ3 HKR
      refine wide_step (v := .bool false) rfl rfl ?_
      refine wpListIn_nil ?_
      simp only [Act.put, List.setIfInBounds_toArray, List.set_cons_succ, List.set_cons_zero]
      go_wp2_with fail
      go_roundw
      case rel => exact ⟨_, cnt2, ss ++ [(s, t)], HR4, by have := HLT.out; simp; omega, HC2, HJ4⟩
      case measure => rw [HR4.out.left_eq, HLE.out]; exact HLT.out
end Go.Proofs.YtedmkdjijhflnaaGreat
namespace Go.Proofs.YtedmkdjijhflnaaGreat
open Go.RowKit Go.Maps

theorem CellsAt.own {W W' : World} {row : Option Nat} {G : Nat} {vs : List Value} (h : CellsAt W G vs) (hg : W.grownBy W' row) (hr : ∀ r, row = some r → ∃ o : Obj, W.heap[r]? = some o ∧ o.isCells = false) : CellsAt W' G vs := by
  refine ⟨Nat.lt_of_lt_of_le h.lt hg.size, fun j u hu => cell_kept (h.range j u hu) hg hr, fun j hj => ?_⟩
  obtain ⟨u, hu⟩ : ∃ u, vs[j]? = some u := ⟨_, List.getElem?_eq_getElem hj⟩
  have h1 := h.range j u hu
  exact ⟨by rw [cell_kept h1 hg hr]; rfl, by rw [frozen_kept h1 hg hr]; exact (h.there j hj).2⟩
theorem RowK.own {W W' : World} {row : Option Nat} {B : Nat} {v : Value} {ks : List (ByteArray × Int)} (h : RowK W B v ks) (hg : W.grownBy W' row) (hr : ∀ r, row = some r → ∃ o : Obj, W.heap[r]? = some o ∧ o.isCells = false) : RowK W' B v ks := by
  refine h.kept hg ?_
  rcases h.1.2 with ⟨rfl, _⟩ | ⟨g, cap, cur, rfl, _, hgb, _⟩
  · exact .inl rfl
  · refine .inr fun e' => ?_
    obtain ⟨o, ho, hw⟩ := hr g (by simpa [Value.ownBlock] using e'.symm)
    rw [hgb] at ho; cases ho; cases hw
theorem RowK.slice {w : World} {base : Nat} {v : Value} {D : List (ByteArray × Int)} (h : RowK w base v D) : ∃ ad c, v = .slice ad D.length c := by
  rcases h.1.2 with ⟨rfl, e⟩ | ⟨g, cap, cur, rfl, _⟩
  · exact ⟨none, 0, by rw [e]⟩
  · exact ⟨_, _, rfl⟩
theorem load_key {ops : Array Oper} {rest : List Oper} {op : Oper} {a : Act} {w : World} {Q : Exit → Act → World → Prop} {G o : Nat} {p : ByteArray × Int} (hA : Hid (w.rangeAt G o (keyL p))) (x : Operand) (hw : Region.wanted op (yielded ops a.tmps) = true) (ho : op.op = .load 155 x)
    (hx : a.eval x = .pointer (some ⟨G, o, none⟩)) (h : wpList Tryz.prog ops Q rest (a.put op.dst (keyV p)) w) : wpList Tryz.prog ops Q (op :: rest) a w :=
  wpList_load_row hw 155 x ho G o hx (keyL p) _ hA.out Tryz.underlying155 rfl (by rw [key_size]; rfl) h
theorem keyS_new {w : World} {p : ByteArray × Int} (t : TypeId) : (w.alloc (.cells (keyL p).toArray t)).rangeAt w.heap.size 0 (flatK [p]) := by
  intro j u hu
  rw [World.cell?_alloc_new, Nat.zero_add]
  rw [show flatK [p] = keyL p from List.append_nil _] at hu
  simpa using hu
theorem RowK.isCells {W : World} {B : Nat} {v : Value} {ks : List (ByteArray × Int)} (h : RowK W B v ks) : ∀ (j : Nat) (o : Obj), v.ownBlock = some j → W.heap[j]? = some o → o.isCells = true := by
  intro j o hj ho
  rcases h.1.2 with ⟨rfl, _⟩ | ⟨g, cap, cur, rfl, _, hgb, _⟩
  · cases hj
  · cases hj
    rw [hgb] at ho; cases ho; rfl
theorem RowK.kept2 {w w' : World} {B : Nat} {v : Value} {D : List (ByteArray × Int)} (h : RowK w B v D) (hk : ∀ g, v.ownBlock = some g → w'.heap[g]? = w.heap[g]?) : RowK w' B v D := by
  obtain ⟨⟨h1, h2⟩, h3⟩ := h
  refine ⟨⟨h1, ?_⟩, h3⟩
  rcases h2 with h2 | ⟨g, cap, cur, e1, e2, e3, e4⟩
  · exact .inl h2
  · exact .inr ⟨g, cap, cur, e1, e2, (hk g (by rw [e1]; rfl)).trans e3, e4⟩
theorem RowK.set {w : World} {B G o : Nat} {v u : Value} {D : List (ByteArray × Int)} (h : RowK w B v D) (hG : G < B) : RowK (w.setCell ⟨G, o, none⟩ u) B v D := h.kept2 (fun g hg => heap_setC _ _ _ _ _ (by have := (h.1.lt g hg).1; omega))
def ApK (w : World) (ss : List (ByteArray × Int)) (W : World) : Prop := ∃ v, CellsAt W w.heap.size [v] ∧ RowK W (w.heap.size + 1) v ss ∧ Below w.heap.size w W
theorem apK_own (w : World) (B : Nat) (hB : w.heap.size ≤ B) : OwnFrom B (ApK w) := by
  rintro ss W W' row ⟨v, h1, h2, h3⟩ hg hr
  exact ⟨v, h1.own hg (fun r e => (hr r e).2), h2.own hg (fun r e => (hr r e).2), h3.grown hg h3.size (fun k e => Nat.le_trans hB (hr k e).1)⟩
set_option maxRecDepth 100000 in
set_option maxHeartbeats 1000000 in
theorem appendSeq_any (gf : Nat) (lb : Array Value) (eg : ∀ args w, (callFunc gf args).run Tryz.prog w = .ok (.enter gf args) w) (S : List (ByteArray × Int) → Prop) (N : Nat) (hN : N ≤ 999) (w : World) (hseq : SeqGives Fence.wide 0 Tryz.prog gf lb keyV S N w) :
    Calls Tryz.prog 159 #[.slice none 0 0, .func (.func gf) #[] lb] w fun e w' => ∃ v ks, e = .returned v ∧ S ks ∧ RowK w' (w.heap.size + 1) v ks ∧ Below w.heap.size w w' := by
  obtain ⟨W0, hW0⟩ : ∃ W0, w.alloc (.cells #[.slice none 0 0] 234) = W0 := ⟨_, rfl⟩
  have HZ0 : Hid (W0.heap.size = w.heap.size + 1) := Lib.hid (by rw [← hW0]; simp)
  have HB0 : Hid (Below w.heap.size w W0) := Lib.hid (by rw [← hW0]; exact (Below.refl _ _).alloc (Nat.le_refl _) _)
  have HI0 : Hid (ApK w [] W0) := Lib.hid ⟨.slice none 0 0, by rw [← hW0]; exact CellsAt.new w 234 [.slice none 0 0], RowK.nil _ _, HB0.out⟩
  have HSEQ := Lib.hid hseq
  have HEG := Lib.hid eg
  clear hseq eg
  refine (callsIn_wide (n := 0)).1 (callsIn_of_wp_marks Tryz.func159 rfl trivial (wpIn_wide.2 ?_) rfl)
  simp only [Tryz.ntmps159, List.size_toArray, List.length_cons, List.length_nil, Nat.reduceAdd, Nat.reduceSub, Array.replicate_succ, Array.replicate_zero, List.push_toArray, List.append_toArray, List.nil_append, List.cons_append]
  go_wp2_with fail
  first | rw [hW0] | skip
  clear hW0
  refine range_list (gf := gf) (lb := lb) rfl HEG.out keyV S N w HSEQ.out HB0.out (ApK w) (apK_own w _ HB0.out.size) HI0.out ?round ?done
  case round =>
    rintro l pre ⟨s, t⟩ W hl hlen hI hlo
    have HI := Lib.hid hI
    have HLO := Lib.hid hlo
    have HLL := Lib.hid hl
    have HLE := Lib.hid hlen
    clear hI hlo hl hlen
    refine round_region rfl (fun ⟨_, _, h⟩ => h) ?_
    simp only [List.setIfInBounds_toArray, List.set_cons_succ, List.set_cons_zero, keyV, keyL]
    go_wp2_with fail
    obtain ⟨W1, hW1⟩ : ∃ W1, W.alloc (.cells #[.string s, .int .i64 t] 155) = W1 := ⟨_, rfl⟩
    have HKC : Hid (CellsAt W1 W.heap.size (keyL (s, t))) := Lib.hid (by rw [← hW1]; exact CellsAt.new W 155 (keyL (s, t)))
    have hko : KeepsOthers W W1 := by rw [← hW1]; exact KeepsOthers.alloc _ _
    have hI1 : ApK w pre W1 := by rw [← hW1]; exact apK_own w W0.heap.size HB0.out.size _ _ _ none HI.out (World.grownBy_alloc _ _ _) (fun r e => by cases e)
    try rw [hW1]
    refine ⟨hko, hI1, fun w₂ hg2 hl2 hI2 => ?_⟩
    have HK2 := Lib.hid (HKC.out.own hg2 (fun r e => by cases e; exact hl2)).range
    obtain ⟨v, hc2, hr2, hb2⟩ := hI2
    obtain ⟨ad, c, rfl⟩ := hr2.slice
    have HC2 := Lib.hid hc2
    have HR2 := Lib.hid hr2
    have HB2 := Lib.hid hb2
    clear hko hI1 hg2 hl2 hc2 hr2 hb2 hW1 HI HLO HKC HI0 HSEQ
    have h1 := HC2.out.cell 0 _ rfl
    have HM : Hid (1 = [(s, t)].length) := Lib.hid rfl
    have HL5 : Hid (pre.length + [(s, t)].length ≤ 1000) := Lib.hid (by have := HLE.out; simp; omega)
    have HS0 : Hid (w.heap.size + 1 ≤ w₂.heap.size) := Lib.hid HC2.out.lt
    refine wpIn_block ?_
    refine round_region rfl (fun ⟨_, _, h⟩ => by cases h.1) ?_
    go_wp2_with (first
      | refine load_key HK2 _ rfl rfl rfl ?_
      | (refine build_keyS rfl _ rfl rfl (fun W5 HW5 => ?_); have HB5 : Hid (Below w₂.heap.size w₂ W5) := Lib.hid (by rw [HW5.out]; exact (Below.refl _ _).alloc (Nat.le_refl _) _); have HO5 := Lib.hid (HR2.out.below HB5.out); have HR5 : Hid (W5.rangeAt w₂.heap.size 0 (flatK [(s, t)])) := Lib.hid (by rw [HW5.out]; exact keyS_new _); have HS5 := Lib.hid (Nat.le_trans HS0.out HB5.out.size); have HC5 := Lib.hid (HC2.out.below HB5.out); have HKO5 : Hid (KeepsOthers w₂ W5) := Lib.hid (by rw [HW5.out]; exact KeepsOthers.alloc _ _))
      | (at_builtin; refine append_keys HO5 _ _ rfl rfl rfl [(s, t)] rfl HM HR5 HL5 HS5 (fun v6 w6 HO6 HG6 HA6 => ?_); obtain ⟨ad6, c6, rfl⟩ := HO6.out.slice; have HB6 : Hid (Below (w.heap.size + 1) w₂ w6) := Lib.hid ((HB5.out.mono HS0.out).grown HG6.out HS5.out (fun j hj => (HO5.out.1.lt j hj).1)); have HC6 := Lib.hid (HC2.out.belowB HB6.out (Nat.lt_succ_self _)); have h6 := HC6.out.cell 0 _ rfl; have hf6 := HC6.out.live 0 (by simp); have HKO6 : Hid (KeepsOthers w₂ w6) := Lib.hid (HKO5.out.trans (KeepsOthers.of_grownBy HG6.out (fun j o hj ho => HO5.out.isCells j o hj ho)))))
    have HO7 := HO6.out
    simp only [List.length_append, List.length_singleton] at HO7
    refine ⟨by trivial, HKO6.out.trans (KeepsOthers.setCell _ _ _), ⟨_, HC6.out.set 0 _ (by simp), HO7.set (Nat.lt_succ_self _), ?_⟩⟩
    exact (HB2.out.trans (HB6.out.mono (Nat.le_succ _))).setCell (Nat.le_refl _) _
  case done =>
    rintro xs W hS ⟨v, hc, hr, hb⟩ hD
    obtain ⟨ad, c, rfl⟩ := hr.slice
    have h1 := hc.cell 0 _ rfl
    have HR := Lib.hid hr
    have HB := Lib.hid hb
    have HS := Lib.hid hS
    have HDF := Lib.hid hD
    clear hS hc hr hb hD HSEQ HI0
    go_wp2_with fail
    refine ⟨by simp, .inl ⟨_, _, rfl, run_takeDeferred HDF.out, ?_⟩⟩
    refine ⟨_, results_tmp rfl _ _ _, _, xs, rfl, HS.out, HR.out.kept2 (fun g hg => ?_), ?_⟩
    · exact World.putObj_heap_other (fun e => by have := HR.out.isCells g _ hg (by rw [e]; exact HDF.out); cases this)
    · exact HB.out.trans (below_put _ (by have := HZ0.out; omega))
set_option maxHeartbeats 1000000 in
theorem collect_any (gf : Nat) (lb : Array Value) (eg : ∀ args w, (callFunc gf args).run Tryz.prog w = .ok (.enter gf args) w) (S : List (ByteArray × Int) → Prop) (N : Nat) (hN : N ≤ 999) (w : World) (hseq : SeqGives Fence.wide 0 Tryz.prog gf lb keyV S N w) :
    Calls Tryz.prog 151 #[.func (.func gf) #[] lb] w fun e w' => ∃ v ks, e = .returned v ∧ S ks ∧ RowK w' w.heap.size v ks ∧ Below w.heap.size w w' := by
  have H := Lib.hid (appendSeq_any gf lb eg S N hN w hseq)
  clear eg hseq
  go_enter Tryz.func151, Tryz.ntmps151
  go_wp2_with fail
  refine H.out.mono ?_
  rintro e w1 ⟨v, ks, rfl, hS, hr, hb⟩
  obtain ⟨ad, c, rfl⟩ := hr.slice
  have HS := Lib.hid hS
  have HR := Lib.hid hr
  have HB := Lib.hid hb
  clear hS hr hb H
  go_wp2_with fail
  go_ret
  exact ⟨_, ks, rfl, HS.out, HR.out.mono (Nat.le_succ _), HB.out⟩
theorem mapsKeys_any (b : Nat) (w : World) : Calls Tryz.prog 144 #[.map (some b)] w fun e w' => e = .returned (.func (.func 153) #[] #[.pointer (some ⟨w.heap.size, 0, none⟩)]) ∧ w' = w.alloc (.cells #[.map (some b)] 151) := by
  go_enter Tryz.func144, Tryz.ntmps144
  go_wp2_with fail
  go_ret
  exact ⟨rfl, rfl⟩
end Go.Proofs.YtedmkdjijhflnaaGreat
namespace Go.Proofs.YtedmkdjijhflnaaGreat
open Go.RowKit Go.Maps

structure CacAt (w : World) (G b : Nat) (room : Int) (es : List Ce) : Prop where
  cs : CellsAt w G [.int .i64 room, .map (some b)]
  mp : CacMap w b es
  so : SortedC es
  ok : KeysOk es
  le : (es.length : Int) ≤ room
  r1 : 1 ≤ room
  r2 : room ≤ 64
section
variable {w w' : World} {G b : Nat} {room : Int} {es : List Ce}
theorem CellsAt.kept {vs : List Value} (h : CellsAt w G vs) (hs : w.heap.size ≤ w'.heap.size) (hk : w'.heap[G]? = w.heap[G]?) : CellsAt w' G vs :=
  ⟨Nat.lt_of_lt_of_le h.lt hs, fun j u hu => by rw [World.cell?_of_block (w := w) (a := ⟨G, 0 + j, none⟩) hk]; exact h.range j u hu, fun j hj => by
    rw [World.cell?_of_block (w := w) (a := ⟨G, 0 + j, none⟩) hk, World.frozen?_of_block (w := w) (a := ⟨G, 0 + j, none⟩) hk]
    exact h.there j hj⟩
theorem CacAt.kept (h : CacAt w G b room es) (hs : w.heap.size ≤ w'.heap.size) (h1 : w'.heap[G]? = w.heap[G]?) (h2 : w'.heap[b]? = w.heap[b]?) : CacAt w' G b room es :=
  ⟨h.cs.kept hs h1, h.mp.kept h2, h.so, h.ok, h.le, h.r1, h.r2⟩
theorem CacAt.lt (h : CacAt w G b room es) : G < w.heap.size ∧ b < w.heap.size := ⟨h.cs.lt, h.mp.lt⟩
theorem CacAt.below (h : CacAt w G b room es) (hb : Below w.heap.size w w') : CacAt w' G b room es := h.kept hb.size (hb.block G h.lt.1) (hb.block b h.lt.2)
theorem CacAt.len (h : CacAt w G b room es) : es.length ≤ 64 := by have := h.le; have := h.r2; omega
theorem CacAt.ne (h : CacAt w G b room es) : G ≠ b := by
  rintro rfl
  obtain ⟨e0, cl, hb⟩ := h.mp.block
  have := h.cs.cell 0 _ rfl
  simp [World.cell?, hb] at this
end
theorem loadVar_key {w : World} {G : Nat} {p : ByteArray × Int} (h : CellsAt w G (keyL p)) : (loadVar 155 ⟨G, 0, none⟩).run Tryz.prog w = .ok (keyV p) w :=
  run_loadVar_mid w G 0 155 (keyL p) _ h.range Tryz.underlying155 rfl (by rw [key_size]; rfl)
theorem results_key {fn : Func} {a : Tmp} {tmps : Array Value} {W : World} {R : Nat} {p : ByteArray × Int} (h : fn.results = #[.cell a 155]) (ha : tmps.getD a undef = .pointer (some ⟨R, 0, none⟩)) (hA : CellsAt W R (keyL p)) : (results fn tmps).run Tryz.prog W = .ok (keyV p) W := by
  rw [Array.getD_eq_getD_getElem?] at ha
  simp [results, h, ha, asAddr, loadVar_key hA]
theorem results_key2 {fn : Func} {a t : Tmp} {tmps : Array Value} {W : World} {R : Nat} {p : ByteArray × Int} (h : fn.results = #[.cell a 155, .tmp t]) (ha : tmps.getD a undef = .pointer (some ⟨R, 0, none⟩)) (hA : CellsAt W R (keyL p)) : (results fn tmps).run Tryz.prog W = .ok (.tuple #[keyV p, tmps.getD t undef]) W := by
  rw [Array.getD_eq_getD_getElem?] at ha
  simp [results, h, ha, asAddr, loadVar_key hA]
theorem store_key {ops : Array Oper} {rest : List Oper} {op : Oper} {a : Act} {w : World} {Q : Exit → Act → World → Prop} {G : Nat} {p q : ByteArray × Int} (hA : Hid (CellsAt w G (keyL q))) (x y : Operand) (hgd : op.guard = none) (ho : op.op = .store 155 x y)
    (hx : a.eval x = .pointer (some ⟨G, 0, none⟩)) (hy : a.eval y = keyV p) (h : ∀ W, Hid (W = w.setCells G 0 (keyL p)) → Hid (CellsAt W G (keyL p)) → wpList Tryz.prog ops Q rest (a.put op.dst undef) W) : wpList Tryz.prog ops Q (op :: rest) a w :=
  wpList_store_mid hgd 155 x y ho G 0 (keyL p).toArray hx hy (by exact hA.out.there) (by rw [key_size]; rfl) (all_oneCell_toArray (by intro v hv; simp [keyL] at hv; rcases hv with rfl | rfl <;> rfl)) (h _ (Lib.hid rfl) (Lib.hid (hA.out.stored (keyL p) rfl)))
theorem build_key2 {ops : Array Oper} {rest : List Oper} {op : Oper} {a : Act} {w : World} {Q : Exit → Act → World → Prop} {s : ByteArray} {t : Int} (hg : op.guard = none) (x0 x1 : Operand) (ho : op.op = .build 155 #[(0, x0), (1, x1)])
    (h0 : a.eval x0 = .string s) (h1 : a.eval x1 = .int .i64 t) (h : wpList Tryz.prog ops Q rest (a.put op.dst (keyV (s, t))) w) : wpList Tryz.prog ops Q (op :: rest) a w := by
  have e0 : Tryz.prog.built 155 [(0, .string s), (1, .int .i64 t)] = some (keyL (s, t)).toArray := rfl
  have e : Tryz.prog.built 155 ((#[(0, x0), (1, x1)] : Array (Nat × Operand)).map fun (i, x) => (i, a.eval x)).toList = some (keyL (s, t)).toArray := by
    simp only [List.map_toArray, List.map_cons, List.map_nil]
    rw [h0, h1]; exact e0
  refine wpList_build hg 155 _ ho (by rw [e]; rfl) ?_
  rw [e]
  exact h
abbrev noKey : ByteArray × Int := (⟨#[]⟩, 0)
set_option maxHeartbeats 1000000 in
theorem keyOf_any (s : ByteArray) (t : Int) (w : World) (hs : s.size ≤ 2000000) : Calls Tryz.prog 66 #[.string s, .int .i64 t] w fun e w' => e = .returned (keyV (lowB s, t)) ∧ Below w.heap.size w w' := by
  have HL := fun W => Lib.hid (lower_any s W hs)
  generalize lowB s = x at *
  obtain ⟨W, hW⟩ : ∃ W, w.alloc (.cells #[.string ⟨#[]⟩, .int .i64 0] 155) = W := ⟨_, rfl⟩
  have HB : Hid (Below w.heap.size w W) := Lib.hid (by rw [← hW]; exact (Below.refl _ _).alloc (Nat.le_refl _) _)
  have HZ : Hid (CellsAt W w.heap.size (keyL noKey)) := Lib.hid (by rw [← hW]; exact CellsAt.new w 155 (keyL noKey))
  go_enter Tryz.func66, Tryz.ntmps66
  go_upto_region 1 with fail
  first | rw [hW] | skip
  clear hW
  go_wp2_with fail
  refine (HL _).out.mono ?_
  rintro e w1 ⟨rfl, hb1⟩
  have HZ1 := Lib.hid (HZ.out.below hb1)
  have HB1 := Lib.hid (chain HB.out hb1)
  clear hb1 HZ HB HL
  go_wp2_with (first | refine build_key2 rfl _ _ rfl rfl rfl ?_ | (refine store_key HZ1 _ _ rfl rfl rfl rfl (fun V HV HVC => ?_)))
  refine bodyPost_ret (results_key Tryz.results66 rfl HVC.out) rfl ⟨rfl, ?_⟩
  rw [HV.out]
  exact below_cells (Nat.le_refl _) _ _ _ HB1.out
theorem over_any (e : Ce) (now : Int) (w : World) : Calls Tryz.prog 67 #[entV e, .int .i64 now] w fun e' w' => e' = .returned (.bool (decide (e.u ≤ now))) ∧ Below w.heap.size w w' := by
  obtain ⟨s, t, a, n, c, u⟩ := e
  unfold entV
  go_enter Tryz.func67, Tryz.ntmps67
  go_wp2_with fail
  go_ret
  exact ⟨rfl, (Below.refl _ _).alloc (Nat.le_refl _) _⟩
theorem len_any (G b : Nat) (room : Int) (es : List Ce) (w : World) (h : CacAt w G b room es) : Calls Tryz.prog 129 #[.pointer (some ⟨G, 0, none⟩)] w fun e w' => e = .returned (.int .i64 (es.length : Int)) ∧ w' = w := by
  have h1 := h.cs.cell 1 _ rfl
  have hl := fun ty => h.mp.len ty
  clear h
  go_enter Tryz.func129, Tryz.ntmps129
  go_wp2_with fail
  go_ret
  exact ⟨rfl, rfl⟩
theorem room_any (G b : Nat) (room : Int) (es : List Ce) (w : World) (h : CacAt w G b room es) : Calls Tryz.prog 49 #[.pointer (some ⟨G, 0, none⟩)] w fun e w' => e = .returned (.int .i64 room) ∧ w' = w := by
  have h1 := h.cs.cell 0 _ rfl
  clear h
  go_enter Tryz.func49, Tryz.ntmps49
  go_wp2_with fail
  go_ret
  exact ⟨rfl, rfl⟩
theorem new_any (n : Int) (w : World) : Calls Tryz.prog 47 #[.int .i64 n] w fun e w' => ∃ G b, e = .returned (.pointer (some ⟨G, 0, none⟩)) ∧ CacAt w' G b (min (max n 1) 64) [] ∧ w.heap.size ≤ G ∧ w.heap.size ≤ b ∧ Below w.heap.size w w' := by
  have hmk : (Instr.makeMap 151 none).run Tryz.prog w = .ok (.map (some w.heap.size)) (w.alloc (.map #[] 0)) := by rfl
  have HR : Hid (1 ≤ min (max n 1) 64 ∧ min (max n 1) 64 ≤ 64) := Lib.hid (by omega)
  generalize hm : min (max n 1) 64 = m at *
  go_enter Tryz.func47, Tryz.ntmps47
  go_wp2_with fail
  go_ret
  refine ⟨w.heap.size + 1, w.heap.size, rfl, ⟨?_, ?_, List.Pairwise.nil, (fun e h => by cases h), by simpa using Int.le_trans (by decide) HR.out.1, HR.out.1, HR.out.2⟩, by omega, Nat.le_refl _, ?_⟩
  · have := CellsAt.new (w.alloc (.map #[] 0)) 153 [.int .i64 m, .map (some w.heap.size)]
    simpa using this
  · exact (cacMap_made w).kept (Below.heap_alloc _ _ _ (by simp))
  · exact ((Below.refl _ _).alloc (Nat.le_refl _) _).alloc (by simp) _
end Go.Proofs.YtedmkdjijhflnaaGreat
namespace Go.Proofs.YtedmkdjijhflnaaGreat
open Go.RowKit Go.Maps

theorem ent_size : (Tryz.prog.info? 149).map (·.size) = some 2 := by kernel_rfl
def entL (e : Ce) : List Value := [.slice e.a e.n e.c, .int .i64 e.u]
theorem wp_store_ent {op : Oper} {a : Act} {w : World} {K : Act → World → Prop} {Q : Exit → Act → World → Prop} {G : Nat} {us : List Value} {e : Ce} (hA : Hid (CellsAt w G us)) (hu : us.length = 2) (x y : Operand) (ho : op.op = .store 149 x y)
    (hx : a.eval x = .pointer (some ⟨G, 0, none⟩)) (hy : a.eval y = entV e) (h : ∀ W, Hid (W = w.setCells G 0 (entL e)) → Hid (CellsAt W G (entL e)) → K (a.put op.dst undef) W) : op.wp Tryz.prog a w K Q :=
  wp_store_mid 149 x y ho G 0 (entL e).toArray hx hy (by have := hA.out.there; rw [hu] at this; exact this) (by rw [ent_size]; rfl) (all_oneCell_toArray (by intro v hv; simp [entL] at hv; rcases hv with rfl | rfl <;> rfl)) (h _ (Lib.hid rfl) (Lib.hid (hA.out.stored (entL e) (by rw [hu]; rfl))))
theorem load_ent {ops : Array Oper} {rest : List Oper} {op : Oper} {a : Act} {w : World} {Q : Exit → Act → World → Prop} {G : Nat} {e : Ce} (hA : Hid (CellsAt w G (entL e))) (x : Operand) (hw : Region.wanted op (yielded ops a.tmps) = true) (ho : op.op = .load 149 x)
    (hx : a.eval x = .pointer (some ⟨G, 0, none⟩)) (h : wpList Tryz.prog ops Q rest (a.put op.dst (entV e)) w) : wpList Tryz.prog ops Q (op :: rest) a w :=
  wpList_load_row hw 149 x ho G 0 hx (entL e) _ hA.out.range Tryz.underlying149 rfl (by rw [ent_size]; rfl) h
abbrev noCe : Ce := ⟨⟨#[]⟩, 0, none, 0, 0, 0⟩
def theE (es : List Ce) (x : ByteArray) (t : Int) : Ce := (getE es x t).getD noCe
theorem CacMap.look2 {w : World} {b : Nat} {es : List Ce} (h : CacMap w b es) (hk : KeysOk es) (ha : KeysApart es) (x : ByteArray) (t : Int) (hp : KeyOk (x, t)) :
    (Instr.lookup 151 (.map (some b)) (keyV (x, t)) true).run Tryz.prog w = .ok (.tuple #[entV (theE es x t), .bool (getE es x t).isSome]) w := by
  rw [h.look hk ha x t hp]
  unfold theE
  cases getE es x t <;> rfl
def GotL (E : Ce) (hb : Bool) (now : Int) (L : List Ad) (B : Nat) (e : Ending) (w' : World) : Prop :=
  ((hb = false ∨ E.u ≤ now) ∧ e = .returned (.tuple #[.slice none 0 0, .bool false])) ∨ (hb = true ∧ now < E.u ∧ ∃ v, e = .returned (.tuple #[v, .bool true]) ∧ RowA w' B v L)
set_option maxRecDepth 100000 in
set_option maxHeartbeats 2000000 in
theorem get_any (G b : Nat) (room : Int) (es : List Ce) (s : ByteArray) (t now : Int) (w : World) (h : CacAt w G b room es) (hs : s.size ≤ 2000000) (ht : (Lit.int .i64 t).wf = true) (L : List Ad) (hL : ∀ e, getE es (lowB s) t = some e → e.n = L.length ∧ AdsIn w e.a e.c L) (hl : L.length ≤ 1000) :
    Calls Tryz.prog 37 #[.pointer (some ⟨G, 0, none⟩), .string s, .int .i64 t, .int .i64 now] w fun e w' => GotL (theE es (lowB s) t) (getE es (lowB s) t).isSome now L w.heap.size e w' ∧ Below w.heap.size w w' := by
  obtain ⟨S, hS⟩ : ∃ S : World → Prop, (fun W => Below w.heap.size w W) = S := ⟨_, rfl⟩
  have HSB : Hid (∀ W, S W → Below w.heap.size w W) := Lib.hid (fun W hW => by rw [← hS] at hW; exact hW)
  have HSI : Hid (∀ W W', S W → Below W.heap.size W W' → S W') := Lib.hid (fun W W' hW hb => by rw [← hS] at hW ⊢; exact chain hW hb)
  have HSI2 : Hid (∀ W B vs, S W → w.heap.size ≤ B → S (W.setCells B 0 vs)) := Lib.hid (fun W B vs hW hb => by rw [← hS] at hW ⊢; exact below_cells hb _ _ _ hW)
  have HS0 : Hid (S w.drew) := Lib.hid (by rw [← hS]; exact (Below.refl _ _).drew)
  have HL : Hid (∀ W, S W → (Instr.lookup 151 (.map (some b)) (keyV (lowB s, t)) true).run Tryz.prog W = .ok (.tuple #[entV (theE es (lowB s) t), .bool (getE es (lowB s) t).isSome]) W) := Lib.hid (fun W hW => ((h.below (HSB.out W hW)).mp).look2 h.ok h.so.apart _ _ (show KeyOk (lowB s, t) from ⟨by rw [lowB_size]; exact hs, ht⟩))
  have HM1 : Hid (∀ W, S W → W.cell? ⟨G, 1, none⟩ = some (.map (some b))) := Lib.hid (fun W hW => (h.below (HSB.out W hW)).cs.cell 1 _ rfl)
  have HKO : Hid (∀ W, S W → Calls Tryz.prog 66 #[.string s, .int .i64 t] W fun e w' => e = .returned (keyV (lowB s, t)) ∧ S w' ∧ Below W.heap.size W w') := Lib.hid (fun W hW => (keyOf_any s t W hs).mono (by rintro e w' ⟨rfl, hb⟩; exact ⟨rfl, HSI.out W w' hW hb, hb⟩))
  have HTT : Hid ((getE es (lowB s) t).isSome = true → (theE es (lowB s) t).n = L.length ∧ AdsIn w (theE es (lowB s) t).a (theE es (lowB s) t).c L) := Lib.hid (fun hh => by
    obtain ⟨e, he⟩ := Option.isSome_iff_exists.1 hh
    have : theE es (lowB s) t = e := by unfold theE; rw [he]; rfl
    rw [this]
    exact hL e he)
  have HTRI : Hid (∀ e w', ((getE es (lowB s) t).isSome = false ∨ (theE es (lowB s) t).u ≤ now) → e = .returned (.tuple #[.slice none 0 0, .bool false]) → GotL (theE es (lowB s) t) (getE es (lowB s) t).isSome now L w.heap.size e w') := Lib.hid (fun e w' h1 h2 => .inl ⟨h1, h2⟩)
  have HTRJ : Hid (∀ v w', (getE es (lowB s) t).isSome = true → now < (theE es (lowB s) t).u → RowA w' w.heap.size v L → GotL (theE es (lowB s) t) (getE es (lowB s) t).isSome now L w.heap.size (.returned (.tuple #[v, .bool true])) w') := Lib.hid (fun v w' h1 h2 h3 => .inr ⟨h1, h2, v, rfl, h3⟩)
  obtain ⟨Q, hQ⟩ : ∃ Q, GotL (theE es (lowB s) t) (getE es (lowB s) t).isSome now L w.heap.size = Q := ⟨_, rfl⟩
  rw [hQ] at HTRI HTRJ ⊢
  clear h hS hL hQ
  have HOV := fun W => Lib.hid (over_any (theE es (lowB s) t) now W)
  generalize theE es (lowB s) t = E at *
  generalize (getE es (lowB s) t).isSome = hb at *
  generalize lowB s = x at *
  obtain ⟨es0, et, ea, en, ec, eu⟩ := E
  unfold entV keyV keyL at *
  go_enter Tryz.func37, Tryz.ntmps37
  go_upto_region 1 with fail
  refine wp_region_noPanic ?_
  refine wp_region_held_drew (S := S) (by kernel_rfl) HS0.out (fun hHeld => ?_)
  refine tkT 0 ?_ rfl (Or.inl ⟨by rfl, ?_⟩) ?_
  rotate_left
  · (intro w hSw; go_simp; try (with_reducible rfl))
  try simp only [Act.put, pZ]
  refine tkT 1 ?_ rfl (Or.inl ⟨by rfl, ?_⟩) ?_
  rotate_left
  · (intro w hSw; go_simp; try (with_reducible rfl))
  try simp only [Act.put, pZ]
  refine tkT 2 ?_ rfl (Or.inl ⟨by rfl, ?_⟩) ?_
  rotate_left
  · (intro w hSw; go_simp; try (with_reducible rfl))
  try simp only [Act.put, pZ]
  refine tkT 3 ?_ rfl (Or.inl ⟨by rfl, ?_⟩) ?_
  rotate_left
  · (intro w hSw; have hc0 := HM1.out w hSw; go_simp; try (with_reducible rfl))
  try simp only [Act.put, pZ]
  refine tkT 4 ?_ rfl (Or.inl ⟨by rfl, ?_⟩) ?_
  rotate_left
  · (intro w hSw; go_simp; try (with_reducible rfl))
  try simp only [Act.put, pZ]
  refine tkT 5 ?_ rfl (Or.inl ⟨by rfl, ?_⟩) ?_
  rotate_left
  · (intro w hSw; go_simp; try (with_reducible rfl))
  try simp only [Act.put, pZ]
  refine wpAnyH_ready (rs := [6, 11]) (by kernel_rfl) (by simp) ?_
  refine AllReadyH.cons rfl (fun K hK => ?_) (AllReadyH.cons rfl (fun K hK => ?_) AllReadyH.nil)
  · go_simp
    refine (HKO.out _ hHeld).mono ?_
    rintro e wr6 ⟨rfl, hS6, hb6⟩
    go_wp2_with fail
    refine hK.out _ _ hS6 (fun hHeld => ?_)
    clear hK K
    try simp only [Act.put, pZ]
    clear hb6
    refine tkT 7 ?_ rfl (Or.inl ⟨by rfl, ?_⟩) ?_
    rotate_left
    · (intro w hSw; have hc0 := HL.out w hSw; go_simp; try (with_reducible rfl))
    try simp only [Act.put, pZ]
    refine tkT 8 ?_ rfl (Or.inl ⟨by rfl, ?_⟩) ?_
    rotate_left
    · (intro w hSw; go_simp; try (with_reducible rfl))
    try simp only [Act.put, pZ]
    refine tkT 9 ?_ rfl (Or.inl ⟨by rfl, ?_⟩) ?_
    rotate_left
    · (intro w hSw; go_simp; try (with_reducible rfl))
    try simp only [Act.put, pZ]
    refine tkT 10 ?_ rfl (Or.inl ⟨by rfl, ?_⟩) ?_
    rotate_left
    · (intro w hSw; go_simp; try (with_reducible rfl))
    try simp only [Act.put, pZ]
    refine wpAnyH_ready (rs := [11]) (by kernel_rfl) (by simp) ?_
    refine AllReadyH.cons rfl (fun K hK => ?_) AllReadyH.nil
    go_simp
    go_wp2_with fail
    have HZ := Lib.hid (CellsAt.new (wr6) 149 [.slice none 0 0, .int .i64 0])
    have HSW : Hid (S ((wr6).alloc (.cells #[.slice none 0 0, .int .i64 0] 149))) := Lib.hid (HSI.out _ _ hHeld ((Below.refl _ _).alloc (Nat.le_refl _) _))
    have HBG : Hid (w.heap.size ≤ (wr6).heap.size) := Lib.hid (HSB.out _ hHeld).size
    refine hK.out _ _ HSW.out (fun hHeld => ?_)
    clear hK K HSW
    try simp only [Act.put, pZ]
    generalize wr6.alloc (.cells #[.slice none 0 0, .int .i64 0] 149) = W1 at *
    generalize wr6.heap.size = B at *
    refine wpAnyH_ready (rs := [12]) (by kernel_rfl) (by simp) ?_
    refine AllReadyH.one rfl rfl (fun K hK => ?_)
    refine wp_store_ent (e := ⟨es0, et, ea, en, ec, eu⟩) HZ rfl _ _ rfl rfl rfl (fun V HV HVC => ?_)
    have HSV : Hid (S V) := Lib.hid (by rw [HV.out]; exact HSI2.out _ _ _ hHeld HBG.out)
    go_wp2_with fail
    refine hK.out _ _ HSV.out (fun hHeld => ?_)
    clear hK K
    try simp only [Act.put]
    refine tkT 13 ?_ rfl (Or.inl ⟨by rfl, ?_⟩) ?_
    rotate_left
    · (intro w hSw; go_simp; try (with_reducible rfl))
    try simp only [Act.put, pZ]
    refine wpAnyH_done (by kernel_rfl) ?_ _
    refine NoPanic.normal ?_
    cases hb with
    | false =>
      go_wp2_with fail
      go_ret2
      exact ⟨HTRI.out _ _ (.inl (by simp)) rfl, HSB.out _ hHeld⟩
    | true =>
      obtain ⟨rfl, had⟩ := HTT.out rfl
      go_wp2_with (first | refine load_ent (e := ⟨es0, et, ea, L.length, ec, eu⟩) HVC _ rfl rfl rfl ?_)
      refine (HOV _).out.mono ?_
      rintro e w7 ⟨rfl, hb7⟩
      have HB7 := Lib.hid (HSI.out _ _ hHeld hb7)
      have HV7 := Lib.hid (HVC.out.below hb7)
      clear hb7
      by_cases hu : eu ≤ now
      · have hd : decide (eu ≤ now) = true := decide_eq_true hu
        go_wp2_with fail
        go_ret2
        exact ⟨HTRI.out _ _ (.inr hu) rfl, HSB.out _ HB7.out⟩
      · have hd : decide (eu ≤ now) = false := decide_eq_false hu
        have h7 := HV7.out.cell 0 _ rfl
        have HCL := Lib.hid (cloneA_any ea ec L w7 (had.below (HSB.out _ HB7.out)) hl)
        clear had
        go_wp2_with fail
        refine HCL.out.mono ?_
        rintro e w8 ⟨v, rfl, hr8, hb8⟩
        obtain ⟨a8, c8, rfl, _⟩ := hr8.ads
        have HR8 := Lib.hid (hr8.mono (HSB.out _ HB7.out).size)
        have HB8 := Lib.hid (chain (HSB.out _ HB7.out) hb8)
        clear hr8 hb8 HCL
        go_wp2_with fail
        go_ret2
        exact ⟨HTRJ.out _ _ (by simp) (by omega) HR8.out, HB8.out⟩
  · go_simp
    go_wp2_with fail
    have HZ := Lib.hid (CellsAt.new (w.drew) 149 [.slice none 0 0, .int .i64 0])
    have HSW : Hid (S ((w.drew).alloc (.cells #[.slice none 0 0, .int .i64 0] 149))) := Lib.hid (HSI.out _ _ hHeld ((Below.refl _ _).alloc (Nat.le_refl _) _))
    have HBG : Hid (w.heap.size ≤ (w.drew).heap.size) := Lib.hid (HSB.out _ hHeld).size
    refine hK.out _ _ HSW.out (fun hHeld => ?_)
    clear hK K HSW
    try simp only [Act.put, pZ]
    refine wpAnyH_ready (rs := [6]) (by kernel_rfl) (by simp) ?_
    refine AllReadyH.cons rfl (fun K hK => ?_) AllReadyH.nil
    go_simp
    refine (HKO.out _ hHeld).mono ?_
    rintro e wr6 ⟨rfl, hS6, hb6⟩
    go_wp2_with fail
    refine hK.out _ _ hS6 (fun hHeld => ?_)
    clear hK K
    try simp only [Act.put, pZ]
    have HZ6 : Hid (CellsAt wr6 w.heap.size [.slice none 0 0, .int .i64 0]) := Lib.hid (HZ.out.below hb6)
    clear hb6 HZ
    refine tkT 7 ?_ rfl (Or.inl ⟨by rfl, ?_⟩) ?_
    rotate_left
    · (intro w hSw; have hc0 := HL.out w hSw; go_simp; try (with_reducible rfl))
    try simp only [Act.put, pZ]
    refine tkT 8 ?_ rfl (Or.inl ⟨by rfl, ?_⟩) ?_
    rotate_left
    · (intro w hSw; go_simp; try (with_reducible rfl))
    try simp only [Act.put, pZ]
    refine tkT 9 ?_ rfl (Or.inl ⟨by rfl, ?_⟩) ?_
    rotate_left
    · (intro w hSw; go_simp; try (with_reducible rfl))
    try simp only [Act.put, pZ]
    refine tkT 10 ?_ rfl (Or.inl ⟨by rfl, ?_⟩) ?_
    rotate_left
    · (intro w hSw; go_simp; try (with_reducible rfl))
    try simp only [Act.put, pZ]
    refine wpAnyH_ready (rs := [12]) (by kernel_rfl) (by simp) ?_
    refine AllReadyH.one rfl rfl (fun K hK => ?_)
    refine wp_store_ent (e := ⟨es0, et, ea, en, ec, eu⟩) HZ6 rfl _ _ rfl rfl rfl (fun V HV HVC => ?_)
    have HSV : Hid (S V) := Lib.hid (by rw [HV.out]; exact HSI2.out _ _ _ hHeld HBG.out)
    go_wp2_with fail
    refine hK.out _ _ HSV.out (fun hHeld => ?_)
    clear hK K
    try simp only [Act.put]
    refine tkT 13 ?_ rfl (Or.inl ⟨by rfl, ?_⟩) ?_
    rotate_left
    · (intro w hSw; go_simp; try (with_reducible rfl))
    try simp only [Act.put, pZ]
    refine wpAnyH_done (by kernel_rfl) ?_ _
    refine NoPanic.normal ?_
    cases hb with
    | false =>
      go_wp2_with fail
      go_ret2
      exact ⟨HTRI.out _ _ (.inl (by simp)) rfl, HSB.out _ hHeld⟩
    | true =>
      obtain ⟨rfl, had⟩ := HTT.out rfl
      go_wp2_with (first | refine load_ent (e := ⟨es0, et, ea, L.length, ec, eu⟩) HVC _ rfl rfl rfl ?_)
      refine (HOV _).out.mono ?_
      rintro e w7 ⟨rfl, hb7⟩
      have HB7 := Lib.hid (HSI.out _ _ hHeld hb7)
      have HV7 := Lib.hid (HVC.out.below hb7)
      clear hb7
      by_cases hu : eu ≤ now
      · have hd : decide (eu ≤ now) = true := decide_eq_true hu
        go_wp2_with fail
        go_ret2
        exact ⟨HTRI.out _ _ (.inr hu) rfl, HSB.out _ HB7.out⟩
      · have hd : decide (eu ≤ now) = false := decide_eq_false hu
        have h7 := HV7.out.cell 0 _ rfl
        have HCL := Lib.hid (cloneA_any ea ec L w7 (had.below (HSB.out _ HB7.out)) hl)
        clear had
        go_wp2_with fail
        refine HCL.out.mono ?_
        rintro e w8 ⟨v, rfl, hr8, hb8⟩
        obtain ⟨a8, c8, rfl, _⟩ := hr8.ads
        have HR8 := Lib.hid (hr8.mono (HSB.out _ HB7.out).size)
        have HB8 := Lib.hid (chain (HSB.out _ HB7.out) hb8)
        clear hr8 hb8 HCL
        go_wp2_with fail
        go_ret2
        exact ⟨HTRJ.out _ _ (by simp) (by omega) HR8.out, HB8.out⟩
end Go.Proofs.YtedmkdjijhflnaaGreat
namespace Go.Proofs.YtedmkdjijhflnaaGreat
open Go.RowKit

def ofL (l : List UInt8) : ByteArray := ⟨l.toArray⟩
theorem ofL_data (l : List UInt8) : (ofL l).data.toList = l := by simp [ofL]
theorem eq_ofL {s : ByteArray} {l : List UInt8} (h : s.data.toList = l) : s = ofL l := bytes_ext (by rw [h, ofL_data])

def cutL (sep : Nat) : List UInt8 → List (List UInt8)
  | [] => [[]]
  | c :: l => if c.toNat = sep then [] :: cutL sep l else
    match cutL sep l with
    | [] => [[c]]
    | x :: r => (c :: x) :: r
theorem cutL_none (sep : Nat) : ∀ l : List UInt8, (∀ c ∈ l, c.toNat ≠ sep) → cutL sep l = [l]
  | [], _ => rfl
  | c :: l, h => by
    rw [cutL, if_neg (h c (by simp)), cutL_none sep l (fun x hx => h x (by simp [hx]))]
theorem cutL_first (sep : Nat) (c : UInt8) (hc : c.toNat = sep) (r : List UInt8) : ∀ l : List UInt8, (∀ c ∈ l, c.toNat ≠ sep) → cutL sep (l ++ c :: r) = l :: cutL sep r
  | [], _ => by rw [List.nil_append, cutL, if_pos hc]
  | x :: l, h => by
    rw [List.cons_append, cutL, if_neg (h x (by simp)), cutL_first sep c hc r l (fun x hx => h x (by simp [hx]))]

theorem sp_cut (s : ByteArray) (sep : Nat) : ∀ k, k ≤ s.size →
    cutL sep s.data.toList = (sp s sep k).1.map (fun p => p.data.toList) ++ cutL sep (s.data.toList.drop (sp s sep k).2) ∧ ∀ j (hj : j < s.size), (sp s sep k).2 ≤ j → j < k → (s[j]).toNat ≠ sep
  | 0, _ => ⟨by simp [sp], fun j _ _ h => by omega⟩
  | k + 1, hk => by
    obtain ⟨h1, h2⟩ := sp_cut s sep k (by omega)
    have hle := sp_le s sep k
    have hkl : k < s.data.toList.length := by simp; omega
    by_cases hit : (s[k]).toNat = sep
    · rw [sp_hit s sep k (by omega) hit]
      refine ⟨?_, fun j _ h3 h4 => by simp at h3; omega⟩
      rw [h1]
      have e : s.data.toList.drop (sp s sep k).2 = (s.extract (sp s sep k).2 k).data.toList ++ s[k] :: s.data.toList.drop (k + 1) := by
        rw [data_extract]
        have e1 : s.data.toList.drop k = s[k] :: s.data.toList.drop (k + 1) := by
          rw [List.drop_eq_getElem_cons hkl]; rfl
        rw [← e1]
        have e2 : s.data.toList.drop k = (s.data.toList.drop (sp s sep k).2).drop (k - (sp s sep k).2) := by
          rw [List.drop_drop]; congr 1; omega
        rw [e2, List.take_append_drop]
      rw [e, cutL_first sep _ hit _ _ ?_]
      · simp
      · intro c hc
        rw [data_extract] at hc
        obtain ⟨i, hi, rfl⟩ := List.getElem_of_mem hc
        have hi2 : i < k - (sp s sep k).2 := by simp at hi; omega
        have := h2 ((sp s sep k).2 + i) (by omega) (by omega) (by omega)
        rw [getElem_data] at this
        simpa using this
    · rw [sp_miss s sep k (by omega) hit]
      refine ⟨h1, fun j hj h3 h4 => ?_⟩
      by_cases hjk : j = k
      · subst hjk; exact hit
      · exact h2 j hj h3 (by omega)
theorem pieces_cut (s : ByteArray) (sep : Nat) : pieces s sep = (cutL sep s.data.toList).map ofL := by
  obtain ⟨h1, h2⟩ := sp_cut s sep s.size (Nat.le_refl _)
  have hle := sp_le s sep s.size
  have e : (s.extract (sp s sep s.size).2 s.size).data.toList = s.data.toList.drop (sp s sep s.size).2 := by
    rw [data_extract]
    apply List.take_of_length_le
    simp
  have h3 : cutL sep (s.data.toList.drop (sp s sep s.size).2) = [s.data.toList.drop (sp s sep s.size).2] := by
    apply cutL_none
    intro c hc
    obtain ⟨i, hi, rfl⟩ := List.getElem_of_mem hc
    have hi2 : (sp s sep s.size).2 + i < s.size := by simp at hi; omega
    have := h2 ((sp s sep s.size).2 + i) hi2 (by omega) hi2
    rw [getElem_data] at this
    simpa using this
  rw [h1, h3, List.map_append, List.map_map]
  unfold pieces
  have e2 : (ofL ∘ fun p : ByteArray => p.data.toList) = id := by
    funext p
    simp [ofL]
  rw [e2, List.map_id]
  congr 1
  simp only [List.map_cons, List.map_nil]
  rw [← e, ← eq_ofL rfl]
theorem pieces_ofL (l : List UInt8) (sep : Nat) : pieces (ofL l) sep = (cutL sep l).map ofL := by rw [pieces_cut, ofL_data]
end Go.Proofs.YtedmkdjijhflnaaGreat
