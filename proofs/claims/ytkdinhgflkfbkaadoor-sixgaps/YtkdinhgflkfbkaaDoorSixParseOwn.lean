/- The contract of six.Parse. -/
import Derived.Test.YtkdinhgflkfbkaaDoorSixPlaces
namespace Go.Proofs.YtkdinhgflkfbkaaDoor
open Go.RowKit
set_option linter.unusedVariables false

theorem placesL_facts (l : List UInt8) (p : List ByteArray) (h : placesL l = some p) : p.length = 8 ∧ ∀ q ∈ p, q.size ≤ l.length + 1 := by
  have hcb := cut_bounds (ofL l)
  rw [ofL_data, ofL_size] at hcb
  unfold placesL at h
  generalize Lib.cut l [58, 58] = C at *
  obtain ⟨a, b, f⟩ := C
  simp only at h hcb
  have hA := sideL_small (ofL a)
  have hB := sideL_small (ofL b)
  rw [ofL_data, ofL_size] at hA hB
  split at h
  · cases h
  · rename_i hn
    have e := Option.some.inj h
    subst e
    refine ⟨by simp; omega, fun q hq => ?_⟩
    rcases List.mem_append.1 hq with hq | hq
    · rcases List.mem_append.1 hq with hq | hq
      · have := hA q hq; omega
      · rw [List.eq_of_mem_replicate hq]
        show 1 ≤ _
        omega
    · have := hB q hq; omega
theorem ArrS.of (w : World) (p : List ByteArray) (y0 y1 y2 y3 y4 y5 y6 y7 : ByteArray) (h : p = [y0, y1, y2, y3, y4, y5, y6, y7]) : ArrS (w.alloc (.cells #[.string y0, .string y1, .string y2, .string y3, .string y4, .string y5, .string y6, .string y7] 44)) w.heap.size p := by
  subst h
  refine ⟨rfl, ?_⟩
  show (w.heap.push _)[w.heap.size]? = _
  rw [Array.getElem?_push_size]
  rfl
def readP (R : Option (List ByteArray)) : Option (List Nat) :=
  match R with
  | none => none
  | some p => grTo p false 8
theorem groupRet_some {o : Option Nat} {v : Nat} (h : o = some v) : groupRet o = .tuple #[.int .u16 (v : Int), .bool true] := by rw [h]; rfl
theorem groupRet_none {o : Option Nat} (h : o = none) : groupRet o = .tuple #[.int .u16 0, .bool false] := by rw [h]; rfl

set_option maxRecDepth 100000 in
set_option maxHeartbeats 1500000 in
theorem sixParse_any (s : ByteArray) (w : World) (hs : s.size ≤ 100000) (ht : Tabs w) :
    Calls Tryd.prog 11 #[.string s] w fun e w' => e = .returned (parseRet (parseB s)) ∧ Below w.heap.size w w' := by
  have HP : Hid (parseB s = ownL s.data.toList) := Lib.hid (by rw [own_parse, ← eq_ofL rfl])
  obtain ⟨T, hT⟩ : ∃ T, ofL (spreadL s.data.toList) = T := ⟨_, rfl⟩
  have hTd : T.data.toList = spreadL s.data.toList := by rw [← hT, ofL_data]
  have hTs : T.size ≤ 100009 := by
    have h1 := spreadL_size s.data.toList
    have h2 : s.data.toList.length = s.size := by simp
    rw [← hT, ofL_size]
    omega
  obtain ⟨R, hR⟩ : ∃ R, placesL T.data.toList = R := ⟨_, rfl⟩
  have HPl : Hid (parseB s = readP R) := Lib.hid (by
    rw [HP.out]
    unfold ownL
    rw [← hTd, hR]
    cases R <;> rfl)
  have HPf : Hid (∀ p, R = some p → p.length = 8 ∧ ∀ q ∈ p, q.size ≤ 100010) := Lib.hid (fun p hp => by
    have h1 := placesL_facts T.data.toList p (hR.trans hp)
    have h2 : T.data.toList.length = T.size := by simp
    exact ⟨h1.1, fun q hq => by have := h1.2 q hq; omega⟩)
  have HS := Lib.hid (fun w ht => spread_any s w (by omega) ht)
  have HI := Lib.hid (fun w ht => inPlaces_any T w (by omega) ht)
  rw [hT] at HS
  rw [hR] at HI
  clear hT hTd hR HP
  have hz0 := Arr8.zero w 24
  have b0 : Below w.heap.size w (w.alloc (.cells #[.int .u16 0, .int .u16 0, .int .u16 0, .int .u16 0, .int .u16 0, .int .u16 0, .int .u16 0, .int .u16 0] 24)) := (Below.refl _ _).alloc (Nat.le_refl _) _
  have ht0 := ht.below b0
  clear ht
  go_enter Tryd.func11, Tryd.ntmps11
  go_wp2_with fail
  generalize w.alloc (.cells #[.int .u16 0, .int .u16 0, .int .u16 0, .int .u16 0, .int .u16 0, .int .u16 0, .int .u16 0, .int .u16 0] 24) = W at *
  have HZ := Lib.hid hz0
  have HT := Lib.hid ht0
  clear hz0 ht0
  refine (HS.out _ HT.out).mono ?_
  rintro e w1 ⟨rfl, hb1⟩
  go_wp2_with fail
  refine (HI.out _ (HT.out.below hb1)).mono ?_
  rintro e w2 ⟨rfl, hb2⟩
  have b2 := chain b0 (chain hb1 hb2)
  have HZ2 := Lib.hid ((HZ.out.below hb1).below hb2)
  have HT2 := Lib.hid ((HT.out.below hb1).below hb2)
  clear HZ
  cases R with
  | none =>
    have HD : Hid (parseB s = none) := Lib.hid (by rw [HPl.out]; rfl)
    rw [show placesRet none = .tuple #[.agg #[.string { data := #[] }, .string { data := #[] }, .string { data := #[] }, .string { data := #[] }, .string { data := #[] }, .string { data := #[] }, .string { data := #[] }, .string { data := #[] }], .bool false] from rfl]
    have bz : ∀ o, Below w2.heap.size w2 (w2.alloc o) := fun o => (Below.refl w2.heap.size w2).alloc (Nat.le_refl _) o
    obtain ⟨r0, r1, r2, r3, r4, r5, r6, r7⟩ := HZ2.out.all
    obtain ⟨f0, f1, f2, f3, f4, f5, f6, f7⟩ := HZ2.out.lives
    have q0 := fun o => (HZ2.out.below (bz o)).all
    have q1 := fun o => (HZ2.out.below (bz o)).lives
    have E1 := Lib.hid (store8_arr 0 0 0 0 0 0 0 0 (HZ2.out.below (bz (.cells #[.string { data := #[] }, .string { data := #[] }, .string { data := #[] }, .string { data := #[] }, .string { data := #[] }, .string { data := #[] }, .string { data := #[] }, .string { data := #[] }] 44))))
    have E2 := Lib.hid (store8_below 0 0 0 0 0 0 0 0 (chain b2 (bz (.cells #[.string { data := #[] }, .string { data := #[] }, .string { data := #[] }, .string { data := #[] }, .string { data := #[] }, .string { data := #[] }, .string { data := #[] }, .string { data := #[] }] 44))) (Nat.le_refl w.heap.size))
    go_wp2_with fail
    change bodyPost _ _ _ _ _ (store8 (w2.alloc (.cells #[.string { data := #[] }, .string { data := #[] }, .string { data := #[] }, .string { data := #[] }, .string { data := #[] }, .string { data := #[] }, .string { data := #[] }, .string { data := #[] }] 44)) w.heap.size 0 0 0 0 0 0 0 0)
    generalize store8 (w2.alloc (.cells #[.string { data := #[] }, .string { data := #[] }, .string { data := #[] }, .string { data := #[] }, .string { data := #[] }, .string { data := #[] }, .string { data := #[] }, .string { data := #[] }] 44)) w.heap.size 0 0 0 0 0 0 0 0 = W at *
    clear r0 r1 r2 r3 r4 r5 r6 r7 f0 f1 f2 f3 f4 f5 f6 f7
    obtain ⟨r0, r1, r2, r3, r4, r5, r6, r7⟩ := E1.out.all
    refine bodyPost_ret (v := parseRet none) (by simp [results, Tryd.results11, go_sem, r0, r1, r2, r3, r4, r5, r6, r7, parseRet, arr8]) rfl ⟨by rw [HD.out], E2.out⟩
  | some p =>
    obtain ⟨hp8, hps⟩ := HPf.out p rfl
    have HPs := Lib.hid hps
    have HD0 : Hid (parseB s = grTo p false 8) := Lib.hid HPl.out
    have hH8 := Lib.hid hp8
    obtain ⟨y0, y1, y2, y3, y4, y5, y6, y7, hy⟩ := list8 p hp8
    rw [show placesRet (some p) = .tuple #[.agg #[.string y0, .string y1, .string y2, .string y3, .string y4, .string y5, .string y6, .string y7], .bool true] by rw [hy]; rfl]
    have hAS := ArrS.of w2 p y0 y1 y2 y3 y4 y5 y6 y7 hy
    have bz : Below w2.heap.size w2 (w2.alloc (.cells #[.string y0, .string y1, .string y2, .string y3, .string y4, .string y5, .string y6, .string y7] 44)) := (Below.refl w2.heap.size w2).alloc (Nat.le_refl _) _
    have HZ3 := Lib.hid (HZ2.out.below bz)
    have hlt2 := HZ2.out.lt
    have b3 := chain b2 bz
    have hsz : (w2.alloc (.cells #[.string y0, .string y1, .string y2, .string y3, .string y4, .string y5, .string y6, .string y7] 44)).heap.size = w2.heap.size + 1 := by simp
    have hG := Arr8.zero (w2.alloc (.cells #[.string y0, .string y1, .string y2, .string y3, .string y4, .string y5, .string y6, .string y7] 44)) 24
    have bG : Below (w2.heap.size + 1) (w2.alloc (.cells #[.string y0, .string y1, .string y2, .string y3, .string y4, .string y5, .string y6, .string y7] 44)) ((w2.alloc (.cells #[.string y0, .string y1, .string y2, .string y3, .string y4, .string y5, .string y6, .string y7] 44)).alloc (.cells #[.int .u16 0, .int .u16 0, .int .u16 0, .int .u16 0, .int .u16 0, .int .u16 0, .int .u16 0, .int .u16 0] 24)) := by
      rw [← hsz]
      exact (Below.refl _ _).alloc (Nat.le_refl _) _
    rw [hsz] at hG
    go_wp2_with fail
    generalize (w2.alloc (.cells #[.string y0, .string y1, .string y2, .string y3, .string y4, .string y5, .string y6, .string y7] 44)).alloc (.cells #[.int .u16 0, .int .u16 0, .int .u16 0, .int .u16 0, .int .u16 0, .int .u16 0, .int .u16 0, .int .u16 0] 24) = W4 at *
    generalize w2.alloc (.cells #[.string y0, .string y1, .string y2, .string y3, .string y4, .string y5, .string y6, .string y7] 44) = W3 at *
    have HAS := Lib.hid hAS
    have HG := Lib.hid hG
    clear hAS hG hps hp8 hy HPf
    go_loopw [19] (fun i wr => ∃ (k : Nat) (out gs : List Nat), k ≤ 8 ∧ i = .int .i64 k ∧ out.length = k ∧ Hid (grTo p false k = some out) ∧ Hid (Arr8 wr (w2.heap.size + 1) gs) ∧ Hid (gs = out ++ List.replicate (8 - k) 0) ∧ Below (w2.heap.size + 1) W3 wr) (fun i _ => 8 - (intOf i).toNat)
    case atStart => exact ⟨0, [], [0, 0, 0, 0, 0, 0, 0, 0], by decide, rfl, rfl, Lib.hid rfl, HG, Lib.hid rfl, bG⟩
    case round =>
      obtain ⟨k, out, gs, hk, rfl, hout, HK, HA, HGs, hbel⟩ := hrel
      have hbel3 : Below W3.heap.size W3 wr := by rw [hsz]; exact hbel
      by_cases hk8 : k < 8
      · have hcell := (HAS.out.below hbel3).cell k hk8
        have hqs : (p.getD k ⟨#[]⟩).size ≤ 1000000 := Nat.le_trans (getD_small HPs.out k) (by decide)
        obtain ⟨t, ht⟩ : ∃ t, p.getD k ⟨#[]⟩ = t := ⟨_, rfl⟩
        rw [ht] at hcell hqs
        have Ht := Lib.hid ht
        clear ht
        go_wp2_with fail
        refine (sixGroup_any t _ hqs).mono ?_
        rintro e w5 ⟨rfl, hb5⟩
        have b5 : Below (w2.heap.size + 1) W3 w5 := hbel.trans (hb5.mono (by have := hbel.size; rw [hsz] at this; exact this))
        cases hx : hexG t with
        | none =>
          have HD : Hid (parseB s = none) := Lib.hid (by
            rw [HD0.out]
            apply grTo_dead (k := k + 1) (by omega)
            rw [grTo_false, HK.out]
            simp only []
            rw [Ht.out, hx])
          rw [groupRet_none rfl]
          have b53 : Below W3.heap.size W3 w5 := by rw [hsz]; exact b5
          obtain ⟨r0, r1, r2, r3, r4, r5, r6, r7⟩ := (HZ3.out.below b53).all
          obtain ⟨f0, f1, f2, f3, f4, f5, f6, f7⟩ := (HZ3.out.below b53).lives
          have E1 := Lib.hid (store8_arr 0 0 0 0 0 0 0 0 (HZ3.out.below b53))
          have E2 := Lib.hid (store8_below 0 0 0 0 0 0 0 0 (chain b3 b53) (Nat.le_refl w.heap.size))
          clear hcell
          go_wp2_with fail
          change bodyPost _ _ _ _ _ (store8 w5 w.heap.size 0 0 0 0 0 0 0 0)
          generalize store8 w5 w.heap.size 0 0 0 0 0 0 0 0 = W at *
          clear r0 r1 r2 r3 r4 r5 r6 r7 f0 f1 f2 f3 f4 f5 f6 f7
          obtain ⟨r0, r1, r2, r3, r4, r5, r6, r7⟩ := E1.out.all
          refine bodyPost_ret (v := parseRet none) (by simp [results, Tryd.results11, go_sem, r0, r1, r2, r3, r4, r5, r6, r7, parseRet, arr8]) rfl ⟨by rw [HD.out], E2.out⟩
        | some v =>
          have hv := hexG_lt _ _ hx
          have HK2 : Hid (grTo p false (k + 1) = some (out ++ [v])) := Lib.hid (by
            rw [grTo_false, HK.out]
            simp only []
            rw [Ht.out, hx])
          rw [groupRet_some rfl]
          clear hx
          have HA5 := Lib.hid (HA.out.below hb5)
          have hgc := HA5.out.cells k hk8
          have hgl := HA5.out.live k hk8
          have HS5 := Lib.hid (HA5.out.set hk8 v)
          clear hcell
          go_wp2_with fail
          go_roundw
          case rel => exact ⟨k + 1, out ++ [v], gs.set k v, by omega, by go_num, by simp [hout], HK2, HS5, Lib.hid (by
            rw [HGs.out, List.set_append_right _ _ (by omega), hout, Nat.sub_self, show 8 - k = (8 - (k + 1)) + 1 by omega, List.replicate_succ, List.set_cons_zero]
            simp), b5.setCell (p := ⟨w2.heap.size + 1, k, none⟩) (Nat.le_refl _) _⟩
          case measure => simp [intOf]; omega
      · obtain rfl : k = 8 := by omega
        have hgo : gs = out := by rw [HGs.out]; simp
        subst hgo
        have HD : Hid (parseB s = some gs) := Lib.hid (by rw [HD0.out, HK.out])
        have hA := HA.out
        obtain ⟨x0, x1, x2, x3, x4, x5, x6, x7, hg8⟩ := list8 gs hout
        rw [hg8] at hA HD
        obtain ⟨c0, c1, c2, c3, c4, c5, c6, c7⟩ := hA.all
        obtain ⟨r0, r1, r2, r3, r4, r5, r6, r7⟩ := (HZ3.out.below hbel3).all
        obtain ⟨f0, f1, f2, f3, f4, f5, f6, f7⟩ := (HZ3.out.below hbel3).lives
        have E1 := Lib.hid (store8_arr x0 x1 x2 x3 x4 x5 x6 x7 (HZ3.out.below hbel3))
        have E2 := Lib.hid (store8_below x0 x1 x2 x3 x4 x5 x6 x7 (chain b3 hbel3) (Nat.le_refl w.heap.size))
        clear hA hg8
        go_wp2_with fail
        change bodyPost _ _ _ _ _ (store8 wr w.heap.size x0 x1 x2 x3 x4 x5 x6 x7)
        generalize store8 wr w.heap.size x0 x1 x2 x3 x4 x5 x6 x7 = W at *
        clear r0 r1 r2 r3 r4 r5 r6 r7 f0 f1 f2 f3 f4 f5 f6 f7 c0 c1 c2 c3 c4 c5 c6 c7
        obtain ⟨r0, r1, r2, r3, r4, r5, r6, r7⟩ := E1.out.all
        refine bodyPost_ret (v := parseRet (some [x0, x1, x2, x3, x4, x5, x6, x7])) (by simp [results, Tryd.results11, go_sem, r0, r1, r2, r3, r4, r5, r6, r7, parseRet, arr8]) rfl ⟨by rw [HD.out], E2.out⟩
end Go.Proofs.YtkdinhgflkfbkaaDoor
