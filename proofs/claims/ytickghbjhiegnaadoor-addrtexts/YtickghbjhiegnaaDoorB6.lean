/- Texts that belong together, one behind the other: SixParseOwn, AddrTextsOwn, RefAddrCompare, AddrCompare, RefAddrGood, AddrMath, AddrLives, DoorKit, DoorTabs, AddrBitsOwn, RefAddrBit, AddrBit. -/
import Derived.Test.YtickghbjhiegnaaDoorB5
import Derived.Deep.Cut
import Derived.Lib.BytesEntry
import Derived.Lib.Bytealg
import Derived.Deep.QuietTactic
import Derived.BigQuiet
import Derived.Test.YtickghbjhiegnaaDoorRows
import Derived.Test.YtickghbjhiegnaaDoorTie
import Derived.Test.YtickghbjhiegnaaDoorCards
import Derived.ProofKit
import Derived.LaidMore
import Derived.OpenShut
import Derived.Below
import Derived.Stop.Joined
import Derived.SevenTiedAt
import Derived.Lib.LaidTab
import Derived.WalkSmall
import Derived.Lib.ItoaNum
import Derived.Shelf.Vars
import Derived.SizedLaws
/- The contract of six.Parse. -/
namespace Go.Proofs.YtickghbjhiegnaaDoor
open Go.RowKit
set_option linter.unusedVariables false
set_option maxRecDepth 20000

theorem placesL_facts (l : List UInt8) (p : List ByteArray) (h : placesL l = some p) : p.length = 8 ∧ ∀ q ∈ p, q.size ≤ l.length + 1 := by
  have hcb := cut_bounds (ofL l)
  rw [ofL_data, ofL_size] at hcb
  unfold placesL at h
  generalize Lib.cut l [58, 58] = C at *
  obtain ⟨a, b, f⟩ := C
  simp only at h hcb
  have hA := sideL_small (ofL a)
  have hB := sideL_small (ofL b)
  rw [ofL_data, ofL_size] at hA hB
  split at h
  · cases h
  · rename_i hn
    have e := Option.some.inj h
    subst e
    refine ⟨by simp; omega, fun q hq => ?_⟩
    rcases List.mem_append.1 hq with hq | hq
    · rcases List.mem_append.1 hq with hq | hq
      · have := hA q hq; omega
      · rw [List.eq_of_mem_replicate hq]
        show 1 ≤ _
        omega
    · have := hB q hq; omega
theorem ArrS.of (w : World) (p : List ByteArray) (y0 y1 y2 y3 y4 y5 y6 y7 : ByteArray) (h : p = [y0, y1, y2, y3, y4, y5, y6, y7]) : ArrS (w.alloc (.cells #[.string y0, .string y1, .string y2, .string y3, .string y4, .string y5, .string y6, .string y7] 67)) w.heap.size p := by
  subst h
  refine ⟨rfl, ?_⟩
  show (w.heap.push _)[w.heap.size]? = _
  rw [Array.getElem?_push_size]
  rfl
def readP (R : Option (List ByteArray)) : Option (List Nat) :=
  match R with
  | none => none
  | some p => grTo p false 8
theorem groupRet_some {o : Option Nat} {v : Nat} (h : o = some v) : groupRet o = .tuple #[.int .u16 (v : Int), .bool true] := by rw [h]; rfl
theorem groupRet_none {o : Option Nat} (h : o = none) : groupRet o = .tuple #[.int .u16 0, .bool false] := by rw [h]; rfl

set_option maxRecDepth 100000 in
set_option maxHeartbeats 1500000 in
theorem sixParse_any (s : ByteArray) (w : World) (hs : s.size ≤ 100000) (ht : Tabs w) :
    Calls Tryd.prog 35 #[.string s] w fun e w' => e = .returned (parseRet (parseB s)) ∧ Below w.heap.size w w' := by
  have HP : Hid (parseB s = ownL s.data.toList) := Lib.hid (by rw [own_parse, ← eq_ofL rfl])
  obtain ⟨T, hT⟩ : ∃ T, ofL (spreadL s.data.toList) = T := ⟨_, rfl⟩
  have hTd : T.data.toList = spreadL s.data.toList := by rw [← hT, ofL_data]
  have hTs : T.size ≤ 100009 := by
    have h1 := spreadL_size s.data.toList
    have h2 : s.data.toList.length = s.size := by simp
    rw [← hT, ofL_size]
    omega
  obtain ⟨R, hR⟩ : ∃ R, placesL T.data.toList = R := ⟨_, rfl⟩
  have HPl : Hid (parseB s = readP R) := Lib.hid (by
    rw [HP.out]
    unfold ownL
    rw [← hTd, hR]
    cases R <;> rfl)
  have HPf : Hid (∀ p, R = some p → p.length = 8 ∧ ∀ q ∈ p, q.size ≤ 100010) := Lib.hid (fun p hp => by
    have h1 := placesL_facts T.data.toList p (hR.trans hp)
    have h2 : T.data.toList.length = T.size := by simp
    exact ⟨h1.1, fun q hq => by have := h1.2 q hq; omega⟩)
  have HS := Lib.hid (fun w ht => spread_any s w (by omega) ht)
  have HI := Lib.hid (fun w ht => inPlaces_any T w (by omega) ht)
  rw [hT] at HS
  rw [hR] at HI
  clear hT hTd hR HP
  have hz0 := Arr8.zero w 33
  have b0 : Below w.heap.size w (w.alloc (.cells #[.int .u16 0, .int .u16 0, .int .u16 0, .int .u16 0, .int .u16 0, .int .u16 0, .int .u16 0, .int .u16 0] 33)) := (Below.refl _ _).alloc (Nat.le_refl _) _
  have ht0 := ht.below b0
  clear ht
  go_enter Tryd.func35, Tryd.ntmps35
  go_wp2_with fail
  generalize w.alloc (.cells #[.int .u16 0, .int .u16 0, .int .u16 0, .int .u16 0, .int .u16 0, .int .u16 0, .int .u16 0, .int .u16 0] 33) = W at *
  have HZ := Lib.hid hz0
  have HT := Lib.hid ht0
  clear hz0 ht0
  refine (HS.out _ HT.out).mono ?_
  rintro e w1 ⟨rfl, hb1⟩
  go_wp2_with fail
  refine (HI.out _ (HT.out.below hb1)).mono ?_
  rintro e w2 ⟨rfl, hb2⟩
  have b2 := chain b0 (chain hb1 hb2)
  have HZ2 := Lib.hid ((HZ.out.below hb1).below hb2)
  have HT2 := Lib.hid ((HT.out.below hb1).below hb2)
  clear HZ
  cases R with
  | none =>
    have HD : Hid (parseB s = none) := Lib.hid (by rw [HPl.out]; rfl)
    rw [show placesRet none = .tuple #[.agg #[.string { data := #[] }, .string { data := #[] }, .string { data := #[] }, .string { data := #[] }, .string { data := #[] }, .string { data := #[] }, .string { data := #[] }, .string { data := #[] }], .bool false] from rfl]
    have bz : ∀ o, Below w2.heap.size w2 (w2.alloc o) := fun o => (Below.refl w2.heap.size w2).alloc (Nat.le_refl _) o
    obtain ⟨r0, r1, r2, r3, r4, r5, r6, r7⟩ := HZ2.out.all
    obtain ⟨f0, f1, f2, f3, f4, f5, f6, f7⟩ := HZ2.out.lives
    have q0 := fun o => (HZ2.out.below (bz o)).all
    have q1 := fun o => (HZ2.out.below (bz o)).lives
    have E1 := Lib.hid (store8_arr 0 0 0 0 0 0 0 0 (HZ2.out.below (bz (.cells #[.string { data := #[] }, .string { data := #[] }, .string { data := #[] }, .string { data := #[] }, .string { data := #[] }, .string { data := #[] }, .string { data := #[] }, .string { data := #[] }] 67))))
    have E2 := Lib.hid (store8_below 0 0 0 0 0 0 0 0 (chain b2 (bz (.cells #[.string { data := #[] }, .string { data := #[] }, .string { data := #[] }, .string { data := #[] }, .string { data := #[] }, .string { data := #[] }, .string { data := #[] }, .string { data := #[] }] 67))) (Nat.le_refl w.heap.size))
    go_wp2_with fail
    change bodyPost _ _ _ _ _ (store8 (w2.alloc (.cells #[.string { data := #[] }, .string { data := #[] }, .string { data := #[] }, .string { data := #[] }, .string { data := #[] }, .string { data := #[] }, .string { data := #[] }, .string { data := #[] }] 67)) w.heap.size 0 0 0 0 0 0 0 0)
    generalize store8 (w2.alloc (.cells #[.string { data := #[] }, .string { data := #[] }, .string { data := #[] }, .string { data := #[] }, .string { data := #[] }, .string { data := #[] }, .string { data := #[] }, .string { data := #[] }] 67)) w.heap.size 0 0 0 0 0 0 0 0 = W at *
    clear r0 r1 r2 r3 r4 r5 r6 r7 f0 f1 f2 f3 f4 f5 f6 f7
    obtain ⟨r0, r1, r2, r3, r4, r5, r6, r7⟩ := E1.out.all
    refine bodyPost_ret (v := parseRet none) (by simp [results, Tryd.results35, go_sem, r0, r1, r2, r3, r4, r5, r6, r7, parseRet, arr8]) rfl ⟨by rw [HD.out], E2.out⟩
  | some p =>
    obtain ⟨hp8, hps⟩ := HPf.out p rfl
    have HPs := Lib.hid hps
    have HD0 : Hid (parseB s = grTo p false 8) := Lib.hid HPl.out
    have hH8 := Lib.hid hp8
    obtain ⟨y0, y1, y2, y3, y4, y5, y6, y7, hy⟩ := list8 p hp8
    rw [show placesRet (some p) = .tuple #[.agg #[.string y0, .string y1, .string y2, .string y3, .string y4, .string y5, .string y6, .string y7], .bool true] by rw [hy]; rfl]
    have hAS := ArrS.of w2 p y0 y1 y2 y3 y4 y5 y6 y7 hy
    have bz : Below w2.heap.size w2 (w2.alloc (.cells #[.string y0, .string y1, .string y2, .string y3, .string y4, .string y5, .string y6, .string y7] 67)) := (Below.refl w2.heap.size w2).alloc (Nat.le_refl _) _
    have HZ3 := Lib.hid (HZ2.out.below bz)
    have hlt2 := HZ2.out.lt
    have b3 := chain b2 bz
    have hsz : (w2.alloc (.cells #[.string y0, .string y1, .string y2, .string y3, .string y4, .string y5, .string y6, .string y7] 67)).heap.size = w2.heap.size + 1 := by simp
    have hG := Arr8.zero (w2.alloc (.cells #[.string y0, .string y1, .string y2, .string y3, .string y4, .string y5, .string y6, .string y7] 67)) 33
    have bG : Below (w2.heap.size + 1) (w2.alloc (.cells #[.string y0, .string y1, .string y2, .string y3, .string y4, .string y5, .string y6, .string y7] 67)) ((w2.alloc (.cells #[.string y0, .string y1, .string y2, .string y3, .string y4, .string y5, .string y6, .string y7] 67)).alloc (.cells #[.int .u16 0, .int .u16 0, .int .u16 0, .int .u16 0, .int .u16 0, .int .u16 0, .int .u16 0, .int .u16 0] 33)) := by
      rw [← hsz]
      exact (Below.refl _ _).alloc (Nat.le_refl _) _
    rw [hsz] at hG
    go_wp2_with fail
    generalize (w2.alloc (.cells #[.string y0, .string y1, .string y2, .string y3, .string y4, .string y5, .string y6, .string y7] 67)).alloc (.cells #[.int .u16 0, .int .u16 0, .int .u16 0, .int .u16 0, .int .u16 0, .int .u16 0, .int .u16 0, .int .u16 0] 33) = W4 at *
    generalize w2.alloc (.cells #[.string y0, .string y1, .string y2, .string y3, .string y4, .string y5, .string y6, .string y7] 67) = W3 at *
    have HAS := Lib.hid hAS
    have HG := Lib.hid hG
    clear hAS hG hps hp8 hy HPf
    go_loopw [19] (fun i wr => ∃ (k : Nat) (out gs : List Nat), k ≤ 8 ∧ i = .int .i64 k ∧ out.length = k ∧ Hid (grTo p false k = some out) ∧ Hid (Arr8 wr (w2.heap.size + 1) gs) ∧ Hid (gs = out ++ List.replicate (8 - k) 0) ∧ Below (w2.heap.size + 1) W3 wr) (fun i _ => 8 - (intOf i).toNat)
    case atStart => exact ⟨0, [], [0, 0, 0, 0, 0, 0, 0, 0], by decide, rfl, rfl, Lib.hid rfl, HG, Lib.hid rfl, bG⟩
    case round =>
      obtain ⟨k, out, gs, hk, rfl, hout, HK, HA, HGs, hbel⟩ := hrel
      have hbel3 : Below W3.heap.size W3 wr := by rw [hsz]; exact hbel
      by_cases hk8 : k < 8
      · have hcell := (HAS.out.below hbel3).cell k hk8
        have hqs : (p.getD k ⟨#[]⟩).size ≤ 1000000 := Nat.le_trans (getD_small HPs.out k) (by decide)
        obtain ⟨t, ht⟩ : ∃ t, p.getD k ⟨#[]⟩ = t := ⟨_, rfl⟩
        rw [ht] at hcell hqs
        have Ht := Lib.hid ht
        clear ht
        go_wp2_with fail
        refine (sixGroup_any t _ hqs).mono ?_
        rintro e w5 ⟨rfl, hb5⟩
        have b5 : Below (w2.heap.size + 1) W3 w5 := hbel.trans (hb5.mono (by have := hbel.size; rw [hsz] at this; exact this))
        cases hx : hexG t with
        | none =>
          have HD : Hid (parseB s = none) := Lib.hid (by
            rw [HD0.out]
            apply grTo_dead (k := k + 1) (by omega)
            rw [grTo_false, HK.out]
            simp only []
            rw [Ht.out, hx])
          rw [groupRet_none rfl]
          have b53 : Below W3.heap.size W3 w5 := by rw [hsz]; exact b5
          obtain ⟨r0, r1, r2, r3, r4, r5, r6, r7⟩ := (HZ3.out.below b53).all
          obtain ⟨f0, f1, f2, f3, f4, f5, f6, f7⟩ := (HZ3.out.below b53).lives
          have E1 := Lib.hid (store8_arr 0 0 0 0 0 0 0 0 (HZ3.out.below b53))
          have E2 := Lib.hid (store8_below 0 0 0 0 0 0 0 0 (chain b3 b53) (Nat.le_refl w.heap.size))
          clear hcell
          go_wp2_with fail
          change bodyPost _ _ _ _ _ (store8 w5 w.heap.size 0 0 0 0 0 0 0 0)
          generalize store8 w5 w.heap.size 0 0 0 0 0 0 0 0 = W at *
          clear r0 r1 r2 r3 r4 r5 r6 r7 f0 f1 f2 f3 f4 f5 f6 f7
          obtain ⟨r0, r1, r2, r3, r4, r5, r6, r7⟩ := E1.out.all
          refine bodyPost_ret (v := parseRet none) (by simp [results, Tryd.results35, go_sem, r0, r1, r2, r3, r4, r5, r6, r7, parseRet, arr8]) rfl ⟨by rw [HD.out], E2.out⟩
        | some v =>
          have hv := hexG_lt _ _ hx
          have HK2 : Hid (grTo p false (k + 1) = some (out ++ [v])) := Lib.hid (by
            rw [grTo_false, HK.out]
            simp only []
            rw [Ht.out, hx])
          rw [groupRet_some rfl]
          clear hx
          have HA5 := Lib.hid (HA.out.below hb5)
          have hgc := HA5.out.cells k hk8
          have hgl := HA5.out.live k hk8
          have HS5 := Lib.hid (HA5.out.set hk8 v)
          clear hcell
          go_wp2_with fail
          go_roundw
          case rel => exact ⟨k + 1, out ++ [v], gs.set k v, by omega, by go_num, by simp [hout], HK2, HS5, Lib.hid (by
            rw [HGs.out, List.set_append_right _ _ (by omega), hout, Nat.sub_self, show 8 - k = (8 - (k + 1)) + 1 by omega, List.replicate_succ, List.set_cons_zero]
            simp), b5.setCell (p := ⟨w2.heap.size + 1, k, none⟩) (Nat.le_refl _) _⟩
          case measure => simp [intOf]; omega
      · obtain rfl : k = 8 := by omega
        have hgo : gs = out := by rw [HGs.out]; simp
        subst hgo
        have HD : Hid (parseB s = some gs) := Lib.hid (by rw [HD0.out, HK.out])
        have hA := HA.out
        obtain ⟨x0, x1, x2, x3, x4, x5, x6, x7, hg8⟩ := list8 gs hout
        rw [hg8] at hA HD
        obtain ⟨c0, c1, c2, c3, c4, c5, c6, c7⟩ := hA.all
        obtain ⟨r0, r1, r2, r3, r4, r5, r6, r7⟩ := (HZ3.out.below hbel3).all
        obtain ⟨f0, f1, f2, f3, f4, f5, f6, f7⟩ := (HZ3.out.below hbel3).lives
        have E1 := Lib.hid (store8_arr x0 x1 x2 x3 x4 x5 x6 x7 (HZ3.out.below hbel3))
        have E2 := Lib.hid (store8_below x0 x1 x2 x3 x4 x5 x6 x7 (chain b3 hbel3) (Nat.le_refl w.heap.size))
        clear hA hg8
        go_wp2_with fail
        change bodyPost _ _ _ _ _ (store8 wr w.heap.size x0 x1 x2 x3 x4 x5 x6 x7)
        generalize store8 wr w.heap.size x0 x1 x2 x3 x4 x5 x6 x7 = W at *
        clear r0 r1 r2 r3 r4 r5 r6 r7 f0 f1 f2 f3 f4 f5 f6 f7 c0 c1 c2 c3 c4 c5 c6 c7
        obtain ⟨r0, r1, r2, r3, r4, r5, r6, r7⟩ := E1.out.all
        refine bodyPost_ret (v := parseRet (some [x0, x1, x2, x3, x4, x5, x6, x7])) (by simp [results, Tryd.results35, go_sem, r0, r1, r2, r3, r4, r5, r6, r7, parseRet, arr8]) rfl ⟨by rw [HD.out], E2.out⟩
end Go.Proofs.YtickghbjhiegnaaDoor
/- Contracts of addr.Print, addr.Parse. -/
namespace Go.Proofs.YtickghbjhiegnaaDoor
open Go.RowKit
set_option linter.unusedVariables false
set_option maxRecDepth 20000

theorem Tabs.pows {w : World} (h : Tabs w) : ∀ w', Below w.heap.size w w' → Lib.TabIs Tryd.prog w' "internal/strconv.uint64pow10" .u64 Lib.pow10Tab := fun _ hb => (h.below hb).pow
set_option maxRecDepth 100000 in
set_option maxHeartbeats 1000000 in
theorem addrPrint_any (f : Int) (bs : List Nat) (w : World) (h16 : bs.length = 16) (hlt : ∀ x ∈ bs, x < 256) (ht : Tabs w) :
    Calls Tryd.prog 15 #[addrV f bs] w fun e w' => e = .returned (.string (printA f bs)) ∧ Below w.heap.size w w' := by
  obtain ⟨cs, ecs, HA, HB⟩ := addr_boxed f bs w h16
  have HT := Lib.hid (ht.below HB.out)
  have HLT := Lib.hid hlt
  have H16 := Lib.hid h16
  rw [ecs]
  clear ecs h16 hlt ht
  go_enter Tryd.func15, Tryd.ntmps15
  go_upto_region 1 with fail
  generalize (w.alloc (.cells cs 25)) = W at *
  have hfam := HA.out.fam
  by_cases h4 : f = 4
  · subst h4
    have HE : Hid (printA 4 bs = text4 (bs.getD 0 0) (bs.getD 1 0) (bs.getD 2 0) (bs.getD 3 0)) := Lib.hid rfl
    go_wp2_with (refine load_addr_g HA _ rfl rfl rfl ?_)
    refine (addrFour_any 4 bs W H16.out HLT.out).mono ?_
    rintro e w1 ⟨rfl, hb1⟩
    have HP := Lib.hid (print_any (bs.getD 0 0) (bs.getD 1 0) (bs.getD 2 0) (bs.getD 3 0) (fourB bs) w1 (byte_lt HLT.out 0) (byte_lt HLT.out 1) (byte_lt HLT.out 2) (byte_lt HLT.out 3) (fourB_num bs) (HT.out.below hb1).pows)
    generalize fourB bs = n at *
    generalize text4 (bs.getD 0 0) (bs.getD 1 0) (bs.getD 2 0) (bs.getD 3 0) = T at *
    have HB1 := Lib.hid (chain HB.out hb1)
    clear hb1
    go_wp2_with fail
    refine HP.out.mono ?_
    rintro e w2 ⟨rfl, hb2⟩
    go_wp2_with fail
    go_ret
    exact ⟨by rw [HE.out]; rfl, chain HB1.out hb2⟩
  · have g4 : (f == 4) = false := by simp [h4]
    by_cases h6 : f = 6
    · subst h6
      have HE : Hid (printA 6 bs = printB (grL bs 8)) := Lib.hid rfl
      have HV := Lib.hid HA.out.b16
      go_wp2_with (refine load_b16 HV _ rfl rfl rfl ?_)
      refine (sixOf_any bs W H16.out HLT.out).mono ?_
      rintro e w1 ⟨rfl, hb1⟩
      have HP := Lib.hid (sixPrint_any (grL bs 8) w1 (grL_len bs 8) (grL_lt bs HLT.out 8) (HT.out.below hb1))
      generalize printB (grL bs 8) = T at *
      have HB1 := Lib.hid (chain HB.out hb1)
      clear hb1
      go_wp2_with fail
      refine HP.out.mono ?_
      rintro e w2 ⟨rfl, hb2⟩
      go_wp2_with fail
      go_ret
      exact ⟨by rw [HE.out]; rfl, chain HB1.out hb2⟩
    · have g6 : (f == 6) = false := by simp [h6]
      have HE : Hid (printA f bs = ⟨#[]⟩) := Lib.hid (by unfold printA; rw [if_neg h4, if_neg h6])
      go_wp2_with fail
      go_ret
      exact ⟨by rw [HE.out]; rfl, HB.out⟩
set_option maxRecDepth 100000 in
set_option maxHeartbeats 1000000 in
theorem addrParse_any (s : ByteArray) (w : World) (hs : s.size ≤ 100000) (ht : Tabs w) :
    Calls Tryd.prog 10 #[.string s] w fun e w' => e = .returned (addrRet (parseA s)) ∧ Below w.heap.size w w' := by
  have H2 := fun W => Lib.hid (strict_any s W (by omega))
  have HT := Lib.hid ht
  have HR := Lib.hid (AddrAt.of w 25 #[.int .i64 0, .int .u8 0, .int .u8 0, .int .u8 0, .int .u8 0, .int .u8 0, .int .u8 0, .int .u8 0, .int .u8 0, .int .u8 0, .int .u8 0, .int .u8 0, .int .u8 0, .int .u8 0, .int .u8 0, .int .u8 0, .int .u8 0] 0 (List.replicate 16 0) rfl (zero_addr 0))
  have B0 : Hid (Below w.heap.size w (w.alloc (.cells #[.int .i64 0, .int .u8 0, .int .u8 0, .int .u8 0, .int .u8 0, .int .u8 0, .int .u8 0, .int .u8 0, .int .u8 0, .int .u8 0, .int .u8 0, .int .u8 0, .int .u8 0, .int .u8 0, .int .u8 0, .int .u8 0, .int .u8 0] 25))) := Lib.hid ((Below.refl _ _).alloc (Nat.le_refl _) _)
  go_enter Tryd.func10, Tryd.ntmps10
  go_wp2_with fail
  generalize (w.alloc (.cells #[.int .i64 0, .int .u8 0, .int .u8 0, .int .u8 0, .int .u8 0, .int .u8 0, .int .u8 0, .int .u8 0, .int .u8 0, .int .u8 0, .int .u8 0, .int .u8 0, .int .u8 0, .int .u8 0, .int .u8 0, .int .u8 0, .int .u8 0] 25)) = W at *
  refine (H2 W).out.mono ?_
  rintro e w1 ⟨rfl, hb1⟩
  have HR1 := Lib.hid (HR.out.below hb1)
  have B1 := Lib.hid (chain B0.out hb1)
  have H3 := Lib.hid (sixParse_any s w1 hs (HT.out.below B1.out))
  clear HR B0 hb1 H2
  cases hq : strictB s with
  | some n =>
    have hn := strictB_lt s n hq
    have HO := Lib.hid (addrOf4_any n w1 (by omega))
    have HE : Hid (parseA s = some (4, b4 n)) := Lib.hid (by simp [parseA, hq])
    clear H3 hq hn
    simp only [strictRet]
    go_wp2_with fail
    refine HO.out.mono ?_
    rintro e w2 ⟨rfl, hb2⟩
    have HR2 := Lib.hid (HR1.out.below hb2)
    have hbel := chain B1.out hb2
    have HLN := Lib.hid (b4_len n)
    clear HO HR1 B1 hb2
    go_wp2_with (refine store_addr HR2 _ _ HLN rfl rfl rfl rfl (fun W HW HA => ?_))
    refine bodyPost_ret (results_addr2 Tryd.results10 rfl HA.out) rfl ⟨by rw [HE.out]; rfl, by rw [HW.out]; exact below_cells (by omega) _ _ _ hbel⟩
  | none =>
    simp only [strictRet]
    go_wp2_with fail
    refine H3.out.mono ?_
    rintro e w2 ⟨rfl, hb2⟩
    have HR2 := Lib.hid (HR1.out.below hb2)
    have B2 := Lib.hid (chain B1.out hb2)
    clear H3 HR1 B1 hb2
    cases hp : parseB s with
    | some gs =>
      obtain ⟨hl, hlt⟩ := parseB_len s gs hp
      have HO := fun W => Lib.hid (addrOf6_any gs W hl hlt)
      have HE : Hid (parseA s = some (6, byL gs)) := Lib.hid (by simp [parseA, hq, hp])
      have HLN : Hid ((byL gs).length = 16) := Lib.hid (by rw [byL_len, hl])
      obtain ⟨x0, x1, x2, x3, x4, x5, x6, x7, hgs⟩ := list8 gs hl
      have ha : arr8 gs = .agg #[.int .u16 (x0 : Int), .int .u16 (x1 : Int), .int .u16 (x2 : Int), .int .u16 (x3 : Int), .int .u16 (x4 : Int), .int .u16 (x5 : Int), .int .u16 (x6 : Int), .int .u16 (x7 : Int)] := by rw [hgs]; rfl
      rw [ha] at HO
      simp only [parseRet, Option.getD_some, Option.isSome_some, ha]
      have ba : Below w2.heap.size w2 (w2.alloc (.cells #[.int .u16 (x0 : Int), .int .u16 (x1 : Int), .int .u16 (x2 : Int), .int .u16 (x3 : Int), .int .u16 (x4 : Int), .int .u16 (x5 : Int), .int .u16 (x6 : Int), .int .u16 (x7 : Int)] 33)) := (Below.refl _ _).alloc (Nat.le_refl _) _
      have HR2a := Lib.hid (HR2.out.below ba)
      have B2a := Lib.hid (chain B2.out ba)
      clear hq hp hl hlt hgs ha HR2 B2 ba
      go_wp2_with fail
      generalize (w2.alloc (.cells #[.int .u16 (x0 : Int), .int .u16 (x1 : Int), .int .u16 (x2 : Int), .int .u16 (x3 : Int), .int .u16 (x4 : Int), .int .u16 (x5 : Int), .int .u16 (x6 : Int), .int .u16 (x7 : Int)] 33)) = W2 at *
      refine (HO W2).out.mono ?_
      rintro e w3 ⟨rfl, hb3⟩
      have HR3 := Lib.hid (HR2a.out.below hb3)
      have hbel := chain B2a.out hb3
      clear HO HR2a B2a hb3
      go_wp2_with (refine store_addr HR3 _ _ HLN rfl rfl rfl rfl (fun W HW HA => ?_))
      refine bodyPost_ret (results_addr2 Tryd.results10 rfl HA.out) rfl ⟨by rw [HE.out]; rfl, by rw [HW.out]; exact below_cells (by omega) _ _ _ hbel⟩
    | none =>
      have HE : Hid (parseA s = none) := Lib.hid (by simp [parseA, hq, hp])
      have HLN : Hid ((List.replicate 16 0).length = 16) := Lib.hid rfl
      have hz : arr8 [0, 0, 0, 0, 0, 0, 0, 0] = .agg #[.int .u16 0, .int .u16 0, .int .u16 0, .int .u16 0, .int .u16 0, .int .u16 0, .int .u16 0, .int .u16 0] := rfl
      simp only [parseRet, Option.getD_none, Option.isSome_none, hz]
      have ba : Below w2.heap.size w2 (w2.alloc (.cells #[.int .u16 0, .int .u16 0, .int .u16 0, .int .u16 0, .int .u16 0, .int .u16 0, .int .u16 0, .int .u16 0] 33)) := (Below.refl _ _).alloc (Nat.le_refl _) _
      have HR2a := Lib.hid (HR2.out.below ba)
      have B2a := Lib.hid (chain B2.out ba)
      clear hq hp hz HR2 B2 ba
      go_wp2_with (refine store_addr HR2a _ _ (f := 0) (bs := List.replicate 16 0) HLN rfl rfl rfl rfl (fun W HW HA => ?_))
      refine bodyPost_ret (results_addr2 Tryd.results10 rfl HA.out) rfl ⟨by rw [HE.out]; rfl, by rw [HW.out]; exact below_cells (by omega) _ _ _ B2a.out⟩

end Go.Proofs.YtickghbjhiegnaaDoor
/- Contract of the reference's Compare of layer 4. -/
namespace Go.Proofs.YtickghbjhiegnaaDoor
open Go.RowKit
set_option linter.unusedVariables false
set_option maxRecDepth 20000

/-- Which of two rows of bytes comes first. -/
def cmpL : List Nat → List Nat → Int
  | x :: xs, y :: ys => if x < y then -1 else if y < x then 1 else cmpL xs ys
  | _, _ => 0
/-- The row of addresses. -/
def cmpA (f : Int) (xs : List Nat) (g : Int) (ys : List Nat) : Int := if f = g then cmpL xs ys else if f < g then -1 else 1
theorem cmpL_at (xs ys : List Nat) (k : Nat) (hx : xs.length = 16) (hy : ys.length = 16) (hk : k < 16) :
    cmpL (xs.drop k) (ys.drop k) = if xs.getD k 0 < ys.getD k 0 then -1 else if ys.getD k 0 < xs.getD k 0 then 1 else cmpL (xs.drop (k + 1)) (ys.drop (k + 1)) := by
  rw [List.drop_eq_getElem_cons (show k < xs.length by omega), List.drop_eq_getElem_cons (show k < ys.length by omega), cmpL, List.getD_eq_getElem?_getD, List.getD_eq_getElem?_getD, List.getElem?_eq_getElem (by omega), List.getElem?_eq_getElem (by omega)]
  rfl
theorem cmpL_end (xs ys : List Nat) (hx : xs.length = 16) : cmpL (xs.drop 16) (ys.drop 16) = 0 := by
  rw [List.drop_eq_nil_of_le (by omega)]
  rfl
set_option maxRecDepth 100000 in
set_option maxHeartbeats 2000000 in
theorem refCompare_any (f : Int) (xs : List Nat) (g : Int) (ys : List Nat) (w : World) (h16x : xs.length = 16) (h16 : ys.length = 16) :
    Calls Tryd.prog 33 #[addrV f xs, addrV g ys] w fun e w' => e = .returned (.int .i64 (cmpA f xs g ys)) ∧ Below w.heap.size w w' := by
  have HX := Lib.hid h16x
  have HY := Lib.hid h16
  obtain ⟨x0, x1, x2, x3, x4, x5, x6, x7, x8, x9, x10, x11, x12, x13, x14, x15, hxs⟩ := list16 xs h16x
  have ha : addrV f xs = .agg #[.int .i64 f, .int .u8 (x0 : Int), .int .u8 (x1 : Int), .int .u8 (x2 : Int), .int .u8 (x3 : Int), .int .u8 (x4 : Int), .int .u8 (x5 : Int), .int .u8 (x6 : Int), .int .u8 (x7 : Int), .int .u8 (x8 : Int), .int .u8 (x9 : Int), .int .u8 (x10 : Int), .int .u8 (x11 : Int), .int .u8 (x12 : Int), .int .u8 (x13 : Int), .int .u8 (x14 : Int), .int .u8 (x15 : Int)] := by rw [hxs]; rfl
  obtain ⟨y0, y1, y2, y3, y4, y5, y6, y7, y8, y9, y10, y11, y12, y13, y14, y15, hys⟩ := list16 ys h16
  have hb : addrV g ys = .agg #[.int .i64 g, .int .u8 (y0 : Int), .int .u8 (y1 : Int), .int .u8 (y2 : Int), .int .u8 (y3 : Int), .int .u8 (y4 : Int), .int .u8 (y5 : Int), .int .u8 (y6 : Int), .int .u8 (y7 : Int), .int .u8 (y8 : Int), .int .u8 (y9 : Int), .int .u8 (y10 : Int), .int .u8 (y11 : Int), .int .u8 (y12 : Int), .int .u8 (y13 : Int), .int .u8 (y14 : Int), .int .u8 (y15 : Int)] := by rw [hys]; rfl
  rw [ha, hb]
  have hA := AddrAt.new w 25 f x0 x1 x2 x3 x4 x5 x6 x7 x8 x9 x10 x11 x12 x13 x14 x15
  rw [← hxs] at hA
  have hB := AddrAt.new (w.alloc (.cells #[.int .i64 f, .int .u8 (x0 : Int), .int .u8 (x1 : Int), .int .u8 (x2 : Int), .int .u8 (x3 : Int), .int .u8 (x4 : Int), .int .u8 (x5 : Int), .int .u8 (x6 : Int), .int .u8 (x7 : Int), .int .u8 (x8 : Int), .int .u8 (x9 : Int), .int .u8 (x10 : Int), .int .u8 (x11 : Int), .int .u8 (x12 : Int), .int .u8 (x13 : Int), .int .u8 (x14 : Int), .int .u8 (x15 : Int)] 25)) 25 g y0 y1 y2 y3 y4 y5 y6 y7 y8 y9 y10 y11 y12 y13 y14 y15
  rw [← hys] at hB
  have e1 : (w.alloc (.cells #[.int .i64 f, .int .u8 (x0 : Int), .int .u8 (x1 : Int), .int .u8 (x2 : Int), .int .u8 (x3 : Int), .int .u8 (x4 : Int), .int .u8 (x5 : Int), .int .u8 (x6 : Int), .int .u8 (x7 : Int), .int .u8 (x8 : Int), .int .u8 (x9 : Int), .int .u8 (x10 : Int), .int .u8 (x11 : Int), .int .u8 (x12 : Int), .int .u8 (x13 : Int), .int .u8 (x14 : Int), .int .u8 (x15 : Int)] 25)).heap.size = w.heap.size + 1 := by simp
  rw [e1] at hB
  have b1 : Below w.heap.size w (w.alloc (.cells #[.int .i64 f, .int .u8 (x0 : Int), .int .u8 (x1 : Int), .int .u8 (x2 : Int), .int .u8 (x3 : Int), .int .u8 (x4 : Int), .int .u8 (x5 : Int), .int .u8 (x6 : Int), .int .u8 (x7 : Int), .int .u8 (x8 : Int), .int .u8 (x9 : Int), .int .u8 (x10 : Int), .int .u8 (x11 : Int), .int .u8 (x12 : Int), .int .u8 (x13 : Int), .int .u8 (x14 : Int), .int .u8 (x15 : Int)] 25)) := (Below.refl _ _).alloc (Nat.le_refl _) _
  have B0 := Lib.hid (b1.alloc b1.size (.cells #[.int .i64 g, .int .u8 (y0 : Int), .int .u8 (y1 : Int), .int .u8 (y2 : Int), .int .u8 (y3 : Int), .int .u8 (y4 : Int), .int .u8 (y5 : Int), .int .u8 (y6 : Int), .int .u8 (y7 : Int), .int .u8 (y8 : Int), .int .u8 (y9 : Int), .int .u8 (y10 : Int), .int .u8 (y11 : Int), .int .u8 (y12 : Int), .int .u8 (y13 : Int), .int .u8 (y14 : Int), .int .u8 (y15 : Int)] 25))
  have HA := Lib.hid (hA.below ((Below.refl _ _).alloc (Nat.le_refl _) (.cells #[.int .i64 g, .int .u8 (y0 : Int), .int .u8 (y1 : Int), .int .u8 (y2 : Int), .int .u8 (y3 : Int), .int .u8 (y4 : Int), .int .u8 (y5 : Int), .int .u8 (y6 : Int), .int .u8 (y7 : Int), .int .u8 (y8 : Int), .int .u8 (y9 : Int), .int .u8 (y10 : Int), .int .u8 (y11 : Int), .int .u8 (y12 : Int), .int .u8 (y13 : Int), .int .u8 (y14 : Int), .int .u8 (y15 : Int)] 25)))
  have HB := Lib.hid hB
  clear ha hb hxs hys h16 h16x hA hB b1 e1
  by_cases hfg : f = g
  · subst hfg
    have HC : Hid (cmpA f xs f ys = cmpL xs ys) := Lib.hid (if_pos rfl)
    go_enter Tryd.func33, Tryd.ntmps33
    go_wp2_with fail
    generalize ((w.alloc (.cells #[.int .i64 f, .int .u8 (x0 : Int), .int .u8 (x1 : Int), .int .u8 (x2 : Int), .int .u8 (x3 : Int), .int .u8 (x4 : Int), .int .u8 (x5 : Int), .int .u8 (x6 : Int), .int .u8 (x7 : Int), .int .u8 (x8 : Int), .int .u8 (x9 : Int), .int .u8 (x10 : Int), .int .u8 (x11 : Int), .int .u8 (x12 : Int), .int .u8 (x13 : Int), .int .u8 (x14 : Int), .int .u8 (x15 : Int)] 25)).alloc (.cells #[.int .i64 f, .int .u8 (y0 : Int), .int .u8 (y1 : Int), .int .u8 (y2 : Int), .int .u8 (y3 : Int), .int .u8 (y4 : Int), .int .u8 (y5 : Int), .int .u8 (y6 : Int), .int .u8 (y7 : Int), .int .u8 (y8 : Int), .int .u8 (y9 : Int), .int .u8 (y10 : Int), .int .u8 (y11 : Int), .int .u8 (y12 : Int), .int .u8 (y13 : Int), .int .u8 (y14 : Int), .int .u8 (y15 : Int)] 25)) = W at *
    have hbel0 := B0.out
    go_loopw [5] (fun i wr => ∃ k : Nat, k ≤ 16 ∧ i = .int .i64 (k : Int) ∧ Hid (cmpL xs ys = cmpL (xs.drop k) (ys.drop k)) ∧ Hid (AddrAt wr w.heap.size f xs) ∧ Hid (AddrAt wr (w.heap.size + 1) f ys) ∧ Below w.heap.size w wr) (fun i _ => 16 - (intOf i).toNat)
    case atStart => exact ⟨0, by decide, rfl, Lib.hid rfl, HA, HB, hbel0⟩
    case round =>
      obtain ⟨k, hk, rfl, HK, HA, HB, hbel⟩ := hrel
      by_cases hk16 : k < 16
      · have hca := HA.out.cells k hk16
        have hcb := HB.out.cells k hk16
        have k1 : (k : Int) < 16 := by omega
        have hz := cmpL_at xs ys k HX.out HY.out hk16
        rw [← HK.out] at hz
        generalize xs.getD k 0 = x at *
        generalize ys.getD k 0 = y at *
        by_cases hxy : x < y
        · rw [if_pos hxy] at hz
          have HZ := Lib.hid hz
          clear hz
          have o1 : (x : Int) < (y : Int) := by omega
          go_wp2_with fail
          go_region
          go_wp2_with fail
          go_ret
          exact ⟨by rw [HC.out, HZ.out]; rfl, hbel.drew⟩
        · by_cases hyx : y < x
          · rw [if_neg hxy, if_pos hyx] at hz
            have HZ := Lib.hid hz
            clear hz
            have o1 : ¬ ((x : Int) < (y : Int)) := by omega
            have o2 : (y : Int) < (x : Int) := by omega
            go_wp2_with fail
            go_region
            go_wp2_with fail
            go_region
            go_wp2_with fail
            go_ret
            exact ⟨by rw [HC.out, HZ.out]; rfl, hbel.drew.drew⟩
          · rw [if_neg hxy, if_neg hyx] at hz
            have HZ := Lib.hid hz
            clear hz
            obtain rfl : x = y := by omega
            have o1 : ¬ ((x : Int) < (x : Int)) := by omega
            go_wp2_with fail
            go_region
            go_wp2_with fail
            go_region
            go_wp2_with fail
            go_roundw
            case rel => exact ⟨k + 1, by omega, by go_num, HZ, Lib.hid ((HA.out.below (Below.refl _ _).drew).below (Below.refl _ _).drew), Lib.hid ((HB.out.below (Below.refl _ _).drew).below (Below.refl _ _).drew), hbel.drew.drew⟩
            case measure => simp [intOf]; omega
      · obtain rfl : k = 16 := by omega
        have HZ := Lib.hid (HK.out.trans (cmpL_end xs ys HX.out))
        go_wp2_with fail
        go_ret
        exact ⟨by rw [HC.out, HZ.out]; rfl, hbel⟩
  · have n1 : (f != g) = true := by simp [hfg]
    by_cases hl : f < g
    · have HC : Hid (cmpA f xs g ys = -1) := Lib.hid (by unfold cmpA; rw [if_neg hfg, if_pos hl])
      go_enter Tryd.func33, Tryd.ntmps33
      go_wp2_with fail
      go_ret
      exact ⟨by rw [HC.out]; rfl, B0.out⟩
    · have HC : Hid (cmpA f xs g ys = 1) := Lib.hid (by unfold cmpA; rw [if_neg hfg, if_neg hl])
      go_enter Tryd.func33, Tryd.ntmps33
      go_wp2_with fail
      go_ret
      exact ⟨by rw [HC.out]; rfl, B0.out⟩
end Go.Proofs.YtickghbjhiegnaaDoor
/- Contracts of cmp.Compare at ints, bytes.Compare at two rows of sixteen bytes, addr.Compare. -/
namespace Go.Proofs.YtickghbjhiegnaaDoor
open Go.RowKit
set_option linter.unusedVariables false
set_option maxRecDepth 20000

theorem isNaN_int (x : Int) (w : World) : Calls Tryd.prog 67 #[.int .i64 x] w fun e w' => e = .returned (.bool false) ∧ w = w' := by
  have h : (x != x) = false := by simp
  go_enter Tryd.func67, Tryd.ntmps67
  go_wp2
  go_ret
  exact ⟨rfl, rfl⟩
/-- Which of two numbers comes first. -/
def sgn3 (x y : Int) : Int := if x < y then -1 else if y < x then 1 else 0
theorem cmpInt_any (x y : Int) (w : World) : Calls Tryd.prog 49 #[.int .i64 x, .int .i64 y] w fun e w' => e = .returned (.int .i64 (sgn3 x y)) ∧ w = w' := by
  by_cases h1 : x < y
  · have HE : Hid (sgn3 x y = -1) := Lib.hid (if_pos h1)
    go_enter Tryd.func49, Tryd.ntmps49
    go_wp2_with (go_at_call 67; refine (isNaN_int _ _).mono ?_; rintro e w' ⟨rfl, rfl⟩)
    go_ret
    exact ⟨by rw [HE.out]; rfl, rfl⟩
  · by_cases h2 : y < x
    · have HE : Hid (sgn3 x y = 1) := Lib.hid (by unfold sgn3; rw [if_neg h1, if_pos h2])
      go_enter Tryd.func49, Tryd.ntmps49
      go_wp2_with (go_at_call 67; refine (isNaN_int _ _).mono ?_; rintro e w' ⟨rfl, rfl⟩)
      go_ret
      exact ⟨by rw [HE.out]; rfl, rfl⟩
    · have HE : Hid (sgn3 x y = 0) := Lib.hid (by unfold sgn3; rw [if_neg h1, if_neg h2])
      go_enter Tryd.func49, Tryd.ntmps49
      go_wp2_with (go_at_call 67; refine (isNaN_int _ _).mono ?_; rintro e w' ⟨rfl, rfl⟩)
      go_ret
      exact ⟨by rw [HE.out]; rfl, rfl⟩
theorem compare_nats : ∀ (xs ys : List Nat), xs.length = ys.length → (∀ x ∈ xs, x < 256) → (∀ x ∈ ys, x < 256) →
    Lib.compareBytes (Lib.bytesOf (xs.map fun n : Nat => (n : Int))) (Lib.bytesOf (ys.map fun n : Nat => (n : Int))) = cmpL xs ys
  | [], [], _, _, _ => rfl
  | [], _ :: _, h, _, _ => by cases h
  | _ :: _, [], h, _, _ => by cases h
  | x :: xs, y :: ys, h, hx, hy => by
    have ih := compare_nats xs ys (by simpa using h) (fun z hz => hx z (List.mem_cons_of_mem _ hz)) (fun z hz => hy z (List.mem_cons_of_mem _ hz))
    have hx0 := hx x (by simp)
    have hy0 := hy y (by simp)
    have o1 : (UInt8.ofNat x < UInt8.ofNat y) ↔ x < y := by rw [UInt8.lt_iff_toNat_lt]; simp; omega
    have o2 : (UInt8.ofNat y < UInt8.ofNat x) ↔ y < x := by rw [UInt8.lt_iff_toNat_lt]; simp; omega
    show Lib.compareBytes (UInt8.ofNat ((x : Int).toNat) :: Lib.bytesOf (xs.map fun n : Nat => (n : Int))) (UInt8.ofNat ((y : Int).toNat) :: Lib.bytesOf (ys.map fun n : Nat => (n : Int))) = _
    rw [Int.toNat_natCast, Int.toNat_natCast, Lib.compareBytes, cmpL, ih]
    simp only [o1, o2]
theorem run_loadB16 {P : Program} {w : World} {G o : Nat} {xs : List Nat} (hl : xs.length = 16) (h : w.rangeAt G o (xs.map fun n => Value.int .u8 ((n : Nat) : Int))) : (Extern.Bytes.loadBytes ⟨G, o, none⟩ 16 .empty).run P w = .ok ⟨(Lib.bytesOf (xs.map fun n : Nat => (n : Int))).toArray⟩ w := by
  have hr := Lib.run_loadBytesX (P := P) w (xs.map fun n : Nat => (n : Int)) ⟨G, o, none⟩ .empty (fun j x hj => by
    rw [Addr.add_mid]
    refine h j _ ?_
    rw [List.getElem?_map] at hj ⊢
    cases hx : xs[j]? with
    | none => rw [hx] at hj; cases hj
    | some y => rw [hx] at hj; cases hj; rfl)
  rw [List.length_map, hl] at hr
  rw [hr]
  congr 1
  apply ByteArray.ext
  show (#[] : Array UInt8) ++ _ = _
  simp
theorem run_compare16 {P : Program} {w : World} {G o G' o' : Nat} {xs ys : List Nat} (lx : xs.length = 16) (ly : ys.length = 16) (h : w.rangeAt G o (xs.map fun n => Value.int .u8 ((n : Nat) : Int))) (h' : w.rangeAt G' o' (ys.map fun n => Value.int .u8 ((n : Nat) : Int))) (hx : ∀ x ∈ xs, x < 256) (hy : ∀ x ∈ ys, x < 256) (c c' : Nat) :
    (Extern.BytealgCompare.compare #[.slice (some ⟨G, o, none⟩) 16 c, .slice (some ⟨G', o', none⟩) 16 c']).run P w = .ok (.int .i64 (cmpL xs ys)) w := by
  change Sem.run P (do
    let a ← Extern.Bytes.bytesOf (.slice (some ⟨G, o, none⟩) 16 c)
    let b ← Extern.Bytes.bytesOf (.slice (some ⟨G', o', none⟩) 16 c')
    pure (goInt (Extern.BytealgCompare.cmp a b))) w = _
  simp only [Extern.Bytes.bytesOf, Sem.run_bind, Sem.run_pure, run_loadB16 lx h, run_loadB16 ly h', Result.andThen, Lib.cmp_eq]
  rw [compare_nats xs ys (by rw [lx, ly]) hx hy]
  rfl
set_option maxRecDepth 100000 in
theorem bytesCompare_any (G G' : Nat) (xs ys : List Nat) (w : World) (lx : xs.length = 16) (ly : ys.length = 16) (h : w.rangeAt G 1 (xs.map fun n => Value.int .u8 ((n : Nat) : Int))) (h' : w.rangeAt G' 1 (ys.map fun n => Value.int .u8 ((n : Nat) : Int))) (hx : ∀ x ∈ xs, x < 256) (hy : ∀ x ∈ ys, x < 256) :
    Calls Tryd.prog 50 #[.slice (some ⟨G, 1, none⟩) 16 16, .slice (some ⟨G', 1, none⟩) 16 16] w fun e w' => e = .returned (.int .i64 (cmpL xs ys)) ∧ Below w.heap.size w w' := by
  have HR := Lib.hid (run_compare16 (P := Tryd.prog) lx ly h h' hx hy 16 16)
  clear h h' hx hy lx ly
  generalize cmpL xs ys = r at *
  go_enter Tryd.func50, Tryd.ntmps50
  go_wp2
  rw [run_callFunc_extern Tryd.func68 (by kernel_rfl) (by kernel_rfl) (by kernel_rfl) (e := Extern.BytealgCompare.compare) (by kernel_rfl), HR.out]
  simp only [Result.andThen]
  rw [Oper.upon_value]
  go_wp2
  go_ret
  exact ⟨rfl, Below.refl _ _⟩
theorem cmpA_ne {f g : Int} (xs ys : List Nat) (h : f ≠ g) : cmpA f xs g ys = sgn3 f g := by
  unfold cmpA sgn3
  rw [if_neg h]
  by_cases h1 : f < g
  · rw [if_pos h1, if_pos h1]
  · rw [if_neg h1, if_neg h1, if_pos (by omega)]
set_option maxRecDepth 100000 in
set_option maxHeartbeats 1000000 in
theorem addrCompare_any (f : Int) (xs : List Nat) (g : Int) (ys : List Nat) (w : World) (h16x : xs.length = 16) (h16 : ys.length = 16) (hx : ∀ x ∈ xs, x < 256) (hy : ∀ x ∈ ys, x < 256) :
    Calls Tryd.prog 32 #[addrV f xs, addrV g ys] w fun e w' => e = .returned (.int .i64 (cmpA f xs g ys)) ∧ Below w.heap.size w w' := by
  obtain ⟨cs, ecs, HA, HB⟩ := addr_boxed f xs w h16x
  obtain ⟨ds, eds, HA', HB'⟩ := addr_boxed g ys (w.alloc (.cells cs 25)) h16
  rw [ecs, eds]
  have HA1 := Lib.hid (HA.out.alloc (.cells ds 25))
  have HB1 := Lib.hid (chain HB.out HB'.out)
  rw [heap_alloc] at HA'
  have HX := Lib.hid hx
  have HY := Lib.hid hy
  clear ecs eds h16 h16x HA HB HB' hx hy
  go_enter Tryd.func32, Tryd.ntmps32
  go_upto_region 1 with fail
  generalize ((w.alloc (.cells cs 25)).alloc (.cells ds 25)) = W at *
  have f1 := HA1.out.fam
  have f2 := HA'.out.fam
  by_cases hfg : f = g
  · subst hfg
    have HE : Hid (cmpA f xs f ys = cmpL xs ys) := Lib.hid (if_pos rfl)
    obtain ⟨L, hL⟩ : ∃ L, [(w.heap.size, 1, xs.map fun n => Value.int .u8 ((n : Nat) : Int)), (w.heap.size + 1, 1, ys.map fun n => Value.int .u8 ((n : Nat) : Int))] = L := ⟨_, rfl⟩
    have HK : HeldR L w W := by rw [← hL]; exact ((HeldR.nil HB1.out).cons HA'.out.b16.range HA'.out.lt).cons HA1.out.b16.range HA1.out.lt
    have HC : ∀ w', HeldR L w w' → Hid (Calls Tryd.prog 50 #[.slice (some ⟨w.heap.size, 1, none⟩) 16 16, .slice (some ⟨w.heap.size + 1, 1, none⟩) 16 16] w' fun e w'' => e = .returned (.int .i64 (cmpL xs ys)) ∧ Below w'.heap.size w' w'') := fun w' h =>
      Lib.hid (bytesCompare_any w.heap.size (w.heap.size + 1) xs ys w' HA1.out.len HA'.out.len (h.get (by rw [← hL]; simp)) (h.get (by rw [← hL]; simp)) HX.out HY.out)
    have HKK := Lib.hid HK
    clear hL HK
    generalize cmpL xs ys = r at *
    go_wp2_with fail
    refine wp_region_noPanic ?_
    refine wp_region_held_drew (S := HeldR L w) (by kernel_rfl) HKK.out.drew (fun hHeld => ?_)
    refine wpAnyH_take (i := 0) (v := ?_) rfl (by kernel_rfl) (by kernel_rfl) (by kernel_rfl) (fun _ _ _ h => h) (Or.inl ⟨by rfl, ?_⟩) (by assumption) ?_
    rotate_left
    · (intro w hSw; go_simp; try (with_reducible rfl))
    try simp only [Act.put, List.getElem_toArray, List.getElem_cons_zero, List.setIfInBounds_toArray, List.set_cons_zero, List.set_cons_succ]
    refine wpAnyH_take (i := 1) (v := ?_) rfl (by kernel_rfl) (by kernel_rfl) (by kernel_rfl) (fun _ _ _ h => h) (Or.inl ⟨by rfl, ?_⟩) (by assumption) ?_
    rotate_left
    · (intro w hSw; go_simp; try (with_reducible rfl))
    try simp only [Act.put, List.getElem_toArray, List.getElem_cons_zero, List.getElem_cons_succ, List.setIfInBounds_toArray, List.set_cons_zero, List.set_cons_succ]
    refine wpAnyH_take (i := 2) (v := ?_) rfl (by kernel_rfl) (by kernel_rfl) (by kernel_rfl) (fun _ _ _ h => h) (Or.inl ⟨by rfl, ?_⟩) (by assumption) ?_
    rotate_left
    · (intro w hSw; go_simp; try (with_reducible rfl))
    try simp only [Act.put, List.getElem_toArray, List.getElem_cons_zero, List.getElem_cons_succ, List.setIfInBounds_toArray, List.set_cons_zero, List.set_cons_succ]
    refine wpAnyH_take (i := 3) (v := ?_) rfl (by kernel_rfl) (by kernel_rfl) (by kernel_rfl) (fun _ _ _ h => h) (Or.inl ⟨by rfl, ?_⟩) (by assumption) ?_
    rotate_left
    · (intro w hSw; go_simp; try (with_reducible rfl))
    try simp only [Act.put, List.getElem_toArray, List.getElem_cons_zero, List.getElem_cons_succ, List.setIfInBounds_toArray, List.set_cons_zero, List.set_cons_succ]
    refine wpAnyH_ready (rs := [4]) (by kernel_rfl) (by simp) ?_
    refine AllReadyH.cons rfl (fun K hK => ?_) AllReadyH.nil
    go_simp
    refine (Calls.heldR (HC _ (by assumption)).out (by assumption)).mono ?_
    rintro e wr4 ⟨rfl, hS4⟩
    go_wp2_with fail
    refine hK.out _ _ hS4 (fun hHeld => ?_)
    clear hK K
    try simp only [Act.put, List.getElem_toArray, List.getElem_cons_zero, List.getElem_cons_succ, List.setIfInBounds_toArray, List.set_cons_zero, List.set_cons_succ]
    refine wpAnyH_take (i := 5) (v := ?_) rfl (by kernel_rfl) (by kernel_rfl) (by kernel_rfl) (fun _ _ _ h => h) (Or.inl ⟨by rfl, ?_⟩) (by assumption) ?_
    rotate_left
    · (intro w hSw; go_simp; try (with_reducible rfl))
    try simp only [Act.put, List.getElem_toArray, List.getElem_cons_zero, List.getElem_cons_succ, List.setIfInBounds_toArray, List.set_cons_zero, List.set_cons_succ]
    refine wpAnyH_done (by kernel_rfl) ?_ _
    refine NoPanic.normal ?_
    go_wp2_with fail
    go_ret
    exact ⟨by rw [HE.out]; rfl, hHeld.bel⟩
  · have HE := Lib.hid (cmpA_ne xs ys hfg)
    have n1 : (f != g) = true := by simp [hfg]
    go_wp2_with (go_at_call 49; refine (cmpInt_any _ _ _).mono ?_; rintro e w' ⟨rfl, rfl⟩)
    go_ret
    exact ⟨by rw [HE.out]; rfl, HB1.out⟩
end Go.Proofs.YtickghbjhiegnaaDoor
/- Contract of the reference's Good of layer 4. -/
namespace Go.Proofs.YtickghbjhiegnaaDoor
open Go.RowKit
set_option linter.unusedVariables false
set_option maxRecDepth 20000

def goodF (f : Int) : Int := if f.tmod 2 = 0 then 4 else 6
def goodB (f : Int) (bs : List Nat) : List Nat := if f.tmod 2 = 0 then b4 (fourB bs) else bs
theorem tmod_two (f : Int) : f.tmod 2 = 0 ∨ f.tmod 2 = 1 ∨ f.tmod 2 = -1 := by have := Int.tmod_two_eq f; omega
set_option maxRecDepth 100000 in
set_option maxHeartbeats 1000000 in
theorem refGood_any (f : Int) (bs : List Nat) (w : World) (h16 : bs.length = 16) (hlt : ∀ x ∈ bs, x < 256) :
    Calls Tryd.prog 14 #[addrV f bs] w fun e w' => e = .returned (addrV (goodF f) (goodB f bs)) ∧ Below w.heap.size w w' := by
  have H16 := Lib.hid h16
  have HF := fun W => Lib.hid (refFour_any f bs W h16 hlt)
  have HO := fun W => Lib.hid (refOf4_any (fourB bs) W (fourB_le bs hlt))
  obtain ⟨y0, y1, y2, y3, y4, y5, y6, y7, y8, y9, y10, y11, y12, y13, y14, y15, hbs⟩ := list16 bs h16
  have ha : addrV f bs = .agg #[.int .i64 f, .int .u8 (y0 : Int), .int .u8 (y1 : Int), .int .u8 (y2 : Int), .int .u8 (y3 : Int), .int .u8 (y4 : Int), .int .u8 (y5 : Int), .int .u8 (y6 : Int), .int .u8 (y7 : Int), .int .u8 (y8 : Int), .int .u8 (y9 : Int), .int .u8 (y10 : Int), .int .u8 (y11 : Int), .int .u8 (y12 : Int), .int .u8 (y13 : Int), .int .u8 (y14 : Int), .int .u8 (y15 : Int)] := by rw [hbs]; rfl
  have hA := AddrAt.new w 25 f y0 y1 y2 y3 y4 y5 y6 y7 y8 y9 y10 y11 y12 y13 y14 y15
  rw [← hbs] at hA
  have hR := AddrAt.of (w.alloc (.cells #[.int .i64 f, .int .u8 (y0 : Int), .int .u8 (y1 : Int), .int .u8 (y2 : Int), .int .u8 (y3 : Int), .int .u8 (y4 : Int), .int .u8 (y5 : Int), .int .u8 (y6 : Int), .int .u8 (y7 : Int), .int .u8 (y8 : Int), .int .u8 (y9 : Int), .int .u8 (y10 : Int), .int .u8 (y11 : Int), .int .u8 (y12 : Int), .int .u8 (y13 : Int), .int .u8 (y14 : Int), .int .u8 (y15 : Int)] 25)) 25 #[.int .i64 0, .int .u8 0, .int .u8 0, .int .u8 0, .int .u8 0, .int .u8 0, .int .u8 0, .int .u8 0, .int .u8 0, .int .u8 0, .int .u8 0, .int .u8 0, .int .u8 0, .int .u8 0, .int .u8 0, .int .u8 0, .int .u8 0] 0 (List.replicate 16 0) rfl (zero_addr 0)
  have b1 : Below w.heap.size w (w.alloc (.cells #[.int .i64 f, .int .u8 (y0 : Int), .int .u8 (y1 : Int), .int .u8 (y2 : Int), .int .u8 (y3 : Int), .int .u8 (y4 : Int), .int .u8 (y5 : Int), .int .u8 (y6 : Int), .int .u8 (y7 : Int), .int .u8 (y8 : Int), .int .u8 (y9 : Int), .int .u8 (y10 : Int), .int .u8 (y11 : Int), .int .u8 (y12 : Int), .int .u8 (y13 : Int), .int .u8 (y14 : Int), .int .u8 (y15 : Int)] 25)) := (Below.refl _ _).alloc (Nat.le_refl _) _
  have HB := Lib.hid (b1.alloc b1.size (.cells #[.int .i64 0, .int .u8 0, .int .u8 0, .int .u8 0, .int .u8 0, .int .u8 0, .int .u8 0, .int .u8 0, .int .u8 0, .int .u8 0, .int .u8 0, .int .u8 0, .int .u8 0, .int .u8 0, .int .u8 0, .int .u8 0, .int .u8 0] 25))
  have e1 : (w.alloc (.cells #[.int .i64 f, .int .u8 (y0 : Int), .int .u8 (y1 : Int), .int .u8 (y2 : Int), .int .u8 (y3 : Int), .int .u8 (y4 : Int), .int .u8 (y5 : Int), .int .u8 (y6 : Int), .int .u8 (y7 : Int), .int .u8 (y8 : Int), .int .u8 (y9 : Int), .int .u8 (y10 : Int), .int .u8 (y11 : Int), .int .u8 (y12 : Int), .int .u8 (y13 : Int), .int .u8 (y14 : Int), .int .u8 (y15 : Int)] 25)).heap.size = w.heap.size + 1 := by simp
  rw [e1] at hR
  have HP2 := Lib.hid (hA.below ((Below.refl _ _).alloc (Nat.le_refl _) (.cells #[.int .i64 0, .int .u8 0, .int .u8 0, .int .u8 0, .int .u8 0, .int .u8 0, .int .u8 0, .int .u8 0, .int .u8 0, .int .u8 0, .int .u8 0, .int .u8 0, .int .u8 0, .int .u8 0, .int .u8 0, .int .u8 0, .int .u8 0] 25)))
  have HR2 := Lib.hid hR
  rw [ha]
  clear hR hA b1 ha hbs h16 hlt e1
  by_cases h2 : f.tmod 2 = 0
  · rw [show goodF f = 4 from if_pos h2, show goodB f bs = b4 (fourB bs) from if_pos h2]
    go_enter Tryd.func14, Tryd.ntmps14
    go_upto_if 6 with fail
    generalize ((w.alloc (.cells #[.int .i64 f, .int .u8 (y0 : Int), .int .u8 (y1 : Int), .int .u8 (y2 : Int), .int .u8 (y3 : Int), .int .u8 (y4 : Int), .int .u8 (y5 : Int), .int .u8 (y6 : Int), .int .u8 (y7 : Int), .int .u8 (y8 : Int), .int .u8 (y9 : Int), .int .u8 (y10 : Int), .int .u8 (y11 : Int), .int .u8 (y12 : Int), .int .u8 (y13 : Int), .int .u8 (y14 : Int), .int .u8 (y15 : Int)] 25)).alloc (.cells #[.int .i64 0, .int .u8 0, .int .u8 0, .int .u8 0, .int .u8 0, .int .u8 0, .int .u8 0, .int .u8 0, .int .u8 0, .int .u8 0, .int .u8 0, .int .u8 0, .int .u8 0, .int .u8 0, .int .u8 0, .int .u8 0, .int .u8 0] 25)) = W at *
    go_wp2_with (refine load_addr HP2 _ rfl rfl rfl ?_)
    refine (HF W).out.mono ?_
    rintro e w1 ⟨rfl, hb1⟩
    go_wp2_with fail
    refine (HO w1).out.mono ?_
    rintro e w2 ⟨rfl, hb2⟩
    have HR3 := Lib.hid ((HR2.out.below hb1).below hb2)
    have hbel := chain (chain HB.out hb1) hb2
    have HLN := Lib.hid (b4_len (fourB bs))
    clear HR2 HB hb1 hb2 HP2
    go_wp2_with (refine store_addr HR3 _ _ HLN rfl rfl rfl rfl (fun W HW HA => ?_))
    refine bodyPost_ret (v := addrV 4 (b4 (fourB bs))) (results_addr Tryd.results14 rfl HA.out) rfl ⟨rfl, by rw [HW.out]; exact below_cells (by omega) _ _ _ hbel⟩
  · rw [show goodF f = 6 from if_neg h2, show goodB f bs = bs from if_neg h2]
    have h3 : f.tmod 2 = 1 ∨ f.tmod 2 = -1 := (tmod_two f).resolve_left h2
    clear h2 HF HO
    rcases h3 with h3 | h3
    · go_enter Tryd.func14, Tryd.ntmps14
      go_upto_if 6 with fail
      generalize ((w.alloc (.cells #[.int .i64 f, .int .u8 (y0 : Int), .int .u8 (y1 : Int), .int .u8 (y2 : Int), .int .u8 (y3 : Int), .int .u8 (y4 : Int), .int .u8 (y5 : Int), .int .u8 (y6 : Int), .int .u8 (y7 : Int), .int .u8 (y8 : Int), .int .u8 (y9 : Int), .int .u8 (y10 : Int), .int .u8 (y11 : Int), .int .u8 (y12 : Int), .int .u8 (y13 : Int), .int .u8 (y14 : Int), .int .u8 (y15 : Int)] 25)).alloc (.cells #[.int .i64 0, .int .u8 0, .int .u8 0, .int .u8 0, .int .u8 0, .int .u8 0, .int .u8 0, .int .u8 0, .int .u8 0, .int .u8 0, .int .u8 0, .int .u8 0, .int .u8 0, .int .u8 0, .int .u8 0, .int .u8 0, .int .u8 0] 25)) = W at *
      have hfam := HP2.out.fam
      have hl0 := HP2.out.live 0 (by decide)
      have HP3 := Lib.hid (HP2.out.setFam 6)
      have HR3 := Lib.hid (HR2.out.other (G' := w.heap.size) (i := 0) (by omega) (.int .i64 6))
      have hbel := HB.out.setCell (p := ⟨w.heap.size, 0, none⟩) (Nat.le_refl _) (.int .i64 6)
      go_wp2_with (first | refine load_addr HP3 _ rfl rfl rfl ?_ | (refine store_addr HR3 _ _ H16 rfl rfl rfl rfl (fun W HW HA => ?_)))
      refine bodyPost_ret (v := addrV 6 bs) (results_addr Tryd.results14 rfl HA.out) rfl ⟨rfl, by rw [HW.out]; exact below_cells (by omega) _ _ _ hbel⟩
    · go_enter Tryd.func14, Tryd.ntmps14
      go_upto_if 6 with fail
      generalize ((w.alloc (.cells #[.int .i64 f, .int .u8 (y0 : Int), .int .u8 (y1 : Int), .int .u8 (y2 : Int), .int .u8 (y3 : Int), .int .u8 (y4 : Int), .int .u8 (y5 : Int), .int .u8 (y6 : Int), .int .u8 (y7 : Int), .int .u8 (y8 : Int), .int .u8 (y9 : Int), .int .u8 (y10 : Int), .int .u8 (y11 : Int), .int .u8 (y12 : Int), .int .u8 (y13 : Int), .int .u8 (y14 : Int), .int .u8 (y15 : Int)] 25)).alloc (.cells #[.int .i64 0, .int .u8 0, .int .u8 0, .int .u8 0, .int .u8 0, .int .u8 0, .int .u8 0, .int .u8 0, .int .u8 0, .int .u8 0, .int .u8 0, .int .u8 0, .int .u8 0, .int .u8 0, .int .u8 0, .int .u8 0, .int .u8 0] 25)) = W at *
      have hfam := HP2.out.fam
      have hl0 := HP2.out.live 0 (by decide)
      have HP3 := Lib.hid (HP2.out.setFam 6)
      have HR3 := Lib.hid (HR2.out.other (G' := w.heap.size) (i := 0) (by omega) (.int .i64 6))
      have hbel := HB.out.setCell (p := ⟨w.heap.size, 0, none⟩) (Nat.le_refl _) (.int .i64 6)
      go_wp2_with (first | refine load_addr HP3 _ rfl rfl rfl ?_ | (refine store_addr HR3 _ _ H16 rfl rfl rfl rfl (fun W HW HA => ?_)))
      refine bodyPost_ret (v := addrV 6 bs) (results_addr Tryd.results14 rfl HA.out) rfl ⟨rfl, by rw [HW.out]; exact below_cells (by omega) _ _ _ hbel⟩
end Go.Proofs.YtickghbjhiegnaaDoor
/- Plain facts on addresses: what is printed is read as it was; mapped and unmapped; the row of addresses is an order. -/
namespace Go.Proofs.YtickghbjhiegnaaDoor
open Go.RowKit
set_option linter.unusedVariables false
set_option maxRecDepth 20000

theorem groupL_nodot (n : Nat) : ∀ c ∈ groupL n, c.toNat ≠ 46 := by
  have one : ∀ d, d < 16 → (hexc d).toNat ≠ 46 := by
    intro d hd
    rw [hexc_nat d hd]
    split <;> omega
  induction n using Nat.strongRecOn with
  | _ n ih =>
    by_cases h1 : n < 16
    · rw [groupL_one h1]
      intro c hc
      rw [List.mem_singleton] at hc
      rw [hc]
      exact one n h1
    · rw [groupL_more h1]
      intro c hc
      rcases List.mem_append.1 hc with h | h
      · exact ih (n / 16) (by omega) c h
      · rw [List.mem_singleton] at h
        rw [h]
        exact one _ (by omega)
theorem rowL_nodot : ∀ l : List Nat, ∀ c ∈ rowL l, c.toNat ≠ 46
  | [], c, h => by cases h
  | [x], c, h => groupL_nodot x c h
  | x :: y :: r, c, h => by
    rcases List.mem_append.1 (show c ∈ groupL x ++ 58 :: rowL (y :: r) from h) with h | h
    · exact groupL_nodot x c h
    · rcases List.mem_cons.1 h with rfl | h
      · decide
      · exact rowL_nodot (y :: r) c h
theorem strict_nodot (s : ByteArray) (h : ∀ c ∈ s.data.toList, c.toNat ≠ 46) : strictB s = none := by
  have e : pieces s 46 = [s] := by rw [show s = ofL s.data.toList from eq_ofL rfl, pieces_ofL, cutL_none 46 _ (by simpa using h)]; rfl
  unfold strictB
  rw [e]
  rfl
/-- What is printed of groups is no strict text. -/
theorem strict_print (gs : List Nat) (h8 : gs.length = 8) (hlt : ∀ x ∈ gs, x < 65536) : strictB (printB gs) = none := by
  unfold printB
  by_cases hm : mappedB gs = true
  · rw [if_pos hm]
    generalize gs.getD 6 0 / 256 = a
    generalize gs.getD 6 0 % 256 = b
    generalize gs.getD 7 0 / 256 = c
    generalize gs.getD 7 0 % 256 = d
    have e : ofL [58, 58, 102, 102, 102, 102, 58] ++ text4 a b c d = ofL ((58 :: ([58, 102, 102, 102, 102, 58] ++ dec a)) ++ 46 :: (dec b ++ 46 :: (dec c ++ 46 :: dec d))) := eq_ofL (by rw [data_append, ofL_data, text4_data]; simp)
    have hp : pieces (ofL ((58 :: ([58, 102, 102, 102, 102, 58] ++ dec a)) ++ 46 :: (dec b ++ 46 :: (dec c ++ 46 :: dec d)))) 46 = ofL (58 :: ([58, 102, 102, 102, 102, 58] ++ dec a)) :: (cutL 46 (dec b ++ 46 :: (dec c ++ 46 :: dec d))).map ofL := by
      rw [pieces_ofL, cutL_first 46 46 rfl _ _ (fun x hx => by
        rcases List.mem_append.1 (show x ∈ [58, 58, 102, 102, 102, 102, 58] ++ dec a from hx) with h | h
        · simp at h; rcases h with rfl | rfl | rfl <;> decide
        · exact dec_dot a x h)]
      rfl
    have ho : octet (ofL (58 :: ([58, 102, 102, 102, 102, 58] ++ dec a))) = none := by
      unfold octet
      rw [numB_ofL _ _ (by simp)]
      rfl
    rw [e]
    unfold strictB
    rw [hp]
    split
    · exact octTo_dead (k := 1) (by decide) (octTo_stop (k := 0) rfl ho)
    · rfl
  · rw [if_neg hm]
    by_cases h0 : (runB gs).2 = 0
    · rw [if_pos h0]
      exact strict_nodot _ (by rw [rowS_list]; exact rowL_nodot gs)
    · rw [if_neg h0]
      refine strict_nodot _ (fun c hc => ?_)
      rw [data_append, data_append, rowS_list, rowS_list, ofL_data] at hc
      rcases List.mem_append.1 hc with h | h
      · rcases List.mem_append.1 h with h | h
        · exact rowL_nodot _ c h
        · simp at h; rw [h]; decide
      · exact rowL_nodot _ c h
theorem fourB_b4 (n : Nat) (hn : n ≤ 4294967295) : fourB (b4 n) = n := by
  rw [b4_eq, ← fourB_eq]
  simp
  omega
theorem b4_lt (n : Nat) : ∀ x ∈ b4 n, x < 256 := by
  rw [b4_eq]
  simp
  omega
theorem b4_inj {n m : Nat} (hn : n ≤ 4294967295) (hm : m ≤ 4294967295) (h : b4 n = b4 m) : n = m := by
  rw [← fourB_b4 n hn, h, fourB_b4 m hm]
theorem parse_print4 (n : Nat) (hn : n ≤ 4294967295) : parseA (printA 4 (b4 n)) = some (4, b4 n) := by
  have e : printA 4 (b4 n) = text4 (n / 16777216 % 256) (n / 65536 % 256) (n / 256 % 256) (n % 256) := by rw [b4_eq]; rfl
  have hs : strictB (printA 4 (b4 n)) = some n := by
    rw [e]
    exact text4_strict _ _ _ _ _ (by omega) (by omega) (by omega) (by omega) (by unfold num4; omega)
  unfold parseA
  rw [hs]
theorem parse_print6 (bs : List Nat) (h16 : bs.length = 16) (hlt : ∀ x ∈ bs, x < 256) : parseA (printA 6 bs) = some (6, bs) := by
  have e : printA 6 bs = printB (grL bs 8) := rfl
  unfold parseA
  rw [e, strict_print _ (grL_len bs 8) (grL_lt bs hlt 8), parse_print _ (grL_len bs 8) (grL_lt bs hlt 8)]
  show some ((6 : Int), byL (grL bs 8)) = _
  rw [byL_grL bs h16 hlt]
/-- An address that may be, and is none of none. -/
inductive GoodA : Int → List Nat → Prop
  | four (n : Nat) (hn : n ≤ 4294967295) : GoodA 4 (b4 n)
  | six (bs : List Nat) (h16 : bs.length = 16) (hlt : ∀ x ∈ bs, x < 256) : GoodA 6 bs
theorem good_is (f : Int) (bs : List Nat) (h16 : bs.length = 16) (hlt : ∀ x ∈ bs, x < 256) : GoodA (goodF f) (goodB f bs) := by
  unfold goodF goodB
  by_cases h : f.tmod 2 = 0
  · rw [if_pos h, if_pos h]; exact .four _ (fourB_le' bs hlt)
  · rw [if_neg h, if_neg h]; exact .six bs h16 hlt
theorem GoodA.len {f : Int} {bs : List Nat} (h : GoodA f bs) : bs.length = 16 := by cases h <;> first | exact b4_len _ | assumption
theorem GoodA.lt {f : Int} {bs : List Nat} (h : GoodA f bs) : ∀ x ∈ bs, x < 256 := by cases h <;> first | exact b4_lt _ | assumption
theorem GoodA.parse {f : Int} {bs : List Nat} (h : GoodA f bs) : parseA (printA f bs) = some (f, bs) := by
  cases h with
  | four n hn => exact parse_print4 n hn
  | six _ h16 hlt => exact parse_print6 _ h16 hlt
theorem GoodA.may {f : Int} {bs : List Nat} (h : GoodA f bs) : mayB f bs = true := by
  cases h with
  | four n hn => rw [← may4 _ (b4_len n) (b4_lt n), fourB_b4 n hn, decide_eq_true ⟨rfl, rfl⟩]
  | six _ h16 hlt => exact may6 _ h16
theorem printA_small (f : Int) (bs : List Nat) (h16 : bs.length = 16) (hlt : ∀ x ∈ bs, x < 256) : (printA f bs).size ≤ 1000 := by
  unfold printA
  split
  · exact Nat.le_trans (text4_size _ _ _ _ (byte_lt hlt 0) (byte_lt hlt 1) (byte_lt hlt 2) (byte_lt hlt 3)) (by decide)
  · split
    · exact printB_small _ (grL_len bs 8) (grL_lt bs hlt 8)
    · decide
theorem GoodA.inj {f g : Int} {xs ys : List Nat} (h : GoodA f xs) (h' : GoodA g ys) (e : printA f xs = printA g ys) : f = g ∧ xs = ys := by
  have h1 := h.parse
  rw [e, h'.parse] at h1
  have := Option.some.inj h1
  exact ⟨(congrArg Prod.fst this).symm, (congrArg Prod.snd this).symm⟩
theorem unmap_four (bs : List Nat) : unmapF 4 bs = 4 ∧ unmapB 4 bs = bs := ⟨rfl, rfl⟩
theorem mapL_lt (n : Nat) : ∀ x ∈ mapL n, x < 256 := by
  unfold mapL
  simp
  omega
theorem last4_mapL (n : Nat) (hn : n ≤ 4294967295) : last4 (mapL n) = n := by
  unfold last4 mapL
  simp
  omega
theorem unmap_mapL (n : Nat) (hn : n ≤ 4294967295) : unmapF 6 (mapL n) = 4 ∧ unmapB 6 (mapL n) = b4 n := by
  have hm : mappedB (grL (mapL n) 8) = true := by
    rw [← mapped_mapL _ (mapL_len n) (mapL_lt n), last4_mapL n hn, decide_eq_true rfl]
  have hi : isMap 6 (mapL n) = true := by unfold isMap; rw [hm]; rfl
  refine ⟨by unfold unmapF; rw [if_pos hi], ?_⟩
  unfold unmapB
  rw [if_pos hi, last4_gr, last4_mapL n hn]
/-- Unmapped, an address is as it was, or one of 32 bits. -/
theorem unmap_or (f : Int) (bs : List Nat) (hlt : ∀ x ∈ bs, x < 256) : (unmapF f bs = f ∧ unmapB f bs = bs ∧ isMap f bs = false) ∨ ∃ n, n ≤ 4294967295 ∧ unmapF f bs = 4 ∧ unmapB f bs = b4 n := by
  cases h : isMap f bs with
  | false => exact .inl ⟨by unfold unmapF; rw [h]; rfl, by unfold unmapB; rw [h]; rfl, rfl⟩
  | true => exact .inr ⟨last4 bs, last4_le bs hlt, by unfold unmapF; rw [if_pos h], by unfold unmapB; rw [if_pos h, last4_gr]⟩
theorem unmap_len (f : Int) (bs : List Nat) (h16 : bs.length = 16) (hlt : ∀ x ∈ bs, x < 256) : (unmapB f bs).length = 16 ∧ ∀ x ∈ unmapB f bs, x < 256 := by
  rcases unmap_or f bs hlt with ⟨_, e, _⟩ | ⟨n, _, _, e⟩
  · rw [e]; exact ⟨h16, hlt⟩
  · rw [e]; exact ⟨b4_len n, b4_lt n⟩
theorem unmap_unmap (f : Int) (bs : List Nat) (hlt : ∀ x ∈ bs, x < 256) : unmapF (unmapF f bs) (unmapB f bs) = unmapF f bs ∧ unmapB (unmapF f bs) (unmapB f bs) = unmapB f bs := by
  rcases unmap_or f bs hlt with ⟨e1, e2, _⟩ | ⟨n, _, e1, e2⟩
  · rw [e1, e2]; exact ⟨e1, e2⟩
  · rw [e1, e2]; exact unmap_four _
theorem mapB_four (bs : List Nat) (hlt : ∀ x ∈ bs, x < 256) : mapB 4 bs = mapL (fourB bs) := (show mapB 4 bs = byL (map8 (fourB bs)) from rfl).trans (map_map8 _ (fourB_le' bs hlt))
theorem map_len (f : Int) (bs : List Nat) (h16 : bs.length = 16) (hlt : ∀ x ∈ bs, x < 256) : (mapB f bs).length = 16 ∧ ∀ x ∈ mapB f bs, x < 256 := by
  by_cases h : f = 4
  · subst h; rw [mapB_four bs hlt]; exact ⟨mapL_len _, mapL_lt _⟩
  · rw [show mapB f bs = bs from if_neg h]; exact ⟨h16, hlt⟩
/-- What is mapped, and then unmapped, is what is unmapped. -/
theorem GoodA.back {f : Int} {bs : List Nat} (h : GoodA f bs) : unmapF (mapF f) (mapB f bs) = unmapF f bs ∧ unmapB (mapF f) (mapB f bs) = unmapB f bs := by
  cases h with
  | four n hn =>
    rw [mapB_four _ (b4_lt n), fourB_b4 n hn]
    exact unmap_mapL n hn
  | six _ h16 hlt => exact ⟨rfl, rfl⟩
theorem GoodA.four_back {f : Int} {bs : List Nat} (h : GoodA f bs) (h4 : f = 4) : mapF f = 6 ∧ unmapF f bs = f ∧ unmapB f bs = bs := by
  subst h4
  exact ⟨rfl, rfl, rfl⟩
theorem cmpL_range : ∀ xs ys : List Nat, cmpL xs ys = -1 ∨ cmpL xs ys = 0 ∨ cmpL xs ys = 1
  | [], _ => .inr (.inl (by cases ‹List Nat› <;> rfl))
  | _ :: _, [] => .inr (.inl rfl)
  | x :: xs, y :: ys => by
    rw [cmpL]
    split
    · exact .inl rfl
    · split
      · exact .inr (.inr rfl)
      · exact cmpL_range xs ys
theorem cmpL_neg : ∀ xs ys : List Nat, cmpL ys xs = - cmpL xs ys
  | [], [] => rfl
  | [], _ :: _ => rfl
  | _ :: _, [] => rfl
  | x :: xs, y :: ys => by
    have ih := cmpL_neg xs ys
    rw [cmpL, cmpL]
    by_cases h1 : x < y
    · rw [if_pos h1, if_neg (by omega), if_pos h1]; rfl
    · by_cases h2 : y < x
      · rw [if_pos h2, if_neg h1, if_pos h2]
      · rw [if_neg h2, if_neg h1, if_neg h1, if_neg h2, ih]
theorem cmpL_zero : ∀ xs ys : List Nat, xs.length = ys.length → (cmpL xs ys = 0 ↔ xs = ys)
  | [], [], _ => by simp [cmpL]
  | [], _ :: _, h => by cases h
  | _ :: _, [], h => by cases h
  | x :: xs, y :: ys, h => by
    have ih := cmpL_zero xs ys (by simpa using h)
    rw [cmpL]
    by_cases h1 : x < y
    · rw [if_pos h1]; simp; omega
    · by_cases h2 : y < x
      · rw [if_neg h1, if_pos h2]; simp; omega
      · rw [if_neg h1, if_neg h2, ih]
        simp
        omega
theorem cmpL_trans : ∀ xs ys zs : List Nat, xs.length = ys.length → ys.length = zs.length → cmpL xs ys ≤ 0 → cmpL ys zs ≤ 0 → cmpL xs zs ≤ 0
  | [], _, zs, _, _, _, _ => by cases zs <;> simp [cmpL]
  | _ :: _, _, [], h1, h2, _, _ => by rw [← h1] at h2; cases h2
  | x :: xs, [], z :: zs, h, _, _, _ => by cases h
  | x :: xs, y :: ys, z :: zs, h, h', a, b => by
    have ih := cmpL_trans xs ys zs (by simpa using h) (by simpa using h')
    rw [cmpL] at a b ⊢
    by_cases h1 : x < y
    · by_cases h2 : z < y
      · rw [if_neg (by omega), if_pos h2] at b; omega
      · rw [if_pos (by omega)]; decide
    · by_cases h2 : y < x
      · rw [if_neg h1, if_pos h2] at a; omega
      · obtain rfl : x = y := by omega
        rw [if_neg h1, if_neg h1] at a
        by_cases h3 : x < z
        · rw [if_pos h3]; decide
        · by_cases h4 : z < x
          · rw [if_neg h3, if_pos h4] at b; omega
          · rw [if_neg h3, if_neg h4] at b ⊢
            exact ih a b
theorem cmpA_range (f : Int) (xs : List Nat) (g : Int) (ys : List Nat) : cmpA f xs g ys = -1 ∨ cmpA f xs g ys = 0 ∨ cmpA f xs g ys = 1 := by
  unfold cmpA
  split
  · exact cmpL_range xs ys
  · split
    · exact .inl rfl
    · exact .inr (.inr rfl)
theorem cmpA_neg (f : Int) (xs : List Nat) (g : Int) (ys : List Nat) : cmpA g ys f xs = - cmpA f xs g ys := by
  unfold cmpA
  by_cases h : f = g
  · rw [if_pos h, if_pos h.symm]; exact cmpL_neg xs ys
  · rw [if_neg h, if_neg (fun e => h e.symm)]
    by_cases h1 : f < g
    · rw [if_pos h1, if_neg (by omega)]; rfl
    · rw [if_neg h1, if_pos (by omega)]
theorem cmpA_zero (f : Int) (xs : List Nat) (g : Int) (ys : List Nat) (hx : xs.length = 16) (hy : ys.length = 16) : cmpA f xs g ys = 0 ↔ (f = g ∧ xs = ys) := by
  unfold cmpA
  by_cases h : f = g
  · rw [if_pos h, cmpL_zero xs ys (by rw [hx, hy])]; simp [h]
  · rw [if_neg h]
    constructor
    · intro e; split at e <;> cases e
    · intro e; exact absurd e.1 h
theorem cmpA_trans (f : Int) (xs : List Nat) (g : Int) (ys : List Nat) (k : Int) (zs : List Nat) (hx : xs.length = 16) (hy : ys.length = 16) (hz : zs.length = 16) (a : cmpA f xs g ys ≤ 0) (b : cmpA g ys k zs ≤ 0) : cmpA f xs k zs ≤ 0 := by
  unfold cmpA at *
  by_cases h1 : f = g
  · subst h1
    rw [if_pos rfl] at a
    by_cases h2 : f = k
    · rw [if_pos h2] at b ⊢
      exact cmpL_trans xs ys zs (by rw [hx, hy]) (by rw [hy, hz]) a b
    · rw [if_neg h2] at b ⊢
      exact b
  · rw [if_neg h1] at a
    have h3 : f < g := by
      by_cases h : f < g
      · exact h
      · rw [if_neg h] at a; omega
    by_cases h2 : g = k
    · subst h2
      rw [if_neg h1, if_pos h3]; decide
    · rw [if_neg h2] at b
      have h4 : g < k := by
        by_cases h : g < k
        · exact h
        · rw [if_neg h] at b; omega
      rw [if_neg (by omega), if_pos (by omega)]; decide
/-- The document's example. -/
theorem example_parse : parseA (ofL [58, 58, 102, 102, 102, 102, 58, 49, 48, 46, 48, 46, 48, 46, 49]) = some (6, mapL 167772161) := by decide +kernel
theorem example_print : (printA 4 (b4 167772161)).data.toList = [49, 48, 46, 48, 46, 48, 46, 49] := by decide +kernel
end Go.Proofs.YtickghbjhiegnaaDoor
/- The document's example of layer 4; an address laid in a new variable. -/
namespace Go.Proofs.YtickghbjhiegnaaDoor
open Go.RowKit
set_option linter.unusedVariables false
set_option maxRecDepth 20000

theorem below_new {w W : World} {f : Int} {bs : List Nat} (h : Hid (W = (w.alloc (.cells zA 25)).setCells w.heap.size 0 (addrL f bs))) : Below w.heap.size w W := by
  rw [h.out]
  exact below_cells (Nat.le_refl _) _ _ _ ((Below.refl _ _).alloc (Nat.le_refl _) _)
theorem example_any (X : ByteArray) (h : X.data.toList = [58, 58, 102, 102, 102, 102, 58, 49, 48, 46, 48, 46, 48, 46, 49]) : parseA X = some (6, mapL 167772161) := by
  rw [show X = ofL [58, 58, 102, 102, 102, 102, 58, 49, 48, 46, 48, 46, 48, 46, 49] from eq_ofL h]
  exact example_parse
set_option maxRecDepth 100000 in
set_option maxHeartbeats 1000000 in
theorem lives4_any (w : World) (ht : Tabs w) :
    Calls Tryd.prog 13 #[] w fun e w' => e = .returned (.bool true) ∧ Below w.heap.size w w' := by
  have HU := Lib.hid (unmap_mapL 167772161 (by decide))
  have HML := Lib.hid (mapL_len 167772161)
  have HMT := Lib.hid (mapL_lt 167772161)
  have hp := example_print
  have HBL := Lib.hid (b4_len 167772161)
  have HBT := Lib.hid (b4_lt 167772161)
  have HX := Lib.hid example_any
  have HT := Lib.hid ht
  clear ht
  go_enter Tryd.func13, Tryd.ntmps13
  go_wp2_with fail
  refine (addrParse_any _ w (by decide) HT.out).mono ?_
  rintro e w1 ⟨rfl, hb1⟩
  rw [HX.out _ rfl]
  have HT1 := Lib.hid (HT.out.below hb1)
  clear HX HT
  simp only [addrRet]
  have HZ := Lib.hid (addr_zeroed w1)
  generalize mapL 167772161 = ms at *
  go_wp2_with (first | (refine store_addr HZ _ _ HML rfl rfl rfl rfl (fun W HW HA => ?_)) | refine load_addr_g HA _ rfl rfl rfl ?_)
  have hbW := below_new HW
  refine (addrUnmap_any 6 ms W HML.out HMT.out).mono ?_
  rintro e w2 ⟨rfl, hb2⟩
  rw [HU.out.1, HU.out.2]
  have HP := Lib.hid (addrPrint_any 4 (b4 167772161) w2 HBL.out HBT.out ((HT1.out.below hbW).below hb2))
  generalize b4 167772161 = bs at *
  generalize printA 4 bs = T at *
  have hlist : (T.toList == [49, 48, 46, 48, 46, 48, 46, 49]) = true := by rw [ByteArray.toList_eq, hp]; rfl
  have hlist2 : T.toList = [49, 48, 46, 48, 46, 48, 46, 49] := by rw [ByteArray.toList_eq, hp]
  have HB := Lib.hid (chain (chain hb1 hbW) hb2)
  clear hp hb1 hb2 hbW
  go_wp2_with fail
  refine HP.out.mono ?_
  rintro e w3 ⟨rfl, hb3⟩
  go_wp2_with fail
  go_ret
  exact ⟨rfl, chain HB.out hb3⟩
theorem byL_of_parse (s : ByteArray) (gs : List Nat) (h : parseB s = some gs) : (byL gs).length = 16 ∧ ∀ x ∈ byL gs, x < 256 := by
  obtain ⟨h1, h2⟩ := parseB_len s gs h
  exact ⟨by rw [byL_len, h1], byL_lt gs h2⟩
/-- What is read of a text. -/
theorem parseA_form (s : ByteArray) : ∃ (f : Int) (bs : List Nat) (b : Bool), addrRet (parseA s) = .tuple #[addrV f bs, .bool b] ∧ bs.length = 16 ∧ (∀ x ∈ bs, x < 256) ∧ mayB f bs = true := by
  unfold parseA
  cases hs : strictB s with
  | some n =>
    have hn := strictB_lt s n hs
    exact ⟨4, b4 n, true, rfl, b4_len n, b4_lt n, (GoodA.four n (by omega)).may⟩
  | none =>
    cases hp : parseB s with
    | some gs => obtain ⟨h1, h2⟩ := byL_of_parse s gs hp; exact ⟨6, byL gs, true, rfl, h1, h2, may6 _ h1⟩
    | none => exact ⟨0, List.replicate 16 0, false, rfl, rfl, by simp, by decide⟩
end Go.Proofs.YtickghbjhiegnaaDoor
/- What a tied card over strconv's three tables gives a walk: the table of powers of ten, in whatever later world. -/
namespace Go.Proofs.YtickghbjhiegnaaDoor
open Go.ChangeShapes Go.WideShapes Go.ChangeAt Go.RowKit
set_option linter.unusedVariables false
set_option maxRecDepth 20000

theorem gPow : Tryd.prog.globalNamed "internal/strconv.uint64pow10" = some 1 := by kernel_rfl
theorem tPow : (Tryd.prog.globals[1]?).map (·.type) = some 105 := by kernel_rfl
theorem dPow : (Rows.laid_internal_strconv_uint64pow10 : DataW Unit) = Lib.tabData .u64 Lib.pow10Tab := by kernel_rfl
theorem of_laid {W : World} (L) (hL : L = [("math/bits.deBruijn32tab", Rows.laid_math_bits_deBruijn32tab), ("math/bits.deBruijn64tab", Rows.laid_math_bits_deBruijn64tab), ("internal/strconv.uint64pow10", Rows.laid_internal_strconv_uint64pow10)]) (h : laidMetH Tryd.prog L W) :
    ∀ w', Below W.heap.size W w' → Lib.TabIs Tryd.prog w' "internal/strconv.uint64pow10" .u64 Lib.pow10Tab := by
  subst hL
  rw [MakeChecks.laidMetH_plain _ _ _ (by kernel_rfl)] at h
  obtain ⟨ps, ⟨g0, t0, cs0, f0, p0, q0, hg0, ht0, hv0, hd0, ⟨g1, t1, cs1, f1, p1, q1, hg1, ht1, hv1, hd1, ⟨g2, t2, cs2, f2, p2, q2, hg2, ht2, hv2, hd2, _, _⟩, _⟩, _⟩, _, _⟩ := h
  obtain rfl := Option.some.inj (gPow.symm.trans hg2)
  obtain rfl := Option.some.inj (tPow.symm.trans ht2)
  rw [dPow] at hd2
  have hcs := Lib.cells_of_tab Tryd.underlying105 Tryd.underlying93 (by kernel_rfl) (by kernel_rfl) hd2
  have htab : Lib.TabIs Tryd.prog W "internal/strconv.uint64pow10" .u64 Lib.pow10Tab := by
    unfold Lib.TabIs
    rw [hv2, ← hcs]
  intro w' hb
  have hc := htab.cell gPow 0 (by rw [Lib.pow10Tab_length]; decide)
  have hlt : 1 < W.heap.size := by
    rcases Nat.lt_or_ge 1 W.heap.size with h | h
    · exact h
    · simp [World.cell?, Array.getElem?_eq_none h] at hc
  exact var?_below hb gPow hlt htab
end Go.Proofs.YtickghbjhiegnaaDoor
/- What a tied card over three tables of the library, and the world's shape, give a walk: the tables' cells, and that MaxLen holds some number. -/
namespace Go.Proofs.YtickghbjhiegnaaDoor
open Go.ChangeShapes Go.WideShapes Go.ChangeAt Go.RowKit
set_option linter.unusedVariables false
set_option maxRecDepth 20000

def bruTab : List Int := [0, 1, 56, 2, 57, 49, 28, 3, 61, 58, 42, 50, 38, 29, 17, 4, 62, 47, 59, 36, 45, 43, 51, 22, 53, 39, 33, 30, 24, 18, 12, 5, 63, 55, 48, 27, 60, 41, 37, 16, 46, 35, 44, 21, 52, 32, 23, 11, 54, 26, 40, 15, 34, 20, 31, 10, 25, 14, 19, 9, 13, 8, 7, 6]
theorem gBru : Tryd.prog.globalNamed "math/bits.deBruijn64tab" = some 3 := by kernel_rfl
theorem tBru : (Tryd.prog.globals[3]?).map (·.type) = some 110 := by kernel_rfl
theorem dBru : (Rows.laid_math_bits_deBruijn64tab : DataW Unit) = Lib.tabData .u8 bruTab := by kernel_rfl
theorem max_of {W : World} (hsh : W.ShapedOpen Tryd.prog) : ∃ m, W.cell? ⟨0, 0, none⟩ = some (.int .i64 m) :=
  cell_of_shapedOpen_int (P := Tryd.prog) (t := 3) (zero := #[.int .i64 0]) hsh (by decide +kernel) (by kernel_rfl) rfl (by kernel_rfl) (by kernel_rfl) Tryd.underlying3
theorem tabs_of {W : World} (L) (hL : L = [("math/bits.deBruijn32tab", Rows.laid_math_bits_deBruijn32tab), ("math/bits.deBruijn64tab", Rows.laid_math_bits_deBruijn64tab), ("internal/strconv.uint64pow10", Rows.laid_internal_strconv_uint64pow10)]) (h : laidMetH Tryd.prog L W) (hsh : W.ShapedOpen Tryd.prog) : Tabs W := by
  refine ⟨of_laid L hL h W (Below.refl _ _), ?_, max_of hsh⟩
  subst hL
  rw [MakeChecks.laidMetH_plain _ _ _ (by kernel_rfl)] at h
  obtain ⟨ps, ⟨g0, t0, cs0, f0, p0, q0, hg0, ht0, hv0, hd0, ⟨g1, t1, cs1, f1, p1, q1, hg1, ht1, hv1, hd1, _, _⟩, _⟩, _, _⟩ := h
  obtain rfl := Option.some.inj (gBru.symm.trans hg1)
  obtain rfl := Option.some.inj (tBru.symm.trans ht1)
  rw [dBru] at hd1
  have hcs := Lib.cells_of_tab Tryd.underlying110 Tryd.underlying5 (by kernel_rfl) (by kernel_rfl) hd1
  have htab : Lib.TabIs Tryd.prog W "math/bits.deBruijn64tab" .u8 bruTab := by
    unfold Lib.TabIs
    rw [hv1, ← hcs]
  exact htab.cell gBru 15 (by decide)

/-- The row's step, with the world's shape handed to the walk. -/
theorem handed_shaped {H : Type} {enc : TypeId × Value → H} {a : Assume} {C : Checked} {os : Os} {f : FuncId} {fn : Func} {s : ChangeSpec} {conds : List PathCond} {apart fresh handsOn again : Bool} {X : World → Array Value → Prop}
    (hX : ∀ (w w' : World) (args : Array Value), w.heap = w'.heap → X w args → X w' args)
    (own : ownKnob C.prog.godebug = none) (started : os.Started) (noInit : C.prog.inits.idxOf? f = none) (hfn : C.prog.funcs[f]? = some fn)
    (witness : ∃ (w : World) (tape : Tape) (i : Input), w.os = os ∧ (w.forCall tape i).Shaped C.prog ∧ i.vars = [] ∧ Input.okWide C.prog (w.forCall tape i) .any w.heap.size f i ∧
      ((s.pre enc C.prog fn conds apart (w.forCall tape i).memory i.args ∧ X (w.forCall tape i).memory i.args) ∧ sizedMet enc C.prog fn (OpenSpec.ofChange s) apart (w.forCall tape i).memory i.args) ∧ a.holds C.prog (lone (Frame.enter C.prog f i.args .normal) [] (w.forCall tape i)))
    (contract : ∀ (W : World) (base : Nat) (args : Array Value) (ds gs : List (DataW H)) (before : List MemPlace),
      (∀ (j : Nat) t v, fn.params[j]? = some t → args[j]? = some v → Value.okWide C.prog W .any base t v) →
      DataW.Whole enc C.prog fn.params.toList s.vars apart W args.toList ds gs before → X W args → W.ShapedOpen C.prog →
      Calls C.prog f args W fun e W' => ∃ v, e = .returned v ∧ s.post enc C.prog fn apart fresh handsOn again W args v W') :
    ReturnsInHanded a C os f .any (fun w args => (s.pre enc C.prog fn conds apart w args ∧ X w args) ∧ sizedMet enc C.prog fn (OpenSpec.ofChange s) apart w args) (s.post enc C.prog fn apart fresh handsOn again) := by
  refine returnsInHanded_of_calls own started noInit witness fun w tape i _ hsh _ hok hpre _ => ?_
  obtain ⟨_, _, _, fn', hfn', _, _, _, _, hval⟩ := hok
  obtain rfl : fn' = fn := Option.some.inj (hfn'.symm.trans hfn)
  obtain ⟨⟨⟨ds, gs, before, hw, _⟩, hx⟩, _⟩ := hpre
  refine (contract _ _ i.args ds gs before hval (DataW.Whole.of_heap (w' := w.forCall tape i) (by rfl) hw) (hX _ _ _ (by rfl) hx) hsh).mono fun e W' ⟨v, he, hp⟩ => ?_
  subst he
  exact ChangeSpec.post_blind hp

/-- An array of groups that came in, as the list of its numbers. -/
theorem groups_of (z0 : List Int) (l0 : z0.length = 8) (w0 : ∀ z ∈ z0, (Lit.int .u16 z).wf = true) : ∃ gs : List Nat, gs.length = 8 ∧ (∀ x ∈ gs, x < 65536) ∧ Value.agg (z0.map (Value.int .u16)).toArray = arr8 gs := by
  refine ⟨z0.map Int.toNat, by simpa using l0, ?_, ?_⟩
  · intro x hx
    obtain ⟨z, hz, rfl⟩ := List.mem_map.1 hx
    have := bounds_u16 (w0 z hz)
    omega
  · unfold arr8
    rw [List.map_map]
    congr 2
    apply List.map_congr_left
    intro z hz
    have := bounds_u16 (w0 z hz)
    show Value.int .u16 z = Value.int .u16 ((z.toNat : Nat) : Int)
    congr 1
    omega
end Go.Proofs.YtickghbjhiegnaaDoor
/- Contract of addr.Bits. -/
namespace Go.Proofs.YtickghbjhiegnaaDoor
open Go.RowKit
set_option linter.unusedVariables false
set_option maxRecDepth 20000

set_option maxRecDepth 100000 in
set_option maxHeartbeats 1000000 in
theorem addrBits_any (f : Int) (bs : List Nat) (w : World) (h16 : bs.length = 16) :
    Calls Tryd.prog 28 #[addrV f bs] w fun e w' => e = .returned (.int .i64 ((bitsN f : Nat) : Int)) ∧ Below w.heap.size w w' := by
  obtain ⟨cs, ecs, HA, HB⟩ := addr_boxed f bs w h16
  rw [ecs]
  clear ecs h16
  go_enter Tryd.func28, Tryd.ntmps28
  go_upto_region 1 with fail
  generalize (w.alloc (.cells cs 25)) = W at *
  have hfam := HA.out.fam
  by_cases h4 : f = 4
  · subst h4
    go_wp2_with fail
    go_ret
    exact ⟨rfl, HB.out⟩
  · by_cases h6 : f = 6
    · subst h6
      go_wp2_with fail
      go_ret
      exact ⟨rfl, HB.out⟩
    · have HE : Hid (bitsN f = 0) := Lib.hid (by unfold bitsN; rw [if_neg h4, if_neg h6])
      have g4 : (f == 4) = false := by simp [h4]
      have g6 : (f == 6) = false := by simp [h6]
      go_wp2_with fail
      go_ret
      exact ⟨by rw [HE.out]; rfl, HB.out⟩
end Go.Proofs.YtickghbjhiegnaaDoor
/- Contract of the reference's Bit of layer 4. -/
namespace Go.Proofs.YtickghbjhiegnaaDoor
open Go.RowKit
set_option linter.unusedVariables false
set_option maxRecDepth 20000

/-- The bit at a place. -/
def bitN (f : Int) (bs : List Nat) (i : Int) : Nat := if 0 ≤ i ∧ i < (bitsN f : Int) then bs.getD (i.toNat / 8) 0 / 2 ^ (7 - i.toNat % 8) % 2 else 0
theorem bitsN_le (f : Int) : bitsN f ≤ 128 := by
  unfold bitsN
  split
  · decide
  · split <;> decide
set_option maxRecDepth 100000 in
set_option maxHeartbeats 1000000 in
theorem refBit_any (f : Int) (bs : List Nat) (i : Int) (w : World) (h16 : bs.length = 16) (hlt : ∀ x ∈ bs, x < 256) (hi : (Lit.int .i64 i).wf = true) :
    Calls Tryd.prog 31 #[addrV f bs, .int .i64 i] w fun e w' => e = .returned (.int .i64 ((bitN f bs i : Nat) : Int)) ∧ Below w.heap.size w w' := by
  have HLT := Lib.hid hlt
  have HB := fun W => Lib.hid (refBits_any f bs W h16)
  obtain ⟨y0, y1, y2, y3, y4, y5, y6, y7, y8, y9, y10, y11, y12, y13, y14, y15, hbs⟩ := list16 bs h16
  have ha : addrV f bs = .agg #[.int .i64 f, .int .u8 (y0 : Int), .int .u8 (y1 : Int), .int .u8 (y2 : Int), .int .u8 (y3 : Int), .int .u8 (y4 : Int), .int .u8 (y5 : Int), .int .u8 (y6 : Int), .int .u8 (y7 : Int), .int .u8 (y8 : Int), .int .u8 (y9 : Int), .int .u8 (y10 : Int), .int .u8 (y11 : Int), .int .u8 (y12 : Int), .int .u8 (y13 : Int), .int .u8 (y14 : Int), .int .u8 (y15 : Int)] := by rw [hbs]; rfl
  rw [ha]
  rw [ha] at HB
  have hA := AddrAt.new w 25 f y0 y1 y2 y3 y4 y5 y6 y7 y8 y9 y10 y11 y12 y13 y14 y15
  rw [← hbs] at hA
  have B0 : Hid (Below w.heap.size w (w.alloc (.cells #[.int .i64 f, .int .u8 (y0 : Int), .int .u8 (y1 : Int), .int .u8 (y2 : Int), .int .u8 (y3 : Int), .int .u8 (y4 : Int), .int .u8 (y5 : Int), .int .u8 (y6 : Int), .int .u8 (y7 : Int), .int .u8 (y8 : Int), .int .u8 (y9 : Int), .int .u8 (y10 : Int), .int .u8 (y11 : Int), .int .u8 (y12 : Int), .int .u8 (y13 : Int), .int .u8 (y14 : Int), .int .u8 (y15 : Int)] 25))) := Lib.hid ((Below.refl _ _).alloc (Nat.le_refl _) _)
  have HA := Lib.hid hA
  clear ha hbs h16 hlt hA
  by_cases h0 : i < 0
  · rw [show bitN f bs i = 0 from if_neg (by omega)]
    go_enter Tryd.func31, Tryd.ntmps31
    go_wp2_with fail
    go_ret
    exact ⟨rfl, B0.out⟩
  · obtain ⟨n, rfl⟩ : ∃ n : Nat, i = (n : Int) := ⟨i.toNat, by omega⟩
    have hb := bitsN_le f
    obtain ⟨N, eN⟩ : ∃ N, bitsN f = N := ⟨_, rfl⟩
    have EN := Lib.hid eN
    rw [eN] at HB hb
    clear eN
    replace h0 : ¬ ((n : Int) < 0) := by omega
    go_enter Tryd.func31, Tryd.ntmps31
    go_wp2_with fail
    generalize (w.alloc (.cells #[.int .i64 f, .int .u8 (y0 : Int), .int .u8 (y1 : Int), .int .u8 (y2 : Int), .int .u8 (y3 : Int), .int .u8 (y4 : Int), .int .u8 (y5 : Int), .int .u8 (y6 : Int), .int .u8 (y7 : Int), .int .u8 (y8 : Int), .int .u8 (y9 : Int), .int .u8 (y10 : Int), .int .u8 (y11 : Int), .int .u8 (y12 : Int), .int .u8 (y13 : Int), .int .u8 (y14 : Int), .int .u8 (y15 : Int)] 25)) = W at *
    refine (HB W).out.mono ?_
    rintro e w1 ⟨rfl, hb1⟩
    have HA1 := Lib.hid (HA.out.below hb1)
    have B1 := Lib.hid (chain B0.out hb1)
    clear HA B0 hb1 HB
    by_cases hn : n < N
    · have hq : n / 8 < 16 := by omega
      have hcell := HA1.out.cells (n / 8) hq
      have hx := byte_lt HLT.out (n / 8)
      have HR : Hid (bitN f bs (n : Int) = bs.getD (n / 8) 0 / 2 ^ (7 - n % 8) % 2) := Lib.hid (by
        unfold bitN
        rw [EN.out, if_pos (by omega)]
        rfl)
      generalize bs.getD (n / 8) 0 = x at *
      obtain ⟨q, eq, hq2⟩ : ∃ q : Nat, n / 8 = q ∧ (n : Int) / 8 = (q : Int) := ⟨_, rfl, by omega⟩
      obtain ⟨r, er, hr2⟩ : ∃ r : Nat, n % 8 = r ∧ (n : Int) % 8 = (r : Int) := ⟨_, rfl, by omega⟩
      have hr : r ≤ 7 := by omega
      rw [eq] at hcell hq
      rw [er] at HR
      have q16 : (q : Int) < 16 := by omega
      have d1 : (n : Int).tdiv 8 = (q : Int) := by rw [Int.tdiv_eq_ediv_of_nonneg (by omega)]; exact hq2
      have d2 : (n : Int).tmod 8 = (r : Int) := by rw [Int.tmod_eq_emod_of_nonneg (by omega)]; exact hr2
      clear eq er
      go_wp2_with fail
      go_loop [5, 6] (fun c k => ∃ m C : Nat, r ≤ m ∧ m ≤ 7 ∧ k = .int .i64 (m : Int) ∧ c = .int .i64 (C : Int) ∧ C < 256 ∧ Hid (C = x / 2 ^ (m - r))) (fun _ k => 7 - (intOf k).toNat)
      case atStart => exact ⟨r, x, Nat.le_refl _, hr, by go_num, by go_num, hx, Lib.hid (by simp)⟩
      case round =>
        obtain ⟨m, C, hm1, hm2, rfl, rfl, hC, HC⟩ := hrel
        by_cases hm7 : m < 7
        · have HC2 : Hid (C / 2 = x / 2 ^ (m + 1 - r)) := Lib.hid (by rw [HC.out, show m + 1 - r = (m - r) + 1 by omega, Nat.pow_succ, Nat.div_div_eq_div_mul])
          have t2 : (C : Int).tdiv 2 = ((C / 2 : Nat) : Int) := by rw [Int.tdiv_eq_ediv_of_nonneg (by omega)]; omega
          go_wp2_with fail
          go_round
          case rel => exact ⟨m + 1, C / 2, by omega, by omega, by go_num, by first | rfl | go_num, by omega, HC2⟩
          case measure => simp [intOf]; omega
        · obtain rfl : m = 7 := by omega
          have HE : Hid (bitN f bs (n : Int) = C % 2) := Lib.hid (by rw [HR.out, HC.out])
          have t3 : (C : Int).tmod 2 = ((C % 2 : Nat) : Int) := by rw [Int.tmod_eq_emod_of_nonneg (by omega)]; omega
          go_wp2_with fail
          go_ret
          exact ⟨by rw [HE.out]; first | rfl | (congr 2; omega), B1.out⟩
    · have HR : Hid (bitN f bs (n : Int) = 0) := Lib.hid (by unfold bitN; rw [EN.out, if_neg (by omega)])
      go_wp2_with fail
      go_ret
      exact ⟨by rw [HR.out]; rfl, B1.out⟩
end Go.Proofs.YtickghbjhiegnaaDoor
/- Contract of addr.Bit. -/
namespace Go.Proofs.YtickghbjhiegnaaDoor
open Go.RowKit
set_option linter.unusedVariables false
set_option maxRecDepth 20000

theorem bit_and_all : ∀ y : Fin 256, bits .and .i64 (wrap64 ((y.val : Nat) : Int)) 1 = ((y.val % 2 : Nat) : Int) := by decide +kernel
theorem bit_and (y : Nat) (h : y < 256) : bits .and .i64 (wrap64 ((y : Nat) : Int)) 1 = ((y % 2 : Nat) : Int) := bit_and_all ⟨y, h⟩
set_option maxRecDepth 100000 in
set_option maxHeartbeats 1000000 in
theorem addrBit_any (f : Int) (bs : List Nat) (i : Int) (w : World) (h16 : bs.length = 16) (hlt : ∀ x ∈ bs, x < 256) (hi : (Lit.int .i64 i).wf = true) :
    Calls Tryd.prog 30 #[addrV f bs, .int .i64 i] w fun e w' => e = .returned (.int .i64 ((bitN f bs i : Nat) : Int)) ∧ Below w.heap.size w w' := by
  have HLT := Lib.hid hlt
  have HB0 := fun W => Lib.hid (addrBits_any f bs W h16)
  obtain ⟨cs, ecs, HA, HB⟩ := addr_boxed f bs w h16
  rw [ecs]
  clear ecs h16 hlt
  by_cases h0 : i < 0
  · rw [show bitN f bs i = 0 from if_neg (by omega)]
    go_enter Tryd.func30, Tryd.ntmps30
    go_upto_region 1 with fail
    generalize (w.alloc (.cells cs 25)) = W at *
    go_wp2_with fail
    go_ret
    exact ⟨rfl, HB.out⟩
  · obtain ⟨n, rfl⟩ : ∃ n : Nat, i = (n : Int) := ⟨i.toNat, by omega⟩
    have hb := bitsN_le f
    obtain ⟨N, eN⟩ : ∃ N, bitsN f = N := ⟨_, rfl⟩
    have EN := Lib.hid eN
    rw [eN] at HB0 hb
    clear eN
    replace h0 : ¬ ((n : Int) < 0) := by omega
    go_enter Tryd.func30, Tryd.ntmps30
    go_upto_region 1 with fail
    generalize (w.alloc (.cells cs 25)) = W at *
    go_wp2_with (refine load_addr_g HA _ rfl rfl rfl ?_)
    refine (HB0 W).out.mono ?_
    rintro e w1 ⟨rfl, hb1⟩
    have HA1 := Lib.hid (HA.out.below hb1)
    have B1 := Lib.hid (chain HB.out hb1)
    clear HA HB hb1 HB0
    by_cases hn : n < N
    · have hq : n / 8 < 16 := by omega
      have hcell := HA1.out.cells (n / 8) hq
      have hx := byte_lt HLT.out (n / 8)
      have HR : Hid (bitN f bs (n : Int) = bs.getD (n / 8) 0 / 2 ^ (7 - n % 8) % 2) := Lib.hid (by
        unfold bitN
        rw [EN.out, if_pos (by omega)]
        rfl)
      generalize bs.getD (n / 8) 0 = x at *
      obtain ⟨q, eq, hq2⟩ : ∃ q : Nat, n / 8 = q ∧ (n : Int) / 8 = (q : Int) := ⟨_, rfl, by omega⟩
      obtain ⟨r, er, hr2⟩ : ∃ r : Nat, n % 8 = r ∧ (n : Int) % 8 = (r : Int) := ⟨_, rfl, by omega⟩
      have hr : r ≤ 7 := by omega
      rw [eq] at hcell hq
      rw [er] at HR
      have q16 : (q : Int) < 16 := by omega
      have d1 : (n : Int).tdiv 8 = (q : Int) := by rw [Int.tdiv_eq_ediv_of_nonneg (by omega)]; exact hq2
      have d2 : (n : Int).tmod 8 = (r : Int) := by rw [Int.tmod_eq_emod_of_nonneg (by omega)]; exact hr2
      clear eq er
      go_wp2_with fail
      go_ret
      refine ⟨?_, B1.out⟩
      rw [HR.out]
      have hy : x / 2 ^ (7 - r) < 256 := Nat.lt_of_le_of_lt (Nat.div_le_self _ _) hx
      have e1 := bit_and (x / 2 ^ (7 - r)) hy
      rw [show (((x / 2 ^ (7 - r) : Nat) : Int)) = (x : Int) / 2 ^ (7 - r) by norm_cast] at e1
      exact congrArg (fun z => Ending.returned (Value.int IntKind.i64 z)) e1
    · have HR : Hid (bitN f bs (n : Int) = 0) := Lib.hid (by unfold bitN; rw [EN.out, if_neg (by omega)])
      go_wp2_with fail
      go_ret
      exact ⟨by rw [HR.out]; rfl, B1.out⟩
end Go.Proofs.YtickghbjhiegnaaDoor
