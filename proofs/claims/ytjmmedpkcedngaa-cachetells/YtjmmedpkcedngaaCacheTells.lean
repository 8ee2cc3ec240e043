/- CacheTells (P10.3): what is put is told, by whatever letters, until it is over, and not then; what is answered is memory of its own. -/
import Derived.Test.YtjmmedpkcedngaaB6
import Derived.Test.YtjmmedpkcedngaaRows
import Derived.ProofKit
import Derived.OpenShut
import Derived.ShutString
import Derived.ChangeOld
import Derived.Below
namespace Go.Proofs.Ytjmmedpkcedngaa.cacheTells
open Go.ChangeShapes Go.WideShapes Go.ChangeAt Go.RowKit
open Go.ChangeMaps (open_string shut_string)
set_option linter.unusedVariables false
set_option maxRecDepth 20000

theorem own : ownKnob Try.prog.godebug = none := by kernel_rfl

theorem takeAds {w : World} {a : Option Addr} {cap : Nat} {D : List Ad} (h : AdsIn w a cap D) (k : Nat) : AdsIn w a cap (D.take k) := by
  obtain ⟨⟨h1, h2, h3, h4⟩, h5⟩ := h
  refine ⟨⟨by rw [List.length_take]; omega, h2, fun r hr => h3 r (List.mem_of_mem_take hr), ?_⟩, h5⟩
  rcases h4 with h4 | ⟨g, o, e, hg, hr⟩
  · exact .inl (by rw [List.length_take]; omega)
  · refine .inr ⟨g, o, e, hg, fun j u hu => hr j u ?_⟩
    rw [← List.take_append_drop k D, List.flatMap_append]
    have hj : j < ((D.take k).flatMap adL).length := by
      apply Classical.byContradiction
      intro h
      rw [List.getElem?_eq_none (by omega)] at hu
      cases hu
    rw [List.getElem?_append_left hj]
    exact hu
set_option maxRecDepth 100000 in
set_option maxHeartbeats 4000000 in
theorem walk (s0 : ByteArray) (kind : Int) (a : Option Addr) (len cap : Nat) (D0 : List Ad) (ttl0 now0 : Int) (w : World) (hs : s0.size ≤ maxLen) (h1 : (Lit.int .i64 kind).wf = true) (hD : D0.length = len ∧ AdsIn w a cap D0) (h3 : (Lit.int .i64 ttl0).wf = true) (h4 : (Lit.int .i64 now0).wf = true) :
    Calls Try.prog 4 #[.string s0, .int .i64 kind, .slice a len cap, .int .i64 ttl0, .int .i64 now0] w fun e w' => e = .returned (.bool true) ∧ Below w.heap.size w w' := by
  have HFW := fun W => Lib.hid (few_any s0 20 W hs (by decide))
  have hfs := few_size s0 20
  obtain ⟨s, hs20⟩ : ∃ s, few s0 20 = s := ⟨_, rfl⟩
  rw [hs20] at HFW hfs
  have hsz : s.size ≤ 2000000 := by omega
  have HNW := fun W => Lib.hid (new_any 2 W)
  have hr : min (max (2 : Int) 1) 64 = 2 := by decide
  rw [hr] at HNW
  have HAN := fun W => Lib.hid (around_any now0 1099511627777 W h4 (by decide) (by decide))
  have HAT := fun W => Lib.hid (around_any ttl0 1000 W h3 (by decide) (by decide))
  have hnow := aroundN_lt now0 1099511627777 (by decide)
  have hta := aroundN_lt ttl0 1000 (by decide)
  have HLV := fun W => Lib.hid (lives10_any W)
  have HLOW := fun W => Lib.hid (refLower_any s W hsz)
  have hbt := bounds_i64 h3
  generalize aroundN now0 1099511627777 = now at *
  generalize aroundN ttl0 1000 = ta at *
  obtain ⟨X, hX⟩ : ∃ X, lowB s = X := ⟨_, rfl⟩
  have hXX : lowB X = X := by rw [← hX]; exact lowB_low s
  have hXs : X.size ≤ 2000000 := by rw [← hX, lowB_size]; exact hsz
  rw [hX] at HLOW
  obtain ⟨k2, hk2⟩ : ∃ k2, IntKind.i64.wrap (kind + 1) = k2 := ⟨_, rfl⟩
  have hbk := bounds_i64 h1
  have hk2b : k2 ≠ kind ∧ (Lit.int .i64 k2).wf = true := by
    rw [IntKind.wrap_i64] at hk2
    exact ⟨by omega, WalkArith.wf_i64 ⟨by omega, by omega⟩⟩
  have HDD := Lib.hid hD
  have hcm := hD.2.1.2.1
  have hlc := hD.2.1.1
  rw [hD.1] at hlc
  unfold maxLen at hcm
  clear hs hs20 hfs hD hr h4
  go_enter Try.func4, Try.ntmps4
  go_wp2_with fail
  refine (HFW _).out.mono ?_
  rintro e w1 ⟨rfl, rfl⟩
  clear HFW
  go_upto_if 30 with fail
  go_cut [2] from 26 (fun s2 wx => ∃ L : List Ad, L.length ≤ 3 ∧ s2 = .slice a L.length cap ∧ Hid (AdsIn w a cap L) ∧ wx = w)
  case first =>
    by_cases h3 : 3 < len
    · have hd : decide ((3 : Int) < (len : Int)) = true := decide_eq_true (by omega)
      have hdn : decide (3 < len) = true := decide_eq_true h3
      try rw [hd]
      try rw [hdn]
      have hne : ∃ y, a = some y := by
        rcases HDD.out.2.1.2.2.2 with h | ⟨g, o, e, _⟩
        · rw [HDD.out.1] at h; omega
        · exact ⟨_, e⟩
      obtain ⟨y, hy⟩ := hne
      subst hy
      have hcp3 : 3 ≤ cap := by omega
      have hcpi : ¬ ((cap : Int) < 3) := by omega
      have hcp0 : ¬ (cap = 0) := by omega
      have HL : Hid ((D0.take 3).length = 3) := Lib.hid (by rw [List.length_take, HDD.out.1]; omega)
      go_wp2_with fail
      go_meet
      case rel => exact ⟨D0.take 3, by rw [HL.out]; exact Nat.le_refl _, by rw [HL.out], Lib.hid (takeAds HDD.out.2 3), rfl⟩
    · have hd : decide ((3 : Int) < (len : Int)) = false := decide_eq_false (by omega)
      have hdn : decide (3 < len) = false := decide_eq_false h3
      try rw [hd]
      try rw [hdn]
      go_wp2_with fail
      go_meet
      case rel => exact ⟨D0, by rw [HDD.out.1]; omega, by rw [HDD.out.1], Lib.hid HDD.out.2, rfl⟩
  case rest =>
    obtain ⟨L, hL3, rfl, HL, rfl⟩ := hcut
    clear HDD
    obtain ⟨n, hn⟩ : ∃ n, L.length = n := ⟨_, rfl⟩
    have HN := Lib.hid hn
    rw [hn] at hL3 ⊢
    clear hn
    go_wp2_with fail
    refine (HAN _).out.mono ?_
    rintro e w2 ⟨rfl, rfl⟩
    clear HAN
    go_upto_if 36 with fail
    go_cut [3] from 26 (fun s3 wx => ∃ ttl : Int, s3 = .int .i64 ttl ∧ 1 ≤ ttl ∧ ttl ≤ 9223372036854775807 ∧ wx = wc)
    case first =>
      by_cases ht : ttl0 < 1
      · have hd : decide (ttl0 < 1) = true := decide_eq_true ht
        try rw [hd]
        have hw : IntKind.i64.wrap (1 + (ta : Int)) = 1 + (ta : Int) := by rw [IntKind.wrap_i64]; omega
        go_wp2_with fail
        refine (HAT _).out.mono ?_
        rintro e w3 ⟨rfl, rfl⟩
        go_wp2_with fail
        go_meet
        case rel => exact ⟨_, rfl, by omega, by omega, rfl⟩
      · have hd : decide (ttl0 < 1) = false := decide_eq_false ht
        try rw [hd]
        go_wp2_with fail
        go_meet
        case rel => exact ⟨_, rfl, by omega, by omega, rfl⟩
    case rest =>
      obtain ⟨ttl, rfl, ht1, ht2, rfl⟩ := hcut
      obtain ⟨U, hU⟩ : ∃ U, (now : Int) + min ttl 604800 = U := ⟨_, rfl⟩
      have hwU : IntKind.i64.wrap ((now : Int) + min ttl 604800) = U := by rw [IntKind.wrap_i64]; omega
      have hwU1 : IntKind.i64.wrap (U - 1) = U - 1 := by rw [IntKind.wrap_i64]; omega
      have hnU : (now : Int) < U := by omega
      have HPU : Hid (∀ G b W, CacAt W G b 2 [] → AdsIn W a cap L → Calls Try.prog 17 #[.pointer (some ⟨G, 0, none⟩), .string s, .int .i64 kind, .slice a n cap, .int .i64 ttl, .int .i64 (now : Int)] W fun e w' => ∃ v a' c', e = .returned v ∧ CacAt w' G b 2 [⟨X, kind, a', n, c', U⟩] ∧ AdsIn w' a' c' L ∧ W.grownBy w' (some b)) := Lib.hid (fun G b W hc ha => by
        rw [← HN.out]
        refine (put_any G b 2 [] s kind ttl (now : Int) a cap L W hc hsz h1 ht1 (by omega) (by omega) ha (by rw [HN.out]; omega)).mono ?_
        rintro e w' ⟨a', c', he, hc', ha', hg⟩
        rw [putC_first _ _ _ (by decide), hU, hX, HN.out] at hc'
        rw [HN.out]
        exact ⟨_, a', c', he, hc', ha', hg⟩)
      clear hU hcm hlc hta hbt h3 HAT
      go_wp2_with fail
      refine (HNW _).out.mono ?_
      rintro e w2 ⟨G, b, rfl, hc2, hG2, hb2, hbl2⟩
      have HGB : Hid (wc.heap.size ≤ b) := Lib.hid hb2
      have HP2 := Lib.hid (HPU.out G b w2 hc2 (HL.out.below hbl2))
      have HB2 := Lib.hid hbl2
      clear HNW hc2 hG2 hb2 hbl2 HPU
      go_wp2_with fail
      refine HP2.out.mono ?_
      rintro e w3 ⟨v3, a3, c3, rfl, hc3, had3, hg3⟩
      have HA3 := Lib.hid hc3
      have HAD3 := Lib.hid had3
      have HB3 := Lib.hid (Below.cacheOp HB2.out hg3 HGB.out HB2.out.size)
      clear hc3 had3 hg3 HP2 HB2
      -- what Get tells of the entry
      have HGE : Hid (∀ W t, Below w3.heap.size w3 W → t < U → Calls Try.prog 18 #[.pointer (some ⟨G, 0, none⟩), .string s, .int .i64 kind, .int .i64 t] W fun e w' => ∃ a' c', e = .returned (.tuple #[.slice a' n c', .bool true]) ∧ RowA w' W.heap.size (.slice a' n c') L ∧ Below W.heap.size W w') := Lib.hid (fun W t hb ht => by
        refine (get_any G b 2 [⟨X, kind, a3, n, c3, U⟩] s kind t W (HA3.out.below hb) hsz h1 L (by
          intro e he
          obtain ⟨h1, _⟩ := getE_some he
          simp at h1
          subst h1
          exact ⟨HN.out.symm, HAD3.out.below hb⟩) (by rw [HN.out]; omega)).mono ?_
        rintro e w' ⟨hgot, hb'⟩
        have hge : getE [⟨X, kind, a3, n, c3, U⟩] (lowB s) kind = some ⟨X, kind, a3, n, c3, U⟩ := getE_mem HA3.out.so.apart (by simp) (by rw [hX]; rfl)
        have hth : theE [⟨X, kind, a3, n, c3, U⟩] (lowB s) kind = ⟨X, kind, a3, n, c3, U⟩ := by unfold theE; rw [hge]; rfl
        rw [hge, hth] at hgot
        rcases hgot with ⟨h | h, _⟩ | ⟨_, _, v, rfl, hr⟩
        · cases h
        · exfalso; have : U ≤ t := h; omega
        · obtain ⟨a', c', rfl, _⟩ := hr.ads
          rw [HN.out] at hr
          exact ⟨a', c', by rw [HN.out], hr, hb'⟩)
      have HGX : Hid (∀ W t, Below w3.heap.size w3 W → t < U → Calls Try.prog 18 #[.pointer (some ⟨G, 0, none⟩), .string X, .int .i64 kind, .int .i64 t] W fun e w' => ∃ a' c', e = .returned (.tuple #[.slice a' n c', .bool true]) ∧ RowA w' W.heap.size (.slice a' n c') L ∧ Below W.heap.size W w') := Lib.hid (fun W t hb ht => by
        refine (get_any G b 2 [⟨X, kind, a3, n, c3, U⟩] X kind t W (HA3.out.below hb) hXs h1 L (by
          intro e he
          obtain ⟨h1, _⟩ := getE_some he
          simp at h1
          subst h1
          exact ⟨HN.out.symm, HAD3.out.below hb⟩) (by rw [HN.out]; omega)).mono ?_
        rintro e w' ⟨hgot, hb'⟩
        have hge : getE [⟨X, kind, a3, n, c3, U⟩] (lowB X) kind = some ⟨X, kind, a3, n, c3, U⟩ := getE_mem HA3.out.so.apart (by simp) (by rw [hXX]; rfl)
        have hth : theE [⟨X, kind, a3, n, c3, U⟩] (lowB X) kind = ⟨X, kind, a3, n, c3, U⟩ := by unfold theE; rw [hge]; rfl
        rw [hge, hth] at hgot
        rcases hgot with ⟨h | h, _⟩ | ⟨_, _, v, rfl, hr⟩
        · cases h
        · exfalso; have : U ≤ t := h; omega
        · obtain ⟨a', c', rfl, _⟩ := hr.ads
          rw [HN.out] at hr
          exact ⟨a', c', by rw [HN.out], hr, hb'⟩)
      have HGO : Hid (∀ W, Below w3.heap.size w3 W → Calls Try.prog 18 #[.pointer (some ⟨G, 0, none⟩), .string s, .int .i64 kind, .int .i64 U] W fun e w' => e = .returned (.tuple #[.slice none 0 0, .bool false]) ∧ Below W.heap.size W w') := Lib.hid (fun W hb => by
        refine (get_any G b 2 [⟨X, kind, a3, n, c3, U⟩] s kind U W (HA3.out.below hb) hsz h1 L (by
          intro e he
          obtain ⟨h1, _⟩ := getE_some he
          simp at h1
          subst h1
          exact ⟨HN.out.symm, HAD3.out.below hb⟩) (by rw [HN.out]; omega)).mono ?_
        rintro e w' ⟨hgot, hb'⟩
        have hge : getE [⟨X, kind, a3, n, c3, U⟩] (lowB s) kind = some ⟨X, kind, a3, n, c3, U⟩ := getE_mem HA3.out.so.apart (by simp) (by rw [hX]; rfl)
        have hth : theE [⟨X, kind, a3, n, c3, U⟩] (lowB s) kind = ⟨X, kind, a3, n, c3, U⟩ := by unfold theE; rw [hge]; rfl
        rw [hge, hth] at hgot
        rcases hgot with ⟨_, he⟩ | ⟨_, h, _⟩
        · exact ⟨he, hb'⟩
        · exfalso; have : U < U := h; omega)
      have HGK : Hid (∀ W t, Below w3.heap.size w3 W → Calls Try.prog 18 #[.pointer (some ⟨G, 0, none⟩), .string s, .int .i64 k2, .int .i64 t] W fun e w' => e = .returned (.tuple #[.slice none 0 0, .bool false]) ∧ Below W.heap.size W w') := Lib.hid (fun W t hb => by
        have hge : getE [⟨X, kind, a3, n, c3, U⟩] (lowB s) k2 = none := by
          cases hh : getE [⟨X, kind, a3, n, c3, U⟩] (lowB s) k2 with
          | none => rfl
          | some e =>
            obtain ⟨h1, h2⟩ := getE_some hh
            simp at h1
            subst h1
            have : kind = k2 := congrArg Prod.snd h2
            exact absurd this.symm hk2b.1
        refine (get_any G b 2 [⟨X, kind, a3, n, c3, U⟩] s k2 t W (HA3.out.below hb) hsz hk2b.2 L (by
          intro e he
          rw [hge] at he
          cases he) (by rw [HN.out]; omega)).mono ?_
        rintro e w' ⟨hgot, hb'⟩
        rw [hge] at hgot
        rcases hgot with ⟨_, he⟩ | ⟨h, _⟩
        · exact ⟨he, hb'⟩
        · cases h)
      have HUN : Hid (∀ W, Below w3.heap.size w3 W → Calls Try.prog 20 #[.pointer (some ⟨G, 0, none⟩), .string s, .int .i64 kind] W fun e w' => e = .returned (.tuple #[.int .i64 U, .bool true]) ∧ Below W.heap.size W w') := Lib.hid (fun W hb => by
        refine (until_any G b 2 [⟨X, kind, a3, n, c3, U⟩] s kind W (HA3.out.below hb) hsz h1).mono ?_
        rintro e w' ⟨he, hb'⟩
        have hge : getE [⟨X, kind, a3, n, c3, U⟩] (lowB s) kind = some ⟨X, kind, a3, n, c3, U⟩ := getE_mem HA3.out.so.apart (by simp) (by rw [hX]; rfl)
        have hth : theE [⟨X, kind, a3, n, c3, U⟩] (lowB s) kind = ⟨X, kind, a3, n, c3, U⟩ := by unfold theE; rw [hge]; rfl
        rw [hge, hth] at he
        exact ⟨he, hb'⟩)
      have HSA : Hid (∀ W a1 c1, AdsIn W a1 c1 L → AdsIn W a cap L → Calls Try.prog 21 #[.slice a1 n c1, .slice a n cap] W fun e w' => e = .returned (.bool true) ∧ Below W.heap.size W w') := Lib.hid (fun W a1 c1 hx hy => by
        have := sameAdsC_any a1 a c1 cap L L W hx.1 hy.1 (by rw [HN.out]; omega) (by rw [HN.out]; omega)
        rw [HN.out, decide_eq_true (show L = L from rfl)] at this
        exact this)
      clear HA3 HAD3
      go_wp2_with fail
      refine (HLOW _).out.mono ?_
      rintro e w4 ⟨rfl, hb4⟩
      have HC4 := Lib.hid hb4
      have HG4 := Lib.hid (HGX.out w4 (now : Int) hb4 hnU)
      clear hb4 HLOW HGX
      go_wp2_with fail
      refine HG4.out.mono ?_
      rintro e w5 ⟨a5, c5, rfl, hr5, hb5⟩
      have HC5 := Lib.hid (chain HC4.out hb5)
      have HR5 := Lib.hid hr5
      have HS5 : Hid (w3.heap.size ≤ w4.heap.size) := Lib.hid HC4.out.size
      have HG5 := Lib.hid (HGE.out w5 (U - 1) HC5.out (by omega))
      clear hb5 hr5 HG4 HC4
      go_wp2_with fail
      refine HG5.out.mono ?_
      rintro e w6 ⟨a6, c6, rfl, hr6, hb6⟩
      have HC6 := Lib.hid (chain HC5.out hb6)
      have HR6 := Lib.hid hr6
      replace HR5 := Lib.hid (HR5.out.below hb6)
      have HG6 := Lib.hid (HGO.out w6 HC6.out)
      clear hb6 hr6 HG5 HC5 HGO
      go_wp2_with fail
      refine HG6.out.mono ?_
      rintro e w7 ⟨rfl, hb7⟩
      have HC7 := Lib.hid (chain HC6.out hb7)
      replace HR5 := Lib.hid (HR5.out.below hb7)
      replace HR6 := Lib.hid (HR6.out.below hb7)
      have HG7 := Lib.hid (HGK.out w7 (now : Int) HC7.out)
      clear hb7 HG6 HC6 HGK
      go_wp2_with fail
      refine HG7.out.mono ?_
      rintro e w8 ⟨rfl, hb8⟩
      have HC8 := Lib.hid (chain HC7.out hb8)
      replace HR5 := Lib.hid (HR5.out.below hb8)
      replace HR6 := Lib.hid (HR6.out.below hb8)
      have HG8 := Lib.hid (HUN.out w8 HC8.out)
      clear hb8 HG7 HC7 HUN
      go_wp2_with fail
      refine HG8.out.mono ?_
      rintro e w9 ⟨rfl, hb9⟩
      have HC9 := Lib.hid (chain HC8.out hb9)
      replace HR5 := Lib.hid (HR5.out.below hb9)
      replace HR6 := Lib.hid (HR6.out.below hb9)
      have HLW : Hid (∀ W, Below w3.heap.size w3 W → AdsIn W a cap L) := Lib.hid (fun W hb => HL.out.below (chain HB3.out hb))
      have HG9 : Hid (Calls Try.prog 21 #[.slice a5 n c5, .slice a n cap] w9 fun e w' => e = .returned (.bool true) ∧ Below w9.heap.size w9 w') := Lib.hid (by
        obtain ⟨a', c', e, h⟩ := HR5.out.ads
        injection e with e1 e2 e3
        subst e1 e3
        exact HSA.out w9 _ _ h (HLW.out w9 HC9.out))
      clear hb9 HG8 HC8
      have hnn : (U != U) = false := by simp
      go_wp2_with fail
      refine HG9.out.mono ?_
      rintro e w10 ⟨rfl, hb10⟩
      have HC10 := Lib.hid (chain HC9.out hb10)
      replace HR5 := Lib.hid (HR5.out.below hb10)
      replace HR6 := Lib.hid (HR6.out.below hb10)
      have HG10 : Hid (Calls Try.prog 21 #[.slice a6 n c6, .slice a n cap] w10 fun e w' => e = .returned (.bool true) ∧ Below w10.heap.size w10 w') := Lib.hid (by
        obtain ⟨a', c', e, h⟩ := HR6.out.ads
        injection e with e1 e2 e3
        subst e1 e3
        exact HSA.out w10 _ _ h (HLW.out w10 HC10.out))
      clear hb10 HG9 HC9 HR6
      go_wp2_with fail
      refine HG10.out.mono ?_
      rintro e w11 ⟨rfl, hb11⟩
      have HC11 := Lib.hid (chain HC10.out hb11)
      replace HR5 := Lib.hid (HR5.out.below hb11)
      clear hb11 HG10 HC10
      have HTH : Hid (0 < n → ∃ g, a5 = some ⟨g, 0, none⟩ ∧ w3.heap.size ≤ g ∧ w11.there g 0 (n * 17)) := Lib.hid (fun hn => by
        rcases HR5.out.form with ⟨_, h⟩ | ⟨g, cap, e, hg, _⟩
        · rw [h] at HN; have := HN.out; simp at this; omega
        · injection e with e1 e2 e3
          subst e1
          have hr := HR5.out
          rw [← HN.out] at hr
          exact ⟨g, rfl, Nat.le_trans HS5.out hg, by rw [← HN.out]; exact hr.there⟩)
      clear HR5 HS5
      go_wp2_with fail
      go_loopw [23] (fun i wr => ∃ k : Nat, k ≤ n ∧ i = .int .i64 (k : Int) ∧ Hid (Below w3.heap.size w3 wr) ∧ Hid (∀ g, a5 = some ⟨g, 0, none⟩ → 0 < n → wr.there g 0 (n * 17))) (fun i _ => n - (intOf i).toNat)
      case atStart =>
        refine ⟨0, Nat.zero_le _, rfl, HC11, Lib.hid (fun g e hn => ?_)⟩
        obtain ⟨g2, e2, _, h⟩ := HTH.out hn
        rw [e] at e2
        injection e2 with e2
        injection e2 with e2 _ _
        subst e2
        exact h
      case round =>
        obtain ⟨k, hk, rfl, HC, HT⟩ := hrel
        clear HC11
        by_cases hkn : k < n
        · have hd : decide ((k : Int) < (n : Int)) = true := decide_eq_true (by omega)
          have hdn : decide (k < n) = true := decide_eq_true hkn
          obtain ⟨g, rfl, hg, _⟩ := HTH.out (by omega)
          have HTg := Lib.hid (HT.out g rfl (by omega))
          have HK1 : Hid (0 + k * 17 + 17 ≤ n * 17) := Lib.hid (by omega)
          have HK2 : Hid (k * 17 + 17 ≤ n * 17) := Lib.hid (by omega)
          have h99 : Hid ((((99 : Int), List.replicate 16 0) : Ad).2.length = 16) := Lib.hid rfl
          have hb1 : (0 : Int) ≤ (k : Int) := by omega
          have hb2 : (k : Int) < (n : Int) := by omega
          go_wp2_with (first | refine build_fam rfl _ rfl rfl ?_ | refine store_adT (r := ((99 : Int), List.replicate 16 0)) HTg HK1 h99 _ _ rfl rfl rfl rfl (fun W HW HTW => ?_) | refine store_adT (r := ((99 : Int), List.replicate 16 0)) HTg HK2 h99 _ _ rfl rfl rfl rfl (fun W HW HTW => ?_))
          go_roundw
          case rel =>
            refine ⟨k + 1, by omega, by go_num, Lib.hid (by rw [HW.out]; exact below_cells hg _ _ _ HC.out), Lib.hid (fun g2 e2 hn => ?_)⟩
            injection e2 with e2
            injection e2 with e2 _ _
            subst e2
            exact HTW.out
          case measure => simp [intOf]; omega
        · obtain rfl : k = n := by omega
          have hd : decide ((k : Int) < (k : Int)) = false := by simp
          have HG := Lib.hid (HGE.out wr (now : Int) HC.out hnU)
          clear HT HTH HGE
          go_wp2_with fail
          refine HG.out.mono ?_
          rintro e w12 ⟨a12, c12, rfl, hr12, hb12⟩
          have HC12 := Lib.hid (chain HC.out hb12)
          have HG12 : Hid (Calls Try.prog 21 #[.slice a12 k c12, .slice a k cap] w12 fun e w' => e = .returned (.bool true) ∧ Below w12.heap.size w12 w') := Lib.hid (by
            obtain ⟨a', c', e, h⟩ := hr12.ads
            injection e with e1 e2 e3
            subst e1 e3
            exact HSA.out w12 _ _ h (HLW.out w12 HC12.out))
          clear HG hb12 hr12 HSA HLW HC
          go_wp2_with fail
          refine HG12.out.mono ?_
          rintro e w13 ⟨rfl, hb13⟩
          have HC13 := Lib.hid (chain HC12.out hb13)
          clear HG12 hb13 HC12
          go_wp2_with fail
          refine (HLV _).out.mono ?_
          rintro e w14 ⟨rfl, hb14⟩
          have HB14 := Lib.hid (chain HB3.out (chain HC13.out hb14))
          clear hb14 HLV
          go_wp2_with fail
          go_ret
          exact ⟨rfl, HB14.out⟩

set_option maxRecDepth 100000 in
theorem lifted (os : Os) (started : os.Started) (H : Type) (enc : TypeId × Value → H) :
    ReturnsInHanded {} Try.checked os 4 .any (Rows.cacheTellsSpec.pre6 enc Try.prog Try.f4 Rows.cacheTellsRow.domain false) (Rows.cacheTellsSpec.post enc Try.prog Try.f4 false true false false) := by
  refine returnsInHanded_of_change (C := Try.checked) own started (by kernel_rfl) Try.func4
    (ChangeSpec.witness6 (enc := enc) (C := Try.checked) false ⟨#[], #[.string ByteArray.empty, .int .i64 0, .slice none 0 0, .int .i64 0, .int .i64 0], []⟩ 8 (by kernel_rfl) (by kernel_rfl) (by kernel_rfl) (by kernel_rfl)) ?_
  intro W base args ds gs before hval0 hW hcnd _
  have hval : ∀ (j : Nat) t v, Try.f4.params[j]? = some t → args[j]? = some v → Value.okWide Try.prog W .any base t v := hval0
  have hW' := hW
  obtain ⟨p, q, hA0, hV, rfl, hfz, hnd⟩ := hW
  have hA : DataW.TrodAll enc Try.prog W 0 (fun _ => true) true Try.f4.params.toList args.toList ds p := hA0
  rw [Try.params4] at hA hval
  obtain ⟨v0, vs0, d0, ds0, p0, q0, hargs, rfl, rfl, h0, r0⟩ := trodAll_cons hA
  obtain ⟨v1, vs1, d1, ds1, p1, q1, rfl, rfl, rfl, h1, r1⟩ := trodAll_cons r0
  obtain ⟨v2, vs2, d2, ds2, p2, q2, rfl, rfl, rfl, h2, r2⟩ := trodAll_cons r1
  obtain ⟨v3, vs3, d3, ds3, p3, q3, rfl, rfl, rfl, h3, r3⟩ := trodAll_cons r2
  obtain ⟨v4, vs4, d4, ds4, p4, q4, rfl, rfl, rfl, h4, r4⟩ := trodAll_cons r3
  obtain ⟨rfl, rfl, rfl⟩ := trodAll_nil r4
  obtain rfl : args = #[v0, v1, v2, v3, v4] := by cases args; simp_all
  obtain ⟨rfl, rfl⟩ := trodVars_none hV
  obtain ⟨a0, rfl, rfl, rfl, w0⟩ := open_string Try.underlying9 (hval 0 9 v0 rfl rfl) h0
  obtain ⟨a1, rfl, rfl, rfl, w1⟩ := open_int Try.underlying3 (hval 1 3 v1 rfl rfl) h1
  obtain ⟨a2, len2, cap2, rfl⟩ := okWide_slice Try.underlying30 (hval 2 30 v2 rfl rfl)
  have k2 := h2
  have lt2 : ∀ x ∈ p2, x.block < W.heap.size := by obtain ⟨m, hm⟩ := k2; exact DataW.trod_lt m _ _ _ hm
  obtain ⟨z2, w2⟩ := open_addrs10 h2
  obtain ⟨a3, rfl, rfl, rfl, w3⟩ := open_int Try.underlying3 (hval 3 3 v3 rfl rfl) h3
  obtain ⟨a4, rfl, rfl, rfl, w4⟩ := open_int Try.underlying3 (hval 4 3 v4 rfl rfl) h4
  clear hA0 hval0
  refine (walk a0 a1 a2 len2 cap2 z2 a3 a4 W w0 w1 w2 w3 w4).mono fun e W' ⟨he, bel⟩ => ?_
  subst he
  exact ⟨_, rfl, _, _, _, [], _, [], hW', trodAll_mk1 (shut_bool Try.underlying4 _), (trodAll_cons_mk (shut_string Try.underlying9 w0) (trodAll_cons_mk (shut_int Try.underlying3 w1) (trodAll_cons_mk (Below.trod laidOut (by kernel_rfl) (of_decide_eq_true (by kernel_rfl)) k2 bel lt2) (trodAll_cons_mk (shut_int Try.underlying3 w3) (trodAll_cons_mk (shut_int Try.underlying3 w4) trodAll_mk0))))), rfl, bel.frame _, fun h => by cases h⟩

theorem over : Rows.cacheTellsRow.holds Try.pinned (OpenSpec.ofChange Rows.cacheTellsSpec) :=
  OpenClaim.holds_of_wide 4 Try.f4 rfl rfl rfl rfl rfl rfl rfl ⟨rfl, rfl, rfl, rfl, rfl⟩ rfl rfl rfl rfl rfl (by kernel_rfl) Try.func4 (by kernel_rfl)
    (of_decide_eq_true (by kernel_rfl)) (by unfold Func.isWrapper; first | (rw [if_pos (by decide +kernel)]; kernel_rfl) | (rw [if_neg (by decide +kernel)]; exact ⟨rfl, rfl⟩))
    (fun os started H enc _ => lifted os started H enc)


theorem proved : Rows.CacheTellsSaid := over
#print axioms proved
end Go.Proofs.Ytjmmedpkcedngaa.cacheTells
