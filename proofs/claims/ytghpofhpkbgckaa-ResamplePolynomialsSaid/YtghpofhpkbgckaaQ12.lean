import Derived.Test.YtghpofhpkbgckaaP12

namespace Go.Proofs.Ytghpofhpkbgckaa
open Go.RowKit

set_option maxRecDepth 100000 in
set_option maxHeartbeats 4000000 in
theorem polw_1 (c0 c1 c2 c3 c4 : Int) (q : Nat) (w : World) (hq : 64 ≤ q ∧ q ≤ 383) : Calls Try.prog 11 #[.agg #[.int .i64 1, .int .i64 c0, .int .i64 c1, .int .i64 c2, .int .i64 c3, .int .i64 c4, .int .i64 (q : Int)]] w fun e w' => e = .returned (.bool true) ∧ Below w.heap.size w w' := by
  have CD := Lib.hid (fun W => refDegreeErr_any 1 W)
  rw [degE_of1] at CD
  have CQ := Lib.hid (fun W => within_any (q : Int) 64 383 W)
  rw [show fromB 64 383 [(q : Int)] = true by rw [fromB_one]; exact decide_eq_true (by omega)] at CQ
  have HCL : Hid ([c0, c1, c2, c3, c4].length = 5) := rfl
  have CWI := Lib.hid (fun (x : Int) W => within_any x (-50) 50 W)
  obtain ⟨i0, hi0, hza, hzb, hzc⟩ := info_parts intInfo'
  have K0 := Lib.hid (Bk.new w 83 #[.int .i64 1, .int .i64 c0, .int .i64 c1, .int .i64 c2, .int .i64 c3, .int .i64 c4, .int .i64 (q : Int)])
  have B0 := Lib.hid (below1 w (.cells #[.int .i64 1, .int .i64 c0, .int .i64 c1, .int .i64 c2, .int .i64 c3, .int .i64 c4, .int .i64 (q : Int)] 83))
  go_enter Try.func11, Try.ntmps11
  go_wp2_with fail
  refine (awake_any _).mono ?_
  rintro e w1 ⟨rfl, hb⟩
  have K1 := Lib.hid (K0.out.later hb)
  have B1 := Lib.hid (B0.out.trans (hb.mono B0.out.size))
  clear K0 B0 hb
  obtain ⟨b0, b6, bk⟩ := bx7 K1.out
  have BK := Lib.hid bk
  clear bk
  go_wp2_with fail
  refine (CD.out _).mono ?_
  rintro e w' ⟨rfl, rfl⟩
  go_wp2_with fail
  refine (CQ.out _).mono ?_
  rintro e w' ⟨rfl, rfl⟩
  obtain ⟨cl, hcl⟩ : ∃ l, [c0, c1, c2, c3, c4] = l := ⟨_, rfl⟩
  rw [hcl] at HCL BK
  have HCE := Lib.hid hcl
  clear hcl
  go_wp2
  go_loopw [4, 5] (fun p i wr => ∃ k : Nat, k ≤ 8 ∧ i = .int .i64 k ∧ Hid (wr.ownsRow w1.heap.size 3 1 p k (((pX cl 3).take k).map (Value.int .i64))) ∧ Hid (Below w1.heap.size w1 wr) ∧ Hid (0 < k → ∀ z, z < 3 → -50 ≤ cl.getD z 0 ∧ cl.getD z 0 ≤ 50)) (fun _ i _ => 8 - (intOf i).toNat)
  case atStart => exact ⟨0, Nat.zero_le _, rfl, Lib.hid (World.ownsRow_nil _ _ _ _), Lib.hid (Below.refl _ _), Lib.hid (fun h => absurd h (by omega))⟩
  case round =>
    obtain ⟨i, hi, rfl, HI, HB, HR⟩ := hrel
    obtain ⟨A2, cap2, hp, _, _⟩ := rd_of_own HI.out
    subst hp
    by_cases hlt : i < 8
    · have hiI : (i : Int) < 8 := by omega
      have HKW := Lib.hid (fun k (hk : k < 5) => (HB.out.cell (p := ⟨w.heap.size, 1 + k, none⟩) (K1.out.lt)).trans (BK.out k hk))
      go_wp2
      go_loop [6, 7] (fun s v => ∃ k : Nat, k ≤ 3 ∧ v = .int .i64 k ∧ s = .int .i64 (pS cl i k) ∧ Hid (∀ z, z < k → -50 ≤ cl.getD z 0 ∧ cl.getD z 0 ≤ 50)) (fun _ v => 3 - (intOf v).toNat)
      case atStart => exact ⟨0, Nat.zero_le _, rfl, rfl, Lib.hid (fun z h => absurd h (by omega))⟩
      case round =>
        obtain ⟨k, hk, rfl, rfl, HZ⟩ := hrel
        by_cases hltk : k < 3
        · have hkI : (k : Int) ≤ 2 := by omega
          have hk5 : (k : Int) < 5 := by omega
          have hk5n : k < 5 := by omega
          have hck := HKW.out k (by omega)
          have hcb2 := ch_bd ⟨i, hlt⟩ ⟨k, by omega⟩
          dsimp only at hcb2
          obtain ⟨x, hx⟩ : ∃ x, cl.getD k 0 = x := ⟨_, rfl⟩
          have hps : pS cl i (k + 1) = pS cl i k + cl.getD k 0 * chF i k := rfl
          have hpb := pS_bdz hlt (show k ≤ 5 by omega) HZ.out
          have CW := Lib.hid (fun W => CWI.out x W)
          by_cases hxb : -50 ≤ x ∧ x ≤ 50
          · rw [fromB_one, decide_eq_true hxb] at CW
            have HZ2 : Hid (∀ z, z < k + 1 → -50 ≤ cl.getD z 0 ∧ cl.getD z 0 ≤ 50) := fun z hz => by
              rcases (by omega : z < k ∨ z = k) with h | rfl
              · exact HZ.out z h
              · rw [hx]; exact hxb
            have hmul := mul_bd (a := x) (b := chF i k) (A := 50) (B := 100) hxb hcb2 (by omega) (by omega)
            rw [hx] at hck hps
            obtain ⟨s, hs⟩ : ∃ s, pS cl i k = s := ⟨_, rfl⟩
            rw [hs] at hps hpb
            have HCJ : Hid (∀ j, j ≤ 4 → -100 ≤ chF i j ∧ chF i j ≤ 100) := fun j hj => ch_bd ⟨i, hlt⟩ ⟨j, by omega⟩
            have HCS : Hid (∀ j, chF i (j + 1) = (chF i j * ((i : Int) - j)).tdiv ((j : Int) + 1)) := fun j => rfl
            have HC0 : Hid (chF i 0 = 1) := rfl
            obtain ⟨CH, hCH⟩ : ∃ C, chF i = C := ⟨_, rfl⟩
            rw [hCH] at HCJ HCS HC0 hmul hps hcb2
            have HPS := Lib.hid hps
            have v1 : IntKind.i64.wrap (x * CH k) = x * CH k := IntWalk.i64_in _ (by omega)
            have v2 : IntKind.i64.wrap (s + x * CH k) = s + x * CH k := IntWalk.i64_in _ (by omega)
            rw [hs]
            clear hx hps hs hCH hmul hpb HZ
            go_wp2_with fail
            refine (CW.out _).mono ?_
            rintro e w' ⟨rfl, rfl⟩
            go_wp2
            go_loop [8, 9] (fun u v => ∃ j : Nat, j ≤ k ∧ v = .int .i64 j ∧ u = .int .i64 (CH j)) (fun _ v => k - (intOf v).toNat)
            case atStart => exact ⟨0, Nat.zero_le _, rfl, by rw [HC0.out]⟩
            case round =>
              obtain ⟨j, hj, rfl, rfl⟩ := hrel
              by_cases hltj : j < k
              · have hjI : (j : Int) < (k : Int) := by omega
                have hcs := HCS.out j
                have hb1 := HCJ.out j (by omega)
                have hb2 := HCJ.out (j + 1) (by omega)
                obtain ⟨p, hp⟩ : ∃ p, CH j = p := ⟨_, rfl⟩
                rw [hp] at hcs hb1
                have v3 : IntKind.i64.wrap ((i : Int) - (j : Int)) = (i : Int) - (j : Int) := IntWalk.i64_in _ (by omega)
                have hm2 := mul_bd (a := p) (b := (i : Int) - (j : Int)) (A := 100) (B := 8) hb1 (by omega) (by omega) (by omega)
                have v4 : IntKind.i64.wrap (p * ((i : Int) - (j : Int))) = p * ((i : Int) - (j : Int)) := IntWalk.i64_in _ (by omega)
                have v5 : IntKind.i64.wrap ((j : Int) + 1) = (j : Int) + 1 := IntWalk.i64_in _ (by omega)
                have v6 : (((j : Int) + 1) == 0) = false := by rw [beq_eq_false_iff_ne]; omega
                have v6' : ¬ ((j : Int) + 1) = 0 := by omega
                have v7 : IntKind.i64.wrap ((p * ((i : Int) - (j : Int))).tdiv ((j : Int) + 1)) = CH (j + 1) := by rw [← hcs]; exact IntWalk.i64_in _ (by omega)
                have v8 : (p * ((i : Int) - (j : Int))).tdiv ((j : Int) + 1) = CH (j + 1) := hcs.symm
                rw [hp]
                clear hp hcs hm2 v7
                go_wp2
                go_round
                case rel => exact ⟨j + 1, by omega, by go_num, rfl⟩
                case measure => simp [intOf]; omega
              · obtain rfl : k = j := by omega
                have hjI : ¬ (k : Int) < (k : Int) := by omega
                clear hltj
                go_wp2
                go_round
                case rel => exact ⟨k + 1, by omega, by go_num, by rw [HPS.out], HZ2⟩
                case measure => simp [intOf]; omega
          · rw [fromB_one, decide_eq_false hxb] at CW
            rw [hx] at hck
            have BF := Lib.hid (B1.out.trans (HB.out.mono B1.out.size))
            clear hx hps hpb hxb hcb2
            go_wp2_with fail
            refine (CW.out _).mono ?_
            rintro e w' ⟨rfl, rfl⟩
            go_wp2
            go_ret
            exact ⟨rfl, BF.out⟩
        · obtain rfl : 3 = k := by omega
          have hT := pX_take cl 3 i hlt
          obtain ⟨s, hs⟩ : ∃ s, pS cl i 3 = s := ⟨_, rfl⟩
          rw [hs] at hT ⊢
          have HT := Lib.hid hT
          clear hT hs hltk
          go_wp2_with (at_builtin; refine wpList_append_own _ rfl (.tmp 76) (.tmp 78) 22 rfl w1.heap.size 3 i0 _ 1 8 Try.underlying22 hi0 hza hzb hzc rfl (by decide) _ _ _ rfl (HI.out.alloc _) ⟨wr.heap.size, 0, none⟩ 1 1 [.int .i64 s] rfl rfl (cell_one_new _ _ _) (by simp [Value.oneCell']) (by unfold maxLen; omega) (by omega) (by have := HB.out.size; simp; omega) ?_)
          intro v' w8 hown' hgrow _
          have HF : Hid (w8.ownsRow w1.heap.size 3 1 v' (i + 1) (((pX cl 3).take (i + 1)).map (Value.int .i64))) := by
            refine Lib.hid ?_
            rw [HT.out, List.map_append, List.map_take]
            exact hown'
          have HG : Hid (Below w1.heap.size w1 w8) := (HB.out.alloc HB.out.size _).grown hgrow (by have := HB.out.size; simp; omega) (fun z e => (HI.out.lt z e).1)
          have HR2 : Hid (0 < i + 1 → ∀ z, z < 3 → -50 ≤ cl.getD z 0 ∧ cl.getD z 0 ≤ 50) := fun _ => HZ.out
          clear hown' hgrow
          go_wp2
          go_roundw
          case rel => exact ⟨i + 1, by omega, by go_num, HF, HG, HR2⟩
          case measure => simp [intOf]; omega
    · obtain rfl : i = 8 := by omega
      have hfi := HI.out
      rw [List.take_of_length_le (by rw [pX_len]; omega)] at hfi
      have HX0 : Hid (RdI wr A2 8 (pX cl 3)) := by
        refine Lib.hid ?_
        obtain ⟨A3, c3, he, _, h3⟩ := rd_of_own hfi
        injection he with e1 e2 e3 <;> (subst e1; exact h3)
      obtain ⟨ad, rfl, _, _⟩ := HX0.out.2 (by omega)
      have hR := HR.out (by omega)
      have hsg := sig_pX (c := cl) (m := 3) (by omega) hR
      have HCB : Hid (∀ z, z < 3 → -50 ≤ cl.getD z 0 ∧ cl.getD z 0 ≤ 50) := Lib.hid hR
      have CSx : Hid (∀ W, RdI W (some ad) 8 (pX cl 3) → Calls Try.prog 19 #[.slice (some ad) 8 cap2] W fun e w' => e = .returned (.int .i64 0) ∧ W = w') := fun W h => by
        have := refSignalErr_any (some ad) 8 cap2 (pX cl 3) W h (by omega)
        rwa [hsg] at this
      have CCI : Hid (∀ W, RdI W (some ad) 8 (pX cl 3) → Calls Try.prog 18 #[.slice (some ad) 8 cap2] W (RdOne W 8 (pX cl 3))) := fun W h => (copyInts_any (some ad) 8 cap2 (pX cl 3) W (fun h => by cases h) h (by omega)).mono fun e w' ho => ho.rd (pX_len cl 3)
      have hdE : difE (pX cl 3) 2 = 0 := by rw [difE, firstNZ2, if_pos hsg]; decide
      have hdL : difL (pX cl 3) 2 = List.replicate 6 (cl.getD 2 0) := by rw [difL, if_pos hdE]; exact dif1 cl
      have CDf : Hid (∀ B' d' W, RdI W B' 8 (pX cl 3) → Calls Try.prog 17 #[.slice B' 8 d', .int .i64 2] W (RdRes W 0 6 (List.replicate 6 (cl.getD 2 0)))) := fun B' d' W h => by
        have := Differences_any B' 8 d' (pX cl 3) 2 W h (by omega)
        rw [hdE, hdL, List.length_replicate] at this
        exact this
      have hvE : valE 1 (pX cl 3) (q : Int) = 0 := by
        rw [valE, firstNZ3, degE_of1, if_pos rfl, if_pos hsg, pX_len]
        exact rngE_of (by omega)
      have hvN : valN 1 (pX cl 3) (q : Int) = vnum1 (pX cl 3) (q : Int) := by rw [valN, if_pos hvE]; rw [if_pos rfl]
      have hvD : valD 1 (pX cl 3) (q : Int) = 64 := by rw [valD, if_pos hvE]; rw [if_pos rfl]
      have CVa : Hid (∀ B' d' W, RdI W B' 8 (pX cl 3) → Calls Try.prog 56 #[.int .i64 1, .slice B' 8 d', .int .i64 (q : Int)] W fun e w' => e = .returned (.tuple #[.int .i64 (vnum1 (pX cl 3) (q : Int)), .int .i64 64, .int .i64 0]) ∧ Below W.heap.size W w') := fun B' d' W h => by
        have := ValueAt_any 1 B' 8 d' (pX cl 3) (q : Int) W h (by omega)
        rwa [hvE, hvN, hvD] at this
      have hnb := num1_bd (xs := pX cl 3) (q := (q : Int)) (sigE_zero hsg).2 (by omega)
      have CWn := Lib.hid (fun W => within_any (vnum1 (pX cl 3) (q : Int)) (-1000000000000) 1000000000000 W)
      rw [show fromB (-1000000000000) 1000000000000 [vnum1 (pX cl 3) (q : Int)] = true by rw [fromB_one]; exact decide_eq_true hnb] at CWn
      have hval := val1 cl (q := (q : Int)) (by omega)
      obtain ⟨fr, hfr⟩ : ∃ f, q % 64 = f := ⟨_, rfl⟩
      have hfl : fr < 64 := by omega
      have vrem : (q : Int).tmod 64 = (fr : Int) := by rw [Int.tmod_eq_emod_of_nonneg (by omega)]; omega
      have vrem2 : IntKind.i64.wrap (fr : Int) = (fr : Int) := IntWalk.i64_in _ (by omega)
      have hqm : (q : Int) % 64 = (fr : Int) := by omega
      unfold rN1 rD1 at hval
      rw [hqm] at hval
      have hlow := low1 ⟨fr, hfl⟩
      have hur := ur1 ⟨fr, hfl⟩
      dsimp only at hlow hur
      have hrE : degfE 1 (fr : Int) = 0 := by rw [degfE, firstNZ2, degE_of1, if_pos rfl]; exact rngE_of (by omega)
      have CRa := Lib.hid (fun W => RemainderAt_any 1 (fr : Int) W)
      unfold remN remD at CRa
      rw [hrE, if_pos rfl, if_pos rfl, show rdn 1 = 8192 by rfl] at CRa
      obtain ⟨rn, hrn⟩ : ∃ z, frN (remF 1 (fr : Int)) 8192 = z := ⟨_, rfl⟩
      obtain ⟨rd, hrd⟩ : ∃ z, frD (remF 1 (fr : Int)) 8192 = z := ⟨_, rfl⟩
      rw [hrn, hrd] at CRa hlow hur hval
      obtain ⟨hgc, hrdb, hrnb, hmd, hcmp⟩ := hlow
      have CMa := Lib.hid (fun W => MaximumRemainder1_any W)
      rw [mx1.1, mx1.2] at CMa
      have CI1 := Lib.hid (fun W => isLow_any rn rd W (by omega) (by omega) hgc)
      have CI2 := Lib.hid (fun W => isLow_any 1 8 W (by omega) (by omega) (by decide))
      have CWr := Lib.hid (fun W => within_any rn (-1000000000) 1000000000 W)
      rw [show fromB (-1000000000) 1000000000 [rn] = true by rw [fromB_one]; exact decide_eq_true hrnb] at CWr
      have CSz := Lib.hid (fun W => bsize_any rn W (by omega))
      obtain ⟨an, han⟩ : ∃ z, absF rn = z := ⟨_, rfl⟩
      rw [han] at CSz hcmp
      have CCm : Hid (∃ v, v ≤ 0 ∧ ∀ W, Calls Try.prog 57 #[.int .i64 an, .int .i64 rd, .int .i64 1, .int .i64 8] W fun e w' => e = .returned (.int .i64 v) ∧ W = w') := by
        refine Lib.hid ?_
        rcases hcmp with h | h
        · exact ⟨-1, by omega, fun W => compare_any h W⟩
        · exact ⟨0, by omega, fun W => compare_any h W⟩
      obtain ⟨cv, hcv, hCC⟩ := CCm.out
      have CCp := Lib.hid hCC
      have hcv2 : ¬ 0 < cv := by omega
      have hrdg : ¬ (1000000000 : Int) < rd := by omega
      have hrdg2 : decide ((1000000000 : Int) < rd) = false := decide_eq_false hrdg
      have hcv3 : decide ((0 : Int) < cv) = false := decide_eq_false hcv2
      have CBn := Lib.hid (fun k (hk : k ≤ 4) W => binomial_any q k W (by omega) hk)
      obtain ⟨ur, hure⟩ : ∃ z, (402653184 : Int).tdiv rd = z := ⟨_, rfl⟩
      rw [hure] at hur hval
      have HUR := Lib.hid hure
      obtain ⟨num, hnum⟩ : ∃ z, vnum1 (pX cl 3) (q : Int) = z := ⟨_, rfl⟩
      rw [hnum] at CVa CWn hnb hval
      have hcb := hR 2 (by omega)
      obtain ⟨t, ht⟩ : ∃ z, cl.getD 2 0 = z := ⟨_, rfl⟩
      rw [ht] at CDf hcb hval
      have HT := Lib.hid ht
      have hm1 := mul_bd (a := t) (b := rn) (A := 50) (B := 1000000000) hcb hrnb (by omega) (by omega)
      have hm2 := mul_bd (a := t) (b := rn * ur) (A := 50) (B := 1000000000) hcb ⟨hur.1, hur.2.1⟩ (by omega) (by omega)
      rw [← Int.mul_assoc] at hm2
      have vv1 : IntKind.i64.wrap (t * rn) = t * rn := IntWalk.i64_in _ (by omega)
      have vv2 : IntKind.i64.wrap (t * rn * ur) = t * rn * ur := IntWalk.i64_in _ (by omega)
      have vv3 : IntKind.i64.wrap (num * 6291456) = num * 6291456 := IntWalk.i64_in _ (by omega)
      have hvs : num * 6291456 + t * rn * ur = vS cl (q : Int) 3 := by
        rw [hval]
        simp only [vS, ht]
        omega
      have HVS := Lib.hid hvs
      have vur : IntKind.i64.wrap ur = ur := IntWalk.i64_in _ (by omega)
      have vmd : IntKind.i64.wrap 0 = 0 := by decide
      have hrd0 : ¬ rd = 0 := by omega
      have hrd1 : (rd == 0) = false := by rw [beq_eq_false_iff_ne]; omega
      have HKB : Hid (∀ k, k < 5 → -1000000000000 ≤ kF (q : Int) k ∧ kF (q : Int) k ≤ 1000000000000) := fun k hk => kF_bd ⟨q, by omega⟩ ⟨k, hk⟩
      have HBB : Hid (∀ k, k < 5 → -25000000000 ≤ bnF (q : Int) k ∧ bnF (q : Int) k ≤ 25000000000) := fun k hk => bn_bd ⟨q, by omega⟩ ⟨k, hk⟩
      have K2 := Lib.hid (K1.out.later HB.out)
      have B2 := Lib.hid (B1.out.trans (HB.out.mono B1.out.size))
      obtain ⟨w2, hwr⟩ : ∃ W, W = wr := ⟨_, rfl⟩
      subst hwr
      have X2 := HX0
      clear hfi HI hlt hR hsg hdE hdL hvE hvN hvD hfr hqm hrE hrn hrd hgc hcmp han hCC CCm hure hnum ht hval hur hvs hm1 hm2 HX0 HR HB K1 B1 b0 b6
      go_wp2_with fail
      refine (CSx.out _ X2.out).mono ?_
      rintro e w' ⟨rfl, rfl⟩
      go_wp2_with fail
      refine (CCI.out _ X2.out).mono ?_
      rintro e w3 ⟨⟨AXa, cXa, rfl, hrXa⟩, hb⟩
      have K3 := Lib.hid (K2.out.later hb)
      have B3 := Lib.hid (B2.out.trans (hb.mono B2.out.size))
      have X3 := Lib.hid (X2.out.below hb)
      clear K2 B2 X2 hb
      have Xa3 := Lib.hid hrXa
      clear hrXa
      go_wp2_with fail
      refine (CDf.out _ _ _ Xa3.out).mono ?_
      rintro e w4 ⟨⟨ALd, cLd, rfl, hrLd⟩, hb⟩
      have K4 := Lib.hid (K3.out.later hb)
      have B4 := Lib.hid (B3.out.trans (hb.mono B3.out.size))
      have X4 := Lib.hid (X3.out.below hb)
      have Xa4 := Lib.hid (Xa3.out.below hb)
      clear K3 B3 X3 Xa3 hb
      have Ld4 := Lib.hid hrLd
      clear hrLd
      go_wp2
      go_loopw [12] (fun i wr => ∃ k : Nat, k ≤ 6 ∧ i = .int .i64 k ∧ Hid (∃ z, wr = w4.drewN z)) (fun i _ => 6 - (intOf i).toNat)
      case atStart => exact ⟨0, Nat.zero_le _, rfl, 0, rfl⟩
      case round =>
        obtain ⟨k, hk, rfl, HJ⟩ := hrel
        obtain ⟨z, hz⟩ := HJ.out
        by_cases hlt : k < 6
        · obtain ⟨al, rfl, _, hc⟩ := (Ld4.out.drewN z).2 (by omega)
          have hck := hc k hlt
          have hce := (bx7 (K4.out.drewN z)).2.2 2 (by omega)
          rw [← hz] at hck hce
          rw [HCE.out, HT.out] at hce
          rw [show (List.replicate 6 t).getD k 0 = t from rep_at t hlt] at hck
          have hkI : (k : Int) < 6 := by omega
          have HZ := Lib.hid hz
          clear hc hz HJ
          go_wp2
          go_quiet (fail)
          go_wp2
          go_roundw
          case rel => exact ⟨k + 1, by omega, by go_num, by rw [HZ.out]; exact ⟨_, World.drewN_drewN _ _ _⟩⟩
          case measure => simp [intOf]; omega
        · obtain rfl : k = 6 := by omega
          clear hlt
          have K5 := Lib.hid (K4.out.drewN z)
          have B5 := Lib.hid (belowDrewN B4.out z)
          have X5 := Lib.hid (X4.out.drewN z)
          have Ld5 := Lib.hid (Ld4.out.drewN z)
          clear K4 B4 X4 Ld4
          rw [← hz] at K5 B5 X5 Ld5
          clear hz HJ
          obtain ⟨w5, hw5⟩ : ∃ W, W = wr := ⟨_, rfl⟩
          subst hw5
          obtain ⟨b0, b6, _⟩ := bx7 K5.out
          go_wp2
          go_region_held3 (fun w' : World => w'.cell? ⟨w.heap.size, 6, none⟩ = some (.int .i64 (q : Int))) ((go_split_ands; simp [go_sem, *])) (first
            | (go_at_call 18; refine (CCI.out _ X5.out.drew).mono ?_; rintro e wq ⟨⟨Aq, cq, rfl, hrq⟩, hbq⟩; have Kq := (K5.out.drew).later hbq; obtain ⟨b0, b6, _⟩ := bx7 Kq)
            | (go_at_call 56; refine (CVa.out _ _ _ hrq).mono ?_; rintro e wp ⟨rfl, hbp⟩; have Kp := Kq.later hbp; obtain ⟨b0, b6, _⟩ := bx7 Kp))
          all_goals
            have K6 := Lib.hid Kp
            have B6 := Lib.hid (B5.out.drew.trans ((hbq.trans (hbp.mono hbq.size)).mono B5.out.drew.size))
            clear Kq Kp hrq hbq hbp K5 B5 X5 b0 b6
            obtain ⟨w6, hw6⟩ : ∃ W, W = wp := ⟨_, rfl⟩
            subst hw6
            obtain ⟨b0, b6, _⟩ := bx7 K6.out
            go_wp2_with fail
            refine (CRa.out _).mono ?_
            rintro e w7 ⟨rfl, hb⟩
            have K7 := Lib.hid (K6.out.later hb)
            have B7 := Lib.hid (B6.out.trans (hb.mono B6.out.size))
            clear K6 B6 hb
            clear b0 b6
            have K8 := Lib.hid (K7.out.alloc (.cells #[.int .i64 rn, .int .i64 rd] 28))
            have B8 := Lib.hid (B7.out.alloc B7.out.size (.cells #[.int .i64 rn, .int .i64 rd] 28))
            clear K7 B7
            have R8 := Lib.hid (Bk.new w7 28 #[.int .i64 rn, .int .i64 rd])
            go_wp2_with fail
            refine (CMa.out _).mono ?_
            rintro e w9 ⟨rfl, hb⟩
            have K9 := Lib.hid (K8.out.later hb)
            have B9 := Lib.hid (B8.out.trans (hb.mono B8.out.size))
            have R9 := Lib.hid (R8.out.later hb)
            clear K8 B8 R8 hb
            have K10 := Lib.hid (K9.out.alloc (.cells #[.int .i64 1, .int .i64 8] 28))
            have B10 := Lib.hid (B9.out.alloc B9.out.size (.cells #[.int .i64 1, .int .i64 8] 28))
            have R10 := Lib.hid (R9.out.alloc (.cells #[.int .i64 1, .int .i64 8] 28))
            clear K9 B9 R9
            have M10 := Lib.hid (Bk.new w9 28 #[.int .i64 1, .int .i64 8])
            obtain ⟨r0, r1⟩ := bkr2 R10.out
            obtain ⟨m0, m1⟩ := bkr2 M10.out
            go_wp2
            go_region_held3 (fun w' : World => (w'.cell? ⟨w7.heap.size, 0, none⟩ = some (.int .i64 rn) ∧ w'.cell? ⟨w7.heap.size, 1, none⟩ = some (.int .i64 rd)) ∧ w'.cell? ⟨w9.heap.size, 0, none⟩ = some (.int .i64 1) ∧ w'.cell? ⟨w9.heap.size, 1, none⟩ = some (.int .i64 8)) ((go_split_ands; simp [go_sem, *])) (first
              | (go_at_call 39; (with_reducible refine (CI1.out _).mono ?_); rintro e wq ⟨rfl, hbq⟩; have Rq := (R10.out.drew).later hbq; have Mq := (M10.out.drew).later hbq; obtain ⟨r0, r1⟩ := bkr2 Rq; obtain ⟨m0, m1⟩ := bkr2 Mq)
              | (go_at_call 39; (with_reducible refine (CI2.out _).mono ?_); rintro e wp ⟨rfl, hbp⟩; have Rp := Rq.later hbp; have Mp := Mq.later hbp; obtain ⟨r0, r1⟩ := bkr2 Rp; obtain ⟨m0, m1⟩ := bkr2 Mp)
              | (go_at_call 20; refine (CWr.out _).mono ?_; rintro e w' ⟨rfl, rfl⟩)
              | (go_at_call 38; refine (CSz.out _).mono ?_; rintro e w' ⟨rfl, rfl⟩)
              | (go_at_call 57; refine (CCp.out _).mono ?_; rintro e w' ⟨rfl, rfl⟩))
            all_goals
              have K11 := Lib.hid (((K10.out.drew).later hbq).later hbp)
              have B11 := Lib.hid (B10.out.drew.trans ((hbq.trans (hbp.mono hbq.size)).mono B10.out.drew.size))
              have R11 := Lib.hid Rp
              clear Rq Mq Rp Mp hbq hbp K10 B10 R10 M10 r0 r1 m0 m1
              obtain ⟨w11, hw11⟩ : ∃ W, W = wp := ⟨_, rfl⟩
              subst hw11
              go_wp2_with fail
              refine (CWn.out _).mono ?_
              rintro e w' ⟨rfl, rfl⟩
              go_wp2
              go_loop [20, 22] (fun s i => ∃ k : Nat, k ≤ 4 ∧ i = .int .i64 k ∧ s = .int .i64 (pwF k)) (fun _ i => 4 - (intOf i).toNat)
              case atStart => exact ⟨0, Nat.zero_le _, rfl, rfl⟩
              case round =>
                obtain ⟨k, hk, rfl, rfl⟩ := hrel
                by_cases hlt : k < 4
                · have hkI : (k : Int) < 4 := by omega
                  have hps := pwF_step ⟨k, hlt⟩
                  dsimp only at hps
                  have vp : IntKind.i64.wrap (pwF k * 64) = pwF (k + 1) := by rw [hps.1]; exact IntWalk.i64_in _ (by omega)
                  obtain ⟨p, hp⟩ : ∃ p, pwF k = p := ⟨_, rfl⟩
                  obtain ⟨p2, hp2⟩ : ∃ p, pwF (k + 1) = p := ⟨_, rfl⟩
                  rw [hp, hp2] at vp
                  rw [hp]
                  have HP2 := Lib.hid hp2
                  clear hps hp hp2
                  go_wp2
                  go_round
                  case rel => exact ⟨k + 1, by omega, by go_num, by rw [HP2.out]⟩
                  case measure => simp [intOf]; omega
                · obtain rfl : k = 4 := by omega
                  rw [show pwF 4 = 16777216 from rfl]
                  clear hlt
                  go_wp2
                  have F0 := Lib.hid (Bk.new w11 3 #[.int .i64 24, .int .i64 24, .int .i64 12, .int .i64 4, .int .i64 1])
                  have K9 := Lib.hid (K11.out.alloc (.cells #[.int .i64 24, .int .i64 24, .int .i64 12, .int .i64 4, .int .i64 1] 3))
                  have B9 := Lib.hid (B11.out.alloc B11.out.size (.cells #[.int .i64 24, .int .i64 24, .int .i64 12, .int .i64 4, .int .i64 1] 3))
                  have R9 := Lib.hid (R11.out.alloc (.cells #[.int .i64 24, .int .i64 24, .int .i64 12, .int .i64 4, .int .i64 1] 3))
                  obtain ⟨gf, hgf⟩ : ∃ g, w11.heap.size = g := ⟨_, rfl⟩
                  obtain ⟨w9, hw9⟩ : ∃ W, w11.alloc (.cells #[.int .i64 24, .int .i64 24, .int .i64 12, .int .i64 4, .int .i64 1] 3) = W := ⟨_, rfl⟩
                  rw [hgf, hw9] at F0
                  rw [hw9] at K9 B9 R9
                  try rw [hw9]
                  try rw [hgf]
                  clear hgf hw9 K11 B11 R11
                  go_loopw [21, 24, 25] (fun s p i wr => ∃ k : Nat, k ≤ 3 ∧ i = .int .i64 k ∧ s = .int .i64 (vS cl (q : Int) k) ∧ p = .int .i64 (pwG k) ∧ Hid (∃ z, wr = w9.drewN z) ∧ Hid (-(50000000000000 * (k : Int)) ≤ vS cl (q : Int) k ∧ vS cl (q : Int) k ≤ 50000000000000 * (k : Int))) (fun _ _ i _ => 3 - (intOf i).toNat)
                  case atStart => exact ⟨0, Nat.zero_le _, rfl, rfl, rfl, Lib.hid ⟨0, rfl⟩, Lib.hid (by simp [vS])⟩
                  case round =>
                    obtain ⟨k, hk, rfl, rfl, rfl, HJ, HV⟩ := hrel
                    obtain ⟨z, hz⟩ := HJ.out
                    by_cases hlt : k < 3
                    · have hkI : (k : Int) ≤ 2 := by omega
                      have hkI2 : (k : Int) < 5 := by omega
                      have hk5 : k < 5 := by omega
                      have hck := (bx7 (K9.out.drewN z)).2.2 k hk5
                      have hq6 := (bx7 (K9.out.drewN z)).2.1
                      have hfk := fac_rd (F0.out.drewN z) k hk5
                      rw [← hz] at hck hq6 hfk
                      rw [HCE.out] at hck
                      have hcb := HCB.out k hlt
                      have hkb := HKB.out k hk5
                      have hbb := HBB.out k hk5
                      have hkf := kF_eq (q : Int) hk5
                      have hpw := pwG_step ⟨k, hk5⟩
                      dsimp only at hpw
                      have CB := Lib.hid (fun W => CBn.out k (by omega) W)
                      have hvb := HV.out
                      have hvs : vS cl (q : Int) (k + 1) = vS cl (q : Int) k + cl.getD k 0 * kF (q : Int) k := rfl
                      obtain ⟨x, hx⟩ : ∃ x, cl.getD k 0 = x := ⟨_, rfl⟩
                      obtain ⟨fa, hfa⟩ : ∃ x, facL.getD k 0 = x := ⟨_, rfl⟩
                      obtain ⟨bn, hbn⟩ : ∃ x, bnF (q : Int) k = x := ⟨_, rfl⟩
                      obtain ⟨pw, hpwe⟩ : ∃ x, pwG k = x := ⟨_, rfl⟩
                      obtain ⟨pw2, hpwe2⟩ : ∃ x, pwG (k + 1) = x := ⟨_, rfl⟩
                      obtain ⟨vs, hvse⟩ : ∃ x, vS cl (q : Int) k = x := ⟨_, rfl⟩
                      rw [hx] at hck hcb hvs
                      rw [hfa] at hfk hkf hpw
                      rw [hbn] at hkf hbb CB
                      rw [hpwe, hpwe2] at hpw
                      rw [hpwe] at hkf
                      rw [hvse] at hvb hvs
                      rw [hkf] at hvs hkb
                      have m1 := mul_bd (a := x) (b := fa) (A := 50) (B := 24) hcb (by omega) (by omega) (by omega)
                      have m2 := mul_bd (a := x * fa) (b := bn) (A := 1200) (B := 25000000000) (by omega) hbb (by omega) (by omega)
                      have m3 := mul_bd (a := x) (b := fa * bn * pw) (A := 50) (B := 1000000000000) hcb hkb (by omega) (by omega)
                      have ha : x * (fa * bn * pw) = x * fa * bn * pw := by rw [← Int.mul_assoc, ← Int.mul_assoc]
                      rw [ha] at m3 hvs
                      have u1 : IntKind.i64.wrap (x * fa) = x * fa := IntWalk.i64_in _ (by omega)
                      have u2 : IntKind.i64.wrap (x * fa * bn) = x * fa * bn := IntWalk.i64_in _ (by omega)
                      have u3 : IntKind.i64.wrap (x * fa * bn * pw) = x * fa * bn * pw := IntWalk.i64_in _ (by omega)
                      have u4 : IntKind.i64.wrap (vs + x * fa * bn * pw) = vs + x * fa * bn * pw := IntWalk.i64_in _ (by omega)
                      have u5 : IntKind.i64.wrap (pw.tdiv 64) = pw2 := by rw [hpw.1]; exact IntWalk.i64_in _ (by omega)
                      have u6 : pw.tdiv 64 = pw2 := hpw.1
                      have u8 : IntKind.i64.wrap pw2 = pw2 := IntWalk.i64_in _ (by omega)
                      rw [hvse, hpwe]
                      have HVN : Hid (-(50000000000000 * ((k + 1 : Nat) : Int)) ≤ vS cl (q : Int) (k + 1) ∧ vS cl (q : Int) (k + 1) ≤ 50000000000000 * ((k + 1 : Nat) : Int)) := by
                        refine Lib.hid ?_
                        rw [hvs]; omega
                      have HVS2 := Lib.hid hvs
                      have HPW := Lib.hid hpwe2
                      have HZ := Lib.hid hz
                      clear hx hfa hbn hpwe hpwe2 hvse hvs hkf hkb hbb hvb hpw m1 m2 m3 ha hz HJ HV u5
                      go_wp2
                      go_quiet ((go_at_call 58; exact quietP (CB.out _)))
                      go_wp2
                      go_roundw
                      case rel => exact ⟨k + 1, by omega, by go_num, by rw [HVS2.out], by rw [HPW.out], by rw [HZ.out]; exact ⟨_, World.drewN_drewN _ _ _⟩, HVN⟩
                      case measure => simp [intOf]; omega
                    · obtain rfl : k = 3 := by omega
                      obtain ⟨r0, r1⟩ := bkr2 (R9.out.drewN z)
                      rw [← hz] at r0 r1
                      have hbx := (bx7 (K9.out.drewN z)).2.2 2 (by omega)
                      rw [← hz, HCE.out, HT.out] at hbx
                      have BZ := belowDrewN B9.out z
                      rw [← hz] at BZ
                      have hvv := HVS.out
                      have hvb := HV.out
                      obtain ⟨vs, hvse⟩ : ∃ x, vS cl (q : Int) 3 = x := ⟨_, rfl⟩
                      rw [hvse] at hvv hvb ⊢
                      have u7 : IntKind.i64.wrap (num * 6291456 + t * rn * ur) = vs := by rw [hvv]; exact IntWalk.i64_in _ (by omega)
                      have BZ' := Lib.hid BZ
                      clear hvv hvse hvb hlt hz HJ HV BZ
                      have hu9 := HUR.out
                      go_wp2
                      go_quiet (fail)
                      go_wp2
                      go_ret
                      exact ⟨by simp, belowDrewN BZ'.out _⟩

end Go.Proofs.Ytghpofhpkbgckaa


namespace Go.Proofs.Ytghpofhpkbgckaa
open Go.RowKit

set_option maxRecDepth 100000 in
set_option maxHeartbeats 4000000 in
theorem polw_3 (c0 c1 c2 c3 c4 : Int) (q : Nat) (w : World) (hq : 64 ≤ q ∧ q ≤ 383) : Calls Try.prog 11 #[.agg #[.int .i64 3, .int .i64 c0, .int .i64 c1, .int .i64 c2, .int .i64 c3, .int .i64 c4, .int .i64 (q : Int)]] w fun e w' => e = .returned (.bool true) ∧ Below w.heap.size w w' := by
  have CD := Lib.hid (fun W => refDegreeErr_any 3 W)
  rw [degE_of3] at CD
  have CQ := Lib.hid (fun W => within_any (q : Int) 64 383 W)
  rw [show fromB 64 383 [(q : Int)] = true by rw [fromB_one]; exact decide_eq_true (by omega)] at CQ
  have HCL : Hid ([c0, c1, c2, c3, c4].length = 5) := rfl
  have CWI := Lib.hid (fun (x : Int) W => within_any x (-50) 50 W)
  obtain ⟨i0, hi0, hza, hzb, hzc⟩ := info_parts intInfo'
  have K0 := Lib.hid (Bk.new w 83 #[.int .i64 3, .int .i64 c0, .int .i64 c1, .int .i64 c2, .int .i64 c3, .int .i64 c4, .int .i64 (q : Int)])
  have B0 := Lib.hid (below1 w (.cells #[.int .i64 3, .int .i64 c0, .int .i64 c1, .int .i64 c2, .int .i64 c3, .int .i64 c4, .int .i64 (q : Int)] 83))
  go_enter Try.func11, Try.ntmps11
  go_wp2_with fail
  refine (awake_any _).mono ?_
  rintro e w1 ⟨rfl, hb⟩
  have K1 := Lib.hid (K0.out.later hb)
  have B1 := Lib.hid (B0.out.trans (hb.mono B0.out.size))
  clear K0 B0 hb
  obtain ⟨b0, b6, bk⟩ := bx7 K1.out
  have BK := Lib.hid bk
  clear bk
  go_wp2_with fail
  refine (CD.out _).mono ?_
  rintro e w' ⟨rfl, rfl⟩
  go_wp2_with fail
  refine (CQ.out _).mono ?_
  rintro e w' ⟨rfl, rfl⟩
  obtain ⟨cl, hcl⟩ : ∃ l, [c0, c1, c2, c3, c4] = l := ⟨_, rfl⟩
  rw [hcl] at HCL BK
  have HCE := Lib.hid hcl
  clear hcl
  go_wp2
  go_loopw [4, 5] (fun p i wr => ∃ k : Nat, k ≤ 8 ∧ i = .int .i64 k ∧ Hid (wr.ownsRow w1.heap.size 3 1 p k (((pX cl 5).take k).map (Value.int .i64))) ∧ Hid (Below w1.heap.size w1 wr) ∧ Hid (0 < k → ∀ z, z < 5 → -50 ≤ cl.getD z 0 ∧ cl.getD z 0 ≤ 50)) (fun _ i _ => 8 - (intOf i).toNat)
  case atStart => exact ⟨0, Nat.zero_le _, rfl, Lib.hid (World.ownsRow_nil _ _ _ _), Lib.hid (Below.refl _ _), Lib.hid (fun h => absurd h (by omega))⟩
  case round =>
    obtain ⟨i, hi, rfl, HI, HB, HR⟩ := hrel
    obtain ⟨A2, cap2, hp, _, _⟩ := rd_of_own HI.out
    subst hp
    by_cases hlt : i < 8
    · have hiI : (i : Int) < 8 := by omega
      have HKW := Lib.hid (fun k (hk : k < 5) => (HB.out.cell (p := ⟨w.heap.size, 1 + k, none⟩) (K1.out.lt)).trans (BK.out k hk))
      go_wp2
      go_loop [6, 7] (fun s v => ∃ k : Nat, k ≤ 5 ∧ v = .int .i64 k ∧ s = .int .i64 (pS cl i k) ∧ Hid (∀ z, z < k → -50 ≤ cl.getD z 0 ∧ cl.getD z 0 ≤ 50)) (fun _ v => 5 - (intOf v).toNat)
      case atStart => exact ⟨0, Nat.zero_le _, rfl, rfl, Lib.hid (fun z h => absurd h (by omega))⟩
      case round =>
        obtain ⟨k, hk, rfl, rfl, HZ⟩ := hrel
        by_cases hltk : k < 5
        · have hkI : (k : Int) ≤ 4 := by omega
          have hk5 : (k : Int) < 5 := by omega
          have hk5n : k < 5 := by omega
          have hck := HKW.out k (by omega)
          have hcb2 := ch_bd ⟨i, hlt⟩ ⟨k, by omega⟩
          dsimp only at hcb2
          obtain ⟨x, hx⟩ : ∃ x, cl.getD k 0 = x := ⟨_, rfl⟩
          have hps : pS cl i (k + 1) = pS cl i k + cl.getD k 0 * chF i k := rfl
          have hpb := pS_bdz hlt (show k ≤ 5 by omega) HZ.out
          have CW := Lib.hid (fun W => CWI.out x W)
          by_cases hxb : -50 ≤ x ∧ x ≤ 50
          · rw [fromB_one, decide_eq_true hxb] at CW
            have HZ2 : Hid (∀ z, z < k + 1 → -50 ≤ cl.getD z 0 ∧ cl.getD z 0 ≤ 50) := fun z hz => by
              rcases (by omega : z < k ∨ z = k) with h | rfl
              · exact HZ.out z h
              · rw [hx]; exact hxb
            have hmul := mul_bd (a := x) (b := chF i k) (A := 50) (B := 100) hxb hcb2 (by omega) (by omega)
            rw [hx] at hck hps
            obtain ⟨s, hs⟩ : ∃ s, pS cl i k = s := ⟨_, rfl⟩
            rw [hs] at hps hpb
            have HCJ : Hid (∀ j, j ≤ 4 → -100 ≤ chF i j ∧ chF i j ≤ 100) := fun j hj => ch_bd ⟨i, hlt⟩ ⟨j, by omega⟩
            have HCS : Hid (∀ j, chF i (j + 1) = (chF i j * ((i : Int) - j)).tdiv ((j : Int) + 1)) := fun j => rfl
            have HC0 : Hid (chF i 0 = 1) := rfl
            obtain ⟨CH, hCH⟩ : ∃ C, chF i = C := ⟨_, rfl⟩
            rw [hCH] at HCJ HCS HC0 hmul hps hcb2
            have HPS := Lib.hid hps
            have v1 : IntKind.i64.wrap (x * CH k) = x * CH k := IntWalk.i64_in _ (by omega)
            have v2 : IntKind.i64.wrap (s + x * CH k) = s + x * CH k := IntWalk.i64_in _ (by omega)
            rw [hs]
            clear hx hps hs hCH hmul hpb HZ
            go_wp2_with fail
            refine (CW.out _).mono ?_
            rintro e w' ⟨rfl, rfl⟩
            go_wp2
            go_loop [8, 9] (fun u v => ∃ j : Nat, j ≤ k ∧ v = .int .i64 j ∧ u = .int .i64 (CH j)) (fun _ v => k - (intOf v).toNat)
            case atStart => exact ⟨0, Nat.zero_le _, rfl, by rw [HC0.out]⟩
            case round =>
              obtain ⟨j, hj, rfl, rfl⟩ := hrel
              by_cases hltj : j < k
              · have hjI : (j : Int) < (k : Int) := by omega
                have hcs := HCS.out j
                have hb1 := HCJ.out j (by omega)
                have hb2 := HCJ.out (j + 1) (by omega)
                obtain ⟨p, hp⟩ : ∃ p, CH j = p := ⟨_, rfl⟩
                rw [hp] at hcs hb1
                have v3 : IntKind.i64.wrap ((i : Int) - (j : Int)) = (i : Int) - (j : Int) := IntWalk.i64_in _ (by omega)
                have hm2 := mul_bd (a := p) (b := (i : Int) - (j : Int)) (A := 100) (B := 8) hb1 (by omega) (by omega) (by omega)
                have v4 : IntKind.i64.wrap (p * ((i : Int) - (j : Int))) = p * ((i : Int) - (j : Int)) := IntWalk.i64_in _ (by omega)
                have v5 : IntKind.i64.wrap ((j : Int) + 1) = (j : Int) + 1 := IntWalk.i64_in _ (by omega)
                have v6 : (((j : Int) + 1) == 0) = false := by rw [beq_eq_false_iff_ne]; omega
                have v6' : ¬ ((j : Int) + 1) = 0 := by omega
                have v7 : IntKind.i64.wrap ((p * ((i : Int) - (j : Int))).tdiv ((j : Int) + 1)) = CH (j + 1) := by rw [← hcs]; exact IntWalk.i64_in _ (by omega)
                have v8 : (p * ((i : Int) - (j : Int))).tdiv ((j : Int) + 1) = CH (j + 1) := hcs.symm
                rw [hp]
                clear hp hcs hm2 v7
                go_wp2
                go_round
                case rel => exact ⟨j + 1, by omega, by go_num, rfl⟩
                case measure => simp [intOf]; omega
              · obtain rfl : k = j := by omega
                have hjI : ¬ (k : Int) < (k : Int) := by omega
                clear hltj
                go_wp2
                go_round
                case rel => exact ⟨k + 1, by omega, by go_num, by rw [HPS.out], HZ2⟩
                case measure => simp [intOf]; omega
          · rw [fromB_one, decide_eq_false hxb] at CW
            rw [hx] at hck
            have BF := Lib.hid (B1.out.trans (HB.out.mono B1.out.size))
            clear hx hps hpb hxb hcb2
            go_wp2_with fail
            refine (CW.out _).mono ?_
            rintro e w' ⟨rfl, rfl⟩
            go_wp2
            go_ret
            exact ⟨rfl, BF.out⟩
        · obtain rfl : 5 = k := by omega
          have hT := pX_take cl 5 i hlt
          obtain ⟨s, hs⟩ : ∃ s, pS cl i 5 = s := ⟨_, rfl⟩
          rw [hs] at hT ⊢
          have HT := Lib.hid hT
          clear hT hs hltk
          go_wp2_with (at_builtin; refine wpList_append_own _ rfl (.tmp 76) (.tmp 78) 22 rfl w1.heap.size 3 i0 _ 1 8 Try.underlying22 hi0 hza hzb hzc rfl (by decide) _ _ _ rfl (HI.out.alloc _) ⟨wr.heap.size, 0, none⟩ 1 1 [.int .i64 s] rfl rfl (cell_one_new _ _ _) (by simp [Value.oneCell']) (by unfold maxLen; omega) (by omega) (by have := HB.out.size; simp; omega) ?_)
          intro v' w8 hown' hgrow _
          have HF : Hid (w8.ownsRow w1.heap.size 3 1 v' (i + 1) (((pX cl 5).take (i + 1)).map (Value.int .i64))) := by
            refine Lib.hid ?_
            rw [HT.out, List.map_append, List.map_take]
            exact hown'
          have HG : Hid (Below w1.heap.size w1 w8) := (HB.out.alloc HB.out.size _).grown hgrow (by have := HB.out.size; simp; omega) (fun z e => (HI.out.lt z e).1)
          have HR2 : Hid (0 < i + 1 → ∀ z, z < 5 → -50 ≤ cl.getD z 0 ∧ cl.getD z 0 ≤ 50) := fun _ => HZ.out
          clear hown' hgrow
          go_wp2
          go_roundw
          case rel => exact ⟨i + 1, by omega, by go_num, HF, HG, HR2⟩
          case measure => simp [intOf]; omega
    · obtain rfl : i = 8 := by omega
      have hfi := HI.out
      rw [List.take_of_length_le (by rw [pX_len]; omega)] at hfi
      have HX0 : Hid (RdI wr A2 8 (pX cl 5)) := by
        refine Lib.hid ?_
        obtain ⟨A3, c3, he, _, h3⟩ := rd_of_own hfi
        injection he with e1 e2 e3 <;> (subst e1; exact h3)
      obtain ⟨ad, rfl, _, _⟩ := HX0.out.2 (by omega)
      have hR := HR.out (by omega)
      have hsg := sig_pX (c := cl) (m := 5) (by omega) hR
      have HCB : Hid (∀ z, z < 5 → -50 ≤ cl.getD z 0 ∧ cl.getD z 0 ≤ 50) := Lib.hid hR
      have CSx : Hid (∀ W, RdI W (some ad) 8 (pX cl 5) → Calls Try.prog 19 #[.slice (some ad) 8 cap2] W fun e w' => e = .returned (.int .i64 0) ∧ W = w') := fun W h => by
        have := refSignalErr_any (some ad) 8 cap2 (pX cl 5) W h (by omega)
        rwa [hsg] at this
      have CCI : Hid (∀ W, RdI W (some ad) 8 (pX cl 5) → Calls Try.prog 18 #[.slice (some ad) 8 cap2] W (RdOne W 8 (pX cl 5))) := fun W h => (copyInts_any (some ad) 8 cap2 (pX cl 5) W (fun h => by cases h) h (by omega)).mono fun e w' ho => ho.rd (pX_len cl 5)
      have hdE : difE (pX cl 5) 4 = 0 := by rw [difE, firstNZ2, if_pos hsg]; decide
      have hdL : difL (pX cl 5) 4 = List.replicate 4 (cl.getD 4 0) := by rw [difL, if_pos hdE]; exact dif3 cl
      have CDf : Hid (∀ B' d' W, RdI W B' 8 (pX cl 5) → Calls Try.prog 17 #[.slice B' 8 d', .int .i64 4] W (RdRes W 0 4 (List.replicate 4 (cl.getD 4 0)))) := fun B' d' W h => by
        have := Differences_any B' 8 d' (pX cl 5) 4 W h (by omega)
        rw [hdE, hdL, List.length_replicate] at this
        exact this
      have hvE : valE 3 (pX cl 5) (q : Int) = 0 := by
        rw [valE, firstNZ3, degE_of3, if_pos rfl, if_pos hsg, pX_len]
        exact rngE_of (by omega)
      have hvN : valN 3 (pX cl 5) (q : Int) = vnum3 (pX cl 5) (q : Int) := by rw [valN, if_pos hvE]; rw [if_neg (by decide)]
      have hvD : valD 3 (pX cl 5) (q : Int) = 1572864 := by rw [valD, if_pos hvE]; rw [if_neg (by decide)]
      have CVa : Hid (∀ B' d' W, RdI W B' 8 (pX cl 5) → Calls Try.prog 56 #[.int .i64 3, .slice B' 8 d', .int .i64 (q : Int)] W fun e w' => e = .returned (.tuple #[.int .i64 (vnum3 (pX cl 5) (q : Int)), .int .i64 1572864, .int .i64 0]) ∧ Below W.heap.size W w') := fun B' d' W h => by
        have := ValueAt_any 3 B' 8 d' (pX cl 5) (q : Int) W h (by omega)
        rwa [hvE, hvN, hvD] at this
      have hnb := num3_bd (xs := pX cl 5) (q := (q : Int)) (sigE_zero hsg).2 (by omega)
      have CWn := Lib.hid (fun W => within_any (vnum3 (pX cl 5) (q : Int)) (-1000000000000) 1000000000000 W)
      rw [show fromB (-1000000000000) 1000000000000 [vnum3 (pX cl 5) (q : Int)] = true by rw [fromB_one]; exact decide_eq_true hnb] at CWn
      have hval := val3 cl (q := (q : Int)) (by omega)
      obtain ⟨fr, hfr⟩ : ∃ f, q % 64 = f := ⟨_, rfl⟩
      have hfl : fr < 64 := by omega
      have vrem : (q : Int).tmod 64 = (fr : Int) := by rw [Int.tmod_eq_emod_of_nonneg (by omega)]; omega
      have vrem2 : IntKind.i64.wrap (fr : Int) = (fr : Int) := IntWalk.i64_in _ (by omega)
      have hqm : (q : Int) % 64 = (fr : Int) := by omega
      unfold rN3 rD3 at hval
      rw [hqm] at hval
      have hlow := low3 ⟨fr, hfl⟩
      have hur := ur3 ⟨fr, hfl⟩
      dsimp only at hlow hur
      have hrE : degfE 3 (fr : Int) = 0 := by rw [degfE, firstNZ2, degE_of3, if_pos rfl]; exact rngE_of (by omega)
      have CRa := Lib.hid (fun W => RemainderAt_any 3 (fr : Int) W)
      unfold remN remD at CRa
      rw [hrE, if_pos rfl, if_pos rfl, show rdn 3 = 402653184 by rfl] at CRa
      obtain ⟨rn, hrn⟩ : ∃ z, frN (remF 3 (fr : Int)) 402653184 = z := ⟨_, rfl⟩
      obtain ⟨rd, hrd⟩ : ∃ z, frD (remF 3 (fr : Int)) 402653184 = z := ⟨_, rfl⟩
      rw [hrn, hrd] at CRa hlow hur hval
      obtain ⟨hgc, hrdb, hrnb, hmd, hcmp⟩ := hlow
      have CMa := Lib.hid (fun W => MaximumRemainder3_any W)
      rw [mx3.1, mx3.2] at CMa
      have CI1 := Lib.hid (fun W => isLow_any rn rd W (by omega) (by omega) hgc)
      have CI2 := Lib.hid (fun W => isLow_any 3 128 W (by omega) (by omega) (by decide))
      have CWr := Lib.hid (fun W => within_any rn (-1000000000) 1000000000 W)
      rw [show fromB (-1000000000) 1000000000 [rn] = true by rw [fromB_one]; exact decide_eq_true hrnb] at CWr
      have CSz := Lib.hid (fun W => bsize_any rn W (by omega))
      obtain ⟨an, han⟩ : ∃ z, absF rn = z := ⟨_, rfl⟩
      rw [han] at CSz hcmp
      have CCm : Hid (∃ v, v ≤ 0 ∧ ∀ W, Calls Try.prog 57 #[.int .i64 an, .int .i64 rd, .int .i64 3, .int .i64 128] W fun e w' => e = .returned (.int .i64 v) ∧ W = w') := by
        refine Lib.hid ?_
        rcases hcmp with h | h
        · exact ⟨-1, by omega, fun W => compare_any h W⟩
        · exact ⟨0, by omega, fun W => compare_any h W⟩
      obtain ⟨cv, hcv, hCC⟩ := CCm.out
      have CCp := Lib.hid hCC
      have hcv2 : ¬ 0 < cv := by omega
      have hrdg : ¬ (1000000000 : Int) < rd := by omega
      have hrdg2 : decide ((1000000000 : Int) < rd) = false := decide_eq_false hrdg
      have hcv3 : decide ((0 : Int) < cv) = false := decide_eq_false hcv2
      have CBn := Lib.hid (fun k (hk : k ≤ 4) W => binomial_any q k W (by omega) hk)
      obtain ⟨ur, hure⟩ : ∃ z, (402653184 : Int).tdiv rd = z := ⟨_, rfl⟩
      rw [hure] at hur hval
      have HUR := Lib.hid hure
      obtain ⟨num, hnum⟩ : ∃ z, vnum3 (pX cl 5) (q : Int) = z := ⟨_, rfl⟩
      rw [hnum] at CVa CWn hnb hval
      have hcb := hR 4 (by omega)
      obtain ⟨t, ht⟩ : ∃ z, cl.getD 4 0 = z := ⟨_, rfl⟩
      rw [ht] at CDf hcb hval
      have HT := Lib.hid ht
      have hm1 := mul_bd (a := t) (b := rn) (A := 50) (B := 1000000000) hcb hrnb (by omega) (by omega)
      have hm2 := mul_bd (a := t) (b := rn * ur) (A := 50) (B := 1000000000) hcb ⟨hur.1, hur.2.1⟩ (by omega) (by omega)
      rw [← Int.mul_assoc] at hm2
      have vv1 : IntKind.i64.wrap (t * rn) = t * rn := IntWalk.i64_in _ (by omega)
      have vv2 : IntKind.i64.wrap (t * rn * ur) = t * rn * ur := IntWalk.i64_in _ (by omega)
      have vv3 : IntKind.i64.wrap (num * 256) = num * 256 := IntWalk.i64_in _ (by omega)
      have hvs : num * 256 + t * rn * ur = vS cl (q : Int) 5 := by
        rw [hval]
        simp only [vS, ht]
        omega
      have HVS := Lib.hid hvs
      have vur : IntKind.i64.wrap ur = ur := IntWalk.i64_in _ (by omega)
      have vmd : IntKind.i64.wrap 0 = 0 := by decide
      have hrd0 : ¬ rd = 0 := by omega
      have hrd1 : (rd == 0) = false := by rw [beq_eq_false_iff_ne]; omega
      have HKB : Hid (∀ k, k < 5 → -1000000000000 ≤ kF (q : Int) k ∧ kF (q : Int) k ≤ 1000000000000) := fun k hk => kF_bd ⟨q, by omega⟩ ⟨k, hk⟩
      have HBB : Hid (∀ k, k < 5 → -25000000000 ≤ bnF (q : Int) k ∧ bnF (q : Int) k ≤ 25000000000) := fun k hk => bn_bd ⟨q, by omega⟩ ⟨k, hk⟩
      have K2 := Lib.hid (K1.out.later HB.out)
      have B2 := Lib.hid (B1.out.trans (HB.out.mono B1.out.size))
      obtain ⟨w2, hwr⟩ : ∃ W, W = wr := ⟨_, rfl⟩
      subst hwr
      have X2 := HX0
      clear hfi HI hlt hR hsg hdE hdL hvE hvN hvD hfr hqm hrE hrn hrd hgc hcmp han hCC CCm hure hnum ht hval hur hvs hm1 hm2 HX0 HR HB K1 B1 b0 b6
      go_wp2_with fail
      refine (CSx.out _ X2.out).mono ?_
      rintro e w' ⟨rfl, rfl⟩
      go_wp2_with fail
      refine (CCI.out _ X2.out).mono ?_
      rintro e w3 ⟨⟨AXa, cXa, rfl, hrXa⟩, hb⟩
      have K3 := Lib.hid (K2.out.later hb)
      have B3 := Lib.hid (B2.out.trans (hb.mono B2.out.size))
      have X3 := Lib.hid (X2.out.below hb)
      clear K2 B2 X2 hb
      have Xa3 := Lib.hid hrXa
      clear hrXa
      go_wp2_with fail
      refine (CDf.out _ _ _ Xa3.out).mono ?_
      rintro e w4 ⟨⟨ALd, cLd, rfl, hrLd⟩, hb⟩
      have K4 := Lib.hid (K3.out.later hb)
      have B4 := Lib.hid (B3.out.trans (hb.mono B3.out.size))
      have X4 := Lib.hid (X3.out.below hb)
      have Xa4 := Lib.hid (Xa3.out.below hb)
      clear K3 B3 X3 Xa3 hb
      have Ld4 := Lib.hid hrLd
      clear hrLd
      go_wp2
      go_loopw [12] (fun i wr => ∃ k : Nat, k ≤ 4 ∧ i = .int .i64 k ∧ Hid (∃ z, wr = w4.drewN z)) (fun i _ => 4 - (intOf i).toNat)
      case atStart => exact ⟨0, Nat.zero_le _, rfl, 0, rfl⟩
      case round =>
        obtain ⟨k, hk, rfl, HJ⟩ := hrel
        obtain ⟨z, hz⟩ := HJ.out
        by_cases hlt : k < 4
        · obtain ⟨al, rfl, _, hc⟩ := (Ld4.out.drewN z).2 (by omega)
          have hck := hc k hlt
          have hce := (bx7 (K4.out.drewN z)).2.2 4 (by omega)
          rw [← hz] at hck hce
          rw [HCE.out, HT.out] at hce
          rw [show (List.replicate 4 t).getD k 0 = t from rep_at t hlt] at hck
          have hkI : (k : Int) < 4 := by omega
          have HZ := Lib.hid hz
          clear hc hz HJ
          go_wp2
          go_quiet (fail)
          go_wp2
          go_roundw
          case rel => exact ⟨k + 1, by omega, by go_num, by rw [HZ.out]; exact ⟨_, World.drewN_drewN _ _ _⟩⟩
          case measure => simp [intOf]; omega
        · obtain rfl : k = 4 := by omega
          clear hlt
          have K5 := Lib.hid (K4.out.drewN z)
          have B5 := Lib.hid (belowDrewN B4.out z)
          have X5 := Lib.hid (X4.out.drewN z)
          have Ld5 := Lib.hid (Ld4.out.drewN z)
          clear K4 B4 X4 Ld4
          rw [← hz] at K5 B5 X5 Ld5
          clear hz HJ
          obtain ⟨w5, hw5⟩ : ∃ W, W = wr := ⟨_, rfl⟩
          subst hw5
          obtain ⟨b0, b6, _⟩ := bx7 K5.out
          go_wp2
          go_region_held3 (fun w' : World => w'.cell? ⟨w.heap.size, 6, none⟩ = some (.int .i64 (q : Int))) ((go_split_ands; simp [go_sem, *])) (first
            | (go_at_call 18; refine (CCI.out _ X5.out.drew).mono ?_; rintro e wq ⟨⟨Aq, cq, rfl, hrq⟩, hbq⟩; have Kq := (K5.out.drew).later hbq; obtain ⟨b0, b6, _⟩ := bx7 Kq)
            | (go_at_call 56; refine (CVa.out _ _ _ hrq).mono ?_; rintro e wp ⟨rfl, hbp⟩; have Kp := Kq.later hbp; obtain ⟨b0, b6, _⟩ := bx7 Kp))
          all_goals
            have K6 := Lib.hid Kp
            have B6 := Lib.hid (B5.out.drew.trans ((hbq.trans (hbp.mono hbq.size)).mono B5.out.drew.size))
            clear Kq Kp hrq hbq hbp K5 B5 X5 b0 b6
            obtain ⟨w6, hw6⟩ : ∃ W, W = wp := ⟨_, rfl⟩
            subst hw6
            obtain ⟨b0, b6, _⟩ := bx7 K6.out
            go_wp2_with fail
            refine (CRa.out _).mono ?_
            rintro e w7 ⟨rfl, hb⟩
            have K7 := Lib.hid (K6.out.later hb)
            have B7 := Lib.hid (B6.out.trans (hb.mono B6.out.size))
            clear K6 B6 hb
            clear b0 b6
            have K8 := Lib.hid (K7.out.alloc (.cells #[.int .i64 rn, .int .i64 rd] 28))
            have B8 := Lib.hid (B7.out.alloc B7.out.size (.cells #[.int .i64 rn, .int .i64 rd] 28))
            clear K7 B7
            have R8 := Lib.hid (Bk.new w7 28 #[.int .i64 rn, .int .i64 rd])
            go_wp2_with fail
            refine (CMa.out _).mono ?_
            rintro e w9 ⟨rfl, hb⟩
            have K9 := Lib.hid (K8.out.later hb)
            have B9 := Lib.hid (B8.out.trans (hb.mono B8.out.size))
            have R9 := Lib.hid (R8.out.later hb)
            clear K8 B8 R8 hb
            have K10 := Lib.hid (K9.out.alloc (.cells #[.int .i64 3, .int .i64 128] 28))
            have B10 := Lib.hid (B9.out.alloc B9.out.size (.cells #[.int .i64 3, .int .i64 128] 28))
            have R10 := Lib.hid (R9.out.alloc (.cells #[.int .i64 3, .int .i64 128] 28))
            clear K9 B9 R9
            have M10 := Lib.hid (Bk.new w9 28 #[.int .i64 3, .int .i64 128])
            obtain ⟨r0, r1⟩ := bkr2 R10.out
            obtain ⟨m0, m1⟩ := bkr2 M10.out
            go_wp2
            go_region_held3 (fun w' : World => (w'.cell? ⟨w7.heap.size, 0, none⟩ = some (.int .i64 rn) ∧ w'.cell? ⟨w7.heap.size, 1, none⟩ = some (.int .i64 rd)) ∧ w'.cell? ⟨w9.heap.size, 0, none⟩ = some (.int .i64 3) ∧ w'.cell? ⟨w9.heap.size, 1, none⟩ = some (.int .i64 128)) ((go_split_ands; simp [go_sem, *])) (first
              | (go_at_call 39; (with_reducible refine (CI1.out _).mono ?_); rintro e wq ⟨rfl, hbq⟩; have Rq := (R10.out.drew).later hbq; have Mq := (M10.out.drew).later hbq; obtain ⟨r0, r1⟩ := bkr2 Rq; obtain ⟨m0, m1⟩ := bkr2 Mq)
              | (go_at_call 39; (with_reducible refine (CI2.out _).mono ?_); rintro e wp ⟨rfl, hbp⟩; have Rp := Rq.later hbp; have Mp := Mq.later hbp; obtain ⟨r0, r1⟩ := bkr2 Rp; obtain ⟨m0, m1⟩ := bkr2 Mp)
              | (go_at_call 20; refine (CWr.out _).mono ?_; rintro e w' ⟨rfl, rfl⟩)
              | (go_at_call 38; refine (CSz.out _).mono ?_; rintro e w' ⟨rfl, rfl⟩)
              | (go_at_call 57; refine (CCp.out _).mono ?_; rintro e w' ⟨rfl, rfl⟩))
            all_goals
              have K11 := Lib.hid (((K10.out.drew).later hbq).later hbp)
              have B11 := Lib.hid (B10.out.drew.trans ((hbq.trans (hbp.mono hbq.size)).mono B10.out.drew.size))
              have R11 := Lib.hid Rp
              clear Rq Mq Rp Mp hbq hbp K10 B10 R10 M10 r0 r1 m0 m1
              obtain ⟨w11, hw11⟩ : ∃ W, W = wp := ⟨_, rfl⟩
              subst hw11
              go_wp2_with fail
              refine (CWn.out _).mono ?_
              rintro e w' ⟨rfl, rfl⟩
              go_wp2
              go_loop [20, 22] (fun s i => ∃ k : Nat, k ≤ 4 ∧ i = .int .i64 k ∧ s = .int .i64 (pwF k)) (fun _ i => 4 - (intOf i).toNat)
              case atStart => exact ⟨0, Nat.zero_le _, rfl, rfl⟩
              case round =>
                obtain ⟨k, hk, rfl, rfl⟩ := hrel
                by_cases hlt : k < 4
                · have hkI : (k : Int) < 4 := by omega
                  have hps := pwF_step ⟨k, hlt⟩
                  dsimp only at hps
                  have vp : IntKind.i64.wrap (pwF k * 64) = pwF (k + 1) := by rw [hps.1]; exact IntWalk.i64_in _ (by omega)
                  obtain ⟨p, hp⟩ : ∃ p, pwF k = p := ⟨_, rfl⟩
                  obtain ⟨p2, hp2⟩ : ∃ p, pwF (k + 1) = p := ⟨_, rfl⟩
                  rw [hp, hp2] at vp
                  rw [hp]
                  have HP2 := Lib.hid hp2
                  clear hps hp hp2
                  go_wp2
                  go_round
                  case rel => exact ⟨k + 1, by omega, by go_num, by rw [HP2.out]⟩
                  case measure => simp [intOf]; omega
                · obtain rfl : k = 4 := by omega
                  rw [show pwF 4 = 16777216 from rfl]
                  clear hlt
                  go_wp2
                  have F0 := Lib.hid (Bk.new w11 3 #[.int .i64 24, .int .i64 24, .int .i64 12, .int .i64 4, .int .i64 1])
                  have K9 := Lib.hid (K11.out.alloc (.cells #[.int .i64 24, .int .i64 24, .int .i64 12, .int .i64 4, .int .i64 1] 3))
                  have B9 := Lib.hid (B11.out.alloc B11.out.size (.cells #[.int .i64 24, .int .i64 24, .int .i64 12, .int .i64 4, .int .i64 1] 3))
                  have R9 := Lib.hid (R11.out.alloc (.cells #[.int .i64 24, .int .i64 24, .int .i64 12, .int .i64 4, .int .i64 1] 3))
                  obtain ⟨gf, hgf⟩ : ∃ g, w11.heap.size = g := ⟨_, rfl⟩
                  obtain ⟨w9, hw9⟩ : ∃ W, w11.alloc (.cells #[.int .i64 24, .int .i64 24, .int .i64 12, .int .i64 4, .int .i64 1] 3) = W := ⟨_, rfl⟩
                  rw [hgf, hw9] at F0
                  rw [hw9] at K9 B9 R9
                  try rw [hw9]
                  try rw [hgf]
                  clear hgf hw9 K11 B11 R11
                  go_loopw [21, 24, 25] (fun s p i wr => ∃ k : Nat, k ≤ 5 ∧ i = .int .i64 k ∧ s = .int .i64 (vS cl (q : Int) k) ∧ p = .int .i64 (pwG k) ∧ Hid (∃ z, wr = w9.drewN z) ∧ Hid (-(50000000000000 * (k : Int)) ≤ vS cl (q : Int) k ∧ vS cl (q : Int) k ≤ 50000000000000 * (k : Int))) (fun _ _ i _ => 5 - (intOf i).toNat)
                  case atStart => exact ⟨0, Nat.zero_le _, rfl, rfl, rfl, Lib.hid ⟨0, rfl⟩, Lib.hid (by simp [vS])⟩
                  case round =>
                    obtain ⟨k, hk, rfl, rfl, rfl, HJ, HV⟩ := hrel
                    obtain ⟨z, hz⟩ := HJ.out
                    by_cases hlt : k < 5
                    · have hkI : (k : Int) ≤ 4 := by omega
                      have hkI2 : (k : Int) < 5 := by omega
                      have hk5 : k < 5 := by omega
                      have hck := (bx7 (K9.out.drewN z)).2.2 k hk5
                      have hq6 := (bx7 (K9.out.drewN z)).2.1
                      have hfk := fac_rd (F0.out.drewN z) k hk5
                      rw [← hz] at hck hq6 hfk
                      rw [HCE.out] at hck
                      have hcb := HCB.out k hlt
                      have hkb := HKB.out k hk5
                      have hbb := HBB.out k hk5
                      have hkf := kF_eq (q : Int) hk5
                      have hpw := pwG_step ⟨k, hk5⟩
                      dsimp only at hpw
                      have CB := Lib.hid (fun W => CBn.out k (by omega) W)
                      have hvb := HV.out
                      have hvs : vS cl (q : Int) (k + 1) = vS cl (q : Int) k + cl.getD k 0 * kF (q : Int) k := rfl
                      obtain ⟨x, hx⟩ : ∃ x, cl.getD k 0 = x := ⟨_, rfl⟩
                      obtain ⟨fa, hfa⟩ : ∃ x, facL.getD k 0 = x := ⟨_, rfl⟩
                      obtain ⟨bn, hbn⟩ : ∃ x, bnF (q : Int) k = x := ⟨_, rfl⟩
                      obtain ⟨pw, hpwe⟩ : ∃ x, pwG k = x := ⟨_, rfl⟩
                      obtain ⟨pw2, hpwe2⟩ : ∃ x, pwG (k + 1) = x := ⟨_, rfl⟩
                      obtain ⟨vs, hvse⟩ : ∃ x, vS cl (q : Int) k = x := ⟨_, rfl⟩
                      rw [hx] at hck hcb hvs
                      rw [hfa] at hfk hkf hpw
                      rw [hbn] at hkf hbb CB
                      rw [hpwe, hpwe2] at hpw
                      rw [hpwe] at hkf
                      rw [hvse] at hvb hvs
                      rw [hkf] at hvs hkb
                      have m1 := mul_bd (a := x) (b := fa) (A := 50) (B := 24) hcb (by omega) (by omega) (by omega)
                      have m2 := mul_bd (a := x * fa) (b := bn) (A := 1200) (B := 25000000000) (by omega) hbb (by omega) (by omega)
                      have m3 := mul_bd (a := x) (b := fa * bn * pw) (A := 50) (B := 1000000000000) hcb hkb (by omega) (by omega)
                      have ha : x * (fa * bn * pw) = x * fa * bn * pw := by rw [← Int.mul_assoc, ← Int.mul_assoc]
                      rw [ha] at m3 hvs
                      have u1 : IntKind.i64.wrap (x * fa) = x * fa := IntWalk.i64_in _ (by omega)
                      have u2 : IntKind.i64.wrap (x * fa * bn) = x * fa * bn := IntWalk.i64_in _ (by omega)
                      have u3 : IntKind.i64.wrap (x * fa * bn * pw) = x * fa * bn * pw := IntWalk.i64_in _ (by omega)
                      have u4 : IntKind.i64.wrap (vs + x * fa * bn * pw) = vs + x * fa * bn * pw := IntWalk.i64_in _ (by omega)
                      have u5 : IntKind.i64.wrap (pw.tdiv 64) = pw2 := by rw [hpw.1]; exact IntWalk.i64_in _ (by omega)
                      have u6 : pw.tdiv 64 = pw2 := hpw.1
                      have u8 : IntKind.i64.wrap pw2 = pw2 := IntWalk.i64_in _ (by omega)
                      rw [hvse, hpwe]
                      have HVN : Hid (-(50000000000000 * ((k + 1 : Nat) : Int)) ≤ vS cl (q : Int) (k + 1) ∧ vS cl (q : Int) (k + 1) ≤ 50000000000000 * ((k + 1 : Nat) : Int)) := by
                        refine Lib.hid ?_
                        rw [hvs]; omega
                      have HVS2 := Lib.hid hvs
                      have HPW := Lib.hid hpwe2
                      have HZ := Lib.hid hz
                      clear hx hfa hbn hpwe hpwe2 hvse hvs hkf hkb hbb hvb hpw m1 m2 m3 ha hz HJ HV u5
                      go_wp2
                      go_quiet ((go_at_call 58; exact quietP (CB.out _)))
                      go_wp2
                      go_roundw
                      case rel => exact ⟨k + 1, by omega, by go_num, by rw [HVS2.out], by rw [HPW.out], by rw [HZ.out]; exact ⟨_, World.drewN_drewN _ _ _⟩, HVN⟩
                      case measure => simp [intOf]; omega
                    · obtain rfl : k = 5 := by omega
                      obtain ⟨r0, r1⟩ := bkr2 (R9.out.drewN z)
                      rw [← hz] at r0 r1
                      have hbx := (bx7 (K9.out.drewN z)).2.2 4 (by omega)
                      rw [← hz, HCE.out, HT.out] at hbx
                      have BZ := belowDrewN B9.out z
                      rw [← hz] at BZ
                      have hvv := HVS.out
                      have hvb := HV.out
                      obtain ⟨vs, hvse⟩ : ∃ x, vS cl (q : Int) 5 = x := ⟨_, rfl⟩
                      rw [hvse] at hvv hvb ⊢
                      have u7 : IntKind.i64.wrap (num * 256 + t * rn * ur) = vs := by rw [hvv]; exact IntWalk.i64_in _ (by omega)
                      have BZ' := Lib.hid BZ
                      clear hvv hvse hvb hlt hz HJ HV BZ
                      have hu9 := HUR.out
                      go_wp2
                      go_quiet (fail)
                      go_wp2
                      go_ret
                      exact ⟨by simp, belowDrewN BZ'.out _⟩

end Go.Proofs.Ytghpofhpkbgckaa


namespace Go.Proofs.Ytghpofhpkbgckaa
open Go.RowKit

set_option maxRecDepth 100000 in
theorem pol_D (d c0 c1 c2 c3 c4 q : Int) (w : World) (hd1 : d ≠ 1) (hd3 : d ≠ 3) : Calls Try.prog 11 #[.agg #[.int .i64 d, .int .i64 c0, .int .i64 c1, .int .i64 c2, .int .i64 c3, .int .i64 c4, .int .i64 q]] w fun e w' => e = .returned (.bool true) ∧ Below w.heap.size w w' := by
  have CD := Lib.hid (fun W => refDegreeErr_any d W)
  rw [degE_no hd1 hd3] at CD
  have K0 := Lib.hid (Bk.new w 83 #[.int .i64 d, .int .i64 c0, .int .i64 c1, .int .i64 c2, .int .i64 c3, .int .i64 c4, .int .i64 q])
  have B0 := Lib.hid (below1 w (.cells #[.int .i64 d, .int .i64 c0, .int .i64 c1, .int .i64 c2, .int .i64 c3, .int .i64 c4, .int .i64 q] 83))
  clear hd1 hd3
  go_enter Try.func11, Try.ntmps11
  go_wp2_with fail
  refine (awake_any _).mono ?_
  rintro e w1 ⟨rfl, hb⟩
  have K1 := Lib.hid (K0.out.later hb)
  have B1 := Lib.hid (B0.out.trans (hb.mono B0.out.size))
  clear hb K0 B0
  obtain ⟨b0, b6, _⟩ := bx7 K1.out
  go_wp2_with fail
  refine (CD.out _).mono ?_
  rintro e w' ⟨rfl, rfl⟩
  go_wp2
  go_ret
  exact ⟨by simp, B1.out⟩
set_option maxRecDepth 100000 in
theorem pol_Q (d c0 c1 c2 c3 c4 q : Int) (w : World) (hd : d = 1 ∨ d = 3) (hq : ¬ (64 ≤ q ∧ q ≤ 383)) : Calls Try.prog 11 #[.agg #[.int .i64 d, .int .i64 c0, .int .i64 c1, .int .i64 c2, .int .i64 c3, .int .i64 c4, .int .i64 q]] w fun e w' => e = .returned (.bool true) ∧ Below w.heap.size w w' := by
  have CD := Lib.hid (fun W => refDegreeErr_any d W)
  rw [show degE d = 0 by unfold degE; rw [if_pos hd]] at CD
  have CQ := Lib.hid (fun W => within_any q 64 383 W)
  rw [show fromB 64 383 [q] = false by rw [fromB_one]; exact decide_eq_false hq] at CQ
  have K0 := Lib.hid (Bk.new w 83 #[.int .i64 d, .int .i64 c0, .int .i64 c1, .int .i64 c2, .int .i64 c3, .int .i64 c4, .int .i64 q])
  have B0 := Lib.hid (below1 w (.cells #[.int .i64 d, .int .i64 c0, .int .i64 c1, .int .i64 c2, .int .i64 c3, .int .i64 c4, .int .i64 q] 83))
  clear hd hq
  go_enter Try.func11, Try.ntmps11
  go_wp2_with fail
  refine (awake_any _).mono ?_
  rintro e w1 ⟨rfl, hb⟩
  have K1 := Lib.hid (K0.out.later hb)
  have B1 := Lib.hid (B0.out.trans (hb.mono B0.out.size))
  clear hb K0 B0
  obtain ⟨b0, b6, _⟩ := bx7 K1.out
  go_wp2_with fail
  refine (CD.out _).mono ?_
  rintro e w' ⟨rfl, rfl⟩
  go_wp2_with fail
  refine (CQ.out _).mono ?_
  rintro e w' ⟨rfl, rfl⟩
  go_wp2
  go_ret
  exact ⟨by simp, B1.out⟩
theorem poly_walk (d c0 c1 c2 c3 c4 q : Int) (w : World) : Calls Try.prog 11 #[.agg #[.int .i64 d, .int .i64 c0, .int .i64 c1, .int .i64 c2, .int .i64 c3, .int .i64 c4, .int .i64 q]] w fun e w' => e = .returned (.bool true) ∧ Below w.heap.size w w' := by
  by_cases hd : d = 1 ∨ d = 3
  rotate_left
  · exact pol_D d c0 c1 c2 c3 c4 q w (fun h => hd (.inl h)) (fun h => hd (.inr h))
  by_cases hq : 64 ≤ q ∧ q ≤ 383
  rotate_left
  · exact pol_Q d c0 c1 c2 c3 c4 q w hd hq
  obtain ⟨k, rfl⟩ := Int.eq_ofNat_of_zero_le (show 0 ≤ q by omega)
  rcases hd with rfl | rfl
  · exact polw_1 c0 c1 c2 c3 c4 k w (by omega)
  · exact polw_3 c0 c1 c2 c3 c4 k w (by omega)

end Go.Proofs.Ytghpofhpkbgckaa

