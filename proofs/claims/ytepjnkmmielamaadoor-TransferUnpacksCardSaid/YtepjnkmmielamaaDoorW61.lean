import Derived.Test.YtepjnkmmielamaaDoorW60
namespace Go.Proofs.YtepjnkmmielamaaDoor
open Go.RowKit

theorem rd_own63 {w : World} {base : Nat} {e : TypeId} {v : Value} {n : Nat} {xs : List Int} (h : w.ownsRow base e 1 v n (xs.map (Value.int .i64))) (h0 : 0 < n) :
    ∃ ad c, v = .slice (some ad) n c ∧ n ≤ c ∧ c ≤ 9223372036854775807 ∧ ad.block < w.heap.size ∧ RdI w (some ad) n xs := by
  obtain ⟨A, c, hv, hnc, hr⟩ := rd_of_own h
  obtain ⟨ad, rfl, hlt, _⟩ := hr.2 h0
  refine ⟨ad, c, hv, hnc, ?_, hlt, hr⟩
  rcases h.2 with ⟨h1, _⟩ | ⟨g, cap, cur, h1, _, _, _, hm, _⟩
  · rw [hv] at h1; cases h1
  · rw [hv] at h1; cases h1; unfold maxLen at hm; omega
def resT (l : List Int) (k j : Nat) : List Int := (numsU l k j).map unfold1
theorem resT_succ (l : List Int) (k j : Nat) : resT l k (j + 1) = resT l k j ++ [unfold1 (stepU (restR l k j) k)] := by simp [resT, numsU]
theorem resT_length (l : List Int) (k j : Nat) : (resT l k j).length = j := by simp [resT, numsU_length]

set_option maxRecDepth 100000 in
set_option maxHeartbeats 8000000 in
theorem refUnp_core (A : Option Addr) (n c : Nat) (l : List Int) (p k : Nat) (w : World) (H : UnpIn w A n c l p k) (ok : Bool) (hok : rdOk (l.drop 7) k = ok) (r : Int)
    (hr : ok = true → rangesE (unfT (rdXs (l.drop 7) k) p 8) (-32767) 32767 = r) :
    Calls Tryd.prog 53 #[.slice A n c] w fun e w' => ∃ ys, e = .returned (.tuple #[.agg ys, .int .i64 (if ok then r else 10)]) ∧ Is8 ys (if ok = true ∧ r = 0 then unfT (rdXs (l.drop 7) k) p 8 else [0, 0, 0, 0, 0, 0, 0, 0]) ∧ Below w.heap.size w w' := by
  have HR := Lib.hid H.rd
  have HB := Lib.hid H.b01
  have n7 := H.n7
  have n4 := H.n400
  have nc := H.nc
  have c6 := H.c6
  have p3 := H.p3
  have k18 := H.k18
  have hb1 : b01 l = true := (b01_iff l).2 H.b01
  have CA : Hid (∀ W, RdI W A n l → Calls Tryd.prog 54 #[.slice A n c] W fun e w' => e = .returned (.bool true) ∧ W = w') := fun W h => by rw [← hb1]; exact areBits_any A n c l W h (by omega)
  have HZ8 := Lib.hid (is8_iArr [0, 0, 0, 0, 0, 0, 0, 0] rfl)
  rw [← zero8_iArr] at HZ8
  have hX : Bk ((w.alloc (.cells zero8 35)).alloc (.cells zero8 35)) (w.heap.size + 1) 35 zero8 := by
    simpa using Bk.new (w.alloc (.cells zero8 35)) 35 zero8
  have HX := Lib.hid hX
  obtain ⟨wA, hwA⟩ : ∃ wA, ((w.alloc (.cells zero8 35)).alloc (.cells zero8 35)).setRow (w.heap.size + 1) zero8 = wA := ⟨_, rfl⟩
  have U0 : Hid (RU w wA) := by show RU w wA; rw [← hwA]; exact ru_start w
  have HWA := Lib.hid hwA
  have rd1 : Hid (RdI w (cutA A 0 c) 2 (l.take 2)) := by
    have := HR.out.cut 0 c 2 (by omega) nc
    rw [List.drop_zero] at this
    exact this
  have rd2 : Hid (RdI w (cutA A 2 c) 5 ((l.drop 2).take 5)) := HR.out.cut 2 c 5 (by omega) nc
  have hs1 : ∀ W, (Instr.slice 48 (.slice A n c) none (some (.int .i64 2)) none).run Tryd.prog W = .ok (.slice (cutA A 0 c) 2 c) W := fun W => cutTo_run A n c 2 2 rfl (by omega) W
  have hs2 : ∀ W, (Instr.slice 48 (.slice A n c) (some (.int .i64 2)) (some (.int .i64 7)) none).run Tryd.prog W = .ok (.slice (cutA A 2 c) 5 (c - 2)) W := fun W => cut_run A n c 2 7 5 _ 2 7 rfl rfl (by omega) (by omega) (by omega) rfl W
  obtain ⟨A1, hA1⟩ : ∃ A1, cutA A 0 c = A1 := ⟨_, rfl⟩
  obtain ⟨A2, hA2⟩ : ∃ A2, cutA A 2 c = A2 := ⟨_, rfl⟩
  rw [hA1] at rd1 hs1
  rw [hA2] at rd2 hs2
  clear hA1 hA2 hb1
  have CN1 : Hid (∀ d, Calls Tryd.prog 55 #[.slice A1 2 d] wA.drew fun e w' => e = .returned (.int .i64 p) ∧ wA.drew = w') := fun d => by rw [← H.hp]; exact numberOf_any _ 2 d _ _ (rd1.out.below U0.out.drew.bel) (HB.out.take _) (by omega)
  have CN2 : Hid (∀ d, Calls Tryd.prog 55 #[.slice A2 5 d] wA.drew fun e w' => e = .returned (.int .i64 k) ∧ wA.drew = w') := fun d => by rw [← H.hk]; exact numberOf_any _ 5 d _ _ (rd2.out.below U0.out.drew.bel) ((HB.out.drop _).take _) (by omega)
  have CE : Hid (∀ W, Calls Tryd.prog 50 #[.int .i64 p, .int .i64 k] W fun e w' => e = .returned (.int .i64 0) ∧ W = w') := fun W => by
    have := parametersErr_any (p : Int) k W
    have e : parE (p : Int) k = 0 := by unfold parE inB; simp; omega
    rw [e] at this; exact this
  have C3 : Hid (∀ W, Calls Tryd.prog 108 #[.int .i64 k] W fun e w' => e = .returned (.int .i64 (pw k)) ∧ W = w') := fun W => power_any k W (by omega)
  have zA : w.heap.size < wA.drew.heap.size := by have := U0.out.drew.lt; omega
  have G1 := Lib.hid (U0.out.drew)
  have HRr := Lib.hid hr
  have HOK := Lib.hid hok
  obtain ⟨L, hL⟩ : ∃ L, l.drop 7 = L := ⟨_, rfl⟩
  rw [hL] at HRr HOK
  have HL := Lib.hid hL
  have HLl : Hid (L.length + 7 = n) := by show L.length + 7 = n; rw [← hL, List.length_drop]; have := HR.out.1; omega
  have HLB : Hid (Bits01 L) := by show Bits01 L; rw [← hL]; exact HB.out.drop 7
  clear hwA hX hok hr H rd1 rd2
  rw [hL]
  clear hL
  have hd0 : decide ((3000 : Int) < n) = false := by simp; omega
  have hd1 : decide ((n : Int) < 7) = false := by simp; omega
  obtain ⟨i0, hi, hz0, hz1, hz2⟩ := info_parts intInfo
  go_enter Tryd.func53, Tryd.ntmps53
  go_wp2_with (first
    | (with_reducible refine wpList_store_row rfl 35 (.tmp 4) (.tmp 14) rfl (w.heap.size + 1) zero8 rfl rfl 35 zero8 HX.out.heap HZ8.out.info rfl HZ8.out.one ?_; rw [HWA.out])
    | (go_at_call 54; refine (CA.out _ (HR.out.below U0.out.bel)).mono ?_; rintro e w' ⟨rfl, rfl⟩))
  go_region_held3 (fun w' => w.heap.size < w'.heap.size)
    (first | exact zA | (simpa using zA) | go_keep)
    (first
      | (go_at_call 55; (with_reducible refine (CN1.out _).mono ?_); rintro e w' ⟨rfl, rfl⟩)
      | (go_at_call 55; (with_reducible refine (CN2.out _).mono ?_); rintro e w' ⟨rfl, rfl⟩))
  go_wp2_with (first
    | (go_at_call 50; refine (CE.out _).mono ?_; rintro e w' ⟨rfl, rfl⟩))
  obtain ⟨w1, hw1⟩ : ∃ w1, wA.drew = w1 := ⟨_, rfl⟩
  rw [hw1] at G1 ⊢
  clear hw1 zA CN1 CN2 CE CA U0 HWA HX hs1 hs2 hd0 hd1
  go_loopw [7, 8, 9] (fun v a i wr => ∃ j : Nat, j ≤ 8 ∧ i = .int .i64 j ∧ a = .int .i64 ((7 + atR L k j : Nat) : Int) ∧ 7 + atR L k j ≤ n ∧ Hid (okR L k j = true) ∧ Hid (wr.ownsRow (w.heap.size + 2) 3 1 v j ((resT L k j).map (Value.int .i64))) ∧ Hid (RU w wr)) (fun _ _ i _ => 8 - (intOf i).toNat)
  case atStart => exact ⟨0, by omega, rfl, rfl, by simp [atR]; omega, rfl, World.ownsRow_nil _ _ _ _, G1⟩
  case round =>
    clear G1
    obtain ⟨j, hj, rfl, rfl, han, hokj, ho, hU⟩ := hrel
    by_cases hlt : j < 8
    · have H01 := Lib.hid (restR_01 L k j HLB.out)
      have hub := stepU_bd _ k H01.out (by omega) (by have := restR_len L k j; have := HLl.out; omega)
      have hrd := restR_drop L k j
      have hrs := Lib.hid (resT_succ L k j)
      have hat : Hid (atR L k (j + 1) = atR L k j + (onesL (restR L k j) + 1 + k)) := rfl
      have hokx : Hid (okR L k (j + 1) = (okR L k j && stepOk (restR L k j) k)) := rfl
      have HST : Hid (stepOk (restR L k j) k = false → ok = false) := fun h => by have := rdOk_stop L k j hlt h; rw [HOK.out] at this; exact this
      obtain ⟨R, hRe⟩ : ∃ R, restR L k j = R := ⟨_, rfl⟩
      rw [hRe] at H01 hub hrd hrs hat hokx HST
      clear hRe
      obtain ⟨a, ha⟩ : ∃ a, 7 + atR L k j = a := ⟨_, rfl⟩
      have hRl : Hid (R = l.drop a) := by
        show R = _
        have e : L.drop (atR L k j) = (l.drop 7).drop (atR L k j) := by rw [HL.out]
        rw [hrd, e, List.drop_drop, ha]
      have hat' : Hid (7 + atR L k (j + 1) = a + (onesL R + 1 + k)) := by show _ = _; rw [hat.out]; omega
      rw [ha] at han ⊢
      clear hat ha hrd
      have hRn : Hid (R.length = n - a) := by show R.length = _; rw [hRl.out, List.length_drop]; have := HR.out.1; omega
      obtain ⟨o, hoe⟩ : ∃ o, onesL R = o := ⟨_, rfl⟩
      have hol : o ≤ n - a := by rw [← hoe, ← hRn.out]; exact onesL_le R
      have hone : Hid (∀ t, t < o → l.getD (a + t) 0 = 1) := fun t ht => by
        have := (ones_at R t H01.out (by omega)).2
        rw [hRl.out, getD_drop] at this
        exact this
      have hzero : Hid (a + o < n → l.getD (a + o) 0 = 0) := fun h => by
        have := ones_end R (by rw [hoe, hRn.out]; omega)
        rw [hoe, hRl.out, getD_drop] at this
        exact this
      rw [hoe] at hat'
      have hstep : Hid (stepOk R k = decide (a + o + 1 + k ≤ n)) := by
        show stepOk R k = _
        unfold stepOk
        rw [hoe, hRn.out]
        congr 1
        apply propext
        omega
      have hsu : Hid (stepU R k = (o : Int) * pw k + numT ((l.drop (a + o + 1)).take k)) := by
        show stepU R k = _
        unfold stepU pw
        have e : (R.drop (o + 1)).take k = (l.drop (a + o + 1)).take k := by rw [hRl.out, List.drop_drop]; rfl
        rw [hoe, e]
      clear hoe
      have F0 := Lib.hid (hU.out.fin zero8)
      obtain ⟨wo, hwo⟩ : ∃ wo : World, wo = wr := ⟨_, rfl⟩
      subst hwo
      go_wp2
      go_loop [8, 10] (fun b i => ∃ t : Nat, t ≤ o ∧ b = .int .i64 ((a + t : Nat) : Int) ∧ i = .int .i64 t) (fun _ i => o - (intOf i).toNat)
      case atStart => exact ⟨0, by omega, rfl, rfl⟩
      case round =>
        obtain ⟨t, ht, rfl, rfl⟩ := hrel
        by_cases hto : t < o
        · obtain ⟨ad, hA, _, hcell⟩ := (HR.out.below hU.out.bel).2 (by omega)
          have hck := hcell (a + t) (by omega)
          rw [hone.out t hto] at hck
          subst hA
          clear hcell
          have hb1 : ((a + t : Nat) : Int) < (n : Int) := by omega
          go_wp2
          go_round
          case rel => exact ⟨t + 1, by omega, by go_num, by go_num⟩
          case measure => simp [intOf]; omega
        · obtain rfl : t = o := by omega
          by_cases hgo : a + t + 1 + k ≤ n
          · obtain ⟨ad, hA, _, hcell⟩ := (HR.out.below hU.out.bel).2 (by omega)
            have hck := hcell (a + t) (by omega)
            rw [hzero.out (by omega)] at hck
            subst hA
            clear hcell
            have hat2 : ((a + t : Nat) : Int) < (n : Int) := by omega
            have hlo : a + t + 1 + k ≤ c := by omega
            have hsl : ∀ W, (Instr.slice 48 (.slice (some ad) n c) (some (.int .i64 ((a : Int) + t + 1))) (some (.int .i64 ((a : Int) + t + 1 + k))) none).run Tryd.prog W = .ok (.slice (cutA (some ad) (a + t + 1) c) k (c - (a + t + 1))) W := fun W => cut_run (some ad) n c (a + t + 1) (a + t + 1 + k) k _ _ _ (by omega) (by omega) (by omega) (by omega) (by omega) rfl W
            have rd3 : Hid (RdI w (cutA (some ad) (a + t + 1) c) k ((l.drop (a + t + 1)).take k)) := HR.out.cut (a + t + 1) c k (by omega) nc
            have B3 : Hid (Bits01 ((l.drop (a + t + 1)).take k)) := (HB.out.drop _).take _
            obtain ⟨A3, hA3⟩ : ∃ A3, cutA (some ad) (a + t + 1) c = A3 := ⟨_, rfl⟩
            rw [hA3] at hsl rd3
            clear hA3
            obtain ⟨N, hN⟩ : ∃ N, numT ((l.drop (a + t + 1)).take k) = N := ⟨_, rfl⟩
            have CN : Hid (∀ d, Calls Tryd.prog 55 #[.slice A3 k d] wo fun e w' => e = .returned (.int .i64 N) ∧ wo = w') := fun d => by rw [← hN]; exact numberOf_any A3 k d _ wo (rd3.out.below hU.out.bel) B3.out (by omega)
            rw [hN] at hsu
            have hpw := pw_bd k (by omega)
            have hob : (0 : Int) ≤ (t : Int) * pw k ∧ (t : Int) * pw k ≤ 400 * 131072 := ⟨Int.mul_nonneg (by omega) (by omega), Int.mul_le_mul (by omega) hpw.2 (by omega) (by omega)⟩
            obtain ⟨Pk, hPk⟩ : ∃ Pk, pw k = Pk := ⟨_, rfl⟩
            rw [hPk] at hsu hpw hob C3
            obtain ⟨S, hS⟩ : ∃ S, (t : Int) * Pk = S := ⟨_, rfl⟩
            rw [hS] at hsu hob
            obtain ⟨U, hU1⟩ : ∃ U, stepU R k = U := ⟨_, rfl⟩
            rw [hU1] at hsu hub hrs
            obtain ⟨un, hun⟩ : ∃ un : Nat, U = un := Int.eq_ofNat_of_zero_le hub.1
            subst hun
            have hmul : (t : Int) * Pk = S := hS
            have hw2 : IntKind.i64.wrap S = S := IntWalk.i64_in _ (by omega)
            have hw3 : S + N = (un : Int) := hsu.out.symm
            have CU : Hid (∀ W, Calls Tryd.prog 114 #[.int .i64 un] W fun e w' => e = .returned (.int .i64 (unfold1 un)) ∧ W = w') := fun W => refUnfold_any un W (by omega)
            obtain ⟨V, hV⟩ : ∃ V, unfold1 un = V := ⟨_, rfl⟩
            rw [hV] at CU hrs
            clear hN hS hU1 hV hsu rd3 B3
            have zo := hU.out.lt
            go_wp2_with (first
              | (go_at_call 55; refine (CN.out _).mono ?_; rintro e w' ⟨rfl, rfl⟩)
              | (go_at_call 108; refine (C3.out _).mono ?_; rintro e w' ⟨rfl, rfl⟩)
              | (go_at_call 114; refine (CU.out _).mono ?_; rintro e w' ⟨rfl, rfl⟩)
              | (at_builtin; refine wpList_append_own _ rfl (.tmp 78) (.tmp 86) 48 rfl (w.heap.size + 2) 3 i0 (.int .i64 0) 1 8 intsUnder hi hz0 hz1 hz2 rfl (by decide) _ _ _ rfl (ho.out.alloc _) ⟨World.heap _ |>.size, 0, none⟩ 1 1 [.int .i64 V] rfl rfl (src_one _ _ _) (one_one _) (by unfold maxLen; omega) (by omega) (by simp; omega) ?_; intro v9 w9 ho9 hg9 _))
            have b9 : Below (w.heap.size + 2) wo w9 := ((Below.refl _ _).alloc (by omega) _).grown hg9 (by simp; omega) (fun g hg => (ho.out.lt g hg).1)
            have o9 : Hid (w9.ownsRow (w.heap.size + 2) 3 1 v9 (j + 1) ((resT L k (j + 1)).map (Value.int .i64))) := by
              show w9.ownsRow _ _ _ _ _ _
              rw [hrs.out, List.map_append]
              exact ho9
            have U9 : Hid (RU w w9) := hU.out.above b9 (Nat.le_refl _)
            clear ho9 hg9 b9 ho hU hmul hw2 hw3 hsl CN CU
            go_wp2
            go_roundw
            case rel =>
              refine ⟨j + 1, by omega, by go_num, ?_, ?_, ?_, o9, U9⟩
              · rw [hat'.out]; congr 1; omega
              · rw [hat'.out]; omega
              · show okR L k (j + 1) = true
                rw [hokx.out, hokj.out, hstep.out]; simp; omega
            case measure => simp [intOf]; omega
          · have hstop : ok = false := HST.out (by rw [hstep.out]; simp; omega)
            subst hstop
            by_cases hlast : a + t < n
            · obtain ⟨ad, hA, _, hcell⟩ := (HR.out.below hU.out.bel).2 (by omega)
              have hck := hcell (a + t) (by omega)
              rw [hzero.out hlast] at hck
              subst hA
              clear hcell
              have hat2 : ((a + t : Nat) : Int) < (n : Int) := by omega
              go_wp2_with (first
                | (with_reducible refine wpList_load_row rfl 35 (.tmp 4) rfl (w.heap.size + 1) rfl 35 zero8 (0, 0) _ hU.out.g1.heap arrUnder rfl HZ8.out.info ?_)
                | (with_reducible refine wpList_store_row rfl 35 (.tmp 2) (.tmp 64) rfl w.heap.size zero8 rfl rfl 35 zero8 hU.out.g0.heap HZ8.out.info rfl HZ8.out.one ?_))
              refine bodyPost_ret (v := .tuple #[.agg zero8, .int .i64 10]) ?_ rfl ⟨zero8, rfl, HZ8.out, F0.out.2⟩
              exact results_cell_tmp (fn := Tryd.f53) rfl _ _ w.heap.size 35 zero8 (0, 0) _ rfl F0.out.1 arrUnder rfl HZ8.out.info
            · have hat2 : ¬ ((a + t : Nat) : Int) < (n : Int) := by omega
              go_wp2_with (first
                | (with_reducible refine wpList_load_row rfl 35 (.tmp 4) rfl (w.heap.size + 1) rfl 35 zero8 (0, 0) _ hU.out.g1.heap arrUnder rfl HZ8.out.info ?_)
                | (with_reducible refine wpList_store_row rfl 35 (.tmp 2) (.tmp 64) rfl w.heap.size zero8 rfl rfl 35 zero8 hU.out.g0.heap HZ8.out.info rfl HZ8.out.one ?_))
              refine bodyPost_ret (v := .tuple #[.agg zero8, .int .i64 10]) ?_ rfl ⟨zero8, rfl, HZ8.out, F0.out.2⟩
              exact results_cell_tmp (fn := Tryd.f53) rfl _ _ w.heap.size 35 zero8 (0, 0) _ rfl F0.out.1 arrUnder rfl HZ8.out.info
    · obtain rfl : j = 8 := by omega
      rw [show (((8 : Nat)) : Int) = (8 : Int) from rfl]
      have F0 := Lib.hid (hU.out.fin zero8)
      have hrl8 : (restR L k 8).length = n - (7 + atR L k 8) := by rw [restR_drop, List.length_drop]; have := HLl.out; omega
      have hokv : ok = decide (7 + atR L k 8 = n) := by
        rw [← HOK.out]
        unfold rdOk
        rw [hokj.out, hrl8, Bool.true_and]
        congr 1
        apply propext
        omega
      have hxs : rdXs L k = numsU L k 8 := by unfold rdXs; rw [hokj.out]; rfl
      have HUS := Lib.hid (numsU_getD L k 8 HLB.out (by omega) (by have := HLl.out; omega))
      obtain ⟨us, hus⟩ : ∃ us, numsU L k 8 = us := ⟨_, rfl⟩
      have hres : resT L k 8 = us.map unfold1 := by unfold resT; rw [hus]
      have husl : us.length = 8 := by rw [← hus]; exact numsU_length L k 8
      obtain ⟨T, hT⟩ : ∃ T, 7 + atR L k 8 = T := ⟨_, rfl⟩
      rw [hT] at hokv han ⊢
      rw [hres] at ho
      rw [hxs, hus] at HRr
      rw [hus] at HUS hxs
      have HXS := Lib.hid hxs
      clear hT hres hxs hus hrl8 hokj HOK
      by_cases hend : T = n
      · have hok1 : ok = true := by rw [hokv]; simp [hend]
        subst hok1
        clear hokv
        subst hend
        obtain ⟨ad8, c8, rfl, hm8, hc8, hadl8, hr8⟩ := rd_own63 ho.out (by omega)
        have R8 := Lib.hid hr8
        have z8 := hU.out.lt
        clear ho hr8
        obtain ⟨w8, hw8⟩ : ∃ w8 : World, w8 = wr := ⟨_, rfl⟩
        subst hw8
        have hrr := HRr.out (by trivial)
        have HRR := Lib.hid hrr
        clear hrr HRr
        go_wp2
        go_loopw [13] (fun i wr => ∃ j : Nat, j ≤ 8 ∧ i = .int .i64 j ∧ Hid (Bk wr w8.heap.size 35 (iArr (padU (unfT us p j)))) ∧ Hid (rangesE (unfT us p j) (-32767) 32767 = 0) ∧ Hid (RU w wr) ∧ Hid (Below w8.heap.size w8 wr)) (fun i _ => 8 - (intOf i).toNat)
        case atStart => exact ⟨0, by omega, rfl, Bk.new _ _ _, rfl, hU.out.later ((Below.refl _ _).alloc (Nat.le_refl _) _), (Below.refl _ _).alloc (Nat.le_refl _) _⟩
        case round =>
          obtain ⟨j, hj, rfl, hx, hrg, hU2, hb8⟩ := hrel
          by_cases hlt : j < 8
          · have hbn : Bnd (padU (unfT us p j)) 32767 := (bnd_of_rangesE _ hrg.out).pad (by omega)
            have hpl := padU_length (unfT us p j) (by rw [unfT_length]; omega)
            have hex := expd_pad us p j
            have hEb := expd_bd (padU (unfT us p j)) j p 32767 hbn (by omega)
            rw [hex] at hEb
            have hst := unfT_step us p j hlt
            have hnx : unfT us p (j + 1) = unfT us p j ++ [expd (unfT us p j) j p + unfold1 (us.getD j 0)] := rfl
            have hub := unfold1_bd _ (HUS.out j).1 (HUS.out j).2
            obtain ⟨adx, hade, _, hcx⟩ := (R8.out.below hb8.out).2 (by omega)
            have hcr := hcx j hlt
            obtain rfl := Option.some.inj hade
            have hgm : (us.map unfold1).getD j 0 = unfold1 (us.getD j 0) := by
              simp [List.getD_eq_getElem?_getD, List.getElem?_eq_getElem (show j < us.length by omega)]
            rw [hgm] at hcr
            have HC := Lib.hid (is8_iArr (padU (unfT us p j)) hpl)
            have hcur0 : Hid ((iArr (padU (unfT us p j)))[j]? = some (.int .i64 ((padU (unfT us p j)).getD j 0))) := iArr_at _ _ (by omega)
            have hset : Hid (∀ v, v = expd (unfT us p j) j p + unfold1 (us.getD j 0) → (iArr (padU (unfT us p j))).setIfInBounds j (.int .i64 v) = iArr (padU (unfT us p (j + 1)))) := by
              intro v hv; rw [iArr_set, hv, hst]
            obtain ⟨y0, y1, y2, y3, y4, y5, y6, y7, hyl⟩ : ∃ y0 y1 y2 y3 y4 y5 y6 y7 : Int, iArr (padU (unfT us p j)) = #[.int .i64 y0, .int .i64 y1, .int .i64 y2, .int .i64 y3, .int .i64 y4, .int .i64 y5, .int .i64 y6, .int .i64 y7] := ⟨_, _, _, _, _, _, _, _, HC.out.lit⟩
            have C1 : Hid (∀ W, Calls Tryd.prog 107 #[.agg #[.int .i64 y0, .int .i64 y1, .int .i64 y2, .int .i64 y3, .int .i64 y4, .int .i64 y5, .int .i64 y6, .int .i64 y7], .int .i64 j, .int .i64 p] W fun e w' => e = .returned (.int .i64 (expd (unfT us p j) j p)) ∧ Below W.heap.size W w') := fun W => by rw [← hyl, ← hex]; exact refExpected_any _ _ j p W HC.out hbn hlt p3
            rw [hyl] at hx hset hcur0
            obtain ⟨E, hE⟩ : ∃ E, expd (unfT us p j) j p = E := ⟨_, rfl⟩
            obtain ⟨V, hV⟩ : ∃ V, unfold1 (us.getD j 0) = V := ⟨_, rfl⟩
            obtain ⟨old, hold⟩ : ∃ old, (padU (unfT us p j)).getD j 0 = old := ⟨_, rfl⟩
            rw [hE] at hEb C1 hset hnx
            rw [hV] at hub hcr hset hnx
            rw [hold] at hcur0
            have HNX := Lib.hid hnx
            clear hbn hpl hex hst hcx hgm HC hyl hE hV hold hnx
            have hxl := hx.out.lt
            have cj : wr.cell? ⟨w8.heap.size, j, none⟩ = some (.int .i64 old) := by rw [hx.out.cell]; exact hcur0.out
            have fj : wr.frozen? ⟨w8.heap.size, j, none⟩ = false := hx.out.frozen j
            have e0 : wr.cell? ⟨w8.heap.size, 0, none⟩ = some (.int .i64 y0) := by rw [hx.out.cell]; rfl
            have e1 : wr.cell? ⟨w8.heap.size, 1, none⟩ = some (.int .i64 y1) := by rw [hx.out.cell]; rfl
            have e2 : wr.cell? ⟨w8.heap.size, 2, none⟩ = some (.int .i64 y2) := by rw [hx.out.cell]; rfl
            have e3 : wr.cell? ⟨w8.heap.size, 3, none⟩ = some (.int .i64 y3) := by rw [hx.out.cell]; rfl
            have e4 : wr.cell? ⟨w8.heap.size, 4, none⟩ = some (.int .i64 y4) := by rw [hx.out.cell]; rfl
            have e5 : wr.cell? ⟨w8.heap.size, 5, none⟩ = some (.int .i64 y5) := by rw [hx.out.cell]; rfl
            have e6 : wr.cell? ⟨w8.heap.size, 6, none⟩ = some (.int .i64 y6) := by rw [hx.out.cell]; rfl
            have e7 : wr.cell? ⟨w8.heap.size, 7, none⟩ = some (.int .i64 y7) := by rw [hx.out.cell]; rfl
            have adl : (ad8.add j).block < wr.heap.size := by rw [addBlock]; omega
            have hwrap : IntKind.i64.wrap (V + E) = V + E := IntWalk.i64_in _ (by omega)
            go_wp2_with fail
            go_region_law (first | (go_simp; go_at_call 107; refine (C1.out _).mono ?_; rintro e w2 ⟨rfl, hb⟩; have cr2 : w2.cell? (ad8.add j) = some (.int .i64 V) := (by rw [hb.cell (by simpa using adl)]; simpa using hcr); have cj2 : w2.cell? ⟨w8.heap.size, j, none⟩ = some (.int .i64 old) := (by rw [hb.cell (by simpa using hxl)]; simpa using cj); have fj2 : w2.frozen? ⟨w8.heap.size, j, none⟩ = false := (by rw [hb.frozen (by simpa using hxl)]; simpa using fj)))
            all_goals
              obtain ⟨w3, hw3⟩ : ∃ w3, w2.setCell ⟨w8.heap.size, j, none⟩ (.int .i64 (V + E)) = w3 := ⟨_, rfl⟩
              have zb : w.heap.size + 1 < w8.heap.size := z8
              have x3 : Hid (Bk w3 w8.heap.size 35 (iArr (padU (unfT us p (j + 1))))) := by
                show Bk _ _ _ _
                have := ((hx.out.drew).below hb (by simpa using hxl)).set_ j (.int .i64 (V + E))
                rw [hset.out _ (by omega), hw3] at this
                exact this
              have U3 : Hid (RU w w3) := by show RU w w3; rw [← hw3]; exact ((hU2.out.drew).later hb).set_ _ _ (by simp; omega)
              have b3 : Hid (Below w8.heap.size w8 w3) := by show Below _ _ _; rw [← hw3]; exact ((hb8.out.drew).trans (hb.mono (by simp; omega))).setCell (by simp) _
              have c3 : w3.cell? ⟨w8.heap.size, j, none⟩ = some (.int .i64 (V + E)) := by rw [← hw3]; simp [go_sem, cj2, fj2]
              rw [hw3]
              have F3 := Lib.hid (U3.out.fin zero8)
              clear hw3 cr2 cj2 fj2 hb hx hU2 hb8 cj fj hcr e0 e1 e2 e3 e4 e5 e6 e7 C1 hset hcur0 adl hxl
              obtain ⟨b, hbv⟩ : ∃ b, inB (V + E) (-32767) 32767 = b := ⟨_, rfl⟩
              have CI : Hid (∀ W, Calls Tryd.prog 115 #[.int .i64 (V + E)] W fun e w' => e = .returned (.bool b) ∧ W = w') := fun W => by rw [← hbv]; exact isSample_any _ W
              cases b
              · have hr2 : r = 2 := by
                  have hmem : E + V ∈ unfT us p 8 := unfT_mono us p (j + 1) 8 (by omega) _ (by rw [HNX.out]; simp)
                  rw [← HRR.out]
                  refine (rangesE_cases _ _ _).resolve_left fun h0 => ?_
                  have := (rangesE_zero _ _ _).1 h0 _ hmem
                  unfold inB at hbv
                  simp at hbv
                  omega
                subst hr2
                clear hbv
                go_wp2_with (first
                  | (go_at_call 115; refine (CI.out _).mono ?_; rintro e w' ⟨rfl, rfl⟩)
                  | (with_reducible refine wpList_load_row rfl 35 (.tmp 4) rfl (w.heap.size + 1) rfl 35 zero8 (0, 0) _ U3.out.g1.heap arrUnder rfl HZ8.out.info ?_)
                  | (with_reducible refine wpList_store_row rfl 35 (.tmp 2) (.tmp 113) rfl w.heap.size zero8 rfl rfl 35 zero8 U3.out.g0.heap HZ8.out.info rfl HZ8.out.one ?_))
                refine bodyPost_ret (v := .tuple #[.agg zero8, .int .i64 2]) ?_ rfl ⟨zero8, rfl, HZ8.out, F3.out.2⟩
                exact results_cell_tmp (fn := Tryd.f53) rfl _ _ w.heap.size 35 zero8 (0, 0) _ rfl F3.out.1 arrUnder rfl HZ8.out.info
              · have hrg3 : Hid (rangesE (unfT us p (j + 1)) (-32767) 32767 = 0) := by
                  show rangesE _ _ _ = 0
                  rw [HNX.out]
                  refine (rangesE_zero _ _ _).2 fun x hx => ?_
                  rcases List.mem_append.1 hx with hx | hx
                  · exact (rangesE_zero _ _ _).1 hrg.out x hx
                  · simp at hx
                    unfold inB at hbv
                    simp at hbv
                    omega
                clear hbv
                go_wp2_with (first
                  | (go_at_call 115; refine (CI.out _).mono ?_; rintro e w' ⟨rfl, rfl⟩))
                go_roundw
                case rel => exact ⟨j + 1, by omega, by go_num, x3, hrg3, U3, b3⟩
                case measure => simp [intOf]; omega
          · obtain rfl : j = 8 := by omega
            have hr0 : r = 0 := by rw [← HRR.out]; exact hrg.out
            subst hr0
            have hnl := unfT_length us p 8
            rw [padU_full _ hnl] at hx
            have HC := Lib.hid (is8_iArr (unfT us p 8) hnl)
            obtain ⟨cur, hcur⟩ : ∃ cur, iArr (unfT us p 8) = cur := ⟨_, rfl⟩
            rw [hcur] at hx HC
            have F3 := Lib.hid (hU2.out.fin cur)
            clear hcur hnl
            go_wp2_with (first
              | (with_reducible refine wpList_load_row rfl 35 (.tmp 12) rfl w8.heap.size rfl 35 cur (0, 0) _ hx.out.heap arrUnder rfl HC.out.info ?_)
              | (with_reducible refine wpList_store_row rfl 35 (.tmp 2) (.tmp 114) rfl w.heap.size cur rfl rfl 35 zero8 hU2.out.g0.heap HC.out.info HC.out.zsize HC.out.one ?_))
            refine bodyPost_ret (v := .tuple #[.agg cur, .int .i64 0]) ?_ rfl ⟨cur, rfl, by rw [HXS.out]; exact HC.out, F3.out.2⟩
            exact results_cell_tmp (fn := Tryd.f53) rfl _ _ w.heap.size 35 cur (0, 0) _ rfl F3.out.1 arrUnder rfl HC.out.info
      · have hok0 : ok = false := by rw [hokv]; simp [hend]
        subst hok0
        clear hokv
        have hne : ((T : Int) != (n : Int)) = true := by simp; omega
        have hne2 : (T != n) = true := by simp; omega
        go_wp2_with (first
          | (with_reducible refine wpList_load_row rfl 35 (.tmp 4) rfl (w.heap.size + 1) rfl 35 zero8 (0, 0) _ hU.out.g1.heap arrUnder rfl HZ8.out.info ?_)
          | (with_reducible refine wpList_store_row rfl 35 (.tmp 2) (.tmp 92) rfl w.heap.size zero8 rfl rfl 35 zero8 hU.out.g0.heap HZ8.out.info rfl HZ8.out.one ?_))
        refine bodyPost_ret (v := .tuple #[.agg zero8, .int .i64 10]) ?_ rfl ⟨zero8, rfl, HZ8.out, F0.out.2⟩
        exact results_cell_tmp (fn := Tryd.f53) rfl _ _ w.heap.size 35 zero8 (0, 0) _ rfl F0.out.1 arrUnder rfl HZ8.out.info

end Go.Proofs.YtepjnkmmielamaaDoor
