import Derived.Test.YtepjnkmmielamaaDoorW50
import Derived.Test.YtepjnkmmielamaaDoorGA
import Derived.StillTailTactics
namespace Go.Proofs.YtepjnkmmielamaaDoor
open Go.RowKit

theorem results_cell_tmp {P : Program} {fn : Func} {p q : Tmp} {ty : TypeId} (h : fn.results = #[.cell p ty, .tmp q]) (tmps : Array Value) (w : World) (g : Nat) (t : TypeId) (cs : Array Value) (fr : Nat × Nat) (d : TypeDesc)
    (hp : tmps.getD p undef = .pointer (some ⟨g, 0, none⟩)) (hg : w.heap[g]? = some (.cells cs t fr))
    (hu : P.underlying ty = some d) (hd : (match d with | .struct _ | .array _ _ => true | _ => false) = true) (hi : (P.info? ty).map (·.size) = some cs.size) :
    (results fn tmps).run P w = .ok (.tuple #[.agg cs, tmps.getD q undef]) w := by
  have hp' : tmps[p]?.getD undef = .pointer (some ⟨g, 0, none⟩) := by simpa using hp
  simp [results, h, hp', asAddr, run_loadVar_row w g t ty cs fr d hg hu hd hi]

theorem is8_iArr (xs : List Int) (h : xs.length = 8) : Is8 (iArr xs) xs := ⟨by rw [iArr_size, h], h, fun j hj => iArr_at xs j (by omega)⟩
theorem zero8_iArr : zero8 = iArr [0, 0, 0, 0, 0, 0, 0, 0] := rfl

theorem add_add' (a : Addr) (m n : Nat) : (a.add m).add n = a.add (m + n) := by
  unfold Addr.add
  by_cases hm : m = 0
  · subst hm; simp
  · by_cases hn : n = 0
    · subst hn; simp
    · rw [if_neg hm, if_neg hn, if_neg (by omega)]
      simp [Nat.add_assoc]

/-- The address of a part of a slice. -/
def cutA (a : Option Addr) (lo c : Nat) : Option Addr := if c = lo then a else a.map (·.add (lo * 1))
theorem intElem : Tryd.prog.elem 48 = 3 := by kernel_rfl
theorem intsUnder' : Tryd.prog.underlying 48 = some (.slice (Tryd.prog.elem 48)) := by kernel_rfl
theorem sizeOfInt (W : World) : (sizeOf 3).run Tryd.prog W = .ok 1 W := by kernel_rfl
theorem cut_run (a : Option Addr) (n c lo hi m d : Nat) (l h : Int) (hl : l = lo) (hh : h = hi) (h1 : lo ≤ hi) (h2 : hi ≤ c) (hm : hi - lo = m) (hd : c - lo = d) (W : World) :
    (Instr.slice 48 (.slice a n c) (some (.int .i64 l)) (some (.int .i64 h)) none).run Tryd.prog W = .ok (.slice (cutA a lo c) m d) W := by
  have := run_slice_lh (P := Tryd.prog) (w := W) 48 a n c intsUnder' .i64 .i64 l h (by omega) (by omega) (by omega)
  rw [this, intElem, sizeOfInt, ← hm, ← hd, hl, hh]
  rfl
theorem cutTo_run (a : Option Addr) (n c hi : Nat) (h : Int) (hh : h = hi) (h2 : hi ≤ c) (W : World) :
    (Instr.slice 48 (.slice a n c) none (some (.int .i64 h)) none).run Tryd.prog W = .ok (.slice (cutA a 0 c) hi c) W := by
  have := run_slice_h (P := Tryd.prog) (w := W) 48 a n c intsUnder' .i64 h (by omega) (by omega)
  rw [this, intElem, sizeOfInt, hh]
  rfl
theorem cutFrom_run (a : Option Addr) (n c lo m d : Nat) (l : Int) (hl : l = lo) (h1 : lo ≤ n) (hm : n - lo = m) (hd : c - lo = d) (W : World) :
    (Instr.slice 48 (.slice a n c) (some (.int .i64 l)) none none).run Tryd.prog W = .ok (.slice (cutA a lo c) m d) W := by
  have := run_slice_l (P := Tryd.prog) (w := W) 48 a n c intsUnder' .i64 l (by omega) (by omega)
  rw [this, intElem, sizeOfInt, ← hm, ← hd, hl]
  rfl
theorem RdI.cut {w : World} {a : Option Addr} {n : Nat} {xs : List Int} (h : RdI w a n xs) (lo c m : Nat) (h1 : lo + m ≤ n) (h2 : n ≤ c) : RdI w (cutA a lo c) m ((xs.drop lo).take m) := by
  have hl := h.1
  refine ⟨by rw [List.length_take, List.length_drop]; omega, fun hm => ?_⟩
  obtain ⟨ad, rfl, hb, hc⟩ := h.2 (by omega)
  refine ⟨ad.add (lo * 1), ?_, by rw [addBlock]; exact hb, fun j hj => ?_⟩
  · unfold cutA; rw [if_neg (by omega)]; rfl
  · rw [add_add', hc (lo * 1 + j) (by omega)]
    congr 2
    simp only [List.getD_eq_getElem?_getD, List.getElem?_take, List.getElem?_drop]
    rw [if_pos hj, Nat.mul_one]

set_option maxRecDepth 100000 in
set_option maxHeartbeats 2000000 in
theorem readCodes_any (A : Option Addr) (n c : Nat) (l : List Int) (k : Nat) (w : World) (hr : RdI w A n l) (hb : Bits01 l) (hn : n ≤ 400) (hnc : n ≤ c) (hc : c ≤ 9223372036854775807) (hk : k ≤ 17) :
    Calls Tryd.prog 112 #[.slice A n c, .int .i64 k] w fun e w' => ∃ us, e = .returned (.tuple #[.agg us, .bool (rdOk l k)]) ∧ Is8 us (rdXs l k) ∧ Below w.heap.size w w' := by
  have HR := Lib.hid hr; clear hr
  have HB := Lib.hid hb; clear hb
  have hl := HR.out.1
  go_enter Tryd.func112, Tryd.ntmps112
  go_wp2
  go_loopw [0, 10] (fun s i wr => ∃ (j : Nat) (A' : Option Addr) (n' c' : Nat), j ≤ 8 ∧ i = .int .i64 j ∧ s = .slice A' n' c' ∧ n' ≤ c' ∧ c' ≤ 9223372036854775807 ∧ Hid (RdI w A' n' (restR l k j)) ∧ Hid (okR l k j = true) ∧ Hid (Bk wr (w.heap.size + 1) 35 (iArr (padU (numsU l k j)))) ∧ Hid (Bk wr w.heap.size 35 zero8) ∧ Hid (Below w.heap.size w wr)) (fun _ i _ => 8 - (intOf i).toNat)
  case atStart => 
    refine ⟨0, A, n, c, by omega, rfl, rfl, hnc, hc, ?_, rfl, ?_, ?_, ?_⟩
    · exact HR.out
    · exact (by simpa using Bk.new (w.alloc (.cells zero8 35)) 35 zero8 : Bk ((w.alloc (.cells zero8 35)).alloc (.cells zero8 35)) (w.heap.size + 1) 35 zero8)
    · exact (Bk.new w _ _).alloc _
    · exact ((Below.refl _ _).alloc (Nat.le_refl _) _).alloc (by simp) _
  case round =>
    obtain ⟨j, A', n', c', hj, rfl, rfl, hnc', hc', hr, hok, hx, hz, hbw⟩ := hrel
    have hrl := restR_len l k j
    have hn' : n' ≤ 400 := by have := hr.out.1; omega
    by_cases hlt : j < 8
    · have H01 := Lib.hid (restR_01 l k j HB.out)
      have hub := stepU_bd _ k H01.out hk (by omega)
      have hnx : Hid (numsU l k (j + 1) = numsU l k j ++ [stepU (restR l k j) k]) := rfl
      have hrx : Hid (restR l k (j + 1) = stepR (restR l k j) k) := rfl
      have hokx : Hid (okR l k (j + 1) = (okR l k j && stepOk (restR l k j) k)) := rfl
      have hstop := rdOk_stop l k j hlt
      have hstopx := rdXs_stop l k j hlt
      obtain ⟨r, hre⟩ : ∃ r, restR l k j = r := ⟨_, rfl⟩
      rw [hre] at hr H01 hub hnx hrx hokx hstop hstopx hrl
      clear hre
      have hrn := hr.out.1
      have CI : Hid (∀ W, RdI W A' n' r → Calls Tryd.prog 154 #[.slice A' n' c', .int .i64 0] W fun e w' => e = .returned (.int .i64 (idxE r)) ∧ W = w') := fun W h => index0_any A' n' c' r W h (by omega)
      have HSTOP := Lib.hid hstop
      have HSTOPX := Lib.hid hstopx
      clear hstop hstopx
      by_cases hgo : onesL r + 1 + k ≤ n'
      · have hidx : Hid (idxE r = (onesL r : Int)) := by show idxE r = _; unfold idxE; rw [if_pos (by omega)]
        have hstep : Hid (stepOk r k = true) := by show stepOk r k = true; unfold stepOk; simp; omega
        have hsu : Hid (stepU r k = (onesL r : Int) * 2 ^ k + numT ((r.drop (onesL r + 1)).take k)) := rfl
        have hsr : Hid (stepR r k = r.drop (onesL r + 1 + k)) := rfl
        obtain ⟨o, ho⟩ : ∃ o, onesL r = o := ⟨_, rfl⟩
        rw [ho] at hidx hsu hsr hgo
        clear ho
        obtain ⟨ad, ha, hadl, hcell⟩ := hr.out.2 (by omega)
        clear hcell ha hadl
        rw [hidx.out] at CI
        have hsl : ∀ W, (Instr.slice 48 (.slice A' n' c') (some (.int .i64 ((o : Int) + 1))) (some (.int .i64 ((o : Int) + 1 + k))) none).run Tryd.prog W = .ok (.slice (cutA A' (o + 1) c') k (c' - (o + 1))) W := fun W => cut_run A' n' c' (o + 1) (o + 1 + k) k _ _ _ (by omega) (by omega) (by omega) (by omega) (by omega) rfl W
        have hsf : ∀ W, (Instr.slice 48 (.slice A' n' c') (some (.int .i64 ((o : Int) + 1 + k))) none none).run Tryd.prog W = .ok (.slice (cutA A' (o + 1 + k) c') (n' - (o + 1 + k)) (c' - (o + 1 + k))) W := fun W => cutFrom_run A' n' c' (o + 1 + k) _ _ _ (by omega) (by omega) rfl rfl W
        have rd1 := Lib.hid (hr.out.cut (o + 1) c' k (by omega) hnc')
        have rd2 : Hid (RdI w (cutA A' (o + 1 + k) c') (n' - (o + 1 + k)) (stepR r k)) := by
          have := hr.out.cut (o + 1 + k) c' (n' - (o + 1 + k)) (by omega) hnc'
          rw [List.take_of_length_le (by rw [List.length_drop]; omega)] at this
          rw [hsr.out]
          exact this
        have H01' : Hid (Bits01 ((r.drop (o + 1)).take k)) := (H01.out.drop _).take _
        obtain ⟨A1, hA1⟩ : ∃ A1, cutA A' (o + 1) c' = A1 := ⟨_, rfl⟩
        obtain ⟨A2, hA2⟩ : ∃ A2, cutA A' (o + 1 + k) c' = A2 := ⟨_, rfl⟩
        rw [hA1] at hsl rd1
        rw [hA2] at hsf rd2
        clear hA1 hA2
        obtain ⟨N, hN⟩ : ∃ N, numT ((r.drop (o + 1)).take k) = N := ⟨_, rfl⟩
        have CN : Hid (∀ W d, RdI W A1 k ((r.drop (o + 1)).take k) → Calls Tryd.prog 111 #[.slice A1 k d] W fun e w' => e = .returned (.int .i64 N) ∧ W = w') := fun W d h => by rw [← hN]; exact numberIn_any A1 k d _ W h H01'.out (by omega)
        rw [hN] at hsu
        clear hN
        have hob : (0 : Int) ≤ (o : Int) * 2 ^ k ∧ (o : Int) * 2 ^ k ≤ 400 * 131072 := by
          have h4 := pw_bd k hk
          unfold pw at h4
          exact ⟨Int.mul_nonneg (by omega) (by omega), Int.mul_le_mul (by omega) h4.2 (by omega) (by omega)⟩
        obtain ⟨S, hS⟩ : ∃ S, (o : Int) * 2 ^ k = S := ⟨_, rfl⟩
        rw [hS] at hob hsu
        obtain ⟨U, hU⟩ : ∃ U, stepU r k = U := ⟨_, rfl⟩
        rw [hU] at hsu hub hnx
        have hw1 : IntKind.i64.wrap ((o : Int) + 1) = (o : Int) + 1 := IntWalk.i64_in _ (by omega)
        have hw2 : IntKind.i64.wrap ((o : Int) * 2 ^ k) = S := by rw [hS]; exact IntWalk.i64_in _ (by omega)
        have hw3 : IntKind.i64.wrap (S + N) = U := by have e := hsu.out; rw [← e]; exact IntWalk.i64_in _ (by omega)
        clear hS hU hsu
        have hln := numsU_length l k j
        have hpl := padU_length (numsU l k j) (by omega)
        obtain ⟨old, hold⟩ : ∃ old, (padU (numsU l k j)).getD j 0 = old := ⟨_, rfl⟩
        have hcell : wr.cell? ⟨w.heap.size + 1, j, none⟩ = some (.int .i64 old) := by rw [hx.out.cell, iArr_at _ _ (by omega), hold]
        have hfr : wr.frozen? ⟨w.heap.size + 1, j, none⟩ = false := hx.out.frozen j
        have hset : Hid ((padU (numsU l k j)).set j U = padU (numsU l k (j + 1))) := by
          show _ = _
          rw [hnx.out]
          have := padU_set (numsU l k j) U (by omega)
          rw [hln] at this
          exact this
        clear hln hpl hold
        go_wp2_with (go_at_call 154; refine (CI.out _ (hr.out.below hbw.out)).mono ?_; rintro e w' ⟨rfl, rfl⟩)
        go_still_tail 12, (by kernel_rfl)
        refine wpStill_step (fun K hK => ?_)
        go_simp
        refine ⟨_, (CN.out _ _ (by exact rd1.out.below hbw.out.drew)).mono (fun e w'' h => ⟨h.1, h.2.symm⟩), hK _ ?_⟩
        clear hK K
        repeat still_step
        refine wpStill_nil ?_
        change wpList _ _ _ _ _ wr.drew
        have hcell' : wr.drew.cell? ⟨w.heap.size + 1, j, none⟩ = some (.int .i64 old) := hcell
        have hfr' : wr.drew.frozen? ⟨w.heap.size + 1, j, none⟩ = false := hfr
        have hx' : Hid (Bk wr.drew (w.heap.size + 1) 35 (iArr (padU (numsU l k j)))) := hx.out.drew
        have hz' : Hid (Bk wr.drew w.heap.size 35 zero8) := hz.out.drew
        have hbw' : Hid (Below w.heap.size w wr.drew) := hbw.out.drew
        clear hcell hfr hx hz hbw hr CI CN hw1 hw2 hw3 hsl rd1
        generalize wr.drew = w2 at *
        go_wp2
        go_roundw
        case rel =>
          refine ⟨j + 1, A2, n' - (o + 1 + k), c' - (o + 1 + k), by omega, by go_num, rfl, by omega, by omega, ?_, ?_, ?_, ?_, ?_⟩
          · rw [hrx.out]; exact rd2.out
          · show okR l k (j + 1) = true
            rw [hokx.out, hok.out, hstep.out]; rfl
          · have := hx'.out.set_ j (.int .i64 U)
            rw [iArr_set, hset.out] at this
            exact this
          · exact hz'.out.far _ (by simp) _
          · exact hbw'.out.setCell (by simp) _
        case measure => simp [intOf]; omega
      · have hstep : stepOk r k = false := by unfold stepOk; simp; omega
        have e1 := HSTOP.out hstep
        have e2 := HSTOPX.out hstep
        have HZ8 := Lib.hid (is8_iArr [0, 0, 0, 0, 0, 0, 0, 0] rfl)
        rw [← zero8_iArr] at HZ8
        have hG := setRow_heap wr w.heap.size _ zero8 _ _ hz.out
        have hB := below_setRow hbw.out (Nat.le_refl _) zero8
        have HG : Hid (Bk (wr.setRow w.heap.size zero8) w.heap.size 35 zero8) := hG
        have HBB := Lib.hid hB
        have HE1 := Lib.hid e1
        have HE2 := Lib.hid e2
        clear e1 e2 hG hB hstep
        by_cases hz0 : onesL r < r.length
        · have hidx : Hid (idxE r = (onesL r : Int)) := by show idxE r = _; unfold idxE; rw [if_pos hz0]
          obtain ⟨o, ho⟩ : ∃ o, onesL r = o := ⟨_, rfl⟩
          rw [ho] at hidx hgo hz0
          rw [hidx.out] at CI
          clear ho hub hnx hrx hokx
          go_wp2_with (first
            | (go_at_call 154; refine (CI.out _ (hr.out.below hbw.out)).mono ?_; rintro e w' ⟨rfl, rfl⟩)
            | (with_reducible refine wpList_store_row rfl 35 (.tmp 4) (.tmp 27) rfl w.heap.size zero8 rfl rfl 35 zero8 hz.out.heap HZ8.out.info rfl HZ8.out.one ?_))
          refine bodyPost_ret (v := .tuple #[.agg zero8, .bool false]) ?_ rfl ⟨zero8, by rw [HE1.out], by rw [HE2.out]; exact HZ8.out, HBB.out⟩
          exact results_cell_tmp (fn := Tryd.f112) rfl _ _ w.heap.size 35 zero8 (0, 0) _ rfl HG.out arrUnder rfl HZ8.out.info
        · have hidx : Hid (idxE r = -1) := by show idxE r = _; unfold idxE; rw [if_neg hz0]
          rw [hidx.out] at CI
          clear hub hnx hrx hokx
          go_wp2_with (first
            | (go_at_call 154; refine (CI.out _ (hr.out.below hbw.out)).mono ?_; rintro e w' ⟨rfl, rfl⟩)
            | (with_reducible refine wpList_store_row rfl 35 (.tmp 4) (.tmp 27) rfl w.heap.size zero8 rfl rfl 35 zero8 hz.out.heap HZ8.out.info rfl HZ8.out.one ?_))
          refine bodyPost_ret (v := .tuple #[.agg zero8, .bool false]) ?_ rfl ⟨zero8, by rw [HE1.out], by rw [HE2.out]; exact HZ8.out, HBB.out⟩
          exact results_cell_tmp (fn := Tryd.f112) rfl _ _ w.heap.size 35 zero8 (0, 0) _ rfl HG.out arrUnder rfl HZ8.out.info
    · obtain rfl : j = 8 := by omega
      have hxs : Hid (rdXs l k = numsU l k 8) := by show rdXs l k = _; unfold rdXs; rw [hok.out]; rfl
      have hnl := numsU_length l k 8
      have hpf := padU_full (numsU l k 8) hnl
      rw [hpf] at hx
      have HC := Lib.hid (is8_iArr (numsU l k 8) hnl)
      have hrd : Hid (rdOk l k = decide (n' = 0)) := by
        show rdOk l k = _
        unfold rdOk
        rw [hok.out, hr.out.1]; rfl
      obtain ⟨cur, hcur⟩ : ∃ cur, iArr (numsU l k 8) = cur := ⟨_, rfl⟩
      rw [hcur] at hx HC
      clear hcur hpf hnl hrl
      have HG : Hid (Bk (wr.setRow w.heap.size cur) w.heap.size 35 cur) := setRow_heap wr w.heap.size _ cur _ _ hz.out
      have HBB := Lib.hid (below_setRow hbw.out (Nat.le_refl _) cur)
      cases n' with
      | zero =>
        go_wp2_with (first
          | (with_reducible refine wpList_load_row rfl 35 (.tmp 6) rfl (w.heap.size + 1) rfl 35 cur (0, 0) _ hx.out.heap arrUnder rfl HC.out.info ?_)
          | (with_reducible refine wpList_store_row rfl 35 (.tmp 4) (.tmp 44) rfl w.heap.size cur rfl rfl 35 zero8 hz.out.heap HC.out.info HC.out.zsize HC.out.one ?_))
        refine bodyPost_ret (v := .tuple #[.agg cur, .bool true]) ?_ rfl ⟨cur, by rw [hrd.out]; rfl, by rw [hxs.out]; exact HC.out, HBB.out⟩
        exact results_cell_tmp (fn := Tryd.f112) rfl _ _ w.heap.size 35 cur (0, 0) _ rfl HG.out arrUnder rfl HC.out.info
      | succ n' =>
        have hb1 : ((((n' + 1 : Nat) : Int)) == 0) = false := by simp; omega
        go_wp2_with (first
          | (with_reducible refine wpList_load_row rfl 35 (.tmp 6) rfl (w.heap.size + 1) rfl 35 cur (0, 0) _ hx.out.heap arrUnder rfl HC.out.info ?_)
          | (with_reducible refine wpList_store_row rfl 35 (.tmp 4) (.tmp 44) rfl w.heap.size cur rfl rfl 35 zero8 hz.out.heap HC.out.info HC.out.zsize HC.out.one ?_))
        refine bodyPost_ret (v := .tuple #[.agg cur, .bool false]) ?_ rfl ⟨cur, by rw [hrd.out]; rfl, by rw [hxs.out]; exact HC.out, HBB.out⟩
        exact results_cell_tmp (fn := Tryd.f112) rfl _ _ w.heap.size 35 cur (0, 0) _ rfl HG.out arrUnder rfl HC.out.info

end Go.Proofs.YtepjnkmmielamaaDoor
