import Derived.Test.YtepjnkmmielamaaDoorW51
import Derived.Test.YtepjnkmmielamaaDoorGA
namespace Go.Proofs.YtepjnkmmielamaaDoor
open Go.RowKit

set_option maxRecDepth 100000 in
set_option maxHeartbeats 2000000 in
theorem unfolded_any (arr : Array Value) (us : List Int) (p : Nat) (w : World) (hw : Laid w) (h : Is8 arr us) (hu : ∀ j, 0 ≤ us.getD j 0 ∧ us.getD j 0 ≤ 60000000) (hp : p < 3) :
    Calls Tryd.prog 113 #[.agg arr, .int .i64 p] w fun e w' => ∃ ys, e = .returned (.agg ys) ∧ Is8 ys (unfT us p 8) ∧ Below w.heap.size w w' := by
  have HW := Lib.hid hw; clear hw
  have H := Lib.hid h; clear h
  have HU := Lib.hid hu; clear hu
  have X0 : Hid (Bk (((w.alloc (.cells arr 35)).alloc (.cells zero8 35)).alloc (.cells zero8 35)) w.heap.size 35 arr) := ((Bk.new w _ _).alloc _).alloc _
  go_enter Tryd.func113, Tryd.ntmps113
  go_wp2_with (with_reducible refine wpList_load_row rfl 35 (.tmp 2) rfl w.heap.size rfl 35 arr (0, 0) _ X0.out.heap arrUnder rfl H.out.info ?_)
  go_loopw [10] (fun i wr => ∃ j : Nat, j ≤ 8 ∧ i = .int .i64 j ∧ Hid (Bk wr (w.heap.size + 1 + 1) 35 (iArr (padU (unfT us p j)))) ∧ Hid (Bk wr (w.heap.size + 1) 35 zero8) ∧ Hid (Below w.heap.size w wr) ∧ w.heap.size + 1 + 1 < wr.heap.size) (fun i _ => 8 - (intOf i).toNat)
  case atStart =>
    refine ⟨0, by omega, rfl, ?_, ?_, ?_, by simp⟩
    · exact (by simpa using Bk.new ((w.alloc (.cells arr 35)).alloc (.cells zero8 35)) 35 zero8 : Bk (((w.alloc (.cells arr 35)).alloc (.cells zero8 35)).alloc (.cells zero8 35)) (w.heap.size + 1 + 1) 35 zero8)
    · exact (by simpa using (Bk.new (w.alloc (.cells arr 35)) 35 zero8).alloc (.cells zero8 35) : Bk (((w.alloc (.cells arr 35)).alloc (.cells zero8 35)).alloc (.cells zero8 35)) (w.heap.size + 1) 35 zero8)
    · exact ((((Below.refl _ _).alloc (Nat.le_refl _) _).alloc (by simp) _).alloc (by simp; omega) _)
  case round =>
    obtain ⟨j, hj, rfl, hx, hz, hbw, hsz⟩ := hrel
    by_cases hlt : j < 8
    · have hix := H.out.ix j hlt
      have hub := HU.out j
      have hst := unfT_step us p j hlt
      have hbn := unfT_pad_bnd us p HU.out j (by omega)
      have hex := expd_pad us p j
      have hEb := expd_bd (padU (unfT us p j)) j p 327660000000 hbn (by omega)
      rw [hex] at hEb
      have hpl := padU_length (unfT us p j) (by rw [unfT_length]; omega)
      have HC := Lib.hid (is8_iArr (padU (unfT us p j)) hpl)
      have C : Hid (∀ W, Laid W → Calls Tryd.prog 151 #[.agg (iArr (padU (unfT us p j))), .int .i64 j, .int .i64 p] W fun e w' => e = .returned (.int .i64 (expd (unfT us p j) j p)) ∧ Below W.heap.size W w') :=
        fun W hW => by rw [← hex]; exact expected_any _ _ j p 327660000000 W hW HC.out hbn (by omega) (by omega) hlt hp
      obtain ⟨E, hE⟩ : ∃ E, expd (unfT us p j) j p = E := ⟨_, rfl⟩
      obtain ⟨u, hu⟩ : ∃ u, us.getD j 0 = u := ⟨_, rfl⟩
      rw [hE] at hEb C hst
      rw [hu] at hst hub hix
      obtain ⟨old, hold⟩ : ∃ old, (padU (unfT us p j)).getD j 0 = old := ⟨_, rfl⟩
      have hcl : Hid ((iArr (padU (unfT us p j)))[j]? = some (.int .i64 old)) := by show _ = _; rw [iArr_at _ _ (by omega), hold]
      have hset : Hid (∀ v, v = E + unfold1 u → (iArr (padU (unfT us p j))).setIfInBounds j (.int .i64 v) = iArr (padU (unfT us p (j + 1)))) := by
        intro v hv; rw [iArr_set, hv, hst]
      obtain ⟨cur, hcur⟩ : ∃ cur, iArr (padU (unfT us p j)) = cur := ⟨_, rfl⟩
      rw [hcur] at hx HC C hcl hset
      clear hcur hold hst hbn hex hpl hE hu
      have HUF : Hid (unfold1 u = if u % 2 = 1 then -(u / 2) - 1 else u / 2) := rfl
      obtain ⟨un, hun⟩ : ∃ un : Nat, u = un := Int.eq_ofNat_of_zero_le hub.1
      subst hun
      by_cases hodd : un % 2 = 1
      · have hb1 : ((un : Int) % 2 == 1) = true := by simp; omega
        have hq : 0 ≤ (un : Int) / 2 ∧ (un : Int) / 2 ≤ 30000000 := by omega
        go_wp2_with (with_reducible refine wpList_load_row rfl 35 (.tmp 5) rfl (w.heap.size + 1 + 1) rfl 35 cur (0, 0) _ hx.out.heap arrUnder rfl HC.out.info ?_)
        refine (C.out _ (HW.out.later hbw.out)).mono ?_
        rintro e w2 ⟨rfl, hb2⟩
        have hx' : Hid (Bk w2 (w.heap.size + 1 + 1) 35 cur) := hx.out.below hb2 hsz
        have hz' : Hid (Bk w2 (w.heap.size + 1) 35 zero8) := hz.out.below hb2 (by omega)
        have hbw' : Hid (Below w.heap.size w w2) := hbw.out.trans (hb2.mono (by omega))
        have hsz' : w.heap.size + 1 + 1 < w2.heap.size := hx'.out.lt
        have hcell : w2.cell? ⟨w.heap.size + 1 + 1, j, none⟩ = some (.int .i64 old) := by rw [hx'.out.cell]; exact hcl.out
        have hfr : w2.frozen? ⟨w.heap.size + 1 + 1, j, none⟩ = false := hx'.out.frozen j
        clear hb2 hx hz hbw hix
        go_wp2
        go_roundw
        case rel =>
          refine ⟨j + 1, by omega, by go_num, ?_, hz'.out.far _ (by simp) _, hbw'.out.setCell (by simp; omega) _, by simpa [World.setCell] using hsz'⟩
          have := hx'.out.set_ j (.int .i64 (E + (-((un : Int) / 2) - 1)))
          rw [hset.out _ (by rw [HUF.out, if_pos (by omega)])] at this
          first | exact this | simpa using this
        case measure => simp [intOf]; omega
      · have hb1 : ((un : Int) % 2 == 1) = false := by simp; omega
        have hq : 0 ≤ (un : Int) / 2 ∧ (un : Int) / 2 ≤ 30000000 := by omega
        go_wp2_with (with_reducible refine wpList_load_row rfl 35 (.tmp 5) rfl (w.heap.size + 1 + 1) rfl 35 cur (0, 0) _ hx.out.heap arrUnder rfl HC.out.info ?_)
        refine (C.out _ (HW.out.later hbw.out)).mono ?_
        rintro e w2 ⟨rfl, hb2⟩
        have hx' : Hid (Bk w2 (w.heap.size + 1 + 1) 35 cur) := hx.out.below hb2 hsz
        have hz' : Hid (Bk w2 (w.heap.size + 1) 35 zero8) := hz.out.below hb2 (by omega)
        have hbw' : Hid (Below w.heap.size w w2) := hbw.out.trans (hb2.mono (by omega))
        have hsz' : w.heap.size + 1 + 1 < w2.heap.size := hx'.out.lt
        have hcell : w2.cell? ⟨w.heap.size + 1 + 1, j, none⟩ = some (.int .i64 old) := by rw [hx'.out.cell]; exact hcl.out
        have hfr : w2.frozen? ⟨w.heap.size + 1 + 1, j, none⟩ = false := hx'.out.frozen j
        clear hb2 hx hz hbw hix
        go_wp2
        go_roundw
        case rel =>
          refine ⟨j + 1, by omega, by go_num, ?_, hz'.out.far _ (by simp) _, hbw'.out.setCell (by simp; omega) _, by simpa [World.setCell] using hsz'⟩
          have := hx'.out.set_ j (.int .i64 (E + (un : Int) / 2))
          rw [hset.out _ (by rw [HUF.out, if_neg (by omega)])] at this
          first | exact this | simpa using this
        case measure => simp [intOf]; omega
    · obtain rfl : j = 8 := by omega
      have hnl := unfT_length us p 8
      have hpf := padU_full (unfT us p 8) hnl
      rw [hpf] at hx
      have HC := Lib.hid (is8_iArr (unfT us p 8) hnl)
      obtain ⟨cur, hcur⟩ : ∃ cur, iArr (unfT us p 8) = cur := ⟨_, rfl⟩
      rw [hcur] at hx HC
      clear hcur hpf hnl
      have HG : Hid (Bk (wr.setRow (w.heap.size + 1) cur) (w.heap.size + 1) 35 cur) := setRow_heap wr (w.heap.size + 1) _ cur _ _ hz.out
      have HBB := Lib.hid (below_setRow hbw.out (Nat.le_succ _) cur)
      go_wp2_with (first
        | (with_reducible refine wpList_load_row rfl 35 (.tmp 5) rfl (w.heap.size + 1 + 1) rfl 35 cur (0, 0) _ hx.out.heap arrUnder rfl HC.out.info ?_)
        | (with_reducible refine wpList_store_row rfl 35 (.tmp 4) (.tmp 31) rfl (w.heap.size + 1) cur rfl rfl 35 zero8 hz.out.heap HC.out.info HC.out.zsize HC.out.one ?_))
      refine bodyPost_ret (v := .agg cur) ?_ rfl ⟨cur, rfl, HC.out, HBB.out⟩
      exact results_cell_row (fn := Tryd.f113) rfl _ _ (w.heap.size + 1) 35 cur (0, 0) _ rfl HG.out arrUnder rfl HC.out.info

end Go.Proofs.YtepjnkmmielamaaDoor
