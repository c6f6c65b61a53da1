import Derived.Test.YtccoflhoggpgoaaGtac
import Derived.Test.YtccoflhoggpgoaaGtab
import Derived.Test.YtccoflhoggpgoaaGtaa
namespace Go.Proofs.Ytccoflhoggpgoaa
open Go.RowKit

open Go.Shelf
attribute [local go_sem] Oper.semAt_some run_store_float

theorem fine_stops (nf : Nat) (hn : 1 ≤ nf) (gx gw X g c : Nat) (w0 : World) (hgx : Bk w0 gx 43 #[.slice (some ⟨g, 0, none⟩) 2 c]) (hgw : Bk w0 gw 169 #[.float .f32 3235905536, .float .f32 1121058816, .float .f32 1108082688, .float .f32 3231711232, .float .f32 3238002688, .float .f32 1116733440, .float .f32 1116733440, .float .f32 3238002688, .float .f32 3231711232, .float .f32 1108082688, .float .f32 1121058816, .float .f32 3235905536]) (hg : Bk w0 g 3 #[.int .i64 128, .int .i64 128]) (n1 : gx ≠ X) (n2 : gw ≠ X) (n3 : g ≠ X) (hXl : X < w0.heap.size) :
    SeqStopsK Fence.wide nf Try.prog 147 #[.pointer (some ⟨gx, 0, none⟩), .pointer (some ⟨gw, 0, none⟩)] (fun x : Fv => #[Value.float .f32 x.1]) (KZ X) (fun ys => ys.map (·.1) = fvL) (fun pre => pre.map (·.1) <+: fvL) 3 w0 := fun l J Jx W hW hJ _ hY h0 => by
  refine (fine1_in nf hn l gx gw X g c w0 hgx hgw hg n1 n2 n3 hXl (fun pre W => ∃ q : List Fv, q.map (·.1) = pre ∧ J q W) (fun pre W => ∃ q : List Fv, q.map (·.1) = pre ∧ Jx q W) ?_ ?_ W (KZ.of_below hW) ⟨[], rfl, h0⟩).mono ?_
  · rintro pre x W1 ⟨q, rfl, hq⟩ hp
    have hx : x = 1183580160 ∨ x = 1183842304 := by
      have := hp.subset (show x ∈ q.map (·.1) ++ [x] by simp)
      simp [fvL] at this
      omega
    refine (hY q ⟨x, hx⟩ W1 hq (by have := hp.length_le; simp [fvL] at this; omega)).mono ?_
    rintro e W' (⟨he, hj, hk⟩ | ⟨he, hj⟩)
    · exact .inl ⟨he, ⟨_, by simp, hj⟩, hk⟩
    · exact .inr ⟨he, ⟨_, by simp, hj⟩⟩
  · rintro pre W1 W2 ⟨q, rfl, hq⟩ hb
    exact ⟨q, rfl, hJ _ _ _ none hq (grown_of_below hb) (fun r e => by cases e)⟩
  · rintro e W' ⟨hv, (⟨ys, rfl, q, hq, hj⟩ | ⟨pre, hp, q, rfl, hj⟩)⟩
    · exact ⟨hv, .inl ⟨q, hq, hj⟩⟩
    · exact ⟨hv, .inr ⟨q, hp, hj⟩⟩

/-- The greatest of them so far. -/
def pkF (pre : List Fv) : Nat := (pre.map (·.1)).foldl max 1182793728
theorem pkF_snoc (pre : List Fv) (x : Fv) : pkF (pre ++ [x]) = max (pkF pre) x.1 := by simp [pkF]
theorem pkF_cases : ∀ pre : List Fv, pkF pre = 1182793728 ∨ pkF pre = 1183580160 ∨ pkF pre = 1183842304 := by
  intro pre
  rcases List.eq_nil_or_concat pre with rfl | ⟨p, x, rfl⟩
  · exact .inl rfl
  · rw [List.concat_eq_append, pkF_snoc]
    have h := pkF_cases p
    have hx := x.2
    rcases h with h | h | h <;> rcases hx with hx | hx <;> simp [h, hx]
termination_by pre => pre.length
decreasing_by all_goals (subst_vars; simp)
theorem maxF (p x : Nat) (hp : p = 1182793728 ∨ p = 1183580160 ∨ p = 1183842304) (hx : x = 1183580160 ∨ x = 1183842304) : ∀ ts t W, (Builtin.max_ ts t #[.float .f32 p, .float .f32 x]).run Try.prog W = .ok (.float .f32 (max p x)) W := by
  intro ts t W
  rcases hp with rfl | rfl | rfl <;> rcases hx with rfl | rfl <;> kernel_rfl
theorem sizeFv (x : Nat) (hx : x = 1183580160 ∨ x = 1183842304) (w : World) : Calls Try.prog 135 #[.float .f32 x] w fun e w' => e = .returned (.float .f32 x) ∧ w = w' := by
  rcases hx with rfl | rfl
  · exact sizeF_17920 w
  · exact sizeF_18432 w
/-- What the loop over the fine values keeps. -/
structure PkI (w wL : World) (q : List Fv) (W : World) : Prop where
  box : Bk W w.heap.size 156 #[.float .f32 (pkF q)]
  bel : Below w.heap.size w W
  size : wL.heap.size ≤ W.heap.size
theorem PkI.own (w wL : World) (hB : w.heap.size ≤ wL.heap.size) : OwnFrom wL.heap.size (fun q W => PkI w wL q W) := by
  rintro s X Y row ⟨h1, h3, h4⟩ hg hr
  exact ⟨bk_grown h1 hg (fun r e => (hr r e).2), h3.grown hg (by omega) (fun k e => by have := (hr k e).1; omega), Nat.le_trans h4 hg.size⟩

set_option maxRecDepth 100000 in
set_option maxHeartbeats 8000000 in
theorem finePeak_ex (g c : Nat) (w : World) (hg : Bk w g 3 #[.int .i64 128, .int .i64 128]) :
    Calls Try.prog 112 #[.slice (some ⟨g, 0, none⟩) 2 c] w fun e w' => e = .returned (.int .i64 18432) ∧ Below w.heap.size w w' := by
  have hgl := hg.lt
  have HG := Lib.hid hg
  clear hg
  have hc128 := fun W => conv128 W
  have hmul : ∀ W, (binOp .mul 156 (.float .f32 1124073472) (.float .f32 1124073472)).run Try.prog W = .ok (.float .f32 1182793728) W := fun _ => by kernel_rfl
  have hm0 : ∀ ts t W, (Builtin.max_ ts t #[.float .f32 0, .float .f32 1182793728]).run Try.prog W = .ok (.float .f32 1182793728) W := fun _ _ _ => by kernel_rfl
  have hm1 : ∀ ts t W, (Builtin.max_ ts t #[.float .f32 1182793728, .float .f32 1182793728]).run Try.prog W = .ok (.float .f32 1182793728) W := fun _ _ _ => by kernel_rfl
  have hcb : ∀ W, (convert 156 3 (.float .f32 1183842304)).run Try.prog W = .ok (.int .i64 18432) W := fun _ => by kernel_rfl
  refine (callsIn_wide (n := 6)).1 ?_
  refine callsIn_of_wp_marks Try.func112 rfl trivial ?_ rfl
  simp only [Try.ntmps112, List.size_toArray, List.length_cons, List.length_nil, Nat.reduceAdd, Nat.reduceSub, Array.replicate_succ, Array.replicate_zero, List.push_toArray, List.append_toArray, List.nil_append, List.cons_append]
  refine wpIn_wide.2 ?_
  have K0 := Lib.hid (Bk.new w 156 #[.float .f32 0])
  have B0 := Lib.hid (below1 w (.cells #[.float .f32 0] 156))
  go_wp2
  go_loopw [9] (fun i wr => ∃ k : Nat, k ≤ 2 ∧ i = .int .i64 k ∧ Hid (Bk wr w.heap.size 156 #[.float .f32 (if k = 0 then 0 else 1182793728)]) ∧ Hid (Below w.heap.size w wr)) (fun i _ => 2 - (intOf i).toNat)
  case atStart => exact ⟨0, by omega, rfl, K0, B0⟩
  case round =>
    obtain ⟨k, hk, rfl, HK, HB⟩ := hrel
    clear K0 B0
    have hne : ¬ g = w.heap.size := by omega
    obtain ⟨x0, x1⟩ := bkf2 (HG.out.below HB.out hgl)
    rcases (by omega : k = 0 ∨ k = 1 ∨ k = 2) with rfl | rfl | rfl
    · have p0 : wr.cell? ⟨w.heap.size, 0, none⟩ = some (.float .f32 0) := by rw [HK.out.cell]; rfl
      have pf : wr.frozen? ⟨w.heap.size, 0, none⟩ = false := HK.out.frozen 0
      have hl0 : w.heap.size < wr.heap.size := HK.out.lt
      go_wp2
      go_still_tail 6, (by kernel_rfl)
      refine wpStill_step (fun K hK => ?_)
      go_simp
      refine ⟨_, (sizeF_128 _).mono (fun e w'' h => ⟨h.1, h.2.symm⟩), hK _ ?_⟩
      clear hK K
      repeat still_step
      refine wpStill_nil ?_
      change wpList _ _ _ _ _ wr.drew
      have p1 : wr.drew.cell? ⟨w.heap.size, 0, none⟩ = some (.float .f32 0) := p0
      have pf1 : wr.drew.frozen? ⟨w.heap.size, 0, none⟩ = false := pf
      have HKD := Lib.hid (HK.out.drew.set_ 0 (.float .f32 1182793728))
      have HBD := Lib.hid (HB.out.drew.setCell (p := ⟨w.heap.size, 0, none⟩) (Nat.le_refl _) (.float .f32 1182793728))
      obtain ⟨W5, hW5⟩ : ∃ W5, wr.drew = W5 := ⟨_, rfl⟩
      rw [hW5] at p1 pf1 HKD HBD ⊢
      clear hW5
      go_wp2
      go_roundw
      case rel => exact ⟨1, by omega, rfl, HKD, HBD⟩
      case measure => decide
    · have p0 : wr.cell? ⟨w.heap.size, 0, none⟩ = some (.float .f32 1182793728) := by rw [HK.out.cell]; rfl
      have pf : wr.frozen? ⟨w.heap.size, 0, none⟩ = false := HK.out.frozen 0
      have hl0 : w.heap.size < wr.heap.size := HK.out.lt
      go_wp2
      go_still_tail 6, (by kernel_rfl)
      refine wpStill_step (fun K hK => ?_)
      go_simp
      refine ⟨_, (sizeF_128 _).mono (fun e w'' h => ⟨h.1, h.2.symm⟩), hK _ ?_⟩
      clear hK K
      repeat still_step
      refine wpStill_nil ?_
      change wpList _ _ _ _ _ wr.drew
      have p1 : wr.drew.cell? ⟨w.heap.size, 0, none⟩ = some (.float .f32 1182793728) := p0
      have pf1 : wr.drew.frozen? ⟨w.heap.size, 0, none⟩ = false := pf
      have HKD := Lib.hid (HK.out.drew.set_ 0 (.float .f32 1182793728))
      have HBD := Lib.hid (HB.out.drew.setCell (p := ⟨w.heap.size, 0, none⟩) (Nat.le_refl _) (.float .f32 1182793728))
      obtain ⟨W5, hW5⟩ : ∃ W5, wr.drew = W5 := ⟨_, rfl⟩
      rw [hW5] at p1 pf1 HKD HBD ⊢
      clear hW5
      go_wp2
      go_roundw
      case rel => exact ⟨2, by omega, rfl, HKD, HBD⟩
      case measure => decide
    · have hl0 : w.heap.size < wr.heap.size := HK.out.lt
      go_wp2_with fail
      refine (fineValues_any _ c _).mono ?_
      rintro e w3 ⟨rfl, hw3⟩
      have HK3 : Hid (Bk w3 w.heap.size 156 #[.float .f32 (pkF [])]) := by show Bk _ _ _ _; rw [← hw3]; exact (HK.out.alloc _).alloc _
      have HB3 : Hid (Below w.heap.size w w3) := by show Below _ _ _; rw [← hw3]; exact (HB.out.alloc HB.out.size _).alloc (by have := HB.out.size; simp; omega) _
      have HX3 : Bk w3 wr.heap.size 43 #[.slice (some ⟨g, 0, none⟩) 2 c] := by rw [← hw3]; exact (Bk.new wr _ _).alloc _
      have HW3 : Bk w3 (wr.heap.size + 1) 169 #[.float .f32 3235905536, .float .f32 1121058816, .float .f32 1108082688, .float .f32 3231711232, .float .f32 3238002688, .float .f32 1116733440, .float .f32 1116733440, .float .f32 3238002688, .float .f32 3231711232, .float .f32 1108082688, .float .f32 1121058816, .float .f32 3235905536] := by
        rw [← hw3]
        have h := Bk.new (wr.alloc (.cells #[.slice (some ⟨g, 0, none⟩) 2 c] 43)) 169 #[.float .f32 3235905536, .float .f32 1121058816, .float .f32 1108082688, .float .f32 3231711232, .float .f32 3238002688, .float .f32 1116733440, .float .f32 1116733440, .float .f32 3238002688, .float .f32 3231711232, .float .f32 1108082688, .float .f32 1121058816, .float .f32 3235905536]
        rwa [World.size_alloc] at h
      have HG3 : Bk w3 g 3 #[.int .i64 128, .int .i64 128] := HG.out.below HB3.out hgl
      have hs3 : w3.heap.size = wr.heap.size + 2 := by rw [← hw3]; simp
      have hwl : w.heap.size ≤ wr.heap.size := HB.out.size
      clear hw3 HK HB x0 x1
      obtain ⟨gx, hgx⟩ : ∃ b, wr.heap.size = b := ⟨_, rfl⟩
      rw [hgx] at HX3 HW3 hs3 hl0 hwl ⊢
      clear hgx
      go_wp2_with fail
      refine (wpIn_wide (n := 6)).1 ?_
      refine wpIn_rangeFunc_one (α := Fv) rfl (by omega) (gf := 147) rfl trivial (enters_of Try.func147 (by kernel_rfl) rfl)
        (fun x => .float .f32 x.1) (fine_stops _ (by omega) gx (gx + 1) w.heap.size g c w3 HX3 HW3 HG3 (by omega) (by omega) hne (by omega))
        KZ.trans (fun W l o o' hl h1 h2 h3 => KZ.putObj W l o o' h1 h2) (Below.refl _ _) 6
        (fun pre W => PkI w w3 pre W)
        (fun _ _ _ => False)
        (fun s X Y row hs hg hr => PkI.own w w3 (by omega) s X Y row hs hg hr)
        (fun _ _ _ _ _ hs _ _ => hs)
        ⟨HK3.out, HB3.out, Nat.le_refl _⟩ ?assign ?body ?done ?stop
      case assign =>
        intro l x W K hK
        simp only [List.setIfInBounds_toArray, List.set_cons_zero, List.set_cons_succ] at hK ⊢
        gi_wp2
        exact hK
      case stop =>
        rintro D cc pre W _ _ hf _
        exact hf.elim
      case done =>
        rintro D ys W hD hys hI hK
        have hpk : pkF ys = 1183842304 := by unfold pkF; rw [hys]; rfl
        have hbx := hI.box
        rw [hpk] at hbx
        have hc := (bk1 hbx).1
        have HI := Lib.hid hI
        have HBX := Lib.hid hbx
        clear hI hbx hys hpk
        go_wp2
        refine ⟨by simp, .inl ⟨_, _, rfl, run_takeDeferred hK, ?_⟩⟩
        exact ⟨_, results_tmp rfl _ _ _, rfl, HI.out.bel.trans (belowK_b (n₀ := w.heap.size) (w := w3) (by omega) W D _ (.deferred none) hD hK rfl rfl)⟩
      case body =>
        rintro l pre ⟨x, hx⟩ W hI hlen
        have HSZ := Lib.hid (fun w => sizeFv x hx w)
        have hmx := maxF (pkF pre) x (pkF_cases pre) hx
        have HSN := Lib.hid (pkF_snoc pre ⟨x, hx⟩)
        have hbx := hI.box
        have HI := Lib.hid hI
        have hszW := hI.size
        clear hI
        dsimp only at HSN
        obtain ⟨p, hp⟩ : ∃ p, pkF pre = p := ⟨_, rfl⟩
        rw [hp] at hbx hmx HSN
        clear hp
        obtain ⟨m, hm⟩ : ∃ m, max p x = m := ⟨_, rfl⟩
        rw [hm] at hmx HSN
        clear hm
        have p0 : W.cell? ⟨w.heap.size, 0, none⟩ = some (.float .f32 p) := (bk1 hbx).1
        have pf : W.frozen? ⟨w.heap.size, 0, none⟩ = false := (bk1 hbx).2
        have HBX := Lib.hid hbx
        clear hbx
        simp only [List.setIfInBounds_toArray, List.set_cons_zero, List.set_cons_succ]
        gi_wp2
        gi_region_with (first
          | (refine ⟨trivial, ?_⟩; gi_at_call 135; refine (CallsIn.inRound l (callsIn_wide.2 (HSZ.out _))).mono ?_; rintro e w' ⟨rfl, rfl⟩))
        all_goals
          gi_wp2
          refine ⟨((KeepsOthers.setCell W ⟨w.heap.size, 0, none⟩ (.float .f32 m)).trans (KeepsOthers.drew _)).from _, (KZ.setCell W ⟨w.heap.size, 0, none⟩ rfl (.float .f32 m)).trans (KZ.of_below (Below.refl _ _).drew), ?_, ?_, ?_⟩
          · show Bk _ _ _ _
            rw [HSN.out]
            exact (HBX.out.set_ 0 (.float .f32 m)).drew
          · exact (HI.out.bel.setCell (p := ⟨w.heap.size, 0, none⟩) (Nat.le_refl _) _).drew
          · simpa using hszW

set_option maxRecDepth 100000 in
set_option maxHeartbeats 2000000 in
theorem TruePeak_ex (g c : Nat) (w : World) (hg : Bk w g 3 #[.int .i64 128, .int .i64 128]) :
    Calls Try.prog 59 #[.slice (some ⟨g, 0, none⟩) 2 c] w fun e w' => e = .returned (.tuple #[.agg #[.int .i64 144, .int .i64 1], .int .i64 0]) ∧ Below w.heap.size w w' := by
  have hgl := hg.lt
  have hrd : RdI w (some ⟨g, 0, none⟩) 2 [128, 128] := rd_of_bk hg rfl
  have CS : Hid (∀ W, Below w.heap.size w W → Calls Try.prog 93 #[.slice (some ⟨g, 0, none⟩) 2 c] W fun e w' => e = .returned (.int .i64 0) ∧ Below W.heap.size W w') := fun W hb => by
    have h := checkSignal_any _ 2 c [128, 128] W (hrd.below hb) (by omega)
    rwa [show sgE [128, 128] = 0 by decide +kernel] at h
  have CP : Hid (∀ W, Below w.heap.size w W → Calls Try.prog 112 #[.slice (some ⟨g, 0, none⟩) 2 c] W fun e w' => e = .returned (.int .i64 18432) ∧ Below W.heap.size W w') := fun W hb => finePeak_ex g c W (hg.below hb hgl)
  have CF : Hid (∀ W, Calls Try.prog 87 #[.int .i64 18432, .int .i64 128] W fun e w' => e = .returned (.agg #[.int .i64 144, .int .i64 1]) ∧ Below W.heap.size W w') := fun W => by
    have h := fractionOf_any 18432 128 W (by omega) (by omega) (by omega) (by omega)
    rwa [show fN 18432 128 = 144 by decide +kernel, show fD 18432 128 = 1 by decide +kernel] at h
  have R0 := Lib.hid (OneB.start w 23 #[.int .i64 0, .int .i64 0])
  clear hrd hg
  go_enter Try.func59, Try.ntmps59
  go_wp2_with fail
  refine (CS.out _ R0.out.b).mono ?_
  rintro e w1 ⟨rfl, hb1⟩
  have R1 := Lib.hid (OneB.later hb1 R0.out)
  clear hb1 R0
  go_wp2_with fail
  refine (CP.out _ R1.out.b).mono ?_
  rintro e w2 ⟨rfl, hb2⟩
  have R2 := Lib.hid (OneB.later hb2 R1.out)
  clear hb2 R1
  go_wp2_with fail
  refine (CF.out _).mono ?_
  rintro e w3 ⟨rfl, hb3⟩
  have R3 := OneB.later hb3 R2.out
  clear hb3 R2
  obtain ⟨e0, e1, k0, k1⟩ := bk2 R3.k
  go_wp2
  refine bodyPost_ret (v := .tuple #[.agg #[.int .i64 144, .int .i64 1], .int .i64 0]) (by simp [results, Try.results59, go_sem, e0, e1, k0, k1]) rfl ⟨rfl, ?_⟩
  have hbw := R3.b
  have hbz := hbw.size
  go_grown

end Go.Proofs.Ytccoflhoggpgoaa


namespace Go.Proofs.Ytccoflhoggpgoaa
open Go.RowKit

/-- The reference's least number. -/
def mqR (t : Nat) (n d : Int) : Int × Bool := match (List.range (t + 1)).find? (mrB t n d) with | some r => ((r : Int), true) | none => (0, false)

set_option maxRecDepth 100000 in
set_option maxHeartbeats 4000000 in
theorem refMinimumRight_any (t : Nat) (n d : Int) (ht : t < 30) (hn : 0 ≤ n ∧ n ≤ 1000000000) (hd : 0 < d ∧ d ≤ 1000000000) (w : World) :
    Calls Try.prog 22 #[.int .i64 t, .agg #[.int .i64 n, .int .i64 d]] w fun e w' => e = .returned (.tuple #[.int .i64 (mqR t n d).1, .bool (mqR t n d).2]) ∧ Below w.heap.size w w' := by
  have CT : Hid (∀ k, k < t + 1 → ∀ w, Calls Try.prog 19 #[.int .i64 t, .int .i64 k] w fun e w' => e = .returned (.agg #[.int .i64 (fN (tW t k) (p2 t)), .int .i64 (fD (tW t k) (p2 t))]) ∧ Below w.heap.size w w') := fun k hk w => refTailOf_any t k ht (by omega) w
  have HM : Hid (∀ k, k < t + 1 → mrB t n d k = decide (cmpF (fN (tW t k) (p2 t)) (fD (tW t k) (p2 t)) n d ≤ 0)) := fun k hk => mrB_cmp t k n d ht (by omega)
  have HBD : Hid (∀ k, k < t + 1 → (0 ≤ fN (tW t k) (p2 t) ∧ fN (tW t k) (p2 t) ≤ 1000000000) ∧ 0 < fD (tW t k) (p2 t) ∧ fD (tW t k) (p2 t) ≤ 1000000000) := by
    intro k hk
    have hw := tW_bd t ht k (by omega)
    have hp := p2_pow t (by omega)
    have h29 : p2 t ≤ 536870912 := (by decide +kernel : ∀ a, a < 30 → p2 a ≤ 536870912) t ht
    obtain ⟨_, _, g0, g1, g2, g3, _⟩ := gcd_facts (a := tW t k) (b := p2 t) (by omega) (by omega)
    omega
  have R0 := Lib.hid (OneB.start w 23 #[.int .i64 n, .int .i64 d])
  have HR : Hid (mqR t n d = match (List.range (t + 1)).find? (mrB t n d) with | some r => ((r : Int), true) | none => (0, false)) := rfl
  obtain ⟨⟨V, X⟩, hR⟩ : ∃ R, mqR t n d = R := ⟨_, rfl⟩
  rw [hR] at HR ⊢
  dsimp only
  clear hR
  go_enter Try.func22, Try.ntmps22
  go_wp2
  go_loopw [6] (fun i wr => ∃ k : Nat, k ≤ t + 1 ∧ i = .int .i64 k ∧ Hid (∀ j, j < k → mrB t n d j = false) ∧ Hid (OneB w w.heap.size 23 #[.int .i64 n, .int .i64 d] wr)) (fun i _ => t + 1 - (intOf i).toNat)
  case atStart => exact ⟨0, Nat.zero_le _, rfl, fun j hj => by omega, R0⟩
  case round =>
    obtain ⟨k, hk, rfl, HJ, HI⟩ := hrel
    clear R0
    by_cases hlt : k < t + 1
    · have hkI : (k : Int) ≤ (t : Int) := by omega
      have CK := Lib.hid (CT.out k hlt)
      have HMK := Lib.hid (HM.out k hlt)
      obtain ⟨b1, b2⟩ := HBD.out k hlt
      obtain ⟨N, hN⟩ : ∃ N, fN (tW t k) (p2 t) = N := ⟨_, rfl⟩
      obtain ⟨D, hD⟩ : ∃ D, fD (tW t k) (p2 t) = D := ⟨_, rfl⟩
      rw [hN] at CK HMK b1
      rw [hD] at CK HMK b2
      have CC := Lib.hid (fun w => bCmp_any N D n d w (by omega) (by omega) (by omega) (by omega))
      obtain ⟨cv, hcv⟩ : ∃ c, cmpF N D n d = c := ⟨_, rfl⟩
      rw [hcv] at CC HMK
      clear hN hD hcv
      have hI := HI.out
      clear HI
      go_wp2
      go_region_held3 (fun w' : World => (w'.cell? ⟨w.heap.size, 0, none⟩ = some (.int .i64 n) ∧ w'.cell? ⟨w.heap.size, 1, none⟩ = some (.int .i64 d)) ∧ OneB w w.heap.size 23 #[.int .i64 n, .int .i64 d] w') ((refine (fun hI => ⟨bkf2 hI.k, hI⟩) ?_; repeat (first | assumption | (go_split_ands; assumption) | refine OneB.alloc ?_ _ | refine OneB.drew ?_))) (first
        | (go_at_call 19; ((with_reducible refine (CK.out _).mono ?_)); rintro e w3 ⟨rfl, hb3⟩; have hI3 := OneB.later hb3 (by first | assumption | (go_split_ands; assumption)); clear hb3)
        | (go_at_call 27; ((with_reducible refine (CC.out _).mono ?_)); rintro e w4 ⟨rfl, hb4⟩; have hI4 := OneB.later hb4 (by first | assumption | (go_split_ands; assumption)); clear hb4))
      by_cases hc : cv ≤ 0
      · go_wp2
        go_ret2
        have hR := HR.out
        rw [find_range_some hlt (fun j hj => HJ.out j hj) (by rw [HMK.out]; exact decide_eq_true (by omega))] at hR
        injection hR with hV hX
        subst hV hX
        exact ⟨rfl, hI4.b⟩
      · have hcb : decide (cv ≤ 0) = false := decide_eq_false hc
        have HCB := Lib.hid hcb
        go_wp2
        go_roundw
        case rel =>
          refine ⟨k + 1, by omega, by go_num, fun j hj => ?_, hI4⟩
          rcases (by omega : j < k ∨ j = k) with h | rfl
          · exact HJ.out j h
          · rw [HMK.out, HCB.out]
        case measure => simp only [intOf]; omega
    · obtain rfl : k = t + 1 := by omega
      have hkI : ¬ ((t : Int) + 1) ≤ (t : Int) := by omega
      go_wp2
      go_ret2
      have hR := HR.out
      rw [find_range_none (fun j hj => HJ.out j hj)] at hR
      injection hR with hV hX
      subst hV hX
      exact ⟨rfl, HI.out.b⟩

end Go.Proofs.Ytccoflhoggpgoaa

namespace Go.Proofs.Ytccoflhoggpgoaa
open Go.RowKit

open Go.Shelf

theorem v_lo : loR 2 1 4 50 [1, 1, 4, 6, 0] = ((22, 1), 0) := by decide +kernel
theorem v_tl : tlN 5 4 = 3 ∧ tlD 5 4 = 16 ∧ tlE 5 4 = 0 := by decide +kernel
def pEx : List (List Int) := [[0, 3, 2], [2, 0, 4], [3, 1, 0]]
theorem v_br : pfE pEx = 0 ∧ brF pEx = [0, 1, 2] ∧ dsF pEx [0, 1, 2] = 6 := by decide +kernel
theorem ex_lo (B : Nat) (w : World) (h : RdI w (some ⟨B, 0, none⟩) 5 [1, 1, 4, 6, 0]) :
    Calls Try.prog 32 #[.agg #[.int .i64 2, .int .i64 1, .int .i64 4, .int .i64 50], .slice (some ⟨B, 0, none⟩) 5 5] w fun e w' => e = .returned (.tuple #[.agg #[.int .i64 22, .int .i64 1], .int .i64 0]) ∧ Below w.heap.size w w' := by
  have := LoudnessOf_any 2 1 4 50 (some ⟨B, 0, none⟩) 5 5 _ w h (by omega) (by omega)
  rwa [v_lo] at this
theorem ex_tl (w : World) : Calls Try.prog 16 #[.int .i64 5, .int .i64 4] w fun e w' => e = .returned (.tuple #[.agg #[.int .i64 3, .int .i64 16], .int .i64 0]) ∧ Below w.heap.size w w' := by
  have := TailOf_any 5 4 w
  rwa [v_tl.1, v_tl.2.1, v_tl.2.2] at this
theorem ex_br (A : Option Addr) (c : Nat) (w : World) (h : RdGo w A 3 pEx) : Calls Try.prog 67 #[.slice A 3 c] w fun e w' => (∃ B d, e = .returned (.tuple #[.slice (some B) 3 d, .int .i64 6, .int .i64 0]) ∧ RdI w' (some B) 3 [0, 1, 2]) ∧ Below w.heap.size w w' := by
  refine (bestRanking_any A 3 c pEx w h (by omega)).mono ?_
  rintro e w' ⟨_, h2, hb⟩
  obtain ⟨B, d, he, _, hr, hB⟩ := h2 v_br.1
  rw [v_br.2.1, v_br.2.2] at he
  rw [v_br.2.1] at hr
  cases B with
  | none => exact absurd (hB rfl).1 (by omega)
  | some B => exact ⟨⟨B, d, he, hr⟩, hb⟩
theorem rdgo_ex (w : World) : RdGo ((((w.alloc (.cells #[.int .i64 0, .int .i64 3, .int .i64 2] 3)).alloc (.cells #[.int .i64 2, .int .i64 0, .int .i64 4] 3)).alloc (.cells #[.int .i64 3, .int .i64 1, .int .i64 0] 3)).alloc (.cells #[.slice (some ⟨w.heap.size, 0, none⟩) 3 3, .slice (some ⟨w.heap.size + 1, 0, none⟩) 3 3, .slice (some ⟨w.heap.size + 2, 0, none⟩) 3 3] 43)) (some ⟨w.heap.size + 3, 0, none⟩) 3 pEx := by
  refine ⟨rfl, fun _ => ⟨_, rfl, by simp, fun j hj => ?_⟩⟩
  rcases (by omega : j = 0 ∨ j = 1 ∨ j = 2) with rfl | rfl | rfl
  · refine ⟨some ⟨w.heap.size, 0, none⟩, 3, 3, by rw [addOff]; simp [go_sem], ⟨rfl, fun _ => ⟨_, rfl, by simp; omega, fun i hi => ?_⟩⟩, fun h => by cases h⟩
    rcases (by omega : i = 0 ∨ i = 1 ∨ i = 2) with rfl | rfl | rfl <;> (rw [addOff]; simp [go_sem, pEx])
  · refine ⟨some ⟨w.heap.size + 1, 0, none⟩, 3, 3, by rw [addOff]; simp [go_sem], ⟨rfl, fun _ => ⟨_, rfl, by simp, fun i hi => ?_⟩⟩, fun h => by cases h⟩
    rcases (by omega : i = 0 ∨ i = 1 ∨ i = 2) with rfl | rfl | rfl <;> (rw [addOff]; simp [go_sem, pEx])
  · refine ⟨some ⟨w.heap.size + 2, 0, none⟩, 3, 3, by rw [addOff]; simp [go_sem], ⟨rfl, fun _ => ⟨_, rfl, by simp, fun i hi => ?_⟩⟩, fun h => by cases h⟩
    rcases (by omega : i = 0 ∨ i = 1 ∨ i = 2) with rfl | rfl | rfl <;> (rw [addOff]; simp [go_sem, pEx])

theorem belowA {w W : World} (h : Below w.heap.size w W) (o : Obj) : Below w.heap.size w (W.alloc o) := h.alloc h.size o
theorem litA (W : World) : RdI (W.alloc (.cells #[.int .i64 0, .int .i64 1, .int .i64 2] 3)) (some ⟨W.heap.size, 0, none⟩) 3 [0, 1, 2] := rd_of_bk (xs := [0, 1, 2]) (Bk.new _ _ _) rfl

set_option maxRecDepth 100000 in
set_option maxHeartbeats 4000000 in
theorem awake_any (w : World) : Calls Try.prog 15 #[] w fun e w' => e = .returned (.bool true) ∧ Below w.heap.size w w' := by
  go_enter Try.func15, Try.ntmps15
  go_wp2_with fail
  refine (ex_lo w.heap.size _ (rd_of_bk (xs := [1, 1, 4, 6, 0]) (Bk.new _ _ _) rfl)).mono ?_
  rintro e w1 ⟨rfl, hb1⟩
  have l1 := Lib.hid ((below1 w _).trans (hb1.mono (by simp)))
  clear hb1
  have K1 := Lib.hid (Bk.new w1 23 #[.int .i64 22, .int .i64 1])
  have l2 := Lib.hid ((l1.out.alloc l1.out.size (.cells #[.int .i64 22, .int .i64 1] 23)))
  go_wp2_with fail
  obtain ⟨g1, hg1⟩ : ∃ g, w1.heap.size = g := ⟨_, rfl⟩
  obtain ⟨wA, hwA⟩ : ∃ W, w1.alloc (.cells #[.int .i64 22, .int .i64 1] 23) = W := ⟨_, rfl⟩
  have hsA : g1 + 1 = wA.heap.size := by rw [← hwA, ← hg1]; simp
  rw [hwA] at l2 K1 ⊢
  rw [hg1] at K1 ⊢
  rw [hsA]
  clear hwA hg1 hsA l1
  refine (TruePeak_ex wA.heap.size 2 _ (Bk.new _ _ _)).mono ?_
  rintro e w3 ⟨rfl, hb3⟩
  have hb3' := (below1 wA _).trans (hb3.mono (by simp))
  have l3 := Lib.hid (l2.out.trans (hb3'.mono l2.out.size))
  have K3 := Lib.hid (K1.out.later hb3')
  clear hb3 hb3' l2 K1
  have N3 := Lib.hid (Bk.new w3 23 #[.int .i64 144, .int .i64 1])
  have l4 := Lib.hid ((l3.out.alloc l3.out.size (.cells #[.int .i64 144, .int .i64 1] 23)))
  have K4 := Lib.hid (K3.out.alloc (.cells #[.int .i64 144, .int .i64 1] 23))
  go_wp2_with fail
  obtain ⟨g3, hg3⟩ : ∃ g, w3.heap.size = g := ⟨_, rfl⟩
  obtain ⟨wA, hwA⟩ : ∃ W, w3.alloc (.cells #[.int .i64 144, .int .i64 1] 23) = W := ⟨_, rfl⟩
  rw [hwA] at l4 K4 N3 ⊢
  rw [hg3] at N3 ⊢
  clear hwA hg3 l3 K3
  refine (ex_tl wA).mono ?_
  rintro e w5 ⟨rfl, hb5⟩
  have l5 := Lib.hid (l4.out.trans (hb5.mono l4.out.size))
  have K5 := Lib.hid (K4.out.later hb5)
  have N5 := Lib.hid (N3.out.later hb5)
  clear hb5 l4 K4 N3
  have M5 := Lib.hid (Bk.new w5 23 #[.int .i64 3, .int .i64 16])
  have l6 := Lib.hid ((l5.out.alloc l5.out.size (.cells #[.int .i64 3, .int .i64 16] 23)))
  have K6 := Lib.hid (K5.out.alloc (.cells #[.int .i64 3, .int .i64 16] 23))
  have N6 := Lib.hid (N5.out.alloc (.cells #[.int .i64 3, .int .i64 16] 23))
  go_wp2_with fail
  obtain ⟨g5, hg5⟩ : ∃ g, w5.heap.size = g := ⟨_, rfl⟩
  obtain ⟨wA, hwA⟩ : ∃ W, w5.alloc (.cells #[.int .i64 3, .int .i64 16] 23) = W := ⟨_, rfl⟩
  have hsA : g5 + 1 = wA.heap.size := by rw [← hwA, ← hg5]; simp
  rw [hwA] at l6 K6 N6 M5 ⊢
  rw [hg5] at M5 ⊢
  rw [hsA]
  clear hwA hg5 hsA l5 K5 N5
  refine (ex_br _ 3 _ (rdgo_ex wA)).mono ?_
  rintro e w7 ⟨⟨B, d, rfl, hr7⟩, hb7⟩
  have hb7' : Below wA.heap.size wA w7 := (((((Below.refl _ wA).alloc (Nat.le_refl _) _).alloc (by simp) _).alloc (by simp; omega) _).alloc (by simp; omega) _).trans (hb7.mono (by simp; omega))
  have l7 := Lib.hid (l6.out.trans (hb7'.mono l6.out.size))
  have K7 := Lib.hid (K6.out.later hb7')
  have N7 := Lib.hid (N6.out.later hb7')
  have M7 := Lib.hid (M5.out.later hb7')
  have R7 := Lib.hid hr7
  clear hb7 hb7' hr7 l6 K6 N6 M5
  have HC : Hid (∀ W, Below w7.heap.size w7 W → (W.cell? ⟨g1, 0, none⟩ = some (.int .i64 22) ∧ W.cell? ⟨g1, 1, none⟩ = some (.int .i64 1)) ∧ (W.cell? ⟨g3, 0, none⟩ = some (.int .i64 144) ∧ W.cell? ⟨g3, 1, none⟩ = some (.int .i64 1)) ∧ (W.cell? ⟨g5, 0, none⟩ = some (.int .i64 3) ∧ W.cell? ⟨g5, 1, none⟩ = some (.int .i64 16))) := fun W hb => ⟨bkf2 (K7.out.later hb), bkf2 (N7.out.later hb), bkf2 (M7.out.later hb)⟩
  have hB7 : Below w7.heap.size w7 w7 := Below.refl _ _
  have HW22 := Lib.hid (bWhole_any 22)
  have HW144 := Lib.hid (bWhole_any 144)
  have HI : Hid (∀ W, Below w7.heap.size w7 W → Calls Try.prog 36 #[.slice (some B) 3 d, .slice (some ⟨W.heap.size, 0, none⟩) 3 3] (W.alloc (.cells #[.int .i64 0, .int .i64 1, .int .i64 2] 3)) fun e w' => e = .returned (.bool true) ∧ Below w7.heap.size w7 w') := fun W hb =>
    (ints_any (some B) (some ⟨W.heap.size, 0, none⟩) 3 3 d 3 [0, 1, 2] [0, 1, 2] (W.alloc (.cells #[.int .i64 0, .int .i64 1, .int .i64 2] 3)) (R7.out.below (belowA hb _)) (litA W) (by omega) (by omega)).mono fun e w' ⟨he, k, hk⟩ => ⟨he, by rw [hk]; exact blw_drewN (belowA hb _) k⟩
  go_wp2
  go_region_held3 (fun w' : World => ((w'.cell? ⟨g1, 0, none⟩ = some (.int .i64 22) ∧ w'.cell? ⟨g1, 1, none⟩ = some (.int .i64 1)) ∧ (w'.cell? ⟨g3, 0, none⟩ = some (.int .i64 144) ∧ w'.cell? ⟨g3, 1, none⟩ = some (.int .i64 1)) ∧ (w'.cell? ⟨g5, 0, none⟩ = some (.int .i64 3) ∧ w'.cell? ⟨g5, 1, none⟩ = some (.int .i64 16))) ∧ Below w7.heap.size w7 w') ((refine (fun hI => ⟨HC.out _ hI, hI⟩) ?_; repeat (first | with_reducible assumption | (go_split_ands; with_reducible assumption) | with_reducible refine belowA ?_ _ | with_reducible refine Below.drew ?_))) (first
    | (go_at_call 23; ((with_reducible refine (HW22.out _).mono ?_)); rintro e w8 ⟨rfl, hb8⟩; have hb8' : Below w7.heap.size w7 w8 := Below.trans (by first | assumption | (go_split_ands; assumption)) (hb8.mono (Below.size (by first | assumption | (go_split_ands; assumption)))); clear hb8)
    | (go_at_call 23; ((with_reducible refine (HW144.out _).mono ?_)); rintro e w9 ⟨rfl, hb9⟩; have hb9' : Below w7.heap.size w7 w9 := Below.trans (by first | assumption | (go_split_ands; assumption)) (hb9.mono (Below.size (by first | assumption | (go_split_ands; assumption)))); clear hb9)
    | (go_at_call 36; ((with_reducible refine (HI.out _ ?_).mono ?_)); (focus (first | assumption | (go_split_ands; assumption))); rintro e w10 ⟨rfl, hb10⟩))
  all_goals
    go_wp2
    go_ret
    exact ⟨rfl, l7.out.trans (hb10.mono l7.out.size)⟩

end Go.Proofs.Ytccoflhoggpgoaa

namespace Go.Proofs.Ytccoflhoggpgoaa
open Go.RowKit

open Go.Shelf

def loQ (l : Int) (es : List Int) (ids : List Nat) : (Int × Int) × Bool :=
  if ids.length = 0 then ((0, 0), false) else ((fN (lsS es ids) (ids.length * l), fD (lsS es ids) (ids.length * l)), true)

set_option maxRecDepth 100000 in
set_option maxHeartbeats 8000000 in
theorem refLoudness_any (l h : Nat) (G P : Int) (B : Option Addr) (nx c : Nat) (xs : List Int) (w : World) (hr : RdI w B nx xs) (hn : nx ≤ 200) (hnc : nx ≤ c) (hL : 0 < l ∧ l ≤ 50) (hH : 0 < h ∧ h ≤ 50) (hs : small xs) (hG : 0 ≤ G ∧ G ≤ 1073676289) (hP : 0 ≤ P ∧ P ≤ 100) :
    Calls Try.prog 38 #[.agg #[.int .i64 l, .int .i64 h, .int .i64 G, .int .i64 P], .slice B nx c] w fun e w' => e = .returned (.tuple #[.agg #[.int .i64 (loQ l (esL xs l h) (ctN (G * l) P (esL xs l h) (esL xs l h).length)).1.1, .int .i64 (loQ l (esL xs l h) (ctN (G * l) P (esL xs l h) (esL xs l h).length)).1.2], .bool (loQ l (esL xs l h) (ctN (G * l) P (esL xs l h) (esL xs l h).length)).2]) ∧ Below w.heap.size w w' := by
  have CE : Hid (∀ W, Below w.heap.size w W → Calls Try.prog 97 #[.agg #[.int .i64 l, .int .i64 h, .int .i64 G, .int .i64 P], .slice B nx c] W (OwnS W (esL xs l h))) := fun W hb => refEnergies_any l h G P B nx c xs W (hr.below hb) hn hnc hL hH hs
  have CC : Hid (∀ W, Below w.heap.size w W → Calls Try.prog 37 #[.agg #[.int .i64 l, .int .i64 h, .int .i64 G, .int .i64 P], .slice B nx c] W (OwnS W (ctL (G * l) P (esL xs l h)))) := fun W hb => refGated_any l h G P B nx c xs W (hr.below hb) hn hnc hL hH hs hG hP
  have HEO : Hid (enOk (esL xs l h)) := ⟨by rw [esL_len]; have := kN_le (n := xs.length) hL.1 hH.1; have := hr.1; omega, esL_bd hs hL.2⟩
  have HID : Hid (ctL (G * l) P (esL xs l h) = (ctN (G * l) P (esL xs l h) (esL xs l h).length).map fun (i : Nat) => (i : Int)) := rfl
  have HIL : Hid (∀ i ∈ ctN (G * l) P (esL xs l h) (esL xs l h).length, i < (esL xs l h).length) := ctN_lt
  have HLL : Hid ((ctN (G * l) P (esL xs l h) (esL xs l h).length).length ≤ 200) := Nat.le_trans (ctN_len _ _ _ _) HEO.out.1
  obtain ⟨ids, hids⟩ : ∃ x, ctN (G * l) P (esL xs l h) (esL xs l h).length = x := ⟨_, rfl⟩
  rw [hids] at HID HIL HLL ⊢
  obtain ⟨es, hes⟩ : ∃ es, esL xs l h = es := ⟨_, rfl⟩
  rw [hes] at CE CC HEO HID HIL ⊢
  rw [HID.out] at CC
  have HXS := Lib.hid (lsS_bd HEO.out ids HIL.out)
  clear hes hids HID hr hs
  have HV : Hid (loQ l es ids = if ids.length = 0 then ((0, 0), false) else ((fN (lsS es ids) (ids.length * l), fD (lsS es ids) (ids.length * l)), true)) := rfl
  obtain ⟨⟨⟨N, D⟩, X⟩, hV⟩ : ∃ V, loQ l es ids = V := ⟨_, rfl⟩
  rw [hV] at HV ⊢
  dsimp only
  clear hV
  have R0 := Lib.hid ((OneB.start w 42 #[.int .i64 l, .int .i64 h, .int .i64 G, .int .i64 P]).alloc (.cells #[.int .i64 0, .int .i64 0] 23))
  have K0 : Hid (Bk ((w.alloc (.cells #[.int .i64 l, .int .i64 h, .int .i64 G, .int .i64 P] 42)).alloc (.cells #[.int .i64 0, .int .i64 0] 23)) (w.heap.size + 1) 23 #[.int .i64 0, .int .i64 0]) := by
    have h := Bk.new (w.alloc (.cells #[.int .i64 l, .int .i64 h, .int .i64 G, .int .i64 P] 42)) 23 #[.int .i64 0, .int .i64 0]
    rwa [World.size_alloc] at h
  go_enter Try.func38, Try.ntmps38
  go_wp2
  obtain ⟨W2, hW2⟩ : ∃ W, (w.alloc (.cells #[.int .i64 l, .int .i64 h, .int .i64 G, .int .i64 P] 42)).alloc (.cells #[.int .i64 0, .int .i64 0] 23) = W := ⟨_, rfl⟩
  rw [hW2] at R0 K0 ⊢
  clear hW2
  have hBB : Below W2.heap.size W2 W2 := Below.refl _ _
  have HC : Hid (∀ W, Below W2.heap.size W2 W → W.cell? ⟨w.heap.size, 0, none⟩ = some (.int .i64 l) ∧ W.cell? ⟨w.heap.size, 1, none⟩ = some (.int .i64 h) ∧ W.cell? ⟨w.heap.size, 2, none⟩ = some (.int .i64 G) ∧ W.cell? ⟨w.heap.size, 3, none⟩ = some (.int .i64 P)) := fun W hb => four (R0.out.k.later hb)
  have CE2 : Hid (∀ W, Below W2.heap.size W2 W → Calls Try.prog 97 #[.agg #[.int .i64 l, .int .i64 h, .int .i64 G, .int .i64 P], .slice B nx c] W (OwnS W es)) := fun W hb => CE.out W (R0.out.b.trans (hb.mono R0.out.b.size))
  have CC2 : Hid (∀ W, Below W2.heap.size W2 W → Calls Try.prog 37 #[.agg #[.int .i64 l, .int .i64 h, .int .i64 G, .int .i64 P], .slice B nx c] W (OwnS W (ids.map fun (i : Nat) => (i : Int)))) := fun W hb => CC.out W (R0.out.b.trans (hb.mono R0.out.b.size))
  clear CE CC
  first | (go_region_held3 (fun w' : World => (w'.cell? ⟨w.heap.size, 0, none⟩ = some (.int .i64 l) ∧ w'.cell? ⟨w.heap.size, 1, none⟩ = some (.int .i64 h) ∧ w'.cell? ⟨w.heap.size, 2, none⟩ = some (.int .i64 G) ∧ w'.cell? ⟨w.heap.size, 3, none⟩ = some (.int .i64 P)) ∧ Below W2.heap.size W2 w') ((refine (fun hI => ⟨HC.out _ hI, hI⟩) ?_; repeat (first | with_reducible assumption | (go_split_ands; with_reducible assumption) | with_reducible refine Below.drew ?_))) (first
    | (go_at_call 97; ((with_reducible refine (CE2.out _ ?_).mono ?_)); (focus (first | assumption | (go_split_ands; assumption))); rintro e wa ⟨⟨va, rfl, hoa⟩, hba⟩; obtain ⟨Aa, ca, rfl, hca, hra⟩ := rd_of_own hoa; clear hoa; have hba' : Below W2.heap.size W2 wa := Below.trans (by first | assumption | (go_split_ands; assumption)) (hba.mono (Below.size (by first | assumption | (go_split_ands; assumption)))); clear hba)
    | (go_at_call 37; ((with_reducible refine (CC2.out _ ?_).mono ?_)); (focus (first | assumption | (go_split_ands; assumption))); rintro e wb ⟨⟨vb, rfl, hob⟩, hbb⟩; obtain ⟨Ab, cb, rfl, hcb, hrb⟩ := rd_of_own hob; clear hob; rw [List.length_map] at hrb hcb ⊢; have hbb' : Below W2.heap.size W2 wb := Below.trans (by first | assumption | (go_split_ands; assumption)) (hbb.mono (Below.size (by first | assumption | (go_split_ands; assumption))))))) | fail
  have R4 := Lib.hid (OneB.later hbb' R0.out)
  have K4 := Lib.hid (K0.out.later hbb')
  have HR4 := Lib.hid hrb
  have HR5 := Lib.hid (hra.below hbb)
  clear hbb' hba' hbb hra hrb R0 K0 HC CE2 CC2 hBB
  obtain ⟨c0, c1, c2, c3⟩ := four R4.out.k
  obtain ⟨e0, e1, k0, k1⟩ := bk2 K4.out
  obtain ⟨m, hm'⟩ : ∃ m, ids.length = m := ⟨_, rfl⟩
  have HML := Lib.hid hm'
  have hlp := HLL.out
  rw [hm'] at HR4 hlp HV ⊢
  clear hm' HLL
  by_cases hz : m = 0
  · subst hz
    have hV := HV.out
    rw [if_pos rfl] at hV
    injection hV with hV1 hV2
    injection hV1 with hV3 hV4
    subst hV2 hV3 hV4
    go_wp2
    refine bodyPost_ret (v := .tuple #[.agg #[.int .i64 0, .int .i64 0], .bool false]) (by simp [results, Try.results38, go_sem, e0, e1, k0, k1]) rfl ⟨rfl, ?_⟩
    have hbw := R4.out.b
    have hbz := hbw.size
    have hkz := K4.out.lt
    go_grown
  · have hV := HV.out
    rw [if_neg hz] at hV
    injection hV with hV1 hV2
    injection hV1 with hV3 hV4
    subst hV2
    have HN := Lib.hid hV3
    have HD := Lib.hid hV4
    rw [HML.out] at HXS
    have hzI : ((m : Int) == 0) = false := by rw [beq_eq_false_iff_ne]; omega
    clear hV3 hV4 HV
    go_wp2
    go_loop [8, 9] (fun s i => ∃ k : Nat, k ≤ m ∧ i = .int .i64 k ∧ s = .int .i64 (lsS es (ids.take k))) (fun _ i => m - (intOf i).toNat)
    case atStart => exact ⟨0, Nat.zero_le _, rfl, rfl⟩
    case round =>
      obtain ⟨k, hk, rfl, rfl⟩ := hrel
      by_cases hlt : k < m
      · have hkI : (k : Int) < (m : Int) := by omega
        obtain ⟨ad, ha, _, hc⟩ := HR4.out.2 (by omega)
        subst ha
        have hck := hc k hlt
        rw [map_getD_cast ids k (by have := HML.out; omega)] at hck
        have hik : ids.getD k 0 < es.length := by
          rw [List.getD_eq_getElem?_getD, List.getElem?_eq_getElem (by have := HML.out; omega), Option.getD_some]
          exact HIL.out _ (List.getElem_mem _)
        have hb := lsS_bd HEO.out (ids.take k) (fun i hi => HIL.out i (List.mem_of_mem_take hi))
        rw [List.length_take] at hb
        have HST := Lib.hid (lsS_snoc es (ids.take k) (ids.getD k 0))
        rw [← nat_take_snoc (by have := HML.out; omega)] at HST
        have hx := HEO.out.at hik
        obtain ⟨j, hj⟩ : ∃ j, ids.getD k 0 = j := ⟨_, rfl⟩
        rw [hj] at hck hik HST hx
        obtain ⟨ad5, ha5, _, hc5⟩ := HR5.out.2 (by omega)
        subst ha5
        have hc6 := hc5 j hik
        obtain ⟨x, hx'⟩ : ∃ x, es.getD j 0 = x := ⟨_, rfl⟩
        obtain ⟨s, hs⟩ : ∃ s, lsS es (ids.take k) = s := ⟨_, rfl⟩
        rw [hx'] at hc6 HST hx
        rw [hs] at HST hb ⊢
        have hjI : (j : Int) < (es.length : Int) := by omega
        have hj0 : (0 : Int) ≤ (j : Int) := by omega
        have w1 : IntKind.i64.wrap (s + x) = s + x := IntWalk.i64_in _ (by omega)
        clear hc hc5 hj hx' hs
        go_wp2
        go_round
        case rel => exact ⟨k + 1, by omega, by go_num, by rw [HST.out]⟩
        case measure => simp only [intOf]; omega
      · obtain rfl : m = k := by omega
        have hkI : ¬ (m : Int) < (m : Int) := by omega
        rw [List.take_of_length_le (by rw [HML.out]; exact Nat.le_refl _)]
        have hxs := HXS.out
        have hml : (m : Int) * l ≤ 200 * 50 := Int.mul_le_mul (by omega) (by omega) (by omega) (by omega)
        have hml0 : 0 < (m : Int) * l := Int.mul_pos (by omega) (by omega)
        have CF := Lib.hid (fun w => bLowest_any (lsS es ids) ((m : Int) * l) w (by omega) (by omega) (by omega) (by omega))
        obtain ⟨s, hs⟩ : ∃ s, lsS es ids = s := ⟨_, rfl⟩
        obtain ⟨ml, hml'⟩ : ∃ s, (m : Int) * l = s := ⟨_, rfl⟩
        rw [hs, hml'] at HN HD CF
        rw [← HN.out, ← HD.out] at CF
        rw [hs] at hxs ⊢
        have w1 : IntKind.i64.wrap ((m : Int) * l) = ml := by rw [← hml']; exact IntWalk.i64_in _ (by omega)
        clear hs hml' HXS HN HD
        go_wp2_with fail
        refine (CF.out _).mono ?_
        rintro e w5 ⟨rfl, hb5⟩
        have R5 := OneB.later hb5 R4.out
        have K5 := K4.out.later hb5
        have hkz5 := K5.lt
        have hbz5 := R5.b.size
        have hbw5 := R5.b
        obtain ⟨f0, f1, g0, g1⟩ := bk2 K5
        clear hb5
        go_wp2
        have KF : Bk ((w5.setCell ⟨w.heap.size + 1, 0, none⟩ (.int .i64 N)).setCell ⟨w.heap.size + 1, 1, none⟩ (.int .i64 D)) (w.heap.size + 1) 23 #[.int .i64 N, .int .i64 D] := ((K5.set_ 0 (.int .i64 N)).set_ 1 (.int .i64 D))
        obtain ⟨z0, z1, y0, y1⟩ := bk2 KF
        refine bodyPost_ret (v := .tuple #[.agg #[.int .i64 N, .int .i64 D], .bool true]) (by simp [results, Try.results38, go_sem, z0, z1, y0, y1]) rfl ⟨rfl, ?_⟩
        go_grown

end Go.Proofs.Ytccoflhoggpgoaa

namespace Go.Proofs.Ytccoflhoggpgoaa
open Go.RowKit

open Go.Shelf

set_option maxRecDepth 100000 in
theorem short_any (A : Option Addr) (n c : Nat) (w : World) :
    Calls Try.prog 29 #[.slice A n c] w fun e w' => e = .returned (.bool (decide (n ≤ 60) || (decide (200 < n) && decide (n ≤ 204)))) ∧ w = w' := by
  by_cases h1 : n ≤ 60
  · have h1I : (n : Int) ≤ 60 := by omega
    have hv : (decide (n ≤ 60) || (decide (200 < n) && decide (n ≤ 204))) = true := by simp [h1]
    rw [hv]
    go_enter Try.func29, Try.ntmps29
    go_wp2
    go_ret
    exact ⟨rfl, rfl⟩
  · have h1I : ¬ (n : Int) ≤ 60 := by omega
    have h1b : decide ((n : Int) ≤ 60) = false := decide_eq_false h1I
    by_cases h2 : 200 < n
    · have h2I : (200 : Int) < (n : Int) := by omega
      have h2b : decide ((200 : Int) < (n : Int)) = true := decide_eq_true h2I
      by_cases h3 : n ≤ 204
      · have h3I : (n : Int) ≤ 204 := by omega
        have hv : (decide (n ≤ 60) || (decide (200 < n) && decide (n ≤ 204))) = true := by simp [h2, h3]
        rw [hv]
        go_enter Try.func29, Try.ntmps29
        go_wp2
        go_ret
        exact ⟨rfl, rfl⟩
      · have h3I : ¬ (n : Int) ≤ 204 := by omega
        have h3b : decide ((n : Int) ≤ 204) = false := decide_eq_false h3I
        have hv : (decide (n ≤ 60) || (decide (200 < n) && decide (n ≤ 204))) = false := by simp [h1, h3]
        rw [hv]
        go_enter Try.func29, Try.ntmps29
        go_wp2
        go_ret
        exact ⟨rfl, rfl⟩
    · have h2I : ¬ (200 : Int) < (n : Int) := by omega
      have h2b : decide ((200 : Int) < (n : Int)) = false := decide_eq_false h2I
      have hv : (decide (n ≤ 60) || (decide (200 < n) && decide (n ≤ 204))) = false := by simp [h1, h2]
      rw [hv]
      go_enter Try.func29, Try.ntmps29
      go_wp2
      go_ret
      exact ⟨rfl, rfl⟩

end Go.Proofs.Ytccoflhoggpgoaa

namespace Go.Proofs.Ytccoflhoggpgoaa
open Go.RowKit

open Go.Shelf

/-- A list of a copy's making. -/
def RoC (b0 : Nat) (x : Ro) (A : World) : Prop := A.ownsRow b0 3 1 x.1 x.2.length (x.2.map (Value.int .i64))
theorem RoC.kept {b0 : Nat} {x : Ro} {A B : World} (h : RoC b0 x A) (hb : ∀ g, x.1.ownBlock = some g → B.heap[g]? = A.heap[g]?) : RoC b0 x B := own_same h hb
theorem rowsGo_of {w : World} {base b0 : Nat} {v : Value} {pre : List Ro} {L : List (List Int)} (h : w.ownsRow base 43 1 v pre.length (pre.map (·.1))) (hr : ∀ x ∈ pre, RoC b0 x w) (hL : pre.map (·.2) = L) : ∃ A c, v = .slice A L.length c ∧ L.length ≤ c ∧ RdGo w A L.length L ∧ (A = none → L.length = 0 ∧ c = 0) := by
  have hlen : pre.length = L.length := by rw [← hL, List.length_map]
  rw [hlen] at h
  rcases h.2 with ⟨rfl, h0⟩ | ⟨g, cap, cur, rfl, _, hh, hnc, _, _, htk⟩
  · exact ⟨none, 0, by rw [h0], by omega, ⟨rfl, fun h1 => absurd h1 (by omega)⟩, fun _ => ⟨h0, rfl⟩⟩
  · refine ⟨_, cap, rfl, hnc, ⟨rfl, fun _ => ⟨_, rfl, ?_, fun j hj => ?_⟩⟩, fun h => by cases h⟩
    · have : Bk w g 43 cur := hh
      exact this.lt
    · have hj2 : j < pre.length := by omega
      have hx := hr pre[j] (List.getElem_mem _)
      obtain ⟨B, c, hv, hc, hrd, hB⟩ := rd_ownN hx
      have e2 : L.getD j [] = (pre[j]).2 := by
        rw [← hL, List.getD_eq_getElem?_getD, List.getElem?_map, List.getElem?_eq_getElem hj2]
        rfl
      refine ⟨B, (pre[j]).2.length, c, ?_, by rw [e2]; exact hrd, hB⟩
      rw [addOff, cell_of_row w g j cur 43 (0, 0) hh, ← Array.getElem?_toList]
      have e1 : (cur.toList.take (L.length * 1))[j]? = (pre.map (·.1))[j]? := by rw [htk]
      rw [List.getElem?_take, if_pos (by omega)] at e1
      rw [e1, List.getElem?_map, List.getElem?_eq_getElem hj2, ← hv]
      rfl

set_option maxRecDepth 100000 in
set_option maxHeartbeats 4000000 in
theorem copyLists_any (A : Option Addr) (n c : Nat) (p : List (List Int)) (w : World) (hp : RdGo w A n p) (hn : n ≤ 1000) (hm : ∀ k, k < n → (p.getD k []).length ≤ 1000) :
    Calls Try.prog 66 #[.slice A n c] w fun e w' => (∃ A' c', e = .returned (.slice A' n c') ∧ n ≤ c' ∧ RdGo w' A' n p ∧ (A' = none → n = 0 ∧ c' = 0)) ∧ Below w.heap.size w w' := by
  obtain ⟨i0, hi0, hz0, hz1, hz2⟩ := info_parts slInfo
  have HP := Lib.hid hp
  have HM := Lib.hid hm
  have HLN : Hid (p.length = n) := hp.1
  have HTK : Hid (∀ k, k < n → p.take (k + 1) = p.take k ++ [p.getD k []]) := fun k hk => by
    rw [List.take_succ_eq_append_getElem (by rw [hp.1]; exact hk), List.getD_eq_getElem?_getD, List.getElem?_eq_getElem (by rw [hp.1]; exact hk), Option.getD_some]
  have HEND : Hid (p.take n = p) := List.take_of_length_le (by rw [hp.1]; exact Nat.le_refl _)
  clear hp hm
  go_enter Try.func66, Try.ntmps66
  go_wp2
  go_loopw [3, 4] (fun v i wr => ∃ (k : Nat) (pre : List Ro) (Av : Option Addr) (cv : Nat), v = .slice Av k cv ∧ k ≤ n ∧ i = .int .i64 k ∧ Hid (pre.length = k) ∧ Hid (pre.map (·.2) = p.take k) ∧ Hid (wr.ownsRow w.heap.size 43 1 (.slice Av k cv) k (pre.map (·.1))) ∧ Hid (∀ x ∈ pre, RoC w.heap.size x wr) ∧ Hid (Below w.heap.size w wr)) (fun _ i _ => n - (intOf i).toNat)
  case atStart => exact ⟨0, [], none, 0, rfl, Nat.zero_le _, rfl, Lib.hid rfl, Lib.hid (by rw [List.take_zero]; rfl), Lib.hid (World.ownsRow_nil _ _ _ _), Lib.hid (fun x hx => absurd hx (by simp)), Lib.hid (Below.refl _ _)⟩
  case round =>
    obtain ⟨k, pre, Av, cv, rfl, hk, rfl, HK, HQ, HR, HC, HB⟩ := hrel
    by_cases hlt : k < n
    · have hkI : (k : Int) < (n : Int) := by omega
      have hk0 : (0 : Int) ≤ (k : Int) := by omega
      obtain ⟨ad, ha, _, hc⟩ := (HP.out.below HB.out).2 (by omega)
      subst ha
      obtain ⟨R, m, rc, hrow, hrd, hRn⟩ := hc k hlt
      have hmm := HM.out k hlt
      have hrl := hrd.1
      have CC := Lib.hid (copyInts_any R m rc (p.getD k []) wr hRn hrd (by omega))
      have HT := Lib.hid (HTK.out k hlt)
      obtain ⟨row, hrw⟩ : ∃ r, p.getD k [] = r := ⟨_, rfl⟩
      rw [hrw] at CC HT hmm hrl
      have hadk := hrow
      clear hc hrd hRn hrw
      subst hrl
      go_wp2_with fail
      refine CC.out.mono ?_
      rintro e w1 ⟨⟨vr, rfl, hor⟩, hb1⟩
      obtain ⟨Ar, cr, hvr, _, _, _⟩ := rd_ownN hor
      subst hvr
      have HNR := Lib.hid (ownMono hor HB.out.size)
      have HR1 := Lib.hid (ownBelow HR.out hb1)
      have HC1 : Hid (∀ x ∈ pre, RoC w.heap.size x w1) := fun x hx => ownBelow (HC.out x hx) hb1
      have HB1 := Lib.hid (HB.out.trans (hb1.mono HB.out.size))
      clear hb1 hor HR HC hrow hadk CC
      go_wp2_with (at_builtin; refine wpList_append_own _ rfl (.tmp 11) (.tmp 17) 95 rfl w.heap.size 43 i0 _ 1 24 Try.underlying95 hi0 hz0 hz1 hz2 rfl (by decide) _ _ _ rfl (HR1.out.alloc _) ⟨w1.heap.size, 0, none⟩ 1 1 [_] rfl rfl (cell_one_new _ _ _) (by intro z hz; simp only [List.mem_singleton] at hz; subst hz; rfl) (by unfold maxLen; omega) (by omega) (by have := HB1.out.size; simp; omega) ?_)
      intro v' w4 hown' hgrow _
      obtain ⟨g', cap', rfl⟩ := ownsRow_succ hown'
      have HB4 : Hid (Below w.heap.size w w4) := ((HB1.out).alloc (HB1.out).size _).grown hgrow (by have := HB1.out.size; simp; omega) (fun z e => (HR1.out.lt z e).1)
      have hkp : ∀ x : Ro, RoC w.heap.size x w1 → RoC w.heap.size x w4 := by
        intro x hx
        refine hx.kept fun g hg => ?_
        have hlt2 := (hx.lt g hg).2
        have hne : some g ≠ (Value.slice Av k cv).ownBlock := by
          rcases own_apart hx HR1.out with h | h
          · rw [h] at hg; cases hg
          · rw [← hg]; exact h
        exact (hgrow.block g (by simp; omega) hne).trans (Below.heap_alloc _ _ _ hlt2)
      have HC4 : Hid (∀ x ∈ pre ++ [((Value.slice Ar row.length cr, row) : Ro)], RoC w.heap.size x w4) := by
        intro x hx
        rcases List.mem_append.1 hx with h | h
        · exact hkp x (HC1.out x h)
        · rw [List.mem_singleton] at h
          subst h
          exact hkp _ HNR.out
      have HR4 : Hid (w4.ownsRow w.heap.size 43 1 (.slice (some ⟨g', 0, none⟩) (k + 1) cap') (k + 1) ((pre ++ [((Value.slice Ar row.length cr, row) : Ro)]).map (·.1))) := by
        show World.ownsRow _ _ _ _ _ _ _
        rw [List.map_append]
        exact hown'
      clear hown' hgrow hkp HC1 HR1 HNR
      go_wp2
      go_roundw
      case rel => exact ⟨k + 1, pre ++ [(_, row)], _, _, rfl, by omega, by go_num, by show _ = _; rw [List.length_append, HK.out]; rfl, by show _ = _; rw [List.map_append, HQ.out, HT.out]; rfl, HR4, HC4, HB4⟩
      case measure => simp only [intOf]; omega
    · obtain rfl : n = k := by omega
      have hkI : ¬ (n : Int) < (n : Int) := by omega
      go_wp2
      go_ret
      have h1 := HR.out
      rw [← HK.out] at h1
      obtain ⟨A', c', e1, e2, e3, e4⟩ := rowsGo_of h1 HC.out (HQ.out.trans HEND.out)
      rw [HLN.out] at e1 e2 e3 e4
      rw [HK.out] at e1
      exact ⟨⟨A', c', congrArg Ending.returned e1, e2, e3, e4⟩, HB.out⟩

end Go.Proofs.Ytccoflhoggpgoaa

namespace Go.Proofs.Ytccoflhoggpgoaa
open Go.RowKit

open Go.Shelf

def rbR (p : List (List Int)) (i : Nat) : Nat → Int
  | 0 => 0
  | j + 1 => rbR p i j + min (ent p i j) (ent p j i)
def rbP (p : List (List Int)) : Nat → Int
  | 0 => 0
  | i + 1 => rbP p i + rbR p i i
def rbF (p : List (List Int)) : Int := rbP p p.length
theorem rbR_bd {n : Nat} {p : List (List Int)} (h : VP n p) {i : Nat} (hi : i < n) : ∀ j, j ≤ n → 0 ≤ rbR p i j ∧ rbR p i j ≤ 1000 * j
  | 0, _ => by simp [rbR]
  | j + 1, hj => by
    have h1 := rbR_bd h hi j (by omega)
    have h2 := h.ent (x := (i : Int)) (y := (j : Int)) (by omega) (by omega)
    have h3 := h.ent (x := (j : Int)) (y := (i : Int)) (by omega) (by omega)
    have e : rbR p i (j + 1) = rbR p i j + min (ent p i j) (ent p j i) := rfl
    rw [e]
    omega
theorem rbP_bd {n : Nat} {p : List (List Int)} (h : VP n p) (hn : n ≤ 6) : ∀ k, k ≤ n → 0 ≤ rbP p k ∧ rbP p k ≤ 6000 * k
  | 0, _ => by simp [rbP]
  | k + 1, hk => by
    have h1 := rbP_bd h hn k (by omega)
    have h2 := rbR_bd h (i := k) (by omega) k (by omega)
    have e : rbP p (k + 1) = rbP p k + rbR p k k := rfl
    rw [e]
    omega
theorem minB (a b : Int) : ∀ ts t W, (Builtin.min_ ts t #[.int .i64 a, .int .i64 b]).run Try.prog W = .ok (.int .i64 (min a b)) W := by
  intro ts t W
  simp [Builtin.min_, Builtin.min2, go_sem]
  first
  | done
  | (by_cases h : a < b
     · rw [Int.min_eq_left (by omega)]; simp_all; (try (intro _; omega))
     · rw [Int.min_eq_right (by omega)]; simp_all; (try (intro _; omega)))

set_option maxRecDepth 100000 in
set_option maxHeartbeats 4000000 in
theorem rankingBound_any (A : Option Addr) (n c : Nat) (p : List (List Int)) (w : World) (hp : RdGo w A n p) (hn : n ≤ 1000000) :
    Calls Try.prog 68 #[.slice A n c] w fun e w' => e = .returned (.tuple #[.int .i64 (if pfE p = 0 then rbF p else 0), .int .i64 (pfE p)]) ∧ Below w.heap.size w w' := by
  have HP := Lib.hid hp
  have CP := Lib.hid (checkPreferences_any A n c p w hp hn)
  have HPZ := Lib.hid (fun h => pfE_zero (p := p) h)
  rw [show p.length = n from hp.1] at HPZ
  have HF : Hid (rbF p = rbP p n) := by show _ = _; unfold rbF; rw [hp.1]
  obtain ⟨V, hV⟩ : ∃ V, pfE p = V := ⟨_, rfl⟩
  rw [hV] at CP HPZ ⊢
  clear hp hV
  by_cases h0 : V = 0
  case neg =>
    rw [if_neg h0]
    have hd : (V != 0) = true := by rw [bne_iff_ne]; exact h0
    have hd1 : (V == 0) = false := by rw [beq_eq_false_iff_ne]; exact h0
    go_enter Try.func68, Try.ntmps68
    go_wp2_with fail
    refine CP.out.mono ?_
    rintro e w' ⟨rfl, hb⟩
    have HB := Lib.hid hb
    clear hb
    go_wp2
    go_ret2
    exact ⟨rfl, HB.out⟩
  subst h0
  rw [if_pos rfl]
  obtain ⟨hn6, hvp⟩ := HPZ.out rfl
  have HVP := Lib.hid hvp
  have HBP := Lib.hid (rbP_bd hvp hn6)
  obtain ⟨V, hV⟩ : ∃ V, rbF p = V := ⟨_, rfl⟩
  rw [hV] at HF ⊢
  clear hvp HPZ hV
  go_enter Try.func68, Try.ntmps68
  go_wp2_with fail
  refine CP.out.mono ?_
  rintro e w1 ⟨rfl, hb⟩
  have HB := Lib.hid hb
  have HP1 := Lib.hid (HP.out.below hb)
  clear hb CP HP
  go_wp2
  go_loopw [5, 15] (fun s i wr => ∃ k : Nat, k ≤ n ∧ i = .int .i64 k ∧ s = .int .i64 (rbP p k) ∧ Hid (∃ m, wr = w1.drewN m)) (fun _ i _ => n - (intOf i).toNat)
  case atStart => exact ⟨0, Nat.zero_le _, rfl, rfl, ⟨0, rfl⟩⟩
  case round =>
    obtain ⟨k, hk, rfl, rfl, HD⟩ := hrel
    obtain ⟨m, rfl⟩ := HD.out
    by_cases hlt : k < n
    · have hkI : (k : Int) < (n : Int) := by omega
      have hk0 : (0 : Int) ≤ (k : Int) := by omega
      have hbk := HBP.out k hk
      have HST : Hid (rbP p (k + 1) = rbP p k + rbR p k k) := rfl
      have HBR := Lib.hid (fun j hj => rbR_bd HVP.out hlt j hj)
      obtain ⟨s0, hs0⟩ : ∃ s, rbP p k = s := ⟨_, rfl⟩
      rw [hs0] at hbk HST ⊢
      clear hs0
      go_wp2
      go_loopw [5, 19] (fun s i wr => ∃ j : Nat, j ≤ k ∧ i = .int .i64 j ∧ s = .int .i64 (s0 + rbR p k j) ∧ Hid (∃ m, wr = w1.drewN m)) (fun _ i _ => k - (intOf i).toNat)
      case atStart => exact ⟨0, Nat.zero_le _, rfl, by show _ = Value.int .i64 (s0 + 0); rw [Int.add_zero], ⟨m, rfl⟩⟩
      case round =>
        obtain ⟨j, hj, rfl, rfl, HD2⟩ := hrel
        obtain ⟨m2, rfl⟩ := HD2.out
        by_cases hjk : j < k
        · have hjI : (j : Int) < (k : Int) := by omega
          have hj0 : (0 : Int) ≤ (j : Int) := by omega
          have hjn : (j : Int) < (n : Int) := by omega
          obtain ⟨ad, ha, _, hc⟩ := HP1.out.2 (by omega)
          subst ha
          obtain ⟨B1, m1, c1, hr1, hd1, _⟩ := hc k hlt
          obtain ⟨B2, m2', c2, hr2, hd2, _⟩ := hc j (by omega)
          have hm1 : m1 = n := by have := hd1.1; have := (HVP.out.row hlt).1; omega
          have hm2 : m2' = n := by have := hd2.1; have := (HVP.out.row (k := j) (by omega)).1; omega
          subst hm1
          subst hm2
          obtain ⟨r1, hB1, _, hx1⟩ := hd1.2 (by omega)
          obtain ⟨r2, hB2, _, hx2⟩ := hd2.2 (by omega)
          subst hB1 hB2
          have he1 : w1.cell? (r1.add j) = some (.int .i64 (ent p k j)) := by rw [hx1 j (by omega)]; rfl
          have he2 : w1.cell? (r2.add k) = some (.int .i64 (ent p j k)) := by rw [hx2 k (by omega)]; rfl
          have h1 := HVP.out.ent (x := (k : Int)) (y := (j : Int)) (by omega) (by omega)
          have h2 := HVP.out.ent (x := (j : Int)) (y := (k : Int)) (by omega) (by omega)
          have HSN : Hid (rbR p k (j + 1) = rbR p k j + min (ent p k j) (ent p j k)) := rfl
          have hbj := HBR.out j (by omega)
          obtain ⟨e1, hh1⟩ : ∃ e, ent p k j = e := ⟨_, rfl⟩
          obtain ⟨e2, hh2⟩ : ∃ e, ent p j k = e := ⟨_, rfl⟩
          obtain ⟨q, hq⟩ : ∃ e, rbR p k j = e := ⟨_, rfl⟩
          rw [hh1] at he1 h1 HSN
          rw [hh2] at he2 h2 HSN
          rw [hq] at HSN hbj ⊢
          have hmn := minB e1 e2
          have hmb : 0 ≤ min e1 e2 ∧ min e1 e2 ≤ 1000 := by omega
          obtain ⟨z, hz⟩ : ∃ z, min e1 e2 = z := ⟨_, rfl⟩
          rw [hz] at hmn HSN hmb
          have hw : IntKind.i64.wrap (s0 + q + z) = s0 + q + z := IntWalk.i64_in _ (by omega)
          clear hc hd1 hd2 hx1 hx2 hh1 hh2 hq hz
          go_wp2
          go_quiet (fail)
          go_wp2
          go_roundw
          case rel => exact ⟨j + 1, by omega, by go_num, by rw [HSN.out, Int.add_assoc], ⟨_, by first | rfl | exact World.drewN_drewN _ _ _⟩⟩
          case measure => simp only [intOf]; omega
        · obtain rfl : k = j := by omega
          have hjI : ¬ (k : Int) < (k : Int) := by omega
          rw [← HST.out]
          go_wp2
          go_roundw
          case rel => exact ⟨k + 1, by omega, by go_num, rfl, ⟨_, rfl⟩⟩
          case measure => simp only [intOf]; omega
    · obtain rfl : n = k := by omega
      have hkI : ¬ (n : Int) < (n : Int) := by omega
      go_wp2
      go_ret2
      exact ⟨by rw [HF.out]; rfl, blw_drewN HB.out m⟩

end Go.Proofs.Ytccoflhoggpgoaa

namespace Go.Proofs.Ytccoflhoggpgoaa
open Go.RowKit

open Go.Shelf

theorem mem_getD {xs : List Int} {x : Int} : x ∈ xs ↔ ∃ j, j < xs.length ∧ xs.getD j 0 = x := by
  constructor
  · intro h
    obtain ⟨j, hj, e⟩ := List.getElem_of_mem h
    exact ⟨j, hj, by rw [List.getD_eq_getElem?_getD, List.getElem?_eq_getElem hj]; exact e⟩
  · rintro ⟨j, hj, rfl⟩
    rw [List.getD_eq_getElem?_getD, List.getElem?_eq_getElem hj]
    exact List.getElem_mem _
set_option maxRecDepth 100000 in
set_option maxHeartbeats 2000000 in
theorem index_any (A : Option Addr) (n c : Nat) (xs : List Int) (x : Int) (w : World) (hr : RdI w A n xs) (hn : n ≤ 1000000) :
    Calls Try.prog 150 #[.slice A n c, .int .i64 x] w fun e w' => (∃ r : Int, e = .returned (.int .i64 r) ∧ (0 ≤ r ↔ x ∈ xs)) ∧ w = w' := by
  have HR := Lib.hid hr
  have HLN : Hid (xs.length = n) := hr.1
  have HM : Hid (x ∈ xs ↔ ∃ j, j < xs.length ∧ xs.getD j 0 = x) := mem_getD
  clear hr
  go_enter Try.func150, Try.ntmps150
  go_wp2
  go_loop [8] (fun i => ∃ k : Nat, k ≤ n ∧ i = .int .i64 k ∧ Hid (∀ j, j < k → xs.getD j 0 ≠ x)) (fun i => n - (intOf i).toNat)
  case atStart => exact ⟨0, Nat.zero_le _, rfl, fun j hj => absurd hj (by omega)⟩
  case round =>
    obtain ⟨k, hk, rfl, HJ⟩ := hrel
    by_cases hlt : k < n
    · have hkI : (k : Int) < (n : Int) := by omega
      have hk0 : (0 : Int) ≤ (k : Int) := by omega
      obtain ⟨ad, ha, _, hc⟩ := HR.out.2 (by omega)
      subst ha
      have hck := hc k hlt
      have HY := Lib.hid (rfl : xs.getD k 0 = xs.getD k 0)
      obtain ⟨y, hy⟩ : ∃ y, xs.getD k 0 = y := ⟨_, rfl⟩
      rw [hy] at hck
      have HYY := Lib.hid hy
      clear hc hy HY
      by_cases hxy : x = y
      · subst hxy
        go_wp2
        go_ret
        exact ⟨⟨_, rfl, ⟨fun _ => HM.out.2 ⟨k, by rw [HLN.out]; exact hlt, HYY.out⟩, fun _ => by omega⟩⟩, rfl⟩
      · have hxb : (x == y) = false := by rw [beq_eq_false_iff_ne]; exact hxy
        go_wp2
        go_round
        case rel =>
          refine ⟨k + 1, by omega, by go_num, fun j hj => ?_⟩
          rcases (by omega : j < k ∨ j = k) with h | rfl
          · exact HJ.out j h
          · rw [HYY.out]; exact fun e => hxy e.symm
        case measure => simp [intOf]; omega
    · obtain rfl : n = k := by omega
      have hkI : ¬ (n : Int) < (n : Int) := by omega
      go_wp2
      go_ret
      refine ⟨⟨-1, rfl, ⟨fun h => absurd h (by omega), fun h => ?_⟩⟩, rfl⟩
      obtain ⟨j, hj, e⟩ := HM.out.1 h
      exact absurd e (HJ.out j (by rw [← HLN.out]; exact hj))
set_option maxRecDepth 100000 in
theorem contains_any (A : Option Addr) (n c : Nat) (xs : List Int) (x : Int) (w : World) (hr : RdI w A n xs) (hn : n ≤ 1000000) :
    Calls Try.prog 140 #[.slice A n c, .int .i64 x] w fun e w' => e = .returned (.bool (decide (x ∈ xs))) ∧ w = w' := by
  have C := Lib.hid (index_any A n c xs x w hr hn)
  obtain ⟨b, hb⟩ : ∃ b, decide (x ∈ xs) = b := ⟨_, rfl⟩
  have HB := Lib.hid hb
  rw [hb]
  clear hb hr
  go_enter Try.func140, Try.ntmps140
  go_wp2_with fail
  refine C.out.mono ?_
  rintro e w' ⟨⟨r, rfl, hr⟩, rfl⟩
  have HRR := Lib.hid hr
  clear hr
  by_cases h : 0 ≤ r
  · obtain rfl : b = true := by rw [← HB.out]; exact decide_eq_true (HRR.out.1 h)
    go_wp2
    go_ret
    exact ⟨rfl, rfl⟩
  · have hrb : decide (0 ≤ r) = false := decide_eq_false h
    obtain rfl : b = false := by rw [← HB.out]; exact decide_eq_false (fun hx => h (HRR.out.2 hx))
    go_wp2
    go_ret
    exact ⟨rfl, rfl⟩

end Go.Proofs.Ytccoflhoggpgoaa

namespace Go.Proofs.Ytccoflhoggpgoaa
open Go.RowKit

open Go.Shelf

set_option maxRecDepth 100000 in
set_option maxHeartbeats 2000000 in
theorem has_any (A : Option Addr) (n c : Nat) (xs : List Int) (x : Int) (w : World) (hr : RdI w A n xs) (hn : n ≤ 1000000) :
    Calls Try.prog 39 #[.slice A n c, .int .i64 x] w fun e w' => e = .returned (.bool (decide (x ∈ xs))) ∧ w = w' := by
  have HR := Lib.hid hr
  have HLN : Hid (xs.length = n) := hr.1
  have HM : Hid (x ∈ xs ↔ ∃ j, j < xs.length ∧ xs.getD j 0 = x) := mem_getD
  obtain ⟨b, hb⟩ : ∃ b, decide (x ∈ xs) = b := ⟨_, rfl⟩
  have HB := Lib.hid hb
  rw [hb]
  clear hb hr
  go_enter Try.func39, Try.ntmps39
  go_wp2
  go_loop [5] (fun i => ∃ k : Nat, k ≤ n ∧ i = .int .i64 k ∧ Hid (∀ j, j < k → xs.getD j 0 ≠ x)) (fun i => n - (intOf i).toNat)
  case atStart => exact ⟨0, Nat.zero_le _, rfl, fun j hj => absurd hj (by omega)⟩
  case round =>
    obtain ⟨k, hk, rfl, HJ⟩ := hrel
    by_cases hlt : k < n
    · have hkI : (k : Int) < (n : Int) := by omega
      have hk0 : (0 : Int) ≤ (k : Int) := by omega
      obtain ⟨ad, ha, _, hc⟩ := HR.out.2 (by omega)
      subst ha
      have hck := hc k hlt
      obtain ⟨y, hy⟩ : ∃ y, xs.getD k 0 = y := ⟨_, rfl⟩
      rw [hy] at hck
      have HYY := Lib.hid hy
      clear hc hy
      by_cases hxy : y = x
      · subst hxy
        obtain rfl : b = true := by rw [← HB.out]; exact decide_eq_true (HM.out.2 ⟨k, by rw [HLN.out]; exact hlt, HYY.out⟩)
        go_wp2
        go_ret
        exact ⟨rfl, rfl⟩
      · have hxb : (y == x) = false := by rw [beq_eq_false_iff_ne]; exact hxy
        go_wp2
        go_round
        case rel =>
          refine ⟨k + 1, by omega, by go_num, fun j hj => ?_⟩
          rcases (by omega : j < k ∨ j = k) with h | rfl
          · exact HJ.out j h
          · rw [HYY.out]; exact hxy
        case measure => simp [intOf]; omega
    · obtain rfl : n = k := by omega
      have hkI : ¬ (n : Int) < (n : Int) := by omega
      obtain rfl : b = false := by
        rw [← HB.out]
        refine decide_eq_false fun h => ?_
        obtain ⟨j, hj, e⟩ := HM.out.1 h
        exact absurd e (HJ.out j (by rw [← HLN.out]; exact hj))
      go_wp2
      go_ret
      exact ⟨rfl, rfl⟩

end Go.Proofs.Ytccoflhoggpgoaa

namespace Go.Proofs.Ytccoflhoggpgoaa
open Go.RowKit

open Go.Shelf

theorem ctL_mem {T P : Int} {es : List Int} {x : Int} : x ∈ ctL T P es ↔ ∃ i : Nat, i < es.length ∧ gkB T P es i = true ∧ (i : Int) = x := by
  unfold ctL ctK ctN
  constructor
  · intro h
    obtain ⟨i, hi, e⟩ := List.mem_map.1 h
    have h2 := List.mem_filter.1 hi
    exact ⟨i, List.mem_range.1 h2.1, h2.2, e⟩
  · rintro ⟨i, h1, h2, rfl⟩
    exact List.mem_map.2 ⟨i, List.mem_filter.2 ⟨List.mem_range.2 h1, h2⟩, rfl⟩
theorem cnN_nn (T : Int) (es : List Int) : 0 ≤ cnN T es := by unfold cnN; omega
theorem gkB_open {T : Int} {es : List Int} (h : enOk es) {i : Nat} (hi : i < es.length) : gkB T 0 es i = decide (T ≤ es.getD i 0) := by
  unfold gkB
  have h1 := (h.at hi).1
  have h2 := cnN_nn T es
  have h3 : 0 ≤ es.getD i 0 * 100 * cnN T es := Int.mul_nonneg (Int.mul_nonneg h1 (by omega)) h2
  rw [Int.zero_mul, decide_eq_true h3, Bool.and_true]
theorem ctL_all {es : List Int} (h : enOk es) : (ctL 0 0 es).length = es.length := by
  unfold ctL ctK ctN
  rw [List.length_map, List.filter_eq_self.2, List.length_range]
  intro i hi
  have hi2 := List.mem_range.1 hi
  rw [gkB_open h hi2]
  exact decide_eq_true (h.at hi2).1
theorem ctL_fewer {T T' : Int} {es : List Int} (h : enOk es) (hT : T ≤ T') {x : Int} (hx : x ∈ ctL T' 0 es) : x ∈ ctL T 0 es := by
  obtain ⟨i, h1, h2, e⟩ := ctL_mem.1 hx
  rw [gkB_open h h1] at h2
  have h3 := of_decide_eq_true h2
  exact ctL_mem.2 ⟨i, h1, by rw [gkB_open h h1]; exact decide_eq_true (by omega), e⟩
theorem ctL_some {T P : Int} {es : List Int} (h : enOk es) {x : Int} (hx : x ∈ ctL T P es) : x ∈ ctL T 0 es ∧ 0 ≤ x ∧ x < es.length := by
  obtain ⟨i, h1, h2, e⟩ := ctL_mem.1 hx
  unfold gkB at h2
  rw [Bool.and_eq_true] at h2
  exact ⟨ctL_mem.2 ⟨i, h1, by rw [gkB_open h h1]; exact h2.1, e⟩, by omega, by omega⟩
theorem sqS_neg : ∀ l : List Int, sqS (l.map fun x => -x) = sqS l
  | [] => rfl
  | x :: l => by
    have ih := sqS_neg l
    unfold sqS at ih ⊢
    rw [List.map_cons, List.map_cons, List.sum_cons, List.map_cons, List.sum_cons, ih]
    congr 1
    rw [Int.neg_mul_neg]
theorem esL_neg (xs : List Int) (L H : Nat) : esL (xs.map fun x => -x) L H = esL xs L H := by
  unfold esL
  rw [List.length_map]
  refine List.map_congr_left fun k _ => ?_
  unfold enA
  rw [← List.map_drop, ← List.map_take, sqS_neg]
theorem sgE_ok {xs : List Int} (h1 : xs.length ≤ 200) (h2 : small xs) : sgE xs = 0 := by
  unfold sgE rngE
  rw [if_neg (by omega), if_pos]
  · rfl
  · unfold fromB
    rw [List.all_eq_true]
    intro x hx
    have := h2 x hx
    simp; omega
theorem small_neg {xs : List Int} (h : small xs) : small (xs.map fun x => -x) := by
  intro x hx
  obtain ⟨y, hy, rfl⟩ := List.mem_map.1 hx
  have := h y hy
  omega
theorem loR_neg {L H G P : Int} {xs : List Int} (h1 : xs.length ≤ 200) (h2 : small xs) : loR L H G P (xs.map fun x => -x) = loR L H G P xs := by
  have e1 : sgE (xs.map fun x => -x) = sgE xs := by rw [sgE_ok h1 h2, sgE_ok (by rw [List.length_map]; exact h1) (small_neg h2)]
  have e2 : gbE L H G P (xs.map fun x => -x) = gbE L H G P xs := by unfold gbE; rw [e1]
  unfold loR
  rw [e2, esL_neg]
/-- The mean lies between. -/
theorem lsS_between {es : List Int} {lo hi : Int} : ∀ ids : List Nat, (∀ i ∈ ids, lo ≤ es.getD i 0 ∧ es.getD i 0 ≤ hi) → lo * ids.length ≤ lsS es ids ∧ lsS es ids ≤ hi * ids.length
  | [], _ => by simp [lsS]
  | i :: l, h => by
    have h1 := lsS_between l (fun j hj => h j (List.mem_cons_of_mem _ hj))
    have h2 := h i (List.mem_cons_self ..)
    have e : lsS es (i :: l) = es.getD i 0 + lsS es l := by simp [lsS]
    have e2 : ∀ a : Int, a * ((i :: l).length : Int) = a * l.length + a := fun a => by rw [List.length_cons, Int.natCast_add, Int.mul_add]; simp
    rw [e, e2, e2]
    omega
theorem frac_low {S m l lo : Int} (hS : 0 ≤ S) (hm : 0 < m) (hl : 0 < l) (h : lo * m ≤ S) : lo * fD S (m * l) ≤ fN S (m * l) * l := by
  have hml : 0 < m * l := Int.mul_pos hm hl
  obtain ⟨g1, _, _, _, g5, _, g7, g8⟩ := gcd_facts hS hml
  have hg : (0 : Int) < (Int.gcd S (m * l) : Int) := by omega
  have h1 : (lo * fD S (m * l)) * (Int.gcd S (m * l) : Int) ≤ (fN S (m * l) * l) * (Int.gcd S (m * l) : Int) := by
    have e1 : (lo * fD S (m * l)) * (Int.gcd S (m * l) : Int) = (lo * m) * l := by rw [Int.mul_assoc, g8, Int.mul_assoc]
    have e2 : (fN S (m * l) * l) * (Int.gcd S (m * l) : Int) = S * l := by rw [Int.mul_assoc, Int.mul_comm l, ← Int.mul_assoc, g7]
    rw [e1, e2]
    exact Int.mul_le_mul_of_nonneg_right h (by omega)
  exact Int.le_of_mul_le_mul_right h1 hg
theorem frac_high {S m l hi : Int} (hS : 0 ≤ S) (hm : 0 < m) (hl : 0 < l) (h : S ≤ hi * m) : fN S (m * l) * l ≤ hi * fD S (m * l) := by
  have hml : 0 < m * l := Int.mul_pos hm hl
  obtain ⟨g1, _, _, _, g5, _, g7, g8⟩ := gcd_facts hS hml
  have hg : (0 : Int) < (Int.gcd S (m * l) : Int) := by omega
  have h1 : (fN S (m * l) * l) * (Int.gcd S (m * l) : Int) ≤ (hi * fD S (m * l)) * (Int.gcd S (m * l) : Int) := by
    have e1 : (hi * fD S (m * l)) * (Int.gcd S (m * l) : Int) = (hi * m) * l := by rw [Int.mul_assoc, g8, Int.mul_assoc]
    have e2 : (fN S (m * l) * l) * (Int.gcd S (m * l) : Int) = S * l := by rw [Int.mul_assoc, Int.mul_comm l, ← Int.mul_assoc, g7]
    rw [e1, e2]
    exact Int.mul_le_mul_of_nonneg_right h (by omega)
  exact Int.le_of_mul_le_mul_right h1 hg
theorem lowB_frac {S b : Int} (hS : 0 ≤ S) (hb : 0 < b) : lowB (fN S b) (fD S b) = true := by
  obtain ⟨g1, _, _, _, g5, _, g7, g8⟩ := gcd_facts hS hb
  have hg : (0 : Int) < (Int.gcd S b : Int) := by omega
  have hc : Int.gcd (fN S b) (fD S b) = 1 := by
    have h := Int.gcd_mul_right (fN S b) (Int.gcd S b : Int) (fD S b)
    rw [g7, g8] at h
    rw [Int.natAbs_natCast] at h
    have h2 : 1 * Int.gcd S b = Int.gcd (fN S b) (fD S b) * Int.gcd S b := by rw [Nat.one_mul]; exact h
    exact (Nat.eq_of_mul_eq_mul_right g1 h2).symm
  unfold lowB
  simp [hc, g5]

end Go.Proofs.Ytccoflhoggpgoaa

namespace Go.Proofs.Ytccoflhoggpgoaa
open Go.RowKit

open Go.Shelf

theorem floor_any (n d : Int) (hn : -4611686018427387904 ≤ n ∧ n ≤ 4611686018427387904) (hd : 0 < d ∧ d ≤ 4611686018427387904) (w : World) :
    Calls Try.prog 98 #[.int .i64 n, .int .i64 d] w fun e w' => e = .returned (.int .i64 (n / d)) ∧ w = w' := by
  have hf := Lib.hid (tdiv_floor n d hd.1)
  have hq : -4611686018427387904 ≤ n.tdiv d ∧ n.tdiv d ≤ 4611686018427387904 := by
    have h1 := Int.natAbs_tdiv_le_natAbs n d
    omega
  have HQ := Lib.hid hq
  clear hq
  have hd0 : d ≠ 0 := by omega
  have hd1 : (d == 0) = false := by simpa using hd0
  go_enter Try.func98, Try.ntmps98
  go_wp2
  all_goals go_ret
  · have h : n.tmod d < 0 := by assumption
    have h2 := hf.out
    have h3 := HQ.out
    rw [if_pos h] at h2
    refine ⟨?_, rfl⟩
    show Ending.returned (Value.int .i64 (wrap64 (n.tdiv d - 1))) = _
    rw [IntWalk.wrap64_in _ ⟨by omega, by omega⟩, h2]
  · have h : 0 ≤ n.tmod d := by assumption
    have h2 := hf.out
    rw [if_neg (by omega)] at h2
    refine ⟨?_, rfl⟩
    show Ending.returned (Value.int .i64 (n.tdiv d)) = _
    rw [h2]

/-- Which of two fractions is less. -/
def cmV (n d m k : Int) : Int := if n * k < m * d then -1 else if m * d < n * k then 1 else 0
theorem cmV_lt {n d m k p q : Int} (hd : 0 < d) (hk : 0 < k) (h1 : n < p * d + d) (h2 : q * k ≤ m) (h : p < q) : cmV n d m k = -1 := by
  have h3 : (p + 1) * d ≤ q * d := Int.mul_le_mul_of_nonneg_right (by omega) (by omega)
  rw [Int.add_mul, Int.one_mul] at h3
  have h4 : n * k < (q * d) * k := Int.mul_lt_mul_of_pos_right (by omega) hk
  have h5 : (q * k) * d ≤ m * d := Int.mul_le_mul_of_nonneg_right h2 (by omega)
  have e : (q * d) * k = (q * k) * d := by rw [Int.mul_assoc, Int.mul_comm d k, ← Int.mul_assoc]
  unfold cmV
  rw [if_pos (by omega)]
theorem cmV_gt {n d m k p q : Int} (hd : 0 < d) (hk : 0 < k) (h1 : m < q * k + k) (h2 : p * d ≤ n) (h : q < p) : cmV n d m k = 1 := by
  have h3 : (q + 1) * k ≤ p * k := Int.mul_le_mul_of_nonneg_right (by omega) (by omega)
  rw [Int.add_mul, Int.one_mul] at h3
  have h4 : m * d < (p * k) * d := Int.mul_lt_mul_of_pos_right (by omega) hd
  have h5 : (p * d) * k ≤ n * k := Int.mul_le_mul_of_nonneg_right h2 (by omega)
  have e : (p * d) * k = (p * k) * d := by rw [Int.mul_assoc, Int.mul_comm d k, ← Int.mul_assoc]
  unfold cmV
  rw [if_neg (by omega), if_pos (by omega)]
theorem cmV_sub (n d m k p : Int) : cmV (n - p * d) d (m - p * k) k = cmV n d m k := by
  unfold cmV
  have e1 : (n - p * d) * k = n * k - p * d * k := Int.sub_mul ..
  have e2 : (m - p * k) * d = m * d - p * d * k := by rw [Int.sub_mul, Int.mul_assoc p k d, Int.mul_comm k d, ← Int.mul_assoc]
  rw [e1, e2]
  by_cases h1 : n * k < m * d
  · rw [if_pos h1, if_pos (by omega)]
  · rw [if_neg h1, if_neg (by omega)]
    by_cases h2 : m * d < n * k
    · rw [if_pos h2, if_pos (by omega)]
    · rw [if_neg h2, if_neg (by omega)]
theorem cmV_swap (n d m k : Int) : cmV k m d n = cmV n d m k := by
  unfold cmV
  rw [Int.mul_comm k n, Int.mul_comm d m]
theorem cmV_le {n d m k : Int} (h : n * k ≤ m * d) : cmV n d m k ≤ 0 := by
  unfold cmV
  split
  · omega
  · rw [if_neg (by omega)]; omega
theorem floor_parts (n d : Int) (hn : 0 ≤ n ∧ n ≤ 4611686018427387904) (hd : 0 < d) : 0 ≤ n / d ∧ n / d ≤ 4611686018427387904 ∧ n / d * d ≤ n ∧ n < n / d * d + d ∧ 0 ≤ n / d * d := by
  have h1 := ediv_bd n d (by omega) hd
  have h2 := Int.ediv_nonneg hn.1 (by omega : 0 ≤ d)
  have h3 := Int.ediv_mul_le n (by omega : d ≠ 0)
  have h4 := Int.lt_ediv_add_one_mul_self n hd
  rw [Int.add_mul, Int.one_mul] at h4
  exact ⟨h2, h1.2, h3, h4, Int.mul_nonneg h2 (by omega)⟩

set_option maxRecDepth 100000 in
set_option maxHeartbeats 4000000 in
theorem compareQ_any (n d m k : Int) (hn : 0 ≤ n ∧ n ≤ 4611686018427387904) (hd : 0 < d ∧ d ≤ 4611686018427387904) (hm : 0 ≤ m ∧ m ≤ 4611686018427387904) (hk : 0 < k ∧ k ≤ 4611686018427387904) (w : World) :
    Calls Try.prog 40 #[.int .i64 n, .int .i64 d, .int .i64 m, .int .i64 k] w fun e w' => e = .returned (.int .i64 (cmV n d m k)) ∧ w = w' := by
  obtain ⟨V, hV⟩ : ∃ V, cmV n d m k = V := ⟨_, rfl⟩
  have HV := Lib.hid hV
  rw [hV]
  clear hV
  go_enter Try.func40, Try.ntmps40
  go_wp2
  go_loop [0, 1, 2, 3] (fun a b c e => ∃ n d m k : Int, a = .int .i64 n ∧ b = .int .i64 d ∧ c = .int .i64 m ∧ e = .int .i64 k ∧ Hid (cmV n d m k = V) ∧ (0 ≤ n ∧ n ≤ 4611686018427387904) ∧ (0 < d ∧ d ≤ 4611686018427387904) ∧ (0 ≤ m ∧ m ≤ 4611686018427387904) ∧ (0 < k ∧ k ≤ 4611686018427387904)) (fun _ b _ e => (intOf b + intOf e).toNat)
  case atStart => exact ⟨n, d, m, k, rfl, rfl, rfl, rfl, HV, hn, hd, hm, hk⟩
  case round =>
    clear HV hn hd hm hk
    obtain ⟨n, d, m, k, rfl, rfl, rfl, rfl, HV, hn, hd, hm, hk⟩ := hrel
    have C1 := Lib.hid (floor_any n d (by omega) hd w)
    have C2 := Lib.hid (floor_any m k (by omega) hk w)
    have h1 := floor_parts n d hn hd.1
    have h2 := floor_parts m k hm hk.1
    have HL := Lib.hid (fun (h : n / d < m / k) => cmV_lt hd.1 hk.1 h1.2.2.2.1 h2.2.2.1 h)
    have HG := Lib.hid (fun (h : m / k < n / d) => cmV_gt hd.1 hk.1 h2.2.2.2.1 h1.2.2.1 h)
    have HS := Lib.hid (cmV_sub n d m k (n / d))
    obtain ⟨p, hp⟩ : ∃ p, n / d = p := ⟨_, rfl⟩
    obtain ⟨q, hq⟩ : ∃ q, m / k = q := ⟨_, rfl⟩
    rw [hp] at C1 h1 HL HG HS
    rw [hq] at C2 h2 HL HG
    rw [HV.out] at HL HG HS
    clear hp hq HV
    go_wp2_with fail
    refine C1.out.mono ?_
    rintro e w' ⟨rfl, rfl⟩
    go_wp2_with fail
    refine C2.out.mono ?_
    rintro e w' ⟨rfl, rfl⟩
    by_cases hlt : p < q
    · obtain rfl : V = -1 := HL.out hlt
      go_wp2
      go_ret
      exact ⟨rfl, rfl⟩
    by_cases hgt : q < p
    · obtain rfl : V = 1 := HG.out hgt
      have hgt2 : p > q := hgt
      go_wp2
      go_ret
      exact ⟨rfl, rfl⟩
    obtain rfl : p = q := by omega
    have hgt2 : ¬ p > p := hgt
    obtain ⟨pd, hpd⟩ : ∃ x, p * d = x := ⟨_, rfl⟩
    obtain ⟨pk, hpk⟩ : ∃ x, p * k = x := ⟨_, rfl⟩
    rw [hpd] at h1 HS
    rw [hpk] at h2 HS
    have hw1 : IntKind.i64.wrap (p * d) = pd := by rw [hpd]; exact IntWalk.i64_in _ (by omega)
    have hw2 : IntKind.i64.wrap (p * k) = pk := by rw [hpk]; exact IntWalk.i64_in _ (by omega)
    obtain ⟨n1, hn1⟩ : ∃ x, n - pd = x := ⟨_, rfl⟩
    obtain ⟨m1, hm1⟩ : ∃ x, m - pk = x := ⟨_, rfl⟩
    rw [hn1, hm1] at HS
    have hw3 : IntKind.i64.wrap (n - pd) = n1 := by rw [hn1]; exact IntWalk.i64_in _ (by omega)
    have hw4 : IntKind.i64.wrap (m - pk) = m1 := by rw [hm1]; exact IntWalk.i64_in _ (by omega)
    have hb1 : 0 ≤ n1 ∧ n1 < d := by omega
    have hb2 : 0 ≤ m1 ∧ m1 < k := by omega
    clear hpd hpk hn1 hm1 h1 h2 HL HG hlt hgt
    by_cases hn0 : n1 = 0
    · subst hn0
      by_cases hm0 : m1 = 0
      · subst hm0
        obtain rfl : V = 0 := by rw [← HS.out]; unfold cmV; simp
        go_wp2
        go_ret
        exact ⟨rfl, rfl⟩
      · have hmb : (m1 == 0) = false := by rw [beq_eq_false_iff_ne]; exact hm0
        have hmd : decide (m1 = 0) = false := decide_eq_false hm0
        have hp : 0 < m1 * d := Int.mul_pos (by omega) hd.1
        obtain rfl : V = -1 := by rw [← HS.out]; unfold cmV; rw [Int.zero_mul, if_pos hp]
        clear hm0 hp
        go_wp2
        go_ret
        exact ⟨rfl, rfl⟩
    · have hnb : (n1 == 0) = false := by rw [beq_eq_false_iff_ne]; exact hn0
      have hnd : decide (n1 = 0) = false := decide_eq_false hn0
      by_cases hm0 : m1 = 0
      · subst hm0
        have hp : 0 < n1 * k := Int.mul_pos (by omega) hk.1
        obtain rfl : V = 1 := by rw [← HS.out]; unfold cmV; rw [Int.zero_mul, if_neg (by omega), if_pos hp]
        clear hn0 hp
        go_wp2
        go_ret
        exact ⟨rfl, rfl⟩
      · have hmb : (m1 == 0) = false := by rw [beq_eq_false_iff_ne]; exact hm0
        have hmd : decide (m1 = 0) = false := decide_eq_false hm0
        have HS2 : Hid (cmV k m1 d n1 = V) := by show _ = _; rw [cmV_swap]; exact HS.out
        have hb3 : 0 < m1 := by omega
        have hb4 : 0 < n1 := by omega
        clear hn0 hm0
        go_wp2
        go_round
        case rel => exact ⟨k, m1, d, n1, rfl, rfl, rfl, rfl, HS2, by omega, by omega, by omega, by omega⟩
        case measure => simp [intOf]; omega

end Go.Proofs.Ytccoflhoggpgoaa

