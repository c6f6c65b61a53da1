import Derived.Test.YtlpkjkjgmenhkaaLcac
import Derived.Test.YtlpkjkjgmenhkaaLcab
import Derived.Test.YtlpkjkjgmenhkaaLcaa
import Derived.Test.YtlpkjkjgmenhkaaRows
import Derived.ProofKit
import Derived.OpenShut
import Derived.Deep.Slices
namespace Go.Proofs.Ytlpkjkjgmenhkaa
open Go.RowKit

open Go.Shelf
attribute [local go_sem] Oper.semAt_some run_store_float

theorem fine_stops (nf : Nat) (hn : 1 ≤ nf) (gx gw X g c : Nat) (w0 : World) (hgx : Bk w0 gx 43 #[.slice (some ⟨g, 0, none⟩) 2 c]) (hgw : Bk w0 gw 169 #[.float .f32 3235905536, .float .f32 1121058816, .float .f32 1108082688, .float .f32 3231711232, .float .f32 3238002688, .float .f32 1116733440, .float .f32 1116733440, .float .f32 3238002688, .float .f32 3231711232, .float .f32 1108082688, .float .f32 1121058816, .float .f32 3235905536]) (hg : Bk w0 g 3 #[.int .i64 128, .int .i64 128]) (n1 : gx ≠ X) (n2 : gw ≠ X) (n3 : g ≠ X) (hXl : X < w0.heap.size) :
    SeqStopsK Fence.wide nf Try.prog 147 #[.pointer (some ⟨gx, 0, none⟩), .pointer (some ⟨gw, 0, none⟩)] (fun x : Fv => #[Value.float .f32 x.1]) (KZ X) (fun ys => ys.map (·.1) = fvL) (fun pre => pre.map (·.1) <+: fvL) 3 w0 := fun l J Jx W hW hJ _ hY h0 => by
  refine (fine1_in nf hn l gx gw X g c w0 hgx hgw hg n1 n2 n3 hXl (fun pre W => ∃ q : List Fv, q.map (·.1) = pre ∧ J q W) (fun pre W => ∃ q : List Fv, q.map (·.1) = pre ∧ Jx q W) ?_ ?_ W (KZ.of_below hW) ⟨[], rfl, h0⟩).mono ?_
  · rintro pre x W1 ⟨q, rfl, hq⟩ hp
    have hx : x = 1183580160 ∨ x = 1183842304 := by
      have := hp.subset (show x ∈ q.map (·.1) ++ [x] by simp)
      simp [fvL] at this
      omega
    refine (hY q ⟨x, hx⟩ W1 hq (by have := hp.length_le; simp [fvL] at this; omega)).mono ?_
    rintro e W' (⟨he, hj, hk⟩ | ⟨he, hj⟩)
    · exact .inl ⟨he, ⟨_, by simp, hj⟩, hk⟩
    · exact .inr ⟨he, ⟨_, by simp, hj⟩⟩
  · rintro pre W1 W2 ⟨q, rfl, hq⟩ hb
    exact ⟨q, rfl, hJ _ _ _ none hq (grown_of_below hb) (fun r e => by cases e)⟩
  · rintro e W' ⟨hv, (⟨ys, rfl, q, hq, hj⟩ | ⟨pre, hp, q, rfl, hj⟩)⟩
    · exact ⟨hv, .inl ⟨q, hq, hj⟩⟩
    · exact ⟨hv, .inr ⟨q, hp, hj⟩⟩

/-- The greatest of them so far. -/
def pkF (pre : List Fv) : Nat := (pre.map (·.1)).foldl max 1182793728
theorem pkF_snoc (pre : List Fv) (x : Fv) : pkF (pre ++ [x]) = max (pkF pre) x.1 := by simp [pkF]
theorem pkF_cases : ∀ pre : List Fv, pkF pre = 1182793728 ∨ pkF pre = 1183580160 ∨ pkF pre = 1183842304 := by
  intro pre
  rcases List.eq_nil_or_concat pre with rfl | ⟨p, x, rfl⟩
  · exact .inl rfl
  · rw [List.concat_eq_append, pkF_snoc]
    have h := pkF_cases p
    have hx := x.2
    rcases h with h | h | h <;> rcases hx with hx | hx <;> simp [h, hx]
termination_by pre => pre.length
decreasing_by all_goals (subst_vars; simp)
theorem maxF (p x : Nat) (hp : p = 1182793728 ∨ p = 1183580160 ∨ p = 1183842304) (hx : x = 1183580160 ∨ x = 1183842304) : ∀ ts t W, (Builtin.max_ ts t #[.float .f32 p, .float .f32 x]).run Try.prog W = .ok (.float .f32 (max p x)) W := by
  intro ts t W
  rcases hp with rfl | rfl | rfl <;> rcases hx with rfl | rfl <;> kernel_rfl
theorem sizeFv (x : Nat) (hx : x = 1183580160 ∨ x = 1183842304) (w : World) : Calls Try.prog 135 #[.float .f32 x] w fun e w' => e = .returned (.float .f32 x) ∧ w = w' := by
  rcases hx with rfl | rfl
  · exact sizeF_17920 w
  · exact sizeF_18432 w
/-- What the loop over the fine values keeps. -/
structure PkI (w wL : World) (q : List Fv) (W : World) : Prop where
  box : Bk W w.heap.size 156 #[.float .f32 (pkF q)]
  bel : Below w.heap.size w W
  size : wL.heap.size ≤ W.heap.size
theorem PkI.own (w wL : World) (hB : w.heap.size ≤ wL.heap.size) : OwnFrom wL.heap.size (fun q W => PkI w wL q W) := by
  rintro s X Y row ⟨h1, h3, h4⟩ hg hr
  exact ⟨bk_grown h1 hg (fun r e => (hr r e).2), h3.grown hg (by omega) (fun k e => by have := (hr k e).1; omega), Nat.le_trans h4 hg.size⟩

set_option maxRecDepth 100000 in
set_option maxHeartbeats 8000000 in
theorem finePeak_ex (g c : Nat) (w : World) (hg : Bk w g 3 #[.int .i64 128, .int .i64 128]) :
    Calls Try.prog 112 #[.slice (some ⟨g, 0, none⟩) 2 c] w fun e w' => e = .returned (.int .i64 18432) ∧ Below w.heap.size w w' := by
  have hgl := hg.lt
  have HG := Lib.hid hg
  clear hg
  have hc128 := fun W => conv128 W
  have hmul : ∀ W, (binOp .mul 156 (.float .f32 1124073472) (.float .f32 1124073472)).run Try.prog W = .ok (.float .f32 1182793728) W := fun _ => by kernel_rfl
  have hm0 : ∀ ts t W, (Builtin.max_ ts t #[.float .f32 0, .float .f32 1182793728]).run Try.prog W = .ok (.float .f32 1182793728) W := fun _ _ _ => by kernel_rfl
  have hm1 : ∀ ts t W, (Builtin.max_ ts t #[.float .f32 1182793728, .float .f32 1182793728]).run Try.prog W = .ok (.float .f32 1182793728) W := fun _ _ _ => by kernel_rfl
  have hcb : ∀ W, (convert 156 3 (.float .f32 1183842304)).run Try.prog W = .ok (.int .i64 18432) W := fun _ => by kernel_rfl
  refine (callsIn_wide (n := 6)).1 ?_
  refine callsIn_of_wp_marks Try.func112 rfl trivial ?_ rfl
  simp only [Try.ntmps112, List.size_toArray, List.length_cons, List.length_nil, Nat.reduceAdd, Nat.reduceSub, Array.replicate_succ, Array.replicate_zero, List.push_toArray, List.append_toArray, List.nil_append, List.cons_append]
  refine wpIn_wide.2 ?_
  have K0 := Lib.hid (Bk.new w 156 #[.float .f32 0])
  have B0 := Lib.hid (below1 w (.cells #[.float .f32 0] 156))
  go_wp2
  go_loopw [9] (fun i wr => ∃ k : Nat, k ≤ 2 ∧ i = .int .i64 k ∧ Hid (Bk wr w.heap.size 156 #[.float .f32 (if k = 0 then 0 else 1182793728)]) ∧ Hid (Below w.heap.size w wr)) (fun i _ => 2 - (intOf i).toNat)
  case atStart => exact ⟨0, by omega, rfl, K0, B0⟩
  case round =>
    obtain ⟨k, hk, rfl, HK, HB⟩ := hrel
    clear K0 B0
    have hne : ¬ g = w.heap.size := by omega
    obtain ⟨x0, x1⟩ := bkf2 (HG.out.below HB.out hgl)
    rcases (by omega : k = 0 ∨ k = 1 ∨ k = 2) with rfl | rfl | rfl
    · have p0 : wr.cell? ⟨w.heap.size, 0, none⟩ = some (.float .f32 0) := by rw [HK.out.cell]; rfl
      have pf : wr.frozen? ⟨w.heap.size, 0, none⟩ = false := HK.out.frozen 0
      have hl0 : w.heap.size < wr.heap.size := HK.out.lt
      go_wp2
      go_still_tail 6, (by kernel_rfl)
      refine wpStill_step (fun K hK => ?_)
      go_simp
      refine ⟨_, (sizeF_128 _).mono (fun e w'' h => ⟨h.1, h.2.symm⟩), hK _ ?_⟩
      clear hK K
      repeat still_step
      refine wpStill_nil ?_
      change wpList _ _ _ _ _ wr.drew
      have p1 : wr.drew.cell? ⟨w.heap.size, 0, none⟩ = some (.float .f32 0) := p0
      have pf1 : wr.drew.frozen? ⟨w.heap.size, 0, none⟩ = false := pf
      have HKD := Lib.hid (HK.out.drew.set_ 0 (.float .f32 1182793728))
      have HBD := Lib.hid (HB.out.drew.setCell (p := ⟨w.heap.size, 0, none⟩) (Nat.le_refl _) (.float .f32 1182793728))
      obtain ⟨W5, hW5⟩ : ∃ W5, wr.drew = W5 := ⟨_, rfl⟩
      rw [hW5] at p1 pf1 HKD HBD ⊢
      clear hW5
      go_wp2
      go_roundw
      case rel => exact ⟨1, by omega, rfl, HKD, HBD⟩
      case measure => decide
    · have p0 : wr.cell? ⟨w.heap.size, 0, none⟩ = some (.float .f32 1182793728) := by rw [HK.out.cell]; rfl
      have pf : wr.frozen? ⟨w.heap.size, 0, none⟩ = false := HK.out.frozen 0
      have hl0 : w.heap.size < wr.heap.size := HK.out.lt
      go_wp2
      go_still_tail 6, (by kernel_rfl)
      refine wpStill_step (fun K hK => ?_)
      go_simp
      refine ⟨_, (sizeF_128 _).mono (fun e w'' h => ⟨h.1, h.2.symm⟩), hK _ ?_⟩
      clear hK K
      repeat still_step
      refine wpStill_nil ?_
      change wpList _ _ _ _ _ wr.drew
      have p1 : wr.drew.cell? ⟨w.heap.size, 0, none⟩ = some (.float .f32 1182793728) := p0
      have pf1 : wr.drew.frozen? ⟨w.heap.size, 0, none⟩ = false := pf
      have HKD := Lib.hid (HK.out.drew.set_ 0 (.float .f32 1182793728))
      have HBD := Lib.hid (HB.out.drew.setCell (p := ⟨w.heap.size, 0, none⟩) (Nat.le_refl _) (.float .f32 1182793728))
      obtain ⟨W5, hW5⟩ : ∃ W5, wr.drew = W5 := ⟨_, rfl⟩
      rw [hW5] at p1 pf1 HKD HBD ⊢
      clear hW5
      go_wp2
      go_roundw
      case rel => exact ⟨2, by omega, rfl, HKD, HBD⟩
      case measure => decide
    · have hl0 : w.heap.size < wr.heap.size := HK.out.lt
      go_wp2_with fail
      refine (fineValues_any _ c _).mono ?_
      rintro e w3 ⟨rfl, hw3⟩
      have HK3 : Hid (Bk w3 w.heap.size 156 #[.float .f32 (pkF [])]) := by show Bk _ _ _ _; rw [← hw3]; exact (HK.out.alloc _).alloc _
      have HB3 : Hid (Below w.heap.size w w3) := by show Below _ _ _; rw [← hw3]; exact (HB.out.alloc HB.out.size _).alloc (by have := HB.out.size; simp; omega) _
      have HX3 : Bk w3 wr.heap.size 43 #[.slice (some ⟨g, 0, none⟩) 2 c] := by rw [← hw3]; exact (Bk.new wr _ _).alloc _
      have HW3 : Bk w3 (wr.heap.size + 1) 169 #[.float .f32 3235905536, .float .f32 1121058816, .float .f32 1108082688, .float .f32 3231711232, .float .f32 3238002688, .float .f32 1116733440, .float .f32 1116733440, .float .f32 3238002688, .float .f32 3231711232, .float .f32 1108082688, .float .f32 1121058816, .float .f32 3235905536] := by
        rw [← hw3]
        have h := Bk.new (wr.alloc (.cells #[.slice (some ⟨g, 0, none⟩) 2 c] 43)) 169 #[.float .f32 3235905536, .float .f32 1121058816, .float .f32 1108082688, .float .f32 3231711232, .float .f32 3238002688, .float .f32 1116733440, .float .f32 1116733440, .float .f32 3238002688, .float .f32 3231711232, .float .f32 1108082688, .float .f32 1121058816, .float .f32 3235905536]
        rwa [World.size_alloc] at h
      have HG3 : Bk w3 g 3 #[.int .i64 128, .int .i64 128] := HG.out.below HB3.out hgl
      have hs3 : w3.heap.size = wr.heap.size + 2 := by rw [← hw3]; simp
      have hwl : w.heap.size ≤ wr.heap.size := HB.out.size
      clear hw3 HK HB x0 x1
      obtain ⟨gx, hgx⟩ : ∃ b, wr.heap.size = b := ⟨_, rfl⟩
      rw [hgx] at HX3 HW3 hs3 hl0 hwl ⊢
      clear hgx
      go_wp2_with fail
      refine (wpIn_wide (n := 6)).1 ?_
      refine wpIn_rangeFunc_one (α := Fv) rfl (by omega) (gf := 147) rfl trivial (enters_of Try.func147 (by kernel_rfl) rfl)
        (fun x => .float .f32 x.1) (fine_stops _ (by omega) gx (gx + 1) w.heap.size g c w3 HX3 HW3 HG3 (by omega) (by omega) hne (by omega))
        KZ.trans (fun W l o o' hl h1 h2 h3 => KZ.putObj W l o o' h1 h2) (Below.refl _ _) 6
        (fun pre W => PkI w w3 pre W)
        (fun _ _ _ => False)
        (fun s X Y row hs hg hr => PkI.own w w3 (by omega) s X Y row hs hg hr)
        (fun _ _ _ _ _ hs _ _ => hs)
        ⟨HK3.out, HB3.out, Nat.le_refl _⟩ ?assign ?body ?done ?stop
      case assign =>
        intro l x W K hK
        simp only [List.setIfInBounds_toArray, List.set_cons_zero, List.set_cons_succ] at hK ⊢
        gi_wp2
        exact hK
      case stop =>
        rintro D cc pre W _ _ hf _
        exact hf.elim
      case done =>
        rintro D ys W hD hys hI hK
        have hpk : pkF ys = 1183842304 := by unfold pkF; rw [hys]; rfl
        have hbx := hI.box
        rw [hpk] at hbx
        have hc := (bk1 hbx).1
        have HI := Lib.hid hI
        have HBX := Lib.hid hbx
        clear hI hbx hys hpk
        go_wp2
        refine ⟨by simp, .inl ⟨_, _, rfl, run_takeDeferred hK, ?_⟩⟩
        exact ⟨_, results_tmp rfl _ _ _, rfl, HI.out.bel.trans (belowK_b (n₀ := w.heap.size) (w := w3) (by omega) W D _ (.deferred none) hD hK rfl rfl)⟩
      case body =>
        rintro l pre ⟨x, hx⟩ W hI hlen
        have HSZ := Lib.hid (fun w => sizeFv x hx w)
        have hmx := maxF (pkF pre) x (pkF_cases pre) hx
        have HSN := Lib.hid (pkF_snoc pre ⟨x, hx⟩)
        have hbx := hI.box
        have HI := Lib.hid hI
        have hszW := hI.size
        clear hI
        dsimp only at HSN
        obtain ⟨p, hp⟩ : ∃ p, pkF pre = p := ⟨_, rfl⟩
        rw [hp] at hbx hmx HSN
        clear hp
        obtain ⟨m, hm⟩ : ∃ m, max p x = m := ⟨_, rfl⟩
        rw [hm] at hmx HSN
        clear hm
        have p0 : W.cell? ⟨w.heap.size, 0, none⟩ = some (.float .f32 p) := (bk1 hbx).1
        have pf : W.frozen? ⟨w.heap.size, 0, none⟩ = false := (bk1 hbx).2
        have HBX := Lib.hid hbx
        clear hbx
        simp only [List.setIfInBounds_toArray, List.set_cons_zero, List.set_cons_succ]
        gi_wp2
        gi_region_with (first
          | (refine ⟨trivial, ?_⟩; gi_at_call 135; refine (CallsIn.inRound l (callsIn_wide.2 (HSZ.out _))).mono ?_; rintro e w' ⟨rfl, rfl⟩))
        all_goals
          gi_wp2
          refine ⟨((KeepsOthers.setCell W ⟨w.heap.size, 0, none⟩ (.float .f32 m)).trans (KeepsOthers.drew _)).from _, (KZ.setCell W ⟨w.heap.size, 0, none⟩ rfl (.float .f32 m)).trans (KZ.of_below (Below.refl _ _).drew), ?_, ?_, ?_⟩
          · show Bk _ _ _ _
            rw [HSN.out]
            exact (HBX.out.set_ 0 (.float .f32 m)).drew
          · exact (HI.out.bel.setCell (p := ⟨w.heap.size, 0, none⟩) (Nat.le_refl _) _).drew
          · simpa using hszW

set_option maxRecDepth 100000 in
set_option maxHeartbeats 2000000 in
theorem TruePeak_ex (g c : Nat) (w : World) (hg : Bk w g 3 #[.int .i64 128, .int .i64 128]) :
    Calls Try.prog 59 #[.slice (some ⟨g, 0, none⟩) 2 c] w fun e w' => e = .returned (.tuple #[.agg #[.int .i64 144, .int .i64 1], .int .i64 0]) ∧ Below w.heap.size w w' := by
  have hgl := hg.lt
  have hrd : RdI w (some ⟨g, 0, none⟩) 2 [128, 128] := rd_of_bk hg rfl
  have CS : Hid (∀ W, Below w.heap.size w W → Calls Try.prog 93 #[.slice (some ⟨g, 0, none⟩) 2 c] W fun e w' => e = .returned (.int .i64 0) ∧ Below W.heap.size W w') := fun W hb => by
    have h := checkSignal_any _ 2 c [128, 128] W (hrd.below hb) (by omega)
    rwa [show sgE [128, 128] = 0 by decide +kernel] at h
  have CP : Hid (∀ W, Below w.heap.size w W → Calls Try.prog 112 #[.slice (some ⟨g, 0, none⟩) 2 c] W fun e w' => e = .returned (.int .i64 18432) ∧ Below W.heap.size W w') := fun W hb => finePeak_ex g c W (hg.below hb hgl)
  have CF : Hid (∀ W, Calls Try.prog 87 #[.int .i64 18432, .int .i64 128] W fun e w' => e = .returned (.agg #[.int .i64 144, .int .i64 1]) ∧ Below W.heap.size W w') := fun W => by
    have h := fractionOf_any 18432 128 W (by omega) (by omega) (by omega) (by omega)
    rwa [show fN 18432 128 = 144 by decide +kernel, show fD 18432 128 = 1 by decide +kernel] at h
  have R0 := Lib.hid (OneB.start w 23 #[.int .i64 0, .int .i64 0])
  clear hrd hg
  go_enter Try.func59, Try.ntmps59
  go_wp2_with fail
  refine (CS.out _ R0.out.b).mono ?_
  rintro e w1 ⟨rfl, hb1⟩
  have R1 := Lib.hid (OneB.later hb1 R0.out)
  clear hb1 R0
  go_wp2_with fail
  refine (CP.out _ R1.out.b).mono ?_
  rintro e w2 ⟨rfl, hb2⟩
  have R2 := Lib.hid (OneB.later hb2 R1.out)
  clear hb2 R1
  go_wp2_with fail
  refine (CF.out _).mono ?_
  rintro e w3 ⟨rfl, hb3⟩
  have R3 := OneB.later hb3 R2.out
  clear hb3 R2
  obtain ⟨e0, e1, k0, k1⟩ := bk2 R3.k
  go_wp2
  refine bodyPost_ret (v := .tuple #[.agg #[.int .i64 144, .int .i64 1], .int .i64 0]) (by simp [results, Try.results59, go_sem, e0, e1, k0, k1]) rfl ⟨rfl, ?_⟩
  have hbw := R3.b
  have hbz := hbw.size
  go_grown

end Go.Proofs.Ytlpkjkjgmenhkaa


namespace Go.Proofs.Ytlpkjkjgmenhkaa
open Go.RowKit

/-- The reference's least number. -/
def mqR (t : Nat) (n d : Int) : Int × Bool := match (List.range (t + 1)).find? (mrB t n d) with | some r => ((r : Int), true) | none => (0, false)

set_option maxRecDepth 100000 in
set_option maxHeartbeats 4000000 in
theorem refMinimumRight_any (t : Nat) (n d : Int) (ht : t < 30) (hn : 0 ≤ n ∧ n ≤ 1000000000) (hd : 0 < d ∧ d ≤ 1000000000) (w : World) :
    Calls Try.prog 22 #[.int .i64 t, .agg #[.int .i64 n, .int .i64 d]] w fun e w' => e = .returned (.tuple #[.int .i64 (mqR t n d).1, .bool (mqR t n d).2]) ∧ Below w.heap.size w w' := by
  have CT : Hid (∀ k, k < t + 1 → ∀ w, Calls Try.prog 19 #[.int .i64 t, .int .i64 k] w fun e w' => e = .returned (.agg #[.int .i64 (fN (tW t k) (p2 t)), .int .i64 (fD (tW t k) (p2 t))]) ∧ Below w.heap.size w w') := fun k hk w => refTailOf_any t k ht (by omega) w
  have HM : Hid (∀ k, k < t + 1 → mrB t n d k = decide (cmpF (fN (tW t k) (p2 t)) (fD (tW t k) (p2 t)) n d ≤ 0)) := fun k hk => mrB_cmp t k n d ht (by omega)
  have HBD : Hid (∀ k, k < t + 1 → (0 ≤ fN (tW t k) (p2 t) ∧ fN (tW t k) (p2 t) ≤ 1000000000) ∧ 0 < fD (tW t k) (p2 t) ∧ fD (tW t k) (p2 t) ≤ 1000000000) := by
    intro k hk
    have hw := tW_bd t ht k (by omega)
    have hp := p2_pow t (by omega)
    have h29 : p2 t ≤ 536870912 := (by decide +kernel : ∀ a, a < 30 → p2 a ≤ 536870912) t ht
    obtain ⟨_, _, g0, g1, g2, g3, _⟩ := gcd_facts (a := tW t k) (b := p2 t) (by omega) (by omega)
    omega
  have R0 := Lib.hid (OneB.start w 23 #[.int .i64 n, .int .i64 d])
  have HR : Hid (mqR t n d = match (List.range (t + 1)).find? (mrB t n d) with | some r => ((r : Int), true) | none => (0, false)) := rfl
  obtain ⟨⟨V, X⟩, hR⟩ : ∃ R, mqR t n d = R := ⟨_, rfl⟩
  rw [hR] at HR ⊢
  dsimp only
  clear hR
  go_enter Try.func22, Try.ntmps22
  go_wp2
  go_loopw [6] (fun i wr => ∃ k : Nat, k ≤ t + 1 ∧ i = .int .i64 k ∧ Hid (∀ j, j < k → mrB t n d j = false) ∧ Hid (OneB w w.heap.size 23 #[.int .i64 n, .int .i64 d] wr)) (fun i _ => t + 1 - (intOf i).toNat)
  case atStart => exact ⟨0, Nat.zero_le _, rfl, fun j hj => by omega, R0⟩
  case round =>
    obtain ⟨k, hk, rfl, HJ, HI⟩ := hrel
    clear R0
    by_cases hlt : k < t + 1
    · have hkI : (k : Int) ≤ (t : Int) := by omega
      have CK := Lib.hid (CT.out k hlt)
      have HMK := Lib.hid (HM.out k hlt)
      obtain ⟨b1, b2⟩ := HBD.out k hlt
      obtain ⟨N, hN⟩ : ∃ N, fN (tW t k) (p2 t) = N := ⟨_, rfl⟩
      obtain ⟨D, hD⟩ : ∃ D, fD (tW t k) (p2 t) = D := ⟨_, rfl⟩
      rw [hN] at CK HMK b1
      rw [hD] at CK HMK b2
      have CC := Lib.hid (fun w => bCmp_any N D n d w (by omega) (by omega) (by omega) (by omega))
      obtain ⟨cv, hcv⟩ : ∃ c, cmpF N D n d = c := ⟨_, rfl⟩
      rw [hcv] at CC HMK
      clear hN hD hcv
      have hI := HI.out
      clear HI
      go_wp2
      go_region_held3 (fun w' : World => (w'.cell? ⟨w.heap.size, 0, none⟩ = some (.int .i64 n) ∧ w'.cell? ⟨w.heap.size, 1, none⟩ = some (.int .i64 d)) ∧ OneB w w.heap.size 23 #[.int .i64 n, .int .i64 d] w') ((refine (fun hI => ⟨bkf2 hI.k, hI⟩) ?_; repeat (first | assumption | (go_split_ands; assumption) | refine OneB.alloc ?_ _ | refine OneB.drew ?_))) (first
        | (go_at_call 19; ((with_reducible refine (CK.out _).mono ?_)); rintro e w3 ⟨rfl, hb3⟩; have hI3 := OneB.later hb3 (by first | assumption | (go_split_ands; assumption)); clear hb3)
        | (go_at_call 27; ((with_reducible refine (CC.out _).mono ?_)); rintro e w4 ⟨rfl, hb4⟩; have hI4 := OneB.later hb4 (by first | assumption | (go_split_ands; assumption)); clear hb4))
      by_cases hc : cv ≤ 0
      · go_wp2
        go_ret2
        have hR := HR.out
        rw [find_range_some hlt (fun j hj => HJ.out j hj) (by rw [HMK.out]; exact decide_eq_true (by omega))] at hR
        injection hR with hV hX
        subst hV hX
        exact ⟨rfl, hI4.b⟩
      · have hcb : decide (cv ≤ 0) = false := decide_eq_false hc
        have HCB := Lib.hid hcb
        go_wp2
        go_roundw
        case rel =>
          refine ⟨k + 1, by omega, by go_num, fun j hj => ?_, hI4⟩
          rcases (by omega : j < k ∨ j = k) with h | rfl
          · exact HJ.out j h
          · rw [HMK.out, HCB.out]
        case measure => simp only [intOf]; omega
    · obtain rfl : k = t + 1 := by omega
      have hkI : ¬ ((t : Int) + 1) ≤ (t : Int) := by omega
      go_wp2
      go_ret2
      have hR := HR.out
      rw [find_range_none (fun j hj => HJ.out j hj)] at hR
      injection hR with hV hX
      subst hV hX
      exact ⟨rfl, HI.out.b⟩

end Go.Proofs.Ytlpkjkjgmenhkaa

namespace Go.Proofs.Ytlpkjkjgmenhkaa
open Go.RowKit

open Go.Shelf

theorem v_lo : loR 2 1 4 50 [1, 1, 4, 6, 0] = ((22, 1), 0) := by decide +kernel
theorem v_tl : tlN 5 4 = 3 ∧ tlD 5 4 = 16 ∧ tlE 5 4 = 0 := by decide +kernel
def pEx : List (List Int) := [[0, 3, 2], [2, 0, 4], [3, 1, 0]]
theorem v_br : pfE pEx = 0 ∧ brF pEx = [0, 1, 2] ∧ dsF pEx [0, 1, 2] = 6 := by decide +kernel
theorem ex_lo (B : Nat) (w : World) (h : RdI w (some ⟨B, 0, none⟩) 5 [1, 1, 4, 6, 0]) :
    Calls Try.prog 32 #[.agg #[.int .i64 2, .int .i64 1, .int .i64 4, .int .i64 50], .slice (some ⟨B, 0, none⟩) 5 5] w fun e w' => e = .returned (.tuple #[.agg #[.int .i64 22, .int .i64 1], .int .i64 0]) ∧ Below w.heap.size w w' := by
  have := LoudnessOf_any 2 1 4 50 (some ⟨B, 0, none⟩) 5 5 _ w h (by omega) (by omega)
  rwa [v_lo] at this
theorem ex_tl (w : World) : Calls Try.prog 16 #[.int .i64 5, .int .i64 4] w fun e w' => e = .returned (.tuple #[.agg #[.int .i64 3, .int .i64 16], .int .i64 0]) ∧ Below w.heap.size w w' := by
  have := TailOf_any 5 4 w
  rwa [v_tl.1, v_tl.2.1, v_tl.2.2] at this
theorem ex_br (A : Option Addr) (c : Nat) (w : World) (h : RdGo w A 3 pEx) : Calls Try.prog 67 #[.slice A 3 c] w fun e w' => (∃ B d, e = .returned (.tuple #[.slice (some B) 3 d, .int .i64 6, .int .i64 0]) ∧ RdI w' (some B) 3 [0, 1, 2]) ∧ Below w.heap.size w w' := by
  refine (bestRanking_any A 3 c pEx w h (by omega)).mono ?_
  rintro e w' ⟨_, h2, hb⟩
  obtain ⟨B, d, he, _, hr, hB⟩ := h2 v_br.1
  rw [v_br.2.1, v_br.2.2] at he
  rw [v_br.2.1] at hr
  cases B with
  | none => exact absurd (hB rfl).1 (by omega)
  | some B => exact ⟨⟨B, d, he, hr⟩, hb⟩
theorem rdgo_ex (w : World) : RdGo ((((w.alloc (.cells #[.int .i64 0, .int .i64 3, .int .i64 2] 3)).alloc (.cells #[.int .i64 2, .int .i64 0, .int .i64 4] 3)).alloc (.cells #[.int .i64 3, .int .i64 1, .int .i64 0] 3)).alloc (.cells #[.slice (some ⟨w.heap.size, 0, none⟩) 3 3, .slice (some ⟨w.heap.size + 1, 0, none⟩) 3 3, .slice (some ⟨w.heap.size + 2, 0, none⟩) 3 3] 43)) (some ⟨w.heap.size + 3, 0, none⟩) 3 pEx := by
  refine ⟨rfl, fun _ => ⟨_, rfl, by simp, fun j hj => ?_⟩⟩
  rcases (by omega : j = 0 ∨ j = 1 ∨ j = 2) with rfl | rfl | rfl
  · refine ⟨some ⟨w.heap.size, 0, none⟩, 3, 3, by rw [addOff]; simp [go_sem], ⟨rfl, fun _ => ⟨_, rfl, by simp; omega, fun i hi => ?_⟩⟩, fun h => by cases h⟩
    rcases (by omega : i = 0 ∨ i = 1 ∨ i = 2) with rfl | rfl | rfl <;> (rw [addOff]; simp [go_sem, pEx])
  · refine ⟨some ⟨w.heap.size + 1, 0, none⟩, 3, 3, by rw [addOff]; simp [go_sem], ⟨rfl, fun _ => ⟨_, rfl, by simp, fun i hi => ?_⟩⟩, fun h => by cases h⟩
    rcases (by omega : i = 0 ∨ i = 1 ∨ i = 2) with rfl | rfl | rfl <;> (rw [addOff]; simp [go_sem, pEx])
  · refine ⟨some ⟨w.heap.size + 2, 0, none⟩, 3, 3, by rw [addOff]; simp [go_sem], ⟨rfl, fun _ => ⟨_, rfl, by simp, fun i hi => ?_⟩⟩, fun h => by cases h⟩
    rcases (by omega : i = 0 ∨ i = 1 ∨ i = 2) with rfl | rfl | rfl <;> (rw [addOff]; simp [go_sem, pEx])

theorem belowA {w W : World} (h : Below w.heap.size w W) (o : Obj) : Below w.heap.size w (W.alloc o) := h.alloc h.size o
theorem litA (W : World) : RdI (W.alloc (.cells #[.int .i64 0, .int .i64 1, .int .i64 2] 3)) (some ⟨W.heap.size, 0, none⟩) 3 [0, 1, 2] := rd_of_bk (xs := [0, 1, 2]) (Bk.new _ _ _) rfl

set_option maxRecDepth 100000 in
set_option maxHeartbeats 4000000 in
theorem awake_any (w : World) : Calls Try.prog 15 #[] w fun e w' => e = .returned (.bool true) ∧ Below w.heap.size w w' := by
  go_enter Try.func15, Try.ntmps15
  go_wp2_with fail
  refine (ex_lo w.heap.size _ (rd_of_bk (xs := [1, 1, 4, 6, 0]) (Bk.new _ _ _) rfl)).mono ?_
  rintro e w1 ⟨rfl, hb1⟩
  have l1 := Lib.hid ((below1 w _).trans (hb1.mono (by simp)))
  clear hb1
  have K1 := Lib.hid (Bk.new w1 23 #[.int .i64 22, .int .i64 1])
  have l2 := Lib.hid ((l1.out.alloc l1.out.size (.cells #[.int .i64 22, .int .i64 1] 23)))
  go_wp2_with fail
  obtain ⟨g1, hg1⟩ : ∃ g, w1.heap.size = g := ⟨_, rfl⟩
  obtain ⟨wA, hwA⟩ : ∃ W, w1.alloc (.cells #[.int .i64 22, .int .i64 1] 23) = W := ⟨_, rfl⟩
  have hsA : g1 + 1 = wA.heap.size := by rw [← hwA, ← hg1]; simp
  rw [hwA] at l2 K1 ⊢
  rw [hg1] at K1 ⊢
  rw [hsA]
  clear hwA hg1 hsA l1
  refine (TruePeak_ex wA.heap.size 2 _ (Bk.new _ _ _)).mono ?_
  rintro e w3 ⟨rfl, hb3⟩
  have hb3' := (below1 wA _).trans (hb3.mono (by simp))
  have l3 := Lib.hid (l2.out.trans (hb3'.mono l2.out.size))
  have K3 := Lib.hid (K1.out.later hb3')
  clear hb3 hb3' l2 K1
  have N3 := Lib.hid (Bk.new w3 23 #[.int .i64 144, .int .i64 1])
  have l4 := Lib.hid ((l3.out.alloc l3.out.size (.cells #[.int .i64 144, .int .i64 1] 23)))
  have K4 := Lib.hid (K3.out.alloc (.cells #[.int .i64 144, .int .i64 1] 23))
  go_wp2_with fail
  obtain ⟨g3, hg3⟩ : ∃ g, w3.heap.size = g := ⟨_, rfl⟩
  obtain ⟨wA, hwA⟩ : ∃ W, w3.alloc (.cells #[.int .i64 144, .int .i64 1] 23) = W := ⟨_, rfl⟩
  rw [hwA] at l4 K4 N3 ⊢
  rw [hg3] at N3 ⊢
  clear hwA hg3 l3 K3
  refine (ex_tl wA).mono ?_
  rintro e w5 ⟨rfl, hb5⟩
  have l5 := Lib.hid (l4.out.trans (hb5.mono l4.out.size))
  have K5 := Lib.hid (K4.out.later hb5)
  have N5 := Lib.hid (N3.out.later hb5)
  clear hb5 l4 K4 N3
  have M5 := Lib.hid (Bk.new w5 23 #[.int .i64 3, .int .i64 16])
  have l6 := Lib.hid ((l5.out.alloc l5.out.size (.cells #[.int .i64 3, .int .i64 16] 23)))
  have K6 := Lib.hid (K5.out.alloc (.cells #[.int .i64 3, .int .i64 16] 23))
  have N6 := Lib.hid (N5.out.alloc (.cells #[.int .i64 3, .int .i64 16] 23))
  go_wp2_with fail
  obtain ⟨g5, hg5⟩ : ∃ g, w5.heap.size = g := ⟨_, rfl⟩
  obtain ⟨wA, hwA⟩ : ∃ W, w5.alloc (.cells #[.int .i64 3, .int .i64 16] 23) = W := ⟨_, rfl⟩
  have hsA : g5 + 1 = wA.heap.size := by rw [← hwA, ← hg5]; simp
  rw [hwA] at l6 K6 N6 M5 ⊢
  rw [hg5] at M5 ⊢
  rw [hsA]
  clear hwA hg5 hsA l5 K5 N5
  refine (ex_br _ 3 _ (rdgo_ex wA)).mono ?_
  rintro e w7 ⟨⟨B, d, rfl, hr7⟩, hb7⟩
  have hb7' : Below wA.heap.size wA w7 := (((((Below.refl _ wA).alloc (Nat.le_refl _) _).alloc (by simp) _).alloc (by simp; omega) _).alloc (by simp; omega) _).trans (hb7.mono (by simp; omega))
  have l7 := Lib.hid (l6.out.trans (hb7'.mono l6.out.size))
  have K7 := Lib.hid (K6.out.later hb7')
  have N7 := Lib.hid (N6.out.later hb7')
  have M7 := Lib.hid (M5.out.later hb7')
  have R7 := Lib.hid hr7
  clear hb7 hb7' hr7 l6 K6 N6 M5
  have HC : Hid (∀ W, Below w7.heap.size w7 W → (W.cell? ⟨g1, 0, none⟩ = some (.int .i64 22) ∧ W.cell? ⟨g1, 1, none⟩ = some (.int .i64 1)) ∧ (W.cell? ⟨g3, 0, none⟩ = some (.int .i64 144) ∧ W.cell? ⟨g3, 1, none⟩ = some (.int .i64 1)) ∧ (W.cell? ⟨g5, 0, none⟩ = some (.int .i64 3) ∧ W.cell? ⟨g5, 1, none⟩ = some (.int .i64 16))) := fun W hb => ⟨bkf2 (K7.out.later hb), bkf2 (N7.out.later hb), bkf2 (M7.out.later hb)⟩
  have hB7 : Below w7.heap.size w7 w7 := Below.refl _ _
  have HW22 := Lib.hid (bWhole_any 22)
  have HW144 := Lib.hid (bWhole_any 144)
  have HI : Hid (∀ W, Below w7.heap.size w7 W → Calls Try.prog 36 #[.slice (some B) 3 d, .slice (some ⟨W.heap.size, 0, none⟩) 3 3] (W.alloc (.cells #[.int .i64 0, .int .i64 1, .int .i64 2] 3)) fun e w' => e = .returned (.bool true) ∧ Below w7.heap.size w7 w') := fun W hb =>
    (ints_any (some B) (some ⟨W.heap.size, 0, none⟩) 3 3 d 3 [0, 1, 2] [0, 1, 2] (W.alloc (.cells #[.int .i64 0, .int .i64 1, .int .i64 2] 3)) (R7.out.below (belowA hb _)) (litA W) (by omega) (by omega)).mono fun e w' ⟨he, k, hk⟩ => ⟨he, by rw [hk]; exact blw_drewN (belowA hb _) k⟩
  go_wp2
  go_region_held3 (fun w' : World => ((w'.cell? ⟨g1, 0, none⟩ = some (.int .i64 22) ∧ w'.cell? ⟨g1, 1, none⟩ = some (.int .i64 1)) ∧ (w'.cell? ⟨g3, 0, none⟩ = some (.int .i64 144) ∧ w'.cell? ⟨g3, 1, none⟩ = some (.int .i64 1)) ∧ (w'.cell? ⟨g5, 0, none⟩ = some (.int .i64 3) ∧ w'.cell? ⟨g5, 1, none⟩ = some (.int .i64 16))) ∧ Below w7.heap.size w7 w') ((refine (fun hI => ⟨HC.out _ hI, hI⟩) ?_; repeat (first | with_reducible assumption | (go_split_ands; with_reducible assumption) | with_reducible refine belowA ?_ _ | with_reducible refine Below.drew ?_))) (first
    | (go_at_call 23; ((with_reducible refine (HW22.out _).mono ?_)); rintro e w8 ⟨rfl, hb8⟩; have hb8' : Below w7.heap.size w7 w8 := Below.trans (by first | assumption | (go_split_ands; assumption)) (hb8.mono (Below.size (by first | assumption | (go_split_ands; assumption)))); clear hb8)
    | (go_at_call 23; ((with_reducible refine (HW144.out _).mono ?_)); rintro e w9 ⟨rfl, hb9⟩; have hb9' : Below w7.heap.size w7 w9 := Below.trans (by first | assumption | (go_split_ands; assumption)) (hb9.mono (Below.size (by first | assumption | (go_split_ands; assumption)))); clear hb9)
    | (go_at_call 36; ((with_reducible refine (HI.out _ ?_).mono ?_)); (focus (first | assumption | (go_split_ands; assumption))); rintro e w10 ⟨rfl, hb10⟩))
  all_goals
    go_wp2
    go_ret
    exact ⟨rfl, l7.out.trans (hb10.mono l7.out.size)⟩

end Go.Proofs.Ytlpkjkjgmenhkaa

namespace Go.Proofs.Ytlpkjkjgmenhkaa
open Go.RowKit

open Go.Shelf

def loQ (l : Int) (es : List Int) (ids : List Nat) : (Int × Int) × Bool :=
  if ids.length = 0 then ((0, 0), false) else ((fN (lsS es ids) (ids.length * l), fD (lsS es ids) (ids.length * l)), true)

set_option maxRecDepth 100000 in
set_option maxHeartbeats 8000000 in
theorem refLoudness_any (l h : Nat) (G P : Int) (B : Option Addr) (nx c : Nat) (xs : List Int) (w : World) (hr : RdI w B nx xs) (hn : nx ≤ 200) (hnc : nx ≤ c) (hL : 0 < l ∧ l ≤ 50) (hH : 0 < h ∧ h ≤ 50) (hs : small xs) (hG : 0 ≤ G ∧ G ≤ 1073676289) (hP : 0 ≤ P ∧ P ≤ 100) :
    Calls Try.prog 38 #[.agg #[.int .i64 l, .int .i64 h, .int .i64 G, .int .i64 P], .slice B nx c] w fun e w' => e = .returned (.tuple #[.agg #[.int .i64 (loQ l (esL xs l h) (ctN (G * l) P (esL xs l h) (esL xs l h).length)).1.1, .int .i64 (loQ l (esL xs l h) (ctN (G * l) P (esL xs l h) (esL xs l h).length)).1.2], .bool (loQ l (esL xs l h) (ctN (G * l) P (esL xs l h) (esL xs l h).length)).2]) ∧ Below w.heap.size w w' := by
  have CE : Hid (∀ W, Below w.heap.size w W → Calls Try.prog 97 #[.agg #[.int .i64 l, .int .i64 h, .int .i64 G, .int .i64 P], .slice B nx c] W (OwnS W (esL xs l h))) := fun W hb => refEnergies_any l h G P B nx c xs W (hr.below hb) hn hnc hL hH hs
  have CC : Hid (∀ W, Below w.heap.size w W → Calls Try.prog 37 #[.agg #[.int .i64 l, .int .i64 h, .int .i64 G, .int .i64 P], .slice B nx c] W (OwnS W (ctL (G * l) P (esL xs l h)))) := fun W hb => refGated_any l h G P B nx c xs W (hr.below hb) hn hnc hL hH hs hG hP
  have HEO : Hid (enOk (esL xs l h)) := ⟨by rw [esL_len]; have := kN_le (n := xs.length) hL.1 hH.1; have := hr.1; omega, esL_bd hs hL.2⟩
  have HID : Hid (ctL (G * l) P (esL xs l h) = (ctN (G * l) P (esL xs l h) (esL xs l h).length).map fun (i : Nat) => (i : Int)) := rfl
  have HIL : Hid (∀ i ∈ ctN (G * l) P (esL xs l h) (esL xs l h).length, i < (esL xs l h).length) := ctN_lt
  have HLL : Hid ((ctN (G * l) P (esL xs l h) (esL xs l h).length).length ≤ 200) := Nat.le_trans (ctN_len _ _ _ _) HEO.out.1
  obtain ⟨ids, hids⟩ : ∃ x, ctN (G * l) P (esL xs l h) (esL xs l h).length = x := ⟨_, rfl⟩
  rw [hids] at HID HIL HLL ⊢
  obtain ⟨es, hes⟩ : ∃ es, esL xs l h = es := ⟨_, rfl⟩
  rw [hes] at CE CC HEO HID HIL ⊢
  rw [HID.out] at CC
  have HXS := Lib.hid (lsS_bd HEO.out ids HIL.out)
  clear hes hids HID hr hs
  have HV : Hid (loQ l es ids = if ids.length = 0 then ((0, 0), false) else ((fN (lsS es ids) (ids.length * l), fD (lsS es ids) (ids.length * l)), true)) := rfl
  obtain ⟨⟨⟨N, D⟩, X⟩, hV⟩ : ∃ V, loQ l es ids = V := ⟨_, rfl⟩
  rw [hV] at HV ⊢
  dsimp only
  clear hV
  have R0 := Lib.hid ((OneB.start w 42 #[.int .i64 l, .int .i64 h, .int .i64 G, .int .i64 P]).alloc (.cells #[.int .i64 0, .int .i64 0] 23))
  have K0 : Hid (Bk ((w.alloc (.cells #[.int .i64 l, .int .i64 h, .int .i64 G, .int .i64 P] 42)).alloc (.cells #[.int .i64 0, .int .i64 0] 23)) (w.heap.size + 1) 23 #[.int .i64 0, .int .i64 0]) := by
    have h := Bk.new (w.alloc (.cells #[.int .i64 l, .int .i64 h, .int .i64 G, .int .i64 P] 42)) 23 #[.int .i64 0, .int .i64 0]
    rwa [World.size_alloc] at h
  go_enter Try.func38, Try.ntmps38
  go_wp2
  obtain ⟨W2, hW2⟩ : ∃ W, (w.alloc (.cells #[.int .i64 l, .int .i64 h, .int .i64 G, .int .i64 P] 42)).alloc (.cells #[.int .i64 0, .int .i64 0] 23) = W := ⟨_, rfl⟩
  rw [hW2] at R0 K0 ⊢
  clear hW2
  have hBB : Below W2.heap.size W2 W2 := Below.refl _ _
  have HC : Hid (∀ W, Below W2.heap.size W2 W → W.cell? ⟨w.heap.size, 0, none⟩ = some (.int .i64 l) ∧ W.cell? ⟨w.heap.size, 1, none⟩ = some (.int .i64 h) ∧ W.cell? ⟨w.heap.size, 2, none⟩ = some (.int .i64 G) ∧ W.cell? ⟨w.heap.size, 3, none⟩ = some (.int .i64 P)) := fun W hb => four (R0.out.k.later hb)
  have CE2 : Hid (∀ W, Below W2.heap.size W2 W → Calls Try.prog 97 #[.agg #[.int .i64 l, .int .i64 h, .int .i64 G, .int .i64 P], .slice B nx c] W (OwnS W es)) := fun W hb => CE.out W (R0.out.b.trans (hb.mono R0.out.b.size))
  have CC2 : Hid (∀ W, Below W2.heap.size W2 W → Calls Try.prog 37 #[.agg #[.int .i64 l, .int .i64 h, .int .i64 G, .int .i64 P], .slice B nx c] W (OwnS W (ids.map fun (i : Nat) => (i : Int)))) := fun W hb => CC.out W (R0.out.b.trans (hb.mono R0.out.b.size))
  clear CE CC
  first | (go_region_held3 (fun w' : World => (w'.cell? ⟨w.heap.size, 0, none⟩ = some (.int .i64 l) ∧ w'.cell? ⟨w.heap.size, 1, none⟩ = some (.int .i64 h) ∧ w'.cell? ⟨w.heap.size, 2, none⟩ = some (.int .i64 G) ∧ w'.cell? ⟨w.heap.size, 3, none⟩ = some (.int .i64 P)) ∧ Below W2.heap.size W2 w') ((refine (fun hI => ⟨HC.out _ hI, hI⟩) ?_; repeat (first | with_reducible assumption | (go_split_ands; with_reducible assumption) | with_reducible refine Below.drew ?_))) (first
    | (go_at_call 97; ((with_reducible refine (CE2.out _ ?_).mono ?_)); (focus (first | assumption | (go_split_ands; assumption))); rintro e wa ⟨⟨va, rfl, hoa⟩, hba⟩; obtain ⟨Aa, ca, rfl, hca, hra⟩ := rd_of_own hoa; clear hoa; have hba' : Below W2.heap.size W2 wa := Below.trans (by first | assumption | (go_split_ands; assumption)) (hba.mono (Below.size (by first | assumption | (go_split_ands; assumption)))); clear hba)
    | (go_at_call 37; ((with_reducible refine (CC2.out _ ?_).mono ?_)); (focus (first | assumption | (go_split_ands; assumption))); rintro e wb ⟨⟨vb, rfl, hob⟩, hbb⟩; obtain ⟨Ab, cb, rfl, hcb, hrb⟩ := rd_of_own hob; clear hob; rw [List.length_map] at hrb hcb ⊢; have hbb' : Below W2.heap.size W2 wb := Below.trans (by first | assumption | (go_split_ands; assumption)) (hbb.mono (Below.size (by first | assumption | (go_split_ands; assumption))))))) | fail
  have R4 := Lib.hid (OneB.later hbb' R0.out)
  have K4 := Lib.hid (K0.out.later hbb')
  have HR4 := Lib.hid hrb
  have HR5 := Lib.hid (hra.below hbb)
  clear hbb' hba' hbb hra hrb R0 K0 HC CE2 CC2 hBB
  obtain ⟨c0, c1, c2, c3⟩ := four R4.out.k
  obtain ⟨e0, e1, k0, k1⟩ := bk2 K4.out
  obtain ⟨m, hm'⟩ : ∃ m, ids.length = m := ⟨_, rfl⟩
  have HML := Lib.hid hm'
  have hlp := HLL.out
  rw [hm'] at HR4 hlp HV ⊢
  clear hm' HLL
  by_cases hz : m = 0
  · subst hz
    have hV := HV.out
    rw [if_pos rfl] at hV
    injection hV with hV1 hV2
    injection hV1 with hV3 hV4
    subst hV2 hV3 hV4
    go_wp2
    refine bodyPost_ret (v := .tuple #[.agg #[.int .i64 0, .int .i64 0], .bool false]) (by simp [results, Try.results38, go_sem, e0, e1, k0, k1]) rfl ⟨rfl, ?_⟩
    have hbw := R4.out.b
    have hbz := hbw.size
    have hkz := K4.out.lt
    go_grown
  · have hV := HV.out
    rw [if_neg hz] at hV
    injection hV with hV1 hV2
    injection hV1 with hV3 hV4
    subst hV2
    have HN := Lib.hid hV3
    have HD := Lib.hid hV4
    rw [HML.out] at HXS
    have hzI : ((m : Int) == 0) = false := by rw [beq_eq_false_iff_ne]; omega
    clear hV3 hV4 HV
    go_wp2
    go_loop [8, 9] (fun s i => ∃ k : Nat, k ≤ m ∧ i = .int .i64 k ∧ s = .int .i64 (lsS es (ids.take k))) (fun _ i => m - (intOf i).toNat)
    case atStart => exact ⟨0, Nat.zero_le _, rfl, rfl⟩
    case round =>
      obtain ⟨k, hk, rfl, rfl⟩ := hrel
      by_cases hlt : k < m
      · have hkI : (k : Int) < (m : Int) := by omega
        obtain ⟨ad, ha, _, hc⟩ := HR4.out.2 (by omega)
        subst ha
        have hck := hc k hlt
        rw [map_getD_cast ids k (by have := HML.out; omega)] at hck
        have hik : ids.getD k 0 < es.length := by
          rw [List.getD_eq_getElem?_getD, List.getElem?_eq_getElem (by have := HML.out; omega), Option.getD_some]
          exact HIL.out _ (List.getElem_mem _)
        have hb := lsS_bd HEO.out (ids.take k) (fun i hi => HIL.out i (List.mem_of_mem_take hi))
        rw [List.length_take] at hb
        have HST := Lib.hid (lsS_snoc es (ids.take k) (ids.getD k 0))
        rw [← nat_take_snoc (by have := HML.out; omega)] at HST
        have hx := HEO.out.at hik
        obtain ⟨j, hj⟩ : ∃ j, ids.getD k 0 = j := ⟨_, rfl⟩
        rw [hj] at hck hik HST hx
        obtain ⟨ad5, ha5, _, hc5⟩ := HR5.out.2 (by omega)
        subst ha5
        have hc6 := hc5 j hik
        obtain ⟨x, hx'⟩ : ∃ x, es.getD j 0 = x := ⟨_, rfl⟩
        obtain ⟨s, hs⟩ : ∃ s, lsS es (ids.take k) = s := ⟨_, rfl⟩
        rw [hx'] at hc6 HST hx
        rw [hs] at HST hb ⊢
        have hjI : (j : Int) < (es.length : Int) := by omega
        have hj0 : (0 : Int) ≤ (j : Int) := by omega
        have w1 : IntKind.i64.wrap (s + x) = s + x := IntWalk.i64_in _ (by omega)
        clear hc hc5 hj hx' hs
        go_wp2
        go_round
        case rel => exact ⟨k + 1, by omega, by go_num, by rw [HST.out]⟩
        case measure => simp only [intOf]; omega
      · obtain rfl : m = k := by omega
        have hkI : ¬ (m : Int) < (m : Int) := by omega
        rw [List.take_of_length_le (by rw [HML.out]; exact Nat.le_refl _)]
        have hxs := HXS.out
        have hml : (m : Int) * l ≤ 200 * 50 := Int.mul_le_mul (by omega) (by omega) (by omega) (by omega)
        have hml0 : 0 < (m : Int) * l := Int.mul_pos (by omega) (by omega)
        have CF := Lib.hid (fun w => bLowest_any (lsS es ids) ((m : Int) * l) w (by omega) (by omega) (by omega) (by omega))
        obtain ⟨s, hs⟩ : ∃ s, lsS es ids = s := ⟨_, rfl⟩
        obtain ⟨ml, hml'⟩ : ∃ s, (m : Int) * l = s := ⟨_, rfl⟩
        rw [hs, hml'] at HN HD CF
        rw [← HN.out, ← HD.out] at CF
        rw [hs] at hxs ⊢
        have w1 : IntKind.i64.wrap ((m : Int) * l) = ml := by rw [← hml']; exact IntWalk.i64_in _ (by omega)
        clear hs hml' HXS HN HD
        go_wp2_with fail
        refine (CF.out _).mono ?_
        rintro e w5 ⟨rfl, hb5⟩
        have R5 := OneB.later hb5 R4.out
        have K5 := K4.out.later hb5
        have hkz5 := K5.lt
        have hbz5 := R5.b.size
        have hbw5 := R5.b
        obtain ⟨f0, f1, g0, g1⟩ := bk2 K5
        clear hb5
        go_wp2
        have KF : Bk ((w5.setCell ⟨w.heap.size + 1, 0, none⟩ (.int .i64 N)).setCell ⟨w.heap.size + 1, 1, none⟩ (.int .i64 D)) (w.heap.size + 1) 23 #[.int .i64 N, .int .i64 D] := ((K5.set_ 0 (.int .i64 N)).set_ 1 (.int .i64 D))
        obtain ⟨z0, z1, y0, y1⟩ := bk2 KF
        refine bodyPost_ret (v := .tuple #[.agg #[.int .i64 N, .int .i64 D], .bool true]) (by simp [results, Try.results38, go_sem, z0, z1, y0, y1]) rfl ⟨rfl, ?_⟩
        go_grown

end Go.Proofs.Ytlpkjkjgmenhkaa

namespace Go.Proofs.Ytlpkjkjgmenhkaa
open Go.RowKit

open Go.Shelf

set_option maxRecDepth 100000 in
theorem short_any (A : Option Addr) (n c : Nat) (w : World) :
    Calls Try.prog 29 #[.slice A n c] w fun e w' => e = .returned (.bool (decide (n ≤ 60) || (decide (200 < n) && decide (n ≤ 204)))) ∧ w = w' := by
  by_cases h1 : n ≤ 60
  · have h1I : (n : Int) ≤ 60 := by omega
    have hv : (decide (n ≤ 60) || (decide (200 < n) && decide (n ≤ 204))) = true := by simp [h1]
    rw [hv]
    go_enter Try.func29, Try.ntmps29
    go_wp2
    go_ret
    exact ⟨rfl, rfl⟩
  · have h1I : ¬ (n : Int) ≤ 60 := by omega
    have h1b : decide ((n : Int) ≤ 60) = false := decide_eq_false h1I
    by_cases h2 : 200 < n
    · have h2I : (200 : Int) < (n : Int) := by omega
      have h2b : decide ((200 : Int) < (n : Int)) = true := decide_eq_true h2I
      by_cases h3 : n ≤ 204
      · have h3I : (n : Int) ≤ 204 := by omega
        have hv : (decide (n ≤ 60) || (decide (200 < n) && decide (n ≤ 204))) = true := by simp [h2, h3]
        rw [hv]
        go_enter Try.func29, Try.ntmps29
        go_wp2
        go_ret
        exact ⟨rfl, rfl⟩
      · have h3I : ¬ (n : Int) ≤ 204 := by omega
        have h3b : decide ((n : Int) ≤ 204) = false := decide_eq_false h3I
        have hv : (decide (n ≤ 60) || (decide (200 < n) && decide (n ≤ 204))) = false := by simp [h1, h3]
        rw [hv]
        go_enter Try.func29, Try.ntmps29
        go_wp2
        go_ret
        exact ⟨rfl, rfl⟩
    · have h2I : ¬ (200 : Int) < (n : Int) := by omega
      have h2b : decide ((200 : Int) < (n : Int)) = false := decide_eq_false h2I
      have hv : (decide (n ≤ 60) || (decide (200 < n) && decide (n ≤ 204))) = false := by simp [h1, h2]
      rw [hv]
      go_enter Try.func29, Try.ntmps29
      go_wp2
      go_ret
      exact ⟨rfl, rfl⟩

end Go.Proofs.Ytlpkjkjgmenhkaa

namespace Go.Proofs.Ytlpkjkjgmenhkaa
open Go.RowKit

open Go.Shelf

set_option maxRecDepth 100000 in
set_option maxHeartbeats 8000000 in
theorem loud_m (L H G P : Int) (B : Option Addr) (n c : Nat) (xs : List Int) (w : World) (M : Int) (hM : M ≠ 0) (hr : RdI w B n xs) (hnn : B = none → n = 0 ∧ c = 0) (hn : n ≤ 204)
    (HSH : Hid (∀ w, Calls Try.prog 29 #[.slice B n c] w fun e w' => e = .returned (.bool true) ∧ w = w'))
    (CG : Hid (∀ A d W, RdI W A n xs → n ≤ d → Calls Try.prog 30 #[.agg #[.int .i64 L, .int .i64 H, .int .i64 G, .int .i64 P], .slice A n d] W (OwnRes W M [])))
    (CL : Hid (∀ A d W, RdI W A n xs → n ≤ d → Calls Try.prog 32 #[.agg #[.int .i64 L, .int .i64 H, .int .i64 G, .int .i64 P], .slice A n d] W fun e w' => e = .returned (.tuple #[.agg #[.int .i64 0, .int .i64 0], .int .i64 M]) ∧ Below W.heap.size W w'))
    (CM : Hid (∀ w, Calls Try.prog 33 #[.agg #[.int .i64 L, .int .i64 H, .int .i64 G, .int .i64 P]] w fun e w' => e = .returned (.int .i64 M) ∧ Below w.heap.size w w'))
    (CK : Hid (∀ w, Calls Try.prog 34 #[.agg #[.int .i64 L, .int .i64 H, .int .i64 G, .int .i64 P]] w fun e w' => e = .returned (.int .i64 M) ∧ Below w.heap.size w w')) :
    Calls Try.prog 5 #[.agg #[.int .i64 L, .int .i64 H, .int .i64 G, .int .i64 P], .slice B n c] w fun e w' => e = .returned (.bool true) ∧ Below w.heap.size w w' := by
  have R0 := Lib.hid (OneB.start w 42 #[.int .i64 L, .int .i64 H, .int .i64 G, .int .i64 P])
  have HR := Lib.hid hr
  have HNN := Lib.hid hnn
  have hln := hr.1
  clear hr hnn
  go_enter Try.func5, Try.ntmps5
  go_wp2_with fail
  refine (awake_any _).mono ?_
  rintro e w1 ⟨rfl, hb1⟩
  have R1 := Lib.hid (OneB.later hb1 R0.out)
  clear hb1 R0
  go_wp2_with fail
  refine (HSH.out _).mono ?_
  rintro e w' ⟨rfl, rfl⟩
  have hBB : Below w1.heap.size w1 w1 := Below.refl _ _
  have HC : Hid (∀ W, Below w1.heap.size w1 W → W.cell? ⟨w.heap.size, 0, none⟩ = some (.int .i64 L) ∧ W.cell? ⟨w.heap.size, 1, none⟩ = some (.int .i64 H) ∧ W.cell? ⟨w.heap.size, 2, none⟩ = some (.int .i64 G) ∧ W.cell? ⟨w.heap.size, 3, none⟩ = some (.int .i64 P)) := fun W hb => four (R1.out.k.later hb)
  have CC : Hid (∀ W, Below w1.heap.size w1 W → Calls Try.prog 31 #[.slice B n c] W (OwnS W xs)) := fun W hb => copyInts_any B n c xs W HNN.out ((HR.out.below R1.out.b).below hb) (by omega)
  go_wp2
  first | (go_region_held3 (fun w' : World => (w'.cell? ⟨w.heap.size, 0, none⟩ = some (.int .i64 L) ∧ w'.cell? ⟨w.heap.size, 1, none⟩ = some (.int .i64 H) ∧ w'.cell? ⟨w.heap.size, 2, none⟩ = some (.int .i64 G) ∧ w'.cell? ⟨w.heap.size, 3, none⟩ = some (.int .i64 P)) ∧ Below w1.heap.size w1 w') (((refine (fun hI => ⟨HC.out _ hI, hI⟩) ?_; repeat (first | with_reducible assumption | (go_split_ands; with_reducible assumption) | with_reducible refine belowA ?_ _ | with_reducible refine Below.drew ?_ | (with_reducible refine Below.setCell ?_ ?_ _) | exact Nat.le_refl _ | (show _ ≤ _; simp; omega) | (simp; omega) | omega)))) (first
    | (go_at_call 31; ((with_reducible refine (CC.out _ ?_).mono ?_)); (focus (first | assumption | (go_split_ands; assumption))); rintro e wa ⟨⟨va, rfl, hoa⟩, hba⟩; obtain ⟨Aa, ca, rfl, hca, hra⟩ := rd_of_own hoa; clear hoa; rw [hln] at hra hca ⊢; have hba' : Below w1.heap.size w1 wa := Below.trans (by first | assumption | (go_split_ands; assumption)) (hba.mono (Below.size (by first | assumption | (go_split_ands; assumption)))); clear hba)
    | (go_at_call 30; ((with_reducible refine (CG.out _ _ _ hra hca).mono ?_)); rintro e wb ⟨⟨vb, rfl, hob⟩, hbb⟩; obtain ⟨Ab, cb, rfl, hcb, hrb⟩ := rd_of_own hob; clear hob; have hbb' : Below w1.heap.size w1 wb := Below.trans (by first | assumption | (go_split_ands; assumption)) (hbb.mono (Below.size (by first | assumption | (go_split_ands; assumption)))); clear hbb hca hra))) | fail
  have R2 := Lib.hid (OneB.later hbb' R1.out)
  have G2 := Lib.hid hrb
  clear hbb' hba' hBB HC CC R1 hrb
  have hBB : Below wb.heap.size wb wb := Below.refl _ _
  have HC : Hid (∀ W, Below wb.heap.size wb W → W.cell? ⟨w.heap.size, 0, none⟩ = some (.int .i64 L) ∧ W.cell? ⟨w.heap.size, 1, none⟩ = some (.int .i64 H) ∧ W.cell? ⟨w.heap.size, 2, none⟩ = some (.int .i64 G) ∧ W.cell? ⟨w.heap.size, 3, none⟩ = some (.int .i64 P)) := fun W hb => four (R2.out.k.later hb)
  have CC : Hid (∀ W, Below wb.heap.size wb W → Calls Try.prog 31 #[.slice B n c] W (OwnS W xs)) := fun W hb => copyInts_any B n c xs W HNN.out ((HR.out.below R2.out.b).below hb) (by omega)
  have hzn := fun W : World => bk2 (Bk.new W 23 #[.int .i64 0, .int .i64 0])
  go_wp2
  first | (go_region_held3 (fun w' : World => (w'.cell? ⟨w.heap.size, 0, none⟩ = some (.int .i64 L) ∧ w'.cell? ⟨w.heap.size, 1, none⟩ = some (.int .i64 H) ∧ w'.cell? ⟨w.heap.size, 2, none⟩ = some (.int .i64 G) ∧ w'.cell? ⟨w.heap.size, 3, none⟩ = some (.int .i64 P)) ∧ Below wb.heap.size wb w') (((refine (fun hI => ⟨HC.out _ hI, hI⟩) ?_; repeat (first | with_reducible assumption | (go_split_ands; with_reducible assumption) | with_reducible refine belowA ?_ _ | with_reducible refine Below.drew ?_ | (with_reducible refine Below.setCell ?_ ?_ _) | exact Nat.le_refl _ | (show _ ≤ _; simp; omega) | (simp; omega) | omega)))) (first
    | (go_at_call 31; ((with_reducible refine (CC.out _ ?_).mono ?_)); (focus (first | assumption | (go_split_ands; assumption))); rintro e wc ⟨⟨vc, rfl, hoc⟩, hbc⟩; obtain ⟨Ac, cc, rfl, hcc, hrc⟩ := rd_of_own hoc; clear hoc; rw [hln] at hrc hcc ⊢; have hbc' : Below wb.heap.size wb wc := Below.trans (by first | assumption | (go_split_ands; assumption)) (hbc.mono (Below.size (by first | assumption | (go_split_ands; assumption)))); have szc := hbc'.size; (first | (have kz0 := (Bk.new wb 23 #[.int .i64 0, .int .i64 0]).drew.later hbc; have kz : Bk wc wb.heap.size 23 #[.int .i64 0, .int .i64 0] := kz0; have kzz := bk2 kz; clear kz0) | skip); clear hbc)
    | (go_at_call 32; (first | with_reducible refine (CL.out _ _ _ hrc hcc).mono ?_ | with_reducible refine (CL.out _ _ _ (hrc.below (below1 _ _)) hcc).mono ?_); rintro e wd ⟨rfl, hbd⟩; have hbd' : Below wb.heap.size wb wd := Below.trans (by first | assumption | (go_split_ands; assumption)) (hbd.mono (Below.size (by first | assumption | (go_split_ands; assumption)))); have szd := hbd'.size; (first | (have kz := kz.later hbd; have kzz := bk2 kz) | (have kz : Bk wd wc.heap.size 23 #[.int .i64 0, .int .i64 0] := (Bk.new _ 23 #[.int .i64 0, .int .i64 0]).later hbd; have kzz := bk2 kz) | skip); clear hbd hcc hrc))) | fail
  all_goals
    clear hzn
    first
    | (have hb6 : Below wb.heap.size wb (wd.alloc (.cells #[.int .i64 0, .int .i64 0] 23)) := belowA hbd' _
       have K6 : Hid (Bk (wd.alloc (.cells #[.int .i64 0, .int .i64 0] 23)) wd.heap.size 23 #[.int .i64 0, .int .i64 0]) := Bk.new wd 23 #[.int .i64 0, .int .i64 0]
       have R6 := Lib.hid (OneB.later hb6 R2.out)
       have G6 := Lib.hid (G2.out.below hb6)
       obtain ⟨W6, hW6⟩ : ∃ W, wd.alloc (.cells #[.int .i64 0, .int .i64 0] 23) = W := ⟨_, rfl⟩
       clear hb6
       rw [hW6] at K6 R6 G6 ⊢
       obtain ⟨g6, hg6⟩ : ∃ g, wd.heap.size = g := ⟨_, rfl⟩
       rw [hg6] at K6 ⊢
       clear hW6 hg6)
    | (have hb6 : Below wb.heap.size wb ((wd.setCell ⟨wc.heap.size, 0, none⟩ (.int .i64 0)).setCell ⟨wc.heap.size, 1, none⟩ (.int .i64 0)) := Below.setCell (Below.setCell hbd' (by first | exact szc | exact Nat.le_refl _) _) (by first | exact szc | exact Nat.le_refl _) _
       have K6 : Hid (Bk ((wd.setCell ⟨wc.heap.size, 0, none⟩ (.int .i64 0)).setCell ⟨wc.heap.size, 1, none⟩ (.int .i64 0)) wc.heap.size 23 #[.int .i64 0, .int .i64 0]) := ((kz.set_ 0 (.int .i64 0)).set_ 1 (.int .i64 0))
       have R6 := Lib.hid (OneB.later hb6 R2.out)
       have G6 := Lib.hid (G2.out.below hb6)
       obtain ⟨W6, hW6⟩ : ∃ W, (wd.setCell ⟨wc.heap.size, 0, none⟩ (.int .i64 0)).setCell ⟨wc.heap.size, 1, none⟩ (.int .i64 0) = W := ⟨_, rfl⟩
       clear hb6 kz kzz
       rw [hW6] at K6 R6 G6 ⊢
       obtain ⟨g6, hg6⟩ : ∃ g, wc.heap.size = g := ⟨_, rfl⟩
       rw [hg6] at K6 ⊢
       clear hW6 hg6)
    | (have hb6 : Below wb.heap.size wb ((wd.setCell ⟨wb.heap.size, 0, none⟩ (.int .i64 0)).setCell ⟨wb.heap.size, 1, none⟩ (.int .i64 0)) := Below.setCell (Below.setCell hbd' (by first | exact szc | exact Nat.le_refl _) _) (by first | exact szc | exact Nat.le_refl _) _
       have K6 : Hid (Bk ((wd.setCell ⟨wb.heap.size, 0, none⟩ (.int .i64 0)).setCell ⟨wb.heap.size, 1, none⟩ (.int .i64 0)) wb.heap.size 23 #[.int .i64 0, .int .i64 0]) := ((kz.set_ 0 (.int .i64 0)).set_ 1 (.int .i64 0))
       have R6 := Lib.hid (OneB.later hb6 R2.out)
       have G6 := Lib.hid (G2.out.below hb6)
       obtain ⟨W6, hW6⟩ : ∃ W, (wd.setCell ⟨wb.heap.size, 0, none⟩ (.int .i64 0)).setCell ⟨wb.heap.size, 1, none⟩ (.int .i64 0) = W := ⟨_, rfl⟩
       clear hb6 kz kzz
       rw [hW6] at K6 R6 G6 ⊢
       obtain ⟨g6, hg6⟩ : ∃ g, wb.heap.size = g := ⟨_, rfl⟩
       rw [hg6] at K6 ⊢
       clear hW6 hg6)
    have hM1 : (M == 0) = false := by rw [beq_eq_false_iff_ne]; exact hM
    have hM2 : (M != 0) = true := by rw [bne_iff_ne]; exact hM
    obtain ⟨c0, c1, c2, c3⟩ := four R6.out.k
    go_wp2_with fail
    clear c0 c1 c2 c3
    refine (CM.out _).mono ?_
    rintro e w7 ⟨rfl, hb⟩
    have R7 := Lib.hid (OneB.later hb R6.out)
    have K7 := Lib.hid (K6.out.later hb)
    have G7 := Lib.hid (G6.out.below hb)
    clear R6 K6 G6
    obtain ⟨c0, c1, c2, c3⟩ := four R7.out.k
    go_wp2_with fail
    clear c0 c1 c2 c3
    refine (CK.out _).mono ?_
    rintro e w8 ⟨rfl, hb⟩
    have R8 := Lib.hid (OneB.later hb R7.out)
    have K8 := Lib.hid (K7.out.later hb)
    have G8 := Lib.hid (G7.out.below hb)
    clear R7 K7 G7
    obtain ⟨z0, z1, y0, y1⟩ := bk2 K8.out
    go_wp2
    go_ret
    exact ⟨rfl, R8.out.b⟩

end Go.Proofs.Ytlpkjkjgmenhkaa

namespace Go.Proofs.Ytlpkjkjgmenhkaa
open Go.RowKit

open Go.Shelf

set_option maxRecDepth 100000 in
set_option maxHeartbeats 8000000 in
theorem loud_s (L H G P : Int) (B : Option Addr) (n c : Nat) (xs : List Int) (w : World) (S : Int) (hM : S ≠ 0) (hr : RdI w B n xs) (hnn : B = none → n = 0 ∧ c = 0) (hn : n ≤ 204)
    (HSH : Hid (∀ w, Calls Try.prog 29 #[.slice B n c] w fun e w' => e = .returned (.bool true) ∧ w = w'))
    (CG : Hid (∀ A d W, RdI W A n xs → n ≤ d → Calls Try.prog 30 #[.agg #[.int .i64 L, .int .i64 H, .int .i64 G, .int .i64 P], .slice A n d] W (OwnRes W S [])))
    (CL : Hid (∀ A d W, RdI W A n xs → n ≤ d → Calls Try.prog 32 #[.agg #[.int .i64 L, .int .i64 H, .int .i64 G, .int .i64 P], .slice A n d] W fun e w' => e = .returned (.tuple #[.agg #[.int .i64 0, .int .i64 0], .int .i64 S]) ∧ Below W.heap.size W w'))
    (CM : Hid (∀ w, Calls Try.prog 33 #[.agg #[.int .i64 L, .int .i64 H, .int .i64 G, .int .i64 P]] w fun e w' => e = .returned (.int .i64 0) ∧ Below w.heap.size w w'))
    (CK : Hid (∀ w, Calls Try.prog 34 #[.agg #[.int .i64 L, .int .i64 H, .int .i64 G, .int .i64 P]] w fun e w' => e = .returned (.int .i64 0) ∧ Below w.heap.size w w'))
    (CS : Hid (∀ W, Below w.heap.size w W → Calls Try.prog 35 #[.slice B n c] W fun e w' => e = .returned (.int .i64 S) ∧ W = w')) :
    Calls Try.prog 5 #[.agg #[.int .i64 L, .int .i64 H, .int .i64 G, .int .i64 P], .slice B n c] w fun e w' => e = .returned (.bool true) ∧ Below w.heap.size w w' := by
  have R0 := Lib.hid (OneB.start w 42 #[.int .i64 L, .int .i64 H, .int .i64 G, .int .i64 P])
  have HR := Lib.hid hr
  have HNN := Lib.hid hnn
  have hln := hr.1
  clear hr hnn
  go_enter Try.func5, Try.ntmps5
  go_wp2_with fail
  refine (awake_any _).mono ?_
  rintro e w1 ⟨rfl, hb1⟩
  have R1 := Lib.hid (OneB.later hb1 R0.out)
  clear hb1 R0
  go_wp2_with fail
  refine (HSH.out _).mono ?_
  rintro e w' ⟨rfl, rfl⟩
  have hBB : Below w1.heap.size w1 w1 := Below.refl _ _
  have HC : Hid (∀ W, Below w1.heap.size w1 W → W.cell? ⟨w.heap.size, 0, none⟩ = some (.int .i64 L) ∧ W.cell? ⟨w.heap.size, 1, none⟩ = some (.int .i64 H) ∧ W.cell? ⟨w.heap.size, 2, none⟩ = some (.int .i64 G) ∧ W.cell? ⟨w.heap.size, 3, none⟩ = some (.int .i64 P)) := fun W hb => four (R1.out.k.later hb)
  have CC : Hid (∀ W, Below w1.heap.size w1 W → Calls Try.prog 31 #[.slice B n c] W (OwnS W xs)) := fun W hb => copyInts_any B n c xs W HNN.out ((HR.out.below R1.out.b).below hb) (by omega)
  go_wp2
  first | (go_region_held3 (fun w' : World => (w'.cell? ⟨w.heap.size, 0, none⟩ = some (.int .i64 L) ∧ w'.cell? ⟨w.heap.size, 1, none⟩ = some (.int .i64 H) ∧ w'.cell? ⟨w.heap.size, 2, none⟩ = some (.int .i64 G) ∧ w'.cell? ⟨w.heap.size, 3, none⟩ = some (.int .i64 P)) ∧ Below w1.heap.size w1 w') (((refine (fun hI => ⟨HC.out _ hI, hI⟩) ?_; repeat (first | with_reducible assumption | (go_split_ands; with_reducible assumption) | with_reducible refine belowA ?_ _ | with_reducible refine Below.drew ?_ | (with_reducible refine Below.setCell ?_ ?_ _) | exact Nat.le_refl _ | (show _ ≤ _; simp; omega) | (simp; omega) | omega)))) (first
    | (go_at_call 31; ((with_reducible refine (CC.out _ ?_).mono ?_)); (focus (first | assumption | (go_split_ands; assumption))); rintro e wa ⟨⟨va, rfl, hoa⟩, hba⟩; obtain ⟨Aa, ca, rfl, hca, hra⟩ := rd_of_own hoa; clear hoa; rw [hln] at hra hca ⊢; have hba' : Below w1.heap.size w1 wa := Below.trans (by first | assumption | (go_split_ands; assumption)) (hba.mono (Below.size (by first | assumption | (go_split_ands; assumption)))); clear hba)
    | (go_at_call 30; ((with_reducible refine (CG.out _ _ _ hra hca).mono ?_)); rintro e wb ⟨⟨vb, rfl, hob⟩, hbb⟩; obtain ⟨Ab, cb, rfl, hcb, hrb⟩ := rd_of_own hob; clear hob; have hbb' : Below w1.heap.size w1 wb := Below.trans (by first | assumption | (go_split_ands; assumption)) (hbb.mono (Below.size (by first | assumption | (go_split_ands; assumption)))); clear hbb hca hra))) | fail
  have R2 := Lib.hid (OneB.later hbb' R1.out)
  have G2 := Lib.hid hrb
  clear hbb' hba' hBB HC CC R1 hrb
  have hBB : Below wb.heap.size wb wb := Below.refl _ _
  have HC : Hid (∀ W, Below wb.heap.size wb W → W.cell? ⟨w.heap.size, 0, none⟩ = some (.int .i64 L) ∧ W.cell? ⟨w.heap.size, 1, none⟩ = some (.int .i64 H) ∧ W.cell? ⟨w.heap.size, 2, none⟩ = some (.int .i64 G) ∧ W.cell? ⟨w.heap.size, 3, none⟩ = some (.int .i64 P)) := fun W hb => four (R2.out.k.later hb)
  have CC : Hid (∀ W, Below wb.heap.size wb W → Calls Try.prog 31 #[.slice B n c] W (OwnS W xs)) := fun W hb => copyInts_any B n c xs W HNN.out ((HR.out.below R2.out.b).below hb) (by omega)
  have hzn := fun W : World => bk2 (Bk.new W 23 #[.int .i64 0, .int .i64 0])
  go_wp2
  first | (go_region_held3 (fun w' : World => (w'.cell? ⟨w.heap.size, 0, none⟩ = some (.int .i64 L) ∧ w'.cell? ⟨w.heap.size, 1, none⟩ = some (.int .i64 H) ∧ w'.cell? ⟨w.heap.size, 2, none⟩ = some (.int .i64 G) ∧ w'.cell? ⟨w.heap.size, 3, none⟩ = some (.int .i64 P)) ∧ Below wb.heap.size wb w') (((refine (fun hI => ⟨HC.out _ hI, hI⟩) ?_; repeat (first | with_reducible assumption | (go_split_ands; with_reducible assumption) | with_reducible refine belowA ?_ _ | with_reducible refine Below.drew ?_ | (with_reducible refine Below.setCell ?_ ?_ _) | exact Nat.le_refl _ | (show _ ≤ _; simp; omega) | (simp; omega) | omega)))) (first
    | (go_at_call 31; ((with_reducible refine (CC.out _ ?_).mono ?_)); (focus (first | assumption | (go_split_ands; assumption))); rintro e wc ⟨⟨vc, rfl, hoc⟩, hbc⟩; obtain ⟨Ac, cc, rfl, hcc, hrc⟩ := rd_of_own hoc; clear hoc; rw [hln] at hrc hcc ⊢; have hbc' : Below wb.heap.size wb wc := Below.trans (by first | assumption | (go_split_ands; assumption)) (hbc.mono (Below.size (by first | assumption | (go_split_ands; assumption)))); have szc := hbc'.size; (first | (have kz0 := (Bk.new wb 23 #[.int .i64 0, .int .i64 0]).drew.later hbc; have kz : Bk wc wb.heap.size 23 #[.int .i64 0, .int .i64 0] := kz0; have kzz := bk2 kz; clear kz0) | skip); clear hbc)
    | (go_at_call 32; (first | with_reducible refine (CL.out _ _ _ hrc hcc).mono ?_ | with_reducible refine (CL.out _ _ _ (hrc.below (below1 _ _)) hcc).mono ?_); rintro e wd ⟨rfl, hbd⟩; have hbd' : Below wb.heap.size wb wd := Below.trans (by first | assumption | (go_split_ands; assumption)) (hbd.mono (Below.size (by first | assumption | (go_split_ands; assumption)))); have szd := hbd'.size; (first | (have kz := kz.later hbd; have kzz := bk2 kz) | (have kz : Bk wd wc.heap.size 23 #[.int .i64 0, .int .i64 0] := (Bk.new _ 23 #[.int .i64 0, .int .i64 0]).later hbd; have kzz := bk2 kz) | skip); clear hbd hcc hrc))) | fail
  all_goals
    clear hzn
    first
    | (have hb6 : Below wb.heap.size wb (wd.alloc (.cells #[.int .i64 0, .int .i64 0] 23)) := belowA hbd' _
       have K6 : Hid (Bk (wd.alloc (.cells #[.int .i64 0, .int .i64 0] 23)) wd.heap.size 23 #[.int .i64 0, .int .i64 0]) := Bk.new wd 23 #[.int .i64 0, .int .i64 0]
       have R6 := Lib.hid (OneB.later hb6 R2.out)
       have G6 := Lib.hid (G2.out.below hb6)
       obtain ⟨W6, hW6⟩ : ∃ W, wd.alloc (.cells #[.int .i64 0, .int .i64 0] 23) = W := ⟨_, rfl⟩
       clear hb6
       rw [hW6] at K6 R6 G6 ⊢
       obtain ⟨g6, hg6⟩ : ∃ g, wd.heap.size = g := ⟨_, rfl⟩
       rw [hg6] at K6 ⊢
       clear hW6 hg6)
    | (have hb6 : Below wb.heap.size wb ((wd.setCell ⟨wc.heap.size, 0, none⟩ (.int .i64 0)).setCell ⟨wc.heap.size, 1, none⟩ (.int .i64 0)) := Below.setCell (Below.setCell hbd' (by first | exact szc | exact Nat.le_refl _) _) (by first | exact szc | exact Nat.le_refl _) _
       have K6 : Hid (Bk ((wd.setCell ⟨wc.heap.size, 0, none⟩ (.int .i64 0)).setCell ⟨wc.heap.size, 1, none⟩ (.int .i64 0)) wc.heap.size 23 #[.int .i64 0, .int .i64 0]) := ((kz.set_ 0 (.int .i64 0)).set_ 1 (.int .i64 0))
       have R6 := Lib.hid (OneB.later hb6 R2.out)
       have G6 := Lib.hid (G2.out.below hb6)
       obtain ⟨W6, hW6⟩ : ∃ W, (wd.setCell ⟨wc.heap.size, 0, none⟩ (.int .i64 0)).setCell ⟨wc.heap.size, 1, none⟩ (.int .i64 0) = W := ⟨_, rfl⟩
       clear hb6 kz kzz
       rw [hW6] at K6 R6 G6 ⊢
       obtain ⟨g6, hg6⟩ : ∃ g, wc.heap.size = g := ⟨_, rfl⟩
       rw [hg6] at K6 ⊢
       clear hW6 hg6)
    | (have hb6 : Below wb.heap.size wb ((wd.setCell ⟨wb.heap.size, 0, none⟩ (.int .i64 0)).setCell ⟨wb.heap.size, 1, none⟩ (.int .i64 0)) := Below.setCell (Below.setCell hbd' (by first | exact szc | exact Nat.le_refl _) _) (by first | exact szc | exact Nat.le_refl _) _
       have K6 : Hid (Bk ((wd.setCell ⟨wb.heap.size, 0, none⟩ (.int .i64 0)).setCell ⟨wb.heap.size, 1, none⟩ (.int .i64 0)) wb.heap.size 23 #[.int .i64 0, .int .i64 0]) := ((kz.set_ 0 (.int .i64 0)).set_ 1 (.int .i64 0))
       have R6 := Lib.hid (OneB.later hb6 R2.out)
       have G6 := Lib.hid (G2.out.below hb6)
       obtain ⟨W6, hW6⟩ : ∃ W, (wd.setCell ⟨wb.heap.size, 0, none⟩ (.int .i64 0)).setCell ⟨wb.heap.size, 1, none⟩ (.int .i64 0) = W := ⟨_, rfl⟩
       clear hb6 kz kzz
       rw [hW6] at K6 R6 G6 ⊢
       obtain ⟨g6, hg6⟩ : ∃ g, wb.heap.size = g := ⟨_, rfl⟩
       rw [hg6] at K6 ⊢
       clear hW6 hg6)
    have hM1 : (S == 0) = false := by rw [beq_eq_false_iff_ne]; exact hM
    have hM2 : (S != 0) = true := by rw [bne_iff_ne]; exact hM
    obtain ⟨c0, c1, c2, c3⟩ := four R6.out.k
    go_wp2_with fail
    clear c0 c1 c2 c3
    refine (CM.out _).mono ?_
    rintro e w7 ⟨rfl, hb⟩
    have R7 := Lib.hid (OneB.later hb R6.out)
    have K7 := Lib.hid (K6.out.later hb)
    have G7 := Lib.hid (G6.out.below hb)
    clear R6 K6 G6
    obtain ⟨c0, c1, c2, c3⟩ := four R7.out.k
    go_wp2_with fail
    clear c0 c1 c2 c3
    refine (CK.out _).mono ?_
    rintro e w8 ⟨rfl, hb⟩
    have R8 := Lib.hid (OneB.later hb R7.out)
    have K8 := Lib.hid (K7.out.later hb)
    have G8 := Lib.hid (G7.out.below hb)
    clear R7 K7 G7
    obtain ⟨c0, c1, c2, c3⟩ := four R8.out.k
    obtain ⟨z0, z1, y0, y1⟩ := bk2 K8.out
    go_wp2_with fail
    refine (CS.out _ R8.out.b).mono ?_
    rintro e w' ⟨rfl, rfl⟩
    clear c0 c1 c2 c3 z0 z1 y0 y1
    obtain ⟨z0, z1, y0, y1⟩ := bk2 K8.out
    go_wp2
    go_ret
    exact ⟨rfl, R8.out.b⟩

end Go.Proofs.Ytlpkjkjgmenhkaa

namespace Go.Proofs.Ytlpkjkjgmenhkaa
open Go.RowKit

open Go.Shelf

set_option maxRecDepth 100000 in
set_option maxHeartbeats 8000000 in
theorem loud_f (L H G P : Int) (B : Option Addr) (n c : Nat) (xs : List Int) (w : World) (N D : Int) (gl : List Int) (hgl : gl.length ≤ 1000000) (hr : RdI w B n xs) (hnn : B = none → n = 0 ∧ c = 0) (hn : n ≤ 204)
    (HSH : Hid (∀ w, Calls Try.prog 29 #[.slice B n c] w fun e w' => e = .returned (.bool true) ∧ w = w'))
    (CG : Hid (∀ A d W, RdI W A n xs → n ≤ d → Calls Try.prog 30 #[.agg #[.int .i64 L, .int .i64 H, .int .i64 G, .int .i64 P], .slice A n d] W (OwnRes W 0 gl)))
    (CL : Hid (∀ A d W, RdI W A n xs → n ≤ d → Calls Try.prog 32 #[.agg #[.int .i64 L, .int .i64 H, .int .i64 G, .int .i64 P], .slice A n d] W fun e w' => e = .returned (.tuple #[.agg #[.int .i64 N, .int .i64 D], .int .i64 0]) ∧ Below W.heap.size W w'))
    (CM : Hid (∀ w, Calls Try.prog 33 #[.agg #[.int .i64 L, .int .i64 H, .int .i64 G, .int .i64 P]] w fun e w' => e = .returned (.int .i64 0) ∧ Below w.heap.size w w'))
    (CK : Hid (∀ w, Calls Try.prog 34 #[.agg #[.int .i64 L, .int .i64 H, .int .i64 G, .int .i64 P]] w fun e w' => e = .returned (.int .i64 0) ∧ Below w.heap.size w w'))
    (CS : Hid (∀ W, Below w.heap.size w W → Calls Try.prog 35 #[.slice B n c] W fun e w' => e = .returned (.int .i64 0) ∧ W = w'))
    (CQ : Hid (∀ W, Below w.heap.size w W → Calls Try.prog 37 #[.agg #[.int .i64 L, .int .i64 H, .int .i64 G, .int .i64 P], .slice B n c] W (OwnS W gl)))
    (CZ : Hid (∀ W, Below w.heap.size w W → Calls Try.prog 38 #[.agg #[.int .i64 L, .int .i64 H, .int .i64 G, .int .i64 P], .slice B n c] W fun e w' => e = .returned (.tuple #[.agg #[.int .i64 N, .int .i64 D], .bool true]) ∧ Below W.heap.size W w')) :
    Calls Try.prog 5 #[.agg #[.int .i64 L, .int .i64 H, .int .i64 G, .int .i64 P], .slice B n c] w fun e w' => e = .returned (.bool true) ∧ Below w.heap.size w w' := by
  have R0 := Lib.hid (OneB.start w 42 #[.int .i64 L, .int .i64 H, .int .i64 G, .int .i64 P])
  have HR := Lib.hid hr
  have HNN := Lib.hid hnn
  have hln := hr.1
  clear hr hnn
  go_enter Try.func5, Try.ntmps5
  go_wp2_with fail
  refine (awake_any _).mono ?_
  rintro e w1 ⟨rfl, hb1⟩
  have R1 := Lib.hid (OneB.later hb1 R0.out)
  clear hb1 R0
  go_wp2_with fail
  refine (HSH.out _).mono ?_
  rintro e w' ⟨rfl, rfl⟩
  have hBB : Below w1.heap.size w1 w1 := Below.refl _ _
  have HC : Hid (∀ W, Below w1.heap.size w1 W → W.cell? ⟨w.heap.size, 0, none⟩ = some (.int .i64 L) ∧ W.cell? ⟨w.heap.size, 1, none⟩ = some (.int .i64 H) ∧ W.cell? ⟨w.heap.size, 2, none⟩ = some (.int .i64 G) ∧ W.cell? ⟨w.heap.size, 3, none⟩ = some (.int .i64 P)) := fun W hb => four (R1.out.k.later hb)
  have CC : Hid (∀ W, Below w1.heap.size w1 W → Calls Try.prog 31 #[.slice B n c] W (OwnS W xs)) := fun W hb => copyInts_any B n c xs W HNN.out ((HR.out.below R1.out.b).below hb) (by omega)
  go_wp2
  first | (go_region_held3 (fun w' : World => (w'.cell? ⟨w.heap.size, 0, none⟩ = some (.int .i64 L) ∧ w'.cell? ⟨w.heap.size, 1, none⟩ = some (.int .i64 H) ∧ w'.cell? ⟨w.heap.size, 2, none⟩ = some (.int .i64 G) ∧ w'.cell? ⟨w.heap.size, 3, none⟩ = some (.int .i64 P)) ∧ Below w1.heap.size w1 w') (((refine (fun hI => ⟨HC.out _ hI, hI⟩) ?_; repeat (first | with_reducible assumption | (go_split_ands; with_reducible assumption) | with_reducible refine belowA ?_ _ | with_reducible refine Below.drew ?_ | (with_reducible refine Below.setCell ?_ ?_ _) | exact Nat.le_refl _ | (show _ ≤ _; simp; omega) | (simp; omega) | omega)))) (first
    | (go_at_call 31; ((with_reducible refine (CC.out _ ?_).mono ?_)); (focus (first | assumption | (go_split_ands; assumption))); rintro e wa ⟨⟨va, rfl, hoa⟩, hba⟩; obtain ⟨Aa, ca, rfl, hca, hra⟩ := rd_of_own hoa; clear hoa; rw [hln] at hra hca ⊢; have hba' : Below w1.heap.size w1 wa := Below.trans (by first | assumption | (go_split_ands; assumption)) (hba.mono (Below.size (by first | assumption | (go_split_ands; assumption)))); clear hba)
    | (go_at_call 30; ((with_reducible refine (CG.out _ _ _ hra hca).mono ?_)); rintro e wb ⟨⟨vb, rfl, hob⟩, hbb⟩; obtain ⟨Ab, cb, rfl, hcb, hrb⟩ := rd_of_own hob; clear hob; have hbb' : Below w1.heap.size w1 wb := Below.trans (by first | assumption | (go_split_ands; assumption)) (hbb.mono (Below.size (by first | assumption | (go_split_ands; assumption)))); clear hbb hca hra))) | fail
  have R2 := Lib.hid (OneB.later hbb' R1.out)
  have G2 := Lib.hid hrb
  clear hbb' hba' hBB HC CC R1 hrb
  have hBB : Below wb.heap.size wb wb := Below.refl _ _
  have HC : Hid (∀ W, Below wb.heap.size wb W → W.cell? ⟨w.heap.size, 0, none⟩ = some (.int .i64 L) ∧ W.cell? ⟨w.heap.size, 1, none⟩ = some (.int .i64 H) ∧ W.cell? ⟨w.heap.size, 2, none⟩ = some (.int .i64 G) ∧ W.cell? ⟨w.heap.size, 3, none⟩ = some (.int .i64 P)) := fun W hb => four (R2.out.k.later hb)
  have CC : Hid (∀ W, Below wb.heap.size wb W → Calls Try.prog 31 #[.slice B n c] W (OwnS W xs)) := fun W hb => copyInts_any B n c xs W HNN.out ((HR.out.below R2.out.b).below hb) (by omega)
  have hzn := fun W : World => bk2 (Bk.new W 23 #[.int .i64 0, .int .i64 0])
  go_wp2
  first | (go_region_held3 (fun w' : World => (w'.cell? ⟨w.heap.size, 0, none⟩ = some (.int .i64 L) ∧ w'.cell? ⟨w.heap.size, 1, none⟩ = some (.int .i64 H) ∧ w'.cell? ⟨w.heap.size, 2, none⟩ = some (.int .i64 G) ∧ w'.cell? ⟨w.heap.size, 3, none⟩ = some (.int .i64 P)) ∧ Below wb.heap.size wb w') (((refine (fun hI => ⟨HC.out _ hI, hI⟩) ?_; repeat (first | with_reducible assumption | (go_split_ands; with_reducible assumption) | with_reducible refine belowA ?_ _ | with_reducible refine Below.drew ?_ | (with_reducible refine Below.setCell ?_ ?_ _) | exact Nat.le_refl _ | (show _ ≤ _; simp; omega) | (simp; omega) | omega)))) (first
    | (go_at_call 31; ((with_reducible refine (CC.out _ ?_).mono ?_)); (focus (first | assumption | (go_split_ands; assumption))); rintro e wc ⟨⟨vc, rfl, hoc⟩, hbc⟩; obtain ⟨Ac, cc, rfl, hcc, hrc⟩ := rd_of_own hoc; clear hoc; rw [hln] at hrc hcc ⊢; have hbc' : Below wb.heap.size wb wc := Below.trans (by first | assumption | (go_split_ands; assumption)) (hbc.mono (Below.size (by first | assumption | (go_split_ands; assumption)))); have szc := hbc'.size; (first | (have kz0 := (Bk.new wb 23 #[.int .i64 0, .int .i64 0]).drew.later hbc; have kz : Bk wc wb.heap.size 23 #[.int .i64 0, .int .i64 0] := kz0; have kzz := bk2 kz; clear kz0) | skip); clear hbc)
    | (go_at_call 32; (first | with_reducible refine (CL.out _ _ _ hrc hcc).mono ?_ | with_reducible refine (CL.out _ _ _ (hrc.below (below1 _ _)) hcc).mono ?_); rintro e wd ⟨rfl, hbd⟩; have hbd' : Below wb.heap.size wb wd := Below.trans (by first | assumption | (go_split_ands; assumption)) (hbd.mono (Below.size (by first | assumption | (go_split_ands; assumption)))); have szd := hbd'.size; (first | (have kz := kz.later hbd; have kzz := bk2 kz) | (have kz : Bk wd wc.heap.size 23 #[.int .i64 0, .int .i64 0] := (Bk.new _ 23 #[.int .i64 0, .int .i64 0]).later hbd; have kzz := bk2 kz) | skip); clear hbd hcc hrc))) | fail
  all_goals
    clear hzn
    first
    | (have hb6 : Below wb.heap.size wb (wd.alloc (.cells #[.int .i64 N, .int .i64 D] 23)) := belowA hbd' _
       have K6 : Hid (Bk (wd.alloc (.cells #[.int .i64 N, .int .i64 D] 23)) wd.heap.size 23 #[.int .i64 N, .int .i64 D]) := Bk.new wd 23 #[.int .i64 N, .int .i64 D]
       have R6 := Lib.hid (OneB.later hb6 R2.out)
       have G6 := Lib.hid (G2.out.below hb6)
       obtain ⟨W6, hW6⟩ : ∃ W, wd.alloc (.cells #[.int .i64 N, .int .i64 D] 23) = W := ⟨_, rfl⟩
       clear hb6
       rw [hW6] at K6 R6 G6 ⊢
       obtain ⟨g6, hg6⟩ : ∃ g, wd.heap.size = g := ⟨_, rfl⟩
       rw [hg6] at K6 ⊢
       clear hW6 hg6)
    | (have hb6 : Below wb.heap.size wb ((wd.setCell ⟨wc.heap.size, 0, none⟩ (.int .i64 N)).setCell ⟨wc.heap.size, 1, none⟩ (.int .i64 D)) := Below.setCell (Below.setCell hbd' (by first | exact szc | exact Nat.le_refl _) _) (by first | exact szc | exact Nat.le_refl _) _
       have K6 : Hid (Bk ((wd.setCell ⟨wc.heap.size, 0, none⟩ (.int .i64 N)).setCell ⟨wc.heap.size, 1, none⟩ (.int .i64 D)) wc.heap.size 23 #[.int .i64 N, .int .i64 D]) := ((kz.set_ 0 (.int .i64 N)).set_ 1 (.int .i64 D))
       have R6 := Lib.hid (OneB.later hb6 R2.out)
       have G6 := Lib.hid (G2.out.below hb6)
       obtain ⟨W6, hW6⟩ : ∃ W, (wd.setCell ⟨wc.heap.size, 0, none⟩ (.int .i64 N)).setCell ⟨wc.heap.size, 1, none⟩ (.int .i64 D) = W := ⟨_, rfl⟩
       clear hb6 kz kzz
       rw [hW6] at K6 R6 G6 ⊢
       obtain ⟨g6, hg6⟩ : ∃ g, wc.heap.size = g := ⟨_, rfl⟩
       rw [hg6] at K6 ⊢
       clear hW6 hg6)
    | (have hb6 : Below wb.heap.size wb ((wd.setCell ⟨wb.heap.size, 0, none⟩ (.int .i64 N)).setCell ⟨wb.heap.size, 1, none⟩ (.int .i64 D)) := Below.setCell (Below.setCell hbd' (by first | exact szc | exact Nat.le_refl _) _) (by first | exact szc | exact Nat.le_refl _) _
       have K6 : Hid (Bk ((wd.setCell ⟨wb.heap.size, 0, none⟩ (.int .i64 N)).setCell ⟨wb.heap.size, 1, none⟩ (.int .i64 D)) wb.heap.size 23 #[.int .i64 N, .int .i64 D]) := ((kz.set_ 0 (.int .i64 N)).set_ 1 (.int .i64 D))
       have R6 := Lib.hid (OneB.later hb6 R2.out)
       have G6 := Lib.hid (G2.out.below hb6)
       obtain ⟨W6, hW6⟩ : ∃ W, (wd.setCell ⟨wb.heap.size, 0, none⟩ (.int .i64 N)).setCell ⟨wb.heap.size, 1, none⟩ (.int .i64 D) = W := ⟨_, rfl⟩
       clear hb6 kz kzz
       rw [hW6] at K6 R6 G6 ⊢
       obtain ⟨g6, hg6⟩ : ∃ g, wb.heap.size = g := ⟨_, rfl⟩
       rw [hg6] at K6 ⊢
       clear hW6 hg6)
    obtain ⟨c0, c1, c2, c3⟩ := four R6.out.k
    go_wp2_with fail
    clear c0 c1 c2 c3
    refine (CM.out _).mono ?_
    rintro e w7 ⟨rfl, hb⟩
    have R7 := Lib.hid (OneB.later hb R6.out)
    have K7 := Lib.hid (K6.out.later hb)
    have G7 := Lib.hid (G6.out.below hb)
    clear R6 K6 G6
    obtain ⟨c0, c1, c2, c3⟩ := four R7.out.k
    go_wp2_with fail
    clear c0 c1 c2 c3
    refine (CK.out _).mono ?_
    rintro e w8 ⟨rfl, hb⟩
    have R8 := Lib.hid (OneB.later hb R7.out)
    have K8 := Lib.hid (K7.out.later hb)
    have G8 := Lib.hid (G7.out.below hb)
    clear R7 K7 G7
    obtain ⟨c0, c1, c2, c3⟩ := four R8.out.k
    obtain ⟨z0, z1, y0, y1⟩ := bk2 K8.out
    go_wp2_with fail
    refine (CS.out _ R8.out.b).mono ?_
    rintro e w' ⟨rfl, rfl⟩
    clear c0 c1 c2 c3 z0 z1 y0 y1
    obtain ⟨c0, c1, c2, c3⟩ := four R8.out.k
    go_wp2_with fail
    clear c0 c1 c2 c3
    refine (CQ.out _ R8.out.b).mono ?_
    rintro e w9 ⟨⟨v9, rfl, ho9⟩, hb⟩
    obtain ⟨A9, c9, rfl, hc9, hr9⟩ := rd_of_own ho9
    have R9 := Lib.hid (OneB.later hb R8.out)
    have K9 := Lib.hid (K8.out.later hb)
    have CI := Lib.hid (ints_any _ _ gl.length gl.length cb c9 gl gl w9 (G8.out.below hb) hr9 (by omega) (by omega))
    rw [decide_eq_true rfl] at CI
    clear R8 K8 G8 hb ho9 hr9
    go_wp2_with fail
    refine CI.out.mono ?_
    rintro e w' ⟨rfl, kk, rfl⟩
    have R10 := Lib.hid (OneB.later (blw_drewN (Below.refl _ _) kk) R9.out)
    have K10 := Lib.hid (K9.out.later (blw_drewN (Below.refl _ _) kk))
    obtain ⟨W10, hW10⟩ : ∃ W, w9.drewN kk = W := ⟨_, rfl⟩
    rw [hW10] at R10 K10 ⊢
    clear hW10 R9 K9 CI
    obtain ⟨c0, c1, c2, c3⟩ := four R10.out.k
    go_wp2_with fail
    clear c0 c1 c2 c3
    refine (CZ.out _ R10.out.b).mono ?_
    rintro e w11 ⟨rfl, hb⟩
    have R11 := Lib.hid (OneB.later hb R10.out)
    have K11 := Lib.hid ((K10.out.later hb).alloc (.cells #[.int .i64 N, .int .i64 D] 23))
    clear hb R10 K10
    obtain ⟨z0, z1, y0, y1⟩ := bk2 K11.out
    go_wp2
    go_ret
    refine ⟨rfl, ?_⟩
    have hbw := R11.out.b
    have hbz := hbw.size
    go_grown

end Go.Proofs.Ytlpkjkjgmenhkaa

namespace Go.Proofs.Ytlpkjkjgmenhkaa
open Go.RowKit

open Go.Shelf

set_option maxRecDepth 100000 in
set_option maxHeartbeats 8000000 in
theorem loud_n (L H G P : Int) (B : Option Addr) (n c : Nat) (xs : List Int) (w : World) (gl : List Int) (hgl : gl.length ≤ 1000000) (hr : RdI w B n xs) (hnn : B = none → n = 0 ∧ c = 0) (hn : n ≤ 204)
    (HSH : Hid (∀ w, Calls Try.prog 29 #[.slice B n c] w fun e w' => e = .returned (.bool true) ∧ w = w'))
    (CG : Hid (∀ A d W, RdI W A n xs → n ≤ d → Calls Try.prog 30 #[.agg #[.int .i64 L, .int .i64 H, .int .i64 G, .int .i64 P], .slice A n d] W (OwnRes W 0 gl)))
    (CL : Hid (∀ A d W, RdI W A n xs → n ≤ d → Calls Try.prog 32 #[.agg #[.int .i64 L, .int .i64 H, .int .i64 G, .int .i64 P], .slice A n d] W fun e w' => e = .returned (.tuple #[.agg #[.int .i64 0, .int .i64 0], .int .i64 12]) ∧ Below W.heap.size W w'))
    (CM : Hid (∀ w, Calls Try.prog 33 #[.agg #[.int .i64 L, .int .i64 H, .int .i64 G, .int .i64 P]] w fun e w' => e = .returned (.int .i64 0) ∧ Below w.heap.size w w'))
    (CK : Hid (∀ w, Calls Try.prog 34 #[.agg #[.int .i64 L, .int .i64 H, .int .i64 G, .int .i64 P]] w fun e w' => e = .returned (.int .i64 0) ∧ Below w.heap.size w w'))
    (CS : Hid (∀ W, Below w.heap.size w W → Calls Try.prog 35 #[.slice B n c] W fun e w' => e = .returned (.int .i64 0) ∧ W = w'))
    (CQ : Hid (∀ W, Below w.heap.size w W → Calls Try.prog 37 #[.agg #[.int .i64 L, .int .i64 H, .int .i64 G, .int .i64 P], .slice B n c] W (OwnS W gl)))
    (CZ : Hid (∀ W, Below w.heap.size w W → Calls Try.prog 38 #[.agg #[.int .i64 L, .int .i64 H, .int .i64 G, .int .i64 P], .slice B n c] W fun e w' => e = .returned (.tuple #[.agg #[.int .i64 0, .int .i64 0], .bool false]) ∧ Below W.heap.size W w')) :
    Calls Try.prog 5 #[.agg #[.int .i64 L, .int .i64 H, .int .i64 G, .int .i64 P], .slice B n c] w fun e w' => e = .returned (.bool true) ∧ Below w.heap.size w w' := by
  have R0 := Lib.hid (OneB.start w 42 #[.int .i64 L, .int .i64 H, .int .i64 G, .int .i64 P])
  have HR := Lib.hid hr
  have HNN := Lib.hid hnn
  have hln := hr.1
  clear hr hnn
  go_enter Try.func5, Try.ntmps5
  go_wp2_with fail
  refine (awake_any _).mono ?_
  rintro e w1 ⟨rfl, hb1⟩
  have R1 := Lib.hid (OneB.later hb1 R0.out)
  clear hb1 R0
  go_wp2_with fail
  refine (HSH.out _).mono ?_
  rintro e w' ⟨rfl, rfl⟩
  have hBB : Below w1.heap.size w1 w1 := Below.refl _ _
  have HC : Hid (∀ W, Below w1.heap.size w1 W → W.cell? ⟨w.heap.size, 0, none⟩ = some (.int .i64 L) ∧ W.cell? ⟨w.heap.size, 1, none⟩ = some (.int .i64 H) ∧ W.cell? ⟨w.heap.size, 2, none⟩ = some (.int .i64 G) ∧ W.cell? ⟨w.heap.size, 3, none⟩ = some (.int .i64 P)) := fun W hb => four (R1.out.k.later hb)
  have CC : Hid (∀ W, Below w1.heap.size w1 W → Calls Try.prog 31 #[.slice B n c] W (OwnS W xs)) := fun W hb => copyInts_any B n c xs W HNN.out ((HR.out.below R1.out.b).below hb) (by omega)
  go_wp2
  first | (go_region_held3 (fun w' : World => (w'.cell? ⟨w.heap.size, 0, none⟩ = some (.int .i64 L) ∧ w'.cell? ⟨w.heap.size, 1, none⟩ = some (.int .i64 H) ∧ w'.cell? ⟨w.heap.size, 2, none⟩ = some (.int .i64 G) ∧ w'.cell? ⟨w.heap.size, 3, none⟩ = some (.int .i64 P)) ∧ Below w1.heap.size w1 w') (((refine (fun hI => ⟨HC.out _ hI, hI⟩) ?_; repeat (first | with_reducible assumption | (go_split_ands; with_reducible assumption) | with_reducible refine belowA ?_ _ | with_reducible refine Below.drew ?_ | (with_reducible refine Below.setCell ?_ ?_ _) | exact Nat.le_refl _ | (show _ ≤ _; simp; omega) | (simp; omega) | omega)))) (first
    | (go_at_call 31; ((with_reducible refine (CC.out _ ?_).mono ?_)); (focus (first | assumption | (go_split_ands; assumption))); rintro e wa ⟨⟨va, rfl, hoa⟩, hba⟩; obtain ⟨Aa, ca, rfl, hca, hra⟩ := rd_of_own hoa; clear hoa; rw [hln] at hra hca ⊢; have hba' : Below w1.heap.size w1 wa := Below.trans (by first | assumption | (go_split_ands; assumption)) (hba.mono (Below.size (by first | assumption | (go_split_ands; assumption)))); clear hba)
    | (go_at_call 30; ((with_reducible refine (CG.out _ _ _ hra hca).mono ?_)); rintro e wb ⟨⟨vb, rfl, hob⟩, hbb⟩; obtain ⟨Ab, cb, rfl, hcb, hrb⟩ := rd_of_own hob; clear hob; have hbb' : Below w1.heap.size w1 wb := Below.trans (by first | assumption | (go_split_ands; assumption)) (hbb.mono (Below.size (by first | assumption | (go_split_ands; assumption)))); clear hbb hca hra))) | fail
  have R2 := Lib.hid (OneB.later hbb' R1.out)
  have G2 := Lib.hid hrb
  clear hbb' hba' hBB HC CC R1 hrb
  have hBB : Below wb.heap.size wb wb := Below.refl _ _
  have HC : Hid (∀ W, Below wb.heap.size wb W → W.cell? ⟨w.heap.size, 0, none⟩ = some (.int .i64 L) ∧ W.cell? ⟨w.heap.size, 1, none⟩ = some (.int .i64 H) ∧ W.cell? ⟨w.heap.size, 2, none⟩ = some (.int .i64 G) ∧ W.cell? ⟨w.heap.size, 3, none⟩ = some (.int .i64 P)) := fun W hb => four (R2.out.k.later hb)
  have CC : Hid (∀ W, Below wb.heap.size wb W → Calls Try.prog 31 #[.slice B n c] W (OwnS W xs)) := fun W hb => copyInts_any B n c xs W HNN.out ((HR.out.below R2.out.b).below hb) (by omega)
  have hzn := fun W : World => bk2 (Bk.new W 23 #[.int .i64 0, .int .i64 0])
  go_wp2
  first | (go_region_held3 (fun w' : World => (w'.cell? ⟨w.heap.size, 0, none⟩ = some (.int .i64 L) ∧ w'.cell? ⟨w.heap.size, 1, none⟩ = some (.int .i64 H) ∧ w'.cell? ⟨w.heap.size, 2, none⟩ = some (.int .i64 G) ∧ w'.cell? ⟨w.heap.size, 3, none⟩ = some (.int .i64 P)) ∧ Below wb.heap.size wb w') (((refine (fun hI => ⟨HC.out _ hI, hI⟩) ?_; repeat (first | with_reducible assumption | (go_split_ands; with_reducible assumption) | with_reducible refine belowA ?_ _ | with_reducible refine Below.drew ?_ | (with_reducible refine Below.setCell ?_ ?_ _) | exact Nat.le_refl _ | (show _ ≤ _; simp; omega) | (simp; omega) | omega)))) (first
    | (go_at_call 31; ((with_reducible refine (CC.out _ ?_).mono ?_)); (focus (first | assumption | (go_split_ands; assumption))); rintro e wc ⟨⟨vc, rfl, hoc⟩, hbc⟩; obtain ⟨Ac, cc, rfl, hcc, hrc⟩ := rd_of_own hoc; clear hoc; rw [hln] at hrc hcc ⊢; have hbc' : Below wb.heap.size wb wc := Below.trans (by first | assumption | (go_split_ands; assumption)) (hbc.mono (Below.size (by first | assumption | (go_split_ands; assumption)))); have szc := hbc'.size; (first | (have kz0 := (Bk.new wb 23 #[.int .i64 0, .int .i64 0]).drew.later hbc; have kz : Bk wc wb.heap.size 23 #[.int .i64 0, .int .i64 0] := kz0; have kzz := bk2 kz; clear kz0) | skip); clear hbc)
    | (go_at_call 32; (first | with_reducible refine (CL.out _ _ _ hrc hcc).mono ?_ | with_reducible refine (CL.out _ _ _ (hrc.below (below1 _ _)) hcc).mono ?_); rintro e wd ⟨rfl, hbd⟩; have hbd' : Below wb.heap.size wb wd := Below.trans (by first | assumption | (go_split_ands; assumption)) (hbd.mono (Below.size (by first | assumption | (go_split_ands; assumption)))); have szd := hbd'.size; (first | (have kz := kz.later hbd; have kzz := bk2 kz) | (have kz : Bk wd wc.heap.size 23 #[.int .i64 0, .int .i64 0] := (Bk.new _ 23 #[.int .i64 0, .int .i64 0]).later hbd; have kzz := bk2 kz) | skip); clear hbd hcc hrc))) | fail
  all_goals
    clear hzn
    first
    | (have hb6 : Below wb.heap.size wb (wd.alloc (.cells #[.int .i64 0, .int .i64 0] 23)) := belowA hbd' _
       have K6 : Hid (Bk (wd.alloc (.cells #[.int .i64 0, .int .i64 0] 23)) wd.heap.size 23 #[.int .i64 0, .int .i64 0]) := Bk.new wd 23 #[.int .i64 0, .int .i64 0]
       have R6 := Lib.hid (OneB.later hb6 R2.out)
       have G6 := Lib.hid (G2.out.below hb6)
       obtain ⟨W6, hW6⟩ : ∃ W, wd.alloc (.cells #[.int .i64 0, .int .i64 0] 23) = W := ⟨_, rfl⟩
       clear hb6
       rw [hW6] at K6 R6 G6 ⊢
       obtain ⟨g6, hg6⟩ : ∃ g, wd.heap.size = g := ⟨_, rfl⟩
       rw [hg6] at K6 ⊢
       clear hW6 hg6)
    | (have hb6 : Below wb.heap.size wb ((wd.setCell ⟨wc.heap.size, 0, none⟩ (.int .i64 0)).setCell ⟨wc.heap.size, 1, none⟩ (.int .i64 0)) := Below.setCell (Below.setCell hbd' (by first | exact szc | exact Nat.le_refl _) _) (by first | exact szc | exact Nat.le_refl _) _
       have K6 : Hid (Bk ((wd.setCell ⟨wc.heap.size, 0, none⟩ (.int .i64 0)).setCell ⟨wc.heap.size, 1, none⟩ (.int .i64 0)) wc.heap.size 23 #[.int .i64 0, .int .i64 0]) := ((kz.set_ 0 (.int .i64 0)).set_ 1 (.int .i64 0))
       have R6 := Lib.hid (OneB.later hb6 R2.out)
       have G6 := Lib.hid (G2.out.below hb6)
       obtain ⟨W6, hW6⟩ : ∃ W, (wd.setCell ⟨wc.heap.size, 0, none⟩ (.int .i64 0)).setCell ⟨wc.heap.size, 1, none⟩ (.int .i64 0) = W := ⟨_, rfl⟩
       clear hb6 kz kzz
       rw [hW6] at K6 R6 G6 ⊢
       obtain ⟨g6, hg6⟩ : ∃ g, wc.heap.size = g := ⟨_, rfl⟩
       rw [hg6] at K6 ⊢
       clear hW6 hg6)
    | (have hb6 : Below wb.heap.size wb ((wd.setCell ⟨wb.heap.size, 0, none⟩ (.int .i64 0)).setCell ⟨wb.heap.size, 1, none⟩ (.int .i64 0)) := Below.setCell (Below.setCell hbd' (by first | exact szc | exact Nat.le_refl _) _) (by first | exact szc | exact Nat.le_refl _) _
       have K6 : Hid (Bk ((wd.setCell ⟨wb.heap.size, 0, none⟩ (.int .i64 0)).setCell ⟨wb.heap.size, 1, none⟩ (.int .i64 0)) wb.heap.size 23 #[.int .i64 0, .int .i64 0]) := ((kz.set_ 0 (.int .i64 0)).set_ 1 (.int .i64 0))
       have R6 := Lib.hid (OneB.later hb6 R2.out)
       have G6 := Lib.hid (G2.out.below hb6)
       obtain ⟨W6, hW6⟩ : ∃ W, (wd.setCell ⟨wb.heap.size, 0, none⟩ (.int .i64 0)).setCell ⟨wb.heap.size, 1, none⟩ (.int .i64 0) = W := ⟨_, rfl⟩
       clear hb6 kz kzz
       rw [hW6] at K6 R6 G6 ⊢
       obtain ⟨g6, hg6⟩ : ∃ g, wb.heap.size = g := ⟨_, rfl⟩
       rw [hg6] at K6 ⊢
       clear hW6 hg6)
    obtain ⟨c0, c1, c2, c3⟩ := four R6.out.k
    go_wp2_with fail
    clear c0 c1 c2 c3
    refine (CM.out _).mono ?_
    rintro e w7 ⟨rfl, hb⟩
    have R7 := Lib.hid (OneB.later hb R6.out)
    have K7 := Lib.hid (K6.out.later hb)
    have G7 := Lib.hid (G6.out.below hb)
    clear R6 K6 G6
    obtain ⟨c0, c1, c2, c3⟩ := four R7.out.k
    go_wp2_with fail
    clear c0 c1 c2 c3
    refine (CK.out _).mono ?_
    rintro e w8 ⟨rfl, hb⟩
    have R8 := Lib.hid (OneB.later hb R7.out)
    have K8 := Lib.hid (K7.out.later hb)
    have G8 := Lib.hid (G7.out.below hb)
    clear R7 K7 G7
    obtain ⟨c0, c1, c2, c3⟩ := four R8.out.k
    obtain ⟨z0, z1, y0, y1⟩ := bk2 K8.out
    go_wp2_with fail
    refine (CS.out _ R8.out.b).mono ?_
    rintro e w' ⟨rfl, rfl⟩
    clear c0 c1 c2 c3 z0 z1 y0 y1
    obtain ⟨c0, c1, c2, c3⟩ := four R8.out.k
    go_wp2_with fail
    clear c0 c1 c2 c3
    refine (CQ.out _ R8.out.b).mono ?_
    rintro e w9 ⟨⟨v9, rfl, ho9⟩, hb⟩
    obtain ⟨A9, c9, rfl, hc9, hr9⟩ := rd_of_own ho9
    have R9 := Lib.hid (OneB.later hb R8.out)
    have K9 := Lib.hid (K8.out.later hb)
    have CI := Lib.hid (ints_any _ _ gl.length gl.length cb c9 gl gl w9 (G8.out.below hb) hr9 (by omega) (by omega))
    rw [decide_eq_true rfl] at CI
    clear R8 K8 G8 hb ho9 hr9
    go_wp2_with fail
    refine CI.out.mono ?_
    rintro e w' ⟨rfl, kk, rfl⟩
    have R10 := Lib.hid (OneB.later (blw_drewN (Below.refl _ _) kk) R9.out)
    have K10 := Lib.hid (K9.out.later (blw_drewN (Below.refl _ _) kk))
    obtain ⟨W10, hW10⟩ : ∃ W, w9.drewN kk = W := ⟨_, rfl⟩
    rw [hW10] at R10 K10 ⊢
    clear hW10 R9 K9 CI
    obtain ⟨c0, c1, c2, c3⟩ := four R10.out.k
    go_wp2_with fail
    clear c0 c1 c2 c3
    refine (CZ.out _ R10.out.b).mono ?_
    rintro e w11 ⟨rfl, hb⟩
    have R11 := Lib.hid (OneB.later hb R10.out)
    have K11 := Lib.hid ((K10.out.later hb).alloc (.cells #[.int .i64 0, .int .i64 0] 23))
    clear hb R10 K10
    obtain ⟨z0, z1, y0, y1⟩ := bk2 K11.out
    go_wp2
    go_ret
    refine ⟨rfl, ?_⟩
    have hbw := R11.out.b
    have hbz := hbw.size
    go_grown

end Go.Proofs.Ytlpkjkjgmenhkaa

namespace Go.Proofs.Ytlpkjkjgmenhkaa
open Go.RowKit

open Go.Shelf

set_option maxRecDepth 100000 in
theorem loud_x (L H G P : Int) (B : Option Addr) (n c : Nat) (w : World)
    (HSH : Hid (∀ w, Calls Try.prog 29 #[.slice B n c] w fun e w' => e = .returned (.bool false) ∧ w = w')) :
    Calls Try.prog 5 #[.agg #[.int .i64 L, .int .i64 H, .int .i64 G, .int .i64 P], .slice B n c] w fun e w' => e = .returned (.bool true) ∧ Below w.heap.size w w' := by
  have R0 := Lib.hid (OneB.start w 42 #[.int .i64 L, .int .i64 H, .int .i64 G, .int .i64 P])
  go_enter Try.func5, Try.ntmps5
  go_wp2_with fail
  refine (awake_any _).mono ?_
  rintro e w1 ⟨rfl, hb1⟩
  have R1 := Lib.hid (OneB.later hb1 R0.out)
  clear hb1 R0
  go_wp2_with fail
  refine (HSH.out _).mono ?_
  rintro e w' ⟨rfl, rfl⟩
  go_wp2
  go_ret
  exact ⟨rfl, R1.out.b⟩

theorem loudness_any (L H G P : Int) (B : Option Addr) (n c : Nat) (xs : List Int) (w : World) (hr : RdI w B n xs) (hnc : n ≤ c) (_hcm : c ≤ 9223372036854775807) (hnn : B = none → n = 0 ∧ c = 0) :
    Calls Try.prog 5 #[.agg #[.int .i64 L, .int .i64 H, .int .i64 G, .int .i64 P], .slice B n c] w fun e w' => e = .returned (.bool true) ∧ Below w.heap.size w w' := by
  have HSH := fun w => short_any B n c w
  by_cases hs : n ≤ 60 ∨ (200 < n ∧ n ≤ 204)
  case neg =>
    have hv : (decide (n ≤ 60) || (decide (200 < n) && decide (n ≤ 204))) = false := by
      simp only [Bool.or_eq_false_iff, Bool.and_eq_false_iff, decide_eq_false_iff_not]
      omega
    rw [hv] at HSH
    exact loud_x L H G P B n c w HSH
  have hv : (decide (n ≤ 60) || (decide (200 < n) && decide (n ≤ 204))) = true := by
    simp only [Bool.or_eq_true, Bool.and_eq_true, decide_eq_true_eq]
    exact hs
  rw [hv] at HSH
  have hn : n ≤ 204 := by omega
  have CG := fun A d W (h : RdI W A n xs) (hd : n ≤ d) => GatedBlocks_any L H G P A n d xs W h (by omega) hd
  have CL := fun A d W (h : RdI W A n xs) (hd : n ≤ d) => LoudnessOf_any L H G P A n d xs W h (by omega) hd
  have CM := fun w => refMeterErr_any L H G P w
  have CK := fun w => CheckMeter_any L H G P w
  have CS := fun W (hb : Below w.heap.size w W) => refSignalErr_any B n c xs W (hr.below hb) (by omega)
  have hE : gbE L H G P xs = firstNZ [mtE L H G P, sgE xs] := rfl
  by_cases hm : mtE L H G P = 0
  case neg =>
    have he : gbE L H G P xs = mtE L H G P := by rw [hE]; simp [firstNZ, hm]
    have hl : gbL L H G P xs = [] := by unfold gbL; rw [if_neg (by rw [he]; exact hm)]
    have ho : loR L H G P xs = ((0, 0), mtE L H G P) := by unfold loR; rw [if_neg (by rw [he]; exact hm), he]
    rw [he, hl] at CG
    rw [ho] at CL
    exact loud_m L H G P B n c xs w _ hm hr hnn hn HSH CG CL CM CK
  rw [hm] at CM CK
  by_cases hsg : sgE xs = 0
  case neg =>
    have he : gbE L H G P xs = sgE xs := by rw [hE, hm]; simp [firstNZ, hsg]
    have hl : gbL L H G P xs = [] := by unfold gbL; rw [if_neg (by rw [he]; exact hsg)]
    have ho : loR L H G P xs = ((0, 0), sgE xs) := by unfold loR; rw [if_neg (by rw [he]; exact hsg), he]
    rw [he, hl] at CG
    rw [ho] at CL
    exact loud_s L H G P B n c xs w _ hsg hr hnn hn HSH CG CL CM CK CS
  rw [hsg] at CS
  have he : gbE L H G P xs = 0 := by rw [hE, hm, hsg]; rfl
  obtain ⟨⟨hL, hH, hG, hP⟩, hxl, hsm⟩ := gbE_zero he
  obtain ⟨l, rfl⟩ : ∃ l : Nat, L = l := ⟨L.toNat, by omega⟩
  obtain ⟨h, rfl⟩ : ∃ h : Nat, H = h := ⟨H.toNat, by omega⟩
  have hn2 : n ≤ 200 := by have := hr.1; omega
  have hgl : gbL l h G P xs = ctL (G * l) P (esL xs l h) := by unfold gbL; rw [if_pos he]; rfl
  have hlo : loR l h G P xs = loF l (esL xs l h) (ctN (G * l) P (esL xs l h) (esL xs l h).length) := by unfold loR; rw [if_pos he]; rfl
  have CQ := fun W (hb : Below w.heap.size w W) => refGated_any l h G P B n c xs W (hr.below hb) hn2 hnc (by omega) (by omega) hsm hG hP
  have CZ := fun W (hb : Below w.heap.size w W) => refLoudness_any l h G P B n c xs W (hr.below hb) hn2 hnc (by omega) (by omega) hsm hG hP
  have hglen : (ctL (G * (l : Int)) P (esL xs l h)).length ≤ 1000000 := by
    have h1 := ctL_len (G * (l : Int)) P (esL xs l h)
    have h2 := esL_len xs l h
    have h3 := kN_le (n := xs.length) (L := l) (H := h) (by omega) (by omega)
    omega
  rw [he, hgl] at CG
  rw [hlo] at CL
  obtain ⟨ids, hids⟩ : ∃ ids, ctN (G * (l : Int)) P (esL xs l h) (esL xs l h).length = ids := ⟨_, rfl⟩
  rw [hids] at CL CZ
  by_cases hz : ids.length = 0
  · have e1 : loF l (esL xs l h) ids = ((0, 0), 12) := if_pos hz
    have e2 : loQ l (esL xs l h) ids = ((0, 0), false) := if_pos hz
    rw [e1] at CL
    rw [e2] at CZ
    exact loud_n l h G P B n c xs w _ hglen hr hnn hn HSH CG CL CM CK CS CQ CZ
  · have e1 : loF l (esL xs l h) ids = ((fN (lsS (esL xs l h) ids) (ids.length * l), fD (lsS (esL xs l h) ids) (ids.length * l)), 0) := if_neg hz
    have e2 : loQ l (esL xs l h) ids = ((fN (lsS (esL xs l h) ids) (ids.length * l), fD (lsS (esL xs l h) ids) (ids.length * l)), true) := if_neg hz
    rw [e1] at CL
    rw [e2] at CZ
    exact loud_f l h G P B n c xs w _ _ _ hglen hr hnn hn HSH CG CL CM CK CS CQ CZ

end Go.Proofs.Ytlpkjkjgmenhkaa

namespace Go.Proofs.Ytlpkjkjgmenhkaa.op
open Go.ChangeShapes Go.WideShapes Go.ChangeAt Go.RowKit

theorem own : ownKnob Try.prog.godebug = none := by kernel_rfl
theorem laidOut : laidOutB Try.prog = true := by kernel_rfl
theorem cellsInt1 : Try.prog.cellsOf 3 = 1 := by kernel_rfl
theorem cellsI : Try.prog.cellsOf 3 = 1 := cellsInt1
theorem cellsInts : Try.prog.cellsOf 43 = 1 := by kernel_rfl
theorem lt_of_cell {w : World} {a : Addr} {v : Value} (h : w.cell? a = some v) : a.block < w.heap.size := World.block_lt_of_cell? _ _ h

set_option maxRecDepth 100000 in
theorem open_frac {H : Type} {enc : TypeId × Value → H} {w : World} {base : Nat} {spare : Nat → Bool} {held : Bool} {r : Reach} {b0 : Nat} {v : Value} {d : DataW H} {p : List MemPlace}
    (hv : Value.okWide Try.prog w r b0 23 v) (h : DataW.Trod enc Try.prog w base spare held 23 v d p) :
    ∃ z0 z1 : Int, v = .agg #[.int .i64 z0, .int .i64 z1] := by
  obtain ⟨cs, rfl, hsz⟩ := okWide_struct Try.underlying23 hv
  obtain ⟨fuel, hf⟩ := h
  obtain ⟨xs, n, _, _, hl, hxl, hg⟩ := DataW.trod_struct Try.underlying23 hf
  have h3 : Try.prog.cellsOf 23 = 2 := by kernel_rfl
  obtain ⟨l⟩ := cs
  have hl3 : l.length = 2 := by rw [← h3]; simpa using hsz
  match l, hl3, xs, hxl with
  | [c0, c1], _, [y0, y1], _ =>
    have g0 := hg 0 _ rfl
    have g1 := hg 1 _ rfl
    simp [Value.cells, cellsI] at g0 g1
    obtain ⟨z0, e0, _, _⟩ := DataW.trod_int Try.underlying3 g0
    obtain ⟨z1, e1, _, _⟩ := DataW.trod_int Try.underlying3 g1
    simp at e0 e1
    exact ⟨z0, z1, by rw [e0, e1]⟩

set_option maxRecDepth 100000 in
theorem open_test {H : Type} {enc : TypeId × Value → H} {w : World} {base : Nat} {spare : Nat → Bool} {held : Bool} {r : Reach} {b0 : Nat} {v : Value} {d : DataW H} {p : List MemPlace}
    (hv : Value.okWide Try.prog w r b0 108 v) (h : DataW.Trod enc Try.prog w base spare held 108 v d p) :
    ∃ z0 z1 z2 : Int, v = .agg #[.int .i64 z0, .int .i64 z1, .int .i64 z2] := by
  obtain ⟨cs, rfl, hsz⟩ := okWide_struct Try.underlying108 hv
  obtain ⟨fuel, hf⟩ := h
  obtain ⟨xs, n, _, _, hl, hxl, hg⟩ := DataW.trod_struct Try.underlying108 hf
  have h3 : Try.prog.cellsOf 108 = 3 := by kernel_rfl
  obtain ⟨l⟩ := cs
  have hl3 : l.length = 3 := by rw [← h3]; simpa using hsz
  match l, hl3, xs, hxl with
  | [c0, c1, c2], _, [y0, y1, y2], _ =>
    have g0 := hg 0 _ rfl
    have g1 := hg 1 _ rfl
    have g2 := hg 2 _ rfl
    simp [Value.cells, cellsI] at g0 g1 g2
    obtain ⟨z0, e0, _, _⟩ := DataW.trod_int Try.underlying3 g0
    obtain ⟨z1, e1, _, _⟩ := DataW.trod_int Try.underlying3 g1
    obtain ⟨z2, e2, _, _⟩ := DataW.trod_int Try.underlying3 g2
    simp at e0 e1 e2
    exact ⟨z0, z1, z2, by rw [e0, e1, e2]⟩

set_option maxRecDepth 100000 in
theorem open_meter {H : Type} {enc : TypeId × Value → H} {w : World} {base : Nat} {spare : Nat → Bool} {held : Bool} {r : Reach} {b0 : Nat} {v : Value} {d : DataW H} {p : List MemPlace}
    (hv : Value.okWide Try.prog w r b0 42 v) (h : DataW.Trod enc Try.prog w base spare held 42 v d p) :
    ∃ z0 z1 z2 z3 : Int, v = .agg #[.int .i64 z0, .int .i64 z1, .int .i64 z2, .int .i64 z3] := by
  obtain ⟨cs, rfl, hsz⟩ := okWide_struct Try.underlying42 hv
  obtain ⟨fuel, hf⟩ := h
  obtain ⟨xs, n, _, _, hl, hxl, hg⟩ := DataW.trod_struct Try.underlying42 hf
  have h3 : Try.prog.cellsOf 42 = 4 := by kernel_rfl
  obtain ⟨l⟩ := cs
  have hl3 : l.length = 4 := by rw [← h3]; simpa using hsz
  match l, hl3, xs, hxl with
  | [c0, c1, c2, c3], _, [y0, y1, y2, y3], _ =>
    have g0 := hg 0 _ rfl
    have g1 := hg 1 _ rfl
    have g2 := hg 2 _ rfl
    have g3 := hg 3 _ rfl
    simp [Value.cells, cellsI] at g0 g1 g2 g3
    obtain ⟨z0, e0, _, _⟩ := DataW.trod_int Try.underlying3 g0
    obtain ⟨z1, e1, _, _⟩ := DataW.trod_int Try.underlying3 g1
    obtain ⟨z2, e2, _, _⟩ := DataW.trod_int Try.underlying3 g2
    obtain ⟨z3, e3, _, _⟩ := DataW.trod_int Try.underlying3 g3
    simp at e0 e1 e2 e3
    exact ⟨z0, z1, z2, z3, by rw [e0, e1, e2, e3]⟩

/-- Numbers as they come in. -/
theorem open_rd {H : Type} {enc : TypeId × Value → H} {w : World} {base : Nat} {spare : Nat → Bool} {held : Bool} {A : Option Addr} {n c : Nat} {d : DataW H} {p : List MemPlace}
    (h : DataW.Trod enc Try.prog w base spare held 43 (.slice A n c) d p) : ∃ l, RdI w A n l ∧ n ≤ c ∧ c ≤ 9223372036854775807 ∧ (A = none → n = 0 ∧ c = 0) := by
  obtain ⟨fuel, hf⟩ := h
  rcases open_ints Try.underlying43 Try.underlying3 cellsInt1 hf with ⟨hcs, _⟩ | ⟨a, len, cap, zs, hcs, _, hl, hm, hz, _, hcell, _⟩
  · simp [Value.cells] at hcs
    obtain ⟨rfl, rfl, rfl⟩ := hcs
    exact ⟨[], ⟨rfl, fun h => absurd h (by omega)⟩, by omega, by omega, fun _ => ⟨rfl, rfl⟩⟩
  · simp [Value.cells] at hcs
    obtain ⟨rfl, rfl, rfl⟩ := hcs
    have hlen : n ≤ zs.length := by rw [hz]; split <;> omega
    refine ⟨zs.take n, ⟨by rw [List.length_take]; omega, fun hn => ⟨a, rfl, ?_, fun j hj => ?_⟩⟩, hl, by unfold maxLen at hm; omega, fun h => by cases h⟩
    · have := lt_of_cell (hcell 0 (by omega))
      rwa [addBlock] at this
    · rw [hcell j (by omega)]
      simp [List.getD_eq_getElem?_getD, List.getElem?_take, hj]

/-- Numbers of a field as they come in. -/
theorem open_rdf {H : Type} {enc : TypeId × Value → H} {w : World} {base : Nat} {spare : Nat → Bool} {held : Bool} {fuel : Nat} {v : Value} {x : DataW H × List MemPlace}
    (hf : DataW.trod enc Try.prog w base spare held fuel 43 [v] = some x) : ∃ A n c l, v = .slice A n c ∧ RdI w A n l ∧ n ≤ c ∧ c ≤ 9223372036854775807 ∧ (A = none → n = 0 ∧ c = 0) := by
  rcases open_ints Try.underlying43 Try.underlying3 cellsInt1 hf with ⟨hcs, _⟩ | ⟨a, len, cap, zs, hcs, _, hl, hm, hz, _, hcell, _⟩
  · injection hcs with hcs
    exact ⟨none, 0, 0, [], hcs, ⟨rfl, fun h => absurd h (by omega)⟩, by omega, by omega, fun _ => ⟨rfl, rfl⟩⟩
  · injection hcs with hcs
    have hlen : len ≤ zs.length := by rw [hz]; split <;> omega
    refine ⟨some a, len, cap, zs.take len, hcs, ⟨by rw [List.length_take]; omega, fun hn => ⟨a, rfl, ?_, fun j hj => ?_⟩⟩, hl, by unfold maxLen at hm; omega, fun h => by cases h⟩
    · have := lt_of_cell (hcell 0 (by omega))
      rwa [addBlock] at this
    · rw [hcell j (by omega)]
      simp [List.getD_eq_getElem?_getD, List.getElem?_take, hj]
end Go.Proofs.Ytlpkjkjgmenhkaa.op

namespace Go.Proofs.Ytlpkjkjgmenhkaa.op
open Go.ChangeShapes Go.WideShapes Go.ChangeAt Go.RowKit

set_option maxRecDepth 100000 in
theorem openb_frac {H : Type} {enc : TypeId × Value → H} {w : World} {base : Nat} {spare : Nat → Bool} {held : Bool} {r : Reach} {b0 : Nat} {v : Value} {d : DataW H} {p : List MemPlace}
    (hv : Value.okWide Try.prog w r b0 23 v) (h : DataW.Trod enc Try.prog w base spare held 23 v d p) :
    ∃ z0 z1 : Int, v = .agg #[.int .i64 z0, .int .i64 z1] ∧ (-9223372036854775808 ≤ z0 ∧ z0 ≤ 9223372036854775807) ∧ (-9223372036854775808 ≤ z1 ∧ z1 ≤ 9223372036854775807) := by
  obtain ⟨cs, rfl, hsz⟩ := okWide_struct Try.underlying23 hv
  obtain ⟨fuel, hf⟩ := h
  obtain ⟨xs, n, _, _, hl, hxl, hg⟩ := DataW.trod_struct Try.underlying23 hf
  have h3 : Try.prog.cellsOf 23 = 2 := by kernel_rfl
  obtain ⟨l⟩ := cs
  have hl3 : l.length = 2 := by rw [← h3]; simpa using hsz
  match l, hl3, xs, hxl with
  | [c0, c1], _, [y0, y1], _ =>
    have g0 := hg 0 _ rfl
    have g1 := hg 1 _ rfl
    simp [Value.cells, cellsI] at g0 g1
    obtain ⟨z0, e0, _, f0⟩ := DataW.trod_int Try.underlying3 g0
    obtain ⟨z1, e1, _, f1⟩ := DataW.trod_int Try.underlying3 g1
    simp at e0 e1
    exact ⟨z0, z1, by rw [e0, e1], bounds_i64 f0, bounds_i64 f1⟩

set_option maxRecDepth 100000 in
theorem openb_meter {H : Type} {enc : TypeId × Value → H} {w : World} {base : Nat} {spare : Nat → Bool} {held : Bool} {r : Reach} {b0 : Nat} {v : Value} {d : DataW H} {p : List MemPlace}
    (hv : Value.okWide Try.prog w r b0 42 v) (h : DataW.Trod enc Try.prog w base spare held 42 v d p) :
    ∃ z0 z1 z2 z3 : Int, v = .agg #[.int .i64 z0, .int .i64 z1, .int .i64 z2, .int .i64 z3] ∧ (-9223372036854775808 ≤ z0 ∧ z0 ≤ 9223372036854775807) ∧ (-9223372036854775808 ≤ z1 ∧ z1 ≤ 9223372036854775807) ∧ (-9223372036854775808 ≤ z2 ∧ z2 ≤ 9223372036854775807) ∧ (-9223372036854775808 ≤ z3 ∧ z3 ≤ 9223372036854775807) := by
  obtain ⟨cs, rfl, hsz⟩ := okWide_struct Try.underlying42 hv
  obtain ⟨fuel, hf⟩ := h
  obtain ⟨xs, n, _, _, hl, hxl, hg⟩ := DataW.trod_struct Try.underlying42 hf
  have h3 : Try.prog.cellsOf 42 = 4 := by kernel_rfl
  obtain ⟨l⟩ := cs
  have hl3 : l.length = 4 := by rw [← h3]; simpa using hsz
  match l, hl3, xs, hxl with
  | [c0, c1, c2, c3], _, [y0, y1, y2, y3], _ =>
    have g0 := hg 0 _ rfl
    have g1 := hg 1 _ rfl
    have g2 := hg 2 _ rfl
    have g3 := hg 3 _ rfl
    simp [Value.cells, cellsI] at g0 g1 g2 g3
    obtain ⟨z0, e0, _, f0⟩ := DataW.trod_int Try.underlying3 g0
    obtain ⟨z1, e1, _, f1⟩ := DataW.trod_int Try.underlying3 g1
    obtain ⟨z2, e2, _, f2⟩ := DataW.trod_int Try.underlying3 g2
    obtain ⟨z3, e3, _, f3⟩ := DataW.trod_int Try.underlying3 g3
    simp at e0 e1 e2 e3
    exact ⟨z0, z1, z2, z3, by rw [e0, e1, e2, e3], bounds_i64 f0, bounds_i64 f1, bounds_i64 f2, bounds_i64 f3⟩

theorem openb_int {H : Type} {enc : TypeId × Value → H} {w : World} {base : Nat} {spare : Nat → Bool} {held : Bool} {z : Int} {d : DataW H} {p : List MemPlace}
    (h : DataW.Trod enc Try.prog w base spare held 3 (.int .i64 z) d p) : -9223372036854775808 ≤ z ∧ z ≤ 9223372036854775807 := by
  obtain ⟨fuel, hf⟩ := h
  obtain ⟨z0, e0, _, f0⟩ := DataW.trod_int Try.underlying3 hf
  simp [Value.cells] at e0
  subst e0
  exact bounds_i64 f0
end Go.Proofs.Ytlpkjkjgmenhkaa.op

