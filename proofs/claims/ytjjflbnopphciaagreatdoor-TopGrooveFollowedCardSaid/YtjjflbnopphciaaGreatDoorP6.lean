import Derived.Test.YtjjflbnopphciaaGreatDoorXA
import Derived.Test.YtjjflbnopphciaaGreatDoorR6
namespace Go.Proofs.YtjjflbnopphciaaGreatDoor
open Go.RowKit

theorem far3 {W : World} {a : Addr} {v : Value} {B : Nat} {x y z : Value} (h : W.cell? a = some v) (hne : B + 1 ≠ a.block) : (((W.setCell ⟨B + 1, 0, none⟩ x).setCell ⟨B + 1, 1, none⟩ y).setCell ⟨B + 1, 2, none⟩ z).cell? a = some v := by
  rw [World.cell?_setCell_far _ _ _ _ hne, World.cell?_setCell_far _ _ _ _ hne, World.cell?_setCell_far _ _ _ _ hne]
  exact h
theorem results_cell_tmp {P : Program} {fn : Func} {p q : Tmp} {ty : TypeId} (h : fn.results = #[.cell p ty, .tmp q]) (tmps : Array Value) (w : World) (g : Nat) (t : TypeId) (cs : Array Value) (fr : Nat × Nat) (d : TypeDesc)
    (hp : tmps.getD p undef = .pointer (some ⟨g, 0, none⟩)) (hg : w.heap[g]? = some (.cells cs t fr))
    (hu : P.underlying ty = some d) (hd : (match d with | .struct _ | .array _ _ => true | _ => false) = true) (hi : (P.info? ty).map (·.size) = some cs.size) :
    (results fn tmps).run P w = .ok (.tuple #[.agg cs, tmps.getD q undef]) w := by
  have hp' : tmps[p]?.getD undef = .pointer (some ⟨g, 0, none⟩) := by simpa using hp
  simp [results, h, hp', asAddr, run_loadVar_row w g t ty cs fr d hg hu hd hi]
theorem taskSize : (Tryz.prog.info? 104).map (·.size) = some 3 := by kernel_rfl

def taskE (rows : List (List Int)) (b : Int) : Int := if gridE 40 12 rows = 0 then (if fromB 0 1000 [b] = true then 0 else 2) else gridE 40 12 rows

theorem checked_err (A : Option Addr) (n c : Nat) (rows : List (List Int)) (b : Int) (w : World) (hr : RdG w A n rows) (hn : n ≤ 9223372036854775806) (hE : taskE rows b ≠ 0) :
    Calls Tryz.prog 49 #[.agg #[.slice A n c, .int .i64 b]] w fun e w' => e = .returned (.tuple #[.agg #[.slice none 0 0, .int .i64 0, .int .i64 0], .int .i64 (taskE rows b)]) ∧ Below w.heap.size w w' := by
  have hb0 : Below w.heap.size w ((w.alloc (.cells #[.slice A n c, .int .i64 b] 55)).alloc (.cells #[.slice none 0 0, .int .i64 0, .int .i64 0] 104)) := ((Below.refl _ w).alloc (Nat.le_refl _) _).alloc (by simp) _
  have CS := Lib.hid (checkStrip_any A n c rows _ (hr.below hb0) hn)
  obtain ⟨E, hEe⟩ : ∃ E, gridE 40 12 rows = E := ⟨_, rfl⟩
  rw [hEe] at CS
  unfold taskE at hE ⊢
  rw [hEe] at hE ⊢
  clear hr hEe
  by_cases h0 : E = 0
  · subst h0
    rw [if_pos rfl] at hE ⊢
    by_cases h1 : fromB 0 1000 [b] = true
    · rw [if_pos h1] at hE; exact absurd rfl hE
    · rw [if_neg h1]
      have h2 : fromB 0 1000 [b] = false := by simpa using h1
      have CA : Hid (∀ W g, W.cell? ⟨g, 0, none⟩ = some (.int .i64 b) → Calls Tryz.prog 45 #[.int .i64 0, .int .i64 1000, .slice (some ⟨g, 0, none⟩) 1 1] W fun e w' => e = .returned (.bool false) ∧ W = w') := fun W g h => by rw [← h2]; exact areFrom_any _ 1 1 [b] 0 1000 W (lit1 _ _ _ h) (by omega)
      clear h1 h2 hE
      go_enter Tryz.func49, Tryz.ntmps49
      go_wp2_with (first | (go_at_call 78; refine CS.out.mono ?_; rintro e w' ⟨rfl, rfl⟩) | (go_at_call 45; refine (CA.out _ _ (by simp [go_sem])).mono ?_; rintro e w' ⟨rfl, rfl⟩))
      refine bodyPost_ret (v := .tuple #[.agg #[.slice none 0 0, .int .i64 0, .int .i64 0], .int .i64 2]) (by simp [results, Tryz.results49, go_sem]) rfl ⟨rfl, ?_⟩
      exact hb0.alloc (by simp; omega) _
  · rw [if_neg h0]
    have h1 : (E != 0) = true := by simpa using h0
    clear h0 hE
    go_enter Tryz.func49, Tryz.ntmps49
    go_wp2_with (go_at_call 78; refine CS.out.mono ?_; rintro e w' ⟨rfl, rfl⟩)
    refine bodyPost_ret (v := .tuple #[.agg #[.slice none 0 0, .int .i64 0, .int .i64 0], .int .i64 E]) (by simp [results, Tryz.results49, go_sem]) rfl ⟨rfl, ?_⟩
    exact hb0

set_option maxRecDepth 100000 in
set_option maxHeartbeats 1000000 in
theorem checked_ok (ad : Addr) (n c m c' : Nat) (B : Option Addr) (rows : List (List Int)) (b : Int) (w : World) (hr : RdG w (some ad) n rows) (hn : n ≤ 9223372036854775806) (hadb : ad.block < w.heap.size) (hck : w.cell? ad = some (.slice B m c')) (hn0 : 0 < n) (hE : taskE rows b = 0) :
    Calls Tryz.prog 49 #[.agg #[.slice (some ad) n c, .int .i64 b]] w fun e w' => e = .returned (.tuple #[.agg #[.slice (some ad) n c, .int .i64 b, .int .i64 m], .int .i64 0]) ∧ Below w.heap.size w w' := by
  obtain ⟨W0, hW0⟩ : ∃ W0, ((w.alloc (.cells #[.slice (some ad) n c, .int .i64 b] 55)).alloc (.cells #[.slice none 0 0, .int .i64 0, .int .i64 0] 104)) = W0 := ⟨_, rfl⟩
  have hb0 : Below w.heap.size w W0 := by rw [← hW0]; exact ((Below.refl _ w).alloc (Nat.le_refl _) _).alloc (by simp) _
  have CS := Lib.hid (checkStrip_any (some ad) n c rows _ (hr.below hb0) hn)
  have h0 : gridE 40 12 rows = 0 := by
    unfold taskE at hE
    by_cases h : gridE 40 12 rows = 0
    · exact h
    · rw [if_neg h] at hE; exact absurd hE h
  have h2 : fromB 0 1000 [b] = true := by
    unfold taskE at hE
    rw [if_pos h0] at hE
    by_cases h : fromB 0 1000 [b] = true
    · exact h
    · rw [if_neg h] at hE; omega
  rw [h0] at CS
  have CA : Hid (∀ W g, W.cell? ⟨g, 0, none⟩ = some (.int .i64 b) → Calls Tryz.prog 45 #[.int .i64 0, .int .i64 1000, .slice (some ⟨g, 0, none⟩) 1 1] W fun e w' => e = .returned (.bool true) ∧ W = w') := fun W g h => by rw [← h2]; exact areFrom_any _ 1 1 [b] 0 1000 W (lit1 _ _ _ h) (by omega)
  have q0 : W0.cell? ⟨w.heap.size, 0, none⟩ = some (.slice (some ad) n c) := by rw [← hW0]; simp [go_sem]
  have q1 : W0.cell? ⟨w.heap.size, 1, none⟩ = some (.int .i64 b) := by rw [← hW0]; simp [go_sem]
  have q2 : W0.cell? ad = some (.slice B m c') := (hb0.cell hadb).trans hck
  have qb : Bk W0 (w.heap.size + 1) 104 #[.slice none 0 0, .int .i64 0, .int .i64 0] := by
    rw [← hW0]
    have := Bk.new (w.alloc (.cells #[.slice (some ad) n c, .int .i64 b] 55)) 104 #[.slice none 0 0, .int .i64 0, .int .i64 0]
    simpa using this
  have HB0 := Lib.hid hb0
  have HQ := Lib.hid qb
  have hz0 : w.heap.size + 2 ≤ W0.heap.size := by rw [← hW0]; simp
  clear hr hE h0 h2 hck hb0 qb
  go_enter Tryz.func49, Tryz.ntmps49
  go_wp2_with fail
  refine CS.out.mono ?_
  rintro e w' ⟨rfl, rfl⟩
  clear hW0
  go_wp2_with fail
  refine (CA.out _ _ (by simp [go_sem])).mono ?_
  rintro e w' ⟨rfl, rfl⟩
  obtain ⟨W1, hW1⟩ : ∃ W1, (W0.alloc (.cells #[.int .i64 b] 3)) = W1 := ⟨_, rfl⟩
  rw [hW1]
  have p0 : W1.cell? ⟨w.heap.size, 0, none⟩ = some (.slice (some ad) n c) := by rw [← hW1]; exact cellA _ q0
  have p1 : W1.cell? ⟨w.heap.size, 1, none⟩ = some (.int .i64 b) := by rw [← hW1]; exact cellA _ q1
  have p2 : W1.cell? ad = some (.slice B m c') := by rw [← hW1]; exact cellA _ q2
  have pb : Bk W1 (w.heap.size + 1) 104 #[.slice none 0 0, .int .i64 0, .int .i64 0] := by rw [← hW1]; exact HQ.out.alloc _
  have hb1 : Below w.heap.size w W1 := by rw [← hW1]; exact HB0.out.alloc HB0.out.size _
  clear hW1 q0 q1 q2 CS CA HQ HB0
  have t0 : W1.cell? ⟨w.heap.size + 1, 0, none⟩ = some (.slice none 0 0) := by rw [pb.cell]; rfl
  have t1 : W1.cell? ⟨w.heap.size + 1, 1, none⟩ = some (.int .i64 0) := by rw [pb.cell]; rfl
  have t2 : W1.cell? ⟨w.heap.size + 1, 2, none⟩ = some (.int .i64 0) := by rw [pb.cell]; rfl
  have f0 := pb.frozen 0
  have f1 := pb.frozen 1
  have f2 := pb.frozen 2
  have HPB := Lib.hid pb
  have HB1 := Lib.hid hb1
  have HS0 : Hid ((fun w' : World => w'.cell? ⟨w.heap.size, 0, none⟩ = some (.slice (some ad) n c) ∧ w'.cell? ⟨w.heap.size, 1, none⟩ = some (.int .i64 b) ∧ w'.cell? ad = some (.slice B m c')) W1.drew) := ⟨p0, p1, p2⟩
  clear pb hb1
  go_wp2_with fail
  refine wp_region_held_drew (S := (fun w' : World => w'.cell? ⟨w.heap.size, 0, none⟩ = some (.slice (some ad) n c) ∧ w'.cell? ⟨w.heap.size, 1, none⟩ = some (.int .i64 b) ∧ w'.cell? ad = some (.slice B m c'))) (by kernel_rfl) ?_ ?_
  · first | exact HS0.out | exact ⟨far3 p0 (by dsimp only; omega), far3 p1 (by dsimp only; omega), far3 p2 (by omega)⟩
  intro hHeld
  refine wpAnyH_take (i := 0) (v := ?_) rfl (by kernel_rfl) (by kernel_rfl) (by kernel_rfl) (fun _ _ _ h => h) (Or.inl ⟨by rfl, ?_⟩) (by assumption) ?_
  rotate_left
  · intro w hSw; (try dsimp only at hSw); go_simp; (try (with_reducible rfl))
  try simp only [List.getElem_toArray, List.getElem_cons_succ, List.getElem_cons_zero, Act.put, List.setIfInBounds_toArray, List.set_cons_zero, List.set_cons_succ]
  refine wpAnyH_take (i := 1) (v := ?_) rfl (by kernel_rfl) (by kernel_rfl) (by kernel_rfl) (fun _ _ _ h => h) (Or.inl ⟨by rfl, ?_⟩) (by assumption) ?_
  rotate_left
  · intro w hSw; (try dsimp only at hSw); go_simp; (try (with_reducible rfl))
  try simp only [List.getElem_toArray, List.getElem_cons_succ, List.getElem_cons_zero, Act.put, List.setIfInBounds_toArray, List.set_cons_zero, List.set_cons_succ]
  refine wpAnyH_take (i := 2) (v := ?_) rfl (by kernel_rfl) (by kernel_rfl) (by kernel_rfl) (fun _ _ _ h => h) (Or.inl ⟨by rfl, ?_⟩) (by assumption) ?_
  rotate_left
  · intro w hSw; (try dsimp only at hSw); go_simp; (try (with_reducible rfl))
  try simp only [List.getElem_toArray, List.getElem_cons_succ, List.getElem_cons_zero, Act.put, List.setIfInBounds_toArray, List.set_cons_zero, List.set_cons_succ]
  refine wpAnyH_take (i := 3) (v := ?_) rfl (by kernel_rfl) (by kernel_rfl) (by kernel_rfl) (fun _ _ _ h => h) (Or.inl ⟨by rfl, ?_⟩) (by assumption) ?_
  rotate_left
  · intro w hSw; (try dsimp only at hSw); go_simp; (try (with_reducible rfl))
  try simp only [List.getElem_toArray, List.getElem_cons_succ, List.getElem_cons_zero, Act.put, List.setIfInBounds_toArray, List.set_cons_zero, List.set_cons_succ]
  refine wpAnyH_take (i := 4) (v := ?_) rfl (by kernel_rfl) (by kernel_rfl) (by kernel_rfl) (fun _ _ _ h => h) (Or.inl ⟨by rfl, ?_⟩) (by assumption) ?_
  rotate_left
  · intro w hSw; (try dsimp only at hSw); go_simp; (try (with_reducible rfl))
  try simp only [List.getElem_toArray, List.getElem_cons_succ, List.getElem_cons_zero, Act.put, List.setIfInBounds_toArray, List.set_cons_zero, List.set_cons_succ]
  refine wpAnyH_take (i := 5) (v := ?_) rfl (by kernel_rfl) (by kernel_rfl) (by kernel_rfl) (fun _ _ _ h => h) (Or.inl ⟨by rfl, ?_⟩) (by assumption) ?_
  rotate_left
  · intro w hSw; (try dsimp only at hSw); go_simp; (try (with_reducible rfl))
  try simp only [List.getElem_toArray, List.getElem_cons_succ, List.getElem_cons_zero, Act.put, List.setIfInBounds_toArray, List.set_cons_zero, List.set_cons_succ]
  refine wpAnyH_take (i := 6) (v := ?_) rfl (by kernel_rfl) (by kernel_rfl) (by kernel_rfl) (fun _ _ _ h => h) (Or.inl ⟨by rfl, ?_⟩) (by assumption) ?_
  rotate_left
  · intro w hSw; (try dsimp only at hSw); go_simp; (try (with_reducible rfl))
  try simp only [List.getElem_toArray, List.getElem_cons_succ, List.getElem_cons_zero, Act.put, List.setIfInBounds_toArray, List.set_cons_zero, List.set_cons_succ]
  refine wpAnyH_ready (rs := [7]) (by kernel_rfl) (by simp) ?_
  refine AllReadyH.cons rfl (fun K hK => ?_) AllReadyH.nil
  go_simp
  refine hK.out _ _ ?_ (fun hHeld => ?_)
  · clear hK K; first | exact HS0.out | exact ⟨far3 p0 (by dsimp only; omega), far3 p1 (by dsimp only; omega), far3 p2 (by omega)⟩
  clear hK K
  try simp only [List.getElem_toArray, List.getElem_cons_succ, List.getElem_cons_zero, Act.put, List.setIfInBounds_toArray, List.set_cons_zero, List.set_cons_succ]
  refine wpAnyH_take (i := 8) (v := ?_) rfl (by kernel_rfl) (by kernel_rfl) (by kernel_rfl) (fun _ _ _ h => h) (Or.inl ⟨by rfl, ?_⟩) (by assumption) ?_
  rotate_left
  · intro w hSw; (try dsimp only at hSw); go_simp; (try (with_reducible rfl))
  try simp only [List.getElem_toArray, List.getElem_cons_succ, List.getElem_cons_zero, Act.put, List.setIfInBounds_toArray, List.set_cons_zero, List.set_cons_succ]
  refine wpAnyH_done (by kernel_rfl) ?_ _
  have HB := (((HPB.out.set_ 0 (.slice (some ad) n c)).set_ 1 (.int .i64 b)).set_ 2 (.int .i64 m)).drew
  have HF : Hid (Bk (((W1.setCell ⟨w.heap.size + 1, 0, none⟩ (.slice (some ad) n c)).setCell ⟨w.heap.size + 1, 1, none⟩ (.int .i64 b)).setCell ⟨w.heap.size + 1, 2, none⟩ (.int .i64 m)).drew (w.heap.size + 1) 104 #[.slice (some ad) n c, .int .i64 b, .int .i64 m]) := HB
  have HBL : Hid (Below w.heap.size w (((W1.setCell ⟨w.heap.size + 1, 0, none⟩ (.slice (some ad) n c)).setCell ⟨w.heap.size + 1, 1, none⟩ (.int .i64 b)).setCell ⟨w.heap.size + 1, 2, none⟩ (.int .i64 m)).drew) := (((HB1.out.setCell (p := ⟨w.heap.size + 1, 0, none⟩) (by dsimp only; omega) _).setCell (p := ⟨w.heap.size + 1, 1, none⟩) (by dsimp only; omega) _).setCell (p := ⟨w.heap.size + 1, 2, none⟩) (by dsimp only; omega) _).drew
  clear HB hHeld p0 p1 p2 t0 t1 t2 f0 f1 f2
  go_wp2
  refine bodyPost_ret (v := .tuple #[.agg #[.slice (some ad) n c, .int .i64 b, .int .i64 m], .int .i64 0]) ?_ rfl ⟨rfl, HBL.out⟩
  exact results_cell_tmp (fn := Tryz.f49) rfl _ _ (w.heap.size + 1) 104 _ (0, 0) _ rfl HF.out Tryz.underlying104 rfl taskSize

end Go.Proofs.YtjjflbnopphciaaGreatDoor
