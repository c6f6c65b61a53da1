import Derived.Test.YtkemoffagdilgaaGreatDoorSB5
namespace Go.Proofs.YtkemoffagdilgaaGreatDoor
open Go.RowKit

theorem joinP_len (xs : List Int) (h : I64 xs) : (joinP xs).length ≤ 21 * xs.length := by
  have key : ∀ ys zs : List Int, zs ++ ys = xs → zs ≠ [] → (joinP zs).length ≤ 21 * zs.length → (joinP (zs ++ ys)).length ≤ 21 * (zs ++ ys).length := by
    intro ys
    induction ys with
    | nil => intro zs _ _ hz; simpa using hz
    | cons y r ih =>
      intro zs he hne hz
      have hy := h y (by rw [← he]; simp)
      have hyl := itoaB_size y hy.1 hy.2
      have := ih (zs ++ [y]) (by rw [← he]; simp) (by simp) (by
        rw [joinP_snoc _ _ hne]
        simp only [List.length_append, List.length_cons, List.length_nil]
        omega)
      simpa using this
  cases xs with
  | nil => simp [joinP, Lib.join]
  | cons x r =>
    have hx := h x (by simp)
    have := key r [x] (by simp) (by simp) (by rw [joinP_one]; have := itoaB_size x hx.1 hx.2; simp; omega)
    simpa using this
def intsB (f : Nat → Int) : List Int := [f 0, f 1, f 2, f 3, f 4, f 5, f 6, f 7, f 8, f 9, f 10]
def tx (x : Int) : Value := sv (Lib.itoa x)
theorem intsB_step (f : Nat → Int) (k : Nat) (h : k < 11) : (intsB f).take (k + 1) = (intsB f).take k ++ [f k] := by
  rcases j11 h with rfl | rfl | rfl | rfl | rfl | rfl | rfl | rfl | rfl | rfl | rfl <;> rfl

set_option maxRecDepth 100000 in
set_option maxHeartbeats 8000000 in
theorem formatB_any (f : Nat → Int) (w : World) (hl : LaidB w) (hf : ∀ i, -9223372036854775808 ≤ f i ∧ f i ≤ 9223372036854775807) :
    Calls Tryz.prog 5 #[.agg (bRow f)] w fun e w' => e = .returned (.string (⟨(joinP (intsB f)).toArray⟩ : ByteArray)) ∧ Below w.heap.size w w' := by
  obtain ⟨i0, hi0, hz0, hz1, hz2⟩ := info_parts strInfo
  obtain ⟨w1, hw1⟩ : ∃ W, w.alloc (.cells (bRow f) 24) = W := ⟨_, rfl⟩
  have B1 : Hid (Below w.heap.size w w1) := by show Below _ _ _; rw [← hw1]; exact (Below.refl _ _).alloc (Nat.le_refl _) _
  have K1 : Hid (Bk w1 w.heap.size 24 (bRow f)) := by show Bk _ _ _ _; rw [← hw1]; exact Bk.new _ _ _
  have HL1 := Lib.hid (hl.later B1.out)
  have HL0 := Lib.hid hl
  obtain ⟨S0, hS0⟩ : ∃ X, (⟨(Lib.itoa (f 0)).toArray⟩ : ByteArray) = X := ⟨_, rfl⟩
  obtain ⟨S1, hS1⟩ : ∃ X, (⟨(Lib.itoa (f 1)).toArray⟩ : ByteArray) = X := ⟨_, rfl⟩
  have C0 : Hid (∀ W, LaidB W → _) := Lib.hid fun W h => itoaB_form (f 0) (hf 0).1 (hf 0).2 S0 hS0 W h
  have C1 : Hid (∀ W, LaidB W → _) := Lib.hid fun W h => itoaB_form (f 1) (hf 1).1 (hf 1).2 S1 hS1 W h
  have HF := Lib.hid hf
  have HI64 : Hid (I64 (intsB f)) := by
    intro y hy
    simp only [intsB, List.mem_cons, List.not_mem_nil, or_false] at hy
    rcases hy with rfl | rfl | rfl | rfl | rfl | rfl | rfl | rfl | rfl | rfl | rfl <;> exact hf _
  have HS0 := Lib.hid hS0
  have HS1 := Lib.hid hS1
  have HW1 := Lib.hid hw1
  have HB0 : Hid (w1.heap.size = w.heap.size + 1) := by show _ = _; rw [← hw1]; simp
  have hl1 : w.heap.size < w1.heap.size := K1.out.lt
  have r0 : w1.cell? ⟨w.heap.size, 0, none⟩ = some (.int .i64 (f 0)) := by rw [K1.out.cell]; rfl
  have r1 : w1.cell? ⟨w.heap.size, 1, none⟩ = some (.int .i64 (f 1)) := by rw [K1.out.cell]; rfl
  obtain ⟨R, hR⟩ : ∃ R, (⟨(joinP (intsB f)).toArray⟩ : ByteArray) = R := ⟨_, rfl⟩
  have HRR := Lib.hid hR
  rw [hR]
  clear hl hf hS0 hS1 hw1 hR
  go_enter Tryz.func5, Tryz.ntmps5
  go_wp2_with fail
  rw [show w.alloc (.cells #[.int .i64 (f 0), .int .i64 (f 1), .int .i64 (f 2), .int .i64 (f 3), .int .i64 (f 4), .int .i64 (f 5), .int .i64 (f 6), .int .i64 (f 7), .int .i64 (f 8), .int .i64 (f 9), .int .i64 (f 10)] 24) = w1 from HW1.out]
  go_region_held3 (fun W => LaidB W ∧ Below (w.heap.size + 1) w1 W ∧ W.cell? ⟨w.heap.size, 0, none⟩ = some (.int .i64 (f 0)) ∧ W.cell? ⟨w.heap.size, 1, none⟩ = some (.int .i64 (f 1)) ∧ w.heap.size < W.heap.size)
    ((go_split_ands; refine ⟨?_, ?_, ?_, ?_, ?_⟩ <;> first
      | assumption | exact HL1.out.drew | exact (Below.refl _ _).drew
      | (exact LaidB.later (by assumption) hb)
      | (refine LaidB.alloc ?_ _; assumption)
      | (exact Below.trans (by assumption) (hb.mono (by assumption)))
      | (refine Below.alloc ?_ ?_ _ <;> assumption)
      | (rw [hb.cell (by assumption)]; assumption)
      | (rw [World.cell?_alloc_lt _ _ _ (by assumption)]; assumption)
      | (exact Nat.lt_of_lt_of_le (by assumption) hb.size)
      | (simp; done)
      | (simp; omega)))
    (first
      | (go_at_call 16; refine Calls.mono (C0.out _ ?_) ?_; (first | assumption | (go_split_ands; assumption)); rintro e w' ⟨rfl, hb⟩)
      | (go_at_call 16; refine Calls.mono (C1.out _ ?_) ?_; (first | assumption | (go_split_ands; assumption)); rintro e w' ⟨rfl, hb⟩))
  obtain ⟨LA, BA, _, _, hltA⟩ := ‹LaidB (w'.alloc _) ∧ _›
  have hltw : w.heap.size < w'.heap.size := by
    have h2 := HB0.out
    have h3 := hb.size
    have h4 := (‹Below w1.drew.heap.size w1.drew _› : Below _ _ _).size
    simp at h4
    omega
  obtain ⟨w3, hw3⟩ : ∃ W, w'.alloc (.cells #[.string S0, .string S1] 9) = W := ⟨_, rfl⟩
  have O3 : Hid (w3.ownsRow (w.heap.size + 1) 9 1 (.slice (some ⟨w'.heap.size, 0, none⟩) 2 2) 2 (((intsB f).take 2).map tx)) := by
    show World.ownsRow _ _ _ _ _ _ _
    have := World.ownsRow_lit (base := w.heap.size + 1) (e := 9) (size := 1) w' #[.string S0, .string S1] 2 (by omega) (by unfold maxLen; omega) rfl
    rw [hw3] at this
    have e : (#[Value.string S0, Value.string S1] : Array Value).toList = ((intsB f).take 2).map tx := by rw [← HS0.out, ← HS1.out]; rfl
    rw [e] at this
    exact this
  rw [hw3] at LA BA hltA
  rw [hw3]
  have HLA := Lib.hid LA
  have HBA := Lib.hid BA
  have K3 : Hid (Bk w3 w.heap.size 24 (bRow f)) := K1.out.below BA (by omega)
  obtain ⟨v3, hv3⟩ : ∃ v, (Value.slice (some ⟨w'.heap.size, 0, none⟩) 2 2) = v := ⟨_, rfl⟩
  rw [hv3] at O3
  rw [hv3]
  have c2 : w3.cell? ⟨w.heap.size, 2, none⟩ = some (.int .i64 (f 2)) := by rw [K3.out.cell]; rfl
  have c3 : w3.cell? ⟨w.heap.size, 3, none⟩ = some (.int .i64 (f 3)) := by rw [K3.out.cell]; rfl
  have c4 : w3.cell? ⟨w.heap.size, 4, none⟩ = some (.int .i64 (f 4)) := by rw [K3.out.cell]; rfl
  have c5 : w3.cell? ⟨w.heap.size, 5, none⟩ = some (.int .i64 (f 5)) := by rw [K3.out.cell]; rfl
  have c6 : w3.cell? ⟨w.heap.size, 6, none⟩ = some (.int .i64 (f 6)) := by rw [K3.out.cell]; rfl
  have c7 : w3.cell? ⟨w.heap.size, 7, none⟩ = some (.int .i64 (f 7)) := by rw [K3.out.cell]; rfl
  have c8 : w3.cell? ⟨w.heap.size, 8, none⟩ = some (.int .i64 (f 8)) := by rw [K3.out.cell]; rfl
  have c9 : w3.cell? ⟨w.heap.size, 9, none⟩ = some (.int .i64 (f 9)) := by rw [K3.out.cell]; rfl
  clear LA BA hltA hw3 hv3 hb K1 HL1 C0 C1 r0 r1 hltw
  go_wp2
  clear c2 c3 c4 c5 c6 c7 c8 c9
  obtain ⟨A, hA⟩ : ∃ A, (#[.int .i64 (f 2), .int .i64 (f 3), .int .i64 (f 4), .int .i64 (f 5), .int .i64 (f 6), .int .i64 (f 7), .int .i64 (f 8), .int .i64 (f 9)] : Array Value) = A := ⟨_, rfl⟩
  have HA : Hid (∀ j : Nat, j < 8 → ∀ W, (Instr.index 22 (.agg A) (.int .i64 (j : Int))).run Tryz.prog W = .ok (.int .i64 (f (2 + j))) W) := by
    intro j hj W
    have h := (is8_iArr [f 2, f 3, f 4, f 5, f 6, f 7, f 8, f 9] rfl).ix j hj W
    have e : ([f 2, f 3, f 4, f 5, f 6, f 7, f 8, f 9] : List Int).getD j 0 = f (2 + j) := by
      rcases (show j = 0 ∨ j = 1 ∨ j = 2 ∨ j = 3 ∨ j = 4 ∨ j = 5 ∨ j = 6 ∨ j = 7 by omega) with rfl | rfl | rfl | rfl | rfl | rfl | rfl | rfl <;> rfl
    rw [e] at h
    rw [← hA]
    exact h
  rw [hA]
  clear hA
  go_loopw [3, 5, 15] (fun v _ i wr => ∃ j : Nat, j ≤ 8 ∧ i = .int .i64 (j : Int) ∧ Hid (wr.ownsRow (w.heap.size + 1) 9 1 v (2 + j) (((intsB f).take (2 + j)).map tx)) ∧ Hid (Below (w.heap.size + 1) w3 wr)) (fun _ _ i _ => 8 - (intOf i).toNat)
  case atStart => exact ⟨0, by omega, rfl, O3.out, Below.refl _ _⟩
  case round =>
    clear O3 HLA
    obtain ⟨j, hj, rfl, HO, HB⟩ := hrel
    have HL : Hid (LaidB wr) := HL0.out.later (B1.out.trans ((HBA.out.trans HB.out).mono (by omega)))
    obtain ⟨Ac, ca, rfl, _⟩ := own_formT HO.out
    have hsz3 : w.heap.size < w3.heap.size := K3.out.lt
    have hszr : w.heap.size + 1 ≤ wr.heap.size := by have := HB.out.size; omega
    by_cases hlt : j < 8
    · have hat := HA.out j hlt
      obtain ⟨x, hx⟩ : ∃ x, f (2 + j) = x := ⟨_, rfl⟩
      have hxb := HF.out (2 + j)
      rw [hx] at hat hxb
      obtain ⟨D, hD⟩ : ∃ D, (⟨(Lib.itoa x).toArray⟩ : ByteArray) = D := ⟨_, rfl⟩
      have CD : Hid (∀ W, LaidB W → _) := Lib.hid fun W h => itoaB_form x hxb.1 hxb.2 D hD W h
      have hltI : (j : Int) < 8 := by omega
      have HTK : Hid ((intsB f).take (2 + j + 1) = (intsB f).take (2 + j) ++ [x]) := by show _ = _; rw [intsB_step f (2 + j) (by omega), hx]
      have HD := Lib.hid hD
      clear hx hxb hD
      go_wp2_with fail
      refine (CD.out _ HL.out).mono ?_
      rintro e w5 ⟨rfl, hb5⟩
      have HO5 : Hid (w5.ownsRow (w.heap.size + 1) 9 1 (.slice Ac (2 + j) ca) (2 + j) (((intsB f).take (2 + j)).map tx)) := ownBelowT HO.out hb5
      have HB5 := Lib.hid (HB.out.trans (hb5.mono hszr))
      have hsz5 : w.heap.size + 1 ≤ w5.heap.size := Nat.le_trans hszr hb5.size
      clear hb5 HO HB HL
      have HNX : Hid (∀ i u, [Value.string D][i]? = some u → (w5.alloc (.cells #[.string D] 9)).cell? ((⟨w5.heap.size, 0, none⟩ : Addr).add i) = some u) := by
        intro i u hj
        cases i with
        | zero => have : Value.string D = u := by simpa using hj
                  subst this
                  simp [go_sem, Addr.add]
        | succ i => simp at hj
      go_wp2_with (at_builtin; refine wpList_append_own _ rfl (.tmp 18) (.tmp 21) 49 rfl (w.heap.size + 1) 9 i0 _ 1 16 Tryz.underlying49 hi0 hz0 hz1 hz2 rfl (by decide) _ _ _ rfl (HO5.out.alloc _) ⟨w5.heap.size, 0, none⟩ 1 1 [.string D] rfl rfl HNX.out (by intro u hu; rw [List.mem_singleton.1 hu]; rfl) (by unfold maxLen; omega) (by omega) (by simp; omega) ?_)
      intro v' w6 hown' hgrow _
      have HO6 : Hid (w6.ownsRow (w.heap.size + 1) 9 1 v' (2 + (j + 1)) (((intsB f).take (2 + (j + 1))).map tx)) := by
        show World.ownsRow _ _ _ _ _ _ _
        rw [show 2 + (j + 1) = 2 + j + 1 by omega, HTK.out, List.map_append, List.map_singleton, List.map_take, show tx x = Value.string D by rw [← HD.out]; rfl]
        exact hown'
      have HB6 : Hid (Below (w.heap.size + 1) w3 w6) := (HB5.out.alloc hsz5 _).grown hgrow (by simp; omega) (fun z e => (HO5.out.lt z e).1)
      clear hown' hgrow HB5 HO5 HNX
      go_wp2
      go_roundw
      case rel => exact ⟨j + 1, by omega, by go_num, HO6.out, HB6.out⟩
      case measure => simp [intOf]; omega
    · obtain rfl : j = 8 := by omega
      have K8 : Hid (Bk wr w.heap.size 24 (bRow f)) := K3.out.below HB.out (by omega)
      have c10 : wr.cell? ⟨w.heap.size, 10, none⟩ = some (.int .i64 (f 10)) := by rw [K8.out.cell]; rfl
      have hxb := HF.out 10
      obtain ⟨D, hD⟩ : ∃ D, (⟨(Lib.itoa (f 10)).toArray⟩ : ByteArray) = D := ⟨_, rfl⟩
      have CD : Hid (∀ W, LaidB W → _) := Lib.hid fun W h => itoaB_form (f 10) hxb.1 hxb.2 D hD W h
      have HTK : Hid (intsB f = (intsB f).take 10 ++ [f 10]) := rfl
      have HD := Lib.hid hD
      clear hxb hD
      go_wp2_with fail
      refine (CD.out _ HL.out).mono ?_
      rintro e w5 ⟨rfl, hb5⟩
      have HO5 : Hid (w5.ownsRow (w.heap.size + 1) 9 1 (.slice Ac 10 ca) 10 (((intsB f).take 10).map tx)) := ownBelowT HO.out hb5
      have HB5 := Lib.hid (HB.out.trans (hb5.mono hszr))
      have hsz5 : w.heap.size + 1 ≤ w5.heap.size := Nat.le_trans hszr hb5.size
      clear hb5 HO HB HL
      have HNX : Hid (∀ i u, [Value.string D][i]? = some u → (w5.alloc (.cells #[.string D] 9)).cell? ((⟨w5.heap.size, 0, none⟩ : Addr).add i) = some u) := by
        intro i u hj
        cases i with
        | zero => have : Value.string D = u := by simpa using hj
                  subst this
                  simp [go_sem, Addr.add]
        | succ i => simp at hj
      go_wp2_with (at_builtin; refine wpList_append_own _ rfl (.tmp 24) (.tmp 28) 49 rfl (w.heap.size + 1) 9 i0 _ 1 16 Tryz.underlying49 hi0 hz0 hz1 hz2 rfl (by decide) _ _ _ rfl (HO5.out.alloc _) ⟨w5.heap.size, 0, none⟩ 1 1 [.string D] rfl rfl HNX.out (by intro u hu; rw [List.mem_singleton.1 hu]; rfl) (by unfold maxLen; omega) (by omega) (by simp; omega) ?_)
      intro v' w6 hown' hgrow _
      have HO6 : Hid (w6.ownsRow (w.heap.size + 1) 9 1 v' 11 ((intsB f).map tx)) := by
        show World.ownsRow _ _ _ _ _ _ _
        rw [HTK.out, List.map_append, List.map_singleton, show tx (f 10) = Value.string D by rw [← HD.out]; rfl]
        exact hown'
      have HB6 : Hid (Below (w.heap.size + 1) w3 w6) := (HB5.out.alloc hsz5 _).grown hgrow (by simp; omega) (fun z e => (HO5.out.lt z e).1)
      clear hown' hgrow HB5 HO5 HNX
      obtain ⟨g, cp, rfl, hg1, hg2, hcl⟩ := own_str HO6.out (by simp [intsB]) (by omega)
      have hcp : 11 ≤ cp := by
        rcases HO6.out.2 with ⟨h, _⟩ | ⟨g', cap', cur, h', _, _, hn, _, _, _⟩
        · omega
        · simp only [Value.slice.injEq] at h'; omega
      have HCL := Lib.hid hcl
      have HJ := Lib.hid (Tryz.strings_Join g 0 cp ((intsB f).map fun x => (⟨(Lib.itoa x).toArray⟩ : ByteArray)) ⟨#[32]⟩ w6 (by
        intro j x hx
        rw [List.getElem?_map] at hx
        cases hy : (intsB f)[j]? with
        | none => rw [hy] at hx; cases hx
        | some y =>
          rw [hy] at hx
          have := HCL.out j (tx y) (by rw [List.getElem?_map, hy]; rfl)
          rw [Nat.zero_add, this, ← Option.some.inj hx]
          rfl) hg2 (by simp [intsB]) (by simp [intsB]; exact hcp) (by
        have hmap : ((intsB f).map fun x => (⟨(Lib.itoa x).toArray⟩ : ByteArray)).map (·.data.toList) = (intsB f).map Lib.itoa := by simp [List.map_map, Function.comp_def]
        rw [hmap]
        have h1 := joinP_len (intsB f) (by intro y hy; exact HI64.out y hy)
        have h2 : (Lib.join ((intsB f).map Lib.itoa) [32]).length = (joinP (intsB f)).length := rfl
        rw [show (⟨#[32]⟩ : ByteArray).data.toList = [32] from rfl, h2]
        have h3 : (intsB f).length = 11 := rfl
        omega))
      clear hcl
      go_wp2_with fail
      have HJ2 : Hid (Calls Tryz.prog 17 #[.slice (some ⟨g, 0, none⟩) 11 cp, .string ⟨#[32]⟩] w6 fun e w' => e = .returned (.string R) ∧ Below w6.heap.size w6 w') := by
        refine Calls.mono HJ.out ?_
        rintro e w' ⟨rfl, hb⟩
        refine ⟨?_, hb⟩
        rw [← HRR.out]
        have hmap : ((intsB f).map fun x => (⟨(Lib.itoa x).toArray⟩ : ByteArray)).map (·.data.toList) = (intsB f).map Lib.itoa := by simp [List.map_map, Function.comp_def]
        rw [hmap]
        rfl
      refine HJ2.out.mono ?_
      rintro e w7 ⟨rfl, hb7⟩
      have HBF := Lib.hid (B1.out.trans (((HBA.out.trans HB6.out).mono (by omega)).trans (hb7.mono (by omega))))
      clear hb7 HJ HJ2
      go_wp2
      go_ret
      exact ⟨rfl, HBF.out⟩

end Go.Proofs.YtkemoffagdilgaaGreatDoor
