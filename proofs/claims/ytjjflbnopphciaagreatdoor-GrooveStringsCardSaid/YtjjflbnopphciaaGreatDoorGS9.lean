import Derived.Test.YtjjflbnopphciaaGreatDoorGS8
namespace Go.Proofs.YtjjflbnopphciaaGreatDoor
open Go.RowKit

def txG (x : Int) : Value := sv (Lib.itoa x)
set_option maxRecDepth 100000 in
set_option maxHeartbeats 8000000 in
/-- The code's string of numbers. -/
theorem formatPath_any (A : Option Addr) (n c : Nat) (xs : List Int) (w : World) (hl : LaidG w) (hr : RdI w A n xs) (hn : n ≤ 1000) (hx : I64 xs) :
    Calls Tryz.prog 7 #[.slice A n c] w fun e w' => e = .returned (.string (⟨(joinP xs).toArray⟩ : ByteArray)) ∧ Below w.heap.size w w' := by
  obtain ⟨i0, hi0, hz0, hz1, hz2⟩ := info_parts strInfo
  have hln := hr.1
  have HLN := Lib.hid hln
  have HR := Lib.hid hr
  have HX := Lib.hid hx
  have HL0 := Lib.hid hl
  obtain ⟨R, hR⟩ : ∃ R, (⟨(joinP xs).toArray⟩ : ByteArray) = R := ⟨_, rfl⟩
  have HRR := Lib.hid hR
  rw [hR]
  have hAn : 0 < n → ∃ ad, A = some ad ∧ ad.block < w.heap.size ∧ ∀ j, j < n → w.cell? (ad.add j) = some (.int .i64 (xs.getD j 0)) := hr.2
  have HAN := Lib.hid hAn
  clear hr hx hl hln hR hAn
  go_enter Tryz.func7, Tryz.ntmps7
  go_wp2
  go_loopw [3, 5, 8] (fun v _ i wr => ∃ j : Nat, j ≤ n ∧ i = .int .i64 (j : Int) ∧ Hid (wr.ownsRow w.heap.size 9 1 v j ((xs.take j).map txG)) ∧ Hid (Below w.heap.size w wr)) (fun _ _ i _ => n - (intOf i).toNat)
  case atStart => exact ⟨0, Nat.zero_le _, rfl, World.ownsRow_nil _ _ _ _, Below.refl _ _⟩
  case round =>
    obtain ⟨j, hj, rfl, HO, HB⟩ := hrel
    have HL : Hid (LaidG wr) := HL0.out.later HB.out
    obtain ⟨Ac, ca, rfl, _⟩ := own_formT HO.out
    have hszr : w.heap.size ≤ wr.heap.size := HB.out.size
    by_cases hlt : j < n
    · obtain ⟨ad, rfl, hab, hcx⟩ := HAN.out (by omega)
      have hcj : wr.cell? (ad.add j) = some (.int .i64 (xs.getD j 0)) := (HB.out.cell (by rw [addBlock]; exact hab)).trans (hcx j hlt)
      have hxm : xs.getD j 0 ∈ xs := by
        rw [List.getD_eq_getElem?_getD, List.getElem?_eq_getElem (by rw [HLN.out]; exact hlt)]
        exact List.getElem_mem _
      have hxb := HX.out _ hxm
      have hsn : xs.take (j + 1) = xs.take j ++ [xs.getD j 0] := by
        rw [List.take_add_one, List.getD_eq_getElem?_getD, List.getElem?_eq_getElem (by rw [HLN.out]; exact hlt)]
        rfl
      obtain ⟨x, hx⟩ : ∃ x, xs.getD j 0 = x := ⟨_, rfl⟩
      rw [hx] at hcj hxb hsn
      obtain ⟨D, hD⟩ : ∃ D, (⟨(Lib.itoa x).toArray⟩ : ByteArray) = D := ⟨_, rfl⟩
      have CD : Hid (∀ W, LaidG W → _) := Lib.hid fun W h => itoaG_form x hxb.1 hxb.2 D hD W h
      have hltI : (j : Int) < (n : Int) := by omega
      have HTK := Lib.hid hsn
      have HD := Lib.hid hD
      clear hx hxm hxb hD hsn hcx
      go_wp2_with fail
      refine (CD.out _ HL.out).mono ?_
      rintro e w5 ⟨rfl, hb5⟩
      have HO5 : Hid (w5.ownsRow w.heap.size 9 1 (.slice Ac j ca) j ((xs.take j).map txG)) := ownBelowT HO.out hb5
      have HB5 := Lib.hid (HB.out.trans (hb5.mono hszr))
      have hsz5 : w.heap.size ≤ w5.heap.size := Nat.le_trans hszr hb5.size
      clear hb5 HO HB HL hcj
      have HNX : Hid (∀ i u, [Value.string D][i]? = some u → (w5.alloc (.cells #[.string D] 9)).cell? ((⟨w5.heap.size, 0, none⟩ : Addr).add i) = some u) := by
        intro i u hj
        cases i with
        | zero => have : Value.string D = u := by simpa using hj
                  subst this
                  simp [go_sem, Addr.add]
        | succ i => simp at hj
      go_wp2_with (at_builtin; refine wpList_append_own _ rfl (.tmp 12) (.tmp 15) 87 rfl w.heap.size 9 i0 _ 1 16 Tryz.underlying87 hi0 hz0 hz1 hz2 rfl (by decide) _ _ _ rfl (HO5.out.alloc _) ⟨w5.heap.size, 0, none⟩ 1 1 [.string D] rfl rfl HNX.out (by intro u hu; rw [List.mem_singleton.1 hu]; rfl) (by unfold maxLen; omega) (by omega) (by simp; omega) ?_)
      intro v' w6 hown' hgrow _
      have HO6 : Hid (w6.ownsRow w.heap.size 9 1 v' (j + 1) ((xs.take (j + 1)).map txG)) := by
        show World.ownsRow _ _ _ _ _ _ _
        rw [HTK.out, List.map_append, List.map_singleton, List.map_take, show txG x = Value.string D by rw [← HD.out]; rfl]
        exact hown'
      have HB6 : Hid (Below w.heap.size w w6) := (HB5.out.alloc hsz5 _).grown hgrow (by simp; omega) (fun z e => (HO5.out.lt z e).1)
      clear hown' hgrow HB5 HO5 HNX
      go_wp2
      go_roundw
      case rel => exact ⟨j + 1, by omega, by go_num, HO6.out, HB6.out⟩
      case measure => simp [intOf]; omega
    · obtain rfl : n = j := by omega
      have hall : xs.take n = xs := List.take_of_length_le (by rw [HLN.out]; exact Nat.le_refl _)
      have HO6 : Hid (wr.ownsRow w.heap.size 9 1 (.slice Ac n ca) n (xs.map txG)) := by
        show World.ownsRow _ _ _ _ _ _ _
        have := HO.out
        rw [hall] at this
        exact this
      clear hall
      by_cases h0 : n = 0
      · have hnil : xs = [] := List.eq_nil_of_length_eq_zero (by rw [HLN.out]; exact h0)
        have hRe : R = ⟨#[]⟩ := by rw [← HRR.out, hnil]; rfl
        have HJ := Lib.hid (Tryz.strings_Join_none Ac ca ⟨#[32]⟩ wr)
        subst h0
        subst hRe
        clear hnil
        go_wp2_with fail
        refine (HJ.out).mono ?_
        rintro e w7 ⟨rfl, h7⟩
        have HBF : Hid (Below w.heap.size w w7) := by
          first
            | exact HB.out.trans (h7.mono hszr)
            | (have h8 : w7 = wr := h7; rw [h8]; exact HB.out)
            | (have h8 : wr = w7 := h7; rw [← h8]; exact HB.out)
        clear h7 HJ
        go_wp2
        go_ret
        exact ⟨rfl, HBF.out⟩
      · obtain ⟨g, cp, hv, hg1, hg2, hcl⟩ := own_str HO6.out (by rw [List.length_map, HLN.out]) (by omega)
        injection hv with hv1 hv2 hv3
        subst hv1; subst hv3
        have hcp : n ≤ ca := by
          rcases HO6.out.2 with ⟨h, _⟩ | ⟨g', cap', cur, h', _, _, hn, _, _, _⟩
          · cases h
          · simp only [Value.slice.injEq] at h'; omega
        have HCL := Lib.hid hcl
        have HJ := Lib.hid (Tryz.strings_Join g 0 ca (xs.map fun x => (⟨(Lib.itoa x).toArray⟩ : ByteArray)) ⟨#[32]⟩ wr (by
          intro j x hx
          rw [List.getElem?_map] at hx
          cases hy : xs[j]? with
          | none => rw [hy] at hx; cases hx
          | some y =>
            rw [hy] at hx
            have := HCL.out j (txG y) (by rw [List.getElem?_map, hy]; rfl)
            rw [Nat.zero_add, this, ← Option.some.inj hx]
            rfl) hg2 (by rw [List.length_map, HLN.out]; omega) (by rw [List.length_map, HLN.out]; exact hcp) (by
          have hmap : (xs.map fun x => (⟨(Lib.itoa x).toArray⟩ : ByteArray)).map (·.data.toList) = xs.map Lib.itoa := by simp [List.map_map, Function.comp_def]
          rw [hmap]
          have h1 := joinP_len xs HX.out
          have h2 : (Lib.join (xs.map Lib.itoa) [32]).length = (joinP xs).length := rfl
          rw [show (⟨#[32]⟩ : ByteArray).data.toList = [32] from rfl, h2]
          rw [HLN.out] at h1
          omega))
        rw [List.length_map, HLN.out] at HJ
        have HJ2 : Hid (Calls Tryz.prog 37 #[.slice (some ⟨g, 0, none⟩) n ca, .string ⟨#[32]⟩] wr fun e w' => e = .returned (.string R) ∧ Below wr.heap.size wr w') := by
          refine Calls.mono HJ.out ?_
          rintro e w' ⟨rfl, hb⟩
          refine ⟨?_, hb⟩
          rw [← HRR.out]
          have hmap : (xs.map fun x => (⟨(Lib.itoa x).toArray⟩ : ByteArray)).map (·.data.toList) = xs.map Lib.itoa := by simp [List.map_map, Function.comp_def]
          rw [hmap]
          rfl
        clear hcl HJ
        go_wp2_with fail
        refine HJ2.out.mono ?_
        rintro e w7 ⟨rfl, hb7⟩
        have HBF := Lib.hid (HB.out.trans (hb7.mono hszr))
        clear hb7 HJ2
        go_wp2
        go_ret
        exact ⟨rfl, HBF.out⟩
end Go.Proofs.YtjjflbnopphciaaGreatDoor
