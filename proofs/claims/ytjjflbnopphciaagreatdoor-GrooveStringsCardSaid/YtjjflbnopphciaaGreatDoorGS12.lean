import Derived.Test.YtjjflbnopphciaaGreatDoorGS11
import Derived.Test.YtjjflbnopphciaaGreatDoorGS9
import Derived.Test.YtjjflbnopphciaaGreatDoorB1
namespace Go.Proofs.YtjjflbnopphciaaGreatDoor
open Go.RowKit

def numsO (s : ByteArray) : Option (List Int) := if s.size = 0 then some [] else numsW (pcs 32 s.data.toList)
theorem pathS_numsO {s : ByteArray} (h : s.size ≤ 60000) : pathS s = pathO (numsO s) := by
  unfold pathS numsO
  rw [if_neg (by omega)]
  by_cases h0 : s.size = 0
  · rw [if_pos h0, if_pos h0]; rfl
  · rw [if_neg h0, if_neg h0]
theorem numsO_len {s : ByteArray} (h : s.size ≤ 60000) {l : List Int} (hl : numsO s = some l) : l.length ≤ 60001 := by
  unfold numsO at hl
  by_cases h0 : s.size = 0
  · rw [if_pos h0] at hl
    have := Option.some.inj hl
    subst this; simp
  · rw [if_neg h0] at hl
    have h1 := (numsW_ok _ _ hl).1
    have h2 := pcs_len_le 32 s.data.toList
    have h3 : s.data.toList.length = s.size := by simp
    rw [h1, List.length_map] at h2
    omega
theorem pathO_len (o : Option (List Int)) : (pathO o).1.length ≤ 200 := by
  cases o with
  | none => simp [pathO]
  | some l =>
    by_cases h : posE l = 0
    · rw [pathO_ok h]
      unfold posE at h
      by_cases h2 : 200 < l.length
      · rw [if_pos h2] at h; omega
      · show l.length ≤ 200; omega
    · rw [pathO_err h]; simp
theorem ppL_len (s : ByteArray) : (ppL s).length ≤ 200 := by
  unfold ppL pathS
  split
  · simp
  · split
    · simp
    · exact pathO_len _

set_option maxRecDepth 100000 in
set_option maxHeartbeats 4000000 in
theorem numbersIn_any (s : ByteArray) (w : World) (hl : LaidG w) (hs : s.size ≤ 60000) :
    Calls Tryz.prog 38 #[.string s] w (NumRes w (numsO s)) := by
  by_cases h0 : s.size = 0
  · have HE : Hid (numsO s = some []) := if_pos h0
    have he := size_nil h0
    subst he
    clear h0 hs
    go_enter Tryz.func38, Tryz.ntmps38
    go_wp2
    go_ret2
    exact numSome (l := []) (Below.refl _ _) HE.out (World.ownsRow_nil _ _ _ _)
  · have e : numsO s = numsW (pcs 32 s.data.toList) := if_neg h0
    rw [e]
    exact numbersIn_in s w hl hs h0 _ _ rfl rfl

set_option maxRecDepth 100000 in
set_option maxHeartbeats 4000000 in
/-- The code's numbers of any string. -/
theorem parsePath_any (s : ByteArray) (w : World) (hl : LaidG w) (hs : s.size ≤ 60000 + 1000000) :
    Calls Tryz.prog 9 #[.string s] w (OwnRes w (ppE s) (ppL s)) := by
  by_cases h1 : 60000 < s.size
  · have HE : Hid (pathS s = ([], 8)) := if_pos h1
    have hI : (60000 : Int) < (s.size : Int) := by omega
    go_enter Tryz.func9, Tryz.ntmps9
    go_wp2
    go_ret2
    exact finErr (Below.refl _ _) HE.out
  · have CN := Lib.hid (numbersIn_any s w hl (by omega))
    have HP := Lib.hid (pathS_numsO (s := s) (by omega))
    have hI : ¬ (60000 : Int) < (s.size : Int) := by omega
    have HLB : Hid (∀ l, numsO s = some l → l.length ≤ 60001) := fun l hl => numsO_len (by omega) hl
    clear hl h1 hs
    cases hn : numsO s with
    | none =>
      rw [hn] at CN HP
      have HE : Hid (pathS s = ([], 7)) := by show _ = _; rw [HP.out]; rfl
      clear hn
      go_enter Tryz.func9, Tryz.ntmps9
      go_wp2_with (go_at_call 38; refine CN.out.mono ?_; rintro e w2 ⟨⟨v, rfl, ho⟩, hb⟩)
      go_ret2
      exact finErr hb HE.out
    | some l =>
      rw [hn] at CN HP
      have hnn := hn
      clear hn
      go_enter Tryz.func9, Tryz.ntmps9
      go_wp2_with fail
      refine CN.out.mono ?_
      rintro e w2 ⟨⟨v, rfl, ho⟩, hb⟩
      have ho' : w2.ownsRow w.heap.size 3 1 v l.length (l.map (Value.int .i64)) := ho
      obtain ⟨A, c, rfl, hnc, hrd, _⟩ := rd_ownN ho'
      have HRD := Lib.hid hrd
      have HO := Lib.hid ho'
      have HB := Lib.hid hb
      have hll : l.length ≤ 60001 := by
        have := HLB.out
        have := this l hnn
        omega
      have CC := Lib.hid (checkPositions_any A l.length c l w2 hrd (by omega))
      clear ho ho' hnc hrd hb hll hnn
      by_cases hp : posE l = 0
      · have HE3 : Hid (pathS s = (l, 0)) := by show _ = _; rw [HP.out, pathO_ok hp]
        rw [hp] at CC
        clear hp
        go_wp2_with (go_at_call 39; refine CC.out.mono ?_; rintro e w3 ⟨rfl, hw3⟩; obtain rfl := hw3)
        go_ret2
        exact finOk HB.out HE3.out HO.out
      · have HE3 : Hid (pathS s = ([], posE l)) := by show _ = _; rw [HP.out, pathO_err hp]
        have hpn : (posE l != 0) = true := by simpa using hp
        obtain ⟨E, hEE⟩ : ∃ E, posE l = E := ⟨_, rfl⟩
        rw [hEE] at CC hpn HE3
        clear hp hEE
        go_wp2_with (go_at_call 39; refine CC.out.mono ?_; rintro e w3 ⟨rfl, hw3⟩; obtain rfl := hw3)
        go_ret2
        exact finErr HB.out HE3.out
end Go.Proofs.YtjjflbnopphciaaGreatDoor
