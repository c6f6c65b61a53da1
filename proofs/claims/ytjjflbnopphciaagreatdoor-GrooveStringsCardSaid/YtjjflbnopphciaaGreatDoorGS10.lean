import Derived.Test.YtjjflbnopphciaaGreatDoorGS8
import Derived.Test.YtjjflbnopphciaaGreatDoorV1
namespace Go.Proofs.YtjjflbnopphciaaGreatDoor
open Go.RowKit

theorem pcs_sum (c : UInt8) (l : List UInt8) : ∀ p ∈ pcs c l, p.length ≤ l.length := by
  induction l with
  | nil => intro p hp; simp [pcs] at hp; simp [hp]
  | cons b t ih =>
    intro p hp
    unfold pcs at hp
    split at hp
    · rcases List.mem_cons.1 hp with rfl | h
      · simp
      · have := ih p h; simp; omega
    · cases ht : pcs c t with
      | nil => rw [ht] at hp; simp at hp; subst hp; simp
      | cons q qs =>
        rw [ht] at hp ih
        rcases List.mem_cons.1 hp with rfl | h
        · have := ih q (by simp); simp; omega
        · have := ih p (List.mem_cons_of_mem _ h); simp; omega
theorem size_nil {s : ByteArray} (h : s.size = 0) : s = ⟨#[]⟩ := by
  cases s with
  | mk d => have : d = #[] := by simpa [ByteArray.size] using h
            rw [this]
theorem neG (s : ByteArray) (h : s.size ≠ 0) : (s.toList == (⟨#[]⟩ : ByteArray).toList) = false := by
  rw [Lib.toList_data, Lib.toList_data]
  refine beq_eq_false_iff_ne.2 fun e => h ?_
  have := congrArg List.length e
  simpa using this
theorem emptyG (s : ByteArray) (h : s.size ≠ 0) : s.toList.isEmpty = false := by
  rw [Lib.toList_data]
  cases hs : s.data.toList with
  | nil => exact absurd (by have := congrArg List.length hs; simpa using this) h
  | cons a t => rfl
/-- The error and the numbers of a string. -/
def ppE (s : ByteArray) : Int := (pathS s).2
def ppL (s : ByteArray) : List Int := (pathS s).1

theorem litG (W : World) (k : Int) : ∀ j u, [Value.int .i64 k][j]? = some u → (W.alloc (.cells #[.int .i64 k] 3)).cell? ((⟨W.heap.size, 0, none⟩ : Addr).add j) = some u := by
  intro j u hj
  cases j with
  | zero => have : Value.int .i64 k = u := by simpa using hj
            subst this
            simp [go_sem, Addr.add]
  | succ j => simp at hj
theorem finErr {w w' : World} {s : ByteArray} {E : Int} (hb : Below w.heap.size w w') (h : pathS s = ([], E)) : (∃ v, (Ending.returned (.tuple #[.slice none 0 0, .int .i64 E]) = .returned (.tuple #[v, .int .i64 (ppE s)])) ∧ w'.ownsRow w.heap.size 3 1 v (ppL s).length ((ppL s).map (Value.int .i64))) ∧ Below w.heap.size w w' := by
  unfold ppE ppL
  rw [h]
  exact ⟨⟨_, rfl, World.ownsRow_nil _ _ _ _⟩, hb⟩
theorem finOk {w w' : World} {s : ByteArray} {v : Value} {l : List Int} (hb : Below w.heap.size w w') (h : pathS s = (l, 0)) (ho : w'.ownsRow w.heap.size 3 1 v l.length (l.map (Value.int .i64))) : (∃ v', (Ending.returned (.tuple #[v, .int .i64 0]) = .returned (.tuple #[v', .int .i64 (ppE s)])) ∧ w'.ownsRow w.heap.size 3 1 v' (ppL s).length ((ppL s).map (Value.int .i64))) ∧ Below w.heap.size w w' := by
  unfold ppE ppL
  rw [h]
  exact ⟨⟨_, rfl, ho⟩, hb⟩

set_option maxRecDepth 100000 in
set_option maxHeartbeats 8000000 in
theorem refParse_in (s : ByteArray) (w : World) (hs : s.size ≤ 60000) (h0 : s.size ≠ 0) (ps : List (List UInt8)) (n : Nat) (hps : pcs 32 s.data.toList = ps) (hpn : ps.length = n) :
    Calls Tryz.prog 10 #[.string s] w (OwnRes w (ppE s) (ppL s)) := by
  obtain ⟨i0, hi0, hz0, hz1, hz2⟩ := info_parts intInfo'
  have C1 := Lib.hid (cut_form s 32 32 rfl w (by omega) ps n hps hpn)
  have hlen : s.data.toList.length = s.size := by simp
  have hn1 : n ≤ 60001 := by
    have := pcs_len_le 32 s.data.toList
    rw [hps, hpn] at this; omega
  have HSZ : Hid (∀ p ∈ ps, p.length ≤ 60000) := fun p hp => by
    have := pcs_sum 32 s.data.toList p (by rw [hps]; exact hp)
    omega
  have hE : pathS s = pathO (numsW ps) := by
    unfold pathS
    rw [if_neg (by omega), if_neg h0, hps]
  have HE := Lib.hid hE
  have HPN := Lib.hid hpn
  have hemp := emptyG s h0
  have hne2 := neG s h0
  clear hE hps hpn hlen
  go_enter Tryz.func10, Tryz.ntmps10
  go_wp2_with fail
  refine C1.out.mono ?_
  rintro e w1 ⟨g, cp, rfl, hg1, hg2, hc, hb1⟩
  have HC := Lib.hid hc
  have HB1 := Lib.hid hb1
  have hg3 : w.heap.size ≤ g := hg1
  clear hc hb1 hg1
  go_wp2
  go_loopw [4, 6, 7, 8] (fun v i _ _ wr => ∃ (j : Nat) (l : List Int), j ≤ n ∧ i = .int .i64 (j : Int) ∧ Hid (numsW (ps.take j) = some l ∧ l.length = j) ∧ Hid (wr.ownsRow w1.heap.size 3 1 v j (l.map (Value.int .i64))) ∧ Hid (Below w1.heap.size w1 wr)) (fun _ i _ _ _ => n - (intOf i).toNat)
  case atStart => exact ⟨0, [], Nat.zero_le _, rfl, ⟨rfl, rfl⟩, World.ownsRow_nil _ _ _ _, Below.refl _ _⟩
  case round =>
    obtain ⟨j, l, hj, rfl, HL, HO, HB⟩ := hrel
    obtain ⟨Ac, ca, rfl, _⟩ := own_formT HO.out
    have hszr : w1.heap.size ≤ wr.heap.size := HB.out.size
    by_cases hlt : j < n
    · obtain ⟨p, hp⟩ : ∃ p, ps[j]? = some p := ⟨_, List.getElem?_eq_getElem (by rw [HPN.out]; exact hlt)⟩
      have hcj : wr.cell? ⟨g, j, none⟩ = some (sv p) := (HB.out.cell hg2).trans (HC.out j p hp)
      have hpl := HSZ.out p (List.mem_of_getElem? hp)
      obtain ⟨P, hP⟩ : ∃ P : ByteArray, (⟨p.toArray⟩ : ByteArray) = P := ⟨_, rfl⟩
      have hPz : P.size ≤ 60000 := by rw [← hP, bytes_size]; exact hpl
      have hPl : P.data.toList = p := by rw [← hP]
      have CN := Lib.hid (number_any P 7 wr (by omega) (by omega) (by omega))
      rw [hPl] at CN
      have hcs : wr.cell? ⟨g, j, none⟩ = some (.string P) := by rw [hcj, ← hP]; rfl
      have hltI : (j : Int) < (n : Int) := by omega
      have HPJ := Lib.hid hp
      clear hp hcj hpl hP hPl
      cases hk : numS p 7 with
      | none =>
        rw [hk] at CN
        have hbad : Hid (pathS s = ([], 7)) := by show _ = _; rw [HE.out, numsW_bad ps j p HPJ.out hk]; rfl
        clear hk
        go_wp2_with (go_at_call 41; refine CN.out.mono ?_; rintro e w2 ⟨rfl, hw2⟩)
        go_ret2
        obtain rfl := hw2
        exact finErr (HB1.out.trans (HB.out.mono HB1.out.size)) hbad.out
      | some k =>
        rw [hk] at CN
        have HK : Hid (numsW (ps.take (j + 1)) = some (l ++ [k]) ∧ (l ++ [k]).length = j + 1) := ⟨numsW_take ps j p l k HPJ.out HL.out.1 hk, by rw [List.length_append, HL.out.2]; rfl⟩
        clear hk
        go_wp2_with (first
          | (go_at_call 41; refine CN.out.mono ?_; rintro e w2 ⟨rfl, hw2⟩; obtain rfl := hw2; clear CN)
          | (at_builtin; refine wpList_append_own _ rfl (.tmp 33) (.tmp 35) 22 rfl w1.heap.size 3 i0 _ 1 8 Tryz.underlying22 hi0 hz0 hz1 hz2 rfl (by decide) _ _ _ rfl (HO.out.alloc _) ⟨wr.heap.size, 0, none⟩ 1 1 [.int .i64 k] rfl rfl (litG wr k) (by intro u hu; rw [List.mem_singleton.1 hu]; rfl) (by unfold maxLen; omega) (by omega) (by simp; omega) ?_))
        intro v' w6 hown' hgrow _
        have HO6 : Hid (w6.ownsRow w1.heap.size 3 1 v' (j + 1) ((l ++ [k]).map (Value.int .i64))) := by
          show World.ownsRow _ _ _ _ _ _ _
          rw [List.map_append, List.map_singleton]
          exact hown'
        have HB6 : Hid (Below w1.heap.size w1 w6) := (HB.out.alloc hszr _).grown hgrow (by simp; omega) (fun z e => (HO.out.lt z e).1)
        clear hown' hgrow HB HO
        go_wp2
        go_roundw
        case rel => exact ⟨j + 1, l ++ [k], by omega, by go_num, HK.out, HO6.out, HB6.out⟩
        case measure => simp [intOf]; omega
    · obtain rfl : n = j := by omega
      have hall : ps.take n = ps := List.take_of_length_le (by rw [HPN.out]; exact Nat.le_refl _)
      have hnl : numsW ps = some l := by rw [← hall]; exact HL.out.1
      obtain ⟨A', c', hv, hnc, hrd, _⟩ := rd_ownN (xs := l) (by have := HO.out; exact this)
      injection hv with hv1 hv2 hv3
      subst hv1; subst hv3
      have HRD := Lib.hid hrd
      have CE := Lib.hid (refPosErr_any Ac n ca l wr hrd (by omega))
      have HE2 : Hid (pathS s = pathO (some l)) := by show _ = _; rw [HE.out, hnl]
      have HBF : Hid (Below w.heap.size w wr) := HB1.out.trans (HB.out.mono HB1.out.size)
      have HLL := Lib.hid HL.out.2
      clear hall hnl hrd hnc
      by_cases hp : posE l = 0
      · have HE3 : Hid (pathS s = (l, 0)) := by show _ = _; rw [HE2.out, pathO_ok hp]
        rw [hp] at CE
        clear hp
        go_wp2_with (go_at_call 13; refine CE.out.mono ?_; rintro e w2 ⟨rfl, hw2⟩; obtain rfl := hw2)
        go_ret2
        exact finOk HBF.out HE3.out (by rw [HLL.out]; exact ownMono HO.out HB1.out.size)
      · have HE3 : Hid (pathS s = ([], posE l)) := by show _ = _; rw [HE2.out, pathO_err hp]
        have hpn : (posE l != 0) = true := by simpa using hp
        obtain ⟨E, hEE⟩ : ∃ E, posE l = E := ⟨_, rfl⟩
        rw [hEE] at CE hpn HE3
        clear hp hEE
        go_wp2_with (go_at_call 13; refine CE.out.mono ?_; rintro e w2 ⟨rfl, hw2⟩; obtain rfl := hw2)
        go_ret2
        exact finErr HBF.out HE3.out

set_option maxRecDepth 100000 in
set_option maxHeartbeats 4000000 in
/-- The reference's numbers of any string. -/
theorem refParse_any (s : ByteArray) (w : World) (hs : s.size ≤ 60000 + 1000000) :
    Calls Tryz.prog 10 #[.string s] w (OwnRes w (ppE s) (ppL s)) := by
  by_cases h1 : 60000 < s.size
  · have HE : Hid (pathS s = ([], 8)) := if_pos h1
    have hI : (60000 : Int) < (s.size : Int) := by omega
    go_enter Tryz.func10, Tryz.ntmps10
    go_wp2
    go_ret2
    exact finErr (Below.refl _ _) HE.out
  · by_cases h0 : s.size = 0
    · have HE : Hid (pathS s = ([], 0)) := by show _ = _; unfold pathS; rw [if_neg h1, if_pos h0]
      have he := size_nil h0
      subst he
      clear h0 h1 hs
      go_enter Tryz.func10, Tryz.ntmps10
      go_wp2
      go_ret2
      exact finErr (Below.refl _ _) HE.out
    · exact refParse_in s w (by omega) h0 _ _ rfl rfl
end Go.Proofs.YtjjflbnopphciaaGreatDoor
