import Derived.Test.YtjjflbnopphciaaGreatDoorGS10
import Derived.Test.YtjjflbnopphciaaGreatDoorH4
namespace Go.Proofs.YtjjflbnopphciaaGreatDoor
open Go.RowKit

theorem strEq (a b : ByteArray) (h : a = b) : (a.toList == b.toList) = true := by subst h; simp
theorem strNe (a b : ByteArray) (h : a ≠ b) : (a.toList == b.toList) = false := by
  refine beq_eq_false_iff_ne.2 fun e => h ?_
  rw [Lib.toList_data, Lib.toList_data] at e
  apply ByteArray.ext
  exact Array.toList_inj.1 e

theorem litG1 (W : World) (o : Obj) (k : Int) : ∀ j u, [Value.int .i64 k][j]? = some u → ((W.alloc o).alloc (.cells #[.int .i64 k] 3)).cell? ((⟨W.heap.size + 1, 0, none⟩ : Addr).add j) = some u := by
  intro j u hj
  have := litG (W.alloc o) k j u hj
  simpa using this

/-- What numbersIn answers: numbers of the call's own, or none. -/
def NumRes (w : World) (o : Option (List Int)) (e : Ending) (w' : World) : Prop :=
  (∃ v, e = .returned (.tuple #[v, .bool o.isSome]) ∧ w'.ownsRow w.heap.size 3 1 v (o.getD []).length ((o.getD []).map (Value.int .i64))) ∧ Below w.heap.size w w'
theorem numNone {w w' : World} {o : Option (List Int)} (hb : Below w.heap.size w w') (h : o = none) : NumRes w o (.returned (.tuple #[.slice none 0 0, .bool false])) w' := by
  subst h
  exact ⟨⟨_, rfl, World.ownsRow_nil _ _ _ _⟩, hb⟩
theorem numSome {w w' : World} {o : Option (List Int)} {v : Value} {l : List Int} (hb : Below w.heap.size w w') (h : o = some l) (ho : w'.ownsRow w.heap.size 3 1 v l.length (l.map (Value.int .i64))) : NumRes w o (.returned (.tuple #[v, .bool true])) w' := by
  subst h
  exact ⟨⟨_, rfl, ho⟩, hb⟩

set_option maxRecDepth 100000 in
set_option maxHeartbeats 16000000 in
theorem numbersIn_in (s : ByteArray) (w : World) (hl : LaidG w) (hs : s.size ≤ 60000) (h0 : s.size ≠ 0) (ps : List (List UInt8)) (n : Nat) (hps : pcs 32 s.data.toList = ps) (hpn : ps.length = n) :
    Calls Tryz.prog 38 #[.string s] w (NumRes w (numsW ps)) := by
  obtain ⟨i0, hi0, hz0, hz1, hz2⟩ := info_parts intInfo'
  have C1 := Lib.hid (splitG_form s w hl (by omega) ps n hps hpn)
  have hlen : s.data.toList.length = s.size := by simp
  have hn1 : n ≤ 60001 := by
    have := pcs_len_le 32 s.data.toList
    rw [hps, hpn] at this; omega
  have HSZ : Hid (∀ p ∈ ps, p.length ≤ 60000) := fun p hp => by
    have := pcs_sum 32 s.data.toList p (by rw [hps]; exact hp)
    omega
  have HPN := Lib.hid hpn
  have HL0 := Lib.hid hl
  have hemp := emptyG s h0
  have hne2 := neG s h0
  clear hps hpn hlen hl
  go_enter Tryz.func38, Tryz.ntmps38
  go_wp2_with fail
  refine C1.out.mono ?_
  rintro e w1 ⟨rfl, hc, hg2, hb1⟩
  have HC := Lib.hid hc
  have HB1 := Lib.hid hb1
  clear hc hb1
  obtain ⟨g, hg⟩ : ∃ g, w.heap.size = g := ⟨_, rfl⟩
  have HG := Lib.hid hg
  rw [hg] at HC hg2 ⊢
  clear hg
  go_wp2
  go_loopw [4, 6, 7, 8, 14] (fun v _ _ _ i wr => ∃ (j : Nat) (l : List Int), j ≤ n ∧ i = .int .i64 (j : Int) ∧ Hid (numsW (ps.take j) = some l ∧ l.length = j) ∧ Hid (wr.ownsRow w1.heap.size 3 1 v j (l.map (Value.int .i64))) ∧ Hid (Below w1.heap.size w1 wr)) (fun _ _ _ _ i _ => n - (intOf i).toNat)
  case atStart => exact ⟨0, [], Nat.zero_le _, rfl, ⟨rfl, rfl⟩, World.ownsRow_nil _ _ _ _, Below.refl _ _⟩
  case round =>
    obtain ⟨j, l, hj, rfl, HL, HO, HB⟩ := hrel
    obtain ⟨Ac, ca, rfl, _⟩ := own_formT HO.out
    have hszr : w1.heap.size ≤ wr.heap.size := HB.out.size
    have HLR : Hid (LaidG wr) := HL0.out.later (HB1.out.trans (HB.out.mono HB1.out.size))
    by_cases hlt : j < n
    · obtain ⟨p, hp⟩ : ∃ p, ps[j]? = some p := ⟨_, List.getElem?_eq_getElem (by rw [HPN.out]; exact hlt)⟩
      have hcj : wr.cell? ⟨g, j, none⟩ = some (sv p) := (HB.out.cell hg2).trans (HC.out j p hp)
      have hpl := HSZ.out p (List.mem_of_getElem? hp)
      obtain ⟨P, hP⟩ : ∃ P : ByteArray, (⟨p.toArray⟩ : ByteArray) = P := ⟨_, rfl⟩
      have hPz : P.size ≤ 60000 := by rw [← hP, bytes_size]; exact hpl
      have hPl : P.data.toList = p := by rw [← hP]
      have CA := Lib.hid (atoiG P (by omega) wr HLR.out)
      rw [hPl] at CA
      have HPL := Lib.hid hPl
      have hcs : wr.cell? ⟨g, j, none⟩ = some (.string P) := by rw [hcj, ← hP]; rfl
      have hltI : (j : Int) < (n : Int) := by omega
      have HPJ := Lib.hid hp
      have HPP := Lib.hid hP
      clear hp hcj hpl hPl hP
      have HBW : Hid (∀ W, Below wr.heap.size wr W → Below w.heap.size w W) := fun W hW => HB1.out.trans ((HB.out.trans (hW.mono hszr)).mono HB1.out.size)
      go_wp2_with fail
      refine CA.out.mono ?_
      rintro e w2 ⟨hres, hb2⟩
      have HB2 := Lib.hid hb2
      have HL2 := Lib.hid (HLR.out.later hb2)
      clear hb2 CA
      rcases hres with ⟨v, hv, rfl⟩ | ⟨v, t, q, hv, rfl⟩
      · have hvb := Lib.atoiAll_bounds hv
        obtain ⟨X, hX⟩ : ∃ X, (⟨(Lib.itoa v).toArray⟩ : ByteArray) = X := ⟨_, rfl⟩
        have CI := Lib.hid (itoaG_form v hvb.1 hvb.2 X hX w2 HL2.out)
        by_cases hXP : X = P
        · have hpi : p = Lib.itoa v := by rw [← HPL.out, ← hXP, ← hX]
          have heq := strEq X P hXP
          by_cases hr : -9999999 ≤ v ∧ v ≤ 9999999
          · have HK : Hid (numsW (ps.take (j + 1)) = some (l ++ [v]) ∧ (l ++ [v]).length = j + 1) := ⟨numsW_take ps j p l v HPJ.out HL.out.1 (by rw [hpi]; exact numS_int7 v (by omega)), by rw [List.length_append, HL.out.2]; rfl⟩
            have CM : Hid (∀ W g', W.cell? ⟨g', 0, none⟩ = some (.int .i64 v) → Calls Tryz.prog 60 #[.int .i64 9999999, .slice (some ⟨g', 0, none⟩) 1 1] W fun e w' => e = .returned (.bool true) ∧ W = w') := fun W g' h => by
              have h1 := areAtMost_any _ 1 1 [v] 9999999 W (lit1 _ _ _ h) (by omega) (by omega)
              rw [fromB_one.2 hr] at h1
              exact h1
            clear hv hr hpi hX hXP hvb
            go_wp2_with fail
            refine CI.out.mono ?_
            rintro e w3 ⟨rfl, hb3⟩
            go_wp2_with fail
            refine (CM.out _ _ (by simp [go_sem])).mono ?_
            rintro e w4 ⟨rfl, hw4⟩
            have HB3 : Hid (Below w1.heap.size w1 w4) := by show Below _ _ _; rw [← hw4]; exact (HB.out.trans ((HB2.out.trans (hb3.mono HB2.out.size)).mono hszr)).alloc (Nat.le_trans hszr (Nat.le_trans HB2.out.size hb3.size)) _
            have HO3 : Hid (w4.ownsRow w1.heap.size 3 1 (.slice Ac j ca) j (l.map (Value.int .i64))) := by show World.ownsRow _ _ _ _ _ _ _; rw [← hw4]; exact (ownBelowT (ownBelowT HO.out HB2.out) hb3).alloc _
            have hsz4 : w1.heap.size ≤ w4.heap.size := HB3.out.size
            clear hb3 HO HB HB2 HL2 HLR HBW CI CM hw4
            go_wp2_with (at_builtin; refine wpList_append_own _ rfl (.tmp 37) (.tmp 39) 22 rfl w1.heap.size 3 i0 _ 1 8 Tryz.underlying22 hi0 hz0 hz1 hz2 rfl (by decide) _ _ _ rfl (HO3.out.alloc _) ⟨w4.heap.size, 0, none⟩ 1 1 [.int .i64 v] rfl rfl (litG w4 v) (by intro u hu; rw [List.mem_singleton.1 hu]; rfl) (by unfold maxLen; omega) (by omega) (by simp; omega) ?_)
            intro v' w6 hown' hgrow _
            have HO6 : Hid (w6.ownsRow w1.heap.size 3 1 v' (j + 1) ((l ++ [v]).map (Value.int .i64))) := by
              show World.ownsRow _ _ _ _ _ _ _
              rw [List.map_append, List.map_singleton]
              exact hown'
            have HB6 : Hid (Below w1.heap.size w1 w6) := (HB3.out.alloc hsz4 _).grown hgrow (by simp; omega) (fun z e => (HO3.out.lt z e).1)
            clear hown' hgrow HB3 HO3
            go_wp2
            go_roundw
            case rel => exact ⟨j + 1, l ++ [v], by omega, by go_num, HK.out, HO6.out, HB6.out⟩
            case measure => simp [intOf]; omega
          · have HN : Hid (numsW ps = none) := by
              refine numsW_bad ps j p HPJ.out ?_
              cases hk : numS p 7 with
              | none => rfl
              | some k =>
                exfalso
                have h1 := numS_bd hk
                have h2 := (numS_back hk (by omega)).2
                rw [hv] at h2
                have h3 : v = k := by injection h2
                have : (10 : Nat) ^ 7 = 10000000 := by decide
                omega
            have CM : Hid (∀ W g', W.cell? ⟨g', 0, none⟩ = some (.int .i64 v) → Calls Tryz.prog 60 #[.int .i64 9999999, .slice (some ⟨g', 0, none⟩) 1 1] W fun e w' => e = .returned (.bool false) ∧ W = w') := fun W g' h => by
              have h1 := areAtMost_any _ 1 1 [v] 9999999 W (lit1 _ _ _ h) (by omega) (by omega)
              rw [show fromB (-9999999) 9999999 [v] = false by rw [Bool.eq_false_iff]; intro e; exact hr (fromB_one.1 e)] at h1
              exact h1
            clear hv hr hpi hX hXP hvb
            go_wp2_with (first
              | (go_at_call 36; refine CI.out.mono ?_; rintro e w3 ⟨rfl, hb3⟩)
              | (go_at_call 60; refine (CM.out _ _ (by simp [go_sem])).mono ?_; rintro e w' ⟨rfl, rfl⟩))
            go_ret2
            exact numNone (HBW.out _ ((HB2.out.trans (hb3.mono HB2.out.size)).alloc (Nat.le_trans HB2.out.size hb3.size) _)) HN.out
        · have hne := strNe X P hXP
          have HN : Hid (numsW ps = none) := by
            refine numsW_bad ps j p HPJ.out ?_
            cases hk : numS p 7 with
            | none => rfl
            | some k =>
              exfalso
              have h2 := numS_back hk (by omega)
              rw [hv] at h2
              have h3 : v = k := by injection h2.2
              apply hXP
              rw [← hX, ← HPP.out, h3, ← h2.1]
          clear hv hX hXP hvb
          go_wp2_with (go_at_call 36; refine CI.out.mono ?_; rintro e w3 ⟨rfl, hb3⟩)
          go_ret2
          exact numNone (HBW.out _ (HB2.out.trans (hb3.mono HB2.out.size))) HN.out
      · have HN : Hid (numsW ps = none) := by
          refine numsW_bad ps j p HPJ.out ?_
          cases hk : numS p 7 with
          | none => rfl
          | some k => exact absurd (numS_back hk (by omega)).2 (hv k)
        clear hv
        go_wp2
        go_ret2
        exact numNone (HBW.out _ HB2.out) HN.out
    · obtain rfl : n = j := by omega
      have hall : ps.take n = ps := List.take_of_length_le (by rw [HPN.out]; exact Nat.le_refl _)
      have HNL : Hid (numsW ps = some l) := by show _ = _; rw [← hall]; exact HL.out.1
      clear hall
      go_wp2
      go_ret2
      exact numSome (HB1.out.trans (HB.out.mono HB1.out.size)) HNL.out (by rw [HL.out.2]; exact ownMono HO.out HB1.out.size)
end Go.Proofs.YtjjflbnopphciaaGreatDoor
