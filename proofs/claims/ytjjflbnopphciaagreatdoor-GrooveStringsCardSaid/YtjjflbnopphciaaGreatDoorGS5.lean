import Derived.Test.YtjjflbnopphciaaGreatDoorVB
namespace Go.Proofs.YtjjflbnopphciaaGreatDoor
open Go.RowKit

theorem ownBelowT {w w' : World} {base : Nat} {e : TypeId} {size : Nat} {v : Value} {n : Nat} {xs : List Value} (h : w.ownsRow base e size v n xs) (hb : Below w.heap.size w w') : w'.ownsRow base e size v n xs := by
  refine ⟨h.1, ?_⟩
  rcases h.2 with h0 | ⟨g, cap, cur, h1, h2, h3, h4⟩
  · exact .inl h0
  · exact .inr ⟨g, cap, cur, h1, h2, (hb.block g (Array.getElem?_eq_some_iff.1 h3).1).trans h3, h4⟩
theorem own_formT {w : World} {base size n : Nat} {t : TypeId} {v : Value} {xs : List Value} (h : w.ownsRow base t size v n xs) : ∃ A cap, v = .slice A n cap ∧ (0 < n → ∃ g, A = some ⟨g, 0, none⟩) := by
  rcases h.2 with ⟨rfl, rfl⟩ | ⟨g, cap, cur, rfl, _⟩
  · exact ⟨none, 0, rfl, fun h => absurd h (by omega)⟩
  · exact ⟨_, cap, rfl, fun _ => ⟨g, rfl⟩⟩

theorem strInfo : (Tryz.prog.info? 9).map (fun i => (i.zero, i.size, i.bytes)) = some (some (.string ⟨#[]⟩), 1, 16) := by kernel_rfl
/-- A string of these bytes. -/
def sv (l : List UInt8) : Value := .string ⟨l.toArray⟩
theorem sv_of (s : ByteArray) : Value.string s = sv s.data.toList := rfl
theorem sv_cells (l : List UInt8) : (sv l).oneCell' = true := rfl
theorem sv_extract (s : ByteArray) (a b : Nat) (l : List UInt8) (h : l = (s.data.toList.drop a).take (b - a)) : Value.string (s.extract a b) = sv l := by
  rw [sv_of]; subst h
  congr 1
  rw [Lib.extract_data]
theorem pcs_len_le (c : UInt8) (l : List UInt8) : (pcs c l).length ≤ l.length + 1 := by
  induction l with
  | nil => simp [pcs]
  | cons b t ih =>
    unfold pcs
    split
    · simp only [List.length_cons]; omega
    · cases h : pcs c t with
      | nil => simp
      | cons p ps => rw [h] at ih; simp only [List.length_cons] at ih ⊢; omega

set_option maxRecDepth 100000 in
set_option maxHeartbeats 2000000 in
theorem cut_any (s : ByteArray) (c : UInt8) (cI : Int) (hcI : ((c.toNat : Nat) : Int) = cI) (w : World) (hs : s.size ≤ 1000000000) :
    Calls Tryz.prog 40 #[.string s, .int .u8 cI] w fun e w' => (∃ v, e = .returned v ∧ w'.ownsRow w.heap.size 9 1 v (pcs c s.data.toList).length ((pcs c s.data.toList).map sv)) ∧ Below w.heap.size w w' := by
  obtain ⟨i0, hi0, hz0, hz1, hz2⟩ := info_parts strInfo
  have hlen : s.data.toList.length = s.size := by simp
  have HL := Lib.hid hlen; clear hlen
  obtain ⟨B, hB⟩ : ∃ B, w.heap.size = B := ⟨_, rfl⟩
  have HB := Lib.hid hB
  rw [hB]
  clear hB
  have HC := Lib.hid hcI
  clear hcI
  go_enter Tryz.func40, Tryz.ntmps40
  go_wp2
  go_loopw [5, 6, 7] (fun v f i wr => ∃ (fr k m : Nat) (done : List (List UInt8)), fr ≤ k ∧ k ≤ s.size ∧ Hid (m = done.length) ∧ m ≤ k ∧ f = .int .i64 (fr : Int) ∧ i = .int .i64 (k : Int) ∧ Hid (wr.ownsRow B 9 1 v m (done.map sv) ∧ Below B w wr) ∧ Hid (pcs c s.data.toList = done ++ pcs c (s.data.toList.drop fr) ∧ ∀ q, fr ≤ q → q < k → s.data.toList[q]? ≠ some c)) (fun _ _ i _ => s.size - (intOf i).toNat)
  case atStart => exact ⟨0, 0, 0, [], Nat.le_refl _, Nat.zero_le _, rfl, Nat.le_refl _, rfl, rfl, ⟨World.ownsRow_nil _ _ _ _, Below.refl _ _⟩, ⟨by simp, fun q _ h => by omega⟩⟩
  case round =>
    obtain ⟨fr, k, m, done, hfk, hks, hm, hmk, rfl, rfl, HI, HP⟩ := hrel
    obtain ⟨Ac, ca, rfl, _⟩ := own_formT HI.out.1
    have hsz : B ≤ wr.heap.size := by have := HI.out.2.size; have := HB.out; omega
    by_cases hlt : k < s.size
    · have hgk := str_get s k hlt
      by_cases hc : s[k] = c
      · have hce : (((s[k].toNat : Nat) : Int) == cI) = true := by rw [hc, ← HC.out]; simp
        have HX : Hid (Value.string (s.extract fr k) = sv ((s.data.toList.drop fr).take (k - fr))) := sv_extract s fr k _ rfl
        obtain ⟨X, hX⟩ : ∃ X, s.extract fr k = X := ⟨_, rfl⟩
        have HX1 : Hid (Value.string X = sv ((s.data.toList.drop fr).take (k - fr))) := by show _ = _; rw [← hX]; exact HX.out
        have hP2 : pcs c (s.data.toList.drop fr) = (s.data.toList.drop fr).take (k - fr) :: pcs c (s.data.toList.drop (k + 1)) := by
          have := pcs_hit c (s.data.toList.drop fr) (k - fr) (by rw [List.getElem?_drop, show fr + (k - fr) = k by omega, hgk, hc]) (fun q hq => by rw [List.getElem?_drop]; exact HP.out.2 _ (by omega) (by omega))
          rw [this, List.drop_drop, show fr + (k - fr + 1) = k + 1 by omega]
        have HP2 := Lib.hid hP2
        clear hP2 hc hgk
        have hX1 : (Value.string X).oneCell' = true := rfl
        have HNX : Hid (∀ j u, [.string X][j]? = some u → (wr.alloc (.cells #[.string X] 9)).cell? ((⟨wr.heap.size, 0, none⟩ : Addr).add j) = some u) := by
          intro j u hj
          cases j with
          | zero => have : Value.string X = u := by simpa using hj
                    subst this
                    simp [go_sem, Addr.add]
          | succ j => simp at hj
        have HX1c := Lib.hid hX1
        clear hX1
        go_wp2_with (at_builtin; refine wpList_append_own _ rfl (.tmp 19) (.tmp 24) 87 rfl B 9 i0 _ 1 16 Tryz.underlying87 hi0 hz0 hz1 hz2 rfl (by decide) _ _ _ rfl (HI.out.1.alloc _) ⟨wr.heap.size, 0, none⟩ 1 1 [.string X] rfl rfl HNX.out (by intro u hu; rw [List.mem_singleton.1 hu]; exact HX1c.out) (by unfold maxLen; omega) (by omega) (by simp; omega) ?_)
        intro v' w6 hown' hgrow _
        have HFIN : Hid ((w6.ownsRow B 9 1 v' (m + 1) ((done ++ [(s.data.toList.drop fr).take (k - fr)]).map sv) ∧ Below B w w6)) := by
          refine ⟨?_, (HI.out.2.alloc hsz _).grown hgrow (by simp; omega) (fun z e => (HI.out.1.lt z e).1)⟩
          rw [List.map_append, List.map_singleton, ← HX1.out]
          exact hown'
        clear hown' hgrow
        go_wp2
        go_roundw
        case rel =>
          refine ⟨k + 1, k + 1, m + 1, done ++ [(s.data.toList.drop fr).take (k - fr)], Nat.le_refl _, by omega, ?_, by omega, by go_num, by go_num, HFIN.out, ?_, fun q h1 h2 => by omega⟩
          · show _ = _; rw [List.length_append, hm.out]; rfl
          · rw [HP.out.1, HP2.out, List.append_assoc]; rfl
        case measure => simp [intOf]; omega
      · have hce : (((s[k].toNat : Nat) : Int) == cI) = false := by
          rw [← HC.out]
          refine beq_eq_false_iff_ne.2 fun e => hc ?_
          apply UInt8.toNat_inj.1
          omega
        have HP2 : Hid (∀ q, fr ≤ q → q < k + 1 → s.data.toList[q]? ≠ some c) := by
          intro q h1 h2
          by_cases e : q = k
          · subst e; rw [hgk]; exact fun e => hc (Option.some.inj e)
          · exact HP.out.2 q h1 (by omega)
        clear hgk hc
        go_wp2
        go_roundw
        case rel => exact ⟨fr, k + 1, m, done, by omega, by omega, hm, by omega, rfl, by go_num, HI.out, HP.out.1, HP2.out⟩
        case measure => simp [intOf]; omega
    · have HX : Hid (Value.string (s.extract fr s.size) = sv (s.data.toList.drop fr)) := sv_extract s fr s.size _ (by rw [List.take_of_length_le (by rw [List.length_drop, HL.out]; exact Nat.le_refl _)])
      obtain ⟨X, hX⟩ : ∃ X, s.extract fr s.size = X := ⟨_, rfl⟩
      have HX1 : Hid (Value.string X = sv (s.data.toList.drop fr)) := by show _ = _; rw [← hX]; exact HX.out
      have HP2 : Hid (pcs c (s.data.toList.drop fr) = [s.data.toList.drop fr]) := by
        refine pcs_miss c _ fun q => ?_
        rw [List.getElem?_drop]
        by_cases e : fr + q < k
        · exact HP.out.2 _ (by omega) e
        · rw [List.getElem?_eq_none (by rw [HL.out]; omega)]; exact fun e => by cases e
      have hX1 : (Value.string X).oneCell' = true := rfl
      have HNX : Hid (∀ j u, [.string X][j]? = some u → (wr.alloc (.cells #[.string X] 9)).cell? ((⟨wr.heap.size, 0, none⟩ : Addr).add j) = some u) := by
        intro j u hj
        cases j with
        | zero => have : Value.string X = u := by simpa using hj
                  subst this
                  simp [go_sem, Addr.add]
        | succ j => simp at hj
      have HX1c := Lib.hid hX1
      clear hX1
      go_wp2_with (at_builtin; refine wpList_append_own _ rfl (.tmp 28) (.tmp 32) 87 rfl B 9 i0 _ 1 16 Tryz.underlying87 hi0 hz0 hz1 hz2 rfl (by decide) _ _ _ rfl (HI.out.1.alloc _) ⟨wr.heap.size, 0, none⟩ 1 1 [.string X] rfl rfl HNX.out (by intro u hu; rw [List.mem_singleton.1 hu]; exact HX1c.out) (by unfold maxLen; omega) (by omega) (by simp; omega) ?_)
      intro v' w6 hown' hgrow _
      have HFIN : Hid ((w6.ownsRow B 9 1 v' (m + 1) ((done ++ [s.data.toList.drop fr]).map sv) ∧ Below B w w6)) := by
        refine ⟨?_, (HI.out.2.alloc hsz _).grown hgrow (by simp; omega) (fun z e => (HI.out.1.lt z e).1)⟩
        rw [List.map_append, List.map_singleton, ← HX1.out]
        exact hown'
      clear hown' hgrow
      go_wp2
      go_ret
      refine ⟨⟨_, rfl, ?_⟩, HFIN.out.2⟩
      rw [HP.out.1, HP2.out, List.length_append, List.length_singleton, ← hm.out]
      exact HFIN.out.1

theorem own_str {w : World} {base n : Nat} {t : TypeId} {v : Value} {xs : List Value} (h : w.ownsRow base t 1 v n xs) (hl : xs.length = n) (hn : 0 < n) :
    ∃ g cp, v = .slice (some ⟨g, 0, none⟩) n cp ∧ base ≤ g ∧ g < w.heap.size ∧ ∀ k x, xs[k]? = some x → w.cell? ⟨g, k, none⟩ = some x := by
  rcases h.2 with ⟨_, e⟩ | ⟨g, cap, cur, e, hb, hg, h1, h2, h3, h4⟩
  · omega
  · refine ⟨g, cap, e, hb, (Array.getElem?_eq_some_iff.1 hg).1, fun k x hx => ?_⟩
    have hk : k < n := by have := (List.getElem?_eq_some_iff.1 hx).1; omega
    rw [cell_of_row w g k cur _ (0, 0) hg, ← Array.getElem?_toList]
    have e1 : (cur.toList.take (n * 1))[k]? = some x := by rw [h4]; exact hx
    rw [List.getElem?_take, if_pos (by omega)] at e1
    exact e1

theorem cut_form (s : ByteArray) (c : UInt8) (cI : Int) (hcI : ((c.toNat : Nat) : Int) = cI) (w : World) (hs : s.size ≤ 1000000000) (ps : List (List UInt8)) (n : Nat) (hps : pcs c s.data.toList = ps) (hn : ps.length = n) :
    Calls Tryz.prog 40 #[.string s, .int .u8 cI] w fun e w' => ∃ g cp, e = .returned (.slice (some ⟨g, 0, none⟩) n cp) ∧ w.heap.size ≤ g ∧ g < w'.heap.size ∧ (∀ k x, ps[k]? = some x → w'.cell? ⟨g, k, none⟩ = some (sv x)) ∧ Below w.heap.size w w' := by
  refine (cut_any s c cI hcI w hs).mono ?_
  rintro e w' ⟨⟨v, rfl, ho⟩, hb⟩
  rw [hps, hn] at ho
  have h0 : 0 < n := by have := List.length_pos_iff.2 (pcs_ne c s.data.toList); rw [hps, hn] at this; exact this
  obtain ⟨g, cp, rfl, h1, h2, h3⟩ := own_str ho (by rw [List.length_map, hn]) h0
  exact ⟨g, cp, rfl, h1, h2, fun k x hx => h3 k _ (by rw [List.getElem?_map, hx]; rfl), hb⟩

end Go.Proofs.YtjjflbnopphciaaGreatDoor
