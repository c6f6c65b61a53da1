import Derived.Test.YtepjnkmmielamaaDoorW61
import Derived.Test.YtepjnkmmielamaaDoorW22
import Derived.Laws.AppendOwnNone
namespace Go.Proofs.YtepjnkmmielamaaDoor
open Go.RowKit

theorem copyInts_any (A : Option Addr) (n c : Nat) (l : List Int) (w : World) (hA : A = none → n = 0 ∧ c = 0) (hr : RdI w A n l) (hn : n ≤ 1000000) :
    Calls Tryd.prog 41 #[.slice A n c] w fun e w' => ∃ v, e = .returned v ∧ w'.ownsRow w.heap.size 3 1 v n (l.map (Value.int .i64)) ∧ Below w.heap.size w w' := by
  have ho : Hid ((w.alloc (.cells #[] 3)).ownsRow w.heap.size 3 1 (.slice (some ⟨w.heap.size, 0, none⟩) 0 0) 0 []) := World.ownsRow_lit w #[] 0 (Nat.le_refl _) (by unfold maxLen; omega) rfl
  obtain ⟨i0, hi, hz0, hz1, hz2⟩ := info_parts intInfo
  cases A with
  | none =>
    obtain ⟨rfl, rfl⟩ := hA rfl
    have hl : l = [] := List.eq_nil_of_length_eq_zero hr.1
    subst hl
    clear hA hr
    go_enter Tryd.func41, Tryd.ntmps41
    go_wp2_with (at_builtin; refine wpList_append_own_none rfl (.tmp 3) (.tmp 4) 48 rfl w.heap.size 3 i0 1 intsUnder hi _ _ _ rfl ho.out rfl ?_)
    go_ret
    exact ⟨_, rfl, ho.out, (Below.refl _ _).alloc (Nat.le_refl _) _⟩
  | some ad =>
    have HR := Lib.hid hr; clear hr hA
    have hlen : Hid ((l.map (Value.int .i64)).length = n * 1) := by show List.length _ = _; rw [List.length_map]; have := HR.out.1; omega
    have hsrc : Hid (∀ j u, (l.map (Value.int .i64))[j]? = some u → (w.alloc (.cells #[] 3)).cell? (ad.add j) = some u) := by
      intro j u hu
      have hj : j < l.length := by
        have := (List.getElem?_eq_some_iff.1 hu).1
        simpa using this
      have hl := HR.out.1
      obtain ⟨ad', ha, hlt, hc⟩ := HR.out.2 (by omega)
      obtain rfl := Option.some.inj ha
      rw [World.cell?_alloc_lt w _ _ (by rw [addBlock]; exact hlt), hc j (by omega)]
      rw [List.getElem?_map, List.getElem?_eq_getElem hj] at hu
      simp at hu
      rw [← hu]
      simp [List.getD_eq_getElem?_getD, List.getElem?_eq_getElem hj]
    have hone := Lib.hid (one_ints l)
    obtain ⟨news, hnews⟩ : ∃ news, l.map (Value.int .i64) = news := ⟨_, rfl⟩
    rw [hnews] at hlen hsrc hone ⊢
    clear hnews
    go_enter Tryd.func41, Tryd.ntmps41
    go_wp2_with (at_builtin; refine wpList_append_own _ rfl (.tmp 3) (.tmp 4) 48 rfl w.heap.size 3 i0 (.int .i64 0) 1 8 intsUnder hi hz0 hz1 hz2 rfl (by decide) _ _ _ rfl ho.out ad n c news rfl hlen.out hsrc.out hone.out (by unfold maxLen; omega) (by omega) (by simp) ?_)
    intro v w2 ho2 hg2 _
    have b2 : Below w.heap.size w w2 := ((Below.refl _ _).alloc (Nat.le_refl _) _).grown hg2 (by simp) (fun g hg => (ho.out.lt g hg).1)
    have o2 := Lib.hid ho2
    have B2 := Lib.hid b2
    clear ho2 hg2 b2
    go_wp2
    go_ret
    refine ⟨_, rfl, ?_, B2.out⟩
    have := o2.out
    simpa using this

/-- A slice of the call's own as it reads. -/
theorem rd_own_c {w : World} {base : Nat} {e : TypeId} {v : Value} {n : Nat} {xs : List Int} (h : w.ownsRow base e 1 v n (xs.map (Value.int .i64))) :
    ∃ A c, v = .slice A n c ∧ n ≤ c ∧ c ≤ 9223372036854775807 ∧ RdI w A n xs := by
  obtain ⟨A, c, hv, hnc, hr⟩ := rd_of_own h
  refine ⟨A, c, hv, hnc, ?_, hr⟩
  rcases h.2 with ⟨h1, _⟩ | ⟨g, cap, cur, h1, _, _, _, hm, _⟩
  · rw [hv] at h1; cases h1; omega
  · rw [hv] at h1; cases h1; unfold maxLen at hm; omega

theorem is8_iArr_eq {arr : Array Value} {xs : List Int} (h : Is8 arr xs) : arr = iArr xs := h.lit.trans (is8_iArr xs h.len).lit.symm

/-- What both say of bits: the eight numbers and the error. -/
theorem unp_both (n : Nat) (l : List Int) (hl : l.length = n) (hn : n ≤ 400 ∨ (3000 < n ∧ n ≤ 3004)) : ∃ (r : Int) (xs : List Int), xs.length = 8 ∧
    (∀ W A c, Laid W → RdI W A n l → n ≤ c → c ≤ 9223372036854775807 → Calls Tryd.prog 52 #[.slice A n c] W fun e w' => e = .returned (.tuple #[.agg (iArr xs), .int .i64 r]) ∧ Below W.heap.size W w') ∧
    (∀ W A c, Laid W → RdI W A n l → n ≤ c → c ≤ 9223372036854775807 → Calls Tryd.prog 53 #[.slice A n c] W fun e w' => e = .returned (.tuple #[.agg (iArr xs), .int .i64 r]) ∧ Below W.heap.size W w') := by
  by_cases he : headE n l = 0
  · have h3 : ¬ (3000 : Int) < n := by
      intro h; unfold headE whenE at he; simp [firstE, h] at he
    have hn4 : n ≤ 400 := by omega
    have hre := rangesE_b01 l
    have hb : b01 l = true := by
      cases hb : b01 l with
      | true => rfl
      | false => rw [hb] at hre; unfold headE whenE at he; rw [hre] at he; simp [firstE, h3] at he
    rw [hb] at hre
    have h7 : ¬ (n : Int) < 7 := by
      intro h; unfold headE whenE at he; rw [hre] at he; simp [firstE, h3, h] at he
    have h01 := (b01_iff l).1 hb
    have n7 : 7 ≤ n := by omega
    have hp0 := (numT_bd (l.take 2) (fun x hx => h01 x (List.mem_of_mem_take hx))).1
    have hk0 := (numT_bd ((l.drop 2).take 5) (fun x hx => h01 x (List.mem_of_mem_drop (List.mem_of_mem_take hx)))).1
    by_cases hp : parE (numT (l.take 2)) (numT ((l.drop 2).take 5)) = 0
    · have hb4 : numT (l.take 2) ≤ 2 ∧ numT ((l.drop 2).take 5) ≤ 17 := by
        unfold parE inB at hp; simp at hp; omega
      obtain ⟨p, hpe⟩ := Int.eq_ofNat_of_zero_le hp0
      obtain ⟨k, hke⟩ := Int.eq_ofNat_of_zero_le hk0
      obtain ⟨ok, hok⟩ : ∃ ok, rdOk (l.drop 7) k = ok := ⟨_, rfl⟩
      obtain ⟨r, hr⟩ : ∃ r, rangesE (unfT (rdXs (l.drop 7) k) p 8) (-32767) 32767 = r := ⟨_, rfl⟩
      have hin : ∀ W A c, Laid W → RdI W A n l → n ≤ c → c ≤ 9223372036854775807 → UnpIn W A n c l p k := fun W A c a b d e => ⟨a, b, h01, n7, hn4, d, e, by omega, by omega, hpe, hke⟩
      refine ⟨if ok then r else 10, if ok = true ∧ r = 0 then unfT (rdXs (l.drop 7) k) p 8 else [0, 0, 0, 0, 0, 0, 0, 0], ?_, fun W A c a b d e => ?_, fun W A c a b d e => ?_⟩
      · split
        · exact unfT_length _ _ _
        · rfl
      · refine (unp_core A n c l p k W (hin W A c a b d e) ok hok r (fun _ => hr)).mono ?_
        rintro e w' ⟨ys, rfl, hys, hb⟩
        exact ⟨by rw [is8_iArr_eq hys], hb⟩
      · refine (refUnp_core A n c l p k W (hin W A c a b d e) ok hok r (fun _ => hr)).mono ?_
        rintro e w' ⟨ys, rfl, hys, hb⟩
        exact ⟨by rw [is8_iArr_eq hys], hb⟩
    · have hp2 : parE (numT (l.take 2)) (numT ((l.drop 2).take 5)) = 2 := by unfold parE at hp ⊢; split at hp <;> simp_all
      have hbad : 3 ≤ numT (l.take 2) ∨ 18 ≤ numT ((l.drop 2).take 5) := by
        unfold parE inB at hp; simp at hp; omega
      exact ⟨3, [0, 0, 0, 0, 0, 0, 0, 0], rfl, fun W A c a b d e => unp_form A n c l _ _ W b h01 n7 hn4 d rfl rfl hbad, fun W A c a b d e => refUnp_form A n c l _ _ W b h01 n7 hn4 d rfl rfl hp2⟩
  · exact ⟨headE n l, [0, 0, 0, 0, 0, 0, 0, 0], rfl, fun W A c a b d e => unp_head A n c l _ W b (by omega) rfl he, fun W A c a b d e => refUnp_head A n c l _ W b (by omega) rfl he⟩

set_option maxRecDepth 100000 in
set_option maxHeartbeats 4000000 in
theorem unpacks_walk (A : Option Addr) (n c : Nat) (l : List Int) (w : World) (hw : Laid w) (hA : A = none → n = 0 ∧ c = 0) (hr : RdI w A n l) (hnc : n ≤ c) (hc : c ≤ 9223372036854775807) :
    Calls Tryd.prog 10 #[.slice A n c] w fun e w' => e = .returned (.bool true) ∧ Below w.heap.size w w' := by
  have HW := Lib.hid hw
  have HR := Lib.hid hr
  by_cases hskip : (400 < n ∧ n ≤ 3000) ∨ 3004 < n
  · clear hA hr hw
    by_cases h1 : n ≤ 3000
    · have h2 : 400 < n := by omega
      clear hskip
      go_enter Tryd.func10, Tryd.ntmps10
      go_wp2_with fail
      refine (awake_any _ HW.out).mono ?_
      rintro e w2 ⟨rfl, hb2⟩
      have l2 := Lib.hid hb2
      clear hb2
      go_wp2
      go_ret
      exact ⟨rfl, l2.out⟩
    · have h2 : 3004 < n := by omega
      clear hskip
      go_enter Tryd.func10, Tryd.ntmps10
      go_wp2_with fail
      refine (awake_any _ HW.out).mono ?_
      rintro e w2 ⟨rfl, hb2⟩
      have l2 := Lib.hid hb2
      clear hb2
      go_wp2
      go_ret
      exact ⟨rfl, l2.out⟩
  · have hn : n ≤ 400 ∨ (3000 < n ∧ n ≤ 3004) := by omega
    have HA := Lib.hid hA
    obtain ⟨r, xs, hxs, h1, h2⟩ := unp_both n l hr.1 hn
    have C1 := Lib.hid h1
    have C2 := Lib.hid h2
    have HC := Lib.hid (is8_iArr xs hxs)
    have hlit := HC.out.lit
    obtain ⟨x0, x1, x2, x3, x4, x5, x6, x7, hcs⟩ : ∃ x0 x1 x2 x3 x4 x5 x6 x7 : Int, iArr xs = #[.int .i64 x0, .int .i64 x1, .int .i64 x2, .int .i64 x3, .int .i64 x4, .int .i64 x5, .int .i64 x6, .int .i64 x7] := ⟨_, _, _, _, _, _, _, _, hlit⟩
    rw [hcs] at C1 C2 HC
    have EQ := eq8_lit x0 x1 x2 x3 x4 x5 x6 x7
    clear hlit hcs h1 h2 hA hr hw hskip hxs
    have hcase : n ≤ 400 ∨ 3000 < n := by omega
    have hn4 : n ≤ 3004 := by omega
    clear hn
    rcases hcase with hlow | hhigh
    all_goals
      go_enter Tryd.func10, Tryd.ntmps10
      go_wp2_with fail
      refine (awake_any _ HW.out).mono ?_
      rintro e w2 ⟨rfl, hb2⟩
      have l2 := Lib.hid hb2
      have R2 := Lib.hid (HR.out.below hb2)
      clear hb2
      go_wp2_with fail
      refine (copyInts_any A n c l w2 HA.out R2.out (by omega)).mono ?_
      rintro e w3 ⟨v3, rfl, ho3, hb3⟩
      obtain ⟨A3, c3, rfl, hnc3, hc3, hr3⟩ := rd_own_c ho3
      have l3 : Hid (Below w.heap.size w w3) := l2.out.trans (hb3.mono l2.out.size)
      have R3 := Lib.hid (R2.out.below hb3)
      have S3 := Lib.hid hr3
      clear hb3 ho3 hr3 l2 R2
      go_wp2_with fail
      refine (C1.out _ A3 c3 (HW.out.later l3.out) S3.out hnc3 hc3).mono ?_
      rintro e w4 ⟨rfl, hb4⟩
      have l4 : Hid (Below w.heap.size w w4) := l3.out.trans (hb4.mono l3.out.size)
      have R4 := Lib.hid (R3.out.below hb4)
      clear hb4 l3 R3 S3
      obtain ⟨w5, hw5⟩ : ∃ w5, World.setRow (w4.alloc (.cells zero8 35)) w4.heap.size #[.int .i64 x0, .int .i64 x1, .int .i64 x2, .int .i64 x3, .int .i64 x4, .int .i64 x5, .int .i64 x6, .int .i64 x7] = w5 := ⟨_, rfl⟩
      have Y5 : Hid (Bk w5 w4.heap.size 35 #[.int .i64 x0, .int .i64 x1, .int .i64 x2, .int .i64 x3, .int .i64 x4, .int .i64 x5, .int .i64 x6, .int .i64 x7]) := by show Bk _ _ _ _; rw [← hw5]; exact setRow_heap _ _ _ _ _ _ (heap_alloc_new w4 _)
      have b5 : Below w4.heap.size w4 w5 := by rw [← hw5]; exact below_setRow ((Below.refl _ _).alloc (Nat.le_refl _) _) (Nat.le_refl _) _
      have l5 : Hid (Below w.heap.size w w5) := l4.out.trans (b5.mono l4.out.size)
      have R5 := Lib.hid (R4.out.below b5)
      have HW5 := Lib.hid hw5
      clear hw5 b5 l4 R4
      go_wp2_with (first
        | (with_reducible refine wpList_store_row rfl 35 (.tmp 3) (.tmp 26) rfl w4.heap.size #[.int .i64 x0, .int .i64 x1, .int .i64 x2, .int .i64 x3, .int .i64 x4, .int .i64 x5, .int .i64 x6, .int .i64 x7] rfl rfl 35 zero8 (heap_alloc_new w4 _) HC.out.info HC.out.zsize HC.out.one ?_; rw [HW5.out]))
      refine (C2.out _ A c (HW.out.later l5.out) R5.out hnc hc).mono ?_
      rintro e w6 ⟨rfl, hb6⟩
      have l6 : Hid (Below w.heap.size w w6) := l5.out.trans (hb6.mono l5.out.size)
      have Y6 : Hid (Bk w6 w4.heap.size 35 #[.int .i64 x0, .int .i64 x1, .int .i64 x2, .int .i64 x3, .int .i64 x4, .int .i64 x5, .int .i64 x6, .int .i64 x7]) := Y5.out.below hb6 Y5.out.lt
      clear hb6 l5 R5 Y5 HW5
      obtain ⟨w7, hw7⟩ : ∃ w7, World.setRow (w6.alloc (.cells zero8 35)) w6.heap.size #[.int .i64 x0, .int .i64 x1, .int .i64 x2, .int .i64 x3, .int .i64 x4, .int .i64 x5, .int .i64 x6, .int .i64 x7] = w7 := ⟨_, rfl⟩
      have Z7 : Hid (Bk w7 w6.heap.size 35 #[.int .i64 x0, .int .i64 x1, .int .i64 x2, .int .i64 x3, .int .i64 x4, .int .i64 x5, .int .i64 x6, .int .i64 x7]) := by show Bk _ _ _ _; rw [← hw7]; exact setRow_heap _ _ _ _ _ _ (heap_alloc_new w6 _)
      have b7 : Below w6.heap.size w6 w7 := by rw [← hw7]; exact below_setRow ((Below.refl _ _).alloc (Nat.le_refl _) _) (Nat.le_refl _) _
      have l7 : Hid (Below w.heap.size w w7) := l6.out.trans (b7.mono l6.out.size)
      have Y7 : Hid (Bk w7 w4.heap.size 35 #[.int .i64 x0, .int .i64 x1, .int .i64 x2, .int .i64 x3, .int .i64 x4, .int .i64 x5, .int .i64 x6, .int .i64 x7]) := Y6.out.below b7 Y6.out.lt
      have HW7 := Lib.hid hw7
      clear hw7 b7 l6 Y6
      have c0 : w7.cell? ⟨w4.heap.size, 0, none⟩ = some (.int .i64 x0) := by rw [Y7.out.cell]; rfl
      have c1 : w7.cell? ⟨w4.heap.size, 1, none⟩ = some (.int .i64 x1) := by rw [Y7.out.cell]; rfl
      have c2 : w7.cell? ⟨w4.heap.size, 2, none⟩ = some (.int .i64 x2) := by rw [Y7.out.cell]; rfl
      have c3 : w7.cell? ⟨w4.heap.size, 3, none⟩ = some (.int .i64 x3) := by rw [Y7.out.cell]; rfl
      have c4 : w7.cell? ⟨w4.heap.size, 4, none⟩ = some (.int .i64 x4) := by rw [Y7.out.cell]; rfl
      have c5 : w7.cell? ⟨w4.heap.size, 5, none⟩ = some (.int .i64 x5) := by rw [Y7.out.cell]; rfl
      have c6 : w7.cell? ⟨w4.heap.size, 6, none⟩ = some (.int .i64 x6) := by rw [Y7.out.cell]; rfl
      have c7 : w7.cell? ⟨w4.heap.size, 7, none⟩ = some (.int .i64 x7) := by rw [Y7.out.cell]; rfl
      have d0 : w7.cell? ⟨w6.heap.size, 0, none⟩ = some (.int .i64 x0) := by rw [Z7.out.cell]; rfl
      have d1 : w7.cell? ⟨w6.heap.size, 1, none⟩ = some (.int .i64 x1) := by rw [Z7.out.cell]; rfl
      have d2 : w7.cell? ⟨w6.heap.size, 2, none⟩ = some (.int .i64 x2) := by rw [Z7.out.cell]; rfl
      have d3 : w7.cell? ⟨w6.heap.size, 3, none⟩ = some (.int .i64 x3) := by rw [Z7.out.cell]; rfl
      have d4 : w7.cell? ⟨w6.heap.size, 4, none⟩ = some (.int .i64 x4) := by rw [Z7.out.cell]; rfl
      have d5 : w7.cell? ⟨w6.heap.size, 5, none⟩ = some (.int .i64 x5) := by rw [Z7.out.cell]; rfl
      have d6 : w7.cell? ⟨w6.heap.size, 6, none⟩ = some (.int .i64 x6) := by rw [Z7.out.cell]; rfl
      have d7 : w7.cell? ⟨w6.heap.size, 7, none⟩ = some (.int .i64 x7) := by rw [Z7.out.cell]; rfl
      go_wp2_with (first
        | (with_reducible refine wpList_store_row rfl 35 (.tmp 5) (.tmp 31) rfl w6.heap.size #[.int .i64 x0, .int .i64 x1, .int .i64 x2, .int .i64 x3, .int .i64 x4, .int .i64 x5, .int .i64 x6, .int .i64 x7] rfl rfl 35 zero8 (heap_alloc_new w6 _) HC.out.info HC.out.zsize HC.out.one ?_; rw [HW7.out]))
      go_ret
      exact ⟨rfl, l7.out⟩

end Go.Proofs.YtepjnkmmielamaaDoor
