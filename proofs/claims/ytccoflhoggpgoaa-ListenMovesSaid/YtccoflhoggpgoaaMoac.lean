import Derived.Test.YtccoflhoggpgoaaMoab
namespace Go.Proofs.Ytccoflhoggpgoaa
open Go.RowKit

open Go.Shelf

theorem RdRows.go {w : World} {A : Option Addr} {N n : Nat} {L : List (List Int)} (h : RdRows w A N L n) : RdGo w A N L := by
  refine ⟨h.1, fun hn => ?_⟩
  obtain ⟨ad, e, hlt, hc⟩ := h.2 hn
  refine ⟨ad, e, hlt, fun j hj => ?_⟩
  obtain ⟨B, c, h1, h2, h3, h4⟩ := hc j hj
  exact ⟨B, n, c, h1, h3, h4⟩

set_option maxRecDepth 100000 in
theorem collect_any (gx n : Nat) (hn : n < 7) (w : World) (hgx : w.cell? ⟨gx, 0, none⟩ = some (.int .i64 n)) (hgl : gx < w.heap.size) :
    Calls Try.prog 118 #[.func (.func 142) #[] #[.pointer (some ⟨gx, 0, none⟩)]] w fun e w' => (∃ A c, e = .returned (.slice A (ords n).length c) ∧ RdRows w' A (ords n).length (ords n) n) ∧ Below w.heap.size w w' := by
  have C := Lib.hid (appendSeq_any gx n hn w hgx hgl)
  clear hgx
  go_enter Try.func118, Try.ntmps118
  go_wp2_with (go_at_call 141; refine C.out.mono ?_; rintro e w' ⟨⟨A, c, rfl, HR⟩, HB⟩)
  go_ret
  exact ⟨⟨A, c, rfl, HR⟩, HB⟩

set_option maxRecDepth 100000 in
set_option maxHeartbeats 400000 in
theorem ranking1_any (A : Option Addr) (n c gx : Nat) (p : List (List Int)) (B : Option Addr) (d : Nat) (o : List Int) (B' : Option Addr) (d' : Nat) (o' : List Int) (w : World) (hx : w.cell? ⟨gx, 0, none⟩ = some (.slice A n c)) (hp : RdGo w A n p) (ho : RdI w B n o) (hd : n ≤ d) (ho' : RdI w B' n o') (hd' : n ≤ d') (hn : n ≤ 6) (hv : VP n p) (hvo : VO n o) (hvo' : VO n o') :
    Calls Try.prog 120 #[.slice B n d, .slice B' n d', .pointer (some ⟨gx, 0, none⟩)] w fun e w' => e = .returned (.int .i64 (cpF (dsF p o) (dsF p o'))) ∧ ∃ k, w' = w.drewN k := by
  have hb : ∀ k, Below w.heap.size w (w.drewN k) := fun k => blw_drewN (Below.refl _ _) k
  have D1 : Hid (∀ k, Calls Try.prog 116 #[.slice A n c, .slice B n d] (w.drewN k) fun e w' => e = .returned (.int .i64 (dsF p o)) ∧ w.drewN k = w') := fun k => disagreements_any A n c p B d o (w.drewN k) (hp.below (hb k)) (ho.below (hb k)) hd hn hv hvo
  have D2 : Hid (∀ k, Calls Try.prog 116 #[.slice A n c, .slice B' n d'] (w.drewN k) fun e w' => e = .returned (.int .i64 (dsF p o')) ∧ w.drewN k = w') := fun k => disagreements_any A n c p B' d' o' (w.drewN k) (hp.below (hb k)) (ho'.below (hb k)) hd' hn hv hvo'
  obtain ⟨u, hu⟩ : ∃ u, dsF p o = u := ⟨_, rfl⟩
  obtain ⟨v, hv'⟩ : ∃ u, dsF p o' = u := ⟨_, rfl⟩
  rw [hu] at D1 ⊢
  rw [hv'] at D2 ⊢
  clear hb hu hv' hp ho ho' hv hvo hvo' hd hd' hn
  go_enter Try.func120, Try.ntmps120
  go_wp2
  go_quiet (first | (go_at_call 116; with_reducible exact quietP (D1.out _)) | (go_at_call 116; with_reducible exact quietP (D2.out _)) | (go_at_call 121; exact quietP (compare_any _ _ _)))
  go_wp2
  go_ret
  exact ⟨rfl, _, rfl⟩

theorem addZ (a : Addr) : a.add 0 = a := by
  cases a with
  | mk b o s => cases s <;> simp [Addr.add]
/-- The first of the least among the first k + 1. -/
def mnK (p : List (List Int)) (L : List (List Int)) : Nat → List Int
  | 0 => L.getD 0 []
  | k + 1 => if dsF p (L.getD (k + 1) []) < dsF p (mnK p L k) then L.getD (k + 1) [] else mnK p L k
theorem mnK_mem (p : List (List Int)) (L : List (List Int)) : ∀ k, k < L.length → ∃ j, j ≤ k ∧ mnK p L k = L.getD j []
  | 0, _ => ⟨0, Nat.le_refl _, rfl⟩
  | k + 1, h => by
    obtain ⟨j, hj, e⟩ := mnK_mem p L k (by omega)
    unfold mnK
    split
    · exact ⟨k + 1, Nat.le_refl _, rfl⟩
    · exact ⟨j, by omega, e⟩
theorem cpF_lt (a b : Int) : cpF a b < 0 ↔ a < b := by
  unfold cpF
  split
  · simp; assumption
  · split
    · constructor
      · intro h; omega
      · intro h; omega
    · constructor
      · intro h; omega
      · intro h; omega

set_option maxRecDepth 100000 in
set_option maxHeartbeats 4000000 in
theorem minFunc_any (A : Option Addr) (n c gx : Nat) (p : List (List Int)) (M : Option Addr) (N mc : Nat) (L : List (List Int)) (w : World) (hx : w.cell? ⟨gx, 0, none⟩ = some (.slice A n c)) (hgl : gx < w.heap.size) (hp : RdGo w A n p) (hL : RdRows w M N L n) (hN : 0 < N) (hN7 : N ≤ 720) (hn : n ≤ 6) (hv : VP n p) (hvo : ∀ k, k < N → VO n (L.getD k [])) :
    Calls Try.prog 117 #[.slice M N mc, .func (.func 120) #[] #[.pointer (some ⟨gx, 0, none⟩)]] w fun e w' => (∃ B d, e = .returned (.slice B n d) ∧ n ≤ d ∧ RdI w' B n (mnK p L (N - 1)) ∧ (B = none → n = 0 ∧ d = 0)) ∧ Below w.heap.size w w' := by
  have HLEN : Hid (L.length = N) := hL.1
  have HVM : Hid (∀ k, k < N → VO n (mnK p L k)) := by
    intro k hk
    obtain ⟨j, hj, e⟩ := mnK_mem p L k (by have := hL.1; omega)
    rw [e]
    exact hvo j (by omega)
  have C : Hid (∀ W, Below w.heap.size w W → ∀ B d o B' d' o', RdI W B n o → n ≤ d → RdI W B' n o' → n ≤ d' → VO n o → VO n o' → Calls Try.prog 120 #[.slice B n d, .slice B' n d', .pointer (some ⟨gx, 0, none⟩)] W fun e w' => e = .returned (.int .i64 (cpF (dsF p o) (dsF p o'))) ∧ Below W.heap.size W w') := fun W hb B d o B' d' o' h1 h2 h3 h4 h5 h6 =>
    (ranking1_any A n c gx p B d o B' d' o' W ((hb.cell (p := ⟨gx, 0, none⟩) hgl).trans hx) (hp.below hb) h1 h2 h3 h4 hn hv h5 h6).mono fun e w' ⟨he, k, hk⟩ => ⟨he, by rw [hk]; exact blw_drewN (Below.refl _ _) k⟩
  have HR := Lib.hid hL
  have HVO := Lib.hid hvo
  have HST : Hid (∀ k, mnK p L (k + 1) = if dsF p (L.getD (k + 1) []) < dsF p (mnK p L k) then L.getD (k + 1) [] else mnK p L k) := fun k => rfl
  have HM0 : Hid (mnK p L 0 = L.getD 0 []) := rfl
  have hN0 : ¬ (N : Int) < 1 := by omega
  obtain ⟨md, hM, _, hc⟩ := hL.2 hN
  subst hM
  obtain ⟨B0, c0, h00, h01, h02, h03⟩ := hc 0 hN
  rw [← HM0.out] at h02
  have h0z := h00
  rw [addZ] at h0z
  have HRD0 := Lib.hid h02
  have HN0 := Lib.hid h03
  obtain ⟨m, hm⟩ : ∃ m, mnK p L = m := ⟨_, rfl⟩
  rw [hm] at HVM HST HRD0 ⊢
  clear hx hp hL hv hvo hc h02 h03 hm HM0
  go_enter Try.func117, Try.ntmps117
  go_wp2
  go_loopw [5, 6] (fun s i wr => ∃ q : Nat, 0 < q ∧ q ≤ N ∧ i = .int .i64 q ∧ Hid (Below w.heap.size w wr) ∧ ∃ B d, s = .slice B n d ∧ n ≤ d ∧ Hid (RdI wr B n (m (q - 1))) ∧ Hid (B = none → n = 0 ∧ d = 0)) (fun _ i _ => N - (intOf i).toNat)
  case atStart => exact ⟨1, by omega, hN, rfl, Lib.hid (Below.refl _ _), B0, c0, rfl, h01, HRD0, HN0⟩
  case round =>
    obtain ⟨q, hq0, hqN, rfl, HB, B, d, rfl, hnd, HRD, HBN⟩ := hrel
    by_cases hlt : q < N
    · have hkI : (q : Int) < (N : Int) := by omega
      have hk0 : (0 : Int) ≤ (q : Int) := by omega
      obtain ⟨md', hM', _, hcr⟩ := (HR.out.below HB.out).2 hN
      cases hM'
      obtain ⟨B1, c1, h10, h11, h12, h13⟩ := hcr q hlt
      have HCC := Lib.hid (C.out wr HB.out B1 c1 _ B d _ h12 h11 HRD.out hnd (HVO.out _ hlt) (HVM.out (q - 1) (by omega)))
      have HSK := Lib.hid (HST.out (q - 1))
      rw [show q - 1 + 1 = q by omega] at HSK
      have HR1 := Lib.hid h12
      have HN1 := Lib.hid h13
      have HLT := Lib.hid (cpF_lt (dsF p (L.getD q [])) (dsF p (m (q - 1))))
      obtain ⟨o1, ho1⟩ : ∃ o, L.getD q [] = o := ⟨_, rfl⟩
      rw [ho1] at HCC HSK HR1 HLT
      obtain ⟨V, hV⟩ : ∃ V, cpF (dsF p o1) (dsF p (m (q - 1))) = V := ⟨_, rfl⟩
      rw [hV] at HCC HLT
      clear hcr h12 h13 ho1 hV
      by_cases hV0 : V < 0
      · have hmk : m q = o1 := by rw [HSK.out, if_pos (HLT.out.1 hV0)]
        have HMK := Lib.hid hmk
        clear hmk
        go_wp2_with fail
        refine HCC.out.mono ?_
        rintro e w' ⟨rfl, hb⟩
        have h10' := (hb.cell (World.block_lt_of_cell? _ _ h10)).trans h10
        have HB2 := Lib.hid (HB.out.trans (hb.mono HB.out.size))
        have HRD2 := Lib.hid (HR1.out.below hb)
        clear hb h10
        go_wp2
        go_roundw
        case rel => exact ⟨q + 1, by omega, by omega, by go_num, HB2, B1, c1, rfl, h11, by show RdI _ _ _ _; rw [Nat.add_sub_cancel, HMK.out]; exact HRD2.out, HN1⟩
        case measure => simp [intOf]; omega
      · have hmk : m q = m (q - 1) := by rw [HSK.out, if_neg (fun h => hV0 (HLT.out.2 h))]
        have HMK := Lib.hid hmk
        clear hmk
        go_wp2_with fail
        refine HCC.out.mono ?_
        rintro e w' ⟨rfl, hb⟩
        have HB2 := Lib.hid (HB.out.trans (hb.mono HB.out.size))
        have HRD2 := Lib.hid (HRD.out.below hb)
        clear hb h10
        go_wp2
        go_roundw
        case rel => exact ⟨q + 1, by omega, by omega, by go_num, HB2, B, d, rfl, hnd, by show RdI _ _ _ _; rw [Nat.add_sub_cancel, HMK.out]; exact HRD2.out, HBN⟩
        case measure => simp [intOf]; omega
    · obtain rfl : N = q := by omega
      have hkI : ¬ (N : Int) < (N : Int) := by omega
      go_wp2
      go_ret
      exact ⟨⟨B, d, rfl, hnd, HRD.out, HBN.out⟩, HB.out⟩

end Go.Proofs.Ytccoflhoggpgoaa

namespace Go.Proofs.Ytccoflhoggpgoaa
open Go.RowKit

open Go.Shelf

theorem rngE1_zero {x : Int} (h : rngE 0 1000 [x] = 0) : 0 ≤ x ∧ x ≤ 1000 := by
  unfold rngE at h
  split at h
  · next h1 => simpa [fromB] using h1
  · cases h
theorem rwE_zero (i : Nat) : ∀ (r : List Int) (j : Nat), rwE i j r = 0 → ∀ x ∈ r, 0 ≤ x ∧ x ≤ 1000
  | [], _, _ => by simp
  | y :: r, j, h => by
    unfold rwE at h
    by_cases hy : celE i j y = 0
    · rw [if_pos hy] at h
      intro x hx
      rcases List.mem_cons.1 hx with rfl | hx
      · exact rngE1_zero (firstNZ_zero hy _ (by simp))
      · exact rwE_zero i r (j + 1) h x hx
    · rw [if_neg hy] at h; exact absurd h hy
theorem rwsE_zero : ∀ (p : List (List Int)) (i : Nat), rwsE i p = 0 → ∀ r ∈ p, ∀ x ∈ r, 0 ≤ x ∧ x ≤ 1000
  | [], _, _ => by simp
  | q :: p, i, h => by
    unfold rwsE at h
    by_cases hy : rwE i 0 q = 0
    · rw [if_pos hy] at h
      intro r hr
      rcases List.mem_cons.1 hr with rfl | hr
      · exact rwE_zero i r 0 hy
      · exact rwsE_zero p (i + 1) h r hr
    · rw [if_neg hy] at h; exact absurd h hy
theorem pfE_zero {p : List (List Int)} (h : pfE p = 0) : p.length ≤ 6 ∧ VP p.length p := by
  unfold pfE at h
  by_cases h6 : 6 < p.length
  · rw [if_pos h6] at h; cases h
  · rw [if_neg h6] at h
    by_cases hs : shE p.length p = 0
    · rw [if_pos hs] at h
      refine ⟨by omega, rfl, fun r hr => ⟨?_, rwsE_zero p 0 h r hr⟩⟩
      unfold shE at hs
      by_cases ha : p.all (fun r => decide (r.length = p.length)) = true
      · have := List.all_eq_true.1 ha r hr
        simpa using this
      · rw [if_neg ha] at hs; cases hs
    · rw [if_neg hs] at h; cases h
/-- The best order. -/
def brF (p : List (List Int)) : List Int := mnK p (ords p.length) ((ords p.length).length - 1)
theorem ords_VO {n : Nat} (hn : n < 7) : ∀ k, k < (ords n).length → VO n ((ords n).getD k []) := fun _ hk => ords_mem hn hk
theorem brF_VO {n : Nat} {p : List (List Int)} (hp : p.length = n) (hn : n < 7) : VO n (brF p) := by
  have h := (ords_len n hn).2.1
  obtain ⟨j, hj, e⟩ := mnK_mem p (ords n) ((ords n).length - 1) (by omega)
  unfold brF
  rw [hp, e]
  exact ords_VO hn _ (by omega)
theorem retBR {B : Option Addr} {d n : Nat} {a b c e : Int} (h : a = b) (k : c = e) : Ending.returned (.tuple #[.slice B n d, .int .i64 a, .int .i64 c]) = Ending.returned (.tuple #[.slice B n d, .int .i64 b, .int .i64 e]) := by rw [h, k]

set_option maxRecDepth 100000 in
set_option maxHeartbeats 4000000 in
theorem bestRanking_any (A : Option Addr) (n c : Nat) (p : List (List Int)) (w : World) (hp : RdGo w A n p) (hn : n ≤ 1000000) :
    Calls Try.prog 67 #[.slice A n c] w fun e w' => (pfE p ≠ 0 → e = .returned (.tuple #[.slice none 0 0, .int .i64 0, .int .i64 (pfE p)])) ∧ (pfE p = 0 → ∃ B d, e = .returned (.tuple #[.slice B n d, .int .i64 (dsF p (brF p)), .int .i64 0]) ∧ n ≤ d ∧ RdI w' B n (brF p) ∧ (B = none → n = 0 ∧ d = 0)) ∧ Below w.heap.size w w' := by
  have R0 := Lib.hid (OneB.start w 95 #[.slice A n c])
  have HP := Lib.hid (hp.below R0.out.b)
  have CP := Lib.hid (checkPreferences_any A n c p _ HP.out hn)
  have HPZ := Lib.hid (fun h => pfE_zero (p := p) h)
  rw [show p.length = n from hp.1] at HPZ
  have HBR : Hid (brF p = mnK p (ords n) ((ords n).length - 1)) := by show _ = _; unfold brF; rw [hp.1]
  have HVO := Lib.hid (fun h : n < 7 => brF_VO (p := p) hp.1 h)
  obtain ⟨V, hV⟩ : ∃ V, pfE p = V := ⟨_, rfl⟩
  rw [hV] at CP HPZ ⊢
  obtain ⟨br, hbr⟩ : ∃ V, brF p = V := ⟨_, rfl⟩
  rw [hbr] at HBR HVO ⊢
  obtain ⟨D, hD⟩ : ∃ D, dsF p br = D := ⟨_, rfl⟩
  rw [hD]
  have HD := Lib.hid hD
  clear hp hV hbr hD
  have c0 := (bk1 R0.out.k).1
  by_cases h0 : V = 0
  · subst h0
    obtain ⟨hn6, hvp⟩ := HPZ.out rfl
    have HVP := Lib.hid hvp
    have HN := Lib.hid (ords_len n (by omega))
    have HOV := Lib.hid (ords_VO (n := n) (by omega))
    have hn0 : (0 : Int) ≤ (n : Int) := by omega
    clear hvp HPZ
    go_enter Try.func67, Try.ntmps67
    go_wp2_with fail
    refine CP.out.mono ?_
    rintro e w' ⟨rfl, hb⟩
    have R1 := Lib.hid (OneB.later hb R0.out)
    have HP1 := Lib.hid (HP.out.below hb)
    obtain ⟨W, hW⟩ : ∃ W, w.alloc (.cells #[.slice A n c] 95) = W := ⟨_, rfl⟩
    rw [hW] at R0 HP CP c0 hb
    clear CP hb c0
    have c1 := (bk1 R1.out.k).1
    go_wp2_with fail
    refine (orders_any n _).mono ?_
    rintro e w2 ⟨rfl, hw2⟩
    have hb2 : Below w'.heap.size w' w2 := by rw [← hw2]; exact (Below.refl _ _).alloc (Nat.le_refl _) _
    have hcx : w2.cell? ⟨w'.heap.size, 0, none⟩ = some (.int .i64 n) := by rw [← hw2]; exact (bk1 (Bk.new w' 3 #[.int .i64 n])).1
    have hlx : w'.heap.size < w2.heap.size := by rw [← hw2]; simp
    have R2 := Lib.hid (OneB.later hb2 R1.out)
    have HP2 := Lib.hid (HP1.out.below hb2)
    clear hw2 hb2 c1
    have CC := Lib.hid (collect_any w'.heap.size n (by omega) w2 hcx hlx)
    clear hcx hlx
    go_wp2_with fail
    refine CC.out.mono ?_
    rintro e w3 ⟨⟨M, mc, rfl, hM⟩, hb3⟩
    have R3 := Lib.hid (OneB.later hb3 R2.out)
    have HP3 := Lib.hid (HP2.out.below hb3)
    have c3 := (bk1 R3.out.k).1
    have MF := Lib.hid (minFunc_any A n c w.heap.size p M (ords n).length mc (ords n) w3 c3 R3.out.k.lt HP3.out hM HN.out.2.1 HN.out.1 hn6 HVP.out HOV.out)
    rw [← HBR.out] at MF
    clear hM hb3 c3 CC
    go_wp2_with fail
    refine MF.out.mono ?_
    rintro e w4 ⟨⟨B, d, rfl, hnd, hrd, hB⟩, hb4⟩
    have R4 := Lib.hid (OneB.later hb4 R3.out)
    have HP4 := Lib.hid (HP3.out.below hb4)
    have HRD := Lib.hid hrd
    have HB := Lib.hid hB
    have c4 := (bk1 R4.out.k).1
    have DD := Lib.hid (disagreements_any A n c p B d br w4 HP4.out HRD.out hnd hn6 HVP.out (HVO.out (by omega)))
    rw [HD.out] at DD
    clear hrd hB hb4
    go_wp2_with fail
    refine DD.out.mono ?_
    rintro e w5 ⟨rfl, rfl⟩
    go_wp2
    go_ret3
    exact ⟨fun h => absurd rfl h, fun _ => ⟨B, d, rfl, hnd, HRD.out, HB.out⟩, R4.out.b⟩
  · have hd : (V != 0) = true := by rw [bne_iff_ne]; exact h0
    have hd1 : (V == 0) = false := by rw [beq_eq_false_iff_ne]; exact h0
    go_enter Try.func67, Try.ntmps67
    go_wp2_with fail
    refine CP.out.mono ?_
    rintro e w' ⟨rfl, hb⟩
    have R1 := Lib.hid (OneB.later hb R0.out)
    clear hb CP c0
    go_wp2
    go_ret3
    exact ⟨fun _ => rfl, fun h => absurd h h0, R1.out.b⟩

end Go.Proofs.Ytccoflhoggpgoaa

namespace Go.Proofs.Ytccoflhoggpgoaa
open Go.RowKit

open Go.Shelf

/-- A list of a copy's making. -/
def RoC (b0 : Nat) (x : Ro) (A : World) : Prop := A.ownsRow b0 3 1 x.1 x.2.length (x.2.map (Value.int .i64))
theorem RoC.kept {b0 : Nat} {x : Ro} {A B : World} (h : RoC b0 x A) (hb : ∀ g, x.1.ownBlock = some g → B.heap[g]? = A.heap[g]?) : RoC b0 x B := own_same h hb
theorem rowsGo_of {w : World} {base b0 : Nat} {v : Value} {pre : List Ro} {L : List (List Int)} (h : w.ownsRow base 43 1 v pre.length (pre.map (·.1))) (hr : ∀ x ∈ pre, RoC b0 x w) (hL : pre.map (·.2) = L) : ∃ A c, v = .slice A L.length c ∧ L.length ≤ c ∧ RdGo w A L.length L ∧ (A = none → L.length = 0 ∧ c = 0) := by
  have hlen : pre.length = L.length := by rw [← hL, List.length_map]
  rw [hlen] at h
  rcases h.2 with ⟨rfl, h0⟩ | ⟨g, cap, cur, rfl, _, hh, hnc, _, _, htk⟩
  · exact ⟨none, 0, by rw [h0], by omega, ⟨rfl, fun h1 => absurd h1 (by omega)⟩, fun _ => ⟨h0, rfl⟩⟩
  · refine ⟨_, cap, rfl, hnc, ⟨rfl, fun _ => ⟨_, rfl, ?_, fun j hj => ?_⟩⟩, fun h => by cases h⟩
    · have : Bk w g 43 cur := hh
      exact this.lt
    · have hj2 : j < pre.length := by omega
      have hx := hr pre[j] (List.getElem_mem _)
      obtain ⟨B, c, hv, hc, hrd, hB⟩ := rd_ownN hx
      have e2 : L.getD j [] = (pre[j]).2 := by
        rw [← hL, List.getD_eq_getElem?_getD, List.getElem?_map, List.getElem?_eq_getElem hj2]
        rfl
      refine ⟨B, (pre[j]).2.length, c, ?_, by rw [e2]; exact hrd, hB⟩
      rw [addOff, cell_of_row w g j cur 43 (0, 0) hh, ← Array.getElem?_toList]
      have e1 : (cur.toList.take (L.length * 1))[j]? = (pre.map (·.1))[j]? := by rw [htk]
      rw [List.getElem?_take, if_pos (by omega)] at e1
      rw [e1, List.getElem?_map, List.getElem?_eq_getElem hj2, ← hv]
      rfl

set_option maxRecDepth 100000 in
set_option maxHeartbeats 4000000 in
theorem copyLists_any (A : Option Addr) (n c : Nat) (p : List (List Int)) (w : World) (hp : RdGo w A n p) (hn : n ≤ 1000) (hm : ∀ k, k < n → (p.getD k []).length ≤ 1000) :
    Calls Try.prog 66 #[.slice A n c] w fun e w' => (∃ A' c', e = .returned (.slice A' n c') ∧ n ≤ c' ∧ RdGo w' A' n p ∧ (A' = none → n = 0 ∧ c' = 0)) ∧ Below w.heap.size w w' := by
  obtain ⟨i0, hi0, hz0, hz1, hz2⟩ := info_parts slInfo
  have HP := Lib.hid hp
  have HM := Lib.hid hm
  have HLN : Hid (p.length = n) := hp.1
  have HTK : Hid (∀ k, k < n → p.take (k + 1) = p.take k ++ [p.getD k []]) := fun k hk => by
    rw [List.take_succ_eq_append_getElem (by rw [hp.1]; exact hk), List.getD_eq_getElem?_getD, List.getElem?_eq_getElem (by rw [hp.1]; exact hk), Option.getD_some]
  have HEND : Hid (p.take n = p) := List.take_of_length_le (by rw [hp.1]; exact Nat.le_refl _)
  clear hp hm
  go_enter Try.func66, Try.ntmps66
  go_wp2
  go_loopw [3, 4] (fun v i wr => ∃ (k : Nat) (pre : List Ro) (Av : Option Addr) (cv : Nat), v = .slice Av k cv ∧ k ≤ n ∧ i = .int .i64 k ∧ Hid (pre.length = k) ∧ Hid (pre.map (·.2) = p.take k) ∧ Hid (wr.ownsRow w.heap.size 43 1 (.slice Av k cv) k (pre.map (·.1))) ∧ Hid (∀ x ∈ pre, RoC w.heap.size x wr) ∧ Hid (Below w.heap.size w wr)) (fun _ i _ => n - (intOf i).toNat)
  case atStart => exact ⟨0, [], none, 0, rfl, Nat.zero_le _, rfl, Lib.hid rfl, Lib.hid (by rw [List.take_zero]; rfl), Lib.hid (World.ownsRow_nil _ _ _ _), Lib.hid (fun x hx => absurd hx (by simp)), Lib.hid (Below.refl _ _)⟩
  case round =>
    obtain ⟨k, pre, Av, cv, rfl, hk, rfl, HK, HQ, HR, HC, HB⟩ := hrel
    by_cases hlt : k < n
    · have hkI : (k : Int) < (n : Int) := by omega
      have hk0 : (0 : Int) ≤ (k : Int) := by omega
      obtain ⟨ad, ha, _, hc⟩ := (HP.out.below HB.out).2 (by omega)
      subst ha
      obtain ⟨R, m, rc, hrow, hrd, hRn⟩ := hc k hlt
      have hmm := HM.out k hlt
      have hrl := hrd.1
      have CC := Lib.hid (copyInts_any R m rc (p.getD k []) wr hRn hrd (by omega))
      have HT := Lib.hid (HTK.out k hlt)
      obtain ⟨row, hrw⟩ : ∃ r, p.getD k [] = r := ⟨_, rfl⟩
      rw [hrw] at CC HT hmm hrl
      have hadk := hrow
      clear hc hrd hRn hrw
      subst hrl
      go_wp2_with fail
      refine CC.out.mono ?_
      rintro e w1 ⟨⟨vr, rfl, hor⟩, hb1⟩
      obtain ⟨Ar, cr, hvr, _, _, _⟩ := rd_ownN hor
      subst hvr
      have HNR := Lib.hid (ownMono hor HB.out.size)
      have HR1 := Lib.hid (ownBelow HR.out hb1)
      have HC1 : Hid (∀ x ∈ pre, RoC w.heap.size x w1) := fun x hx => ownBelow (HC.out x hx) hb1
      have HB1 := Lib.hid (HB.out.trans (hb1.mono HB.out.size))
      clear hb1 hor HR HC hrow hadk CC
      go_wp2_with (at_builtin; refine wpList_append_own _ rfl (.tmp 11) (.tmp 17) 95 rfl w.heap.size 43 i0 _ 1 24 Try.underlying95 hi0 hz0 hz1 hz2 rfl (by decide) _ _ _ rfl (HR1.out.alloc _) ⟨w1.heap.size, 0, none⟩ 1 1 [_] rfl rfl (cell_one_new _ _ _) (by intro z hz; simp only [List.mem_singleton] at hz; subst hz; rfl) (by unfold maxLen; omega) (by omega) (by have := HB1.out.size; simp; omega) ?_)
      intro v' w4 hown' hgrow _
      obtain ⟨g', cap', rfl⟩ := ownsRow_succ hown'
      have HB4 : Hid (Below w.heap.size w w4) := ((HB1.out).alloc (HB1.out).size _).grown hgrow (by have := HB1.out.size; simp; omega) (fun z e => (HR1.out.lt z e).1)
      have hkp : ∀ x : Ro, RoC w.heap.size x w1 → RoC w.heap.size x w4 := by
        intro x hx
        refine hx.kept fun g hg => ?_
        have hlt2 := (hx.lt g hg).2
        have hne : some g ≠ (Value.slice Av k cv).ownBlock := by
          rcases own_apart hx HR1.out with h | h
          · rw [h] at hg; cases hg
          · rw [← hg]; exact h
        exact (hgrow.block g (by simp; omega) hne).trans (Below.heap_alloc _ _ _ hlt2)
      have HC4 : Hid (∀ x ∈ pre ++ [((Value.slice Ar row.length cr, row) : Ro)], RoC w.heap.size x w4) := by
        intro x hx
        rcases List.mem_append.1 hx with h | h
        · exact hkp x (HC1.out x h)
        · rw [List.mem_singleton] at h
          subst h
          exact hkp _ HNR.out
      have HR4 : Hid (w4.ownsRow w.heap.size 43 1 (.slice (some ⟨g', 0, none⟩) (k + 1) cap') (k + 1) ((pre ++ [((Value.slice Ar row.length cr, row) : Ro)]).map (·.1))) := by
        show World.ownsRow _ _ _ _ _ _ _
        rw [List.map_append]
        exact hown'
      clear hown' hgrow hkp HC1 HR1 HNR
      go_wp2
      go_roundw
      case rel => exact ⟨k + 1, pre ++ [(_, row)], _, _, rfl, by omega, by go_num, by show _ = _; rw [List.length_append, HK.out]; rfl, by show _ = _; rw [List.map_append, HQ.out, HT.out]; rfl, HR4, HC4, HB4⟩
      case measure => simp only [intOf]; omega
    · obtain rfl : n = k := by omega
      have hkI : ¬ (n : Int) < (n : Int) := by omega
      go_wp2
      go_ret
      have h1 := HR.out
      rw [← HK.out] at h1
      obtain ⟨A', c', e1, e2, e3, e4⟩ := rowsGo_of h1 HC.out (HQ.out.trans HEND.out)
      rw [HLN.out] at e1 e2 e3 e4
      rw [HK.out] at e1
      exact ⟨⟨A', c', congrArg Ending.returned e1, e2, e3, e4⟩, HB.out⟩

end Go.Proofs.Ytccoflhoggpgoaa

namespace Go.Proofs.Ytccoflhoggpgoaa
open Go.RowKit

open Go.Shelf

def rbR (p : List (List Int)) (i : Nat) : Nat → Int
  | 0 => 0
  | j + 1 => rbR p i j + min (ent p i j) (ent p j i)
def rbP (p : List (List Int)) : Nat → Int
  | 0 => 0
  | i + 1 => rbP p i + rbR p i i
def rbF (p : List (List Int)) : Int := rbP p p.length
theorem rbR_bd {n : Nat} {p : List (List Int)} (h : VP n p) {i : Nat} (hi : i < n) : ∀ j, j ≤ n → 0 ≤ rbR p i j ∧ rbR p i j ≤ 1000 * j
  | 0, _ => by simp [rbR]
  | j + 1, hj => by
    have h1 := rbR_bd h hi j (by omega)
    have h2 := h.ent (x := (i : Int)) (y := (j : Int)) (by omega) (by omega)
    have h3 := h.ent (x := (j : Int)) (y := (i : Int)) (by omega) (by omega)
    have e : rbR p i (j + 1) = rbR p i j + min (ent p i j) (ent p j i) := rfl
    rw [e]
    omega
theorem rbP_bd {n : Nat} {p : List (List Int)} (h : VP n p) (hn : n ≤ 6) : ∀ k, k ≤ n → 0 ≤ rbP p k ∧ rbP p k ≤ 6000 * k
  | 0, _ => by simp [rbP]
  | k + 1, hk => by
    have h1 := rbP_bd h hn k (by omega)
    have h2 := rbR_bd h (i := k) (by omega) k (by omega)
    have e : rbP p (k + 1) = rbP p k + rbR p k k := rfl
    rw [e]
    omega
theorem minB (a b : Int) : ∀ ts t W, (Builtin.min_ ts t #[.int .i64 a, .int .i64 b]).run Try.prog W = .ok (.int .i64 (min a b)) W := by
  intro ts t W
  simp [Builtin.min_, Builtin.min2, go_sem]
  first
  | done
  | (by_cases h : a < b
     · rw [Int.min_eq_left (by omega)]; simp_all; (try (intro _; omega))
     · rw [Int.min_eq_right (by omega)]; simp_all; (try (intro _; omega)))

set_option maxRecDepth 100000 in
set_option maxHeartbeats 4000000 in
theorem rankingBound_any (A : Option Addr) (n c : Nat) (p : List (List Int)) (w : World) (hp : RdGo w A n p) (hn : n ≤ 1000000) :
    Calls Try.prog 68 #[.slice A n c] w fun e w' => e = .returned (.tuple #[.int .i64 (if pfE p = 0 then rbF p else 0), .int .i64 (pfE p)]) ∧ Below w.heap.size w w' := by
  have HP := Lib.hid hp
  have CP := Lib.hid (checkPreferences_any A n c p w hp hn)
  have HPZ := Lib.hid (fun h => pfE_zero (p := p) h)
  rw [show p.length = n from hp.1] at HPZ
  have HF : Hid (rbF p = rbP p n) := by show _ = _; unfold rbF; rw [hp.1]
  obtain ⟨V, hV⟩ : ∃ V, pfE p = V := ⟨_, rfl⟩
  rw [hV] at CP HPZ ⊢
  clear hp hV
  by_cases h0 : V = 0
  case neg =>
    rw [if_neg h0]
    have hd : (V != 0) = true := by rw [bne_iff_ne]; exact h0
    have hd1 : (V == 0) = false := by rw [beq_eq_false_iff_ne]; exact h0
    go_enter Try.func68, Try.ntmps68
    go_wp2_with fail
    refine CP.out.mono ?_
    rintro e w' ⟨rfl, hb⟩
    have HB := Lib.hid hb
    clear hb
    go_wp2
    go_ret2
    exact ⟨rfl, HB.out⟩
  subst h0
  rw [if_pos rfl]
  obtain ⟨hn6, hvp⟩ := HPZ.out rfl
  have HVP := Lib.hid hvp
  have HBP := Lib.hid (rbP_bd hvp hn6)
  obtain ⟨V, hV⟩ : ∃ V, rbF p = V := ⟨_, rfl⟩
  rw [hV] at HF ⊢
  clear hvp HPZ hV
  go_enter Try.func68, Try.ntmps68
  go_wp2_with fail
  refine CP.out.mono ?_
  rintro e w1 ⟨rfl, hb⟩
  have HB := Lib.hid hb
  have HP1 := Lib.hid (HP.out.below hb)
  clear hb CP HP
  go_wp2
  go_loopw [5, 15] (fun s i wr => ∃ k : Nat, k ≤ n ∧ i = .int .i64 k ∧ s = .int .i64 (rbP p k) ∧ Hid (∃ m, wr = w1.drewN m)) (fun _ i _ => n - (intOf i).toNat)
  case atStart => exact ⟨0, Nat.zero_le _, rfl, rfl, ⟨0, rfl⟩⟩
  case round =>
    obtain ⟨k, hk, rfl, rfl, HD⟩ := hrel
    obtain ⟨m, rfl⟩ := HD.out
    by_cases hlt : k < n
    · have hkI : (k : Int) < (n : Int) := by omega
      have hk0 : (0 : Int) ≤ (k : Int) := by omega
      have hbk := HBP.out k hk
      have HST : Hid (rbP p (k + 1) = rbP p k + rbR p k k) := rfl
      have HBR := Lib.hid (fun j hj => rbR_bd HVP.out hlt j hj)
      obtain ⟨s0, hs0⟩ : ∃ s, rbP p k = s := ⟨_, rfl⟩
      rw [hs0] at hbk HST ⊢
      clear hs0
      go_wp2
      go_loopw [5, 19] (fun s i wr => ∃ j : Nat, j ≤ k ∧ i = .int .i64 j ∧ s = .int .i64 (s0 + rbR p k j) ∧ Hid (∃ m, wr = w1.drewN m)) (fun _ i _ => k - (intOf i).toNat)
      case atStart => exact ⟨0, Nat.zero_le _, rfl, by show _ = Value.int .i64 (s0 + 0); rw [Int.add_zero], ⟨m, rfl⟩⟩
      case round =>
        obtain ⟨j, hj, rfl, rfl, HD2⟩ := hrel
        obtain ⟨m2, rfl⟩ := HD2.out
        by_cases hjk : j < k
        · have hjI : (j : Int) < (k : Int) := by omega
          have hj0 : (0 : Int) ≤ (j : Int) := by omega
          have hjn : (j : Int) < (n : Int) := by omega
          obtain ⟨ad, ha, _, hc⟩ := HP1.out.2 (by omega)
          subst ha
          obtain ⟨B1, m1, c1, hr1, hd1, _⟩ := hc k hlt
          obtain ⟨B2, m2', c2, hr2, hd2, _⟩ := hc j (by omega)
          have hm1 : m1 = n := by have := hd1.1; have := (HVP.out.row hlt).1; omega
          have hm2 : m2' = n := by have := hd2.1; have := (HVP.out.row (k := j) (by omega)).1; omega
          subst hm1
          subst hm2
          obtain ⟨r1, hB1, _, hx1⟩ := hd1.2 (by omega)
          obtain ⟨r2, hB2, _, hx2⟩ := hd2.2 (by omega)
          subst hB1 hB2
          have he1 : w1.cell? (r1.add j) = some (.int .i64 (ent p k j)) := by rw [hx1 j (by omega)]; rfl
          have he2 : w1.cell? (r2.add k) = some (.int .i64 (ent p j k)) := by rw [hx2 k (by omega)]; rfl
          have h1 := HVP.out.ent (x := (k : Int)) (y := (j : Int)) (by omega) (by omega)
          have h2 := HVP.out.ent (x := (j : Int)) (y := (k : Int)) (by omega) (by omega)
          have HSN : Hid (rbR p k (j + 1) = rbR p k j + min (ent p k j) (ent p j k)) := rfl
          have hbj := HBR.out j (by omega)
          obtain ⟨e1, hh1⟩ : ∃ e, ent p k j = e := ⟨_, rfl⟩
          obtain ⟨e2, hh2⟩ : ∃ e, ent p j k = e := ⟨_, rfl⟩
          obtain ⟨q, hq⟩ : ∃ e, rbR p k j = e := ⟨_, rfl⟩
          rw [hh1] at he1 h1 HSN
          rw [hh2] at he2 h2 HSN
          rw [hq] at HSN hbj ⊢
          have hmn := minB e1 e2
          have hmb : 0 ≤ min e1 e2 ∧ min e1 e2 ≤ 1000 := by omega
          obtain ⟨z, hz⟩ : ∃ z, min e1 e2 = z := ⟨_, rfl⟩
          rw [hz] at hmn HSN hmb
          have hw : IntKind.i64.wrap (s0 + q + z) = s0 + q + z := IntWalk.i64_in _ (by omega)
          clear hc hd1 hd2 hx1 hx2 hh1 hh2 hq hz
          go_wp2
          go_quiet (fail)
          go_wp2
          go_roundw
          case rel => exact ⟨j + 1, by omega, by go_num, by rw [HSN.out, Int.add_assoc], ⟨_, by first | rfl | exact World.drewN_drewN _ _ _⟩⟩
          case measure => simp only [intOf]; omega
        · obtain rfl : k = j := by omega
          have hjI : ¬ (k : Int) < (k : Int) := by omega
          rw [← HST.out]
          go_wp2
          go_roundw
          case rel => exact ⟨k + 1, by omega, by go_num, rfl, ⟨_, rfl⟩⟩
          case measure => simp only [intOf]; omega
    · obtain rfl : n = k := by omega
      have hkI : ¬ (n : Int) < (n : Int) := by omega
      go_wp2
      go_ret2
      exact ⟨by rw [HF.out]; rfl, blw_drewN HB.out m⟩

end Go.Proofs.Ytccoflhoggpgoaa

namespace Go.Proofs.Ytccoflhoggpgoaa
open Go.RowKit

open Go.Shelf

theorem mem_getD {xs : List Int} {x : Int} : x ∈ xs ↔ ∃ j, j < xs.length ∧ xs.getD j 0 = x := by
  constructor
  · intro h
    obtain ⟨j, hj, e⟩ := List.getElem_of_mem h
    exact ⟨j, hj, by rw [List.getD_eq_getElem?_getD, List.getElem?_eq_getElem hj]; exact e⟩
  · rintro ⟨j, hj, rfl⟩
    rw [List.getD_eq_getElem?_getD, List.getElem?_eq_getElem hj]
    exact List.getElem_mem _
set_option maxRecDepth 100000 in
set_option maxHeartbeats 2000000 in
theorem index_any (A : Option Addr) (n c : Nat) (xs : List Int) (x : Int) (w : World) (hr : RdI w A n xs) (hn : n ≤ 1000000) :
    Calls Try.prog 150 #[.slice A n c, .int .i64 x] w fun e w' => (∃ r : Int, e = .returned (.int .i64 r) ∧ (0 ≤ r ↔ x ∈ xs)) ∧ w = w' := by
  have HR := Lib.hid hr
  have HLN : Hid (xs.length = n) := hr.1
  have HM : Hid (x ∈ xs ↔ ∃ j, j < xs.length ∧ xs.getD j 0 = x) := mem_getD
  clear hr
  go_enter Try.func150, Try.ntmps150
  go_wp2
  go_loop [8] (fun i => ∃ k : Nat, k ≤ n ∧ i = .int .i64 k ∧ Hid (∀ j, j < k → xs.getD j 0 ≠ x)) (fun i => n - (intOf i).toNat)
  case atStart => exact ⟨0, Nat.zero_le _, rfl, fun j hj => absurd hj (by omega)⟩
  case round =>
    obtain ⟨k, hk, rfl, HJ⟩ := hrel
    by_cases hlt : k < n
    · have hkI : (k : Int) < (n : Int) := by omega
      have hk0 : (0 : Int) ≤ (k : Int) := by omega
      obtain ⟨ad, ha, _, hc⟩ := HR.out.2 (by omega)
      subst ha
      have hck := hc k hlt
      have HY := Lib.hid (rfl : xs.getD k 0 = xs.getD k 0)
      obtain ⟨y, hy⟩ : ∃ y, xs.getD k 0 = y := ⟨_, rfl⟩
      rw [hy] at hck
      have HYY := Lib.hid hy
      clear hc hy HY
      by_cases hxy : x = y
      · subst hxy
        go_wp2
        go_ret
        exact ⟨⟨_, rfl, ⟨fun _ => HM.out.2 ⟨k, by rw [HLN.out]; exact hlt, HYY.out⟩, fun _ => by omega⟩⟩, rfl⟩
      · have hxb : (x == y) = false := by rw [beq_eq_false_iff_ne]; exact hxy
        go_wp2
        go_round
        case rel =>
          refine ⟨k + 1, by omega, by go_num, fun j hj => ?_⟩
          rcases (by omega : j < k ∨ j = k) with h | rfl
          · exact HJ.out j h
          · rw [HYY.out]; exact fun e => hxy e.symm
        case measure => simp [intOf]; omega
    · obtain rfl : n = k := by omega
      have hkI : ¬ (n : Int) < (n : Int) := by omega
      go_wp2
      go_ret
      refine ⟨⟨-1, rfl, ⟨fun h => absurd h (by omega), fun h => ?_⟩⟩, rfl⟩
      obtain ⟨j, hj, e⟩ := HM.out.1 h
      exact absurd e (HJ.out j (by rw [← HLN.out]; exact hj))
set_option maxRecDepth 100000 in
theorem contains_any (A : Option Addr) (n c : Nat) (xs : List Int) (x : Int) (w : World) (hr : RdI w A n xs) (hn : n ≤ 1000000) :
    Calls Try.prog 140 #[.slice A n c, .int .i64 x] w fun e w' => e = .returned (.bool (decide (x ∈ xs))) ∧ w = w' := by
  have C := Lib.hid (index_any A n c xs x w hr hn)
  obtain ⟨b, hb⟩ : ∃ b, decide (x ∈ xs) = b := ⟨_, rfl⟩
  have HB := Lib.hid hb
  rw [hb]
  clear hb hr
  go_enter Try.func140, Try.ntmps140
  go_wp2_with fail
  refine C.out.mono ?_
  rintro e w' ⟨⟨r, rfl, hr⟩, rfl⟩
  have HRR := Lib.hid hr
  clear hr
  by_cases h : 0 ≤ r
  · obtain rfl : b = true := by rw [← HB.out]; exact decide_eq_true (HRR.out.1 h)
    go_wp2
    go_ret
    exact ⟨rfl, rfl⟩
  · have hrb : decide (0 ≤ r) = false := decide_eq_false h
    obtain rfl : b = false := by rw [← HB.out]; exact decide_eq_false (fun hx => h (HRR.out.2 hx))
    go_wp2
    go_ret
    exact ⟨rfl, rfl⟩

end Go.Proofs.Ytccoflhoggpgoaa

namespace Go.Proofs.Ytccoflhoggpgoaa
open Go.RowKit

open Go.Shelf

set_option maxRecDepth 100000 in
set_option maxHeartbeats 2000000 in
theorem has_any (A : Option Addr) (n c : Nat) (xs : List Int) (x : Int) (w : World) (hr : RdI w A n xs) (hn : n ≤ 1000000) :
    Calls Try.prog 39 #[.slice A n c, .int .i64 x] w fun e w' => e = .returned (.bool (decide (x ∈ xs))) ∧ w = w' := by
  have HR := Lib.hid hr
  have HLN : Hid (xs.length = n) := hr.1
  have HM : Hid (x ∈ xs ↔ ∃ j, j < xs.length ∧ xs.getD j 0 = x) := mem_getD
  obtain ⟨b, hb⟩ : ∃ b, decide (x ∈ xs) = b := ⟨_, rfl⟩
  have HB := Lib.hid hb
  rw [hb]
  clear hb hr
  go_enter Try.func39, Try.ntmps39
  go_wp2
  go_loop [5] (fun i => ∃ k : Nat, k ≤ n ∧ i = .int .i64 k ∧ Hid (∀ j, j < k → xs.getD j 0 ≠ x)) (fun i => n - (intOf i).toNat)
  case atStart => exact ⟨0, Nat.zero_le _, rfl, fun j hj => absurd hj (by omega)⟩
  case round =>
    obtain ⟨k, hk, rfl, HJ⟩ := hrel
    by_cases hlt : k < n
    · have hkI : (k : Int) < (n : Int) := by omega
      have hk0 : (0 : Int) ≤ (k : Int) := by omega
      obtain ⟨ad, ha, _, hc⟩ := HR.out.2 (by omega)
      subst ha
      have hck := hc k hlt
      obtain ⟨y, hy⟩ : ∃ y, xs.getD k 0 = y := ⟨_, rfl⟩
      rw [hy] at hck
      have HYY := Lib.hid hy
      clear hc hy
      by_cases hxy : y = x
      · subst hxy
        obtain rfl : b = true := by rw [← HB.out]; exact decide_eq_true (HM.out.2 ⟨k, by rw [HLN.out]; exact hlt, HYY.out⟩)
        go_wp2
        go_ret
        exact ⟨rfl, rfl⟩
      · have hxb : (y == x) = false := by rw [beq_eq_false_iff_ne]; exact hxy
        go_wp2
        go_round
        case rel =>
          refine ⟨k + 1, by omega, by go_num, fun j hj => ?_⟩
          rcases (by omega : j < k ∨ j = k) with h | rfl
          · exact HJ.out j h
          · rw [HYY.out]; exact hxy
        case measure => simp [intOf]; omega
    · obtain rfl : n = k := by omega
      have hkI : ¬ (n : Int) < (n : Int) := by omega
      obtain rfl : b = false := by
        rw [← HB.out]
        refine decide_eq_false fun h => ?_
        obtain ⟨j, hj, e⟩ := HM.out.1 h
        exact absurd e (HJ.out j (by rw [← HLN.out]; exact hj))
      go_wp2
      go_ret
      exact ⟨rfl, rfl⟩

end Go.Proofs.Ytccoflhoggpgoaa

namespace Go.Proofs.Ytccoflhoggpgoaa
open Go.RowKit

open Go.Shelf

/-- One list comes before another. -/
def bfF : List Int → List Int → Bool
  | [], [] => false
  | [], _ :: _ => true
  | _ :: _, [] => false
  | x :: a, y :: b => if x = y then bfF a b else decide (x < y)
theorem bfF_step {a b : List Int} {k : Nat} (h1 : k < a.length) (h2 : k < b.length) : bfF (a.drop k) (b.drop k) = if a.getD k 0 = b.getD k 0 then bfF (a.drop (k + 1)) (b.drop (k + 1)) else decide (a.getD k 0 < b.getD k 0) := by
  rw [List.drop_eq_getElem_cons h1, List.drop_eq_getElem_cons h2, List.getD_eq_getElem?_getD, List.getD_eq_getElem?_getD, List.getElem?_eq_getElem h1, List.getElem?_eq_getElem h2]
  rfl
theorem bfF_end {a b : List Int} {k : Nat} (h : ¬ (k < a.length ∧ k < b.length)) (h1 : k ≤ a.length) (h2 : k ≤ b.length) : bfF (a.drop k) (b.drop k) = decide (a.length < b.length) := by
  by_cases ha : k < a.length
  · have hb : k = b.length := by omega
    rw [List.drop_eq_getElem_cons ha, show b.drop k = [] from List.drop_eq_nil_of_le (by omega)]
    simp [bfF]; omega
  · have hk : k = a.length := by omega
    rw [show a.drop k = [] from List.drop_eq_nil_of_le (by omega)]
    by_cases hb : k < b.length
    · rw [List.drop_eq_getElem_cons hb]
      simp [bfF]; omega
    · rw [show b.drop k = [] from List.drop_eq_nil_of_le (by omega)]
      simp [bfF]; omega
set_option maxRecDepth 100000 in
set_option maxHeartbeats 2000000 in
theorem before_any (A : Option Addr) (n c : Nat) (xs : List Int) (B : Option Addr) (m d : Nat) (ys : List Int) (w : World) (hr : RdI w A n xs) (hs : RdI w B m ys) (hn : n ≤ 1000000) (hm : m ≤ 1000000) :
    Calls Try.prog 74 #[.slice A n c, .slice B m d] w fun e w' => e = .returned (.bool (bfF xs ys)) ∧ ∃ k, w' = w.drewN k := by
  have HR := Lib.hid hr
  have HS := Lib.hid hs
  have HST : Hid (∀ k, k < n → k < m → bfF (xs.drop k) (ys.drop k) = if xs.getD k 0 = ys.getD k 0 then bfF (xs.drop (k + 1)) (ys.drop (k + 1)) else decide (xs.getD k 0 < ys.getD k 0)) := fun k h1 h2 => bfF_step (by rw [hr.1]; exact h1) (by rw [hs.1]; exact h2)
  have HEN : Hid (∀ k, ¬ (k < n ∧ k < m) → k ≤ n → k ≤ m → bfF (xs.drop k) (ys.drop k) = decide (n < m)) := fun k h h1 h2 => by
    have := bfF_end (a := xs) (b := ys) (k := k) (by rw [hr.1, hs.1]; exact h) (by rw [hr.1]; exact h1) (by rw [hs.1]; exact h2)
    rwa [hr.1, hs.1] at this
  have H0 : Hid (bfF xs ys = bfF (xs.drop 0) (ys.drop 0)) := by show _ = _; rw [List.drop_zero, List.drop_zero]
  obtain ⟨V, hV⟩ : ∃ V, bfF xs ys = V := ⟨_, rfl⟩
  rw [hV] at H0 ⊢
  clear hr hs hV
  go_enter Try.func74, Try.ntmps74
  go_wp2
  go_loopw [5] (fun i wr => ∃ k : Nat, k ≤ n ∧ k ≤ m ∧ i = .int .i64 k ∧ Hid (V = bfF (xs.drop k) (ys.drop k)) ∧ Hid (∃ q, wr = w.drewN q)) (fun i _ => n - (intOf i).toNat)
  case atStart => exact ⟨0, Nat.zero_le _, Nat.zero_le _, rfl, H0, ⟨0, rfl⟩⟩
  case round =>
    obtain ⟨k, hk, hk2, rfl, HV, HD⟩ := hrel
    obtain ⟨q, rfl⟩ := HD.out
    by_cases h1 : k < n
    · have h1I : (k : Int) < (n : Int) := by omega
      by_cases h2 : k < m
      · have h2I : (k : Int) < (m : Int) := by omega
        have hk0 : (0 : Int) ≤ (k : Int) := by omega
        obtain ⟨ad, ha, _, hc⟩ := HR.out.2 (by omega)
        obtain ⟨bd, hb, _, hd⟩ := HS.out.2 (by omega)
        subst ha hb
        have hck := hc k h1
        have hdk := hd k h2
        have HK := Lib.hid (HST.out k h1 h2)
        obtain ⟨x, hx⟩ : ∃ x, xs.getD k 0 = x := ⟨_, rfl⟩
        obtain ⟨y, hy⟩ : ∃ y, ys.getD k 0 = y := ⟨_, rfl⟩
        rw [hx] at hck HK
        rw [hy] at hdk HK
        clear hc hd hx hy
        by_cases hxy : x = y
        · subst hxy
          have HK2 := Lib.hid (HK.out.trans (if_pos rfl))
          go_wp2
          go_quiet (fail)
          go_wp2
          go_roundw
          case rel => exact ⟨k + 1, by omega, by omega, by go_num, by show _ = _; rw [HV.out, HK2.out], ⟨_, by first | rfl | exact World.drewN_drewN _ _ _⟩⟩
          case measure => simp only [intOf]; omega
        · have hxb : (x != y) = true := by rw [bne_iff_ne]; exact hxy
          have hxc : (x == y) = false := by rw [beq_eq_false_iff_ne]; exact hxy
          have HK2 := Lib.hid (HK.out.trans (if_neg hxy))
          go_wp2
          go_quiet (fail)
          go_wp2
          go_quiet (fail)
          go_wp2
          go_ret
          exact ⟨by rw [HV.out, HK2.out]; rfl, _, by first | rfl | exact World.drewN_drewN _ _ _ | (rw [World.drewN_drewN]; exact World.drewN_drewN _ _ _)⟩
      · have h2I : ¬ (k : Int) < (m : Int) := by omega
        have h2b : decide ((k : Int) < (m : Int)) = false := decide_eq_false h2I
        have HE := Lib.hid (HEN.out k (fun h => h2 h.2) hk hk2)
        have hnm : ¬ (n : Int) < (m : Int) := by omega
        obtain rfl : V = false := by rw [HV.out, HE.out]; exact decide_eq_false (by omega)
        go_wp2
        go_ret
        exact ⟨rfl, q, rfl⟩
    · have h1I : ¬ (k : Int) < (n : Int) := by omega
      have h1b : decide ((k : Int) < (n : Int)) = false := decide_eq_false h1I
      have HE := Lib.hid (HEN.out k (fun h => h1 h.1) hk hk2)
      by_cases hnm : n < m
      · have hnmI : (n : Int) < (m : Int) := by omega
        obtain rfl : V = true := by rw [HV.out, HE.out]; exact decide_eq_true hnm
        go_wp2
        go_ret
        exact ⟨rfl, q, rfl⟩
      · have hnmI : ¬ (n : Int) < (m : Int) := by omega
        obtain rfl : V = false := by rw [HV.out, HE.out]; exact decide_eq_false hnm
        go_wp2
        go_ret
        exact ⟨rfl, q, rfl⟩

end Go.Proofs.Ytccoflhoggpgoaa

namespace Go.Proofs.Ytccoflhoggpgoaa
open Go.RowKit

open Go.Shelf

/-- Few rows, short ones. -/
def shF (p : List (List Int)) : Bool := decide (p.length ≤ 8) && p.all fun r => decide (r.length ≤ 8)
theorem shF_true {p : List (List Int)} (h : shF p = true) : p.length ≤ 8 ∧ ∀ r ∈ p, r.length ≤ 8 := by
  simp only [shF, Bool.and_eq_true, decide_eq_true_eq, List.all_eq_true] at h
  exact h
theorem allR_step (p : List (List Int)) (k : Nat) (hk : k < p.length) : ((p.drop k).all fun r => decide (r.length ≤ 8)) = (decide ((p.getD k []).length ≤ 8) && (p.drop (k + 1)).all fun r => decide (r.length ≤ 8)) := by
  rw [List.drop_eq_getElem_cons hk, List.all_cons, List.getD_eq_getElem?_getD, List.getElem?_eq_getElem hk, Option.getD_some]
set_option maxRecDepth 100000 in
set_option maxHeartbeats 2000000 in
theorem shortP_any (A : Option Addr) (n c : Nat) (p : List (List Int)) (w : World) (hp : RdGo w A n p) :
    Calls Try.prog 64 #[.slice A n c] w fun e w' => e = .returned (.bool (shF p)) ∧ w = w' := by
  have HP := Lib.hid hp
  have HLN : Hid (p.length = n) := hp.1
  have HST : Hid (∀ k, k < n → ((p.drop k).all fun r => decide (r.length ≤ 8)) = (decide ((p.getD k []).length ≤ 8) && (p.drop (k + 1)).all fun r => decide (r.length ≤ 8))) := fun k hk => allR_step p k (by rw [hp.1]; exact hk)
  have HEND : Hid (((p.drop n).all fun r => decide (r.length ≤ 8)) = true) := by show _ = _; rw [List.drop_eq_nil_of_le (by rw [hp.1]; exact Nat.le_refl _)]; rfl
  have HF : Hid (shF p = (decide (n ≤ 8) && (p.drop 0).all fun r => decide (r.length ≤ 8))) := by show _ = _; unfold shF; rw [hp.1, List.drop_zero]
  obtain ⟨V, hV⟩ : ∃ V, shF p = V := ⟨_, rfl⟩
  rw [hV] at HF ⊢
  clear hV hp
  by_cases h8 : 8 < n
  · have h8I : (8 : Int) < (n : Int) := by omega
    obtain rfl : V = false := by rw [HF.out, decide_eq_false (by omega), Bool.false_and]
    go_enter Try.func64, Try.ntmps64
    go_wp2
    go_ret
    exact ⟨rfl, rfl⟩
  · have h8I : ¬ (8 : Int) < (n : Int) := by omega
    have hF := HF.out
    rw [decide_eq_true (by omega), Bool.true_and] at hF
    have HF2 := Lib.hid hF
    clear hF HF
    go_enter Try.func64, Try.ntmps64
    go_wp2
    go_loop [3] (fun i => ∃ k : Nat, k ≤ n ∧ i = .int .i64 k ∧ Hid (V = (p.drop k).all fun r => decide (r.length ≤ 8))) (fun i => n - (intOf i).toNat)
    case atStart => exact ⟨0, Nat.zero_le _, rfl, HF2⟩
    case round =>
      obtain ⟨k, hk, rfl, HV⟩ := hrel
      by_cases hlt : k < n
      · have hkI : (k : Int) < (n : Int) := by omega
        have hk0 : (0 : Int) ≤ (k : Int) := by omega
        obtain ⟨ad, ha, _, hc⟩ := HP.out.2 (by omega)
        subst ha
        obtain ⟨R, m, rc, hrow, hrd, _⟩ := hc k hlt
        have HS := Lib.hid (HST.out k hlt)
        rw [hrd.1] at HS
        clear hc hrd
        by_cases hm : 8 < m
        · have hmI : (8 : Int) < (m : Int) := by omega
          obtain rfl : V = false := by rw [HV.out, HS.out, decide_eq_false (by omega), Bool.false_and]
          go_wp2
          go_ret
          exact ⟨rfl, rfl⟩
        · have hmI : ¬ (8 : Int) < (m : Int) := by omega
          have HS2 : Hid (((p.drop k).all fun r => decide (r.length ≤ 8)) = (p.drop (k + 1)).all fun r => decide (r.length ≤ 8)) := by show _ = _; rw [HS.out, decide_eq_true (by omega), Bool.true_and]
          go_wp2
          go_round
          case rel => exact ⟨k + 1, by omega, by go_num, by show _ = _; rw [HV.out, HS2.out]⟩
          case measure => simp [intOf]; omega
      · obtain rfl : n = k := by omega
        have hkI : ¬ (n : Int) < (n : Int) := by omega
        obtain rfl : V = true := by rw [HV.out, HEND.out]
        go_wp2
        go_ret
        exact ⟨rfl, rfl⟩

end Go.Proofs.Ytccoflhoggpgoaa

namespace Go.Proofs.Ytccoflhoggpgoaa
open Go.RowKit

open Go.Shelf

/-- The error of an order. -/
def odG (n : Nat) (o : List Int) (k : Nat) : Int := if fromB 0 ((n : Int) - 1) [o.getD k 0] = true then (if o.getD k 0 ∈ o.take k then 25 else 0) else 6
def odL (n : Nat) (o : List Int) : Nat → Nat → Int
  | _, 0 => 0
  | k, m + 1 => if odG n o k = 0 then odL n o (k + 1) m else odG n o k
def odE (n : Nat) (o : List Int) : Int := if o.length = n then odL n o 0 n else 10

set_option maxRecDepth 100000 in
set_option maxHeartbeats 4000000 in
theorem refOrderErr_any (P : Option Addr) (n pc : Nat) (B : Option Addr) (m c : Nat) (o : List Int) (w : World) (hr : RdI w B m o) (hmc : m ≤ c) (hn : n ≤ 1000000) (hm : m ≤ 1000000) :
    Calls Try.prog 72 #[.slice P n pc, .slice B m c] w fun e w' => e = .returned (.int .i64 (odE n o)) ∧ ∃ q, w' = w.drewN q := by
  have HR := Lib.hid hr
  have HLN : Hid (o.length = m) := hr.1
  by_cases hmn : m = n
  case neg =>
    have hv : odE n o = 10 := by unfold odE; rw [hr.1, if_neg hmn]
    rw [hv]
    have hb : ((m : Int) != (n : Int)) = true := by rw [bne_iff_ne]; omega
    have hb2 : ((m : Int) == (n : Int)) = false := by rw [beq_eq_false_iff_ne]; omega
    clear hr
    go_enter Try.func72, Try.ntmps72
    go_wp2
    go_ret
    exact ⟨rfl, 0, rfl⟩
  subst hmn
  have HF : Hid (odE m o = odL m o 0 m) := by show _ = _; unfold odE; rw [hr.1, if_pos rfl]
  have HST : Hid (∀ k q, odL m o k (q + 1) = if odG m o k = 0 then odL m o (k + 1) q else odG m o k) := fun _ _ => rfl
  have HG : Hid (∀ k, odG m o k = if fromB 0 ((m : Int) - 1) [o.getD k 0] = true then (if o.getD k 0 ∈ o.take k then 25 else 0) else 6) := fun _ => rfl
  have CW := Lib.hid (fun x w => within_any x 0 ((m : Int) - 1) w)
  have hw : IntKind.i64.wrap ((m : Int) - 1) = (m : Int) - 1 := IntWalk.i64_in _ (by omega)
  obtain ⟨V, hV⟩ : ∃ V, odE m o = V := ⟨_, rfl⟩
  rw [hV] at HF ⊢
  clear hr hV
  go_enter Try.func72, Try.ntmps72
  go_wp2
  go_loopw [5] (fun i wr => ∃ k : Nat, k ≤ m ∧ i = .int .i64 k ∧ Hid (V = odL m o k (m - k)) ∧ Hid (∃ q, wr = w.drewN q)) (fun i _ => m - (intOf i).toNat)
  case atStart => exact ⟨0, Nat.zero_le _, rfl, HF, ⟨0, rfl⟩⟩
  case round =>
    obtain ⟨k, hk, rfl, HV, HD⟩ := hrel
    have HRW : Hid (RdI wr B m o) := by obtain ⟨q, hq⟩ := HD.out; show RdI _ _ _ _; rw [hq]; exact RdI.drewN HR.out q
    have HDN : Hid (∀ z, ∃ q, wr.drewN z = w.drewN q) := fun z => by obtain ⟨q, hq⟩ := HD.out; exact ⟨q + z, by rw [hq]; exact World.drewN_drewN _ _ _⟩
    by_cases hlt : k < m
    · have hkI : (k : Int) < (m : Int) := by omega
      have hk0 : (0 : Int) ≤ (k : Int) := by omega
      obtain ⟨bd, hb, _, hc⟩ := HRW.out.2 (by omega)
      subst hb
      have hck := hc k hlt
      have hcut := cutTo0_run bd m c k (by omega)
      have CH : Hid (∀ z, Calls Try.prog 39 #[.slice (cutA (some bd) 0 c) k c, .int .i64 (o.getD k 0)] (wr.drewN z) fun e w' => e = .returned (.bool (decide (o.getD k 0 ∈ o.take k))) ∧ wr.drewN z = w') := fun z => has_any _ k c (o.take k) _ (wr.drewN z) (rd_take (RdI.drewN HRW.out z) c k (by omega) (by omega)) (by omega)
      have HS := Lib.hid (HST.out k (m - k - 1))
      rw [show m - k - 1 + 1 = m - k by omega, show m - k - 1 = m - (k + 1) by omega] at HS
      have HGK := Lib.hid (HG.out k)
      have CX := Lib.hid (CW.out (o.getD k 0))
      obtain ⟨x, hx⟩ : ∃ x, o.getD k 0 = x := ⟨_, rfl⟩
      rw [hx] at hck CH HGK CX
      obtain ⟨G, hG⟩ : ∃ g, odG m o k = g := ⟨_, rfl⟩
      rw [hG] at HS HGK
      obtain ⟨b1, hb1⟩ : ∃ b, fromB 0 ((m : Int) - 1) [x] = b := ⟨_, rfl⟩
      rw [hb1] at CX HGK
      obtain ⟨b2, hb2⟩ : ∃ b, decide (x ∈ o.take k) = b := ⟨_, rfl⟩
      have HB2 := Lib.hid hb2
      rw [hb2] at CH
      obtain ⟨cb, hcbv⟩ : ∃ b, cutA (some bd) 0 c = b := ⟨_, rfl⟩
      rw [hcbv] at hcut CH
      clear hc hx hG hb1 hb2 hcbv
      cases b1 with
      | false =>
        have hg : G = 6 := by rw [HGK.out, if_neg (by simp)]
        subst hg
        obtain rfl : V = 6 := by rw [HV.out, HS.out, if_neg (by decide)]
        go_wp2_with fail
        refine (CX.out _).mono ?_
        rintro e w' ⟨rfl, rfl⟩
        go_wp2
        go_ret
        exact ⟨rfl, HD.out⟩
      | true =>
        have hg : G = if x ∈ o.take k then 25 else 0 := by rw [HGK.out, if_pos rfl]
        cases b2 with
        | true =>
          have hmem : x ∈ o.take k := of_decide_eq_true HB2.out
          rw [if_pos hmem] at hg
          subst hg
          obtain rfl : V = 25 := by rw [HV.out, HS.out, if_neg (by decide)]
          clear hmem
          go_wp2_with fail
          refine (CX.out _).mono ?_
          rintro e w' ⟨rfl, rfl⟩
          go_wp2
          go_quiet ((go_at_call 39; exact quietP (CH.out _)))
          go_wp2
          go_ret
          exact ⟨rfl, HDN.out _⟩
        | false =>
          have hmem : ¬ x ∈ o.take k := of_decide_eq_false HB2.out
          rw [if_neg hmem] at hg
          subst hg
          have HV2 : Hid (V = odL m o (k + 1) (m - (k + 1))) := by show _ = _; rw [HV.out, HS.out, if_pos rfl]
          clear hmem
          go_wp2_with fail
          refine (CX.out _).mono ?_
          rintro e w' ⟨rfl, rfl⟩
          go_wp2
          go_quiet ((go_at_call 39; exact quietP (CH.out _)))
          go_wp2
          go_roundw
          case rel => exact ⟨k + 1, by omega, by go_num, HV2, HDN.out _⟩
          case measure => simp only [intOf]; omega
    · obtain rfl : m = k := by omega
      have hkI : ¬ (m : Int) < (m : Int) := by omega
      obtain rfl : V = 0 := by rw [HV.out, Nat.sub_self]; rfl
      go_wp2
      go_ret
      exact ⟨rfl, HD.out⟩

end Go.Proofs.Ytccoflhoggpgoaa

namespace Go.Proofs.Ytccoflhoggpgoaa
open Go.RowKit

open Go.Shelf

/-! ### a valid order is one of all -/
theorem odL_zero {n : Nat} {o : List Int} : ∀ (m k : Nat), odL n o k m = 0 → ∀ j, k ≤ j → j < k + m → odG n o j = 0
  | 0, k, _, j, h1, h2 => absurd h2 (by omega)
  | m + 1, k, h, j, h1, h2 => by
    unfold odL at h
    by_cases hg : odG n o k = 0
    · rw [if_pos hg] at h
      by_cases hj : j = k
      · subst hj; exact hg
      · exact odL_zero m (k + 1) h j (by omega) (by omega)
    · rw [if_neg hg] at h; exact absurd h hg
theorem odG_zero {n : Nat} {o : List Int} {k : Nat} (h : odG n o k = 0) : (0 ≤ o.getD k 0 ∧ o.getD k 0 < n) ∧ o.getD k 0 ∉ o.take k := by
  unfold odG at h
  by_cases h1 : fromB 0 ((n : Int) - 1) [o.getD k 0] = true
  · rw [if_pos h1] at h
    by_cases h2 : o.getD k 0 ∈ o.take k
    · rw [if_pos h2] at h; cases h
    · simp [fromB] at h1
      exact ⟨by simp; omega, h2⟩
  · rw [if_neg h1] at h; cases h
theorem odE_zero {n : Nat} {o : List Int} (h : odE n o = 0) : o.length = n ∧ ∀ k, k < n → (0 ≤ o.getD k 0 ∧ o.getD k 0 < n) ∧ o.getD k 0 ∉ o.take k := by
  unfold odE at h
  by_cases hl : o.length = n
  · rw [if_pos hl] at h
    exact ⟨hl, fun k hk => odG_zero (odL_zero n 0 h k (Nat.zero_le _) (by omega))⟩
  · rw [if_neg hl] at h; cases h
theorem ordX_mem (n : Nat) (o : List Int) : ∀ f k, k + f = o.length → (∀ j, k ≤ j → j < o.length → (0 ≤ o.getD j 0 ∧ o.getD j 0 < n) ∧ o.getD j 0 ∉ o.take j) → o ∈ ordX n f (o.take k)
  | 0, k, hk, _ => by
    rw [List.take_of_length_le (by omega)]
    simp [ordX]
  | f + 1, k, hk, h => by
    have h1 := h k (Nat.le_refl _) (by omega)
    have ht : o.take (k + 1) = o.take k ++ [o.getD k 0] := by
      rw [List.take_add_one, List.getD_eq_getElem?_getD, List.getElem?_eq_getElem (by omega)]
      rfl
    have he : Int.ofNat (o.getD k 0).toNat = o.getD k 0 := by
      exact Int.toNat_of_nonneg h1.1.1
    unfold ordX
    refine List.mem_flatMap.2 ⟨(o.getD k 0).toNat, List.mem_range.2 (by have := h1.1; omega), ?_⟩
    rw [he, if_neg (by simpa using h1.2), ← ht]
    exact ordX_mem n o f (k + 1) (by omega) (fun j h2 h3 => h j (by omega) h3)
theorem ords_all {n : Nat} {o : List Int} (h : odE n o = 0) : ∃ k, k < (ords n).length ∧ (ords n).getD k [] = o := by
  obtain ⟨hl, hz⟩ := odE_zero h
  have hm : o ∈ ords n := by
    have := ordX_mem n o n 0 (by omega) (fun j _ h2 => hz j (by omega))
    simpa [ords] using this
  obtain ⟨k, hk, e⟩ := List.getElem_of_mem hm
  exact ⟨k, hk, by rw [List.getD_eq_getElem?_getD, List.getElem?_eq_getElem hk]; exact e⟩
theorem ords_valid : ∀ n, n < 7 → (ords n).all (fun o => odE n o == 0 && o.isPerm ((List.range n).map fun (i : Nat) => Int.ofNat i)) = true := by decide +kernel
theorem ords_ok {n k : Nat} (hn : n < 7) (hk : k < (ords n).length) : odE n ((ords n).getD k []) = 0 ∧ ((ords n).getD k []).Perm ((List.range n).map fun (i : Nat) => Int.ofNat i) := by
  have h := List.all_eq_true.1 (ords_valid n hn) ((ords n).getD k []) (by rw [List.getD_eq_getElem?_getD, List.getElem?_eq_getElem hk, Option.getD_some]; exact List.getElem_mem _)
  simp only [Bool.and_eq_true, beq_iff_eq] at h
  exact ⟨h.1, List.isPerm_iff.1 h.2⟩
theorem VO.of_odE {n : Nat} {o : List Int} (h : odE n o = 0) : VO n o := by
  obtain ⟨hl, hz⟩ := odE_zero h
  refine ⟨hl, fun x hx => ?_⟩
  obtain ⟨k, hk, e⟩ := List.getElem_of_mem hx
  have := (hz k (by omega)).1
  rw [List.getD_eq_getElem?_getD, List.getElem?_eq_getElem hk, Option.getD_some, e] at this
  exact this

/-! ### the first of the least -/
theorem mnK_least (p : List (List Int)) (L : List (List Int)) : ∀ K, ∃ j, j ≤ K ∧ mnK p L K = L.getD j [] ∧ ∀ k, k ≤ K → dsF p (mnK p L K) ≤ dsF p (L.getD k []) ∧ (dsF p (L.getD k []) = dsF p (mnK p L K) → j ≤ k)
  | 0 => ⟨0, Nat.le_refl _, rfl, fun k hk => by obtain rfl : k = 0 := by omega
                                                exact ⟨Int.le_refl _, fun _ => Nat.le_refl _⟩⟩
  | K + 1 => by
    obtain ⟨j, hj, e, h⟩ := mnK_least p L K
    unfold mnK
    by_cases hc : dsF p (L.getD (K + 1) []) < dsF p (mnK p L K)
    · rw [if_pos hc]
      refine ⟨K + 1, Nat.le_refl _, rfl, fun k hk => ?_⟩
      by_cases hk2 : k = K + 1
      · subst hk2; exact ⟨Int.le_refl _, fun _ => Nat.le_refl _⟩
      · have := (h k (by omega)).1
        exact ⟨by omega, fun h2 => by omega⟩
    · rw [if_neg hc]
      refine ⟨j, by omega, e, fun k hk => ?_⟩
      by_cases hk2 : k = K + 1
      · subst hk2; exact ⟨by omega, fun _ => by omega⟩
      · exact h k (by omega)
theorem enc_acc (l : List Int) : ∀ a : Int, l.foldl (fun a x => a * 10 + x) a = a * 10 ^ l.length + encN l := by
  unfold encN
  induction l with
  | nil => intro a; simp
  | cons x l ih =>
    intro a
    rw [List.foldl_cons, List.foldl_cons, ih, ih (0 * 10 + x), List.length_cons, Int.pow_succ, Int.add_mul, Int.zero_mul, Int.zero_add, Int.mul_assoc, Int.mul_comm (10 ^ l.length) 10]
    omega
theorem enc_bd : ∀ l : List Int, (∀ x ∈ l, 0 ≤ x ∧ x < 10) → 0 ≤ encN l ∧ encN l < 10 ^ l.length
  | [], _ => by simp [encN]
  | x :: l, h => by
    have h1 := enc_bd l (fun y hy => h y (List.mem_cons_of_mem _ hy))
    have hx := h x (List.mem_cons_self ..)
    have he : encN (x :: l) = x * 10 ^ l.length + encN l := by
      have := enc_acc l x
      unfold encN at this ⊢
      rw [List.foldl_cons, show (0 : Int) * 10 + x = x by omega]
      exact this
    have hp : (0 : Int) < 10 ^ l.length := Int.pow_pos (by omega)
    have hm1 : 0 ≤ x * 10 ^ l.length := Int.mul_nonneg hx.1 (Int.le_of_lt hp)
    have hm2 : x * 10 ^ l.length ≤ 9 * 10 ^ l.length := Int.mul_le_mul_of_nonneg_right (by omega) (Int.le_of_lt hp)
    rw [he, List.length_cons, Int.pow_succ]
    omega
theorem enc_cons (x : Int) (l : List Int) : encN (x :: l) = x * 10 ^ l.length + encN l := by
  have := enc_acc l x
  unfold encN at this ⊢
  rw [List.foldl_cons, show (0 : Int) * 10 + x = x by omega]
  exact this
theorem bfF_enc : ∀ a b : List Int, a.length = b.length → (∀ x ∈ a, 0 ≤ x ∧ x < 10) → (∀ x ∈ b, 0 ≤ x ∧ x < 10) → bfF a b = true → encN a < encN b
  | [], [], _, _, _, h => by simp [bfF] at h
  | [], _ :: _, h, _, _, _ => by simp at h
  | _ :: _, [], h, _, _, _ => by simp at h
  | x :: a, y :: b, hl, ha, hb, h => by
    have hl2 : a.length = b.length := by simpa using hl
    rw [enc_cons, enc_cons, hl2]
    unfold bfF at h
    by_cases hxy : x = y
    · rw [if_pos hxy] at h
      have := bfF_enc a b hl2 (fun z hz => ha z (List.mem_cons_of_mem _ hz)) (fun z hz => hb z (List.mem_cons_of_mem _ hz)) h
      rw [hxy]; omega
    · rw [if_neg hxy] at h
      have hlt : x < y := of_decide_eq_true h
      have h1 := enc_bd a (fun z hz => ha z (List.mem_cons_of_mem _ hz))
      have h2 := enc_bd b (fun z hz => hb z (List.mem_cons_of_mem _ hz))
      rw [hl2] at h1
      have hp : (0 : Int) < 10 ^ b.length := Int.pow_pos (by omega)
      have hm : (x + 1) * 10 ^ b.length ≤ y * 10 ^ b.length := Int.mul_le_mul_of_nonneg_right (by omega) (Int.le_of_lt hp)
      rw [Int.add_mul, Int.one_mul] at hm
      omega
theorem enc_grow {L : List (List Int)} (h : incB L = true) : ∀ d k, k + d + 1 < L.length → encN (L.getD k []) < encN (L.getD (k + d + 1) [])
  | 0, k, hk => (inc_at L k h (by omega)).2.2 hk
  | d + 1, k, hk => by
    have h1 := enc_grow h d k (by omega)
    have h2 := (inc_at L (k + d + 1) h (by omega)).2.2 (by omega)
    have e : k + (d + 1) + 1 = k + d + 1 + 1 := by omega
    rw [e]; omega
/-- No order has fewer disagreements than the best one, or as many and comes before it. -/
theorem brF_least {n : Nat} {p : List (List Int)} (hp : p.length = n) (hn : n < 7) {o : List Int} (ho : odE n o = 0) : dsF p (brF p) ≤ dsF p o ∧ (dsF p o = dsF p (brF p) → bfF o (brF p) = false) := by
  subst hp
  obtain ⟨k, hk, e⟩ := ords_all ho
  have hpos := (ords_len _ hn).2.1
  obtain ⟨j, hj, ej, h⟩ := mnK_least p (ords p.length) ((ords p.length).length - 1)
  have h1 := h k (by omega)
  rw [e] at h1
  refine ⟨h1.1, fun he => ?_⟩
  have hjk := h1.2 he
  cases hb : bfF o (brF p) with
  | false => rfl
  | true =>
    exfalso
    have m1 := ords_mem hn hk
    have m2 := ords_mem (k := j) hn (by omega)
    have hbr : brF p = (ords p.length).getD j [] := ej
    rw [← e, hbr] at hb
    have h3 := bfF_enc _ _ (by rw [m1.1, m2.1]) (fun x hx => ⟨(m1.2 x hx).1, by have := (m1.2 x hx).2; omega⟩) (fun x hx => ⟨(m2.2 x hx).1, by have := (m2.2 x hx).2; omega⟩) hb
    by_cases hkj : j = k
    · subst hkj; omega
    · have h4 := enc_grow (ords_inc _ hn) (k - j - 1) j (by omega)
      rw [show j + (k - j - 1) + 1 = k by omega] at h4
      omega
theorem brF_in {n : Nat} {p : List (List Int)} (hp : p.length = n) (hn : n < 7) : odE n (brF p) = 0 ∧ (brF p).Perm ((List.range n).map fun (i : Nat) => Int.ofNat i) := by
  subst hp
  have hpos := (ords_len _ hn).2.1
  obtain ⟨j, hj, ej⟩ := mnK_mem p (ords p.length) ((ords p.length).length - 1) (by omega)
  have hbr : brF p = (ords p.length).getD j [] := ej
  rw [hbr]
  exact ords_ok hn (by omega)

/-! ### the bound -/
theorem dsP_take (p : List (List Int)) (o t : List Int) : ∀ k, k ≤ o.length → dsP p (o ++ t) k = dsP p o k
  | 0, _ => rfl
  | k + 1, hk => by
    unfold dsP
    rw [dsP_take p o t k (by omega), List.take_append_of_le_length (by omega), List.getD_eq_getElem?_getD, List.getD_eq_getElem?_getD, List.getElem?_append_left (by omega)]
theorem dsF_snoc (p : List (List Int)) (o : List Int) (x : Int) : dsF p (o ++ [x]) = dsF p o + dsR p x o := by
  unfold dsF
  rw [List.length_append]
  show dsP p (o ++ [x]) o.length + dsR p ((o ++ [x]).getD o.length 0) ((o ++ [x]).take o.length) = _
  rw [dsP_take p o [x] _ (Nat.le_refl _), List.getD_eq_getElem?_getD, List.getElem?_append_right (Nat.le_refl _), List.take_append_of_le_length (Nat.le_refl _), List.take_length]
  simp
/-- A symmetric sum over pairs. -/
def psF (g : Int → Int → Int) : List Int → Int
  | [] => 0
  | x :: l => (l.map (g x)).sum + psF g l
theorem sum_perm {f : Int → Int} {l l' : List Int} (h : l.Perm l') : (l.map f).sum = (l'.map f).sum := by
  induction h with
  | nil => rfl
  | cons x _ ih => simp [ih]
  | swap x y l => simp; omega
  | trans _ _ h1 h2 => rw [h1, h2]
theorem psF_perm {g : Int → Int → Int} (hg : ∀ x y, g x y = g y x) {l l' : List Int} (h : l.Perm l') : psF g l = psF g l' := by
  induction h with
  | nil => rfl
  | cons x h ih => simp only [psF, ih, sum_perm h]
  | swap x y l => simp only [psF, List.map_cons, List.sum_cons, hg x y]; omega
  | trans _ _ h1 h2 => rw [h1, h2]
theorem psF_snoc {g : Int → Int → Int} (hg : ∀ x y, g x y = g y x) (x : Int) (l : List Int) : psF g (l ++ [x]) = psF g l + (l.map (g x)).sum := by
  rw [psF_perm hg (l' := x :: l) (List.perm_append_comm.trans (List.Perm.refl _))]
  simp only [psF]; omega
def mnE (p : List (List Int)) (x y : Int) : Int := min (ent p x y) (ent p y x)
theorem mnE_symm (p : List (List Int)) (x y : Int) : mnE p x y = mnE p y x := Int.min_comm _ _
theorem psF_le (p : List (List Int)) (o : List Int) : ∀ k, k ≤ o.length → psF (mnE p) (o.take k) ≤ dsF p (o.take k)
  | 0, _ => by simp [psF, dsF, dsP]
  | k + 1, hk => by
    have h := psF_le p o k (by omega)
    have ht : o.take (k + 1) = o.take k ++ [o.getD k 0] := by
      rw [List.take_add_one, List.getD_eq_getElem?_getD, List.getElem?_eq_getElem (by omega)]
      rfl
    rw [ht, dsF_snoc, psF_snoc (mnE_symm p)]
    have hs : ∀ (x : Int) (l : List Int), (l.map (mnE p x)).sum ≤ dsR p x l := by
      intro x l
      induction l with
      | nil => simp [dsR]
      | cons y l ih =>
        simp only [List.map_cons, List.sum_cons, dsR] at ih ⊢
        have : mnE p x y ≤ ent p x y := Int.min_le_left _ _
        omega
    have := hs (o.getD k 0) (o.take k)
    omega
theorem rbR_sum (p : List (List Int)) (i : Nat) : ∀ j, rbR p i j = (((List.range j).map fun (i : Nat) => Int.ofNat i).map (mnE p i)).sum
  | 0 => by simp [rbR]
  | j + 1 => by
    rw [rbR, rbR_sum p i j, List.range_succ]
    simp only [List.map_append, List.sum_append, List.map_cons, List.map_nil, List.sum_cons, List.sum_nil, Int.add_zero]
    rfl
theorem rbP_sum (p : List (List Int)) : ∀ i, rbP p i = psF (mnE p) ((List.range i).map fun (i : Nat) => Int.ofNat i)
  | 0 => by simp [rbP, psF]
  | i + 1 => by
    rw [rbP, rbP_sum p i, List.range_succ, List.map_append, List.map_cons, List.map_nil, psF_snoc (mnE_symm p), rbR_sum]
    rfl
/-- The bound is at most the disagreements of the best. -/
theorem rbF_le {n : Nat} {p : List (List Int)} (hp : p.length = n) (hn : n < 7) : rbF p ≤ dsF p (brF p) := by
  have h := (brF_in hp hn).2
  have h2 := psF_le p (brF p) (brF p).length (Nat.le_refl _)
  rw [List.take_length, psF_perm (mnE_symm p) h, ← rbP_sum, ← hp] at h2
  exact h2

/-! ### neighbours -/
theorem dsR_app (p : List (List Int)) (x : Int) (l m : List Int) : dsR p x (l ++ m) = dsR p x l + dsR p x m := by simp [dsR, List.sum_append]
theorem dsF_swapR (p : List (List Int)) (a : List Int) (x y : Int) (b : List Int) : dsF p (a ++ [x] ++ [y] ++ b.reverse) - dsF p (a ++ [y] ++ [x] ++ b.reverse) = ent p y x - ent p x y := by
  induction b with
  | nil =>
    simp only [List.reverse_nil, List.append_nil, dsF_snoc, dsR_app]
    simp [dsR]
    omega
  | cons z b ih =>
    rw [List.reverse_cons, ← List.append_assoc, ← List.append_assoc, dsF_snoc, dsF_snoc]
    simp only [dsR_app] at ih ⊢
    omega
theorem dsF_swap (p : List (List Int)) (a : List Int) (x y : Int) (b : List Int) : dsF p (a ++ [x] ++ [y] ++ b) - dsF p (a ++ [y] ++ [x] ++ b) = ent p y x - ent p x y := by
  have h := dsF_swapR p a x y b.reverse
  rw [List.reverse_reverse] at h
  exact h
theorem two_cut (o : List Int) (i : Nat) (hi : i + 1 < o.length) : o = o.take i ++ [o.getD i 0] ++ [o.getD (i + 1) 0] ++ o.drop (i + 2) := by
  have h1 : o.take (i + 1) = o.take i ++ [o.getD i 0] := by
    rw [List.take_add_one, List.getD_eq_getElem?_getD, List.getElem?_eq_getElem (by omega)]; rfl
  have h2 : o.take (i + 2) = o.take (i + 1) ++ [o.getD (i + 1) 0] := by
    rw [List.take_add_one, List.getD_eq_getElem?_getD, List.getElem?_eq_getElem (by omega)]; rfl
  rw [← h1, ← h2, List.take_append_drop]
/-- What holds for each order that is a permutation: it is valid. -/
theorem odL_of {n : Nat} {o : List Int} (h : ∀ j, j < n → odG n o j = 0) : ∀ m k, k + m ≤ n → odL n o k m = 0
  | 0, _, _ => rfl
  | m + 1, k, hk => by
    unfold odL
    rw [if_pos (h k (by omega))]
    exact odL_of h m (k + 1) (by omega)
theorem odE_of_perm {n : Nat} {o : List Int} (h : o.Perm ((List.range n).map fun (i : Nat) => Int.ofNat i)) : odE n o = 0 := by
  have hl : o.length = n := by rw [h.length_eq]; simp
  have hnd : o.Nodup := by
    refine h.nodup_iff.2 ?_
    refine List.Pairwise.map _ ?_ List.nodup_range
    intro a b hab he
    exact hab (Int.ofNat.inj he)
  unfold odE
  rw [if_pos hl]
  refine odL_of (fun j hj => ?_) n 0 (by omega)
  have hm : o.getD j 0 ∈ o := by
    rw [List.getD_eq_getElem?_getD, List.getElem?_eq_getElem (by omega)]
    exact List.getElem_mem _
  have hr := (h.mem_iff (a := o.getD j 0)).1 hm
  obtain ⟨i, hi, e⟩ := List.mem_map.1 hr
  have hi2 := List.mem_range.1 hi
  have e2 : (i : Int) = o.getD j 0 := e
  unfold odG
  have hin : fromB 0 ((n : Int) - 1) [o.getD j 0] = true := by
    simp only [fromB, List.all_cons, List.all_nil, Bool.and_true, Bool.and_eq_true, decide_eq_true_eq]
    omega
  rw [if_pos hin, if_neg]
  intro hmem
  have hs := hnd
  rw [← List.take_append_drop j o, List.nodup_append] at hs
  refine hs.2.2 _ hmem (o.getD j 0) ?_ rfl
  rw [List.drop_eq_getElem_cons (by omega), List.getD_eq_getElem?_getD, List.getElem?_eq_getElem (by omega)]
  exact List.mem_cons_self ..
theorem brF_near {n : Nat} {p : List (List Int)} (hp : p.length = n) (hn : n < 7) {i : Nat} (hi : i + 1 < n) : ent p ((brF p).getD (i + 1) 0) ((brF p).getD i 0) ≤ ent p ((brF p).getD i 0) ((brF p).getD (i + 1) 0) := by
  obtain ⟨hv, hpm⟩ := brF_in hp hn
  have hl : (brF p).length = n := (odE_zero hv).1
  have hc := two_cut (brF p) i (by omega)
  have hperm : ((brF p).take i ++ [(brF p).getD (i + 1) 0] ++ [(brF p).getD i 0] ++ (brF p).drop (i + 2)).Perm (brF p) := by
    conv => rhs; rw [hc]
    refine List.Perm.append_right _ ?_
    rw [List.append_assoc, List.append_assoc]
    exact List.Perm.append_left _ (List.Perm.swap ..)
  have hle := (brF_least hp hn (odE_of_perm (hperm.trans hpm))).1
  have hs := dsF_swap p ((brF p).take i) ((brF p).getD i 0) ((brF p).getD (i + 1) 0) ((brF p).drop (i + 2))
  rw [← hc] at hs
  omega

end Go.Proofs.Ytccoflhoggpgoaa

namespace Go.Proofs.Ytccoflhoggpgoaa
open Go.RowKit

open Go.Shelf

/-! ### sums over pairs, row by row -/
def psR (g : Int → Int → Int) (x : Int) (l : List Int) : Int := (l.map (g x)).sum
def psP (g : Int → Int → Int) (l : List Int) : Nat → Int
  | 0 => 0
  | i + 1 => psP g l i + psR g (l.getD i 0) (l.drop (i + 1))
theorem psP_all (g : Int → Int → Int) (l : List Int) : ∀ i, i ≤ l.length → psP g l i + psF g (l.drop i) = psF g l
  | 0, _ => by simp [psP]
  | i + 1, hi => by
    have h := psP_all g l i (by omega)
    rw [List.drop_eq_getElem_cons (by omega)] at h
    unfold psP psR
    rw [List.getD_eq_getElem?_getD, List.getElem?_eq_getElem (by omega), Option.getD_some]
    simp only [psF] at h
    omega
theorem psP_end (g : Int → Int → Int) (l : List Int) : psP g l l.length = psF g l := by
  have h := psP_all g l l.length (Nat.le_refl _)
  rw [List.drop_length] at h
  simp only [psF] at h
  omega
theorem psR_step (g : Int → Int → Int) (x : Int) (l : List Int) (j : Nat) (hj : j < l.length) : psR g x (l.take (j + 1)) = psR g x (l.take j) + g x (l.getD j 0) := by
  unfold psR
  rw [List.take_add_one, List.getD_eq_getElem?_getD, List.getElem?_eq_getElem hj]
  rw [Option.getD_some, Option.toList_some, List.map_append, List.sum_append]; simp only [List.map_cons, List.map_nil, List.sum_cons, List.sum_nil, Int.add_zero]
def agE (p : List (List Int)) (x y : Int) : Int := ent p y x
theorem agF_snoc (p : List (List Int)) (x : Int) : ∀ o : List Int, psF (agE p) (o ++ [x]) = psF (agE p) o + dsR p x o
  | [] => by simp [psF, dsR]
  | y :: o => by
    have h := agF_snoc p x o
    simp only [List.cons_append, psF, h, List.map_append, List.sum_append, List.map_cons, List.map_nil, List.sum_cons, List.sum_nil, dsR, agE]
    omega
theorem agF_rev (p : List (List Int)) : ∀ o : List Int, psF (agE p) o.reverse = dsF p o.reverse
  | [] => by simp [psF, dsF, dsP]
  | x :: o => by rw [List.reverse_cons, agF_snoc, dsF_snoc, agF_rev p o]
theorem agF_eq (p : List (List Int)) (o : List Int) : psF (agE p) o = dsF p o := by
  have h := agF_rev p o.reverse
  rwa [List.reverse_reverse] at h
theorem rbF_pairs (p : List (List Int)) : rbF p = psF (mnE p) ((List.range p.length).map fun (i : Nat) => Int.ofNat i) := rbP_sum p p.length
theorem rangeI_at (n i : Nat) (h : i < n) : ((List.range n).map fun (i : Nat) => Int.ofNat i).getD i 0 = i := by
  rw [List.getD_eq_getElem?_getD, List.getElem?_map, List.getElem?_range h]; rfl
theorem psR_bd {g : Int → Int → Int} {x : Int} {B : Int} : ∀ l : List Int, (∀ y ∈ l, 0 ≤ g x y ∧ g x y ≤ B) → 0 ≤ psR g x l ∧ psR g x l ≤ B * l.length
  | [], _ => by simp [psR]
  | y :: l, h => by
    have h1 := psR_bd l (fun z hz => h z (List.mem_cons_of_mem _ hz))
    have h2 := h y (List.mem_cons_self ..)
    unfold psR at h1 ⊢
    rw [List.map_cons, List.sum_cons, List.length_cons]
    have : B * ((l.length + 1 : Nat) : Int) = B * l.length + B := by rw [Int.natCast_add, Int.mul_add]; simp
    omega

end Go.Proofs.Ytccoflhoggpgoaa

namespace Go.Proofs.Ytccoflhoggpgoaa
open Go.RowKit

open Go.Shelf

set_option maxRecDepth 100000 in
set_option maxHeartbeats 4000000 in
theorem checkOrder_any (n : Nat) (B : Option Addr) (m c : Nat) (o : List Int) (w : World) (hr : RdI w B m o) (hmc : m ≤ c) (hn : n ≤ 1000000) (hm : m ≤ 1000000) :
    Calls Try.prog 115 #[.int .i64 (n : Int), .slice B m c] w fun e w' => e = .returned (.int .i64 (odE n o)) ∧ Below w.heap.size w w' := by
  have HR := Lib.hid hr
  have HLN : Hid (o.length = m) := hr.1
  by_cases hmn : m = n
  case neg =>
    have hv : odE n o = 10 := by unfold odE; rw [hr.1, if_neg hmn]
    rw [hv]
    have hb : ((m : Int) != (n : Int)) = true := by rw [bne_iff_ne]; omega
    have hb2 : ((m : Int) == (n : Int)) = false := by rw [beq_eq_false_iff_ne]; omega
    clear hr
    go_enter Try.func115, Try.ntmps115
    go_wp2
    go_ret
    exact ⟨rfl, Below.refl _ _⟩
  subst hmn
  have HF : Hid (odE m o = odL m o 0 m) := by show _ = _; unfold odE; rw [hr.1, if_pos rfl]
  have HST : Hid (∀ k q, odL m o k (q + 1) = if odG m o k = 0 then odL m o (k + 1) q else odG m o k) := fun _ _ => rfl
  have HG : Hid (∀ k, odG m o k = if fromB 0 ((m : Int) - 1) [o.getD k 0] = true then (if o.getD k 0 ∈ o.take k then 25 else 0) else 6) := fun _ => rfl
  obtain ⟨V, hV⟩ : ∃ V, odE m o = V := ⟨_, rfl⟩
  rw [hV] at HF ⊢
  clear hr hV
  go_enter Try.func115, Try.ntmps115
  go_wp2
  go_loopw [14] (fun i wr => ∃ k : Nat, k ≤ m ∧ i = .int .i64 k ∧ Hid (V = odL m o k (m - k)) ∧ Hid (Below w.heap.size w wr)) (fun i _ => m - (intOf i).toNat)
  case atStart => exact ⟨0, Nat.zero_le _, rfl, HF, Lib.hid (Below.refl _ _)⟩
  case round =>
    obtain ⟨k, hk, rfl, HV, HB⟩ := hrel
    by_cases hlt : k < m
    · have hkI : (k : Int) < (m : Int) := by omega
      have hk0 : (0 : Int) ≤ (k : Int) := by omega
      obtain ⟨bd, hb, _, hc⟩ := (HR.out.below HB.out).2 (by omega)
      subst hb
      have hck := hc k hlt
      have hcut := cutTo0_run bd m c k (by omega)
      have CH : Hid (∀ W, Below w.heap.size w W → Calls Try.prog 140 #[.slice (cutA (some bd) 0 c) k c, .int .i64 (o.getD k 0)] W fun e w' => e = .returned (.bool (decide (o.getD k 0 ∈ o.take k))) ∧ W = w') := fun W hbw => contains_any _ k c (o.take k) _ W (rd_take (HR.out.below hbw) c k (by omega) (by omega)) (by omega)
      have HS := Lib.hid (HST.out k (m - k - 1))
      rw [show m - k - 1 + 1 = m - k by omega, show m - k - 1 = m - (k + 1) by omega] at HS
      have HGK := Lib.hid (HG.out k)
      obtain ⟨x, hx⟩ : ∃ x, o.getD k 0 = x := ⟨_, rfl⟩
      rw [hx] at hck CH HGK
      obtain ⟨G, hG⟩ : ∃ g, odG m o k = g := ⟨_, rfl⟩
      rw [hG] at HS HGK
      obtain ⟨b2, hb2⟩ : ∃ b, decide (x ∈ o.take k) = b := ⟨_, rfl⟩
      have HB2 := Lib.hid hb2
      rw [hb2] at CH
      obtain ⟨cb, hcbv⟩ : ∃ b, cutA (some bd) 0 c = b := ⟨_, rfl⟩
      rw [hcbv] at hcut CH
      have HFB : Hid (fromB 0 ((m : Int) - 1) [x] = (decide (0 ≤ x) && decide (x ≤ (m : Int) - 1))) := by show _ = _; simp [fromB]
      clear hc hx hG hb2 hcbv
      have CW2 := Lib.hid (fun w => when_any b2 25 w)
      obtain ⟨E2, hE2⟩ : ∃ E, (if b2 = true then (25 : Int) else 0) = E := ⟨_, rfl⟩
      rw [hE2] at CW2
      have HE2 := Lib.hid hE2
      clear hE2
      by_cases hx0 : x < 0
      · have hg : G = 6 := by rw [HGK.out, HFB.out, decide_eq_false (by omega), Bool.false_and, if_neg (by simp)]
        subst hg
        obtain rfl : V = 6 := by rw [HV.out, HS.out, if_neg (by decide)]
        have HGG : Hid (firstNZ [6, E2] = 6) := rfl
        clear HGK HFB HS
        go_wp2
        refine wp_region_held_drew (S := (fun w' : World => Below w.heap.size w w')) (by kernel_rfl) ?_ ?_
        · exact HB.out.drew
        intro hHeld
        refine wpAnyH_take (i := 0) (v := .int .i64 x) rfl (by kernel_rfl) (by kernel_rfl) (by kernel_rfl) (fun _ _ _ h => h) (Or.inl ⟨by rfl, fun W hW => ?_⟩) (by assumption) ?_
        · go_simp
        try simp only [Act.put, List.getElem_toArray, List.getElem_cons_succ, List.getElem_cons_zero, List.setIfInBounds_toArray, List.set_cons_zero, List.set_cons_succ]
        refine wpAnyH_take (i := 1) (v := .bool true) rfl (by kernel_rfl) (by kernel_rfl) (by kernel_rfl) (fun _ _ _ h => h) (Or.inl ⟨by rfl, fun W hW => ?_⟩) (by assumption) ?_
        · go_simp
        try simp only [Act.put, List.getElem_toArray, List.getElem_cons_succ, List.getElem_cons_zero, List.setIfInBounds_toArray, List.set_cons_zero, List.set_cons_succ]
        refine wpAnyH_take (i := 2) (v := .bool true) rfl (by kernel_rfl) (by kernel_rfl) (by kernel_rfl) (fun _ _ _ h => h) (Or.inl ⟨by rfl, fun W hW => ?_⟩) (by assumption) ?_
        · go_simp
        try simp only [Act.put, List.getElem_toArray, List.getElem_cons_succ, List.getElem_cons_zero, List.setIfInBounds_toArray, List.set_cons_zero, List.set_cons_succ]
        refine wpAnyH_take (i := 3) (v := undef) rfl (by kernel_rfl) (by kernel_rfl) (by kernel_rfl) (fun _ _ _ h => h) (Or.inr ⟨by rfl, rfl⟩) (by assumption) ?_
        try simp only [Act.put, List.getElem_toArray, List.getElem_cons_succ, List.getElem_cons_zero, List.setIfInBounds_toArray, List.set_cons_zero, List.set_cons_succ]
        refine wpAnyH_take (i := 4) (v := undef) rfl (by kernel_rfl) (by kernel_rfl) (by kernel_rfl) (fun _ _ _ h => h) (Or.inr ⟨by rfl, rfl⟩) (by assumption) ?_
        try simp only [Act.put, List.getElem_toArray, List.getElem_cons_succ, List.getElem_cons_zero, List.setIfInBounds_toArray, List.set_cons_zero, List.set_cons_succ]
        refine wpAnyH_take (i := 5) (v := undef) rfl (by kernel_rfl) (by kernel_rfl) (by kernel_rfl) (fun _ _ _ h => h) (Or.inr ⟨by rfl, rfl⟩) (by assumption) ?_
        try simp only [Act.put, List.getElem_toArray, List.getElem_cons_succ, List.getElem_cons_zero, List.setIfInBounds_toArray, List.set_cons_zero, List.set_cons_succ]
        refine wpAnyH_take (i := 6) (v := .bool true) rfl (by kernel_rfl) (by kernel_rfl) (by kernel_rfl) (fun _ _ _ h => h) (Or.inl ⟨by rfl, fun W hW => ?_⟩) (by assumption) ?_
        · go_simp
        try simp only [Act.put, List.getElem_toArray, List.getElem_cons_succ, List.getElem_cons_zero, List.setIfInBounds_toArray, List.set_cons_zero, List.set_cons_succ]
        refine wpAnyH_take (i := 8) (v := .slice (some bd) m c) rfl (by kernel_rfl) (by kernel_rfl) (by kernel_rfl) (fun _ _ _ h => h) (Or.inl ⟨by rfl, fun W hW => ?_⟩) (by assumption) ?_
        · go_simp
        try simp only [Act.put, List.getElem_toArray, List.getElem_cons_succ, List.getElem_cons_zero, List.setIfInBounds_toArray, List.set_cons_zero, List.set_cons_succ]
        refine wpAnyH_take (i := 9) (v := .int .i64 (k : Int)) rfl (by kernel_rfl) (by kernel_rfl) (by kernel_rfl) (fun _ _ _ h => h) (Or.inl ⟨by rfl, fun W hW => ?_⟩) (by assumption) ?_
        · go_simp
        try simp only [Act.put, List.getElem_toArray, List.getElem_cons_succ, List.getElem_cons_zero, List.setIfInBounds_toArray, List.set_cons_zero, List.set_cons_succ]
        refine wpAnyH_take (i := 10) (v := .slice cb k c) rfl (by kernel_rfl) (by kernel_rfl) (by kernel_rfl) (fun _ _ _ h => h) (Or.inl ⟨by rfl, fun W hW => ?_⟩) (by assumption) ?_
        · go_simp
        try simp only [Act.put, List.getElem_toArray, List.getElem_cons_succ, List.getElem_cons_zero, List.setIfInBounds_toArray, List.set_cons_zero, List.set_cons_succ]
        refine wpAnyH_take (i := 11) (v := .int .i64 x) rfl (by kernel_rfl) (by kernel_rfl) (by kernel_rfl) (fun _ _ _ h => h) (Or.inl ⟨by rfl, fun W hW => ?_⟩) (by assumption) ?_
        · go_simp
        try simp only [Act.put, List.getElem_toArray, List.getElem_cons_succ, List.getElem_cons_zero, List.setIfInBounds_toArray, List.set_cons_zero, List.set_cons_succ]
        refine wpAnyH_ready (rs := [7]) (by kernel_rfl) (by simp) ?_
        refine AllReadyH.cons rfl (fun K hK => ?_) AllReadyH.nil
        rw [if_pos (by rfl)]
        go_simp
        refine (when_any true 6 _).mono ?_
        rintro e w1 ⟨rfl, rfl⟩
        refine hK.out _ _ ?_ (fun hHeld => ?_)
        · clear hK K; exact HB.out.drew
        clear hK K
        try simp only [List.getElem_toArray, List.getElem_cons_succ, List.getElem_cons_zero, Act.put, List.setIfInBounds_toArray, List.set_cons_zero, List.set_cons_succ]
        refine wpAnyH_ready (rs := [12]) (by kernel_rfl) (by simp) ?_
        refine AllReadyH.cons rfl (fun K hK => ?_) AllReadyH.nil
        rw [if_pos (by rfl)]
        go_simp
        refine (CH.out _ HB.out.drew).mono ?_
        rintro e w1 ⟨rfl, rfl⟩
        refine hK.out _ _ ?_ (fun hHeld => ?_)
        · clear hK K; exact HB.out.drew
        clear hK K
        try simp only [List.getElem_toArray, List.getElem_cons_succ, List.getElem_cons_zero, Act.put, List.setIfInBounds_toArray, List.set_cons_zero, List.set_cons_succ]
        refine wpAnyH_ready (rs := [13]) (by kernel_rfl) (by simp) ?_
        refine AllReadyH.cons rfl (fun K hK => ?_) AllReadyH.nil
        rw [if_pos (by rfl)]
        go_simp
        refine (CW2.out _).mono ?_
        rintro e w1 ⟨rfl, rfl⟩
        refine hK.out _ _ ?_ (fun hHeld => ?_)
        · clear hK K; exact HB.out.drew
        clear hK K
        try simp only [List.getElem_toArray, List.getElem_cons_succ, List.getElem_cons_zero, Act.put, List.setIfInBounds_toArray, List.set_cons_zero, List.set_cons_succ]
        refine wpAnyH_ready (rs := [14]) (by kernel_rfl) (by simp) ?_
        refine AllReadyH.cons rfl (fun K hK => ?_) AllReadyH.nil
        go_simp
        refine hK.out _ _ ?_ (fun hHeld => ?_)
        · clear hK K; exact HB.out.drew.alloc HB.out.drew.size _
        clear hK K
        try simp only [List.getElem_toArray, List.getElem_cons_succ, List.getElem_cons_zero, Act.put, List.setIfInBounds_toArray, List.set_cons_zero, List.set_cons_succ]
        refine wpAnyH_ready (rs := [15]) (by kernel_rfl) (by simp) ?_
        refine AllReadyH.cons rfl (fun K hK => ?_) AllReadyH.nil
        rw [if_pos (by rfl)]
        go_simp
        refine (firstError2 (E1 := 6) (E2 := E2) (F := 6) HGG.out _ _ ?_ ?_).mono ?_
        · simp [go_sem]
        · simp [go_sem]
        rintro e w1 ⟨rfl, rfl⟩
        refine hK.out _ _ ?_ (fun hHeld => ?_)
        · clear hK K; exact HB.out.drew.alloc HB.out.drew.size _
        clear hK K
        try simp only [List.getElem_toArray, List.getElem_cons_succ, List.getElem_cons_zero, Act.put, List.setIfInBounds_toArray, List.set_cons_zero, List.set_cons_succ]
        refine wpAnyH_take (i := 16) (v := .int .i64 6) rfl (by kernel_rfl) (by kernel_rfl) (by kernel_rfl) (fun _ _ _ h => h) (Or.inl ⟨by rfl, fun W hW => ?_⟩) (by assumption) ?_
        · go_simp
        try simp only [Act.put, List.getElem_toArray, List.getElem_cons_succ, List.getElem_cons_zero, List.setIfInBounds_toArray, List.set_cons_zero, List.set_cons_succ]
        refine wpAnyH_done (by kernel_rfl) ?_ _
        go_wp2
        go_ret
        exact ⟨rfl, hHeld⟩
      · have hx1 : ¬ x < 0 := hx0
        by_cases hxm : (m : Int) ≤ x
        · have hg : G = 6 := by rw [HGK.out, HFB.out, decide_eq_false (p := x ≤ (m : Int) - 1) (by omega), Bool.and_false, if_neg (by simp)]
          subst hg
          obtain rfl : V = 6 := by rw [HV.out, HS.out, if_neg (by decide)]
          have HGG : Hid (firstNZ [6, E2] = 6) := rfl
          clear HGK HFB HS
          go_wp2
          refine wp_region_held_drew (S := (fun w' : World => Below w.heap.size w w')) (by kernel_rfl) ?_ ?_
          · exact HB.out.drew
          intro hHeld
          refine wpAnyH_take (i := 0) (v := .int .i64 x) rfl (by kernel_rfl) (by kernel_rfl) (by kernel_rfl) (fun _ _ _ h => h) (Or.inl ⟨by rfl, fun W hW => ?_⟩) (by assumption) ?_
          · go_simp
          try simp only [Act.put, List.getElem_toArray, List.getElem_cons_succ, List.getElem_cons_zero, List.setIfInBounds_toArray, List.set_cons_zero, List.set_cons_succ]
          refine wpAnyH_take (i := 1) (v := .bool false) rfl (by kernel_rfl) (by kernel_rfl) (by kernel_rfl) (fun _ _ _ h => h) (Or.inl ⟨by rfl, fun W hW => ?_⟩) (by assumption) ?_
          · go_simp
          try simp only [Act.put, List.getElem_toArray, List.getElem_cons_succ, List.getElem_cons_zero, List.setIfInBounds_toArray, List.set_cons_zero, List.set_cons_succ]
          refine wpAnyH_take (i := 2) (v := .bool false) rfl (by kernel_rfl) (by kernel_rfl) (by kernel_rfl) (fun _ _ _ h => h) (Or.inl ⟨by rfl, fun W hW => ?_⟩) (by assumption) ?_
          · go_simp
          try simp only [Act.put, List.getElem_toArray, List.getElem_cons_succ, List.getElem_cons_zero, List.setIfInBounds_toArray, List.set_cons_zero, List.set_cons_succ]
          refine wpAnyH_take (i := 3) (v := .int .i64 x) rfl (by kernel_rfl) (by kernel_rfl) (by kernel_rfl) (fun _ _ _ h => h) (Or.inl ⟨by rfl, fun W hW => ?_⟩) (by assumption) ?_
          · go_simp
          try simp only [Act.put, List.getElem_toArray, List.getElem_cons_succ, List.getElem_cons_zero, List.setIfInBounds_toArray, List.set_cons_zero, List.set_cons_succ]
          refine wpAnyH_take (i := 4) (v := .int .i64 (m : Int)) rfl (by kernel_rfl) (by kernel_rfl) (by kernel_rfl) (fun _ _ _ h => h) (Or.inl ⟨by rfl, fun W hW => ?_⟩) (by assumption) ?_
          · go_simp
          try simp only [Act.put, List.getElem_toArray, List.getElem_cons_succ, List.getElem_cons_zero, List.setIfInBounds_toArray, List.set_cons_zero, List.set_cons_succ]
          refine wpAnyH_take (i := 5) (v := .bool true) rfl (by kernel_rfl) (by kernel_rfl) (by kernel_rfl) (fun _ _ _ h => h) (Or.inl ⟨by rfl, fun W hW => ?_⟩) (by assumption) ?_
          · go_simp
          try simp only [Act.put, List.getElem_toArray, List.getElem_cons_succ, List.getElem_cons_zero, List.setIfInBounds_toArray, List.set_cons_zero, List.set_cons_succ]
          refine wpAnyH_take (i := 6) (v := .bool true) rfl (by kernel_rfl) (by kernel_rfl) (by kernel_rfl) (fun _ _ _ h => h) (Or.inl ⟨by rfl, fun W hW => ?_⟩) (by assumption) ?_
          · go_simp
          try simp only [Act.put, List.getElem_toArray, List.getElem_cons_succ, List.getElem_cons_zero, List.setIfInBounds_toArray, List.set_cons_zero, List.set_cons_succ]
          refine wpAnyH_take (i := 8) (v := .slice (some bd) m c) rfl (by kernel_rfl) (by kernel_rfl) (by kernel_rfl) (fun _ _ _ h => h) (Or.inl ⟨by rfl, fun W hW => ?_⟩) (by assumption) ?_
          · go_simp
          try simp only [Act.put, List.getElem_toArray, List.getElem_cons_succ, List.getElem_cons_zero, List.setIfInBounds_toArray, List.set_cons_zero, List.set_cons_succ]
          refine wpAnyH_take (i := 9) (v := .int .i64 (k : Int)) rfl (by kernel_rfl) (by kernel_rfl) (by kernel_rfl) (fun _ _ _ h => h) (Or.inl ⟨by rfl, fun W hW => ?_⟩) (by assumption) ?_
          · go_simp
          try simp only [Act.put, List.getElem_toArray, List.getElem_cons_succ, List.getElem_cons_zero, List.setIfInBounds_toArray, List.set_cons_zero, List.set_cons_succ]
          refine wpAnyH_take (i := 10) (v := .slice cb k c) rfl (by kernel_rfl) (by kernel_rfl) (by kernel_rfl) (fun _ _ _ h => h) (Or.inl ⟨by rfl, fun W hW => ?_⟩) (by assumption) ?_
          · go_simp
          try simp only [Act.put, List.getElem_toArray, List.getElem_cons_succ, List.getElem_cons_zero, List.setIfInBounds_toArray, List.set_cons_zero, List.set_cons_succ]
          refine wpAnyH_take (i := 11) (v := .int .i64 x) rfl (by kernel_rfl) (by kernel_rfl) (by kernel_rfl) (fun _ _ _ h => h) (Or.inl ⟨by rfl, fun W hW => ?_⟩) (by assumption) ?_
          · go_simp
          try simp only [Act.put, List.getElem_toArray, List.getElem_cons_succ, List.getElem_cons_zero, List.setIfInBounds_toArray, List.set_cons_zero, List.set_cons_succ]
          refine wpAnyH_ready (rs := [7]) (by kernel_rfl) (by simp) ?_
          refine AllReadyH.cons rfl (fun K hK => ?_) AllReadyH.nil
          rw [if_pos (by rfl)]
          go_simp
          refine (when_any true 6 _).mono ?_
          rintro e w1 ⟨rfl, rfl⟩
          refine hK.out _ _ ?_ (fun hHeld => ?_)
          · clear hK K; exact HB.out.drew
          clear hK K
          try simp only [List.getElem_toArray, List.getElem_cons_succ, List.getElem_cons_zero, Act.put, List.setIfInBounds_toArray, List.set_cons_zero, List.set_cons_succ]
          refine wpAnyH_ready (rs := [12]) (by kernel_rfl) (by simp) ?_
          refine AllReadyH.cons rfl (fun K hK => ?_) AllReadyH.nil
          rw [if_pos (by rfl)]
          go_simp
          refine (CH.out _ HB.out.drew).mono ?_
          rintro e w1 ⟨rfl, rfl⟩
          refine hK.out _ _ ?_ (fun hHeld => ?_)
          · clear hK K; exact HB.out.drew
          clear hK K
          try simp only [List.getElem_toArray, List.getElem_cons_succ, List.getElem_cons_zero, Act.put, List.setIfInBounds_toArray, List.set_cons_zero, List.set_cons_succ]
          refine wpAnyH_ready (rs := [13]) (by kernel_rfl) (by simp) ?_
          refine AllReadyH.cons rfl (fun K hK => ?_) AllReadyH.nil
          rw [if_pos (by rfl)]
          go_simp
          refine (CW2.out _).mono ?_
          rintro e w1 ⟨rfl, rfl⟩
          refine hK.out _ _ ?_ (fun hHeld => ?_)
          · clear hK K; exact HB.out.drew
          clear hK K
          try simp only [List.getElem_toArray, List.getElem_cons_succ, List.getElem_cons_zero, Act.put, List.setIfInBounds_toArray, List.set_cons_zero, List.set_cons_succ]
          refine wpAnyH_ready (rs := [14]) (by kernel_rfl) (by simp) ?_
          refine AllReadyH.cons rfl (fun K hK => ?_) AllReadyH.nil
          go_simp
          refine hK.out _ _ ?_ (fun hHeld => ?_)
          · clear hK K; exact HB.out.drew.alloc HB.out.drew.size _
          clear hK K
          try simp only [List.getElem_toArray, List.getElem_cons_succ, List.getElem_cons_zero, Act.put, List.setIfInBounds_toArray, List.set_cons_zero, List.set_cons_succ]
          refine wpAnyH_ready (rs := [15]) (by kernel_rfl) (by simp) ?_
          refine AllReadyH.cons rfl (fun K hK => ?_) AllReadyH.nil
          rw [if_pos (by rfl)]
          go_simp
          refine (firstError2 (E1 := 6) (E2 := E2) (F := 6) HGG.out _ _ ?_ ?_).mono ?_
          · simp [go_sem]
          · simp [go_sem]
          rintro e w1 ⟨rfl, rfl⟩
          refine hK.out _ _ ?_ (fun hHeld => ?_)
          · clear hK K; exact HB.out.drew.alloc HB.out.drew.size _
          clear hK K
          try simp only [List.getElem_toArray, List.getElem_cons_succ, List.getElem_cons_zero, Act.put, List.setIfInBounds_toArray, List.set_cons_zero, List.set_cons_succ]
          refine wpAnyH_take (i := 16) (v := .int .i64 6) rfl (by kernel_rfl) (by kernel_rfl) (by kernel_rfl) (fun _ _ _ h => h) (Or.inl ⟨by rfl, fun W hW => ?_⟩) (by assumption) ?_
          · go_simp
          try simp only [Act.put, List.getElem_toArray, List.getElem_cons_succ, List.getElem_cons_zero, List.setIfInBounds_toArray, List.set_cons_zero, List.set_cons_succ]
          refine wpAnyH_done (by kernel_rfl) ?_ _
          go_wp2
          go_ret
          exact ⟨rfl, hHeld⟩
        · have hg : G = if x ∈ o.take k then 25 else 0 := by rw [HGK.out, HFB.out, decide_eq_true (p := 0 ≤ x) (by omega), decide_eq_true (p := x ≤ (m : Int) - 1) (by omega), Bool.and_true, if_pos rfl]
          have HGG : Hid (firstNZ [0, E2] = G) := by
            show _ = _
            rw [hg, ← HE2.out]
            cases b2 with
            | true => rw [if_pos (of_decide_eq_true HB2.out)]; rfl
            | false => rw [if_neg (of_decide_eq_false HB2.out)]; rfl
          by_cases h0 : G = 0
          · subst h0
            have HV2 : Hid (V = odL m o (k + 1) (m - (k + 1))) := by show _ = _; rw [HV.out, HS.out, if_pos rfl]
            clear HGK HFB HS hg
            go_wp2
            refine wp_region_held_drew (S := (fun w' : World => Below w.heap.size w w')) (by kernel_rfl) ?_ ?_
            · exact HB.out.drew
            intro hHeld
            refine wpAnyH_take (i := 0) (v := .int .i64 x) rfl (by kernel_rfl) (by kernel_rfl) (by kernel_rfl) (fun _ _ _ h => h) (Or.inl ⟨by rfl, fun W hW => ?_⟩) (by assumption) ?_
            · go_simp
            try simp only [Act.put, List.getElem_toArray, List.getElem_cons_succ, List.getElem_cons_zero, List.setIfInBounds_toArray, List.set_cons_zero, List.set_cons_succ]
            refine wpAnyH_take (i := 1) (v := .bool false) rfl (by kernel_rfl) (by kernel_rfl) (by kernel_rfl) (fun _ _ _ h => h) (Or.inl ⟨by rfl, fun W hW => ?_⟩) (by assumption) ?_
            · go_simp
            try simp only [Act.put, List.getElem_toArray, List.getElem_cons_succ, List.getElem_cons_zero, List.setIfInBounds_toArray, List.set_cons_zero, List.set_cons_succ]
            refine wpAnyH_take (i := 2) (v := .bool false) rfl (by kernel_rfl) (by kernel_rfl) (by kernel_rfl) (fun _ _ _ h => h) (Or.inl ⟨by rfl, fun W hW => ?_⟩) (by assumption) ?_
            · go_simp
            try simp only [Act.put, List.getElem_toArray, List.getElem_cons_succ, List.getElem_cons_zero, List.setIfInBounds_toArray, List.set_cons_zero, List.set_cons_succ]
            refine wpAnyH_take (i := 3) (v := .int .i64 x) rfl (by kernel_rfl) (by kernel_rfl) (by kernel_rfl) (fun _ _ _ h => h) (Or.inl ⟨by rfl, fun W hW => ?_⟩) (by assumption) ?_
            · go_simp
            try simp only [Act.put, List.getElem_toArray, List.getElem_cons_succ, List.getElem_cons_zero, List.setIfInBounds_toArray, List.set_cons_zero, List.set_cons_succ]
            refine wpAnyH_take (i := 4) (v := .int .i64 (m : Int)) rfl (by kernel_rfl) (by kernel_rfl) (by kernel_rfl) (fun _ _ _ h => h) (Or.inl ⟨by rfl, fun W hW => ?_⟩) (by assumption) ?_
            · go_simp
            try simp only [Act.put, List.getElem_toArray, List.getElem_cons_succ, List.getElem_cons_zero, List.setIfInBounds_toArray, List.set_cons_zero, List.set_cons_succ]
            refine wpAnyH_take (i := 5) (v := .bool false) rfl (by kernel_rfl) (by kernel_rfl) (by kernel_rfl) (fun _ _ _ h => h) (Or.inl ⟨by rfl, fun W hW => ?_⟩) (by assumption) ?_
            · go_simp
            try simp only [Act.put, List.getElem_toArray, List.getElem_cons_succ, List.getElem_cons_zero, List.setIfInBounds_toArray, List.set_cons_zero, List.set_cons_succ]
            refine wpAnyH_take (i := 6) (v := .bool false) rfl (by kernel_rfl) (by kernel_rfl) (by kernel_rfl) (fun _ _ _ h => h) (Or.inl ⟨by rfl, fun W hW => ?_⟩) (by assumption) ?_
            · go_simp
            try simp only [Act.put, List.getElem_toArray, List.getElem_cons_succ, List.getElem_cons_zero, List.setIfInBounds_toArray, List.set_cons_zero, List.set_cons_succ]
            refine wpAnyH_take (i := 8) (v := .slice (some bd) m c) rfl (by kernel_rfl) (by kernel_rfl) (by kernel_rfl) (fun _ _ _ h => h) (Or.inl ⟨by rfl, fun W hW => ?_⟩) (by assumption) ?_
            · go_simp
            try simp only [Act.put, List.getElem_toArray, List.getElem_cons_succ, List.getElem_cons_zero, List.setIfInBounds_toArray, List.set_cons_zero, List.set_cons_succ]
            refine wpAnyH_take (i := 9) (v := .int .i64 (k : Int)) rfl (by kernel_rfl) (by kernel_rfl) (by kernel_rfl) (fun _ _ _ h => h) (Or.inl ⟨by rfl, fun W hW => ?_⟩) (by assumption) ?_
            · go_simp
            try simp only [Act.put, List.getElem_toArray, List.getElem_cons_succ, List.getElem_cons_zero, List.setIfInBounds_toArray, List.set_cons_zero, List.set_cons_succ]
            refine wpAnyH_take (i := 10) (v := .slice cb k c) rfl (by kernel_rfl) (by kernel_rfl) (by kernel_rfl) (fun _ _ _ h => h) (Or.inl ⟨by rfl, fun W hW => ?_⟩) (by assumption) ?_
            · go_simp
            try simp only [Act.put, List.getElem_toArray, List.getElem_cons_succ, List.getElem_cons_zero, List.setIfInBounds_toArray, List.set_cons_zero, List.set_cons_succ]
            refine wpAnyH_take (i := 11) (v := .int .i64 x) rfl (by kernel_rfl) (by kernel_rfl) (by kernel_rfl) (fun _ _ _ h => h) (Or.inl ⟨by rfl, fun W hW => ?_⟩) (by assumption) ?_
            · go_simp
            try simp only [Act.put, List.getElem_toArray, List.getElem_cons_succ, List.getElem_cons_zero, List.setIfInBounds_toArray, List.set_cons_zero, List.set_cons_succ]
            refine wpAnyH_ready (rs := [7]) (by kernel_rfl) (by simp) ?_
            refine AllReadyH.cons rfl (fun K hK => ?_) AllReadyH.nil
            rw [if_pos (by rfl)]
            go_simp
            refine (when_any false 6 _).mono ?_
            rintro e w1 ⟨rfl, rfl⟩
            refine hK.out _ _ ?_ (fun hHeld => ?_)
            · clear hK K; exact HB.out.drew
            clear hK K
            try simp only [List.getElem_toArray, List.getElem_cons_succ, List.getElem_cons_zero, Act.put, List.setIfInBounds_toArray, List.set_cons_zero, List.set_cons_succ]
            refine wpAnyH_ready (rs := [12]) (by kernel_rfl) (by simp) ?_
            refine AllReadyH.cons rfl (fun K hK => ?_) AllReadyH.nil
            rw [if_pos (by rfl)]
            go_simp
            refine (CH.out _ HB.out.drew).mono ?_
            rintro e w1 ⟨rfl, rfl⟩
            refine hK.out _ _ ?_ (fun hHeld => ?_)
            · clear hK K; exact HB.out.drew
            clear hK K
            try simp only [List.getElem_toArray, List.getElem_cons_succ, List.getElem_cons_zero, Act.put, List.setIfInBounds_toArray, List.set_cons_zero, List.set_cons_succ]
            refine wpAnyH_ready (rs := [13]) (by kernel_rfl) (by simp) ?_
            refine AllReadyH.cons rfl (fun K hK => ?_) AllReadyH.nil
            rw [if_pos (by rfl)]
            go_simp
            refine (CW2.out _).mono ?_
            rintro e w1 ⟨rfl, rfl⟩
            refine hK.out _ _ ?_ (fun hHeld => ?_)
            · clear hK K; exact HB.out.drew
            clear hK K
            try simp only [List.getElem_toArray, List.getElem_cons_succ, List.getElem_cons_zero, Act.put, List.setIfInBounds_toArray, List.set_cons_zero, List.set_cons_succ]
            refine wpAnyH_ready (rs := [14]) (by kernel_rfl) (by simp) ?_
            refine AllReadyH.cons rfl (fun K hK => ?_) AllReadyH.nil
            go_simp
            refine hK.out _ _ ?_ (fun hHeld => ?_)
            · clear hK K; exact HB.out.drew.alloc HB.out.drew.size _
            clear hK K
            try simp only [List.getElem_toArray, List.getElem_cons_succ, List.getElem_cons_zero, Act.put, List.setIfInBounds_toArray, List.set_cons_zero, List.set_cons_succ]
            refine wpAnyH_ready (rs := [15]) (by kernel_rfl) (by simp) ?_
            refine AllReadyH.cons rfl (fun K hK => ?_) AllReadyH.nil
            rw [if_pos (by rfl)]
            go_simp
            refine (firstError2 (E1 := 0) (E2 := E2) (F := 0) HGG.out _ _ ?_ ?_).mono ?_
            · simp [go_sem]
            · simp [go_sem]
            rintro e w1 ⟨rfl, rfl⟩
            refine hK.out _ _ ?_ (fun hHeld => ?_)
            · clear hK K; exact HB.out.drew.alloc HB.out.drew.size _
            clear hK K
            try simp only [List.getElem_toArray, List.getElem_cons_succ, List.getElem_cons_zero, Act.put, List.setIfInBounds_toArray, List.set_cons_zero, List.set_cons_succ]
            refine wpAnyH_take (i := 16) (v := .int .i64 0) rfl (by kernel_rfl) (by kernel_rfl) (by kernel_rfl) (fun _ _ _ h => h) (Or.inl ⟨by rfl, fun W hW => ?_⟩) (by assumption) ?_
            · go_simp
            try simp only [Act.put, List.getElem_toArray, List.getElem_cons_succ, List.getElem_cons_zero, List.setIfInBounds_toArray, List.set_cons_zero, List.set_cons_succ]
            refine wpAnyH_done (by kernel_rfl) ?_ _
            go_wp2
            go_roundw
            case rel => exact ⟨k + 1, by omega, by go_num, HV2, Lib.hid hHeld⟩
            case measure => simp only [intOf]; omega
          · obtain rfl : V = G := by rw [HV.out, HS.out, if_neg h0]
            have d1 : (V == 0) = false := by rw [beq_eq_false_iff_ne]; exact h0
            have d2 : (V != 0) = true := by rw [bne_iff_ne]; exact h0
            clear HGK HFB HS hg h0
            go_wp2
            refine wp_region_held_drew (S := (fun w' : World => Below w.heap.size w w')) (by kernel_rfl) ?_ ?_
            · exact HB.out.drew
            intro hHeld
            refine wpAnyH_take (i := 0) (v := .int .i64 x) rfl (by kernel_rfl) (by kernel_rfl) (by kernel_rfl) (fun _ _ _ h => h) (Or.inl ⟨by rfl, fun W hW => ?_⟩) (by assumption) ?_
            · go_simp
            try simp only [Act.put, List.getElem_toArray, List.getElem_cons_succ, List.getElem_cons_zero, List.setIfInBounds_toArray, List.set_cons_zero, List.set_cons_succ]
            refine wpAnyH_take (i := 1) (v := .bool false) rfl (by kernel_rfl) (by kernel_rfl) (by kernel_rfl) (fun _ _ _ h => h) (Or.inl ⟨by rfl, fun W hW => ?_⟩) (by assumption) ?_
            · go_simp
            try simp only [Act.put, List.getElem_toArray, List.getElem_cons_succ, List.getElem_cons_zero, List.setIfInBounds_toArray, List.set_cons_zero, List.set_cons_succ]
            refine wpAnyH_take (i := 2) (v := .bool false) rfl (by kernel_rfl) (by kernel_rfl) (by kernel_rfl) (fun _ _ _ h => h) (Or.inl ⟨by rfl, fun W hW => ?_⟩) (by assumption) ?_
            · go_simp
            try simp only [Act.put, List.getElem_toArray, List.getElem_cons_succ, List.getElem_cons_zero, List.setIfInBounds_toArray, List.set_cons_zero, List.set_cons_succ]
            refine wpAnyH_take (i := 3) (v := .int .i64 x) rfl (by kernel_rfl) (by kernel_rfl) (by kernel_rfl) (fun _ _ _ h => h) (Or.inl ⟨by rfl, fun W hW => ?_⟩) (by assumption) ?_
            · go_simp
            try simp only [Act.put, List.getElem_toArray, List.getElem_cons_succ, List.getElem_cons_zero, List.setIfInBounds_toArray, List.set_cons_zero, List.set_cons_succ]
            refine wpAnyH_take (i := 4) (v := .int .i64 (m : Int)) rfl (by kernel_rfl) (by kernel_rfl) (by kernel_rfl) (fun _ _ _ h => h) (Or.inl ⟨by rfl, fun W hW => ?_⟩) (by assumption) ?_
            · go_simp
            try simp only [Act.put, List.getElem_toArray, List.getElem_cons_succ, List.getElem_cons_zero, List.setIfInBounds_toArray, List.set_cons_zero, List.set_cons_succ]
            refine wpAnyH_take (i := 5) (v := .bool false) rfl (by kernel_rfl) (by kernel_rfl) (by kernel_rfl) (fun _ _ _ h => h) (Or.inl ⟨by rfl, fun W hW => ?_⟩) (by assumption) ?_
            · go_simp
            try simp only [Act.put, List.getElem_toArray, List.getElem_cons_succ, List.getElem_cons_zero, List.setIfInBounds_toArray, List.set_cons_zero, List.set_cons_succ]
            refine wpAnyH_take (i := 6) (v := .bool false) rfl (by kernel_rfl) (by kernel_rfl) (by kernel_rfl) (fun _ _ _ h => h) (Or.inl ⟨by rfl, fun W hW => ?_⟩) (by assumption) ?_
            · go_simp
            try simp only [Act.put, List.getElem_toArray, List.getElem_cons_succ, List.getElem_cons_zero, List.setIfInBounds_toArray, List.set_cons_zero, List.set_cons_succ]
            refine wpAnyH_take (i := 8) (v := .slice (some bd) m c) rfl (by kernel_rfl) (by kernel_rfl) (by kernel_rfl) (fun _ _ _ h => h) (Or.inl ⟨by rfl, fun W hW => ?_⟩) (by assumption) ?_
            · go_simp
            try simp only [Act.put, List.getElem_toArray, List.getElem_cons_succ, List.getElem_cons_zero, List.setIfInBounds_toArray, List.set_cons_zero, List.set_cons_succ]
            refine wpAnyH_take (i := 9) (v := .int .i64 (k : Int)) rfl (by kernel_rfl) (by kernel_rfl) (by kernel_rfl) (fun _ _ _ h => h) (Or.inl ⟨by rfl, fun W hW => ?_⟩) (by assumption) ?_
            · go_simp
            try simp only [Act.put, List.getElem_toArray, List.getElem_cons_succ, List.getElem_cons_zero, List.setIfInBounds_toArray, List.set_cons_zero, List.set_cons_succ]
            refine wpAnyH_take (i := 10) (v := .slice cb k c) rfl (by kernel_rfl) (by kernel_rfl) (by kernel_rfl) (fun _ _ _ h => h) (Or.inl ⟨by rfl, fun W hW => ?_⟩) (by assumption) ?_
            · go_simp
            try simp only [Act.put, List.getElem_toArray, List.getElem_cons_succ, List.getElem_cons_zero, List.setIfInBounds_toArray, List.set_cons_zero, List.set_cons_succ]
            refine wpAnyH_take (i := 11) (v := .int .i64 x) rfl (by kernel_rfl) (by kernel_rfl) (by kernel_rfl) (fun _ _ _ h => h) (Or.inl ⟨by rfl, fun W hW => ?_⟩) (by assumption) ?_
            · go_simp
            try simp only [Act.put, List.getElem_toArray, List.getElem_cons_succ, List.getElem_cons_zero, List.setIfInBounds_toArray, List.set_cons_zero, List.set_cons_succ]
            refine wpAnyH_ready (rs := [7]) (by kernel_rfl) (by simp) ?_
            refine AllReadyH.cons rfl (fun K hK => ?_) AllReadyH.nil
            rw [if_pos (by rfl)]
            go_simp
            refine (when_any false 6 _).mono ?_
            rintro e w1 ⟨rfl, rfl⟩
            refine hK.out _ _ ?_ (fun hHeld => ?_)
            · clear hK K; exact HB.out.drew
            clear hK K
            try simp only [List.getElem_toArray, List.getElem_cons_succ, List.getElem_cons_zero, Act.put, List.setIfInBounds_toArray, List.set_cons_zero, List.set_cons_succ]
            refine wpAnyH_ready (rs := [12]) (by kernel_rfl) (by simp) ?_
            refine AllReadyH.cons rfl (fun K hK => ?_) AllReadyH.nil
            rw [if_pos (by rfl)]
            go_simp
            refine (CH.out _ HB.out.drew).mono ?_
            rintro e w1 ⟨rfl, rfl⟩
            refine hK.out _ _ ?_ (fun hHeld => ?_)
            · clear hK K; exact HB.out.drew
            clear hK K
            try simp only [List.getElem_toArray, List.getElem_cons_succ, List.getElem_cons_zero, Act.put, List.setIfInBounds_toArray, List.set_cons_zero, List.set_cons_succ]
            refine wpAnyH_ready (rs := [13]) (by kernel_rfl) (by simp) ?_
            refine AllReadyH.cons rfl (fun K hK => ?_) AllReadyH.nil
            rw [if_pos (by rfl)]
            go_simp
            refine (CW2.out _).mono ?_
            rintro e w1 ⟨rfl, rfl⟩
            refine hK.out _ _ ?_ (fun hHeld => ?_)
            · clear hK K; exact HB.out.drew
            clear hK K
            try simp only [List.getElem_toArray, List.getElem_cons_succ, List.getElem_cons_zero, Act.put, List.setIfInBounds_toArray, List.set_cons_zero, List.set_cons_succ]
            refine wpAnyH_ready (rs := [14]) (by kernel_rfl) (by simp) ?_
            refine AllReadyH.cons rfl (fun K hK => ?_) AllReadyH.nil
            go_simp
            refine hK.out _ _ ?_ (fun hHeld => ?_)
            · clear hK K; exact HB.out.drew.alloc HB.out.drew.size _
            clear hK K
            try simp only [List.getElem_toArray, List.getElem_cons_succ, List.getElem_cons_zero, Act.put, List.setIfInBounds_toArray, List.set_cons_zero, List.set_cons_succ]
            refine wpAnyH_ready (rs := [15]) (by kernel_rfl) (by simp) ?_
            refine AllReadyH.cons rfl (fun K hK => ?_) AllReadyH.nil
            rw [if_pos (by rfl)]
            go_simp
            refine (firstError2 (E1 := 0) (E2 := E2) (F := V) HGG.out _ _ ?_ ?_).mono ?_
            · simp [go_sem]
            · simp [go_sem]
            rintro e w1 ⟨rfl, rfl⟩
            refine hK.out _ _ ?_ (fun hHeld => ?_)
            · clear hK K; exact HB.out.drew.alloc HB.out.drew.size _
            clear hK K
            try simp only [List.getElem_toArray, List.getElem_cons_succ, List.getElem_cons_zero, Act.put, List.setIfInBounds_toArray, List.set_cons_zero, List.set_cons_succ]
            refine wpAnyH_take (i := 16) (v := .int .i64 V) rfl (by kernel_rfl) (by kernel_rfl) (by kernel_rfl) (fun _ _ _ h => h) (Or.inl ⟨by rfl, fun W hW => ?_⟩) (by assumption) ?_
            · go_simp
            try simp only [Act.put, List.getElem_toArray, List.getElem_cons_succ, List.getElem_cons_zero, List.setIfInBounds_toArray, List.set_cons_zero, List.set_cons_succ]
            refine wpAnyH_done (by kernel_rfl) ?_ _
            go_wp2
            go_ret
            exact ⟨rfl, hHeld⟩
    · obtain rfl : m = k := by omega
      have hkI : ¬ (m : Int) < (m : Int) := by omega
      obtain rfl : V = 0 := by rw [HV.out, Nat.sub_self]; rfl
      go_wp2
      go_ret
      exact ⟨rfl, HB.out⟩

end Go.Proofs.Ytccoflhoggpgoaa

namespace Go.Proofs.Ytccoflhoggpgoaa
open Go.RowKit

open Go.Shelf

def dgE (p : List (List Int)) (o : List Int) : Int := if pfE p = 0 then odE p.length o else pfE p
def dgV (p : List (List Int)) (o : List Int) : Int := if dgE p o = 0 then dsF p o else 0
set_option maxRecDepth 100000 in
set_option maxHeartbeats 4000000 in
theorem disagreementsOf_any (A : Option Addr) (n c : Nat) (p : List (List Int)) (B : Option Addr) (m d : Nat) (o : List Int) (w : World) (hp : RdGo w A n p) (hr : RdI w B m o) (hmd : m ≤ d) (hn : n ≤ 1000000) (hm : m ≤ 1000000) :
    Calls Try.prog 65 #[.slice A n c, .slice B m d] w fun e w' => e = .returned (.tuple #[.int .i64 (dgV p o), .int .i64 (dgE p o)]) ∧ Below w.heap.size w w' := by
  have HP := Lib.hid hp
  have HR := Lib.hid hr
  have CP := Lib.hid (checkPreferences_any A n c p w hp hn)
  have CO : Hid (∀ W, Below w.heap.size w W → Calls Try.prog 115 #[.int .i64 (n : Int), .slice B m d] W fun e w' => e = .returned (.int .i64 (odE n o)) ∧ Below W.heap.size W w') := fun W hb => checkOrder_any n B m d o W (hr.below hb) hmd hn hm
  have HPZ := Lib.hid (fun h => pfE_zero (p := p) h)
  have HVO := Lib.hid (fun h => VO.of_odE (n := n) (o := o) h)
  have HE : Hid (dgE p o = if pfE p = 0 then odE n o else pfE p) := by show _ = _; unfold dgE; rw [hp.1]
  have HV : Hid (dgV p o = if dgE p o = 0 then dsF p o else 0) := rfl
  rw [show p.length = n from hp.1] at HPZ
  have HMO : Hid (odE n o = 0 → m = n) := fun h => by have := (odE_zero h).1; have := hr.1; omega
  have CD : Hid (m = n → n ≤ 6 → VP n p → VO n o → ∀ W, Below w.heap.size w W → Calls Try.prog 116 #[.slice A n c, .slice B m d] W fun e w' => e = .returned (.int .i64 (dsF p o)) ∧ W = w') := by
    intro e h1 h2 h3 W hb
    subst e
    exact disagreements_any A m c p B d o W (hp.below hb) (hr.below hb) hmd h1 h2 h3
  obtain ⟨E, hE⟩ : ∃ E, dgE p o = E := ⟨_, rfl⟩
  obtain ⟨V, hV⟩ : ∃ V, dgV p o = V := ⟨_, rfl⟩
  rw [hE] at HE HV ⊢
  rw [hV] at HV ⊢
  obtain ⟨P, hP⟩ : ∃ P, pfE p = P := ⟨_, rfl⟩
  rw [hP] at HE CP HPZ
  obtain ⟨O, hO⟩ : ∃ O, odE n o = O := ⟨_, rfl⟩
  rw [hO] at HE CO HVO HMO
  obtain ⟨D, hD⟩ : ∃ D, dsF p o = D := ⟨_, rfl⟩
  rw [hD] at HV CD
  clear hp hr hE hV hP hO hD
  by_cases h0 : P = 0
  case neg =>
    obtain rfl : E = P := by rw [HE.out, if_neg h0]
    obtain rfl : V = 0 := by rw [HV.out, if_neg h0]
    have hd : (E != 0) = true := by rw [bne_iff_ne]; exact h0
    have hd1 : (E == 0) = false := by rw [beq_eq_false_iff_ne]; exact h0
    clear h0
    go_enter Try.func65, Try.ntmps65
    go_wp2_with fail
    refine CP.out.mono ?_
    rintro e w' ⟨rfl, hb⟩
    have HB := Lib.hid hb
    clear hb
    go_wp2
    go_ret2
    exact ⟨rfl, HB.out⟩
  subst h0
  obtain rfl : E = O := by rw [HE.out, if_pos rfl]
  obtain ⟨hn6, hvp⟩ := HPZ.out rfl
  have HVP := Lib.hid hvp
  clear hvp
  by_cases h1 : E = 0
  case neg =>
    obtain rfl : V = 0 := by rw [HV.out, if_neg h1]
    have hd : (E != 0) = true := by rw [bne_iff_ne]; exact h1
    have hd1 : (E == 0) = false := by rw [beq_eq_false_iff_ne]; exact h1
    clear h1
    go_enter Try.func65, Try.ntmps65
    go_wp2_with fail
    refine CP.out.mono ?_
    rintro e w1 ⟨rfl, hb⟩
    have HB := Lib.hid hb
    clear hb
    go_wp2_with fail
    refine (CO.out _ HB.out).mono ?_
    rintro e w2 ⟨rfl, hb⟩
    have HB2 := Lib.hid (HB.out.trans (hb.mono HB.out.size))
    clear hb
    go_wp2
    go_ret2
    exact ⟨rfl, HB2.out⟩
  subst h1
  obtain rfl : V = D := by rw [HV.out, if_pos rfl]
  have hmn := HMO.out rfl
  have CD2 := Lib.hid (CD.out hmn hn6 HVP.out (HVO.out rfl))
  clear hmn
  go_enter Try.func65, Try.ntmps65
  go_wp2_with fail
  refine CP.out.mono ?_
  rintro e w1 ⟨rfl, hb⟩
  have HB := Lib.hid hb
  clear hb
  go_wp2_with fail
  refine (CO.out _ HB.out).mono ?_
  rintro e w2 ⟨rfl, hb⟩
  have HB2 := Lib.hid (HB.out.trans (hb.mono HB.out.size))
  clear hb
  go_wp2_with fail
  refine (CD2.out _ HB2.out).mono ?_
  rintro e w3 ⟨rfl, rfl⟩
  go_wp2
  go_ret2
  exact ⟨rfl, HB2.out⟩

end Go.Proofs.Ytccoflhoggpgoaa

