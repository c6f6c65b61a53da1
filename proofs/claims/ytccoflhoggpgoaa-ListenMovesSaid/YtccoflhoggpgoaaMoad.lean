import Derived.Test.YtccoflhoggpgoaaMoac
import Derived.Test.YtccoflhoggpgoaaMoab
import Derived.Deep.WholeRow
import Derived.Test.YtccoflhoggpgoaaMoaa
namespace Go.Proofs.Ytccoflhoggpgoaa
open Go.RowKit

open Go.Shelf

theorem pfE_small {p : List (List Int)} {n : Nat} (hl : p.length = n) (h6 : n ≤ 6) : pfE p = if shE n p = 0 then rwsE 0 p else 10 := by
  unfold pfE; rw [hl, if_neg (by omega)]
theorem celE_vals (i j : Nat) (x : Int) : celE i j x = if fromB 0 1000 [x] = true then (if i = j ∧ x ≠ 0 then 3 else 0) else 2 := by
  unfold celE rngE
  by_cases h : fromB 0 1000 [x] = true
  · rw [if_pos h, if_pos h]
    by_cases h2 : i = j ∧ x ≠ 0
    · rw [if_pos h2]; rfl
    · rw [if_neg h2]; rfl
  · rw [if_neg h, if_neg h]; rfl
set_option maxRecDepth 100000 in
set_option maxHeartbeats 8000000 in
theorem refPreferencesErr_any (A : Option Addr) (n c : Nat) (p : List (List Int)) (w : World) (hp : RdGo w A n p) (hn : n ≤ 1000000) :
    Calls Try.prog 69 #[.slice A n c] w fun e w' => e = .returned (.int .i64 (pfE p)) ∧ w = w' := by
  have HP := Lib.hid hp
  have HLN : Hid (p.length = n) := hp.1
  by_cases h6 : 6 < n
  · have hv : pfE p = 8 := by unfold pfE; rw [hp.1, if_pos h6]
    rw [hv]
    have h6I : (6 : Int) < (n : Int) := by omega
    clear hp
    go_enter Try.func69, Try.ntmps69
    go_wp2
    go_ret
    exact ⟨rfl, rfl⟩
  have h6I : ¬ (6 : Int) < (n : Int) := by omega
  have HF := Lib.hid (pfE_small hp.1 (by omega : n ≤ 6))
  have HSTP : Hid (∀ i, i < n → rwsE i (p.drop i) = if rwE i 0 (p.getD i []) = 0 then rwsE (i + 1) (p.drop (i + 1)) else rwE i 0 (p.getD i [])) := fun i hi => rwsE_step p i (by rw [hp.1]; exact hi)
  have HSHS : Hid (∀ k, k < n → shE n (p.drop k) = if (p.getD k []).length = n then shE n (p.drop (k + 1)) else 10) := fun k hk => shE_step n p k (by rw [hp.1]; exact hk)
  have HSE : Hid (shE n (p.drop n) = 0) := by show _ = _; rw [List.drop_eq_nil_of_le (by rw [hp.1]; exact Nat.le_refl _)]; rfl
  have HS0 : Hid (shE n (p.drop 0) = shE n p) := by show _ = _; rw [List.drop_zero]
  have HRE : Hid (rwsE n (p.drop n) = 0) := by show _ = _; rw [List.drop_eq_nil_of_le (by rw [hp.1]; exact Nat.le_refl _)]; rfl
  have HR0 : Hid (rwsE 0 (p.drop 0) = rwsE 0 p) := by show _ = _; rw [List.drop_zero]
  have HRL : Hid (shE n p = 0 → ∀ j, j < n → (p.getD j []).length = n) := by
    intro h j hj
    unfold shE at h
    by_cases h1 : p.all (fun r => decide (r.length = n)) = true
    · have := List.all_eq_true.1 h1 (p.getD j []) (by rw [List.getD_eq_getElem?_getD, List.getElem?_eq_getElem (by rw [hp.1]; exact hj), Option.getD_some]; exact List.getElem_mem _)
      simpa using this
    · rw [if_neg h1] at h; cases h
  have HCV : Hid (∀ (i j : Nat) x, celE i j x = if fromB 0 1000 [x] = true then (if i = j ∧ x ≠ 0 then 3 else 0) else 2) := celE_vals
  obtain ⟨V, hV⟩ : ∃ V, pfE p = V := ⟨_, rfl⟩
  rw [hV] at HF ⊢
  obtain ⟨S, hS⟩ : ∃ S, shE n p = S := ⟨_, rfl⟩
  rw [hS] at HF HS0 HRL
  clear hV hS hp
  go_enter Try.func69, Try.ntmps69
  go_wp2
  go_loop [3] (fun i => ∃ k : Nat, k ≤ n ∧ i = .int .i64 k ∧ Hid (S = shE n (p.drop k))) (fun i => n - (intOf i).toNat)
  case atStart => exact ⟨0, Nat.zero_le _, rfl, HS0.out.symm⟩
  case round =>
    obtain ⟨k, hk, rfl, HSK⟩ := hrel
    by_cases hlt : k < n
    · have hkI : (k : Int) < (n : Int) := by omega
      have hk0 : (0 : Int) ≤ (k : Int) := by omega
      obtain ⟨ad, ha, _, hc⟩ := HP.out.2 (by omega)
      subst ha
      obtain ⟨R, m, rc, hrow, hrd, _⟩ := hc k hlt
      have HS1 := Lib.hid (HSHS.out k hlt)
      rw [hrd.1] at HS1
      clear hc hrd
      by_cases hmn : m = n
      · subst hmn
        have HS2 : Hid (S = shE m (p.drop (k + 1))) := by show _ = _; rw [HSK.out, HS1.out, if_pos rfl]
        go_wp2
        go_round
        case rel => exact ⟨k + 1, by omega, by go_num, HS2⟩
        case measure => simp [intOf]; omega
      · have hb : ((m : Int) != (n : Int)) = true := by rw [bne_iff_ne]; omega
        have hb2 : ((m : Int) == (n : Int)) = false := by rw [beq_eq_false_iff_ne]; omega
        obtain rfl : S = 10 := by rw [HSK.out, HS1.out, if_neg hmn]
        obtain rfl : V = 10 := by rw [HF.out, if_neg (by decide)]
        go_wp2
        go_ret
        exact ⟨rfl, rfl⟩
    · obtain rfl : n = k := by omega
      have hkI : ¬ (n : Int) < (n : Int) := by omega
      obtain rfl : S = 0 := by rw [HSK.out, HSE.out]
      have HV : Hid (V = rwsE 0 (p.drop 0)) := by show _ = _; rw [HF.out, if_pos rfl, HR0.out]
      have HRL2 := Lib.hid (HRL.out rfl)
      have CW := Lib.hid (fun x w => within_any x 0 1000 w)
      clear HRL HS0 HSK HF HSHS HSE
      go_wp2
      go_loop [4] (fun i => ∃ k : Nat, k ≤ n ∧ i = .int .i64 k ∧ Hid (V = rwsE k (p.drop k))) (fun i => n - (intOf i).toNat)
      case atStart => exact ⟨0, Nat.zero_le _, rfl, HV⟩
      case round =>
        obtain ⟨k, hk, rfl, HE⟩ := hrel
        by_cases hlt : k < n
        · have hkI : (k : Int) < (n : Int) := by omega
          have hk0 : (0 : Int) ≤ (k : Int) := by omega
          obtain ⟨ad, ha, hal, hc⟩ := HP.out.2 (by omega)
          subst ha
          obtain ⟨R, m, rc, hrow, hrd, _⟩ := hc k hlt
          have hrl := HRL2.out k hlt
          have hmn : m = n := by have := hrd.1; omega
          subst hmn
          have HST := Lib.hid (HSTP.out k hlt)
          obtain ⟨r, hr⟩ : ∃ r, p.getD k [] = r := ⟨_, rfl⟩
          rw [hr] at hrd hrl HST
          have HRD := Lib.hid hrd
          have HRW : Hid (∀ j, j < m → rwE k j (r.drop j) = if celE k j (r.getD j 0) = 0 then rwE k (j + 1) (r.drop (j + 1)) else celE k j (r.getD j 0)) := fun j hj => rwE_step k r j (by omega)
          have HRLN := Lib.hid hrl
          obtain ⟨RV, hRV⟩ : ∃ v, rwE k 0 r = v := ⟨_, rfl⟩
          rw [hRV] at HST
          have HRV : Hid (RV = rwE k 0 (r.drop 0)) := by show _ = _; rw [List.drop_zero, hRV]
          clear hc hr hrd hrl hRV
          go_wp2
          go_loop [5] (fun i => ∃ j : Nat, j ≤ m ∧ i = .int .i64 j ∧ Hid (RV = rwE k j (r.drop j))) (fun i => m - (intOf i).toNat)
          case atStart => exact ⟨0, Nat.zero_le _, rfl, HRV⟩
          case round =>
            obtain ⟨j, hj, rfl, HEJ⟩ := hrel
            by_cases hjl : j < m
            · have hjI : (j : Int) < (m : Int) := by omega
              have hj0 : (0 : Int) ≤ (j : Int) := by omega
              obtain ⟨rd, hR, _, hcr⟩ := HRD.out.2 (by omega)
              subst hR
              have hcj := hcr j hjl
              have HSJ := Lib.hid (HRW.out j hjl)
              obtain ⟨x, hx⟩ : ∃ x, r.getD j 0 = x := ⟨_, rfl⟩
              rw [hx] at hcj HSJ
              have HCE := Lib.hid (HCV.out k j x)
              obtain ⟨CV, hCV⟩ : ∃ v, celE k j x = v := ⟨_, rfl⟩
              rw [hCV] at HSJ HCE
              have CX := Lib.hid (CW.out x w)
              obtain ⟨b1, hb1⟩ : ∃ b, fromB 0 1000 [x] = b := ⟨_, rfl⟩
              rw [hb1] at CX HCE
              clear hcr hx hCV hb1
              cases b1 with
              | false =>
                obtain rfl : CV = 2 := by rw [HCE.out, if_neg (by simp)]
                obtain rfl : RV = 2 := by rw [HEJ.out, HSJ.out, if_neg (by decide)]
                obtain rfl : V = 2 := by rw [HE.out, HST.out, if_neg (by decide)]
                go_wp2_with fail
                refine CX.out.mono ?_
                rintro e w' ⟨rfl, rfl⟩
                go_wp2
                go_ret
                exact ⟨rfl, rfl⟩
              | true =>
                have hce := HCE.out
                rw [if_pos rfl] at hce
                by_cases hkj : k = j
                · subst hkj
                  by_cases hx0 : x = 0
                  · subst hx0
                    obtain rfl : CV = 0 := by rw [hce, if_neg (by simp)]
                    have HR2 : Hid (RV = rwE k (k + 1) (r.drop (k + 1))) := by show _ = _; rw [HEJ.out, HSJ.out, if_pos rfl]
                    clear hce
                    go_wp2_with fail
                    refine CX.out.mono ?_
                    rintro e w' ⟨rfl, rfl⟩
                    go_wp2
                    go_round
                    case rel => exact ⟨k + 1, by omega, by go_num, HR2⟩
                    case measure => simp [intOf]; omega
                  · have hxb : (x == 0) = false := by rw [beq_eq_false_iff_ne]; exact hx0
                    have hxc : (x != 0) = true := by rw [bne_iff_ne]; exact hx0
                    obtain rfl : CV = 3 := by rw [hce, if_pos ⟨rfl, hx0⟩]
                    obtain rfl : RV = 3 := by rw [HEJ.out, HSJ.out, if_neg (by decide)]
                    obtain rfl : V = 3 := by rw [HE.out, HST.out, if_neg (by decide)]
                    clear hce hx0
                    go_wp2_with fail
                    refine CX.out.mono ?_
                    rintro e w' ⟨rfl, rfl⟩
                    go_wp2
                    go_ret
                    exact ⟨rfl, rfl⟩
                · have hkb : decide ((k : Int) = (j : Int)) = false := decide_eq_false (by omega)
                  have hkc : ((k : Int) == (j : Int)) = false := by rw [beq_eq_false_iff_ne]; omega
                  obtain rfl : CV = 0 := by rw [hce, if_neg (by simp [hkj])]
                  have HR2 : Hid (RV = rwE k (j + 1) (r.drop (j + 1))) := by show _ = _; rw [HEJ.out, HSJ.out, if_pos rfl]
                  clear hce
                  go_wp2_with fail
                  refine CX.out.mono ?_
                  rintro e w' ⟨rfl, rfl⟩
                  go_wp2
                  go_round
                  case rel => exact ⟨j + 1, by omega, by go_num, HR2⟩
                  case measure => simp [intOf]; omega
            · obtain rfl : m = j := by omega
              have hjI : ¬ (m : Int) < (m : Int) := by omega
              have hrv : RV = 0 := by rw [HEJ.out, List.drop_eq_nil_of_le (by have := HRLN.out; omega)]; rfl
              have HV2 : Hid (V = rwsE (k + 1) (p.drop (k + 1))) := by
                show _ = _
                have hst := HST.out
                rw [hrv, if_pos rfl] at hst
                rw [HE.out, hst]
              clear hrv
              go_wp2
              go_round
              case rel => exact ⟨k + 1, by omega, by go_num, HV2⟩
              case measure => simp [intOf]; omega
        · obtain rfl : n = k := by omega
          have hkI : ¬ (n : Int) < (n : Int) := by omega
          obtain rfl : V = 0 := by rw [HE.out, HRE.out]
          go_wp2
          go_ret
          exact ⟨rfl, rfl⟩

end Go.Proofs.Ytccoflhoggpgoaa

namespace Go.Proofs.Ytccoflhoggpgoaa
open Go.RowKit

open Go.Shelf
attribute [local go_sem] Oper.semAt_some

/-- All cells but those of block X lie as they lay. -/
structure KZ (X : Nat) (A B : World) : Prop where
  size : A.heap.size ≤ B.heap.size
  block : ∀ k o, k ≠ X → A.heap[k]? = some o → o.isCells = true → B.heap[k]? = some o
theorem KZ.refl (X : Nat) (A : World) : KZ X A A := ⟨Nat.le_refl _, fun _ _ _ h _ => h⟩
theorem KZ.trans {X : Nat} {A B C : World} (h : KZ X A B) (k : KZ X B C) : KZ X A C := ⟨Nat.le_trans h.size k.size, fun i o h1 h2 h3 => k.block i o h1 (h.block i o h1 h2 h3) h3⟩
theorem KZ.of_below {X : Nat} {A B : World} (h : Below A.heap.size A B) : KZ X A B := ⟨h.size, fun k o _ h2 _ => by
  have hk : k < A.heap.size := (Array.getElem?_eq_some_iff.1 h2).1
  exact (h.block k hk).trans h2⟩
theorem KZ.putObj {X : Nat} (W : World) (l : Nat) (o o' : Obj) (h : W.heap[l]? = some o) (hc : o.isCells = false) : KZ X W (W.putObj l o') := by
  refine ⟨by simp, fun k q _ h2 h3 => ?_⟩
  by_cases e : k = l
  · subst e; rw [h] at h2; cases h2; rw [hc] at h3; cases h3
  · exact (World.putObj_heap_other e).trans h2
theorem KZ.setCell {X : Nat} (W : World) (p : Addr) (hp : p.block = X) (v : Value) : KZ X W (W.setCell p v) :=
  ⟨by simp, fun k o h1 h2 _ => (heap_setCell_other W p k v (by omega)).trans h2⟩
theorem Bk.kz {X : Nat} {A B : World} {g : Nat} {t : TypeId} {cs : Array Value} (h : Bk A g t cs) (k : KZ X A B) (hg : g ≠ X) : Bk B g t cs := k.block g _ hg h rfl

/-- The fine values of the example. -/
abbrev Fv := { x : Nat // x = 1183580160 ∨ x = 1183842304 }
def fvL : List Nat := [1183580160, 1183842304, 1183580160]
theorem f12Info : (Try.prog.info? 169).map (·.size) = some 12 := by kernel_rfl
set_option maxRecDepth 100000 in
theorem fineValues_any (A : Option Addr) (c : Nat) (w : World) :
    Calls Try.prog 136 #[.slice A 2 c] w fun e w' => e = .returned (.func (.func 147) #[] #[.pointer (some ⟨w.heap.size, 0, none⟩), .pointer (some ⟨w.heap.size + 1, 0, none⟩)]) ∧ (w.alloc (.cells #[.slice A 2 c] 43)).alloc (.cells #[.float .f32 3235905536, .float .f32 1121058816, .float .f32 1108082688, .float .f32 3231711232, .float .f32 3238002688, .float .f32 1116733440, .float .f32 1116733440, .float .f32 3238002688, .float .f32 3231711232, .float .f32 1108082688, .float .f32 1121058816, .float .f32 3235905536] 169) = w' := by
  have HZ : Hid (Bk ((w.alloc (.cells #[.slice A 2 c] 43)).alloc (.cells #[.float .f32 0, .float .f32 0, .float .f32 0, .float .f32 0, .float .f32 0, .float .f32 0, .float .f32 0, .float .f32 0, .float .f32 0, .float .f32 0, .float .f32 0, .float .f32 0] 169)) (w.heap.size + 1) 169 #[.float .f32 0, .float .f32 0, .float .f32 0, .float .f32 0, .float .f32 0, .float .f32 0, .float .f32 0, .float .f32 0, .float .f32 0, .float .f32 0, .float .f32 0, .float .f32 0]) := by
    have h := Bk.new (w.alloc (.cells #[.slice A 2 c] 43)) 169 #[.float .f32 0, .float .f32 0, .float .f32 0, .float .f32 0, .float .f32 0, .float .f32 0, .float .f32 0, .float .f32 0, .float .f32 0, .float .f32 0, .float .f32 0, .float .f32 0]
    rwa [World.size_alloc] at h
  have HS : Hid (∀ cs, ((w.alloc (.cells #[.slice A 2 c] 43)).alloc (.cells #[.float .f32 0, .float .f32 0, .float .f32 0, .float .f32 0, .float .f32 0, .float .f32 0, .float .f32 0, .float .f32 0, .float .f32 0, .float .f32 0, .float .f32 0, .float .f32 0] 169)).setRow (w.heap.size + 1) cs = (w.alloc (.cells #[.slice A 2 c] 43)).alloc (.cells cs 169)) := by
    intro cs
    have h := World.setRow_alloc_new (w.alloc (.cells #[.slice A 2 c] 43)) #[.float .f32 0, .float .f32 0, .float .f32 0, .float .f32 0, .float .f32 0, .float .f32 0, .float .f32 0, .float .f32 0, .float .f32 0, .float .f32 0, .float .f32 0, .float .f32 0] cs 169
    rwa [World.size_alloc] at h
  have HI : Hid ((Try.prog.info? 169).map (·.size) = some (#[.float .f32 3235905536, .float .f32 1121058816, .float .f32 1108082688, .float .f32 3231711232, .float .f32 3238002688, .float .f32 1116733440, .float .f32 1116733440, .float .f32 3238002688, .float .f32 3231711232, .float .f32 1108082688, .float .f32 1121058816, .float .f32 3235905536] : Array Value).size) := f12Info
  have HSz : Hid ((#[.float .f32 0, .float .f32 0, .float .f32 0, .float .f32 0, .float .f32 0, .float .f32 0, .float .f32 0, .float .f32 0, .float .f32 0, .float .f32 0, .float .f32 0, .float .f32 0] : Array Value).size = (#[.float .f32 3235905536, .float .f32 1121058816, .float .f32 1108082688, .float .f32 3231711232, .float .f32 3238002688, .float .f32 1116733440, .float .f32 1116733440, .float .f32 3238002688, .float .f32 3231711232, .float .f32 1108082688, .float .f32 1121058816, .float .f32 3235905536] : Array Value).size ∧ True) := ⟨rfl, trivial⟩
  have HO : Hid ((#[.float .f32 3235905536, .float .f32 1121058816, .float .f32 1108082688, .float .f32 3231711232, .float .f32 3238002688, .float .f32 1116733440, .float .f32 1116733440, .float .f32 3238002688, .float .f32 3231711232, .float .f32 1108082688, .float .f32 1121058816, .float .f32 3235905536] : Array Value).all (·.oneCell') = true) := by show _ = _; simp [Value.oneCell']
  go_enter Try.func136, Try.ntmps136
  go_wp2_with (with_reducible refine wpList_store_row rfl 169 (.tmp 3) (.tmp 7) rfl (w.heap.size + 1) #[.float .f32 3235905536, .float .f32 1121058816, .float .f32 1108082688, .float .f32 3231711232, .float .f32 3238002688, .float .f32 1116733440, .float .f32 1116733440, .float .f32 3238002688, .float .f32 3231711232, .float .f32 1108082688, .float .f32 1121058816, .float .f32 3235905536] rfl rfl 169 #[.float .f32 0, .float .f32 0, .float .f32 0, .float .f32 0, .float .f32 0, .float .f32 0, .float .f32 0, .float .f32 0, .float .f32 0, .float .f32 0, .float .f32 0, .float .f32 0] HZ.out.heap HI.out HSz.out.1 HO.out ?_)
  rw [HS.out]
  go_wp2
  go_ret
  first | exact ⟨rfl, rfl⟩ | (refine ⟨?_, rfl⟩; simp)

end Go.Proofs.Ytccoflhoggpgoaa

namespace Go.Proofs.Ytccoflhoggpgoaa
open Go.RowKit

open Go.Shelf
attribute [local go_sem] Oper.semAt_some run_store_float

def wAll : Array Value := #[.float .f32 3235905536, .float .f32 1121058816, .float .f32 1108082688, .float .f32 3231711232, .float .f32 3238002688, .float .f32 1116733440, .float .f32 1116733440, .float .f32 3238002688, .float .f32 3231711232, .float .f32 1108082688, .float .f32 1121058816, .float .f32 3235905536]
theorem wAll_cells {W : World} {g : Nat} (h : Bk W g 169 #[.float .f32 3235905536, .float .f32 1121058816, .float .f32 1108082688, .float .f32 3231711232, .float .f32 3238002688, .float .f32 1116733440, .float .f32 1116733440, .float .f32 3238002688, .float .f32 3231711232, .float .f32 1108082688, .float .f32 1121058816, .float .f32 3235905536]) : W.cell? ⟨g, 0, none⟩ = some (.float .f32 3235905536) ∧ W.cell? ⟨g, 1, none⟩ = some (.float .f32 1121058816) ∧ W.cell? ⟨g, 2, none⟩ = some (.float .f32 1108082688) ∧ W.cell? ⟨g, 3, none⟩ = some (.float .f32 3231711232) ∧ W.cell? ⟨g, 4, none⟩ = some (.float .f32 3238002688) ∧ W.cell? ⟨g, 5, none⟩ = some (.float .f32 1116733440) ∧ W.cell? ⟨g, 6, none⟩ = some (.float .f32 1116733440) ∧ W.cell? ⟨g, 7, none⟩ = some (.float .f32 3238002688) ∧ W.cell? ⟨g, 8, none⟩ = some (.float .f32 3231711232) ∧ W.cell? ⟨g, 9, none⟩ = some (.float .f32 1108082688) ∧ W.cell? ⟨g, 10, none⟩ = some (.float .f32 1121058816) ∧ W.cell? ⟨g, 11, none⟩ = some (.float .f32 3235905536) :=
  ⟨by rw [h.cell]; rfl, by rw [h.cell]; rfl, by rw [h.cell]; rfl, by rw [h.cell]; rfl, by rw [h.cell]; rfl, by rw [h.cell]; rfl, by rw [h.cell]; rfl, by rw [h.cell]; rfl, by rw [h.cell]; rfl, by rw [h.cell]; rfl, by rw [h.cell]; rfl, by rw [h.cell]; rfl⟩
theorem pre_take {pre : List Nat} {x : Nat} {k : Nat} (h : pre = fvL.take k) (hk : k < 3) (hx : x = fvL.getD k 0) : pre ++ [x] = fvL.take (k + 1) ∧ pre ++ [x] <+: fvL := by
  subst h hx
  rcases (by omega : k = 0 ∨ k = 1 ∨ k = 2) with rfl | rfl | rfl
  · exact ⟨rfl, [1183842304, 1183580160], rfl⟩
  · exact ⟨rfl, [1183580160], rfl⟩
  · exact ⟨rfl, [], rfl⟩

set_option maxRecDepth 100000 in
set_option maxHeartbeats 8000000 in
theorem fine1_in (nf : Nat) (hn : 1 ≤ nf) (l gx gw X g c : Nat) (w0 : World) (hgx : Bk w0 gx 43 #[.slice (some ⟨g, 0, none⟩) 2 c]) (hgw : Bk w0 gw 169 #[.float .f32 3235905536, .float .f32 1121058816, .float .f32 1108082688, .float .f32 3231711232, .float .f32 3238002688, .float .f32 1116733440, .float .f32 1116733440, .float .f32 3238002688, .float .f32 3231711232, .float .f32 1108082688, .float .f32 1121058816, .float .f32 3235905536]) (hg : Bk w0 g 3 #[.int .i64 128, .int .i64 128]) (n1 : gx ≠ X) (n2 : gw ≠ X) (n3 : g ≠ X) (hXl : X < w0.heap.size) (J Jx : List Nat → World → Prop)
    (hY : ∀ pre (x : Nat) W, J pre W → pre ++ [x] <+: fvL → YieldAt Fence.wide (nf - 1) Try.prog l #[.float .f32 x] W fun e W' =>
      (e = .returned (.bool true) ∧ J (pre ++ [x]) W' ∧ KZ X W W') ∨ (e = .returned (.bool false) ∧ Jx (pre ++ [x]) W'))
    (hd : ∀ pre W W', J pre W → Below W.heap.size W W' → J pre W')
    (W : World) (hW : KZ X w0 W) (h0 : J [] W) :
    CallsIn Fence.wide nf Try.prog 147 #[.func (.yield l) #[] #[], .pointer (some ⟨gx, 0, none⟩), .pointer (some ⟨gw, 0, none⟩)] W fun e W' => (∃ v, e = .returned v) ∧
      ((∃ ys, ys = fvL ∧ J ys W') ∨ (∃ pre, pre <+: fvL ∧ Jx pre W')) := by
  have HY := Lib.hid hY
  have HD := Lib.hid hd
  have HX := Lib.hid hgx
  have HG := Lib.hid hg
  have HGW := Lib.hid hgw
  have HW := Lib.hid hW
  have H0 := Lib.hid h0
  clear hY hd hgx hg hgw hW h0
  refine callsIn_of_wp Try.func147 rfl trivial ?_ rfl
  simp only [Try.ntmps147, List.size_toArray, List.length_cons, List.length_nil, Nat.reduceAdd, Nat.reduceSub, Array.replicate_succ, Array.replicate_zero, List.push_toArray, List.append_toArray, List.nil_append, List.cons_append]
  have hc0 := (bk1 (HX.out.kz HW.out n1)).1
  gi_wp2
  clear hc0
  gi_loopw [11] (fun i wr => ∃ k : Nat, k ≤ 1 ∧ i = .int .i64 (k : Int) ∧ J (if k = 0 then [] else fvL) wr ∧ Hid (KZ X w0 wr)) (fun i _ => (1 - (intOf i).toNat))
  case atStart => exact ⟨0, by omega, rfl, H0.out, HW⟩
  case round =>
    obtain ⟨k, hk, rfl, hJ, HB⟩ := hrel
    rcases (by omega : k = 0 ∨ k = 1) with rfl | rfl
    · rw [if_pos rfl] at hJ
      have HJ := Lib.hid hJ
      clear hJ
      have hc0 := (bk1 (HX.out.kz HB.out n1)).1
      obtain ⟨x0, x1⟩ := bkf2 (HG.out.kz HB.out n3)
      have S0 := Lib.hid (fun W => sampleAt_lo (some ⟨g, 0, none⟩) c W)
      have S1 := Lib.hid (fun W h => sampleAt_0 g c W h)
      have S2 := Lib.hid (fun W h => sampleAt_1 g c W h)
      have S3 := Lib.hid (fun W => sampleAt_hi (some ⟨g, 0, none⟩) c W)
      have T0 : Hid (∀ W, Calls Try.prog 148 #[.slice (some ⟨g, 0, none⟩) 2 c, .int .i64 (IntKind.i64.wrap (-1))] W fun e w' => e = .returned (.float .f32 0) ∧ W = w') := fun W => S0.out W
      have T2 : Hid (∀ W, W.cell? ⟨g, 1, none⟩ = some (.int .i64 128) → Calls Try.prog 148 #[.slice (some ⟨g, 0, none⟩) 2 c, .int .i64 (IntKind.i64.wrap 1)] W fun e w' => e = .returned (.float .f32 1124073472) ∧ W = w') := fun W => S2.out W
      have T3 : Hid (∀ W, Calls Try.prog 148 #[.slice (some ⟨g, 0, none⟩) 2 c, .int .i64 (IntKind.i64.wrap 2)] W fun e w' => e = .returned (.float .f32 0) ∧ W = w') := fun W => S3.out W
      have hlx := (HX.out.kz HB.out n1).lt
      have hlg := (HG.out.kz HB.out n3).lt
      have HC : Hid (∀ W, Below wr.heap.size wr W → W.cell? ⟨gx, 0, none⟩ = some (.slice (some ⟨g, 0, none⟩) 2 c) ∧ W.cell? ⟨g, 0, none⟩ = some (.int .i64 128) ∧ W.cell? ⟨g, 1, none⟩ = some (.int .i64 128)) := fun W hb => ⟨(hb.cell (p := ⟨gx, 0, none⟩) hlx).trans hc0, (hb.cell (p := ⟨g, 0, none⟩) hlg).trans x0, (hb.cell (p := ⟨g, 1, none⟩) hlg).trans x1⟩
      clear x0 x1
      have KA : Bk ((wr.alloc (.cells #[.float .f32 0, .float .f32 0, .float .f32 0, .float .f32 0] 168)).drew) wr.heap.size 168 #[.float .f32 0, .float .f32 0, .float .f32 0, .float .f32 0] := (Bk.new wr 168 #[.float .f32 0, .float .f32 0, .float .f32 0, .float .f32 0]).drew
      obtain ⟨a0, a1, a2, a3, b0, b1, b2, b3⟩ := bk4 KA
      gi_wp2
      refine wpIn_wide.2 ?_
      go_region_held3 (fun w' : World => (w'.cell? ⟨gx, 0, none⟩ = some (.slice (some ⟨g, 0, none⟩) 2 c) ∧ w'.cell? ⟨g, 0, none⟩ = some (.int .i64 128) ∧ w'.cell? ⟨g, 1, none⟩ = some (.int .i64 128)) ∧ Below wr.heap.size wr w') ((refine (fun hI => ⟨HC.out _ hI, hI⟩) ?_; first | assumption | (go_split_ands; assumption) | (go_split_ands; go_grown))) (first
        | (go_at_call 148; ((with_reducible refine (S0.out _).mono ?_)); rintro e w' ⟨rfl, rfl⟩)
        | (go_at_call 148; ((with_reducible refine (S1.out _ ?_).mono ?_)); (focus (go_split_ands; assumption)); rintro e w' ⟨rfl, rfl⟩)
        | (go_at_call 148; ((with_reducible refine (S2.out _ ?_).mono ?_)); (focus (go_split_ands; assumption)); rintro e w' ⟨rfl, rfl⟩)
        | (go_at_call 148; ((with_reducible refine (T0.out _).mono ?_)); rintro e w' ⟨rfl, rfl⟩)
        | (go_at_call 148; ((with_reducible refine (T2.out _ ?_).mono ?_)); (focus (go_split_ands; assumption)); rintro e w' ⟨rfl, rfl⟩)
        | (go_at_call 148; ((with_reducible refine (T3.out _).mono ?_)); rintro e w' ⟨rfl, rfl⟩)
        | (go_at_call 148; ((with_reducible refine (S3.out _).mono ?_)); rintro e w' ⟨rfl, rfl⟩))
      all_goals
        obtain ⟨gA, hgA⟩ : ∃ b, wr.heap.size = b := ⟨_, rfl⟩
        have K5 : Hid (Bk ((wr.alloc (.cells #[.float .f32 0, .float .f32 1124073472, .float .f32 1124073472, .float .f32 0] 168)).drew) gA 168 #[.float .f32 0, .float .f32 1124073472, .float .f32 1124073472, .float .f32 0]) := by
          show Bk _ _ _ _
          rw [← hgA]
          exact (Bk.new wr 168 #[.float .f32 0, .float .f32 1124073472, .float .f32 1124073472, .float .f32 0]).drew
        have B5 : Below wr.heap.size wr ((wr.alloc (.cells #[.float .f32 0, .float .f32 1124073472, .float .f32 1124073472, .float .f32 0] 168)).drew) := ((Below.refl _ _).alloc (Nat.le_refl _) _).drew
        have Z5 := Lib.hid (HB.out.trans (KZ.of_below B5))
        have J5 := Lib.hid (HD.out _ _ _ HJ.out B5)
        have hXA : gA ≠ X := by have := HB.out.size; omega
        obtain ⟨W5, hW5⟩ : ∃ W5, (wr.alloc (.cells #[.float .f32 0, .float .f32 1124073472, .float .f32 1124073472, .float .f32 0] 168)).drew = W5 := ⟨_, rfl⟩
        rw [hgA, hW5]
        rw [hW5] at K5 Z5 J5
        clear hW5 hgA B5 KA a0 a1 a2 a3 b0 b1 b2 b3 HC HJ
        obtain ⟨q0, q1, q2, q3, q4, q5, q6, q7, q8, q9, qa, qb⟩ := wAll_cells (HGW.out.kz Z5.out n2)
        gi_wp2
        clear q0 q1 q2 q3 q4 q5 q6 q7 q8 q9 qa qb
        gi_loopw [31] (fun i W => ∃ m : Nat, m ≤ 3 ∧ i = .int .i64 (m : Int) ∧ Hid (J (fvL.take m) W) ∧ Hid (KZ X w0 W) ∧ Hid (Bk W gA 168 #[.float .f32 0, .float .f32 1124073472, .float .f32 1124073472, .float .f32 0])) (fun i _ => (3 - (intOf i).toNat))
        case atStart => exact ⟨0, by omega, rfl, J5, Z5, K5⟩
        case round =>
          obtain ⟨m, hm, rfl, HJm, HZm, HKm⟩ := hrel
          rcases (by omega : m = 0 ∨ m = 1 ∨ m = 2 ∨ m = 3) with rfl | rfl | rfl | rfl
          · have hidx : ∀ W, (Instr.index 169 (.agg #[.float .f32 3235905536, .float .f32 1121058816, .float .f32 1108082688, .float .f32 3231711232, .float .f32 3238002688, .float .f32 1116733440, .float .f32 1116733440, .float .f32 3238002688, .float .f32 3231711232, .float .f32 1108082688, .float .f32 1121058816, .float .f32 3235905536]) (.int .i64 0)).run Try.prog W = .ok (.agg #[.float .f32 3235905536, .float .f32 1121058816, .float .f32 1108082688, .float .f32 3231711232]) W := fun _ => by kernel_rfl
            obtain ⟨r0, r1, r2, r3, _⟩ := bk4 (HKm.out.alloc (.cells #[.float .f32 3235905536, .float .f32 1121058816, .float .f32 1108082688, .float .f32 3231711232] 168))
            gi_wp2_with fail
            refine ⟨trivial, ?_⟩
            refine (callsIn_wide.2 (weighted0_any _)).mono ?_
            rintro e w7 ⟨rfl, hb7⟩
            have HB7 : Hid (Below wr.heap.size wr w7) := ((Below.refl _ _).alloc (Nat.le_refl _) _).trans (hb7.mono (by simp))
            have J7 := HD.out _ _ _ HJm.out HB7.out
            have Z7 := Lib.hid (HZm.out.trans (KZ.of_below HB7.out))
            have K7 := Lib.hid (HKm.out.later HB7.out)
            obtain ⟨fn, tmps, assign, body, hy, hR⟩ := HY.out _ 1183580160 w7 J7 ⟨fvL.drop 1, rfl⟩
            have HRB := Lib.hid (hR.mono (R' := fun e W' => ∃ b : Bool, e = .returned (.bool b) ∧ ((b = true ∧ J (fvL.take 1) W' ∧ KZ X w7 W') ∨ (b = false ∧ Jx (fvL.take 1) W'))) (by
              rintro e W' (⟨rfl, h1, h2⟩ | ⟨rfl, h1⟩)
              · exact ⟨true, rfl, .inl ⟨rfl, h1, h2⟩⟩
              · exact ⟨false, rfl, .inr ⟨rfl, h1⟩⟩))
            clear hR r0 r1 r2 r3 hb7 J7
            gi_wp2_with fail
            refine HRB.out.mono ?_
            rintro e W3 ⟨bb, rfl, hbb⟩
            rcases hbb with ⟨rfl, hJ3, hk3⟩ | ⟨rfl, hJx3⟩
            · gi_wp2
              go_roundw
              case rel => exact ⟨1, by omega, rfl, hJ3, Z7.out.trans hk3, K7.out.kz hk3 hXA⟩
              case measure => decide
            · gi_wp2
              refine bodyPost_ret (results_none rfl _ _ _) rfl ?_
              exact ⟨⟨_, rfl⟩, .inr ⟨_, ⟨fvL.drop 1, rfl⟩, hJx3⟩⟩
          · have hidx : ∀ W, (Instr.index 169 (.agg #[.float .f32 3235905536, .float .f32 1121058816, .float .f32 1108082688, .float .f32 3231711232, .float .f32 3238002688, .float .f32 1116733440, .float .f32 1116733440, .float .f32 3238002688, .float .f32 3231711232, .float .f32 1108082688, .float .f32 1121058816, .float .f32 3235905536]) (.int .i64 1)).run Try.prog W = .ok (.agg #[.float .f32 3238002688, .float .f32 1116733440, .float .f32 1116733440, .float .f32 3238002688]) W := fun _ => by kernel_rfl
            obtain ⟨r0, r1, r2, r3, _⟩ := bk4 (HKm.out.alloc (.cells #[.float .f32 3238002688, .float .f32 1116733440, .float .f32 1116733440, .float .f32 3238002688] 168))
            gi_wp2_with fail
            refine ⟨trivial, ?_⟩
            refine (callsIn_wide.2 (weighted1_any _)).mono ?_
            rintro e w7 ⟨rfl, hb7⟩
            have HB7 : Hid (Below wr.heap.size wr w7) := ((Below.refl _ _).alloc (Nat.le_refl _) _).trans (hb7.mono (by simp))
            have J7 := HD.out _ _ _ HJm.out HB7.out
            have Z7 := Lib.hid (HZm.out.trans (KZ.of_below HB7.out))
            have K7 := Lib.hid (HKm.out.later HB7.out)
            obtain ⟨fn, tmps, assign, body, hy, hR⟩ := HY.out _ 1183842304 w7 J7 ⟨fvL.drop 2, rfl⟩
            have HRB := Lib.hid (hR.mono (R' := fun e W' => ∃ b : Bool, e = .returned (.bool b) ∧ ((b = true ∧ J (fvL.take 2) W' ∧ KZ X w7 W') ∨ (b = false ∧ Jx (fvL.take 2) W'))) (by
              rintro e W' (⟨rfl, h1, h2⟩ | ⟨rfl, h1⟩)
              · exact ⟨true, rfl, .inl ⟨rfl, h1, h2⟩⟩
              · exact ⟨false, rfl, .inr ⟨rfl, h1⟩⟩))
            clear hR r0 r1 r2 r3 hb7 J7
            gi_wp2_with fail
            refine HRB.out.mono ?_
            rintro e W3 ⟨bb, rfl, hbb⟩
            rcases hbb with ⟨rfl, hJ3, hk3⟩ | ⟨rfl, hJx3⟩
            · gi_wp2
              go_roundw
              case rel => exact ⟨2, by omega, rfl, hJ3, Z7.out.trans hk3, K7.out.kz hk3 hXA⟩
              case measure => decide
            · gi_wp2
              refine bodyPost_ret (results_none rfl _ _ _) rfl ?_
              exact ⟨⟨_, rfl⟩, .inr ⟨_, ⟨fvL.drop 2, rfl⟩, hJx3⟩⟩
          · have hidx : ∀ W, (Instr.index 169 (.agg #[.float .f32 3235905536, .float .f32 1121058816, .float .f32 1108082688, .float .f32 3231711232, .float .f32 3238002688, .float .f32 1116733440, .float .f32 1116733440, .float .f32 3238002688, .float .f32 3231711232, .float .f32 1108082688, .float .f32 1121058816, .float .f32 3235905536]) (.int .i64 2)).run Try.prog W = .ok (.agg #[.float .f32 3231711232, .float .f32 1108082688, .float .f32 1121058816, .float .f32 3235905536]) W := fun _ => by kernel_rfl
            obtain ⟨r0, r1, r2, r3, _⟩ := bk4 (HKm.out.alloc (.cells #[.float .f32 3231711232, .float .f32 1108082688, .float .f32 1121058816, .float .f32 3235905536] 168))
            gi_wp2_with fail
            refine ⟨trivial, ?_⟩
            refine (callsIn_wide.2 (weighted2_any _)).mono ?_
            rintro e w7 ⟨rfl, hb7⟩
            have HB7 : Hid (Below wr.heap.size wr w7) := ((Below.refl _ _).alloc (Nat.le_refl _) _).trans (hb7.mono (by simp))
            have J7 := HD.out _ _ _ HJm.out HB7.out
            have Z7 := Lib.hid (HZm.out.trans (KZ.of_below HB7.out))
            have K7 := Lib.hid (HKm.out.later HB7.out)
            obtain ⟨fn, tmps, assign, body, hy, hR⟩ := HY.out _ 1183580160 w7 J7 ⟨fvL.drop 3, rfl⟩
            have HRB := Lib.hid (hR.mono (R' := fun e W' => ∃ b : Bool, e = .returned (.bool b) ∧ ((b = true ∧ J (fvL.take 3) W' ∧ KZ X w7 W') ∨ (b = false ∧ Jx (fvL.take 3) W'))) (by
              rintro e W' (⟨rfl, h1, h2⟩ | ⟨rfl, h1⟩)
              · exact ⟨true, rfl, .inl ⟨rfl, h1, h2⟩⟩
              · exact ⟨false, rfl, .inr ⟨rfl, h1⟩⟩))
            clear hR r0 r1 r2 r3 hb7 J7
            gi_wp2_with fail
            refine HRB.out.mono ?_
            rintro e W3 ⟨bb, rfl, hbb⟩
            rcases hbb with ⟨rfl, hJ3, hk3⟩ | ⟨rfl, hJx3⟩
            · gi_wp2
              go_roundw
              case rel => exact ⟨3, by omega, rfl, hJ3, Z7.out.trans hk3, K7.out.kz hk3 hXA⟩
              case measure => decide
            · gi_wp2
              refine bodyPost_ret (results_none rfl _ _ _) rfl ?_
              exact ⟨⟨_, rfl⟩, .inr ⟨_, ⟨fvL.drop 3, rfl⟩, hJx3⟩⟩
          · gi_wp2
            go_roundw
            case rel => exact ⟨1, by omega, rfl, HJm.out, HZm⟩
            case measure => decide
    · have HJ := Lib.hid hJ
      gi_wp2
      go_end0
      exact ⟨⟨_, rfl⟩, .inl ⟨_, rfl, HJ.out⟩⟩

end Go.Proofs.Ytccoflhoggpgoaa

namespace Go.Proofs.Ytccoflhoggpgoaa
open Go.RowKit

open Go.Shelf
attribute [local go_sem] Oper.semAt_some run_store_float

theorem fine_stops (nf : Nat) (hn : 1 ≤ nf) (gx gw X g c : Nat) (w0 : World) (hgx : Bk w0 gx 43 #[.slice (some ⟨g, 0, none⟩) 2 c]) (hgw : Bk w0 gw 169 #[.float .f32 3235905536, .float .f32 1121058816, .float .f32 1108082688, .float .f32 3231711232, .float .f32 3238002688, .float .f32 1116733440, .float .f32 1116733440, .float .f32 3238002688, .float .f32 3231711232, .float .f32 1108082688, .float .f32 1121058816, .float .f32 3235905536]) (hg : Bk w0 g 3 #[.int .i64 128, .int .i64 128]) (n1 : gx ≠ X) (n2 : gw ≠ X) (n3 : g ≠ X) (hXl : X < w0.heap.size) :
    SeqStopsK Fence.wide nf Try.prog 147 #[.pointer (some ⟨gx, 0, none⟩), .pointer (some ⟨gw, 0, none⟩)] (fun x : Fv => #[Value.float .f32 x.1]) (KZ X) (fun ys => ys.map (·.1) = fvL) (fun pre => pre.map (·.1) <+: fvL) 3 w0 := fun l J Jx W hW hJ _ hY h0 => by
  refine (fine1_in nf hn l gx gw X g c w0 hgx hgw hg n1 n2 n3 hXl (fun pre W => ∃ q : List Fv, q.map (·.1) = pre ∧ J q W) (fun pre W => ∃ q : List Fv, q.map (·.1) = pre ∧ Jx q W) ?_ ?_ W (KZ.of_below hW) ⟨[], rfl, h0⟩).mono ?_
  · rintro pre x W1 ⟨q, rfl, hq⟩ hp
    have hx : x = 1183580160 ∨ x = 1183842304 := by
      have := hp.subset (show x ∈ q.map (·.1) ++ [x] by simp)
      simp [fvL] at this
      omega
    refine (hY q ⟨x, hx⟩ W1 hq (by have := hp.length_le; simp [fvL] at this; omega)).mono ?_
    rintro e W' (⟨he, hj, hk⟩ | ⟨he, hj⟩)
    · exact .inl ⟨he, ⟨_, by simp, hj⟩, hk⟩
    · exact .inr ⟨he, ⟨_, by simp, hj⟩⟩
  · rintro pre W1 W2 ⟨q, rfl, hq⟩ hb
    exact ⟨q, rfl, hJ _ _ _ none hq (grown_of_below hb) (fun r e => by cases e)⟩
  · rintro e W' ⟨hv, (⟨ys, rfl, q, hq, hj⟩ | ⟨pre, hp, q, rfl, hj⟩)⟩
    · exact ⟨hv, .inl ⟨q, hq, hj⟩⟩
    · exact ⟨hv, .inr ⟨q, hp, hj⟩⟩

/-- The greatest of them so far. -/
def pkF (pre : List Fv) : Nat := (pre.map (·.1)).foldl max 1182793728
theorem pkF_snoc (pre : List Fv) (x : Fv) : pkF (pre ++ [x]) = max (pkF pre) x.1 := by simp [pkF]
theorem pkF_cases : ∀ pre : List Fv, pkF pre = 1182793728 ∨ pkF pre = 1183580160 ∨ pkF pre = 1183842304 := by
  intro pre
  rcases List.eq_nil_or_concat pre with rfl | ⟨p, x, rfl⟩
  · exact .inl rfl
  · rw [List.concat_eq_append, pkF_snoc]
    have h := pkF_cases p
    have hx := x.2
    rcases h with h | h | h <;> rcases hx with hx | hx <;> simp [h, hx]
termination_by pre => pre.length
decreasing_by all_goals (subst_vars; simp)
theorem maxF (p x : Nat) (hp : p = 1182793728 ∨ p = 1183580160 ∨ p = 1183842304) (hx : x = 1183580160 ∨ x = 1183842304) : ∀ ts t W, (Builtin.max_ ts t #[.float .f32 p, .float .f32 x]).run Try.prog W = .ok (.float .f32 (max p x)) W := by
  intro ts t W
  rcases hp with rfl | rfl | rfl <;> rcases hx with rfl | rfl <;> kernel_rfl
theorem sizeFv (x : Nat) (hx : x = 1183580160 ∨ x = 1183842304) (w : World) : Calls Try.prog 135 #[.float .f32 x] w fun e w' => e = .returned (.float .f32 x) ∧ w = w' := by
  rcases hx with rfl | rfl
  · exact sizeF_17920 w
  · exact sizeF_18432 w
/-- What the loop over the fine values keeps. -/
structure PkI (w wL : World) (q : List Fv) (W : World) : Prop where
  box : Bk W w.heap.size 156 #[.float .f32 (pkF q)]
  bel : Below w.heap.size w W
  size : wL.heap.size ≤ W.heap.size
theorem PkI.own (w wL : World) (hB : w.heap.size ≤ wL.heap.size) : OwnFrom wL.heap.size (fun q W => PkI w wL q W) := by
  rintro s X Y row ⟨h1, h3, h4⟩ hg hr
  exact ⟨bk_grown h1 hg (fun r e => (hr r e).2), h3.grown hg (by omega) (fun k e => by have := (hr k e).1; omega), Nat.le_trans h4 hg.size⟩

set_option maxRecDepth 100000 in
set_option maxHeartbeats 8000000 in
theorem finePeak_ex (g c : Nat) (w : World) (hg : Bk w g 3 #[.int .i64 128, .int .i64 128]) :
    Calls Try.prog 112 #[.slice (some ⟨g, 0, none⟩) 2 c] w fun e w' => e = .returned (.int .i64 18432) ∧ Below w.heap.size w w' := by
  have hgl := hg.lt
  have HG := Lib.hid hg
  clear hg
  have hc128 := fun W => conv128 W
  have hmul : ∀ W, (binOp .mul 156 (.float .f32 1124073472) (.float .f32 1124073472)).run Try.prog W = .ok (.float .f32 1182793728) W := fun _ => by kernel_rfl
  have hm0 : ∀ ts t W, (Builtin.max_ ts t #[.float .f32 0, .float .f32 1182793728]).run Try.prog W = .ok (.float .f32 1182793728) W := fun _ _ _ => by kernel_rfl
  have hm1 : ∀ ts t W, (Builtin.max_ ts t #[.float .f32 1182793728, .float .f32 1182793728]).run Try.prog W = .ok (.float .f32 1182793728) W := fun _ _ _ => by kernel_rfl
  have hcb : ∀ W, (convert 156 3 (.float .f32 1183842304)).run Try.prog W = .ok (.int .i64 18432) W := fun _ => by kernel_rfl
  refine (callsIn_wide (n := 6)).1 ?_
  refine callsIn_of_wp_marks Try.func112 rfl trivial ?_ rfl
  simp only [Try.ntmps112, List.size_toArray, List.length_cons, List.length_nil, Nat.reduceAdd, Nat.reduceSub, Array.replicate_succ, Array.replicate_zero, List.push_toArray, List.append_toArray, List.nil_append, List.cons_append]
  refine wpIn_wide.2 ?_
  have K0 := Lib.hid (Bk.new w 156 #[.float .f32 0])
  have B0 := Lib.hid (below1 w (.cells #[.float .f32 0] 156))
  go_wp2
  go_loopw [9] (fun i wr => ∃ k : Nat, k ≤ 2 ∧ i = .int .i64 k ∧ Hid (Bk wr w.heap.size 156 #[.float .f32 (if k = 0 then 0 else 1182793728)]) ∧ Hid (Below w.heap.size w wr)) (fun i _ => 2 - (intOf i).toNat)
  case atStart => exact ⟨0, by omega, rfl, K0, B0⟩
  case round =>
    obtain ⟨k, hk, rfl, HK, HB⟩ := hrel
    clear K0 B0
    have hne : ¬ g = w.heap.size := by omega
    obtain ⟨x0, x1⟩ := bkf2 (HG.out.below HB.out hgl)
    rcases (by omega : k = 0 ∨ k = 1 ∨ k = 2) with rfl | rfl | rfl
    · have p0 : wr.cell? ⟨w.heap.size, 0, none⟩ = some (.float .f32 0) := by rw [HK.out.cell]; rfl
      have pf : wr.frozen? ⟨w.heap.size, 0, none⟩ = false := HK.out.frozen 0
      have hl0 : w.heap.size < wr.heap.size := HK.out.lt
      go_wp2
      go_still_tail 6, (by kernel_rfl)
      refine wpStill_step (fun K hK => ?_)
      go_simp
      refine ⟨_, (sizeF_128 _).mono (fun e w'' h => ⟨h.1, h.2.symm⟩), hK _ ?_⟩
      clear hK K
      repeat still_step
      refine wpStill_nil ?_
      change wpList _ _ _ _ _ wr.drew
      have p1 : wr.drew.cell? ⟨w.heap.size, 0, none⟩ = some (.float .f32 0) := p0
      have pf1 : wr.drew.frozen? ⟨w.heap.size, 0, none⟩ = false := pf
      have HKD := Lib.hid (HK.out.drew.set_ 0 (.float .f32 1182793728))
      have HBD := Lib.hid (HB.out.drew.setCell (p := ⟨w.heap.size, 0, none⟩) (Nat.le_refl _) (.float .f32 1182793728))
      obtain ⟨W5, hW5⟩ : ∃ W5, wr.drew = W5 := ⟨_, rfl⟩
      rw [hW5] at p1 pf1 HKD HBD ⊢
      clear hW5
      go_wp2
      go_roundw
      case rel => exact ⟨1, by omega, rfl, HKD, HBD⟩
      case measure => decide
    · have p0 : wr.cell? ⟨w.heap.size, 0, none⟩ = some (.float .f32 1182793728) := by rw [HK.out.cell]; rfl
      have pf : wr.frozen? ⟨w.heap.size, 0, none⟩ = false := HK.out.frozen 0
      have hl0 : w.heap.size < wr.heap.size := HK.out.lt
      go_wp2
      go_still_tail 6, (by kernel_rfl)
      refine wpStill_step (fun K hK => ?_)
      go_simp
      refine ⟨_, (sizeF_128 _).mono (fun e w'' h => ⟨h.1, h.2.symm⟩), hK _ ?_⟩
      clear hK K
      repeat still_step
      refine wpStill_nil ?_
      change wpList _ _ _ _ _ wr.drew
      have p1 : wr.drew.cell? ⟨w.heap.size, 0, none⟩ = some (.float .f32 1182793728) := p0
      have pf1 : wr.drew.frozen? ⟨w.heap.size, 0, none⟩ = false := pf
      have HKD := Lib.hid (HK.out.drew.set_ 0 (.float .f32 1182793728))
      have HBD := Lib.hid (HB.out.drew.setCell (p := ⟨w.heap.size, 0, none⟩) (Nat.le_refl _) (.float .f32 1182793728))
      obtain ⟨W5, hW5⟩ : ∃ W5, wr.drew = W5 := ⟨_, rfl⟩
      rw [hW5] at p1 pf1 HKD HBD ⊢
      clear hW5
      go_wp2
      go_roundw
      case rel => exact ⟨2, by omega, rfl, HKD, HBD⟩
      case measure => decide
    · have hl0 : w.heap.size < wr.heap.size := HK.out.lt
      go_wp2_with fail
      refine (fineValues_any _ c _).mono ?_
      rintro e w3 ⟨rfl, hw3⟩
      have HK3 : Hid (Bk w3 w.heap.size 156 #[.float .f32 (pkF [])]) := by show Bk _ _ _ _; rw [← hw3]; exact (HK.out.alloc _).alloc _
      have HB3 : Hid (Below w.heap.size w w3) := by show Below _ _ _; rw [← hw3]; exact (HB.out.alloc HB.out.size _).alloc (by have := HB.out.size; simp; omega) _
      have HX3 : Bk w3 wr.heap.size 43 #[.slice (some ⟨g, 0, none⟩) 2 c] := by rw [← hw3]; exact (Bk.new wr _ _).alloc _
      have HW3 : Bk w3 (wr.heap.size + 1) 169 #[.float .f32 3235905536, .float .f32 1121058816, .float .f32 1108082688, .float .f32 3231711232, .float .f32 3238002688, .float .f32 1116733440, .float .f32 1116733440, .float .f32 3238002688, .float .f32 3231711232, .float .f32 1108082688, .float .f32 1121058816, .float .f32 3235905536] := by
        rw [← hw3]
        have h := Bk.new (wr.alloc (.cells #[.slice (some ⟨g, 0, none⟩) 2 c] 43)) 169 #[.float .f32 3235905536, .float .f32 1121058816, .float .f32 1108082688, .float .f32 3231711232, .float .f32 3238002688, .float .f32 1116733440, .float .f32 1116733440, .float .f32 3238002688, .float .f32 3231711232, .float .f32 1108082688, .float .f32 1121058816, .float .f32 3235905536]
        rwa [World.size_alloc] at h
      have HG3 : Bk w3 g 3 #[.int .i64 128, .int .i64 128] := HG.out.below HB3.out hgl
      have hs3 : w3.heap.size = wr.heap.size + 2 := by rw [← hw3]; simp
      have hwl : w.heap.size ≤ wr.heap.size := HB.out.size
      clear hw3 HK HB x0 x1
      obtain ⟨gx, hgx⟩ : ∃ b, wr.heap.size = b := ⟨_, rfl⟩
      rw [hgx] at HX3 HW3 hs3 hl0 hwl ⊢
      clear hgx
      go_wp2_with fail
      refine (wpIn_wide (n := 6)).1 ?_
      refine wpIn_rangeFunc_one (α := Fv) rfl (by omega) (gf := 147) rfl trivial (enters_of Try.func147 (by kernel_rfl) rfl)
        (fun x => .float .f32 x.1) (fine_stops _ (by omega) gx (gx + 1) w.heap.size g c w3 HX3 HW3 HG3 (by omega) (by omega) hne (by omega))
        KZ.trans (fun W l o o' hl h1 h2 h3 => KZ.putObj W l o o' h1 h2) (Below.refl _ _) 6
        (fun pre W => PkI w w3 pre W)
        (fun _ _ _ => False)
        (fun s X Y row hs hg hr => PkI.own w w3 (by omega) s X Y row hs hg hr)
        (fun _ _ _ _ _ hs _ _ => hs)
        ⟨HK3.out, HB3.out, Nat.le_refl _⟩ ?assign ?body ?done ?stop
      case assign =>
        intro l x W K hK
        simp only [List.setIfInBounds_toArray, List.set_cons_zero, List.set_cons_succ] at hK ⊢
        gi_wp2
        exact hK
      case stop =>
        rintro D cc pre W _ _ hf _
        exact hf.elim
      case done =>
        rintro D ys W hD hys hI hK
        have hpk : pkF ys = 1183842304 := by unfold pkF; rw [hys]; rfl
        have hbx := hI.box
        rw [hpk] at hbx
        have hc := (bk1 hbx).1
        have HI := Lib.hid hI
        have HBX := Lib.hid hbx
        clear hI hbx hys hpk
        go_wp2
        refine ⟨by simp, .inl ⟨_, _, rfl, run_takeDeferred hK, ?_⟩⟩
        exact ⟨_, results_tmp rfl _ _ _, rfl, HI.out.bel.trans (belowK_b (n₀ := w.heap.size) (w := w3) (by omega) W D _ (.deferred none) hD hK rfl rfl)⟩
      case body =>
        rintro l pre ⟨x, hx⟩ W hI hlen
        have HSZ := Lib.hid (fun w => sizeFv x hx w)
        have hmx := maxF (pkF pre) x (pkF_cases pre) hx
        have HSN := Lib.hid (pkF_snoc pre ⟨x, hx⟩)
        have hbx := hI.box
        have HI := Lib.hid hI
        have hszW := hI.size
        clear hI
        dsimp only at HSN
        obtain ⟨p, hp⟩ : ∃ p, pkF pre = p := ⟨_, rfl⟩
        rw [hp] at hbx hmx HSN
        clear hp
        obtain ⟨m, hm⟩ : ∃ m, max p x = m := ⟨_, rfl⟩
        rw [hm] at hmx HSN
        clear hm
        have p0 : W.cell? ⟨w.heap.size, 0, none⟩ = some (.float .f32 p) := (bk1 hbx).1
        have pf : W.frozen? ⟨w.heap.size, 0, none⟩ = false := (bk1 hbx).2
        have HBX := Lib.hid hbx
        clear hbx
        simp only [List.setIfInBounds_toArray, List.set_cons_zero, List.set_cons_succ]
        gi_wp2
        gi_region_with (first
          | (refine ⟨trivial, ?_⟩; gi_at_call 135; refine (CallsIn.inRound l (callsIn_wide.2 (HSZ.out _))).mono ?_; rintro e w' ⟨rfl, rfl⟩))
        all_goals
          gi_wp2
          refine ⟨((KeepsOthers.setCell W ⟨w.heap.size, 0, none⟩ (.float .f32 m)).trans (KeepsOthers.drew _)).from _, (KZ.setCell W ⟨w.heap.size, 0, none⟩ rfl (.float .f32 m)).trans (KZ.of_below (Below.refl _ _).drew), ?_, ?_, ?_⟩
          · show Bk _ _ _ _
            rw [HSN.out]
            exact (HBX.out.set_ 0 (.float .f32 m)).drew
          · exact (HI.out.bel.setCell (p := ⟨w.heap.size, 0, none⟩) (Nat.le_refl _) _).drew
          · simpa using hszW

set_option maxRecDepth 100000 in
set_option maxHeartbeats 2000000 in
theorem TruePeak_ex (g c : Nat) (w : World) (hg : Bk w g 3 #[.int .i64 128, .int .i64 128]) :
    Calls Try.prog 59 #[.slice (some ⟨g, 0, none⟩) 2 c] w fun e w' => e = .returned (.tuple #[.agg #[.int .i64 144, .int .i64 1], .int .i64 0]) ∧ Below w.heap.size w w' := by
  have hgl := hg.lt
  have hrd : RdI w (some ⟨g, 0, none⟩) 2 [128, 128] := rd_of_bk hg rfl
  have CS : Hid (∀ W, Below w.heap.size w W → Calls Try.prog 93 #[.slice (some ⟨g, 0, none⟩) 2 c] W fun e w' => e = .returned (.int .i64 0) ∧ Below W.heap.size W w') := fun W hb => by
    have h := checkSignal_any _ 2 c [128, 128] W (hrd.below hb) (by omega)
    rwa [show sgE [128, 128] = 0 by decide +kernel] at h
  have CP : Hid (∀ W, Below w.heap.size w W → Calls Try.prog 112 #[.slice (some ⟨g, 0, none⟩) 2 c] W fun e w' => e = .returned (.int .i64 18432) ∧ Below W.heap.size W w') := fun W hb => finePeak_ex g c W (hg.below hb hgl)
  have CF : Hid (∀ W, Calls Try.prog 87 #[.int .i64 18432, .int .i64 128] W fun e w' => e = .returned (.agg #[.int .i64 144, .int .i64 1]) ∧ Below W.heap.size W w') := fun W => by
    have h := fractionOf_any 18432 128 W (by omega) (by omega) (by omega) (by omega)
    rwa [show fN 18432 128 = 144 by decide +kernel, show fD 18432 128 = 1 by decide +kernel] at h
  have R0 := Lib.hid (OneB.start w 23 #[.int .i64 0, .int .i64 0])
  clear hrd hg
  go_enter Try.func59, Try.ntmps59
  go_wp2_with fail
  refine (CS.out _ R0.out.b).mono ?_
  rintro e w1 ⟨rfl, hb1⟩
  have R1 := Lib.hid (OneB.later hb1 R0.out)
  clear hb1 R0
  go_wp2_with fail
  refine (CP.out _ R1.out.b).mono ?_
  rintro e w2 ⟨rfl, hb2⟩
  have R2 := Lib.hid (OneB.later hb2 R1.out)
  clear hb2 R1
  go_wp2_with fail
  refine (CF.out _).mono ?_
  rintro e w3 ⟨rfl, hb3⟩
  have R3 := OneB.later hb3 R2.out
  clear hb3 R2
  obtain ⟨e0, e1, k0, k1⟩ := bk2 R3.k
  go_wp2
  refine bodyPost_ret (v := .tuple #[.agg #[.int .i64 144, .int .i64 1], .int .i64 0]) (by simp [results, Try.results59, go_sem, e0, e1, k0, k1]) rfl ⟨rfl, ?_⟩
  have hbw := R3.b
  have hbz := hbw.size
  go_grown

end Go.Proofs.Ytccoflhoggpgoaa


namespace Go.Proofs.Ytccoflhoggpgoaa
open Go.RowKit

/-- The ways and their sum after so many steps from all right answers downwards. -/
def wS (t : Nat) : Nat → Int × Int
  | 0 => (1, 0)
  | j + 1 => ((wS t j).1 * ((t : Int) - j) / ((j : Int) + 1), (wS t j).2 + (wS t j).1)
/-- How many sequences have at least so many right answers. -/
def tW (t r : Nat) : Int := (wS t (t + 1 - r)).2
theorem wS_bd : ∀ t, t < 30 → ∀ j, j < 31 → (0 ≤ (wS t j).1 ∧ (wS t j).1 ≤ 1000000000) ∧ 0 ≤ (wS t j).2 ∧ (wS t j).2 ≤ 1000000000 := by decide +kernel
/-- A row of Pascal's triangle, and how it grows. -/
def pasN (l : List Int) : Nat → List Int
  | 0 => [1]
  | k + 1 => pasN l k ++ [l.getD k 0 + l.getD (k + 1) 0]
def pas : Nat → List Int
  | 0 => [1]
  | i + 1 => pasN (pas i) i ++ [1]
theorem pas_bd : ∀ i, i < 30 → ((pas i).length = i + 1) ∧ ∀ x ∈ pas i, 0 ≤ x ∧ x ≤ 1000000000 := by decide +kernel
theorem pasN_len (l : List Int) (k : Nat) : (pasN l k).length = k + 1 := by
  induction k with
  | zero => rfl
  | succ k ih => simp [pasN, ih]
def cS (t r : Nat) : Nat → Int
  | 0 => 0
  | j + 1 => cS t r j + (pas t).getD (r + j) 0
theorem cS_bd : ∀ t, t < 30 → ∀ r, r ≤ t → ∀ j, j ≤ t + 1 - r → 0 ≤ cS t r j ∧ cS t r j ≤ 1000000000 := by decide +kernel
theorem cS_tW : ∀ t, t < 30 → ∀ r, r ≤ t → cS t r (t + 1 - r) = tW t r := by decide +kernel
def p2 : Nat → Int
  | 0 => 1
  | i + 1 => 2 * p2 i
theorem p2_pow : ∀ i, i < 31 → p2 i = (2 : Int) ^ i ∧ 1 ≤ p2 i ∧ p2 i ≤ 1073741824 := by decide +kernel

end Go.Proofs.Ytccoflhoggpgoaa


namespace Go.Proofs.Ytccoflhoggpgoaa
open Go.RowKit

theorem wS_step (t j : Nat) : wS t (j + 1) = ((wS t j).1 * ((t : Int) - j) / ((j : Int) + 1), (wS t j).2 + (wS t j).1) := rfl

set_option maxRecDepth 100000 in
set_option maxHeartbeats 1000000 in
theorem waysFrom_any (t r : Nat) (ht : t < 30) (hr : r ≤ t) (w : World) :
    Calls Try.prog 88 #[.int .i64 t, .int .i64 r] w fun e w' => e = .returned (.int .i64 (tW t r)) ∧ ∃ n, w' = w.drewN n := by
  have HV : Hid (tW t r = (wS t (t + 1 - r)).2) := rfl
  obtain ⟨V, hV⟩ : ∃ V, tW t r = V := ⟨_, rfl⟩
  rw [hV] at HV ⊢
  clear hV
  go_enter Try.func88, Try.ntmps88
  go_wp2
  go_loopw [5, 6, 7] (fun x y i wr => ∃ (j : Nat) (κ : Int), j ≤ t + 1 - r ∧ i = .int .i64 κ ∧ Hid (κ = (t : Int) - j) ∧ x = .int .i64 (wS t j).1 ∧ y = .int .i64 (wS t j).2 ∧ Hid (∃ n, wr = w.drewN n)) (fun _ _ i _ => ((intOf i) + 1).toNat)
  case atStart => exact ⟨0, t, by omega, rfl, by show _ = _; omega, rfl, rfl, 0, rfl⟩
  case round =>
    obtain ⟨j, κ, hj, rfl, HK, rfl, rfl, HJ⟩ := hrel
    obtain ⟨⟨hx0, hx1⟩, hy0, hy1⟩ := wS_bd t ht j (by omega)
    have hκ := HK.out
    by_cases hlt : j < t + 1 - r
    · have HS := Lib.hid (wS_step t j)
      have hrκ : (r : Int) ≤ κ := by omega
      have hκ0 : 0 ≤ κ ∧ κ ≤ 29 := by omega
      obtain ⟨x, hx⟩ : ∃ x, (wS t j).1 = x := ⟨_, rfl⟩
      obtain ⟨y, hy⟩ : ∃ y, (wS t j).2 = y := ⟨_, rfl⟩
      rw [hx] at hx0 hx1 HS ⊢
      rw [hy] at hy0 hy1 HS ⊢
      have hmul := mulB (a := x) (b := κ) 1000000000 29 (by omega) (by omega) (by omega) (by omega) 29000000000 (by omega)
      have hm0 : 0 ≤ x * κ := Int.mul_nonneg hx0 hκ0.1
      rw [← hκ] at HS
      have w1 : IntKind.i64.wrap (x * κ) = x * κ := IntWalk.i64_in _ (by omega)
      have w2 : IntKind.i64.wrap ((t : Int) - κ) = (t : Int) - κ := IntWalk.i64_in _ (by omega)
      have w3 : IntKind.i64.wrap ((t : Int) - κ + 1) = (t : Int) - κ + 1 := IntWalk.i64_in _ (by omega)
      have w4 : IntKind.i64.wrap (y + x) = y + x := IntWalk.i64_in _ (by omega)
      have w5 : IntKind.i64.wrap (κ - 1) = κ - 1 := IntWalk.i64_in _ (by omega)
      have HD : Hid ((t : Int) - κ + 1 = (j : Int) + 1) := by show _ = _; omega
      obtain ⟨D, hD⟩ : ∃ D, (t : Int) - κ + 1 = D := ⟨_, rfl⟩
      rw [hD] at w3 HD
      have hD1 : 0 < D ∧ D ≤ 30 := by omega
      have hD0 : (D == 0) = false := by rw [beq_eq_false_iff_ne]; omega
      obtain ⟨p, hp⟩ : ∃ p, x * κ = p := ⟨_, rfl⟩
      rw [hp] at w1 hmul hm0 HS
      have hq0 := Int.ediv_nonneg (a := p) (b := D) (by omega) (by omega)
      have hq1 := Int.ediv_le_self (a := p) D (by omega)
      have HQ : Hid (wrap64 ((wrap64 (x * κ)).tdiv D) = p / D) := by
        show _ = _
        rw [hp, IntWalk.wrap64_in p ⟨by omega, by omega⟩, Int.tdiv_eq_ediv_of_nonneg (by omega)]
        exact IntWalk.wrap64_in _ ⟨by omega, by omega⟩
      clear hq0 hq1
      rw [← HD.out] at HS
      clear hx hy hp hκ
      go_wp2
      try go_quiet (fail)
      go_wp2
      go_roundw
      case rel =>
        refine ⟨j + 1, κ - 1, by omega, by first | rfl | go_num, by show _ = _; have := HK.out; omega, ?_, ?_, ?_⟩
        · rw [HS.out]
          first | exact congrArg _ HQ.out | (show Value.int .i64 _ = Value.int .i64 _; rw [HQ.out])
        · rw [HS.out]
        · obtain ⟨n, hn⟩ := HJ.out
          show ∃ _, _ = _
          first | exact ⟨n, hn⟩ | (rw [hn]; exact ⟨_, World.drewN_drewN _ _ _⟩)
      case measure => simp only [intOf]; omega
    · obtain rfl : t + 1 - r = j := by omega
      have hrκ : ¬ (r : Int) ≤ κ := by omega
      clear hκ
      rw [← HV.out] at hy0 hy1 ⊢
      go_wp2
      go_ret
      exact ⟨rfl, HJ.out⟩

end Go.Proofs.Ytccoflhoggpgoaa


namespace Go.Proofs.Ytccoflhoggpgoaa
open Go.RowKit

theorem checkTrials_any (n : Int) (w : World) :
    Calls Try.prog 85 #[.int .i64 n] w fun e w' => e = .returned (.int .i64 (rngE 0 29 [n])) ∧ Below w.heap.size w w' := by
  go_enter Try.func85, Try.ntmps85
  go_wp2_with (first | (go_at_call 86; refine (from_any _ _ _).mono ?_; rintro e w' ⟨rfl, rfl⟩) | (go_at_call 125; refine (from1_any n 0 29 _ _ _ ?_ ?_).mono ?_; (focus (simp [go_sem])); (focus (simp [go_sem])); rintro e w' ⟨rfl, rfl⟩))
  go_ret
  exact ⟨rfl, below2 _ _ _⟩

/-- The error of trials and right answers, and the tail. -/
def tlE (t r : Int) : Int := firstNZ [rngE 0 29 [t], rngE 0 t [r]]
def tlN (t r : Int) : Int := if tlE t r = 0 then fN (tW t.toNat r.toNat) (p2 t.toNat) else 0
def tlD (t r : Int) : Int := if tlE t r = 0 then fD (tW t.toNat r.toNat) (p2 t.toNat) else 0
theorem tlE_zero {t r : Int} (h : tlE t r = 0) : (0 ≤ t ∧ t ≤ 29) ∧ 0 ≤ r ∧ r ≤ t :=
  ⟨rngE_zero (firstNZ_zero h (rngE 0 29 [t]) (by simp)), rngE_zero (firstNZ_zero h (rngE 0 t [r]) (by simp))⟩
theorem tlE_two (t r : Int) : tlE t r = 0 ∨ tlE t r = 2 := by
  unfold tlE
  rw [firstNZ2]
  rcases rngE_01 0 29 [t] with h | h <;> rcases rngE_01 0 t [r] with k | k <;> simp [h, k]
theorem tW_bd : ∀ t, t < 30 → ∀ r, r ≤ t → 1 ≤ tW t r ∧ tW t r ≤ p2 t := by decide +kernel
theorem shl_p2 (t : Nat) (ht : t < 30) : IntKind.i64.wrap (2 ^ t) = p2 t := by
  have h := p2_pow t (by omega)
  rw [← h.1]
  exact IntWalk.i64_in _ (by omega)

set_option maxRecDepth 100000 in
set_option maxHeartbeats 2000000 in
theorem TailOf_any (t r : Int) (w : World) :
    Calls Try.prog 16 #[.int .i64 t, .int .i64 r] w fun e w' => e = .returned (.tuple #[.agg #[.int .i64 (tlN t r), .int .i64 (tlD t r)], .int .i64 (tlE t r)]) ∧ Below w.heap.size w w' := by
  have HE : Hid (firstNZ [rngE 0 29 [t], rngE 0 t [r]] = tlE t r) := rfl
  have CT := Lib.hid (fun w => checkTrials_any t w)
  have HZ : Hid (tlE t r = 0 → ∃ a b : Nat, t = a ∧ r = b ∧ a < 30 ∧ b ≤ a ∧ tlN t r = fN (tW a b) (p2 a) ∧ tlD t r = fD (tW a b) (p2 a)) := by
    intro h
    obtain ⟨h1, h2⟩ := tlE_zero h
    exact ⟨t.toNat, r.toNat, by omega, by omega, by omega, by omega, by unfold tlN; rw [if_pos h], by unfold tlD; rw [if_pos h]⟩
  have HNZ : Hid (¬ tlE t r = 0 → tlN t r = 0 ∧ tlD t r = 0) := fun h => ⟨by unfold tlN; rw [if_neg h], by unfold tlD; rw [if_neg h]⟩
  obtain ⟨E, hE⟩ : ∃ E, tlE t r = E := ⟨_, rfl⟩
  obtain ⟨N, hN⟩ : ∃ N, tlN t r = N := ⟨_, rfl⟩
  obtain ⟨D, hD⟩ : ∃ D, tlD t r = D := ⟨_, rfl⟩
  rw [hE] at HE HZ HNZ ⊢
  rw [hN] at HZ HNZ ⊢
  rw [hD] at HZ HNZ ⊢
  obtain ⟨E1, hE1⟩ : ∃ E1, rngE 0 29 [t] = E1 := ⟨_, rfl⟩
  rw [hE1] at HE CT
  clear hE hN hD hE1
  have K0 := Lib.hid (Bk.new w 23 #[.int .i64 0, .int .i64 0])
  have B0 := Lib.hid (below1 w (.cells #[.int .i64 0, .int .i64 0] 23))
  go_enter Try.func16, Try.ntmps16
  go_wp2_with fail
  refine (CT.out _).mono ?_
  rintro e w1 ⟨rfl, hb⟩
  have K1 := Lib.hid (K0.out.later hb)
  have B1 := Lib.hid (B0.out.trans (hb.mono B0.out.size))
  clear hb K0 B0
  go_wp2_with fail
  refine (from_any _ _ _).mono ?_
  rintro e w' ⟨rfl, rfl⟩
  go_wp2_with fail
  refine (from1_any r 0 t _ _ _ ?_ ?_).mono ?_
  · simp [go_sem]
  · simp [go_sem]
  rintro e w' ⟨rfl, rfl⟩
  go_wp2_with fail
  refine (firstError2 (E1 := E1) (E2 := rngE 0 t [r]) (F := E) HE.out _ _ ?_ ?_).mono ?_
  · simp [go_sem]
  · simp [go_sem]
  rintro e w' ⟨rfl, rfl⟩
  obtain ⟨E2, hE2⟩ : ∃ E2, rngE 0 t [r] = E2 := ⟨_, rfl⟩
  have K2 := Lib.hid (((K1.out.alloc (.cells #[.int .i64 0] 3)).alloc (.cells #[.int .i64 t] 3)).alloc (.cells #[.int .i64 E1, .int .i64 E2] 25))
  have B2 := Lib.hid (((B1.out.alloc B1.out.size (.cells #[.int .i64 0] 3)).alloc (B1.out.alloc B1.out.size _).size (.cells #[.int .i64 t] 3)).alloc ((B1.out.alloc B1.out.size _).alloc (B1.out.alloc B1.out.size _).size _).size (.cells #[.int .i64 E1, .int .i64 E2] 25))
  rw [hE2]
  obtain ⟨W3, hW3⟩ : ∃ W3, ((w1.alloc (.cells #[.int .i64 0] 3)).alloc (.cells #[.int .i64 t] 3)).alloc (.cells #[.int .i64 E1, .int .i64 E2] 25) = W3 := ⟨_, rfl⟩
  rw [hW3] at K2 B2 ⊢
  clear hW3 hE2 K1 B1
  have hI : FrB w w.heap.size W3 := ⟨⟨0, 0, K2.out⟩, B2.out⟩
  by_cases h0 : E = 0
  · subst h0
    obtain ⟨a, b, rfl, rfl, ha, hb, hN, hD⟩ := HZ.out rfl
    have hw := tW_bd a ha b hb
    have hp := p2_pow a (by omega)
    have CW : Hid (∀ w, Calls Try.prog 88 #[.int .i64 a, .int .i64 b] w fun e w' => e = .returned (.int .i64 (tW a b)) ∧ Below w.heap.size w w') := fun w => (waysFrom_any a b ha hb w).mono (by rintro e w' ⟨h, n, rfl⟩; exact ⟨h, blw_drewN (Below.refl _ _) n⟩)
    have CF := Lib.hid (fun w => fractionOf_any (tW a b) (p2 a) w (by omega) (by omega) (by omega) (by omega))
    have hs := shl_p2 a ha
    have ha0 : ¬ (a : Int) < 0 := by omega
    rw [← hN, ← hD] at CF
    obtain ⟨x, hx⟩ : ∃ x, tW a b = x := ⟨_, rfl⟩
    rw [hx] at CW CF
    rw [← hs] at CF
    clear hw hp HE HZ HNZ CT hx hs hN hD K2 B2
    go_wp2
    go_region_held3 (fun w' : World => FrB w w.heap.size w') (first | assumption | exact FrB.drew (by assumption) | exact FrB.set (by assumption) (Nat.le_refl _) _ _) (first
        | (go_at_call 88; ((with_reducible refine (CW.out _).mono ?_)); rintro e w3 ⟨rfl, hb3⟩; have hI3 := FrB.later hb3 (by assumption); clear hb3)
        | (go_at_call 87; ((with_reducible refine (CF.out _).mono ?_)); rintro e w3 ⟨rfl, hb3⟩; have hI3 := FrB.later hb3 (by assumption); clear hb3; obtain ⟨ra, rb, kr⟩ := hI3.res; have kq := bk2 kr; obtain ⟨e0, e1, k0, k1⟩ := kq))
    go_wp2
    have hIF := FrB.drew (FrB.set hI3 (Nat.le_refl _) N D)
    refine bodyPost_ret (v := .tuple #[.agg #[.int .i64 N, .int .i64 D], .int .i64 0]) (by simp [results, Try.results16, go_sem, e0, e1, k0, k1]) rfl ⟨rfl, ?_⟩
    first | exact hIF.bel | exact (FrB.set hI3 (Nat.le_refl _) _ _).bel
  · have h1 : (E == 0) = false := by rw [beq_eq_false_iff_ne]; exact h0
    have h2 : (E != 0) = true := by rw [bne_iff_ne]; exact h0
    obtain ⟨hN, hD⟩ := HNZ.out h0
    obtain ⟨e0, e1, k0, k1⟩ := bk2 K2.out
    clear HE HZ HNZ CT h0
    go_wp2
    refine bodyPost_ret (v := .tuple #[.agg #[.int .i64 0, .int .i64 0], .int .i64 E]) (by simp [results, Try.results16, go_sem, e0, e1, k0, k1]) rfl ⟨by rw [hN, hD], ?_⟩
    exact (hI.set (Nat.le_refl _) 0 0).bel

end Go.Proofs.Ytccoflhoggpgoaa


namespace Go.Proofs.Ytccoflhoggpgoaa
open Go.RowKit

/-- The error of a level. -/
def lvE (n d : Int) : Int := firstNZ [if lowB n d = true then 0 else 3, rngE 0 d [n], if 1000000000 < d then 2 else 0]
theorem lvE_zero {n d : Int} (h : lvE n d = 0) : lowB n d = true ∧ (0 ≤ n ∧ n ≤ d) ∧ 0 < d ∧ d ≤ 1000000000 := by
  have h1 := firstNZ_zero h (if lowB n d = true then 0 else 3) (by simp)
  have h2 := rngE_zero (firstNZ_zero h (rngE 0 d [n]) (by simp))
  have h3 := firstNZ_zero h (if 1000000000 < d then 2 else 0) (by simp)
  have h4 : lowB n d = true := by
    cases hl : lowB n d
    · rw [hl] at h1; simp at h1
    · rfl
  refine ⟨h4, h2, ?_, ?_⟩
  · unfold lowB at h4; simp at h4; exact h4.1
  · by_cases h5 : 1000000000 < d
    · rw [if_pos h5] at h3; cases h3
    · omega

set_option maxRecDepth 100000 in
set_option maxHeartbeats 2000000 in
theorem checkLevel_any (n d : Int) (w : World) (hn : -9223372036854775808 ≤ n ∧ n ≤ 9223372036854775807) (hd : -9223372036854775808 ≤ d ∧ d ≤ 9223372036854775807) :
    Calls Try.prog 89 #[.agg #[.int .i64 n, .int .i64 d]] w fun e w' => e = .returned (.int .i64 (lvE n d)) ∧ Below w.heap.size w w' := by
  have HE : Hid (firstNZ [if lowB n d = true then 0 else 3, rngE 0 d [n], if 1000000000 < d then 2 else 0] = lvE n d) := rfl
  have CL := Lib.hid (fun w => isLowest_any n d hn.1 hn.2 hd.2 w)
  obtain ⟨E, hE⟩ : ∃ E, lvE n d = E := ⟨_, rfl⟩
  rw [hE] at HE ⊢
  clear hE
  obtain ⟨lb, hlb⟩ : ∃ b, lowB n d = b := ⟨_, rfl⟩
  rw [hlb] at HE CL
  clear hlb
  obtain ⟨E2, hE2⟩ : ∃ E, rngE 0 d [n] = E := ⟨_, rfl⟩
  have C1 := Lib.hid (fun a b w ha hb => from1_any n 0 d a b w ha hb)
  rw [hE2] at HE C1
  clear hE2
  have HW1 : Hid (∀ w, Calls Try.prog 99 #[.bool (!lb), .int .i64 3] w fun e w' => e = .returned (.int .i64 (if lb = true then 0 else 3)) ∧ w = w') := fun w => (when_any (!lb) 3 w).mono (by rintro e w' ⟨rfl, rfl⟩; cases lb <;> exact ⟨rfl, rfl⟩)
  obtain ⟨E1, hE1⟩ : ∃ E : Int, (if lb = true then 0 else 3) = E := ⟨_, rfl⟩
  rw [hE1] at HE HW1
  clear hE1
  have R0 := OneB.start w 23 #[.int .i64 n, .int .i64 d]
  obtain ⟨E3, hE3⟩ : ∃ E : Int, (if 1000000000 < d then 2 else 0) = E := ⟨_, rfl⟩
  have HW3 : Hid (∀ w, Calls Try.prog 99 #[.bool (decide (1000000000 < d)), .int .i64 2] w fun e w' => e = .returned (.int .i64 E3) ∧ w = w') := fun w => (when_any (decide (1000000000 < d)) 2 w).mono (by rintro e w' ⟨rfl, rfl⟩; rw [← hE3]; exact ⟨by simp, rfl⟩)
  rw [hE3] at HE
  clear hE3
  go_enter Try.func89, Try.ntmps89
  go_wp2
  go_region_held3 (fun w' : World => (w'.cell? ⟨w.heap.size, 0, none⟩ = some (.int .i64 n) ∧ w'.cell? ⟨w.heap.size, 1, none⟩ = some (.int .i64 d)) ∧ OneB w w.heap.size 23 #[.int .i64 n, .int .i64 d] w') ((refine (fun hI => ⟨bkf2 hI.k, hI⟩) ?_; repeat (first | assumption | (go_split_ands; assumption) | refine OneB.alloc ?_ _ | refine OneB.drew ?_))) (first
    | (go_at_call 127; ((with_reducible refine (CL.out _).mono ?_)); rintro e w3 ⟨rfl, hb3⟩; have hI3 := OneB.later hb3 (by first | assumption | (go_split_ands; assumption)); clear hb3)
    | (go_at_call 99; ((with_reducible refine (HW1.out _).mono ?_)); rintro e w' ⟨rfl, rfl⟩)
    | (go_at_call 99; ((with_reducible refine (HW3.out _).mono ?_)); rintro e w' ⟨rfl, rfl⟩)
    | (go_at_call 86; ((with_reducible refine (from_any _ _ _).mono ?_)); rintro e w' ⟨rfl, rfl⟩)
    | (go_at_call 125; refine (C1.out _ _ _ ?_ ?_).mono ?_; (focus (simp [go_sem])); (focus (simp [go_sem])); rintro e w' ⟨rfl, rfl⟩)
    | (go_at_call 84; refine (firstError3 (E1 := E1) (E2 := E2) (E3 := E3) (F := E) HE.out _ _ ?_ ?_ ?_).mono ?_; (focus (simp [go_sem])); (focus (simp [go_sem])); (focus (simp [go_sem])); rintro e w' ⟨rfl, rfl⟩))
  all_goals
    go_wp2
    go_ret
    refine ⟨rfl, ?_⟩
    have hbw := hI3.b
    have hbz := hbw.size
    go_grown

end Go.Proofs.Ytccoflhoggpgoaa


namespace Go.Proofs.Ytccoflhoggpgoaa
open Go.RowKit

/-- Whether a number of right answers has a tail of at most a level. -/
def mrB (t : Nat) (n d : Int) (r : Nat) : Bool := decide (tW t r * d ≤ n * p2 t)
/-- The least such number, and the error. -/
def mrE (t n d : Int) : Int := firstNZ [rngE 0 29 [t], lvE n d]
def mrR (t n d : Int) : Int × Int :=
  if mrE t n d = 0 then (match (List.range (t.toNat + 1)).find? (mrB t.toNat n d) with | some r => ((r : Int), 0) | none => (0, 12)) else (0, mrE t n d)
theorem mrE_zero {t n d : Int} (h : mrE t n d = 0) : (0 ≤ t ∧ t ≤ 29) ∧ lvE n d = 0 :=
  ⟨rngE_zero (firstNZ_zero h (rngE 0 29 [t]) (by simp)), firstNZ_zero h (lvE n d) (by simp)⟩
theorem find_range_none {m : Nat} {p : Nat → Bool} (h : ∀ j, j < m → p j = false) : (List.range m).find? p = none := by
  rw [List.find?_eq_none]
  intro x hx
  rw [h x (by simpa using hx)]
  simp
theorem find_range_some {m k : Nat} {p : Nat → Bool} (hk : k < m) (h : ∀ j, j < k → p j = false) (h1 : p k = true) : (List.range m).find? p = some k := by
  rw [List.find?_range_eq_some]
  exact ⟨h1, by simpa using hk, fun j hj => by rw [h j hj]; rfl⟩

set_option maxRecDepth 100000 in
set_option maxHeartbeats 4000000 in
theorem MinimumRight_any (t n d : Int) (w : World) (hn : -9223372036854775808 ≤ n ∧ n ≤ 9223372036854775807) (hd : -9223372036854775808 ≤ d ∧ d ≤ 9223372036854775807) :
    Calls Try.prog 17 #[.int .i64 t, .agg #[.int .i64 n, .int .i64 d]] w fun e w' => e = .returned (.tuple #[.int .i64 (mrR t n d).1, .int .i64 (mrR t n d).2]) ∧ Below w.heap.size w w' := by
  have HE : Hid (firstNZ [rngE 0 29 [t], lvE n d] = mrE t n d) := rfl
  have CT := Lib.hid (fun w => checkTrials_any t w)
  have CL := Lib.hid (fun w => checkLevel_any n d w hn hd)
  have HOK : Hid (mrE t n d = 0 → (∃ a : Nat, t = a ∧ a < 30 ∧ mrR t n d = (match (List.range (a + 1)).find? (mrB a n d) with | some r => ((r : Int), 0) | none => (0, 12))) ∧ (0 ≤ n ∧ n ≤ d) ∧ 0 < d ∧ d ≤ 1000000000) := by
    intro h
    obtain ⟨h1, h2⟩ := mrE_zero h
    exact ⟨⟨t.toNat, by omega, by omega, by unfold mrR; rw [if_pos h]⟩, (lvE_zero h2).2⟩
  have HNO : Hid (¬ mrE t n d = 0 → mrR t n d = (0, mrE t n d)) := fun h => by unfold mrR; rw [if_neg h]
  obtain ⟨E, hE⟩ : ∃ E, mrE t n d = E := ⟨_, rfl⟩
  rw [hE] at HE HOK HNO
  obtain ⟨⟨V, X⟩, hR⟩ : ∃ R, mrR t n d = R := ⟨_, rfl⟩
  rw [hR] at HOK HNO ⊢
  dsimp only
  clear hE hR
  obtain ⟨E1, hE1⟩ : ∃ E, rngE 0 29 [t] = E := ⟨_, rfl⟩
  obtain ⟨E2, hE2⟩ : ∃ E, lvE n d = E := ⟨_, rfl⟩
  rw [hE1] at HE CT
  rw [hE2] at HE CL
  clear hE1 hE2
  have R0 := OneB.start w 23 #[.int .i64 n, .int .i64 d]
  go_enter Try.func17, Try.ntmps17
  go_wp2
  go_region_held3 (fun w' : World => (w'.cell? ⟨w.heap.size, 0, none⟩ = some (.int .i64 n) ∧ w'.cell? ⟨w.heap.size, 1, none⟩ = some (.int .i64 d)) ∧ OneB w w.heap.size 23 #[.int .i64 n, .int .i64 d] w') ((refine (fun hI => ⟨bkf2 hI.k, hI⟩) ?_; repeat (first | assumption | (go_split_ands; assumption) | refine OneB.alloc ?_ _ | refine OneB.drew ?_))) (first
    | (go_at_call 85; ((with_reducible refine (CT.out _).mono ?_)); rintro e w3 ⟨rfl, hb3⟩; have hI3 := OneB.later hb3 (by first | assumption | (go_split_ands; assumption)); clear hb3)
    | (go_at_call 89; ((with_reducible refine (CL.out _).mono ?_)); rintro e w4 ⟨rfl, hb4⟩; have hI4 := OneB.later hb4 (by first | assumption | (go_split_ands; assumption)); clear hb4)
    | (go_at_call 84; refine (firstError2 (E1 := E1) (E2 := E2) (F := E) HE.out _ _ ?_ ?_).mono ?_; (focus (simp [go_sem])); (focus (simp [go_sem])); rintro e w' ⟨rfl, rfl⟩))
  have HI2 := Lib.hid (OneB.alloc hI4 (.cells #[.int .i64 E1, .int .i64 E2] 25))
  obtain ⟨W2, hW2⟩ : ∃ W2, w4.alloc (.cells #[.int .i64 E1, .int .i64 E2] 25) = W2 := ⟨_, rfl⟩
  rw [hW2] at HI2 ⊢
  clear hW2 hI3 hI4 CT CL HE
  by_cases h0 : E = 0
  · subst h0
    obtain ⟨⟨a, rfl, ha, hR⟩, hn1, hd1⟩ := HOK.out rfl
    have HR := Lib.hid hR
    have hp := p2_pow a (by omega)
    have CW : Hid (∀ r, r ≤ a → ∀ w, Calls Try.prog 88 #[.int .i64 a, .int .i64 r] w fun e w' => e = .returned (.int .i64 (tW a r)) ∧ ∃ k, w' = w.drewN k) := fun r hr w => waysFrom_any a r ha hr w
    have HBD : Hid (∀ r, r ≤ a → 1 ≤ tW a r ∧ tW a r ≤ 536870912) := fun r hr => by
      have := tW_bd a ha r hr
      have h29 : p2 a ≤ 536870912 := (by decide +kernel : ∀ a, a < 30 → p2 a ≤ 536870912) a ha
      omega
    have hm1 := mulB (a := n) (b := p2 a) 1000000000 1073741824 (by omega) (by omega) (by omega) (by omega) 1073741824000000000 (by omega)
    have HM : Hid (∀ r, mrB a n d r = decide (tW a r * d ≤ n * p2 a)) := fun r => rfl
    have hs0 : n * 2 ^ a = n * p2 a := by rw [hp.1]
    have hs : IntKind.i64.wrap (n * 2 ^ a) = n * p2 a := by rw [hs0]; exact IntWalk.i64_in _ (by omega)
    obtain ⟨y, hy⟩ : ∃ y, n * p2 a = y := ⟨_, rfl⟩
    rw [hy] at hs hm1 HM
    clear hp hy hs0 hR HOK HNO
    have hw1 : IntKind.i64.wrap ((a : Int) + 1) = (a : Int) + 1 := IntWalk.i64_in _ (by omega)
    go_wp2
    go_loopw [19] (fun i wr => ∃ k : Nat, k ≤ a + 1 ∧ i = .int .i64 k ∧ Hid (∀ j, j < k → mrB a n d j = false) ∧ Hid (∃ j, wr = W2.drewN j)) (fun i _ => a + 1 - (intOf i).toNat)
    case atStart => exact ⟨0, Nat.zero_le _, rfl, fun j hj => by omega, 0, rfl⟩
    case round =>
      obtain ⟨k, hk, rfl, HJ, HW⟩ := hrel
      obtain ⟨j, hj⟩ := HW.out
      have KW := Lib.hid (HI2.out.k.drewN j)
      rw [← hj] at KW
      have HBW : Hid (Below w.heap.size w wr) := by show Below _ _ _; rw [hj]; exact belowDrewN HI2.out.b j
      have HJW := Lib.hid hj
      clear hj HW
      by_cases hlt : k < a + 1
      · have hkI : (k : Int) < (a : Int) + 1 := by omega
        have hk0 : (0 : Int) ≤ (k : Int) := by omega
        obtain ⟨c0, c1⟩ := bkf2 KW.out
        have hb := HBD.out k (by omega)
        have CK := Lib.hid (CW.out k (by omega))
        have HMK := Lib.hid (HM.out k)
        obtain ⟨x, hx⟩ : ∃ x, tW a k = x := ⟨_, rfl⟩
        rw [hx] at hb CK HMK
        have hm2 := mulB (a := x) (b := d) 536870912 1000000000 (by omega) (by omega) (by omega) (by omega) 536870912000000000 (by omega)
        obtain ⟨z, hz⟩ : ∃ z, x * d = z := ⟨_, rfl⟩
        have hwz : IntKind.i64.wrap (x * d) = z := by rw [← hz]; exact IntWalk.i64_in _ (by omega)
        rw [hz] at HMK hm2
        clear hx hz
        have ha0 : ¬ (a : Int) < 0 := by omega
        by_cases hc : z ≤ y
        · have hcb : decide (z ≤ y) = true := decide_eq_true hc
          go_wp2
          go_quiet ((go_at_call 88; exact quietD (CK.out _)))
          go_wp2
          go_ret2
          have hR := HR.out
          rw [find_range_some hlt (fun j hj => HJ.out j hj) (by rw [HMK.out, hcb])] at hR
          injection hR with hV hX
          subst hV hX
          exact ⟨rfl, by have := HBW.out; first | exact this | exact blw_drewN this _⟩
        · have hcb : decide (z ≤ y) = false := decide_eq_false hc
          go_wp2
          go_quiet ((go_at_call 88; exact quietD (CK.out _)))
          go_wp2
          go_roundw
          case rel =>
            refine ⟨k + 1, by omega, by go_num, fun j hj => ?_, ?_⟩
            · rcases (by omega : j < k ∨ j = k) with h | rfl
              · exact HJ.out j h
              · rw [HMK.out, hcb]
            · show ∃ _, _ = _
              rw [HJW.out]; exact ⟨_, World.drewN_drewN _ _ _⟩
          case measure => simp only [intOf]; omega
      · obtain rfl : k = a + 1 := by omega
        go_wp2
        go_ret2
        have hR := HR.out
        rw [find_range_none (fun j hj => HJ.out j hj)] at hR
        injection hR with hV hX
        subst hV hX
        exact ⟨rfl, HBW.out⟩
  · have h1 : (E == 0) = false := by rw [beq_eq_false_iff_ne]; exact h0
    have h2 : (E != 0) = true := by rw [bne_iff_ne]; exact h0
    have hR := HNO.out h0
    injection hR with hV hX
    subst hV hX
    clear HOK HNO
    go_wp2
    go_ret2
    exact ⟨rfl, HI2.out.b⟩

end Go.Proofs.Ytccoflhoggpgoaa


namespace Go.Proofs.Ytccoflhoggpgoaa
open Go.RowKit

theorem own_lit1 (W : World) (x : Int) : ((W.alloc (.cells #[.int .i64 x] 3)).ownsRow W.heap.size 3 1 (.slice (some ⟨W.heap.size, 0, none⟩) 1 1) 1 ([x].map (Value.int .i64))) :=
  own_of_bk 1 (Bk.new W 3 (iArr [x])) rfl (Nat.le_refl _) (by omega)
theorem power_any (n : Nat) (hn : n < 31) (w : World) :
    Calls Try.prog 91 #[.int .i64 n] w fun e w' => e = .returned (.int .i64 (p2 n)) ∧ w = w' := by
  have HP : Hid (∀ i, i < n → p2 (i + 1) = 2 * p2 i ∧ 1 ≤ p2 i ∧ p2 i ≤ 1073741824) := fun i hi => ⟨rfl, (p2_pow i (by omega)).2⟩
  go_enter Try.func91, Try.ntmps91
  go_wp2
  go_loop [3, 4] (fun a i => ∃ k : Nat, k ≤ n ∧ i = .int .i64 k ∧ a = .int .i64 (p2 k)) (fun _ i => n - (intOf i).toNat)
  case atStart => exact ⟨0, Nat.zero_le _, rfl, rfl⟩
  case round =>
    obtain ⟨k, hk, rfl, rfl⟩ := hrel
    by_cases hlt : k < n
    · have hkI : (k : Int) < (n : Int) := by omega
      obtain ⟨h1, h2, h3⟩ := HP.out k hlt
      have H1 := Lib.hid h1
      obtain ⟨x, hx⟩ : ∃ x, p2 k = x := ⟨_, rfl⟩
      rw [hx] at h2 h3 H1 ⊢
      have hw : IntKind.i64.wrap (2 * x) = 2 * x := IntWalk.i64_in _ (by omega)
      clear h1 hx
      go_wp2
      go_round
      case rel => exact ⟨k + 1, by omega, by go_num, by rw [H1.out]⟩
      case measure => simp [intOf]; omega
    · obtain rfl : k = n := by omega
      go_wp2
      go_ret
      exact ⟨rfl, rfl⟩
theorem pas_step (i : Nat) : pas (i + 1) = pasN (pas i) i ++ [1] := rfl
theorem pasN_step (l : List Int) (k : Nat) : pasN l (k + 1) = pasN l k ++ [l.getD k 0 + l.getD (k + 1) 0] := rfl
theorem pas_at (i q : Nat) (hi : i < 30) (hq : q ≤ i) : 0 ≤ (pas i).getD q 0 ∧ (pas i).getD q 0 ≤ 1000000000 := by
  obtain ⟨h1, h2⟩ := pas_bd i hi
  rw [List.getD_eq_getElem?_getD, List.getElem?_eq_getElem (by omega), Option.getD_some]
  exact h2 _ (List.getElem_mem _)
set_option maxRecDepth 100000 in
set_option maxHeartbeats 4000000 in
theorem choose_any (n r : Nat) (hn : n < 30) (hr : r ≤ n) (w : World) :
    Calls Try.prog 90 #[.int .i64 n, .int .i64 r] w fun e w' => e = .returned (.int .i64 ((pas n).getD r 0)) ∧ Below w.heap.size w w' := by
  obtain ⟨i0, hi0, hza, hzb, hzc⟩ := info_parts intInfo'
  have HO0 := Lib.hid (own_lit1 w 1)
  have HB0 := Lib.hid (below1 w (.cells #[.int .i64 1] 3))
  go_enter Try.func90, Try.ntmps90
  go_wp2
  go_loopw [5, 6] (fun p i' wr => ∃ i : Nat, i ≤ n ∧ i' = .int .i64 i ∧ Hid (wr.ownsRow w.heap.size 3 1 p (i + 1) ((pas i).map (Value.int .i64))) ∧ Hid (Below w.heap.size w wr)) (fun _ i' _ => n - (intOf i').toNat)
  case atStart => exact ⟨0, Nat.zero_le _, rfl, HO0, HB0⟩
  case round =>
    obtain ⟨i, hi, rfl, HI, HB⟩ := hrel
    clear HO0 HB0
    obtain ⟨A2, c2, rfl, hc2, hrd⟩ := rd_of_own HI.out
    obtain ⟨ad, rfl, hadl, hcs⟩ := hrd.2 (by omega)
    by_cases hlt : i < n
    · have hiI : (i : Int) < (n : Int) := by omega
      obtain ⟨WB, hWB⟩ : ∃ WB, WB = wr := ⟨_, rfl⟩
      subst hWB
      have HCS := Lib.hid hcs
      have HRD := Lib.hid hrd
      clear hcs hrd
      have HO1 := Lib.hid (own_lit1 WB 1)
      have HB1 := Lib.hid (below1 WB (.cells #[.int .i64 1] 3))
      go_wp2
      go_loopw [7, 8] (fun p j' wr => ∃ q j : Nat, q ≤ i ∧ Hid (j = q + 1) ∧ j' = .int .i64 j ∧ Hid (wr.ownsRow WB.heap.size 3 1 p (q + 1) ((pasN (pas i) q).map (Value.int .i64))) ∧ Hid (Below WB.heap.size WB wr)) (fun _ j' _ => i + 1 - (intOf j').toNat)
      case atStart => exact ⟨0, 1, Nat.zero_le _, rfl, rfl, HO1, HB1⟩
      case round =>
        obtain ⟨q, j, hq, HQJ, rfl, HI2, HB2⟩ := hrel
        clear HO1 HB1
        obtain ⟨A3, c3, rfl, hc3, _⟩ := rd_of_own HI2.out
        by_cases hlt2 : q < i
        · have hji : (j : Int) < ((i : Nat) : Int) + 1 := by have := HQJ.out; omega
          have hj0 : (0 : Int) ≤ (j : Int) := by omega
          have hq0 : (0 : Int) ≤ (q : Int) := by omega
          have hqi : (q : Int) < ((i : Nat) : Int) + 1 := by omega
          have hjN : j < i + 1 := by have := HQJ.out; omega
          have hqN : q < i + 1 := by omega
          have hx1 := HCS.out q (by omega)
          have hy1 := HCS.out j (by omega)
          obtain ⟨hx2, hx3⟩ := pas_at i q (by omega) (by omega)
          obtain ⟨hy2, hy3⟩ := pas_at i j (by omega) (by omega)
          have w1 : IntKind.i64.wrap ((j : Int) - 1) = q := by have := HQJ.out; rw [show (j : Int) - 1 = q by omega]; exact IntWalk.i64_in _ (by omega)
          have HXY0 := Lib.hid (pasN_step (pas i) q)
          rw [← HQJ.out] at HXY0
          obtain ⟨x, hx⟩ : ∃ x, (pas i).getD q 0 = x := ⟨_, rfl⟩
          obtain ⟨y, hy⟩ : ∃ y, (pas i).getD j 0 = y := ⟨_, rfl⟩
          rw [hx] at hx1 hx2 hx3 HXY0
          rw [hy] at hy1 hy2 hy3 HXY0
          have w2 : IntKind.i64.wrap (x + y) = x + y := IntWalk.i64_in _ (by omega)
          obtain ⟨aq, haq⟩ : ∃ a, ad.add q = a := ⟨_, rfl⟩
          obtain ⟨aj, haj⟩ : ∃ a, ad.add j = a := ⟨_, rfl⟩
          rw [haq] at hx1
          rw [haj] at hy1
          have hbq : aq.block < WB.heap.size := by rw [← haq, addBlock]; exact hadl
          have hbj : aj.block < WB.heap.size := by rw [← haj, addBlock]; exact hadl
          have HSK : Hid (∀ W, Below WB.heap.size WB W → (fun w' : World => w'.cell? aq = some (.int .i64 x) ∧ w'.cell? aj = some (.int .i64 y)) W) := fun W hb => ⟨(hb.cell hbq).trans hx1, (hb.cell hbj).trans hy1⟩
          have HPJ := Lib.hid HQJ.out
          clear hx hy hx1 hy1 hbq hbj HQJ
          go_wp2
          refine wp_region_held_drew (S := (fun w' : World => w'.cell? aq = some (.int .i64 x) ∧ w'.cell? aj = some (.int .i64 y))) (by kernel_rfl) ?_ ?_
          · exact HSK.out _ HB2.out.drew
          intro hHeld
          refine wpAnyH_take (i := 0) (v := ?_) rfl (by kernel_rfl) (by kernel_rfl) (by kernel_rfl) (fun _ _ _ h => h) (Or.inl ⟨by rfl, ?_⟩) (by assumption) ?_
          rotate_left
          · intro w hSw; (try dsimp only at hSw); go_simp; (try (with_reducible rfl))
          try simp only [List.getElem_toArray, List.getElem_cons_succ, List.getElem_cons_zero, Act.put, List.setIfInBounds_toArray, List.set_cons_zero, List.set_cons_succ]
          refine wpAnyH_take (i := 1) (v := ?_) rfl (by kernel_rfl) (by kernel_rfl) (by kernel_rfl) (fun _ _ _ h => h) (Or.inl ⟨by rfl, ?_⟩) (by assumption) ?_
          rotate_left
          · intro w hSw; (try dsimp only at hSw); go_simp; (try (with_reducible rfl))
          try simp only [List.getElem_toArray, List.getElem_cons_succ, List.getElem_cons_zero, Act.put, List.setIfInBounds_toArray, List.set_cons_zero, List.set_cons_succ]
          refine wpAnyH_take (i := 2) (v := ?_) rfl (by kernel_rfl) (by kernel_rfl) (by kernel_rfl) (fun _ _ _ h => h) (Or.inl ⟨by rfl, ?_⟩) (by assumption) ?_
          rotate_left
          · intro w hSw; (try dsimp only at hSw); go_simp; (try (with_reducible rfl))
          try simp only [List.getElem_toArray, List.getElem_cons_succ, List.getElem_cons_zero, Act.put, List.setIfInBounds_toArray, List.set_cons_zero, List.set_cons_succ]
          refine wpAnyH_take (i := 3) (v := ?_) rfl (by kernel_rfl) (by kernel_rfl) (by kernel_rfl) (fun _ _ _ h => h) (Or.inl ⟨by rfl, ?_⟩) (by assumption) ?_
          rotate_left
          · intro w hSw; (try dsimp only at hSw); go_simp; (try (with_reducible rfl))
          try simp only [List.getElem_toArray, List.getElem_cons_succ, List.getElem_cons_zero, Act.put, List.setIfInBounds_toArray, List.set_cons_zero, List.set_cons_succ]
          refine wpAnyH_take (i := 4) (v := ?_) rfl (by kernel_rfl) (by kernel_rfl) (by kernel_rfl) (fun _ _ _ h => h) (Or.inl ⟨by rfl, ?_⟩) (by assumption) ?_
          rotate_left
          · intro w hSw; (try dsimp only at hSw); go_simp; (try (with_reducible rfl))
          try simp only [List.getElem_toArray, List.getElem_cons_succ, List.getElem_cons_zero, Act.put, List.setIfInBounds_toArray, List.set_cons_zero, List.set_cons_succ]
          refine wpAnyH_take (i := 5) (v := ?_) rfl (by kernel_rfl) (by kernel_rfl) (by kernel_rfl) (fun _ _ _ h => h) (Or.inl ⟨by rfl, ?_⟩) (by assumption) ?_
          rotate_left
          · intro w hSw; (try dsimp only at hSw); go_simp; (try (with_reducible rfl))
          try simp only [List.getElem_toArray, List.getElem_cons_succ, List.getElem_cons_zero, Act.put, List.setIfInBounds_toArray, List.set_cons_zero, List.set_cons_succ]
          refine wpAnyH_take (i := 6) (v := ?_) rfl (by kernel_rfl) (by kernel_rfl) (by kernel_rfl) (fun _ _ _ h => h) (Or.inl ⟨by rfl, ?_⟩) (by assumption) ?_
          rotate_left
          · intro w hSw; (try dsimp only at hSw); go_simp; (try (with_reducible rfl))
          try simp only [List.getElem_toArray, List.getElem_cons_succ, List.getElem_cons_zero, Act.put, List.setIfInBounds_toArray, List.set_cons_zero, List.set_cons_succ]
          refine wpAnyH_take (i := 7) (v := ?_) rfl (by kernel_rfl) (by kernel_rfl) (by kernel_rfl) (fun _ _ _ h => h) (Or.inl ⟨by rfl, ?_⟩) (by assumption) ?_
          rotate_left
          · intro w hSw; (try dsimp only at hSw); go_simp; (try (with_reducible rfl))
          try simp only [List.getElem_toArray, List.getElem_cons_succ, List.getElem_cons_zero, Act.put, List.setIfInBounds_toArray, List.set_cons_zero, List.set_cons_succ]
          refine wpAnyH_take (i := 8) (v := ?_) rfl (by kernel_rfl) (by kernel_rfl) (by kernel_rfl) (fun _ _ _ h => h) (Or.inl ⟨by rfl, ?_⟩) (by assumption) ?_
          rotate_left
          · intro w hSw; (try dsimp only at hSw); go_simp; (try (with_reducible rfl))
          try simp only [List.getElem_toArray, List.getElem_cons_succ, List.getElem_cons_zero, Act.put, List.setIfInBounds_toArray, List.set_cons_zero, List.set_cons_succ]
          refine wpAnyH_take (i := 9) (v := ?_) rfl (by kernel_rfl) (by kernel_rfl) (by kernel_rfl) (fun _ _ _ h => h) (Or.inl ⟨by rfl, ?_⟩) (by assumption) ?_
          rotate_left
          · intro w hSw; (try dsimp only at hSw); go_simp; (try (with_reducible rfl))
          try simp only [List.getElem_toArray, List.getElem_cons_succ, List.getElem_cons_zero, Act.put, List.setIfInBounds_toArray, List.set_cons_zero, List.set_cons_succ]
          refine wpAnyH_take (i := 10) (v := ?_) rfl (by kernel_rfl) (by kernel_rfl) (by kernel_rfl) (fun _ _ _ h => h) (Or.inl ⟨by rfl, ?_⟩) (by assumption) ?_
          rotate_left
          · intro w hSw; (try dsimp only at hSw); go_simp; (try (with_reducible rfl))
          try simp only [List.getElem_toArray, List.getElem_cons_succ, List.getElem_cons_zero, Act.put, List.setIfInBounds_toArray, List.set_cons_zero, List.set_cons_succ]
          refine wpAnyH_ready (rs := [11]) (by kernel_rfl) (by simp) ?_
          refine AllReadyH.cons rfl (fun K hK => ?_) AllReadyH.nil
          go_simp
          refine hK.out _ _ ?_ (fun hHeld => ?_)
          · clear hK K; exact HSK.out _ ((HB2.out.drew).alloc (HB2.out.drew).size _)
          clear hK K
          try simp only [List.getElem_toArray, List.getElem_cons_succ, List.getElem_cons_zero, Act.put, List.setIfInBounds_toArray, List.set_cons_zero, List.set_cons_succ]
          refine wpAnyH_ready (rs := [12]) (by kernel_rfl) (by simp) ?_
          refine AllReadyH.cons rfl (fun K hK => ?_) AllReadyH.nil
          refine step_append_at _ rfl (.tmp 22) (.tmp 33) 43 rfl WB.heap.size 3 i0 _ 1 8 Try.underlying43 hi0 hza hzb hzc rfl (by decide) _ (q + 1) _ rfl ((HI2.out.drew).alloc _) ⟨wr.heap.size, 0, none⟩ 1 1 [.int .i64 (x + y)] rfl rfl (cell_one_new _ _ _) (by simp [Value.oneCell']) (by simp only [maxLen]; omega) (by omega) (by have := (HB2.out.drew).size; simp at this ⊢; omega) ?_
          intro v' w4 hown' hgrow _ hat
          obtain ⟨g', cap', rfl⟩ := ownsRow_succ hown'
          have HB4 : Hid (Below WB.heap.size WB w4) := ((HB2.out.drew).alloc (HB2.out.drew).size _).grown hgrow (by have := (HB2.out.drew).size; simp at this ⊢; omega) (fun z e => ((HI2.out.drew).lt z e).1)
          have HO4 : Hid (w4.ownsRow WB.heap.size 3 1 (.slice (some ⟨g', 0, none⟩) (q + 1 + 1) cap') (q + 1 + 1) ((pasN (pas i) (q + 1)).map (Value.int .i64))) := by
            refine Lib.hid ?_
            rw [show pasN (pas i) (q + 1) = pasN (pas i) q ++ [x + y] by rw [← HXY0.out, HPJ.out], List.map_append]
            exact hown'
          clear hown' hgrow hat
          refine hK.out _ _ ?_ (fun hHeld => ?_)
          · clear hK K; exact HSK.out _ HB4.out
          clear hK K
          try simp only [List.getElem_toArray, List.getElem_cons_succ, List.getElem_cons_zero, Act.put, List.setIfInBounds_toArray, List.set_cons_zero, List.set_cons_succ]
          refine wpAnyH_take (i := 13) (v := ?_) rfl (by kernel_rfl) (by kernel_rfl) (by kernel_rfl) (fun _ _ _ h => h) (Or.inl ⟨by rfl, ?_⟩) (by assumption) ?_
          rotate_left
          · intro w hSw; (try dsimp only at hSw); go_simp; (try (with_reducible rfl))
          try simp only [List.getElem_toArray, List.getElem_cons_succ, List.getElem_cons_zero, Act.put, List.setIfInBounds_toArray, List.set_cons_zero, List.set_cons_succ]
          refine wpAnyH_done (by kernel_rfl) ?_ _
          clear hHeld
          go_wp2
          go_roundw
          case rel => exact ⟨q + 1, j + 1, by omega, by show _ = _; rw [HPJ.out], by go_num, HO4, HB4⟩
          case measure => simp only [intOf]; first | omega | (simp [intOf]; omega)
        · obtain rfl : q = i := by omega
          have hji : ¬ (j : Int) < ((q : Nat) : Int) + 1 := by have := HQJ.out; omega
          have ho1 : Hid (Below WB.heap.size WB wr) := HB2
          clear HB2
          go_wp2_with (at_builtin; refine wpList_append_own _ rfl (.tmp 35) (.tmp 36) 43 rfl WB.heap.size 3 i0 _ 1 8 Try.underlying43 hi0 hza hzb hzc rfl (by decide) _ _ _ rfl (HI2.out.alloc _) ⟨wr.heap.size, 0, none⟩ 1 1 [.int .i64 1] rfl rfl (cell_one_new _ _ _) (by simp [Value.oneCell']) (by simp only [maxLen]; omega) (by omega) (by have := ho1.out.size; simp; omega) ?_)
          intro v w4 hown' hgrow _
          have HB4 : Hid (Below WB.heap.size WB w4) := ((ho1.out).alloc (ho1.out).size (.cells #[.int .i64 1] 3)).grown hgrow (by have := ho1.out.size; simp; omega) (fun z e => ((HI2.out.alloc (.cells #[.int .i64 1] 3)).lt z e).1)
          have HO4 : Hid (w4.ownsRow w.heap.size 3 1 v (q + 1 + 1) ((pas (q + 1)).map (Value.int .i64))) := by
            show World.ownsRow _ _ _ _ _ _ _
            have h := ownMono hown' HB.out.size
            rw [pas_step, List.map_append]
            exact h
          have HB5 := Lib.hid (HB.out.trans (HB4.out.mono HB.out.size))
          clear hown' hgrow HB4 HI2 ho1
          go_wp2
          go_roundw
          case rel => exact ⟨q + 1, by omega, by go_num, HO4, HB5⟩
          case measure => simp only [intOf]; first | omega | (simp [intOf]; omega)
    · obtain rfl : i = n := by omega
      have hrI : (r : Int) < ((i + 1 : Nat) : Int) := by omega
      have hrN : r < i + 1 := by omega
      have hx1 := hcs r (by omega)
      obtain ⟨x, hx⟩ : ∃ x, (pas i).getD r 0 = x := ⟨_, rfl⟩
      have HX := Lib.hid hx
      rw [hx] at hx1
      clear hx hcs hrd
      go_wp2
      go_ret
      exact ⟨by rw [HX.out]; rfl, HB.out⟩

end Go.Proofs.Ytccoflhoggpgoaa


namespace Go.Proofs.Ytccoflhoggpgoaa
open Go.RowKit

theorem refTrialsErr_any (n : Int) (w : World) :
    Calls Try.prog 20 #[.int .i64 n] w fun e w' => e = .returned (.int .i64 (rngE 0 29 [n])) ∧ w = w' := by
  have C := Lib.hid (fun w => within_any n 0 29 w)
  have HE : Hid (rngE 0 29 [n] = if fromB 0 29 [n] = true then 0 else 2) := rfl
  obtain ⟨V, hV⟩ : ∃ V, rngE 0 29 [n] = V := ⟨_, rfl⟩
  obtain ⟨b, hb⟩ : ∃ b, fromB 0 29 [n] = b := ⟨_, rfl⟩
  rw [hV] at HE ⊢
  rw [hb] at HE C
  clear hV hb
  cases b
  all_goals
    go_enter Try.func20, Try.ntmps20
    go_wp2_with fail
    refine (C.out _).mono ?_
    rintro e w' ⟨rfl, rfl⟩
    go_wp2
    go_ret
    exact ⟨by rw [HE.out]; rfl, rfl⟩

theorem refTailErr_any (t r : Int) (w : World) :
    Calls Try.prog 18 #[.int .i64 t, .int .i64 r] w fun e w' => e = .returned (.int .i64 (tlE t r)) ∧ w = w' := by
  have C1 := Lib.hid (fun w => refTrialsErr_any t w)
  have C2 := Lib.hid (fun w => within_any r 0 t w)
  have HE : Hid (tlE t r = if rngE 0 29 [t] = 0 then (if fromB 0 t [r] = true then 0 else 2) else 2) := by
    show _ = _
    unfold tlE
    rw [firstNZ2]
    unfold rngE
    cases fromB 0 29 [t] <;> cases fromB 0 t [r] <;> simp
  obtain ⟨V, hV⟩ : ∃ V, tlE t r = V := ⟨_, rfl⟩
  obtain ⟨b, hb⟩ : ∃ b, fromB 0 t [r] = b := ⟨_, rfl⟩
  obtain ⟨E1, hE1⟩ : ∃ b, rngE 0 29 [t] = b := ⟨_, rfl⟩
  rw [hV] at HE ⊢
  rw [hb] at HE C2
  rw [hE1] at HE C1
  clear hV hb hE1
  by_cases h0 : E1 = 0
  · subst h0
    cases b
    all_goals
      go_enter Try.func18, Try.ntmps18
      go_wp2_with fail
      refine (C1.out _).mono ?_
      rintro e w' ⟨rfl, rfl⟩
      go_wp2_with fail
      refine (C2.out _).mono ?_
      rintro e w' ⟨rfl, rfl⟩
      go_wp2
      go_ret
      exact ⟨by rw [HE.out]; rfl, rfl⟩
  · have h1 : (E1 == 0) = false := by rw [beq_eq_false_iff_ne]; exact h0
    have h2 : (E1 != 0) = true := by rw [bne_iff_ne]; exact h0
    go_enter Try.func18, Try.ntmps18
    go_wp2_with fail
    refine (C1.out _).mono ?_
    rintro e w' ⟨rfl, rfl⟩
    go_wp2
    go_ret
    exact ⟨by rw [HE.out, if_neg h0]; rfl, rfl⟩

set_option maxHeartbeats 1000000 in
theorem refLevelErr_any (n d : Int) (w : World) (hn : -9223372036854775808 ≤ n ∧ n ≤ 9223372036854775807) (hd : -9223372036854775808 ≤ d ∧ d ≤ 9223372036854775807) :
    Calls Try.prog 21 #[.agg #[.int .i64 n, .int .i64 d]] w fun e w' => e = .returned (.int .i64 (lvE n d)) ∧ Below w.heap.size w w' := by
  have CL := Lib.hid (fun w => bIsLowest_any n d hn.1 hn.2 hd.2 w)
  have C2 := Lib.hid (fun w => within_any n 0 d w)
  have HE : Hid (lvE n d = if lowB n d = true then (if fromB 0 d [n] = true then (if 1000000000 < d then 2 else 0) else 2) else 3) := by
    show _ = _
    unfold lvE rngE
    rw [firstNZ3]
    cases lowB n d <;> cases fromB 0 d [n] <;> simp
  have HI0 := Lib.hid (OneB.start w 23 #[.int .i64 n, .int .i64 d])
  obtain ⟨V, hV⟩ : ∃ V, lvE n d = V := ⟨_, rfl⟩
  obtain ⟨lb, hlb⟩ : ∃ b, lowB n d = b := ⟨_, rfl⟩
  obtain ⟨b, hb⟩ : ∃ b, fromB 0 d [n] = b := ⟨_, rfl⟩
  rw [hV] at HE ⊢
  rw [hlb] at HE CL
  rw [hb] at HE C2
  clear hV hlb hb
  go_enter Try.func21, Try.ntmps21
  go_wp2_with fail
  refine (CL.out _).mono ?_
  rintro e w3 ⟨rfl, hb3⟩
  have HI := Lib.hid (OneB.later hb3 HI0.out)
  obtain ⟨c0, c1⟩ := bkf2 HI.out.k
  clear hb3 HI0
  cases lb
  · go_wp2
    go_ret
    exact ⟨by rw [HE.out]; rfl, HI.out.b⟩
  · go_wp2_with fail
    refine (C2.out _).mono ?_
    rintro e w' ⟨rfl, rfl⟩
    cases b
    · go_wp2
      go_ret
      exact ⟨by rw [HE.out]; rfl, HI.out.b⟩
    · by_cases h5 : 1000000000 < d
      · obtain rfl : V = 2 := by rw [HE.out]; simp [h5]
        go_wp2
        go_ret
        exact ⟨rfl, HI.out.b⟩
      · obtain rfl : V = 0 := by rw [HE.out]; simp [h5]
        go_wp2
        go_ret
        exact ⟨rfl, HI.out.b⟩

set_option maxRecDepth 100000 in
set_option maxHeartbeats 2000000 in
theorem refTailOf_any (t r : Nat) (ht : t < 30) (hr : r ≤ t) (w : World) :
    Calls Try.prog 19 #[.int .i64 t, .int .i64 r] w fun e w' => e = .returned (.agg #[.int .i64 (fN (tW t r) (p2 t)), .int .i64 (fD (tW t r) (p2 t))]) ∧ Below w.heap.size w w' := by
  have hw := tW_bd t ht r hr
  have hp := p2_pow t (by omega)
  have HS := Lib.hid (cS_tW t ht r hr)
  have HB := Lib.hid (cS_bd t ht r hr)
  have HST : Hid (∀ j, cS t r (j + 1) = cS t r j + (pas t).getD (r + j) 0) := fun j => rfl
  have CC : Hid (∀ j, j < t + 1 - r → ∀ w, Calls Try.prog 90 #[.int .i64 t, .int .i64 ((r + j : Nat) : Int)] w fun e w' => e = .returned (.int .i64 ((pas t).getD (r + j) 0)) ∧ Below w.heap.size w w') := fun j hj w => choose_any t (r + j) ht (by omega) w
  have HPA : Hid (∀ j, j < t + 1 - r → 0 ≤ (pas t).getD (r + j) 0 ∧ (pas t).getD (r + j) 0 ≤ 1000000000) := fun j hj => pas_at t (r + j) ht (by omega)
  have CP := Lib.hid (fun w => power_any t (by omega) w)
  have CF := Lib.hid (fun w => bLowest_any (tW t r) (p2 t) w (by omega) (by omega) (by omega) (by omega))
  obtain ⟨N, hN⟩ : ∃ N, fN (tW t r) (p2 t) = N := ⟨_, rfl⟩
  obtain ⟨D, hD⟩ : ∃ D, fD (tW t r) (p2 t) = D := ⟨_, rfl⟩
  rw [hN, hD] at CF ⊢
  obtain ⟨x, hx⟩ : ∃ x, tW t r = x := ⟨_, rfl⟩
  obtain ⟨y, hy⟩ : ∃ y, p2 t = y := ⟨_, rfl⟩
  rw [hx] at CF HS
  rw [hy] at CF CP
  clear hN hD hx hy hw hp
  have R0 := Lib.hid (OneB.start w 23 #[.int .i64 0, .int .i64 0])
  go_enter Try.func19, Try.ntmps19
  go_wp2
  go_loopw [5, 6] (fun s i wr => ∃ j κ : Nat, j ≤ t + 1 - r ∧ Hid (κ = r + j) ∧ i = .int .i64 κ ∧ s = .int .i64 (cS t r j) ∧ Hid (OneB w w.heap.size 23 #[.int .i64 0, .int .i64 0] wr)) (fun _ i _ => t + 1 - (intOf i).toNat)
  case atStart => exact ⟨0, r, Nat.zero_le _, rfl, rfl, rfl, R0⟩
  case round =>
    obtain ⟨j, κ, hj, HK, rfl, rfl, HI⟩ := hrel
    clear R0
    have hbj := HB.out j hj
    by_cases hlt : j < t + 1 - r
    · have hκ : (κ : Int) ≤ (t : Int) := by have := HK.out; omega
      have CJ := Lib.hid (CC.out j hlt)
      have hpa := HPA.out j hlt
      have HSJ := Lib.hid (HST.out j)
      rw [← HK.out] at CJ hpa HSJ
      obtain ⟨z, hz⟩ : ∃ z, (pas t).getD κ 0 = z := ⟨_, rfl⟩
      obtain ⟨u, hu⟩ : ∃ z, cS t r j = z := ⟨_, rfl⟩
      rw [hz] at CJ hpa HSJ
      rw [hu] at hbj HSJ ⊢
      clear hz hu
      have hw : IntKind.i64.wrap (u + z) = u + z := IntWalk.i64_in _ (by omega)
      have HKJ := Lib.hid HK.out
      clear HK
      go_wp2_with fail
      refine (CJ.out _).mono ?_
      rintro e w3 ⟨rfl, hb3⟩
      have HI3 := Lib.hid (OneB.later hb3 HI.out)
      clear hb3 HI
      go_wp2
      go_roundw
      case rel => exact ⟨j + 1, κ + 1, by omega, by show _ = _; rw [HKJ.out]; omega, by go_num, by rw [HSJ.out], HI3⟩
      case measure => simp only [intOf]; first | omega | (simp [intOf]; omega)
    · obtain rfl : j = t + 1 - r := by omega
      have hκ : ¬ (κ : Int) ≤ (t : Int) := by have := HK.out; omega
      rw [HS.out] at hbj ⊢
      clear HK
      go_wp2_with fail
      refine (CP.out _).mono ?_
      rintro e w' ⟨rfl, rfl⟩
      go_wp2_with fail
      refine (CF.out _).mono ?_
      rintro e w4 ⟨rfl, hb4⟩
      have HI4 := OneB.later hb4 HI.out
      clear hb4 HI
      obtain ⟨e0, e1, k0, k1⟩ := bk2 HI4.k
      go_wp2
      refine bodyPost_ret (v := .agg #[.int .i64 N, .int .i64 D]) (by simp [results, Try.results19, go_sem, e0, e1, k0, k1]) rfl ⟨rfl, ?_⟩
      have hbw := HI4.b
      have hbz := hbw.size
      go_grown

/-- The reference's way to the least number. -/
theorem mrB_cmp (t r : Nat) (n d : Int) (ht : t < 30) (hr : r ≤ t) : mrB t n d r = decide (cmpF (fN (tW t r) (p2 t)) (fD (tW t r) (p2 t)) n d ≤ 0) := by
  have hw := tW_bd t ht r hr
  have hp := p2_pow t (by omega)
  obtain ⟨g1, _, _, _, _, _, g2, g3⟩ := gcd_facts (a := tW t r) (b := p2 t) (by omega) (by omega)
  unfold mrB
  refine decide_eq_decide.2 ?_
  obtain ⟨g, hg⟩ : ∃ g : Int, (Int.gcd (tW t r) (p2 t) : Int) = g := ⟨_, rfl⟩
  rw [hg] at g2 g3
  have hg0 : 0 < g := by omega
  obtain ⟨N, hN⟩ : ∃ N, fN (tW t r) (p2 t) = N := ⟨_, rfl⟩
  obtain ⟨D, hD⟩ : ∃ D, fD (tW t r) (p2 t) = D := ⟨_, rfl⟩
  rw [hN] at g2 ⊢
  rw [hD] at g3 ⊢
  rw [← g2, ← g3]
  have e1 : N * g * d = g * (N * d) := by rw [Int.mul_comm N g, Int.mul_assoc]
  have e2 : n * (D * g) = g * (n * D) := by rw [← Int.mul_assoc, Int.mul_comm]
  rw [e1, e2]
  constructor
  · intro h
    have h1 : N * d ≤ n * D := Int.le_of_mul_le_mul_left h hg0
    unfold cmpF
    split
    · omega
    · rw [if_neg (by omega)]; omega
  · intro h
    refine Int.mul_le_mul_of_nonneg_left ?_ (by omega)
    unfold cmpF at h
    split at h
    · omega
    · split at h
      · omega
      · omega

end Go.Proofs.Ytccoflhoggpgoaa


namespace Go.Proofs.Ytccoflhoggpgoaa
open Go.RowKit

/-- The reference's least number. -/
def mqR (t : Nat) (n d : Int) : Int × Bool := match (List.range (t + 1)).find? (mrB t n d) with | some r => ((r : Int), true) | none => (0, false)

set_option maxRecDepth 100000 in
set_option maxHeartbeats 4000000 in
theorem refMinimumRight_any (t : Nat) (n d : Int) (ht : t < 30) (hn : 0 ≤ n ∧ n ≤ 1000000000) (hd : 0 < d ∧ d ≤ 1000000000) (w : World) :
    Calls Try.prog 22 #[.int .i64 t, .agg #[.int .i64 n, .int .i64 d]] w fun e w' => e = .returned (.tuple #[.int .i64 (mqR t n d).1, .bool (mqR t n d).2]) ∧ Below w.heap.size w w' := by
  have CT : Hid (∀ k, k < t + 1 → ∀ w, Calls Try.prog 19 #[.int .i64 t, .int .i64 k] w fun e w' => e = .returned (.agg #[.int .i64 (fN (tW t k) (p2 t)), .int .i64 (fD (tW t k) (p2 t))]) ∧ Below w.heap.size w w') := fun k hk w => refTailOf_any t k ht (by omega) w
  have HM : Hid (∀ k, k < t + 1 → mrB t n d k = decide (cmpF (fN (tW t k) (p2 t)) (fD (tW t k) (p2 t)) n d ≤ 0)) := fun k hk => mrB_cmp t k n d ht (by omega)
  have HBD : Hid (∀ k, k < t + 1 → (0 ≤ fN (tW t k) (p2 t) ∧ fN (tW t k) (p2 t) ≤ 1000000000) ∧ 0 < fD (tW t k) (p2 t) ∧ fD (tW t k) (p2 t) ≤ 1000000000) := by
    intro k hk
    have hw := tW_bd t ht k (by omega)
    have hp := p2_pow t (by omega)
    have h29 : p2 t ≤ 536870912 := (by decide +kernel : ∀ a, a < 30 → p2 a ≤ 536870912) t ht
    obtain ⟨_, _, g0, g1, g2, g3, _⟩ := gcd_facts (a := tW t k) (b := p2 t) (by omega) (by omega)
    omega
  have R0 := Lib.hid (OneB.start w 23 #[.int .i64 n, .int .i64 d])
  have HR : Hid (mqR t n d = match (List.range (t + 1)).find? (mrB t n d) with | some r => ((r : Int), true) | none => (0, false)) := rfl
  obtain ⟨⟨V, X⟩, hR⟩ : ∃ R, mqR t n d = R := ⟨_, rfl⟩
  rw [hR] at HR ⊢
  dsimp only
  clear hR
  go_enter Try.func22, Try.ntmps22
  go_wp2
  go_loopw [6] (fun i wr => ∃ k : Nat, k ≤ t + 1 ∧ i = .int .i64 k ∧ Hid (∀ j, j < k → mrB t n d j = false) ∧ Hid (OneB w w.heap.size 23 #[.int .i64 n, .int .i64 d] wr)) (fun i _ => t + 1 - (intOf i).toNat)
  case atStart => exact ⟨0, Nat.zero_le _, rfl, fun j hj => by omega, R0⟩
  case round =>
    obtain ⟨k, hk, rfl, HJ, HI⟩ := hrel
    clear R0
    by_cases hlt : k < t + 1
    · have hkI : (k : Int) ≤ (t : Int) := by omega
      have CK := Lib.hid (CT.out k hlt)
      have HMK := Lib.hid (HM.out k hlt)
      obtain ⟨b1, b2⟩ := HBD.out k hlt
      obtain ⟨N, hN⟩ : ∃ N, fN (tW t k) (p2 t) = N := ⟨_, rfl⟩
      obtain ⟨D, hD⟩ : ∃ D, fD (tW t k) (p2 t) = D := ⟨_, rfl⟩
      rw [hN] at CK HMK b1
      rw [hD] at CK HMK b2
      have CC := Lib.hid (fun w => bCmp_any N D n d w (by omega) (by omega) (by omega) (by omega))
      obtain ⟨cv, hcv⟩ : ∃ c, cmpF N D n d = c := ⟨_, rfl⟩
      rw [hcv] at CC HMK
      clear hN hD hcv
      have hI := HI.out
      clear HI
      go_wp2
      go_region_held3 (fun w' : World => (w'.cell? ⟨w.heap.size, 0, none⟩ = some (.int .i64 n) ∧ w'.cell? ⟨w.heap.size, 1, none⟩ = some (.int .i64 d)) ∧ OneB w w.heap.size 23 #[.int .i64 n, .int .i64 d] w') ((refine (fun hI => ⟨bkf2 hI.k, hI⟩) ?_; repeat (first | assumption | (go_split_ands; assumption) | refine OneB.alloc ?_ _ | refine OneB.drew ?_))) (first
        | (go_at_call 19; ((with_reducible refine (CK.out _).mono ?_)); rintro e w3 ⟨rfl, hb3⟩; have hI3 := OneB.later hb3 (by first | assumption | (go_split_ands; assumption)); clear hb3)
        | (go_at_call 27; ((with_reducible refine (CC.out _).mono ?_)); rintro e w4 ⟨rfl, hb4⟩; have hI4 := OneB.later hb4 (by first | assumption | (go_split_ands; assumption)); clear hb4))
      by_cases hc : cv ≤ 0
      · go_wp2
        go_ret2
        have hR := HR.out
        rw [find_range_some hlt (fun j hj => HJ.out j hj) (by rw [HMK.out]; exact decide_eq_true (by omega))] at hR
        injection hR with hV hX
        subst hV hX
        exact ⟨rfl, hI4.b⟩
      · have hcb : decide (cv ≤ 0) = false := decide_eq_false hc
        have HCB := Lib.hid hcb
        go_wp2
        go_roundw
        case rel =>
          refine ⟨k + 1, by omega, by go_num, fun j hj => ?_, hI4⟩
          rcases (by omega : j < k ∨ j = k) with h | rfl
          · exact HJ.out j h
          · rw [HMK.out, HCB.out]
        case measure => simp only [intOf]; omega
    · obtain rfl : k = t + 1 := by omega
      have hkI : ¬ ((t : Int) + 1) ≤ (t : Int) := by omega
      go_wp2
      go_ret2
      have hR := HR.out
      rw [find_range_none (fun j hj => HJ.out j hj)] at hR
      injection hR with hV hX
      subst hV hX
      exact ⟨rfl, HI.out.b⟩

end Go.Proofs.Ytccoflhoggpgoaa

namespace Go.Proofs.Ytccoflhoggpgoaa
open Go.RowKit

open Go.Shelf

theorem v_lo : loR 2 1 4 50 [1, 1, 4, 6, 0] = ((22, 1), 0) := by decide +kernel
theorem v_tl : tlN 5 4 = 3 ∧ tlD 5 4 = 16 ∧ tlE 5 4 = 0 := by decide +kernel
def pEx : List (List Int) := [[0, 3, 2], [2, 0, 4], [3, 1, 0]]
theorem v_br : pfE pEx = 0 ∧ brF pEx = [0, 1, 2] ∧ dsF pEx [0, 1, 2] = 6 := by decide +kernel
theorem ex_lo (B : Nat) (w : World) (h : RdI w (some ⟨B, 0, none⟩) 5 [1, 1, 4, 6, 0]) :
    Calls Try.prog 32 #[.agg #[.int .i64 2, .int .i64 1, .int .i64 4, .int .i64 50], .slice (some ⟨B, 0, none⟩) 5 5] w fun e w' => e = .returned (.tuple #[.agg #[.int .i64 22, .int .i64 1], .int .i64 0]) ∧ Below w.heap.size w w' := by
  have := LoudnessOf_any 2 1 4 50 (some ⟨B, 0, none⟩) 5 5 _ w h (by omega) (by omega)
  rwa [v_lo] at this
theorem ex_tl (w : World) : Calls Try.prog 16 #[.int .i64 5, .int .i64 4] w fun e w' => e = .returned (.tuple #[.agg #[.int .i64 3, .int .i64 16], .int .i64 0]) ∧ Below w.heap.size w w' := by
  have := TailOf_any 5 4 w
  rwa [v_tl.1, v_tl.2.1, v_tl.2.2] at this
theorem ex_br (A : Option Addr) (c : Nat) (w : World) (h : RdGo w A 3 pEx) : Calls Try.prog 67 #[.slice A 3 c] w fun e w' => (∃ B d, e = .returned (.tuple #[.slice (some B) 3 d, .int .i64 6, .int .i64 0]) ∧ RdI w' (some B) 3 [0, 1, 2]) ∧ Below w.heap.size w w' := by
  refine (bestRanking_any A 3 c pEx w h (by omega)).mono ?_
  rintro e w' ⟨_, h2, hb⟩
  obtain ⟨B, d, he, _, hr, hB⟩ := h2 v_br.1
  rw [v_br.2.1, v_br.2.2] at he
  rw [v_br.2.1] at hr
  cases B with
  | none => exact absurd (hB rfl).1 (by omega)
  | some B => exact ⟨⟨B, d, he, hr⟩, hb⟩
theorem rdgo_ex (w : World) : RdGo ((((w.alloc (.cells #[.int .i64 0, .int .i64 3, .int .i64 2] 3)).alloc (.cells #[.int .i64 2, .int .i64 0, .int .i64 4] 3)).alloc (.cells #[.int .i64 3, .int .i64 1, .int .i64 0] 3)).alloc (.cells #[.slice (some ⟨w.heap.size, 0, none⟩) 3 3, .slice (some ⟨w.heap.size + 1, 0, none⟩) 3 3, .slice (some ⟨w.heap.size + 2, 0, none⟩) 3 3] 43)) (some ⟨w.heap.size + 3, 0, none⟩) 3 pEx := by
  refine ⟨rfl, fun _ => ⟨_, rfl, by simp, fun j hj => ?_⟩⟩
  rcases (by omega : j = 0 ∨ j = 1 ∨ j = 2) with rfl | rfl | rfl
  · refine ⟨some ⟨w.heap.size, 0, none⟩, 3, 3, by rw [addOff]; simp [go_sem], ⟨rfl, fun _ => ⟨_, rfl, by simp; omega, fun i hi => ?_⟩⟩, fun h => by cases h⟩
    rcases (by omega : i = 0 ∨ i = 1 ∨ i = 2) with rfl | rfl | rfl <;> (rw [addOff]; simp [go_sem, pEx])
  · refine ⟨some ⟨w.heap.size + 1, 0, none⟩, 3, 3, by rw [addOff]; simp [go_sem], ⟨rfl, fun _ => ⟨_, rfl, by simp, fun i hi => ?_⟩⟩, fun h => by cases h⟩
    rcases (by omega : i = 0 ∨ i = 1 ∨ i = 2) with rfl | rfl | rfl <;> (rw [addOff]; simp [go_sem, pEx])
  · refine ⟨some ⟨w.heap.size + 2, 0, none⟩, 3, 3, by rw [addOff]; simp [go_sem], ⟨rfl, fun _ => ⟨_, rfl, by simp, fun i hi => ?_⟩⟩, fun h => by cases h⟩
    rcases (by omega : i = 0 ∨ i = 1 ∨ i = 2) with rfl | rfl | rfl <;> (rw [addOff]; simp [go_sem, pEx])

theorem belowA {w W : World} (h : Below w.heap.size w W) (o : Obj) : Below w.heap.size w (W.alloc o) := h.alloc h.size o
theorem litA (W : World) : RdI (W.alloc (.cells #[.int .i64 0, .int .i64 1, .int .i64 2] 3)) (some ⟨W.heap.size, 0, none⟩) 3 [0, 1, 2] := rd_of_bk (xs := [0, 1, 2]) (Bk.new _ _ _) rfl

set_option maxRecDepth 100000 in
set_option maxHeartbeats 4000000 in
theorem awake_any (w : World) : Calls Try.prog 15 #[] w fun e w' => e = .returned (.bool true) ∧ Below w.heap.size w w' := by
  go_enter Try.func15, Try.ntmps15
  go_wp2_with fail
  refine (ex_lo w.heap.size _ (rd_of_bk (xs := [1, 1, 4, 6, 0]) (Bk.new _ _ _) rfl)).mono ?_
  rintro e w1 ⟨rfl, hb1⟩
  have l1 := Lib.hid ((below1 w _).trans (hb1.mono (by simp)))
  clear hb1
  have K1 := Lib.hid (Bk.new w1 23 #[.int .i64 22, .int .i64 1])
  have l2 := Lib.hid ((l1.out.alloc l1.out.size (.cells #[.int .i64 22, .int .i64 1] 23)))
  go_wp2_with fail
  obtain ⟨g1, hg1⟩ : ∃ g, w1.heap.size = g := ⟨_, rfl⟩
  obtain ⟨wA, hwA⟩ : ∃ W, w1.alloc (.cells #[.int .i64 22, .int .i64 1] 23) = W := ⟨_, rfl⟩
  have hsA : g1 + 1 = wA.heap.size := by rw [← hwA, ← hg1]; simp
  rw [hwA] at l2 K1 ⊢
  rw [hg1] at K1 ⊢
  rw [hsA]
  clear hwA hg1 hsA l1
  refine (TruePeak_ex wA.heap.size 2 _ (Bk.new _ _ _)).mono ?_
  rintro e w3 ⟨rfl, hb3⟩
  have hb3' := (below1 wA _).trans (hb3.mono (by simp))
  have l3 := Lib.hid (l2.out.trans (hb3'.mono l2.out.size))
  have K3 := Lib.hid (K1.out.later hb3')
  clear hb3 hb3' l2 K1
  have N3 := Lib.hid (Bk.new w3 23 #[.int .i64 144, .int .i64 1])
  have l4 := Lib.hid ((l3.out.alloc l3.out.size (.cells #[.int .i64 144, .int .i64 1] 23)))
  have K4 := Lib.hid (K3.out.alloc (.cells #[.int .i64 144, .int .i64 1] 23))
  go_wp2_with fail
  obtain ⟨g3, hg3⟩ : ∃ g, w3.heap.size = g := ⟨_, rfl⟩
  obtain ⟨wA, hwA⟩ : ∃ W, w3.alloc (.cells #[.int .i64 144, .int .i64 1] 23) = W := ⟨_, rfl⟩
  rw [hwA] at l4 K4 N3 ⊢
  rw [hg3] at N3 ⊢
  clear hwA hg3 l3 K3
  refine (ex_tl wA).mono ?_
  rintro e w5 ⟨rfl, hb5⟩
  have l5 := Lib.hid (l4.out.trans (hb5.mono l4.out.size))
  have K5 := Lib.hid (K4.out.later hb5)
  have N5 := Lib.hid (N3.out.later hb5)
  clear hb5 l4 K4 N3
  have M5 := Lib.hid (Bk.new w5 23 #[.int .i64 3, .int .i64 16])
  have l6 := Lib.hid ((l5.out.alloc l5.out.size (.cells #[.int .i64 3, .int .i64 16] 23)))
  have K6 := Lib.hid (K5.out.alloc (.cells #[.int .i64 3, .int .i64 16] 23))
  have N6 := Lib.hid (N5.out.alloc (.cells #[.int .i64 3, .int .i64 16] 23))
  go_wp2_with fail
  obtain ⟨g5, hg5⟩ : ∃ g, w5.heap.size = g := ⟨_, rfl⟩
  obtain ⟨wA, hwA⟩ : ∃ W, w5.alloc (.cells #[.int .i64 3, .int .i64 16] 23) = W := ⟨_, rfl⟩
  have hsA : g5 + 1 = wA.heap.size := by rw [← hwA, ← hg5]; simp
  rw [hwA] at l6 K6 N6 M5 ⊢
  rw [hg5] at M5 ⊢
  rw [hsA]
  clear hwA hg5 hsA l5 K5 N5
  refine (ex_br _ 3 _ (rdgo_ex wA)).mono ?_
  rintro e w7 ⟨⟨B, d, rfl, hr7⟩, hb7⟩
  have hb7' : Below wA.heap.size wA w7 := (((((Below.refl _ wA).alloc (Nat.le_refl _) _).alloc (by simp) _).alloc (by simp; omega) _).alloc (by simp; omega) _).trans (hb7.mono (by simp; omega))
  have l7 := Lib.hid (l6.out.trans (hb7'.mono l6.out.size))
  have K7 := Lib.hid (K6.out.later hb7')
  have N7 := Lib.hid (N6.out.later hb7')
  have M7 := Lib.hid (M5.out.later hb7')
  have R7 := Lib.hid hr7
  clear hb7 hb7' hr7 l6 K6 N6 M5
  have HC : Hid (∀ W, Below w7.heap.size w7 W → (W.cell? ⟨g1, 0, none⟩ = some (.int .i64 22) ∧ W.cell? ⟨g1, 1, none⟩ = some (.int .i64 1)) ∧ (W.cell? ⟨g3, 0, none⟩ = some (.int .i64 144) ∧ W.cell? ⟨g3, 1, none⟩ = some (.int .i64 1)) ∧ (W.cell? ⟨g5, 0, none⟩ = some (.int .i64 3) ∧ W.cell? ⟨g5, 1, none⟩ = some (.int .i64 16))) := fun W hb => ⟨bkf2 (K7.out.later hb), bkf2 (N7.out.later hb), bkf2 (M7.out.later hb)⟩
  have hB7 : Below w7.heap.size w7 w7 := Below.refl _ _
  have HW22 := Lib.hid (bWhole_any 22)
  have HW144 := Lib.hid (bWhole_any 144)
  have HI : Hid (∀ W, Below w7.heap.size w7 W → Calls Try.prog 36 #[.slice (some B) 3 d, .slice (some ⟨W.heap.size, 0, none⟩) 3 3] (W.alloc (.cells #[.int .i64 0, .int .i64 1, .int .i64 2] 3)) fun e w' => e = .returned (.bool true) ∧ Below w7.heap.size w7 w') := fun W hb =>
    (ints_any (some B) (some ⟨W.heap.size, 0, none⟩) 3 3 d 3 [0, 1, 2] [0, 1, 2] (W.alloc (.cells #[.int .i64 0, .int .i64 1, .int .i64 2] 3)) (R7.out.below (belowA hb _)) (litA W) (by omega) (by omega)).mono fun e w' ⟨he, k, hk⟩ => ⟨he, by rw [hk]; exact blw_drewN (belowA hb _) k⟩
  go_wp2
  go_region_held3 (fun w' : World => ((w'.cell? ⟨g1, 0, none⟩ = some (.int .i64 22) ∧ w'.cell? ⟨g1, 1, none⟩ = some (.int .i64 1)) ∧ (w'.cell? ⟨g3, 0, none⟩ = some (.int .i64 144) ∧ w'.cell? ⟨g3, 1, none⟩ = some (.int .i64 1)) ∧ (w'.cell? ⟨g5, 0, none⟩ = some (.int .i64 3) ∧ w'.cell? ⟨g5, 1, none⟩ = some (.int .i64 16))) ∧ Below w7.heap.size w7 w') ((refine (fun hI => ⟨HC.out _ hI, hI⟩) ?_; repeat (first | with_reducible assumption | (go_split_ands; with_reducible assumption) | with_reducible refine belowA ?_ _ | with_reducible refine Below.drew ?_))) (first
    | (go_at_call 23; ((with_reducible refine (HW22.out _).mono ?_)); rintro e w8 ⟨rfl, hb8⟩; have hb8' : Below w7.heap.size w7 w8 := Below.trans (by first | assumption | (go_split_ands; assumption)) (hb8.mono (Below.size (by first | assumption | (go_split_ands; assumption)))); clear hb8)
    | (go_at_call 23; ((with_reducible refine (HW144.out _).mono ?_)); rintro e w9 ⟨rfl, hb9⟩; have hb9' : Below w7.heap.size w7 w9 := Below.trans (by first | assumption | (go_split_ands; assumption)) (hb9.mono (Below.size (by first | assumption | (go_split_ands; assumption)))); clear hb9)
    | (go_at_call 36; ((with_reducible refine (HI.out _ ?_).mono ?_)); (focus (first | assumption | (go_split_ands; assumption))); rintro e w10 ⟨rfl, hb10⟩))
  all_goals
    go_wp2
    go_ret
    exact ⟨rfl, l7.out.trans (hb10.mono l7.out.size)⟩

end Go.Proofs.Ytccoflhoggpgoaa

namespace Go.Proofs.Ytccoflhoggpgoaa
open Go.RowKit

open Go.Shelf

theorem copyIntsR_any (A : Option Addr) (n c : Nat) (l : List Int) (w : World) (hA : A = none → n = 0 ∧ c = 0) (hr : RdI w A n l) (hn : n ≤ 1000000) :
    Calls Try.prog 31 #[.slice A n c] w fun e w' => (∃ A' c', e = .returned (.slice A' n c') ∧ n ≤ c' ∧ RdI w' A' n l) ∧ Below w.heap.size w w' := by
  refine (copyInts_any A n c l w hA hr hn).mono ?_
  rintro e w' ⟨⟨v, rfl, ho⟩, hb⟩
  obtain ⟨A', c', rfl, h1, h2⟩ := rd_of_own ho
  have hl := hr.1
  rw [hl] at h1 h2 ⊢
  exact ⟨⟨A', c', rfl, h1, h2⟩, hb⟩
theorem orderErrB_any (P : Option Addr) (n pc : Nat) (B : Option Addr) (m c : Nat) (o : List Int) (w : World) (hr : RdI w B m o) (hmc : m ≤ c) (hn : n ≤ 1000000) (hm : m ≤ 1000000) :
    Calls Try.prog 72 #[.slice P n pc, .slice B m c] w fun e w' => e = .returned (.int .i64 (odE n o)) ∧ Below w.heap.size w w' := by
  refine (refOrderErr_any P n pc B m c o w hr hmc hn hm).mono ?_
  rintro e w' ⟨rfl, q, rfl⟩
  exact ⟨rfl, blw_drewN (Below.refl _ _) q⟩
theorem beforeB_any (A : Option Addr) (n c : Nat) (xs : List Int) (B : Option Addr) (m d : Nat) (ys : List Int) (w : World) (hr : RdI w A n xs) (hs : RdI w B m ys) (hn : n ≤ 1000000) (hm : m ≤ 1000000) :
    Calls Try.prog 74 #[.slice A n c, .slice B m d] w fun e w' => e = .returned (.bool (bfF xs ys)) ∧ Below w.heap.size w w' := by
  refine (before_any A n c xs B m d ys w hr hs hn hm).mono ?_
  rintro e w' ⟨rfl, q, rfl⟩
  exact ⟨rfl, blw_drewN (Below.refl _ _) q⟩

end Go.Proofs.Ytccoflhoggpgoaa

namespace Go.Proofs.Ytccoflhoggpgoaa
open Go.RowKit

open Go.Shelf

theorem maxM (a b : Int) : ∀ ts t W, (Builtin.max_ ts t #[.int .i64 a, .int .i64 b]).run Try.prog W = .ok (.int .i64 (max a b)) W := by
  intro ts t W
  simp [Builtin.max_, Builtin.max2, go_sem]
  first
  | done
  | (by_cases h : a < b
     · rw [Int.max_eq_right (by omega)]; simp_all; (try (intro _; omega))
     · rw [Int.max_eq_left (by omega)]; simp_all; (try (intro _; omega)))
/-! ### notes and edits -/
structure Nt where
  a : Int
  l : Int
  t : ByteArray
structure Ed where
  i : Bool
  a : Int
  l : Int
def insF (e : Ed) (n : Nt) : Nt := if e.a ≤ n.a then ⟨n.a + e.l, n.l, n.t⟩ else if e.a < n.a + n.l then ⟨n.a, n.l + e.l, n.t⟩ else n
def cutB (e : Ed) (n : Nt) : Bool := decide (e.a ≤ n.a) && decide (n.a + max n.l 1 ≤ e.a + e.l)
def plF (e : Ed) (b : Int) : Int := b - min (max (b - e.a) 0) e.l
def cutF (e : Ed) (n : Nt) : Nt := ⟨plF e n.a, plF e (n.a + n.l) - plF e n.a, n.t⟩
def mvF (e : Ed) (n : Nt) : Option Nt := if e.i = true then some (insF e n) else if cutB e n = true then none else some (cutF e n)
def mvs : List Ed → Nt → Option Nt
  | [], n => some n
  | e :: es, n => match mvF e n with
    | none => none
    | some m => mvs es m
def NtOk (B : Int) (n : Nt) : Prop := (0 ≤ n.a ∧ n.a ≤ B) ∧ 0 ≤ n.l ∧ n.l ≤ B
def EdOk (e : Ed) : Prop := (0 ≤ e.a ∧ e.a ≤ 1000000) ∧ 1 ≤ e.l ∧ e.l ≤ 1000000
theorem insF_ok {B : Int} {e : Ed} {n : Nt} (he : EdOk e) (hn : NtOk B n) : NtOk (B + 1000000) (insF e n) := by
  obtain ⟨⟨h1, h2⟩, h3, h4⟩ := hn
  obtain ⟨⟨k1, k2⟩, k3, k4⟩ := he
  unfold insF NtOk
  split
  · exact ⟨⟨by show 0 ≤ n.a + e.l; omega, by show n.a + e.l ≤ _; omega⟩, h3, by show n.l ≤ _; omega⟩
  · split
    · exact ⟨⟨h1, by show n.a ≤ _; omega⟩, by show 0 ≤ n.l + e.l; omega, by show n.l + e.l ≤ _; omega⟩
    · exact ⟨⟨h1, by omega⟩, h3, by omega⟩
theorem cutF_ok {B : Int} {e : Ed} {n : Nt} (he : EdOk e) (hn : NtOk B n) : NtOk (B + 1000000) (cutF e n) := by
  obtain ⟨⟨h1, h2⟩, h3, h4⟩ := hn
  obtain ⟨⟨k1, k2⟩, k3, k4⟩ := he
  unfold cutF NtOk plF
  refine ⟨⟨?_, ?_⟩, ?_, ?_⟩
  · show 0 ≤ n.a - min (max (n.a - e.a) 0) e.l; omega
  · show n.a - min (max (n.a - e.a) 0) e.l ≤ _; omega
  · show 0 ≤ n.a + n.l - min (max (n.a + n.l - e.a) 0) e.l - (n.a - min (max (n.a - e.a) 0) e.l); omega
  · show n.a + n.l - min (max (n.a + n.l - e.a) 0) e.l - (n.a - min (max (n.a - e.a) 0) e.l) ≤ _; omega
theorem mvF_ok {B : Int} {e : Ed} {n m : Nt} (he : EdOk e) (hn : NtOk B n) (h : mvF e n = some m) : NtOk (B + 1000000) m := by
  unfold mvF at h
  by_cases hi : e.i = true
  · rw [if_pos hi] at h
    cases h
    exact insF_ok he hn
  · rw [if_neg hi] at h
    by_cases hc : cutB e n = true
    · rw [if_pos hc] at h; cases h
    · rw [if_neg hc] at h
      cases h
      exact cutF_ok he hn
def Ed.v (e : Ed) : Array Value := #[.bool e.i, .int .i64 e.a, .int .i64 e.l]
def Nt.v (n : Nt) : Array Value := #[.int .i64 n.a, .int .i64 n.l, .string n.t]
theorem bk3N {W : World} {g : Nat} {t : TypeId} {a b c : Value} (h : Bk W g t #[a, b, c]) : W.cell? ⟨g, 0, none⟩ = some a ∧ W.cell? ⟨g, 1, none⟩ = some b ∧ W.cell? ⟨g, 2, none⟩ = some c ∧ W.frozen? ⟨g, 0, none⟩ = false ∧ W.frozen? ⟨g, 1, none⟩ = false ∧ W.frozen? ⟨g, 2, none⟩ = false :=
  ⟨by rw [h.cell]; rfl, by rw [h.cell]; rfl, by rw [h.cell]; rfl, h.frozen 0, h.frozen 1, h.frozen 2⟩

end Go.Proofs.Ytccoflhoggpgoaa

