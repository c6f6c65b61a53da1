import Derived.Test.YtghpofhpkbgckaaE77
import Derived.Test.YtghpofhpkbgckaaE78
import Derived.Test.YtghpofhpkbgckaaE79
import Derived.Test.YtghpofhpkbgckaaE80

namespace Go.Proofs.Ytghpofhpkbgckaa
open Go.RowKit

set_option maxRecDepth 100000 in
set_option maxHeartbeats 4000000 in
theorem cpw_farf (A : Option Addr) (n c : Nat) (b : Int) (B : Option Addr) (m d : Nat) (b2 : Int) (X : Option Addr) (k e : Nat) (w : World) (hn : ¬ n ≤ 10)
    : Calls Try.prog 7 #[.agg #[.slice A n c, .int .i64 b], .agg #[.slice B m d, .int .i64 b2], .slice X k e] w fun e w' => e = .returned (.bool true) ∧ Below w.heap.size w w' := by
  have CT1 := Lib.hid (fun W => taps_any A n c b W)
  rw [decide_eq_false hn] at CT1
  have T0 : Hid (TwoB w #[.slice A n c, .int .i64 b] #[.slice B m d, .int .i64 b2] ((w.alloc (.cells #[.slice A n c, .int .i64 b] 45)).alloc (.cells #[.slice B m d, .int .i64 b2] 45))) := Lib.hid ⟨(Bk.new _ _ _).alloc _, by simpa using Bk.new (w.alloc (.cells #[.slice A n c, .int .i64 b] 45)) 45 #[.slice B m d, .int .i64 b2], below2 _ _ _⟩
  go_enter Try.func7, Try.ntmps7
  go_wp2_with fail
  refine (awake_any _).mono ?_
  rintro e w1 ⟨rfl, hb⟩
  have T1 := Lib.hid (TwoB.later hb T0.out)
  clear hb T0
  obtain ⟨⟨d0, d1⟩, e0, e1⟩ := T1.out.four
  go_wp2_with fail
  refine (CT1.out _).mono ?_
  rintro e w2 ⟨rfl, hb⟩
  have T2 := Lib.hid (TwoB.later hb T1.out)
  clear hb T1 d0 d1 e0 e1
  go_wp2
  go_ret
  exact ⟨by simp, T2.out.b⟩
set_option maxRecDepth 100000 in
set_option maxHeartbeats 4000000 in
theorem cpw_farg (A : Option Addr) (n c : Nat) (b : Int) (B : Option Addr) (m d : Nat) (b2 : Int) (X : Option Addr) (k e : Nat) (w : World) (hn : n ≤ 10) (hm : ¬ m ≤ 10)
    : Calls Try.prog 7 #[.agg #[.slice A n c, .int .i64 b], .agg #[.slice B m d, .int .i64 b2], .slice X k e] w fun e w' => e = .returned (.bool true) ∧ Below w.heap.size w w' := by
  have CT1 := Lib.hid (fun W => taps_any A n c b W)
  rw [decide_eq_true hn] at CT1
  have CT2 := Lib.hid (fun W => taps_any B m d b2 W)
  rw [decide_eq_false hm] at CT2
  have T0 : Hid (TwoB w #[.slice A n c, .int .i64 b] #[.slice B m d, .int .i64 b2] ((w.alloc (.cells #[.slice A n c, .int .i64 b] 45)).alloc (.cells #[.slice B m d, .int .i64 b2] 45))) := Lib.hid ⟨(Bk.new _ _ _).alloc _, by simpa using Bk.new (w.alloc (.cells #[.slice A n c, .int .i64 b] 45)) 45 #[.slice B m d, .int .i64 b2], below2 _ _ _⟩
  go_enter Try.func7, Try.ntmps7
  go_wp2_with fail
  refine (awake_any _).mono ?_
  rintro e w1 ⟨rfl, hb⟩
  have T1 := Lib.hid (TwoB.later hb T0.out)
  clear hb T0
  obtain ⟨⟨d0, d1⟩, e0, e1⟩ := T1.out.four
  go_wp2_with fail
  refine (CT1.out _).mono ?_
  rintro e w2 ⟨rfl, hb⟩
  have T2 := Lib.hid (TwoB.later hb T1.out)
  clear hb T1 d0 d1 e0 e1
  obtain ⟨⟨d0, d1⟩, e0, e1⟩ := T2.out.four
  go_wp2_with fail
  refine (CT2.out _).mono ?_
  rintro e w3 ⟨rfl, hb⟩
  have T3 := Lib.hid (TwoB.later hb T2.out)
  clear hb T2 d0 d1 e0 e1
  go_wp2
  go_ret
  exact ⟨by simp, T3.out.b⟩
set_option maxRecDepth 100000 in
set_option maxHeartbeats 4000000 in
theorem cpw_farx (A : Option Addr) (n c : Nat) (b : Int) (B : Option Addr) (m d : Nat) (b2 : Int) (X : Option Addr) (k e : Nat) (w : World) (hn : n ≤ 10) (hm : m ≤ 10) (hk : 20 < k) (hk0 : k ≤ 9223372036854775807)
    : Calls Try.prog 7 #[.agg #[.slice A n c, .int .i64 b], .agg #[.slice B m d, .int .i64 b2], .slice X k e] w fun e w' => e = .returned (.bool true) ∧ Below w.heap.size w w' := by
  have CT1 := Lib.hid (fun W => taps_any A n c b W)
  rw [decide_eq_true hn] at CT1
  have CT2 := Lib.hid (fun W => taps_any B m d b2 W)
  rw [decide_eq_true hm] at CT2
  have hk2 : (20 : Int) < (k : Int) := by omega
  have T0 : Hid (TwoB w #[.slice A n c, .int .i64 b] #[.slice B m d, .int .i64 b2] ((w.alloc (.cells #[.slice A n c, .int .i64 b] 45)).alloc (.cells #[.slice B m d, .int .i64 b2] 45))) := Lib.hid ⟨(Bk.new _ _ _).alloc _, by simpa using Bk.new (w.alloc (.cells #[.slice A n c, .int .i64 b] 45)) 45 #[.slice B m d, .int .i64 b2], below2 _ _ _⟩
  go_enter Try.func7, Try.ntmps7
  go_wp2_with fail
  refine (awake_any _).mono ?_
  rintro e w1 ⟨rfl, hb⟩
  have T1 := Lib.hid (TwoB.later hb T0.out)
  clear hb T0
  obtain ⟨⟨d0, d1⟩, e0, e1⟩ := T1.out.four
  go_wp2_with fail
  refine (CT1.out _).mono ?_
  rintro e w2 ⟨rfl, hb⟩
  have T2 := Lib.hid (TwoB.later hb T1.out)
  clear hb T1 d0 d1 e0 e1
  obtain ⟨⟨d0, d1⟩, e0, e1⟩ := T2.out.four
  go_wp2_with fail
  refine (CT2.out _).mono ?_
  rintro e w3 ⟨rfl, hb⟩
  have T3 := Lib.hid (TwoB.later hb T2.out)
  clear hb T2 d0 d1 e0 e1
  go_wp2
  go_ret
  exact ⟨by simp, T3.out.b⟩
theorem flN_to {cs xs L : List Int} {b E : Int} {n m k : Nat} (h : flsE cs b xs = E ∧ flsL cs b xs = L) (hk : L.length = k) (hn : n ≤ 1000000) (hm : m ≤ 1000000) (A : Option Addr) (c : Nat) (B : Option Addr) (d : Nat) (W : World) (hr : RdI W A n cs) (hx : RdI W B m xs) :
    Calls Try.prog 28 #[.agg #[.slice A n c, .int .i64 b], .slice B m d] W (RdResN W E k L) := by
  refine (Filtered_any A n c b cs B m d xs W hr hn hx hm).mono ?_
  intro e w' ho
  rw [h.1, h.2] at ho
  exact ho.rdN hk
theorem cm_to {cs ds L : List Int} {b b2 E D : Int} {n m l : Nat} (h : cmE cs b ds b2 = E ∧ cmD cs b ds b2 = D ∧ cmL cs b ds b2 = L) (hl : L.length = l) (hn : n ≤ 1000000) (hm : m ≤ 1000000) (A : Option Addr) (c : Nat) (B : Option Addr) (d : Nat) (W : World) (hr : RdI W A n cs) (hx : RdI W B m ds) :
    Calls Try.prog 43 #[.agg #[.slice A n c, .int .i64 b], .agg #[.slice B m d, .int .i64 b2]] W (CpR W E D l L) := by
  have := Composed_any A n c b cs B m d b2 ds W hr hn hx hm
  rwa [h.1, h.2.1, h.2.2, hl] at this
theorem composed_walk (A : Option Addr) (n c : Nat) (b : Int) (cs : List Int) (B : Option Addr) (m d : Nat) (b2 : Int) (ds : List Int) (X : Option Addr) (k e : Nat) (xs : List Int) (w : World)
    (hr : RdI w A n cs) (hn0 : n ≤ 9223372036854775807) (hA : A = none → n = 0 ∧ c = 0) (hr2 : RdI w B m ds) (hm0 : m ≤ 9223372036854775807) (hB : B = none → m = 0 ∧ d = 0) (hx : RdI w X k xs) (hk0 : k ≤ 9223372036854775807) (hX : X = none → k = 0 ∧ e = 0) :
    Calls Try.prog 7 #[.agg #[.slice A n c, .int .i64 b], .agg #[.slice B m d, .int .i64 b2], .slice X k e] w fun e w' => e = .returned (.bool true) ∧ Below w.heap.size w w' := by
  by_cases hn : n ≤ 10
  rotate_left
  · exact cpw_farf A n c b B m d b2 X k e w hn
  by_cases hm : m ≤ 10
  rotate_left
  · exact cpw_farg A n c b B m d b2 X k e w hn hm
  by_cases hk : k ≤ 20
  rotate_left
  · exact cpw_farx A n c b B m d b2 X k e w hn hm (by omega) hk0
  have CFe1 := fun W (h : RdI W A n cs) => refFilterErr_any A n c b cs W h (by omega)
  have CFe2 := fun W (h : RdI W B m ds) => refFilterErr_any B m d b2 ds W h (by omega)
  by_cases hD : fltE cs b = 0
  rotate_left
  · have h0 : cm0 cs b ds b2 = fltE cs b := by rw [cm0, firstNZ2, if_neg hD]
    have hE : cmE cs b ds b2 = fltE cs b := by rw [cmE, h0, if_neg hD]
    have hM : cmD cs b ds b2 = 0 := by rw [cmD, hE, if_neg hD]
    have hL : cmL cs b ds b2 = [] := by rw [cmL, hE, if_neg hD]
    exact cpw_D A n c b b2 cs B m d ds X k e xs w _ hD hr hr2 hx hn hm hk hA hB hX (fun A' c' B' d' W h1 h2 => cm_to ⟨hE, hM, hL⟩ rfl (by omega) (by omega) A' c' B' d' W h1 h2) CFe1
  rw [hD] at CFe1
  by_cases hG : fltE ds b2 = 0
  rotate_left
  · have h0 : cm0 cs b ds b2 = fltE ds b2 := by rw [cm0, firstNZ2, if_pos hD]
    have hE : cmE cs b ds b2 = fltE ds b2 := by rw [cmE, h0, if_neg hG]
    have hM : cmD cs b ds b2 = 0 := by rw [cmD, hE, if_neg hG]
    have hL : cmL cs b ds b2 = [] := by rw [cmL, hE, if_neg hG]
    exact cpw_G A n c b b2 cs B m d ds X k e xs w _ hG hr hr2 hx hn hm hk hA hB hX (fun A' c' B' d' W h1 h2 => cm_to ⟨hE, hM, hL⟩ rfl (by omega) (by omega) A' c' B' d' W h1 h2) CFe1 CFe2
  rw [hG] at CFe2
  have hok := fltE_zero hD
  have hok2 := fltE_zero hG
  have h0 : cm0 cs b ds b2 = 0 := by rw [cm0, firstNZ2, if_pos hD]; exact hG
  have CRC := fun E D L hE hD2 hL2 W (h1 : RdI W A n cs) (h2 : RdI W B m ds) => refComposed_any A n c b cs B m d b2 ds W h1 h2 hok hok2 E hE D hD2 L hL2
  by_cases hF : fltE (conv cs ds) (b * b2) = 0
  rotate_left
  · have hE : cmE cs b ds b2 = 8 := by rw [cmE, h0, if_pos rfl, if_neg hF]
    have hM : cmD cs b ds b2 = 0 := by rw [cmD, hE, if_neg (by decide)]
    have hL : cmL cs b ds b2 = [] := by rw [cmL, hE, if_neg (by decide)]
    exact cpw_L A n c b b2 cs B m d ds X k e xs w hr hr2 hx hn hm hk hA hB hX (fun A' c' B' d' W h1 h2 => cm_to ⟨hE, hM, hL⟩ rfl (by omega) (by omega) A' c' B' d' W h1 h2) CFe1 CFe2
      (fun W h1 h2 => CRC 8 0 [] (by rw [if_neg hF]) (by rw [if_neg (by decide)]) (by rw [if_neg (by decide)]) W h1 h2)
  have hE : cmE cs b ds b2 = 0 := by rw [cmE, h0, if_pos rfl, if_pos hF]
  have hM : cmD cs b ds b2 = b * b2 := by rw [cmD, hE, if_pos rfl]
  have hL : cmL cs b ds b2 = conv cs ds := by rw [cmL, hE, if_pos rfl]
  have hcl : (conv cs ds).length ≤ 1000 := by rw [conv_len]; omega
  have CCo := fun A' c' B' d' W h1 h2 => cm_to (n := n) (m := m) ⟨hE, hM, hL⟩ rfl (by omega) (by omega) A' c' B' d' W h1 h2
  have CR := fun W h1 h2 => CRC 0 (b * b2) (conv cs ds) (by rw [if_pos hF]) (by rw [if_pos rfl]) (by rw [if_pos rfl]) W h1 h2
  by_cases hb1 : b = 1
  rotate_left
  · exact cpw_b A n c b b2 cs B m d ds X k e xs w _ _ hcl hb1 hr hr2 hx hn hm hk hA hB hX CCo CFe1 CFe2 CR
  subst hb1
  rw [Int.one_mul] at CCo CR hF
  by_cases hb2 : b2 = 1
  rotate_left
  · exact cpw_g A n c b2 cs B m d ds X k e xs w _ _ hcl hb2 hr hr2 hx hn hm hk hA hB hX CCo CFe1 CFe2 CR
  subst hb2
  have CSg := fun W (h : RdI W X k xs) => refSignalErr_any X k e xs W h (by omega)
  by_cases hS : sigE xs = 0
  rotate_left
  · exact cpw_S A n c cs B m d ds X k e xs w _ hS _ _ hcl hr hr2 hx hn hm hk hA hB hX CCo CFe1 CFe2 CR CSg
  rw [hS] at CSg
  have hl1 : (filt cs 1 xs).length = k := (filt_len cs 1 xs).trans hx.1
  have hl2 : (filt (conv cs ds) 1 xs).length = k := (filt_len _ 1 xs).trans hx.1
  have CFx := fun A' c' B' d' W (h1 : RdI W A' n cs) (h2 : RdI W B' k xs) => flN_to (fls_ok hD hS) hl1 (by omega) (by omega) A' c' B' d' W h1 h2
  have CFh := fun A' c' B' d' W (h1 : RdI W A' (conv cs ds).length (conv cs ds)) (h2 : RdI W B' k xs) => fl_to (fls_ok hF hS) hl2 (by omega) (by omega) A' c' B' d' W h1 h2
  have CSa := fun B' d' W (h : RdI W B' k (filt cs 1 xs)) => refSignalErr_any B' k d' (filt cs 1 xs) W h (by omega)
  by_cases hSa : sigE (filt cs 1 xs) = 0
  rotate_left
  · exact cpw_A A n c cs B m d ds X k e xs w _ hSa _ _ hcl _ _ hr hr2 hx hn hm hk hA hB hX CCo CFe1 CFe2 CR CSg CFx CFh CSa
  rw [hSa] at CSa
  have hcv : filt (conv cs ds) 1 xs = filt ds 1 (filt cs 1 xs) := filt_conv cs ds xs (by omega)
  have hl3 : (filt ds 1 (filt cs 1 xs)).length = k := (filt_len ds 1 _).trans hl1
  have CFg := fun A' c' B' d' W (h1 : RdI W A' m ds) (h2 : RdI W B' k (filt cs 1 xs)) => fl_to (fls_ok hG hSa) hl3 (by omega) (by omega) A' c' B' d' W h1 h2
  rw [← hcv] at CFg
  exact cpw_k A n c cs B m d ds X k e xs w _ _ hcl _ _ hr hr2 hx hn hm hk hA hB hX CCo CFe1 CFe2 CR CSg CFx CFh CSa CFg

end Go.Proofs.Ytghpofhpkbgckaa
