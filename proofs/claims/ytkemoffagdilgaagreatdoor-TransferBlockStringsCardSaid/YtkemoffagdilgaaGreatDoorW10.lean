import Derived.Test.YtkemoffagdilgaaGreatDoorUB
import Derived.Test.YtkemoffagdilgaaGreatDoorUA
import Derived.Deep.RegionLaw
namespace Go.Proofs.YtkemoffagdilgaaGreatDoor
open Go.RowKit

theorem u64_and_nat (a b : Nat) (ha : a < 18446744073709551616) (hb : b < 18446744073709551616) : bits BinOp.and IntKind.u64 (a : Int) (b : Int) = ((a &&& b : Nat) : Int) := by
  have hx : a &&& b < 2 ^ 64 := Nat.and_lt_two_pow _ (by omega)
  show IntKind.u64.wrap ((BitVec.ofInt 64 (a : Int) &&& BitVec.ofInt 64 (b : Int)).toNat : Int) = _
  have e (n : Nat) (h : n < 18446744073709551616) : (BitVec.ofInt 64 (n : Int)).toNat = n := by
    rw [BitVec.ofInt_natCast, BitVec.toNat_ofNat]; exact Nat.mod_eq_of_lt (by omega)
  rw [BitVec.toNat_and, e a ha, e b hb]
  show ((a &&& b : Nat) : Int) % 18446744073709551616 = _
  omega

theorem mask_and (c : Nat) (hc : c ≤ 1000000) : bits BinOp.and IntKind.u64 (c : Int) 4294967295 = (c : Int) := by
  have h := u64_and_nat c 4294967295 (by omega) (by omega)
  have e : c &&& 4294967295 = c := by
    rw [show (4294967295 : Nat) = 2 ^ 32 - 1 from rfl, Nat.and_two_pow_sub_one_eq_mod]
    exact Nat.mod_eq_of_lt (by omega)
  rw [e] at h
  exact h
theorem mask_one : bits BinOp.and IntKind.u64 1 4294967295 = 1 := by decide +kernel

set_option maxRecDepth 100000 in
theorem mul_one_any (c : Nat) (hc : c ≤ 1000000) (w : World) :
    Calls Tryz.prog 58 #[.int .u64 1, .int .u64 c] w fun e w' => e = .returned (.tuple #[.int .u64 0, .int .u64 c]) ∧ w = w' := by
  have m1 := mask_one
  have m2 := mask_and c hc
  have m3 : bits BinOp.and IntKind.u64 0 4294967295 = 0 := by decide +kernel
  have m4 : IntKind.u64.wrap 0 = 0 := by decide +kernel
  have hq : (c : Int) / 4294967296 = 0 := by omega
  go_enter Tryz.func58, Tryz.ntmps58
  go_wp2
  go_ret2
  exact ⟨rfl, rfl⟩

theorem step_if {c : Prop} [Decidable c] {X E : Prop} (hc : c) (h : X) : if c then X else E := by rw [if_pos hc]; exact h

theorem wp_copy_splice {P : Program} {o : Oper} {a : Act} {w : World} {K : Act → World → Prop} {Q : Exit → Act → World → Prop} (hgd : o.guard = none) (d s : Operand) (dT sT : TypeId)
    (ho : o.op = .call { callee := .builtin .copy, args := #[d, s], argTypes := #[dT, sT] }) (elem : TypeId) (hu : P.underlying dT = some (.slice elem)) (hsz : (P.info? elem).map (·.size) = some 1)
    (dp sp : Option Addr) (dLen dCap sLen sCap : Nat) (hd : a.eval d = .slice dp dLen dCap) (hs : a.eval s = .slice sp sLen sCap)
    (g off : Nat) (cur : List Value) (t : TypeId) (hg : w.heap[g]? = some (.cells cur.toArray t (0, 0))) (cs : List Value) (hn : cs.length = Nat.min sLen dLen)
    (hpos : 0 < cs.length → dp = some ⟨g, off, none⟩ ∧ ∃ ad, sp = some ad ∧ ∀ j v, cs[j]? = some v → w.cell? (ad.add j) = some v)
    (hfit : off + cs.length ≤ cur.length) (h1 : ∀ v ∈ cs, v.oneCell' = true) (B : Nat) (w0 : World) (hb : Below B w0 w) (hBg : B ≤ g)
    (h : ∀ w', Hid (w'.heap[g]? = some (.cells (splice cur off cs).toArray t (0, 0))) → Below B w0 w' → K (a.put o.dst (goInt cs.length)) w') : Oper.wp P o a w K Q := by
  have e := step_copy_splice (ops := #[]) (E := True) (Q := Q) hgd d s dT sT ho elem hu hsz dp sp dLen dCap sLen sCap hd hs g off cur t hg cs hn hpos hfit h1 B w0 hb hBg h
  rw [if_pos (by simp [Region.wanted, hgd])] at e
  exact e

theorem intSize : (Tryz.prog.info? 3).map (·.size) = some 1 := by kernel_rfl

/-- n ones, then zeros, c in all. -/
def rowR (c n : Nat) : List Value := repL (Value.int .i64 1) (Value.int .i64 0) c n
def arrR (c n : Nat) : Array Value := (rowR c n).toArray

theorem make_row (c : Nat) (hc : c ≤ 1000000) (W : World) :
    (Instr.makeSlice 40 (.int .i64 (c : Int)) (.int .i64 (c : Int))).run Tryz.prog W = .ok (.slice (some ⟨W.heap.size, 0, none⟩) c c) (W.alloc (.cells (arrR c 0) 3)) := by
  obtain ⟨i0, hi, hz0, hz1, hz2⟩ := info_parts intInfo
  have hr := run_make (P := Tryz.prog) W 40 3 i0 _ intsUnder hi hz0 .i64 .i64 c c (by omega) (by omega) (by rw [hz2]; omega) (by omega)
  rw [hr]
  have e : madeCells (Value.cells (.int .i64 0)) ((c : Int).toNat * i0.size) = arrR c 0 := by
    rw [hz1]
    apply Array.ext'
    have := toList_madeCells_one (Value.int .i64 0) c
    simp only [Int.toNat_natCast, Nat.mul_one]
    show (madeCells #[Value.int .i64 0] c).toList = _
    rw [this]
    simp [arrR, rowR, repL]
  rw [e]
  simp

set_option maxRecDepth 100000 in
set_option maxHeartbeats 1000000 in
theorem repeat_any (b c : Nat) (w : World) (hc : c ≤ 1000000) (h1 : w.cell? ⟨b, 0, none⟩ = some (.int .i64 1)) :
    Calls Tryz.prog 35 #[.slice (some ⟨b, 0, none⟩) 1 1, .int .i64 c] w fun e w' => e = .returned (.slice (some ⟨w.heap.size, 0, none⟩) c c) ∧ Bk w' w.heap.size 3 (List.replicate c (Value.int .i64 1)).toArray ∧ Below w.heap.size w w' := by
  have H1 := Lib.hid h1; clear h1
  have hmk := make_row c hc
  have hbn : b < w.heap.size := by have := block_lt_of_cell H1.out; exact this
  obtain ⟨cs, hcs⟩ : ∃ cs : List Value, cs = if c = 0 then [] else [Value.int .i64 1] := ⟨_, rfl⟩
  have hmin : Nat.min 1 c = if c = 0 then 0 else 1 := by
    show min 1 c = _
    split <;> omega
  have hcl : cs.length = Nat.min 1 c := by rw [hcs, hmin]; split <;> simp
  have hg0 : Hid ((w.alloc (.cells (arrR c 0) 3)).heap[w.heap.size]? = some (.cells (rowR c 0).toArray 3 (0, 0))) := heap_alloc_new w _
  have hsp : Hid (splice (rowR c 0) 0 cs = rowR c cs.length) := by
    show splice (rowR c 0) 0 cs = rowR c cs.length
    rw [hcs]; unfold rowR
    split
    · simp [splice]
    · exact repL_splice (Value.int .i64 1) (Value.int .i64 0) c 0 1 (by omega)
  have hpos : Hid (0 < cs.length → ∀ j v, cs[j]? = some v → (w.alloc (.cells (arrR c 0) 3)).cell? ((⟨b, 0, none⟩ : Addr).add j) = some v) := by
    intro hp j v hv
    have e : cs = [Value.int .i64 1] := by rw [hcs]; rw [if_neg (by rintro rfl; simp [hcs] at hp)]
    rw [e] at hv
    match j, hv with
    | 0, hv =>
      simp at hv
      subst hv
      show (w.alloc _).cell? ⟨b, 0, none⟩ = _
      rw [World.cell?_alloc_lt w _ _ hbn]
      exact H1.out
  have hone : Hid (∀ v ∈ cs, v.oneCell' = true) := by
    intro v hv; rw [hcs] at hv; split at hv
    · simp at hv
    · simp at hv; subst hv; rfl
  have hfit : Hid (0 + cs.length ≤ (rowR c 0).length) := by
    show 0 + cs.length ≤ (rowR c 0).length
    unfold rowR; rw [repL_length _ _ _ _ (by omega), hcl, hmin]; split <;> omega
  have hcl' := Lib.hid hcl
  obtain ⟨m, hm⟩ : ∃ m, cs.length = m := ⟨_, rfl⟩
  have hmc : m ≤ c ∧ (c = 0 ∨ 1 ≤ m) := by rw [← hm, hcl, hmin]; split <;> omega
  have HM := Lib.hid hm
  clear hcl hcs hm hmin
  go_enter Tryz.func35, Tryz.ntmps35
  go_wp2_with (first
    | (go_at_call 58; refine (mul_one_any c hc _).mono ?_; rintro e w' ⟨rfl, rfl⟩)
    | (with_reducible refine wpList_copy_splice rfl (.tmp 31) (.tmp 32) 40 40 rfl 3 intsUnder intSize (some ⟨w.heap.size, 0, none⟩) (some ⟨b, 0, none⟩) c c 1 1 rfl rfl w.heap.size 0 (rowR c 0) 3 hg0.out cs hcl'.out (fun hp => ⟨rfl, _, rfl, hpos.out hp⟩) hfit.out hone.out w.heap.size w ((Below.refl _ _).alloc (Nat.le_refl _) _) (Nat.le_refl _) ?_; intro w2 hg2 hb2))
  have hgm : Hid (Bk w2 w.heap.size 3 (rowR c m).toArray) := by
    have := hg2.out
    rw [hsp.out, HM.out] at this
    exact this
  clear hg2 hg0 hpos hone hfit hcl' hsp H1
  rw [HM.out]
  clear HM
  go_loopw [8] (fun i wr => ∃ n : Nat, n ≤ c ∧ (c = 0 ∨ 1 ≤ n) ∧ i = .int .i64 n ∧ Hid (Bk wr w.heap.size 3 (rowR c n).toArray) ∧ Hid (Below w.heap.size w wr)) (fun i _ => c - (intOf i).toNat)
  case atStart => exact ⟨m, hmc.1, hmc.2, rfl, hgm, hb2⟩
  case round =>
    clear hgm hb2 hmc
    obtain ⟨n, hn, h1, rfl, hg, hb⟩ := hrel
    by_cases hlt : n < c
    · have hn1 : 1 ≤ n := by omega
      have hne : ¬ c = n := by omega
      obtain ⟨k, hk⟩ : ∃ k, k = Nat.min n (c - n) := ⟨_, rfl⟩
      have hk2 : Nat.min n (c - n) = min n (c - n) := rfl
      have hkb : 1 ≤ k ∧ n + k ≤ c ∧ k ≤ n := by rw [hk, hk2]; omega
      have HK := Lib.hid hk
      clear hk hk2
      obtain ⟨cs, hcs⟩ : ∃ cs : List Value, cs = List.replicate k (Value.int .i64 1) := ⟨_, rfl⟩
      have hcl : Hid (cs.length = Nat.min n (c - n)) := by show cs.length = _; rw [hcs, List.length_replicate]; exact HK.out
      have hck : Hid (cs.length = k) := by show cs.length = _; rw [hcs, List.length_replicate]
      have hone : Hid (∀ v ∈ cs, v.oneCell' = true) := by
        intro v hv; rw [hcs] at hv; have := List.eq_of_mem_replicate hv; subst this; rfl
      have hfit : Hid (n + cs.length ≤ (rowR c n).length) := by
        show n + cs.length ≤ _
        rw [hck.out]; unfold rowR; rw [repL_length _ _ _ _ hn]; omega
      have hsrc : Hid (∀ j v, cs[j]? = some v → wr.drew.cell? ((⟨w.heap.size, 0, none⟩ : Addr).add j) = some v) := by
        intro j v hv
        have hadd : (⟨w.heap.size, 0, none⟩ : Addr).add j = ⟨w.heap.size, j, none⟩ := by unfold Addr.add; split <;> simp_all
        rw [hadd, hg.out.drew.cell]
        have hj : j < k := by have := (List.getElem?_eq_some_iff.1 hv).1; rw [hck.out] at this; exact this
        have e : (List.replicate n (Value.int .i64 1))[j]? = some v := by
          rw [hcs] at hv
          rw [List.getElem?_replicate] at hv ⊢
          rw [if_pos hj] at hv
          rw [if_pos (by omega)]
          exact hv
        simpa [rowR] using repL_at _ (Value.int .i64 0) c n j v e
      have hsp : Hid (splice (rowR c n) n cs = rowR c (n + k)) := by
        show splice (rowR c n) n cs = _
        rw [hcs]; unfold rowR; exact repL_splice _ _ c n k hkb.2.1
      clear hcs
      go_wp2_with fail
      go_region_law ((simp only [List.getElem_toArray, List.getElem_cons_succ, List.getElem_cons_zero, Act.put, List.setIfInBounds_toArray, List.set_cons_zero, List.set_cons_succ]); (refine step_if (by rfl) ?_); (refine wp_copy_splice rfl (.tmp 41) (.tmp 44) 40 40 rfl 3 intsUnder intSize (some ⟨w.heap.size, n, none⟩) (some ⟨w.heap.size, 0, none⟩) (c - n) (c - n) n c (by rfl) (by rfl) w.heap.size n (rowR c n) 3 hg.out.drew.heap cs hcl.out (fun _ => ⟨rfl, _, rfl, hsrc.out⟩) hfit.out hone.out w.heap.size w (hb.out.drew) (Nat.le_refl _) ?_); intro w4 hg4 hb4)
      all_goals
        have hg5 : Hid (Bk w4 w.heap.size 3 (rowR c (n + k)).toArray) := by
          have := hg4.out
          rw [hsp.out] at this
          exact this
        have HK2 := hck.out
        rw [HK2]
        clear HK2 hg4
        have hwrap : IntKind.i64.wrap ((n : Int) + k) = (n : Int) + k := IntWalk.i64_in _ (by omega)
        simp only [List.getElem_toArray, List.getElem_cons_succ, List.getElem_cons_zero, Act.put, List.setIfInBounds_toArray, List.set_cons_zero, List.set_cons_succ, goInt, hwrap]
        clear hwrap
        go_wp2
        go_roundw
        case rel => exact ⟨n + k, by omega, by omega, by go_num, hg5, hb4⟩
        case measure => simp [intOf]; omega
    · obtain rfl : n = c := by omega
      go_wp2
      go_ret
      refine ⟨rfl, ?_, hb.out⟩
      have := hg.out
      unfold rowR at this
      rw [repL_all] at this
      exact this

end Go.Proofs.YtkemoffagdilgaaGreatDoor
