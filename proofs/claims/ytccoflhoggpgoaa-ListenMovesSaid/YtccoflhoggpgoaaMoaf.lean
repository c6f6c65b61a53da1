import Derived.Test.YtccoflhoggpgoaaMoae
import Derived.Laws.StructEq
import Derived.Test.YtccoflhoggpgoaaMoad
import Derived.Test.YtccoflhoggpgoaaMoaa
import Derived.Test.YtccoflhoggpgoaaRows
import Derived.ProofKit
import Derived.OpenShut
import Derived.Deep.Slices
import Derived.ChangeArms
namespace Go.Proofs.Ytccoflhoggpgoaa
open Go.RowKit

open Go.Shelf

theorem own_setN {W : World} {base p : Nat} {A : Option Addr} {c : Nat} {L : List Value} (h : W.ownsRow base 63 3 (.slice A p c) p L) (q : Addr) (hg : ∀ z, A = some z → z.block ≠ q.block) (x : Value) : (W.setCell q x).ownsRow base 63 3 (.slice A p c) p L :=
  own_same h (fun g hg' => by
    rcases h.2 with ⟨e, _⟩ | ⟨g2, cap, cur, e, _⟩
    · injection e with e1; subst e1; cases hg'
    · injection e with e1
      subst e1
      cases hg'
      exact heap_setCell_other W q g2 x (hg _ rfl))
theorem own_far3 {W : World} {base g p : Nat} {A : Option Addr} {c : Nat} {L : List Value} (h : W.ownsRow base 63 3 (.slice A p c) p L) (hg : ∀ z, A = some z → z.block ≠ g) (x y z : Value) : (((W.setCell ⟨g, 0, none⟩ x).setCell ⟨g, 1, none⟩ y).setCell ⟨g, 2, none⟩ z).ownsRow base 63 3 (.slice A p c) p L :=
  own_setN (own_setN (own_setN h ⟨g, 0, none⟩ hg x) ⟨g, 1, none⟩ hg y) ⟨g, 2, none⟩ hg z
theorem own_ne {W : World} {base p : Nat} {A : Option Addr} {c : Nat} {L : List Value} (h : W.ownsRow base 63 3 (.slice A p c) p L) : ∀ z, A = some z → z.block ≠ W.heap.size := fun z hz => by
  subst hz
  have := (h.lt z.block rfl).2
  omega

set_option maxRecDepth 100000 in
set_option maxHeartbeats 8000000 in
theorem refMoved_any (A : Option Addr) (n c : Nat) (ns : List Nt) (B : Option Addr) (m d : Nat) (es : List Ed) (w : World) (hA : A = none → n = 0 ∧ c = 0) (hr : RdNt w A n ns) (he : RdEd w B m es) (hn : n ≤ 20) (hm : m ≤ 20) (hok : ∀ x ∈ ns, NtOk 1000000 x) (hek : ∀ x ∈ es, EdOk x) :
    Calls Try.prog 46 #[.slice A n c, .slice B m d] w fun e w' => (∃ A' c', e = .returned (.slice A' (mvL ns es).length c') ∧ RdNt w' A' (mvL ns es).length (mvL ns es)) ∧ Below w.heap.size w w' := by
  obtain ⟨i0, hi0, hz0, hz1, hz2⟩ := info_parts noteInfo
  have HLE : Hid (es.length = m) := he.1
  have HED := Lib.hid he
  have CC := Lib.hid (copyNotes_any A n c ns w hA hr (by omega))
  have HST := Lib.hid (fun k (hk : k < m) => stL_step ns es k (by rw [he.1]; exact hk))
  have HOK := Lib.hid (fun k (hk : k ≤ m) => stL_ok hok hek k (by rw [he.1]; exact hk))
  have HEK := Lib.hid (fun k (hk : k < m) => hek (es.getD k ed0) (by rw [List.getD_eq_getElem?_getD, List.getElem?_eq_getElem (by rw [he.1]; exact hk), Option.getD_some]; exact List.getElem_mem _))
  have HLL : Hid (∀ k, (stL ns es k).length ≤ n) := fun k => by have := mvL_len ns (es.take k); rw [hr.1] at this; exact this
  have HS0 : Hid (stL ns es 0 = ns) := stL_zero ns es
  have HEND : Hid (stL ns es m = mvL ns es) := by show _ = _; unfold stL; rw [List.take_of_length_le (by rw [he.1]; exact Nat.le_refl _)]
  obtain ⟨L, hL⟩ : ∃ L, mvL ns es = L := ⟨_, rfl⟩
  rw [hL] at HEND ⊢
  clear hL hr he hok hek hA
  go_enter Try.func46, Try.ntmps46
  go_wp2_with fail
  refine CC.out.mono ?_
  rintro e w1 ⟨⟨A1, c1, rfl, hc1, hr1⟩, hb1⟩
  have HB1 := Lib.hid hb1
  have HR1 := Lib.hid hr1
  clear hb1 hr1 CC hc1
  go_wp2
  go_loopw [5, 6] (fun o i wr => ∃ (k q : Nat) (Aq : Option Addr) (cq : Nat), o = .slice Aq q cq ∧ k ≤ m ∧ i = .int .i64 k ∧ q ≤ 20 ∧ Hid (RdNt wr Aq q (stL ns es k)) ∧ Hid (Below w.heap.size w wr)) (fun _ i _ => m - (intOf i).toNat)
  case atStart => exact ⟨0, n, A1, c1, rfl, Nat.zero_le _, rfl, hn, by show RdNt _ _ _ _; rw [HS0.out]; exact HR1.out, HB1⟩
  case round =>
    obtain ⟨k, q, Aq, cq, rfl, hk, rfl, hq, HR, HBw⟩ := hrel
    by_cases hlt : k < m
    case neg =>
      obtain rfl : m = k := by omega
      have hkI : ¬ (m : Int) < (m : Int) := by omega
      have HQL : Hid (L.length = q) := by show _ = _; rw [← HEND.out]; exact HR.out.1
      have HRL : Hid (RdNt wr Aq q L) := by show RdNt _ _ _ _; rw [← HEND.out]; exact HR.out
      go_wp2
      go_ret
      exact ⟨⟨Aq, ⟨cq, by rw [HQL.out]; rfl⟩, by rw [HQL.out]; exact HRL.out⟩, HBw.out⟩
    obtain ⟨wo, hwo⟩ : ∃ W, W = wr := ⟨_, rfl⟩
    subst hwo
    have hkI : (k : Int) < (m : Int) := by omega
    have hk0 : (0 : Int) ≤ (k : Int) := by omega
    have HED2 := Lib.hid (HED.out.below HBw.out)
    have HNX := Lib.hid (HST.out k hlt)
    have hokk := HOK.out k (by omega)
    have hekk := HEK.out k hlt
    obtain ⟨ls, hls⟩ : ∃ l, stL ns es k = l := ⟨_, rfl⟩
    rw [hls] at HR HNX hokk
    obtain ⟨bd, hB, hbl, hbc⟩ := HED2.out.2 (by omega)
    subst hB
    have hbk := hbc k hlt
    obtain ⟨eE, heE⟩ : ∃ e, es.getD k ed0 = e := ⟨_, rfl⟩
    rw [heE] at hbk HNX hekk
    obtain ⟨ei, ea, el⟩ := eE
    have HBK : Hid (∀ W, Below wo.heap.size wo W → W.cell? (bd.add (k * 3)) = some (.bool ei) ∧ W.cell? ((bd.add (k * 3)).add 1) = some (.int .i64 ea) ∧ W.cell? ((bd.add (k * 3)).add 2) = some (.int .i64 el)) := fun W hb => by
      have h1 := (HED2.out.below hb).2 (by omega)
      obtain ⟨bd', hB', _, hc'⟩ := h1
      cases hB'
      have h2 := hc' k hlt
      rw [heE] at h2
      exact h2
    have HF := Lib.hid (fun j (hj : j < q) => fm_step (mvF ⟨ei, ea, el⟩) ls j (by rw [HR.out.1]; exact hj))
    have HNO := Lib.hid (fun j (hj : j < q) => (hokk (ls.getD j nt0) (by rw [List.getD_eq_getElem?_getD, List.getElem?_eq_getElem (by rw [HR.out.1]; exact hj), Option.getD_some]; exact List.getElem_mem _)).up (C := 100000000) (by omega))
    have HEO := Lib.hid hekk
    have HPL : Hid (∀ j, ((ls.take j).filterMap (mvF ⟨ei, ea, el⟩)).length ≤ 20) := fun j => by
      have h1 := List.length_filterMap_le (mvF ⟨ei, ea, el⟩) (ls.take j)
      have h2 := HR.out.1
      rw [List.length_take] at h1
      omega
    have HFE : Hid ((ls.take q).filterMap (mvF ⟨ei, ea, el⟩) = ls.filterMap (mvF ⟨ei, ea, el⟩)) := by show _ = _; rw [List.take_of_length_le (by rw [HR.out.1]; exact Nat.le_refl _)]
    have CM0 : Hid (∀ a l t, NtOk 100000000 ⟨a, l, t⟩ → ∀ W, Calls Try.prog 105 #[.agg #[.int .i64 a, .int .i64 l, .string t], .agg #[.bool ei, .int .i64 ea, .int .i64 el]] W fun e w' => (∃ a' l' t', e = .returned (.tuple #[.agg #[.int .i64 a', .int .i64 l', .string t'], .bool (mvF ⟨ei, ea, el⟩ ⟨a, l, t⟩).isSome]) ∧ ∀ m, mvF ⟨ei, ea, el⟩ ⟨a, l, t⟩ = some m → m = ⟨a', l', t'⟩) ∧ Below W.heap.size W w') := fun a l t h W => refmoved_any a l t ei ea el W hekk h
    obtain ⟨F, hF⟩ : ∃ F, mvF ⟨ei, ea, el⟩ = F := ⟨_, rfl⟩
    rw [hF] at HNX HF HPL HFE CM0
    clear hF hls hokk hekk hbc hbk heE hbl HB1 HR1 HS0
    go_wp2
    go_loopw [7, 8] (fun v i wr => ∃ (j p : Nat) (Av : Option Addr) (cv : Nat), v = .slice Av p cv ∧ j ≤ q ∧ i = .int .i64 j ∧ Hid (((ls.take j).filterMap F).length = p) ∧ Hid (wr.ownsRow wo.heap.size 63 3 (.slice Av p cv) p (c3 fN1 fN2 fN3 ((ls.take j).filterMap F))) ∧ Hid (Below wo.heap.size wo wr)) (fun _ i _ => q - (intOf i).toNat)
    case atStart => exact ⟨0, 0, none, 0, rfl, Nat.zero_le _, rfl, by show _ = _; rw [List.take_zero]; rfl, Lib.hid (by rw [List.take_zero]; exact World.ownsRow_nil _ _ _ _), Lib.hid (Below.refl _ _)⟩
    case round =>
      obtain ⟨j, p, Av, cv, rfl, hj, rfl, HP, HI, HB⟩ := hrel
      by_cases hjl : j < q
      case neg =>
        obtain rfl : q = j := by omega
        have hjI : ¬ (q : Int) < (q : Int) := by omega
        have HRX : Hid (RdNt wr Av p (stL ns es (k + 1))) := by
          show RdNt _ _ _ _
          rw [HNX.out, ← HFE.out]
          exact rdNt_of_own HI.out HP.out
        have hpl := HPL.out q
        rw [HP.out] at hpl
        have HBX := Lib.hid (HBw.out.trans (HB.out.mono HBw.out.size))
        go_wp2
        go_roundw
        case rel => exact ⟨k + 1, p, Av, cv, rfl, by omega, by go_num, hpl, HRX, HBX⟩
        case measure => simp only [intOf]; omega
      have hjI : (j : Int) < (q : Int) := by omega
      have hj0 : (0 : Int) ≤ (j : Int) := by omega
      obtain ⟨ad, hA, _, hc⟩ := (HR.out.below HB.out).2 (by omega)
      subst hA
      have HS := Lib.hid (HF.out j hjl)
      have hno := HNO.out j hjl
      have hpl := HPL.out j
      rw [HP.out] at hpl
      obtain ⟨e, hee⟩ : ∃ e, ls.getD j nt0 = e := ⟨_, rfl⟩
      rw [hee] at HS hno
      obtain ⟨a, l, t⟩ := e
      have HSK : Hid (∀ V, Below wo.heap.size wo V → (V.cell? (ad.add (j * 3)) = some (.int .i64 a) ∧ V.cell? ⟨(ad.add (j * 3)).block, (ad.add (j * 3)).off + 1, none⟩ = some (.int .i64 l) ∧ V.cell? ⟨(ad.add (j * 3)).block, (ad.add (j * 3)).off + 2, none⟩ = some (.string t) ∧ V.cell? (bd.add (k * 3)) = some (.bool ei) ∧ V.cell? ⟨(bd.add (k * 3)).block, (bd.add (k * 3)).off + 1, none⟩ = some (.int .i64 ea) ∧ V.cell? ⟨(bd.add (k * 3)).block, (bd.add (k * 3)).off + 2, none⟩ = some (.int .i64 el))) := fun V hb => by
        obtain ⟨ad', hA', _, hc'⟩ := (HR.out.below hb).2 (by omega)
        cases hA'
        have h2 := hc' j hjl
        rw [hee] at h2
        have h3 := HBK.out V hb
        exact ⟨h2.1, h2.2.1, h2.2.2, h3.1, h3.2.1, h3.2.2⟩
      have CM := Lib.hid (CM0.out a l t hno)
      obtain ⟨X, hX⟩ : ∃ X, F ⟨a, l, t⟩ = X := ⟨_, rfl⟩
      rw [hX] at HS CM
      clear hX hee hno hc
      go_upto_region 9 with fail
      refine wp_region_held_drew (S := (fun w' : World => (w'.cell? (ad.add (j * 3)) = some (.int .i64 a) ∧ w'.cell? ⟨(ad.add (j * 3)).block, (ad.add (j * 3)).off + 1, none⟩ = some (.int .i64 l) ∧ w'.cell? ⟨(ad.add (j * 3)).block, (ad.add (j * 3)).off + 2, none⟩ = some (.string t) ∧ w'.cell? (bd.add (k * 3)) = some (.bool ei) ∧ w'.cell? ⟨(bd.add (k * 3)).block, (bd.add (k * 3)).off + 1, none⟩ = some (.int .i64 ea) ∧ w'.cell? ⟨(bd.add (k * 3)).block, (bd.add (k * 3)).off + 2, none⟩ = some (.int .i64 el)))) (by kernel_rfl) ?_ ?_
      · exact HSK.out _ HB.out.drew
      intro hHeld
      refine wpAnyH_take (i := 0) (v := ?_) rfl (by kernel_rfl) (by kernel_rfl) (by kernel_rfl) (fun _ _ _ h => h) (Or.inl ⟨by rfl, ?_⟩) (by assumption) ?_
      rotate_left
      · intro w hSw; (try dsimp only at hSw); go_split_ands; go_simp; (try (with_reducible rfl))
      try simp only [Act.put, List.getElem_toArray, List.getElem_cons_succ, List.getElem_cons_zero, List.setIfInBounds_toArray, List.set_cons_zero, List.set_cons_succ]
      refine wpAnyH_take (i := 1) (v := ?_) rfl (by kernel_rfl) (by kernel_rfl) (by kernel_rfl) (fun _ _ _ h => h) (Or.inl ⟨by rfl, ?_⟩) (by assumption) ?_
      rotate_left
      · intro w hSw; (try dsimp only at hSw); go_split_ands; go_simp; (try (with_reducible rfl))
      try simp only [Act.put, List.getElem_toArray, List.getElem_cons_succ, List.getElem_cons_zero, List.setIfInBounds_toArray, List.set_cons_zero, List.set_cons_succ]
      refine wpAnyH_take (i := 2) (v := ?_) rfl (by kernel_rfl) (by kernel_rfl) (by kernel_rfl) (fun _ _ _ h => h) (Or.inl ⟨by rfl, ?_⟩) (by assumption) ?_
      rotate_left
      · intro w hSw; (try dsimp only at hSw); go_split_ands; go_simp; (try (with_reducible rfl))
      try simp only [Act.put, List.getElem_toArray, List.getElem_cons_succ, List.getElem_cons_zero, List.setIfInBounds_toArray, List.set_cons_zero, List.set_cons_succ]
      refine wpAnyH_take (i := 3) (v := ?_) rfl (by kernel_rfl) (by kernel_rfl) (by kernel_rfl) (fun _ _ _ h => h) (Or.inl ⟨by rfl, ?_⟩) (by assumption) ?_
      rotate_left
      · intro w hSw; (try dsimp only at hSw); go_split_ands; go_simp; (try (with_reducible rfl))
      try simp only [Act.put, List.getElem_toArray, List.getElem_cons_succ, List.getElem_cons_zero, List.setIfInBounds_toArray, List.set_cons_zero, List.set_cons_succ]
      refine wpAnyH_take (i := 4) (v := ?_) rfl (by kernel_rfl) (by kernel_rfl) (by kernel_rfl) (fun _ _ _ h => h) (Or.inl ⟨by rfl, ?_⟩) (by assumption) ?_
      rotate_left
      · intro w hSw; (try dsimp only at hSw); go_split_ands; go_simp; (try (with_reducible rfl))
      try simp only [Act.put, List.getElem_toArray, List.getElem_cons_succ, List.getElem_cons_zero, List.setIfInBounds_toArray, List.set_cons_zero, List.set_cons_succ]
      refine wpAnyH_take (i := 5) (v := ?_) rfl (by kernel_rfl) (by kernel_rfl) (by kernel_rfl) (fun _ _ _ h => h) (Or.inl ⟨by rfl, ?_⟩) (by assumption) ?_
      rotate_left
      · intro w hSw; (try dsimp only at hSw); go_split_ands; go_simp; (try (with_reducible rfl))
      try simp only [Act.put, List.getElem_toArray, List.getElem_cons_succ, List.getElem_cons_zero, List.setIfInBounds_toArray, List.set_cons_zero, List.set_cons_succ]
      refine wpAnyH_take (i := 6) (v := ?_) rfl (by kernel_rfl) (by kernel_rfl) (by kernel_rfl) (fun _ _ _ h => h) (Or.inl ⟨by rfl, ?_⟩) (by assumption) ?_
      rotate_left
      · intro w hSw; (try dsimp only at hSw); go_split_ands; go_simp; (try (with_reducible rfl))
      try simp only [Act.put, List.getElem_toArray, List.getElem_cons_succ, List.getElem_cons_zero, List.setIfInBounds_toArray, List.set_cons_zero, List.set_cons_succ]
      refine wpAnyH_take (i := 7) (v := ?_) rfl (by kernel_rfl) (by kernel_rfl) (by kernel_rfl) (fun _ _ _ h => h) (Or.inl ⟨by rfl, ?_⟩) (by assumption) ?_
      rotate_left
      · intro w hSw; (try dsimp only at hSw); go_split_ands; go_simp; (try (with_reducible rfl))
      try simp only [Act.put, List.getElem_toArray, List.getElem_cons_succ, List.getElem_cons_zero, List.setIfInBounds_toArray, List.set_cons_zero, List.set_cons_succ]
      refine wpAnyH_ready (rs := [8, 12]) (by kernel_rfl) (by simp) ?_
      refine AllReadyH.cons rfl (fun K hK => ?_) (AllReadyH.cons rfl (fun K hK => ?_) AllReadyH.nil)
      · go_simp
        refine (CM.out _).mono ?_
        rintro e w5 ⟨⟨a', l', t', rfl, hx⟩, hb⟩
        have HX := Lib.hid hx
        have HB5 := Lib.hid (HB.out.drew.trans (hb.mono HB.out.drew.size))
        have HI5 := Lib.hid (ownBelow HI.out.drew hb)
        clear hb hx CM
        refine hK.out _ _ ?_ (fun hHeld => ?_)
        · clear hK K; exact HSK.out _ HB5.out
        clear hK K
        try simp only [List.getElem_toArray, List.getElem_cons_succ, List.getElem_cons_zero, Act.put, List.setIfInBounds_toArray, List.set_cons_zero, List.set_cons_succ]
        refine wpAnyH_take (i := 9) (v := ?_) rfl (by kernel_rfl) (by kernel_rfl) (by kernel_rfl) (fun _ _ _ h => h) (Or.inl ⟨by rfl, ?_⟩) (by assumption) ?_
        rotate_left
        · intro w hSw; (try dsimp only at hSw); go_split_ands; go_simp; (try (with_reducible rfl))
        try simp only [Act.put, List.getElem_toArray, List.getElem_cons_succ, List.getElem_cons_zero, List.setIfInBounds_toArray, List.set_cons_zero, List.set_cons_succ]
        refine wpAnyH_take (i := 10) (v := ?_) rfl (by kernel_rfl) (by kernel_rfl) (by kernel_rfl) (fun _ _ _ h => h) (Or.inl ⟨by rfl, ?_⟩) (by assumption) ?_
        rotate_left
        · intro w hSw; (try dsimp only at hSw); go_split_ands; go_simp; (try (with_reducible rfl))
        try simp only [Act.put, List.getElem_toArray, List.getElem_cons_succ, List.getElem_cons_zero, List.setIfInBounds_toArray, List.set_cons_zero, List.set_cons_succ]
        refine wpAnyH_take (i := 11) (v := ?_) rfl (by kernel_rfl) (by kernel_rfl) (by kernel_rfl) (fun _ _ _ h => h) (Or.inl ⟨by rfl, ?_⟩) (by assumption) ?_
        rotate_left
        · intro w hSw; (try dsimp only at hSw); go_split_ands; go_simp; (try (with_reducible rfl))
        try simp only [Act.put, List.getElem_toArray, List.getElem_cons_succ, List.getElem_cons_zero, List.setIfInBounds_toArray, List.set_cons_zero, List.set_cons_succ]
        refine wpAnyH_ready (rs := [12]) (by kernel_rfl) (by simp) ?_
        refine AllReadyH.cons rfl (fun K hK => ?_) AllReadyH.nil
        go_simp
        refine hK.out _ _ ?_ (fun hHeld => ?_)
        · clear hK K; exact HSK.out _ (HB5.out.alloc HB5.out.size _)
        clear hK K
        try simp only [List.getElem_toArray, List.getElem_cons_succ, List.getElem_cons_zero, Act.put, List.setIfInBounds_toArray, List.set_cons_zero, List.set_cons_succ]
        have KX := Lib.hid (Bk.new w5 63 #[.int .i64 a', .int .i64 l', .string t'])
        have HBX := Lib.hid (HB5.out.alloc HB5.out.size (.cells #[.int .i64 a', .int .i64 l', .string t'] 63))
        have HIX := Lib.hid (HI5.out.alloc (.cells #[.int .i64 a', .int .i64 l', .string t'] 63))
        obtain ⟨vx, hvx⟩ : ∃ W, w5.alloc (.cells #[.int .i64 a', .int .i64 l', .string t'] 63) = W := ⟨_, rfl⟩
        refine wpAnyH_ready (rs := [13]) (by kernel_rfl) (by simp) ?_
        refine AllReadyH.cons rfl (fun K hK => ?_) AllReadyH.nil
        go_simp
        (try rw [hvx])
        rw [hvx] at KX HBX HIX
        obtain ⟨gx, hgx⟩ : ∃ g, w5.heap.size = g := ⟨_, rfl⟩
        rw [hgx] at KX ⊢
        clear hgx
        refine hK.out _ _ ?_ (fun hHeld => ?_)
        · clear hK K; exact HSK.out _ HBX.out
        clear hK K
        try simp only [List.getElem_toArray, List.getElem_cons_succ, List.getElem_cons_zero, Act.put, List.setIfInBounds_toArray, List.set_cons_zero, List.set_cons_succ]
        refine wpAnyH_take (i := 14) (v := ?_) rfl (by kernel_rfl) (by kernel_rfl) (by kernel_rfl) (fun _ _ _ h => h) (Or.inl ⟨by rfl, ?_⟩) (by assumption) ?_
        rotate_left
        · intro w hSw; (try dsimp only at hSw); go_split_ands; go_simp; (try (with_reducible rfl))
        try simp only [Act.put, List.getElem_toArray, List.getElem_cons_succ, List.getElem_cons_zero, List.setIfInBounds_toArray, List.set_cons_zero, List.set_cons_succ]
        refine wpAnyH_done (by kernel_rfl) ?_ _
        have KB := Lib.hid KX.out
        have HBx := Lib.hid HBX.out
        have HIx := Lib.hid HIX.out
        clear KX HBX HIX hvx HI5 HB5 hHeld
        cases X with
        | none =>
          have HS2 : Hid ((ls.take (j + 1)).filterMap F = (ls.take j).filterMap F) := by show _ = _; rw [HS.out, List.append_nil]
          simp only [Option.isSome_none]
          go_wp2
          go_roundw
          case rel => exact ⟨j + 1, p, Av, cv, rfl, by omega, by go_num, by show _ = _; rw [HS2.out, HP.out], Lib.hid (by rw [HS2.out]; exact HIx.out), HBx⟩
          case measure => simp only [intOf]; omega
        | some mm =>
          obtain rfl := HX.out mm rfl
          have HS2 : Hid ((ls.take (j + 1)).filterMap F = (ls.take j).filterMap F ++ [⟨a', l', t'⟩]) := HS.out
          simp only [Option.isSome_some]
          obtain ⟨p0, p1, p2, _, _, _⟩ := bk3N KB.out
          go_wp2_with (at_builtin; refine wpList_append_own _ rfl (.tmp 38) (.tmp 40) 60 rfl wo.heap.size 63 i0 _ 3 32 Try.underlying60 hi0 hz0 hz1 hz2 rfl (by decide) _ _ _ rfl (HIx.out.alloc _) ⟨vx.heap.size, 0, none⟩ 1 1 [.int .i64 a', .int .i64 l', .string t'] rfl rfl (cell_three_new _ _ _ _ _) (three_one _ _ _ rfl rfl rfl) (by unfold maxLen; omega) (by omega) (by have := HBx.out.size; simp; omega) ?_)
          intro v' w7 hown' hgrow _
          obtain ⟨g', cap', rfl⟩ := ownsRow_succ hown'
          have HB7 : Hid (Below wo.heap.size wo w7) := ((HBx.out).alloc (HBx.out).size (.cells #[.int .i64 a', .int .i64 l', .string t'] 63)).grown hgrow (by have := HBx.out.size; simp; omega) (fun z e => ((HIx.out.alloc (.cells #[.int .i64 a', .int .i64 l', .string t'] 63)).lt z e).1)
          have HI7 : Hid (w7.ownsRow wo.heap.size 63 3 (.slice (some ⟨g', 0, none⟩) (p + 1) cap') (p + 1) (c3 fN1 fN2 fN3 ((ls.take (j + 1)).filterMap F))) := by
            show World.ownsRow _ _ _ _ _ _ _
            rw [HS2.out, c3_app]
            exact hown'
          clear hown' hgrow
          go_wp2
          go_roundw
          case rel => exact ⟨j + 1, p + 1, _, cap', rfl, by omega, by go_num, by show _ = _; rw [HS2.out, List.length_append, HP.out]; rfl, HI7, HB7⟩
          case measure => simp only [intOf]; omega
      · go_simp
        refine hK.out _ _ ?_ (fun hHeld => ?_)
        · clear hK K; exact HSK.out _ (HB.out.drew.alloc HB.out.drew.size _)
        clear hK K
        try simp only [List.getElem_toArray, List.getElem_cons_succ, List.getElem_cons_zero, Act.put, List.setIfInBounds_toArray, List.set_cons_zero, List.set_cons_succ]
        have KZ0 := Bk.new wr.drew 63 #[.int .i64 0, .int .i64 0, .string { data := #[] }]
        have HBA0 := HB.out.drew.alloc HB.out.drew.size (.cells #[.int .i64 0, .int .i64 0, .string { data := #[] }] 63)
        have HIA0 := HI.out.drew.alloc (.cells #[.int .i64 0, .int .i64 0, .string { data := #[] }] 63)
        refine wpAnyH_ready (rs := [8]) (by kernel_rfl) (by simp) ?_
        refine AllReadyH.cons rfl (fun K hK => ?_) AllReadyH.nil
        go_simp
        refine (CM.out _).mono ?_
        rintro e w5 ⟨⟨a', l', t', rfl, hx⟩, hb⟩
        have HX := Lib.hid hx
        have HBA := HBA0.trans (hb.mono HBA0.size)
        have HIA := ownBelow HIA0 hb
        have KZ : Bk w5 wr.heap.size 63 #[.int .i64 0, .int .i64 0, .string { data := #[] }] := KZ0.later hb
        have hge : wo.heap.size ≤ wr.heap.size := HB.out.size
        have hfar := own_ne HI.out
        clear hb hx CM KZ0 HBA0 HIA0
        refine hK.out _ _ ?_ (fun hHeld => ?_)
        · clear hK K; exact HSK.out _ HBA
        clear hK K
        try simp only [List.getElem_toArray, List.getElem_cons_succ, List.getElem_cons_zero, Act.put, List.setIfInBounds_toArray, List.set_cons_zero, List.set_cons_succ]
        refine wpAnyH_take (i := 9) (v := ?_) rfl (by kernel_rfl) (by kernel_rfl) (by kernel_rfl) (fun _ _ _ h => h) (Or.inl ⟨by rfl, ?_⟩) (by assumption) ?_
        rotate_left
        · intro w hSw; (try dsimp only at hSw); go_split_ands; go_simp; (try (with_reducible rfl))
        try simp only [Act.put, List.getElem_toArray, List.getElem_cons_succ, List.getElem_cons_zero, List.setIfInBounds_toArray, List.set_cons_zero, List.set_cons_succ]
        refine wpAnyH_take (i := 10) (v := ?_) rfl (by kernel_rfl) (by kernel_rfl) (by kernel_rfl) (fun _ _ _ h => h) (Or.inl ⟨by rfl, ?_⟩) (by assumption) ?_
        rotate_left
        · intro w hSw; (try dsimp only at hSw); go_split_ands; go_simp; (try (with_reducible rfl))
        try simp only [Act.put, List.getElem_toArray, List.getElem_cons_succ, List.getElem_cons_zero, List.setIfInBounds_toArray, List.set_cons_zero, List.set_cons_succ]
        refine wpAnyH_take (i := 11) (v := ?_) rfl (by kernel_rfl) (by kernel_rfl) (by kernel_rfl) (fun _ _ _ h => h) (Or.inl ⟨by rfl, ?_⟩) (by assumption) ?_
        rotate_left
        · intro w hSw; (try dsimp only at hSw); go_split_ands; go_simp; (try (with_reducible rfl))
        try simp only [Act.put, List.getElem_toArray, List.getElem_cons_succ, List.getElem_cons_zero, List.setIfInBounds_toArray, List.set_cons_zero, List.set_cons_succ]
        obtain ⟨z0, z1, z2, y0, y1, y2⟩ := bk3N KZ
        have KX : Hid (Bk (((w5.setCell ⟨wr.heap.size, 0, none⟩ (.int .i64 a')).setCell ⟨wr.heap.size, 1, none⟩ (.int .i64 l')).setCell ⟨wr.heap.size, 2, none⟩ (.string t')) wr.heap.size 63 #[.int .i64 a', .int .i64 l', .string t']) := ((KZ.set_ 0 (.int .i64 a')).set_ 1 (.int .i64 l')).set_ 2 (.string t')
        have HBX : Hid (Below wo.heap.size wo (((w5.setCell ⟨wr.heap.size, 0, none⟩ (.int .i64 a')).setCell ⟨wr.heap.size, 1, none⟩ (.int .i64 l')).setCell ⟨wr.heap.size, 2, none⟩ (.string t'))) := Below.setCell (p := ⟨wr.heap.size, 2, none⟩) (Below.setCell (p := ⟨wr.heap.size, 1, none⟩) (Below.setCell (p := ⟨wr.heap.size, 0, none⟩) HBA hge _) hge _) hge _
        have HIX : Hid ((((w5.setCell ⟨wr.heap.size, 0, none⟩ (.int .i64 a')).setCell ⟨wr.heap.size, 1, none⟩ (.int .i64 l')).setCell ⟨wr.heap.size, 2, none⟩ (.string t')).ownsRow wo.heap.size 63 3 (.slice Av p cv) p (c3 fN1 fN2 fN3 ((ls.take j).filterMap F))) := own_far3 HIA hfar _ _ _
        obtain ⟨vx, hvx⟩ : ∃ W, (((w5.setCell ⟨wr.heap.size, 0, none⟩ (.int .i64 a')).setCell ⟨wr.heap.size, 1, none⟩ (.int .i64 l')).setCell ⟨wr.heap.size, 2, none⟩ (.string t')) = W := ⟨_, rfl⟩
        refine wpAnyH_ready (rs := [13]) (by kernel_rfl) (by simp) ?_
        refine AllReadyH.cons rfl (fun K hK => ?_) AllReadyH.nil
        go_simp
        clear z0 z1 z2 y0 y1 y2
        (try rw [hvx])
        rw [hvx] at KX HBX HIX
        obtain ⟨gx, hgx⟩ : ∃ g, wr.heap.size = g := ⟨_, rfl⟩
        rw [hgx] at KX ⊢
        clear hgx
        refine hK.out _ _ ?_ (fun hHeld => ?_)
        · clear hK K; exact HSK.out _ HBX.out
        clear hK K
        try simp only [List.getElem_toArray, List.getElem_cons_succ, List.getElem_cons_zero, Act.put, List.setIfInBounds_toArray, List.set_cons_zero, List.set_cons_succ]
        refine wpAnyH_take (i := 14) (v := ?_) rfl (by kernel_rfl) (by kernel_rfl) (by kernel_rfl) (fun _ _ _ h => h) (Or.inl ⟨by rfl, ?_⟩) (by assumption) ?_
        rotate_left
        · intro w hSw; (try dsimp only at hSw); go_split_ands; go_simp; (try (with_reducible rfl))
        try simp only [Act.put, List.getElem_toArray, List.getElem_cons_succ, List.getElem_cons_zero, List.setIfInBounds_toArray, List.set_cons_zero, List.set_cons_succ]
        refine wpAnyH_done (by kernel_rfl) ?_ _
        have KB := Lib.hid KX.out
        have HBx := Lib.hid HBX.out
        have HIx := Lib.hid HIX.out
        clear KX HBX HIX KZ HBA HIA hge hfar hvx hHeld
        cases X with
        | none =>
          have HS2 : Hid ((ls.take (j + 1)).filterMap F = (ls.take j).filterMap F) := by show _ = _; rw [HS.out, List.append_nil]
          simp only [Option.isSome_none]
          go_wp2
          go_roundw
          case rel => exact ⟨j + 1, p, Av, cv, rfl, by omega, by go_num, by show _ = _; rw [HS2.out, HP.out], Lib.hid (by rw [HS2.out]; exact HIx.out), HBx⟩
          case measure => simp only [intOf]; omega
        | some mm =>
          obtain rfl := HX.out mm rfl
          have HS2 : Hid ((ls.take (j + 1)).filterMap F = (ls.take j).filterMap F ++ [⟨a', l', t'⟩]) := HS.out
          simp only [Option.isSome_some]
          obtain ⟨p0, p1, p2, _, _, _⟩ := bk3N KB.out
          go_wp2_with (at_builtin; refine wpList_append_own _ rfl (.tmp 38) (.tmp 40) 60 rfl wo.heap.size 63 i0 _ 3 32 Try.underlying60 hi0 hz0 hz1 hz2 rfl (by decide) _ _ _ rfl (HIx.out.alloc _) ⟨vx.heap.size, 0, none⟩ 1 1 [.int .i64 a', .int .i64 l', .string t'] rfl rfl (cell_three_new _ _ _ _ _) (three_one _ _ _ rfl rfl rfl) (by unfold maxLen; omega) (by omega) (by have := HBx.out.size; simp; omega) ?_)
          intro v' w7 hown' hgrow _
          obtain ⟨g', cap', rfl⟩ := ownsRow_succ hown'
          have HB7 : Hid (Below wo.heap.size wo w7) := ((HBx.out).alloc (HBx.out).size (.cells #[.int .i64 a', .int .i64 l', .string t'] 63)).grown hgrow (by have := HBx.out.size; simp; omega) (fun z e => ((HIx.out.alloc (.cells #[.int .i64 a', .int .i64 l', .string t'] 63)).lt z e).1)
          have HI7 : Hid (w7.ownsRow wo.heap.size 63 3 (.slice (some ⟨g', 0, none⟩) (p + 1) cap') (p + 1) (c3 fN1 fN2 fN3 ((ls.take (j + 1)).filterMap F))) := by
            show World.ownsRow _ _ _ _ _ _ _
            rw [HS2.out, c3_app]
            exact hown'
          clear hown' hgrow
          go_wp2
          go_roundw
          case rel => exact ⟨j + 1, p + 1, _, cap', rfl, by omega, by go_num, by show _ = _; rw [HS2.out, List.length_append, HP.out]; rfl, HI7, HB7⟩
          case measure => simp only [intOf]; omega

end Go.Proofs.Ytccoflhoggpgoaa

namespace Go.Proofs.Ytccoflhoggpgoaa
open Go.RowKit

open Go.Shelf

set_option maxRecDepth 100000 in
theorem eqNote (a l : Int) (t : ByteArray) (W : World) : (Op.equalIn 10000 63 (.agg #[.int .i64 a, .int .i64 l, .string t]) (.agg #[.int .i64 a, .int .i64 l, .string t])).run Try.prog W = .ok true W := by
  rw [show (10000 : Nat) = 9999 + 1 from rfl, run_equalIn_struct W 9999 _ _ _ (by kernel_rfl) (by kernel_rfl)]
  have h := Try.underlying63
  unfold Program.fieldsOf
  rw [h]
  simp [Op.eqFields, go_sem]

set_option maxRecDepth 100000 in
set_option maxHeartbeats 4000000 in
theorem sameNotes_any (A : Option Addr) (n c : Nat) (B : Option Addr) (d : Nat) (ls : List Nt) (w : World) (ha : RdNt w A n ls) (hb : RdNt w B n ls) (hn : n ≤ 1000000) :
    Calls Try.prog 45 #[.slice A n c, .slice B n d] w fun e w' => e = .returned (.bool true) ∧ Below w.heap.size w w' := by
  have HA := Lib.hid ha
  have HB := Lib.hid hb
  have EN := Lib.hid eqNote
  clear ha hb
  go_enter Try.func45, Try.ntmps45
  go_wp2
  go_loopw [5] (fun i wr => ∃ j : Nat, j ≤ n ∧ i = .int .i64 j ∧ Hid (Below w.heap.size w wr)) (fun i _ => n - (intOf i).toNat)
  case atStart => exact ⟨0, Nat.zero_le _, rfl, Lib.hid (Below.refl _ _)⟩
  case round =>
    obtain ⟨j, hj, rfl, HW⟩ := hrel
    by_cases hjl : j < n
    case neg =>
      obtain rfl : n = j := by omega
      have hjI : ¬ (n : Int) < (n : Int) := by omega
      go_wp2
      go_ret
      exact ⟨rfl, HW.out⟩
    have hjI : (j : Int) < (n : Int) := by omega
    have hj0 : (0 : Int) ≤ (j : Int) := by omega
    obtain ⟨ad, hA, _, hc⟩ := (HA.out.below HW.out).2 (by omega)
    obtain ⟨bd, hB, _, hd⟩ := (HB.out.below HW.out).2 (by omega)
    subst hA hB
    obtain ⟨p0, p1, p2⟩ := hc j hjl
    obtain ⟨q0, q1, q2⟩ := hd j hjl
    obtain ⟨e, hee⟩ : ∃ e, ls.getD j nt0 = e := ⟨_, rfl⟩
    rw [hee] at p0 p1 p2 q0 q1 q2
    obtain ⟨a, l, t⟩ := e
    have p0' : wr.cell? (ad.add (j * 3)) = some (.int .i64 a) := p0
    have p1' : wr.cell? ⟨(ad.add (j * 3)).block, (ad.add (j * 3)).off + 1, none⟩ = some (.int .i64 l) := p1
    have p2' : wr.cell? ⟨(ad.add (j * 3)).block, (ad.add (j * 3)).off + 2, none⟩ = some (.string t) := p2
    have q0' : wr.cell? (bd.add (j * 3)) = some (.int .i64 a) := q0
    have q1' : wr.cell? ⟨(bd.add (j * 3)).block, (bd.add (j * 3)).off + 1, none⟩ = some (.int .i64 l) := q1
    have q2' : wr.cell? ⟨(bd.add (j * 3)).block, (bd.add (j * 3)).off + 2, none⟩ = some (.string t) := q2
    have en := fun W => EN.out a l t W
    clear p0 p1 p2 q0 q1 q2 hee hc hd
    go_upto_region 6 with fail
    refine wp_region_held_drew (S := (fun w' : World => (w'.cell? (ad.add (j * 3)) = some (.int .i64 a) ∧ w'.cell? ⟨(ad.add (j * 3)).block, (ad.add (j * 3)).off + 1, none⟩ = some (.int .i64 l) ∧ w'.cell? ⟨(ad.add (j * 3)).block, (ad.add (j * 3)).off + 2, none⟩ = some (.string t) ∧ w'.cell? (bd.add (j * 3)) = some (.int .i64 a) ∧ w'.cell? ⟨(bd.add (j * 3)).block, (bd.add (j * 3)).off + 1, none⟩ = some (.int .i64 l) ∧ w'.cell? ⟨(bd.add (j * 3)).block, (bd.add (j * 3)).off + 2, none⟩ = some (.string t)))) (by kernel_rfl) ?_ ?_
    · exact ⟨p0', p1', p2', q0', q1', q2'⟩
    intro hHeld
    refine wpAnyH_take (i := 0) (v := ?_) rfl (by kernel_rfl) (by kernel_rfl) (by kernel_rfl) (fun _ _ _ h => h) (Or.inl ⟨by rfl, ?_⟩) (by assumption) ?_
    rotate_left
    · intro w hSw; (try dsimp only at hSw); go_split_ands; go_simp; (try (with_reducible rfl))
    try simp only [Act.put, List.getElem_toArray, List.getElem_cons_succ, List.getElem_cons_zero, List.setIfInBounds_toArray, List.set_cons_zero, List.set_cons_succ]
    refine wpAnyH_take (i := 1) (v := ?_) rfl (by kernel_rfl) (by kernel_rfl) (by kernel_rfl) (fun _ _ _ h => h) (Or.inl ⟨by rfl, ?_⟩) (by assumption) ?_
    rotate_left
    · intro w hSw; (try dsimp only at hSw); go_split_ands; go_simp; (try (with_reducible rfl))
    try simp only [Act.put, List.getElem_toArray, List.getElem_cons_succ, List.getElem_cons_zero, List.setIfInBounds_toArray, List.set_cons_zero, List.set_cons_succ]
    refine wpAnyH_take (i := 2) (v := ?_) rfl (by kernel_rfl) (by kernel_rfl) (by kernel_rfl) (fun _ _ _ h => h) (Or.inl ⟨by rfl, ?_⟩) (by assumption) ?_
    rotate_left
    · intro w hSw; (try dsimp only at hSw); go_split_ands; go_simp; (try (with_reducible rfl))
    try simp only [Act.put, List.getElem_toArray, List.getElem_cons_succ, List.getElem_cons_zero, List.setIfInBounds_toArray, List.set_cons_zero, List.set_cons_succ]
    refine wpAnyH_take (i := 3) (v := ?_) rfl (by kernel_rfl) (by kernel_rfl) (by kernel_rfl) (fun _ _ _ h => h) (Or.inl ⟨by rfl, ?_⟩) (by assumption) ?_
    rotate_left
    · intro w hSw; (try dsimp only at hSw); go_split_ands; go_simp; (try (with_reducible rfl))
    try simp only [Act.put, List.getElem_toArray, List.getElem_cons_succ, List.getElem_cons_zero, List.setIfInBounds_toArray, List.set_cons_zero, List.set_cons_succ]
    refine wpAnyH_take (i := 4) (v := ?_) rfl (by kernel_rfl) (by kernel_rfl) (by kernel_rfl) (fun _ _ _ h => h) (Or.inl ⟨by rfl, ?_⟩) (by assumption) ?_
    rotate_left
    · intro w hSw; (try dsimp only at hSw); go_split_ands; go_simp; (try (with_reducible rfl))
    try simp only [Act.put, List.getElem_toArray, List.getElem_cons_succ, List.getElem_cons_zero, List.setIfInBounds_toArray, List.set_cons_zero, List.set_cons_succ]
    refine wpAnyH_take (i := 5) (v := ?_) rfl (by kernel_rfl) (by kernel_rfl) (by kernel_rfl) (fun _ _ _ h => h) (Or.inl ⟨by rfl, ?_⟩) (by assumption) ?_
    rotate_left
    · intro w hSw; (try dsimp only at hSw); go_split_ands; go_simp; (try (with_reducible rfl))
    try simp only [Act.put, List.getElem_toArray, List.getElem_cons_succ, List.getElem_cons_zero, List.setIfInBounds_toArray, List.set_cons_zero, List.set_cons_succ]
    refine wpAnyH_take (i := 6) (v := ?_) rfl (by kernel_rfl) (by kernel_rfl) (by kernel_rfl) (fun _ _ _ h => h) (Or.inl ⟨by rfl, ?_⟩) (by assumption) ?_
    rotate_left
    · intro w hSw; (try dsimp only at hSw); go_split_ands; go_simp; (try (with_reducible rfl))
    try simp only [Act.put, List.getElem_toArray, List.getElem_cons_succ, List.getElem_cons_zero, List.setIfInBounds_toArray, List.set_cons_zero, List.set_cons_succ]
    refine wpAnyH_take (i := 7) (v := ?_) rfl (by kernel_rfl) (by kernel_rfl) (by kernel_rfl) (fun _ _ _ h => h) (Or.inl ⟨by rfl, ?_⟩) (by assumption) ?_
    rotate_left
    · intro w hSw; (try dsimp only at hSw); go_split_ands; go_simp; (try (with_reducible rfl))
    try simp only [Act.put, List.getElem_toArray, List.getElem_cons_succ, List.getElem_cons_zero, List.setIfInBounds_toArray, List.set_cons_zero, List.set_cons_succ]
    refine wpAnyH_take (i := 8) (v := ?_) rfl (by kernel_rfl) (by kernel_rfl) (by kernel_rfl) (fun _ _ _ h => h) (Or.inl ⟨by rfl, ?_⟩) (by assumption) ?_
    rotate_left
    · intro w hSw; (try dsimp only at hSw); go_split_ands; go_simp; (try (with_reducible rfl))
    try simp only [Act.put, List.getElem_toArray, List.getElem_cons_succ, List.getElem_cons_zero, List.setIfInBounds_toArray, List.set_cons_zero, List.set_cons_succ]
    refine wpAnyH_done (by kernel_rfl) ?_ _
    go_wp2
    go_roundw
    case rel => exact ⟨j + 1, by omega, by go_num, Lib.hid HW.out.drew⟩
    case measure => simp only [intOf]; omega

end Go.Proofs.Ytccoflhoggpgoaa

namespace Go.Proofs.Ytccoflhoggpgoaa
open Go.RowKit

open Go.Shelf

set_option maxRecDepth 100000 in
set_option maxHeartbeats 8000000 in
theorem refNotesErr_any (A : Option Addr) (n c : Nat) (ns : List Nt) (B : Option Addr) (m d : Nat) (es : List Ed) (w : World) (hr : RdNt w A n ns) (he : RdEd w B m es) (hn : n ≤ 1000000) (hm : m ≤ 1000000) :
    Calls Try.prog 44 #[.slice A n c, .slice B m d] w fun e w' => e = .returned (.int .i64 (mvE ns es)) ∧ w = w' := by
  have HR := Lib.hid hr
  have HED := Lib.hid he
  have HLN : Hid (ns.length = n) := hr.1
  have HLE : Hid (es.length = m) := he.1
  have HF : Hid (mvE ns es = if 20 < n then 8 else if ntsE ns = 0 then (if 20 < m then 8 else edsE es) else ntsE ns) := by
    show _ = _
    unfold mvE
    rw [hr.1, he.1]
    by_cases a : 20 < n
    · simp [a, firstNZ]
    · by_cases b : ntsE ns = 0
      · by_cases c : 20 < m
        · simp [a, b, c, firstNZ]
        · by_cases d : edsE es = 0 <;> simp [a, b, c, d, firstNZ]
      · simp [a, b, firstNZ]
  have HSN := Lib.hid (fun k (h : k < n) => ntsE_step ns k (by rw [hr.1]; exact h))
  have HSE := Lib.hid (fun k (h : k < m) => edsE_step es k (by rw [he.1]; exact h))
  have HN0 : Hid (ntsE (ns.drop 0) = ntsE ns) := by show _ = _; rw [List.drop_zero]
  have HE0 : Hid (edsE (es.drop 0) = edsE es) := by show _ = _; rw [List.drop_zero]
  have HNE : Hid (ntsE (ns.drop n) = 0) := by show _ = _; rw [List.drop_eq_nil_of_le (by rw [hr.1]; exact Nat.le_refl _)]; rfl
  have HEE : Hid (edsE (es.drop m) = 0) := by show _ = _; rw [List.drop_eq_nil_of_le (by rw [he.1]; exact Nat.le_refl _)]; rfl
  have HNT : Hid (∀ a l t, ntE ⟨a, l, t⟩ = if fromB 0 1000000 [a] = true then (if fromB 0 1000000 [l] = true then (if 40 < t.size then 8 else 0) else 2) else 2) := fun a l t => by
    unfold ntE rngE
    cases fromB 0 1000000 [a] <;> cases fromB 0 1000000 [l] <;> by_cases h : 40 < t.size <;> simp [h, firstNZ]
  have HET : Hid (∀ i a l, edE ⟨i, a, l⟩ = if fromB 0 1000000 [a] = true then (if fromB 1 1000000 [l] = true then 0 else 2) else 2) := fun i a l => by
    unfold edE rngE
    cases fromB 0 1000000 [a] <;> cases fromB 1 1000000 [l] <;> simp [firstNZ]
  have CW0 := Lib.hid (fun x w => within_any x 0 1000000 w)
  have CW1 := Lib.hid (fun x w => within_any x 1 1000000 w)
  obtain ⟨V, hV⟩ : ∃ V, mvE ns es = V := ⟨_, rfl⟩
  rw [hV] at HF ⊢
  clear hV hr he
  by_cases h20 : 20 < n
  · obtain rfl : V = 8 := by rw [HF.out, if_pos h20]
    have hI : (20 : Int) < (n : Int) := by omega
    clear h20
    go_enter Try.func44, Try.ntmps44
    go_wp2
    go_ret
    exact ⟨rfl, rfl⟩
  have hI : ¬ (20 : Int) < (n : Int) := by omega
  have hf := HF.out
  rw [if_neg h20] at hf
  have HF2 := Lib.hid hf
  clear hf HF h20
  obtain ⟨S, hS⟩ : ∃ S, ntsE ns = S := ⟨_, rfl⟩
  rw [hS] at HF2 HN0
  clear hS
  go_enter Try.func44, Try.ntmps44
  go_wp2
  go_loop [5] (fun i => ∃ k : Nat, k ≤ n ∧ i = .int .i64 k ∧ Hid (S = ntsE (ns.drop k))) (fun i => n - (intOf i).toNat)
  case atStart => exact ⟨0, Nat.zero_le _, rfl, HN0.out.symm⟩
  case round =>
    obtain ⟨k, hk, rfl, HS⟩ := hrel
    by_cases hlt : k < n
    case neg =>
      obtain rfl : n = k := by omega
      have hkI : ¬ (n : Int) < (n : Int) := by omega
      obtain rfl : S = 0 := by rw [HS.out, HNE.out]
      have hf := HF2.out
      rw [if_pos rfl] at hf
      by_cases hm20 : 20 < m
      · obtain rfl : V = 8 := by rw [hf, if_pos hm20]
        have hmI : (20 : Int) < (m : Int) := by omega
        clear hf hm20
        go_wp2
        go_ret
        exact ⟨rfl, rfl⟩
      have hmI : ¬ (20 : Int) < (m : Int) := by omega
      rw [if_neg hm20] at hf
      have HV : Hid (V = edsE (es.drop 0)) := by show _ = _; rw [HE0.out]; exact hf
      clear hf hm20 HF2
      go_wp2
      go_loop [6] (fun i => ∃ k : Nat, k ≤ m ∧ i = .int .i64 k ∧ Hid (V = edsE (es.drop k))) (fun i => m - (intOf i).toNat)
      case atStart => exact ⟨0, Nat.zero_le _, rfl, HV⟩
      case round =>
        clear HV
        obtain ⟨j, hj, rfl, HV⟩ := hrel
        by_cases hjl : j < m
        case neg =>
          obtain rfl : m = j := by omega
          have hjI : ¬ (m : Int) < (m : Int) := by omega
          obtain rfl : V = 0 := by rw [HV.out, HEE.out]
          go_wp2
          go_ret
          exact ⟨rfl, rfl⟩
        have hjI : (j : Int) < (m : Int) := by omega
        have hj0 : (0 : Int) ≤ (j : Int) := by omega
        obtain ⟨ad, ha, _, hc⟩ := HED.out.2 (by omega)
        subst ha
        obtain ⟨q0, q1, q2⟩ := hc j hjl
        have HSJ := Lib.hid (HSE.out j hjl)
        obtain ⟨e, hee⟩ : ∃ e, es.getD j ed0 = e := ⟨_, rfl⟩
        rw [hee] at q0 q1 q2 HSJ
        obtain ⟨x, y, z⟩ := e
        have q1' : w.cell? ((ad.add (j * 3)).add 1) = some (.int .i64 y) := q1
        have q2' : w.cell? ((ad.add (j * 3)).add 2) = some (.int .i64 z) := q2
        have q1n : w.cell? ⟨(ad.add (j * 3)).block, (ad.add (j * 3)).off + 1, none⟩ = some (.int .i64 y) := q1
        have q2n : w.cell? ⟨(ad.add (j * 3)).block, (ad.add (j * 3)).off + 2, none⟩ = some (.int .i64 z) := q2
        have HT := Lib.hid (HET.out x y z)
        have C1 := Lib.hid (CW0.out y w)
        have C2 := Lib.hid (CW1.out z w)
        obtain ⟨b1, hb1⟩ : ∃ b, fromB 0 1000000 [y] = b := ⟨_, rfl⟩
        obtain ⟨b2, hb2⟩ : ∃ b, fromB 1 1000000 [z] = b := ⟨_, rfl⟩
        rw [hb1] at HT C1
        rw [hb2] at HT C2
        clear hc q0 q1 q2 hee hb1 hb2
        cases b1 with
        | false =>
          have ht := HT.out
          rw [if_neg (by simp)] at ht
          obtain rfl : V = 2 := by rw [HV.out, HSJ.out, ht, if_neg (by decide)]
          clear ht
          go_wp2_with fail
          refine C1.out.mono ?_
          rintro e w' ⟨rfl, rfl⟩
          go_wp2
          go_ret
          exact ⟨rfl, rfl⟩
        | true =>
          cases b2 with
          | false =>
            have ht := HT.out
            rw [if_pos rfl, if_neg (by simp)] at ht
            obtain rfl : V = 2 := by rw [HV.out, HSJ.out, ht, if_neg (by decide)]
            clear ht
            go_wp2_with fail
            refine C1.out.mono ?_
            rintro e w' ⟨rfl, rfl⟩
            go_wp2_with fail
            refine C2.out.mono ?_
            rintro e w' ⟨rfl, rfl⟩
            go_wp2
            go_ret
            exact ⟨rfl, rfl⟩
          | true =>
            have ht := HT.out
            rw [if_pos rfl, if_pos rfl] at ht
            have HV2 : Hid (V = edsE (es.drop (j + 1))) := by show _ = _; rw [HV.out, HSJ.out, ht, if_pos rfl]
            clear ht
            go_wp2_with fail
            refine C1.out.mono ?_
            rintro e w' ⟨rfl, rfl⟩
            go_wp2_with fail
            refine C2.out.mono ?_
            rintro e w' ⟨rfl, rfl⟩
            go_wp2
            go_round
            case rel => exact ⟨j + 1, by omega, by go_num, HV2⟩
            case measure => simp [intOf]; omega
    have hkI : (k : Int) < (n : Int) := by omega
    have hk0 : (0 : Int) ≤ (k : Int) := by omega
    obtain ⟨ad, ha, _, hc⟩ := HR.out.2 (by omega)
    subst ha
    obtain ⟨q0, q1, q2⟩ := hc k hlt
    have HSJ := Lib.hid (HSN.out k hlt)
    obtain ⟨e, hee⟩ : ∃ e, ns.getD k nt0 = e := ⟨_, rfl⟩
    rw [hee] at q0 q1 q2 HSJ
    obtain ⟨x, y, z⟩ := e
    have q0' : w.cell? (ad.add (k * 3)) = some (.int .i64 x) := q0
    have q1' : w.cell? ((ad.add (k * 3)).add 1) = some (.int .i64 y) := q1
    have q2' : w.cell? ((ad.add (k * 3)).add 2) = some (.string z) := q2
    have q1n : w.cell? ⟨(ad.add (k * 3)).block, (ad.add (k * 3)).off + 1, none⟩ = some (.int .i64 y) := q1
    have q2n : w.cell? ⟨(ad.add (k * 3)).block, (ad.add (k * 3)).off + 2, none⟩ = some (.string z) := q2
    have HT := Lib.hid (HNT.out x y z)
    have C1 := Lib.hid (CW0.out x w)
    have C2 := Lib.hid (CW0.out y w)
    obtain ⟨b1, hb1⟩ : ∃ b, fromB 0 1000000 [x] = b := ⟨_, rfl⟩
    obtain ⟨b2, hb2⟩ : ∃ b, fromB 0 1000000 [y] = b := ⟨_, rfl⟩
    rw [hb1] at HT C1
    rw [hb2] at HT C2
    clear hc q0 q1 q2 hee hb1 hb2
    cases b1 with
    | false =>
      have ht := HT.out
      rw [if_neg (by simp)] at ht
      obtain rfl : S = 2 := by rw [HS.out, HSJ.out, ht, if_neg (by decide)]
      obtain rfl : V = 2 := by rw [HF2.out, if_neg (by decide)]
      clear ht
      go_wp2_with fail
      refine C1.out.mono ?_
      rintro e w' ⟨rfl, rfl⟩
      go_wp2
      go_ret
      exact ⟨rfl, rfl⟩
    | true =>
      cases b2 with
      | false =>
        have ht := HT.out
        rw [if_pos rfl, if_neg (by simp)] at ht
        obtain rfl : S = 2 := by rw [HS.out, HSJ.out, ht, if_neg (by decide)]
        obtain rfl : V = 2 := by rw [HF2.out, if_neg (by decide)]
        clear ht
        go_wp2_with fail
        refine C1.out.mono ?_
        rintro e w' ⟨rfl, rfl⟩
        go_wp2_with fail
        refine C2.out.mono ?_
        rintro e w' ⟨rfl, rfl⟩
        go_wp2
        go_ret
        exact ⟨rfl, rfl⟩
      | true =>
        have ht := HT.out
        rw [if_pos rfl, if_pos rfl] at ht
        by_cases h40 : 40 < z.size
        · rw [if_pos h40] at ht
          obtain rfl : S = 8 := by rw [HS.out, HSJ.out, ht, if_neg (by decide)]
          obtain rfl : V = 8 := by rw [HF2.out, if_neg (by decide)]
          have hzI : (40 : Int) < (z.size : Int) := by omega
          clear ht h40
          go_wp2_with fail
          refine C1.out.mono ?_
          rintro e w' ⟨rfl, rfl⟩
          go_wp2_with fail
          refine C2.out.mono ?_
          rintro e w' ⟨rfl, rfl⟩
          go_wp2
          go_ret
          exact ⟨rfl, rfl⟩
        · rw [if_neg h40] at ht
          have HS2 : Hid (S = ntsE (ns.drop (k + 1))) := by show _ = _; rw [HS.out, HSJ.out, ht, if_pos rfl]
          have hzI : ¬ (40 : Int) < (z.size : Int) := by omega
          clear ht h40
          go_wp2_with fail
          refine C1.out.mono ?_
          rintro e w' ⟨rfl, rfl⟩
          go_wp2_with fail
          refine C2.out.mono ?_
          rintro e w' ⟨rfl, rfl⟩
          go_wp2
          go_round
          case rel => exact ⟨k + 1, by omega, by go_num, HS2⟩
          case measure => simp [intOf]; omega

end Go.Proofs.Ytccoflhoggpgoaa

namespace Go.Proofs.Ytccoflhoggpgoaa
open Go.RowKit

open Go.Shelf

set_option maxRecDepth 100000 in
set_option maxHeartbeats 4000000 in
theorem moves_big (A : Option Addr) (n c : Nat) (B : Option Addr) (m d : Nat) (w : World) (h : 22 < n ∨ 22 < m) :
    Calls Try.prog 7 #[.slice A n c, .slice B m d] w fun e w' => e = .returned (.bool true) ∧ Below w.heap.size w w' := by
  by_cases hn : 22 < n
  · have hnI : (22 : Int) < (n : Int) := by omega
    clear h
    go_enter Try.func7, Try.ntmps7
    go_wp2_with fail
    refine (awake_any _).mono ?_
    rintro e w1 ⟨rfl, hb⟩
    have HB := Lib.hid hb
    clear hb
    go_wp2
    go_ret
    exact ⟨rfl, HB.out⟩
  · have hnI : ¬ (22 : Int) < (n : Int) := by omega
    have hmI : (22 : Int) < (m : Int) := by omega
    clear h
    go_enter Try.func7, Try.ntmps7
    go_wp2_with fail
    refine (awake_any _).mono ?_
    rintro e w1 ⟨rfl, hb⟩
    have HB := Lib.hid hb
    clear hb
    go_wp2
    go_ret
    exact ⟨rfl, HB.out⟩

set_option maxRecDepth 100000 in
set_option maxHeartbeats 8000000 in
theorem moves_any (A : Option Addr) (n c : Nat) (ns : List Nt) (B : Option Addr) (m d : Nat) (es : List Ed) (w : World) (hr : RdNt w A n ns) (hA : A = none → n = 0 ∧ c = 0) (he : RdEd w B m es) (hB : B = none → m = 0 ∧ d = 0) :
    Calls Try.prog 7 #[.slice A n c, .slice B m d] w fun e w' => e = .returned (.bool true) ∧ Below w.heap.size w w' := by
  by_cases hbig : 22 < n ∨ 22 < m
  · exact moves_big A n c B m d w hbig
  have hn : n ≤ 22 := by omega
  have hm : m ≤ 22 := by omega
  have hnI : ¬ (22 : Int) < (n : Int) := by omega
  have hmI : ¬ (22 : Int) < (m : Int) := by omega
  have HR : Hid (∀ W, Below w.heap.size w W → RdNt W A n ns) := fun W hb => hr.below hb
  have CCN : Hid (∀ W, Below w.heap.size w W → Calls Try.prog 42 #[.slice A n c] W fun e w' => (∃ A' c', e = .returned (.slice A' n c') ∧ n ≤ c' ∧ RdNt w' A' n ns) ∧ Below W.heap.size W w') := fun W hb => copyNotes_any A n c ns W hA (hr.below hb) (by omega)
  have CCE : Hid (∀ W, Below w.heap.size w W → Calls Try.prog 43 #[.slice B m d] W fun e w' => (∃ A' c', e = .returned (.slice A' m c') ∧ m ≤ c' ∧ RdEd w' A' m es) ∧ Below W.heap.size W w') := fun W hb => copyEdits_any B m d es W hB (he.below hb) (by omega)
  have CMV := Lib.hid (fun A' c' B' d' W (h1 : RdNt W A' n ns) (h2 : RdEd W B' m es) => Moved_any A' n c' ns B' m d' es W h1 h2 (by omega) (by omega))
  have CNE : Hid (∀ W, Below w.heap.size w W → Calls Try.prog 44 #[.slice A n c, .slice B m d] W fun e w' => e = .returned (.int .i64 (mvE ns es)) ∧ W = w') := fun W hb => refNotesErr_any A n c ns B m d es W (hr.below hb) (he.below hb) (by omega) (by omega)
  have CRM : Hid (mvE ns es = 0 → ∀ W, Below w.heap.size w W → Calls Try.prog 46 #[.slice A n c, .slice B m d] W fun e w' => (∃ A' c', e = .returned (.slice A' (mvL ns es).length c') ∧ RdNt w' A' (mvL ns es).length (mvL ns es)) ∧ Below W.heap.size W w') := fun h W hb => by
    obtain ⟨h1, h2, h3, h4⟩ := mvE_zero h
    have hl1 := hr.1
    have hl2 := he.1
    exact refMoved_any A n c ns B m d es W hA (hr.below hb) (he.below hb) (by omega) (by omega) (fun x hx => (h2 x hx).1) h4
  have HLL : Hid ((mvL ns es).length ≤ 1000000) := by have := mvL_len ns es; have := hr.1; show _ ≤ _; omega
  obtain ⟨E, hE⟩ : ∃ v, mvE ns es = v := ⟨_, rfl⟩
  rw [hE] at CNE CRM
  obtain ⟨L, hL⟩ : ∃ v, mvL ns es = v := ⟨_, rfl⟩
  rw [hL] at CRM HLL
  have CMV2 : Hid (∀ A' c' B' d' W, RdNt W A' n ns → RdEd W B' m es → Calls Try.prog 41 #[.slice A' n c', .slice B' m d'] W fun e w' => (E ≠ 0 → e = .returned (.tuple #[.slice none 0 0, .int .i64 E])) ∧ (E = 0 → ∃ A' c', e = .returned (.tuple #[.slice A' L.length c', .int .i64 0]) ∧ RdNt w' A' L.length L) ∧ Below W.heap.size W w') := by
    rw [← hE, ← hL]
    exact CMV.out
  obtain ⟨q, hq⟩ : ∃ q, L.length = q := ⟨_, rfl⟩
  rw [hq] at CRM HLL CMV2
  have hEE : (E == E) = true := by rw [beq_iff_eq]
  clear hE hL hq CMV hr hA he hB hbig
  go_enter Try.func7, Try.ntmps7
  go_wp2_with fail
  refine (awake_any _).mono ?_
  rintro e w1 ⟨rfl, hb⟩
  have HB1 := Lib.hid hb
  clear hb
  go_wp2
  go_loop [5] (fun i => ∃ j : Nat, j ≤ n ∧ i = .int .i64 j) (fun i => n - (intOf i).toNat)
  case atStart => exact ⟨0, Nat.zero_le _, rfl⟩
  case round =>
    obtain ⟨j, hj, rfl⟩ := hrel
    by_cases hjl : j < n
    case pos =>
      have hjI : (j : Int) < (n : Int) := by omega
      have hj0 : (0 : Int) ≤ (j : Int) := by omega
      obtain ⟨ad, hA, _, hc⟩ := (HR.out _ HB1.out).2 (by omega)
      subst hA
      obtain ⟨p0, p1, p2⟩ := hc j hjl
      obtain ⟨e, hee⟩ : ∃ e, ns.getD j nt0 = e := ⟨_, rfl⟩
      rw [hee] at p0 p1 p2
      obtain ⟨a, l, t⟩ := e
      have p2a : w1.cell? ((ad.add (j * 3)).add 2) = some (.string t) := p2
      have p2b : w1.cell? ⟨(ad.add (j * 3)).block, (ad.add (j * 3)).off + 2, none⟩ = some (.string t) := p2
      clear p0 p1 p2 hc hee
      by_cases h44 : 44 < t.size
      · have htI : (44 : Int) < (t.size : Int) := by omega
        go_wp2
        go_ret
        exact ⟨rfl, HB1.out⟩
      · have htI : ¬ (44 : Int) < (t.size : Int) := by omega
        go_wp2
        go_round
        case rel => exact ⟨j + 1, by omega, by go_num⟩
        case measure => simp [intOf]; omega
    obtain rfl : n = j := by omega
    have hjI : ¬ (n : Int) < (n : Int) := by omega
    clear hjl hj
    go_wp2_with fail
    refine (CCN.out _ HB1.out).mono ?_
    rintro e w2 ⟨⟨A1, c1, rfl, _, hr1⟩, hb⟩
    have HB2 := Lib.hid (HB1.out.trans (hb.mono HB1.out.size))
    have HR1 := Lib.hid hr1
    clear hb hr1
    go_wp2_with fail
    refine (CCE.out _ HB2.out).mono ?_
    rintro e w3 ⟨⟨B1, d1, rfl, _, he1⟩, hb⟩
    have HB3 := Lib.hid (HB2.out.trans (hb.mono HB2.out.size))
    have HR3 := Lib.hid (HR1.out.below hb)
    have HE3 := Lib.hid he1
    clear hb he1 HR1
    go_wp2_with fail
    refine (CMV2.out _ _ _ _ _ HR3.out HE3.out).mono ?_
    rintro e w4 ⟨k1, k2, hb⟩
    have HB4 := Lib.hid (HB3.out.trans (hb.mono HB3.out.size))
    clear hb HR3 HE3 CMV2
    by_cases h0 : E = 0
    · obtain ⟨A4, c4, rfl, hr4⟩ := k2 h0
      have HR4 := Lib.hid hr4
      clear k1 k2 hr4
      subst h0
      have CRM2 := Lib.hid (CRM.out rfl)
      clear CRM
      go_wp2_with fail
      refine (CNE.out _ HB4.out).mono ?_
      rintro e w' ⟨rfl, rfl⟩
      go_wp2_with fail
      refine (CRM2.out _ HB4.out).mono ?_
      rintro e w5 ⟨⟨A5, c5, rfl, hr5⟩, hb⟩
      have HB5 := Lib.hid (HB4.out.trans (hb.mono HB4.out.size))
      have HR45 := Lib.hid (HR4.out.below hb)
      have HR5 := Lib.hid hr5
      clear hb hr5
      go_wp2_with fail
      refine (sameNotes_any A4 q c4 A5 c5 L _ HR45.out HR5.out HLL.out).mono ?_
      rintro e w6 ⟨rfl, hb⟩
      have HB6 := Lib.hid (HB5.out.trans (hb.mono HB5.out.size))
      clear hb
      go_wp2
      go_ret
      exact ⟨rfl, HB6.out⟩
    · obtain rfl := k1 h0
      have dE0 : (E == 0) = false := by rw [beq_eq_false_iff_ne]; exact h0
      have dE1 : (E != 0) = true := by rw [bne_iff_ne]; exact h0
      clear k1 k2 h0 CRM
      go_wp2_with fail
      refine (CNE.out _ HB4.out).mono ?_
      rintro e w' ⟨rfl, rfl⟩
      go_wp2
      go_ret
      exact ⟨rfl, HB4.out⟩

end Go.Proofs.Ytccoflhoggpgoaa

namespace Go.Proofs.Ytccoflhoggpgoaa.op
open Go.ChangeShapes Go.WideShapes Go.ChangeAt Go.RowKit

theorem own : ownKnob Try.prog.godebug = none := by kernel_rfl
theorem laidOut : laidOutB Try.prog = true := by kernel_rfl
theorem cellsInt1 : Try.prog.cellsOf 3 = 1 := by kernel_rfl
theorem cellsI : Try.prog.cellsOf 3 = 1 := cellsInt1
theorem cellsInts : Try.prog.cellsOf 43 = 1 := by kernel_rfl
theorem lt_of_cell {w : World} {a : Addr} {v : Value} (h : w.cell? a = some v) : a.block < w.heap.size := World.block_lt_of_cell? _ _ h

set_option maxRecDepth 100000 in
theorem open_frac {H : Type} {enc : TypeId × Value → H} {w : World} {base : Nat} {spare : Nat → Bool} {held : Bool} {r : Reach} {b0 : Nat} {v : Value} {d : DataW H} {p : List MemPlace}
    (hv : Value.okWide Try.prog w r b0 23 v) (h : DataW.Trod enc Try.prog w base spare held 23 v d p) :
    ∃ z0 z1 : Int, v = .agg #[.int .i64 z0, .int .i64 z1] := by
  obtain ⟨cs, rfl, hsz⟩ := okWide_struct Try.underlying23 hv
  obtain ⟨fuel, hf⟩ := h
  obtain ⟨xs, n, _, _, hl, hxl, hg⟩ := DataW.trod_struct Try.underlying23 hf
  have h3 : Try.prog.cellsOf 23 = 2 := by kernel_rfl
  obtain ⟨l⟩ := cs
  have hl3 : l.length = 2 := by rw [← h3]; simpa using hsz
  match l, hl3, xs, hxl with
  | [c0, c1], _, [y0, y1], _ =>
    have g0 := hg 0 _ rfl
    have g1 := hg 1 _ rfl
    simp [Value.cells, cellsI] at g0 g1
    obtain ⟨z0, e0, _, _⟩ := DataW.trod_int Try.underlying3 g0
    obtain ⟨z1, e1, _, _⟩ := DataW.trod_int Try.underlying3 g1
    simp at e0 e1
    exact ⟨z0, z1, by rw [e0, e1]⟩

set_option maxRecDepth 100000 in
theorem open_test {H : Type} {enc : TypeId × Value → H} {w : World} {base : Nat} {spare : Nat → Bool} {held : Bool} {r : Reach} {b0 : Nat} {v : Value} {d : DataW H} {p : List MemPlace}
    (hv : Value.okWide Try.prog w r b0 108 v) (h : DataW.Trod enc Try.prog w base spare held 108 v d p) :
    ∃ z0 z1 z2 : Int, v = .agg #[.int .i64 z0, .int .i64 z1, .int .i64 z2] := by
  obtain ⟨cs, rfl, hsz⟩ := okWide_struct Try.underlying108 hv
  obtain ⟨fuel, hf⟩ := h
  obtain ⟨xs, n, _, _, hl, hxl, hg⟩ := DataW.trod_struct Try.underlying108 hf
  have h3 : Try.prog.cellsOf 108 = 3 := by kernel_rfl
  obtain ⟨l⟩ := cs
  have hl3 : l.length = 3 := by rw [← h3]; simpa using hsz
  match l, hl3, xs, hxl with
  | [c0, c1, c2], _, [y0, y1, y2], _ =>
    have g0 := hg 0 _ rfl
    have g1 := hg 1 _ rfl
    have g2 := hg 2 _ rfl
    simp [Value.cells, cellsI] at g0 g1 g2
    obtain ⟨z0, e0, _, _⟩ := DataW.trod_int Try.underlying3 g0
    obtain ⟨z1, e1, _, _⟩ := DataW.trod_int Try.underlying3 g1
    obtain ⟨z2, e2, _, _⟩ := DataW.trod_int Try.underlying3 g2
    simp at e0 e1 e2
    exact ⟨z0, z1, z2, by rw [e0, e1, e2]⟩

set_option maxRecDepth 100000 in
theorem open_meter {H : Type} {enc : TypeId × Value → H} {w : World} {base : Nat} {spare : Nat → Bool} {held : Bool} {r : Reach} {b0 : Nat} {v : Value} {d : DataW H} {p : List MemPlace}
    (hv : Value.okWide Try.prog w r b0 42 v) (h : DataW.Trod enc Try.prog w base spare held 42 v d p) :
    ∃ z0 z1 z2 z3 : Int, v = .agg #[.int .i64 z0, .int .i64 z1, .int .i64 z2, .int .i64 z3] := by
  obtain ⟨cs, rfl, hsz⟩ := okWide_struct Try.underlying42 hv
  obtain ⟨fuel, hf⟩ := h
  obtain ⟨xs, n, _, _, hl, hxl, hg⟩ := DataW.trod_struct Try.underlying42 hf
  have h3 : Try.prog.cellsOf 42 = 4 := by kernel_rfl
  obtain ⟨l⟩ := cs
  have hl3 : l.length = 4 := by rw [← h3]; simpa using hsz
  match l, hl3, xs, hxl with
  | [c0, c1, c2, c3], _, [y0, y1, y2, y3], _ =>
    have g0 := hg 0 _ rfl
    have g1 := hg 1 _ rfl
    have g2 := hg 2 _ rfl
    have g3 := hg 3 _ rfl
    simp [Value.cells, cellsI] at g0 g1 g2 g3
    obtain ⟨z0, e0, _, _⟩ := DataW.trod_int Try.underlying3 g0
    obtain ⟨z1, e1, _, _⟩ := DataW.trod_int Try.underlying3 g1
    obtain ⟨z2, e2, _, _⟩ := DataW.trod_int Try.underlying3 g2
    obtain ⟨z3, e3, _, _⟩ := DataW.trod_int Try.underlying3 g3
    simp at e0 e1 e2 e3
    exact ⟨z0, z1, z2, z3, by rw [e0, e1, e2, e3]⟩

/-- Numbers as they come in. -/
theorem open_rd {H : Type} {enc : TypeId × Value → H} {w : World} {base : Nat} {spare : Nat → Bool} {held : Bool} {A : Option Addr} {n c : Nat} {d : DataW H} {p : List MemPlace}
    (h : DataW.Trod enc Try.prog w base spare held 43 (.slice A n c) d p) : ∃ l, RdI w A n l ∧ n ≤ c ∧ c ≤ 9223372036854775807 ∧ (A = none → n = 0 ∧ c = 0) := by
  obtain ⟨fuel, hf⟩ := h
  rcases open_ints Try.underlying43 Try.underlying3 cellsInt1 hf with ⟨hcs, _⟩ | ⟨a, len, cap, zs, hcs, _, hl, hm, hz, _, hcell, _⟩
  · simp [Value.cells] at hcs
    obtain ⟨rfl, rfl, rfl⟩ := hcs
    exact ⟨[], ⟨rfl, fun h => absurd h (by omega)⟩, by omega, by omega, fun _ => ⟨rfl, rfl⟩⟩
  · simp [Value.cells] at hcs
    obtain ⟨rfl, rfl, rfl⟩ := hcs
    have hlen : n ≤ zs.length := by rw [hz]; split <;> omega
    refine ⟨zs.take n, ⟨by rw [List.length_take]; omega, fun hn => ⟨a, rfl, ?_, fun j hj => ?_⟩⟩, hl, by unfold maxLen at hm; omega, fun h => by cases h⟩
    · have := lt_of_cell (hcell 0 (by omega))
      rwa [addBlock] at this
    · rw [hcell j (by omega)]
      simp [List.getD_eq_getElem?_getD, List.getElem?_take, hj]

/-- Numbers of a field as they come in. -/
theorem open_rdf {H : Type} {enc : TypeId × Value → H} {w : World} {base : Nat} {spare : Nat → Bool} {held : Bool} {fuel : Nat} {v : Value} {x : DataW H × List MemPlace}
    (hf : DataW.trod enc Try.prog w base spare held fuel 43 [v] = some x) : ∃ A n c l, v = .slice A n c ∧ RdI w A n l ∧ n ≤ c ∧ c ≤ 9223372036854775807 ∧ (A = none → n = 0 ∧ c = 0) := by
  rcases open_ints Try.underlying43 Try.underlying3 cellsInt1 hf with ⟨hcs, _⟩ | ⟨a, len, cap, zs, hcs, _, hl, hm, hz, _, hcell, _⟩
  · injection hcs with hcs
    exact ⟨none, 0, 0, [], hcs, ⟨rfl, fun h => absurd h (by omega)⟩, by omega, by omega, fun _ => ⟨rfl, rfl⟩⟩
  · injection hcs with hcs
    have hlen : len ≤ zs.length := by rw [hz]; split <;> omega
    refine ⟨some a, len, cap, zs.take len, hcs, ⟨by rw [List.length_take]; omega, fun hn => ⟨a, rfl, ?_, fun j hj => ?_⟩⟩, hl, by unfold maxLen at hm; omega, fun h => by cases h⟩
    · have := lt_of_cell (hcell 0 (by omega))
      rwa [addBlock] at this
    · rw [hcell j (by omega)]
      simp [List.getD_eq_getElem?_getD, List.getElem?_take, hj]
end Go.Proofs.Ytccoflhoggpgoaa.op

namespace Go.Proofs.Ytccoflhoggpgoaa.op
open Go.ChangeShapes Go.WideShapes Go.ChangeAt Go.RowKit

set_option maxRecDepth 100000 in
theorem openb_frac {H : Type} {enc : TypeId × Value → H} {w : World} {base : Nat} {spare : Nat → Bool} {held : Bool} {r : Reach} {b0 : Nat} {v : Value} {d : DataW H} {p : List MemPlace}
    (hv : Value.okWide Try.prog w r b0 23 v) (h : DataW.Trod enc Try.prog w base spare held 23 v d p) :
    ∃ z0 z1 : Int, v = .agg #[.int .i64 z0, .int .i64 z1] ∧ (-9223372036854775808 ≤ z0 ∧ z0 ≤ 9223372036854775807) ∧ (-9223372036854775808 ≤ z1 ∧ z1 ≤ 9223372036854775807) := by
  obtain ⟨cs, rfl, hsz⟩ := okWide_struct Try.underlying23 hv
  obtain ⟨fuel, hf⟩ := h
  obtain ⟨xs, n, _, _, hl, hxl, hg⟩ := DataW.trod_struct Try.underlying23 hf
  have h3 : Try.prog.cellsOf 23 = 2 := by kernel_rfl
  obtain ⟨l⟩ := cs
  have hl3 : l.length = 2 := by rw [← h3]; simpa using hsz
  match l, hl3, xs, hxl with
  | [c0, c1], _, [y0, y1], _ =>
    have g0 := hg 0 _ rfl
    have g1 := hg 1 _ rfl
    simp [Value.cells, cellsI] at g0 g1
    obtain ⟨z0, e0, _, f0⟩ := DataW.trod_int Try.underlying3 g0
    obtain ⟨z1, e1, _, f1⟩ := DataW.trod_int Try.underlying3 g1
    simp at e0 e1
    exact ⟨z0, z1, by rw [e0, e1], bounds_i64 f0, bounds_i64 f1⟩

set_option maxRecDepth 100000 in
theorem openb_meter {H : Type} {enc : TypeId × Value → H} {w : World} {base : Nat} {spare : Nat → Bool} {held : Bool} {r : Reach} {b0 : Nat} {v : Value} {d : DataW H} {p : List MemPlace}
    (hv : Value.okWide Try.prog w r b0 42 v) (h : DataW.Trod enc Try.prog w base spare held 42 v d p) :
    ∃ z0 z1 z2 z3 : Int, v = .agg #[.int .i64 z0, .int .i64 z1, .int .i64 z2, .int .i64 z3] ∧ (-9223372036854775808 ≤ z0 ∧ z0 ≤ 9223372036854775807) ∧ (-9223372036854775808 ≤ z1 ∧ z1 ≤ 9223372036854775807) ∧ (-9223372036854775808 ≤ z2 ∧ z2 ≤ 9223372036854775807) ∧ (-9223372036854775808 ≤ z3 ∧ z3 ≤ 9223372036854775807) := by
  obtain ⟨cs, rfl, hsz⟩ := okWide_struct Try.underlying42 hv
  obtain ⟨fuel, hf⟩ := h
  obtain ⟨xs, n, _, _, hl, hxl, hg⟩ := DataW.trod_struct Try.underlying42 hf
  have h3 : Try.prog.cellsOf 42 = 4 := by kernel_rfl
  obtain ⟨l⟩ := cs
  have hl3 : l.length = 4 := by rw [← h3]; simpa using hsz
  match l, hl3, xs, hxl with
  | [c0, c1, c2, c3], _, [y0, y1, y2, y3], _ =>
    have g0 := hg 0 _ rfl
    have g1 := hg 1 _ rfl
    have g2 := hg 2 _ rfl
    have g3 := hg 3 _ rfl
    simp [Value.cells, cellsI] at g0 g1 g2 g3
    obtain ⟨z0, e0, _, f0⟩ := DataW.trod_int Try.underlying3 g0
    obtain ⟨z1, e1, _, f1⟩ := DataW.trod_int Try.underlying3 g1
    obtain ⟨z2, e2, _, f2⟩ := DataW.trod_int Try.underlying3 g2
    obtain ⟨z3, e3, _, f3⟩ := DataW.trod_int Try.underlying3 g3
    simp at e0 e1 e2 e3
    exact ⟨z0, z1, z2, z3, by rw [e0, e1, e2, e3], bounds_i64 f0, bounds_i64 f1, bounds_i64 f2, bounds_i64 f3⟩

theorem openb_int {H : Type} {enc : TypeId × Value → H} {w : World} {base : Nat} {spare : Nat → Bool} {held : Bool} {z : Int} {d : DataW H} {p : List MemPlace}
    (h : DataW.Trod enc Try.prog w base spare held 3 (.int .i64 z) d p) : -9223372036854775808 ≤ z ∧ z ≤ 9223372036854775807 := by
  obtain ⟨fuel, hf⟩ := h
  obtain ⟨z0, e0, _, f0⟩ := DataW.trod_int Try.underlying3 hf
  simp [Value.cells] at e0
  subst e0
  exact bounds_i64 f0
end Go.Proofs.Ytccoflhoggpgoaa.op

namespace Go.Proofs.Ytccoflhoggpgoaa.op
open Go.ChangeShapes Go.WideShapes Go.ChangeAt Go.RowKit

instance : Inhabited Nt := ⟨nt0⟩
instance : Inhabited Ed := ⟨ed0⟩
theorem cellsS : Try.prog.cellsOf 9 = 1 := by kernel_rfl
theorem cellsB1 : Try.prog.cellsOf 4 = 1 := by kernel_rfl

set_option maxRecDepth 100000 in
theorem notes_of {H : Type} {enc : TypeId × Value → H} {w : World} {base : Nat} {spare : Nat → Bool} {held : Bool} {cs : List Value} {fuel : Nat} {x : DataW H × List MemPlace}
    (h : DataW.trod enc Try.prog w base spare held fuel 63 cs = some x) : ∃ e : Nt, cs = e.v.toList := by
  obtain ⟨xs, n, _, _, hl, hxl, hg⟩ := DataW.trod_struct Try.underlying63 h
  have h3 : Try.prog.cellsOf 63 = 3 := by kernel_rfl
  rw [h3] at hl
  match cs, hl, xs, hxl with
  | [c0, c1, c2], _, [y0, y1, y2], _ =>
    have g0 := hg 0 _ rfl
    have g1 := hg 1 _ rfl
    have g2 := hg 2 _ rfl
    simp [cellsI, cellsS, cellsB1] at g0 g1 g2
    obtain ⟨z0, e0, _, _⟩ := DataW.trod_int Try.underlying3 g0
    obtain ⟨z1, e1, _, _⟩ := DataW.trod_int Try.underlying3 g1
    obtain ⟨z2, e2, _, _⟩ := DataW.trod_string Try.underlying9 g2
    simp at e0 e1 e2
    exact ⟨⟨z0, z1, z2⟩, by rw [e0, e1, e2]; rfl⟩
theorem open_notes {H : Type} {enc : TypeId × Value → H} {w : World} {base : Nat} {spare : Nat → Bool} {held : Bool} {A : Option Addr} {n c : Nat} {d : DataW H} {p : List MemPlace}
    (h : DataW.Trod enc Try.prog w base spare held 60 (.slice A n c) d p) : ∃ l, RdNt w A n l ∧ (A = none → n = 0 ∧ c = 0) := by
  obtain ⟨fuel, hf⟩ := h
  have h3 : Try.prog.cellsOf 63 = 3 := by kernel_rfl
  rcases Deep.open_slice Try.underlying60 hf with ⟨hcs, _⟩ | ⟨a, len, cap, m, k, D, Pl, hcs, _, hl, hm, hz, _, hx⟩
  · simp [Value.cells] at hcs
    obtain ⟨rfl, rfl, rfl⟩ := hcs
    exact ⟨[], ⟨rfl, fun h => absurd h (by omega)⟩, fun _ => ⟨rfl, rfl⟩⟩
  · simp [Value.cells] at hcs
    obtain ⟨rfl, rfl, rfl⟩ := hcs
    have hlen : n ≤ m := by rw [hz]; split <;> omega
    rw [h3] at hx
    obtain ⟨f, hf⟩ := Deep.choose_lt (α := Nt) (n := n) (p := fun i l => w.cell? (a.add (i * 3)) = some (l.v.getD 0 (.bool false)) ∧ w.cell? ((a.add (i * 3)).add 1) = some (l.v.getD 1 (.bool false)) ∧ w.cell? ((a.add (i * 3)).add 2) = some (l.v.getD 2 (.bool false))) (fun i hi => by
      obtain ⟨cs, h1, h2⟩ := hx i (by omega)
      obtain ⟨e, rfl⟩ := notes_of h2
      obtain ⟨_, _, hc⟩ := World.cells?_some h1
      have c0 := hc 0 (by omega)
      rw [addZ] at c0
      exact ⟨e, c0, hc 1 (by omega), hc 2 (by omega)⟩)
    refine ⟨(List.range n).map f, ⟨by simp, fun hn => ⟨a, rfl, ?_, fun j hj => ?_⟩⟩, fun h => by cases h⟩
    · have := lt_of_cell (hf 0 (by omega)).1
      rwa [addBlock] at this
    · have e : ((List.range n).map f).getD j nt0 = f j := by simp [List.getD_eq_getElem?_getD, hj]
      rw [e]
      exact hf j hj

set_option maxRecDepth 100000 in
theorem edits_of {H : Type} {enc : TypeId × Value → H} {w : World} {base : Nat} {spare : Nat → Bool} {held : Bool} {cs : List Value} {fuel : Nat} {x : DataW H × List MemPlace}
    (h : DataW.trod enc Try.prog w base spare held fuel 73 cs = some x) : ∃ e : Ed, cs = e.v.toList := by
  obtain ⟨xs, n, _, _, hl, hxl, hg⟩ := DataW.trod_struct Try.underlying73 h
  have h3 : Try.prog.cellsOf 73 = 3 := by kernel_rfl
  rw [h3] at hl
  match cs, hl, xs, hxl with
  | [c0, c1, c2], _, [y0, y1, y2], _ =>
    have g0 := hg 0 _ rfl
    have g1 := hg 1 _ rfl
    have g2 := hg 2 _ rfl
    simp [cellsI, cellsS, cellsB1] at g0 g1 g2
    obtain ⟨z0, e0, _⟩ := DataW.trod_bool Try.underlying4 g0
    obtain ⟨z1, e1, _, _⟩ := DataW.trod_int Try.underlying3 g1
    obtain ⟨z2, e2, _, _⟩ := DataW.trod_int Try.underlying3 g2
    simp at e0 e1 e2
    exact ⟨⟨z0, z1, z2⟩, by rw [e0, e1, e2]; rfl⟩
theorem open_edits {H : Type} {enc : TypeId × Value → H} {w : World} {base : Nat} {spare : Nat → Bool} {held : Bool} {A : Option Addr} {n c : Nat} {d : DataW H} {p : List MemPlace}
    (h : DataW.Trod enc Try.prog w base spare held 61 (.slice A n c) d p) : ∃ l, RdEd w A n l ∧ (A = none → n = 0 ∧ c = 0) := by
  obtain ⟨fuel, hf⟩ := h
  have h3 : Try.prog.cellsOf 73 = 3 := by kernel_rfl
  rcases Deep.open_slice Try.underlying61 hf with ⟨hcs, _⟩ | ⟨a, len, cap, m, k, D, Pl, hcs, _, hl, hm, hz, _, hx⟩
  · simp [Value.cells] at hcs
    obtain ⟨rfl, rfl, rfl⟩ := hcs
    exact ⟨[], ⟨rfl, fun h => absurd h (by omega)⟩, fun _ => ⟨rfl, rfl⟩⟩
  · simp [Value.cells] at hcs
    obtain ⟨rfl, rfl, rfl⟩ := hcs
    have hlen : n ≤ m := by rw [hz]; split <;> omega
    rw [h3] at hx
    obtain ⟨f, hf⟩ := Deep.choose_lt (α := Ed) (n := n) (p := fun i l => w.cell? (a.add (i * 3)) = some (l.v.getD 0 (.bool false)) ∧ w.cell? ((a.add (i * 3)).add 1) = some (l.v.getD 1 (.bool false)) ∧ w.cell? ((a.add (i * 3)).add 2) = some (l.v.getD 2 (.bool false))) (fun i hi => by
      obtain ⟨cs, h1, h2⟩ := hx i (by omega)
      obtain ⟨e, rfl⟩ := edits_of h2
      obtain ⟨_, _, hc⟩ := World.cells?_some h1
      have c0 := hc 0 (by omega)
      rw [addZ] at c0
      exact ⟨e, c0, hc 1 (by omega), hc 2 (by omega)⟩)
    refine ⟨(List.range n).map f, ⟨by simp, fun hn => ⟨a, rfl, ?_, fun j hj => ?_⟩⟩, fun h => by cases h⟩
    · have := lt_of_cell (hf 0 (by omega)).1
      rwa [addBlock] at this
    · have e : ((List.range n).map f).getD j ed0 = f j := by simp [List.getD_eq_getElem?_getD, hj]
      rw [e]
      exact hf j hj
end Go.Proofs.Ytccoflhoggpgoaa.op

