/-
  What is trimmed are records from the first one on that stood fast; the others are as they were, opened anew too. WalTrims returns true for every input, and its arguments read as before.
  Condition: none but those that the form of every such statement bears by itself (each string within the reach).
-/
import Derived.Deep.RegionHeld3
import Derived.Test.YtfbelaalmdcaaaaRows
import Derived.ProofKit
import Derived.OpenShut
import Derived.ShutString
import Derived.SizedLaws
import Derived.JoinedCond
import Derived.Test.YtfbelaalmdcaaaaK16
import Derived.Test.YtfbelaalmdcaaaaK15
import Derived.Test.YtfbelaalmdcaaaaK07

/-
  The walk of WalTrims.
-/
namespace Go.Proofs.Ytfbelaalmdcaaaa.walTrims
open Go.RowKit
set_option linter.unusedVariables false

/-- What the tape has, opened anew. -/
theorem again_b (g : Lg) (ok : g.ok) : (Lg.open g.write.sync.t 0).l = g.l ∧ (Lg.open g.write.sync.t 0).t.b = mkS (framesB g.l) := by
  have h1 := (g.opened ok 0).1
  have hok := Lg.open_ok g.write.sync.t ((g.write.sync_ok (g.write_ok ok)).tok) 0
  have hb := hok.bytes
  have hon : (Lg.open g.write.sync.t 0).on = (Lg.open g.write.sync.t 0).l.length := rfl
  rw [hon, List.take_length, h1] at hb
  refine ⟨h1, ?_⟩
  have e : (Lg.open g.write.sync.t 0).t.b = ⟨(Lg.open g.write.sync.t 0).t.b.data.toList.toArray⟩ := by simp
  rw [e, hb]
  rfl
theorem run_str9 (x : World) (a : Option Addr) (n c : Nat) (bs : List UInt8) (h : IsB x a n bs) : (convert 60 9 (.slice a n c)).run Try.prog x = .ok (.string ⟨bs.toArray⟩) x := run_toString (P := Try.prog) x 60 9 5 Try.underlying60 Try.underlying5 Try.underlying9 a n c bs h
theorem rall7_at (x : World) (v : Value) (ms : List Rm) (h : RsIn x v ms) (hr : ∀ r ∈ msR ms, r.right) (hl : ms.length ≤ 20000) (hz : (framesB (msR ms)).length ≤ 70000) (hc : ∀ a len cap, v = .slice a len cap → len ≤ cap) :
    Calls Try.prog 28 #[v] x fun e w' => e = .returned (.string (mkS (framesB (msR ms)))) ∧ Below x.heap.size x w' := by
  have h' := h
  obtain ⟨⟨a, cap, rfl, -⟩, -⟩ := h'
  exact rall7_any a cap ms x h hr hl (hc _ _ _ rfl) hz
set_option maxRecDepth 8000 in
set_option maxHeartbeats 3200000 in
theorem no (v : Value) (n : Nat) (w : World) (hf : ∀ x, Below w.heap.size w x → Calls Try.prog 8 #[v] x (fun e w' => e = .returned (.bool false) ∧ x = w')) :
    Calls Try.prog 6 #[v, .int .u64 (n : Int)] w fun e w' => e = .returned (.bool true) ∧ Below w.heap.size w w' := by
  have HF := hide hf
  clear hf
  go_enter Try.func6, Try.ntmps6
  go_wp2_with fail
  refine (awake9_any w).mono ?_
  rintro e w1 ⟨rfl, hb1⟩
  have HB := hide hb1
  clear hb1
  go_wp2_with fail
  refine (HF.out w1 HB.out).mono ?_
  rintro e w2 ⟨rfl, rfl⟩
  go_wp2_with fail
  refine (awake9_any w1).mono ?_
  rintro e w3 ⟨rfl, hb3⟩
  have HB3 := hide (HB.out.trans (hb3.mono HB.out.size))
  clear hb3 HB
  go_wp2
  go_ret
  exact ⟨rfl, HB3.out⟩
set_option maxRecDepth 8000 in
set_option maxHeartbeats 6400000 in
theorem yes (v : Value) (cs : List Wc) (n : Nat) (w : World) (hs : Scr w v cs) (hl : cs.length ≤ 100) (hf : ∀ x, Below w.heap.size w x → Calls Try.prog 8 #[v] x (fun e w' => e = .returned (.bool true) ∧ x = w')) (hn : n < 18446744073709551616) :
    Calls Try.prog 6 #[v, .int .u64 (n : Int)] w fun e w' => e = .returned (.bool true) ∧ Below w.heap.size w w' := by
  have HF := hide hf
  have HS := hide hs
  clear hf hs
  go_enter Try.func6, Try.ntmps6
  go_wp2_with fail
  refine (awake9_any w).mono ?_
  rintro e w1 ⟨rfl, hb1⟩
  have HB := hide hb1
  clear hb1
  go_wp2_with fail
  refine (HF.out w1 HB.out).mono ?_
  rintro e w2 ⟨rfl, rfl⟩
  clear HF
  go_wp2_with fail
  refine (played9_at 65536 v cs w w1 HS.out hl HB.out).mono ?_
  rintro e w2 ⟨gt, gl, g, rfl, h2⟩
  have H2 := hide h2
  clear h2 HB
  go_wp2_with fail
  refine (krecs9 H2.out).mono ?_
  rintro e w3 ⟨ga, ns, rfl, hri, -⟩
  have H3 := hide (And.intro hri (H2.out.since hri.bel))
  clear hri H2
  go_wp2_with fail
  refine (kdur9 H3.out.2).mono ?_
  rintro e w4 ⟨rfl, h4⟩
  have H4 := hide h4
  clear h4
  go_wp2_with fail
  refine (ktrim9 H4.out n hn).mono ?_
  rintro e w5 ⟨rfl, h5⟩
  have hfew := few_recs g H4.out.ok
  have HGL := hide (show (g.trim n).l = g.l.drop (trimK g.l g.fa n) ∧ (g.trim n).l.length = g.l.length - trimK g.l g.fa n from ⟨rfl, by show (g.l.drop _).length = _; rw [List.length_drop]⟩)
  have HTM := hide (fun i (hi : i < g.l.length) => g.trimmed H4.out.ok n i hi)
  have hkN := (trimK_le g.l g.fa n).2
  have HNL := hide H3.out.1.len
  have H5 := hide h5
  clear h5 H4
  generalize trimK g.l g.fa n = k at *
  obtain ⟨g', hg'⟩ : ∃ g', g' = g.trim n := ⟨_, rfl⟩
  rw [← hg'] at HGL H5
  clear hg'
  have H3R := hide H3.out.1
  have H3K := hide H3.out.2
  clear H3
  obtain ⟨N, hN⟩ : ∃ N, N = g.l.length := ⟨_, rfl⟩
  rw [← hN] at hkN hfew HGL HNL HTM ⊢
  have HN := hide hN
  clear hN
  have ik : (k : Int) ≤ (N : Int) := by omega
  have ik0 : ¬ (k : Int) < 0 := by omega
  have ik1 : ¬ (N : Int) < (k : Int) := by omega
  have ik2 : ¬ N < k := by omega
  by_cases hkn : k = N
  · obtain rfl := hkn
    have hNk : k - k = 0 := Nat.sub_self k
    have HSL : Hid (∀ x, (∀ q, (w2.heap.size ≤ q ∧ q < w3.heap.size) → q < x.heap.size ∧ x.heap[q]? = w3.heap[q]?) → RsIn x (.slice (some ⟨ga, 0, none⟩) 0 0) (ns.drop k)) := hide (fun x hx => by
      have e := H3R.out.stay hx
      rw [HNL.out, ← HN.out] at e
      have e0 : ns.drop k = [] := List.eq_nil_of_length_eq_zero (by rw [List.length_drop, HNL.out]; omega)
      rw [e0]
      exact RsIn.empty _ _ _)
    have HMR : Hid (msR (ns.drop k) = g'.l ∧ (ns.drop k).length = k - k) := ⟨by rw [HGL.out.1, ← H3R.out.rs.2]; simp [msR, List.map_drop], by rw [List.length_drop, HNL.out]⟩
    go_wp2_with fail
    go_region_held3 (fun x => True) (trivial)
      (first
      | (go_at_call 10; with_reducible refine (krecs9 H5.out.drew).mono ?_; rintro e w6 ⟨ga2, ns2, rfl, hri2, h6⟩; rw [HGL.out.2]; rw [hNk])
      | (go_at_call 14; with_reducible refine (rlist_any (.slice (some ⟨ga2, 0, none⟩) 0 0) (.slice (some ⟨ga, 0, none⟩) 0 0) ns2 (ns.drop k) w6 ?ha (HSL.out w6 (fun q hq => h6.stay q hq)) ?he ?hl).mono ?_; (case ha => have e := hri2.rs.1; rw [hri2.len, HGL.out.2, hNk] at e; exact e); (case he => rw [HMR.out.1, hri2.rs.2]); (case hl => have e := hri2.len; rw [HGL.out.2] at e; omega); rintro e w7 ⟨rfl, hb7⟩))
    have H7 := hide (h6.later hb7)
    clear hb7 h6 hri2 H5
    go_wp2
    go_loopw [62] (fun i wr => ∃ j : Nat, j ≤ k ∧ i = .int .i64 (j : Int) ∧ w7 = wr) (fun i _ => k - (intOf i).toNat)
    case atStart => exact ⟨0, Nat.zero_le _, rfl, rfl⟩
    case round =>
      obtain ⟨j, hj, rfl, rfl⟩ := hrel
      by_cases hlt : j < k
      · have ij : (j : Int) < (k : Int) := by omega
        have hST := (H3R.out.stay (fun q hq => H7.out.stay q hq))
        obtain ⟨b, off, eb, hbl, hrg, _, _⟩ := hST.at (i := j) (by rw [HNL.out]; exact hlt)
        injection eb with eb
        injection eb with eb1 eb2
        subst eb1 eb2
        have hcl : w7.cell? ⟨ga, j * 14 + 1, none⟩ = some (.int .u64 ((ns.getD j rcZ).1.l : Int)) := by
          have e := hrg 1 _ rfl
          rwa [show 0 + j * 14 + 1 = j * 14 + 1 by omega] at e
        have hgl : (ns.getD j rcZ).1 = g.l.getD j Rec.zero := by rw [← H3R.out.rs.2, msR_get]
        rw [hgl] at hcl
        have htm := HTM.out j hlt
        generalize (g.l.getD j Rec.zero).l = L at *
        clear hST hrg hgl
        by_cases hjk : j < k
        · have t1 : (j : Int) < (k : Int) := by omega
          have t2 : ¬ n ≤ L := by have := (htm.1 hjk).1; omega
          have t3 : ¬ g.du < L := by have := (htm.1 hjk).2; omega
          have t4 : ¬ (n : Int) ≤ (L : Int) := by omega
          have t5 : ¬ (g.du : Int) < (L : Int) := by omega
          have t6 : ¬ (k : Int) ≤ (j : Int) := by omega
          have t7 : ¬ k ≤ j := by omega
          clear htm
          go_wp2
          go_roundw
          case rel => exact ⟨j + 1, by omega, by go_num, by first | rfl | trivial⟩
          case measure => simp [intOf]; omega
        · exact absurd hlt hjk
      · go_wp2_with fail
        refine (kwrite9 H7.out).mono ?_
        rintro e w8 ⟨rfl, h8⟩
        have H8 := hide h8
        clear h8
        go_wp2_with fail
        refine (ksync9 H8.out).mono ?_
        rintro e w9 ⟨rfl, h9⟩
        obtain ⟨gt9, t1, t2, t3, t4, t5⟩ := h9.tape
        have HOP := hide (kopen9 _ w3 w w9 gt gt9 g'.write.sync.t 0 t1 h9.ok.tok t2 t3 ⟨t4, t5⟩ (fun q hq => h9.stay q hq) h9.bel (by decide))
        have HAG := hide (again_b g' H7.out.ok)
        have hok' := H7.out.ok
        have hroom : (framesB g'.l).length ≤ 65536 := by
          have q1 := g'.used_all hok'
          have q2 := hok'.room
          have q3 := hok'.tok.room
          omega
        have HRT := hide (fun r (hr : r ∈ g'.l) => rise_right _ 0 hok'.rise r hr)
        clear h9 t1 t2 t3 t4 t5 hok' H8 H7
        generalize hgg : Lg.open g'.write.sync.t 0 = g3 at *
        clear hgg
        have HML := hide (show g3.l.length = k - k by rw [HAG.out.1, HGL.out.2])
        have HBB := hide (show (⟨g3.t.b.data.toList.toArray⟩ : ByteArray) = mkS (framesB g'.l) by rw [← HAG.out.2])
        have HALL := hide (fun x (hx : RsIn x (.slice (some ⟨ga, 0, none⟩) 0 0) (ns.drop k)) => rall7_at x (.slice (some ⟨ga, 0, none⟩) 0 0) (ns.drop k) hx (by rw [HMR.out.1]; exact fun r hr => HRT.out r hr) (by rw [HMR.out.2]; omega) (by rw [HMR.out.1]; omega) (fun a len cap e => by injection e; omega))
        rw [HMR.out.1] at HALL
        go_wp2_with fail
        refine HOP.out.mono ?_
        rintro e w10 ⟨gm, rfl, h10⟩
        have H10 := hide h10
        clear h10 HOP HTM
        go_wp2_with fail
        refine wp_region_noPanic ?_
        refine wp_region_held_drew (S := fun _ => True) (by kernel_rfl) trivial (fun hHeld => ?_)
        refine wpAnyH_take (i := 0) (v := (.int .i64 0)) rfl (by kernel_rfl) (by kernel_rfl) (by kernel_rfl) (fun _ _ _ h => h) (Or.inl ⟨by kernel_rfl, fun w hSw => by go_simp⟩) trivial ?_
        try simp only [Act.put]
        refine wpAnyH_take (i := 1) (v := (.bool true)) rfl (by kernel_rfl) (by kernel_rfl) (by kernel_rfl) (fun _ _ _ h => h) (Or.inl ⟨by kernel_rfl, fun w hSw => by go_simp⟩) trivial ?_
        try simp only [Act.put]
        refine wpAnyH_take (i := 2) (v := (.bool true)) rfl (by kernel_rfl) (by kernel_rfl) (by kernel_rfl) (fun _ _ _ h => h) (Or.inl ⟨by kernel_rfl, fun w hSw => by go_simp⟩) trivial ?_
        try simp only [Act.put]
        refine wpAnyH_take (i := 3) (v := (.pointer (some ⟨gm, 0, none⟩))) rfl (by kernel_rfl) (by kernel_rfl) (by kernel_rfl) (fun _ _ _ h => h) (Or.inl ⟨by kernel_rfl, fun w hSw => by go_simp⟩) trivial ?_
        try simp only [Act.put]
        refine wpAnyH_take (i := 4) (v := (.bool true)) rfl (by kernel_rfl) (by kernel_rfl) (by kernel_rfl) (fun _ _ _ h => h) (Or.inl ⟨by kernel_rfl, fun w hSw => by go_simp⟩) trivial ?_
        try simp only [Act.put]
        refine wpAnyH_take (i := 5) (v := (.bool true)) rfl (by kernel_rfl) (by kernel_rfl) (by kernel_rfl) (fun _ _ _ h => h) (Or.inl ⟨by kernel_rfl, fun w hSw => by go_simp⟩) trivial ?_
        try simp only [Act.put]
        refine wpAnyH_take (i := 6) (v := (.bool true)) rfl (by kernel_rfl) (by kernel_rfl) (by kernel_rfl) (fun _ _ _ h => h) (Or.inl ⟨by kernel_rfl, fun w hSw => by go_simp⟩) trivial ?_
        try simp only [Act.put]
        refine wpAnyH_take (i := 7) (v := (.pointer (some ⟨gm, 0, none⟩))) rfl (by kernel_rfl) (by kernel_rfl) (by kernel_rfl) (fun _ _ _ h => h) (Or.inl ⟨by kernel_rfl, fun w hSw => by go_simp⟩) trivial ?_
        try simp only [Act.put]
        refine wpAnyH_take (i := 9) (v := (.slice (some ⟨ga, 0, none⟩) k k)) rfl (by kernel_rfl) (by kernel_rfl) (by kernel_rfl) (fun _ _ _ h => h) (Or.inl ⟨by kernel_rfl, fun w hSw => by go_simp⟩) trivial ?_
        try simp only [Act.put]
        refine wpAnyH_take (i := 10) (v := (.int .i64 (k : Int))) rfl (by kernel_rfl) (by kernel_rfl) (by kernel_rfl) (fun _ _ _ h => h) (Or.inl ⟨by kernel_rfl, fun w hSw => by go_simp⟩) trivial ?_
        try simp only [Act.put]
        refine wpAnyH_take (i := 11) (v := (.slice (some ⟨ga, 0, none⟩) 0 0)) rfl (by kernel_rfl) (by kernel_rfl) (by kernel_rfl) (fun _ _ _ h => h) (Or.inl ⟨by kernel_rfl, fun w hSw => by go_simp⟩) trivial ?_
        try simp only [Act.put]
        refine wpAnyH_ready (rs := [8]) (by kernel_rfl) (by simp) ?_
        refine AllReadyH.cons rfl (fun K hK => ?_) AllReadyH.nil
        go_simp
        refine (krecs9 H10.out.drew).mono ?_
        rintro e w11 ⟨ga3, ns3, rfl, hri3, h11⟩
        rw [HML.out]
        rw [hNk]
        go_wp2_with fail
        refine hK.out _ _ trivial (fun _ => ?_)
        clear hK K
        try simp only [Act.put]
        refine wpAnyH_ready (rs := [12]) (by kernel_rfl) (by simp) ?_
        refine AllReadyH.cons rfl (fun K hK => ?_) AllReadyH.nil
        go_simp
        refine (rlist_any (.slice (some ⟨ga3, 0, none⟩) 0 0) (.slice (some ⟨ga, 0, none⟩) 0 0) ns3 (ns.drop k) w11 (by have e := hri3.rs.1; rw [hri3.len, HML.out, hNk] at e; exact e) (HSL.out w11 (fun q hq => h11.stay q hq)) (by rw [HMR.out.1, hri3.rs.2, HAG.out.1]) (by have e := hri3.len; rw [HML.out] at e; omega)).mono ?_
        rintro e w12 ⟨rfl, hb12⟩
        have H12 := hide (h11.later hb12)
        obtain ⟨gtb, ht12, _⟩ := H12.out.tape
        have HT12 := hide ht12
        clear ht12 hri3 h11 hb12
        go_wp2_with fail
        refine hK.out _ _ trivial (fun _ => ?_)
        clear hK K
        try simp only [Act.put]
        refine wpAnyH_take (i := 13) (v := (.bool true)) rfl (by kernel_rfl) (by kernel_rfl) (by kernel_rfl) (fun _ _ _ h => h) (Or.inl ⟨by kernel_rfl, fun w hSw => by go_simp⟩) trivial ?_
        try simp only [Act.put]
        refine wpAnyH_take (i := 14) (v := (.bool true)) rfl (by kernel_rfl) (by kernel_rfl) (by kernel_rfl) (fun _ _ _ h => h) (Or.inl ⟨by kernel_rfl, fun w hSw => by go_simp⟩) trivial ?_
        try simp only [Act.put]
        refine wpAnyH_take (i := 15) (v := (.pointer (some ⟨gt, 0, none⟩))) rfl (by kernel_rfl) (by kernel_rfl) (by kernel_rfl) (fun _ _ _ h => h) (Or.inl ⟨by kernel_rfl, fun w hSw => by go_simp⟩) trivial ?_
        try simp only [Act.put]
        refine wpAnyH_take (i := 18) (v := (.slice (some ⟨ga, 0, none⟩) k k)) rfl (by kernel_rfl) (by kernel_rfl) (by kernel_rfl) (fun _ _ _ h => h) (Or.inl ⟨by kernel_rfl, fun w hSw => by go_simp⟩) trivial ?_
        try simp only [Act.put]
        refine wpAnyH_take (i := 19) (v := (.int .i64 (k : Int))) rfl (by kernel_rfl) (by kernel_rfl) (by kernel_rfl) (fun _ _ _ h => h) (Or.inl ⟨by kernel_rfl, fun w hSw => by go_simp⟩) trivial ?_
        try simp only [Act.put]
        refine wpAnyH_take (i := 20) (v := (.slice (some ⟨ga, 0, none⟩) 0 0)) rfl (by kernel_rfl) (by kernel_rfl) (by kernel_rfl) (fun _ _ _ h => h) (Or.inl ⟨by kernel_rfl, fun w hSw => by go_simp⟩) trivial ?_
        try simp only [Act.put]
        refine wpAnyH_ready (rs := [16]) (by kernel_rfl) (by simp) ?_
        refine AllReadyH.cons rfl (fun K hK => ?_) AllReadyH.nil
        go_simp
        refine (bytes8_any gt gtb _ w12 HT12.out H12.out.ok.tok).mono ?_
        rintro e w13 ⟨v13, rfl, ho13, hb13⟩
        obtain ⟨a13, c13, rfl, -, hB13⟩ := shape_isB ho13
        have q13 := run_str9 w13 a13 _ c13 _ hB13
        rw [HBB.out] at q13
        have H13 := hide (H12.out.later hb13)
        have HB13 := hide hB13
        clear ho13 hb13 hB13
        go_wp2_with fail
        refine hK.out _ _ trivial (fun _ => ?_)
        clear hK K
        try simp only [Act.put]
        refine wpAnyH_ready (rs := [17, 21]) (by kernel_rfl) (by simp) ?_
        refine AllReadyH.cons rfl (fun K hK => ?_) (AllReadyH.cons rfl (fun K hK => ?_) AllReadyH.nil)
        · go_simp
          refine hK.out _ _ trivial (fun _ => ?_)
          clear hK K
          try simp only [Act.put]
          refine wpAnyH_ready (rs := [21]) (by kernel_rfl) (by simp) ?_
          refine AllReadyH.cons rfl (fun K hK => ?_) AllReadyH.nil
          go_simp
          refine (HALL.out w13 (HSL.out w13 (fun q hq => H13.out.stay q hq))).mono ?_
          rintro e w14 ⟨rfl, hb14⟩
          have H14 := hide (H13.out.later hb14)
          clear hb14
          go_wp2_with fail
          refine hK.out _ _ trivial (fun _ => ?_)
          clear hK K
          try simp only [Act.put]
          refine wpAnyH_ready (rs := [22]) (by kernel_rfl) (by simp) ?_
          refine AllReadyH.cons rfl (fun K hK => ?_) AllReadyH.nil
          go_simp
          refine hK.out _ _ trivial (fun _ => ?_)
          clear hK K
          try simp only [Act.put]
          refine wpAnyH_ready (rs := [23]) (by kernel_rfl) (by simp) ?_
          refine AllReadyH.cons rfl (fun K hK => ?_) AllReadyH.nil
          go_simp
          refine hK.out _ _ trivial (fun _ => ?_)
          clear hK K
          try simp only [Act.put]
          refine wpAnyH_ready (rs := [24]) (by kernel_rfl) (by simp) ?_
          refine AllReadyH.cons rfl (fun K hK => ?_) AllReadyH.nil
          go_simp
          refine hK.out _ _ trivial (fun _ => ?_)
          clear hK K
          try simp only [Act.put]
          refine wpAnyH_done (by kernel_rfl) ?_ _
          refine NoPanic.normal ?_
          go_wp2
          go_ret
          exact ⟨rfl, H14.out.bel⟩
        · go_simp
          refine (HALL.out w13 (HSL.out w13 (fun q hq => H13.out.stay q hq))).mono ?_
          rintro e w14 ⟨rfl, hb14⟩
          have H14 := hide (H13.out.later hb14)
          have q14 := run_str9 w14 a13 _ c13 _ (HB13.out.below hb14)
          rw [HBB.out] at q14
          clear hb14
          go_wp2_with fail
          refine hK.out _ _ trivial (fun _ => ?_)
          clear hK K
          try simp only [Act.put]
          refine wpAnyH_ready (rs := [17]) (by kernel_rfl) (by simp) ?_
          refine AllReadyH.cons rfl (fun K hK => ?_) AllReadyH.nil
          go_simp
          refine hK.out _ _ trivial (fun _ => ?_)
          clear hK K
          try simp only [Act.put]
          refine wpAnyH_ready (rs := [22]) (by kernel_rfl) (by simp) ?_
          refine AllReadyH.cons rfl (fun K hK => ?_) AllReadyH.nil
          go_simp
          refine hK.out _ _ trivial (fun _ => ?_)
          clear hK K
          try simp only [Act.put]
          refine wpAnyH_ready (rs := [23]) (by kernel_rfl) (by simp) ?_
          refine AllReadyH.cons rfl (fun K hK => ?_) AllReadyH.nil
          go_simp
          refine hK.out _ _ trivial (fun _ => ?_)
          clear hK K
          try simp only [Act.put]
          refine wpAnyH_ready (rs := [24]) (by kernel_rfl) (by simp) ?_
          refine AllReadyH.cons rfl (fun K hK => ?_) AllReadyH.nil
          go_simp
          refine hK.out _ _ trivial (fun _ => ?_)
          clear hK K
          try simp only [Act.put]
          refine wpAnyH_done (by kernel_rfl) ?_ _
          refine NoPanic.normal ?_
          go_wp2
          go_ret
          exact ⟨rfl, H14.out.bel⟩
  · have hkl : (k : Int) < (N : Int) := by omega
    have hNk : ¬ N = k := fun e => hkn e.symm
    have HSL : Hid (∀ x, (∀ q, (w2.heap.size ≤ q ∧ q < w3.heap.size) → q < x.heap.size ∧ x.heap[q]? = w3.heap[q]?) → RsIn x (.slice (some ⟨ga, k * 14, none⟩) (N - k) (N - k)) (ns.drop k)) := hide (fun x hx => by
      have e := H3R.out.stay hx
      rw [HNL.out, ← HN.out] at e
      have e1 := e.rest (i := k) (by rw [HNL.out]; omega) (N - k) (N - k) rfl
      rw [Nat.zero_add] at e1
      exact e1)
    have HMR : Hid (msR (ns.drop k) = g'.l ∧ (ns.drop k).length = N - k) := ⟨by rw [HGL.out.1, ← H3R.out.rs.2]; simp [msR, List.map_drop], by rw [List.length_drop, HNL.out]⟩
    go_wp2_with fail
    go_region_held3 (fun x => True) (trivial)
      (first
      | (go_at_call 10; with_reducible refine (krecs9 H5.out.drew).mono ?_; rintro e w6 ⟨ga2, ns2, rfl, hri2, h6⟩; rw [HGL.out.2])
      | (go_at_call 14; with_reducible refine (rlist_any (.slice (some ⟨ga2, 0, none⟩) (N - k) (N - k)) (.slice (some ⟨ga, k * 14, none⟩) (N - k) (N - k)) ns2 (ns.drop k) w6 ?ha (HSL.out w6 (fun q hq => h6.stay q hq)) ?he ?hl).mono ?_; (case ha => have e := hri2.rs.1; rw [hri2.len, HGL.out.2] at e; exact e); (case he => rw [HMR.out.1, hri2.rs.2]); (case hl => have e := hri2.len; rw [HGL.out.2] at e; omega); rintro e w7 ⟨rfl, hb7⟩))
    have H7 := hide (h6.later hb7)
    clear hb7 h6 hri2 H5
    go_wp2
    go_loopw [62] (fun i wr => ∃ j : Nat, j ≤ N ∧ i = .int .i64 (j : Int) ∧ w7 = wr) (fun i _ => N - (intOf i).toNat)
    case atStart => exact ⟨0, Nat.zero_le _, rfl, rfl⟩
    case round =>
      obtain ⟨j, hj, rfl, rfl⟩ := hrel
      by_cases hlt : j < N
      · have ij : (j : Int) < (N : Int) := by omega
        have hST := (H3R.out.stay (fun q hq => H7.out.stay q hq))
        obtain ⟨b, off, eb, hbl, hrg, _, _⟩ := hST.at (i := j) (by rw [HNL.out]; exact hlt)
        injection eb with eb
        injection eb with eb1 eb2
        subst eb1 eb2
        have hcl : w7.cell? ⟨ga, j * 14 + 1, none⟩ = some (.int .u64 ((ns.getD j rcZ).1.l : Int)) := by
          have e := hrg 1 _ rfl
          rwa [show 0 + j * 14 + 1 = j * 14 + 1 by omega] at e
        have hgl : (ns.getD j rcZ).1 = g.l.getD j Rec.zero := by rw [← H3R.out.rs.2, msR_get]
        rw [hgl] at hcl
        have htm := HTM.out j hlt
        generalize (g.l.getD j Rec.zero).l = L at *
        clear hST hrg hgl
        by_cases hjk : j < k
        · have t1 : (j : Int) < (k : Int) := by omega
          have t2 : ¬ n ≤ L := by have := (htm.1 hjk).1; omega
          have t3 : ¬ g.du < L := by have := (htm.1 hjk).2; omega
          have t4 : ¬ (n : Int) ≤ (L : Int) := by omega
          have t5 : ¬ (g.du : Int) < (L : Int) := by omega
          have t6 : ¬ (k : Int) ≤ (j : Int) := by omega
          have t7 : ¬ k ≤ j := by omega
          clear htm
          go_wp2
          go_roundw
          case rel => exact ⟨j + 1, by omega, by go_num, by first | rfl | trivial⟩
          case measure => simp [intOf]; omega
        · have t1 : ¬ (j : Int) < (k : Int) := by omega
          have t6 : (k : Int) ≤ (j : Int) := by omega
          have htn := htm.2 (by omega)
          clear htm
          by_cases hLn : L < n
          · have t2 : (L : Int) < (n : Int) := by omega
            have t3 : ¬ (L : Int) ≤ (g.du : Int) := by omega
            have t4 : ¬ L ≤ g.du := by omega
            clear htn
            go_wp2
            go_roundw
            case rel => exact ⟨j + 1, by omega, by go_num, by first | rfl | trivial⟩
            case measure => simp [intOf]; omega
          · have t2 : ¬ (L : Int) < (n : Int) := by omega
            clear htn
            go_wp2
            go_roundw
            case rel => exact ⟨j + 1, by omega, by go_num, by first | rfl | trivial⟩
            case measure => simp [intOf]; omega
      · go_wp2_with fail
        refine (kwrite9 H7.out).mono ?_
        rintro e w8 ⟨rfl, h8⟩
        have H8 := hide h8
        clear h8
        go_wp2_with fail
        refine (ksync9 H8.out).mono ?_
        rintro e w9 ⟨rfl, h9⟩
        obtain ⟨gt9, t1, t2, t3, t4, t5⟩ := h9.tape
        have HOP := hide (kopen9 _ w3 w w9 gt gt9 g'.write.sync.t 0 t1 h9.ok.tok t2 t3 ⟨t4, t5⟩ (fun q hq => h9.stay q hq) h9.bel (by decide))
        have HAG := hide (again_b g' H7.out.ok)
        have hok' := H7.out.ok
        have hroom : (framesB g'.l).length ≤ 65536 := by
          have q1 := g'.used_all hok'
          have q2 := hok'.room
          have q3 := hok'.tok.room
          omega
        have HRT := hide (fun r (hr : r ∈ g'.l) => rise_right _ 0 hok'.rise r hr)
        clear h9 t1 t2 t3 t4 t5 hok' H8 H7
        generalize hgg : Lg.open g'.write.sync.t 0 = g3 at *
        clear hgg
        have HML := hide (show g3.l.length = N - k by rw [HAG.out.1, HGL.out.2])
        have HBB := hide (show (⟨g3.t.b.data.toList.toArray⟩ : ByteArray) = mkS (framesB g'.l) by rw [← HAG.out.2])
        have HALL := hide (fun x (hx : RsIn x (.slice (some ⟨ga, k * 14, none⟩) (N - k) (N - k)) (ns.drop k)) => rall7_at x (.slice (some ⟨ga, k * 14, none⟩) (N - k) (N - k)) (ns.drop k) hx (by rw [HMR.out.1]; exact fun r hr => HRT.out r hr) (by rw [HMR.out.2]; omega) (by rw [HMR.out.1]; omega) (fun a len cap e => by injection e; omega))
        rw [HMR.out.1] at HALL
        go_wp2_with fail
        refine HOP.out.mono ?_
        rintro e w10 ⟨gm, rfl, h10⟩
        have H10 := hide h10
        clear h10 HOP HTM
        go_wp2_with fail
        refine wp_region_noPanic ?_
        refine wp_region_held_drew (S := fun _ => True) (by kernel_rfl) trivial (fun hHeld => ?_)
        refine wpAnyH_take (i := 0) (v := (.int .i64 0)) rfl (by kernel_rfl) (by kernel_rfl) (by kernel_rfl) (fun _ _ _ h => h) (Or.inl ⟨by kernel_rfl, fun w hSw => by go_simp⟩) trivial ?_
        try simp only [Act.put]
        refine wpAnyH_take (i := 1) (v := (.bool true)) rfl (by kernel_rfl) (by kernel_rfl) (by kernel_rfl) (fun _ _ _ h => h) (Or.inl ⟨by kernel_rfl, fun w hSw => by go_simp⟩) trivial ?_
        try simp only [Act.put]
        refine wpAnyH_take (i := 2) (v := (.bool true)) rfl (by kernel_rfl) (by kernel_rfl) (by kernel_rfl) (fun _ _ _ h => h) (Or.inl ⟨by kernel_rfl, fun w hSw => by go_simp⟩) trivial ?_
        try simp only [Act.put]
        refine wpAnyH_take (i := 3) (v := (.pointer (some ⟨gm, 0, none⟩))) rfl (by kernel_rfl) (by kernel_rfl) (by kernel_rfl) (fun _ _ _ h => h) (Or.inl ⟨by kernel_rfl, fun w hSw => by go_simp⟩) trivial ?_
        try simp only [Act.put]
        refine wpAnyH_take (i := 4) (v := (.bool true)) rfl (by kernel_rfl) (by kernel_rfl) (by kernel_rfl) (fun _ _ _ h => h) (Or.inl ⟨by kernel_rfl, fun w hSw => by go_simp⟩) trivial ?_
        try simp only [Act.put]
        refine wpAnyH_take (i := 5) (v := (.bool true)) rfl (by kernel_rfl) (by kernel_rfl) (by kernel_rfl) (fun _ _ _ h => h) (Or.inl ⟨by kernel_rfl, fun w hSw => by go_simp⟩) trivial ?_
        try simp only [Act.put]
        refine wpAnyH_take (i := 6) (v := (.bool true)) rfl (by kernel_rfl) (by kernel_rfl) (by kernel_rfl) (fun _ _ _ h => h) (Or.inl ⟨by kernel_rfl, fun w hSw => by go_simp⟩) trivial ?_
        try simp only [Act.put]
        refine wpAnyH_take (i := 7) (v := (.pointer (some ⟨gm, 0, none⟩))) rfl (by kernel_rfl) (by kernel_rfl) (by kernel_rfl) (fun _ _ _ h => h) (Or.inl ⟨by kernel_rfl, fun w hSw => by go_simp⟩) trivial ?_
        try simp only [Act.put]
        refine wpAnyH_take (i := 9) (v := (.slice (some ⟨ga, 0, none⟩) N N)) rfl (by kernel_rfl) (by kernel_rfl) (by kernel_rfl) (fun _ _ _ h => h) (Or.inl ⟨by kernel_rfl, fun w hSw => by go_simp⟩) trivial ?_
        try simp only [Act.put]
        refine wpAnyH_take (i := 10) (v := (.int .i64 (k : Int))) rfl (by kernel_rfl) (by kernel_rfl) (by kernel_rfl) (fun _ _ _ h => h) (Or.inl ⟨by kernel_rfl, fun w hSw => by go_simp⟩) trivial ?_
        try simp only [Act.put]
        refine wpAnyH_take (i := 11) (v := (.slice (some ⟨ga, k * 14, none⟩) (N - k) (N - k))) rfl (by kernel_rfl) (by kernel_rfl) (by kernel_rfl) (fun _ _ _ h => h) (Or.inl ⟨by kernel_rfl, fun w hSw => by go_simp⟩) trivial ?_
        try simp only [Act.put]
        refine wpAnyH_ready (rs := [8]) (by kernel_rfl) (by simp) ?_
        refine AllReadyH.cons rfl (fun K hK => ?_) AllReadyH.nil
        go_simp
        refine (krecs9 H10.out.drew).mono ?_
        rintro e w11 ⟨ga3, ns3, rfl, hri3, h11⟩
        rw [HML.out]
        go_wp2_with fail
        refine hK.out _ _ trivial (fun _ => ?_)
        clear hK K
        try simp only [Act.put]
        refine wpAnyH_ready (rs := [12]) (by kernel_rfl) (by simp) ?_
        refine AllReadyH.cons rfl (fun K hK => ?_) AllReadyH.nil
        go_simp
        refine (rlist_any (.slice (some ⟨ga3, 0, none⟩) (N - k) (N - k)) (.slice (some ⟨ga, k * 14, none⟩) (N - k) (N - k)) ns3 (ns.drop k) w11 (by have e := hri3.rs.1; rw [hri3.len, HML.out] at e; exact e) (HSL.out w11 (fun q hq => h11.stay q hq)) (by rw [HMR.out.1, hri3.rs.2, HAG.out.1]) (by have e := hri3.len; rw [HML.out] at e; omega)).mono ?_
        rintro e w12 ⟨rfl, hb12⟩
        have H12 := hide (h11.later hb12)
        obtain ⟨gtb, ht12, _⟩ := H12.out.tape
        have HT12 := hide ht12
        clear ht12 hri3 h11 hb12
        go_wp2_with fail
        refine hK.out _ _ trivial (fun _ => ?_)
        clear hK K
        try simp only [Act.put]
        refine wpAnyH_take (i := 13) (v := (.bool true)) rfl (by kernel_rfl) (by kernel_rfl) (by kernel_rfl) (fun _ _ _ h => h) (Or.inl ⟨by kernel_rfl, fun w hSw => by go_simp⟩) trivial ?_
        try simp only [Act.put]
        refine wpAnyH_take (i := 14) (v := (.bool true)) rfl (by kernel_rfl) (by kernel_rfl) (by kernel_rfl) (fun _ _ _ h => h) (Or.inl ⟨by kernel_rfl, fun w hSw => by go_simp⟩) trivial ?_
        try simp only [Act.put]
        refine wpAnyH_take (i := 15) (v := (.pointer (some ⟨gt, 0, none⟩))) rfl (by kernel_rfl) (by kernel_rfl) (by kernel_rfl) (fun _ _ _ h => h) (Or.inl ⟨by kernel_rfl, fun w hSw => by go_simp⟩) trivial ?_
        try simp only [Act.put]
        refine wpAnyH_take (i := 18) (v := (.slice (some ⟨ga, 0, none⟩) N N)) rfl (by kernel_rfl) (by kernel_rfl) (by kernel_rfl) (fun _ _ _ h => h) (Or.inl ⟨by kernel_rfl, fun w hSw => by go_simp⟩) trivial ?_
        try simp only [Act.put]
        refine wpAnyH_take (i := 19) (v := (.int .i64 (k : Int))) rfl (by kernel_rfl) (by kernel_rfl) (by kernel_rfl) (fun _ _ _ h => h) (Or.inl ⟨by kernel_rfl, fun w hSw => by go_simp⟩) trivial ?_
        try simp only [Act.put]
        refine wpAnyH_take (i := 20) (v := (.slice (some ⟨ga, k * 14, none⟩) (N - k) (N - k))) rfl (by kernel_rfl) (by kernel_rfl) (by kernel_rfl) (fun _ _ _ h => h) (Or.inl ⟨by kernel_rfl, fun w hSw => by go_simp⟩) trivial ?_
        try simp only [Act.put]
        refine wpAnyH_ready (rs := [16]) (by kernel_rfl) (by simp) ?_
        refine AllReadyH.cons rfl (fun K hK => ?_) AllReadyH.nil
        go_simp
        refine (bytes8_any gt gtb _ w12 HT12.out H12.out.ok.tok).mono ?_
        rintro e w13 ⟨v13, rfl, ho13, hb13⟩
        obtain ⟨a13, c13, rfl, -, hB13⟩ := shape_isB ho13
        have q13 := run_str9 w13 a13 _ c13 _ hB13
        rw [HBB.out] at q13
        have H13 := hide (H12.out.later hb13)
        have HB13 := hide hB13
        clear ho13 hb13 hB13
        go_wp2_with fail
        refine hK.out _ _ trivial (fun _ => ?_)
        clear hK K
        try simp only [Act.put]
        refine wpAnyH_ready (rs := [17, 21]) (by kernel_rfl) (by simp) ?_
        refine AllReadyH.cons rfl (fun K hK => ?_) (AllReadyH.cons rfl (fun K hK => ?_) AllReadyH.nil)
        · go_simp
          refine hK.out _ _ trivial (fun _ => ?_)
          clear hK K
          try simp only [Act.put]
          refine wpAnyH_ready (rs := [21]) (by kernel_rfl) (by simp) ?_
          refine AllReadyH.cons rfl (fun K hK => ?_) AllReadyH.nil
          go_simp
          refine (HALL.out w13 (HSL.out w13 (fun q hq => H13.out.stay q hq))).mono ?_
          rintro e w14 ⟨rfl, hb14⟩
          have H14 := hide (H13.out.later hb14)
          clear hb14
          go_wp2_with fail
          refine hK.out _ _ trivial (fun _ => ?_)
          clear hK K
          try simp only [Act.put]
          refine wpAnyH_ready (rs := [22]) (by kernel_rfl) (by simp) ?_
          refine AllReadyH.cons rfl (fun K hK => ?_) AllReadyH.nil
          go_simp
          refine hK.out _ _ trivial (fun _ => ?_)
          clear hK K
          try simp only [Act.put]
          refine wpAnyH_ready (rs := [23]) (by kernel_rfl) (by simp) ?_
          refine AllReadyH.cons rfl (fun K hK => ?_) AllReadyH.nil
          go_simp
          refine hK.out _ _ trivial (fun _ => ?_)
          clear hK K
          try simp only [Act.put]
          refine wpAnyH_ready (rs := [24]) (by kernel_rfl) (by simp) ?_
          refine AllReadyH.cons rfl (fun K hK => ?_) AllReadyH.nil
          go_simp
          refine hK.out _ _ trivial (fun _ => ?_)
          clear hK K
          try simp only [Act.put]
          refine wpAnyH_done (by kernel_rfl) ?_ _
          refine NoPanic.normal ?_
          go_wp2
          go_ret
          exact ⟨rfl, H14.out.bel⟩
        · go_simp
          refine (HALL.out w13 (HSL.out w13 (fun q hq => H13.out.stay q hq))).mono ?_
          rintro e w14 ⟨rfl, hb14⟩
          have H14 := hide (H13.out.later hb14)
          have q14 := run_str9 w14 a13 _ c13 _ (HB13.out.below hb14)
          rw [HBB.out] at q14
          clear hb14
          go_wp2_with fail
          refine hK.out _ _ trivial (fun _ => ?_)
          clear hK K
          try simp only [Act.put]
          refine wpAnyH_ready (rs := [17]) (by kernel_rfl) (by simp) ?_
          refine AllReadyH.cons rfl (fun K hK => ?_) AllReadyH.nil
          go_simp
          refine hK.out _ _ trivial (fun _ => ?_)
          clear hK K
          try simp only [Act.put]
          refine wpAnyH_ready (rs := [22]) (by kernel_rfl) (by simp) ?_
          refine AllReadyH.cons rfl (fun K hK => ?_) AllReadyH.nil
          go_simp
          refine hK.out _ _ trivial (fun _ => ?_)
          clear hK K
          try simp only [Act.put]
          refine wpAnyH_ready (rs := [23]) (by kernel_rfl) (by simp) ?_
          refine AllReadyH.cons rfl (fun K hK => ?_) AllReadyH.nil
          go_simp
          refine hK.out _ _ trivial (fun _ => ?_)
          clear hK K
          try simp only [Act.put]
          refine wpAnyH_ready (rs := [24]) (by kernel_rfl) (by simp) ?_
          refine AllReadyH.cons rfl (fun K hK => ?_) AllReadyH.nil
          go_simp
          refine hK.out _ _ trivial (fun _ => ?_)
          clear hK K
          try simp only [Act.put]
          refine wpAnyH_done (by kernel_rfl) ?_ _
          refine NoPanic.normal ?_
          go_wp2
          go_ret
          exact ⟨rfl, H14.out.bel⟩
theorem walk (v : Value) (cs : List Wc) (n : Int) (w : World) (h1 : RowsIn wcA Wc.zero 17 w v cs) (_ : cs.length ≤ maxLen) (h3 : ∀ c ∈ cs, c.fits ∧ RcIn w c.m.1 c.m.2.1 c.m.2.2) (h4 : ∀ a len cap, v = .slice a len cap → len ≤ cap) (hn : (Lit.int .u64 n).wf = true) :
    Calls Try.prog 6 #[v, .int .u64 n] w fun e w' => e = .returned (.bool true) ∧ Below w.heap.size w w' := by
  obtain ⟨n, rfl⟩ := u64_nat hn
  rcases few9_two v cs w ⟨h1, h3, h4⟩ with ⟨hl, hf⟩ | hf
  · exact yes v cs n w ⟨h1, h3, h4⟩ hl hf (wf_u64 hn)
  · exact no v n w hf
end Go.Proofs.Ytfbelaalmdcaaaa.walTrims

namespace Go.Proofs.Ytfbelaalmdcaaaa.walTrims
open Go.ChangeShapes Go.WideShapes Go.ChangeAt Go.RowKit
open Go.ChangeMaps (open_string shut_string)
set_option linter.unusedVariables false

theorem laidOut : laidOutB Try.prog = true := by kernel_rfl
theorem own : ownKnob Try.prog.godebug = none := by kernel_rfl

set_option maxRecDepth 100000 in
theorem lifted (os : Os) (started : os.Started) (H : Type) (enc : TypeId × Value → H) :
    ReturnsInHanded {} Try.checked os 6 .any (Rows.walTrimsSpec.pre6 enc Try.prog Try.f6 Rows.walTrimsRow.domain false) (Rows.walTrimsSpec.post enc Try.prog Try.f6 false true false false) := by
  refine returnsInHanded_of_change_sized (C := Try.checked) own started (by kernel_rfl) Try.func6
    (ChangeSpec.witness6 (enc := enc) (C := Try.checked) false ⟨#[], #[.slice none 0 0, .int .u64 0], []⟩ 8 (by kernel_rfl) (by kernel_rfl) (by kernel_rfl) (by kernel_rfl)) ?_
  intro W base args ds gs before hval0 hW hcnd hsz0 _
  have hval : ∀ (j : Nat) t v, Try.f6.params[j]? = some t → args[j]? = some v → Value.okWide Try.prog W .any base t v := hval0
  have hsz : (DataW.weightsEach Try.prog (Try.f6.params.toList ++ Rows.walTrimsSpec.plain.varTypes Try.prog) (ds ++ gs)).all (· ≤ reachBytes) = true := hsz0
  have hW' := hW
  obtain ⟨p, q, hA0, hV, rfl, hfz, hnd⟩ := hW
  have hA : DataW.TrodAll enc Try.prog W 0 (fun _ => true) true Try.f6.params.toList args.toList ds p := hA0
  rw [Try.params6] at hA hval hsz
  obtain ⟨v0, vs0, d0, ds0, p0, q0, hargs, rfl, rfl, h0, r0⟩ := trodAll_cons hA
  obtain ⟨v1, vs1, d1, ds1, p1, q1, rfl, rfl, rfl, h1, r1⟩ := trodAll_cons r0
  obtain ⟨rfl, rfl, rfl⟩ := trodAll_nil r1
  obtain rfl : args = #[v0, v1] := by cases args; simp_all
  obtain ⟨rfl, rfl⟩ := trodVars_none hV
  have k0 := h0
  have lt0 := trod_places h0
  obtain ⟨a1, rfl, rfl, rfl, w1⟩ := open_int Try.underlying31 (hval 1 31 v1 rfl rfl) h1
  obtain ⟨m0, w0a, w0b, w0c, w0d⟩ := op_wcs (hval 0 22 v0 rfl rfl) h0
  clear hA0 hval0 hsz0 hsz
  refine (walk v0 m0 a1 W w0a w0b w0c w0d w1).mono fun e W' ⟨he, bel⟩ => ?_
  subst he
  exact ⟨_, rfl, _, _, _, [], _, [], hW', trodAll_mk1 (shut_bool Try.underlying4 _), (trodAll_cons_mk (Below.trod laidOut (by kernel_rfl) (of_decide_eq_true (by kernel_rfl)) k0 bel lt0) (trodAll_cons_mk (shut_int Try.underlying31 w1) trodAll_mk0)), rfl, bel.frame _, fun h => by cases h⟩

theorem over : Rows.walTrimsRow.holds Try.pinned (OpenSpec.ofChange Rows.walTrimsSpec) :=
  OpenClaim.holds_of_wide 6 Try.f6 rfl rfl rfl rfl rfl rfl rfl ⟨rfl, rfl, rfl, rfl, rfl⟩ rfl rfl rfl rfl rfl (by kernel_rfl) Try.func6 (by kernel_rfl)
    (of_decide_eq_true (by kernel_rfl)) (by unfold Func.isWrapper; first | (rw [if_pos (by decide +kernel)]; kernel_rfl) | (rw [if_neg (by decide +kernel)]; exact ⟨rfl, rfl⟩))
    (fun os started H enc _ => lifted os started H enc)

/-- THE STATEMENT. -/
theorem proved : Rows.WalTrimsSaid := over
end Go.Proofs.Ytfbelaalmdcaaaa.walTrims
namespace Go.Proofs.Ytfbelaalmdcaaaa
theorem walTrims_proved : Rows.WalTrimsSaid := walTrims.proved
end Go.Proofs.Ytfbelaalmdcaaaa
