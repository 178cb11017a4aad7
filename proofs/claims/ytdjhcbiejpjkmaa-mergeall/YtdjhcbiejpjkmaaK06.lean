/-
  Texts that lean on one another, one behind the other: each opens with its own remark.
-/
import Derived.Test.YtdjhcbiejpjkmaaK00

namespace Go.Proofs.Ytdjhcbiejpjkmaa
open Go.RowKit
set_option linter.unusedVariables false
set_option maxRecDepth 8000
set_option maxHeartbeats 25600000
theorem rows_at (r : Rec) (va vb : Value) (w : World) (q : Bool) (Hq : Hid (q = true ↔ r.rows)) (hin : Qcd w r va vb) :
    Calls Try.prog 53 #[.agg (rcA r va vb)] w fun e w' => e = .returned (.bool q) /\ Below w.heap.size w w' := by
  have HIN := Qc hin; obtain ⟨⟨a1, cap1, rfl, _⟩, ⟨a2, cap2, rfl, _⟩⟩ := hin; have K0 := Qx.one w 45 (rcA r (.slice a1 r.ts.length cap1) (.slice a2 r.ds.length cap2)); have HK0 := Qc K0; have c12 := K0.1.1.cell 12 (.slice a1 r.ts.length cap1) rfl; have c13 := K0.1.1.cell 13 (.slice a2 r.ds.length cap2) rfl; have hb0 := K0.2; clear K0
  have HF : Hid (¬ r.rows -> q = false) := fun h => by
    cases q
    · rfl
    · exact absurd (Hq.out.1 rfl) h
  have HT : Hid (r.rows -> q = true) := fun h => Hq.out.2 h
  by_cases h16 : 16 < r.ts.length
  · obtain rfl := HF.out (fun h => by have := h.1; omega); have i1 : (16 : Int) < (r.ts.length : Int) := by omega
    clear HF HT Hq HK0 HIN; generalize r.ts.length = n1 at *; generalize r.ds.length = n2 at *; go_enter Try.func53, Try.ntmps53; go_wp2; go_ret; exact ⟨rfl, hb0⟩
  · by_cases h32 : 32 < r.ds.length
    · obtain rfl := HF.out (fun h => by have := h.2.1; omega); have i1 : ¬ (16 : Int) < (r.ts.length : Int) := by omega
      have i2 : (32 : Int) < (r.ds.length : Int) := by omega
      clear HF HT Hq HK0 HIN; generalize r.ts.length = n1 at *; generalize r.ds.length = n2 at *; go_enter Try.func53, Try.ntmps53; go_wp2; go_ret; exact ⟨rfl, hb0⟩
    · have i1 : ¬ (16 : Int) < (r.ts.length : Int) := by omega
      have i2 : ¬ (32 : Int) < (r.ds.length : Int) := by omega
      go_enter Try.func53, Try.ntmps53; go_wp2; obtain ⟨A, hA⟩ : ∃ A, A = rcA r (.slice a1 r.ts.length cap1) (.slice a2 r.ds.length cap2) := ⟨_, rfl⟩; rw [<- hA] at HK0 |-; have HA := Qc hA; clear hA c12 c13 hb0; go_loopw [20] (fun v wr => ∃ j : Nat, j <= r.ts.length /\ v = .int .i64 j /\ Qx w wr [(w.heap.size, 45, A)] /\ ∀ i, i < j -> txAt r.l r.ts i) (fun v _ => r.ts.length - (intOf v).toNat)
      case atStart => exact ⟨0, Nat.zero_le _, rfl, HK0.out, fun i hi => absurd hi (by omega)⟩
      case round =>
        obtain ⟨j, hj, rfl, hk, hat⟩ := hrel; clear HK0; have HK := Qc hk; have HAT := Qc hat; have c12 : wr.cell? ⟨w.heap.size, 12, none⟩ = some (.slice a1 r.ts.length cap1) := by have h := hk.1.1; rw [HA.out] at h; exact h.cell 12 _ rfl
        clear hk hat
        by_cases hlt : j < r.ts.length
        · have jlt : (j : Int) < (r.ts.length : Int) := by omega
          obtain ⟨a', cap', e', hrow⟩ := (HIN.out.1.below HK.out.2); cases e'; obtain ⟨b, off, rfl, hb, hcell⟩ := hrow (by omega); have HRG := Qc (hcell j hlt); have HRP := Qc (fun h0 : 0 < j => hcell (j - 1) (by omega)); have HBL := Qc hb; clear hrow hcell hb; obtain ⟨x, hx⟩ : ∃ x, x = r.ts.getD j Tx.zero := ⟨_, rfl⟩; have HX := Qc hx; rw [<- hx] at HRG; clear hx; go_wp2_with (first | (refine Qec rfl 109 (.tmp 26) rfl b (off + j * 5) (txA x) rfl HRG.out _ Try.underlying109 rfl Qju ?_) | (refine Qe rfl 109 (.tmp 4) (.tmp 27) rfl wr.heap.size (txA Tx.zero) (txA x) rfl rfl (Qb.new wr 109 (txA Tx.zero)) Qju rfl (Qkq _) ?_)); intro w2 hr2 hk2 _; have K2 := Qx.laid HK.out hr2 hk2; have a0 := K2.1.1.cell 0 (.int .i64 x.t) rfl; have a1' := K2.1.1.cell 1 (.int .i64 x.s) rfl; have a2' := K2.1.1.cell 2 (.int .u64 (x.f : Int)) rfl; have a3 := K2.1.1.cell 3 (.int .u64 (x.l : Int)) rfl; have a4 := K2.1.1.cell 4 (.int .u64 (x.n : Int)) rfl; have cl : w2.cell? ⟨w.heap.size, 1, none⟩ = some (.int .u64 (r.l : Int)) := by have h := K2.1.2.1; rw [HA.out] at h; exact h.cell 1 _ rfl
          have HK2 := Qc K2; have HB2 := Qc (hk2 _ _ ((Below.refl wr.heap.size wr).alloc (Nat.le_refl _) _) (Nat.le_refl _)); clear hr2 hk2 K2 HK c12; generalize wr.heap.size = g at *; have HNO : Hid (¬ txOk r.l x -> q = false) := fun h => HF.out (fun hr => h (by rw [HX.out]; exact (hr.2.2.1 j hlt).1))
          by_cases t1 : x.t < 1
          · obtain rfl := HNO.out (fun h => by obtain ⟨h1, h2, h3, h4, h5, h6, h7, h8⟩ := h; omega); have d2 := HK2.out.2; clear HNO HF HT Hq HIN HRG HRP HBL HX HAT HK2 HB2; generalize r.l = rl at *; generalize x.t = xt at *; generalize x.s = xs at *; generalize x.f = xf at *; generalize x.l = xl at *; generalize x.n = xn at *; go_wp2; go_ret; exact ⟨rfl, d2⟩
          by_cases t2 : 1048575 < x.t
          · obtain rfl := HNO.out (fun h => by obtain ⟨h1, h2, h3, h4, h5, h6, h7, h8⟩ := h; omega); have d2 := HK2.out.2; clear HNO HF HT Hq HIN HRG HRP HBL HX HAT HK2 HB2; generalize r.l = rl at *; generalize x.t = xt at *; generalize x.s = xs at *; generalize x.f = xf at *; generalize x.l = xl at *; generalize x.n = xn at *; go_wp2; go_ret; exact ⟨rfl, d2⟩
          by_cases s1 : x.s < 1
          · obtain rfl := HNO.out (fun h => by obtain ⟨h1, h2, h3, h4, h5, h6, h7, h8⟩ := h; omega); have d2 := HK2.out.2; clear HNO HF HT Hq HIN HRG HRP HBL HX HAT HK2 HB2; generalize r.l = rl at *; generalize x.t = xt at *; generalize x.s = xs at *; generalize x.f = xf at *; generalize x.l = xl at *; generalize x.n = xn at *; go_wp2; go_ret; exact ⟨rfl, d2⟩
          by_cases s2 : 3 < x.s
          · obtain rfl := HNO.out (fun h => by obtain ⟨h1, h2, h3, h4, h5, h6, h7, h8⟩ := h; omega); have d2 := HK2.out.2; clear HNO HF HT Hq HIN HRG HRP HBL HX HAT HK2 HB2; generalize r.l = rl at *; generalize x.t = xt at *; generalize x.s = xs at *; generalize x.f = xf at *; generalize x.l = xl at *; generalize x.n = xn at *; go_wp2; go_ret; exact ⟨rfl, d2⟩
          by_cases f1 : (x.f : Int) < 1
          · obtain rfl := HNO.out (fun h => by obtain ⟨h1, h2, h3, h4, h5, h6, h7, h8⟩ := h; omega); have d2 := HK2.out.2; clear HNO HF HT Hq HIN HRG HRP HBL HX HAT HK2 HB2; generalize r.l = rl at *; generalize x.t = xt at *; generalize x.s = xs at *; generalize x.f = xf at *; generalize x.l = xl at *; generalize x.n = xn at *; go_wp2; go_ret; exact ⟨rfl, d2⟩
          by_cases f2 : (x.l : Int) < (x.f : Int)
          · obtain rfl := HNO.out (fun h => by obtain ⟨h1, h2, h3, h4, h5, h6, h7, h8⟩ := h; omega); have d2 := HK2.out.2; clear HNO HF HT Hq HIN HRG HRP HBL HX HAT HK2 HB2; generalize r.l = rl at *; generalize x.t = xt at *; generalize x.s = xs at *; generalize x.f = xf at *; generalize x.l = xl at *; generalize x.n = xn at *; go_wp2; go_ret; exact ⟨rfl, d2⟩
          by_cases l1 : (r.l : Int) <= (x.l : Int)
          · obtain rfl := HNO.out (fun h => by obtain ⟨h1, h2, h3, h4, h5, h6, h7, h8⟩ := h; omega); have d2 := HK2.out.2; clear HNO HF HT Hq HIN HRG HRP HBL HX HAT HK2 HB2; generalize r.l = rl at *; generalize x.t = xt at *; generalize x.s = xs at *; generalize x.f = xf at *; generalize x.l = xl at *; generalize x.n = xn at *; go_wp2; go_ret; exact ⟨rfl, d2⟩
          by_cases n1 : (x.l : Int) < (x.n : Int)
          · obtain rfl := HNO.out (fun h => by obtain ⟨h1, h2, h3, h4, h5, h6, h7, h8⟩ := h; omega); have d2 := HK2.out.2; clear HNO HF HT Hq HIN HRG HRP HBL HX HAT HK2 HB2; generalize r.l = rl at *; generalize x.t = xt at *; generalize x.s = xs at *; generalize x.f = xf at *; generalize x.l = xl at *; generalize x.n = xn at *; go_wp2; go_ret; exact ⟨rfl, d2⟩
          have HOK : Hid (txOk r.l x) := ⟨by omega, by omega, by omega, by omega, by omega, by omega, by omega, by omega⟩
          by_cases hj0 : j = 0
          · subst hj0; clear HRP HBL HB2 HRG; go_wp2_with fail; clear a0 a1' a2' a3 a4 cl t1 t2 s1 s2 f1 f2 l1 n1; refine Qqa (fun y => Qx w y [(g, 109, txA x), (w.heap.size, 45, A)]) (by kernel_rfl) (by kernel_rfl) HK2.out.drew ?_; clear HK2
            repeat (first
              | go_big_quiet_skip
              | (refine Qg rfl (fun K hK => ?_); go_simp; refine hK _ ?_; clear hK K))
            refine wpQuiet_nil ?_; intro w3 h3; have H3 := Qc h3; clear h3; go_wp2; go_roundw
            case rel => exact ⟨1, by omega, by go_num, ⟨H3.out.1.2, H3.out.2⟩, Qdg HAT.out ⟨by rw [<- HX.out]; exact HOK.out, fun h => absurd h (by omega)⟩⟩
            case measure => simp [intOf]; omega
          · obtain ⟨k, rfl⟩ : ∃ k, j = k + 1 := ⟨j - 1, by omega⟩; obtain ⟨xp, hxp⟩ : ∃ xp, xp = r.ts.getD k Tx.zero := ⟨_, rfl⟩; have HXP := Qc hxp; have HRP2 := Qc (Qjc (HRP.out (by omega)) HB2.out HBL.out); rw [show k + 1 - 1 = k by omega, <- hxp] at HRP2; clear hxp HRP HBL HB2 HRG; have e0 : IntKind.i64.wrap (k : Int) = (k : Int) := by rw [IntKind.wrap_i64]; omega
            have e00 : IntKind.i64.wrap ((k : Int) + 1 - 1) = (k : Int) := by rw [IntKind.wrap_i64]; omega
            have klt : (k : Int) < (r.ts.length : Int) := by omega
            go_wp2_with fail; clear a0 a1' a2' a3 a4 cl t1 t2 s1 s2 f1 f2 l1 n1; refine Qqa (fun y => Qx w y [(g, 109, txA x), (w.heap.size, 45, A)] /\ y.rangeAt b (off + k * 5) (txA xp).toList) (by kernel_rfl) (by kernel_rfl) ⟨HK2.out.drew, HRP2.out⟩ ?_; clear HK2 HRP2
            by_cases hge : x.t <= xp.t
            · obtain rfl := HF.out (fun hr => by have h := (hr.2.2.1 (k + 1) hlt).2 (by omega); rw [show k + 1 - 1 = k by omega, <- HXP.out, <- HX.out] at h; omega)
              repeat (first
                | go_big_quiet_skip
                | (refine Qn rfl 42 (.tmp 75) rfl _ (.slice (some ⟨b, off, none⟩) r.ts.length cap1) rfl (fun y hy => Qem y _ _ _ (show y.cell? ⟨w.heap.size, 12, none⟩ = _ from by have h := hy.1.1.2.1; rw [HA.out] at h; exact h.cell 12 _ rfl)) ?_; simp only [Act.put, List.setIfInBounds_toArray, List.set])
                | (refine Qn rfl 3 (.tmp 80) rfl _ (.int .i64 xp.t) rfl (fun y hy => Qyf y _ (hy.2 0 (.int .i64 xp.t) rfl)) ?_; simp only [Act.put, List.setIfInBounds_toArray, List.set])
                | (refine Qn rfl 3 (.tmp 82) rfl _ (.int .i64 x.t) rfl (fun y hy => Qyf y _ (hy.1.1.1.cell 0 (.int .i64 x.t) rfl)) ?_; simp only [Act.put, List.setIfInBounds_toArray, List.set])
                | (refine Qg rfl (fun K hK => ?_); go_simp; refine hK _ ?_; clear hK K))
              refine wpQuiet_nil ?_; intro w3 h3; have d3 := h3.1.2; clear h3; go_wp2; go_ret; exact ⟨rfl, d3⟩
            · skip
              repeat (first
                | go_big_quiet_skip
                | (refine Qn rfl 42 (.tmp 75) rfl _ (.slice (some ⟨b, off, none⟩) r.ts.length cap1) rfl (fun y hy => Qem y _ _ _ (show y.cell? ⟨w.heap.size, 12, none⟩ = _ from by have h := hy.1.1.2.1; rw [HA.out] at h; exact h.cell 12 _ rfl)) ?_; simp only [Act.put, List.setIfInBounds_toArray, List.set])
                | (refine Qn rfl 3 (.tmp 80) rfl _ (.int .i64 xp.t) rfl (fun y hy => Qyf y _ (hy.2 0 (.int .i64 xp.t) rfl)) ?_; simp only [Act.put, List.setIfInBounds_toArray, List.set])
                | (refine Qn rfl 3 (.tmp 82) rfl _ (.int .i64 x.t) rfl (fun y hy => Qyf y _ (hy.1.1.1.cell 0 (.int .i64 x.t) rfl)) ?_; simp only [Act.put, List.setIfInBounds_toArray, List.set])
                | (refine Qg rfl (fun K hK => ?_); go_simp; refine hK _ ?_; clear hK K))
              refine wpQuiet_nil ?_; intro w3 h3; have H3 := Qc h3.1; clear h3; go_wp2; go_roundw
              case rel => exact ⟨k + 1 + 1, by omega, by go_num, ⟨H3.out.1.2, H3.out.2⟩, Qdg HAT.out ⟨by rw [<- HX.out]; exact HOK.out, fun h => by rw [show k + 1 - 1 = k by omega, <- HXP.out, <- HX.out]; omega⟩⟩
              case measure => simp [intOf]; omega
        · have jge : ¬ (j : Int) < (r.ts.length : Int) := by omega
          obtain rfl : j = r.ts.length := by omega
          have HTS := Qc HAT.out; have HK1 := Qc HK.out; have c13 : wr.cell? ⟨w.heap.size, 13, none⟩ = some (.slice a2 r.ds.length cap2) := by have h := HK.out.1.1; rw [HA.out] at h; exact h.cell 13 _ rfl
          clear HAT HK hlt hj jge c12; go_wp2; clear c13; go_loopw [90] (fun v wq => ∃ j : Nat, j <= r.ds.length /\ v = .int .i64 j /\ Qx w wq [(w.heap.size, 45, A)] /\ ∀ i, i < j -> Qzaa r.l r.ds i) (fun v _ => r.ds.length - (intOf v).toNat)
          case atStart => exact ⟨0, Nat.zero_le _, rfl, HK1.out, fun i hi => absurd hi (by omega)⟩
          case round =>
            obtain ⟨j, hj, rfl, hk, hat⟩ := hrel; clear HK1; have HK := Qc hk; have HAT := Qc hat; have c13 : wr.cell? ⟨w.heap.size, 13, none⟩ = some (.slice a2 r.ds.length cap2) := by have h := hk.1.1; rw [HA.out] at h; exact h.cell 13 _ rfl
            clear hk hat
            by_cases hlt : j < r.ds.length
            · have jlt : (j : Int) < (r.ds.length : Int) := by omega
              obtain ⟨a', cap', e', hrow⟩ := (HIN.out.2.below HK.out.2); cases e'; obtain ⟨b, off, rfl, hb, hcell⟩ := hrow (by omega); have HRG := Qc (hcell j hlt); have HRP := Qc (fun h0 : 0 < j => hcell (j - 1) (by omega)); have HBL := Qc hb; clear hrow hcell hb; obtain ⟨x, hx⟩ : ∃ x, x = r.ds.getD j Di.zero := ⟨_, rfl⟩; have HX := Qc hx; rw [<- hx] at HRG; clear hx; go_wp2_with (first | (refine Qec rfl 111 (.tmp 96) rfl b (off + j * 2) (diA x) rfl HRG.out _ Try.underlying111 rfl Qfu ?_) | (refine Qe rfl 111 (.tmp 6) (.tmp 97) rfl wr.heap.size (diA Di.zero) (diA x) rfl rfl (Qb.new wr 111 (diA Di.zero)) Qfu rfl (Qbv _) ?_)); intro w2 hr2 hk2 _; have K2 := Qx.laid HK.out hr2 hk2; have a0 := K2.1.1.cell 0 (.int .i64 x.p) rfl; have a1' := K2.1.1.cell 1 (.int .u64 (x.r : Int)) rfl; have cl : w2.cell? ⟨w.heap.size, 1, none⟩ = some (.int .u64 (r.l : Int)) := by have h := K2.1.2.1; rw [HA.out] at h; exact h.cell 1 _ rfl
              have HK2 := Qc K2; have HB2 := Qc (hk2 _ _ ((Below.refl wr.heap.size wr).alloc (Nat.le_refl _) _) (Nat.le_refl _)); clear hr2 hk2 K2 HK c13; generalize wr.heap.size = g at *; have HNO : Hid (¬ diOk r.l x -> q = false) := fun h => HF.out (fun hr => h (by rw [HX.out]; exact (hr.2.2.2.1 j hlt).1))
              by_cases p1 : x.p < 0
              · obtain rfl := HNO.out (fun h => by obtain ⟨h1, h2, h3, h4⟩ := h; omega); have d2 := HK2.out.2; clear HNO HF HT Hq HIN HRG HRP HBL HX HAT HK2 HB2 HTS; generalize r.l = rl at *; generalize x.p = xp at *; generalize x.r = xr at *; go_wp2; go_ret; exact ⟨rfl, d2⟩
              by_cases p2 : 31 < x.p
              · obtain rfl := HNO.out (fun h => by obtain ⟨h1, h2, h3, h4⟩ := h; omega); have d2 := HK2.out.2; clear HNO HF HT Hq HIN HRG HRP HBL HX HAT HK2 HB2 HTS; generalize r.l = rl at *; generalize x.p = xp at *; generalize x.r = xr at *; go_wp2; go_ret; exact ⟨rfl, d2⟩
              by_cases r1 : (x.r : Int) < 1
              · obtain rfl := HNO.out (fun h => by obtain ⟨h1, h2, h3, h4⟩ := h; omega); have d2 := HK2.out.2; clear HNO HF HT Hq HIN HRG HRP HBL HX HAT HK2 HB2 HTS; generalize r.l = rl at *; generalize x.p = xp at *; generalize x.r = xr at *; go_wp2; go_ret; exact ⟨rfl, d2⟩
              by_cases r2 : (r.l : Int) <= (x.r : Int)
              · obtain rfl := HNO.out (fun h => by obtain ⟨h1, h2, h3, h4⟩ := h; omega); have d2 := HK2.out.2; clear HNO HF HT Hq HIN HRG HRP HBL HX HAT HK2 HB2 HTS; generalize r.l = rl at *; generalize x.p = xp at *; generalize x.r = xr at *; go_wp2; go_ret; exact ⟨rfl, d2⟩
              have HOK : Hid (diOk r.l x) := ⟨by omega, by omega, by omega, by omega⟩
              by_cases hj0 : j = 0
              · subst hj0; clear HRP HBL HB2 HRG; go_wp2_with fail; clear a0 a1' cl p1 p2 r1 r2; refine Qqa (fun y => Qx w y [(g, 111, diA x), (w.heap.size, 45, A)]) (by kernel_rfl) (by kernel_rfl) HK2.out.drew ?_; clear HK2
                repeat (first
                  | go_big_quiet_skip
                  | (refine Qg rfl (fun K hK => ?_); go_simp; refine hK _ ?_; clear hK K))
                refine wpQuiet_nil ?_; intro w3 h3; have H3 := Qc h3; clear h3; go_wp2; go_roundw
                case rel => exact ⟨1, by omega, by go_num, ⟨H3.out.1.2, H3.out.2⟩, Qdg HAT.out ⟨by rw [<- HX.out]; exact HOK.out, fun h => absurd h (by omega)⟩⟩
                case measure => simp [intOf]; omega
              · obtain ⟨k, rfl⟩ : ∃ k, j = k + 1 := ⟨j - 1, by omega⟩; obtain ⟨xp, hxp⟩ : ∃ xp, xp = r.ds.getD k Di.zero := ⟨_, rfl⟩; have HXP := Qc hxp; have HRP2 := Qc (Qjc (HRP.out (by omega)) HB2.out HBL.out); rw [show k + 1 - 1 = k by omega, <- hxp] at HRP2; clear hxp HRP HBL HB2 HRG; have e0 : IntKind.i64.wrap (k : Int) = (k : Int) := by rw [IntKind.wrap_i64]; omega
                have e00 : IntKind.i64.wrap ((k : Int) + 1 - 1) = (k : Int) := by rw [IntKind.wrap_i64]; omega
                have klt : (k : Int) < (r.ds.length : Int) := by omega
                go_wp2_with fail; clear a0 a1' cl p1 p2 r1 r2; refine Qqa (fun y => Qx w y [(g, 111, diA x), (w.heap.size, 45, A)] /\ y.rangeAt b (off + k * 2) (diA xp).toList) (by kernel_rfl) (by kernel_rfl) ⟨HK2.out.drew, HRP2.out⟩ ?_; clear HK2 HRP2
                by_cases hge : x.p <= xp.p
                · obtain rfl := HF.out (fun hr => by have h := (hr.2.2.2.1 (k + 1) hlt).2 (by omega); rw [show k + 1 - 1 = k by omega, <- HXP.out, <- HX.out] at h; omega)
                  repeat (first
                    | go_big_quiet_skip
                    | (refine Qn rfl 43 (.tmp 121) rfl _ (.slice (some ⟨b, off, none⟩) r.ds.length cap2) rfl (fun y hy => Qmm y _ _ _ (show y.cell? ⟨w.heap.size, 13, none⟩ = _ from by have h := hy.1.1.2.1; rw [HA.out] at h; exact h.cell 13 _ rfl)) ?_; simp only [Act.put, List.setIfInBounds_toArray, List.set])
                    | (refine Qn rfl 3 (.tmp 126) rfl _ (.int .i64 xp.p) rfl (fun y hy => Qyf y _ (hy.2 0 (.int .i64 xp.p) rfl)) ?_; simp only [Act.put, List.setIfInBounds_toArray, List.set])
                    | (refine Qn rfl 3 (.tmp 128) rfl _ (.int .i64 x.p) rfl (fun y hy => Qyf y _ (hy.1.1.1.cell 0 (.int .i64 x.p) rfl)) ?_; simp only [Act.put, List.setIfInBounds_toArray, List.set])
                    | (refine Qg rfl (fun K hK => ?_); go_simp; refine hK _ ?_; clear hK K))
                  refine wpQuiet_nil ?_; intro w3 h3; have d3 := h3.1.2; clear h3; go_wp2; go_ret; exact ⟨rfl, d3⟩
                · skip
                  repeat (first
                    | go_big_quiet_skip
                    | (refine Qn rfl 43 (.tmp 121) rfl _ (.slice (some ⟨b, off, none⟩) r.ds.length cap2) rfl (fun y hy => Qmm y _ _ _ (show y.cell? ⟨w.heap.size, 13, none⟩ = _ from by have h := hy.1.1.2.1; rw [HA.out] at h; exact h.cell 13 _ rfl)) ?_; simp only [Act.put, List.setIfInBounds_toArray, List.set])
                    | (refine Qn rfl 3 (.tmp 126) rfl _ (.int .i64 xp.p) rfl (fun y hy => Qyf y _ (hy.2 0 (.int .i64 xp.p) rfl)) ?_; simp only [Act.put, List.setIfInBounds_toArray, List.set])
                    | (refine Qn rfl 3 (.tmp 128) rfl _ (.int .i64 x.p) rfl (fun y hy => Qyf y _ (hy.1.1.1.cell 0 (.int .i64 x.p) rfl)) ?_; simp only [Act.put, List.setIfInBounds_toArray, List.set])
                    | (refine Qg rfl (fun K hK => ?_); go_simp; refine hK _ ?_; clear hK K))
                  refine wpQuiet_nil ?_; intro w3 h3; have H3 := Qc h3.1; clear h3; go_wp2; go_roundw
                  case rel => exact ⟨k + 1 + 1, by omega, by go_num, ⟨H3.out.1.2, H3.out.2⟩, Qdg HAT.out ⟨by rw [<- HX.out]; exact HOK.out, fun h => by rw [show k + 1 - 1 = k by omega, <- HXP.out, <- HX.out]; omega⟩⟩
                  case measure => simp [intOf]; omega
            · have jge : ¬ (j : Int) < (r.ds.length : Int) := by omega
              obtain rfl : j = r.ds.length := by omega
              have c11 : wr.cell? ⟨w.heap.size, 11, none⟩ = some (.int .u64 (r.b : Int)) := by have h := HK.out.1.1; rw [HA.out] at h; exact h.cell 11 _ rfl
              have cl : wr.cell? ⟨w.heap.size, 1, none⟩ = some (.int .u64 (r.l : Int)) := by have h := HK.out.1.1; rw [HA.out] at h; exact h.cell 1 _ rfl
              have d2 := HK.out.2; have HRB : Hid (1 <= r.b -> r.b < r.l -> q = true) := fun h1 h2 => HT.out ⟨by omega, by omega, HTS.out, HAT.out, h1, h2⟩
              have HRN : Hid (¬ (1 <= r.b /\ r.b < r.l) -> q = false) := fun h => HF.out (fun hr => h ⟨hr.2.2.2.2.1, hr.2.2.2.2.2⟩)
              clear HTS HAT HK HT HF Hq HIN HA c13 hlt hj; generalize r.l = rl at *; generalize r.b = rb at *
              by_cases b1 : (1 : Int) <= (rb : Int)
              · by_cases b2 : (rb : Int) < (rl : Int)
                · obtain rfl := HRB.out (by omega) (by omega); go_wp2; go_ret; exact ⟨rfl, d2⟩
                · obtain rfl := HRN.out (by omega); go_wp2; go_ret; exact ⟨rfl, d2⟩
              · obtain rfl := HRN.out (by omega); go_wp2; go_ret; exact ⟨rfl, d2⟩
end Go.Proofs.Ytdjhcbiejpjkmaa
