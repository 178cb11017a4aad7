/-
  Texts that lean on one another, one behind the other: each opens with its own remark.
-/
import Derived.Test.YtdbpbgpcjmomdaaGreatProg
import Derived.Deep.RegionHeld3
import Derived.Laws.CopyRow
import Derived.Deep.MidRow
import Derived.Test.YtdbpbgpcjmomdaaGreatK20
import Derived.Test.YtdbpbgpcjmomdaaGreatK17
import Derived.Test.YtdbpbgpcjmomdaaGreatK16
import Derived.Test.YtdbpbgpcjmomdaaGreatK15
import Derived.Test.YtdbpbgpcjmomdaaGreatK00
import Derived.Test.YtdbpbgpcjmomdaaGreatK03
import Derived.Test.YtdbpbgpcjmomdaaGreatK07

namespace Go.Proofs.YtdbpbgpcjmomdaaGreat
open Go.RowKit
set_option linter.unusedVariables false
set_option maxRecDepth 8000
set_option maxHeartbeats 25600000
theorem RL.dropped {B : Nat} {w : World} {gw gr cap cap' j n' : Nat} {a a' : Option Addr} {ms : List Rm} {g : Lg} {t' : Tp} (h : RL B w gw gr a cap ms { g with t := t' }) (hr : RB B w a' cap' (ms.drop j)) (hb : ∀ k, blk a' k -> blk a k) (hn : n' = (g.l.drop j).length) (o f : Int) (ho : o = ((g.on - j : Nat) : Int)) (hf : f = ((g.fa - j : Nat) : Int)) :
    RL B (((w.setCell ⟨gw, 2, none⟩ (.slice a' n' cap')).setCell ⟨gw, 3, none⟩ (.int .i64 o)).setCell ⟨gw, 4, none⟩ (.int .i64 f)) gw gr a' cap' (ms.drop j) { t := t', c := g.c, l := g.l.drop j, on := g.on - j, fa := g.fa - j, hd := g.hd, du := g.du } := by
  subst hn ho hf; have hs : msR ms = g.l := h.same; refine h.set ((((Tn.refl (Is gw) w).set gw 2 _ rfl).set gw 3 _ rfl).set gw 4 _ rfl) ?_ rfl hr (fun hk => h.apart.2.1 (hb _ hk)) (by show msR (ms.drop j) = g.l.drop j; rw [<- hs]; simp [msR, List.map_drop]); exact ((h.log.set 2 _).set 3 _).set 4 _
theorem rtrim9_go (B : Nat) (w : World) (gw gr b off cap : Nat) (ms : List Rm) (g : Lg) (n : Nat) (h : RL B w gw gr (some ⟨b, off, none⟩) cap ms g) (ok : g.ok) (hc : ¬ cap = Qda g.l g.fa n) :
    Calls Tryz.prog 27 #[.pointer (some ⟨gw, 0, none⟩), .int .u64 (n : Int)] w fun e w' => e = .returned (.int .i64 (Qda g.l g.fa n : Int)) /\ RL B w' gw gr (some ⟨b, off + Qda g.l g.fa n * 14, none⟩) (cap - Qda g.l g.fa n) (ms.drop (Qda g.l g.fa n)) (g.trim n) /\ Tn (FL gw gr (some ⟨b, off, none⟩)) w w' := by
  have hlen := h.len; have hfew := Qfb g ok; have hcap := h.recs.cap; have hon := ok.on; have hfa := ok.fa; have k2 := h.log.cell 2 (.slice (some ⟨b, off, none⟩) g.l.length cap) rfl; have k4 := h.log.cell 4 (.int .i64 (g.fa : Int)) rfl; have k0 := h.log.cell 0 (.pointer (some ⟨gr, 0, none⟩)) rfl; have hkl := Qbh g.l g.fa n; have hkf := g.trim_k ok n; have HLS := Qa (fun i (hi : i < ms.length) => h.recs.lsn (i := i) hi); have HGD : Hid (∀ i, (g.l.getD i Rec.zero).l = (ms.getD i rcZ).1.l) := Qa (fun i => by rw [<- h.same, Qae])
  have HLO := Qa (fun i (hi : i < Qda g.l g.fa n) => Qck g.l g.fa n (g.l.getD i Rec.zero) (by
    rw [List.getD_eq_getElem?_getD, List.getElem?_eq_getElem (by omega)]
    exact List.mem_take_iff_getElem.2 ⟨i, by omega, rfl⟩))
  have HST := Qa (Qbi g.l g.fa n); have hsm : (msR (ms.take (Qda g.l g.fa n))) = g.l.take (Qda g.l g.fa n) := by rw [<- h.same]; simp [msR, List.map_take]
  have HRM : Hid (∀ y, RL B y gw gr (some ⟨b, off, none⟩) cap ms g -> Calls Tryz.prog 65 #[.slice (some ⟨b, off, none⟩) (Qda g.l g.fa n) cap] y fun e w' => e = .returned (.int .i64 ((Qe (g.l.take (Qda g.l g.fa n))).length : Int)) /\ Below y.heap.size y w') := Qa (fun y hy => by
    have hd : (ms.take (Qda g.l g.fa n)).length = Qda g.l g.fa n := by rw [List.length_take]; omega
    have hrs := hy.recs.rs.first (i := Qda g.l g.fa n) (by omega); have hrs2 : Qlf y (.slice (some ⟨b, off, none⟩) (ms.take (Qda g.l g.fa n)).length cap) (ms.take (Qda g.l g.fa n)) := by rw [hd]; exact hrs
    have T := Qtd _ cap (ms.take (Qda g.l g.fa n)) y hrs2 (fun r hr => Qbc _ 0 ok.rise r (by rw [hsm] at hr; exact List.mem_of_mem_take hr)) (by rw [hd]; omega) (by rw [hd]; omega); rw [hsm, hd] at T
    exact T)
  have HCU := Qa (show g.t.cut ((Qe (g.l.take (Qda g.l g.fa n))).length : Int) = ((g.trim n).t, 0) from by
    have e := g.trim_cut ok n; unfold Lg.trim
    rw [e])
  have HDR := Qa (h.recs.drop (Qda g.l g.fa n) (by omega) hc); have HTR : Hid (g.trim n = { g with t := (g.trim n).t, l := g.l.drop (Qda g.l g.fa n), on := g.on - Qda g.l g.fa n, fa := g.fa - Qda g.l g.fa n }) := Qa rfl
  have hb62 : (Qe (g.l.take (Qda g.l g.fa n))).length <= 70000 := by
    have := hkf.2; have := ok.tok.fast; have := ok.tok.few; have := ok.tok.room; omega
  have H := Qa h; have HOK := Qa ok; clear h ok hsm; have htt : (g.trim n).l = g.l.drop (Qda g.l g.fa n) := rfl; generalize (g.trim n).t = t' at HCU HTR; generalize (Qe (g.l.take (Qda g.l g.fa n))).length = M at *; rw [HTR.out]; clear htt HTR; generalize Qda g.l g.fa n = K at *; go_enter Tryz.func27, Tryz.ntmps27; go_wp2; go_loopw [5] (fun i wr => ∃ j : Nat, j <= K /\ i = .int .i64 j /\ w = wr) (fun i _ => K - (intOf i).toNat)
  case atStart => exact ⟨0, Nat.zero_le _, rfl, rfl⟩
  case round =>
    obtain ⟨j, hj, rfl, rfl⟩ := hrel
    by_cases hlt : j < K
    · obtain ⟨b', off', e', hcell⟩ := HLS.out j (by omega); injection e' with e'; injection e' with e1 e2; subst e1 e2; have hlow := HLO.out j hlt; rw [HGD.out j] at hlow; generalize (ms.getD j rcZ).1.l = L at hcell hlow; have hjf : (j : Int) < (g.fa : Int) := by omega
      have hjl : (j : Int) < (g.l.length : Int) := by omega
      have hLn : (L : Int) < (n : Int) := by omega
      go_wp2; go_roundw
      case rel => exact ⟨j + 1, by omega, by go_num, trivial⟩
      case measure => simp [intOf]; omega
    · obtain rfl : j = K := by omega
      have hstop : (j : Int) < (g.fa : Int) -> ∃ L : Nat, w.cell? ⟨b, off + j * 14 + 1, none⟩ = some (.int .u64 (L : Int)) /\ ¬ (L : Int) < (n : Int) := by
        intro hf; obtain ⟨b', off', e', hcell⟩ := HLS.out j (by omega); injection e' with e'; injection e' with e1 e2; subst e1 e2; have hs := HST.out (by omega) (by omega); rw [HGD.out j] at hs; exact ⟨_, hcell, by omega⟩
      have e3 : (j : Int) <= (cap : Int) := by omega
      have e4 : (j : Int) <= (g.l.length : Int) := by omega
      by_cases hf : (j : Int) < (g.fa : Int)
      · obtain ⟨L, hcell, hL⟩ := hstop hf; clear hstop; go_wp2_with fail
        go_region_held3 (fun x => x.cell? ⟨gw, 0, none⟩ = some (.pointer (some ⟨gr, 0, none⟩)) /\ x.cell? ⟨gw, 2, none⟩ = some (.slice (some ⟨b, off, none⟩) g.l.length cap)) (go_keep)
          (first
            | (go_at_call 65; with_reducible refine (HRM.out _ H.out.drew).mono ?_; rintro e w1 ⟨rfl, hb1⟩; have R1 := Qa (H.out.drew.later hb1); have k0 := R1.out.log.cell 0 (.pointer (some ⟨gr, 0, none⟩)) rfl; have k2 := R1.out.log.cell 2 (.slice (some ⟨b, off, none⟩) g.l.length cap) rfl)
            | (go_at_call 64; with_reducible refine (Qeh gr g.t (M : Int) w1 R1.out.tape HOK.out.tok).mono ?_; rw [HCU.out]; rintro e w2 ⟨rfl, ht2, hbt⟩; have R2 := Qa (R1.out.turn hbt ht2); have k0 := R2.out.log.cell 0 (.pointer (some ⟨gr, 0, none⟩)) rfl; have k2 := R2.out.log.cell 2 (.slice (some ⟨b, off, none⟩) g.l.length cap) rfl))
        have T2 := Qa ((Tn.refl (FL gw gr (some ⟨b, off, none⟩)) w).drew.later hb1 |>.then (Tn.of_but hbt (.inr (.inl rfl)))); have m3 := R2.out.log.cell 3 (.int .i64 (g.on : Int)) rfl; have m4 := R2.out.log.cell 4 (.int .i64 (g.fa : Int)) rfl; have f2 := R2.out.log.free 2; have f3 := R2.out.log.free 3; have f4 := R2.out.log.free 4; clear ht2 hbt hb1 R1 H HRM HLS HGD HLO HST HCU; go_wp2; go_ret; exact ⟨rfl, R2.out.dropped (R2.out.recs.drop j (by omega) hc) (fun k ⟨o, e⟩ => ⟨off, by injection e with e; injection e with e1 e2; rw [e1]⟩) (by rw [List.length_drop]) _ _ (by omega) (by omega), ((T2.out.set gw 2 _ (.inl rfl)).set gw 3 _ (.inl rfl)).set gw 4 _ (.inl rfl)⟩
      · clear hstop; go_wp2_with fail
        go_region_held3 (fun x => x.cell? ⟨gw, 0, none⟩ = some (.pointer (some ⟨gr, 0, none⟩)) /\ x.cell? ⟨gw, 2, none⟩ = some (.slice (some ⟨b, off, none⟩) g.l.length cap)) (go_keep)
          (first
            | (go_at_call 65; with_reducible refine (HRM.out _ H.out.drew).mono ?_; rintro e w1 ⟨rfl, hb1⟩; have R1 := Qa (H.out.drew.later hb1); have k0 := R1.out.log.cell 0 (.pointer (some ⟨gr, 0, none⟩)) rfl; have k2 := R1.out.log.cell 2 (.slice (some ⟨b, off, none⟩) g.l.length cap) rfl)
            | (go_at_call 64; with_reducible refine (Qeh gr g.t (M : Int) w1 R1.out.tape HOK.out.tok).mono ?_; rw [HCU.out]; rintro e w2 ⟨rfl, ht2, hbt⟩; have R2 := Qa (R1.out.turn hbt ht2); have k0 := R2.out.log.cell 0 (.pointer (some ⟨gr, 0, none⟩)) rfl; have k2 := R2.out.log.cell 2 (.slice (some ⟨b, off, none⟩) g.l.length cap) rfl))
        have T2 := Qa ((Tn.refl (FL gw gr (some ⟨b, off, none⟩)) w).drew.later hb1 |>.then (Tn.of_but hbt (.inr (.inl rfl)))); have m3 := R2.out.log.cell 3 (.int .i64 (g.on : Int)) rfl; have m4 := R2.out.log.cell 4 (.int .i64 (g.fa : Int)) rfl; have f2 := R2.out.log.free 2; have f3 := R2.out.log.free 3; have f4 := R2.out.log.free 4; clear ht2 hbt hb1 R1 H HRM HLS HGD HLO HST HCU; go_wp2; go_ret; exact ⟨rfl, R2.out.dropped (R2.out.recs.drop j (by omega) hc) (fun k ⟨o, e⟩ => ⟨off, by injection e with e; injection e with e1 e2; rw [e1]⟩) (by rw [List.length_drop]) _ _ (by omega) (by omega), ((T2.out.set gw 2 _ (.inl rfl)).set gw 3 _ (.inl rfl)).set gw 4 _ (.inl rfl)⟩
theorem Qlq (B : Nat) (w : World) (gw gr b off cap : Nat) (ms : List Rm) (g : Lg) (n : Nat) (h : RL B w gw gr (some ⟨b, off, none⟩) cap ms g) (ok : g.ok) (hc : cap = Qda g.l g.fa n) :
    Calls Tryz.prog 27 #[.pointer (some ⟨gw, 0, none⟩), .int .u64 (n : Int)] w fun e w' => e = .returned (.int .i64 (Qda g.l g.fa n : Int)) /\ RL B w' gw gr (some ⟨b, off, none⟩) 0 (ms.drop (Qda g.l g.fa n)) (g.trim n) /\ Tn (FL gw gr (some ⟨b, off, none⟩)) w w' := by
  have hlen := h.len; have hfew := Qfb g ok; have hcap := h.recs.cap; have hon := ok.on; have hfa := ok.fa; have k2 := h.log.cell 2 (.slice (some ⟨b, off, none⟩) g.l.length cap) rfl; have k4 := h.log.cell 4 (.int .i64 (g.fa : Int)) rfl; have k0 := h.log.cell 0 (.pointer (some ⟨gr, 0, none⟩)) rfl; have hkl := Qbh g.l g.fa n; have hkf := g.trim_k ok n; have HLS := Qa (fun i (hi : i < ms.length) => h.recs.lsn (i := i) hi); have HGD : Hid (∀ i, (g.l.getD i Rec.zero).l = (ms.getD i rcZ).1.l) := Qa (fun i => by rw [<- h.same, Qae])
  have HLO := Qa (fun i (hi : i < Qda g.l g.fa n) => Qck g.l g.fa n (g.l.getD i Rec.zero) (by
    rw [List.getD_eq_getElem?_getD, List.getElem?_eq_getElem (by omega)]
    exact List.mem_take_iff_getElem.2 ⟨i, by omega, rfl⟩))
  have HST := Qa (Qbi g.l g.fa n); have hsm : (msR (ms.take (Qda g.l g.fa n))) = g.l.take (Qda g.l g.fa n) := by rw [<- h.same]; simp [msR, List.map_take]
  have HRM : Hid (∀ y, RL B y gw gr (some ⟨b, off, none⟩) cap ms g -> Calls Tryz.prog 65 #[.slice (some ⟨b, off, none⟩) (Qda g.l g.fa n) cap] y fun e w' => e = .returned (.int .i64 ((Qe (g.l.take (Qda g.l g.fa n))).length : Int)) /\ Below y.heap.size y w') := Qa (fun y hy => by
    have hd : (ms.take (Qda g.l g.fa n)).length = Qda g.l g.fa n := by rw [List.length_take]; omega
    have hrs := hy.recs.rs.first (i := Qda g.l g.fa n) (by omega); have hrs2 : Qlf y (.slice (some ⟨b, off, none⟩) (ms.take (Qda g.l g.fa n)).length cap) (ms.take (Qda g.l g.fa n)) := by rw [hd]; exact hrs
    have T := Qtd _ cap (ms.take (Qda g.l g.fa n)) y hrs2 (fun r hr => Qbc _ 0 ok.rise r (by rw [hsm] at hr; exact List.mem_of_mem_take hr)) (by rw [hd]; omega) (by rw [hd]; omega); rw [hsm, hd] at T
    exact T)
  have HCU := Qa (show g.t.cut ((Qe (g.l.take (Qda g.l g.fa n))).length : Int) = ((g.trim n).t, 0) from by
    have e := g.trim_cut ok n; unfold Lg.trim
    rw [e])
  have hlK : g.l.length = Qda g.l g.fa n := by omega
  have hd0 : g.l.length - Qda g.l g.fa n = 0 := by omega
  have HTR : Hid (g.trim n = { g with t := (g.trim n).t, l := g.l.drop (Qda g.l g.fa n), on := g.on - Qda g.l g.fa n, fa := g.fa - Qda g.l g.fa n }) := Qa rfl
  have hb62 : (Qe (g.l.take (Qda g.l g.fa n))).length <= 70000 := by
    have := hkf.2; have := ok.tok.fast; have := ok.tok.few; have := ok.tok.room; omega
  have H := Qa h; have HOK := Qa ok; clear h ok hsm; have htt : (g.trim n).l = g.l.drop (Qda g.l g.fa n) := rfl; generalize (g.trim n).t = t' at HCU HTR; generalize (Qe (g.l.take (Qda g.l g.fa n))).length = M at *; rw [HTR.out]; clear htt HTR; generalize Qda g.l g.fa n = K at *; subst hc; have HLK := Qa hlK; clear hlK; go_enter Tryz.func27, Tryz.ntmps27; go_wp2; go_loopw [5] (fun i wr => ∃ j : Nat, j <= cap /\ i = .int .i64 j /\ w = wr) (fun i _ => cap - (intOf i).toNat)
  case atStart => exact ⟨0, Nat.zero_le _, rfl, rfl⟩
  case round =>
    obtain ⟨j, hj, rfl, rfl⟩ := hrel
    by_cases hlt : j < cap
    · obtain ⟨b', off', e', hcell⟩ := HLS.out j (by omega); injection e' with e'; injection e' with e1 e2; subst e1 e2; have hlow := HLO.out j hlt; rw [HGD.out j] at hlow; generalize (ms.getD j rcZ).1.l = L at hcell hlow; have hjf : (j : Int) < (g.fa : Int) := by omega
      have hjl : (j : Int) < (g.l.length : Int) := by omega
      have hLn : (L : Int) < (n : Int) := by omega
      go_wp2; go_roundw
      case rel => exact ⟨j + 1, by omega, by go_num, trivial⟩
      case measure => simp [intOf]; omega
    · obtain rfl : j = cap := by omega
      have hstop : (j : Int) < (g.fa : Int) -> ∃ L : Nat, w.cell? ⟨b, off + j * 14 + 1, none⟩ = some (.int .u64 (L : Int)) /\ ¬ (L : Int) < (n : Int) := by
        intro hf; obtain ⟨b', off', e', hcell⟩ := HLS.out j (by omega); injection e' with e'; injection e' with e1 e2; subst e1 e2; have hs := HST.out (by omega) (by omega); rw [HGD.out j] at hs; exact ⟨_, hcell, by omega⟩
      have e3 : (j : Int) <= (j : Int) := by omega
      have e4 : (j : Int) <= (g.l.length : Int) := by omega
      by_cases hf : (j : Int) < (g.fa : Int)
      · exfalso; have := HLK.out; omega
      · clear hstop; go_wp2_with fail
        go_region_held3 (fun x => x.cell? ⟨gw, 0, none⟩ = some (.pointer (some ⟨gr, 0, none⟩)) /\ x.cell? ⟨gw, 2, none⟩ = some (.slice (some ⟨b, off, none⟩) g.l.length j)) (go_keep)
          (first
            | (go_at_call 65; with_reducible refine (HRM.out _ H.out.drew).mono ?_; rintro e w1 ⟨rfl, hb1⟩; have R1 := Qa (H.out.drew.later hb1); have k0 := R1.out.log.cell 0 (.pointer (some ⟨gr, 0, none⟩)) rfl; have k2 := R1.out.log.cell 2 (.slice (some ⟨b, off, none⟩) g.l.length j) rfl)
            | (go_at_call 64; with_reducible refine (Qeh gr g.t (M : Int) w1 R1.out.tape HOK.out.tok).mono ?_; rw [HCU.out]; rintro e w2 ⟨rfl, ht2, hbt⟩; have R2 := Qa (R1.out.turn hbt ht2); have k0 := R2.out.log.cell 0 (.pointer (some ⟨gr, 0, none⟩)) rfl; have k2 := R2.out.log.cell 2 (.slice (some ⟨b, off, none⟩) g.l.length j) rfl))
        have T2 := Qa ((Tn.refl (FL gw gr (some ⟨b, off, none⟩)) w).drew.later hb1 |>.then (Tn.of_but hbt (.inr (.inl rfl)))); have m3 := R2.out.log.cell 3 (.int .i64 (g.on : Int)) rfl; have m4 := R2.out.log.cell 4 (.int .i64 (g.fa : Int)) rfl; have f2 := R2.out.log.free 2; have f3 := R2.out.log.free 3; have f4 := R2.out.log.free 4; clear ht2 hbt hb1 R1 H HRM HLS HGD HLO HST HCU; go_wp2; go_ret; have e0 : ms.drop j = [] := List.eq_nil_of_length_eq_zero (by rw [List.length_drop]; have := HLK.out; omega); exact ⟨rfl, R2.out.dropped (by rw [e0]; exact R2.out.recs.drop_all) (fun k hk => hk) (by rw [List.length_drop]; have := HLK.out; omega) _ _ (by omega) (by omega), ((T2.out.set gw 2 _ (.inl rfl)).set gw 3 _ (.inl rfl)).set gw 4 _ (.inl rfl)⟩
theorem Qfp (B : Nat) (w : World) (gw gr : Nat) (ms : List Rm) (g : Lg) (n : Nat) (h : RL B w gw gr none 0 ms g) (ok : g.ok) :
    Calls Tryz.prog 27 #[.pointer (some ⟨gw, 0, none⟩), .int .u64 (n : Int)] w fun e w' => e = .returned (.int .i64 (Qda g.l g.fa n : Int)) /\ RL B w' gw gr none 0 (ms.drop (Qda g.l g.fa n)) (g.trim n) /\ Tn (FL gw gr none) w w' := by
  have hlen := h.len; have hcap := h.recs.cap; have hon := ok.on; have hfa := ok.fa; have hl0 : g.l.length = 0 := by omega
  have hk0 : Qda g.l g.fa n = 0 := by have := (Qbh g.l g.fa n).2; omega
  have hfa0 : g.fa = 0 := by omega
  have hon0 : g.on = 0 := by omega
  have HZ := Qa (And.intro hl0 (And.intro hon0 hfa0)); have k0 := h.log.cell 0 (.pointer (some ⟨gr, 0, none⟩)) rfl
  have k2 : w.cell? ⟨gw, 2, none⟩ = some (.slice none 0 0) := by
    have e := h.log.cell 2 (.slice none g.l.length 0) rfl; rwa [hl0] at e
  have k4 : w.cell? ⟨gw, 4, none⟩ = some (.int .i64 0) := by
    have e := h.log.cell 4 (.int .i64 (g.fa : Int)) rfl; rwa [hfa0] at e
  have hfr : (Qe (g.l.take (Qda g.l g.fa n))).length = 0 := by rw [hk0, List.take_zero]; rfl
  have HCU := Qa (show g.t.cut 0 = ((g.trim n).t, 0) from by
    have e := g.trim_cut ok n; unfold Lg.trim; rw [e]; rw [hfr] at e; rw [hfr]
    exact e)
  have HRM : Hid (∀ y, Calls Tryz.prog 65 #[.slice none 0 0] y fun e w' => e = .returned (.int .i64 0) /\ Below y.heap.size y w') := Qa (fun y => Qtd none 0 [] y (Qlf.empty _ _ _) (fun r hr => nomatch hr) (by simp) (by simp))
  have HTR : Hid (g.trim n = { t := (g.trim n).t, c := g.c, l := g.l.drop 0, on := g.on - 0, fa := g.fa - 0, hd := g.hd, du := g.du }) := Qa (by
    unfold Lg.trim
    rw [hk0])
  have H := Qa h; have HOK := Qa ok; clear h ok hfr; rw [hk0]; generalize (g.trim n).t = t' at HCU HTR; rw [HTR.out]; clear HTR hk0 hl0 hfa0 hon0; go_enter Tryz.func27, Tryz.ntmps27; go_wp2; go_loopw [5] (fun i wr => i = .int .i64 0 /\ w = wr) (fun i _ => 0)
  case atStart => exact ⟨rfl, rfl⟩
  case round =>
    obtain ⟨rfl, rfl⟩ := hrel; go_wp2_with fail
    go_region_held3 (fun x => x.cell? ⟨gw, 0, none⟩ = some (.pointer (some ⟨gr, 0, none⟩)) /\ x.cell? ⟨gw, 2, none⟩ = some (.slice none 0 0)) (go_keep)
      (first
        | (go_at_call 65; with_reducible refine (HRM.out _).mono ?_; rintro e w1 ⟨rfl, hb1⟩; have R1 := Qa (H.out.drew.later hb1); have k0 := R1.out.log.cell 0 (.pointer (some ⟨gr, 0, none⟩)) rfl; have k2 := (RL.zc R1.out HZ.out.1 HZ.out.2.1).1)
        | (go_at_call 64; with_reducible refine (Qeh gr g.t 0 w1 R1.out.tape HOK.out.tok).mono ?_; rw [HCU.out]; rintro e w2 ⟨rfl, ht2, hbt⟩; have R2 := Qa (R1.out.turn hbt ht2); have k0 := R2.out.log.cell 0 (.pointer (some ⟨gr, 0, none⟩)) rfl; have k2 := (RL.zc R2.out HZ.out.1 HZ.out.2.1).1))
    have T2 := Qa ((Tn.refl (FL gw gr none) w).drew.later hb1 |>.then (Tn.of_but hbt (.inr (.inl rfl)))); have m3 := R2.out.log.cell 3 (.int .i64 (g.on : Int)) rfl; have m4 := R2.out.log.cell 4 (.int .i64 (g.fa : Int)) rfl; have f2 := R2.out.log.free 2; have f3 := R2.out.log.free 3; have f4 := R2.out.log.free 4; clear ht2 hbt hb1 R1 H HRM HCU; go_wp2; go_ret; exact ⟨rfl, R2.out.dropped (by rw [List.drop_zero]; exact R2.out.recs) (fun k hk => hk) (by rw [List.length_drop]; have := HZ.out.1; omega) _ _ (by omega) (by omega), ((T2.out.set gw 2 _ (.inl rfl)).set gw 3 _ (.inl rfl)).set gw 4 _ (.inl rfl)⟩
theorem Qqu (B : Nat) (w : World) (gw gr cap : Nat) (a : Option Addr) (ms : List Rm) (g : Lg) (n : Nat) (h : RL B w gw gr a cap ms g) (ok : g.ok) :
    Calls Tryz.prog 27 #[.pointer (some ⟨gw, 0, none⟩), .int .u64 (n : Int)] w fun e w' => e = .returned (.int .i64 (Qda g.l g.fa n : Int)) /\ ∃ a' cap', RL B w' gw gr a' cap' (ms.drop (Qda g.l g.fa n)) (g.trim n) /\ Tn (FL gw gr a) w w' /\ ∀ k, blk a' k -> blk a k := by
  rcases h.recs.1 with ⟨rfl, _, rfl⟩ | ⟨b, off, cs, rfl, _⟩
  · exact (Qfp B w gw gr ms g n h ok).mono fun e w' he => ⟨he.1, none, 0, he.2.1, he.2.2, fun k hk => hk⟩
  · by_cases hc : cap = Qda g.l g.fa n
    · exact (Qlq B w gw gr b off cap ms g n h ok hc).mono fun e w' he => ⟨he.1, _, _, he.2.1, he.2.2, fun k hk => hk⟩
    · exact (rtrim9_go B w gw gr b off cap ms g n h ok hc).mono fun e w' he => ⟨he.1, _, _, he.2.1, he.2.2, fun k ⟨o, e⟩ => ⟨off, by injection e with e; injection e with e1 e2; rw [e1]⟩⟩
theorem rget9_any (B : Nat) (w : World) (gw gr cap : Nat) (a : Option Addr) (ms : List Rm) (g : Lg) (n : Nat) (h : RL B w gw gr a cap ms g) (ok : g.ok) :
    Calls Tryz.prog 31 #[.pointer (some ⟨gw, 0, none⟩), .int .u64 (n : Int)] w fun e w' => e = .returned (.tuple #[.agg (rcF (Qzp ms n).1), .bool (Qzp ms n).2]) /\ Below w.heap.size w w' := by
  have hlen := h.len; have hfew := Qfb g ok; have hcap := h.recs.cap; have hbx : Below w.heap.size w (w.alloc (.cells Qr 34)) := (Below.refl _ _).alloc (Nat.le_refl _) _; have H0 := Qa (And.intro (h.later hbx) (And.intro (Qd.new w 34 Qr) hbx)); have k2 := H0.out.1.log.cell 2 (.slice a g.l.length cap) rfl; clear h ok hbx; obtain ⟨ln, hln⟩ : ∃ ln, ln = g.l.length := ⟨_, rfl⟩; rw [<- hln] at hlen hfew k2; have HLN := Qa hln; have HML := Qa hlen; clear hln; rw [hlen] at hcap; clear hlen; obtain ⟨y, hy⟩ : ∃ y, y = w.alloc (.cells Qr 34) := ⟨_, rfl⟩; have ky : y.cell? ⟨gw, 2, none⟩ = some (.slice a ln cap) := by rw [hy]; exact k2
  rw [<- hy] at H0; have HY := Qa hy; clear hy; unfold Qr at k2; go_enter Tryz.func31, Tryz.ntmps31; go_wp2; go_loopw [12] (fun i wr => ∃ j : Nat, j <= ln /\ i = .int .i64 j /\ (∀ i, i < j -> (ms.getD i rcZ).1.l ≠ n) /\ y = wr) (fun i _ => ln - (intOf i).toNat)
  case atStart => exact ⟨0, Nat.zero_le _, rfl, fun i hi => absurd hi (Nat.not_lt_zero _), by rw [HY.out]; rfl⟩
  case round =>
    obtain ⟨j, hj, rfl, hno, rfl⟩ := hrel; clear k2; have HNO := Qa hno; clear hno
    by_cases hlt : j < ln
    · have hjm : j < ms.length := by have := HML.out; omega
      obtain ⟨b, off, rfl, hcell⟩ := H0.out.1.recs.lsn (i := j) hjm; have hjI : (j : Int) < (ln : Int) := by omega
      have HEQ : Hid ((ms.getD j rcZ).1.l = (ms.getD j rcZ).1.l) := rfl; obtain ⟨L, hL⟩ : ∃ L, L = (ms.getD j rcZ).1.l := ⟨_, rfl⟩; rw [<- hL] at hcell; have HLL := Qa hL; clear hL; obtain ⟨b', off', e', hbl, hrg, hft, hin⟩ := H0.out.1.recs.rs.at (i := j) hjm; injection e' with e'; injection e' with e1 e2; subst e1 e2
      by_cases he : L = n
      · have h1 : ((L : Int) == (n : Int)) = true := by simp [he]
        have HG := Qa (getL_at ms n j hjm HNO.out (by rw [<- HLL.out]; exact he)); obtain ⟨m, hm⟩ : ∃ m, m = ms.getD j rcZ := ⟨_, rfl⟩; rw [<- hm] at hrg hin HG; clear hm HLL; have HLD := Qa (Qgd y b (off + j * 14) m hrg)
        have hone : (rcF m).all (·.oneCell') = true := by
          rw [Array.all_eq_true']; intro u hu; exact Qyo m (rc_one hin) u (by simpa using hu)
        clear hrg hin hft; have HROW := Qa H0.out.2.1; go_wp2_with (first | (refine Qq rfl 34 (.tmp 30) rfl _ _ rfl HLD.out ?_) | (refine Qc rfl 34 (.tmp 4) (.tmp 31) rfl w.heap.size Qr (rcF m) rfl rfl HROW.out Qj rfl hone ?_)); intro w2 hrow hgr _; have HR2 := Qa hrow; have HB2 := Qa (hgr _ _ H0.out.2.2 (Nat.le_refl _)); clear hrow hgr HROW HLD H0 ky hone hcell; go_wp2; refine bodyPost_ret (Qcb rfl _ _ w.heap.size _ _ rfl HR2.out Tryz.underlying34 rfl Qj) rfl ?_; exact ⟨by rw [HG.out]; rfl, HB2.out⟩
      · have h1 : ((L : Int) == (n : Int)) = false := by
          rw [beq_eq_false_iff_ne]; omega
        clear hrg hft hin; go_wp2; go_roundw
        case rel => exact ⟨j + 1, by omega, by go_num, fun i hi => if e : i = j then by rw [e, <- HLL.out]; exact he else HNO.out i (by omega), trivial⟩
        case measure => simp [intOf]; omega
    · obtain rfl : j = ln := by omega
      have HG := Qa (getL_no ms n (fun i hi => HNO.out i (by have := HML.out; omega))); have HROW := Qa H0.out.2.1; go_wp2_with (refine Qc rfl 34 (.tmp 4) (.tmp 33) rfl w.heap.size _ #[.int .i64 0, .int .u64 0, .int .i64 0, .int .u64 0, .int .i64 0, .int .i64 0, .int .i64 0, .string ⟨#[]⟩, .string ⟨#[]⟩, .int .u64 0, .int .i64 0, .int .u64 0, .slice none 0 0, .slice none 0 0] rfl rfl HROW.out Qj rfl (by simp [Value.oneCell']) ?_); intro w2 hrow hgr _; have HR2 := Qa hrow; have HB2 := Qa (hgr _ _ H0.out.2.2 (Nat.le_refl _)); clear hrow hgr HROW H0 ky; go_wp2; refine bodyPost_ret (Qcb rfl _ _ w.heap.size _ _ rfl HR2.out Tryz.underlying34 rfl Qj) rfl ?_; exact ⟨by rw [HG.out]; rfl, HB2.out⟩
section
def Qsk (w x : World) : Prop := ∀ k cs, Qd w k 36 cs -> Qd x k 36 cs
theorem Qsk.dr {w x : World} {k : Nat} {cs : Array Value} (h : Qsk w.drew x) (hr : Qd w k 36 cs) : Qd x k 36 cs := h k cs hr
theorem LAc.side {B gt gl : Nat} {w x : World} {F : Nat -> Prop} {g : Lg} (h : LAc B gt gl w F g) (p : Tn F w x) : Qsk w x := by
  obtain ⟨gc, gb, a, cap, ms, wa, wc, hL, rfl⟩ := h; intro k cs hr; refine p.row hr (fun hF => ?_); obtain ⟨_, u, ds, h2, h3⟩ := hL.kinds k hF; have := Qca hr h2; rw [<- this] at h3; rcases h3 with h3 | h3 | h3 | h3 | h3 <;> exact absurd h3 (by decide)
theorem RL.side {B gw gr cap : Nat} {a : Option Addr} {ms : List Rm} {w x : World} {g : Lg} (h : RL B w gw gr a cap ms g) (p : Tn (FL gw gr a) w x) : Qsk w x := by
  intro k cs hr; refine p.row hr (fun hF => ?_)
  rcases hF with rfl | rfl | hF
  · exact absurd (Qca hr h.log) (by decide)
  · exact absurd (Qca hr h.tape) (by decide)
  · obtain ⟨_, ds, h2⟩ := h.recs.kind k hF; exact absurd (Qca hr h2) (by decide)
abbrev D9 (w0 w : World) (gp gt gl gr gw : Nat) (g1 g2 : Lg) : Prop := W9 (LAc w0.heap.size) w0.heap.size w0 w gp gt gl gr gw g1 g2
section
variable {w0 w x : World} {gp gt gl gr gw : Nat} {g1 g2 g' : Lg}
theorem D9.code (h : D9 w0 w gp gt gl gr gw g1 g2) {P : Ending -> Prop} {f : FuncId} {args : Array Value} (hc : ∀ F, LAc w0.heap.size gt gl w F g1 -> Calls Tryz.prog f args w fun e x' => P e /\ Aft (LAc w0.heap.size) gt gl w F g' x') : Calls Tryz.prog f args w fun e x' => P e /\ D9 w0 x' gp gt gl gr gw g' g2 /\ Qsk w x' := by
  obtain ⟨F, a, cap, ms, h1, h2, h3, h4, h5⟩ := h.logs; have hl := (Qtg _).loose _ _ _ _ _ h1; have hs := Nat.le_trans h.here h.bel.size; refine (hc F h1).mono ?_; rintro e x' ⟨hp, F', q1, q2, q3⟩
  refine ⟨hp, ⟨⟨F', a, cap, ms, q1, h2.keep hl q2 (fun k hk hf => h3 k hf hk), fun k hk hf => ?_, fun hf => ?_, h5⟩, q2.row h.pair h4, h.low, h.here, h.bel.trans (q2.below (fun k hk => (hl k hk).1) hs)⟩, h1.side q2⟩
  · rcases q3 k hk with h6 | h6
    · exact h3 k h6 hf
    · have := (h2.loose k hf).2.1; omega
  · rcases q3 gp hf with h6 | h6
    · exact h4 h6
    · have := h.pair.lt; omega
theorem D9.doc' (h : D9 w0 w gp gt gl gr gw g1 g2) {P : Ending -> Prop} {f : FuncId} {args : Array Value} (hc : ∀ a cap ms, RL w0.heap.size w gw gr a cap ms g2 -> Calls Tryz.prog f args w fun e x' => P e /\ ∃ a' cap' ms', RL w0.heap.size x' gw gr a' cap' ms' g' /\ Tn (FL gw gr a) w x' /\ ∀ k, blk a' k -> blk a k ∨ w.heap.size <= k) : Calls Tryz.prog f args w fun e x' => P e /\ D9 w0 x' gp gt gl gr gw g1 g' /\ Qsk w x' := by
  obtain ⟨F, a, cap, ms, h1, h2, h3, h4, h5⟩ := h.logs; have hl := (Qtg _).loose _ _ _ _ _ h1; have hs := Nat.le_trans h.here h.bel.size; refine (hc a cap ms h2).mono ?_; rintro e x' ⟨hp, a', cap', ms', q1, q2, q3⟩
  have hnew : ∀ k, FL gw gr a' k -> FL gw gr a k ∨ w.heap.size <= k := fun k hk => by
    rcases hk with h6 | h6 | h6
    · exact .inl (.inl h6)
    · exact .inl (.inr (.inl h6))
    · rcases q3 k h6 with h7 | h7
      · exact .inl (.inr (.inr h7))
      · exact .inr h7
  refine ⟨hp, ⟨⟨F, a', cap', ms', (Qtg _).keep _ _ _ _ _ _ _ h1 h2.loose q2 h3, q1, fun k hk hf => ?_, h4, fun hf => ?_⟩, q2.row h.pair h5, h.low, h.here, h.bel.trans (q2.below (fun k hk => (h2.loose k hk).1) hs)⟩, h2.side q2⟩
  · rcases hnew k hf with h6 | h6
    · exact h3 k hk h6
    · have := (hl k hk).2.1; omega
  · rcases hnew gp hf with h6 | h6
    · exact h5 h6
    · have := h.pair.lt; omega
theorem D9.look (h : D9 w0 w gp gt gl gr gw g1 g2) {P : Ending -> World -> Prop} {f : FuncId} {args : Array Value} (hc : ∀ F, LAc w0.heap.size gt gl w F g1 -> Calls Tryz.prog f args w fun e x' => P e x' /\ Below w.heap.size w x') : Calls Tryz.prog f args w fun e x' => P e x' /\ Below w.heap.size w x' /\ D9 w0 x' gp gt gl gr gw g1 g2 := by
  obtain ⟨F, a, cap, ms, h1, h2, h3, h4, h5⟩ := h.logs; exact (hc F h1).mono fun e x' hh => ⟨hh.1, hh.2, W9.later (Qtg _) h hh.2⟩
theorem D9.see (h : D9 w0 w gp gt gl gr gw g1 g2) {P : Ending -> World -> Prop} {f : FuncId} {args : Array Value} (hc : ∀ a cap ms, RL w0.heap.size w gw gr a cap ms g2 -> Calls Tryz.prog f args w fun e x' => P e x' /\ Below w.heap.size w x') : Calls Tryz.prog f args w fun e x' => P e x' /\ Below w.heap.size w x' /\ D9 w0 x' gp gt gl gr gw g1 g2 := by
  obtain ⟨F, a, cap, ms, h1, h2, h3, h4, h5⟩ := h.logs; exact (hc a cap ms h2).mono fun e x' hh => ⟨hh.1, hh.2, W9.later (Qtg _) h hh.2⟩
theorem D9.later (h : D9 w0 w gp gt gl gr gw g1 g2) (p : Below w.heap.size w x) : D9 w0 x gp gt gl gr gw g1 g2 := W9.later (Qtg _) h p
theorem D9.drew (h : D9 w0 w gp gt gl gr gw g1 g2) : D9 w0 w.drew gp gt gl gr gw g1 g2 := D9.later h ⟨rfl, rfl, rfl, Nat.le_refl _, fun _ _ => rfl⟩
theorem D9.p0 (h : D9 w0 w gp gt gl gr gw g1 g2) : w.cell? ⟨gp, 0, none⟩ = some (.pointer (some ⟨gt, 0, none⟩)) := h.pair.cell 0 _ rfl
theorem D9.p1 (h : D9 w0 w gp gt gl gr gw g1 g2) : w.cell? ⟨gp, 1, none⟩ = some (.pointer (some ⟨gl, 0, none⟩)) := h.pair.cell 1 _ rfl
theorem D9.p2 (h : D9 w0 w gp gt gl gr gw g1 g2) : w.cell? ⟨gp, 2, none⟩ = some (.pointer (some ⟨gr, 0, none⟩)) := h.pair.cell 2 _ rfl
theorem D9.p3 (h : D9 w0 w gp gt gl gr gw g1 g2) : w.cell? ⟨gp, 3, none⟩ = some (.pointer (some ⟨gw, 0, none⟩)) := h.pair.cell 3 _ rfl
theorem D9.d (h : D9 w0 w gp gt gl gr gw g1 g2) : w.cell? ⟨gw, 0, none⟩ = some (.pointer (some ⟨gr, 0, none⟩)) /\ w.cell? ⟨gw, 1, none⟩ = some (.int .u64 (g2.c : Int)) /\ w.cell? ⟨gw, 5, none⟩ = some (.int .i64 (g2.hd : Int)) /\ w.cell? ⟨gw, 6, none⟩ = some (.int .u64 (g2.du : Int)) /\ w.cell? ⟨gr, 0, none⟩ = some (.string g2.t.b) /\ w.cell? ⟨gr, 1, none⟩ = some (.int .i64 (g2.t.f : Int)) /\ w.cell? ⟨gr, 2, none⟩ = some (.int .i64 (g2.t.m : Int)) := by
  obtain ⟨a, cap, h1, h2⟩ := W9.doc h; exact ⟨h1.cell 0 _ rfl, h1.cell 1 _ rfl, h1.cell 5 _ rfl, h1.cell 6 _ rfl, h2.cell 0 _ rfl, h2.cell 1 _ rfl, h2.cell 2 _ rfl⟩
theorem dapp (h : D9 w0 w gp gt gl gr gw g1 g2) (ok : g1.ok) (r : Rec) (va vb : Value) (f : Nat) (hd : Int) (hft : r.fits) (hin : Qjb w0 r va vb) (hf : f < 18446744073709551616) (hh : (Lit.int .i64 hd).wf = true) :
    Calls Tryz.prog 14 #[.pointer (some ⟨gl, 0, none⟩), .agg (rcA r va vb), .int .u64 (f : Int), .int .i64 hd] w fun e w' => e = .returned (.tuple #[.int .u64 (g1.appN r f hd : Int), .int .i64 (g1.appE r f hd)]) /\ D9 w0 w' gp gt gl gr gw (g1.app r f hd) g2 /\ Qsk w w' :=
  D9.code h (fun F hF => append9 _ gt gl w F g1 r va vb f hd hF ok hft (rck9 hin h.bel) hf hh)
theorem dappr (h : D9 w0 w gp gt gl gr gw g1 g2) (ok : g2.ok) (r : Rec) (va vb : Value) (f : Nat) (hd : Int) (hft : r.fits) (hin : Qjb w0 r va vb) (hf : f < 18446744073709551616) :
    Calls Tryz.prog 21 #[.pointer (some ⟨gw, 0, none⟩), .agg (rcA r va vb), .int .u64 (f : Int), .int .i64 hd] w fun e w' => e = .returned (.tuple #[.int .u64 (g2.appN r f hd : Int), .int .i64 (g2.appE r f hd)]) /\ D9 w0 w' gp gt gl gr gw g1 (g2.app r f hd) /\ Qsk w w' :=
  D9.doc' h (fun a cap ms hR => rapp9_any _ w gw gr cap a ms g2 r va vb f hd hR ok hft (rck9 hin h.bel) hf)
theorem dwrite (h : D9 w0 w gp gt gl gr gw g1 g2) (ok : g1.ok) :
    Calls Tryz.prog 22 #[.pointer (some ⟨gl, 0, none⟩)] w fun e w' => e = .returned (.int .i64 0) /\ D9 w0 w' gp gt gl gr gw g1.write g2 /\ Qsk w w' :=
  D9.code h (fun F hF => write9 _ gt gl w F g1 hF ok)
theorem dwriter (h : D9 w0 w gp gt gl gr gw g1 g2) (ok : g2.ok) :
    Calls Tryz.prog 23 #[.pointer (some ⟨gw, 0, none⟩)] w fun e w' => e = .returned (.int .i64 0) /\ D9 w0 w' gp gt gl gr gw g1 g2.write /\ Qsk w w' :=
  D9.doc' h (fun a cap ms hR => (Qpp _ w gw gr cap a ms g2 hR ok).mono fun e x' hh => ⟨hh.1, a, cap, ms, hh.2.1, hh.2.2, fun k hk => .inl hk⟩)
theorem dsync (h : D9 w0 w gp gt gl gr gw g1 g2) (ok : g1.ok) :
    Calls Tryz.prog 25 #[.pointer (some ⟨gl, 0, none⟩)] w fun e w' => e = .returned (.int .i64 0) /\ D9 w0 w' gp gt gl gr gw g1.sync g2 /\ Qsk w w' :=
  D9.code h (fun F hF => sync9 _ gt gl w F g1 hF ok)
theorem dsyncr (h : D9 w0 w gp gt gl gr gw g1 g2) (ok : g2.ok) :
    Calls Tryz.prog 24 #[.pointer (some ⟨gw, 0, none⟩)] w fun e w' => e = .returned (.tuple #[]) /\ D9 w0 w' gp gt gl gr gw g1 g2.sync /\ Qsk w w' :=
  D9.doc' h (fun a cap ms hR => (Qru _ w gw gr cap a ms g2 hR ok).mono fun e x' hh => ⟨hh.1, a, cap, ms, hh.2.1, hh.2.2, fun k hk => .inl hk⟩)
theorem dtrim (h : D9 w0 w gp gt gl gr gw g1 g2) (ok : g1.ok) (n : Nat) (hn : n < 18446744073709551616) :
    Calls Tryz.prog 26 #[.pointer (some ⟨gl, 0, none⟩), .int .u64 (n : Int)] w fun e w' => e = .returned (.tuple #[.int .i64 (Qda g1.l g1.fa n : Int), .int .i64 0]) /\ D9 w0 w' gp gt gl gr gw (g1.trim n) g2 /\ Qsk w w' :=
  D9.code h (fun F hF => trim9 _ gt gl w F g1 n hF ok hn)
theorem dsee (h : D9 w0 w gp gt gl gr gw g1 g2) (ok : g1.ok) (n : Nat) (hn : n < 18446744073709551616) :
    Calls Tryz.prog 28 #[.pointer (some ⟨gl, 0, none⟩), .int .u64 (n : Int)] w fun e w' => e = .returned (.tuple #[]) /\ D9 w0 w' gp gt gl gr gw (g1.see n) g2 /\ Qsk w w' :=
  D9.code h (fun F hF => see9 _ gt gl w F g1 n hF ok hn)
theorem dtrimr (h : D9 w0 w gp gt gl gr gw g1 g2) (ok : g2.ok) (n : Nat) :
    Calls Tryz.prog 27 #[.pointer (some ⟨gw, 0, none⟩), .int .u64 (n : Int)] w fun e w' => e = .returned (.int .i64 (Qda g2.l g2.fa n : Int)) /\ D9 w0 w' gp gt gl gr gw g1 (g2.trim n) /\ Qsk w w' :=
  D9.doc' h (fun a cap ms hR => (Qqu _ w gw gr cap a ms g2 n hR ok).mono fun e x' ⟨q1, a', cap', q2, q3, q4⟩ => ⟨q1, a', cap', _, q2, q3, fun k hk => .inl (q4 k hk)⟩)
theorem dseer (h : D9 w0 w gp gt gl gr gw g1 g2) (n : Nat) :
    Calls Tryz.prog 29 #[.pointer (some ⟨gw, 1, none⟩), .int .u64 (n : Int)] w fun e w' => e = .returned (.tuple #[]) /\ D9 w0 w' gp gt gl gr gw g1 (g2.see n) /\ Qsk w w' :=
  D9.doc' h (fun a cap ms hR => (Qjj gw 1 g2.c n w (hR.log.cell 1 _ rfl) (hR.log.free 1)).mono fun e x' hh => by
    obtain ⟨q1, q2⟩ := hR.seen (c := max g2.c (min n maxL)) (hh.2.imp id (fun h => ⟨h.1, h.2⟩))
    exact ⟨hh.1, a, cap, ms, q1, q2.weak (fun k hk => .inl hk), fun k hk => .inl hk⟩)
theorem Qus {ms : List Rm} {g : Lg} (h : msR ms = g.l) (n : Nat) : (Qzp ms n).1.1 = (g.get n).1 /\ (Qzp ms n).2 = (g.get n).2 := by
  unfold Qzp Lg.get; rw [<- h]; unfold msR; rw [List.find?_map]; have e : ((fun r : Rec => decide (r.l = n)) ∘ fun x : Rm => x.1) = fun m : Rm => decide (m.1.l = n) := rfl
  rw [e]
  cases ms.find? (fun m => decide (m.1.l = n)) with
  | none => exact ⟨rfl, rfl⟩
  | some m => exact ⟨rfl, rfl⟩
end
end
theorem drecs {w0 w : World} {gp gt gl gr gw : Nat} {g : Lg} (h : D9 w0 w gp gt gl gr gw g g) (ok : g.ok) :
    Calls Tryz.prog 11 #[.pointer (some ⟨gl, 0, none⟩)] w fun e w' => (∃ a cap ms, e = .returned (.slice a ms.length cap) /\ Qlf w' (.slice a ms.length cap) ms /\ msR ms = g.l /\ ms.length <= 1000000000000) /\ Below w.heap.size w w' /\ D9 w0 w' gp gt gl gr gw g g :=
  D9.look h (fun F hF => (records9 _ gt gl w F g hF ok).mono fun e x' ⟨a, cap, ms, q1, q2, q3, q4, q5⟩ => ⟨⟨a, cap, ms, q1, q2, q3, by
    have e1 : ms.length = g.l.length := by rw [<- q3]; simp [msR]
    have := Qfb g ok
    omega⟩, q5⟩)
def cmR : Rec := ⟨3, 0, 1, 0, Ch.zero, 0, 0, 0, [], []⟩
theorem Qhs : cmR.fits := ⟨Qmh, Nat.zero_le _, Nat.zero_le _, fun x hx => (nomatch hx), fun x hx => (nomatch hx)⟩
theorem Qen (n : Nat) (h1 : 1 <= n) (h2 : n <= Qxe) : (cmR.put n).right := by
  have ek : (cmR.put n).k = 3 := rfl; have et : (cmR.put n).t = 1 := rfl; refine ⟨by rw [ek]; decide, by rw [ek]; decide, h1, h2, fun _ => ⟨by rw [et]; decide, by rw [et]; decide, h1⟩, fun h => ?_, fun h => ?_, fun _ => rfl, fun h => ?_, fun _ => rfl, fun h => ?_, fun _ => rfl, fun h => ?_, fun _ => ⟨rfl, rfl, rfl⟩⟩
  all_goals
    rw [ek] at h; exact absurd h (by decide)
theorem Qwo (n : Nat) : (Qea (cmR.put n)).length = 27 := by
  rw [Qva]; simp [Qyb, cmR, Rec.put, Qf, Qme]
theorem Qvj (w : World) : Calls Tryz.prog 15 #[] w fun e w' => e = .returned (.agg (rcA cmR (.slice none 0 0) (.slice none 0 0))) /\ Below w.heap.size w w' := by
  have HZ := Qa (And.intro (Qd.new w 34 Qr) ((Below.refl w.heap.size w).alloc (Nat.le_refl _) (.cells Qr 34))); go_enter Tryz.func15, Tryz.ntmps15; go_wp2_with (refine Qc rfl 34 (.tmp 0) (.tmp 1) rfl w.heap.size Qr (rcA cmR (.slice none 0 0) (.slice none 0 0)) rfl rfl HZ.out.1 Qj rfl (by simp [rcA, Value.oneCell']) ?_); intro w3 hr3 hk3 hrow3; have hb3 := hk3 _ _ HZ.out.2 (Nat.le_refl _); have HR := Qa (And.intro hr3 hb3); clear hr3 hk3 hrow3 hb3 HZ; go_wp2; exact bodyPost_ret (Qbe rfl _ _ w.heap.size (rcA cmR (.slice none 0 0) (.slice none 0 0)) _ rfl HR.out.1 Tryz.underlying34 rfl Qj) rfl ⟨rfl, HR.out.2⟩
theorem scan_nil9 : Qgb [] = ([], 0) := Qwt [] trivial
def aw9 : Lg := ⟨⟨⟨#[]⟩, 0, 100, 0⟩, 0, [], 0, 0, 0, 0⟩
theorem aw9_open : Lg.open (Tp.new 100) 0 = aw9 := by
  unfold Lg.open; have e : (Tp.new 100).b.data.toList = [] := rfl; rw [e, scan_nil9]; rfl
theorem aw9_app : aw9.appE cmR 0 60 = 0 := by
  unfold Lg.appE; rw [if_neg (by decide), if_neg (by decide), if_neg (fun h => h (Qen 1 (by decide) (by decide))), if_neg]; have e : aw9.num 0 = 1 := rfl; rw [e, Qwo]; decide
def aw9b : Lg := ⟨⟨⟨#[]⟩, 0, 100, 0⟩, 1, [cmR.put 1], 0, 0, 60, 0⟩
theorem aw9_two : aw9.app cmR 0 60 = aw9b /\ aw9.appN cmR 0 60 = 1 := by
  obtain ⟨h1, h2⟩ := aw9.app_yes cmR 0 60 aw9_app; rw [h1, h2]; exact ⟨rfl, rfl⟩
theorem Qon : aw9b.used = 27 := by
  have e : aw9b.used = 0 + (Qe [cmR.put 1]).length := rfl; rw [e, Qfg, Qwo]
theorem Qds : aw9b.appE cmR 0 0 = 7 := by
  unfold Lg.appE; rw [if_neg (by decide), if_neg (by decide), if_neg (fun h => h (Qen 2 (by decide) (by decide))), if_pos]; have e : aw9b.num 0 = 2 := rfl; rw [e, Qwo, Qon]; decide
theorem Quc (w : World) : Calls Tryz.prog 5 #[] w fun e w' => e = .returned (.bool true) /\ Below w.heap.size w w' := by
  go_enter Tryz.func5, Tryz.ntmps5; go_wp2_with fail; refine (knew8 100 w w (Below.refl _ _)).mono ?_; rintro e w1 ⟨rfl, h1, -⟩; have H1 := Qa h1; clear h1; go_wp2_with fail; have T := kfirst9 w w1 w.heap.size (Tp.new 100) 0 H1.out (by decide); rw [aw9_open] at T; refine T.mono ?_; rintro e w2 ⟨gl, rfl, h2⟩; have H2 := Qa h2; clear h2 T H1; go_wp2_with fail; refine (Qvj w2).mono ?_; rintro e w3 ⟨rfl, hb3⟩; have H3 := Qa (H2.out.later hb3); clear hb3 H2; go_wp2_with fail; have T := kapp9 H3.out cmR _ _ 0 60 Qhs (rckn (w := w3) rfl rfl) (by decide) (by decide); rw [aw9_two.1, aw9_two.2, aw9_app] at T; refine T.mono ?_; rintro e w4 ⟨rfl, h4⟩; have H4 := Qa h4; clear h4 T H3; go_wp2_with fail; refine (Qvj w4).mono ?_; rintro e w5 ⟨rfl, hb5⟩; have H5 := Qa (H4.out.later hb5); clear hb5 H4; go_wp2_with fail; have T := kapp9 H5.out cmR _ _ 0 0 Qhs (rckn (w := w5) rfl rfl) (by decide) (by decide); have hno := aw9b.app_no cmR 0 0 (by rw [Qds]; decide); rw [hno.1, hno.2, Qds] at T; refine T.mono ?_; rintro e w6 ⟨rfl, h6⟩; have H6 := Qa h6; clear h6 T H5 hno; go_wp2_with fail; have T := kleft9 H6.out; have e1 : (aw9b.t.m : Int) - (aw9b.used : Int) - (aw9b.hd : Int) = 13 := by rw [Qon]; rfl
  rw [e1] at T; refine T.mono ?_; rintro e w7 ⟨rfl, h7⟩; have H7 := Qa h7; clear h7 T H6 e1; go_wp2_with fail; refine (krecs9 H7.out).mono ?_; rintro e w8 ⟨ga, ns, rfl, -, h8⟩; have e2 : aw9b.l.length = 1 := rfl; rw [e2]; have H8 := Qa h8; clear h8 H7 e2; go_wp2; go_ret; exact ⟨rfl, H8.out.bel⟩
theorem wcs_cell {w : World} {a : Option Addr} {cap : Nat} {cs : List Wc} (h : Qsc wcA Wc.zero 17 w (.slice a cs.length cap) cs) (hp : 0 < cs.length) :
    ∃ b off, a = some ⟨b, off, none⟩ /\ b < w.heap.size /\ ∀ i, i < cs.length -> w.rangeAt b (off + i * 17) (wcA (cs.getD i Wc.zero)).toList := by
  obtain ⟨a', cap', e, h2⟩ := h; injection e with e1 e2 e3; subst e1; exact h2 hp
theorem rc_slices {w : World} {r : Rec} {va vb : Value} (h : Qjb w r va vb) : ∃ a c b d, va = .slice a r.ts.length c /\ vb = .slice b r.ds.length d := by
  obtain ⟨⟨a, c, e1, _⟩, ⟨b, d, e2, _⟩⟩ := h; exact ⟨a, c, b, d, e1, e2⟩
theorem few9_long (a : Option Addr) (len cap : Nat) (w : World) (h : 100 < len) :
    Calls Tryz.prog 6 #[.slice a len cap] w fun e w' => e = .returned (.bool false) /\ w = w' := by
  have h1 : (100 : Int) < (len : Int) := by omega
  go_enter Tryz.func6, Tryz.ntmps6; go_wp2; go_ret; exact ⟨rfl, rfl⟩
def Few9 (cs : List Wc) (w : World) (e : Ending) (w' : World) : Prop := ∃ q, e = .returned (.bool q) /\ ((q = true -> cs.length <= 100 /\ ∀ i, i < cs.length -> (cs.getD i Wc.zero).m.1.ts.length <= 100 /\ (cs.getD i Wc.zero).m.1.ds.length <= 100) /\ ((cs.length <= 100 /\ ∀ i, i < cs.length -> (cs.getD i Wc.zero).m.1.ts.length <= 100 /\ (cs.getD i Wc.zero).m.1.ds.length <= 100) -> q = true)) /\ w = w'
theorem Qjs (v : Value) (cs : List Wc) (w : World) (h : Qsc wcA Wc.zero 17 w v cs) (hr : ∀ c ∈ cs, Qjb w c.m.1 c.m.2.1 c.m.2.2) (hc : ∀ a len cap, v = .slice a len cap -> len <= cap) :
    Calls Tryz.prog 6 #[v] w (Few9 cs w) := by
  have h' := h; obtain ⟨a, cap, rfl, -⟩ := h'; have hcap := hc _ _ _ rfl
  by_cases hl : 100 < cs.length
  · exact (few9_long a cs.length cap w hl).mono fun e w' he => ⟨false, he.1, ⟨fun h => (nomatch h), fun hq => absurd hq.1 (by omega)⟩, he.2⟩
  have h1 : ¬ (100 : Int) < (cs.length : Int) := by omega
  have HC := Qa (wcs_cell h)
  have HRR := Qa (fun i (hi : i < cs.length) => rc_slices (hr (cs.getD i Wc.zero) (by
    rw [List.getD_eq_getElem?_getD, List.getElem?_eq_getElem hi]
    exact List.getElem_mem hi)))
  obtain ⟨ln, hln⟩ : ∃ ln, cs.length = ln := ⟨_, rfl⟩; rw [hln] at HC HRR h1 hl hcap |-; have HLN := Qa hln; clear h hc hln hr; go_enter Tryz.func6, Tryz.ntmps6; go_wp2; go_loopw [9] (fun i wr => ∃ j : Nat, j <= ln /\ i = .int .i64 j /\ w = wr /\ ∀ i, i < j -> (cs.getD i Wc.zero).m.1.ts.length <= 100 /\ (cs.getD i Wc.zero).m.1.ds.length <= 100) (fun i _ => ln - (intOf i).toNat)
  case atStart => exact ⟨0, Nat.zero_le _, rfl, rfl, fun i hi => absurd hi (Nat.not_lt_zero _)⟩
  case round =>
    obtain ⟨j, hj, rfl, rfl, hall⟩ := hrel
    by_cases hlt : j < ln
    · obtain ⟨b, off, rfl, -, hcell⟩ := HC.out (by omega); obtain ⟨a1, c1, a2, c2, ht, hd⟩ := HRR.out j hlt; have d1 := hcell j hlt 13 _ rfl; have d2 := hcell j hlt 14 _ rfl; rw [ht] at d1; rw [hd] at d2; have hjc : (j : Int) < (ln : Int) := by omega
      have HA := Qa hall; clear hcell HC hall HRR ht hd; obtain ⟨T, hT⟩ : ∃ T, T = (cs.getD j Wc.zero).m.1.ts.length := ⟨_, rfl⟩; obtain ⟨D, hD⟩ : ∃ D, D = (cs.getD j Wc.zero).m.1.ds.length := ⟨_, rfl⟩; rw [<- hT] at d1; rw [<- hD] at d2; have HT := Qa (And.intro hT hD); clear hT hD
      by_cases hs : T <= 100 /\ D <= 100
      · have hs1 : ¬ (100 : Int) < (T : Int) := by omega
        have hs2 : ¬ (100 : Int) < (D : Int) := by omega
        clear hs; go_wp2; go_roundw
        case rel =>
          refine ⟨j + 1, by omega, by go_num, by first | rfl | trivial, fun i hi => ?_⟩
          by_cases e : i = j
          · rw [e, <- HT.out.1, <- HT.out.2]; omega
          · exact HA.out i (by omega)
        case measure => simp [intOf]; omega
      · by_cases hs1 : (100 : Int) < (T : Int)
        · clear hs; go_wp2; go_ret; exact ⟨false, rfl, ⟨fun h => (nomatch h), fun hq => absurd (hq.2 j (by have := HLN.out; omega)) (by rw [<- HT.out.1, <- HT.out.2]; omega)⟩, rfl⟩
        · have hs2 : (100 : Int) < (D : Int) := by omega
          clear hs; go_wp2; go_ret; exact ⟨false, rfl, ⟨fun h => (nomatch h), fun hq => absurd (hq.2 j (by have := HLN.out; omega)) (by rw [<- HT.out.1, <- HT.out.2]; omega)⟩, rfl⟩
    · obtain rfl : j = ln := by omega
      go_wp2; go_ret; exact ⟨true, rfl, ⟨fun _ => ⟨by have := HLN.out; omega, fun i hi => hall i (by have := HLN.out; omega)⟩, fun _ => rfl⟩, rfl⟩
theorem few9_yes (v : Value) (cs : List Wc) (w : World) (h : Qsc wcA Wc.zero 17 w v cs) (hr : ∀ c ∈ cs, Qjb w c.m.1 c.m.2.1 c.m.2.2) (hc : ∀ a len cap, v = .slice a len cap -> len <= cap) (hq : cs.length <= 100 /\ ∀ i, i < cs.length -> (cs.getD i Wc.zero).m.1.ts.length <= 100 /\ (cs.getD i Wc.zero).m.1.ds.length <= 100) :
    Calls Tryz.prog 6 #[v] w fun e w' => e = .returned (.bool true) /\ w = w' := (Qjs v cs w h hr hc).mono fun e w' ⟨q, h1, h2, h3⟩ => by
  rw [h2.2 hq] at h1; exact ⟨h1, h3⟩
theorem infoWc : (Tryz.prog.info? 36).map (·.size) = some 17 := by kernel_rfl
theorem load_wc (y : World) (b k : Nat) (c : Wc) (h : y.rangeAt b k (wcA c).toList) : (Instr.loadAt 36 (.pointer (some ⟨b, k, none⟩))).run Tryz.prog y = .ok (.agg (wcA c)) y := by
  have h1 := run_loadAt_mid (P := Tryz.prog) y b k 36 (wcA c).toList _ h Tryz.underlying36 rfl (by rw [infoWc]; rfl); rwa [Array.toArray_toList] at h1
structure Scr (w0 : World) (v : Value) (cs : List Wc) : Prop where
  rows : Qsc wcA Wc.zero 17 w0 v cs
  fits : ∀ c ∈ cs, c.fits /\ Qjb w0 c.m.1 c.m.2.1 c.m.2.2
  cap : ∀ a len cap, v = .slice a len cap -> len <= cap
theorem Scr.at {w0 x : World} {a : Option Addr} {len cap : Nat} {cs : List Wc} (h : Scr w0 (.slice a len cap) cs) (p : Below w0.heap.size w0 x) {j : Nat} (hj : j < cs.length) : ∃ b off, a = some ⟨b, off, none⟩ /\ (Instr.loadAt 36 (.pointer (some ⟨b, off + j * 17, none⟩))).run Tryz.prog x = .ok (.agg (wcA (cs.getD j Wc.zero))) x /\ (cs.getD j Wc.zero).fits /\ Qjb w0 (cs.getD j Wc.zero).m.1 (cs.getD j Wc.zero).m.2.1 (cs.getD j Wc.zero).m.2.2 := by
  obtain ⟨a', cap', e, h2⟩ := h.rows; injection e with e1 e2 e3; subst e1; obtain ⟨b, off, h3, h4, h5⟩ := h2 (by omega)
  have hm : cs.getD j Wc.zero ∈ cs := by
    rw [List.getD_eq_getElem?_getD, List.getElem?_eq_getElem hj]; exact List.getElem_mem hj
  exact ⟨b, off, h3, load_wc x b _ _ (Qma (h5 j hj) p h4), h.fits _ hm⟩
theorem Qmg {n : Nat} (h : (Lit.int .u64 (n : Int)).wf = true) : n < 18446744073709551616 := by
  have := (bounds_u64 h).2; omega
theorem Scr.later {w0 x : World} {v : Value} {cs : List Wc} (h : Scr w0 v cs) (p : Below w0.heap.size w0 x) : Scr x v cs :=
  ⟨h.rows.below p, fun c hc => ⟨(h.fits c hc).1, (h.fits c hc).2.below p⟩, h.cap⟩
theorem Qbs (v : Value) (cs : List Wc) (w : World) (hs : Scr w v cs) :
    (cs.length <= 100 /\ ∀ x, Below w.heap.size w x -> Calls Tryz.prog 6 #[v] x (fun e w' => e = .returned (.bool true) /\ x = w')) ∨ (∀ x, Below w.heap.size w x -> Calls Tryz.prog 6 #[v] x (fun e w' => e = .returned (.bool false) /\ x = w')) := by
  by_cases hq : cs.length <= 100 /\ ∀ i, i < cs.length -> (cs.getD i Wc.zero).m.1.ts.length <= 100 /\ (cs.getD i Wc.zero).m.1.ds.length <= 100
  · exact .inl ⟨hq.1, fun x p => few9_yes v cs x (hs.later p).rows (fun c hc => ((hs.later p).fits c hc).2) hs.cap hq⟩
  · exact .inr fun x p => (Qjs v cs x (hs.later p).rows (fun c hc => ((hs.later p).fits c hc).2) hs.cap).mono fun e w' ⟨q, h1, h2, h3⟩ => by
      cases q with
      | false => exact ⟨h1, h3⟩
      | true => exact absurd (h2.1 rfl) hq
section
def Qwe (w0 : World) (gp gt gr : Nat) (e : Ending) (w' : World) : Prop := e = .returned (.bool true) /\ ∃ gl gw g, g.ok /\ D9 w0 w' gp gt gl gr gw g g
section
variable {w0 : World} {gp gt gl gr gw : Nat} {g : Lg}
theorem does_1 (w : World) (c : Wc) (h : D9 w0 w gp gt gl gr gw g g) (ok : g.ok) (hf : c.fits) (hin : Qjb w0 c.m.1 c.m.2.1 c.m.2.2) (hk : c.k = 1) :
    Calls Tryz.prog 8 #[.pointer (some ⟨gp, 0, none⟩), .agg (wcA c)] w (Qwe w0 gp gt gr) := by
  have hb0 : Below w.heap.size w (w.alloc (.cells (wcA c) 36)) := (Below.refl _ _).alloc (Nat.le_refl _) _; obtain ⟨go, hgo⟩ : ∃ go, go = w.heap.size := ⟨_, rfl⟩; have H0 := Qa (show D9 w0 (w.alloc (.cells (wcA c) 36)) gp gt gl gr gw g g /\ Qd (w.alloc (.cells (wcA c) 36)) go 36 (wcA c) from ⟨D9.later h hb0, by rw [hgo]; exact Qd.new w _ _⟩); obtain ⟨⟨a1, c1, e1⟩, a2, c2, e2⟩ := Qdb hin; have HN := Qa (Qmg hf.2.1); have HFT := Qa (And.intro hf hin); have HE := Qa (And.intro e1 e2); have HOK := Qa ok; have z0 := H0.out.2.cell 0 (.int .i64 c.k) rfl; rw [hgo] at z0; have HGO := Qa hgo; clear hb0 h ok hf hin e1 e2 hgo; rw [hk] at z0; go_enter Tryz.func8, Tryz.ntmps8; go_wp2_with fail; rw [<- HGO.out]; refine Qde (fun y => Hid (D9 w0 y gp gt gl gr gw g g /\ Qd y go 36 (wcA c))) H0 ?_; clear H0 z0; intro y H0
  have HRW : Hid (∀ x, Qd x go 36 (wcA c) -> Qd x go 36 #[.int .i64 c.k, .int .i64 c.m.1.k, .int .u64 (c.m.1.l : Int), .int .i64 c.m.1.t, .int .u64 (c.m.1.p : Int), .int .i64 c.m.1.c.k, .int .i64 c.m.1.c.pg, .int .i64 c.m.1.c.sl, .string c.m.1.c.o, .string c.m.1.c.n, .int .u64 (c.m.1.n : Int), .int .i64 c.m.1.s, .int .u64 (c.m.1.b : Int), .slice a1 c.m.1.ts.length c1, .slice a2 c.m.1.ds.length c2, .int .u64 (c.n : Int), .int .i64 c.h]) := Qa (fun x hx => by
    unfold wcA at hx; rw [HE.out.1, HE.out.2] at hx
    exact hx)
  have HA1 : Hid (∀ x (g1 g2 : Lg), g1.ok -> D9 w0 x gp gt gl gr gw g1 g2 -> Calls Tryz.prog 14 #[.pointer (some ⟨gl, 0, none⟩), .agg #[.int .i64 c.m.1.k, .int .u64 (c.m.1.l : Int), .int .i64 c.m.1.t, .int .u64 (c.m.1.p : Int), .int .i64 c.m.1.c.k, .int .i64 c.m.1.c.pg, .int .i64 c.m.1.c.sl, .string c.m.1.c.o, .string c.m.1.c.n, .int .u64 (c.m.1.n : Int), .int .i64 c.m.1.s, .int .u64 (c.m.1.b : Int), .slice a1 c.m.1.ts.length c1, .slice a2 c.m.1.ds.length c2], .int .u64 (c.n : Int), .int .i64 c.h] x fun e x' => e = .returned (.tuple #[.int .u64 (g1.appN c.m.1 c.n c.h : Int), .int .i64 (g1.appE c.m.1 c.n c.h)]) /\ D9 w0 x' gp gt gl gr gw (g1.app c.m.1 c.n c.h) g2 /\ Qsk x x') := Qa (fun x g1 g2 o1 hx => by
    have T := dapp hx o1 c.m.1 c.m.2.1 c.m.2.2 c.n c.h HFT.out.1.2.2.2 HFT.out.2 HN.out HFT.out.1.2.2.1; rw [HE.out.1, HE.out.2] at T
    exact T)
  have HA2 : Hid (∀ x (g1 g2 : Lg), g2.ok -> D9 w0 x gp gt gl gr gw g1 g2 -> Calls Tryz.prog 21 #[.pointer (some ⟨gw, 0, none⟩), .agg #[.int .i64 c.m.1.k, .int .u64 (c.m.1.l : Int), .int .i64 c.m.1.t, .int .u64 (c.m.1.p : Int), .int .i64 c.m.1.c.k, .int .i64 c.m.1.c.pg, .int .i64 c.m.1.c.sl, .string c.m.1.c.o, .string c.m.1.c.n, .int .u64 (c.m.1.n : Int), .int .i64 c.m.1.s, .int .u64 (c.m.1.b : Int), .slice a1 c.m.1.ts.length c1, .slice a2 c.m.1.ds.length c2], .int .u64 (c.n : Int), .int .i64 c.h] x fun e x' => e = .returned (.tuple #[.int .u64 (g2.appN c.m.1 c.n c.h : Int), .int .i64 (g2.appE c.m.1 c.n c.h)]) /\ D9 w0 x' gp gt gl gr gw g1 (g2.app c.m.1 c.n c.h) /\ Qsk x x') := Qa (fun x g1 g2 o1 hx => by
    have T := dappr hx o1 c.m.1 c.m.2.1 c.m.2.2 c.n c.h HFT.out.1.2.2.2 HFT.out.2 HN.out; rw [HE.out.1, HE.out.2] at T
    exact T)
  have HR := Qa (HRW.out y H0.out.2); have z1 := HR.out.cell 1 (.int .i64 c.m.1.k) rfl; have z2 := HR.out.cell 2 (.int .u64 (c.m.1.l : Int)) rfl; have z3 := HR.out.cell 3 (.int .i64 c.m.1.t) rfl; have z4 := HR.out.cell 4 (.int .u64 (c.m.1.p : Int)) rfl; have z5 := HR.out.cell 5 (.int .i64 c.m.1.c.k) rfl; have z6 := HR.out.cell 6 (.int .i64 c.m.1.c.pg) rfl; have z7 := HR.out.cell 7 (.int .i64 c.m.1.c.sl) rfl; have z8 := HR.out.cell 8 (.string c.m.1.c.o) rfl; have z9 := HR.out.cell 9 (.string c.m.1.c.n) rfl; have z10 := HR.out.cell 10 (.int .u64 (c.m.1.n : Int)) rfl; have z11 := HR.out.cell 11 (.int .i64 c.m.1.s) rfl; have z12 := HR.out.cell 12 (.int .u64 (c.m.1.b : Int)) rfl; have z13 := HR.out.cell 13 (.slice a1 c.m.1.ts.length c1) rfl; have z14 := HR.out.cell 14 (.slice a2 c.m.1.ds.length c2) rfl; have z15 := HR.out.cell 15 (.int .u64 (c.n : Int)) rfl; have z16 := HR.out.cell 16 (.int .i64 c.h) rfl; have y1 := D9.p1 H0.out.1
  go_region_held3 (fun x => x.cell? ⟨gp, 1, none⟩ = some (.pointer (some ⟨gl, 0, none⟩)) /\ x.cell? ⟨go, 1, none⟩ = some (.int .i64 c.m.1.k) /\ x.cell? ⟨go, 2, none⟩ = some (.int .u64 (c.m.1.l : Int)) /\ x.cell? ⟨go, 3, none⟩ = some (.int .i64 c.m.1.t) /\ x.cell? ⟨go, 4, none⟩ = some (.int .u64 (c.m.1.p : Int)) /\ x.cell? ⟨go, 5, none⟩ = some (.int .i64 c.m.1.c.k) /\ x.cell? ⟨go, 6, none⟩ = some (.int .i64 c.m.1.c.pg) /\ x.cell? ⟨go, 7, none⟩ = some (.int .i64 c.m.1.c.sl) /\ x.cell? ⟨go, 8, none⟩ = some (.string c.m.1.c.o) /\ x.cell? ⟨go, 9, none⟩ = some (.string c.m.1.c.n) /\ x.cell? ⟨go, 10, none⟩ = some (.int .u64 (c.m.1.n : Int)) /\ x.cell? ⟨go, 11, none⟩ = some (.int .i64 c.m.1.s) /\ x.cell? ⟨go, 12, none⟩ = some (.int .u64 (c.m.1.b : Int)) /\ x.cell? ⟨go, 13, none⟩ = some (.slice a1 c.m.1.ts.length c1) /\ x.cell? ⟨go, 14, none⟩ = some (.slice a2 c.m.1.ds.length c2) /\ x.cell? ⟨go, 15, none⟩ = some (.int .u64 (c.n : Int)) /\ x.cell? ⟨go, 16, none⟩ = some (.int .i64 c.h)) (go_keep)
    (first | (go_at_call 14; with_reducible refine (HA1.out _ g g HOK.out (D9.drew H0.out.1)).mono ?_; rintro e w1 ⟨rfl, h1, s1⟩; have R1 := HRW.out w1 (s1.dr H0.out.2); have z1 := R1.cell 1 (.int .i64 c.m.1.k) rfl; have z2 := R1.cell 2 (.int .u64 (c.m.1.l : Int)) rfl; have z3 := R1.cell 3 (.int .i64 c.m.1.t) rfl; have z4 := R1.cell 4 (.int .u64 (c.m.1.p : Int)) rfl; have z5 := R1.cell 5 (.int .i64 c.m.1.c.k) rfl; have z6 := R1.cell 6 (.int .i64 c.m.1.c.pg) rfl; have z7 := R1.cell 7 (.int .i64 c.m.1.c.sl) rfl; have z8 := R1.cell 8 (.string c.m.1.c.o) rfl; have z9 := R1.cell 9 (.string c.m.1.c.n) rfl; have z10 := R1.cell 10 (.int .u64 (c.m.1.n : Int)) rfl; have z11 := R1.cell 11 (.int .i64 c.m.1.s) rfl; have z12 := R1.cell 12 (.int .u64 (c.m.1.b : Int)) rfl; have z13 := R1.cell 13 (.slice a1 c.m.1.ts.length c1) rfl; have z14 := R1.cell 14 (.slice a2 c.m.1.ds.length c2) rfl; have z15 := R1.cell 15 (.int .u64 (c.n : Int)) rfl; have z16 := R1.cell 16 (.int .i64 c.h) rfl; have y1 := D9.p1 h1))
  have H1 := Qa (And.intro h1 (s1.dr H0.out.2)); have HOK1 := Qa (g.app_ok HOK.out c.m.1 c.n c.h); clear h1 s1 HA1 H0 HR; have y3 := D9.p3 H1.out.1; clear y1; have T2 := Qa (fun x (hx : D9 w0 x gp gt gl gr gw (g.app c.m.1 c.n c.h) g) => HA2.out x (g.app c.m.1 c.n c.h) g HOK.out hx); clear HA2; generalize g.app c.m.1 c.n c.h = g' at *; generalize g.appN c.m.1 c.n c.h = N1 at *; generalize g.appE c.m.1 c.n c.h = E1 at *; go_wp2_with fail
  go_region_held3 (fun x => x.cell? ⟨gp, 3, none⟩ = some (.pointer (some ⟨gw, 0, none⟩)) /\ x.cell? ⟨go, 1, none⟩ = some (.int .i64 c.m.1.k) /\ x.cell? ⟨go, 2, none⟩ = some (.int .u64 (c.m.1.l : Int)) /\ x.cell? ⟨go, 3, none⟩ = some (.int .i64 c.m.1.t) /\ x.cell? ⟨go, 4, none⟩ = some (.int .u64 (c.m.1.p : Int)) /\ x.cell? ⟨go, 5, none⟩ = some (.int .i64 c.m.1.c.k) /\ x.cell? ⟨go, 6, none⟩ = some (.int .i64 c.m.1.c.pg) /\ x.cell? ⟨go, 7, none⟩ = some (.int .i64 c.m.1.c.sl) /\ x.cell? ⟨go, 8, none⟩ = some (.string c.m.1.c.o) /\ x.cell? ⟨go, 9, none⟩ = some (.string c.m.1.c.n) /\ x.cell? ⟨go, 10, none⟩ = some (.int .u64 (c.m.1.n : Int)) /\ x.cell? ⟨go, 11, none⟩ = some (.int .i64 c.m.1.s) /\ x.cell? ⟨go, 12, none⟩ = some (.int .u64 (c.m.1.b : Int)) /\ x.cell? ⟨go, 13, none⟩ = some (.slice a1 c.m.1.ts.length c1) /\ x.cell? ⟨go, 14, none⟩ = some (.slice a2 c.m.1.ds.length c2) /\ x.cell? ⟨go, 15, none⟩ = some (.int .u64 (c.n : Int)) /\ x.cell? ⟨go, 16, none⟩ = some (.int .i64 c.h)) (go_keep)
    (first | (go_at_call 21; with_reducible refine (T2.out _ (D9.drew H1.out.1)).mono ?_; rintro e w2 ⟨rfl, h2, s2⟩; have R2 := HRW.out w2 (s2.dr H1.out.2); have z1 := R2.cell 1 (.int .i64 c.m.1.k) rfl; have z2 := R2.cell 2 (.int .u64 (c.m.1.l : Int)) rfl; have z3 := R2.cell 3 (.int .i64 c.m.1.t) rfl; have z4 := R2.cell 4 (.int .u64 (c.m.1.p : Int)) rfl; have z5 := R2.cell 5 (.int .i64 c.m.1.c.k) rfl; have z6 := R2.cell 6 (.int .i64 c.m.1.c.pg) rfl; have z7 := R2.cell 7 (.int .i64 c.m.1.c.sl) rfl; have z8 := R2.cell 8 (.string c.m.1.c.o) rfl; have z9 := R2.cell 9 (.string c.m.1.c.n) rfl; have z10 := R2.cell 10 (.int .u64 (c.m.1.n : Int)) rfl; have z11 := R2.cell 11 (.int .i64 c.m.1.s) rfl; have z12 := R2.cell 12 (.int .u64 (c.m.1.b : Int)) rfl; have z13 := R2.cell 13 (.slice a1 c.m.1.ts.length c1) rfl; have z14 := R2.cell 14 (.slice a2 c.m.1.ds.length c2) rfl; have z15 := R2.cell 15 (.int .u64 (c.n : Int)) rfl; have z16 := R2.cell 16 (.int .i64 c.h) rfl; have y3 := D9.p3 h2))
  have H2 := Qa h2; clear h2 s2 T2 H1 R1 R2 z1 z2 z3 z4 z5 z6 z7 z8 z9 z10 z11 z12 z13 z14 z15 z16 y3; go_wp2; go_ret; exact ⟨rfl, gl, gw, g', HOK1.out, H2.out⟩
theorem does_2 (w : World) (c : Wc) (h : D9 w0 w gp gt gl gr gw g g) (ok : g.ok) (hf : c.fits) (hin : Qjb w0 c.m.1 c.m.2.1 c.m.2.2) (hk : c.k = 2) :
    Calls Tryz.prog 8 #[.pointer (some ⟨gp, 0, none⟩), .agg (wcA c)] w (Qwe w0 gp gt gr) := by
  have hb0 : Below w.heap.size w (w.alloc (.cells (wcA c) 36)) := (Below.refl _ _).alloc (Nat.le_refl _) _; obtain ⟨go, hgo⟩ : ∃ go, go = w.heap.size := ⟨_, rfl⟩; have H0 := Qa (show D9 w0 (w.alloc (.cells (wcA c) 36)) gp gt gl gr gw g g /\ Qd (w.alloc (.cells (wcA c) 36)) go 36 (wcA c) from ⟨D9.later h hb0, by rw [hgo]; exact Qd.new w _ _⟩); obtain ⟨⟨a1, c1, e1⟩, a2, c2, e2⟩ := Qdb hin; have HN := Qa (Qmg hf.2.1); have HFT := Qa (And.intro hf hin); have HE := Qa (And.intro e1 e2); have HOK := Qa ok; have z0 := H0.out.2.cell 0 (.int .i64 c.k) rfl; rw [hgo] at z0; have HGO := Qa hgo; clear hb0 h ok hf hin e1 e2 hgo; rw [hk] at z0; go_enter Tryz.func8, Tryz.ntmps8; go_wp2_with fail; rw [<- HGO.out]; refine Qde (fun y => Hid (D9 w0 y gp gt gl gr gw g g /\ Qd y go 36 (wcA c))) H0 ?_; clear H0 z0; intro y H0
  have HRW : Hid (∀ x, Qd x go 36 (wcA c) -> Qd x go 36 #[.int .i64 c.k, .int .i64 c.m.1.k, .int .u64 (c.m.1.l : Int), .int .i64 c.m.1.t, .int .u64 (c.m.1.p : Int), .int .i64 c.m.1.c.k, .int .i64 c.m.1.c.pg, .int .i64 c.m.1.c.sl, .string c.m.1.c.o, .string c.m.1.c.n, .int .u64 (c.m.1.n : Int), .int .i64 c.m.1.s, .int .u64 (c.m.1.b : Int), .slice a1 c.m.1.ts.length c1, .slice a2 c.m.1.ds.length c2, .int .u64 (c.n : Int), .int .i64 c.h]) := Qa (fun x hx => by
    unfold wcA at hx; rw [HE.out.1, HE.out.2] at hx
    exact hx)
  have y1 := D9.p1 H0.out.1; have y3 := D9.p3 H0.out.1
  go_region_held3 (fun x => x.cell? ⟨gp, 1, none⟩ = some (.pointer (some ⟨gl, 0, none⟩)) /\ x.cell? ⟨gp, 3, none⟩ = some (.pointer (some ⟨gw, 0, none⟩))) (go_keep)
    (first
      | (go_at_call 22; with_reducible refine (dwrite (D9.drew H0.out.1) HOK.out).mono ?_; rintro e w1 ⟨rfl, h1, s1⟩; have y1 := D9.p1 h1; have y3 := D9.p3 h1)
      | (go_at_call 23; with_reducible refine (dwriter h1 HOK.out).mono ?_; rintro e w2 ⟨rfl, h2, s2⟩; have y1 := D9.p1 h2; have y3 := D9.p3 h2))
  have H2 := Qa h2; clear h1 s1 h2 s2 H0 y1 y3; go_wp2; go_ret; exact ⟨rfl, gl, gw, g.write, g.write_ok HOK.out, H2.out⟩
theorem does_3 (w : World) (c : Wc) (h : D9 w0 w gp gt gl gr gw g g) (ok : g.ok) (hf : c.fits) (hin : Qjb w0 c.m.1 c.m.2.1 c.m.2.2) (hk : c.k = 3) :
    Calls Tryz.prog 8 #[.pointer (some ⟨gp, 0, none⟩), .agg (wcA c)] w (Qwe w0 gp gt gr) := by
  have hb0 : Below w.heap.size w (w.alloc (.cells (wcA c) 36)) := (Below.refl _ _).alloc (Nat.le_refl _) _; obtain ⟨go, hgo⟩ : ∃ go, go = w.heap.size := ⟨_, rfl⟩; have H0 := Qa (show D9 w0 (w.alloc (.cells (wcA c) 36)) gp gt gl gr gw g g /\ Qd (w.alloc (.cells (wcA c) 36)) go 36 (wcA c) from ⟨D9.later h hb0, by rw [hgo]; exact Qd.new w _ _⟩); obtain ⟨⟨a1, c1, e1⟩, a2, c2, e2⟩ := Qdb hin; have HN := Qa (Qmg hf.2.1); have HFT := Qa (And.intro hf hin); have HE := Qa (And.intro e1 e2); have HOK := Qa ok; have z0 := H0.out.2.cell 0 (.int .i64 c.k) rfl; rw [hgo] at z0; have HGO := Qa hgo; clear hb0 h ok hf hin e1 e2 hgo; rw [hk] at z0; have y3 := D9.p3 H0.out.1; go_enter Tryz.func8, Tryz.ntmps8; go_wp2_with fail; rw [<- HGO.out]; refine Qk (fun y => Hid (D9 w0 y gp gt gl gr gw g g /\ Qd y go 36 (wcA c))) H0 ?_; clear H0 z0 y3; intro y H0
  have HRW : Hid (∀ x, Qd x go 36 (wcA c) -> Qd x go 36 #[.int .i64 c.k, .int .i64 c.m.1.k, .int .u64 (c.m.1.l : Int), .int .i64 c.m.1.t, .int .u64 (c.m.1.p : Int), .int .i64 c.m.1.c.k, .int .i64 c.m.1.c.pg, .int .i64 c.m.1.c.sl, .string c.m.1.c.o, .string c.m.1.c.n, .int .u64 (c.m.1.n : Int), .int .i64 c.m.1.s, .int .u64 (c.m.1.b : Int), .slice a1 c.m.1.ts.length c1, .slice a2 c.m.1.ds.length c2, .int .u64 (c.n : Int), .int .i64 c.h]) := Qa (fun x hx => by
    unfold wcA at hx; rw [HE.out.1, HE.out.2] at hx
    exact hx)
  refine (dsyncr H0.out.1 HOK.out).mono ?_; rintro e w1 ⟨rfl, h1, s1⟩; have H1 := Qa h1; have y1 := D9.p1 h1; clear h1 s1 H0; go_wp2_with fail; refine (dsync H1.out HOK.out).mono ?_; rintro e w2 ⟨rfl, h2, s2⟩; have H2 := Qa h2; clear h2 s2 H1 y1; go_wp2; go_ret; exact ⟨rfl, gl, gw, g.sync, g.sync_ok HOK.out, H2.out⟩
theorem does_4 (w : World) (c : Wc) (h : D9 w0 w gp gt gl gr gw g g) (ok : g.ok) (hf : c.fits) (hin : Qjb w0 c.m.1 c.m.2.1 c.m.2.2) (hk : c.k = 4) :
    Calls Tryz.prog 8 #[.pointer (some ⟨gp, 0, none⟩), .agg (wcA c)] w (Qwe w0 gp gt gr) := by
  have hb0 : Below w.heap.size w (w.alloc (.cells (wcA c) 36)) := (Below.refl _ _).alloc (Nat.le_refl _) _; obtain ⟨go, hgo⟩ : ∃ go, go = w.heap.size := ⟨_, rfl⟩; have H0 := Qa (show D9 w0 (w.alloc (.cells (wcA c) 36)) gp gt gl gr gw g g /\ Qd (w.alloc (.cells (wcA c) 36)) go 36 (wcA c) from ⟨D9.later h hb0, by rw [hgo]; exact Qd.new w _ _⟩); obtain ⟨⟨a1, c1, e1⟩, a2, c2, e2⟩ := Qdb hin; have HN := Qa (Qmg hf.2.1); have HFT := Qa (And.intro hf hin); have HE := Qa (And.intro e1 e2); have HOK := Qa ok; have z0 := H0.out.2.cell 0 (.int .i64 c.k) rfl; rw [hgo] at z0; have HGO := Qa hgo; clear hb0 h ok hf hin e1 e2 hgo; rw [hk] at z0; go_enter Tryz.func8, Tryz.ntmps8; go_wp2_with fail; rw [<- HGO.out]; refine Qde (fun y => Hid (D9 w0 y gp gt gl gr gw g g /\ Qd y go 36 (wcA c))) H0 ?_; clear H0 z0; intro y H0
  have HRW : Hid (∀ x, Qd x go 36 (wcA c) -> Qd x go 36 #[.int .i64 c.k, .int .i64 c.m.1.k, .int .u64 (c.m.1.l : Int), .int .i64 c.m.1.t, .int .u64 (c.m.1.p : Int), .int .i64 c.m.1.c.k, .int .i64 c.m.1.c.pg, .int .i64 c.m.1.c.sl, .string c.m.1.c.o, .string c.m.1.c.n, .int .u64 (c.m.1.n : Int), .int .i64 c.m.1.s, .int .u64 (c.m.1.b : Int), .slice a1 c.m.1.ts.length c1, .slice a2 c.m.1.ds.length c2, .int .u64 (c.n : Int), .int .i64 c.h]) := Qa (fun x hx => by
    unfold wcA at hx; rw [HE.out.1, HE.out.2] at hx
    exact hx)
  have HR := Qa (HRW.out y H0.out.2); have z15 := HR.out.cell 15 (.int .u64 (c.n : Int)) rfl; have y1 := D9.p1 H0.out.1
  go_region_held3 (fun x => x.cell? ⟨gp, 1, none⟩ = some (.pointer (some ⟨gl, 0, none⟩)) /\ x.cell? ⟨go, 15, none⟩ = some (.int .u64 (c.n : Int))) (go_keep)
    (first | (go_at_call 26; with_reducible refine (dtrim (D9.drew H0.out.1) HOK.out c.n HN.out).mono ?_; rintro e w1 ⟨rfl, h1, s1⟩; have R1 := HRW.out w1 (s1.dr H0.out.2); have z15 := R1.cell 15 (.int .u64 (c.n : Int)) rfl; have y1 := D9.p1 h1))
  have H1 := Qa (And.intro h1 (s1.dr H0.out.2)); clear h1 s1 H0 HR y1; have y3 := D9.p3 H1.out.1; go_wp2_with fail
  go_region_held3 (fun x => x.cell? ⟨gp, 3, none⟩ = some (.pointer (some ⟨gw, 0, none⟩)) /\ x.cell? ⟨go, 15, none⟩ = some (.int .u64 (c.n : Int))) (go_keep)
    (first | (go_at_call 27; with_reducible refine (dtrimr (D9.drew H1.out.1) HOK.out c.n).mono ?_; rintro e w2 ⟨rfl, h2, s2⟩; have R2 := HRW.out w2 (s2.dr H1.out.2); have z15 := R2.cell 15 (.int .u64 (c.n : Int)) rfl; have y3 := D9.p3 h2))
  have H2 := Qa h2; clear h2 s2 H1 R1 R2 z15 y3; go_wp2; go_ret; exact ⟨rfl, gl, gw, g.trim c.n, g.trim_ok HOK.out c.n, H2.out⟩
theorem does_5 (w : World) (c : Wc) (h : D9 w0 w gp gt gl gr gw g g) (ok : g.ok) (hf : c.fits) (hin : Qjb w0 c.m.1 c.m.2.1 c.m.2.2) (hk : c.k = 5) :
    Calls Tryz.prog 8 #[.pointer (some ⟨gp, 0, none⟩), .agg (wcA c)] w (Qwe w0 gp gt gr) := by
  have hb0 : Below w.heap.size w (w.alloc (.cells (wcA c) 36)) := (Below.refl _ _).alloc (Nat.le_refl _) _; obtain ⟨go, hgo⟩ : ∃ go, go = w.heap.size := ⟨_, rfl⟩; have H0 := Qa (show D9 w0 (w.alloc (.cells (wcA c) 36)) gp gt gl gr gw g g /\ Qd (w.alloc (.cells (wcA c) 36)) go 36 (wcA c) from ⟨D9.later h hb0, by rw [hgo]; exact Qd.new w _ _⟩); obtain ⟨⟨a1, c1, e1⟩, a2, c2, e2⟩ := Qdb hin; have HN := Qa (Qmg hf.2.1); have HFT := Qa (And.intro hf hin); have HE := Qa (And.intro e1 e2); have HOK := Qa ok; have z0 := H0.out.2.cell 0 (.int .i64 c.k) rfl; rw [hgo] at z0; have HGO := Qa hgo; clear hb0 h ok hf hin e1 e2 hgo; rw [hk] at z0; go_enter Tryz.func8, Tryz.ntmps8; go_wp2_with fail; rw [<- HGO.out]; refine Qde (fun y => Hid (D9 w0 y gp gt gl gr gw g g /\ Qd y go 36 (wcA c))) H0 ?_; clear H0 z0; intro y H0
  have HRW : Hid (∀ x, Qd x go 36 (wcA c) -> Qd x go 36 #[.int .i64 c.k, .int .i64 c.m.1.k, .int .u64 (c.m.1.l : Int), .int .i64 c.m.1.t, .int .u64 (c.m.1.p : Int), .int .i64 c.m.1.c.k, .int .i64 c.m.1.c.pg, .int .i64 c.m.1.c.sl, .string c.m.1.c.o, .string c.m.1.c.n, .int .u64 (c.m.1.n : Int), .int .i64 c.m.1.s, .int .u64 (c.m.1.b : Int), .slice a1 c.m.1.ts.length c1, .slice a2 c.m.1.ds.length c2, .int .u64 (c.n : Int), .int .i64 c.h]) := Qa (fun x hx => by
    unfold wcA at hx; rw [HE.out.1, HE.out.2] at hx
    exact hx)
  have HR := Qa (HRW.out y H0.out.2); have z15 := HR.out.cell 15 (.int .u64 (c.n : Int)) rfl; have y1 := D9.p1 H0.out.1
  go_region_held3 (fun x => x.cell? ⟨gp, 1, none⟩ = some (.pointer (some ⟨gl, 0, none⟩)) /\ x.cell? ⟨go, 15, none⟩ = some (.int .u64 (c.n : Int))) (go_keep)
    (first | (go_at_call 28; with_reducible refine (dsee (D9.drew H0.out.1) HOK.out c.n HN.out).mono ?_; rintro e w1 ⟨rfl, h1, s1⟩; have R1 := HRW.out w1 (s1.dr H0.out.2); have z15 := R1.cell 15 (.int .u64 (c.n : Int)) rfl; have y1 := D9.p1 h1))
  have H1 := Qa (And.intro h1 (s1.dr H0.out.2)); clear h1 s1 H0 HR y1; have y3 := D9.p3 H1.out.1; go_wp2_with fail
  go_region_held3 (fun x => x.cell? ⟨gp, 3, none⟩ = some (.pointer (some ⟨gw, 0, none⟩)) /\ x.cell? ⟨go, 15, none⟩ = some (.int .u64 (c.n : Int))) (go_keep)
    (first | (go_at_call 29; with_reducible refine (dseer (D9.drew H1.out.1) c.n).mono ?_; rintro e w2 ⟨rfl, h2, s2⟩; have R2 := HRW.out w2 (s2.dr H1.out.2); have z15 := R2.cell 15 (.int .u64 (c.n : Int)) rfl; have y3 := D9.p3 h2))
  have H2 := Qa h2; clear h2 s2 H1 R1 R2 z15 y3; go_wp2; go_ret; exact ⟨rfl, gl, gw, g.see c.n, g.see_ok HOK.out c.n, H2.out⟩
end
end
section
structure O9 (w0 w : World) (gp gt gr : Nat) (t1 t2 : Tp) : Prop where
  code : ∃ gtb, Qid w gt gtb t1 /\ w0.heap.size <= gt /\ w0.heap.size <= gtb
  doc : Qed w gr t2
  lowr : w0.heap.size <= gr
  lowp : w0.heap.size <= gp
  pair : ∃ p1 p3, Qd w gp 44 #[.pointer (some ⟨gt, 0, none⟩), .pointer p1, .pointer (some ⟨gr, 0, none⟩), .pointer p3]
  bel : Below w0.heap.size w0 w
section
variable {w0 w x : World} {gp gt gr : Nat} {t1 t2 : Tp}
theorem O9.later (h : O9 w0 w gp gt gr t1 t2) (p : Below w.heap.size w x) : O9 w0 x gp gt gr t1 t2 := by
  obtain ⟨gtb, q1, q2, q3⟩ := h.code; obtain ⟨p1, p3, hp⟩ := h.pair; exact ⟨⟨gtb, q1.later p, q2, q3⟩, Qd.later h.doc p, h.lowr, h.lowp, ⟨p1, p3, hp.later p⟩, h.bel.trans (p.mono h.bel.size)⟩
theorem O9.drew (h : O9 w0 w gp gt gr t1 t2) : O9 w0 w.drew gp gt gr t1 t2 := h.later ⟨rfl, rfl, rfl, Nat.le_refl _, fun _ _ => rfl⟩
theorem O9.p0 (h : O9 w0 w gp gt gr t1 t2) : w.cell? ⟨gp, 0, none⟩ = some (.pointer (some ⟨gt, 0, none⟩)) := by obtain ⟨_, _, hp⟩ := h.pair; exact hp.cell 0 _ rfl
theorem O9.p2 (h : O9 w0 w gp gt gr t1 t2) : w.cell? ⟨gp, 2, none⟩ = some (.pointer (some ⟨gr, 0, none⟩)) := by obtain ⟨_, _, hp⟩ := h.pair; exact hp.cell 2 _ rfl
theorem D9.tapes {gl gw : Nat} {g1 g2 : Lg} (h : D9 w0 w gp gt gl gr gw g1 g2) : O9 w0 w gp gt gr g1.t g2.t := by
  obtain ⟨F, a, cap, ms, h1, h2, h3, h4, h5⟩ := h.logs; have hl := (Qtg _).loose _ _ _ _ _ h1; obtain ⟨gtb, q1, q2, q3⟩ := (Qtg _).tape _ _ _ _ _ h1; exact ⟨⟨gtb, q1, (hl _ q2).1, (hl _ q3).1⟩, h2.tape, h2.low2, h.low, ⟨_, _, h.pair⟩, h.bel⟩
theorem O9.turn {gtb gtb' : Nat} {t : Tp} (h : O9 w0 w gp gt gr t1 t2) (hc : Qid w gt gtb t1) (hlo : w0.heap.size <= gt /\ w0.heap.size <= gtb) (p : Turn gt gtb w x) (ht : Qid x gt gtb' t) (hb : gtb' = gtb ∨ w.heap.size <= gtb') : O9 w0 x gp gt gr t t2 /\ Qsk w x := by
  obtain ⟨p1, p3, hp⟩ := h.pair; have n1 := hc.apart hp (by decide) (by decide); have n2 := hc.apart (show Qd w gr 78 _ from h.doc) (by decide) (by decide)
  refine ⟨⟨⟨gtb', ht, hlo.1, ?_⟩, p.row h.doc n2.1 n2.2, h.lowr, h.lowp, ⟨p1, p3, p.row hp n1.1 n1.2⟩, h.bel.trans (p.below hlo.1 hlo.2 h.bel.size)⟩, fun k cs hr => ?_⟩
  · rcases hb with rfl | hb
    · exact hlo.2
    · exact Nat.le_trans h.bel.size hb
  · have n3 := hc.apart hr (by decide) (by decide); exact p.row hr n3.1 n3.2
theorem O9.but {t : Tp} (h : O9 w0 w gp gt gr t1 t2) (p : But gr w x) (ht : Qed x gr t) : O9 w0 x gp gt gr t1 t /\ Qsk w x := by
  obtain ⟨gtb, q1, q2, q3⟩ := h.code; obtain ⟨p1, p3, hp⟩ := h.pair; have q : Tn (Is gr) w x := Tn.of_but p rfl; have n2 := q1.apart (show Qd w gr 78 _ from h.doc) (by decide) (by decide)
  refine ⟨⟨⟨gtb, q1.keep (q.block _ q1.lt.1 (fun e => n2.1 (show gt = gr from e).symm)) (q.block _ q1.lt.2 (fun e => n2.2 (show gtb = gr from e).symm)), q2, q3⟩, ht, h.lowr, h.lowp, ⟨p1, p3, q.row hp (fun e => ?_)⟩, h.bel.trans (q.below (fun k hk => by rw [show k = gr from hk]; exact h.lowr) h.bel.size)⟩, fun k cs hr => q.row hr (fun e => ?_)⟩
  · rw [show gp = gr from e] at hp; exact absurd (Qca hp (show Qd w gr 78 _ from h.doc)) (by decide)
  · rw [show k = gr from e] at hr; exact absurd (Qca hr (show Qd w gr 78 _ from h.doc)) (by decide)
theorem ocrash (h : O9 w0 w gp gt gr t1 t2) (ok : t1.ok) (k : Int) :
    Calls Tryz.prog 33 #[.pointer (some ⟨gt, 0, none⟩), .int .i64 k] w fun e w' => e = .returned (.tuple #[]) /\ O9 w0 w' gp gt gr (t1.crash k) t2 /\ Qsk w w' := by
  obtain ⟨gtb, q1, q2, q3⟩ := h.code; exact (Qbu gt gtb t1 k w q1 ok).mono fun e x hh => ⟨hh.1, h.turn q1 ⟨q2, q3⟩ hh.2.2 hh.2.1 (.inl rfl)⟩
theorem ocrashr (h : O9 w0 w gp gt gr t1 t2) (ok : t2.ok) (k : Int) :
    Calls Tryz.prog 34 #[.pointer (some ⟨gr, 0, none⟩), .int .i64 k] w fun e w' => e = .returned (.tuple #[]) /\ O9 w0 w' gp gt gr t1 (t2.crash k) /\ Qsk w w' :=
  (Qjq gr t2 k w h.doc ok).mono fun e x hh => ⟨hh.1, h.but hh.2.2 hh.2.1⟩
theorem open9p (t : Tp) (base : Nat) (w : World) (h : O9 w0 w gp gt gr t t) (ok : t.ok) (hb : base < 18446744073709551616) :
    Calls Tryz.prog 20 #[.pointer (some ⟨gp, 0, none⟩), .int .u64 (base : Int)] w fun e w' => e = .returned (.bool true) /\ ∃ gl gw, D9 w0 w' gp gt gl gr gw (Lg.open t base) (Lg.open t base) := by
  have y0 := h.p0; have H := Qa h; obtain ⟨gtb, q1, q2, q3⟩ := h.code; have HO := Qa (Qzn w0.heap.size gt gtb w t base q1 ok q2 q3 hb); have HAP := Qa (fun (k : Nat) (u : TypeId) (cs : Array Value) (hr : Qd w k u cs) (h1 : u ≠ 85) (h2 : u ≠ 5) => q1.apart hr h1 h2); have HQ := Qa (And.intro q2 q3); have HOK := Qa ok; clear h q1 q2 q3 ok; go_enter Tryz.func20, Tryz.ntmps20; go_wp2_with fail; refine HO.out.mono ?_; rintro e w1 ⟨gl, F, rfl, h1, h2, h3, h4⟩; obtain ⟨p1, p3, hp⟩ := H.out.pair; have n1 := HAP.out gp _ _ hp (by decide) (by decide); have n2 := HAP.out gr _ _ H.out.doc (by decide) (by decide); have hp1 : Qd w1 gp 44 #[.pointer (some ⟨gt, 0, none⟩), .pointer p1, .pointer (some ⟨gr, 0, none⟩), .pointer p3] := h2.row hp (fun e => by rcases e with e | e; exact n1.1 e; exact n1.2 e); have hr1 : Qed w1 gr t := h2.row H.out.doc (fun e => by rcases e with e | e; exact n2.1 e; exact n2.2 e); have hb1 : Below w0.heap.size w0 w1 := H.out.bel.trans (h2.below (fun k hk => by rcases hk with hk | hk; (rw [hk]; exact HQ.out.1); (rw [hk]; exact HQ.out.2)) H.out.bel.size)
  have hFp : ¬ F gp := fun hf => by
    rcases h3 gp hf with e | e | e
    · exact n1.1 e
    · exact n1.2 e
    · have := hp.lt; omega
  have hFr : ¬ F gr := fun hf => by
    rcases h3 gr hf with e | e | e
    · exact n2.1 e
    · exact n2.2 e
    · have := (show Qd w gr 78 _ from H.out.doc).lt; omega
  have H1 := Qa (And.intro h1 (And.intro hp1 (And.intro hr1 (And.intro hb1 (And.intro hFp hFr))))); have y2 := hp1.cell 2 (.pointer (some ⟨gr, 0, none⟩)) rfl; clear h1 h2 h3 h4 hp1 hr1 hb1 hFp hFr hp n1 n2 HO HAP y0; go_wp2_with fail; refine (Qpu w0.heap.size w1 gr t base H1.out.2.2.1 HOK.out H1.out.2.2.2.1.size H.out.lowr).mono ?_; rintro e w2 ⟨rfl, a, cap, ms, k1, k2, k3⟩; have hl := (Qtg _).loose _ _ _ _ _ H1.out.1
  have hlr : Qrd w0.heap.size w1 (Is gr) := fun k hk => by
    rw [show k = gr from hk]; exact ⟨H.out.lowr, (show Qd w1 gr 78 _ from H1.out.2.2.1).lt, fun ty cs hrow => by rw [Qca hrow (show Qd w1 gr 78 _ from H1.out.2.2.1)]; decide⟩
  have hpr : gp ≠ gr := fun e => by
    have hp1 := H1.out.2.1; rw [e] at hp1; exact absurd (Qca hp1 (show Qd w1 gr 78 _ from H1.out.2.2.1)) (by decide)
  have hp2 := k2.row H1.out.2.1 (fun e => hpr e); have hla2 : LAc w0.heap.size gt gl w2 F (Lg.open t base) := (Qtg _).keep _ _ _ _ _ _ _ H1.out.1 hlr k2 (fun k hk e => H1.out.2.2.2.2.2 (by rw [<- show k = gr from e]; exact hk)); obtain ⟨gw, hgw⟩ : ∃ gw, gw = w1.heap.size := ⟨_, rfl⟩; rw [<- hgw] at k1 |-; have hT : Tn (Is gp) w2 ((w2.setCell ⟨gp, 1, none⟩ (.pointer (some ⟨gl, 0, none⟩))).setCell ⟨gp, 3, none⟩ (.pointer (some ⟨gw, 0, none⟩))) := ((Tn.refl (Is gp) w2).set gp 1 _ rfl).set gp 3 _ rfl
  have hlp : Qrd w0.heap.size w2 (Is gp) := fun k hk => by
    rw [show k = gp from hk]; exact ⟨H.out.lowp, hp2.lt, fun ty cs hrow => by rw [Qca hrow hp2]; decide⟩
  have hFLp : ¬ FL gw gr a gp := fun hf => by
    rcases hf with e | e | e
    · have := H1.out.2.1.lt; omega
    · exact hpr e
    · have := k3 gp e; have := H1.out.2.1.lt; omega
  have hFF : ∀ k, F k -> ¬ FL gw gr a k := fun k hk hf => by
    have hk2 := (hl k hk).2.1
    rcases hf with e | e | e
    · omega
    · exact H1.out.2.2.2.2.2 (by rw [<- e]; exact hk)
    · have := k3 k e; omega
  have H2 := Qa (show D9 w0 ((w2.setCell ⟨gp, 1, none⟩ (.pointer (some ⟨gl, 0, none⟩))).setCell ⟨gp, 3, none⟩ (.pointer (some ⟨gw, 0, none⟩))) gp gt gl gr gw (Lg.open t base) (Lg.open t base) from
    ⟨⟨F, a, cap, ms, (Qtg _).keep _ _ _ _ _ _ _ hla2 hlp hT (fun k hk e => H1.out.2.2.2.2.1 (by rw [<- show k = gp from e]; exact hk)), k1.keep hlp hT (fun k hk e => hFLp (by rw [<- show k = gp from e]; exact hk)), hFF, H1.out.2.2.2.2.1, hFLp⟩, (hp2.set 1 _).set 3 _, H.out.lowp, Nat.le_refl _, H1.out.2.2.2.1.trans ((k2.below (fun k hk => by rw [show k = gr from hk]; exact H.out.lowr) H1.out.2.2.2.1.size).trans (hT.below (fun k hk => by rw [show k = gp from hk]; exact H.out.lowp) (Nat.le_trans H1.out.2.2.2.1.size k2.size)))⟩)
  have x1 := hp2.cell 1 (.pointer p1) rfl; have x3 := hp2.cell 3 (.pointer p3) rfl; have f1 := hp2.free 1; have f3 := hp2.free 3; clear k1 k2 k3 hl hlr hpr hla2 hT hlp hFLp hFF H1 hp2 y2 hgw; go_wp2; go_ret; exact ⟨rfl, gl, gw, H2.out⟩
end
end
section
section
variable {w0 : World} {gp gt gl gr gw : Nat} {g : Lg}
theorem does_7 (w : World) (c : Wc) (h : D9 w0 w gp gt gl gr gw g g) (ok : g.ok) (hf : c.fits) (hin : Qjb w0 c.m.1 c.m.2.1 c.m.2.2) (hk : c.k = 7) :
    Calls Tryz.prog 8 #[.pointer (some ⟨gp, 0, none⟩), .agg (wcA c)] w (Qwe w0 gp gt gr) := by
  have hb0 : Below w.heap.size w (w.alloc (.cells (wcA c) 36)) := (Below.refl _ _).alloc (Nat.le_refl _) _; obtain ⟨go, hgo⟩ : ∃ go, go = w.heap.size := ⟨_, rfl⟩; have H0 := Qa (show D9 w0 (w.alloc (.cells (wcA c) 36)) gp gt gl gr gw g g /\ Qd (w.alloc (.cells (wcA c) 36)) go 36 (wcA c) from ⟨D9.later h hb0, by rw [hgo]; exact Qd.new w _ _⟩); obtain ⟨⟨a1, c1, e1⟩, a2, c2, e2⟩ := Qdb hin; have HN := Qa (Qmg hf.2.1); have HFT := Qa (And.intro hf hin); have HE := Qa (And.intro e1 e2); have HOK := Qa ok; have z0 := H0.out.2.cell 0 (.int .i64 c.k) rfl; rw [hgo] at z0; have HGO := Qa hgo; clear hb0 h ok hf hin e1 e2 hgo; rw [hk] at z0; go_enter Tryz.func8, Tryz.ntmps8; go_wp2_with fail; rw [<- HGO.out]; refine Qde (fun y => Hid (D9 w0 y gp gt gl gr gw g g /\ Qd y go 36 (wcA c))) H0 ?_; clear H0 z0; intro y H0
  have HRW : Hid (∀ x, Qd x go 36 (wcA c) -> Qd x go 36 #[.int .i64 c.k, .int .i64 c.m.1.k, .int .u64 (c.m.1.l : Int), .int .i64 c.m.1.t, .int .u64 (c.m.1.p : Int), .int .i64 c.m.1.c.k, .int .i64 c.m.1.c.pg, .int .i64 c.m.1.c.sl, .string c.m.1.c.o, .string c.m.1.c.n, .int .u64 (c.m.1.n : Int), .int .i64 c.m.1.s, .int .u64 (c.m.1.b : Int), .slice a1 c.m.1.ts.length c1, .slice a2 c.m.1.ds.length c2, .int .u64 (c.n : Int), .int .i64 c.h]) := Qa (fun x hx => by
    unfold wcA at hx; rw [HE.out.1, HE.out.2] at hx
    exact hx)
  have HR := Qa (HRW.out y H0.out.2); have z16 := HR.out.cell 16 (.int .i64 c.h) rfl; have y0 := D9.p0 H0.out.1; have HT := Qa (D9.tapes H0.out.1)
  go_region_held3 (fun x => x.cell? ⟨gp, 0, none⟩ = some (.pointer (some ⟨gt, 0, none⟩)) /\ x.cell? ⟨go, 16, none⟩ = some (.int .i64 c.h)) (go_keep)
    (first | (go_at_call 33; with_reducible refine (ocrash (O9.drew HT.out) HOK.out.tok c.h).mono ?_; rintro e w1 ⟨rfl, h1, s1⟩; have R1 := HRW.out w1 (s1.dr H0.out.2); have z16 := R1.cell 16 (.int .i64 c.h) rfl; have y0 := O9.p0 h1))
  have H1 := Qa (And.intro h1 (s1.dr H0.out.2)); clear h1 s1 H0 HR y0 HT; have y2 := O9.p2 H1.out.1; go_wp2_with fail
  go_region_held3 (fun x => x.cell? ⟨gp, 2, none⟩ = some (.pointer (some ⟨gr, 0, none⟩)) /\ x.cell? ⟨go, 16, none⟩ = some (.int .i64 c.h)) (go_keep)
    (first | (go_at_call 34; with_reducible refine (ocrashr (O9.drew H1.out.1) HOK.out.tok c.h).mono ?_; rintro e w2 ⟨rfl, h2, s2⟩; have R2 := HRW.out w2 (s2.dr H1.out.2); have z16 := R2.cell 16 (.int .i64 c.h) rfl; have y2 := O9.p2 h2))
  have H2 := Qa h2; have z15 := R2.cell 15 (.int .u64 (c.n : Int)) rfl; have HCK := Qa (g.t.crash_ok HOK.out.tok c.h); clear h2 s2 H1 R1 R2 z16 y2; generalize g.t.crash c.h = t at *; go_wp2_with fail; refine (open9p t c.n _ H2.out HCK.out HN.out).mono ?_; rintro e w3 ⟨rfl, gl', gw', h3⟩; have H3 := Qa h3; clear h3 H2; go_wp2; go_ret; exact ⟨rfl, gl', gw', Lg.open t c.n, Lg.open_ok t HCK.out c.n, H3.out⟩
theorem does_0 (w : World) (c : Wc) (h : D9 w0 w gp gt gl gr gw g g) (ok : g.ok) (hf : c.fits) (hin : Qjb w0 c.m.1 c.m.2.1 c.m.2.2) (h1 : c.k ≠ 1) (h2 : c.k ≠ 2) (h3 : c.k ≠ 3) (h4 : c.k ≠ 4) (h5 : c.k ≠ 5) (h6 : c.k ≠ 6) (h7 : c.k ≠ 7) :
    Calls Tryz.prog 8 #[.pointer (some ⟨gp, 0, none⟩), .agg (wcA c)] w (Qwe w0 gp gt gr) := by
  have hb0 : Below w.heap.size w (w.alloc (.cells (wcA c) 36)) := (Below.refl _ _).alloc (Nat.le_refl _) _; obtain ⟨go, hgo⟩ : ∃ go, go = w.heap.size := ⟨_, rfl⟩; have H0 := Qa (show D9 w0 (w.alloc (.cells (wcA c) 36)) gp gt gl gr gw g g /\ Qd (w.alloc (.cells (wcA c) 36)) go 36 (wcA c) from ⟨D9.later h hb0, by rw [hgo]; exact Qd.new w _ _⟩); obtain ⟨⟨a1, c1, e1⟩, a2, c2, e2⟩ := Qdb hin; have HN := Qa (Qmg hf.2.1); have HFT := Qa (And.intro hf hin); have HE := Qa (And.intro e1 e2); have HOK := Qa ok; have z0 := H0.out.2.cell 0 (.int .i64 c.k) rfl; rw [hgo] at z0; have HGO := Qa hgo; clear hb0 h ok hf hin e1 e2 hgo; go_enter Tryz.func8, Tryz.ntmps8; go_wp2; go_ret; exact ⟨rfl, gl, gw, g, HOK.out, H0.out.1⟩
end
end
section
def Qyq (cs : Array Value) (o : Nat) (vs : List Value) : Array Value := (cs.toList.take o ++ vs ++ cs.toList.drop (o + vs.length)).toArray
section
variable {P : Program} {ops : Array Oper} {rest : List Oper} {o : Oper} {a : Act} {w : World} {Q : Exit -> Act -> World -> Prop}
theorem Qkt (w : World) (t ty : TypeId) (g off : Nat) (c0 cs : Array Value) (hg : Qd w g t c0) (hi : (P.info? ty).map (·.size) = some cs.size) (hf : off + cs.size <= c0.size) (h1 : cs.all (·.oneCell') = true) :
    (Instr.storeAt ty (.pointer (some ⟨g, off, none⟩)) (.agg cs)).run P w = .ok () (w.setRow g (Qyq c0 off cs.toList)) := by
  have hs := run_storeCells_at P g off t cs.toList 0 c0 w hg (by rw [Array.length_toList]; omega) (fun v hv => (Array.all_eq_true_iff_forall_mem.1 h1) v (by simpa using hv))
  have hsv : (storeVar ty ⟨g, off, none⟩ (.agg cs)).run P w = .ok () (w.setRow g (Qyq c0 off cs.toList)) := by
    cases hq : P.info? ty with
    | none => simp [hq] at hi
    | some i =>
      have hz : cs.size = i.size := by simp [hq] at hi; omega
      simp only [Nat.add_zero] at hs; simp [storeVar, sizeOf, typeInfo, hq, Value.cells, hz, hs, Qyq]
  simp only [Instr.storeAt, Instr.sureAddr, Sem.run_bind, Sem.run_pure, Result.andThen_ok, hsv]
structure Only (g : Nat) (w w' : World) : Prop where
  os : w'.os = w.os
  tape : w'.tape = w.tape
  output : w'.output = w.output
  size : w.heap.size = w'.heap.size
  block : ∀ k, k ≠ g -> w'.heap[k]? = w.heap[k]?
theorem Qfq (w : World) (g : Nat) (cs : Array Value) : Only g w (w.setRow g cs) := ⟨rfl, rfl, rfl, by simp [World.setRow], fun k hk => setRow_other w g k _ hk⟩
theorem Only.below {g B : Nat} {w0 w w' : World} (p : Only g w w') (h : Below B w0 w) (hB : B <= g) : Below B w0 w' :=
  ⟨p.os.trans h.1, p.tape.trans h.2, p.output.trans h.3, Nat.le_trans h.4 (Nat.le_of_eq p.size), fun k hk => (p.block k (by omega)).trans (h.5 k hk)⟩
variable {K : Act -> World -> Prop} {E : Prop}
theorem Qrj (hgd : o.guard = none) (ty : TypeId) (x y : Operand) (ho : o.op = .store ty x y) (g off : Nat) (t : TypeId) (c0 cs : Array Value) (hx : a.eval x = .pointer (some ⟨g, off, none⟩)) (hy : a.eval y = .agg cs) (hg : Qd w g t c0)
    (hi : (P.info? ty).map (·.size) = some cs.size) (hf : off + cs.size <= c0.size) (h1 : cs.all (·.oneCell') = true)
    (h : ∀ w2, Qd w2 g t (Qyq c0 off cs.toList) -> Only g w w2 -> K (a.put o.dst undef) w2) : if Region.wanted o (yielded ops a.tmps) = true then Oper.wp P o a w K Q else E := by
  have hw : Region.wanted o (yielded ops a.tmps) = true := by simp [Region.wanted, hgd]
  rw [if_pos hw]; unfold Oper.wp execOp; simp only [ho, hx, hy, Sem.run_bind, Qkt w t ty g off c0 cs hg hi hf h1, Result.andThen_ok, Sem.run_pure]; exact h _ (setRow_heap w g c0 _ t (0, 0) hg) (Qfq w g _)
end
end
section
section
variable {P : Program} {md : Region.Mode} {ops : Array Oper} {Q : Exit -> Act -> World -> Prop} {S : World -> Prop} {fuel : Nat} {listed : Array Bool} {a : Act} {w : World} {o : Oper}
theorem hand_take (i : Nat) (d : Option Tmp) (v : Value) (hi : ops[i]? = some o) (hd : o.dst = d) (hs : Region.noSelect ops = true) (hf : Region.free md ops listed i = true) (hr : (Region.ready md ops listed).contains i = true)
    (hQ : ∀ c a w, Q (.panic c) (a.put d v) w -> Q (.panic c) a w) (hy : YieldsIf P ops S o v a) (hS : S w)
    (h : wpAnyH P md ops Q S fuel (listed.setIfInBounds i true) (a.put d v) w) : wpAnyH P md ops Q S (fuel + 1) listed a w := by
  subst hd; exact wpAnyH_take hi hs hf hr hQ hy hS h
theorem tkk {Q : Exit -> Act -> World -> Prop} (i : Nat) (d : Option Tmp) (v : Value) (hi : ops[i]? = some o) (hd : o.dst = d) (hk : (Region.noSelect ops && Region.free md ops listed i && (Region.ready md ops listed).contains i) = true) (hw : Region.wanted o (yielded ops a.tmps) = true)
    (hy : ∀ x, S x -> (execOp a.eval o).run P x = .ok (.value v) x) (hS : S w) (h : wpAnyH P md ops (NoPanic Q) S fuel (listed.setIfInBounds i true) (a.put d v) w) : wpAnyH P md ops (NoPanic Q) S (fuel + 1) listed a w := by
  simp only [Bool.and_eq_true] at hk; exact hand_take i d v hi hd hk.1.1 hk.1.2 hk.2 (fun _ _ _ h => h) (Or.inl ⟨hw, hy⟩) hS h
theorem tkq {Q : Exit -> Act -> World -> Prop} (i : Nat) (d : Option Tmp) (v : Value) (hS : S w) (h : wpAnyH P md ops (NoPanic Q) S fuel (listed.setIfInBounds i true) (a.put d v) w) (hi : ops[i]? = some o := by rfl) (hd : o.dst = d := by rfl) (hk : (Region.noSelect ops && Region.free md ops listed i && (Region.ready md ops listed).contains i) = true := by kernel_rfl) (hw : Region.wanted o (yielded ops a.tmps) = true := by kernel_rfl)
    (hy : ∀ x, S x -> (execOp a.eval o).run P x = .ok (.value v) x := by intro x _; go_simp) : wpAnyH P md ops (NoPanic Q) S (fuel + 1) listed a w := tkk i d v hi hd hk hw hy hS h
theorem Qua (i : Nat) (hr : Region.ready md ops listed = [i]) (h : wpOp P ops Q i (fun a' w' => S w' /\ wpAnyH P md ops Q S fuel (listed.setIfInBounds i true) a' w') a w) : wpAnyH P md ops Q S (fuel + 1) listed a w :=
  wpAnyH_all hr (by simp) (fun k hk => by
    obtain rfl : k = i := by simpa using hk
    exact h)
theorem Qsr (i j : Nat) (hr : Region.ready md ops listed = [i, j]) (h : wpOp P ops Q i (fun a' w' => S w' /\ wpAnyH P md ops Q S fuel (listed.setIfInBounds i true) a' w') a w) (h2 : wpOp P ops Q j (fun a' w' => S w' /\ wpAnyH P md ops Q S fuel (listed.setIfInBounds j true) a' w') a w) : wpAnyH P md ops Q S (fuel + 1) listed a w :=
  wpAnyH_all hr (by simp) (fun k hk => by
    rcases List.mem_cons.1 hk with rfl | hk
    · exact h
    · obtain rfl : k = j := by simpa using hk
      exact h2)
variable {K : Act -> World -> Prop} {i : Nat}
theorem Qti (d : Option Tmp) (ho : ops[i]? = some o) (hd : o.dst = d) (hg : o.guard = none) (v : Value) (w' : World) (he : (execOp a.eval o).run P w = .ok (.value v) w') (h : K (a.put d v) w') : wpOp P ops Q i K a w := by
  subst hd; refine wpOp_step ho (fun K' hK => ?_); have hw : Region.wanted o (yielded ops a.tmps) = true := by simp [Region.wanted, hg]
  rw [if_pos hw]; unfold Oper.wp; rw [he]; exact hK _ _ h
theorem Qna (d : Option Tmp) (ho : ops[i]? = some o) (hd : o.dst = d) (hw : Region.wanted o (yielded ops a.tmps) = true) (f : FuncId) (args : Array Value) (he : (execOp a.eval o).run P w = .ok (.enter f args) w)
    (hc : Calls P f args w fun e w' => ∃ v, e = .returned v /\ K (a.put d v) w') : wpOp P ops Q i K a w := by
  subst hd; refine wpOp_step ho (fun K' hK => ?_); rw [if_pos hw]; unfold Oper.wp; rw [he, Oper.upon_enter]; refine hc.mono ?_; rintro e w' ⟨v, rfl, h⟩; exact hK _ _ h
theorem hand_runw (d : Option Tmp) (ho : ops[i]? = some o) (hd : o.dst = d) (hw : Region.wanted o (yielded ops a.tmps) = true) (v : Value) (w' : World) (he : (execOp a.eval o).run P w = .ok (.value v) w') (h : K (a.put d v) w') : wpOp P ops Q i K a w := by
  subst hd; refine wpOp_step ho (fun K' hK => ?_); rw [if_pos hw]; unfold Oper.wp; rw [he]; exact hK _ _ h
theorem Qeg (ho : ops[i]? = some o) (hd : o.dst = none) (hg : o.guard = none) (ty : TypeId) (x y : Operand) (hop : o.op = .store ty x y) (g off : Nat) (t : TypeId) (c0 cs : Array Value) (hx : a.eval x = .pointer (some ⟨g, off, none⟩)) (hy : a.eval y = .agg cs) (hr : Qd w g t c0)
    (hi : (P.info? ty).map (·.size) = some cs.size) (hf : off + cs.size <= c0.size) (h1 : cs.all (·.oneCell') = true) (h : ∀ w2, Qd w2 g t (Qyq c0 off cs.toList) -> Only g w w2 -> K a w2) : wpOp P ops Q i K a w := by
  refine wpOp_step ho (fun K' hK => ?_); refine Qrj hg ty x y hop g off t c0 cs hx hy hr hi hf h1 (fun w2 h2 h3 => ?_); rw [hd]; exact hK _ _ (h w2 h2 h3)
theorem Quh (c0 cs : Array Value) (h : c0.size = cs.size) : Qyq c0 0 cs.toList = cs := by
  unfold Qyq; rw [List.take_zero, List.nil_append, Array.length_toList, Nat.zero_add, List.drop_of_length_le (by rw [Array.length_toList]; omega), List.append_nil, Array.toArray_toList]
end
end
section
def Stop10 (p : Prop) : Prop := p
theorem unstop10 {p : Prop} (h : p) : Stop10 p := h
section
variable {P : Program} {ops : Array Oper} {rest : List Oper} {o : Oper} {a : Act} {w : World} {Q : Exit -> Act -> World -> Prop}
theorem stop_at (d : Tmp) (hd : o.dst = some d) (h : Stop10 (wpList P ops Q (o :: rest) a w)) : wpList P ops Q (o :: rest) a w := h
theorem lst_val (d : Option Tmp) (v : Value) (hd : o.dst = d) (hw : Region.wanted o (yielded ops a.tmps) = true) (hv : (execOp a.eval o).run P w = .ok (.value v) w) (h : wpList P ops Q rest (a.put d v) w) : wpList P ops Q (o :: rest) a w := by
  subst hd; exact Qxf hw v hv h
theorem lst_call (d : Option Tmp) (hd : o.dst = d) (hw : Region.wanted o (yielded ops a.tmps) = true) (f : FuncId) (args : Array Value) (he : (execOp a.eval o).run P w = .ok (.enter f args) w)
    (hc : Calls P f args w fun e w' => ∃ v, e = .returned v /\ wpList P ops Q rest (a.put d v) w') : wpList P ops Q (o :: rest) a w := by
  subst hd; refine wpList_step fun K hK => ?_
  rw [if_pos hw]; unfold Oper.wp; rw [he, Oper.upon_enter]; refine hc.mono ?_; rintro e w' ⟨v, rfl, h⟩; exact hK _ _ h
theorem Qns (d : Option Tmp) (v : Value) (hd : o.dst = d) (hw : Region.wanted o (yielded ops a.tmps) = true) (t : TypeId) (x : Operand) (ho : o.op = .load t x) (u : Value) (hu : a.eval x = u) (hv : (Instr.loadAt t u).run P w = .ok v w) (h : wpList P ops Q rest (a.put d v) w) : wpList P ops Q (o :: rest) a w :=
  lst_val d v hd hw (by unfold execOp; simp only [ho, hu, Sem.run_bind, hv, Result.andThen_ok, Sem.run_pure]) h
end
end
section
theorem share3 {F G : Nat -> World -> Rm -> Prop} {R : Prop} (h : (∀ g z m, F g z m -> G g z m) -> R) (k : ∀ g z m, F g z m -> G g z m) : R := h k
theorem Only.tn {k : Nat} {w w' : World} (p : Only k w w') : Tn (Is k) w w' := ⟨p.os, p.tape, p.output, Nat.le_of_eq p.size, fun j _ hj => p.block j hj⟩
def Gok9 (B : Nat) (g : Lg) (n : Nat) (e : Ending) (w' : World) : Prop := ∃ m : Rm, e = .returned (.tuple #[.agg (rcF m), .bool (g.get n).2]) /\ m.1 = (g.get n).1 /\ m.1.fits /\ RcK B w' m.1 m.2.1 m.2.2
theorem Qts {B : Nat} {x u : World} {r : Rec} {va vb : Value} {k : Nat} {cs : Array Value} (h : RcK B x r va vb) (hB : B <= k) (hk : Qd x k 34 cs) (h3 : Tn (Is k) x u) : RcK B u r va vb :=
  h.keep (fun j hj => by
    rw [show j = k from hj]
    exact ⟨hB, hk.lt, fun ty ds hrow => by rw [Qca hrow hk]; decide⟩) h3
section
variable {w0 w : World} {gp gt gl gr gw : Nat} {g1 g2 : Lg}
theorem dgetk (h : D9 w0 w gp gt gl gr gw g1 g2) (ok : g1.ok) (n : Nat) (hn : n < 18446744073709551616) :
    Calls Tryz.prog 30 #[.pointer (some ⟨gl, 0, none⟩), .int .u64 (n : Int)] w fun e w' => Gok9 w0.heap.size g1 n e w' /\ Below w.heap.size w w' /\ D9 w0 w' gp gt gl gr gw g1 g2 :=
  D9.look h (fun F hF => by
    obtain ⟨gc, gb, a, cap, ms, wa, wc, hL, rfl⟩ := hF; refine (get9_any w n hL ok).mono ?_; rintro e x' ⟨m, rfl, h1, h2, h3, h4⟩
    exact ⟨⟨m, rfl, h1, h2, RcK.got h3⟩, h4⟩)
theorem Qgn {B : Nat} {a : Option Addr} {cap : Nat} {ms : List Rm} (h : RB B w a cap ms) (n : Nat) : (Qzp ms n).1.1.fits /\ RcK B w (Qzp ms n).1.1 (Qzp ms n).1.2.1 (Qzp ms n).1.2.2 := by
  unfold Qzp
  cases hm : ms.find? (fun m => decide (m.1.l = n)) with
  | none => exact ⟨Qzb, RcK.got (Qor 0 w)⟩
  | some m =>
    have := h.2 m (List.mem_of_find?_eq_some hm); exact ⟨this.1, this.2⟩
theorem dgetrk (h : D9 w0 w gp gt gl gr gw g1 g2) (ok : g2.ok) (n : Nat) :
    Calls Tryz.prog 31 #[.pointer (some ⟨gw, 0, none⟩), .int .u64 (n : Int)] w fun e w' => Gok9 w0.heap.size g2 n e w' /\ Below w.heap.size w w' /\ D9 w0 w' gp gt gl gr gw g1 g2 :=
  D9.see h (fun a cap ms hR => (rget9_any _ w gw gr cap a ms g2 n hR ok).mono fun e x' hh => ⟨⟨(Qzp ms n).1, by rw [<- (Qus hR.same n).2]; exact hh.1, (Qus hR.same n).1, (Qgn hR.recs n).1, (Qgn hR.recs n).2.later hh.2⟩, hh.2⟩)
end
section
variable {w0 : World} {gp gt gl gr gw : Nat} {g : Lg}
theorem does_6 (w : World) (c : Wc) (h : D9 w0 w gp gt gl gr gw g g) (ok : g.ok) (hf : c.fits) (hin : Qjb w0 c.m.1 c.m.2.1 c.m.2.2) (hk : c.k = 6) :
    Calls Tryz.prog 8 #[.pointer (some ⟨gp, 0, none⟩), .agg (wcA c)] w (Qwe w0 gp gt gr) := by
  have hb0 : Below w.heap.size w (w.alloc (.cells (wcA c) 36)) := (Below.refl _ _).alloc (Nat.le_refl _) _; obtain ⟨go, hgo⟩ : ∃ go, go = w.heap.size := ⟨_, rfl⟩; have H0 := Qa (show D9 w0 (w.alloc (.cells (wcA c) 36)) gp gt gl gr gw g g /\ Qd (w.alloc (.cells (wcA c) 36)) go 36 (wcA c) from ⟨D9.later h hb0, by rw [hgo]; exact Qd.new w _ _⟩); obtain ⟨⟨a1, c1, e1⟩, a2, c2, e2⟩ := Qdb hin; have HN := Qa (Qmg hf.2.1); have HFT := Qa (And.intro hf hin); have HE := Qa (And.intro e1 e2); have HOK := Qa ok; have z0 := H0.out.2.cell 0 (.int .i64 c.k) rfl; rw [hgo] at z0; have HGO := Qa hgo; clear hb0 h ok hf hin e1 e2 hgo; rw [hk] at z0; go_enter Tryz.func8, Tryz.ntmps8; go_wp2_with fail; rw [<- HGO.out]; refine Qde (fun y => Hid (D9 w0 y gp gt gl gr gw g g /\ Qd y go 36 (wcA c))) H0 ?_; clear H0 z0; intro y H0
  have HRW : Hid (∀ x, Qd x go 36 (wcA c) -> Qd x go 36 #[.int .i64 c.k, .int .i64 c.m.1.k, .int .u64 (c.m.1.l : Int), .int .i64 c.m.1.t, .int .u64 (c.m.1.p : Int), .int .i64 c.m.1.c.k, .int .i64 c.m.1.c.pg, .int .i64 c.m.1.c.sl, .string c.m.1.c.o, .string c.m.1.c.n, .int .u64 (c.m.1.n : Int), .int .i64 c.m.1.s, .int .u64 (c.m.1.b : Int), .slice a1 c.m.1.ts.length c1, .slice a2 c.m.1.ds.length c2, .int .u64 (c.n : Int), .int .i64 c.h]) := Qa (fun x hx => by
    unfold wcA at hx; rw [HE.out.1, HE.out.2] at hx
    exact hx)
  have HD1 := Qa (show D9 w0 y.drew gp gt gl gr gw g g /\ Qd y.drew go 36 (wcA c) from ⟨D9.drew H0.out.1, H0.out.2⟩); clear H0; obtain ⟨y1, hy1⟩ : ∃ y1, y1 = y := ⟨_, rfl⟩; subst hy1; apply share3 (F := (fun ga z m => Hid (D9 w0 z gp gt gl gr gw g g /\ Qd z go 36 (wcA c) /\ Qd z ga 34 (rcF m) /\ RcK w0.heap.size z m.1 m.2.1 m.2.2 /\ m.1 = (g.get c.n).1 /\ m.1.fits)))
  (case h =>
    intro REST; refine wp_region_noPanic ?_; refine wp_region_held_drew (S := (fun x => D9 w0 x gp gt gl gr gw g g /\ Qd x go 36 (wcA c))) (by kernel_rfl) (HD1.out) (fun hHeld => ?_); have HG := Qa hHeld; refine tkq 0 (some 127) (.pointer (some ⟨gp, 0, none⟩)) hHeld ?_; (try simp only [Act.put, List.setIfInBounds_toArray, List.set]); refine tkq 1 (some 128) (.pointer (some ⟨gp, 0, none⟩)) hHeld ?_; (try simp only [Act.put, List.setIfInBounds_toArray, List.set]); refine tkq 2 (some 129) (.pointer (some ⟨gp, 1, none⟩)) hHeld ?_; (try simp only [Act.put, List.setIfInBounds_toArray, List.set]); refine tkk 3 (some 130) (.pointer (some ⟨gl, 0, none⟩)) rfl rfl (by kernel_rfl) (by kernel_rfl) (fun x hSx => by have h : World.cell? x ⟨gp, 1, none⟩ = some (.pointer (some ⟨gl, 0, none⟩)) := D9.p1 hSx.1; go_simp) hHeld ?_; (try simp only [Act.put, List.setIfInBounds_toArray, List.set]); refine tkq 4 (some 131) (.pointer (some ⟨go, 15, none⟩)) hHeld ?_; (try simp only [Act.put, List.setIfInBounds_toArray, List.set]); refine tkk 5 (some 132) (.int .u64 (c.n : Int)) rfl rfl (by kernel_rfl) (by kernel_rfl) (fun x hSx => by have h : World.cell? x ⟨go, 15, none⟩ = some (.int .u64 (c.n : Int)) := (HRW.out _ hSx.2).cell 15 (.int .u64 (c.n : Int)) rfl; go_simp) hHeld ?_; (try simp only [Act.put, List.setIfInBounds_toArray, List.set])
    refine Qsr 6 10 (by kernel_rfl) ?_ ?_
    · refine Qna (some 133) rfl rfl (by kernel_rfl) 30 #[.pointer (some ⟨gl, 0, none⟩), .int .u64 (c.n : Int)] ?he ((dgetk HG.out.1 HOK.out c.n HN.out).mono ?_); (case he => go_simp); rintro e x1 ⟨⟨m, rfl, hm1, hm2, hm3⟩, hb, hd⟩; have hr := (HG.out.2).later hb; have hHeld : (fun x => D9 w0 x gp gt gl gr gw g g /\ Qd x go 36 (wcA c)) x1 := ⟨hd, hr⟩; refine ⟨_, rfl, hHeld, ?_⟩; (try simp only [Act.put, List.setIfInBounds_toArray, List.set]); refine tkq 7 (some 126) (.tuple #[.agg (rcF m), .bool (g.get c.n).2]) hHeld ?_; (try simp only [Act.put, List.setIfInBounds_toArray, List.set]); refine tkq 8 (some 134) (.agg (rcF m)) hHeld ?_; (try simp only [Act.put, List.setIfInBounds_toArray, List.set]); refine tkq 9 (some 135) (.bool (g.get c.n).2) hHeld ?_; (try simp only [Act.put, List.setIfInBounds_toArray, List.set]); have hba : Below x1.heap.size x1 (x1.alloc (.cells Qr 34)) := (Below.refl _ _).alloc (Nat.le_refl _) _; have hHeld : (fun x => D9 w0 x gp gt gl gr gw g g /\ Qd x go 36 (wcA c)) (x1.alloc (.cells Qr 34)) := ⟨D9.later hd hba, hr.later hba⟩; refine Qua 10 (by kernel_rfl) ?_; refine Qti (some 11) rfl rfl rfl (.pointer (some ⟨x1.heap.size, 0, none⟩)) (x1.alloc (.cells Qr 34)) ?hz ?_; (case hz => go_simp; try rfl); refine ⟨hHeld, ?_⟩; (try simp only [Act.put, List.setIfInBounds_toArray, List.set]); obtain ⟨hs1, hs2⟩ := Qdb hm3.rc; have HAM := Qa (Qrg m hs1 hs2); clear hs1 hs2; refine Qua 11 (by kernel_rfl) ?_; refine Qeg rfl rfl rfl 34 (.tmp 11) (.tmp 134) rfl x1.heap.size 0 34 Qr (rcF m) rfl rfl (Qd.new _ _ _) Qj (by simp [Qr, rcF, rcA]) HAM.out ?_; intro u hu1 hu2; rw [Quh Qr (rcF m) (by simp [Qr, rcF, rcA])] at hu1; have hbu : Below x1.heap.size x1 u := hu2.below hba (Nat.le_refl _); have HS : (fun x => D9 w0 x gp gt gl gr gw g g /\ Qd x go 36 (wcA c)) u := ⟨D9.later hd hbu, hr.later hbu⟩; refine ⟨HS, ?_⟩; (try simp only [Act.put, List.setIfInBounds_toArray, List.set]); have hHeld := HS; refine tkq 12 (some 12) (.bool (g.get c.n).2) hHeld ?_; (try simp only [Act.put, List.setIfInBounds_toArray, List.set]); refine wpAnyH_done (by kernel_rfl) ?_ _; refine NoPanic.normal ?_; obtain ⟨ga, hga⟩ : ∃ ga, ga = x1.heap.size := ⟨_, rfl⟩; rw [<- hga] at hu1 |-; exact REST ga u m (Qa ⟨HS.1, HS.2, hu1, hm3.later hbu, hm1, hm2⟩)
    · have hba : Below y1.drew.heap.size y1.drew (y1.drew.alloc (.cells Qr 34)) := (Below.refl _ _).alloc (Nat.le_refl _) _; have hHeld : (fun x => D9 w0 x gp gt gl gr gw g g /\ Qd x go 36 (wcA c)) (y1.drew.alloc (.cells Qr 34)) := ⟨D9.later HG.out.1 hba, (HG.out.2).later hba⟩; refine Qti (some 11) rfl rfl rfl (.pointer (some ⟨y1.drew.heap.size, 0, none⟩)) (y1.drew.alloc (.cells Qr 34)) ?hz ?_; (case hz => go_simp; try rfl); refine ⟨hHeld, ?_⟩; (try simp only [Act.put, List.setIfInBounds_toArray, List.set]); refine Qua 6 (by kernel_rfl) ?_; refine Qna (some 133) rfl rfl (by kernel_rfl) 30 #[.pointer (some ⟨gl, 0, none⟩), .int .u64 (c.n : Int)] ?he ((dgetk hHeld.1 HOK.out c.n HN.out).mono ?_); (case he => go_simp); rintro e x1 ⟨⟨m, rfl, hm1, hm2, hm3⟩, hb, hd⟩; have hbb : Below y1.drew.heap.size y1.drew x1 := hba.trans (hb.mono hba.size); have hHeld : (fun x => D9 w0 x gp gt gl gr gw g g /\ Qd x go 36 (wcA c)) x1 := ⟨hd, (HG.out.2).later hbb⟩; refine ⟨_, rfl, hHeld, ?_⟩; (try simp only [Act.put, List.setIfInBounds_toArray, List.set]); refine tkq 7 (some 126) (.tuple #[.agg (rcF m), .bool (g.get c.n).2]) hHeld ?_; (try simp only [Act.put, List.setIfInBounds_toArray, List.set]); refine tkq 8 (some 134) (.agg (rcF m)) hHeld ?_; (try simp only [Act.put, List.setIfInBounds_toArray, List.set]); refine tkq 9 (some 135) (.bool (g.get c.n).2) hHeld ?_; (try simp only [Act.put, List.setIfInBounds_toArray, List.set]); have zb : Qd x1 y1.drew.heap.size 34 Qr := (Qd.new y1.drew 34 Qr).later hb; obtain ⟨hs1, hs2⟩ := Qdb hm3.rc; have HAM := Qa (Qrg m hs1 hs2); clear hs1 hs2; refine Qua 11 (by kernel_rfl) ?_; refine Qeg rfl rfl rfl 34 (.tmp 11) (.tmp 134) rfl y1.drew.heap.size 0 34 Qr (rcF m) rfl rfl zb Qj (by simp [Qr, rcF, rcA]) HAM.out ?_; intro u hu1 hu2; rw [Quh Qr (rcF m) (by simp [Qr, rcF, rcA])] at hu1; have hbu : Below y1.drew.heap.size y1.drew u := hu2.below hbb (Nat.le_refl _); have HS : (fun x => D9 w0 x gp gt gl gr gw g g /\ Qd x go 36 (wcA c)) u := ⟨D9.later HG.out.1 hbu, (HG.out.2).later hbu⟩; have hm4 : RcK w0.heap.size u m.1 m.2.1 m.2.2 := Qts (cs := Qr) hm3 HG.out.1.bel.size zb hu2.tn; refine ⟨HS, ?_⟩; (try simp only [Act.put, List.setIfInBounds_toArray, List.set]); have hHeld := HS; refine tkq 12 (some 12) (.bool (g.get c.n).2) hHeld ?_; (try simp only [Act.put, List.setIfInBounds_toArray, List.set]); refine wpAnyH_done (by kernel_rfl) ?_ _; refine NoPanic.normal ?_
      obtain ⟨ga, hga⟩ : ∃ ga, ga = y1.drew.heap.size := ⟨_, rfl⟩; rw [<- hga] at hu1 |-
      exact REST ga u m (Qa ⟨HS.1, HS.2, hu1, hm4, hm1, hm2⟩))
  clear HD1; intro ga1 z1 m1 HF; have HM1 := Qa (And.intro HF.out.2.2.2.2.1 HF.out.2.2.2.2.2); have HD2 := Qa (show D9 w0 z1.drew gp gt gl gr gw g g /\ Qd z1.drew go 36 (wcA c) /\ Qd z1.drew ga1 34 (rcF m1) /\ RcK w0.heap.size z1.drew m1.1 m1.2.1 m1.2.2 from ⟨D9.drew HF.out.1, HF.out.2.1, HF.out.2.2.1, HF.out.2.2.2.1.later ⟨rfl, rfl, rfl, Nat.le_refl _, fun _ _ => rfl⟩⟩); clear HF; go_wp2_with fail; obtain ⟨y2, hy2⟩ : ∃ y2, y2 = z1 := ⟨_, rfl⟩; subst hy2; apply share3 (F := (fun ga z m => Hid (D9 w0 z gp gt gl gr gw g g /\ Qd z go 36 (wcA c) /\ Qd z ga 34 (rcF m) /\ RcK w0.heap.size z m.1 m.2.1 m.2.2 /\ m.1 = (g.get c.n).1 /\ m.1.fits /\ Qd z ga1 34 (rcF m1) /\ RcK w0.heap.size z m1.1 m1.2.1 m1.2.2)))
  (case h =>
    intro REST; refine wp_region_noPanic ?_; refine wp_region_held_drew (S := (fun x => D9 w0 x gp gt gl gr gw g g /\ Qd x go 36 (wcA c) /\ Qd x ga1 34 (rcF m1) /\ RcK w0.heap.size x m1.1 m1.2.1 m1.2.2)) (by kernel_rfl) (HD2.out) (fun hHeld => ?_); have HG := Qa hHeld; refine tkq 0 (some 137) (.pointer (some ⟨gp, 0, none⟩)) hHeld ?_; (try simp only [Act.put, List.setIfInBounds_toArray, List.set]); refine tkq 1 (some 138) (.pointer (some ⟨gp, 0, none⟩)) hHeld ?_; (try simp only [Act.put, List.setIfInBounds_toArray, List.set]); refine tkq 2 (some 139) (.pointer (some ⟨gp, 3, none⟩)) hHeld ?_; (try simp only [Act.put, List.setIfInBounds_toArray, List.set]); refine tkk 3 (some 140) (.pointer (some ⟨gw, 0, none⟩)) rfl rfl (by kernel_rfl) (by kernel_rfl) (fun x hSx => by have h : World.cell? x ⟨gp, 3, none⟩ = some (.pointer (some ⟨gw, 0, none⟩)) := D9.p3 hSx.1; go_simp) hHeld ?_; (try simp only [Act.put, List.setIfInBounds_toArray, List.set]); refine tkq 4 (some 141) (.pointer (some ⟨go, 15, none⟩)) hHeld ?_; (try simp only [Act.put, List.setIfInBounds_toArray, List.set]); refine tkk 5 (some 142) (.int .u64 (c.n : Int)) rfl rfl (by kernel_rfl) (by kernel_rfl) (fun x hSx => by have h : World.cell? x ⟨go, 15, none⟩ = some (.int .u64 (c.n : Int)) := (HRW.out _ hSx.2.1).cell 15 (.int .u64 (c.n : Int)) rfl; go_simp) hHeld ?_; (try simp only [Act.put, List.setIfInBounds_toArray, List.set])
    refine Qsr 6 10 (by kernel_rfl) ?_ ?_
    · refine Qna (some 143) rfl rfl (by kernel_rfl) 31 #[.pointer (some ⟨gw, 0, none⟩), .int .u64 (c.n : Int)] ?he ((dgetrk HG.out.1 HOK.out c.n).mono ?_); (case he => go_simp); rintro e x2 ⟨⟨m, rfl, hm1, hm2, hm3⟩, hb, hd⟩; have hr := (HG.out.2.1).later hb; have hx0 := HG.out.2.2.1.later hb; have hx1 := HG.out.2.2.2.later hb; have hHeld : (fun x => D9 w0 x gp gt gl gr gw g g /\ Qd x go 36 (wcA c) /\ Qd x ga1 34 (rcF m1) /\ RcK w0.heap.size x m1.1 m1.2.1 m1.2.2) x2 := ⟨hd, hr, hx0, hx1⟩; refine ⟨_, rfl, hHeld, ?_⟩; (try simp only [Act.put, List.setIfInBounds_toArray, List.set]); refine tkq 7 (some 136) (.tuple #[.agg (rcF m), .bool (g.get c.n).2]) hHeld ?_; (try simp only [Act.put, List.setIfInBounds_toArray, List.set]); refine tkq 8 (some 144) (.agg (rcF m)) hHeld ?_; (try simp only [Act.put, List.setIfInBounds_toArray, List.set]); refine tkq 9 (some 145) (.bool (g.get c.n).2) hHeld ?_; (try simp only [Act.put, List.setIfInBounds_toArray, List.set]); have hba : Below x2.heap.size x2 (x2.alloc (.cells Qr 34)) := (Below.refl _ _).alloc (Nat.le_refl _) _; have hHeld : (fun x => D9 w0 x gp gt gl gr gw g g /\ Qd x go 36 (wcA c) /\ Qd x ga1 34 (rcF m1) /\ RcK w0.heap.size x m1.1 m1.2.1 m1.2.2) (x2.alloc (.cells Qr 34)) := ⟨D9.later hd hba, hr.later hba, hx0.later hba, hx1.later hba⟩; refine Qua 10 (by kernel_rfl) ?_; refine Qti (some 13) rfl rfl rfl (.pointer (some ⟨x2.heap.size, 0, none⟩)) (x2.alloc (.cells Qr 34)) ?hz ?_; (case hz => go_simp; try rfl); refine ⟨hHeld, ?_⟩; (try simp only [Act.put, List.setIfInBounds_toArray, List.set]); obtain ⟨hs1, hs2⟩ := Qdb hm3.rc; have HAM := Qa (Qrg m hs1 hs2); clear hs1 hs2; refine Qua 11 (by kernel_rfl) ?_; refine Qeg rfl rfl rfl 34 (.tmp 13) (.tmp 144) rfl x2.heap.size 0 34 Qr (rcF m) rfl rfl (Qd.new _ _ _) Qj (by simp [Qr, rcF, rcA]) HAM.out ?_; intro u hu1 hu2; rw [Quh Qr (rcF m) (by simp [Qr, rcF, rcA])] at hu1; have hbu : Below x2.heap.size x2 u := hu2.below hba (Nat.le_refl _); have HS : (fun x => D9 w0 x gp gt gl gr gw g g /\ Qd x go 36 (wcA c) /\ Qd x ga1 34 (rcF m1) /\ RcK w0.heap.size x m1.1 m1.2.1 m1.2.2) u := ⟨D9.later hd hbu, hr.later hbu, hx0.later hbu, hx1.later hbu⟩; refine ⟨HS, ?_⟩; (try simp only [Act.put, List.setIfInBounds_toArray, List.set]); have hHeld := HS; refine tkq 12 (some 14) (.bool (g.get c.n).2) hHeld ?_; (try simp only [Act.put, List.setIfInBounds_toArray, List.set]); refine wpAnyH_done (by kernel_rfl) ?_ _
      refine NoPanic.normal ?_; obtain ⟨ga, hga⟩ : ∃ ga, ga = x2.heap.size := ⟨_, rfl⟩; rw [<- hga] at hu1 |-; exact REST ga u m (Qa ⟨HS.1, HS.2.1, hu1, hm3.later hbu, hm1, hm2, HS.2.2.1, HS.2.2.2⟩)
    · have hba : Below y2.drew.heap.size y2.drew (y2.drew.alloc (.cells Qr 34)) := (Below.refl _ _).alloc (Nat.le_refl _) _; have hHeld : (fun x => D9 w0 x gp gt gl gr gw g g /\ Qd x go 36 (wcA c) /\ Qd x ga1 34 (rcF m1) /\ RcK w0.heap.size x m1.1 m1.2.1 m1.2.2) (y2.drew.alloc (.cells Qr 34)) := ⟨D9.later HG.out.1 hba, (HG.out.2.1).later hba, HG.out.2.2.1.later hba, HG.out.2.2.2.later hba⟩; refine Qti (some 13) rfl rfl rfl (.pointer (some ⟨y2.drew.heap.size, 0, none⟩)) (y2.drew.alloc (.cells Qr 34)) ?hz ?_; (case hz => go_simp; try rfl); refine ⟨hHeld, ?_⟩; (try simp only [Act.put, List.setIfInBounds_toArray, List.set]); refine Qua 6 (by kernel_rfl) ?_; refine Qna (some 143) rfl rfl (by kernel_rfl) 31 #[.pointer (some ⟨gw, 0, none⟩), .int .u64 (c.n : Int)] ?he ((dgetrk hHeld.1 HOK.out c.n).mono ?_); (case he => go_simp); rintro e x2 ⟨⟨m, rfl, hm1, hm2, hm3⟩, hb, hd⟩; have hbb : Below y2.drew.heap.size y2.drew x2 := hba.trans (hb.mono hba.size); have hHeld : (fun x => D9 w0 x gp gt gl gr gw g g /\ Qd x go 36 (wcA c) /\ Qd x ga1 34 (rcF m1) /\ RcK w0.heap.size x m1.1 m1.2.1 m1.2.2) x2 := ⟨hd, (HG.out.2.1).later hbb, HG.out.2.2.1.later hbb, HG.out.2.2.2.later hbb⟩; refine ⟨_, rfl, hHeld, ?_⟩; (try simp only [Act.put, List.setIfInBounds_toArray, List.set]); refine tkq 7 (some 136) (.tuple #[.agg (rcF m), .bool (g.get c.n).2]) hHeld ?_; (try simp only [Act.put, List.setIfInBounds_toArray, List.set]); refine tkq 8 (some 144) (.agg (rcF m)) hHeld ?_; (try simp only [Act.put, List.setIfInBounds_toArray, List.set]); refine tkq 9 (some 145) (.bool (g.get c.n).2) hHeld ?_; (try simp only [Act.put, List.setIfInBounds_toArray, List.set]); have zb : Qd x2 y2.drew.heap.size 34 Qr := (Qd.new y2.drew 34 Qr).later hb; obtain ⟨hs1, hs2⟩ := Qdb hm3.rc; have HAM := Qa (Qrg m hs1 hs2); clear hs1 hs2; refine Qua 11 (by kernel_rfl) ?_; refine Qeg rfl rfl rfl 34 (.tmp 13) (.tmp 144) rfl y2.drew.heap.size 0 34 Qr (rcF m) rfl rfl zb Qj (by simp [Qr, rcF, rcA]) HAM.out ?_; intro u hu1 hu2; rw [Quh Qr (rcF m) (by simp [Qr, rcF, rcA])] at hu1; have hbu : Below y2.drew.heap.size y2.drew u := hu2.below hbb (Nat.le_refl _); have HS : (fun x => D9 w0 x gp gt gl gr gw g g /\ Qd x go 36 (wcA c) /\ Qd x ga1 34 (rcF m1) /\ RcK w0.heap.size x m1.1 m1.2.1 m1.2.2) u := ⟨D9.later HG.out.1 hbu, (HG.out.2.1).later hbu, HG.out.2.2.1.later hbu, HG.out.2.2.2.later hbu⟩; have hm4 : RcK w0.heap.size u m.1 m.2.1 m.2.2 := Qts (cs := Qr) hm3 HG.out.1.bel.size zb hu2.tn
      refine ⟨HS, ?_⟩; (try simp only [Act.put, List.setIfInBounds_toArray, List.set]); have hHeld := HS; refine tkq 12 (some 14) (.bool (g.get c.n).2) hHeld ?_; (try simp only [Act.put, List.setIfInBounds_toArray, List.set]); refine wpAnyH_done (by kernel_rfl) ?_ _; refine NoPanic.normal ?_; obtain ⟨ga, hga⟩ : ∃ ga, ga = y2.drew.heap.size := ⟨_, rfl⟩; rw [<- hga] at hu1 |-
      exact REST ga u m (Qa ⟨HS.1, HS.2.1, hu1, hm4, hm1, hm2, HS.2.2.1, HS.2.2.2⟩))
  clear HD2; intro ga2 z2 m2 HF; have HM2 := Qa (And.intro HF.out.2.2.2.2.1 HF.out.2.2.2.2.2.1); have HD3 := Qa (show D9 w0 z2 gp gt gl gr gw g g /\ Qd z2 ga1 34 (rcF m1) /\ RcK w0.heap.size z2 m1.1 m1.2.1 m1.2.2 /\ Qd z2 ga2 34 (rcF m2) /\ RcK w0.heap.size z2 m2.1 m2.2.1 m2.2.2 from ⟨HF.out.1, HF.out.2.2.2.2.2.2.1, HF.out.2.2.2.2.2.2.2, HF.out.2.2.1, HF.out.2.2.2.1⟩); clear HF; obtain ⟨fine, hfine⟩ : ∃ q, q = (g.get c.n).2 := ⟨_, rfl⟩; rw [<- hfine]; clear hfine; go_wp2_with (with_reducible refine stop_at 150 rfl ?_); refine unstop10 ?_; refine Qns (some 150) (.agg (rcF m1)) rfl (by kernel_rfl) 34 _ rfl (.pointer (some ⟨ga1, 0, none⟩)) rfl (Qyi _ HD3.out.2.1 Tryz.underlying34 rfl Qj) ?_; (try simp only [Act.put, List.setIfInBounds_toArray, List.set]); refine Qns (some 151) (.agg (rcF m2)) rfl (by kernel_rfl) 34 _ rfl (.pointer (some ⟨ga2, 0, none⟩)) rfl (Qyi _ HD3.out.2.2.2.1 Tryz.underlying34 rfl Qj) ?_; (try simp only [Act.put, List.setIfInBounds_toArray, List.set]); refine lst_call (some 152) rfl (by kernel_rfl) 32 #[.agg (rcF m1), .agg (rcF m2)] ?he ((Qwr m1.1 m2.1 m1.2.1 m1.2.2 m2.2.1 m2.2.2 z2 true (Qa ⟨fun _ => HM1.out.1.trans HM2.out.1.symm, fun _ => rfl⟩) HM1.out.2 HM2.out.2 HD3.out.2.2.1.rc HD3.out.2.2.2.2.rc).mono ?_); (case he => go_simp); rintro e w5 ⟨rfl, hb5⟩; have H5 := Qa (D9.later HD3.out.1 hb5); clear hb5 HD3 HM1 HM2; refine ⟨_, rfl, ?_⟩; (try simp only [Act.put, List.setIfInBounds_toArray, List.set]); go_wp2; go_ret; exact ⟨rfl, gl, gw, g, HOK.out, H5.out⟩
end
end
section
section
variable {w0 : World} {gp gt gl gr gw : Nat} {g : Lg}
theorem Qtr (w : World) (c : Wc) (h : D9 w0 w gp gt gl gr gw g g) (ok : g.ok) (hf : c.fits) (hin : Qjb w0 c.m.1 c.m.2.1 c.m.2.2) :
    Calls Tryz.prog 8 #[.pointer (some ⟨gp, 0, none⟩), .agg (wcA c)] w (Qwe w0 gp gt gr) := by
  by_cases h1 : c.k = 1
  · exact does_1 w c h ok hf hin h1
  by_cases h2 : c.k = 2
  · exact does_2 w c h ok hf hin h2
  by_cases h3 : c.k = 3
  · exact does_3 w c h ok hf hin h3
  by_cases h4 : c.k = 4
  · exact does_4 w c h ok hf hin h4
  by_cases h5 : c.k = 5
  · exact does_5 w c h ok hf hin h5
  by_cases h6 : c.k = 6
  · exact does_6 w c h ok hf hin h6
  by_cases h7 : c.k = 7
  · exact does_7 w c h ok hf hin h7
  exact does_0 w c h ok hf hin h1 h2 h3 h4 h5 h6 h7
end
theorem byte_id (s : ByteArray) : (⟨s.data.toList.toArray⟩ : ByteArray) = s := by
  rw [Array.toArray_toList]
theorem opened9 (room : Int) (s : ByteArray) (base : Nat) (w0 w : World) (hbw : Below w0.heap.size w0 w) (hs : s.size <= 20000) (hb : base < 18446744073709551616) :
    Calls Tryz.prog 7 #[.int .i64 room, .string s, .int .u64 (base : Int)] w fun e w' => ∃ gp gt gl gr gw g, e = .returned (.pointer (some ⟨gp, 0, none⟩)) /\ g.ok /\ D9 w0 w' gp gt gl gr gw g g := by
  have hcv := fun w => Lib.run_convert_string_bytes (P := Tryz.prog) w 9 62 5 s Tryz.underlying9 Tryz.underlying62 Tryz.underlying5
  have HBW := Qa hbw; have HSZ := Qa hs; have HTO := Qa (Tp.new_ok room); clear hbw hs; go_enter Tryz.func7, Tryz.ntmps7; go_wp2_with fail; refine (Qms room w).mono ?_; rintro e w1 ⟨rfl, h1, hb1⟩; obtain ⟨gt, hgt⟩ : ∃ gt, gt = w.heap.size := ⟨_, rfl⟩; have H1 := Qa (show Qid w1 gt gt (Tp.new room) /\ w0.heap.size <= gt /\ Below w0.heap.size w0 w1 from ⟨by rw [hgt]; exact h1, by rw [hgt]; exact HBW.out.size, HBW.out.trans (hb1.mono HBW.out.size)⟩); rw [<- hgt]; clear hgt h1 hb1 HBW; go_wp2_with fail; refine (rnew8_any room w1).mono ?_; rintro e w2 ⟨rfl, h2, hb2⟩; obtain ⟨gr, hgr⟩ : ∃ gr, gr = w1.heap.size := ⟨_, rfl⟩; have H2 := Qa (show Qid w2 gt gt (Tp.new room) /\ w0.heap.size <= gt /\ Below w0.heap.size w0 w2 /\ Qed w2 gr (Tp.new room) /\ w0.heap.size <= gr from ⟨H1.out.1.later hb2, H1.out.2.1, H1.out.2.2.trans (hb2.mono H1.out.2.2.size), by rw [hgr]; exact h2, by rw [hgr]; exact H1.out.2.2.size⟩); rw [<- hgr]; clear hgr h2 hb2 H1; obtain ⟨gp, hgp⟩ : ∃ gp, gp = w2.heap.size := ⟨_, rfl⟩; have hb3 : Below w2.heap.size w2 (w2.alloc (.cells #[.pointer (some ⟨gt, 0, none⟩), .pointer none, .pointer (some ⟨gr, 0, none⟩), .pointer none] 44)) := (Below.refl _ _).alloc (Nat.le_refl _) _
  have H3 := Qa (show O9 w0 (w2.alloc (.cells #[.pointer (some ⟨gt, 0, none⟩), .pointer none, .pointer (some ⟨gr, 0, none⟩), .pointer none] 44)) gp gt gr (Tp.new room) (Tp.new room) /\ Qid (w2.alloc (.cells #[.pointer (some ⟨gt, 0, none⟩), .pointer none, .pointer (some ⟨gr, 0, none⟩), .pointer none] 44)) gt gt (Tp.new room) from
    ⟨⟨⟨gt, H2.out.1.later hb3, H2.out.2.1, H2.out.2.1⟩, Qd.later H2.out.2.2.2.1 hb3, H2.out.2.2.2.2, by rw [hgp]; exact H2.out.2.2.1.size, ⟨none, none, by rw [hgp]; exact Qd.new w2 _ _⟩, H2.out.2.2.1.trans (hb3.mono H2.out.2.2.1.size)⟩, H2.out.1.later hb3⟩)
  have HG := Qa H2.out.2.1; have y0 := H3.out.1.p0; rw [hgp] at y0; have HGP := Qa hgp; clear hb3 H2 hgp; go_wp2_with fail; obtain ⟨w3, hw3⟩ : ∃ w3, w3 = w2.alloc (.cells #[.pointer (some ⟨gt, 0, none⟩), .pointer none, .pointer (some ⟨gr, 0, none⟩), .pointer none] 44) := ⟨_, rfl⟩; have hsz : gp + 1 = w3.heap.size := by rw [hw3, World.size_alloc, HGP.out]
  rw [<- HGP.out, <- hw3, hsz]; rw [<- hw3] at H3; clear y0 hw3 HGP hcv; have hbc := Qou w3 5 s; have H4 := Qa (And.intro (H3.out.1.later hbc) (H3.out.2.later hbc)); refine (Qes gt gt (Tp.new room) (some ⟨w3.heap.size, 0, none⟩) s.size _ s.data.toList _ H4.out.2 HTO.out (isB_conv w3 _ s) (fun h => (nomatch h)) (by have := HSZ.out; omega)).mono ?_; rw [byte_id]; rintro e w5 ⟨rfl, gb, h5, hT5, hg5⟩; have H5 := Qa ((H4.out.1.turn H4.out.2 ⟨HG.out, HG.out⟩ hT5 h5 hg5).1); clear hbc h5 hT5 hg5 H3 H4; have y2 := H5.out.p2; go_wp2_with fail; refine (Qvh gr (Tp.new room) s w5 H5.out.doc HTO.out (by have := HSZ.out; omega)).mono ?_; rintro e w6 ⟨rfl, h6, hB6⟩; have H6 := Qa ((H5.out.but hB6 h6).1); clear h6 hB6 H5 y2; have HTA := Qa (Tp.app_ok _ HTO.out s); obtain ⟨q, hq⟩ : ∃ q, q = ((Tp.new room).app s).2 := ⟨_, rfl⟩; rw [<- hq]; clear hq; go_wp2_with fail; refine (open9p ((Tp.new room).app s).1 base w6 H6.out HTA.out hb).mono ?_; rintro e w7 ⟨rfl, gl, gw, h7⟩; have H7 := Qa (And.intro (Lg.open_ok _ HTA.out base) h7); clear h7 H6 HTA; go_wp2; go_ret; exact ⟨gp, gt, gl, gr, gw, _, rfl, H7.out.1, H7.out.2⟩
end
end Go.Proofs.YtdbpbgpcjmomdaaGreat
