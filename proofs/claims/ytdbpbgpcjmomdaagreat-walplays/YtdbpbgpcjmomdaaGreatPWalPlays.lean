/-
  Whatever is appended, written, synced, trimmed, crashed and opened anew, each answer is the document's, and so are the tape's bytes. WalPlays returns true for every input, and its arguments read as before.
  Condition: none but those that the form of every such statement bears by itself (each string within the reach).
-/
import Derived.Test.YtdbpbgpcjmomdaaGreatRows
import Derived.ProofKit
import Derived.OpenShut
import Derived.ShutString
import Derived.SizedLaws
import Derived.JoinedCond
import Derived.Test.YtdbpbgpcjmomdaaGreatK21
import Derived.Test.YtdbpbgpcjmomdaaGreatK22
import Derived.Test.YtdbpbgpcjmomdaaGreatK07
import Derived.Test.YtdbpbgpcjmomdaaGreatK16

set_option maxRecDepth 8000
set_option maxHeartbeats 25600000
namespace Go.Proofs.YtdbpbgpcjmomdaaGreat.walPlays
open Go.RowKit
set_option linter.unusedVariables false
theorem no (room : Int) (base : Nat) (v : Value) (w : World) (hf : ∀ x, Below w.heap.size w x -> Calls Tryz.prog 6 #[v] x (fun e w' => e = .returned (.bool false) /\ x = w')) :
    Calls Tryz.prog 3 #[.int .i64 room, .int .u64 (base : Int), v] w fun e w' => e = .returned (.bool true) /\ Below w.heap.size w w' := by
  have HF := Qa hf; clear hf; go_enter Tryz.func3, Tryz.ntmps3; go_wp2_with fail; refine (Quc w).mono ?_; rintro e w1 ⟨rfl, hb1⟩; have HB := Qa hb1; clear hb1; go_wp2_with fail; refine (HF.out w1 HB.out).mono ?_; rintro e w2 ⟨rfl, rfl⟩; go_wp2_with fail; refine (Quc w1).mono ?_; rintro e w3 ⟨rfl, hb3⟩; have HB3 := Qa (HB.out.trans (hb3.mono HB.out.size)); clear hb3 HB; go_wp2; go_ret; exact ⟨rfl, HB3.out⟩
theorem yes (room : Int) (base : Nat) (v : Value) (cs : List Wc) (w : World) (hs : Scr w v cs) (hl : cs.length <= 100) (hb : base < 18446744073709551616) (hf : ∀ x, Below w.heap.size w x -> Calls Tryz.prog 6 #[v] x (fun e w' => e = .returned (.bool true) /\ x = w')) :
    Calls Tryz.prog 3 #[.int .i64 room, .int .u64 (base : Int), v] w fun e w' => e = .returned (.bool true) /\ Below w.heap.size w w' := by
  have hs' := hs; obtain ⟨⟨a, cap, rfl, -⟩, -, hcap⟩ := hs'; have hcap := hcap _ _ _ rfl; have HS := Qa hs; have HF := Qa hf; have HBS := Qa hb; clear hs hf hb; obtain ⟨ln, hln⟩ : ∃ ln, ln = cs.length := ⟨_, rfl⟩; rw [<- hln] at HS HF hl hcap |-; have HLN := Qa hln; clear hln; go_enter Tryz.func3, Tryz.ntmps3; go_wp2_with fail; refine (Quc w).mono ?_; rintro e w1 ⟨rfl, hb1⟩; have HB := Qa hb1; clear hb1; go_wp2_with fail; refine (HF.out w1 HB.out).mono ?_; rintro e w2 ⟨rfl, rfl⟩; clear HF; go_wp2_with fail; refine (opened9 room ⟨#[]⟩ base w w1 HB.out (by decide) HBS.out).mono ?_; rintro e w3 ⟨gp, gt, gl, gr, gw, g, rfl, ok3, h3⟩; have H3 := Qa (And.intro ok3 h3); clear ok3 h3 HB HBS; go_wp2; go_loopw [24] (fun i wr => ∃ j : Nat, j <= ln /\ i = .int .i64 (j : Int) /\ ∃ gl gw g, Hid (g.ok /\ D9 w wr gp gt gl gr gw g g)) (fun i _ => ln - (intOf i).toNat)
  case atStart => exact ⟨0, Nat.zero_le _, rfl, _, _, _, H3⟩
  case round =>
    obtain ⟨j, hj, rfl, gl, gw, g, HK⟩ := hrel; clear H3
    by_cases hlt : j < ln
    · have ij : (j : Int) < (ln : Int) := by omega
      obtain ⟨b, off, rfl, hld, hft, hin⟩ := HS.out.at HK.out.2.bel (j := j) (by have := HLN.out; omega); obtain ⟨c, hc⟩ : ∃ c, c = cs.getD j Wc.zero := ⟨_, rfl⟩; rw [<- hc] at hld hft hin; clear hc; have HLD := Qa hld; have HFT := Qa (And.intro hft hin); clear hld hft hin; go_wp2_with (refine Qq rfl 36 (.tmp 30) rfl _ _ rfl HLD.out ?_); refine (Qtr wr c HK.out.2 HK.out.1 HFT.out.1 HFT.out.2).mono ?_; rintro e w4 ⟨rfl, gl', gw', g', ok', h4⟩; have H4 := Qa (And.intro ok' h4); clear HK HLD HFT ok' h4; go_wp2_with fail; refine (alike9 w4 H4.out.2 H4.out.1).mono ?_; rintro e w5 ⟨rfl, h5, -⟩; have H5 := Qa (And.intro H4.out.1 h5); clear H4 h5; go_wp2; go_roundw
      case rel => exact ⟨j + 1, by omega, by go_num, _, _, _, H5⟩
      case measure => simp [intOf]; omega
    · have ij : ¬ (j : Int) < (ln : Int) := by omega
      have HOK := Qa HK.out.1; obtain ⟨F, a, cap, ms, -, hR, -⟩ := HK.out.2.logs; have HR := Qa (show D9 w wr.drew gp gt gl gr gw g g /\ RL w.heap.size wr.drew gw gr a cap ms g from ⟨D9.drew HK.out.2, hR.drew⟩); clear HK hR; go_wp2_with fail; refine wp_region_noPanic ?_; refine wp_region_held_drew (S := (fun x => D9 w x gp gt gl gr gw g g /\ RL w.heap.size x gw gr a cap ms g)) (by kernel_rfl) (HR.out) (fun hHeld => ?_); clear HR; refine tkq 0 (some 40) (.pointer (some ⟨gp, 0, none⟩)) hHeld ?_; (try simp only [Act.put, List.setIfInBounds_toArray, List.set]); refine tkq 1 (some 41) (.pointer (some ⟨gp, 0, none⟩)) hHeld ?_; (try simp only [Act.put, List.setIfInBounds_toArray, List.set]); refine tkq 2 (some 42) (.pointer (some ⟨gp, 1, none⟩)) hHeld ?_; (try simp only [Act.put, List.setIfInBounds_toArray, List.set]); refine tkk 3 (some 43) (.pointer (some ⟨gl, 0, none⟩)) rfl rfl (by kernel_rfl) (by kernel_rfl) (fun x hSx => by have h : World.cell? x ⟨gp, 1, none⟩ = some (.pointer (some ⟨gl, 0, none⟩)) := D9.p1 hSx.1; go_simp) hHeld ?_; (try simp only [Act.put, List.setIfInBounds_toArray, List.set]); refine tkq 5 (some 45) (.pointer (some ⟨gp, 0, none⟩)) hHeld ?_; (try simp only [Act.put, List.setIfInBounds_toArray, List.set]); refine tkq 6 (some 46) (.pointer (some ⟨gp, 0, none⟩)) hHeld ?_; (try simp only [Act.put, List.setIfInBounds_toArray, List.set]); refine tkq 7 (some 47) (.pointer (some ⟨gp, 3, none⟩)) hHeld ?_; (try simp only [Act.put, List.setIfInBounds_toArray, List.set]); refine tkk 8 (some 48) (.pointer (some ⟨gw, 0, none⟩)) rfl rfl (by kernel_rfl) (by kernel_rfl) (fun x hSx => by have h : World.cell? x ⟨gp, 3, none⟩ = some (.pointer (some ⟨gw, 0, none⟩)) := D9.p3 hSx.1; go_simp) hHeld ?_; (try simp only [Act.put, List.setIfInBounds_toArray, List.set]); refine tkq 9 (some 49) (.pointer (some ⟨gw, 0, none⟩)) hHeld ?_; (try simp only [Act.put, List.setIfInBounds_toArray, List.set]); refine tkq 10 (some 50) (.pointer (some ⟨gw, 2, none⟩)) hHeld ?_; (try simp only [Act.put, List.setIfInBounds_toArray, List.set]); refine tkk 11 (some 51) (.slice a g.l.length cap) rfl rfl (by kernel_rfl) (by kernel_rfl) (fun x hSx => by have h : World.cell? x ⟨gw, 2, none⟩ = some (.slice a g.l.length cap) := hSx.2.log.cell 2 _ rfl; go_simp) hHeld ?_; (try simp only [Act.put, List.setIfInBounds_toArray, List.set]); refine Qua 4 (by kernel_rfl) ?_; refine Qna (some 44) rfl rfl (by kernel_rfl) 11 #[(.pointer (some ⟨gl, 0, none⟩))] ?he ((drecs hHeld.1 HOK.out).mono ?_)
      (case he => go_simp)
      rintro e yr ⟨⟨ar, cr, ns, rfl, hr1, hr2, hr3⟩, hbr, hdr⟩; have hHeld0 := hHeld; clear hHeld; have hr1 := Qa hr1; have hHeld := And.intro hdr (hHeld0.2.later hbr); clear hHeld0; refine ⟨_, rfl, hHeld, ?_⟩; (try simp only [Act.put, List.setIfInBounds_toArray, List.set]); refine Qua 12 (by kernel_rfl) ?_; refine Qna (some 52) rfl rfl (by kernel_rfl) 10 #[(.slice ar ns.length cr), (.slice a g.l.length cap)] ?he ((Qqk _ _ ns ms yr hr1.out (by rw [<- hHeld.2.len]; exact hHeld.2.recs.rs) (hr2.trans hHeld.2.same.symm) hr3).mono ?_); (case he => go_simp); rintro e yl ⟨rfl, hbl⟩; have hHeld0 := hHeld; clear hHeld; have hHeld := And.intro (D9.later hHeld0.1 hbl) (hHeld0.2.later hbl); clear hHeld0; refine ⟨_, rfl, hHeld, ?_⟩; (try simp only [Act.put, List.setIfInBounds_toArray, List.set]); refine tkq 13 (some 6) (.bool true) hHeld ?_; (try simp only [Act.put, List.setIfInBounds_toArray, List.set]); refine wpAnyH_done (by kernel_rfl) ?_ _; refine NoPanic.normal ?_; have HL := Qa hHeld.1.bel; clear hHeld; go_wp2; go_ret; exact ⟨rfl, HL.out⟩
theorem walk (a0 : Int) (a1 : Int) (v : Value) (cs : List Wc) (w : World) (w0 : (Lit.int .i64 a0).wf = true) (w1 : (Lit.int .u64 a1).wf = true) (h1 : Qsc wcA Wc.zero 17 w v cs) (_ : cs.length <= maxLen) (h3 : ∀ c ∈ cs, c.fits /\ Qjb w c.m.1 c.m.2.1 c.m.2.2) (h4 : ∀ a len cap, v = .slice a len cap -> len <= cap) :
    Calls Tryz.prog 3 #[.int .i64 a0, .int .u64 a1, v] w fun e w' => e = .returned (.bool true) /\ Below w.heap.size w w' := by
  obtain ⟨n, rfl⟩ := Int.eq_ofNat_of_zero_le (bounds_u64 w1).1
  rcases Qbs v cs w ⟨h1, h3, h4⟩ with ⟨hl, hf⟩ | hf
  · exact yes a0 n v cs w ⟨h1, h3, h4⟩ hl (Qmg w1) hf
  · exact no a0 n v w hf
end Go.Proofs.YtdbpbgpcjmomdaaGreat.walPlays
namespace Go.Proofs.YtdbpbgpcjmomdaaGreat.walPlays
open Go.ChangeShapes Go.WideShapes Go.ChangeAt Go.RowKit
open Go.ChangeMaps (open_string shut_string)
set_option linter.unusedVariables false

theorem Qkp : laidOutB Tryz.prog = true := by kernel_rfl
theorem own : ownKnob Tryz.prog.godebug = none := by kernel_rfl

set_option maxRecDepth 100000 in
theorem lifted (os : Os) (started : os.Started) (H : Type) (enc : TypeId × Value -> H) :
    ReturnsInHanded {} Tryz.checked os 3 .any (Rows.walPlaysSpec.pre6 enc Tryz.prog Tryz.f3 Rows.walPlaysRow.domain false) (Rows.walPlaysSpec.post enc Tryz.prog Tryz.f3 false true false false) := by
  refine returnsInHanded_of_change_sized (C := Tryz.checked) own started (by kernel_rfl) Tryz.func3
    (ChangeSpec.witness6 (enc := enc) (C := Tryz.checked) false ⟨#[], #[.int .i64 0, .int .u64 0, .slice none 0 0], []⟩ 8 (by kernel_rfl) (by kernel_rfl) (by kernel_rfl) (by kernel_rfl)) ?_
  intro W base args ds gs before hval0 hW hcnd hsz0 _
  have hval : ∀ (j : Nat) t v, Tryz.f3.params[j]? = some t -> args[j]? = some v -> Value.okWide Tryz.prog W .any base t v := hval0
  have hsz : (DataW.weightsEach Tryz.prog (Tryz.f3.params.toList ++ Rows.walPlaysSpec.plain.varTypes Tryz.prog) (ds ++ gs)).all (· <= reachBytes) = true := hsz0
  have hW' := hW
  obtain ⟨p, q, hA0, hV, rfl, hfz, hnd⟩ := hW
  have hA : DataW.TrodAll enc Tryz.prog W 0 (fun _ => true) true Tryz.f3.params.toList args.toList ds p := hA0
  rw [Tryz.params3] at hA hval hsz
  obtain ⟨v0, vs0, d0, ds0, p0, q0, hargs, rfl, rfl, h0, r0⟩ := trodAll_cons hA
  obtain ⟨v1, vs1, d1, ds1, p1, q1, rfl, rfl, rfl, h1, r1⟩ := trodAll_cons r0
  obtain ⟨v2, vs2, d2, ds2, p2, q2, rfl, rfl, rfl, h2, r2⟩ := trodAll_cons r1
  obtain ⟨rfl, rfl, rfl⟩ := trodAll_nil r2
  obtain rfl : args = #[v0, v1, v2] := by cases args; simp_all
  obtain ⟨rfl, rfl⟩ := trodVars_none hV
  obtain ⟨a0, rfl, rfl, rfl, w0⟩ := open_int Tryz.underlying3 (hval 0 3 v0 rfl rfl) h0
  obtain ⟨a1, rfl, rfl, rfl, w1⟩ := open_int Tryz.underlying22 (hval 1 22 v1 rfl rfl) h1
  have k2 := h2
  have lt2 := Qoj h2
  obtain ⟨m2, w2a, w2b, w2c, w2d⟩ := op_wcs (hval 2 23 v2 rfl rfl) h2
  clear hA0 hval0 hsz0 hsz
  refine (walk a0 a1 v2 m2 W w0 w1 w2a w2b w2c w2d).mono fun e W' ⟨he, bel⟩ => ?_
  subst he
  exact ⟨_, rfl, _, _, _, [], _, [], hW', trodAll_mk1 (shut_bool Tryz.underlying4 _), (trodAll_cons_mk (shut_int Tryz.underlying3 w0) (trodAll_cons_mk (shut_int Tryz.underlying22 w1) (trodAll_cons_mk (Below.trod Qkp (by kernel_rfl) (of_decide_eq_true (by kernel_rfl)) k2 bel lt2) trodAll_mk0))), rfl, bel.frame _, fun h => by cases h⟩

theorem over : Rows.walPlaysRow.holds Tryz.pinned (OpenSpec.ofChange Rows.walPlaysSpec) :=
  OpenClaim.holds_of_wide 3 Tryz.f3 rfl rfl rfl rfl rfl rfl rfl ⟨rfl, rfl, rfl, rfl, rfl⟩ rfl rfl rfl rfl rfl (by kernel_rfl) Tryz.func3 (by kernel_rfl)
    (of_decide_eq_true (by kernel_rfl)) (by unfold Func.isWrapper; first | (rw [if_pos (by decide +kernel)]; kernel_rfl) | (rw [if_neg (by decide +kernel)]; exact ⟨rfl, rfl⟩))
    (fun os started H enc _ => lifted os started H enc)

/-- THE STATEMENT. -/
theorem proved : Rows.WalPlaysSaid := over
end Go.Proofs.YtdbpbgpcjmomdaaGreat.walPlays
namespace Go.Proofs.YtdbpbgpcjmomdaaGreat
theorem walPlays_proved : Rows.WalPlaysSaid := walPlays.proved
end Go.Proofs.YtdbpbgpcjmomdaaGreat
