/-
  In what is played of any acts, what takes a transaction back that is under way can be applied to the pages, in its order, and leaves each cell that it changed as it was ahead of it. TxnUndoes returns true for every input, and its arguments read as before.
  Condition: none but those that the form of every such statement bears by itself (each string within the reach).
-/
import Derived.Test.YtohdmmfmjadipaaRows
import Derived.ProofKit
import Derived.OpenShut
import Derived.ShutString
import Derived.SizedLaws
import Derived.JoinedCond
import Derived.Test.YtohdmmfmjadipaaK09
import Derived.Test.YtohdmmfmjadipaaK10
import Derived.Test.YtohdmmfmjadipaaK06

set_option maxRecDepth 8000
set_option maxHeartbeats 25600000
namespace Go.Proofs.Ytohdmmfmjadipaa.txnUndoes
open Go.RowKit
set_option linter.unusedVariables false
theorem u8_nat15 {i : Int} (h : (Lit.int .u8 i).wf = true) : ∃ n : Nat, i = (n : Int) /\ n < 256 := by
  have h2 : 0 <= i /\ i <= 255 := by simpa [Lit.wf, IntKind.min, IntKind.max, IntKind.signed, IntKind.bits] using h
  exact ⟨i.toNat, by omega, by omega⟩
theorem share2 {F G : Nat -> World -> Prop} {R : Prop} (h : (∀ g z, F g z -> G g z) -> R) (k : ∀ g z, F g z -> G g z) : R := h k
theorem rec_at {w : World} {a : Option Addr} {len c : Nat} {l : List Rec} (h : LogIn w (.slice a len c) (Qla l)) {i : Nat} (hi : i < l.length) : ∃ b off, a = some ⟨b, off, none⟩ /\ ∀ x, Below w.heap.size w x -> x.cell? ⟨b, off + i * 14, none⟩ = some (.int .i64 (l.getD i Rec.zero).k) /\ x.cell? ⟨b, off + i * 14 + 2, none⟩ = some (.int .i64 (l.getD i Rec.zero).t) /\ (Instr.loadAt 26 (.pointer (some ⟨b, off + i * 14 + 4, none⟩))).run Try.prog x = .ok (.agg (chA (l.getD i Rec.zero).c)) x := by
  obtain ⟨b, off, e, _, he, hx⟩ := h.mid (show i < (Qla l).length by rw [Qie]; exact hi); rw [Qve] at he; refine ⟨b, off, e, fun x hb => ?_⟩; have hr := (hx x hb).1
  refine ⟨?_, ?_, ?_⟩
  · have := hr 0 (.int .i64 ((Qla l).getD i rcZ).1.k) rfl; rw [he] at this; exact this
  · have := hr 2 (.int .i64 ((Qla l).getD i rcZ).1.t) rfl; rw [he] at this; exact this
  · have := Qhj x b (off + i * 14) _ hr; rw [he] at this; exact this
theorem Quv {l : List Rec} {j : Nat} (hj : j < l.length) : l.getD j Rec.zero ∈ l := by
  rw [List.getD_eq_getElem?_getD, List.getElem?_eq_getElem hj]; exact List.getElem_mem hj
theorem Qxv {l : List Rec} {j : Nat} (hj : j < l.length) : l = l.take j ++ l.getD j Rec.zero :: l.drop (j + 1) := by
  rw [<- Qjk l j hj Rec.zero, List.take_append_drop]
theorem open_take {l : List Rec} {t : Int} {j : Nat} (hj : j < l.length) (h : Qqi (l.take j) t) (hn : ¬ ((l.getD j Rec.zero).t = t /\ ((l.getD j Rec.zero).k = 3 ∨ (l.getD j Rec.zero).k = 5))) : Qqi (l.take (j + 1)) t := by
  rw [Qjr l j hj]; intro r hr ht
  rcases List.mem_append.1 hr with hr | hr
  · exact h r hr ht
  · rw [List.mem_singleton.1 hr] at ht |-; exact ⟨fun q => hn ⟨ht, .inl q⟩, fun q => hn ⟨ht, .inr q⟩⟩
theorem was_at {h : Hs} {l p : List Rec} {t : Int} {N j : Nat} (H : Undone h l p t N) (hj : j < l.length) (ht : (l.getD j Rec.zero).t = t) (hk : (l.getD j Rec.zero).k = 1) (hf : Qif (l.take j) t (Qfa (l.getD j Rec.zero).c) = false) :
    Qde (Qbe h.pg (chs p)) (Qfa (l.getD j Rec.zero).c) = ((l.getD j Rec.zero).c.wantU, (l.getD j Rec.zero).c.wantV) :=
  H.was _ _ _ (Qxv hj) ht hk (Qwv hf)
theorem fA_zero : (#[.bool false, .bool false, .bool false, .bool false, .bool false, .bool false, .bool false, .bool false, .bool false, .bool false, .bool false, .bool false, .bool false, .bool false, .bool false, .bool false, .bool false, .bool false, .bool false, .bool false, .bool false, .bool false, .bool false, .bool false, .bool false, .bool false, .bool false, .bool false, .bool false, .bool false, .bool false, .bool false] : Array Value) = fA (Qif [] 0) := by kernel_rfl
theorem Qtt {P : Program} {ops : Array Oper} {S : World -> Prop} {o : Oper} {a : Act} (hw : Region.wanted o (yielded ops a.tmps) = true) (op : BinOp) (t r : TypeId) (x y : Operand) (ho : o.op = .binOp op t x y r) (u v z : Value) (hu : a.eval x = u) (hv : a.eval y = v) (hg : ∀ w, S w -> (eqGuard op t x y u v).run P w = .ok () w) (hz : ∀ w, S w -> (binOp op t u v).run P w = .ok z w) : YieldsIf P ops S o z a :=
  .inl ⟨hw, fun w hC => by unfold execOp; simp only [ho, hu, hv, Sem.run_bind, hg w hC, hz w hC, Result.andThen_ok, Sem.run_pure]⟩
theorem fA_none (t : Int) : fA (Qif [] t) = fA (Qif [] 0) := rfl
theorem walk (v0 : Value) (l : List Ac) (a1 t : Int) (W : World) (ha : Qzo W v0 l) (hw1 : (Lit.int .u8 a1).wf = true) (hw2 : (Lit.int .i64 t).wf = true) :
    Calls Try.prog 8 #[v0, .int .u8 a1, .int .i64 t] W fun e w' => e = .returned (.bool true) /\ Below W.heap.size W w' := by
  obtain ⟨m, rfl, hm⟩ := u8_nat15 hw1; clear hw1 hw2; have HAW := Qd (fun w => awake15 w); have HA := Qd ha; obtain ⟨⟨aa, ca, rfl, -⟩, hmx, -, -⟩ := ha; have hb' : l.length <= 9223372036854775807 := hmx; clear hmx
  by_cases hbig : 300 < l.length
  · obtain ⟨ln, hln⟩ : ∃ ln, ln = l.length := ⟨_, rfl⟩; rw [<- hln] at hbig hb' HA |-; clear hln; have i1 : (ln : Int) > 300 := by omega
    go_enter Try.func8, Try.ntmps8; go_wp2_with fail; refine (HAW.out W).mono ?_; rintro e w1 ⟨rfl, hb1⟩; have H1 := Qd hb1; clear hb1; go_wp2_with fail; refine (HAW.out w1).mono ?_; rintro e w2 ⟨rfl, hb2⟩; have H2 := Qd (H1.out.trans (hb2.mono H1.out.size)); clear hb2 H1; go_wp2; go_ret; exact ⟨rfl, H2.out⟩
  · have HPL := Qd (fun w (h : Below W.heap.size W w) => hplay15 w aa l.length ca l (HA.out.below h) (by omega)); have hok := Hs.play_ok l (by omega); obtain ⟨h, hh⟩ : ∃ h, h = Hs.play l := ⟨_, rfl⟩; rw [<- hh] at HPL hok; obtain ⟨n, hn0⟩ : ∃ n, n = m % 3 := ⟨_, rfl⟩; have hn : n < 3 := by omega
    have in3 : (n : Int) < 3 := by omega
    have hmod : ((m : Int)).tmod 3 = (n : Int) := by
      rw [Int.tmod_eq_emod_of_nonneg (by omega)]; omega
    have hR := hok.rise n hn; have hlen : (h.lg n).length <= 600 := Nat.le_trans (hok.len hn) (by omega); obtain ⟨M, hM⟩ : ∃ M, M = 2 * l.length := ⟨_, rfl⟩; have hM6 : M <= 600 := by omega
    rw [<- hM] at hok; have hund := fun ho : Qqi (h.lg n) t => hok.undone hn ho
    have hpg := fun r (hr : r ∈ h.lg n) => (hok.recs n hn r hr).2.2.2
    obtain ⟨lg, hlg⟩ : ∃ lg, lg = h.lg n := ⟨_, rfl⟩; have HLG := Qd hlg; rw [<- hlg] at hR hlen hund hpg; have HPGS := Qd hpg; have HRI := Qd (Qga lg 0 hR)
    have hfew : (Qcf lg t 0).length <= 600 := by
      have h1 := Qvm hR 0 _ (Qca lg (Qfd lg t)) (Nat.le_refl _) (Qbc hR _); unfold Qcf; omega
    have HR : Hid (Qob 0 lg) := hR; obtain ⟨p, hpp⟩ : ∃ p, p = Qcf lg t 0 := ⟨_, rfl⟩; rw [<- hpp] at hfew hund; have HPP := Qd hpp; have HUND := Qd hund; obtain ⟨ln, hln⟩ : ∃ ln, ln = l.length := ⟨_, rfl⟩; rw [<- hln] at hbig hb' HA HPL |-; clear hln hh hok hlg hR hpp hn0 HA hund hpg hM; have i1 : ¬ (ln : Int) > 300 := by omega
    go_enter Try.func8, Try.ntmps8; go_wp2_with fail; refine (HAW.out W).mono ?_; rintro e w1 ⟨rfl, hb1⟩; have H1 := Qd hb1; clear hb1 HAW; go_wp2_with fail; refine (HPL.out w1 H1.out).mono ?_; rintro e w2 ⟨g, F, rfl, hHB, hb2⟩; have H2 := Qd (H1.out.trans (hb2.mono H1.out.size)); obtain ⟨gl, a, c, c0, c1, hlog⟩ := hHB.logs hn (by rw [<- HLG.out]; omega); obtain ⟨gp, c2, hp4⟩ := hHB.four; have HP4 := Qd hp4; have HC2 := Qd (fun x (hb : Below w2.heap.size w2 x) => (hb.cell (hHB.here hHB.mine).2).trans c2); rw [<- HLG.out] at c1 hlog; have HLO := Qd hlog; have HP0 := Qd (fun w (h : Below w2.heap.size w2 w) => Plan15 _ (Qla lg) t 0 w (HLO.out.below h)); rw [show ((0 : Nat) : Int) = 0 from rfl, Qve] at HP0; have HLR := Qd (fun (i : Nat) (hi : i < lg.length) => rec_at HLO.out hi); obtain ⟨lgn, hlgn⟩ : ∃ k, k = lg.length := ⟨_, rfl⟩; have HLN := Qd hlgn; rw [<- hlgn] at c1 hlen HP0 HLR; clear hHB hb2 hlog H1 HPL HLG hlgn hp4 c2; go_wp2; go_loopw [44] (fun i wr => ∃ j : Nat, j <= lgn /\ i = .int .i64 (j : Int) /\ w2 = wr /\ Hid (Qqi (lg.take j) t)) (fun i _ => lgn - (intOf i).toNat)
    case atStart => exact ⟨0, Nat.zero_le _, rfl, rfl, fun r hr => (nomatch hr)⟩
    case round =>
      obtain ⟨j, hj, rfl, rfl, HOP⟩ := hrel
      by_cases hlt : j < lgn
      · have i5 : (j : Int) < (lgn : Int) := by omega
        have i6 : (0 : Int) <= (j : Int) := by omega
        have j9 : j < 1000 := by omega
        obtain ⟨b, off, rfl, hx⟩ := HLR.out j hlt; obtain ⟨k0, k2, -⟩ := hx _ (Below.refl _ _); have HNX := Qd (fun q => open_take (l := lg) (t := t) (by rw [<- HLN.out]; exact hlt) HOP.out q); clear hx HOP; obtain ⟨rk, hrk⟩ : ∃ k, k = (lg.getD j Rec.zero).k := ⟨_, rfl⟩; obtain ⟨rt, hrt⟩ : ∃ k, k = (lg.getD j Rec.zero).t := ⟨_, rfl⟩; rw [<- hrk, <- hrt] at HNX; rw [<- hrk] at k0; rw [<- hrt] at k2; clear hrk hrt
        by_cases ht : rt = t
        · subst ht
          by_cases h3 : rk = 3
          · subst h3; go_wp2; go_ret; exact ⟨rfl, H2.out⟩
          · have e3 : (rk == 3) = false := by simpa using h3
            by_cases h5 : rk = 5
            · subst h5; go_wp2; go_ret; exact ⟨rfl, H2.out⟩
            · have e5 : (rk == 5) = false := by simpa using h5
              have HN2 := Qd (HNX.out (fun q => q.2.elim h3 h5)); clear HNX h3 h5; go_wp2; go_roundw
              case rel => exact ⟨j + 1, by omega, by go_num, trivial, HN2.out⟩
              case measure => simp [intOf] <;> omega
        · have et : (rt == t) = false := by simpa using ht
          have HN2 := Qd (HNX.out (fun q => ht q.1)); clear HNX ht; go_wp2; go_roundw
          case rel => exact ⟨j + 1, by omega, by go_num, trivial, HN2.out⟩
          case measure => simp [intOf] <;> omega
      · have i5 : ¬ (j : Int) < (lgn : Int) := by omega
        have HU := Qd (HUND.out (by
          have h1 := HOP.out; rw [show j = lg.length by rw [<- HLN.out]; omega, List.take_length] at h1
          exact h1))
        clear HUND HOP hlt; go_wp2_with fail; refine (HP0.out w2 (Below.refl _ _)).mono ?_; rintro e w3 ⟨hcase, hb3⟩; rcases hcase with ⟨-, vp, rfl, hown⟩ | ⟨hr, -⟩
        rotate_left
        · exact absurd HR.out hr
        rw [<- HPP.out] at hown; obtain ⟨ap, cp, rfl⟩ := Qwb hown.1; have hin := hown.log (by omega); have HPR := Qd (fun (i : Nat) (hi : i < p.length) => rec_at hin hi); obtain ⟨lp, hlp⟩ : ∃ k, k = p.length := ⟨_, rfl⟩; have HLP := Qd hlp; rw [<- hlp] at HPR hfew |-; have H3 := Qd (H2.out.trans (hb3.mono H2.out.size))
        have HLX := Qd (fun i hi => (by
          obtain ⟨b, off, e, hx⟩ := HLR.out i hi
          exact ⟨b, off, e, fun x hb => hx x (hb3.trans (hb.mono hb3.size))⟩ : ∃ b off, a = some ⟨b, off, none⟩ /\ ∀ x, Below w3.heap.size w3 x -> x.cell? ⟨b, off + i * 14, none⟩ = some (.int .i64 (lg.getD i Rec.zero).k) /\ x.cell? ⟨b, off + i * 14 + 2, none⟩ = some (.int .i64 (lg.getD i Rec.zero).t) /\ (Instr.loadAt 26 (.pointer (some ⟨b, off + i * 14 + 4, none⟩))).run Try.prog x = .ok (.agg (chA (lg.getD i Rec.zero).c)) x))
        have cg := HC2.out (w3.alloc (.cells #[] 77)) (hb3.trans (((Below.refl w3.heap.size w3).alloc (Nat.le_refl _) _).mono hb3.size)); obtain ⟨gq, cq, w4, r1, hgq, hcq, hP4, hb4⟩ := (HP4.out.later hb3).copy 54; clear hown hin hlp hb3 H2 HP0 HR HPP HLR HC2 HP4 c0 c1; go_wp2_with (with_reducible refine Qia 84 rfl ?_); clear cg; refine Qj ?_; refine Lib.wpList_append_run _ rfl _ _ _ _ rfl _ _ rfl rfl _ _ r1 ?_; clear r1; have HM := Qd (show M + (chs p).length <= 1000000 by rw [Qsj, <- HLP.out]; omega); have HS4 : Hid (P4 w4 gq (Qbe h.pg ((chs p).take 0)) /\ Below w3.heap.size w3 w4) := ⟨hP4, hb4⟩; have c4 : (4 : Int) <= (cq : Int) := by omega
        have HGQ := Qd hgq; clear hP4 hb4 hgq hcq; go_wp2; go_loopw [87] (fun i wr => ∃ j : Nat, j <= lp /\ i = .int .i64 (j : Int) /\ Hid (P4 wr gq (Qbe h.pg ((chs p).take j)) /\ Below w3.heap.size w3 wr)) (fun i _ => lp - (intOf i).toNat)
        case atStart => exact ⟨0, Nat.zero_le _, rfl, HS4.out⟩
        case round =>
          obtain ⟨j, hj, rfl, HJ⟩ := hrel; clear HS4
          by_cases hlt : j < lp
          · have i5 : (j : Int) < (lp : Int) := by omega
            have i6 : (0 : Int) <= (j : Int) := by omega
            have j9 : j < 1000 := by omega
            obtain ⟨b, off, rfl, hx⟩ := HPR.out j hlt; obtain ⟨-, -, hld⟩ := hx _ HJ.out.2; have hjl : j < (chs p).length := by rw [Qsj, <- HLP.out]; exact hlt
            obtain ⟨pp, hft⟩ := HU.out.fit.at HM.out j hjl; rw [chs_get p j (by rw [<- HLP.out]; exact hlt)] at hft; obtain ⟨C, hC⟩ : ∃ C, C = (p.getD j Rec.zero).c := ⟨_, rfl⟩; rw [<- hC] at hld hft; obtain ⟨X, hX⟩ : ∃ X, X = Qbe h.pg ((chs p).take j) := ⟨_, rfl⟩; obtain ⟨p1, p2, p3, p4, p5, p6⟩ := hft; rw [<- hX] at p4 p5 p6 HJ; obtain ⟨lo, hlo⟩ : ∃ q, q = (X pp).l := ⟨_, rfl⟩; have clo := HJ.out.1.lsn pp p1; rw [<- hlo] at p4 p5 p6 clo; obtain ⟨Z, hZ⟩ : ∃ Z, Z = Qsp (X pp) C (lo + 1) := ⟨_, rfl⟩; rw [<- hZ] at p5; have HUP := Qd p5
            have HAP : Hid (∀ x, Calls Try.prog 26 #[.agg (pgA (X pp)), .agg (chA C), .int .u64 ((lo : Int) + 1)] x fun e w' => e = .returned (.tuple #[.agg (pgA Z), .int .i64 0]) /\ Below x.heap.size x w') := fun x => by
              have h1 := apply_any (X pp) C (lo + 1) x (by omega); rw [p4, <- hZ, show ((lo + 1 : Nat) : Int) = (lo : Int) + 1 by omega] at h1; exact h1
            have HPG := Qd p2; have hlo2 := hlo; have HLD := Qd hld; clear hx hjl hC hX hlo hZ p2 p3 p4 p5 hld; go_wp2_with (first | (refine Qr rfl 26 (.tmp 93) rfl _ (.agg (chA C)) rfl HLD.out ?_) | (refine Qc rfl 26 (.tmp 15) (.tmp 94) rfl wr.heap.size (chA Ch.zero) (chA C) rfl rfl (Qb.new wr 26 (chA Ch.zero)) Qq rfl (Qpa _) ?_; intro w5 hr5 hk5 hrow5; refine Qha ?_)); have hZ5 : P4 w5 gq X := (HJ.out.1.later ((Below.refl _ _).alloc (Nat.le_refl _) _)).keep (fun cs hr => hrow5 gq _ _ (Nat.ne_of_lt HJ.out.1.lt) hr); have hb5 := hk5 w3.heap.size w3 (HJ.out.2.alloc HJ.out.2.size _) HJ.out.2.size; have hne5 : gq ≠ wr.heap.size := Nat.ne_of_lt HJ.out.1.lt; obtain ⟨gC, hgC⟩ : ∃ q, q = wr.heap.size := ⟨_, rfl⟩; rw [<- hgC] at hr5 hne5 |-; have hgC3 : w3.heap.size <= gC := by rw [hgC]; exact HJ.out.2.size
            have H5 : Hid (P4 w5 gq X /\ Qb w5 gC 26 (chA C) /\ Below w3.heap.size w3 w5 /\ gq ≠ gC) := ⟨hZ5, hr5, hb5, hne5⟩; clear hr5 hk5 hrow5 hZ5 hb5 hne5 hgC hgC3 HLD HJ clo; refine Qj ?_; go_wp2_with fail; have HD : Hid (P4 w5.drew gq X /\ Qb w5.drew gC 26 (chA C) /\ Below w3.heap.size w3 w5.drew /\ gq ≠ gC) := Qd ⟨H5.out.1, H5.out.2.1, Qo H5.out.2.2.1 1, H5.out.2.2.2⟩; clear H5; have ilt : (pp : Int) < 4 := by omega
            have ige : (0 : Int) <= (pp : Int) := by omega
            have lo9 : lo <= 2000 := by omega
            have HCP : Hid (∀ x, Qb x gC 26 (chA C) -> x.cell? ⟨gC, 1, none⟩ = some (.int .i64 (pp : Int))) := fun x hx => by
              have h1 := hx.cell 1 (.int .i64 C.pg) rfl; rw [HPG.out] at h1; exact h1
            have HLO2 := Qd hlo2; clear hlo2; apply share2 (F := fun g z => Hid (P4 z gq X /\ Qb z gC 26 (chA C) /\ Qoe z g Z /\ Below w3.heap.size w3 z /\ gq ≠ g))
            (case h =>
              intro REST; refine wp_region_noPanic ?_; refine wp_region_held_drew (S := fun z => P4 z gq X /\ Qb z gC 26 (chA C)) (by kernel_rfl) (⟨HD.out.1, HD.out.2.1⟩) (fun hHeld => ?_); refine tkq 0 (some 96) (.slice (some ⟨gq, 0, none⟩) 4 cq) hHeld ?_; (try simp only [Act.put, List.setIfInBounds_toArray, List.set]); refine tkq 1 (some 97) (.pointer (some ⟨gC, 1, none⟩)) hHeld ?_; (try simp only [Act.put, List.setIfInBounds_toArray, List.set]); refine tkk 2 (some 98) (.int .i64 (pp : Int)) rfl rfl (by kernel_rfl) (by kernel_rfl) (fun x hSx => by have h := HCP.out x hSx.2; go_simp) hHeld ?_; (try simp only [Act.put, List.setIfInBounds_toArray, List.set]); refine tkq 3 (some 99) (.pointer (some ⟨gq, pp * 17, none⟩)) hHeld ?_; (try simp only [Act.put, List.setIfInBounds_toArray, List.set]); refine Qa 4 (some 100) (.agg (pgA (X pp))) rfl rfl (by kernel_rfl) (by kernel_rfl) (by kernel_rfl) (fun _ _ _ h => h) (Qp (by kernel_rfl) 77 _ rfl (.pointer (some ⟨gq, pp * 17, none⟩)) rfl _ (fun x hSx => hSx.1.page pp p1)) hHeld ?_; (try simp only [Act.put, List.setIfInBounds_toArray, List.set]); refine Qa 5 (some 101) (.agg (chA C)) rfl rfl (by kernel_rfl) (by kernel_rfl) (by kernel_rfl) (fun _ _ _ h => h) (Qp (by kernel_rfl) 26 _ rfl (.pointer (some ⟨gC, 0, none⟩)) rfl _ (fun x hSx => Qdk x gC C hSx.2)) hHeld ?_; (try simp only [Act.put, List.setIfInBounds_toArray, List.set]); refine tkq 6 (some 102) (.slice (some ⟨gq, 0, none⟩) 4 cq) hHeld ?_; (try simp only [Act.put, List.setIfInBounds_toArray, List.set]); refine tkq 7 (some 103) (.pointer (some ⟨gC, 1, none⟩)) hHeld ?_; (try simp only [Act.put, List.setIfInBounds_toArray, List.set]); refine tkk 8 (some 104) (.int .i64 (pp : Int)) rfl rfl (by kernel_rfl) (by kernel_rfl) (fun x hSx => by have h := HCP.out x hSx.2; go_simp) hHeld ?_; (try simp only [Act.put, List.setIfInBounds_toArray, List.set]); refine tkq 9 (some 105) (.pointer (some ⟨gq, pp * 17, none⟩)) hHeld ?_; (try simp only [Act.put, List.setIfInBounds_toArray, List.set]); refine tkq 10 (some 106) (.pointer (some ⟨gq, pp * 17, none⟩)) hHeld ?_; (try simp only [Act.put, List.setIfInBounds_toArray, List.set]); refine tkk 11 (some 107) (.int .u64 (lo : Int)) rfl rfl (by kernel_rfl) (by kernel_rfl) (fun x hSx => by have h := hSx.1.lsn pp p1; rw [<- HLO2.out] at h; go_simp) hHeld ?_; (try simp only [Act.put, List.setIfInBounds_toArray, List.set]); refine tkk 12 (some 108) (.int .u64 ((lo : Int) + 1)) rfl rfl (by kernel_rfl) (by kernel_rfl) (fun x hSx => by have e : IntKind.u64.wrap ((lo : Int) + 1) = (lo : Int) + 1 := (by rw [IntKind.wrap_u64]; omega); go_simp) hHeld ?_
              (try simp only [Act.put, List.setIfInBounds_toArray, List.set])
              refine Qkd 13 17 (by kernel_rfl) ?_ ?_
              · skip; refine Qwa (some 109) rfl rfl rfl 26 #[.agg (pgA (X pp)), .agg (chA C), .int .u64 ((lo : Int) + 1)] ?he ((HAP.out _).mono ?_); (case he => go_simp); rintro e w6 ⟨rfl, hb6⟩; have H6 : Hid (P4 w6 gq X /\ Qb w6 gC 26 (chA C) /\ Below w3.heap.size w3 w6) := Qd ⟨HD.out.1.later hb6, HD.out.2.1.later hb6, HD.out.2.2.1.trans (hb6.mono HD.out.2.2.1.size)⟩; have hHeld6 := And.intro H6.out.1 H6.out.2.1; clear hb6; refine ⟨_, rfl, hHeld6, ?_⟩; (try simp only [Act.put, List.setIfInBounds_toArray, List.set]); refine Qa 14 (some 95) (.tuple #[.agg (pgA Z), .int .i64 0]) rfl rfl (by kernel_rfl) (by kernel_rfl) (by kernel_rfl) (fun _ _ _ h => h) (Or.inl ⟨by kernel_rfl, fun x hSx => by go_simp⟩) hHeld6 ?_; (try simp only [Act.put, List.setIfInBounds_toArray, List.set]); refine Qa 15 (some 110) (.agg (pgA Z)) rfl rfl (by kernel_rfl) (by kernel_rfl) (by kernel_rfl) (fun _ _ _ h => h) (Or.inl ⟨by kernel_rfl, fun x hSx => by go_simp⟩) hHeld6 ?_; (try simp only [Act.put, List.setIfInBounds_toArray, List.set]); refine Qa 16 (some 111) (.int .i64 0) rfl rfl (by kernel_rfl) (by kernel_rfl) (by kernel_rfl) (fun _ _ _ h => h) (Or.inl ⟨by kernel_rfl, fun x hSx => by go_simp⟩) hHeld6 ?_; (try simp only [Act.put, List.setIfInBounds_toArray, List.set]); refine Qg 17 (by kernel_rfl) ?_; refine Qm (some 16) rfl rfl rfl (.pointer (some ⟨w6.heap.size, 0, none⟩)) (w6.alloc (.cells (pgA Pg.zero) 77)) ?hz ?_; (case hz => go_simp; rfl); have hbA : Below w6.heap.size w6 (w6.alloc (.cells (pgA Pg.zero) 77)) := (Below.refl _ _).alloc (Nat.le_refl _) _; have H7 : Hid (P4 (w6.alloc (.cells (pgA Pg.zero) 77)) gq X /\ Qb (w6.alloc (.cells (pgA Pg.zero) 77)) gC 26 (chA C) /\ Below w3.heap.size w3 (w6.alloc (.cells (pgA Pg.zero) 77)) /\ gq ≠ w6.heap.size /\ gC ≠ w6.heap.size /\ w3.heap.size <= w6.heap.size) := Qd ⟨H6.out.1.later hbA, H6.out.2.1.later hbA, H6.out.2.2.trans (hbA.mono H6.out.2.2.size), Nat.ne_of_lt H6.out.1.lt, Nat.ne_of_lt H6.out.2.1.lt, H6.out.2.2.size⟩; have hZ7 := Qb.new w6 77 (pgA Pg.zero); clear hbA H6 hHeld6; obtain ⟨z7, hz7⟩ : ∃ z, z = w6.alloc (.cells (pgA Pg.zero) 77) := ⟨_, rfl⟩; obtain ⟨gz, hgz⟩ : ∃ z, z = w6.heap.size := ⟨_, rfl⟩; rw [<- hz7, <- hgz] at H7 hZ7 |-; clear hz7 hgz; refine ⟨⟨H7.out.1, H7.out.2.1⟩, ?_⟩; (try simp only [Act.put, List.setIfInBounds_toArray, List.set]); refine Qg 18 (by kernel_rfl) ?_; refine Qoa rfl rfl rfl 77 (.tmp 16) (.tmp 110) rfl gz 0 77 (pgA Pg.zero) (pgA Z) rfl rfl hZ7 Qws (by show 0 + 17 <= 17; omega) (Qoj Z) ?_
                intro w7 hr7 ho7; rw [Qpc (pgA Pg.zero) (pgA Z) rfl] at hr7; have H8 : Hid (P4 w7 gq X /\ Qb w7 gC 26 (chA C) /\ Qoe w7 gz Z /\ Below w3.heap.size w3 w7 /\ gq ≠ gz) := Qd ⟨H7.out.1.only ho7 H7.out.2.2.2.1, ho7.row H7.out.2.1 H7.out.2.2.2.2.1, hr7, ho7.below H7.out.2.2.1 H7.out.2.2.2.2.2, H7.out.2.2.2.1⟩; have hHeld8 := And.intro H8.out.1 H8.out.2.1; refine ⟨hHeld8, ?_⟩; (try simp only [Act.put, List.setIfInBounds_toArray, List.set]); refine Qg 19 (by kernel_rfl) ?_; refine Qm (some 17) rfl rfl rfl (.int .i64 0) w7 ?hz ?_; (case hz => go_simp); refine ⟨hHeld8, ?_⟩; (try simp only [Act.put, List.setIfInBounds_toArray, List.set]); refine wpAnyH_done (by kernel_rfl) ?_ _; refine NoPanic.normal ?_; clear hHeld8 hr7 ho7 hZ7 H7; exact REST gz w7 H8
              · skip; refine Qm (some 16) rfl rfl rfl (.pointer (some ⟨w5.drew.heap.size, 0, none⟩)) (w5.drew.alloc (.cells (pgA Pg.zero) 77)) ?hz ?_; (case hz => go_simp; rfl); have hbA : Below w5.drew.heap.size w5.drew (w5.drew.alloc (.cells (pgA Pg.zero) 77)) := (Below.refl _ _).alloc (Nat.le_refl _) _; have H6 : Hid (P4 (w5.drew.alloc (.cells (pgA Pg.zero) 77)) gq X /\ Qb (w5.drew.alloc (.cells (pgA Pg.zero) 77)) gC 26 (chA C) /\ Below w3.heap.size w3 (w5.drew.alloc (.cells (pgA Pg.zero) 77)) /\ gq ≠ w5.drew.heap.size /\ gC ≠ w5.drew.heap.size /\ w3.heap.size <= w5.drew.heap.size) := Qd ⟨HD.out.1.later hbA, HD.out.2.1.later hbA, HD.out.2.2.1.trans (hbA.mono HD.out.2.2.1.size), Nat.ne_of_lt HD.out.1.lt, Nat.ne_of_lt HD.out.2.1.lt, HD.out.2.2.1.size⟩; have hZ6 := Qb.new w5.drew 77 (pgA Pg.zero); clear hbA; obtain ⟨z6, hz6⟩ : ∃ z, z = w5.drew.alloc (.cells (pgA Pg.zero) 77) := ⟨_, rfl⟩; obtain ⟨gz, hgz⟩ : ∃ z, z = w5.drew.heap.size := ⟨_, rfl⟩; rw [<- hz6, <- hgz] at H6 hZ6 |-; clear hz6 hgz; refine ⟨⟨H6.out.1, H6.out.2.1⟩, ?_⟩; (try simp only [Act.put, List.setIfInBounds_toArray, List.set]); refine Qg 13 (by kernel_rfl) ?_; refine Qwa (some 109) rfl rfl rfl 26 #[.agg (pgA (X pp)), .agg (chA C), .int .u64 ((lo : Int) + 1)] ?he ((HAP.out _).mono ?_); (case he => go_simp); rintro e w6 ⟨rfl, hb6⟩; have H7 : Hid (P4 w6 gq X /\ Qb w6 gC 26 (chA C) /\ Below w3.heap.size w3 w6 /\ gq ≠ gz /\ gC ≠ gz /\ w3.heap.size <= gz) := Qd ⟨H6.out.1.later hb6, H6.out.2.1.later hb6, H6.out.2.2.1.trans (hb6.mono H6.out.2.2.1.size), H6.out.2.2.2⟩; have hZ7 := hZ6.later hb6; have hHeld7 := And.intro H7.out.1 H7.out.2.1; clear hb6 hZ6 H6; refine ⟨_, rfl, hHeld7, ?_⟩; (try simp only [Act.put, List.setIfInBounds_toArray, List.set]); refine Qa 14 (some 95) (.tuple #[.agg (pgA Z), .int .i64 0]) rfl rfl (by kernel_rfl) (by kernel_rfl) (by kernel_rfl) (fun _ _ _ h => h) (Or.inl ⟨by kernel_rfl, fun x hSx => by go_simp⟩) hHeld7 ?_; (try simp only [Act.put, List.setIfInBounds_toArray, List.set]); refine Qa 15 (some 110) (.agg (pgA Z)) rfl rfl (by kernel_rfl) (by kernel_rfl) (by kernel_rfl) (fun _ _ _ h => h) (Or.inl ⟨by kernel_rfl, fun x hSx => by go_simp⟩) hHeld7 ?_; (try simp only [Act.put, List.setIfInBounds_toArray, List.set]); refine Qa 16 (some 111) (.int .i64 0) rfl rfl (by kernel_rfl) (by kernel_rfl) (by kernel_rfl) (fun _ _ _ h => h) (Or.inl ⟨by kernel_rfl, fun x hSx => by go_simp⟩) hHeld7 ?_; (try simp only [Act.put, List.setIfInBounds_toArray, List.set])
                clear hHeld7; refine Qg 18 (by kernel_rfl) ?_; refine Qoa rfl rfl rfl 77 (.tmp 16) (.tmp 110) rfl gz 0 77 (pgA Pg.zero) (pgA Z) rfl rfl hZ7 Qws (by show 0 + 17 <= 17; omega) (Qoj Z) ?_; intro w7 hr7 ho7; rw [Qpc (pgA Pg.zero) (pgA Z) rfl] at hr7; have H8 : Hid (P4 w7 gq X /\ Qb w7 gC 26 (chA C) /\ Qoe w7 gz Z /\ Below w3.heap.size w3 w7 /\ gq ≠ gz) := Qd ⟨H7.out.1.only ho7 H7.out.2.2.2.1, ho7.row H7.out.2.1 H7.out.2.2.2.2.1, hr7, ho7.below H7.out.2.2.1 H7.out.2.2.2.2.2, H7.out.2.2.2.1⟩; have hHeld8 := And.intro H8.out.1 H8.out.2.1; refine ⟨hHeld8, ?_⟩; (try simp only [Act.put, List.setIfInBounds_toArray, List.set]); refine Qg 19 (by kernel_rfl) ?_; refine Qm (some 17) rfl rfl rfl (.int .i64 0) w7 ?hz ?_; (case hz => go_simp); refine ⟨hHeld8, ?_⟩; (try simp only [Act.put, List.setIfInBounds_toArray, List.set]); refine wpAnyH_done (by kernel_rfl) ?_ _; refine NoPanic.normal ?_; clear hHeld8 hr7 ho7 hZ7 H7
                exact REST gz w7 H8)
            clear HD HAP HLO2; intro g16 z H9; have kk := HCP.out z H9.out.2.1; go_wp2_with (first | (refine Qta rfl (.tmp 16) rfl g16 rfl Z H9.out.2.2.1 ?_) | (refine Qlk rfl (.tmp 118) (.tmp 117) rfl gq pp X Z rfl rfl H9.out.1 p1 ?_; intro w9 hP9 ho9; refine Qha ?_)); rw [HUP.out] at hP9; have HN : Hid (P4 w9 gq (Qbe h.pg ((chs p).take (j + 1))) /\ Below w3.heap.size w3 w9) := ⟨hP9, ho9.below H9.out.2.2.2.1 HGQ.out⟩; clear hP9 ho9 H9 kk HUP HCP HPG; refine Qj ?_; go_wp2; go_roundw
            case rel => exact ⟨j + 1, by omega, by go_num, HN.out⟩
            case measure => simp [intOf] <;> omega
          · have i5 : ¬ (j : Int) < (lp : Int) := by omega
            obtain ⟨Y, hY⟩ : ∃ Y, Y = Qbe h.pg (chs p) := ⟨_, rfl⟩
            have HJ2 : Hid (P4 wr gq Y /\ Below w3.heap.size w3 wr) := by
              have h1 := HJ.out; rw [show j = (chs p).length by rw [Qsj, <- HLP.out]; omega, List.take_length, <- hY] at h1; exact h1
            have HWAS := Qd (fun (i : Nat) (hi : i < lg.length) h1 h2 h3 => was_at HU.out hi h1 h2 h3); rw [<- hY] at HWAS; obtain ⟨wa, hwa⟩ : ∃ x, x = wr := ⟨_, rfl⟩; subst hwa; clear hY HJ hlt HPR HU HM; obtain ⟨gf, hgf⟩ : ∃ q, q = wa.heap.size := ⟨_, rfl⟩; have hbF : Below w3.heap.size w3 (wa.alloc (.cells (fA (Qif [] 0)) 80)) := HJ2.out.2.alloc HJ2.out.2.size _
            have HF : Hid (Qb (wa.alloc (.cells (fA (Qif [] 0)) 80)) gf 80 (fA (Qif [] 0)) /\ P4 (wa.alloc (.cells (fA (Qif [] 0)) 80)) gq Y /\ Below w3.heap.size w3 (wa.alloc (.cells (fA (Qif [] 0)) 80)) /\ w3.heap.size <= gf) := by
              rw [hgf]; exact ⟨Qb.new wa _ _, HJ2.out.1.later ((Below.refl _ _).alloc (Nat.le_refl _) _), hbF, HJ2.out.2.size⟩
            rw [<- fA_zero] at HF; clear hbF; go_wp2; rw [<- hgf]; clear hgf; go_loopw [122] (fun i wr => ∃ j : Nat, j <= lgn /\ i = .int .i64 (j : Int) /\ Hid (Qb wr gf 80 (fA (Qif (lg.take j) t)) /\ P4 wr gq Y /\ Below w3.heap.size w3 wr /\ w3.heap.size <= gf)) (fun i _ => lgn - (intOf i).toNat)
            case atStart =>
              refine ⟨0, Nat.zero_le _, rfl, ?_⟩; have h1 := HF.out; rw [fA_zero] at h1; exact Qd h1
            case round =>
              obtain ⟨j, hj, rfl, HJ⟩ := hrel; clear HF HJ2
              by_cases hlt : j < lgn
              · have i5 : (j : Int) < (lgn : Int) := by omega
                have i6 : (0 : Int) <= (j : Int) := by omega
                have j9 : j < 1000 := by omega
                obtain ⟨b, off, rfl, hx⟩ := HLX.out j hlt; have hjl : j < lg.length := by rw [<- HLN.out]; exact hlt
                obtain ⟨-, -, hld⟩ := hx _ HJ.out.2.2.1; have HNX := Qd (Qjr lg j hjl); have hmem := Quv hjl; have hrr := HRI.out _ hmem; have hpg4 := HPGS.out _ hmem; have hwas := HWAS.out j hjl; obtain ⟨r, hr⟩ : ∃ r, r = lg.getD j Rec.zero := ⟨_, rfl⟩; rw [<- hr] at hx hld HNX hrr hpg4 hwas; obtain ⟨fs, hfs⟩ : ∃ f, f = Qif (lg.take j) t := ⟨_, rfl⟩; rw [<- hfs] at HJ hwas; have HFS := Qd hfs; have HW2 := Qd hwas; have HRR := Qd hrr; have HP2 := Qd hpg4; have HX := Qd hx; have HLD := Qd hld; clear hx hld hjl hmem hr hfs hwas hrr hpg4 HWAS; obtain ⟨C, hC⟩ : ∃ C, C = r.c := ⟨_, rfl⟩; have HC := Qd hC; rw [<- hC] at HLD; clear hC; go_wp2_with (first | (refine Qr rfl 26 (.tmp 128) rfl _ (.agg (chA C)) rfl HLD.out ?_) | (refine Qc rfl 26 (.tmp 20) (.tmp 129) rfl wr.heap.size (chA Ch.zero) (chA C) rfl rfl (Qb.new wr 26 (chA Ch.zero)) Qq rfl (Qpa _) ?_; intro w5 hr5 hk5 hrow5; refine Qha ?_)); have hba : Below wr.heap.size wr (wr.alloc (.cells (chA Ch.zero) 26)) := (Below.refl _ _).alloc (Nat.le_refl _) _; have hF5 : Qb w5 gf 80 (fA fs) := hrow5 gf _ _ (Nat.ne_of_lt HJ.out.1.lt) (HJ.out.1.later hba); have hZ5 : P4 w5 gq Y := (HJ.out.2.1.later hba).keep (fun cs hr => hrow5 gq _ _ (Nat.ne_of_lt HJ.out.2.1.lt) hr); have hb5 := hk5 w3.heap.size w3 (HJ.out.2.2.1.alloc HJ.out.2.2.1.size _) HJ.out.2.2.1.size; have hne5 : gf ≠ wr.heap.size := Nat.ne_of_lt HJ.out.1.lt; have hlo5 := HJ.out.2.2.2; obtain ⟨gC, hgC⟩ : ∃ q, q = wr.heap.size := ⟨_, rfl⟩; rw [<- hgC] at hr5 hne5 |-; have H5 : Hid (Qb w5 gf 80 (fA fs) /\ P4 w5 gq Y /\ Below w3.heap.size w3 w5 /\ Qb w5 gC 26 (chA C) /\ gC ≠ gf /\ w3.heap.size <= gf) := ⟨hF5, hZ5, hb5, hr5, fun e => hne5 e.symm, hlo5⟩; obtain ⟨k0, k2, -⟩ := HX.out _ hb5; obtain ⟨rk, hrk⟩ : ∃ k, k = r.k := ⟨_, rfl⟩; obtain ⟨rt, hrt⟩ : ∃ k, k = r.t := ⟨_, rfl⟩; rw [<- hrk] at k0; rw [<- hrt] at k2; have HRK := Qd hrk; have HRT := Qd hrt; clear hr5 hk5 hrow5 hZ5 hb5 hne5 hgC hF5 hba hlo5 HLD HJ HX hrk hrt; refine Qj ?_
                by_cases ht : rt = t
                · have HTT := Qd ht; subst ht
                  by_cases h1 : rk = 1
                  · have HK1 := Qd h1; subst h1; have hcr : C.right := by rw [HC.out]; exact HRR.out.ch (by have := HK1.out; have := HRK.out; omega)
                    have hp4 : C.pg < 4 := by rw [HC.out]; exact HP2.out (by have := HK1.out; have := HRK.out; omega)
                    obtain ⟨pp, hpp⟩ : ∃ q : Nat, C.pg = (q : Int) := ⟨C.pg.toNat, by have := hcr.1.1; omega⟩; obtain ⟨sl, hsl⟩ : ∃ q : Nat, C.sl = (q : Int) := ⟨C.sl.toNat, by have := hcr.1.2.2.1; omega⟩; have p1 : pp < 4 := by omega
                    have s1 : sl < 8 := by have := hcr.1.2.2.2.1; omega
                    have hxx : Qfa C = pp * 8 + sl := by unfold Qfa Ch.at; rw [hpp, hsl]; rfl
                    have hat : C.at = sl := by unfold Ch.at; rw [hsl]; rfl
                    have HCR := Qd hcr
                    have HCS : Hid (∀ x, Qb x gC 26 (chA C) -> x.cell? ⟨gC, 1, none⟩ = some (.int .i64 (pp : Int)) /\ x.cell? ⟨gC, 2, none⟩ = some (.int .i64 (sl : Int))) := fun x hx => by
                      have h1 := hx.cell 1 (.int .i64 C.pg) rfl; have h2 := hx.cell 2 (.int .i64 C.sl) rfl; rw [hpp] at h1; rw [hsl] at h2; exact ⟨h1, h2⟩
                    have HXX := Qd hxx; obtain ⟨q1, q2⟩ := HCS.out _ H5.out.2.2.2.1; have cf := H5.out.1.cell (pp * 8 + sl) _ (fA_get fs (pp * 8 + sl) (by omega)); have ff := H5.out.1.free (pp * 8 + sl); have ix : (pp : Int) * 8 + (sl : Int) < 32 := by omega
                    have ix0 : (0 : Int) <= (pp : Int) * 8 + (sl : Int) := by omega
                    have ixn : ((pp : Int) * 8 + (sl : Int)).toNat = pp * 8 + sl := by omega
                    have ige : (0 : Int) <= (pp : Int) := by omega
                    have ilt : (pp : Int) < 4 := by omega
                    have sge : (0 : Int) <= (sl : Int) := by omega
                    have slt : (sl : Int) < 8 := by omega
                    have HF1 := Qd (fun h => HW2.out HRT.out.symm HRK.out.symm h); rw [<- HC.out, hxx] at HF1; have HTK : Hid (r.t = rt /\ r.k = 1) := ⟨HRT.out.symm, HRK.out.symm⟩; clear hcr hp4 hpp hsl hxx HW2 hat
                    by_cases hf : fs (pp * 8 + sl) = true
                    · have HSM : Hid (Qif (lg.take (j + 1)) rt = fs) := by
                        show Qif (lg.take (j + 1)) rt = fs; rw [HNX.out, Qjv HTK.out (by rw [<- HFS.out, <- HC.out, HXX.out]; exact hf), <- HFS.out]
                      rw [hf] at cf; clear hf HF1; go_wp2; go_roundw
                      case rel =>
                        refine ⟨j + 1, by omega, by go_num, ?_⟩; rw [HSM.out]; exact Qd ⟨H5.out.1, H5.out.2.1, H5.out.2.2.1, H5.out.2.2.2.2.2⟩
                      case measure => simp [intOf] <;> omega
                    · have hf0 : fs (pp * 8 + sl) = false := by simpa using hf
                      have HSM : Hid (Qif (lg.take (j + 1)) rt = upd fs (pp * 8 + sl) true) := by
                        show Qif (lg.take (j + 1)) rt = _; rw [HNX.out, Qgt HTK.out, <- HFS.out, <- HC.out, HXX.out]
                      have HYC := Qd (HF1.out hf0); rw [hf0] at cf; clear hf hf0 HF1; go_wp2_with (with_reducible refine Qia 161 rfl ?_); obtain ⟨z, hz⟩ : ∃ z, z = w5.setCell ⟨gf, pp * 8 + sl, none⟩ (.bool true) := ⟨_, rfl⟩
                      have HZ : Hid (Qb z gf 80 (fA (upd fs (pp * 8 + sl) true)) /\ P4 z gq Y /\ Below w3.heap.size w3 z /\ Qb z gC 26 (chA C) /\ w3.heap.size <= gf) := by
                        rw [hz, <- fA_set fs (pp * 8 + sl) (by omega) true]; refine ⟨H5.out.1.set _ _, H5.out.2.1.keep (fun cs hr => hr.other _ _ (fun e => ?_)), H5.out.2.2.1.setCell H5.out.2.2.2.2.2 _, H5.out.2.2.2.1.other _ _ H5.out.2.2.2.2.1, H5.out.2.2.2.2.2⟩; have e2 : gq = gf := e; rw [e2] at hr; exact absurd (Qma hr H5.out.1) (by decide)
                      rw [<- hz]; clear hz H5 cf ff q1 q2 k0 k2; have q3 := HZ.out.2.2.2.1.cell 3 (.string C.o) rfl
                      have HYC2 : Hid ((Y pp).u sl = C.wantU /\ (Y pp).s sl = C.wantV) := by
                        have h1 := HYC.out; unfold Qde at h1; rw [show (pp * 8 + sl) / 8 = pp by omega, show (pp * 8 + sl) % 8 = sl by omega] at h1; injection h1 with h1 h2; exact ⟨h1, h2⟩
                      clear HYC; refine Qj ?_
                      by_cases hk : C.k = 1
                      · skip; have e1 : C.o = ⟨#[]⟩ := size0 _ (by have := HCR.out.2; rcases this with h | h | h <;> omega)
                        have HY3 : Hid ((Y pp).u sl = false /\ (Y pp).s sl = C.o) := by
                          refine ⟨by rw [HYC2.out.1]; unfold Ch.wantU; simp [hk], ?_⟩; rw [HYC2.out.2]; unfold Ch.wantV; rw [if_pos hk, e1]
                        have q0 := HZ.out.2.2.2.1.cell 0 (.int .i64 C.k) rfl; rw [hk] at q0; clear e1 hk HYC2; go_wp2_with (refine Qc rfl 63 (.tmp 21) (.tmp 165) rfl z.heap.size (ceA false ⟨#[]⟩) (ceA false C.o) rfl rfl (Qb.new z 63 (ceA false ⟨#[]⟩)) Qfv rfl (Qdb _ _) ?_; intro w8 hr8 hk8 hrow8; refine Qha ?_); have hba : Below z.heap.size z (z.alloc (.cells (ceA false ⟨#[]⟩) 63)) := (Below.refl _ _).alloc (Nat.le_refl _) _; have hb8 := hk8 w3.heap.size w3 (HZ.out.2.2.1.alloc HZ.out.2.2.1.size _) HZ.out.2.2.1.size; have hF8 := hrow8 gf _ _ (Nat.ne_of_lt HZ.out.1.lt) (HZ.out.1.later hba); have hC8 := hrow8 gC _ _ (Nat.ne_of_lt HZ.out.2.2.2.1.lt) (HZ.out.2.2.2.1.later hba); have hP8 : P4 w8 gq Y := (HZ.out.2.1.later hba).keep (fun cs hr => hrow8 gq _ _ (Nat.ne_of_lt HZ.out.2.1.lt) hr); obtain ⟨gw, hgw⟩ : ∃ q, q = z.heap.size := ⟨_, rfl⟩; rw [<- hgw] at hr8 |-; have H8 : Hid (Qb w8 gf 80 (fA (upd fs (pp * 8 + sl) true)) /\ P4 w8 gq Y /\ Below w3.heap.size w3 w8 /\ Qb w8 gC 26 (chA C) /\ Qb w8 gw 63 (ceA false C.o) /\ w3.heap.size <= gf) := ⟨hF8, hP8, hb8, hC8, hr8, HZ.out.2.2.2.2⟩; clear hr8 hk8 hrow8 hba hb8 hF8 hC8 hP8 hgw HZ q0 q3; refine Qj ?_; go_wp2_with fail; have HD : Hid (Qb w8.drew gf 80 (fA (upd fs (pp * 8 + sl) true)) /\ P4 w8.drew gq Y /\ Below w3.heap.size w3 w8.drew /\ Qb w8.drew gC 26 (chA C) /\ Qb w8.drew gw 63 (ceA false C.o) /\ w3.heap.size <= gf) := Qd ⟨H8.out.1, H8.out.2.1, Qo H8.out.2.2.1 1, H8.out.2.2.2⟩; clear H8; have hos : C.o.size <= maxLen := by have := HCR.out.1; unfold maxLen; omega
                        have HNE : Hid (∀ x, (binOp .neq 63 (.agg (ceA false C.o)) (.agg (ceA false C.o))).run Try.prog x = .ok (.bool false) x) := fun x => by
                          have h1 := Qdv false false C.o C.o hos hos x; rw [decide_eq_true ⟨rfl, rfl⟩] at h1; exact h1
                        refine wp_region_noPanic ?_; refine wp_region_held_drew (S := fun z => P4 z gq Y /\ Qb z gC 26 (chA C) /\ Qb z gw 63 (ceA false C.o)) (by kernel_rfl) (⟨HD.out.2.1, HD.out.2.2.2.1, HD.out.2.2.2.2.1⟩) (fun hHeld => ?_); refine tkq 0 (some 166) (.slice (some ⟨gq, 0, none⟩) 4 cq) hHeld ?_; (try simp only [Act.put, List.setIfInBounds_toArray, List.set]); refine tkq 1 (some 167) (.pointer (some ⟨gC, 1, none⟩)) hHeld ?_; (try simp only [Act.put, List.setIfInBounds_toArray, List.set]); refine tkk 2 (some 168) (.int .i64 (pp : Int)) rfl rfl (by kernel_rfl) (by kernel_rfl) (fun x hSx => by have h := (HCS.out x hSx.2.1).1; go_simp) hHeld ?_; (try simp only [Act.put, List.setIfInBounds_toArray, List.set]); refine tkq 3 (some 169) (.pointer (some ⟨gC, 2, none⟩)) hHeld ?_; (try simp only [Act.put, List.setIfInBounds_toArray, List.set]); refine tkk 4 (some 170) (.int .i64 (sl : Int)) rfl rfl (by kernel_rfl) (by kernel_rfl) (fun x hSx => by have h := (HCS.out x hSx.2.1).2; go_simp) hHeld ?_; (try simp only [Act.put, List.setIfInBounds_toArray, List.set]); refine tkq 5 (some 171) (.pointer (some ⟨gq, pp * 17, none⟩)) hHeld ?_; (try simp only [Act.put, List.setIfInBounds_toArray, List.set]); refine tkq 6 (some 172) (.pointer (some ⟨gq, pp * 17 + 1, none⟩)) hHeld ?_; (try simp only [Act.put, List.setIfInBounds_toArray, List.set]); refine tkq 7 (some 173) (.pointer (some ⟨gq, pp * 17 + 1 + sl * 2, none⟩)) hHeld ?_; (try simp only [Act.put, List.setIfInBounds_toArray, List.set]); refine Qa 8 (some 174) (.agg (ceA false C.o)) rfl rfl (by kernel_rfl) (by kernel_rfl) (by kernel_rfl) (fun _ _ _ h => h) (Qp (by kernel_rfl) 63 _ rfl (.pointer (some ⟨gq, pp * 17 + 1 + sl * 2, none⟩)) rfl _ (fun x hSx => by have h := hSx.1.cell pp sl p1 s1; rw [HY3.out.1, HY3.out.2] at h; exact h)) hHeld ?_; (try simp only [Act.put, List.setIfInBounds_toArray, List.set]); refine Qa 9 (some 175) (.agg (ceA false C.o)) rfl rfl (by kernel_rfl) (by kernel_rfl) (by kernel_rfl) (fun _ _ _ h => h) (Qp (by kernel_rfl) 63 _ rfl (.pointer (some ⟨gw, 0, none⟩)) rfl _ (fun x hSx => Qsv x hSx.2.2 Try.underlying63 rfl Qfv)) hHeld ?_; (try simp only [Act.put, List.setIfInBounds_toArray, List.set]); refine Qa 10 (some 176) (.bool false) rfl rfl (by kernel_rfl) (by kernel_rfl) (by kernel_rfl) (fun _ _ _ h => h) (Qtt (by kernel_rfl) .neq 63 _ (.tmp 174) (.tmp 175) rfl _ _ (.bool false) rfl rfl (fun x _ => Qgv .neq _ _ false false C.o C.o x) (fun x _ => HNE.out x)) hHeld ?_
                        (try simp only [Act.put, List.setIfInBounds_toArray, List.set])
                        refine wpAnyH_done (by kernel_rfl) ?_ _; refine NoPanic.normal ?_; clear hHeld HNE hos; go_wp2; go_roundw
                        case rel =>
                          refine ⟨j + 1, by omega, by go_num, ?_⟩; rw [HSM.out]; exact Qd ⟨HD.out.1, HD.out.2.1, HD.out.2.2.1, HD.out.2.2.2.2.2⟩
                        case measure => simp [intOf] <;> omega
                      · skip
                        have HY3 : Hid ((Y pp).u sl = true /\ (Y pp).s sl = C.o) := by
                          refine ⟨by rw [HYC2.out.1]; unfold Ch.wantU; simp [hk], ?_⟩; rw [HYC2.out.2]; unfold Ch.wantV; rw [if_neg hk]
                        have q0 := HZ.out.2.2.2.1.cell 0 (.int .i64 C.k) rfl; have e1 : (C.k == 1) = false := by simpa using hk
                        have e2 : (C.k != 1) = true := by simpa using hk
                        clear HYC2; go_wp2_with (refine Qc rfl 63 (.tmp 21) (.tmp 165) rfl z.heap.size (ceA false ⟨#[]⟩) (ceA true C.o) rfl rfl (Qb.new z 63 (ceA false ⟨#[]⟩)) Qfv rfl (Qdb _ _) ?_; intro w8 hr8 hk8 hrow8; refine Qha ?_); have hba : Below z.heap.size z (z.alloc (.cells (ceA false ⟨#[]⟩) 63)) := (Below.refl _ _).alloc (Nat.le_refl _) _; have hb8 := hk8 w3.heap.size w3 (HZ.out.2.2.1.alloc HZ.out.2.2.1.size _) HZ.out.2.2.1.size; have hF8 := hrow8 gf _ _ (Nat.ne_of_lt HZ.out.1.lt) (HZ.out.1.later hba); have hC8 := hrow8 gC _ _ (Nat.ne_of_lt HZ.out.2.2.2.1.lt) (HZ.out.2.2.2.1.later hba); have hP8 : P4 w8 gq Y := (HZ.out.2.1.later hba).keep (fun cs hr => hrow8 gq _ _ (Nat.ne_of_lt HZ.out.2.1.lt) hr); obtain ⟨gw, hgw⟩ : ∃ q, q = z.heap.size := ⟨_, rfl⟩; rw [<- hgw] at hr8 |-; have H8 : Hid (Qb w8 gf 80 (fA (upd fs (pp * 8 + sl) true)) /\ P4 w8 gq Y /\ Below w3.heap.size w3 w8 /\ Qb w8 gC 26 (chA C) /\ Qb w8 gw 63 (ceA true C.o) /\ w3.heap.size <= gf) := ⟨hF8, hP8, hb8, hC8, hr8, HZ.out.2.2.2.2⟩; clear hr8 hk8 hrow8 hba hb8 hF8 hC8 hP8 hgw HZ q0 q3; refine Qj ?_; go_wp2_with fail; have HD : Hid (Qb w8.drew gf 80 (fA (upd fs (pp * 8 + sl) true)) /\ P4 w8.drew gq Y /\ Below w3.heap.size w3 w8.drew /\ Qb w8.drew gC 26 (chA C) /\ Qb w8.drew gw 63 (ceA true C.o) /\ w3.heap.size <= gf) := Qd ⟨H8.out.1, H8.out.2.1, Qo H8.out.2.2.1 1, H8.out.2.2.2⟩; clear H8; have hos : C.o.size <= maxLen := by have := HCR.out.1; unfold maxLen; omega
                        have HNE : Hid (∀ x, (binOp .neq 63 (.agg (ceA true C.o)) (.agg (ceA true C.o))).run Try.prog x = .ok (.bool false) x) := fun x => by
                          have h1 := Qdv true true C.o C.o hos hos x; rw [decide_eq_true ⟨rfl, rfl⟩] at h1; exact h1
                        refine wp_region_noPanic ?_; refine wp_region_held_drew (S := fun z => P4 z gq Y /\ Qb z gC 26 (chA C) /\ Qb z gw 63 (ceA true C.o)) (by kernel_rfl) (⟨HD.out.2.1, HD.out.2.2.2.1, HD.out.2.2.2.2.1⟩) (fun hHeld => ?_); refine tkq 0 (some 166) (.slice (some ⟨gq, 0, none⟩) 4 cq) hHeld ?_; (try simp only [Act.put, List.setIfInBounds_toArray, List.set]); refine tkq 1 (some 167) (.pointer (some ⟨gC, 1, none⟩)) hHeld ?_; (try simp only [Act.put, List.setIfInBounds_toArray, List.set]); refine tkk 2 (some 168) (.int .i64 (pp : Int)) rfl rfl (by kernel_rfl) (by kernel_rfl) (fun x hSx => by have h := (HCS.out x hSx.2.1).1; go_simp) hHeld ?_; (try simp only [Act.put, List.setIfInBounds_toArray, List.set]); refine tkq 3 (some 169) (.pointer (some ⟨gC, 2, none⟩)) hHeld ?_; (try simp only [Act.put, List.setIfInBounds_toArray, List.set]); refine tkk 4 (some 170) (.int .i64 (sl : Int)) rfl rfl (by kernel_rfl) (by kernel_rfl) (fun x hSx => by have h := (HCS.out x hSx.2.1).2; go_simp) hHeld ?_; (try simp only [Act.put, List.setIfInBounds_toArray, List.set]); refine tkq 5 (some 171) (.pointer (some ⟨gq, pp * 17, none⟩)) hHeld ?_; (try simp only [Act.put, List.setIfInBounds_toArray, List.set]); refine tkq 6 (some 172) (.pointer (some ⟨gq, pp * 17 + 1, none⟩)) hHeld ?_; (try simp only [Act.put, List.setIfInBounds_toArray, List.set]); refine tkq 7 (some 173) (.pointer (some ⟨gq, pp * 17 + 1 + sl * 2, none⟩)) hHeld ?_; (try simp only [Act.put, List.setIfInBounds_toArray, List.set]); refine Qa 8 (some 174) (.agg (ceA true C.o)) rfl rfl (by kernel_rfl) (by kernel_rfl) (by kernel_rfl) (fun _ _ _ h => h) (Qp (by kernel_rfl) 63 _ rfl (.pointer (some ⟨gq, pp * 17 + 1 + sl * 2, none⟩)) rfl _ (fun x hSx => by have h := hSx.1.cell pp sl p1 s1; rw [HY3.out.1, HY3.out.2] at h; exact h)) hHeld ?_; (try simp only [Act.put, List.setIfInBounds_toArray, List.set]); refine Qa 9 (some 175) (.agg (ceA true C.o)) rfl rfl (by kernel_rfl) (by kernel_rfl) (by kernel_rfl) (fun _ _ _ h => h) (Qp (by kernel_rfl) 63 _ rfl (.pointer (some ⟨gw, 0, none⟩)) rfl _ (fun x hSx => Qsv x hSx.2.2 Try.underlying63 rfl Qfv)) hHeld ?_; (try simp only [Act.put, List.setIfInBounds_toArray, List.set]); refine Qa 10 (some 176) (.bool false) rfl rfl (by kernel_rfl) (by kernel_rfl) (by kernel_rfl) (fun _ _ _ h => h) (Qtt (by kernel_rfl) .neq 63 _ (.tmp 174) (.tmp 175) rfl _ _ (.bool false) rfl rfl (fun x _ => Qgv .neq _ _ true true C.o C.o x) (fun x _ => HNE.out x)) hHeld ?_
                        (try simp only [Act.put, List.setIfInBounds_toArray, List.set])
                        refine wpAnyH_done (by kernel_rfl) ?_ _; refine NoPanic.normal ?_; clear hHeld HNE hos; go_wp2; go_roundw
                        case rel =>
                          refine ⟨j + 1, by omega, by go_num, ?_⟩; rw [HSM.out]; exact Qd ⟨HD.out.1, HD.out.2.1, HD.out.2.2.1, HD.out.2.2.2.2.2⟩
                        case measure => simp [intOf] <;> omega
                  · have e1 : (rk == 1) = false := by simpa using h1
                    have HSM : Hid (Qif (lg.take (j + 1)) rt = fs) := by
                      show Qif (lg.take (j + 1)) rt = fs; rw [HNX.out, Qev (fun q => h1 (by rw [HRK.out]; exact q.2)), <- HFS.out]
                    clear h1 HW2; go_wp2; go_roundw
                    case rel =>
                      refine ⟨j + 1, by omega, by go_num, ?_⟩; rw [HSM.out]; exact Qd ⟨H5.out.1, H5.out.2.1, H5.out.2.2.1, H5.out.2.2.2.2.2⟩
                    case measure => simp [intOf] <;> omega
                · have et : (rt == t) = false := by simpa using ht
                  have HSM : Hid (Qif (lg.take (j + 1)) t = fs) := by
                    show Qif (lg.take (j + 1)) t = fs; rw [HNX.out, Qev (fun q => ht (by rw [HRT.out]; exact q.1)), <- HFS.out]
                  clear ht HW2; go_wp2; go_roundw
                  case rel =>
                    refine ⟨j + 1, by omega, by go_num, ?_⟩; rw [HSM.out]; exact Qd ⟨H5.out.1, H5.out.2.1, H5.out.2.2.1, H5.out.2.2.2.2.2⟩
                  case measure => simp [intOf] <;> omega
              · have i5 : ¬ (j : Int) < (lgn : Int) := by omega
                have HE := Qd (H3.out.trans (HJ.out.2.2.1.mono H3.out.size)); go_wp2; go_ret; exact ⟨rfl, HE.out⟩
end Go.Proofs.Ytohdmmfmjadipaa.txnUndoes
namespace Go.Proofs.Ytohdmmfmjadipaa.txnUndoes
open Go.ChangeShapes Go.WideShapes Go.ChangeAt Go.RowKit
open Go.ChangeMaps (open_string shut_string)
set_option linter.unusedVariables false

theorem Qmw : laidOutB Try.prog = true := by kernel_rfl
theorem own : ownKnob Try.prog.godebug = none := by kernel_rfl

set_option maxRecDepth 100000 in
theorem lifted (os : Os) (started : os.Started) (H : Type) (enc : TypeId × Value -> H) :
    ReturnsInHanded {} Try.checked os 8 .any (Rows.txnUndoesSpec.pre6 enc Try.prog Try.f8 Rows.txnUndoesRow.domain false) (Rows.txnUndoesSpec.post enc Try.prog Try.f8 false true false false) := by
  refine returnsInHanded_of_change_sized (C := Try.checked) own started (by kernel_rfl) Try.func8
    (ChangeSpec.witness6 (enc := enc) (C := Try.checked) false ⟨#[], #[.slice none 0 0, .int .u8 0, .int .i64 0], []⟩ 8 (by kernel_rfl) (by kernel_rfl) (by kernel_rfl) (by kernel_rfl)) ?_
  intro W base args ds gs before hval0 hW hcnd hsz0 _
  have hval : ∀ (j : Nat) t v, Try.f8.params[j]? = some t -> args[j]? = some v -> Value.okWide Try.prog W .any base t v := hval0
  have hsz : (DataW.weightsEach Try.prog (Try.f8.params.toList ++ Rows.txnUndoesSpec.plain.varTypes Try.prog) (ds ++ gs)).all (· <= reachBytes) = true := hsz0
  have hW' := hW
  obtain ⟨p, q, hA0, hV, rfl, hfz, hnd⟩ := hW
  have hA : DataW.TrodAll enc Try.prog W 0 (fun _ => true) true Try.f8.params.toList args.toList ds p := hA0
  rw [Try.params8] at hA hval hsz
  obtain ⟨v0, vs0, d0, ds0, p0, q0, hargs, rfl, rfl, h0, r0⟩ := trodAll_cons hA
  obtain ⟨v1, vs1, d1, ds1, p1, q1, rfl, rfl, rfl, h1, r1⟩ := trodAll_cons r0
  obtain ⟨v2, vs2, d2, ds2, p2, q2, rfl, rfl, rfl, h2, r2⟩ := trodAll_cons r1
  obtain ⟨rfl, rfl, rfl⟩ := trodAll_nil r2
  obtain rfl : args = #[v0, v1, v2] := by cases args; simp_all
  obtain ⟨rfl, rfl⟩ := trodVars_none hV
  have k0 := h0
  have lt0 := Qxp h0
  obtain ⟨a1, rfl, rfl, rfl, w1⟩ := open_int Try.underlying5 (hval 1 5 v1 rfl rfl) h1
  obtain ⟨a2, rfl, rfl, rfl, w2⟩ := open_int Try.underlying3 (hval 2 3 v2 rfl rfl) h2
  obtain ⟨m0, w0⟩ := op_acs (hval 0 51 v0 rfl rfl) h0
  clear hA0 hval0 hsz0 hsz
  refine (walk v0 m0 a1 a2 W w0 w1 w2).mono fun e W' ⟨he, bel⟩ => ?_
  subst he
  exact ⟨_, rfl, _, _, _, [], _, [], hW', trodAll_mk1 (shut_bool Try.underlying4 _), (trodAll_cons_mk (Below.trod Qmw (by kernel_rfl) (of_decide_eq_true (by kernel_rfl)) k0 bel lt0) (trodAll_cons_mk (shut_int Try.underlying5 w1) (trodAll_cons_mk (shut_int Try.underlying3 w2) trodAll_mk0))), rfl, bel.frame _, fun h => by cases h⟩

theorem over : Rows.txnUndoesRow.holds Try.pinned (OpenSpec.ofChange Rows.txnUndoesSpec) :=
  OpenClaim.holds_of_wide 8 Try.f8 rfl rfl rfl rfl rfl rfl rfl ⟨rfl, rfl, rfl, rfl, rfl⟩ rfl rfl rfl rfl rfl (by kernel_rfl) Try.func8 (by kernel_rfl)
    (of_decide_eq_true (by kernel_rfl)) (by unfold Func.isWrapper; first | (rw [if_pos (by decide +kernel)]; kernel_rfl) | (rw [if_neg (by decide +kernel)]; exact ⟨rfl, rfl⟩))
    (fun os started H enc _ => lifted os started H enc)

/-- THE STATEMENT. -/
theorem proved : Rows.TxnUndoesSaid := over
end Go.Proofs.Ytohdmmfmjadipaa.txnUndoes
namespace Go.Proofs.Ytohdmmfmjadipaa
theorem txnUndoes_proved : Rows.TxnUndoesSaid := txnUndoes.proved
end Go.Proofs.Ytohdmmfmjadipaa
