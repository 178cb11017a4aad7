/-
  In any history the losers of a node's log are just its transactions that have records and neither committed nor are over, each with its first and its last record, and with what is to be taken back of it next; and the table has as many rows as transactions are under way. AnalyseLosers returns true for every input, and its arguments read as before.
  Condition: none but those that the form of every such statement bears by itself (each string within the reach).
-/
import Derived.Test.YthlllmkmpneedaaRows
import Derived.ProofKit
import Derived.OpenShut
import Derived.ShutString
import Derived.SizedLaws
import Derived.JoinedCond
import Derived.Test.YthlllmkmpneedaaK06
import Derived.Test.YthlllmkmpneedaaK11
import Derived.Test.YthlllmkmpneedaaK12
import Derived.Test.YthlllmkmpneedaaK07
import Derived.Test.YthlllmkmpneedaaK00

set_option maxRecDepth 8000
set_option maxHeartbeats 25600000
namespace Go.Proofs.Ythlllmkmpneedaa.analyseLosers
open Go.RowKit
set_option linter.unusedVariables false
theorem u8_nat16 {i : Int} (h : (Lit.int .u8 i).wf = true) : ∃ n : Nat, i = (n : Int) /\ n < 256 := by
  have h2 : 0 <= i /\ i <= 255 := by simpa [Lit.wf, IntKind.min, IntKind.max, IntKind.signed, IntKind.bits] using h
  exact ⟨i.toNat, by omega, by omega⟩
theorem tx_cells {x : World} {b o : Nat} {y : Tx} (h : x.rangeAt b o (txA y).toList) : x.cell? ⟨b, o, none⟩ = some (.int .i64 y.t) /\ x.cell? ⟨b, o + 2, none⟩ = some (.int .u64 (y.f : Int)) /\ x.cell? ⟨b, o + 3, none⟩ = some (.int .u64 (y.l : Int)) /\ x.cell? ⟨b, o + 4, none⟩ = some (.int .u64 (y.n : Int)) := ⟨h 0 _ rfl, h 2 _ rfl, h 3 _ rfl, h 4 _ rfl⟩
theorem rk_cells {x : World} {b o : Nat} {m : Rec × Value × Value} (h : x.rangeAt b o (rcF m).toList) : x.cell? ⟨b, o, none⟩ = some (.int .i64 m.1.k) /\ x.cell? ⟨b, o + 1, none⟩ = some (.int .u64 (m.1.l : Int)) /\ x.cell? ⟨b, o + 2, none⟩ = some (.int .i64 m.1.t) := ⟨h 0 _ rfl, h 1 _ rfl, h 2 _ rfl⟩
structure Los (lg : List Rec) (L : List Tx) : Prop where
  no : ∀ t : Int, Qva lg t = 0 ∨ Qze lg t = true -> ∀ x ∈ L, x.t ≠ t
  yes : ∀ t : Int, Qva lg t ≠ 0 -> Qze lg t = false -> ∃ x ∈ L, x.t = t /\ x.f = Qva lg t /\ x.l = Qeg lg t /\ x.n = Qcb lg x.l
  srt : Qmi L
theorem Qoz {lg : List Rec} {t : Int} {j : Nat} (hj : j < lg.length) : Qva (lg.take (j + 1)) t = if (lg.getD j Rec.zero).t = t /\ Qva (lg.take j) t = 0 then (lg.getD j Rec.zero).l else Qva (lg.take j) t := by
  rw [List.take_succ_eq_append_getElem hj, Qah]; have e : lg.getD j Rec.zero = lg[j] := by simp [List.getD, hj]
  rw [e]
theorem over_take {lg : List Rec} {t : Int} {j : Nat} (hj : j < lg.length) : Qze (lg.take (j + 1)) t = (Qze (lg.take j) t || (decide ((lg.getD j Rec.zero).t = t) && (decide ((lg.getD j Rec.zero).k = 3) || decide ((lg.getD j Rec.zero).k = 5)))) := by
  rw [List.take_succ_eq_append_getElem hj, Qnz]; have e : lg.getD j Rec.zero = lg[j] := by simp [List.getD, hj]
  rw [e]
theorem walk (v0 : Value) (l : List Ac) (a1 : Int) (W : World) (ha : Qct W v0 l) (hw1 : (Lit.int .u8 a1).wf = true) :
    Calls Try.prog 7 #[v0, .int .u8 a1] W fun e w' => e = .returned (.bool true) /\ Below W.heap.size W w' := by
  obtain ⟨m, rfl, hm⟩ := u8_nat16 hw1; clear hw1; have HAW := Qc (fun w => awake16 w); have HA := Qc ha; obtain ⟨⟨aa, ca, rfl, -⟩, hmx, -, -⟩ := ha; have hb' : l.length <= 9223372036854775807 := hmx; clear hmx
  by_cases hbig : 300 < l.length
  · obtain ⟨ln, hln⟩ : ∃ ln, ln = l.length := ⟨_, rfl⟩; rw [<- hln] at hbig hb' HA |-; clear hln; have i1 : (ln : Int) > 300 := by omega
    go_enter Try.func7, Try.ntmps7; go_wp2_with fail; refine (HAW.out W).mono ?_; rintro e w1 ⟨rfl, hb1⟩; have H1 := Qc hb1; clear hb1; go_wp2_with fail; refine (HAW.out w1).mono ?_; rintro e w2 ⟨rfl, hb2⟩; have H2 := Qc (H1.out.trans (hb2.mono H1.out.size)); clear hb2 H1; go_wp2; go_ret; exact ⟨rfl, H2.out⟩
  · have HPL := Qc (fun w (h : Below W.heap.size W w) => hplay15 w aa l.length ca l (HA.out.below h) (by omega)); have hok := Hs.play_ok l (by omega); have hR := Hs.play_rows l (by omega); obtain ⟨n, hn0⟩ : ∃ n, n = m % 3 := ⟨_, rfl⟩; have hn : n < 3 := by omega
    have hct := play_ct l n; obtain ⟨h, hh⟩ : ∃ h, h = Hs.play l := ⟨_, rfl⟩; rw [<- hh] at HPL hok hR hct; have in3 : (n : Int) < 3 := by omega
    have in0 : (0 : Int) <= (n : Int) := by omega
    have hmod : ((m : Int)).tmod 3 = (n : Int) := by
      rw [Int.tmod_eq_emod_of_nonneg (by omega)]; omega
    have hrise := hok.rise n hn; have hlen : (h.lg n).length <= 600 := Nat.le_trans (hok.len hn) (by omega)
    have hT : (tabT (h.lg n)).1 = h.table n := by
      unfold tabT; rw [if_pos ((Qra _ _).2 hrise), ofA_plain (fun r hr => (hok.recs n hn r hr).1)]; rfl
    have hE : tabE (h.lg n) = 0 := if_pos ((Qra _ _).2 hrise); have HLO : Hid (Los (h.lg n) (Qsl (h.table n))) := ⟨fun t q => hok.los_no hR hn q, fun t q1 q2 => hok.los_yes hR hn q1 q2, Quw _ (h.table_srt n)⟩
    have HLE : Hid (∀ x ∈ Qsl (h.table n), 1 <= x.t /\ x.t <= (l.length : Int)) := fun x hx => by
      have := hok.los_le hR hn hx; omega
    have hTL := hok.table_len hR hn
    have hTB : (h.table n).length <= 900 := by
      rw [hTL]; unfold Hs.opens Qjh; split <;> split <;> split <;> omega
    obtain ⟨lg, hlg⟩ : ∃ lg, lg = h.lg n := ⟨_, rfl⟩; have HLG := Qc hlg; have HOP := Qc (fun w B g F (H : HB w B g F h) => opens15 w B g n F h H hn); simp only [<- hTL] at HOP; obtain ⟨T, hTT⟩ : ∃ T, T = h.table n := ⟨_, rfl⟩; rw [<- hTT] at hT HLO HLE hTB HOP; rw [<- hlg] at hrise hlen hT hE HLO; have HPOS := Qc (Qsq lg 0 hrise); have HTE := Qc (And.intro hT hE); have HRI := Qc hrise; obtain ⟨ln, hln⟩ : ∃ ln, ln = l.length := ⟨_, rfl⟩; rw [<- hln] at hbig hb' HA HPL HLE |-; clear hln hh hok hR hct hlg hrise hT hE hTL hTT hn0 HA; have i1 : ¬ (ln : Int) > 300 := by omega
    go_enter Try.func7, Try.ntmps7; go_wp2_with fail; refine (HAW.out W).mono ?_; rintro e w1 ⟨rfl, hb1⟩; have H1 := Qc hb1; clear hb1 HAW; go_wp2_with fail; refine (HPL.out w1 H1.out).mono ?_; rintro e w2 ⟨g, F, rfl, hHB, hb2⟩; have H2 := Qc (H1.out.trans (hb2.mono H1.out.size)); obtain ⟨gl, a, c, c0, c1, hlog⟩ := hHB.logs hn (by rw [<- HLG.out]; omega); rw [<- HLG.out] at c1 hlog; have HLI := Qc hlog; have HOQ := Qc (fun x (hx : Below w2.heap.size w2 x) => HOP.out x _ g F (hHB.later hx)); have HOF := Qc (of16 w2 _ (Qfd lg) hlog); have HLA := Qc (fun w t (h : Below w2.heap.size w2 w) => rlast15 _ (Qfd lg) t w (HLI.out.below h)); have HNX := Qc (fun w k (h : Below w2.heap.size w2 w) => rnext15 _ (Qfd lg) (by rw [Qii]; exact HRI.out) k w (HLI.out.below h)); simp only [Qii] at HOF HLA HNX; obtain ⟨lgn, hlgn⟩ : ∃ k, k = lg.length := ⟨_, rfl⟩; have HLN := Qc hlgn; rw [<- hlgn] at c1 hlen HOF HLA HNX HLI; clear hHB hb2 hlog H1 HPL HLG HOP hlgn; go_wp2_with fail; clear c0 c1; refine HOF.out.mono ?_; rintro e w3 hans; obtain ⟨v1, v2, rfl, h1, h2, hb3⟩ := hans.tab; rw [HTE.out.1] at h1; rw [HTE.out.2]; obtain ⟨d1, c1, rfl, _⟩ := id h1; obtain ⟨d2, c2, rfl, _⟩ := id h2; have HV := Qc (And.intro h1 h2); have H3 := Qc hb3; clear hans h1 h2 hb3 HOF HTE; obtain ⟨lT, hlT⟩ : ∃ k, k = T.length := ⟨_, rfl⟩; have HLT := Qc hlT; rw [<- hlT] at HV HOQ hTB |-; obtain ⟨D, hD⟩ : ∃ D, D = (tabT lg).2 := ⟨_, rfl⟩; rw [<- hD] at HV |-; obtain ⟨lD, hlD⟩ : ∃ k, k = D.length := ⟨_, rfl⟩; rw [<- hlD] at HV |-; have hlT9 : (lT : Int) <= 900 := by omega
    clear hlT hD hlD; unfold taA; go_wp2_with (refine Qm rfl 28 (.tmp 8) (.tmp 39) rfl w3.heap.size 0 28 #[.slice none 0 0, .slice none 0 0] #[.slice d1 lT c1, .slice d2 lD c2] rfl rfl (Qb.new w3 _ _) Qae (Nat.le_refl 2) (by simp [Value.oneCell']) ?_; intro w4 hr4 ho4; refine Qz ?_); rw [Qu #[.slice none 0 0, .slice none 0 0] #[.slice d1 lT c1, .slice d2 lD c2] rfl] at hr4; have hal3 : Below w3.heap.size w3 (w3.alloc (.cells #[.slice none 0 0, .slice none 0 0] 28)) := (Below.refl _ _).alloc (Nat.le_refl _) _; have hb4 := ho4.below hal3 (Nat.le_refl _); have H4 : Hid (Qb w4 w3.heap.size 28 #[.slice d1 lT c1, .slice d2 lD c2] /\ Qqd w4 (.slice d1 lT c1) T /\ Qcf w4 (.slice d2 lD c2) D /\ Below w2.heap.size w2 w4) := ⟨hr4, HV.out.1.below hb4, HV.out.2.below hb4, H3.out.trans (hb4.mono H3.out.size)⟩; obtain ⟨g3, hg3⟩ : ∃ g, g = w3.heap.size := ⟨_, rfl⟩; rw [<- hg3] at H4 |-; clear hr4 ho4 hal3 hb4 hg3 H3 HV; refine Qf ?_; go_wp2_with fail; refine Qqa (fun y => Below w4.heap.size w4 y) (by kernel_rfl) (by kernel_rfl) (Qt (Below.refl _ _) 1) ?_; refine Qg (by kernel_rfl) (fun K hK => ?_); go_simp; refine hK _ ?_; clear hK K; refine Qg (by kernel_rfl) (fun K hK => ?_); go_simp; refine hK _ ?_; clear hK K; refine Qg (by kernel_rfl) (fun K hK => ?_); go_simp; refine hK _ ?_; clear hK K; refine Qg (by kernel_rfl) (fun K hK => ?_); go_simp; refine hK _ ?_; clear hK K; refine Qub (by kernel_rfl) (.slice d1 lT c1) (fun x hx => by have q := (H4.out.1.later hx).cell 0 (.slice d1 lT c1) rfl; go_simp) ?_; simp only [Act.put, List.setIfInBounds_toArray, List.set]; refine Qg (by kernel_rfl) (fun K hK => ?_); go_simp; refine hK _ ?_; clear hK K; refine Qg (by kernel_rfl) (fun K hK => ?_); go_simp; refine hK _ ?_; clear hK K; refine Qg (by kernel_rfl) (fun K hK => ?_); go_simp; refine hK _ ?_; clear hK K; refine Qyc (by kernel_rfl) 26 #[.pointer (some ⟨g, 0, none⟩), .int .i64 (n : Int)] (.int .i64 (lT : Int)) ?_ (fun y hC => (HOQ.out y (H4.out.2.2.2.trans (hC.mono H4.out.2.2.2.size))).mono fun e x q => ⟨q.1, hC.trans (q.2.mono hC.size)⟩) ?_; (intro x; go_simp); simp only [Act.put, List.setIfInBounds_toArray, List.set]; refine Qg (by kernel_rfl) (fun K hK => ?_); go_simp; refine hK _ ?_; clear hK K; refine Qg (by kernel_rfl) (fun K hK => ?_); go_simp; refine hK _ ?_; clear hK K; refine wpQuiet_nil ?_; intro w5 hb5
    have H5 : Hid (Qb w5 g3 28 #[.slice d1 lT c1, .slice d2 lD c2] /\ Qqd w5 (.slice d1 lT c1) T /\ Qcf w5 (.slice d2 lD c2) D /\ Below w2.heap.size w2 w5) := ⟨H4.out.1.later hb5, H4.out.2.1.below hb5, H4.out.2.2.1.below hb5, H4.out.2.2.2.trans (hb5.mono H4.out.2.2.2.size)⟩; clear hb5 H4 HOQ; go_wp2_with (refine Qd rfl 28 (.tmp 8) rfl g3 rfl #[.slice d1 lT c1, .slice d2 lD c2] H5.out.1 _ Try.underlying28 rfl Qae ?_); refine (losers16 w5 (.slice d1 lT c1) (.slice d2 lD c2) T D H5.out.2.1 H5.out.2.2.1 (by rw [<- HLT.out]; exact hTB)).mono ?_; rintro e w6 ⟨vL, rfl, hown, hb6⟩; obtain ⟨L, hL⟩ : ∃ L, L = Qsl T := ⟨_, rfl⟩; rw [<- hL] at hown HLO HLE
    have hLl : L.length <= 900 := by
      rw [hL]; have := List.length_filter_le losB T; rw [<- HLT.out] at this; unfold Qsl; omega
    have hTL := owT_in hown; obtain ⟨dL, cL, rfl, _⟩ := id hTL; have H6 : Hid (Qqd w6 (.slice dL L.length cL) L /\ Below w2.heap.size w2 w6) := ⟨hTL, H5.out.2.2.2.trans (hb6.mono H5.out.2.2.2.size)⟩; clear hown hb6 H5 hL hTL; obtain ⟨lL, hlL⟩ : ∃ k, k = L.length := ⟨_, rfl⟩; have HLL := Qc hlL; rw [<- hlL] at H6 hLl |-; clear hlL; have ln9 : (ln : Int) <= 300 := by omega
    have lL9 : (lL : Int) <= 900 := by omega
    have lg9 : (lgn : Int) <= 600 := by omega
    go_wp2; go_loopw [11, 12] (fun vk vm wr => ∃ k m : Nat, vk = .int .i64 (k : Int) /\ vm = .int .i64 (m : Int) /\ 1 <= m /\ m <= ln + 1 /\ k <= lL /\ Hid (At16 L m k) /\ Hid (Below w6.heap.size w6 wr)) (fun _ vm _ => ln + 1 - (intOf vm).toNat)
    case atStart => exact ⟨0, 1, rfl, rfl, Nat.le_refl _, by omega, Nat.zero_le _, ⟨Nat.zero_le _, fun j hj => absurd hj (by omega), fun j _ hj => (HLE.out _ (Qua L j Tx.zero hj)).1⟩, Below.refl _ _⟩
    case round =>
      obtain ⟨k, m, rfl, rfl, hm1, hm2, hk, HAT, HBR⟩ := hrel
      by_cases hlt : m <= ln
      · have i5 : (m : Int) <= (ln : Int) := by omega
        have m9 : m <= 300 := by omega
        have k9 : k <= 900 := by omega
        go_wp2; go_loopw [13, 14, 62] (fun vf vo vi wr => ∃ j : Nat, j <= lgn /\ vf = .int .u64 (Qva (lg.take j) (m : Int) : Int) /\ vo = .bool (Qze (lg.take j) (m : Int)) /\ vi = .int .i64 (j : Int) /\ Hid (Below w6.heap.size w6 wr)) (fun _ _ vi _ => lgn - (intOf vi).toNat)
        case atStart => exact ⟨0, Nat.zero_le _, rfl, rfl, rfl, HBR.out⟩
        case round =>
          obtain ⟨j, hj, rfl, rfl, rfl, HBI⟩ := hrel
          by_cases hlt2 : j < lgn
          · have i6 : (j : Int) < (lgn : Int) := by omega
            have i7 : (0 : Int) <= (j : Int) := by omega
            have hjl : j < lg.length := by rw [<- HLN.out]; exact hlt2
            have hF := Qoz (t := (m : Int)) hjl; have hO := over_take (t := (m : Int)) hjl; obtain ⟨b, off, rfl, -, he, hx⟩ := HLI.out.mid (show j < (Qfd lg).length by rw [Qgl]; exact hjl); obtain ⟨q0, q1, q2⟩ := rk_cells (hx wr (H6.out.2.trans (HBI.out.mono H6.out.2.size))).1; rw [Qii] at he; rw [he] at q0 q1 q2; obtain ⟨r, hr⟩ : ∃ r, r = lg.getD j Rec.zero := ⟨_, rfl⟩; rw [<- hr] at q0 q1 q2 hF hO; obtain ⟨f, hf⟩ : ∃ f, f = Qva (lg.take j) (m : Int) := ⟨_, rfl⟩; obtain ⟨o, ho⟩ : ∃ o, o = Qze (lg.take j) (m : Int) := ⟨_, rfl⟩; rw [<- hf] at hF |-; rw [<- ho] at hO |-; have HFO := Qc (And.intro hF hO); clear he hx hr hf ho hF hO hjl; have j9 : j < 600 := by omega
            by_cases rt : r.t = (m : Int)
            · by_cases fz : f = 0
              · subst fz
                cases o
                · skip
                  by_cases k3 : r.k = 3
                  · skip
                    have HN : Hid (Qva (lg.take (j + 1)) (m : Int) = r.l /\ Qze (lg.take (j + 1)) (m : Int) = true) := by
                      refine ⟨?_, ?_⟩
                      · rw [HFO.out.1, if_pos ⟨rt, rfl⟩]
                      · rw [HFO.out.2, decide_eq_true rt, decide_eq_true k3]; rfl
                    rw [rt] at q2; rw [k3] at q0; clear HFO rt; go_wp2; go_roundw
                    case rel => exact ⟨j + 1, by omega, by rw [HN.out.1], by rw [HN.out.2], by go_num, HBI.out⟩
                    case measure => simp [intOf] <;> omega
                  · by_cases k5 : r.k = 5
                    · skip
                      have HN : Hid (Qva (lg.take (j + 1)) (m : Int) = r.l /\ Qze (lg.take (j + 1)) (m : Int) = true) := by
                        refine ⟨?_, ?_⟩
                        · rw [HFO.out.1, if_pos ⟨rt, rfl⟩]
                        · rw [HFO.out.2, decide_eq_true rt, decide_eq_true k5]; simp
                      rw [rt] at q2; rw [k5] at q0; clear HFO rt; go_wp2; go_roundw
                      case rel => exact ⟨j + 1, by omega, by rw [HN.out.1], by rw [HN.out.2], by go_num, HBI.out⟩
                      case measure => simp [intOf] <;> omega
                    · skip
                      have HN : Hid (Qva (lg.take (j + 1)) (m : Int) = r.l /\ Qze (lg.take (j + 1)) (m : Int) = false) := by
                        refine ⟨?_, ?_⟩
                        · rw [HFO.out.1, if_pos ⟨rt, rfl⟩]
                        · rw [HFO.out.2, decide_eq_true rt, decide_eq_false k3, decide_eq_false k5]; rfl
                      rw [rt] at q2; have e3 : (r.k == 3) = false := by simpa using k3
                      have e5 : (r.k == 5) = false := by simpa using k5
                      clear HFO rt k3 k5; go_wp2; go_roundw
                      case rel => exact ⟨j + 1, by omega, by rw [HN.out.1], by rw [HN.out.2], by go_num, HBI.out⟩
                      case measure => simp [intOf] <;> omega
                · skip
                  have HN : Hid (Qva (lg.take (j + 1)) (m : Int) = r.l /\ Qze (lg.take (j + 1)) (m : Int) = true) := by
                    refine ⟨?_, ?_⟩
                    · rw [HFO.out.1, if_pos ⟨rt, rfl⟩]
                    · rw [HFO.out.2]; rfl
                  rw [rt] at q2; clear HFO rt; go_wp2; go_roundw
                  case rel => exact ⟨j + 1, by omega, by rw [HN.out.1], by rw [HN.out.2], by go_num, HBI.out⟩
                  case measure => simp [intOf] <;> omega
              · cases o
                · skip
                  by_cases k3 : r.k = 3
                  · skip
                    have HN : Hid (Qva (lg.take (j + 1)) (m : Int) = f /\ Qze (lg.take (j + 1)) (m : Int) = true) := by
                      refine ⟨?_, ?_⟩
                      · rw [HFO.out.1, if_neg (fun q => fz q.2)]
                      · rw [HFO.out.2, decide_eq_true rt, decide_eq_true k3]; rfl
                    rw [rt] at q2; have e2 : ((f : Int) == 0) = false := by simpa using fz
                    rw [k3] at q0; clear HFO rt fz; go_wp2; go_roundw
                    case rel => exact ⟨j + 1, by omega, by rw [HN.out.1], by rw [HN.out.2], by go_num, HBI.out⟩
                    case measure => simp [intOf] <;> omega
                  · by_cases k5 : r.k = 5
                    · skip
                      have HN : Hid (Qva (lg.take (j + 1)) (m : Int) = f /\ Qze (lg.take (j + 1)) (m : Int) = true) := by
                        refine ⟨?_, ?_⟩
                        · rw [HFO.out.1, if_neg (fun q => fz q.2)]
                        · rw [HFO.out.2, decide_eq_true rt, decide_eq_true k5]; simp
                      rw [rt] at q2; have e2 : ((f : Int) == 0) = false := by simpa using fz
                      rw [k5] at q0; clear HFO rt fz; go_wp2; go_roundw
                      case rel => exact ⟨j + 1, by omega, by rw [HN.out.1], by rw [HN.out.2], by go_num, HBI.out⟩
                      case measure => simp [intOf] <;> omega
                    · skip
                      have HN : Hid (Qva (lg.take (j + 1)) (m : Int) = f /\ Qze (lg.take (j + 1)) (m : Int) = false) := by
                        refine ⟨?_, ?_⟩
                        · rw [HFO.out.1, if_neg (fun q => fz q.2)]
                        · rw [HFO.out.2, decide_eq_true rt, decide_eq_false k3, decide_eq_false k5]; rfl
                      rw [rt] at q2; have e2 : ((f : Int) == 0) = false := by simpa using fz
                      have e3 : (r.k == 3) = false := by simpa using k3
                      have e5 : (r.k == 5) = false := by simpa using k5
                      clear HFO rt fz k3 k5; go_wp2; go_roundw
                      case rel => exact ⟨j + 1, by omega, by rw [HN.out.1], by rw [HN.out.2], by go_num, HBI.out⟩
                      case measure => simp [intOf] <;> omega
                · skip
                  have HN : Hid (Qva (lg.take (j + 1)) (m : Int) = f /\ Qze (lg.take (j + 1)) (m : Int) = true) := by
                    refine ⟨?_, ?_⟩
                    · rw [HFO.out.1, if_neg (fun q => fz q.2)]
                    · rw [HFO.out.2]; rfl
                  rw [rt] at q2; have e2 : ((f : Int) == 0) = false := by simpa using fz
                  clear HFO rt fz; go_wp2; go_roundw
                  case rel => exact ⟨j + 1, by omega, by rw [HN.out.1], by rw [HN.out.2], by go_num, HBI.out⟩
                  case measure => simp [intOf] <;> omega
            · cases o
              · skip
                have HN : Hid (Qva (lg.take (j + 1)) (m : Int) = f /\ Qze (lg.take (j + 1)) (m : Int) = false) := by
                  refine ⟨?_, ?_⟩
                  · rw [HFO.out.1, if_neg (fun q => rt q.1)]
                  · rw [HFO.out.2, decide_eq_false rt]; rfl
                have e1 : (r.t == (m : Int)) = false := by simpa using rt
                clear HFO rt; go_wp2; go_roundw
                case rel => exact ⟨j + 1, by omega, by rw [HN.out.1], by rw [HN.out.2], by go_num, HBI.out⟩
                case measure => simp [intOf] <;> omega
              · skip
                have HN : Hid (Qva (lg.take (j + 1)) (m : Int) = f /\ Qze (lg.take (j + 1)) (m : Int) = true) := by
                  refine ⟨?_, ?_⟩
                  · rw [HFO.out.1, if_neg (fun q => rt q.1)]
                  · rw [HFO.out.2]; rfl
                have e1 : (r.t == (m : Int)) = false := by simpa using rt
                clear HFO rt; go_wp2; go_roundw
                case rel => exact ⟨j + 1, by omega, by rw [HN.out.1], by rw [HN.out.2], by go_num, HBI.out⟩
                case measure => simp [intOf] <;> omega
          · have i6 : ¬ (j : Int) < (lgn : Int) := by omega
            have e : lg.take j = lg := List.take_of_length_le (by rw [<- HLN.out]; omega); rw [e]; have HNO := Qc (HLO.out.no (m : Int)); have HYE := Qc (HLO.out.yes (m : Int)); obtain ⟨f, hf⟩ : ∃ f, f = Qva lg (m : Int) := ⟨_, rfl⟩; obtain ⟨o, ho⟩ : ∃ o, o = Qze lg (m : Int) := ⟨_, rfl⟩; rw [<- hf, <- ho] at HNO HYE |-; clear e hf ho hj
            by_cases fz : f = 0
            · subst fz; have HN := Qc (HAT.out.skip (HNO.out (.inl rfl))); clear HNO HYE HAT; go_wp2; go_roundw
              case rel => exact ⟨k, m + 1, rfl, by go_num, by omega, by omega, hk, HN, HBI⟩
              case measure => simp [intOf] <;> omega
            · have e2 : ((f : Int) == 0) = false := by simpa using fz
              cases o
              rotate_left
              · have HN := Qc (HAT.out.skip (HNO.out (.inr rfl))); clear HNO HYE HAT fz; go_wp2; go_roundw
                case rel => exact ⟨k, m + 1, rfl, by go_num, by omega, by omega, hk, HN, HBI⟩
                case measure => simp [intOf] <;> omega
              · obtain ⟨x, hxL, xt, xf, xl, xn⟩ := HYE.out fz rfl; obtain ⟨hkL, hget, hat2⟩ := HAT.out.here HLO.out.srt hxL xt; have HN := Qc hat2; obtain ⟨b, off, cq, hv, -, hx⟩ := H6.out.1.mid hkL; injection hv with p1 p2 p3; rw [hget] at hx; subst p1; have HCE := Qc (fun y (hy : Below w6.heap.size w6 y) => tx_cells (hx y hy)); have kL : (k : Int) < (lL : Int) := by rw [HLL.out]; omega
                have kL2 : decide ((k : Int) ≥ (lL : Int)) = false := by simp; omega
                have kL3 : ¬ lL <= k := by omega
                have k0 : (0 : Int) <= (k : Int) := by omega
                rw [xn, xl] at HCE; rw [xt, xf] at HCE; have HLX := Qc (fun y (hy : Below w6.heap.size w6 y) => HLA.out y (m : Int) (H6.out.2.trans (hy.mono H6.out.2.size))); have HNY := Qc (fun y n (hy : Below w6.heap.size w6 y) => HNX.out y n (H6.out.2.trans (hy.mono H6.out.2.size))); obtain ⟨z, hz⟩ : ∃ z, z = Qeg lg (m : Int) := ⟨_, rfl⟩; rw [<- hz] at HCE HLX; have HNZ := Qc (fun y (hy : Below w6.heap.size w6 y) => HNY.out y z hy); obtain ⟨u, hu⟩ : ∃ u, u = Qcb lg z := ⟨_, rfl⟩; rw [<- hu] at HCE HNZ; clear HNO HYE HAT fz hxL xt xf xl xn hkL hget hat2 hx p2 p3 hz hu HNY; go_wp2_with fail; refine Qqa (fun y => Below w6.heap.size w6 y) (by kernel_rfl) (by kernel_rfl) (Qt HBI.out 1) ?_; refine Qg (by kernel_rfl) (fun K hK => ?_); go_simp; refine hK _ ?_; clear hK K; refine Qg (by kernel_rfl) (fun K hK => ?_); go_simp; refine hK _ ?_; clear hK K; refine Qg (by kernel_rfl) (fun K hK => ?_); go_simp; refine hK _ ?_; clear hK K; refine Qg (by kernel_rfl) (fun K hK => ?_); go_simp; refine hK _ ?_; clear hK K; refine Qg (by kernel_rfl) (fun K hK => ?_); go_simp; refine hK _ ?_; clear hK K; refine Qg (by kernel_rfl) (fun K hK => ?_); go_simp; refine hK _ ?_; clear hK K; refine Qg (by kernel_rfl) (fun K hK => ?_); go_simp; refine hK _ ?_; clear hK K; refine Qg (by kernel_rfl) (fun K hK => ?_); go_simp; refine hK _ ?_; clear hK K; refine Qg (by kernel_rfl) (fun K hK => ?_); go_simp; refine hK _ ?_; clear hK K; refine Qub (by kernel_rfl) (.int .i64 (m : Int)) (fun x hx => by have q := (HCE.out x hx).1; go_simp) ?_; simp only [Act.put, List.setIfInBounds_toArray, List.set]; refine Qg (by kernel_rfl) (fun K hK => ?_); go_simp; refine hK _ ?_; clear hK K; refine Qg (by kernel_rfl) (fun K hK => ?_); go_simp; refine hK _ ?_; clear hK K; refine Qg (by kernel_rfl) (fun K hK => ?_); go_simp; refine hK _ ?_; clear hK K; refine Qg (by kernel_rfl) (fun K hK => ?_); go_simp; refine hK _ ?_; clear hK K; refine Qg (by kernel_rfl) (fun K hK => ?_); go_simp; refine hK _ ?_; clear hK K; refine Qg (by kernel_rfl) (fun K hK => ?_); go_simp; refine hK _ ?_; clear hK K; refine Qg (by kernel_rfl) (fun K hK => ?_); go_simp; refine hK _ ?_; clear hK K; refine Qg (by kernel_rfl) (fun K hK => ?_); go_simp; refine hK _ ?_; clear hK K; refine Qub (by kernel_rfl) (.int .u64 (f : Int)) (fun x hx => by have q := (HCE.out x hx).2.1; go_simp) ?_; simp only [Act.put, List.setIfInBounds_toArray, List.set]
                refine Qg (by kernel_rfl) (fun K hK => ?_); go_simp; refine hK _ ?_; clear hK K; refine Qg (by kernel_rfl) (fun K hK => ?_); go_simp; refine hK _ ?_; clear hK K; refine Qg (by kernel_rfl) (fun K hK => ?_); go_simp; refine hK _ ?_; clear hK K; refine Qg (by kernel_rfl) (fun K hK => ?_); go_simp; refine hK _ ?_; clear hK K; refine Qg (by kernel_rfl) (fun K hK => ?_); go_simp; refine hK _ ?_; clear hK K; refine Qg (by kernel_rfl) (fun K hK => ?_); go_simp; refine hK _ ?_; clear hK K; refine Qg (by kernel_rfl) (fun K hK => ?_); go_simp; refine hK _ ?_; clear hK K; refine Qg (by kernel_rfl) (fun K hK => ?_); go_simp; refine hK _ ?_; clear hK K; refine Qub (by kernel_rfl) (.int .u64 (z : Int)) (fun x hx => by have q := (HCE.out x hx).2.2.1; go_simp) ?_; simp only [Act.put, List.setIfInBounds_toArray, List.set]; refine Qg (by kernel_rfl) (fun K hK => ?_); go_simp; refine hK _ ?_; clear hK K; refine Qg (by kernel_rfl) (fun K hK => ?_); go_simp; refine hK _ ?_; clear hK K; refine Qyc (by kernel_rfl) 27 #[.slice a lgn c, .int .i64 (m : Int)] (.int .u64 (z : Int)) ?_ (fun y hC => (HLX.out y hC).mono fun e x q => ⟨q.1, hC.trans (q.2.mono hC.size)⟩) ?_; (intro x; go_simp); simp only [Act.put, List.setIfInBounds_toArray, List.set]; refine Qg (by kernel_rfl) (fun K hK => ?_); go_simp; refine hK _ ?_; clear hK K; refine Qg (by kernel_rfl) (fun K hK => ?_); go_simp; refine hK _ ?_; clear hK K; refine wpQuiet_nil ?_; intro w7 hb7; have H7 := Qc hb7; clear hb7 HBI HLX; go_wp2_with fail; refine Qqa (fun y => Below w6.heap.size w6 y) (by kernel_rfl) (by kernel_rfl) (Qt H7.out 1) ?_; refine Qg (by kernel_rfl) (fun K hK => ?_); go_simp; refine hK _ ?_; clear hK K; refine Qg (by kernel_rfl) (fun K hK => ?_); go_simp; refine hK _ ?_; clear hK K; refine Qg (by kernel_rfl) (fun K hK => ?_); go_simp; refine hK _ ?_; clear hK K; refine Qg (by kernel_rfl) (fun K hK => ?_); go_simp; refine hK _ ?_; clear hK K; refine Qub (by kernel_rfl) (.int .u64 (u : Int)) (fun x hx => by have q := (HCE.out x hx).2.2.2; go_simp) ?_; simp only [Act.put, List.setIfInBounds_toArray, List.set]; refine Qg (by kernel_rfl) (fun K hK => ?_); go_simp; refine hK _ ?_; clear hK K; refine Qg (by kernel_rfl) (fun K hK => ?_); go_simp; refine hK _ ?_; clear hK K; refine Qg (by kernel_rfl) (fun K hK => ?_); go_simp; refine hK _ ?_; clear hK K
                refine Qg (by kernel_rfl) (fun K hK => ?_); go_simp; refine hK _ ?_; clear hK K; refine Qg (by kernel_rfl) (fun K hK => ?_); go_simp; refine hK _ ?_; clear hK K; refine Qub (by kernel_rfl) (.int .u64 (z : Int)) (fun x hx => by have q := (HCE.out x hx).2.2.1; go_simp) ?_; simp only [Act.put, List.setIfInBounds_toArray, List.set]; refine Qyc (by kernel_rfl) 28 #[.slice a lgn c, .int .u64 (z : Int)] (.int .u64 (u : Int)) ?_ (fun y hC => (HNZ.out y hC).mono fun e x q => ⟨q.1, hC.trans (q.2.mono hC.size)⟩) ?_; (intro x; go_simp); simp only [Act.put, List.setIfInBounds_toArray, List.set]; refine Qg (by kernel_rfl) (fun K hK => ?_); go_simp; refine hK _ ?_; clear hK K; refine wpQuiet_nil ?_; intro w8 hb8; have H8 := Qc hb8; clear hb8 H7 HNZ; go_wp2; go_roundw
                case rel => exact ⟨k + 1, m + 1, by go_num, by go_num, by omega, by omega, by omega, HN, H8⟩
                case measure => simp [intOf] <;> omega
      · have i5 : ¬ (m : Int) <= (ln : Int) := by omega
        obtain rfl : m = ln + 1 := by omega
        have ek : k = lL := by
          rcases Nat.lt_or_ge k lL with q | q
          · have q2 : k < L.length := by rw [<- HLL.out]; exact q
            have h1 := HAT.out.high k (Nat.le_refl _) q2; have h2 := (HLE.out _ (Qua L k Tx.zero q2)).2; omega
          · omega
        subst ek; have HE := Qc (H2.out.trans ((H6.out.2.trans (HBR.out.mono H6.out.2.size)).mono H2.out.size)); clear HAT HBR; go_wp2; go_ret; exact ⟨rfl, HE.out⟩
end Go.Proofs.Ythlllmkmpneedaa.analyseLosers
namespace Go.Proofs.Ythlllmkmpneedaa.analyseLosers
open Go.ChangeShapes Go.WideShapes Go.ChangeAt Go.RowKit
open Go.ChangeMaps (open_string shut_string)
set_option linter.unusedVariables false

theorem laidOut : laidOutB Try.prog = true := by kernel_rfl
theorem own : ownKnob Try.prog.godebug = none := by kernel_rfl

set_option maxRecDepth 100000 in
theorem lifted (os : Os) (started : os.Started) (H : Type) (enc : TypeId × Value -> H) :
    ReturnsInHanded {} Try.checked os 7 .any (Rows.analyseLosersSpec.pre6 enc Try.prog Try.f7 Rows.analyseLosersRow.domain false) (Rows.analyseLosersSpec.post enc Try.prog Try.f7 false true false false) := by
  refine returnsInHanded_of_change_sized (C := Try.checked) own started (by kernel_rfl) Try.func7
    (ChangeSpec.witness6 (enc := enc) (C := Try.checked) false ⟨#[], #[.slice none 0 0, .int .u8 0], []⟩ 8 (by kernel_rfl) (by kernel_rfl) (by kernel_rfl) (by kernel_rfl)) ?_
  intro W base args ds gs before hval0 hW hcnd hsz0 _
  have hval : ∀ (j : Nat) t v, Try.f7.params[j]? = some t -> args[j]? = some v -> Value.okWide Try.prog W .any base t v := hval0
  have hsz : (DataW.weightsEach Try.prog (Try.f7.params.toList ++ Rows.analyseLosersSpec.plain.varTypes Try.prog) (ds ++ gs)).all (· <= reachBytes) = true := hsz0
  have hW' := hW
  obtain ⟨p, q, hA0, hV, rfl, hfz, hnd⟩ := hW
  have hA : DataW.TrodAll enc Try.prog W 0 (fun _ => true) true Try.f7.params.toList args.toList ds p := hA0
  rw [Try.params7] at hA hval hsz
  obtain ⟨v0, vs0, d0, ds0, p0, q0, hargs, rfl, rfl, h0, r0⟩ := trodAll_cons hA
  obtain ⟨v1, vs1, d1, ds1, p1, q1, rfl, rfl, rfl, h1, r1⟩ := trodAll_cons r0
  obtain ⟨rfl, rfl, rfl⟩ := trodAll_nil r1
  obtain rfl : args = #[v0, v1] := by cases args; simp_all
  obtain ⟨rfl, rfl⟩ := trodVars_none hV
  have k0 := h0
  have lt0 := Qqv h0
  obtain ⟨a1, rfl, rfl, rfl, w1⟩ := open_int Try.underlying5 (hval 1 5 v1 rfl rfl) h1
  obtain ⟨m0, w0⟩ := op_acs (hval 0 56 v0 rfl rfl) h0
  clear hA0 hval0 hsz0 hsz
  refine (walk v0 m0 a1 W w0 w1).mono fun e W' ⟨he, bel⟩ => ?_
  subst he
  exact ⟨_, rfl, _, _, _, [], _, [], hW', trodAll_mk1 (shut_bool Try.underlying4 _), (trodAll_cons_mk (Below.trod laidOut (by kernel_rfl) (of_decide_eq_true (by kernel_rfl)) k0 bel lt0) (trodAll_cons_mk (shut_int Try.underlying5 w1) trodAll_mk0)), rfl, bel.frame _, fun h => by cases h⟩

theorem over : Rows.analyseLosersRow.holds Try.pinned (OpenSpec.ofChange Rows.analyseLosersSpec) :=
  OpenClaim.holds_of_wide 7 Try.f7 rfl rfl rfl rfl rfl rfl rfl ⟨rfl, rfl, rfl, rfl, rfl⟩ rfl rfl rfl rfl rfl (by kernel_rfl) Try.func7 (by kernel_rfl)
    (of_decide_eq_true (by kernel_rfl)) (by unfold Func.isWrapper; first | (rw [if_pos (by decide +kernel)]; kernel_rfl) | (rw [if_neg (by decide +kernel)]; exact ⟨rfl, rfl⟩))
    (fun os started H enc _ => lifted os started H enc)

/-- THE STATEMENT. -/
theorem proved : Rows.AnalyseLosersSaid := over
end Go.Proofs.Ythlllmkmpneedaa.analyseLosers
namespace Go.Proofs.Ythlllmkmpneedaa
theorem analyseLosers_proved : Rows.AnalyseLosersSaid := analyseLosers.proved
end Go.Proofs.Ythlllmkmpneedaa
