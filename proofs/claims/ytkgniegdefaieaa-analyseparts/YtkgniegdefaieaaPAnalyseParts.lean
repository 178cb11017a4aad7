/-
  The table of a log without checkpoints, and of more behind it, is the table of both. AnalyseParts returns true for every input, and its arguments read as before.
  Condition: none but those that the form of every such statement bears by itself (each string within the reach).
-/
import Derived.Test.YtkgniegdefaieaaRows
import Derived.ProofKit
import Derived.OpenShut
import Derived.ShutString
import Derived.SizedLaws
import Derived.JoinedCond
import Derived.Test.YtkgniegdefaieaaK13
import Derived.Test.YtkgniegdefaieaaK12
import Derived.Test.YtkgniegdefaieaaK03

set_option maxRecDepth 8000
set_option maxHeartbeats 25600000
namespace Go.Proofs.Ytkgniegdefaieaa.analyseParts
open Go.RowKit
set_option linter.unusedVariables false
theorem LogIn.to16 {w : World} {a : Option Addr} {len c : Nat} {ms : List (Rec × Value × Value)} (h : LogIn w (.slice a len c) ms) {k : Nat} (hk : k <= len) : LogIn w (.slice a k c) (ms.take k) := by
  obtain ⟨⟨⟨a', cap', h1, h2⟩, h3⟩, h4, h5⟩ := h; injection h1 with e1 e2 e3; subst e1 e2 e3; have hc := h5 _ _ _ rfl; have hl : (ms.take k).length = k := by rw [List.length_take]; omega
  refine ⟨⟨⟨_, _, by rw [hl], fun hp => ?_⟩, fun m hm => h3 m (List.mem_of_mem_take hm)⟩, by rw [hl]; omega, fun a l c' he => ?_⟩
  · rw [hl] at hp; obtain ⟨b, off, e, hb, hr⟩ := h2 (by omega); refine ⟨b, off, e, hb, fun i hi => ?_⟩; rw [hl] at hi; rw [List.getD_eq_getElem?_getD, List.getElem?_take, if_pos hi, <- List.getD_eq_getElem?_getD]; exact hr i (by omega)
  · injection he with q1 q2 q3; omega
theorem Qsx {w w' : World} {rs : List Rec} {e : Ending} (h : Qmw w rs e w') (hr : Qcb 0 rs) : Qtv w (ofA rs) 0 e w' := by
  have h1 := h.tab; have e1 : Qfv rs = ofA rs := if_pos ((Qea _ _).2 hr); have e2 : Qow rs = 0 := if_pos ((Qea _ _).2 hr); rwa [e1, e2] at h1
theorem Qgw {w w' : World} {t : Ta} {rs : List Rec} {e : Ending} (h : Qrw w t rs e w') (h1 : Qrv t) (h2 : Qnv t rs) : Qtv w (Qha t rs) 0 e w' := by
  rcases h with ⟨h3, _⟩ | ⟨_, h3, _⟩ | ⟨_, _, h3⟩
  · exact absurd h1 h3
  · exact absurd h2 h3
  · exact h3
theorem share4 {F G : Value -> Value -> Nat -> World -> Prop} {R : Prop} (h : (∀ u v g z, F u v g z -> G u v g z) -> R) (k : ∀ u v g z, F u v g z -> G u v g z) : R := h k
theorem core (v0 : Value) (ms : List (Rec × Value × Value)) (cut : Nat) (W : World) (ha : Qmi W v0 ms) (hb : ms.length <= maxLen) (hc : ∀ a len cap, v0 = .slice a len cap -> len <= cap) (hcut : cut < 18446744073709551616) :
    Calls Try.prog 5 #[v0, .int .u64 (cut : Int)] W fun e w' => e = .returned (.bool true) /\ Below W.heap.size W w' := by
  obtain ⟨au, cu, rfl, _⟩ := id ha.1
  obtain ⟨q, hq⟩ : ∃ q : Bool, q = true ↔ Qln ms := by
    classical
    exact ⟨decide (Qln ms), decide_eq_true_iff⟩
  have HFW := Qb (fun x (hx : Below W.heap.size W x) => few16 x _ ms q hq (ha.below hx) hb); have HAW := Qb (fun x => Qcw x)
  cases q
  · clear ha hb hc hq; generalize ms.length = ln at *; go_enter Try.func5, Try.ntmps5; go_wp2_with fail; refine (HAW.out W).mono ?_; rintro e w1 ⟨rfl, hb1⟩; have H1 := Qb hb1; clear hb1; go_wp2_with fail; refine (HFW.out w1 H1.out).mono ?_; rintro e w2 ⟨rfl, rfl⟩; go_wp2_with fail; refine (HAW.out w2).mono ?_; rintro e w3 ⟨rfl, hb3⟩; have H3 := Qb (H1.out.trans (hb3.mono H1.out.size)); clear hb3 H1 HFW HAW; go_wp2; go_ret; exact ⟨rfl, H3.out⟩
  have hP : Qln ms := hq.1 rfl; have hl1 := hP.1; have HLG := Qb (fun x (hx : Below W.heap.size W x) => (show LogIn x (.slice au ms.length cu) ms from ⟨ha.below hx, by omega, fun a l c e => hc a l c e⟩)); have HGD := Qb (fun x (hx : Below W.heap.size W x) => Qyw _ ms x (HLG.out x hx))
  by_cases hr : Qcb 0 (msR ms)
  · have HPL := Qb (fun x (hx : Below W.heap.size W x) => Qcy x _ ms (HLG.out x hx)); rw [(Qea _ _).2 hr] at HGD
    have hfit : ∀ r ∈ msR (Qlv ms), r.fits := fun r hr => by
      obtain ⟨m, hm, rfl⟩ := List.mem_map.1 hr; exact (ha.2 m (List.mem_filter.1 hm).1).1
    have hmf : ∀ x, Below W.heap.size W x -> ∀ m ∈ Qlv ms, m.1.fits /\ Qwb x m.1 m.2.1 m.2.2 := fun x hx m hm => by
      have h := ha.2 m (List.mem_filter.1 hm).1; exact ⟨h.1, h.2.below hx⟩
    have hln : (Qlv ms).length <= 300 := Nat.le_trans (List.length_filter_le _ _) hl1; have hrp : Qcb 0 (msR (Qlv ms)) := by rw [Qzv]; exact Qsv _ _ _ hr
    have hrk : ∀ r ∈ msR (Qlv ms), r.k <= 6 := by rw [Qzv]; exact Qey hr
    have HMF := Qb hmf; obtain ⟨ps, hps⟩ : ∃ ps, ps = Qlv ms := ⟨_, rfl⟩; rw [<- hps] at HPL hfit HMF hln hrp hrk; obtain ⟨lp, hlp⟩ : ∃ l, l = ps.length := ⟨_, rfl⟩; obtain ⟨k, hk⟩ : ∃ k : Nat, k = cut % (lp + 1) := ⟨_, rfl⟩
    have hkl : k <= lp := by
      have : cut % (lp + 1) < lp + 1 := Nat.mod_lt _ (by omega); omega
    obtain ⟨l1, hl1'⟩ : ∃ l1 : Nat, l1 = lp + 1 := ⟨_, rfl⟩; have e1 : (lp : Int) + 1 = (l1 : Int) := by omega
    have e2 : (cut : Int) % (l1 : Int) = (k : Int) := by
      rw [hk, <- hl1']; exact (Int.natCast_emod cut l1).symm
    have e3 : ¬ (l1 : Int) = 0 := by omega
    have hlb : lp <= 300 := by omega
    have hl1b : l1 <= 301 := by omega
    have HPT := Qb (parts16 hrp hrk k); have hTF : TaFit (ofA (msR ps)) := Qtx hrp hfit
    have hTO : TaOk (ofA (msR ps)) 2000 := by
      have h := Qkx hrp; rw [Qka] at h; exact ⟨h.st, h.sd, by have := h.lt; omega, by have := h.ld; omega⟩
    have hT1 : TaOk (ofA ((msR ps).take k)) 1000 := by
      have h := Qkx (Qsg _ k hrp); have h9 : ((msR ps).take k).length <= 300 := by rw [List.length_take, Qka]; omega
      exact ⟨h.st, h.sd, by have := h.lt; omega, by have := h.ld; omega⟩
    have HT1 := Qb hT1; have HRP := Qb hrp; have HR1 := Qb (Qsg _ k hrp); obtain ⟨T, hT⟩ : ∃ T, T = ofA (msR ps) := ⟨_, rfl⟩; have HTT := Qb hT; rw [<- hT] at hTF hTO HPT; have HSM := Qb (fun va vb ua ub x (h1 : Qxb x va T.1) (h2 : Qxc x vb T.2) (h3 : Qxb x ua T.1) (h4 : Qxc x ub T.2) => Qyx T T va vb ua ub x true (show true = true ↔ T = T from ⟨fun _ => rfl, fun _ => rfl⟩) hTF hTF hTO hTO h1 h2 h3 h4); have HLP := Qb hlp; clear ha hb hc hq hP hr hfit hmf hps hlp hk hl1' hln hrp hrk hTF hTO hT1 hT HLG; generalize ms.length = ln at *; go_enter Try.func5, Try.ntmps5; go_wp2_with fail; refine (HAW.out W).mono ?_; rintro e w1 ⟨rfl, hb1⟩; have H1 := Qb hb1; clear hb1 HAW; go_wp2_with fail; refine (HFW.out w1 H1.out).mono ?_; rintro e w2 ⟨rfl, rfl⟩; clear HFW; go_wp2_with fail; refine (HGD.out w2 H1.out).mono ?_; rintro e w3 ⟨rfl, hb3⟩; have H3 := Qb (H1.out.trans (hb3.mono H1.out.size)); clear hb3 H1 HGD; go_wp2_with fail; refine (HPL.out w3 H3.out).mono ?_; rintro e w4 ⟨vp, rfl, how, hb4⟩; have H4 : Hid (LogIn w4 vp ps /\ Below W.heap.size W w4) := ⟨Qmx how (HMF.out w3 H3.out) hb4 (by rw [<- HLP.out]; omega), H3.out.trans (hb4.mono H3.out.size)⟩; obtain ⟨ap, cp, rfl, hcp⟩ := H4.out.1.slice; rw [<- HLP.out] at H4 hcp |-; clear how hb4 H3 HPL HMF; have HOF := Qb (fun x (hx : Below w4.heap.size w4 x) => of16 x _ ps (H4.out.1.below hx)); go_wp2_with fail; refine (HOF.out w4 (Below.refl _ _)).mono ?_; rintro e w5 hans; obtain ⟨v1, v2, rfl, h1, h2, hb5⟩ := Qsx hans HRP.out; rw [<- HTT.out] at h1 h2; have H5 := Qb (And.intro h1 (And.intro h2 hb5)); obtain ⟨a1, c1, rfl, _⟩ := id h1; obtain ⟨a2, c2, rfl, _⟩ := id h2; clear hans h1 h2 hb5 HOF; obtain ⟨ta, hta⟩ : ∃ t, t = taA (.slice a1 T.1.length c1) (.slice a2 T.2.length c2) := ⟨_, rfl⟩; have htz : ta.size = 2 := by rw [hta]; rfl
    have hti : (Try.prog.info? 28).map (·.size) = some ta.size := by rw [htz]; exact Qde
    have hto : ta.all (·.oneCell') = true := by rw [hta]; simp [taA, Value.oneCell']
    have HTA := Qb hta; rw [<- hta]; clear hta; go_wp2_with (refine Ql rfl 28 (.tmp 6) (.tmp 37) rfl w5.heap.size 0 28 #[.slice none 0 0, .slice none 0 0] ta rfl rfl (Qa.new w5 _ _) hti (by rw [htz]; exact Nat.le_refl 2) hto ?_; intro w6 hr6 ho6; refine Qpa ?_); rw [Qn #[.slice none 0 0, .slice none 0 0] ta (by rw [htz]; rfl)] at hr6; have hal5 : Below w5.heap.size w5 (w5.alloc (.cells #[.slice none 0 0, .slice none 0 0] 28)) := (Below.refl _ _).alloc (Nat.le_refl _) _; have hb6 := ho6.below hal5 (Nat.le_refl _); have H6 : Hid (Qa w6 w5.heap.size 28 ta /\ (Qxb w6 (.slice a1 T.1.length c1) T.1 /\ Qxc w6 (.slice a2 T.2.length c2) T.2) /\ Below w4.heap.size w4 w6) := ⟨hr6, ⟨H5.out.1.below hb6, H5.out.2.1.below hb6⟩, H5.out.2.2.trans (hb6.mono H5.out.2.2.size)⟩; obtain ⟨g6, hg6⟩ : ∃ g, g = w5.heap.size := ⟨_, rfl⟩; rw [<- hg6] at H6 |-; clear hr6 ho6 hal5 hb6 hg6 H5; refine Qg ?_; go_wp2_with (with_reducible refine Qxa 42 rfl ?_); refine Qg ?_; have hkc : k <= cp := by omega
    refine Qsw (some 42) (.slice ap k cp) rfl rfl (by go_simp) ?_; (try simp only [Act.put, List.setIfInBounds_toArray, List.set]); have HL6 := Qb (H4.out.1.below H6.out.2.2); have HO2 := Qb (of16 w6 _ _ (LogIn.to16 HL6.out hkl)); go_wp2_with fail; refine HO2.out.mono ?_; rintro e w7 hans; have hans2 := Qsx hans (by rw [Qjw]; exact HR1.out); rw [Qjw] at hans2; obtain ⟨v3, v4, rfl, h1, h2, hb7⟩ := hans2; obtain ⟨T1, hT1⟩ : ∃ T1, T1 = ofA ((msR ps).take k) := ⟨_, rfl⟩; rw [<- hT1] at h1 h2 HT1 HPT; obtain ⟨a3, c3, rfl, _⟩ := id h1; obtain ⟨a4, c4, rfl, _⟩ := id h2
    have H7 : Hid (Qa w7 g6 28 ta /\ (Qxb w7 (.slice a1 T.1.length c1) T.1 /\ Qxc w7 (.slice a2 T.2.length c2) T.2) /\ (Qxb w7 (.slice a3 T1.1.length c3) T1.1 /\ Qxc w7 (.slice a4 T1.2.length c4) T1.2) /\ Below w4.heap.size w4 w7) :=
      ⟨H6.out.1.later hb7, ⟨H6.out.2.1.1.below hb7, H6.out.2.1.2.below hb7⟩, ⟨h1, h2⟩, H6.out.2.2.trans (hb7.mono H6.out.2.2.size)⟩
    clear hans h1 h2 hb7 H6 HO2 HL6 hT1; obtain ⟨tb, htb⟩ : ∃ t, t = taA (.slice a3 T1.1.length c3) (.slice a4 T1.2.length c4) := ⟨_, rfl⟩; have hbz : tb.size = 2 := by rw [htb]; rfl
    have hbi : (Try.prog.info? 28).map (·.size) = some tb.size := by rw [hbz]; exact Qde
    have hbo : tb.all (·.oneCell') = true := by rw [htb]; simp [taA, Value.oneCell']
    have HTB := Qb htb; rw [<- htb]; clear htb; go_wp2_with (refine Ql rfl 28 (.tmp 8) (.tmp 44) rfl w7.heap.size 0 28 #[.slice none 0 0, .slice none 0 0] tb rfl rfl (Qa.new w7 _ _) hbi (by rw [hbz]; exact Nat.le_refl 2) hbo ?_; intro w8 hr8 ho8; refine Qpa ?_); rw [Qn #[.slice none 0 0, .slice none 0 0] tb (by rw [hbz]; rfl)] at hr8; have hal7 : Below w7.heap.size w7 (w7.alloc (.cells #[.slice none 0 0, .slice none 0 0] 28)) := (Below.refl _ _).alloc (Nat.le_refl _) _; have hb8 := ho8.below hal7 (Nat.le_refl _); obtain ⟨g8, hg8⟩ : ∃ g, g = w7.heap.size := ⟨_, rfl⟩; rw [<- hg8] at hr8 |-
    have H8 : Hid (∀ x, Below w8.heap.size w8 x -> Qa x g6 28 ta /\ Qa x g8 28 tb /\ (Qxb x (.slice a1 T.1.length c1) T.1 /\ Qxc x (.slice a2 T.2.length c2) T.2) /\ (Qxb x (.slice a3 T1.1.length c3) T1.1 /\ Qxc x (.slice a4 T1.2.length c4) T1.2) /\ Below W.heap.size W x /\ LogIn x (.slice ap lp cp) ps) := fun x hx => by
      have hb := hb8.trans (hx.mono hb8.size); have hb4 := H7.out.2.2.2.trans (hb.mono H7.out.2.2.2.size); exact ⟨H7.out.1.later hb, hr8.later hx, ⟨H7.out.2.1.1.below hb, H7.out.2.1.2.below hb⟩, ⟨H7.out.2.2.1.1.below hb, H7.out.2.2.1.2.below hb⟩, H4.out.2.trans (hb4.mono H4.out.2.size), H4.out.1.below hb4⟩
    clear hr8 ho8 hal7 hb8 hg8 H7 H4; refine Qg ?_; go_wp2_with fail; have HMO := Qb (fun x (hx : Below w8.heap.size w8 x) => more16 x _ _ T1.1 T1.2 _ (ps.drop k) (H8.out x hx).2.2.2.1.1 (H8.out x hx).2.2.2.1.2 HT1.out.lt HT1.out.ld ((H8.out x hx).2.2.2.2.2.from16 hkl)); rw [show msR (ps.drop k) = (msR ps).drop k by simp [msR, List.map_drop]] at HMO; rw [<- HTB.out] at HMO; apply share4 (F := fun u v g z => Hid (Qa z g 28 (taA u v) /\ Qxb z u T.1 /\ Qxc z v T.2 /\ Below w8.heap.size w8 z))
    case h =>
      intro REST; refine wp_region_noPanic ?_; refine wp_region_held_drew (S := fun x => Qa x g8 28 tb /\ Below w8.heap.size w8 x) (by kernel_rfl) ⟨(H8.out _ (Qoc (Below.refl _ _) 1)).2.1, Qoc (Below.refl _ _) 1⟩ (fun hHeld => ?_); generalize w8.drew = y1 at *; refine Qr 0 (some 47) (.agg tb) rfl rfl (by kernel_rfl) (by kernel_rfl) (by kernel_rfl) (fun _ _ _ h => h) (Qv (by kernel_rfl) 28 _ rfl (.pointer (some ⟨g8, 0, none⟩)) rfl _ (fun x hSx => Qpc x hSx.1 Try.underlying28 rfl hbi)) hHeld ?_; (try simp only [Act.put, List.setIfInBounds_toArray, List.set]); refine tkq 1 (some 48) (.slice ap lp cp) hHeld ?_; (try simp only [Act.put, List.setIfInBounds_toArray, List.set]); refine tkq 2 (some 49) (.int .i64 (k : Int)) hHeld ?_; (try simp only [Act.put, List.setIfInBounds_toArray, List.set]); refine tkk 3 (some 50) (.slice (Quv ap cp k) (lp - k) (cp - k)) rfl rfl (by kernel_rfl) (by kernel_rfl) (fun x hSx => by unfold Quv; go_simp) hHeld ?_; (try simp only [Act.put, List.setIfInBounds_toArray, List.set])
      refine Qpf 4 8 (by kernel_rfl) ?_ ?_
      · refine Qfa (some 51) rfl rfl rfl 15 #[.agg tb, .slice (Quv ap cp k) (lp - k) (cp - k)] ?he ((HMO.out y1 hHeld.2).mono ?_); (case he => go_simp); rintro e w9 hans; obtain ⟨u, v, rfl, h1, h2, hb9⟩ := Qgw hans HPT.out.2.1 HPT.out.2.2.1; rw [HPT.out.2.2.2] at h1 h2; obtain ⟨a5, c5, rfl, _⟩ := id h1; obtain ⟨a6, c6, rfl, _⟩ := id h2; have hHeld9 : Qa w9 g8 _ _ /\ Below w8.heap.size w8 w9 := And.intro (hHeld.1.later hb9) (hHeld.2.trans (hb9.mono hHeld.2.size)); have HV := Qb (And.intro h1 h2); clear hHeld hans h1 h2 hb9; refine ⟨_, rfl, hHeld9, ?_⟩; (try simp only [Act.put, List.setIfInBounds_toArray, List.set]); refine Qr 5 (some 46) (.tuple #[.agg #[.slice a5 T.1.length c5, .slice a6 T.2.length c6], .int .i64 0]) rfl rfl (by kernel_rfl) (by kernel_rfl) (by kernel_rfl) (fun _ _ _ h => h) (Or.inl ⟨by kernel_rfl, fun x hSx => by go_simp; rfl⟩) hHeld9 ?_; (try simp only [Act.put, List.setIfInBounds_toArray, List.set]); refine Qr 6 (some 52) (.agg #[.slice a5 T.1.length c5, .slice a6 T.2.length c6]) rfl rfl (by kernel_rfl) (by kernel_rfl) (by kernel_rfl) (fun _ _ _ h => h) (Or.inl ⟨by kernel_rfl, fun x hSx => by go_simp⟩) hHeld9 ?_; (try simp only [Act.put, List.setIfInBounds_toArray, List.set]); refine Qr 7 (some 53) (.int .i64 0) rfl rfl (by kernel_rfl) (by kernel_rfl) (by kernel_rfl) (fun _ _ _ h => h) (Or.inl ⟨by kernel_rfl, fun x hSx => by go_simp⟩) hHeld9 ?_; (try simp only [Act.put, List.setIfInBounds_toArray, List.set]); refine Qm 8 (by kernel_rfl) ?_; refine Qub (some 10) rfl rfl rfl (.pointer (some ⟨w9.heap.size, 0, none⟩)) (w9.alloc (.cells #[.slice none 0 0, .slice none 0 0] 28)) ?hz ?_; (case hz => go_simp); have hal : Below w9.heap.size w9 (w9.alloc (.cells #[.slice none 0 0, .slice none 0 0] 28)) := (Below.refl _ _).alloc (Nat.le_refl _) _; have hZ := Qa.new w9 28 #[.slice none 0 0, .slice none 0 0]; have HV2 : Hid (Qxb (w9.alloc (.cells #[.slice none 0 0, .slice none 0 0] 28)) (.slice a5 T.1.length c5) T.1 /\ Qxc (w9.alloc (.cells #[.slice none 0 0, .slice none 0 0] 28)) (.slice a6 T.2.length c6) T.2) := ⟨HV.out.1.below hal, HV.out.2.below hal⟩; have hHeld10 : Qa (w9.alloc (.cells #[.slice none 0 0, .slice none 0 0] 28)) g8 28 tb /\ Below w8.heap.size w8 (w9.alloc (.cells #[.slice none 0 0, .slice none 0 0] 28)) := And.intro (hHeld9.1.later hal) (hHeld9.2.trans (hal.mono hHeld9.2.size)); have hlow : g8 < w9.heap.size /\ w8.heap.size <= w9.heap.size := ⟨hHeld9.1.lt, hHeld9.2.size⟩; clear hal hHeld9 HV
        generalize w9.alloc (.cells #[.slice none 0 0, .slice none 0 0] 28) = z at *; generalize w9.heap.size = g at *; refine ⟨hHeld10, ?_⟩; (try simp only [Act.put, List.setIfInBounds_toArray, List.set]); refine Qm 9 (by kernel_rfl) ?_; refine Qca rfl rfl rfl 28 (.tmp 10) (.tmp 52) rfl g 0 28 #[.slice none 0 0, .slice none 0 0] #[.slice a5 T.1.length c5, .slice a6 T.2.length c6] rfl rfl hZ Qde (Nat.le_refl 2) (by simp [Value.oneCell']) ?_; intro w11 hr11 ho11; rw [Qn #[.slice none 0 0, .slice none 0 0] #[.slice a5 T.1.length c5, .slice a6 T.2.length c6] rfl] at hr11; have H11 : Hid (Qa w11 g 28 (taA (.slice a5 T.1.length c5) (.slice a6 T.2.length c6)) /\ Qxb w11 (.slice a5 T.1.length c5) T.1 /\ Qxc w11 (.slice a6 T.2.length c6) T.2 /\ Below w8.heap.size w8 w11) := ⟨hr11, Qsa HV2.out.1 hZ ho11.block ho11.size, Qnd HV2.out.2 hZ ho11.block ho11.size, ho11.below hHeld10.2 hlow.2⟩; have hHeld11 : Qa w11 g8 _ _ /\ Below w8.heap.size w8 w11 := And.intro (ho11.row hHeld10.1 (by omega)) H11.out.2.2.2; refine ⟨hHeld11, ?_⟩; (try simp only [Act.put, List.setIfInBounds_toArray, List.set]); refine Qr 10 (some 11) (.int .i64 0) rfl rfl (by kernel_rfl) (by kernel_rfl) (by kernel_rfl) (fun _ _ _ h => h) (Or.inl ⟨by kernel_rfl, fun x hSx => by go_simp⟩) hHeld11 ?_; (try simp only [Act.put, List.setIfInBounds_toArray, List.set]); refine wpAnyH_done (by kernel_rfl) ?_ _; refine NoPanic.normal ?_; clear hHeld10 hHeld11 hr11 ho11 hZ HV2; generalize (Value.slice a5 T.1.length c5) = vv1 at H11 |-; generalize (Value.slice a6 T.2.length c6) = vv2 at H11 |-; exact REST vv1 vv2 g w11 H11
      · refine Qub (some 10) rfl rfl rfl (.pointer (some ⟨y1.heap.size, 0, none⟩)) (y1.alloc (.cells #[.slice none 0 0, .slice none 0 0] 28)) ?hz ?_; (case hz => go_simp); have hal : Below y1.heap.size y1 (y1.alloc (.cells #[.slice none 0 0, .slice none 0 0] 28)) := (Below.refl _ _).alloc (Nat.le_refl _) _; have hZ0 := Qa.new y1 28 #[.slice none 0 0, .slice none 0 0]; have hHeld9 : Qa (y1.alloc (.cells #[.slice none 0 0, .slice none 0 0] 28)) g8 28 tb /\ Below w8.heap.size w8 (y1.alloc (.cells #[.slice none 0 0, .slice none 0 0] 28)) := And.intro (hHeld.1.later hal) (hHeld.2.trans (hal.mono hHeld.2.size)); have hlow : g8 < y1.heap.size /\ w8.heap.size <= y1.heap.size := ⟨hHeld.1.lt, hHeld.2.size⟩; clear hal hHeld; generalize y1.alloc (.cells #[.slice none 0 0, .slice none 0 0] 28) = y2 at *; generalize y1.heap.size = g at *; refine ⟨hHeld9, ?_⟩; (try simp only [Act.put, List.setIfInBounds_toArray, List.set]); refine Qm 4 (by kernel_rfl) ?_; refine Qfa (some 51) rfl rfl rfl 15 #[.agg tb, .slice (Quv ap cp k) (lp - k) (cp - k)] ?he ((HMO.out y2 hHeld9.2).mono ?_); (case he => go_simp); rintro e z hans; obtain ⟨u, v, rfl, h1, h2, hb9⟩ := Qgw hans HPT.out.2.1 HPT.out.2.2.1; rw [HPT.out.2.2.2] at h1 h2; obtain ⟨a5, c5, rfl, _⟩ := id h1; obtain ⟨a6, c6, rfl, _⟩ := id h2; have hHeld10 : Qa z g8 _ _ /\ Below w8.heap.size w8 z := And.intro (hHeld9.1.later hb9) (hHeld9.2.trans (hb9.mono hHeld9.2.size)); have hZ := hZ0.later hb9; have HV2 := Qb (And.intro h1 h2); clear hHeld9 hans h1 h2 hb9 hZ0; refine ⟨_, rfl, hHeld10, ?_⟩; (try simp only [Act.put, List.setIfInBounds_toArray, List.set]); refine Qr 5 (some 46) (.tuple #[.agg #[.slice a5 T.1.length c5, .slice a6 T.2.length c6], .int .i64 0]) rfl rfl (by kernel_rfl) (by kernel_rfl) (by kernel_rfl) (fun _ _ _ h => h) (Or.inl ⟨by kernel_rfl, fun x hSx => by go_simp; rfl⟩) hHeld10 ?_; (try simp only [Act.put, List.setIfInBounds_toArray, List.set]); refine Qr 6 (some 52) (.agg #[.slice a5 T.1.length c5, .slice a6 T.2.length c6]) rfl rfl (by kernel_rfl) (by kernel_rfl) (by kernel_rfl) (fun _ _ _ h => h) (Or.inl ⟨by kernel_rfl, fun x hSx => by go_simp⟩) hHeld10 ?_; (try simp only [Act.put, List.setIfInBounds_toArray, List.set]); refine Qr 7 (some 53) (.int .i64 0) rfl rfl (by kernel_rfl) (by kernel_rfl) (by kernel_rfl) (fun _ _ _ h => h) (Or.inl ⟨by kernel_rfl, fun x hSx => by go_simp⟩) hHeld10 ?_; (try simp only [Act.put, List.setIfInBounds_toArray, List.set]); refine Qm 9 (by kernel_rfl) ?_
        refine Qca rfl rfl rfl 28 (.tmp 10) (.tmp 52) rfl g 0 28 #[.slice none 0 0, .slice none 0 0] #[.slice a5 T.1.length c5, .slice a6 T.2.length c6] rfl rfl hZ Qde (Nat.le_refl 2) (by simp [Value.oneCell']) ?_; intro w11 hr11 ho11; rw [Qn #[.slice none 0 0, .slice none 0 0] #[.slice a5 T.1.length c5, .slice a6 T.2.length c6] rfl] at hr11; have H11 : Hid (Qa w11 g 28 (taA (.slice a5 T.1.length c5) (.slice a6 T.2.length c6)) /\ Qxb w11 (.slice a5 T.1.length c5) T.1 /\ Qxc w11 (.slice a6 T.2.length c6) T.2 /\ Below w8.heap.size w8 w11) := ⟨hr11, Qsa HV2.out.1 hZ ho11.block ho11.size, Qnd HV2.out.2 hZ ho11.block ho11.size, ho11.below hHeld10.2 hlow.2⟩; have hHeld11 : Qa w11 g8 _ _ /\ Below w8.heap.size w8 w11 := And.intro (ho11.row hHeld10.1 (by omega)) H11.out.2.2.2; refine ⟨hHeld11, ?_⟩; (try simp only [Act.put, List.setIfInBounds_toArray, List.set]); refine Qr 10 (some 11) (.int .i64 0) rfl rfl (by kernel_rfl) (by kernel_rfl) (by kernel_rfl) (fun _ _ _ h => h) (Or.inl ⟨by kernel_rfl, fun x hSx => by go_simp⟩) hHeld11 ?_; (try simp only [Act.put, List.setIfInBounds_toArray, List.set]); refine wpAnyH_done (by kernel_rfl) ?_ _; refine NoPanic.normal ?_; clear hHeld10 hHeld11 hr11 ho11 hZ HV2; generalize (Value.slice a5 T.1.length c5) = vv1 at H11 |-; generalize (Value.slice a6 T.2.length c6) = vv2 at H11 |-; exact REST vv1 vv2 g w11 H11
    case k =>
      intro u v g z HG; clear HMO HPT; have H8z := Qb (H8.out z HG.out.2.2.2); obtain ⟨tc, htc⟩ : ∃ t, t = taA u v := ⟨_, rfl⟩; have hcz : tc.size = 2 := by rw [htc]; rfl
      have hci : (Try.prog.info? 28).map (·.size) = some tc.size := by rw [hcz]; exact Qde
      have HTC := Qb htc; have HSZ := Qb (HSM.out _ _ u v z H8z.out.2.2.1.1 H8z.out.2.2.1.2 HG.out.2.1 HG.out.2.2.1); rw [<- HTA.out, <- htc] at HSZ; have HRC := Qb (show Qa z g 28 tc by rw [htc]; exact HG.out.1); clear htc HSM H8 HG; go_wp2_with (first | (refine Qd rfl 28 (.tmp 6) rfl g6 rfl ta H8z.out.1 _ Try.underlying28 rfl hti ?_) | (refine Qd rfl 28 (.tmp 10) rfl g rfl tc HRC.out _ Try.underlying28 rfl hci ?_)); refine HSZ.out.mono ?_; rintro e w11 ⟨rfl, hb11⟩; have HF := Qb (H8z.out.2.2.2.2.1.trans (hb11.mono H8z.out.2.2.2.2.1.size)); clear hb11 H8z HSZ HRC; go_wp2; go_ret; exact ⟨rfl, HF.out⟩
  · have hq2 : Qgf 0 (msR ms) = false := by
      cases h : Qgf 0 (msR ms)
      · rfl
      · exact absurd ((Qea _ _).1 h) hr
    rw [hq2] at HGD; clear ha hb hc hq hP hr hq2 HLG hl1; generalize ms.length = ln at *; go_enter Try.func5, Try.ntmps5; go_wp2_with fail; refine (HAW.out W).mono ?_; rintro e w1 ⟨rfl, hb1⟩; have H1 := Qb hb1; clear hb1; go_wp2_with fail; refine (HFW.out w1 H1.out).mono ?_; rintro e w2 ⟨rfl, rfl⟩; go_wp2_with fail; refine (HGD.out w2 H1.out).mono ?_; rintro e w3 ⟨rfl, hb3⟩; have H3 := Qb (H1.out.trans (hb3.mono H1.out.size)); clear hb3 H1 HGD; go_wp2_with fail; refine (HAW.out w3).mono ?_; rintro e w4 ⟨rfl, hb4⟩; have H4 := Qb (H3.out.trans (hb4.mono H3.out.size)); clear hb4 H3 HFW HAW; go_wp2; go_ret; exact ⟨rfl, H4.out⟩
theorem walk (v0 : Value) (ms : List (Rec × Value × Value)) (a1 : Int) (W : World) (ha : Qmi W v0 ms) (hb : ms.length <= maxLen) (hc : ∀ a len cap, v0 = .slice a len cap -> len <= cap) (hw : (Lit.int .u64 a1).wf = true) :
    Calls Try.prog 5 #[v0, .int .u64 a1] W fun e w' => e = .returned (.bool true) /\ Below W.heap.size W w' := by
  have b1 := bounds_u64 hw; obtain ⟨cut, rfl⟩ := Int.eq_ofNat_of_zero_le b1.1; exact core v0 ms cut W ha hb hc (by omega)
end Go.Proofs.Ytkgniegdefaieaa.analyseParts
namespace Go.Proofs.Ytkgniegdefaieaa.analyseParts
open Go.ChangeShapes Go.WideShapes Go.ChangeAt Go.RowKit
open Go.ChangeMaps (open_string shut_string)
set_option linter.unusedVariables false

theorem Qjv : laidOutB Try.prog = true := by kernel_rfl
theorem own : ownKnob Try.prog.godebug = none := by kernel_rfl

set_option maxRecDepth 100000 in
theorem lifted (os : Os) (started : os.Started) (H : Type) (enc : TypeId × Value -> H) :
    ReturnsInHanded {} Try.checked os 5 .any (Rows.analysePartsSpec.pre6 enc Try.prog Try.f5 Rows.analysePartsRow.domain false) (Rows.analysePartsSpec.post enc Try.prog Try.f5 false true false false) := by
  refine returnsInHanded_of_change_sized (C := Try.checked) own started (by kernel_rfl) Try.func5
    (ChangeSpec.witness6 (enc := enc) (C := Try.checked) false ⟨#[], #[.slice none 0 0, .int .u64 0], []⟩ 8 (by kernel_rfl) (by kernel_rfl) (by kernel_rfl) (by kernel_rfl)) ?_
  intro W base args ds gs before hval0 hW hcnd hsz0 _
  have hval : ∀ (j : Nat) t v, Try.f5.params[j]? = some t -> args[j]? = some v -> Value.okWide Try.prog W .any base t v := hval0
  have hsz : (DataW.weightsEach Try.prog (Try.f5.params.toList ++ Rows.analysePartsSpec.plain.varTypes Try.prog) (ds ++ gs)).all (· <= reachBytes) = true := hsz0
  have hW' := hW
  obtain ⟨p, q, hA0, hV, rfl, hfz, hnd⟩ := hW
  have hA : DataW.TrodAll enc Try.prog W 0 (fun _ => true) true Try.f5.params.toList args.toList ds p := hA0
  rw [Try.params5] at hA hval hsz
  obtain ⟨v0, vs0, d0, ds0, p0, q0, hargs, rfl, rfl, h0, r0⟩ := trodAll_cons hA
  obtain ⟨v1, vs1, d1, ds1, p1, q1, rfl, rfl, rfl, h1, r1⟩ := trodAll_cons r0
  obtain ⟨rfl, rfl, rfl⟩ := trodAll_nil r1
  obtain rfl : args = #[v0, v1] := by cases args; simp_all
  obtain ⟨rfl, rfl⟩ := trodVars_none hV
  have k0 := h0
  have lt0 := Qnq h0
  obtain ⟨a1, rfl, rfl, rfl, w1⟩ := open_int Try.underlying50 (hval 1 50 v1 rfl rfl) h1
  obtain ⟨m0, w0a, w0b, w0c⟩ := Qwp (hval 0 22 v0 rfl rfl) h0
  clear hA0 hval0 hsz0 hsz
  refine (walk v0 m0 a1 W w0a w0b w0c w1).mono fun e W' ⟨he, bel⟩ => ?_
  subst he
  exact ⟨_, rfl, _, _, _, [], _, [], hW', trodAll_mk1 (shut_bool Try.underlying4 _), (trodAll_cons_mk (Below.trod Qjv (by kernel_rfl) (of_decide_eq_true (by kernel_rfl)) k0 bel lt0) (trodAll_cons_mk (shut_int Try.underlying50 w1) trodAll_mk0)), rfl, bel.frame _, fun h => by cases h⟩

theorem over : Rows.analysePartsRow.holds Try.pinned (OpenSpec.ofChange Rows.analysePartsSpec) :=
  OpenClaim.holds_of_wide 5 Try.f5 rfl rfl rfl rfl rfl rfl rfl ⟨rfl, rfl, rfl, rfl, rfl⟩ rfl rfl rfl rfl rfl (by kernel_rfl) Try.func5 (by kernel_rfl)
    (of_decide_eq_true (by kernel_rfl)) (by unfold Func.isWrapper; first | (rw [if_pos (by decide +kernel)]; kernel_rfl) | (rw [if_neg (by decide +kernel)]; exact ⟨rfl, rfl⟩))
    (fun os started H enc _ => lifted os started H enc)

/-- THE STATEMENT. -/
theorem proved : Rows.AnalysePartsSaid := over
end Go.Proofs.Ytkgniegdefaieaa.analyseParts
namespace Go.Proofs.Ytkgniegdefaieaa
theorem analyseParts_proved : Rows.AnalysePartsSaid := analyseParts.proved
end Go.Proofs.Ytkgniegdefaieaa
