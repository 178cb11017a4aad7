/-
  A checkpoint whose rows are the table of all that stands ahead of its begin changes nothing in the table of a log, wherever it ends behind that. AnalyseSkips returns true for every input, and its arguments read as before.
  Condition: none but those that the form of every such statement bears by itself (each string within the reach).
-/
import Derived.Test.YtkgniegdefaieaaRows
import Derived.ProofKit
import Derived.OpenShut
import Derived.ShutString
import Derived.SizedLaws
import Derived.JoinedCond
import Derived.Test.YtkgniegdefaieaaK13
import Derived.Test.YtkgniegdefaieaaK12
import Derived.Test.YtkgniegdefaieaaK03

set_option maxRecDepth 8000
set_option maxHeartbeats 25600000
namespace Go.Proofs.Ytkgniegdefaieaa.analyseSkips
open Go.RowKit
set_option linter.unusedVariables false
theorem Qay {w : World} {a : Option Addr} {len c : Nat} {ms : List (Rec × Value × Value)} (h : LogIn w (.slice a len c) ms) {k : Nat} (hk : k <= len) : LogIn w (.slice a k c) (ms.take k) := by
  obtain ⟨⟨⟨a', cap', h1, h2⟩, h3⟩, h4, h5⟩ := h; injection h1 with e1 e2 e3; subst e1 e2 e3; have hc := h5 _ _ _ rfl; have hl : (ms.take k).length = k := by rw [List.length_take]; omega
  refine ⟨⟨⟨_, _, by rw [hl], fun hp => ?_⟩, fun m hm => h3 m (List.mem_of_mem_take hm)⟩, by rw [hl]; omega, fun a l c' he => ?_⟩
  · rw [hl] at hp; obtain ⟨b, off, e, hb, hr⟩ := h2 (by omega); refine ⟨b, off, e, hb, fun i hi => ?_⟩; rw [hl] at hi; rw [List.getD_eq_getElem?_getD, List.getElem?_take, if_pos hi, <- List.getD_eq_getElem?_getD]; exact hr i (by omega)
  · injection he with q1 q2 q3; omega
theorem Qsx {w w' : World} {rs : List Rec} {e : Ending} (h : Qmw w rs e w') (hr : Qcb 0 rs) : Qtv w (ofA rs) 0 e w' := by
  have h1 := h.tab; have e1 : Qfv rs = ofA rs := if_pos ((Qea _ _).2 hr); have e2 : Qow rs = 0 := if_pos ((Qea _ _).2 hr); rwa [e1, e2] at h1
theorem Qlx : ∀ (rs : List Rec) (a : Nat), a <= Qtd -> Qcb a rs -> Qya a rs <= Qtd
  | [], _, h, _ => h
  | r :: rs, _, _, h => Qlx rs r.l h.1.lm h.2.2
theorem Qux (a b : List (Rec × Value × Value)) : msR (a ++ b) = msR a ++ msR b := by simp [msR]
theorem own_n {w : World} {B : Nat} {v : Value} {ms : List (Rec × Value × Value)} (h : OwM w B v ms) {n : Nat} (hn : ms.length = n) : w.ownsRow B 46 14 v n (Qjd ms) := by
  rw [<- hn]; exact h
theorem Qqx {w' : World} {B n : Nat} {v' : Value} {ms : List (Rec × Value × Value)} {m : Rec × Value × Value} {cs : Array Value} (hn : ms.length = n) (hc : cs = rcF m) (h : w'.ownsRow B 46 14 v' (n + 1) (Qjd ms ++ cs.toList)) : OwM w' B v' (ms ++ [m]) := by
  refine Qvx hc ?_; rw [hn]; exact h
theorem share5 {F G : Value -> Nat -> World -> Prop} {R : Prop} (h : (∀ v g z, F v g z -> G v g z) -> R) (k : ∀ v g z, F v g z -> G v g z) : R := h k
theorem Qby {x y : World} {s : Sl} {l : List Tx} (h : RT x s l) {B : Nat} {v : Value} {ms : List (Rec × Value × Value)} (ho : OwM x B v ms) (hg : x.grownBy y v.ownBlock) : RT y s l :=
  h.keep (fun b hb => hg.block b (h.lt hb) (fun e => by
    obtain ⟨cs, hk⟩ := h.kind hb
    rcases ho.2 with ⟨rfl, _⟩ | ⟨g, cap, cur, rfl, _, c, _⟩
    · cases e
    · injection e with e; have e' : b = g := e; subst e'
      exact absurd (Qti hk (show Qa x b 46 cur from c)) (by decide)))
theorem Qdy {x y : World} {s : Sl} {l : List Di} (h : RD x s l) {B : Nat} {v : Value} {ms : List (Rec × Value × Value)} (ho : OwM x B v ms) (hg : x.grownBy y v.ownBlock) : RD y s l :=
  h.keep (fun b hb => hg.block b (h.lt hb) (fun e => by
    obtain ⟨cs, hk⟩ := h.kind hb
    rcases ho.2 with ⟨rfl, _⟩ | ⟨g, cap, cur, rfl, _, c, _⟩
    · cases e
    · injection e with e; have e' : b = g := e; subst e'
      exact absurd (Qti hk (show Qa x b 46 cur from c)) (by decide)))
def nilM (r : Rec) : Rec × Value × Value := (r, .slice none 0 0, .slice none 0 0)
theorem core (v0 : Value) (ms : List (Rec × Value × Value)) (bgn en : Nat) (W : World) (ha : Qmi W v0 ms) (hb : ms.length <= maxLen) (hc : ∀ a len cap, v0 = .slice a len cap -> len <= cap) (hbg : bgn < 18446744073709551616) (hen : en < 18446744073709551616) :
    Calls Try.prog 6 #[v0, .int .u64 (bgn : Int), .int .u64 (en : Int)] W fun e w' => e = .returned (.bool true) /\ Below W.heap.size W w' := by
  obtain ⟨au, cu, rfl, _⟩ := id ha.1
  obtain ⟨q, hq⟩ : ∃ q : Bool, q = true ↔ Qln ms := by
    classical
    exact ⟨decide (Qln ms), decide_eq_true_iff⟩
  have HFW := Qb (fun x (hx : Below W.heap.size W x) => few16 x _ ms q hq (ha.below hx) hb); have HAW := Qb (fun x => Qcw x)
  cases q
  · clear ha hb hc hq; generalize ms.length = ln at *; go_enter Try.func6, Try.ntmps6; go_wp2_with fail; refine (HAW.out W).mono ?_; rintro e w1 ⟨rfl, hb1⟩; have H1 := Qb hb1; clear hb1; go_wp2_with fail; refine (HFW.out w1 H1.out).mono ?_; rintro e w2 ⟨rfl, rfl⟩; go_wp2_with fail; refine (HAW.out w2).mono ?_; rintro e w3 ⟨rfl, hb3⟩; have H3 := Qb (H1.out.trans (hb3.mono H1.out.size)); clear hb3 H1 HFW HAW; go_wp2; go_ret; exact ⟨rfl, H3.out⟩
  have hP : Qln ms := hq.1 rfl; have hl1 := hP.1; have HLG := Qb (fun x (hx : Below W.heap.size W x) => (show LogIn x (.slice au ms.length cu) ms from ⟨ha.below hx, by omega, fun a l c e => hc a l c e⟩)); have HGD := Qb (fun x (hx : Below W.heap.size W x) => Qyw _ ms x (HLG.out x hx))
  by_cases hr : Qcb 0 (msR ms)
  · rw [(Qea _ _).2 hr] at HGD; have HPL := Qb (fun x (hx : Below W.heap.size W x) => Qcy x _ ms (HLG.out x hx)); have HFIT := Qb (fun x (hx : Below W.heap.size W x) m (hm : m ∈ ms) => (show m.1.fits /\ Qwb x m.1 m.2.1 m.2.2 from ⟨(ha.2 m hm).1, (ha.2 m hm).2.below hx⟩)); have HR := Qb hr; obtain ⟨ln, hln⟩ : ∃ n, n = ms.length := ⟨_, rfl⟩; have HLN := Qb hln; rw [<- hln] at HLG hl1 HFW HGD HPL; rw [<- hln]; clear ha hb hc hq hP hr hln; go_enter Try.func6, Try.ntmps6; go_wp2_with fail; refine (HAW.out W).mono ?_; rintro e w1 ⟨rfl, hb1⟩; have H1 := Qb hb1; clear hb1 HAW; go_wp2_with fail; refine (HFW.out w1 H1.out).mono ?_; rintro e w2 ⟨rfl, rfl⟩; clear HFW; go_wp2_with fail; refine (HGD.out w2 H1.out).mono ?_; rintro e w3 ⟨rfl, hb3⟩; have H3 := Qb (H1.out.trans (hb3.mono H1.out.size)); clear hb3 H1 HGD; go_wp2; go_loopw [33] (fun i wr => ∃ j : Nat, j <= ln /\ i = .int .i64 (j : Int) /\ Hid (w3 = wr /\ ∀ k, k < j -> (ms.getD k rcZ).1.l <= 1099511627776)) (fun i _ => ln - (intOf i).toNat)
    case atStart => exact ⟨0, Nat.zero_le _, rfl, rfl, fun k hk => absurd hk (by omega)⟩
    case round =>
      obtain ⟨j, hj, rfl, HJ⟩ := hrel
      by_cases hlt : j < ln
      · have i5 : (j : Int) < (ln : Int) := by omega
        have hjm : j < ms.length := by rw [<- HLN.out]; exact hlt
        obtain ⟨rfl, hall⟩ := HJ.out; have HALL := Qb hall; obtain ⟨b, off, rfl, _, _, hx⟩ := (HLG.out w3 H3.out).mid hjm; obtain ⟨z, hz⟩ : ∃ z, z = (ms.getD j rcZ).1.l := ⟨_, rfl⟩; have HZ := Qb hz
        have k1 : w3.cell? ⟨b, off + j * 14 + 1, none⟩ = some (.int .u64 (z : Int)) := by
          rw [hz]; exact (hx w3 (Below.refl _ _)).1 1 _ rfl
        clear hx hall hz HJ hjm
        by_cases hgt : (1099511627776 : Int) < (z : Int)
        · go_wp2; go_ret; exact ⟨rfl, H3.out⟩
        · have HN : Hid (∀ k, k < j + 1 -> (ms.getD k rcZ).1.l <= 1099511627776) := fun k hk => by
            by_cases e : k = j
            · rw [e, <- HZ.out]; omega
            · exact HALL.out k (by omega)
          go_wp2; go_roundw
          case rel => exact ⟨j + 1, by omega, by go_num, ⟨trivial, HN.out⟩⟩
          case measure => simp [intOf] <;> omega
      · have i5 : ¬ (j : Int) < (ln : Int) := by omega
        obtain ⟨rfl, hall⟩ := HJ.out
        have hl40 : ∀ r ∈ msR ms, r.l <= 1099511627776 := fun r hr => by
          obtain ⟨m, hm, rfl⟩ := List.mem_map.1 hr; obtain ⟨i, hi, rfl⟩ := List.getElem_of_mem hm; have h9 := hall i (by rw [<- HLN.out] at hi; omega); rwa [List.getD_eq_getElem?_getD, List.getElem?_eq_getElem hi] at h9
        have hrp : Qcb 0 (msR (Qlv ms)) := by rw [Qzv]; exact Qsv _ _ _ HR.out
        have hrk : ∀ r ∈ msR (Qlv ms), r.k <= 6 /\ r.l <= 1099511627776 := fun r hr => by
          rw [Qzv] at hr; exact ⟨Qey HR.out r hr, hl40 r (List.mem_filter.1 hr).1⟩
        have hpn : ∀ r ∈ msR (Qlv ms), r.l <= 1099511627776 /\ r.p <= 1099511627776 /\ r.n <= 1099511627776 := fun r hr => by
          have g1 := Qta _ 0 hrp r hr; have g2 := (hrk r hr).2; have g3 := Qee g1; have g4 := Qmh g1; exact ⟨g2, by omega, by omega⟩
        have hlen : (Qlv ms).length <= 300 := Nat.le_trans (List.length_filter_le _ _) (by rw [<- HLN.out]; exact hl1); have hmem : ∀ m ∈ Qlv ms, m ∈ ms := fun m hm => (List.mem_filter.1 hm).1
        obtain ⟨ps, hps⟩ : ∃ ps, ps = Qlv ms := ⟨_, rfl⟩; rw [<- hps] at HPL hrp hrk hpn hlen hmem; have HPF := Qb (And.intro hrp (And.intro hrk (And.intro hpn (And.intro hlen hmem)))); clear HJ hall hl40 hrp hrk hpn hlen hmem hps; go_wp2_with fail; refine (HPL.out w3 H3.out).mono ?_; rintro e w4 ⟨vp, rfl, how, hb4⟩; have H4 : Hid (LogIn w4 vp ps /\ Below W.heap.size W w4) := ⟨Qmx how (fun m hm => HFIT.out w3 H3.out m (HPF.out.2.2.2.2 m hm)) hb4 (by have := HPF.out.2.2.2.1; omega), H3.out.trans (hb4.mono H3.out.size)⟩; clear how hb4 H3 HPL; go_wp2_with fail; refine (wider16 w4 vp ps H4.out.1 HPF.out.2.2.1).mono ?_; rintro e w5 ⟨vq, rfl, how, hb5⟩
        have HQF := Qb (fun x (hx : Below W.heap.size W x) m (hm : m ∈ ps.map Qix) => (show m.1.fits /\ Qwb x m.1 m.2.1 m.2.2 by
          obtain ⟨m', hm', rfl⟩ := List.mem_map.1 hm; have h := HFIT.out x hx m' (HPF.out.2.2.2.2 m' hm')
          exact ⟨⟨h.1.c, h.1.tl, h.1.dl, h.1.ts, h.1.ds⟩, h.2⟩))
        obtain ⟨qs, hqs⟩ : ∃ qs, qs = ps.map Qix := ⟨_, rfl⟩; rw [<- hqs] at how HQF; have hlq : qs.length <= 300 := by rw [hqs, List.length_map]; exact HPF.out.2.2.2.1
        have HQR : Hid (msR qs = (msR ps).map Qfx) := by show _ = _; rw [hqs, wide_msR]
        have H5 : Hid (LogIn w5 vq qs /\ Below W.heap.size W w5) := ⟨Qmx how (HQF.out w4 H4.out.2) hb5 (by omega), H4.out.2.trans (hb5.mono H4.out.2.size)⟩; obtain ⟨aq, cq, rfl, hcq⟩ := H5.out.1.slice; obtain ⟨lq, hlq'⟩ : ∃ l, l = qs.length := ⟨_, rfl⟩; have HLQ := Qb hlq'; rw [<- hlq'] at H5 hlq hcq |-; have hpl : (msR ps).length = lq := by rw [Qka, hlq', hqs, List.length_map]
        obtain ⟨b, hbd⟩ : ∃ b : Nat, b = bgn % (lq + 1) := ⟨_, rfl⟩
        have hbl : b <= lq := by
          have : bgn % (lq + 1) < lq + 1 := Nat.mod_lt _ (by omega); omega
        obtain ⟨d, hd⟩ : ∃ d : Nat, d = lq - b := ⟨_, rfl⟩; obtain ⟨m, hmd⟩ : ∃ m : Nat, m = en % (d + 1) := ⟨_, rfl⟩
        have hml : m <= d := by
          have : en % (d + 1) < d + 1 := Nat.mod_lt _ (by omega); omega
        obtain ⟨n, hnd⟩ : ∃ n : Nat, n = b + m := ⟨_, rfl⟩; have hbn : b <= n := by omega
        have hnl : n <= lq := by omega
        have hlx : b + 1 + (n - b) = n + 1 := by omega
        obtain ⟨l1, hl1'⟩ : ∃ l1 : Nat, l1 = lq + 1 := ⟨_, rfl⟩; obtain ⟨d1, hd1'⟩ : ∃ d1 : Nat, d1 = d + 1 := ⟨_, rfl⟩; have e1 : (lq : Int) + 1 = (l1 : Int) := by omega
        have e2 : (bgn : Int) % (l1 : Int) = (b : Int) := by
          rw [hbd, <- hl1']; exact (Int.natCast_emod bgn l1).symm
        have e3 : ¬ (l1 : Int) = 0 := by omega
        have e4 : (lq : Int) - (b : Int) = (d : Int) := by omega
        have e5 : (d : Int) + 1 = (d1 : Int) := by omega
        have e6 : (en : Int) % (d1 : Int) = (m : Int) := by
          rw [hmd, <- hd1']; exact (Int.natCast_emod en d1).symm
        have e7 : ¬ (d1 : Int) = 0 := by omega
        have e8 : (b : Int) + (m : Int) = (n : Int) := by omega
        have hl1b : l1 <= 301 := by omega
        have hd1b : d1 <= 301 := by omega
        have hdb : d <= 300 := by omega
        have hmb : m <= 300 := by omega
        have HSK := Qb (fun h16 => skips16 HPF.out.1 HPF.out.2.1 hbn (by rw [hpl]; exact hnl) h16); rw [<- HQR.out] at HSK; have hQ : Qcb 0 (msR qs) := by rw [HQR.out]; exact Qgx _ 0 0 (Nat.zero_le _) HPF.out.1 HPF.out.2.1
        have HQ0 := Qb hQ; clear how hb5 hqs hlq' hbd hd hmd hnd hl1' hd1' hpl hQ HLG HFIT H4; go_wp2_with (with_reducible refine Qxa 67 rfl ?_); refine Qg ?_; have hbc : b <= cq := by omega
        refine Qsw (some 67) (.slice aq b cq) rfl rfl (by go_simp) ?_; (try simp only [Act.put, List.setIfInBounds_toArray, List.set]); have HO2 := Qb (of16 w5 _ _ (Qay H5.out.1 hbl)); go_wp2_with fail; refine HO2.out.mono ?_; rintro e w6 hans; have hans2 := Qsx hans (by rw [Qjw]; exact Qsg _ b HQ0.out); rw [Qjw] at hans2; obtain ⟨v1, v2, rfl, h1, h2, hb6⟩ := hans2; obtain ⟨TA, hTA⟩ : ∃ T, T = ofA ((msR qs).take b) := ⟨_, rfl⟩; have HTA := Qb hTA; rw [<- hTA] at h1 h2; obtain ⟨a1, c1, rfl, _⟩ := id h1; obtain ⟨a2, c2, rfl, _⟩ := id h2; obtain ⟨n1, hn1⟩ : ∃ n, n = TA.1.length := ⟨_, rfl⟩; obtain ⟨n2, hn2⟩ : ∃ n, n = TA.2.length := ⟨_, rfl⟩; rw [<- hn1] at h1 |-; rw [<- hn2] at h2 |-; have HNN := Qb (And.intro hn1 hn2); have H6 := Qb (And.intro h1 (And.intro h2 hb6))
        have hn9 : n1 <= 1000 := by
          have h9 := (Qkx (Qsg _ b HQ0.out)).lt; rw [<- HTA.out, List.length_take, Qka, <- HLQ.out] at h9; omega
        clear hans h1 h2 hb6 HO2 hTA hn1 hn2; unfold taA; go_wp2_with (refine Ql rfl 28 (.tmp 10) (.tmp 69) rfl w6.heap.size 0 28 #[.slice none 0 0, .slice none 0 0] #[.slice a1 n1 c1, .slice a2 n2 c2] rfl rfl (Qa.new w6 _ _) Qde (Nat.le_refl 2) (by simp [Value.oneCell']) ?_; intro w7 hr7 ho7; refine Qpa ?_); rw [Qn #[.slice none 0 0, .slice none 0 0] #[.slice a1 n1 c1, .slice a2 n2 c2] rfl] at hr7; have hal6 : Below w6.heap.size w6 (w6.alloc (.cells #[.slice none 0 0, .slice none 0 0] 28)) := (Below.refl _ _).alloc (Nat.le_refl _) _; have hb7 := ho7.below hal6 (Nat.le_refl _); obtain ⟨g10, hg10⟩ : ∃ g, g = w6.heap.size := ⟨_, rfl⟩; rw [<- hg10] at hr7 |-; have H7 : Hid (Qa w7 g10 28 #[.slice a1 n1 c1, .slice a2 n2 c2] /\ (Qxb w7 (.slice a1 n1 c1) TA.1 /\ Qxc w7 (.slice a2 n2 c2) TA.2) /\ Below w5.heap.size w5 w7) := ⟨hr7, ⟨H6.out.1.below hb7, H6.out.2.1.below hb7⟩, H6.out.2.2.trans (hb7.mono H6.out.2.2.size)⟩; clear hr7 ho7 hal6 hb7 hg10 H6; refine Qg ?_; have HO3 := Qb (of16 w7 _ qs (H5.out.1.below H7.out.2.2)); go_wp2_with fail; refine HO3.out.mono ?_; rintro e w8 hans; obtain ⟨v3, v4, rfl, h1, h2, hb8⟩ := Qsx hans HQ0.out; obtain ⟨TF, hTF⟩ : ∃ T, T = ofA (msR qs) := ⟨_, rfl⟩; have HTF := Qb hTF; rw [<- hTF] at h1 h2; obtain ⟨a3, c3, rfl, _⟩ := id h1; obtain ⟨a4, c4, rfl, _⟩ := id h2; have H8 := Qb (And.intro h1 (And.intro h2 hb8)); clear hans h1 h2 hb8 HO3 hTF; unfold taA; go_wp2_with (refine Ql rfl 28 (.tmp 12) (.tmp 74) rfl w8.heap.size 0 28 #[.slice none 0 0, .slice none 0 0] #[.slice a3 TF.1.length c3, .slice a4 TF.2.length c4] rfl rfl (Qa.new w8 _ _) Qde (Nat.le_refl 2) (by simp [Value.oneCell']) ?_; intro w9 hr9 ho9; refine Qpa ?_); rw [Qn #[.slice none 0 0, .slice none 0 0] #[.slice a3 TF.1.length c3, .slice a4 TF.2.length c4] rfl] at hr9; have hal8 : Below w8.heap.size w8 (w8.alloc (.cells #[.slice none 0 0, .slice none 0 0] 28)) := (Below.refl _ _).alloc (Nat.le_refl _) _; have hb9 := ho9.below hal8 (Nat.le_refl _); obtain ⟨g12, hg12⟩ : ∃ g, g = w8.heap.size := ⟨_, rfl⟩; rw [<- hg12] at hr9 |-
        have H9 : Hid (∀ x, Below w9.heap.size w9 x -> (Qa x g10 28 #[.slice a1 n1 c1, .slice a2 n2 c2] /\ Qa x g12 28 #[.slice a3 TF.1.length c3, .slice a4 TF.2.length c4]) /\ (Qxb x (.slice a1 n1 c1) TA.1 /\ Qxc x (.slice a2 n2 c2) TA.2) /\ (Qxb x (.slice a3 TF.1.length c3) TF.1 /\ Qxc x (.slice a4 TF.2.length c4) TF.2) /\ LogIn x (.slice aq lq cq) qs /\ Below W.heap.size W x) := fun x hx => by
          have hb := hb9.trans (hx.mono hb9.size); have hb78 := H8.out.2.2.trans (hb.mono H8.out.2.2.size); have hb5 := H7.out.2.2.trans (hb78.mono H7.out.2.2.size); exact ⟨⟨H7.out.1.later hb78, hr9.later hx⟩, ⟨H7.out.2.1.1.below hb78, H7.out.2.1.2.below hb78⟩, ⟨H8.out.1.below hb, H8.out.2.1.below hb⟩, H5.out.1.below hb5, H5.out.2.trans (hb5.mono H5.out.2.size)⟩
        clear hr9 ho9 hal8 hb9 hg12 H8 H7 H5; refine Qg ?_; have q0 := (H9.out w9 (Below.refl _ _)).1.1.cell 0 (.slice a1 n1 c1) rfl
        by_cases h16 : n1 <= 16
        · have i16 : ¬ (16 : Int) < (n1 : Int) := by omega
          have HSS := Qb (HSK.out (by rw [<- HTA.out, <- HNN.out.1]; exact h16)); have HLM := Qb (fun k => Qlx _ 0 (Nat.zero_le _) (Qsg (msR qs) k HQ0.out)); clear HSK; go_wp2_with (with_reducible refine Qxa 89 rfl ?_); clear q0; refine Qg ?_; refine Qsw (some 89) (.slice aq b cq) rfl rfl (by go_simp) ?_; (try simp only [Act.put, List.setIfInBounds_toArray, List.set]); have hlb1 : (qs.take b).length = b := by rw [List.length_take, <- HLQ.out]; omega
          have hnil : OwM w9 w9.heap.size (.slice none 0 0) [] := World.ownsRow_nil _ _ _ _; obtain ⟨v5, y1, r1, o1, k1⟩ := join16 hnil (Qay (H9.out w9 (Below.refl _ _)).2.2.2.1 hbl).rs (Nat.le_refl _) (by rw [hlb1]; simp; omega) 22; rw [List.nil_append] at o1; have hby1 : Below w9.heap.size w9 y1 := Qhs hnil (Nat.le_refl _) (Below.refl _ _) (Nat.le_refl _) k1; obtain ⟨ao1, co1, hv5, _, _⟩ := Qhh o1; rw [hlb1] at hv5; subst hv5; have HY1 := Qb (And.intro (own_n o1 hlb1) hby1); have HR1 := Qb r1; have HLB := Qb hlb1; clear hnil r1 o1 k1 hby1 hlb1; go_wp2_with (at_builtin; refine Lib.wpList_append_run _ rfl _ _ _ _ rfl _ _ rfl rfl _ _ HR1.out ?_; refine Qpa ?_); clear HR1; refine Qg ?_; go_wp2_with (with_reducible refine Qxa 94 rfl ?_); refine Qg ?_; refine Qsw (some 94) (.slice aq b cq) rfl rfl (by go_simp) ?_; (try simp only [Act.put, List.setIfInBounds_toArray, List.set]); go_wp2_with fail; refine (last16 y1 _ _ (Qay (H9.out y1 HY1.out.2).2.2.2.1 hbl)).mono ?_; rintro e w10 ⟨rfl, rfl⟩; obtain ⟨la0, hla0⟩ : ∃ n, n = Qya 0 (msR (qs.take b)) := ⟨_, rfl⟩; have hlm : la0 <= 4611686018427387904 := by rw [hla0, Qjw]; exact HLM.out b
          obtain ⟨la, hla⟩ : ∃ n, n = la0 + 1 := ⟨_, rfl⟩; have HLA : Hid (la = Qya 0 ((msR qs).take b) + 1) := by show _ = _; rw [hla, hla0, Qjw]
          rw [<- hla0]; have e9 : (la0 : Int) + 1 = (la : Int) := by omega
          have u9 : IntKind.u64.wrap (la : Int) = (la : Int) := by rw [IntKind.wrap_u64]; omega
          have hlam : la <= 4611686018427387905 := by omega
          clear hla0 hla; have hB1 := HY1.out.2.size; have hb1000 : b <= 1000 := by omega
          go_wp2_with (refine Qu _ 22 46 14 160 (.agg Qvc) Try.underlying22 Qjx rfl (by decide) (by decide) rfl (.tmp 91) (.tmp 98) rfl w9.heap.size (.slice ao1 b co1) b (Qjd (qs.take b)) rfl (Qob HY1.out.1 ((Below.refl w10.heap.size w10).alloc (Nat.le_refl _) _)) w10.heap.size #[.int .i64 7, .int .u64 (la : Int), .int .i64 0, .int .u64 0, .int .i64 0, .int .i64 0, .int .i64 0, .string ⟨#[]⟩, .string ⟨#[]⟩, .int .u64 0, .int .i64 0, .int .u64 0, .slice none 0 0, .slice none 0 0] rfl (Qa.new w10 46 #[.int .i64 7, .int .u64 (la : Int), .int .i64 0, .int .u64 0, .int .i64 0, .int .i64 0, .int .i64 0, .string ⟨#[]⟩, .string ⟨#[]⟩, .int .u64 0, .int .i64 0, .int .u64 0, .slice none 0 0, .slice none 0 0]) rfl (by simp [Value.oneCell']) hb1000 (Nat.le_trans hB1 (by simp)) ?_; intro v6 y2 ho2 hg2; refine Qpa ?_); have o2 : OwM y2 w9.heap.size v6 (qs.take b ++ [nilM (Qox la)]) := Qqx HLB.out (m := nilM (Qox la)) rfl ho2; have hby2 : Below w9.heap.size w9 y2 := Qhs (Qob HY1.out.1 ((Below.refl w10.heap.size w10).alloc (Nat.le_refl _) _)) (Nat.le_refl _) (HY1.out.2.trans (((Below.refl w10.heap.size w10).alloc (Nat.le_refl _) _).mono HY1.out.2.size)) (by simp; have := HY1.out.2.size; omega) hg2; have hlb2 : (qs.take b ++ [nilM (Qox la)]).length = b + 1 := by rw [List.length_append, HLB.out]; rfl
          have hlb3 : ((qs.take n).drop b).length = n - b := by rw [List.length_drop, List.length_take, <- HLQ.out]; omega
          obtain ⟨v7, y3, r3, o3, k3⟩ := join16 o2 ((Qay (H9.out y2 hby2).2.2.2.1 hnl).from16 hbn).rs hby2.size (by rw [hlb2, hlb3]; omega) 22; have hby3 : Below w9.heap.size w9 y3 := Qhs o2 (Nat.le_refl _) hby2 hby2.size k3; obtain ⟨ao2, co2, hv6, _, _⟩ := Qhh o2; rw [hlb2] at hv6; subst hv6; have hlen3 : ((qs.take b ++ [nilM (Qox la)]) ++ (qs.take n).drop b).length = n + 1 := by rw [List.length_append, hlb2, hlb3]; exact hlx
          obtain ⟨ao3, co3, hv7, _, hpos⟩ := Qhh o3; rw [hlen3] at hv7 hpos; obtain ⟨bo, hbo, _⟩ := hpos (Nat.zero_lt_succ _); subst hbo; subst hv7; have HR3 := Qb r3
          have hg3 : ((qs.take b ++ [nilM (Qox la)]) ++ (qs.take n).drop b).getD b rcZ = nilM (Qox la) := by
            rw [List.append_assoc, List.getD_eq_getElem?_getD, List.getElem?_append_right (by rw [HLB.out]; exact Nat.le_refl _), HLB.out]; simp
          obtain ⟨L3, hL3⟩ : ∃ L, L = (qs.take b ++ [nilM (Qox la)]) ++ (qs.take n).drop b := ⟨_, rfl⟩; rw [<- hL3] at o3 hlen3 hg3; have HL3 := Qb hL3; have HLEN3 := Qb hlen3; have HFQ := Qb (fun x (hx : Below w9.heap.size w9 x) m (hm : m ∈ qs) => (H9.out x hx).2.2.2.1.rs.2 m hm)
          have hfit3 : ∀ x, Below w9.heap.size w9 x -> ∀ m ∈ L3, m.1.fits /\ Qwb x m.1 m.2.1 m.2.2 := fun x hx m hm => by
            rw [hL3] at hm
            rcases List.mem_append.1 hm with hm | hm
            · rcases List.mem_append.1 hm with hm | hm
              · exact HFQ.out x hx m (List.mem_of_mem_take hm)
              · rw [List.mem_singleton.1 hm]; exact ⟨⟨Qun, Nat.zero_le _, Nat.zero_le _, fun x hx => (nomatch hx), fun x hx => (nomatch hx)⟩, nilT _, nilD _⟩
            · exact HFQ.out x hx m (List.mem_of_mem_take (List.mem_of_mem_drop hm))
          have HFIT3 := Qb hfit3; have HO3 := Qb o3; have hlog3 : LogIn y3 (.slice (some ⟨bo, 0, none⟩) (n + 1) co3) L3 := Qmx o3 (hfit3 w9 (Below.refl _ _)) hby3 (by rw [hlen3]; omega); have HLOG3 := Qb hlog3
          have HCB : Hid (∀ x, Below y3.heap.size y3 x -> x.cell? ⟨bo, b * 14 + 1, none⟩ = some (.int .u64 (la : Int))) := fun x hx => by
            obtain ⟨b', off', e', _, _, hx'⟩ := hlog3.mid (show b < L3.length by rw [hlen3]; omega); injection e' with e'; injection e' with e1 e2 e3; subst e1 e2; have h9 := (hx' x hx).1 1 (.int .u64 (la : Int)) (by rw [hg3]; rfl); rwa [Nat.zero_add] at h9
          have HBY3 := Qb hby3; clear ho2 hg2 o2 hby2 hlb2 hlb3 r3 o3 k3 hby3 hlen3 hg3 hL3 hfit3 hlog3 HY1 hB1 hpos; refine Qg ?_; go_wp2_with (with_reducible refine Qxa 104 rfl ?_); refine Qg ?_; have hnc : n <= cq := by omega
          refine Qsw (some 104) (.slice (Quv aq cq b) (n - b) (cq - b)) rfl rfl (by unfold Quv; go_simp) ?_; (try simp only [Act.put, List.setIfInBounds_toArray, List.set]); go_wp2_with (at_builtin; refine Lib.wpList_append_run _ rfl _ _ _ _ rfl _ _ rfl rfl _ _ HR3.out ?_; refine Qpa ?_); clear HR3; refine Qg ?_; go_wp2_with fail; have HCK := Qb (fun x (hx : Below w9.heap.size w9 x) => check16 x _ _ TA.1 TA.2 la (H9.out x hx).2.1.1 (H9.out x hx).2.1.2 (by rw [<- HNN.out.1]; omega) (by have h9 := (Qkx (Qsg _ b HQ0.out)).ld; rw [<- HTA.out, List.length_take, Qka, <- HLQ.out] at h9; omega)); apply share5 (F := fun v g z => Hid (∃ s1 s2, v = .agg (rcF (ckR la TA, slV s1 TA.1.length, slV s2 TA.2.length)) /\ Qa z g 46 (rcF (ckR la TA, slV s1 TA.1.length, slV s2 TA.2.length)) /\ (RT z s1 TA.1 /\ RD z s2 TA.2) /\ Below y3.heap.size y3 z /\ y3.heap.size <= g))
          case h =>
            intro REST; refine wp_region_noPanic ?_; refine wp_region_held_drew (S := fun x => Below y3.heap.size y3 x) (by kernel_rfl) (Qoc (Below.refl _ _) 1) (fun hHeld => ?_); generalize y3.drew = z1 at *; refine Qr 0 (some 106) (.agg #[.slice a1 n1 c1, .slice a2 n2 c2]) rfl rfl (by kernel_rfl) (by kernel_rfl) (by kernel_rfl) (fun _ _ _ h => h) (Qv (by kernel_rfl) 28 _ rfl (.pointer (some ⟨g10, 0, none⟩)) rfl _ (fun x hSx => Qpc x (H9.out x (HBY3.out.trans (hSx.mono HBY3.out.size))).1.1 Try.underlying28 rfl Qde)) hHeld ?_; (try simp only [Act.put, List.setIfInBounds_toArray, List.set]); refine tkq 1 (some 107) (.slice (some ⟨bo, 0, none⟩) (n + 1) co3) hHeld ?_; (try simp only [Act.put, List.setIfInBounds_toArray, List.set]); refine tkq 2 (some 108) (.int .i64 (b : Int)) hHeld ?_; (try simp only [Act.put, List.setIfInBounds_toArray, List.set]); have hbn1 : b < n + 1 := by omega
            have hbi1 : (b : Int) < (n : Int) + 1 := by omega
            refine tkq 3 (some 109) (.pointer (some ⟨bo, b * 14, none⟩)) hHeld ?_; (try simp only [Act.put, List.setIfInBounds_toArray, List.set]); refine tkq 4 (some 110) (.pointer (some ⟨bo, b * 14 + 1, none⟩)) hHeld ?_; (try simp only [Act.put, List.setIfInBounds_toArray, List.set]); refine tkk 5 (some 111) (.int .u64 (la : Int)) rfl rfl (by kernel_rfl) (by kernel_rfl) (fun x hSx => by have h1 := HCB.out x hSx; go_simp) hHeld ?_; (try simp only [Act.put, List.setIfInBounds_toArray, List.set])
            refine Qpf 6 7 (by kernel_rfl) ?_ ?_
            · refine Qfa (some 112) rfl rfl rfl 18 #[.agg #[.slice a1 n1 c1, .slice a2 n2 c2], .int .u64 (la : Int)] ?he ((HCK.out z1 (HBY3.out.trans (hHeld.mono HBY3.out.size))).mono ?_); (case he => go_simp); rintro e z2 ⟨s1, s2, rfl, hta⟩; have hHeld2 : Below y3.heap.size y3 z2 := hHeld.trans (hta.bel.mono hHeld.size); have HV := Qb (And.intro hta.t hta.d); clear hHeld hta; obtain ⟨rc, hrc⟩ : ∃ rc, rc = rcF (ckR la TA, slV s1 TA.1.length, slV s2 TA.2.length) := ⟨_, rfl⟩; rw [<- hrc]; refine ⟨_, rfl, hHeld2, ?_⟩; (try simp only [Act.put, List.setIfInBounds_toArray, List.set]); refine Qm 7 (by kernel_rfl) ?_; refine Qub (some 15) rfl rfl rfl (.pointer (some ⟨z2.heap.size, 0, none⟩)) (z2.alloc (.cells Qvc 46)) ?hz ?_; (case hz => go_simp; rfl); have hal : Below z2.heap.size z2 (z2.alloc (.cells Qvc 46)) := (Below.refl _ _).alloc (Nat.le_refl _) _; have hZ := Qa.new z2 46 Qvc; have HV2 : Hid (RT (z2.alloc (.cells Qvc 46)) s1 TA.1 /\ RD (z2.alloc (.cells Qvc 46)) s2 TA.2) := ⟨HV.out.1.later hal, HV.out.2.later hal⟩; have hHeld3 : Below y3.heap.size y3 (z2.alloc (.cells Qvc 46)) := hHeld2.trans (hal.mono hHeld2.size); have hlow : y3.heap.size <= z2.heap.size := hHeld2.size; clear hal hHeld2 HV; generalize z2.alloc (.cells Qvc 46) = z3 at *; generalize z2.heap.size = g at *; refine ⟨hHeld3, ?_⟩; (try simp only [Act.put, List.setIfInBounds_toArray, List.set]); refine Qm 8 (by kernel_rfl) ?_; have hrz : rc.size = 14 := by rw [hrc]; rfl
              refine Qca rfl rfl rfl 46 (.tmp 15) (.tmp 112) rfl g 0 46 Qvc rc rfl rfl hZ (by rw [hrz]; exact Qaa) (by rw [hrz]; exact Nat.le_refl 14) (by rw [hrc]; simp [rcF, rcA, slV, Value.oneCell']) ?_; intro z4 hr4 ho4; rw [Qn Qvc rc (by rw [hrz]; rfl)] at hr4; have hHeld4 : Below y3.heap.size y3 z4 := ho4.below hHeld3 hlow
              have H4 : Hid (∃ s1 s2, Value.agg rc = .agg (rcF (ckR la TA, slV s1 TA.1.length, slV s2 TA.2.length)) /\ Qa z4 g 46 (rcF (ckR la TA, slV s1 TA.1.length, slV s2 TA.2.length)) /\ (RT z4 s1 TA.1 /\ RD z4 s2 TA.2) /\ Below y3.heap.size y3 z4 /\ y3.heap.size <= g) :=
                ⟨s1, s2, by rw [hrc], by rw [<- hrc]; exact hr4, ⟨HV2.out.1.keep (fun b hb => ho4.block b (fun e => HV2.out.1.not hZ (by decide) (by rw [<- e]; exact hb))), HV2.out.2.keep (fun b hb => ho4.block b (fun e => HV2.out.2.not hZ (by decide) (by rw [<- e]; exact hb)))⟩, hHeld4, hlow⟩
              refine ⟨hHeld4, ?_⟩; (try simp only [Act.put, List.setIfInBounds_toArray, List.set]); refine wpAnyH_done (by kernel_rfl) ?_ _; refine NoPanic.normal ?_; clear hHeld3 hHeld4 hr4 ho4 hZ HV2; generalize (Value.agg rc) = vv at H4 |-; exact REST vv g z4 H4
            · refine Qub (some 15) rfl rfl rfl (.pointer (some ⟨z1.heap.size, 0, none⟩)) (z1.alloc (.cells Qvc 46)) ?hz ?_; (case hz => go_simp; rfl); have hal : Below z1.heap.size z1 (z1.alloc (.cells Qvc 46)) := (Below.refl _ _).alloc (Nat.le_refl _) _; have hZ0 := Qa.new z1 46 Qvc; have hHeld2 : Below y3.heap.size y3 (z1.alloc (.cells Qvc 46)) := hHeld.trans (hal.mono hHeld.size); have hlow : y3.heap.size <= z1.heap.size := hHeld.size; clear hal hHeld; generalize z1.alloc (.cells Qvc 46) = z2 at *; generalize z1.heap.size = g at *; refine ⟨hHeld2, ?_⟩; (try simp only [Act.put, List.setIfInBounds_toArray, List.set]); refine Qm 6 (by kernel_rfl) ?_; refine Qfa (some 112) rfl rfl rfl 18 #[.agg #[.slice a1 n1 c1, .slice a2 n2 c2], .int .u64 (la : Int)] ?he ((HCK.out z2 (HBY3.out.trans (hHeld2.mono HBY3.out.size))).mono ?_); (case he => go_simp); rintro e z3 ⟨s1, s2, rfl, hta⟩; have hHeld3 : Below y3.heap.size y3 z3 := hHeld2.trans (hta.bel.mono hHeld2.size); have HV2 := Qb (And.intro hta.t hta.d); have hZ := hZ0.later hta.bel; clear hHeld2 hta hZ0; obtain ⟨rc, hrc⟩ : ∃ rc, rc = rcF (ckR la TA, slV s1 TA.1.length, slV s2 TA.2.length) := ⟨_, rfl⟩; rw [<- hrc]; refine ⟨_, rfl, hHeld3, ?_⟩; (try simp only [Act.put, List.setIfInBounds_toArray, List.set]); refine Qm 8 (by kernel_rfl) ?_; have hrz : rc.size = 14 := by rw [hrc]; rfl
              refine Qca rfl rfl rfl 46 (.tmp 15) (.tmp 112) rfl g 0 46 Qvc rc rfl rfl hZ (by rw [hrz]; exact Qaa) (by rw [hrz]; exact Nat.le_refl 14) (by rw [hrc]; simp [rcF, rcA, slV, Value.oneCell']) ?_; intro z4 hr4 ho4; rw [Qn Qvc rc (by rw [hrz]; rfl)] at hr4; have hHeld4 : Below y3.heap.size y3 z4 := ho4.below hHeld3 hlow
              have H4 : Hid (∃ s1 s2, Value.agg rc = .agg (rcF (ckR la TA, slV s1 TA.1.length, slV s2 TA.2.length)) /\ Qa z4 g 46 (rcF (ckR la TA, slV s1 TA.1.length, slV s2 TA.2.length)) /\ (RT z4 s1 TA.1 /\ RD z4 s2 TA.2) /\ Below y3.heap.size y3 z4 /\ y3.heap.size <= g) :=
                ⟨s1, s2, by rw [hrc], by rw [<- hrc]; exact hr4, ⟨HV2.out.1.keep (fun b hb => ho4.block b (fun e => HV2.out.1.not hZ (by decide) (by rw [<- e]; exact hb))), HV2.out.2.keep (fun b hb => ho4.block b (fun e => HV2.out.2.not hZ (by decide) (by rw [<- e]; exact hb)))⟩, hHeld4, hlow⟩
              refine ⟨hHeld4, ?_⟩; (try simp only [Act.put, List.setIfInBounds_toArray, List.set]); refine wpAnyH_done (by kernel_rfl) ?_ _; refine NoPanic.normal ?_; clear hHeld3 hHeld4 hr4 ho4 hZ HV2; generalize (Value.agg rc) = vv at H4 |-; exact REST vv g z4 H4
          case k =>
            intro v g z HG; obtain ⟨s1, s2, rfl, hrow, hts, hbz, hgl⟩ := HG.out; clear HG HCK HCB; obtain ⟨x1, y1, hx1⟩ : ∃ a c, slV s1 TA.1.length = .slice a n1 c := ⟨adr s1.b, s1.c, by rw [HNN.out.1]; rfl⟩; obtain ⟨x2, y2', hx2⟩ : ∃ a c, slV s2 TA.2.length = .slice a n2 c := ⟨adr s2.b, s2.c, by rw [HNN.out.2]; rfl⟩; have HXX := Qb (And.intro hx1 hx2); rw [hx1, hx2] at hrow |-; have hrow2 : Qa z g 46 #[.int .i64 8, .int .u64 0, .int .i64 0, .int .u64 0, .int .i64 0, .int .i64 0, .int .i64 0, .string ⟨#[]⟩, .string ⟨#[]⟩, .int .u64 0, .int .i64 0, .int .u64 (la : Int), .slice x1 n1 y1, .slice x2 n2 y2'] := hrow; have HZ := Qb (And.intro hrow2 (And.intro hts (And.intro hbz hgl))); clear hrow hrow2 hts hbz hgl hx1 hx2; go_wp2_with fail; refine (last16 z _ L3 (HLOG3.out.below HZ.out.2.2.1)).mono ?_; rintro e w11 ⟨rfl, rfl⟩; obtain ⟨le0, hle0⟩ : ∃ n, n = Qya 0 (msR L3) := ⟨_, rfl⟩; obtain ⟨le, hle⟩ : ∃ n, n = le0 + 1 := ⟨_, rfl⟩
            have HM3 : Hid (msR L3 = ((msR qs).take b ++ [Qox (Qya 0 ((msR qs).take b) + 1)]) ++ ((msR qs).take n).drop b) := by
              show _ = _; rw [HL3.out, Qux, Qux, Qjw, <- HLA.out]; simp [msR, nilM, List.map_drop, List.map_take]
            have HLE : Hid (le = Qya 0 (((msR qs).take b ++ [Qox (Qya 0 ((msR qs).take b) + 1)]) ++ ((msR qs).take n).drop b) + 1) := by show _ = _; rw [hle, hle0, HM3.out]
            have hlem : le0 <= 4611686018427387904 := by
              rw [hle0, HM3.out]; have h9 := HSS.out.1; unfold outR at h9; exact Qlx _ 0 (Nat.zero_le _) ((Qwj _ _ _).1 ((Qwj _ _ _).1 h9).1).1
            rw [<- hle0]; have e10 : (le0 : Int) + 1 = (le : Int) := by omega
            have u10 : IntKind.u64.wrap (le : Int) = (le : Int) := by rw [IntKind.wrap_u64]; omega
            have hlem2 : le <= 4611686018427387905 := by omega
            clear hle0 hle; have d1 := HZ.out.1.cell 1 (.int .u64 0) rfl; have f1 := HZ.out.1.free 1; go_wp2_with (with_reducible refine Qxa 118 rfl ?_); obtain ⟨z5, hz5⟩ : ∃ z, z = w11.setCell ⟨g, 1, none⟩ (.int .u64 (le : Int)) := ⟨_, rfl⟩
            have H5 : Hid (Qa z5 g 46 #[.int .i64 8, .int .u64 (le : Int), .int .i64 0, .int .u64 0, .int .i64 0, .int .i64 0, .int .i64 0, .string ⟨#[]⟩, .string ⟨#[]⟩, .int .u64 0, .int .i64 0, .int .u64 (la : Int), .slice x1 n1 y1, .slice x2 n2 y2'] /\ (RT z5 s1 TA.1 /\ RD z5 s2 TA.2) /\ Below y3.heap.size y3 z5 /\ OwM z5 w9.heap.size (.slice (some ⟨bo, 0, none⟩) (n + 1) co3) L3) := by
              have ho := Qqb w11 g 1 (.int .u64 (le : Int)); rw [<- hz5] at ho; refine ⟨by rw [hz5]; exact HZ.out.1.set 1 (.int .u64 (le : Int)), ⟨HZ.out.2.1.1.keep (fun b hb => ho.block b (fun e => HZ.out.2.1.1.not HZ.out.1 (by decide) (by rw [<- e]; exact hb))), HZ.out.2.1.2.keep (fun b hb => ho.block b (fun e => HZ.out.2.1.2.not HZ.out.1 (by decide) (by rw [<- e]; exact hb)))⟩, ho.below HZ.out.2.2.1 HZ.out.2.2.2, ?_⟩; refine Qxx (Qob HO3.out HZ.out.2.2.1) (fun k hk => ho.block k (fun e => ?_)); have h9 := ow_lt HO3.out hk; have h8 := HZ.out.2.2.2; omega
            rw [<- hz5]; clear hz5 HZ d1 f1; refine Qg ?_; have hn1000 : n + 1 <= 1000 := by omega
            have hB5 : w9.heap.size <= z5.heap.size := Nat.le_trans HBY3.out.size H5.out.2.2.1.size; go_wp2_with (first | (refine Qd rfl 46 (.tmp 15) rfl g rfl #[.int .i64 8, .int .u64 (le : Int), .int .i64 0, .int .u64 0, .int .i64 0, .int .i64 0, .int .i64 0, .string ⟨#[]⟩, .string ⟨#[]⟩, .int .u64 0, .int .i64 0, .int .u64 (la : Int), .slice x1 n1 y1, .slice x2 n2 y2'] H5.out.1 _ Try.underlying46 rfl Qaa ?_) | (refine Qu _ 22 46 14 160 (.agg Qvc) Try.underlying22 Qjx rfl (by decide) (by decide) rfl (.tmp 117) (.tmp 119) rfl w9.heap.size (.slice (some ⟨bo, 0, none⟩) (n + 1) co3) (n + 1) (Qjd L3) rfl (Qob (own_n H5.out.2.2.2 HLEN3.out) ((Below.refl z5.heap.size z5).alloc (Nat.le_refl _) _)) z5.heap.size #[.int .i64 8, .int .u64 (le : Int), .int .i64 0, .int .u64 0, .int .i64 0, .int .i64 0, .int .i64 0, .string ⟨#[]⟩, .string ⟨#[]⟩, .int .u64 0, .int .i64 0, .int .u64 (la : Int), .slice x1 n1 y1, .slice x2 n2 y2'] rfl (Qa.new z5 46 #[.int .i64 8, .int .u64 (le : Int), .int .i64 0, .int .u64 0, .int .i64 0, .int .i64 0, .int .i64 0, .string ⟨#[]⟩, .string ⟨#[]⟩, .int .u64 0, .int .i64 0, .int .u64 (la : Int), .slice x1 n1 y1, .slice x2 n2 y2']) rfl (by simp [Value.oneCell']) hn1000 (Nat.le_trans hB5 (by simp)) ?_; intro v8 y4 ho4 hg4; refine Qpa ?_)); obtain ⟨cm, hcm⟩ : ∃ cm : Rec × Value × Value, cm = (endR le la TA, .slice x1 n1 y1, .slice x2 n2 y2') := ⟨_, rfl⟩; have o4 : OwM y4 w9.heap.size v8 (L3 ++ [cm]) := Qqx HLEN3.out (m := cm) (by rw [hcm]; rfl) ho4; have hby9 : Below w9.heap.size w9 z5 := HBY3.out.trans (H5.out.2.2.1.mono HBY3.out.size); have hby4 : Below w9.heap.size w9 y4 := Qhs (Qob H5.out.2.2.2 ((Below.refl z5.heap.size z5).alloc (Nat.le_refl _) _)) (Nat.le_refl _) (hby9.trans (((Below.refl z5.heap.size z5).alloc (Nat.le_refl _) _).mono hby9.size)) (by simp; omega) hg4; have hlen4 : (L3 ++ [cm]).length = n + 2 := by rw [List.length_append, HLEN3.out]; rfl
            have hlen5 : (qs.drop n).length = lq - n := by rw [List.length_drop, <- HLQ.out]
            obtain ⟨v9, y5, r5, o5, k5⟩ := join16 o4 ((H9.out y4 hby4).2.2.2.1.from16 hnl).rs hby4.size (by rw [hlen4, hlen5]; omega) 22; have hby5 : Below w9.heap.size w9 y5 := Qhs o4 (Nat.le_refl _) hby4 hby4.size k5; have hal5 : Below z5.heap.size z5 (z5.alloc (.cells #[.int .i64 8, .int .u64 (le : Int), .int .i64 0, .int .u64 0, .int .i64 0, .int .i64 0, .int .i64 0, .string ⟨#[]⟩, .string ⟨#[]⟩, .int .u64 0, .int .i64 0, .int .u64 (la : Int), .slice x1 n1 y1, .slice x2 n2 y2'] 46)) := (Below.refl z5.heap.size z5).alloc (Nat.le_refl _) _; have hrt5 : RT y5 s1 TA.1 := Qby (Qby (H5.out.2.1.1.later hal5) (Qob H5.out.2.2.2 hal5) hg4) o4 k5; have hrd5 : RD y5 s2 TA.2 := Qdy (Qdy (H5.out.2.1.2.later hal5) (Qob H5.out.2.2.2 hal5) hg4) o4 k5; have hrw := hrt5.rows; have hdw := hrd5.rows; rw [HXX.out.1] at hrw; rw [HXX.out.2] at hdw
            have hTF : TaFit TA := by
              rw [HTA.out]; refine Qtx (Qsg _ b HQ0.out) (fun r hr => ?_); obtain ⟨m', hm', rfl⟩ := List.mem_map.1 (List.mem_of_mem_take hr); exact (HFQ.out w9 (Below.refl _ _) m' hm').1
            have hTO : TaOk TA 1000 := by
              have h9 := Qkx (Qsg _ b HQ0.out); rw [<- HTA.out] at h9; have h8 : ((msR qs).take b).length <= 300 := by rw [List.length_take, Qka, <- HLQ.out]; omega
              exact ⟨h9.st, h9.sd, by have := h9.lt; omega, by have := h9.ld; omega⟩
            have hlog5 : LogIn y5 v9 ((L3 ++ [cm]) ++ qs.drop n) := Qmx (w := y5) o5 (fun m' hm' => by
              rcases List.mem_append.1 hm' with hm' | hm'
              · rcases List.mem_append.1 hm' with hm' | hm'
                · exact HFIT3.out y5 hby5 m' hm'
                · rw [List.mem_singleton.1 hm', hcm]; exact ⟨⟨Qun, Nat.le_trans hTO.lt (by unfold maxLen; omega), Nat.le_trans hTO.ld (by unfold maxLen; omega), hTF.ts, hTF.ds⟩, hrw, hdw⟩
              · exact HFQ.out y5 hby5 m' (List.mem_of_mem_drop hm')) (Below.refl _ _) (by rw [List.length_append, hlen4, hlen5]; omega)
            have hM5 : msR ((L3 ++ [cm]) ++ qs.drop n) = outR ((msR qs).take b) (((msR qs).take n).drop b) ((msR qs).drop n) := by
              unfold outR; rw [Qux, Qux, HM3.out, <- HLE.out, hcm]; rw [<- HLA.out, <- HTA.out]; simp [msR, List.map_drop]
            have HLOG5 := Qb hlog5; have HM5 := Qb hM5; have HBY5 := Qb hby5; have HR5 := Qb r5; obtain ⟨ao4, co4, hv8, _, _⟩ := Qhh o4; rw [hlen4] at hv8; subst hv8; clear ho4 hg4 o4 hby9 hby4 hlen4 hlen5 r5 o5 k5 hby5 hal5 hrt5 hrd5 hrw hdw hTF hTO hlog5 hM5 hcm H5; refine Qg ?_; go_wp2_with (with_reducible refine Qxa 124 rfl ?_); refine Qg ?_; refine Qsw (some 124) (.slice (Quv aq cq n) (lq - n) (cq - n)) rfl rfl (by unfold Quv; go_simp) ?_; (try simp only [Act.put, List.setIfInBounds_toArray, List.set]); go_wp2_with (at_builtin; refine Lib.wpList_append_run _ rfl _ _ _ _ rfl _ _ rfl rfl _ _ HR5.out ?_; refine Qpa ?_); clear HR5; refine Qg ?_; go_wp2_with fail; refine (of16 y5 _ _ HLOG5.out).mono ?_; rintro e w13 hans; have hans2 := Qsx hans (by rw [HM5.out]; exact HSS.out.1); rw [HM5.out, HSS.out.2, <- HTF.out] at hans2; obtain ⟨v10, v11, rfl, h1, h2, hb13⟩ := hans2; obtain ⟨a5, c5, rfl, _⟩ := id h1; obtain ⟨a6, c6, rfl, _⟩ := id h2; have H13 : Hid (Qxb w13 (.slice a5 TF.1.length c5) TF.1 /\ Qxc w13 (.slice a6 TF.2.length c6) TF.2 /\ Below w9.heap.size w9 w13) := ⟨h1, h2, HBY5.out.trans (hb13.mono HBY5.out.size)⟩; clear hans h1 h2 hb13 HLOG5 HM5 HBY5; unfold taA; go_wp2_with (refine Ql rfl 28 (.tmp 16) (.tmp 129) rfl w13.heap.size 0 28 #[.slice none 0 0, .slice none 0 0] #[.slice a5 TF.1.length c5, .slice a6 TF.2.length c6] rfl rfl (Qa.new w13 _ _) Qde (Nat.le_refl 2) (by simp [Value.oneCell']) ?_; intro w14 hr14 ho14; refine Qpa ?_); rw [Qn #[.slice none 0 0, .slice none 0 0] #[.slice a5 TF.1.length c5, .slice a6 TF.2.length c6] rfl] at hr14; have hal13 : Below w13.heap.size w13 (w13.alloc (.cells #[.slice none 0 0, .slice none 0 0] 28)) := (Below.refl _ _).alloc (Nat.le_refl _) _; have hb14 := ho14.below hal13 (Nat.le_refl _); have hb914 := H13.out.2.2.trans (hb14.mono H13.out.2.2.size); obtain ⟨g16, hg16⟩ : ∃ g, g = w13.heap.size := ⟨_, rfl⟩; rw [<- hg16] at hr14 |-
            have hTFF : TaFit TF := by
              rw [HTF.out]; refine Qtx HQ0.out (fun r hr => ?_); obtain ⟨m', hm', rfl⟩ := List.mem_map.1 hr; exact (HFQ.out w9 (Below.refl _ _) m' hm').1
            have hTFO : TaOk TF 2000 := by
              have h9 := Qkx HQ0.out; rw [<- HTF.out, Qka, <- HLQ.out] at h9; exact ⟨h9.st, h9.sd, by have := h9.lt; omega, by have := h9.ld; omega⟩
            have HSM := Qb (Qyx TF TF _ _ _ _ w14 true (show true = true ↔ TF = TF from ⟨fun _ => rfl, fun _ => rfl⟩) hTFF hTFF hTFO hTFO (H13.out.1.below hb14) (H13.out.2.1.below hb14) (H9.out w14 hb914).2.2.1.1 (H9.out w14 hb914).2.2.1.2); have H14 : Hid (Qa w14 g16 28 #[.slice a5 TF.1.length c5, .slice a6 TF.2.length c6] /\ Qa w14 g12 28 #[.slice a3 TF.1.length c3, .slice a4 TF.2.length c4] /\ Below W.heap.size W w14) := ⟨hr14, (H9.out w14 hb914).1.2, (H9.out w14 hb914).2.2.2.2⟩; clear hr14 ho14 hal13 hb14 hb914 hg16 hTFF hTFO H13 H9; refine Qg ?_; go_wp2_with (first | (refine Qd rfl 28 (.tmp 16) rfl g16 rfl #[.slice a5 TF.1.length c5, .slice a6 TF.2.length c6] H14.out.1 _ Try.underlying28 rfl Qde ?_) | (refine Qd rfl 28 (.tmp 12) rfl g12 rfl #[.slice a3 TF.1.length c3, .slice a4 TF.2.length c4] H14.out.2.1 _ Try.underlying28 rfl Qde ?_)); refine HSM.out.mono ?_; rintro e w15 ⟨rfl, hb15⟩; have HF := Qb (H14.out.2.2.trans (hb15.mono H14.out.2.2.size)); clear hb15 H14 HSM; go_wp2; go_ret; exact ⟨rfl, HF.out⟩
        · have i16 : (16 : Int) < (n1 : Int) := by omega
          have HF := Qb (H9.out w9 (Below.refl _ _)).2.2.2.2; clear H9; go_wp2; go_ret; exact ⟨rfl, HF.out⟩
  · have hq2 : Qgf 0 (msR ms) = false := by
      cases h : Qgf 0 (msR ms)
      · rfl
      · exact absurd ((Qea _ _).1 h) hr
    rw [hq2] at HGD; clear ha hb hc hq hP hr hq2 HLG hl1; generalize ms.length = ln at *; go_enter Try.func6, Try.ntmps6; go_wp2_with fail; refine (HAW.out W).mono ?_; rintro e w1 ⟨rfl, hb1⟩; have H1 := Qb hb1; clear hb1; go_wp2_with fail; refine (HFW.out w1 H1.out).mono ?_; rintro e w2 ⟨rfl, rfl⟩; go_wp2_with fail; refine (HGD.out w2 H1.out).mono ?_; rintro e w3 ⟨rfl, hb3⟩; have H3 := Qb (H1.out.trans (hb3.mono H1.out.size)); clear hb3 H1 HGD; go_wp2_with fail; refine (HAW.out w3).mono ?_; rintro e w4 ⟨rfl, hb4⟩; have H4 := Qb (H3.out.trans (hb4.mono H3.out.size)); clear hb4 H3 HFW HAW; go_wp2; go_ret; exact ⟨rfl, H4.out⟩
theorem walk (v0 : Value) (ms : List (Rec × Value × Value)) (a1 a2 : Int) (W : World) (ha : Qmi W v0 ms) (hb : ms.length <= maxLen) (hc : ∀ a len cap, v0 = .slice a len cap -> len <= cap) (hw1 : (Lit.int .u64 a1).wf = true) (hw2 : (Lit.int .u64 a2).wf = true) :
    Calls Try.prog 6 #[v0, .int .u64 a1, .int .u64 a2] W fun e w' => e = .returned (.bool true) /\ Below W.heap.size W w' := by
  have b1 := bounds_u64 hw1; have b2 := bounds_u64 hw2; obtain ⟨bgn, rfl⟩ := Int.eq_ofNat_of_zero_le b1.1; obtain ⟨en, rfl⟩ := Int.eq_ofNat_of_zero_le b2.1; exact core v0 ms bgn en W ha hb hc (by omega) (by omega)
end Go.Proofs.Ytkgniegdefaieaa.analyseSkips
namespace Go.Proofs.Ytkgniegdefaieaa.analyseSkips
open Go.ChangeShapes Go.WideShapes Go.ChangeAt Go.RowKit
open Go.ChangeMaps (open_string shut_string)
set_option linter.unusedVariables false

theorem Qjv : laidOutB Try.prog = true := by kernel_rfl
theorem own : ownKnob Try.prog.godebug = none := by kernel_rfl

set_option maxRecDepth 100000 in
theorem lifted (os : Os) (started : os.Started) (H : Type) (enc : TypeId × Value -> H) :
    ReturnsInHanded {} Try.checked os 6 .any (Rows.analyseSkipsSpec.pre6 enc Try.prog Try.f6 Rows.analyseSkipsRow.domain false) (Rows.analyseSkipsSpec.post enc Try.prog Try.f6 false true false false) := by
  refine returnsInHanded_of_change_sized (C := Try.checked) own started (by kernel_rfl) Try.func6
    (ChangeSpec.witness6 (enc := enc) (C := Try.checked) false ⟨#[], #[.slice none 0 0, .int .u64 0, .int .u64 0], []⟩ 8 (by kernel_rfl) (by kernel_rfl) (by kernel_rfl) (by kernel_rfl)) ?_
  intro W base args ds gs before hval0 hW hcnd hsz0 _
  have hval : ∀ (j : Nat) t v, Try.f6.params[j]? = some t -> args[j]? = some v -> Value.okWide Try.prog W .any base t v := hval0
  have hsz : (DataW.weightsEach Try.prog (Try.f6.params.toList ++ Rows.analyseSkipsSpec.plain.varTypes Try.prog) (ds ++ gs)).all (· <= reachBytes) = true := hsz0
  have hW' := hW
  obtain ⟨p, q, hA0, hV, rfl, hfz, hnd⟩ := hW
  have hA : DataW.TrodAll enc Try.prog W 0 (fun _ => true) true Try.f6.params.toList args.toList ds p := hA0
  rw [Try.params6] at hA hval hsz
  obtain ⟨v0, vs0, d0, ds0, p0, q0, hargs, rfl, rfl, h0, r0⟩ := trodAll_cons hA
  obtain ⟨v1, vs1, d1, ds1, p1, q1, rfl, rfl, rfl, h1, r1⟩ := trodAll_cons r0
  obtain ⟨v2, vs2, d2, ds2, p2, q2, rfl, rfl, rfl, h2, r2⟩ := trodAll_cons r1
  obtain ⟨rfl, rfl, rfl⟩ := trodAll_nil r2
  obtain rfl : args = #[v0, v1, v2] := by cases args; simp_all
  obtain ⟨rfl, rfl⟩ := trodVars_none hV
  have k0 := h0
  have lt0 := Qnq h0
  obtain ⟨a1, rfl, rfl, rfl, w1⟩ := open_int Try.underlying50 (hval 1 50 v1 rfl rfl) h1
  obtain ⟨a2, rfl, rfl, rfl, w2⟩ := open_int Try.underlying50 (hval 2 50 v2 rfl rfl) h2
  obtain ⟨m0, w0a, w0b, w0c⟩ := Qwp (hval 0 22 v0 rfl rfl) h0
  clear hA0 hval0 hsz0 hsz
  refine (walk v0 m0 a1 a2 W w0a w0b w0c w1 w2).mono fun e W' ⟨he, bel⟩ => ?_
  subst he
  exact ⟨_, rfl, _, _, _, [], _, [], hW', trodAll_mk1 (shut_bool Try.underlying4 _), (trodAll_cons_mk (Below.trod Qjv (by kernel_rfl) (of_decide_eq_true (by kernel_rfl)) k0 bel lt0) (trodAll_cons_mk (shut_int Try.underlying50 w1) (trodAll_cons_mk (shut_int Try.underlying50 w2) trodAll_mk0))), rfl, bel.frame _, fun h => by cases h⟩

theorem over : Rows.analyseSkipsRow.holds Try.pinned (OpenSpec.ofChange Rows.analyseSkipsSpec) :=
  OpenClaim.holds_of_wide 6 Try.f6 rfl rfl rfl rfl rfl rfl rfl ⟨rfl, rfl, rfl, rfl, rfl⟩ rfl rfl rfl rfl rfl (by kernel_rfl) Try.func6 (by kernel_rfl)
    (of_decide_eq_true (by kernel_rfl)) (by unfold Func.isWrapper; first | (rw [if_pos (by decide +kernel)]; kernel_rfl) | (rw [if_neg (by decide +kernel)]; exact ⟨rfl, rfl⟩))
    (fun os started H enc _ => lifted os started H enc)

/-- THE STATEMENT. -/
theorem proved : Rows.AnalyseSkipsSaid := over
end Go.Proofs.Ytkgniegdefaieaa.analyseSkips
namespace Go.Proofs.Ytkgniegdefaieaa
theorem analyseSkips_proved : Rows.AnalyseSkipsSaid := analyseSkips.proved
end Go.Proofs.Ytkgniegdefaieaa
