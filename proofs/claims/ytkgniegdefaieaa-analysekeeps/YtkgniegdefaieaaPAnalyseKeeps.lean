/-
  Of leaves the records as they are, and each table that it tells is memory of its own: rows of one are written over, and another is as before. AnalyseKeeps returns true for every input, and its arguments read as before.
  Condition: none but those that the form of every such statement bears by itself (each string within the reach).
-/
import Derived.Test.YtkgniegdefaieaaRows
import Derived.ProofKit
import Derived.OpenShut
import Derived.ShutString
import Derived.SizedLaws
import Derived.JoinedCond
import Derived.Test.YtkgniegdefaieaaK13
import Derived.Test.YtkgniegdefaieaaK12

set_option maxRecDepth 8000
set_option maxHeartbeats 25600000
namespace Go.Proofs.Ytkgniegdefaieaa.analyseKeeps
open Go.RowKit
set_option linter.unusedVariables false
structure Kb (W wr : World) (g3 g5 : Nat) (s1 s2 p1 p2 : Sl) (T : Ta) : Prop where
  a : Qa wr g3 28 (taA (slV s1 T.1.length) (slV s2 T.2.length))
  b : Qa wr g5 28 (taA (slV p1 T.1.length) (slV p2 T.2.length))
  t : RT wr p1 T.1
  d : RD wr p2 T.2
  rt : ∀ g, s1.b = some g -> ∃ cs, Qa wr g 42 cs /\ cs.size = s1.c * 5
  rd : ∀ g, s2.b = some g -> ∃ cs, Qa wr g 81 cs /\ cs.size = s2.c * 2
  l1 : ∀ g, s1.b = some g -> W.heap.size <= g /\ p1.b ≠ some g
  l2 : ∀ g, s2.b = some g -> W.heap.size <= g /\ p2.b ≠ some g
  bel : Below W.heap.size W wr
theorem Kb.only1 {W wr w2 : World} {g3 g5 g : Nat} {s1 s2 p1 p2 : Sl} {T : Ta} {cs : Array Value} (h : Kb W wr g3 g5 s1 s2 p1 p2 T) (hg : s1.b = some g) (ho : Only g wr w2) (hr : Qa w2 g 42 cs) (hs : cs.size = s1.c * 5) : Kb W w2 g3 g5 s1 s2 p1 p2 T := by
  obtain ⟨c0, hc0, _⟩ := h.rt g hg; have hne : ∀ {k : Nat} {t : TypeId} {ds : Array Value}, Qa wr k t ds -> 42 ≠ t -> k ≠ g := fun hk ht e => ht (Qti hc0 (e ▸ hk))
  refine ⟨ho.row h.a (hne h.a (by decide)), ho.row h.b (hne h.b (by decide)), h.t.keep (fun b hb => ho.block b (fun e => (h.l1 g hg).2 (e ▸ hb))), h.d.keep (fun b hb => ?_), fun k hk => ?_, fun k hk => ?_, h.l1, h.l2, ho.below h.bel (h.l1 g hg).1⟩
  · obtain ⟨ds, h2⟩ := h.d.kind hb; exact ho.block b (hne h2 (by decide))
  · rw [hg] at hk; injection hk with hk; subst hk; exact ⟨cs, hr, hs⟩
  · obtain ⟨ds, h2, h3⟩ := h.rd k hk; exact ⟨ds, ho.row h2 (hne h2 (by decide)), h3⟩
theorem Kb.only2 {W wr w2 : World} {g3 g5 g : Nat} {s1 s2 p1 p2 : Sl} {T : Ta} {cs : Array Value} (h : Kb W wr g3 g5 s1 s2 p1 p2 T) (hg : s2.b = some g) (ho : Only g wr w2) (hr : Qa w2 g 81 cs) (hs : cs.size = s2.c * 2) : Kb W w2 g3 g5 s1 s2 p1 p2 T := by
  obtain ⟨c0, hc0, _⟩ := h.rd g hg; have hne : ∀ {k : Nat} {t : TypeId} {ds : Array Value}, Qa wr k t ds -> 81 ≠ t -> k ≠ g := fun hk ht e => ht (Qti hc0 (e ▸ hk))
  refine ⟨ho.row h.a (hne h.a (by decide)), ho.row h.b (hne h.b (by decide)), h.t.keep (fun b hb => ?_), h.d.keep (fun b hb => ho.block b (fun e => (h.l2 g hg).2 (e ▸ hb))), fun k hk => ?_, fun k hk => ?_, h.l1, h.l2, ho.below h.bel (h.l2 g hg).1⟩
  · obtain ⟨ds, h2⟩ := h.t.kind hb; exact ho.block b (hne h2 (by decide))
  · obtain ⟨ds, h2, h3⟩ := h.rt k hk; exact ⟨ds, ho.row h2 (hne h2 (by decide)), h3⟩
  · rw [hg] at hk; injection hk with hk; subst hk; exact ⟨cs, hr, hs⟩
theorem Kb.later {W wr y : World} {g3 g5 : Nat} {s1 s2 p1 p2 : Sl} {T : Ta} (h : Kb W wr g3 g5 s1 s2 p1 p2 T) (hb : Below wr.heap.size wr y) : Kb W y g3 g5 s1 s2 p1 p2 T := by
  refine ⟨h.a.later hb, h.b.later hb, h.t.later hb, h.d.later hb, fun g hg => ?_, fun g hg => ?_, h.l1, h.l2, h.bel.trans (hb.mono h.bel.size)⟩
  · obtain ⟨cs, h1, h2⟩ := h.rt g hg; exact ⟨cs, h1.later hb, h2⟩
  · obtain ⟨cs, h1, h2⟩ := h.rd g hg; exact ⟨cs, h1.later hb, h2⟩
theorem RT.row {w : World} {s : Sl} {l : List Tx} (h : RT w s l) {g : Nat} (hg : s.b = some g) : ∃ cs, Qa w g 42 cs /\ cs.size = s.c * 5 := by
  rcases h with ⟨h1, _⟩ | ⟨b, cs, h1, h2, h3, _⟩
  · rw [h1] at hg; cases hg
  · rw [h1] at hg; injection hg with hg; subst hg; exact ⟨cs, h2, h3⟩
theorem RD.row {w : World} {s : Sl} {l : List Di} (h : RD w s l) {g : Nat} (hg : s.b = some g) : ∃ cs, Qa w g 81 cs /\ cs.size = s.c * 2 := by
  rcases h with ⟨h1, _⟩ | ⟨b, cs, h1, h2, h3, _⟩
  · rw [h1] at hg; cases hg
  · rw [h1] at hg; injection hg with hg; subst hg; exact ⟨cs, h2, h3⟩
theorem RT.some {w : World} {s : Sl} {l : List Tx} (h : RT w s l) (hl : 0 < l.length) : ∃ g, s.b = some g := by
  rcases h with ⟨_, h1, _⟩ | ⟨b, cs, h1, _⟩
  · rw [h1] at hl; exact absurd hl (by show ¬ 0 < 0; omega)
  · exact ⟨b, h1⟩
theorem RD.some {w : World} {s : Sl} {l : List Di} (h : RD w s l) (hl : 0 < l.length) : ∃ g, s.b = some g := by
  rcases h with ⟨_, h1, _⟩ | ⟨b, cs, h1, _⟩
  · rw [h1] at hl; exact absurd hl (by show ¬ 0 < 0; omega)
  · exact ⟨b, h1⟩
theorem Qiv {c0 : Array Value} {off : Nat} {cs : List Value} (h : off + cs.length <= c0.size) : (Qxf c0 off cs).size = c0.size := by
  unfold Qxf; simp; omega
theorem walk (v0 : Value) (ms : List (Rec × Value × Value)) (W : World) (ha : Qmi W v0 ms) (hb : ms.length <= maxLen) (hc : ∀ a len cap, v0 = .slice a len cap -> len <= cap) :
    Calls Try.prog 8 #[v0] W fun e w' => e = .returned (.bool true) /\ Below W.heap.size W w' := by
  obtain ⟨au, cu, rfl, _⟩ := id ha.1
  obtain ⟨q, hq⟩ : ∃ q : Bool, q = true ↔ Qln ms := by
    classical
    exact ⟨decide (Qln ms), decide_eq_true_iff⟩
  have HFW := Qb (fun x (hx : Below W.heap.size W x) => few16 x _ ms q hq (ha.below hx) hb); have HAW := Qb (fun x => Qcw x)
  cases q
  · clear ha hb hc hq; generalize ms.length = ln at *; go_enter Try.func8, Try.ntmps8; go_wp2_with fail; refine (HAW.out W).mono ?_; rintro e w1 ⟨rfl, hb1⟩; have H1 := Qb hb1; clear hb1; go_wp2_with fail; refine (HFW.out w1 H1.out).mono ?_; rintro e w2 ⟨rfl, rfl⟩; go_wp2_with fail; refine (HAW.out w2).mono ?_; rintro e w3 ⟨rfl, hb3⟩; have H3 := Qb (H1.out.trans (hb3.mono H1.out.size)); clear hb3 H1 HFW HAW; go_wp2; go_ret; exact ⟨rfl, H3.out⟩
  · have hP : Qln ms := hq.1 rfl; have hl1 := hP.1; have HOF := Qb (fun x (hx : Below W.heap.size W x) => of16 x _ ms ⟨ha.below hx, by omega, fun a l c e => hc a l c e⟩)
    have hfit : ∀ r ∈ msR ms, r.fits := fun r hr => by
      obtain ⟨m, hm, rfl⟩ := List.mem_map.1 hr; exact (ha.2 m hm).1
    have hTF := Qkv hfit
    have hTO : TaOk (Qfv (msR ms)) 2000 := by
      have h := tabT_ok (msR ms); rw [Qka] at h; exact ⟨h.st, h.sd, by have := h.lt; omega, by have := h.ld; omega⟩
    obtain ⟨T, hT⟩ : ∃ T, T = Qfv (msR ms) := ⟨_, rfl⟩; obtain ⟨E, hE⟩ : ∃ E, E = Qow (msR ms) := ⟨_, rfl⟩; rw [<- hT] at hTF hTO; have HSM := Qb (fun va vb ua ub x (h1 : Qxb x va T.1) (h2 : Qxc x vb T.2) (h3 : Qxb x ua T.1) (h4 : Qxc x ub T.2) => Qyx T T va vb ua ub x true (show true = true ↔ T = T from ⟨fun _ => rfl, fun _ => rfl⟩) hTF hTF hTO hTO h1 h2 h3 h4); have HTE := Qb (And.intro hT hE); have ht1 := hTO.lt; have ht2 := hTO.ld; clear ha hb hc hq hP hl1 hfit hTF hTO hT hE; generalize ms.length = ln at *; go_enter Try.func8, Try.ntmps8; go_wp2_with fail; refine (HAW.out W).mono ?_; rintro e w1 ⟨rfl, hb1⟩; have H1 := Qb hb1; clear hb1 HAW; go_wp2_with fail; refine (HFW.out w1 H1.out).mono ?_; rintro e w2 ⟨rfl, rfl⟩; clear HFW; go_wp2_with fail; refine (HOF.out w2 H1.out).mono ?_; rintro e w3 hans; obtain ⟨s1, s2, rfl, hta⟩ := hans.own; rw [<- HTE.out.1] at hta |-; rw [<- HTE.out.2]; have H3 := Qb (And.intro hta (And.intro (H1.out.trans (hta.bel.mono H1.out.size)) H1.out.size)); clear hans hta H1; obtain ⟨l1, hl1⟩ : ∃ l, l = T.1.length := ⟨_, rfl⟩; obtain ⟨l2, hl2⟩ : ∃ l, l = T.2.length := ⟨_, rfl⟩; obtain ⟨ta, hta⟩ : ∃ t, t = taA (slV s1 T.1.length) (slV s2 T.2.length) := ⟨_, rfl⟩; have htz : ta.size = 2 := by rw [hta]; rfl
    have hti : (Try.prog.info? 28).map (·.size) = some ta.size := by rw [htz]; exact Qde
    have hto : ta.all (·.oneCell') = true := by rw [hta]; simp [taA, slV, Value.oneCell']
    have HTA := Qb hta; have HLL := Qb (And.intro hl1 hl2); rw [<- hta]; clear hta hl1 hl2; go_wp2_with (refine Ql rfl 28 (.tmp 3) (.tmp 22) rfl w3.heap.size 0 28 #[.slice none 0 0, .slice none 0 0] ta rfl rfl (Qa.new w3 _ _) hti (by rw [htz]; exact Nat.le_refl 2) hto ?_; intro w4 hr4 ho4; refine Qpa ?_); rw [Qn #[.slice none 0 0, .slice none 0 0] ta (by rw [htz]; rfl)] at hr4; have hal3 : Below w3.heap.size w3 (w3.alloc (.cells #[.slice none 0 0, .slice none 0 0] 28)) := (Below.refl _ _).alloc (Nat.le_refl _) _; have hb4 := ho4.below hal3 (Nat.le_refl _)
    have H4 : Hid (Qa w4 w3.heap.size 28 ta /\ RT w4 s1 T.1 /\ RD w4 s2 T.2 /\ ((∀ b, s1.b = some b -> W.heap.size <= b) /\ ∀ b, s2.b = some b -> W.heap.size <= b) /\ Below W.heap.size W w4) :=
      ⟨hr4, H3.out.1.t.later hb4, H3.out.1.d.later hb4, ⟨fun b hb => Nat.le_trans H3.out.2.2 (H3.out.1.n1 b hb), fun b hb => Nat.le_trans H3.out.2.2 (H3.out.1.n2 b hb)⟩, H3.out.2.1.trans (hb4.mono H3.out.2.1.size)⟩
    obtain ⟨g3, hg3⟩ : ∃ g, g = w3.heap.size := ⟨_, rfl⟩; rw [<- hg3] at H4 |-; clear hr4 ho4 hal3 hb4 hg3 H3; refine Qg ?_; go_wp2_with fail; refine (HOF.out w4 H4.out.2.2.2.2).mono ?_; rintro e w5 hans; obtain ⟨p1, p2, rfl, hta⟩ := hans.own; rw [<- HTE.out.1] at hta |-; rw [<- HTE.out.2]; obtain ⟨tb, htb⟩ : ∃ t, t = taA (slV p1 T.1.length) (slV p2 T.2.length) := ⟨_, rfl⟩; have hbz : tb.size = 2 := by rw [htb]; rfl
    have hbi : (Try.prog.info? 28).map (·.size) = some tb.size := by rw [hbz]; exact Qde
    have hbo : tb.all (·.oneCell') = true := by rw [htb]; simp [taA, slV, Value.oneCell']
    have HTB := Qb htb; rw [<- htb]; clear htb; have H5 := Qb hta; clear hans hta; go_wp2_with (refine Ql rfl 28 (.tmp 5) (.tmp 27) rfl w5.heap.size 0 28 #[.slice none 0 0, .slice none 0 0] tb rfl rfl (Qa.new w5 _ _) hbi (by rw [hbz]; exact Nat.le_refl 2) hbo ?_; intro w6 hr6 ho6; refine Qpa ?_); rw [Qn #[.slice none 0 0, .slice none 0 0] tb (by rw [hbz]; rfl)] at hr6
    have HK : Hid (Kb W w6 g3 w5.heap.size s1 s2 p1 p2 T /\ RT w6 s1 T.1 /\ RD w6 s2 T.2) := by
      have hal5 : Below w5.heap.size w5 (w5.alloc (.cells #[.slice none 0 0, .slice none 0 0] 28)) := (Below.refl _ _).alloc (Nat.le_refl _) _; have hb6 := ho6.below hal5 (Nat.le_refl _); have hb46 := H5.out.bel.trans (hb6.mono H5.out.bel.size); have hr := H4.out.1.later hb46; rw [HTA.out] at hr; rw [HTB.out] at hr6; have h1 := H4.out.2.1.later hb46; have h2 := H4.out.2.2.1.later hb46
      refine ⟨⟨hr, hr6, H5.out.t.later hb6, H5.out.d.later hb6, fun g hg => RT.row h1 hg, fun g hg => RD.row h2 hg, fun g hg => ⟨H4.out.2.2.2.1.1 g hg, fun e => ?_⟩, fun g hg => ⟨H4.out.2.2.2.1.2 g hg, fun e => ?_⟩, H4.out.2.2.2.2.trans (hb46.mono H4.out.2.2.2.2.size)⟩, h1, h2⟩
      · have h3 := H5.out.n1 g e; have h4 := H4.out.2.1.lt hg; omega
      · have h3 := H5.out.n2 g e; have h4 := H4.out.2.2.1.lt hg; omega
    obtain ⟨g5, hg5⟩ : ∃ g, g = w5.heap.size := ⟨_, rfl⟩; rw [<- hg5] at HK |-; clear hr6 ho6 hg5 H4 H5; refine Qg ?_; have hE1 : (E == E) = true := beq_self_eq_true E; have hE2 : (E != E) = false := by rw [bne, hE1]; rfl
    have HS6 := Qb (HSM.out _ _ _ _ w6 HK.out.2.1.rows HK.out.2.2.rows HK.out.1.t.rows HK.out.1.d.rows); rw [<- HTA.out, <- HTB.out] at HS6; have HA := Qb (show Qa w6 g3 28 ta by rw [HTA.out]; exact HK.out.1.a); have HBB := Qb (show Qa w6 g5 28 tb by rw [HTB.out]; exact HK.out.1.b); go_wp2_with (first | (refine Qd rfl 28 (.tmp 3) rfl g3 rfl ta HA.out _ Try.underlying28 rfl hti ?_) | (refine Qd rfl 28 (.tmp 5) rfl g5 rfl tb HBB.out _ Try.underlying28 rfl hbi ?_)); refine HS6.out.mono ?_; rintro e w7 ⟨rfl, hb7⟩; have H7 := Qb (HK.out.1.later hb7); have HS := Qb (And.intro (RT.some HK.out.2.1) (And.intro (RD.some HK.out.2.2) (And.intro HK.out.2.1.cap.1 HK.out.2.2.cap.1))); rw [<- HLL.out.1, <- HLL.out.2] at HS; clear hb7 HK HS6 HA HBB; obtain ⟨A1, hA1⟩ : ∃ a, a = adr s1.b := ⟨_, rfl⟩; obtain ⟨A2, hA2⟩ : ∃ a, a = adr s2.b := ⟨_, rfl⟩; have HAA := Qb (And.intro hA1 hA2)
    have HC1 : Hid (∀ z, Kb W z g3 g5 s1 s2 p1 p2 T -> z.cell? ⟨g3, 0, none⟩ = some (.slice A1 l1 s1.c)) := fun z h => by
      rw [hA1, HLL.out.1]; exact h.a.cell 0 _ rfl
    have HC2 : Hid (∀ z, Kb W z g3 g5 s1 s2 p1 p2 T -> z.cell? ⟨g3, 1, none⟩ = some (.slice A2 l2 s2.c)) := fun z h => by
      rw [hA2, HLL.out.2]; exact h.a.cell 1 _ rfl
    have ht1' : l1 <= 2000 := by rw [HLL.out.1]; exact ht1
    have ht2' : l2 <= 2000 := by rw [HLL.out.2]; exact ht2
    clear hA1 hA2 ht1 ht2; have q1 := HC1.out w7 H7.out; go_wp2; clear q1; go_loopw [41] (fun i wr => ∃ j : Nat, j <= l1 /\ i = .int .i64 (j : Int) /\ Hid (Kb W wr g3 g5 s1 s2 p1 p2 T)) (fun i _ => l1 - (intOf i).toNat)
    case atStart => exact ⟨0, Nat.zero_le _, rfl, H7⟩
    case round =>
      obtain ⟨j, hj, rfl, HJ⟩ := hrel; clear H7
      by_cases hlt : j < l1
      · have i5 : (j : Int) < (l1 : Int) := by omega
        obtain ⟨g, hg⟩ := HS.out.1 (by omega); have e1 : A1 = some ⟨g, 0, none⟩ := by rw [HAA.out.1, hg]; rfl
        obtain ⟨cs, hr, hsz⟩ := HJ.out.rt g hg
        have hfit : j * 5 + 5 <= cs.size := by
          have := HS.out.2.2.1; omega
        have q1 := HC1.out wr HJ.out; rw [e1] at q1; have HG := Qb hg; subst e1; clear hg; go_wp2_with (refine Ql rfl 42 (.tmp 48) (.tmp 47) rfl g (j * 5) 42 cs #[.int .i64 0, .int .i64 0, .int .u64 0, .int .u64 0, .int .u64 0] rfl rfl hr Qdc hfit (by simp [Value.oneCell']) ?_; intro w8 hr8 ho8; refine Qpa ?_); have H8 := Qb (HJ.out.only1 HG.out ho8 hr8 (by rw [Qiv (by exact hfit)]; exact hsz)); clear hr8 ho8 HJ hr hsz hfit q1; refine Qg ?_; go_wp2; go_roundw
        case rel => exact ⟨j + 1, by omega, by go_num, H8⟩
        case measure => simp [intOf] <;> omega
      · have i5 : ¬ (j : Int) < (l1 : Int) := by omega
        have q1 := HC2.out wr HJ.out; go_wp2; clear q1; go_loopw [53] (fun i wr => ∃ j : Nat, j <= l2 /\ i = .int .i64 (j : Int) /\ Hid (Kb W wr g3 g5 s1 s2 p1 p2 T)) (fun i _ => l2 - (intOf i).toNat)
        case atStart => exact ⟨0, Nat.zero_le _, rfl, HJ⟩
        case round =>
          obtain ⟨i, hi, rfl, HI⟩ := hrel; clear HJ
          by_cases hlt2 : i < l2
          · have i6 : (i : Int) < (l2 : Int) := by omega
            obtain ⟨g, hg⟩ := HS.out.2.1 (by omega); have e1 : A2 = some ⟨g, 0, none⟩ := by rw [HAA.out.2, hg]; rfl
            obtain ⟨cs, hr, hsz⟩ := HI.out.rd g hg
            have hfit : i * 2 + 2 <= cs.size := by
              have := HS.out.2.2.2; omega
            have q1 := HC2.out wr HI.out; rw [e1] at q1; have HG := Qb hg; subst e1; clear hg; go_wp2_with (refine Ql rfl 81 (.tmp 60) (.tmp 59) rfl g (i * 2) 81 cs #[.int .i64 (-1), .int .u64 0] rfl rfl hr Qcm hfit (by simp [Value.oneCell']) ?_; intro w8 hr8 ho8; refine Qpa ?_); have H8 := Qb (HI.out.only2 HG.out ho8 hr8 (by rw [Qiv (by exact hfit)]; exact hsz)); clear hr8 ho8 HI hr hsz hfit q1; refine Qg ?_; go_wp2; go_roundw
            case rel => exact ⟨i + 1, by omega, by go_num, H8⟩
            case measure => simp [intOf] <;> omega
          · have i6 : ¬ (i : Int) < (l2 : Int) := by omega
            clear HC1 HC2 HAA HS; go_wp2_with fail; refine (HOF.out wr HI.out.bel).mono ?_; rintro e w9 hans; obtain ⟨u1, u2, rfl, hta⟩ := hans.own; rw [<- HTE.out.1] at hta |-; rw [<- HTE.out.2]; obtain ⟨tc, htc⟩ : ∃ t, t = taA (slV u1 T.1.length) (slV u2 T.2.length) := ⟨_, rfl⟩; have hcz : tc.size = 2 := by rw [htc]; rfl
            have hci : (Try.prog.info? 28).map (·.size) = some tc.size := by rw [hcz]; exact Qde
            have hco : tc.all (·.oneCell') = true := by rw [htc]; simp [taA, slV, Value.oneCell']
            have HTC := Qb htc; rw [<- htc]; clear htc; have H9 := Qb (And.intro hta (HI.out.later hta.bel)); clear hans hta HI HOF; go_wp2_with (refine Ql rfl 28 (.tmp 9) (.tmp 65) rfl w9.heap.size 0 28 #[.slice none 0 0, .slice none 0 0] tc rfl rfl (Qa.new w9 _ _) hci (by rw [hcz]; exact Nat.le_refl 2) hco ?_; intro w10 hr10 ho10; refine Qpa ?_); rw [Qn #[.slice none 0 0, .slice none 0 0] tc (by rw [hcz]; rfl)] at hr10; have hal9 : Below w9.heap.size w9 (w9.alloc (.cells #[.slice none 0 0, .slice none 0 0] 28)) := (Below.refl _ _).alloc (Nat.le_refl _) _; have hb10 := ho10.below hal9 (Nat.le_refl _); obtain ⟨g9, hg9⟩ : ∃ g, g = w9.heap.size := ⟨_, rfl⟩; rw [<- hg9] at hr10 |-; have HS9 := Qb (HSM.out _ _ _ _ w10 (H9.out.2.t.later hb10).rows (H9.out.2.d.later hb10).rows (H9.out.1.t.later hb10).rows (H9.out.1.d.later hb10).rows); rw [<- HTC.out, <- HTB.out] at HS9; have HC9 := Qb hr10; have HB9 := Qb (show Qa w10 g5 28 tb by rw [HTB.out]; exact H9.out.2.b.later hb10); have HBL := Qb (H9.out.2.bel.trans (hb10.mono H9.out.2.bel.size)); clear hr10 ho10 hal9 hb10 hg9 H9 HSM; refine Qg ?_; go_wp2_with (first | (refine Qd rfl 28 (.tmp 9) rfl g9 rfl tc HC9.out _ Try.underlying28 rfl hci ?_) | (refine Qd rfl 28 (.tmp 5) rfl g5 rfl tb HB9.out _ Try.underlying28 rfl hbi ?_)); refine HS9.out.mono ?_; rintro e w11 ⟨rfl, hb11⟩; have HF := Qb (HBL.out.trans (hb11.mono HBL.out.size)); clear hb11 HBL HS9 HC9 HB9; go_wp2; go_ret; exact ⟨rfl, HF.out⟩
end Go.Proofs.Ytkgniegdefaieaa.analyseKeeps
namespace Go.Proofs.Ytkgniegdefaieaa.analyseKeeps
open Go.ChangeShapes Go.WideShapes Go.ChangeAt Go.RowKit
open Go.ChangeMaps (open_string shut_string)
set_option linter.unusedVariables false

theorem Qjv : laidOutB Try.prog = true := by kernel_rfl
theorem own : ownKnob Try.prog.godebug = none := by kernel_rfl

set_option maxRecDepth 100000 in
theorem lifted (os : Os) (started : os.Started) (H : Type) (enc : TypeId × Value -> H) :
    ReturnsInHanded {} Try.checked os 8 .any (Rows.analyseKeepsSpec.pre6 enc Try.prog Try.f8 Rows.analyseKeepsRow.domain false) (Rows.analyseKeepsSpec.post enc Try.prog Try.f8 false true false false) := by
  refine returnsInHanded_of_change_sized (C := Try.checked) own started (by kernel_rfl) Try.func8
    (ChangeSpec.witness6 (enc := enc) (C := Try.checked) false ⟨#[], #[.slice none 0 0], []⟩ 8 (by kernel_rfl) (by kernel_rfl) (by kernel_rfl) (by kernel_rfl)) ?_
  intro W base args ds gs before hval0 hW hcnd hsz0 _
  have hval : ∀ (j : Nat) t v, Try.f8.params[j]? = some t -> args[j]? = some v -> Value.okWide Try.prog W .any base t v := hval0
  have hsz : (DataW.weightsEach Try.prog (Try.f8.params.toList ++ Rows.analyseKeepsSpec.plain.varTypes Try.prog) (ds ++ gs)).all (· <= reachBytes) = true := hsz0
  have hW' := hW
  obtain ⟨p, q, hA0, hV, rfl, hfz, hnd⟩ := hW
  have hA : DataW.TrodAll enc Try.prog W 0 (fun _ => true) true Try.f8.params.toList args.toList ds p := hA0
  rw [Try.params8] at hA hval hsz
  obtain ⟨v0, vs0, d0, ds0, p0, q0, hargs, rfl, rfl, h0, r0⟩ := trodAll_cons hA
  obtain ⟨rfl, rfl, rfl⟩ := trodAll_nil r0
  obtain rfl : args = #[v0] := by cases args; simp_all
  obtain ⟨rfl, rfl⟩ := trodVars_none hV
  have k0 := h0
  have lt0 := Qnq h0
  obtain ⟨m0, w0a, w0b, w0c⟩ := Qwp (hval 0 22 v0 rfl rfl) h0
  clear hA0 hval0 hsz0 hsz
  refine (walk v0 m0 W w0a w0b w0c).mono fun e W' ⟨he, bel⟩ => ?_
  subst he
  exact ⟨_, rfl, _, _, _, [], _, [], hW', trodAll_mk1 (shut_bool Try.underlying4 _), (trodAll_cons_mk (Below.trod Qjv (by kernel_rfl) (of_decide_eq_true (by kernel_rfl)) k0 bel lt0) trodAll_mk0), rfl, bel.frame _, fun h => by cases h⟩

theorem over : Rows.analyseKeepsRow.holds Try.pinned (OpenSpec.ofChange Rows.analyseKeepsSpec) :=
  OpenClaim.holds_of_wide 8 Try.f8 rfl rfl rfl rfl rfl rfl rfl ⟨rfl, rfl, rfl, rfl, rfl⟩ rfl rfl rfl rfl rfl (by kernel_rfl) Try.func8 (by kernel_rfl)
    (of_decide_eq_true (by kernel_rfl)) (by unfold Func.isWrapper; first | (rw [if_pos (by decide +kernel)]; kernel_rfl) | (rw [if_neg (by decide +kernel)]; exact ⟨rfl, rfl⟩))
    (fun os started H enc _ => lifted os started H enc)

/-- THE STATEMENT. -/
theorem proved : Rows.AnalyseKeepsSaid := over
end Go.Proofs.Ytkgniegdefaieaa.analyseKeeps
namespace Go.Proofs.Ytkgniegdefaieaa
theorem analyseKeeps_proved : Rows.AnalyseKeepsSaid := analyseKeeps.proved
end Go.Proofs.Ytkgniegdefaieaa
