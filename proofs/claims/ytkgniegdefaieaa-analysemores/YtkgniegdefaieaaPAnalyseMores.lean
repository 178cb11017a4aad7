/-
  Of any table, and any records behind it, More answers the table that the document says, or which error; the losers are the rows that didn't commit, in their order; and the checkpoint's record has just the table's rows. AnalyseMores returns true for every input, and its arguments read as before.
  Condition: none but those that the form of every such statement bears by itself (each string within the reach).
-/
import Derived.Test.YtkgniegdefaieaaRows
import Derived.ProofKit
import Derived.OpenShut
import Derived.ShutString
import Derived.SizedLaws
import Derived.JoinedCond
import Derived.Test.YtkgniegdefaieaaK13
import Derived.Test.YtkgniegdefaieaaK12
import Derived.Test.YtkgniegdefaieaaK03

set_option maxRecDepth 8000
set_option maxHeartbeats 25600000
namespace Go.Proofs.Ytkgniegdefaieaa.analyseMores
open Go.RowKit
set_option linter.unusedVariables false
theorem Qex {P : Program} {ops : Array Oper} {S : World -> Prop} {o : Oper} {a : Act} (hw : Region.wanted o (yielded ops a.tmps) = true) (op : BinOp) (t r : TypeId) (x y : Operand) (ho : o.op = .binOp op t x y r) (u v z : Value) (hu : a.eval x = u) (hv : a.eval y = v) (hg : ∀ w, S w -> (eqGuard op t x y u v).run P w = .ok () w) (hz : ∀ w, S w -> (binOp op t u v).run P w = .ok z w) : YieldsIf P ops S o z a :=
  .inl ⟨hw, fun w hC => by unfold execOp; simp only [ho, hu, hv, Sem.run_bind, hg w hC, hz w hC, Result.andThen_ok, Sem.run_pure]⟩
theorem more_both (t : Ta) (rs : List Rec) (hf : TaFit t) (hl : rs.length <= 300) (h1 : t.1.length <= 300) (h2 : t.2.length <= 300) : ∃ (R : Ta) (E : Int), (∀ w e w', Qrw w t rs e w' -> Qtv w R E e w') /\ TaFit R /\ TaOk R 2000 := by
  by_cases g1 : Qrv t
  · by_cases g2 : Qnv t rs
    · refine ⟨Qha t rs, 0, fun w e w' h => ?_, hf.takes rs (Qta _ 0 g2.1), ?_⟩
      · rcases h with ⟨h3, _⟩ | ⟨_, h3, _⟩ | ⟨_, _, h3⟩
        · exact absurd g1 h3
        · exact absurd g2 h3
        · exact h3
      · have h := (Qew (n := 300) g1 h1 h2).takes rs; exact ⟨h.st, h.sd, by have := h.lt; omega, by have := h.ld; omega⟩
    · refine ⟨([], []), 2, fun w e w' h => ?_, Quk, ⟨fun p q _ hq => (nomatch hq), fun p q _ hq => (nomatch hq), Nat.zero_le _, Nat.zero_le _⟩⟩
      rcases h with ⟨h3, _⟩ | ⟨_, _, h3⟩ | ⟨_, h3, _⟩
      · exact absurd g1 h3
      · exact h3
      · exact absurd h3 g2
  · refine ⟨([], []), 1, fun w e w' h => ?_, Quk, ⟨fun p q _ hq => (nomatch hq), fun p q _ hq => (nomatch hq), Nat.zero_le _, Nat.zero_le _⟩⟩
    rcases h with ⟨_, h3⟩ | ⟨h3, _⟩ | ⟨h3, _⟩
    · exact h3
    · exact absurd h3 g1
    · exact absurd h3 g1
theorem losL_at {l : List Tx} {j : Nat} (hj : j < l.length) (h : (l.getD j Tx.zero).s ≠ 3) : (Qpw (l.take j)).length < (Qpw l).length /\ (Qpw l).getD (Qpw (l.take j)).length Tx.zero = l.getD j Tx.zero := by
  have h1 := Qqw hj; rw [if_pos (by unfold losB; exact decide_eq_true h)] at h1
  have h2 : Qpw l = Qpw (l.take (j + 1)) ++ Qpw (l.drop (j + 1)) := by
    unfold Qpw; rw [<- List.filter_append, List.take_append_drop]
  rw [h1] at h2; obtain ⟨A, hA⟩ : ∃ A, A = Qpw (l.take j) := ⟨_, rfl⟩; rw [<- hA] at h2 |-; rw [h2]
  constructor
  · simp
  · rw [List.append_assoc, List.getD_eq_getElem?_getD, List.getElem?_append_right (Nat.le_refl _)]; simp
theorem core (v0 : Value) (T : List Tx) (v1 : Value) (D : List Di) (v2 : Value) (ms : List (Rec × Value × Value)) (bg : Nat) (W : World) (hT : Qxb W v0 T) (hTl : T.length <= maxLen) (hTf : ∀ x ∈ T, x.fits) (hD : Qxc W v1 D) (hDl : D.length <= maxLen) (hDf : ∀ x ∈ D, x.fits)
    (ha : Qmi W v2 ms) (hb : ms.length <= maxLen) (hc : ∀ a len cap, v2 = .slice a len cap -> len <= cap) :
    Calls Try.prog 4 #[v0, v1, v2, .int .u64 (bg : Int)] W fun e w' => e = .returned (.bool true) /\ Below W.heap.size W w' := by
  obtain ⟨au, cu, rfl, _⟩ := id ha.1; obtain ⟨a1, c1, rfl, _⟩ := id hT; obtain ⟨a2, c2, rfl, _⟩ := id hD
  obtain ⟨q, hq⟩ : ∃ q : Bool, q = true ↔ Qln ms := by
    classical
    exact ⟨decide (Qln ms), decide_eq_true_iff⟩
  have HFW := Qb (fun x (hx : Below W.heap.size W x) => few16 x _ ms q hq (ha.below hx) hb); have HAW := Qb (fun x => Qcw x); have hmx1 : T.length <= 9223372036854775807 := by unfold maxLen at hTl; omega
  have hmx2 : D.length <= 9223372036854775807 := by unfold maxLen at hDl; omega
  obtain ⟨n1, hn1⟩ : ∃ n, n = T.length := ⟨_, rfl⟩; obtain ⟨n2, hn2⟩ : ∃ n, n = D.length := ⟨_, rfl⟩; rw [<- hn1] at hmx1; rw [<- hn2] at hmx2; have HNN := Qb (And.intro hn1 hn2); have HI := Qb (And.intro hT hD); rw [<- hn1, <- hn2] at HI
  by_cases hsmall : q = true /\ n1 <= 300 /\ n2 <= 300
  · obtain ⟨rfl, hs1, hs2⟩ := hsmall; have hP : Qln ms := hq.1 rfl; have hl1 := hP.1; have HLG := Qb (fun x (hx : Below W.heap.size W x) => (show LogIn x (.slice au ms.length cu) ms from ⟨ha.below hx, by omega, fun a l c e => hc a l c e⟩)); have HMO := Qb (fun x (hx : Below W.heap.size W x) => more16 x _ _ T D _ ms (HI.out.1.below hx) (HI.out.2.below hx) (by rw [<- hn1]; omega) (by rw [<- hn2]; omega) (HLG.out x hx)); have HRM := Qb (fun x (hx : Below W.heap.size W x) => rmore16 x _ _ T D _ ms (HI.out.1.below hx) (HI.out.2.below hx) (by rw [<- hn1]; exact hs1) (by rw [<- hn2]; exact hs2) (HLG.out x hx) hl1); have HLO := Qb (fun x (hx : Below W.heap.size W x) => losers16 x _ _ T D (HI.out.1.below hx) (HI.out.2.below hx) (by rw [<- hn1]; omega)); have HCK := Qb (fun x (hx : Below W.heap.size W x) => check16 x _ _ T D bg (HI.out.1.below hx) (HI.out.2.below hx) (by rw [<- hn1]; omega) (by rw [<- hn2]; omega)); obtain ⟨R, E, hRE, hRF, hRO⟩ := more_both (T, D) (msR ms) ⟨hTf, hDf⟩ (by rw [Qka]; exact hl1) (by show T.length <= _; rw [<- hn1]; exact hs1) (by show D.length <= _; rw [<- hn2]; exact hs2); have HRE := Qb hRE; have HSM := Qb (fun va vb ua ub x (h1 : Qxb x va R.1) (h2 : Qxc x vb R.2) (h3 : Qxb x ua R.1) (h4 : Qxc x ub R.2) => Qvw R R va vb ua ub x true (show true = true ↔ R = R from ⟨fun _ => rfl, fun _ => rfl⟩) hRF hRF hRO hRO h1 h2 h3 h4); have HTF := Qb hTf; have HDF := Qb (And.intro hTl (And.intro hDl hDf)); have hls : Qpw T = Qpw T := rfl; clear ha hb hc hq hP hl1 HLG hRE hRF hRO hTf hDf hTl hDl hT hD; rw [<- hn1, <- hn2]; clear hn1 hn2; generalize ms.length = ln at *; go_enter Try.func4, Try.ntmps4; go_wp2_with fail; refine (HAW.out W).mono ?_; rintro e w1 ⟨rfl, hb1⟩; have H1 := Qb hb1; clear hb1 HAW; go_wp2_with fail; refine (HFW.out w1 H1.out).mono ?_; rintro e w2 ⟨rfl, rfl⟩; have i1 : ¬ (300 : Int) < (n1 : Int) := by omega
    have i2 : ¬ (300 : Int) < (n2 : Int) := by omega
    clear HFW; go_wp2_with (refine Ql rfl 28 (.tmp 9) (.tmp 38) rfl w2.heap.size 0 28 #[.slice none 0 0, .slice none 0 0] #[.slice a1 n1 c1, .slice a2 n2 c2] rfl rfl (Qa.new w2 _ _) Qde (Nat.le_refl 2) (by simp [Value.oneCell']) ?_; intro w3 hr3 ho3; refine Qpa ?_); rw [Qn #[.slice none 0 0, .slice none 0 0] #[.slice a1 n1 c1, .slice a2 n2 c2] rfl] at hr3; have hal2 : Below w2.heap.size w2 (w2.alloc (.cells #[.slice none 0 0, .slice none 0 0] 28)) := (Below.refl _ _).alloc (Nat.le_refl _) _; have hb3 := ho3.below hal2 (Nat.le_refl _); have H3 : Hid (Qa w3 w2.heap.size 28 #[.slice a1 n1 c1, .slice a2 n2 c2] /\ Below W.heap.size W w3) := ⟨hr3, H1.out.trans (hb3.mono H1.out.size)⟩; obtain ⟨g9, hg9⟩ : ∃ g, g = w2.heap.size := ⟨_, rfl⟩; rw [<- hg9] at H3 |-; clear hr3 ho3 hal2 hb3 hg9 H1; refine Qg ?_; go_wp2_with (refine Qd rfl 28 (.tmp 9) rfl g9 rfl #[.slice a1 n1 c1, .slice a2 n2 c2] H3.out.1 _ Try.underlying28 rfl Qde ?_); refine (HMO.out w3 H3.out.2).mono ?_; rintro e w4 hans; obtain ⟨v3, v4, rfl, h1, h2, hb4⟩ := HRE.out _ _ _ hans; obtain ⟨a3, c3, rfl, _⟩ := id h1; obtain ⟨a4, c4, rfl, _⟩ := id h2; have H4 : Hid (Qa w4 g9 28 #[.slice a1 n1 c1, .slice a2 n2 c2] /\ (Qxb w4 (.slice a3 R.1.length c3) R.1 /\ Qxc w4 (.slice a4 R.2.length c4) R.2) /\ Below W.heap.size W w4) := ⟨H3.out.1.later hb4, ⟨h1, h2⟩, H3.out.2.trans (hb4.mono H3.out.2.size)⟩; clear hans h1 h2 hb4 H3 HMO; unfold taA; go_wp2_with (refine Ql rfl 28 (.tmp 10) (.tmp 43) rfl w4.heap.size 0 28 #[.slice none 0 0, .slice none 0 0] #[.slice a3 R.1.length c3, .slice a4 R.2.length c4] rfl rfl (Qa.new w4 _ _) Qde (Nat.le_refl 2) (by simp [Value.oneCell']) ?_; intro w5 hr5 ho5; refine Qpa ?_); rw [Qn #[.slice none 0 0, .slice none 0 0] #[.slice a3 R.1.length c3, .slice a4 R.2.length c4] rfl] at hr5; have hal4 : Below w4.heap.size w4 (w4.alloc (.cells #[.slice none 0 0, .slice none 0 0] 28)) := (Below.refl _ _).alloc (Nat.le_refl _) _; have hb5 := ho5.below hal4 (Nat.le_refl _); obtain ⟨g10, hg10⟩ : ∃ g, g = w4.heap.size := ⟨_, rfl⟩; rw [<- hg10] at hr5 |-; have H5 : Hid (Qa w5 g9 28 #[.slice a1 n1 c1, .slice a2 n2 c2] /\ Qa w5 g10 28 #[.slice a3 R.1.length c3, .slice a4 R.2.length c4] /\ (Qxb w5 (.slice a3 R.1.length c3) R.1 /\ Qxc w5 (.slice a4 R.2.length c4) R.2) /\ Below W.heap.size W w5) := ⟨H4.out.1.later hb5, hr5, ⟨H4.out.2.1.1.below hb5, H4.out.2.1.2.below hb5⟩, H4.out.2.2.trans (hb5.mono H4.out.2.2.size)⟩; clear hr5 ho5 hal4 hb5 hg10 H4
    refine Qg ?_; go_wp2_with (refine Qd rfl 28 (.tmp 9) rfl g9 rfl #[.slice a1 n1 c1, .slice a2 n2 c2] H5.out.1 _ Try.underlying28 rfl Qde ?_); refine (Quw w5 a1 a2 n1 n2 c1 c2).mono ?_; rintro e w6 ⟨rfl, hb6⟩; have H6 : Hid (Qa w6 g9 28 #[.slice a1 n1 c1, .slice a2 n2 c2] /\ Qa w6 g10 28 #[.slice a3 R.1.length c3, .slice a4 R.2.length c4] /\ (Qxb w6 (.slice a3 R.1.length c3) R.1 /\ Qxc w6 (.slice a4 R.2.length c4) R.2) /\ Below W.heap.size W w6) := ⟨H5.out.1.later hb6, H5.out.2.1.later hb6, ⟨H5.out.2.2.1.1.below hb6, H5.out.2.2.1.2.below hb6⟩, H5.out.2.2.2.trans (hb6.mono H5.out.2.2.2.size)⟩; clear hb6 H5; go_wp2_with fail; refine (HRM.out w6 H6.out.2.2.2).mono ?_; rintro e w7 hans; obtain ⟨v5, v6, rfl, h1, h2, hb7⟩ := HRE.out _ _ _ hans; obtain ⟨a5, c5, rfl, _⟩ := id h1; obtain ⟨a6, c6, rfl, _⟩ := id h2; have H7 : Hid (Qa w7 g9 28 #[.slice a1 n1 c1, .slice a2 n2 c2] /\ Qa w7 g10 28 #[.slice a3 R.1.length c3, .slice a4 R.2.length c4] /\ (Qxb w7 (.slice a3 R.1.length c3) R.1 /\ Qxc w7 (.slice a4 R.2.length c4) R.2) /\ (Qxb w7 (.slice a5 R.1.length c5) R.1 /\ Qxc w7 (.slice a6 R.2.length c6) R.2) /\ Below W.heap.size W w7) := ⟨H6.out.1.later hb7, H6.out.2.1.later hb7, ⟨H6.out.2.2.1.1.below hb7, H6.out.2.2.1.2.below hb7⟩, ⟨h1, h2⟩, H6.out.2.2.2.trans (hb7.mono H6.out.2.2.2.size)⟩; clear hans h1 h2 hb7 H6 HRM HRE; unfold taA; go_wp2_with (refine Ql rfl 32 (.tmp 12) (.tmp 50) rfl w7.heap.size 0 32 #[.slice none 0 0, .slice none 0 0] #[.slice a5 R.1.length c5, .slice a6 R.2.length c6] rfl rfl (Qa.new w7 _ _) Qda (Nat.le_refl 2) (by simp [Value.oneCell']) ?_; intro w8 hr8 ho8; refine Qpa ?_); rw [Qn #[.slice none 0 0, .slice none 0 0] #[.slice a5 R.1.length c5, .slice a6 R.2.length c6] rfl] at hr8; have hal7 : Below w7.heap.size w7 (w7.alloc (.cells #[.slice none 0 0, .slice none 0 0] 32)) := (Below.refl _ _).alloc (Nat.le_refl _) _; have hb8 := ho8.below hal7 (Nat.le_refl _); obtain ⟨g12, hg12⟩ : ∃ g, g = w7.heap.size := ⟨_, rfl⟩; rw [<- hg12] at hr8 |-
    have H8 : Hid (∀ x, Below w8.heap.size w8 x -> Qa x g9 28 #[.slice a1 n1 c1, .slice a2 n2 c2] /\ Qa x g10 28 #[.slice a3 R.1.length c3, .slice a4 R.2.length c4] /\ Qa x g12 32 #[.slice a5 R.1.length c5, .slice a6 R.2.length c6] /\ (Qxb x (.slice a3 R.1.length c3) R.1 /\ Qxc x (.slice a4 R.2.length c4) R.2) /\ (Qxb x (.slice a5 R.1.length c5) R.1 /\ Qxc x (.slice a6 R.2.length c6) R.2) /\ Below W.heap.size W x) := fun x hx => by
      have hb := hb8.trans (hx.mono hb8.size); exact ⟨H7.out.1.later hb, H7.out.2.1.later hb, hr8.later hx, ⟨H7.out.2.2.1.1.below hb, H7.out.2.2.1.2.below hb⟩, ⟨H7.out.2.2.2.1.1.below hb, H7.out.2.2.2.1.2.below hb⟩, H7.out.2.2.2.2.trans (hb.mono H7.out.2.2.2.2.size)⟩
    clear hr8 ho8 hal7 hb8 hg12 H7; refine Qg ?_; have hE1 : (E == E) = true := beq_self_eq_true E; have hE2 : (E != E) = false := by rw [bne, hE1]; rfl
    go_wp2_with fail; refine wp_region_noPanic ?_; refine wp_region_held_drew (S := fun x => Below w8.heap.size w8 x) (by kernel_rfl) (Qoc (Below.refl _ _) 1) (fun hHeld => ?_); generalize w8.drew = y1 at *; refine tkq 0 (some 52) (.int .i64 E) hHeld ?_; (try simp only [Act.put, List.setIfInBounds_toArray, List.set]); refine tkq 1 (some 53) (.int .i64 E) hHeld ?_; (try simp only [Act.put, List.setIfInBounds_toArray, List.set]); refine tkq 2 (some 54) (.bool false) hHeld ?_; (try simp only [Act.put, List.setIfInBounds_toArray, List.set]); refine tkq 3 (some 55) (.bool false) hHeld ?_; (try simp only [Act.put, List.setIfInBounds_toArray, List.set]); refine Qr 4 (some 56) (.agg #[.slice a3 R.1.length c3, .slice a4 R.2.length c4]) rfl rfl (by kernel_rfl) (by kernel_rfl) (by kernel_rfl) (fun _ _ _ h => h) (Qv (by kernel_rfl) 28 _ rfl (.pointer (some ⟨g10, 0, none⟩)) rfl _ (fun x hSx => Qpc x (H8.out x hSx).2.1 Try.underlying28 rfl Qde)) hHeld ?_; (try simp only [Act.put, List.setIfInBounds_toArray, List.set]); refine Qr 6 (some 58) (.agg #[.slice a5 R.1.length c5, .slice a6 R.2.length c6]) rfl rfl (by kernel_rfl) (by kernel_rfl) (by kernel_rfl) (fun _ _ _ h => h) (Qv (by kernel_rfl) 32 _ rfl (.pointer (some ⟨g12, 0, none⟩)) rfl _ (fun x hSx => Qpc x (H8.out x hSx).2.2.1 Try.underlying32 rfl Qda)) hHeld ?_; (try simp only [Act.put, List.setIfInBounds_toArray, List.set]); refine Qm 5 (by kernel_rfl) ?_; refine Qwl (some 57) rfl rfl (by kernel_rfl) 14 #[.agg #[.slice a3 R.1.length c3, .slice a4 R.2.length c4]] ?he ((Quw y1 a3 a4 R.1.length R.2.length c3 c4).mono ?_); (case he => go_simp); rintro e w10 ⟨rfl, hb10⟩; have hHeld10 : Below w8.heap.size w8 w10 := hHeld.trans (hb10.mono hHeld.size); clear hHeld hb10; refine ⟨_, rfl, hHeld10, ?_⟩; (try simp only [Act.put, List.setIfInBounds_toArray, List.set]); refine Qm 7 (by kernel_rfl) ?_; refine Qwl (some 59) rfl rfl (by kernel_rfl) 13 #[.agg #[.slice a3 R.1.length c3, .slice a4 R.2.length c4], .agg #[.slice a5 R.1.length c5, .slice a6 R.2.length c6]] ?he ((HSM.out _ _ _ _ w10 (H8.out w10 hHeld10).2.2.2.1.1 (H8.out w10 hHeld10).2.2.2.1.2 (H8.out w10 hHeld10).2.2.2.2.1.1 (H8.out w10 hHeld10).2.2.2.2.1.2).mono ?_); (case he => go_simp); rintro e w11 ⟨rfl, hb11⟩; have hHeld11 : Below w8.heap.size w8 w11 := hHeld10.trans (hb11.mono hHeld10.size); clear hHeld10 hb11 HSM; refine ⟨_, rfl, hHeld11, ?_⟩; (try simp only [Act.put, List.setIfInBounds_toArray, List.set])
    refine Qr 8 (some 60) (.bool false) rfl rfl (by kernel_rfl) (by kernel_rfl) (by kernel_rfl) (fun _ _ _ h => h) (Or.inl ⟨by kernel_rfl, fun x hSx => by go_simp⟩) hHeld11 ?_; (try simp only [Act.put, List.setIfInBounds_toArray, List.set]); refine Qr 9 (some 61) (.bool false) rfl rfl (by kernel_rfl) (by kernel_rfl) (by kernel_rfl) (fun _ _ _ h => h) (Or.inl ⟨by kernel_rfl, fun x hSx => by go_simp⟩) hHeld11 ?_; (try simp only [Act.put, List.setIfInBounds_toArray, List.set]); refine wpAnyH_done (by kernel_rfl) ?_ _; refine NoPanic.normal ?_; have H11 : Hid (Qa w11 g9 28 #[.slice a1 n1 c1, .slice a2 n2 c2] /\ Below W.heap.size W w11) := ⟨(H8.out w11 hHeld11).1, (H8.out w11 hHeld11).2.2.2.2.2⟩; clear hHeld11 H8 hE1 hE2; go_wp2_with (refine Qd rfl 28 (.tmp 9) rfl g9 rfl #[.slice a1 n1 c1, .slice a2 n2 c2] H11.out.1 _ Try.underlying28 rfl Qde ?_); refine (HLO.out w11 H11.out.2).mono ?_; rintro e w12 ⟨vl, rfl, how, hb12⟩; obtain ⟨L, hL⟩ : ∃ L, L = Qpw T := ⟨_, rfl⟩; rw [<- hL] at how; have HLL := Qb hL
    have hLn : L.length <= 300 := by
      rw [hL]; refine Nat.le_trans (List.length_filter_le _ _) ?_; rw [<- HNN.out.1]; exact hs1
    obtain ⟨aL, cL, hvl, _, _⟩ := Qhh how; subst hvl; obtain ⟨nL, hnL⟩ : ∃ n, n = L.length := ⟨_, rfl⟩; have HNL := Qb hnL
    have H12 : Hid (∀ x, Below w12.heap.size w12 x -> Qa x g9 28 #[.slice a1 n1 c1, .slice a2 n2 c2] /\ Qxb x (.slice aL nL cL) L /\ Qxb x (.slice a1 n1 c1) T /\ Below W.heap.size W x) := fun x hx => by
      have hb := hb12.trans (hx.mono hb12.size); have hW := H11.out.2.trans (hb.mono H11.out.2.size); refine ⟨H11.out.1.later hb, ?_, HI.out.1.below hW, hW⟩; rw [hnL]; exact (Qhb how).below hx
    rw [<- hnL] at hLn |-; clear how hb12 hL hnL H11 HLO; go_wp2; go_loopw [15, 66] (fun p i wr => ∃ j : Nat, j <= n1 /\ i = .int .i64 (j : Int) /\ p = .int .i64 ((Qpw (T.take j)).length : Int) /\ Hid (Below w12.heap.size w12 wr)) (fun _ i _ => n1 - (intOf i).toNat)
    case atStart => exact ⟨0, Nat.zero_le _, rfl, rfl, Below.refl _ _⟩
    case round =>
      obtain ⟨j, hj, rfl, rfl, HJ⟩ := hrel
      by_cases hlt : j < n1
      · have i5 : (j : Int) < (n1 : Int) := by omega
        have hjT : j < T.length := by rw [<- HNN.out.1]; exact hlt
        obtain ⟨b, off, c, hv, _, hrx⟩ := (H12.out w12 (Below.refl _ _)).2.2.1.mid hjT; injection hv with p1 p2 p3; subst p1; have HLA := Qb (losL_at hjT); have HNX := Qb (Qqw hjT); have HYF := Qb (HTF.out _ (Qja T j Tx.zero hjT)); obtain ⟨y, hy⟩ : ∃ y, y = T.getD j Tx.zero := ⟨_, rfl⟩; rw [<- hy] at hrx HLA HNX HYF; have HRX := Qb hrx; obtain ⟨k, hk⟩ : ∃ k, k = (Qpw (T.take j)).length := ⟨_, rfl⟩; rw [<- hk] at HLA |-; have HK := Qb hk; have g1 : wr.cell? ⟨b, off + j * 5 + 1, none⟩ = some (.int .i64 y.s) := HRX.out wr HJ.out 1 _ rfl; clear p2 p3 hrx hy hk hjT
        by_cases hs : y.s = 3
        · have HN : Hid ((Qpw (T.take (j + 1))).length = k) := by
            show _ = _; rw [HNX.out, if_neg (by unfold losB; simp [hs]), List.append_nil, HK.out]
          rw [hs] at g1; clear hs HLA HNX; go_wp2; go_roundw
          case rel => exact ⟨j + 1, by omega, by go_num, by rw [HN.out], HJ⟩
          case measure => simp [intOf] <;> omega
        · have e1 : (y.s == 3) = false := by rw [beq_eq_false_iff_ne]; exact hs
          have e2 : (y.s != 3) = true := by rw [bne, e1]; rfl
          have hla := HLA.out hs; rw [<- HLL.out, <- HNL.out] at hla
          have HN : Hid ((Qpw (T.take (j + 1))).length = k + 1) := by
            show _ = _; rw [HNX.out, if_pos (by unfold losB; simp [hs]), List.length_append, List.length_singleton, HK.out]
          have hkn : k < nL := hla.1; have hki : (k : Int) < (nL : Int) := by omega
          have hkg : ¬ (nL : Int) <= (k : Int) := by omega
          obtain ⟨bL, offL, c', hv', _, hrL⟩ := (H12.out w12 (Below.refl _ _)).2.1.mid (show k < L.length by rw [<- HNL.out]; exact hkn); injection hv' with p1' p2' p3'; subst p1'; rw [hla.2] at hrL; have HRL := Qb hrL; have HNE := Qb (fun x => Qxk y y HYF.out HYF.out false ⟨fun _ => rfl, fun _ => rfl⟩ x); clear p2' p3' hrL hla hs HLA HNX HYF; go_wp2_with fail; refine wp_region_noPanic ?_; refine wp_region_held_drew (S := fun x => Below w12.heap.size w12 x) (by kernel_rfl) (Qoc HJ.out 1) (fun hHeld => ?_); generalize wr.drew = z1 at *; clear HJ g1; refine tkq 0 (some 75) (.int .i64 (k : Int)) hHeld ?_; (try simp only [Act.put, List.setIfInBounds_toArray, List.set]); refine tkq 1 (some 76) (.slice (some ⟨bL, offL, none⟩) nL cL) hHeld ?_; (try simp only [Act.put, List.setIfInBounds_toArray, List.set]); refine tkq 2 (some 77) (.int .i64 (nL : Int)) hHeld ?_; (try simp only [Act.put, List.setIfInBounds_toArray, List.set]); refine tkq 3 (some 78) (.bool false) hHeld ?_; (try simp only [Act.put, List.setIfInBounds_toArray, List.set]); refine tkq 4 (some 79) (.bool false) hHeld ?_; (try simp only [Act.put, List.setIfInBounds_toArray, List.set]); refine tkq 5 (some 80) (.slice (some ⟨bL, offL, none⟩) nL cL) hHeld ?_; (try simp only [Act.put, List.setIfInBounds_toArray, List.set]); refine tkq 6 (some 81) (.int .i64 (k : Int)) hHeld ?_; (try simp only [Act.put, List.setIfInBounds_toArray, List.set]); refine tkq 7 (some 82) (.pointer (some ⟨bL, offL + k * 5, none⟩)) hHeld ?_; (try simp only [Act.put, List.setIfInBounds_toArray, List.set]); refine Qr 8 (some 83) (.agg (txA y)) rfl rfl (by kernel_rfl) (by kernel_rfl) (by kernel_rfl) (fun _ _ _ h => h) (Qv (by kernel_rfl) 42 _ rfl (.pointer (some ⟨bL, offL + k * 5, none⟩)) rfl _ (fun x hSx => Qff x bL _ y (HRL.out x hSx))) hHeld ?_; (try simp only [Act.put, List.setIfInBounds_toArray, List.set]); refine tkq 9 (some 84) (.slice (some ⟨b, off, none⟩) n1 c1) hHeld ?_; (try simp only [Act.put, List.setIfInBounds_toArray, List.set]); refine tkq 10 (some 85) (.int .i64 (j : Int)) hHeld ?_; (try simp only [Act.put, List.setIfInBounds_toArray, List.set]); refine tkq 11 (some 86) (.pointer (some ⟨b, off + j * 5, none⟩)) hHeld ?_; (try simp only [Act.put, List.setIfInBounds_toArray, List.set]); refine Qr 12 (some 87) (.agg (txA y)) rfl rfl (by kernel_rfl) (by kernel_rfl) (by kernel_rfl) (fun _ _ _ h => h) (Qv (by kernel_rfl) 42 _ rfl (.pointer (some ⟨b, off + j * 5, none⟩)) rfl _ (fun x hSx => Qff x b _ y (HRX.out x hSx))) hHeld ?_
          (try simp only [Act.put, List.setIfInBounds_toArray, List.set])
          refine Qr 13 (some 88) (.bool false) rfl rfl (by kernel_rfl) (by kernel_rfl) (by kernel_rfl) (fun _ _ _ h => h) (Qex (by kernel_rfl) .neq 42 _ (.tmp 83) (.tmp 87) rfl _ _ (.bool false) rfl rfl (fun x _ => Qsr .neq _ _ y y x) (fun x _ => HNE.out x)) hHeld ?_; (try simp only [Act.put, List.setIfInBounds_toArray, List.set]); refine tkq 14 (some 89) (.bool false) hHeld ?_; (try simp only [Act.put, List.setIfInBounds_toArray, List.set]); refine wpAnyH_done (by kernel_rfl) ?_ _; refine NoPanic.normal ?_; have HF := Qb hHeld; clear hHeld HRL HNE; go_wp2; go_roundw
          case rel => exact ⟨j + 1, by omega, by go_num, by rw [HN.out]; go_num, HF⟩
          case measure => simp [intOf] <;> omega
      · have i5 : ¬ (j : Int) < (n1 : Int) := by omega
        have HKL : Hid ((Qpw (T.take j)).length = nL) := by
          show _ = _; rw [List.take_of_length_le (by rw [<- HNN.out.1]; omega), HNL.out, HLL.out]
        rw [HKL.out]; have HR9 := Qb (H12.out wr HJ.out).1; have HW9 := Qb (H12.out wr HJ.out).2.2.2; have eL : (nL == nL) = true := beq_self_eq_true nL; clear HJ H12 HKL; go_wp2_with (refine Qd rfl 28 (.tmp 9) rfl g9 rfl #[.slice a1 n1 c1, .slice a2 n2 c2] HR9.out _ Try.underlying28 rfl Qde ?_); refine (HCK.out wr HW9.out).mono ?_; rintro e w14 ⟨s1, s2, rfl, hta⟩; have HT14 := Qb (And.intro hta.t.rows (And.intro hta.d.rows (HW9.out.trans (hta.bel.mono HW9.out.size)))); obtain ⟨rc, hrc⟩ : ∃ rc, rc = rcF (ckR bg (T, D), slV s1 T.length, slV s2 D.length) := ⟨_, rfl⟩; have hrz : rc.size = 14 := by rw [hrc]; rfl
        have hri : (Try.prog.info? 46).map (·.size) = some rc.size := by rw [hrz]; exact Qaa
        have hro : rc.all (·.oneCell') = true := by rw [hrc]; simp [rcF, rcA, slV, Value.oneCell']
        have HRC := Qb hrc; rw [<- hrc]; clear hta hrc HCK HR9; go_wp2_with (refine Ql rfl 46 (.tmp 17) (.tmp 95) rfl w14.heap.size 0 46 Qvc rc rfl rfl (Qa.new w14 _ _) hri (by rw [hrz]; exact Nat.le_refl 14) hro ?_; intro w15 hr15 ho15; refine Qpa ?_); rw [Qn Qvc rc (by rw [hrz]; rfl)] at hr15; have hal14 : Below w14.heap.size w14 (w14.alloc (.cells Qvc 46)) := (Below.refl _ _).alloc (Nat.le_refl _) _; have hb15 := ho15.below hal14 (Nat.le_refl _); have H15 : Hid (Qa w15 w14.heap.size 46 rc /\ Below W.heap.size W w15) := ⟨hr15, HT14.out.2.2.trans (hb15.mono HT14.out.2.2.size)⟩; have hfit : (ckR bg (T, D)).fits := ⟨Qun, HDF.out.1, HDF.out.2.1, HTF.out, HDF.out.2.2⟩; have HSA := Qb (Qcx (ckR bg (T, D)) (ckR bg (T, D)) (slV s1 T.length) (slV s2 D.length) (.slice a1 n1 c1) (.slice a2 n2 c2) w15 true (show true = true ↔ _ = _ from ⟨fun _ => rfl, fun _ => rfl⟩) hfit hfit ⟨HT14.out.1.below hb15, HT14.out.2.1.below hb15⟩ ⟨HI.out.1.below H15.out.2, HI.out.2.below H15.out.2⟩); rw [show rcA (ckR bg (T, D)) (slV s1 T.length) (slV s2 D.length) = rc from HRC.out.symm] at HSA; obtain ⟨g17, hg17⟩ : ∃ g, g = w14.heap.size := ⟨_, rfl⟩; rw [<- hg17] at H15 |-; clear hr15 ho15 hal14 hb15 hg17 HT14 HW9 hfit; refine Qg ?_; go_wp2_with (refine Qd rfl 46 (.tmp 17) rfl g17 rfl rc H15.out.1 _ Try.underlying46 rfl hri ?_); refine HSA.out.mono ?_; rintro e w16 ⟨rfl, hb16⟩; have HF := Qb (H15.out.2.trans (hb16.mono H15.out.2.size)); clear hb16 H15 HSA; go_wp2; go_ret; exact ⟨rfl, HF.out⟩
  · have HQ : Hid (q = false ∨ 300 < n1 ∨ 300 < n2) := by
      show _ ∨ _ ∨ _
      cases q
      · exact .inl rfl
      · by_cases g1 : n1 <= 300
        · exact .inr (.inr (Nat.lt_of_not_le fun h => hsmall ⟨rfl, g1, h⟩))
        · exact .inr (.inl (by omega))
    clear ha hb hc hq hsmall HI hT hD hTf hDf hTl hDl; rw [<- hn1, <- hn2]; clear hn1 hn2 HNN; generalize ms.length = ln at *; go_enter Try.func4, Try.ntmps4; go_wp2_with fail; refine (HAW.out W).mono ?_; rintro e w1 ⟨rfl, hb1⟩; have H1 := Qb hb1; clear hb1; go_wp2_with fail; refine (HFW.out w1 H1.out).mono ?_; rintro e w2 ⟨rfl, rfl⟩; clear HFW
    cases q
    · go_wp2_with fail; refine (HAW.out w2).mono ?_; rintro e w3 ⟨rfl, hb3⟩; have H3 := Qb (H1.out.trans (hb3.mono H1.out.size)); clear hb3 H1 HAW; go_wp2; go_ret; exact ⟨rfl, H3.out⟩
    · by_cases g1 : n1 <= 300
      · have i1 : ¬ (300 : Int) < (n1 : Int) := by omega
        have i2 : (300 : Int) < (n2 : Int) := by
          rcases HQ.out with h | h | h
          · cases h
          · omega
          · omega
        go_wp2_with fail; refine (HAW.out w2).mono ?_; rintro e w3 ⟨rfl, hb3⟩; have H3 := Qb (H1.out.trans (hb3.mono H1.out.size)); clear hb3 H1 HAW; go_wp2; go_ret; exact ⟨rfl, H3.out⟩
      · have i1 : (300 : Int) < (n1 : Int) := by omega
        go_wp2_with fail; refine (HAW.out w2).mono ?_; rintro e w3 ⟨rfl, hb3⟩; have H3 := Qb (H1.out.trans (hb3.mono H1.out.size)); clear hb3 H1 HAW; go_wp2; go_ret; exact ⟨rfl, H3.out⟩
theorem walk (v0 : Value) (T : List Tx) (v1 : Value) (D : List Di) (v2 : Value) (ms : List (Rec × Value × Value)) (a3 : Int) (W : World) (hT : Qxb W v0 T) (hTl : T.length <= maxLen) (hTf : ∀ x ∈ T, x.fits) (hD : Qxc W v1 D) (hDl : D.length <= maxLen) (hDf : ∀ x ∈ D, x.fits)
    (ha : Qmi W v2 ms) (hb : ms.length <= maxLen) (hc : ∀ a len cap, v2 = .slice a len cap -> len <= cap) (hw : (Lit.int .u64 a3).wf = true) :
    Calls Try.prog 4 #[v0, v1, v2, .int .u64 a3] W fun e w' => e = .returned (.bool true) /\ Below W.heap.size W w' := by
  have b1 := bounds_u64 hw; obtain ⟨bg, rfl⟩ := Int.eq_ofNat_of_zero_le b1.1; exact core v0 T v1 D v2 ms bg W hT hTl hTf hD hDl hDf ha hb hc
end Go.Proofs.Ytkgniegdefaieaa.analyseMores
namespace Go.Proofs.Ytkgniegdefaieaa.analyseMores
open Go.ChangeShapes Go.WideShapes Go.ChangeAt Go.RowKit
open Go.ChangeMaps (open_string shut_string)
set_option linter.unusedVariables false

theorem Qjv : laidOutB Try.prog = true := by kernel_rfl
theorem own : ownKnob Try.prog.godebug = none := by kernel_rfl

set_option maxRecDepth 100000 in
theorem lifted (os : Os) (started : os.Started) (H : Type) (enc : TypeId × Value -> H) :
    ReturnsInHanded {} Try.checked os 4 .any (Rows.analyseMoresSpec.pre6 enc Try.prog Try.f4 Rows.analyseMoresRow.domain false) (Rows.analyseMoresSpec.post enc Try.prog Try.f4 false true false false) := by
  refine returnsInHanded_of_change_sized (C := Try.checked) own started (by kernel_rfl) Try.func4
    (ChangeSpec.witness6 (enc := enc) (C := Try.checked) false ⟨#[], #[.slice none 0 0, .slice none 0 0, .slice none 0 0, .int .u64 0], []⟩ 8 (by kernel_rfl) (by kernel_rfl) (by kernel_rfl) (by kernel_rfl)) ?_
  intro W base args ds gs before hval0 hW hcnd hsz0 _
  have hval : ∀ (j : Nat) t v, Try.f4.params[j]? = some t -> args[j]? = some v -> Value.okWide Try.prog W .any base t v := hval0
  have hsz : (DataW.weightsEach Try.prog (Try.f4.params.toList ++ Rows.analyseMoresSpec.plain.varTypes Try.prog) (ds ++ gs)).all (· <= reachBytes) = true := hsz0
  have hW' := hW
  obtain ⟨p, q, hA0, hV, rfl, hfz, hnd⟩ := hW
  have hA : DataW.TrodAll enc Try.prog W 0 (fun _ => true) true Try.f4.params.toList args.toList ds p := hA0
  rw [Try.params4] at hA hval hsz
  obtain ⟨v0, vs0, d0, ds0, p0, q0, hargs, rfl, rfl, h0, r0⟩ := trodAll_cons hA
  obtain ⟨v1, vs1, d1, ds1, p1, q1, rfl, rfl, rfl, h1, r1⟩ := trodAll_cons r0
  obtain ⟨v2, vs2, d2, ds2, p2, q2, rfl, rfl, rfl, h2, r2⟩ := trodAll_cons r1
  obtain ⟨v3, vs3, d3, ds3, p3, q3, rfl, rfl, rfl, h3, r3⟩ := trodAll_cons r2
  obtain ⟨rfl, rfl, rfl⟩ := trodAll_nil r3
  obtain rfl : args = #[v0, v1, v2, v3] := by cases args; simp_all
  obtain ⟨rfl, rfl⟩ := trodVars_none hV
  have k0 := h0
  have lt0 := Qnq h0
  have k1 := h1
  have lt1 := Qnq h1
  have k2 := h2
  have lt2 := Qnq h2
  obtain ⟨a3, rfl, rfl, rfl, w3⟩ := open_int Try.underlying37 (hval 3 37 v3 rfl rfl) h3
  obtain ⟨m0, w0a, w0b, w0c⟩ := op_txs16 (hval 0 25 v0 rfl rfl) h0
  obtain ⟨m1, w1a, w1b, w1c⟩ := op_dis16 (hval 1 26 v1 rfl rfl) h1
  obtain ⟨m2, w2a, w2b, w2c⟩ := Qwp (hval 2 22 v2 rfl rfl) h2
  clear hA0 hval0 hsz0 hsz
  refine (walk v0 m0 v1 m1 v2 m2 a3 W w0a w0b w0c w1a w1b w1c w2a w2b w2c w3).mono fun e W' ⟨he, bel⟩ => ?_
  subst he
  exact ⟨_, rfl, _, _, _, [], _, [], hW', trodAll_mk1 (shut_bool Try.underlying4 _), (trodAll_cons_mk (Below.trod Qjv (by kernel_rfl) (of_decide_eq_true (by kernel_rfl)) k0 bel lt0) (trodAll_cons_mk (Below.trod Qjv (by kernel_rfl) (of_decide_eq_true (by kernel_rfl)) k1 bel lt1) (trodAll_cons_mk (Below.trod Qjv (by kernel_rfl) (of_decide_eq_true (by kernel_rfl)) k2 bel lt2) (trodAll_cons_mk (shut_int Try.underlying37 w3) trodAll_mk0)))), rfl, bel.frame _, fun h => by cases h⟩

theorem over : Rows.analyseMoresRow.holds Try.pinned (OpenSpec.ofChange Rows.analyseMoresSpec) :=
  OpenClaim.holds_of_wide 4 Try.f4 rfl rfl rfl rfl rfl rfl rfl ⟨rfl, rfl, rfl, rfl, rfl⟩ rfl rfl rfl rfl rfl (by kernel_rfl) Try.func4 (by kernel_rfl)
    (of_decide_eq_true (by kernel_rfl)) (by unfold Func.isWrapper; first | (rw [if_pos (by decide +kernel)]; kernel_rfl) | (rw [if_neg (by decide +kernel)]; exact ⟨rfl, rfl⟩))
    (fun os started H enc _ => lifted os started H enc)

/-- THE STATEMENT. -/
theorem proved : Rows.AnalyseMoresSaid := over
end Go.Proofs.Ytkgniegdefaieaa.analyseMores
namespace Go.Proofs.Ytkgniegdefaieaa
theorem analyseMores_proved : Rows.AnalyseMoresSaid := analyseMores.proved
end Go.Proofs.Ytkgniegdefaieaa
