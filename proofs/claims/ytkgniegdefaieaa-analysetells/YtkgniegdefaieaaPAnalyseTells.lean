/-
  Of any records Of tells the table that the document says of a log, and ErrForm where they are none. AnalyseTells returns true for every input, and its arguments read as before.
  Condition: none but those that the form of every such statement bears by itself (each string within the reach).
-/
import Derived.Test.YtkgniegdefaieaaRows
import Derived.ProofKit
import Derived.OpenShut
import Derived.ShutString
import Derived.SizedLaws
import Derived.JoinedCond
import Derived.Test.YtkgniegdefaieaaK12

set_option maxRecDepth 8000
set_option maxHeartbeats 25600000
namespace Go.Proofs.Ytkgniegdefaieaa.analyseTells
open Go.RowKit
set_option linter.unusedVariables false
theorem walk (v0 : Value) (ms : List (Rec × Value × Value)) (W : World) (ha : Qmi W v0 ms) (hb : ms.length <= maxLen) (hc : ∀ a len cap, v0 = .slice a len cap -> len <= cap) :
    Calls Try.prog 3 #[v0] W fun e w' => e = .returned (.bool true) /\ Below W.heap.size W w' := by
  obtain ⟨au, cu, rfl, _⟩ := id ha.1
  obtain ⟨q, hq⟩ : ∃ q : Bool, q = true ↔ Qln ms := by
    classical
    exact ⟨decide (Qln ms), decide_eq_true_iff⟩
  have HFW := Qb (fun x (hx : Below W.heap.size W x) => few16 x _ ms q hq (ha.below hx) hb); have HAW := Qb (fun x => Qcw x)
  cases q
  · clear ha hb hc hq; generalize ms.length = ln at *; go_enter Try.func3, Try.ntmps3; go_wp2_with fail; refine (HAW.out W).mono ?_; rintro e w1 ⟨rfl, hb1⟩; have H1 := Qb hb1; clear hb1; go_wp2_with fail; refine (HFW.out w1 H1.out).mono ?_; rintro e w2 ⟨rfl, rfl⟩; go_wp2_with fail; refine (HAW.out w2).mono ?_; rintro e w3 ⟨rfl, hb3⟩; have H3 := Qb (H1.out.trans (hb3.mono H1.out.size)); clear hb3 H1 HFW HAW; go_wp2; go_ret; exact ⟨rfl, H3.out⟩
  · have hP : Qln ms := hq.1 rfl; have hl1 := hP.1; have HOF := Qb (fun x (hx : Below W.heap.size W x) => of16 x _ ms ⟨ha.below hx, by omega, fun a l c e => hc a l c e⟩); have HRO := Qb (fun x (hx : Below W.heap.size W x) => rof16 x _ ms ⟨ha.below hx, by omega, fun a l c e => hc a l c e⟩ hl1)
    have hfit : ∀ r ∈ msR ms, r.fits := fun r hr => by
      obtain ⟨m, hm, rfl⟩ := List.mem_map.1 hr; exact (ha.2 m hm).1
    have hTF := Qkv hfit
    have hTO : TaOk (Qfv (msR ms)) 2000 := by
      have h := tabT_ok (msR ms); rw [Qka] at h; exact ⟨h.st, h.sd, by have := h.lt; omega, by have := h.ld; omega⟩
    obtain ⟨T, hT⟩ : ∃ T, T = Qfv (msR ms) := ⟨_, rfl⟩; obtain ⟨E, hE⟩ : ∃ E, E = Qow (msR ms) := ⟨_, rfl⟩; rw [<- hT] at hTF hTO; have HSM := Qb (fun va vb ua ub x (h1 : Qxb x va T.1) (h2 : Qxc x vb T.2) (h3 : Qxb x ua T.1) (h4 : Qxc x ub T.2) => Qvw T T va vb ua ub x true (show true = true ↔ T = T from ⟨fun _ => rfl, fun _ => rfl⟩) hTF hTF hTO hTO h1 h2 h3 h4); have HTE := Qb (And.intro hT hE); clear ha hb hc hq hP hl1 hfit hTF hTO hT hE; generalize ms.length = ln at *; go_enter Try.func3, Try.ntmps3; go_wp2_with fail; refine (HAW.out W).mono ?_; rintro e w1 ⟨rfl, hb1⟩; have H1 := Qb hb1; clear hb1 HAW; go_wp2_with fail; refine (HFW.out w1 H1.out).mono ?_; rintro e w2 ⟨rfl, rfl⟩; clear HFW; go_wp2_with fail; refine (HOF.out w2 H1.out).mono ?_; rintro e w3 hans; obtain ⟨v1, v2, rfl, h1, h2, hb3⟩ := hans.tab; rw [<- HTE.out.1] at h1 h2; rw [<- HTE.out.2]; have H3 := Qb (H1.out.trans (hb3.mono H1.out.size)); obtain ⟨a1, c1, rfl, _⟩ := id h1; obtain ⟨a2, c2, rfl, _⟩ := id h2; have HV := Qb (And.intro h1 h2); clear hans h1 h2 hb3 H1 HOF; obtain ⟨l1, hl1⟩ : ∃ l, l = T.1.length := ⟨_, rfl⟩; obtain ⟨l2, hl2⟩ : ∃ l, l = T.2.length := ⟨_, rfl⟩; rw [<- hl1, <- hl2] at HV |-; have HLL := Qb (And.intro hl1 hl2); clear hl1 hl2; unfold taA; go_wp2_with (refine Ql rfl 28 (.tmp 3) (.tmp 18) rfl w3.heap.size 0 28 #[.slice none 0 0, .slice none 0 0] #[.slice a1 l1 c1, .slice a2 l2 c2] rfl rfl (Qa.new w3 _ _) Qde (Nat.le_refl 2) (by simp [Value.oneCell']) ?_; intro w4 hr4 ho4; refine Qpa ?_); rw [Qn #[.slice none 0 0, .slice none 0 0] #[.slice a1 l1 c1, .slice a2 l2 c2] rfl] at hr4; have hal3 : Below w3.heap.size w3 (w3.alloc (.cells #[.slice none 0 0, .slice none 0 0] 28)) := (Below.refl _ _).alloc (Nat.le_refl _) _; have hb4 := ho4.below hal3 (Nat.le_refl _); have H4 : Hid (Qa w4 w3.heap.size 28 #[.slice a1 l1 c1, .slice a2 l2 c2] /\ Qxb w4 (.slice a1 l1 c1) T.1 /\ Qxc w4 (.slice a2 l2 c2) T.2 /\ Below W.heap.size W w4) := ⟨hr4, HV.out.1.below hb4, HV.out.2.below hb4, H3.out.trans (hb4.mono H3.out.size)⟩; obtain ⟨g3, hg3⟩ : ∃ g, g = w3.heap.size := ⟨_, rfl⟩; rw [<- hg3] at H4 |-; clear hr4 ho4 hal3 hb4 hg3 H3 HV; refine Qg ?_; go_wp2_with fail; refine (HRO.out w4 H4.out.2.2.2).mono ?_; rintro e w5 hans; obtain ⟨u1, u2, rfl, h1, h2, hb5⟩ := hans.tab; rw [<- HTE.out.1] at h1 h2; rw [<- HTE.out.2]; have H5 : Hid (Qa w5 g3 28 #[.slice a1 l1 c1, .slice a2 l2 c2] /\ Qxb w5 (.slice a1 l1 c1) T.1 /\ Qxc w5 (.slice a2 l2 c2) T.2 /\ Below W.heap.size W w5) := ⟨H4.out.1.later hb5, H4.out.2.1.below hb5, H4.out.2.2.1.below hb5, H4.out.2.2.2.trans (hb5.mono H4.out.2.2.2.size)⟩
    obtain ⟨a3, c3, rfl, _⟩ := id h1; obtain ⟨a4, c4, rfl, _⟩ := id h2; rw [<- HLL.out.1] at h1 |-; rw [<- HLL.out.2] at h2 |-; have HV := Qb (And.intro h1 h2); clear hans h1 h2 hb5 H4 HRO; unfold taA; go_wp2_with (refine Ql rfl 32 (.tmp 5) (.tmp 23) rfl w5.heap.size 0 32 #[.slice none 0 0, .slice none 0 0] #[.slice a3 l1 c3, .slice a4 l2 c4] rfl rfl (Qa.new w5 _ _) Qda (Nat.le_refl 2) (by simp [Value.oneCell']) ?_; intro w6 hr6 ho6; refine Qpa ?_); rw [Qn #[.slice none 0 0, .slice none 0 0] #[.slice a3 l1 c3, .slice a4 l2 c4] rfl] at hr6; have hal5 : Below w5.heap.size w5 (w5.alloc (.cells #[.slice none 0 0, .slice none 0 0] 32)) := (Below.refl _ _).alloc (Nat.le_refl _) _; have hb6 := ho6.below hal5 (Nat.le_refl _)
    have H6 : Hid (Qa w6 g3 28 #[.slice a1 l1 c1, .slice a2 l2 c2] /\ Qa w6 w5.heap.size 32 #[.slice a3 l1 c3, .slice a4 l2 c4] /\ (Qxb w6 (.slice a1 l1 c1) T.1 /\ Qxc w6 (.slice a2 l2 c2) T.2 /\ Qxb w6 (.slice a3 l1 c3) T.1 /\ Qxc w6 (.slice a4 l2 c4) T.2) /\ Below W.heap.size W w6) :=
      ⟨H5.out.1.later hb6, hr6, ⟨H5.out.2.1.below hb6, H5.out.2.2.1.below hb6, HV.out.1.below hb6, HV.out.2.below hb6⟩, H5.out.2.2.2.trans (hb6.mono H5.out.2.2.2.size)⟩
    obtain ⟨g5, hg5⟩ : ∃ g, g = w5.heap.size := ⟨_, rfl⟩; rw [<- hg5] at H6 |-; clear hr6 ho6 hal5 hb6 hg5 H5 HV HTE; refine Qg ?_; go_wp2_with fail
    have HD : Hid (Qa w6.drew g3 28 #[.slice a1 l1 c1, .slice a2 l2 c2] /\ Qa w6.drew g5 32 #[.slice a3 l1 c3, .slice a4 l2 c4] /\ (Qxb w6.drew (.slice a1 l1 c1) T.1 /\ Qxc w6.drew (.slice a2 l2 c2) T.2 /\ Qxb w6.drew (.slice a3 l1 c3) T.1 /\ Qxc w6.drew (.slice a4 l2 c4) T.2) /\ Below W.heap.size W w6.drew) := by
      have hb : Below w6.heap.size w6 w6.drew := Qoc (Below.refl _ _) 1; exact ⟨H6.out.1.later hb, H6.out.2.1.later hb, ⟨H6.out.2.2.1.1.below hb, H6.out.2.2.1.2.1.below hb, H6.out.2.2.1.2.2.1.below hb, H6.out.2.2.1.2.2.2.below hb⟩, H6.out.2.2.2.trans (hb.mono H6.out.2.2.2.size)⟩
    refine wp_region_noPanic ?_; refine wp_region_held_drew (S := fun x => Qa x g3 28 #[.slice a1 l1 c1, .slice a2 l2 c2] /\ Qa x g5 32 #[.slice a3 l1 c3, .slice a4 l2 c4]) (by kernel_rfl) ⟨HD.out.1, HD.out.2.1⟩ (fun hHeld => ?_); generalize w6.drew = y1 at *; clear H6; refine tkq 0 (some 25) (.int .i64 E) hHeld ?_; (try simp only [Act.put, List.setIfInBounds_toArray, List.set]); refine tkq 1 (some 26) (.int .i64 E) hHeld ?_; (try simp only [Act.put, List.setIfInBounds_toArray, List.set]); refine tkq 2 (some 27) (.bool true) hHeld ?_; (try simp only [Act.put, List.setIfInBounds_toArray, List.set]); refine tkq 3 (some 28) (.bool true) hHeld ?_; (try simp only [Act.put, List.setIfInBounds_toArray, List.set]); refine Qr 4 (some 29) (.agg #[.slice a1 l1 c1, .slice a2 l2 c2]) rfl rfl (by kernel_rfl) (by kernel_rfl) (by kernel_rfl) (fun _ _ _ h => h) (Qv (by kernel_rfl) 28 _ rfl (.pointer (some ⟨g3, 0, none⟩)) rfl _ (fun x hSx => Qpc x hSx.1 Try.underlying28 rfl Qde)) hHeld ?_; (try simp only [Act.put, List.setIfInBounds_toArray, List.set]); refine Qr 6 (some 31) (.agg #[.slice a3 l1 c3, .slice a4 l2 c4]) rfl rfl (by kernel_rfl) (by kernel_rfl) (by kernel_rfl) (fun _ _ _ h => h) (Qv (by kernel_rfl) 32 _ rfl (.pointer (some ⟨g5, 0, none⟩)) rfl _ (fun x hSx => Qpc x hSx.2 Try.underlying32 rfl Qda)) hHeld ?_; (try simp only [Act.put, List.setIfInBounds_toArray, List.set]); refine Qm 5 (by kernel_rfl) ?_; refine Qwl (some 30) rfl rfl (by kernel_rfl) 14 #[.agg #[.slice a1 l1 c1, .slice a2 l2 c2]] ?he ((Quw y1 a1 a2 l1 l2 c1 c2).mono ?_); (case he => go_simp); rintro e w7 ⟨rfl, hb7⟩; have H7 : Hid ((Qxb w7 (.slice a1 l1 c1) T.1 /\ Qxc w7 (.slice a2 l2 c2) T.2 /\ Qxb w7 (.slice a3 l1 c3) T.1 /\ Qxc w7 (.slice a4 l2 c4) T.2) /\ Below W.heap.size W w7) := ⟨⟨HD.out.2.2.1.1.below hb7, HD.out.2.2.1.2.1.below hb7, HD.out.2.2.1.2.2.1.below hb7, HD.out.2.2.1.2.2.2.below hb7⟩, HD.out.2.2.2.trans (hb7.mono HD.out.2.2.2.size)⟩; have hHeld7 : Qa w7 g3 _ _ /\ Qa w7 g5 _ _ := And.intro (hHeld.1.later hb7) (hHeld.2.later hb7); clear hHeld HD hb7; refine ⟨_, rfl, hHeld7, ?_⟩; (try simp only [Act.put, List.setIfInBounds_toArray, List.set]); refine Qm 7 (by kernel_rfl) ?_; refine Qwl (some 32) rfl rfl (by kernel_rfl) 13 #[.agg #[.slice a1 l1 c1, .slice a2 l2 c2], .agg #[.slice a3 l1 c3, .slice a4 l2 c4]] ?he ((HSM.out _ _ _ _ w7 H7.out.1.1 H7.out.1.2.1 H7.out.1.2.2.1 H7.out.1.2.2.2).mono ?_)
    (case he => go_simp)
    rintro e w8 ⟨rfl, hb8⟩; have H8 := Qb (H7.out.2.trans (hb8.mono H7.out.2.size)); have hHeld8 : Qa w8 g3 _ _ /\ Qa w8 g5 _ _ := And.intro (hHeld7.1.later hb8) (hHeld7.2.later hb8); clear hHeld7 H7 hb8 HSM; refine ⟨_, rfl, hHeld8, ?_⟩; (try simp only [Act.put, List.setIfInBounds_toArray, List.set]); refine Qr 8 (some 33) (.bool true) rfl rfl (by kernel_rfl) (by kernel_rfl) (by kernel_rfl) (fun _ _ _ h => h) (Or.inl ⟨by kernel_rfl, fun x hSx => by go_simp⟩) hHeld8 ?_; (try simp only [Act.put, List.setIfInBounds_toArray, List.set]); refine Qr 9 (some 2) (.bool true) rfl rfl (by kernel_rfl) (by kernel_rfl) (by kernel_rfl) (fun _ _ _ h => h) (Or.inl ⟨by kernel_rfl, fun x hSx => by go_simp⟩) hHeld8 ?_; (try simp only [Act.put, List.setIfInBounds_toArray, List.set]); refine wpAnyH_done (by kernel_rfl) ?_ _; refine NoPanic.normal ?_; clear hHeld8; go_wp2; go_ret; exact ⟨rfl, H8.out⟩
end Go.Proofs.Ytkgniegdefaieaa.analyseTells
namespace Go.Proofs.Ytkgniegdefaieaa.analyseTells
open Go.ChangeShapes Go.WideShapes Go.ChangeAt Go.RowKit
open Go.ChangeMaps (open_string shut_string)
set_option linter.unusedVariables false

theorem Qjv : laidOutB Try.prog = true := by kernel_rfl
theorem own : ownKnob Try.prog.godebug = none := by kernel_rfl

set_option maxRecDepth 100000 in
theorem lifted (os : Os) (started : os.Started) (H : Type) (enc : TypeId × Value -> H) :
    ReturnsInHanded {} Try.checked os 3 .any (Rows.analyseTellsSpec.pre6 enc Try.prog Try.f3 Rows.analyseTellsRow.domain false) (Rows.analyseTellsSpec.post enc Try.prog Try.f3 false true false false) := by
  refine returnsInHanded_of_change_sized (C := Try.checked) own started (by kernel_rfl) Try.func3
    (ChangeSpec.witness6 (enc := enc) (C := Try.checked) false ⟨#[], #[.slice none 0 0], []⟩ 8 (by kernel_rfl) (by kernel_rfl) (by kernel_rfl) (by kernel_rfl)) ?_
  intro W base args ds gs before hval0 hW hcnd hsz0 _
  have hval : ∀ (j : Nat) t v, Try.f3.params[j]? = some t -> args[j]? = some v -> Value.okWide Try.prog W .any base t v := hval0
  have hsz : (DataW.weightsEach Try.prog (Try.f3.params.toList ++ Rows.analyseTellsSpec.plain.varTypes Try.prog) (ds ++ gs)).all (· <= reachBytes) = true := hsz0
  have hW' := hW
  obtain ⟨p, q, hA0, hV, rfl, hfz, hnd⟩ := hW
  have hA : DataW.TrodAll enc Try.prog W 0 (fun _ => true) true Try.f3.params.toList args.toList ds p := hA0
  rw [Try.params3] at hA hval hsz
  obtain ⟨v0, vs0, d0, ds0, p0, q0, hargs, rfl, rfl, h0, r0⟩ := trodAll_cons hA
  obtain ⟨rfl, rfl, rfl⟩ := trodAll_nil r0
  obtain rfl : args = #[v0] := by cases args; simp_all
  obtain ⟨rfl, rfl⟩ := trodVars_none hV
  have k0 := h0
  have lt0 := Qnq h0
  obtain ⟨m0, w0a, w0b, w0c⟩ := Qwp (hval 0 22 v0 rfl rfl) h0
  clear hA0 hval0 hsz0 hsz
  refine (walk v0 m0 W w0a w0b w0c).mono fun e W' ⟨he, bel⟩ => ?_
  subst he
  exact ⟨_, rfl, _, _, _, [], _, [], hW', trodAll_mk1 (shut_bool Try.underlying4 _), (trodAll_cons_mk (Below.trod Qjv (by kernel_rfl) (of_decide_eq_true (by kernel_rfl)) k0 bel lt0) trodAll_mk0), rfl, bel.frame _, fun h => by cases h⟩

theorem over : Rows.analyseTellsRow.holds Try.pinned (OpenSpec.ofChange Rows.analyseTellsSpec) :=
  OpenClaim.holds_of_wide 3 Try.f3 rfl rfl rfl rfl rfl rfl rfl ⟨rfl, rfl, rfl, rfl, rfl⟩ rfl rfl rfl rfl rfl (by kernel_rfl) Try.func3 (by kernel_rfl)
    (of_decide_eq_true (by kernel_rfl)) (by unfold Func.isWrapper; first | (rw [if_pos (by decide +kernel)]; kernel_rfl) | (rw [if_neg (by decide +kernel)]; exact ⟨rfl, rfl⟩))
    (fun os started H enc _ => lifted os started H enc)

/-- THE STATEMENT. -/
theorem proved : Rows.AnalyseTellsSaid := over
end Go.Proofs.Ytkgniegdefaieaa.analyseTells
namespace Go.Proofs.Ytkgniegdefaieaa
theorem analyseTells_proved : Rows.AnalyseTellsSaid := analyseTells.proved
end Go.Proofs.Ytkgniegdefaieaa
