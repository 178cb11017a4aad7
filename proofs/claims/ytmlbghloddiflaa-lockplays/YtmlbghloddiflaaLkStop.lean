/-
  The contract of Stop: somebody waits no more; who got in.
-/
import Derived.Test.YtmlbghloddiflaaLkWaits
import Derived.Laws.AppendOwnNone
namespace Go.Proofs.Ytmlbghloddiflaa
open Go.RowKit
set_option linter.unusedVariables false

/-- Numbers behind numbers. -/
theorem OwnI.join {B : Nat} {y : World} {v v2 : Value} {l l2 : List Int} (h : OwnI B y v l) (h2 : OwnI B y v2 l2) (hB : B ≤ y.heap.size) (hl : l.length + l2.length ≤ 100000000) (ty : TypeId) :
    ∃ v' y', (Builtin.append_ #[50, 50] ty #[v, v2]).run Try.prog y = .ok v' y' ∧ OwnI B y' v' (l ++ l2) ∧ Tn (fun k => v.ownBlock = some k) y y' := by
  obtain ⟨i, hi0, hi1⟩ := Option.map_eq_some_iff.1 infoI13
  simp only [Prod.mk.injEq] at hi1
  have ev : intsV (l ++ l2) = intsV l ++ intsV l2 := by simp [intsV]
  rcases h2.2 with ⟨rfl, h0⟩ | ⟨g2, cap2, cur2, rfl, hb2, hr2, hn2, hm2, hs2, ht2⟩
  · obtain rfl := List.eq_nil_of_length_eq_zero h0
    rw [List.append_nil]
    refine ⟨v, y, ?_, h, Tn.refl _ _⟩
    rcases h.2 with ⟨rfl, _⟩ | ⟨g', cap, cur, rfl, hb, hr, hn, _⟩
    · simp [Builtin.append_, run_underlying (P := Try.prog) Try.underlying50, sizeOf, typeInfo, hi0, Builtin.lenOf, Builtin.firstCells]
    · simp [Builtin.append_, run_underlying (P := Try.prog) Try.underlying50, sizeOf, typeInfo, hi0, Builtin.lenOf, Builtin.firstCells, hn, storeCells]
  · have hr2' : RowAt y g2 3 cur2 := hr2
    obtain ⟨v', y', r1, r2, r3, _⟩ := run_append_own (P := Try.prog) y B 50 ty 3 i (.int .i64 0) 1 8 Try.underlying50 hi0 hi1.1 hi1.2.1 hi1.2.2 rfl (by omega) v l.length (intsV l) h ⟨g2, 0, none⟩ l2.length cap2 (intsV l2) (by rw [intsV_len]; omega) (fun j u hu => by
      rw [Addr.add_lit, Nat.zero_add]
      refine hr2'.cell j u ?_
      rw [← ht2, List.getElem?_take] at hu
      split at hu
      · rwa [Array.getElem?_toList] at hu
      · cases hu) (fun u hu => by
      obtain ⟨n, _, rfl⟩ := List.mem_map.1 hu
      rfl) (by unfold maxLen; omega) (by omega) hB
    refine ⟨v', y', r1, ?_, Tn.of_grown r3 (fun k hk => hk)⟩
    unfold OwnI
    rw [ev, List.length_append]
    exact r2
/-- What each thing keeps to. -/
structure Pt.ok (p : Pt) (N : Nat) : Prop where
  srt : ∀ x, x < 288 → SortW (p.had x)
  len : ∀ x, x < 288 → (p.had x).length + (p.row x).length ≤ N
theorem let_keep : ∀ (l H : List Hd), SortW H → SortW (letS l H).1 ∧ (letS l H).1.length + (l.length - (letS l H).2.length) ≤ H.length + l.length
  | [], H, hs => ⟨hs, by simp [letS]⟩
  | h :: l, H, hs => by
    unfold letS
    by_cases hf : fitsS H h = true
    · rw [if_pos hf]
      have ih := let_keep l (putS h H) (sort_put hs)
      refine ⟨ih.1, ?_⟩
      have h1 := put_len h H
      have h2 := let_len l (putS h H)
      have h3 := ih.2
      show (letS l (putS h H)).1.length + ((h :: l).length - (h.w :: (letS l (putS h H)).2).length) ≤ _
      simp only [List.length_cons]
      omega
    · rw [if_neg hf]
      exact ⟨hs, by simp⟩
theorem had_of (p : Pt) (x y : Nat) (H R : List Hd) : ((p.setHad x H).setRow x R).had y = if y = x then H else p.had y := rfl
theorem row_of (p : Pt) (x y : Nat) (H R : List Hd) : ((p.setHad x H).setRow x R).row y = if y = x then R else p.row y := rfl
theorem Pt.ok.lets {p : Pt} {N : Nat} (h : p.ok N) {x : Nat} (hx : x < 288) : ((p.setHad x (letS (p.row x) (p.had x)).1).setRow x ((p.row x).drop (letS (p.row x) (p.had x)).2.length)).ok N := by
  have hk := let_keep (p.row x) (p.had x) (h.srt x hx)
  refine ⟨fun y hy => ?_, fun y hy => ?_⟩
  · rw [had_of]
    split
    · exact hk.1
    · exact h.srt y hy
  · rw [had_of, row_of]
    split
    · rw [List.length_drop]
      have h1 := h.len x hx
      have h2 := hk.2
      omega
    · exact h.len y hy
/-- Behind x things. -/
structure LookAt (M N : Nat) (p0 : Pt) (x : Nat) (q : Pt) (o : List Int) : Prop where
  one : (lookS M 0 p0).1 = (lookS (M - x) x q).1
  two : (lookS M 0 p0).2 = o ++ (lookS (M - x) x q).2
  ok : q.ok N
  len : o.length ≤ x * N
theorem LookAt.start {M N : Nat} {p : Pt} (h : p.ok N) : LookAt M N p 0 p [] := ⟨by rw [Nat.sub_zero], by rw [Nat.sub_zero, List.nil_append], h, Nat.zero_le _⟩
theorem LookAt.next {M N : Nat} {p0 q : Pt} {x : Nat} {o : List Int} (h : LookAt M N p0 x q o) (hx : x < M) (hx2 : x < 288) : LookAt M N p0 (x + 1) ((q.setHad x (letS (q.row x) (q.had x)).1).setRow x ((q.row x).drop (letS (q.row x) (q.had x)).2.length)) (o ++ (letS (q.row x) (q.had x)).2) := by
  have e : M - x = (M - (x + 1)) + 1 := by omega
  have h1 := h.one
  have h2 := h.two
  rw [e] at h1 h2
  refine ⟨h1, ?_, h.ok.lets hx2, ?_⟩
  · rw [h2, List.append_assoc]
    rfl
  · rw [List.length_append, Nat.add_mul]
    have h3 := h.len
    have h4 := let_len (q.row x) (q.had x)
    have h5 := h.ok.len x hx2
    omega
theorem LookAt.all {M N : Nat} {p0 q : Pt} {o : List Int} (h : LookAt M N p0 M q o) : (lookS M 0 p0).1 = q ∧ (lookS M 0 p0).2 = o := by
  have h1 := h.one
  have h2 := h.two
  rw [Nat.sub_self] at h1 h2
  exact ⟨h1, by rw [h2]; exact List.append_nil _⟩
/-- All of them. -/
def lookAll (p : Pt) : Pt × List Int := lookS 288 0 p
/-- What is behind a stop. -/
def Stopped (p : Pt) (who : Int) (p1 : Pt) : Prop := (p1 = p ∧ ∀ x h, x < 288 → h ∈ p.row x → h.w ≠ who) ∨ ∃ h x, x < 288 ∧ h ∈ p.row x ∧ h.w = who ∧ p1 = p.setRow x (awayL (p.row x) who)
def StopAns (w : World) (g : Nat) (p : Pt) (S : Nat → Sl) (who : Int) (e : Ending) (w' : World) : Prop :=
  ∃ v p1, Stopped p who p1 ∧ e = .returned v ∧ OwnI w.heap.size w' v (lookAll p1).2 ∧ Aft w g S (lookAll p1).1 w'
section
variable {w : World} {g : Nat} {p : Pt} {S : Nat → Sl}
set_option maxRecDepth 8000 in
set_option maxHeartbeats 6400000 in
theorem stop13 (h : TAt w g p S) {N : Nat} (hok : p.ok N) (hN : N ≤ 100000) (hfx : ∀ x q, x < 288 → q ∈ p.row x → q.fine ∧ q.x = (x : Int)) (hd : ∀ x, x < 288 → (p.row x).Pairwise fun a b => a.w ≠ b.w) (who : Int) :
    Calls Try.prog 29 #[.pointer (some ⟨g, 0, none⟩), .int .i64 who] w (StopAns w g p S who) := by
  have HOK := hide hok
  have HFX := hide hfx
  have HDI := hide hd
  have H := hide h
  have HS := hide (fun y => size13 ⟨g, 0, none⟩ y)
  have HW := hide (waits13 h (fun x hx => by have := hok.len x hx; omega) who)
  clear h hok hfx hd
  go_enter Try.func29, Try.ntmps29
  go_wp2_with fail
  refine HW.out.mono ?_
  rintro e w1 ⟨hb, hcase⟩
  rcases hcase with ⟨h, x, hx, hh, hw, rfl⟩ | ⟨hno, rfl⟩
  · have HH := hide (And.intro hx (And.intro hh (And.intro hw hb)))
    clear hh hw hb HW
    go_wp2_with (with_reducible refine stop_at 5 rfl ?_)
    refine unstop10 ?_
    refine lst_run (some 5) rfl rfl (.pointer (some ⟨w1.heap.size, 0, none⟩)) (w1.alloc (.cells zeroH 46)) (by go_simp; rfl) ?_
    simp only [Act.put, Array.setIfInBounds, List.size_toArray, List.length_cons, List.length_nil, Nat.reduceAdd, Nat.reduceLT, ↓reduceDIte, List.set_toArray, List.set_cons_succ, List.set_cons_zero]
    refine wpList_store_part rfl 46 (.tmp 5) (.tmp 13) rfl w1.heap.size 0 46 zeroH (hdA h) rfl rfl (RowAt.new w1 _ _) infoHs (by show 0 + 3 ≤ 3; omega) (hdA_one h) ?_
    intro w2 h21 h22
    rw [partA_all zeroH (hdA h) rfl] at h21
    simp only [Act.put]
    have b2 : Below w1.heap.size w1 w2 := h22.below ((Below.refl w1.heap.size w1).alloc (Nat.le_refl _) (.cells zeroH 46)) (Nat.le_refl _)
    have hb3 : Below w.heap.size w w2 := HH.out.2.2.2.trans (b2.mono HH.out.2.2.2.size)
    obtain ⟨i, hi⟩ := stands_of HH.out.2.1
    obtain ⟨gv, hgv⟩ : ∃ gv, gv = w1.heap.size := ⟨_, rfl⟩
    rw [← hgv] at h21 ⊢
    have hgv2 : ¬ FT g S gv := fun hk => by
      have h1 := H.out.lt hk
      have h2 := HH.out.2.2.2.size
      omega
    have hxx := (HFX.out x h hx HH.out.2.1).2
    have HV := hide (And.intro h21 (And.intro hb3 hgv2))
    have HLV := hide (leave13 (H.out.later hb3.drew) hx h i (HFX.out x h hx HH.out.2.1).1 (fun q hq => (HFX.out x q hx hq).1) hi.at' hi.first (by have := HOK.out.len x hx; omega))
    rw [← away_row (HDI.out x hx) i hi.at' HH.out.2.2.1] at HLV
    have HXX := hide hxx
    clear h21 h22 b2 hb3 hgv hgv2 hi hxx
    go_wp2_with fail
    refine wp_region_noPanic ?_
    refine wp_region_held_drew (S := fun y => RowAt y gv 46 (hdA h)) (by kernel_rfl) (HV.out.1) (fun hHeld => ?_)
    refine hand_take 0 (some 16) (.pointer (some ⟨g, 0, none⟩)) rfl rfl (by kernel_rfl) (by kernel_rfl) (by kernel_rfl) (fun _ _ _ h => h) (Or.inl ⟨by kernel_rfl, fun y hy => by go_simp⟩) hHeld ?_
    try simp only [Act.put, List.setIfInBounds_toArray, List.set_cons_zero, List.set_cons_succ]
    refine hand_take 1 (some 17) (.pointer (some ⟨gv, 1, none⟩)) rfl rfl (by kernel_rfl) (by kernel_rfl) (by kernel_rfl) (fun _ _ _ h => h) (Or.inl ⟨by kernel_rfl, fun y hy => by go_simp⟩) hHeld ?_
    try simp only [Act.put, List.setIfInBounds_toArray, List.set_cons_zero, List.set_cons_succ]
    refine hand_take 2 (some 18) (.int .i64 (x : Int)) rfl rfl (by kernel_rfl) (by kernel_rfl) (by kernel_rfl) (fun _ _ _ h => h) (Or.inl ⟨by kernel_rfl, fun y hy => by have h := (show y.cell? ⟨gv, 1, none⟩ = some (.int .i64 (x : Int)) from by have := hy.cell 1 (.int .i64 h.x) rfl; rw [HXX.out] at this; exact this); go_simp⟩) hHeld ?_
    try simp only [Act.put, List.setIfInBounds_toArray, List.set_cons_zero, List.set_cons_succ]
    refine hand_take 3 (some 19) (.pointer (some ⟨g, 0, none⟩)) rfl rfl (by kernel_rfl) (by kernel_rfl) (by kernel_rfl) (fun _ _ _ h => h) (Or.inl ⟨by kernel_rfl, fun y hy => by go_simp⟩) hHeld ?_
    try simp only [Act.put, List.setIfInBounds_toArray, List.set_cons_zero, List.set_cons_succ]
    refine hand_take 4 (some 20) (.pointer (some ⟨g, 0, none⟩)) rfl rfl (by kernel_rfl) (by kernel_rfl) (by kernel_rfl) (fun _ _ _ h => h) (Or.inl ⟨by kernel_rfl, fun y hy => by go_simp⟩) hHeld ?_
    try simp only [Act.put, List.setIfInBounds_toArray, List.set_cons_zero, List.set_cons_succ]
    have i1 : (x : Int) < 288 := by omega
    refine hand_take 5 (some 21) (.pointer (some ⟨g, x * 2, none⟩)) rfl rfl (by kernel_rfl) (by kernel_rfl) (by kernel_rfl) (fun _ _ _ h => h) (Or.inl ⟨by kernel_rfl, fun y hy => by go_simp⟩) hHeld ?_
    try simp only [Act.put, List.setIfInBounds_toArray, List.set_cons_zero, List.set_cons_succ]
    refine hand_take 6 (some 22) (.agg (hdA h)) rfl rfl (by kernel_rfl) (by kernel_rfl) (by kernel_rfl) (fun _ _ _ h => h) (yieldsIf_load_run (by kernel_rfl) 46 _ rfl (.pointer (some ⟨gv, 0, none⟩)) rfl _ (fun y hy => load_box hy)) hHeld ?_
    try simp only [Act.put, List.setIfInBounds_toArray, List.set_cons_zero, List.set_cons_succ]
    refine hand_one 7 (by kernel_rfl) ?_
    refine hand_call (some 23) rfl rfl rfl 50 #[.pointer (some ⟨g, x * 2, none⟩), .agg (hdA h)] ?he (HLV.out.mono ?_)
    (case he => go_simp)
    rintro e w3 ⟨⟨vv, rfl⟩, hA3⟩
    refine ⟨_, rfl, ?_⟩
    obtain ⟨S3, hT3, hTn3, _⟩ := id hA3
    refine ⟨hTn3.row HV.out.1 HV.out.2.2, ?_⟩
    try simp only [Act.put, List.setIfInBounds_toArray, List.set_cons_zero, List.set_cons_succ]
    refine wpAnyH_done (by kernel_rfl) ?_ _
    refine NoPanic.normal ?_
    have HP := hide (show ∃ p1, Stopped p who p1 ∧ p1.ok N ∧ Aft w g S p1 w3 from ⟨_, .inr ⟨h, x, hx, HH.out.2.1, HH.out.2.2.1, rfl⟩, ⟨HOK.out.srt, fun y hy => by
      have h1 := HOK.out.len y hy
      show (p.had y).length + (setF p.row x (awayL (p.row x) who) y).length ≤ N
      unfold setF
      split
      · rename_i e
        rw [← e]
        have h2 : (awayL (p.row y) who).length ≤ (p.row y).length := List.length_filter_le _ _
        omega
      · exact h1⟩, (Aft1.first HV.out.2.1.drew hA3).aft⟩)
    clear hA3 hT3 hTn3 hHeld HLV HV HH HXX
    revert HP
    generalize w3 = w1
    intro HP
    obtain ⟨p1, hp1, hp2, hp3⟩ := HP.out
    have HP1 := hide (And.intro hp1 (And.intro hp2 hp3))
    clear hp1 hp2 hp3 HP
    go_wp2_with fail
    refine (HS.out _).mono ?_
    rintro e w0 ⟨rfl, rfl⟩
    go_wp2
    go_loopw [7, 26] (fun v q wr => ∃ x : Nat, x ≤ 288 ∧ q = .int .i64 x ∧ Hid (∃ q o, LookAt 288 N p1 x q o ∧ Aft w g S q wr ∧ OwnI w.heap.size wr v o)) (fun _ q _ => 288 - (intOf q).toNat)
    case atStart => exact ⟨0, Nat.zero_le _, rfl, ⟨p1, [], LookAt.start HP1.out.2.1, HP1.out.2.2, OwnI.nil _ _⟩⟩
    case round =>
      obtain ⟨x, hx, rfl, HR⟩ := hrel
      by_cases hlt : x < 288
      · have i1 : (x : Int) < 288 := by omega
        obtain ⟨q, o, hLK, hA, hO⟩ := HR.out
        obtain ⟨S', hT', hTn, hF'⟩ := id hA
        have HLI := hide (letin13 hT' hlt (hLK.ok.srt x hlt) (by have := hLK.ok.len x hlt; omega))
        have HQ := hide (And.intro hLK (And.intro hA (And.intro hO (And.intro hT' (And.intro hTn hF')))))
        clear hLK hA hO hT' hTn hF' HR
        go_wp2_with fail
        refine HLI.out.mono ?_
        rintro e w4 ⟨v2, rfl, hO2, hA2⟩
        obtain ⟨S4, hT4, hTn4, hF4⟩ := id hA2
        have hO1 := HQ.out.2.2.1.tab (w := w) HQ.out.2.2.2.1 hTn4
        have hws : w.heap.size ≤ w4.heap.size := Nat.le_trans HQ.out.2.2.2.2.1.size hTn4.size
        have hlo : o.length + (letS (q.row x) (q.had x)).2.length ≤ 100000000 := by
          have h1 := HQ.out.1.len
          have h2 := let_len (q.row x) (q.had x)
          have h3 := HQ.out.1.ok.len x hlt
          have h4 : x * N ≤ 288 * 100000 := Nat.mul_le_mul (by omega) hN
          omega
        obtain ⟨v', w6, ha, hO6, hT6⟩ := hO1.join (hO2.weak HQ.out.2.2.2.2.1.size) hws hlo 50
        have hA4 : Aft w g S ((q.setHad x (letS (q.row x) (q.had x)).1).setRow x ((q.row x).drop (letS (q.row x) (q.had x)).2.length)) w4 := ⟨S4, hT4, HQ.out.2.2.2.2.1.trans hTn4 HQ.out.2.2.2.2.2, fun k hk => by
          rcases hF4 k hk with h | h
          · exact HQ.out.2.2.2.2.2 k h
          · exact .inr (Nat.le_trans HQ.out.2.2.2.2.1.size h)⟩
        have HR2 := hide (show ∃ q o, LookAt 288 N p1 (x + 1) q o ∧ Aft w g S q w6 ∧ OwnI w.heap.size w6 v' o from ⟨_, _, HQ.out.1.next hlt hlt, hA4.side hT6 (fun k hk => (hO1.block hk).1) hO1.apart, hO6⟩)
        clear hO2 hA2 hT4 hTn4 hF4 hO1 hws hlo hO6 hT6 hA4 HLI HQ
        go_wp2_with (at_builtin; refine Lib.wpList_append_run _ rfl _ _ _ _ rfl _ _ rfl rfl _ _ ha ?_)
        go_roundw
        case rel => exact ⟨x + 1, by omega, by go_num, HR2⟩
        case measure => simp [intOf]; omega
      · have i1 : ¬ (x : Int) < 288 := by omega
        have ex : x = 288 := by omega
        have HE := hide (show ∃ q o, LookAt 288 N p1 288 q o ∧ Aft w g S q wr ∧ OwnI w.heap.size wr u7 o from by have h := HR.out; rw [ex] at h; exact h)
        clear HR
        go_wp2
        go_ret
        obtain ⟨q, o, a1, a2, a3⟩ := HE.out
        obtain ⟨e1, e2⟩ := a1.all
        exact ⟨_, p1, HP1.out.1, rfl, by show OwnI _ _ _ (lookS 288 0 p1).2; rw [e2]; exact a3, by show Aft _ _ _ (lookS 288 0 p1).1 _; rw [e1]; exact a2⟩
  · have HP := hide (show ∃ p1, Stopped p who p1 ∧ p1.ok N ∧ Aft w g S p1 w1 from ⟨p, .inl ⟨rfl, hno⟩, HOK.out, Aft.same H.out hb⟩)
    clear hno HW
    go_wp2_with (with_reducible refine stop_at 5 rfl ?_)
    refine unstop10 ?_
    refine lst_run (some 5) rfl rfl (.pointer (some ⟨w1.heap.size, 0, none⟩)) (w1.alloc (.cells zeroH 46)) (by go_simp; rfl) ?_
    simp only [Act.put, Array.setIfInBounds, List.size_toArray, List.length_cons, List.length_nil, Nat.reduceAdd, Nat.reduceLT, ↓reduceDIte, List.set_toArray, List.set_cons_succ, List.set_cons_zero]
    refine wpList_store_part rfl 46 (.tmp 5) (.tmp 13) rfl w1.heap.size 0 46 zeroH zeroH rfl rfl (RowAt.new w1 _ _) infoHs (by show 0 + 3 ≤ 3; omega) (hdA_one hdZ) ?_
    intro w2 h21 h22
    simp only [Act.put]
    have b2 : Below w1.heap.size w1 w2 := h22.below ((Below.refl w1.heap.size w1).alloc (Nat.le_refl _) (.cells zeroH 46)) (Nat.le_refl _)
    have HP2 := hide (show ∃ p1, Stopped p who p1 ∧ p1.ok N ∧ Aft w g S p1 w2 from by
      obtain ⟨p1, a1, a2, a3⟩ := HP.out
      exact ⟨p1, a1, a2, a3.later b2⟩)
    clear h21 h22 HP
    revert HP2
    generalize hgv : w1.heap.size = gv
    clear hgv b2 hb
    generalize w2 = w1
    intro HP
    obtain ⟨p1, hp1, hp2, hp3⟩ := HP.out
    have HP1 := hide (And.intro hp1 (And.intro hp2 hp3))
    clear hp1 hp2 hp3 HP
    go_wp2_with fail
    refine (HS.out _).mono ?_
    rintro e w0 ⟨rfl, rfl⟩
    go_wp2
    go_loopw [7, 26] (fun v q wr => ∃ x : Nat, x ≤ 288 ∧ q = .int .i64 x ∧ Hid (∃ q o, LookAt 288 N p1 x q o ∧ Aft w g S q wr ∧ OwnI w.heap.size wr v o)) (fun _ q _ => 288 - (intOf q).toNat)
    case atStart => exact ⟨0, Nat.zero_le _, rfl, ⟨p1, [], LookAt.start HP1.out.2.1, HP1.out.2.2, OwnI.nil _ _⟩⟩
    case round =>
      obtain ⟨x, hx, rfl, HR⟩ := hrel
      by_cases hlt : x < 288
      · have i1 : (x : Int) < 288 := by omega
        obtain ⟨q, o, hLK, hA, hO⟩ := HR.out
        obtain ⟨S', hT', hTn, hF'⟩ := id hA
        have HLI := hide (letin13 hT' hlt (hLK.ok.srt x hlt) (by have := hLK.ok.len x hlt; omega))
        have HQ := hide (And.intro hLK (And.intro hA (And.intro hO (And.intro hT' (And.intro hTn hF')))))
        clear hLK hA hO hT' hTn hF' HR
        go_wp2_with fail
        refine HLI.out.mono ?_
        rintro e w4 ⟨v2, rfl, hO2, hA2⟩
        obtain ⟨S4, hT4, hTn4, hF4⟩ := id hA2
        have hO1 := HQ.out.2.2.1.tab (w := w) HQ.out.2.2.2.1 hTn4
        have hws : w.heap.size ≤ w4.heap.size := Nat.le_trans HQ.out.2.2.2.2.1.size hTn4.size
        have hlo : o.length + (letS (q.row x) (q.had x)).2.length ≤ 100000000 := by
          have h1 := HQ.out.1.len
          have h2 := let_len (q.row x) (q.had x)
          have h3 := HQ.out.1.ok.len x hlt
          have h4 : x * N ≤ 288 * 100000 := Nat.mul_le_mul (by omega) hN
          omega
        obtain ⟨v', w6, ha, hO6, hT6⟩ := hO1.join (hO2.weak HQ.out.2.2.2.2.1.size) hws hlo 50
        have hA4 : Aft w g S ((q.setHad x (letS (q.row x) (q.had x)).1).setRow x ((q.row x).drop (letS (q.row x) (q.had x)).2.length)) w4 := ⟨S4, hT4, HQ.out.2.2.2.2.1.trans hTn4 HQ.out.2.2.2.2.2, fun k hk => by
          rcases hF4 k hk with h | h
          · exact HQ.out.2.2.2.2.2 k h
          · exact .inr (Nat.le_trans HQ.out.2.2.2.2.1.size h)⟩
        have HR2 := hide (show ∃ q o, LookAt 288 N p1 (x + 1) q o ∧ Aft w g S q w6 ∧ OwnI w.heap.size w6 v' o from ⟨_, _, HQ.out.1.next hlt hlt, hA4.side hT6 (fun k hk => (hO1.block hk).1) hO1.apart, hO6⟩)
        clear hO2 hA2 hT4 hTn4 hF4 hO1 hws hlo hO6 hT6 hA4 HLI HQ
        go_wp2_with (at_builtin; refine Lib.wpList_append_run _ rfl _ _ _ _ rfl _ _ rfl rfl _ _ ha ?_)
        go_roundw
        case rel => exact ⟨x + 1, by omega, by go_num, HR2⟩
        case measure => simp [intOf]; omega
      · have i1 : ¬ (x : Int) < 288 := by omega
        have ex : x = 288 := by omega
        have HE := hide (show ∃ q o, LookAt 288 N p1 288 q o ∧ Aft w g S q wr ∧ OwnI w.heap.size wr u7 o from by have h := HR.out; rw [ex] at h; exact h)
        clear HR
        go_wp2
        go_ret
        obtain ⟨q, o, a1, a2, a3⟩ := HE.out
        obtain ⟨e1, e2⟩ := a1.all
        exact ⟨_, p1, HP1.out.1, rfl, by show OwnI _ _ _ (lookS 288 0 p1).2; rw [e2]; exact a3, by show Aft _ _ _ (lookS 288 0 p1).1 _; rw [e1]; exact a2⟩
end
end Go.Proofs.Ytmlbghloddiflaa
