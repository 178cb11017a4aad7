/-
  The contracts of the document's own calls on one page. (gen14/ref2.py)
-/
import Derived.Test.YtpbdachbefafiaaOwRef
namespace Go.Proofs.Ytpbdachbefafiaa
open Go.RowKit
set_option linter.unusedVariables false

section
variable {w : World} {g gr : Nat} {d : Dr}
set_option maxRecDepth 4000 in
set_option maxHeartbeats 800000 in
theorem rwhere14 (p : Int) (h : DD w g gr d) : Calls Try.prog 29 #[.pointer (some ⟨g, 0, none⟩), .int .i64 p] w fun e w' => e = .returned (.agg #[.int .i64 (d.wh p).k, .int .i64 (d.wh p).m]) ∧ Below w.heap.size w w' := by
  have hb : Below w.heap.size w (w.alloc (.cells spZ 64)) := (Below.refl _ _).alloc (Nat.le_refl _) _
  have h' := h.later hb
  have HF := hide (rok14 p h')
  have HN := hide (RowAt.new w 64 spZ)
  have HB := hide hb
  unfold Dr.wh
  cases e : d.ix p with
  | none =>
    rw [e] at HF
    clear h h' e hb
    have one : (#[Value.int .i64 0, .int .i64 0]).all (·.oneCell') = true := by simp [Value.oneCell']
    go_enter Try.func29, Try.ntmps29
    go_wp2_with fail
    refine HF.out.mono ?_
    rintro e w1 ⟨rfl, rfl⟩
    go_wp2_with (refine wpList_store_at rfl 64 (.tmp 4) (.tmp 9) rfl w.heap.size spZ #[.int .i64 0, .int .i64 0] rfl rfl HN.out infoP14s rfl one ?_)
    intro w2 hr2 hk2 _
    have HR2 := hide hr2
    have HB2 := hide (hk2 _ _ HB.out (Nat.le_refl _))
    clear hr2 hk2
    go_wp2
    exact bodyPost_ret (res_one rfl _ _ w.heap.size _ _ rfl HR2.out Try.underlying64 rfl infoP14s) rfl ⟨rfl, HB2.out⟩
  | some i =>
    rw [e] at HF
    obtain ⟨rfl, hi⟩ := Dr.ix_some e
    obtain ⟨d0, d1⟩ := h'.cell hi
    obtain ⟨cap, c0, hc, hc2⟩ := h'.head
    have h32 := h.few
    have i1 : (i : Int) < d.n := by omega
    simp only []
    generalize (d.sp i).k = k at *
    generalize (d.sp i).m = m at *
    have one : (#[Value.int .i64 k, .int .i64 m]).all (·.oneCell') = true := by simp [Value.oneCell']
    clear h h' e hb
    go_enter Try.func29, Try.ntmps29
    go_wp2_with fail
    refine HF.out.mono ?_
    rintro e w1 ⟨rfl, rfl⟩
    go_wp2_with (refine wpList_store_at rfl 64 (.tmp 4) (.tmp 16) rfl w.heap.size spZ #[.int .i64 k, .int .i64 m] rfl rfl HN.out infoP14s rfl one ?_)
    intro w2 hr2 hk2 _
    have HR2 := hide hr2
    have HB2 := hide (hk2 _ _ HB.out (Nat.le_refl _))
    clear hr2 hk2
    go_wp2
    exact bodyPost_ret (res_one rfl _ _ w.heap.size _ _ rfl HR2.out Try.underlying64 rfl infoP14s) rfl ⟨rfl, HB2.out⟩
set_option maxRecDepth 4000 in
set_option maxHeartbeats 1600000 in
theorem rturn14 (p : Int) (f t : Sp) (h : DD w g gr d) : Calls Try.prog 36 #[.pointer (some ⟨g, 0, none⟩), .int .i64 p, .agg #[.int .i64 f.k, .int .i64 f.m], .agg #[.int .i64 t.k, .int .i64 t.m]] w fun e w' => e = .returned (.int .i64 (d.tuE p f t)) ∧ DD w' g gr (d.tu p f t) ∧ Tn (Is gr) w w' := by
  obtain ⟨W, hW⟩ : ∃ W, W = (w.alloc (.cells #[.int .i64 f.k, .int .i64 f.m] 64)).alloc (.cells #[.int .i64 t.k, .int .i64 t.m] 64) := ⟨_, rfl⟩
  have hb0 : Below w.heap.size w (w.alloc (.cells #[.int .i64 f.k, .int .i64 f.m] 64)) := (Below.refl _ _).alloc (Nat.le_refl _) _
  have hb : Below w.heap.size w W := by
    rw [hW]
    exact hb0.alloc hb0.size _
  have hN0 := RowAt.new w 64 #[.int .i64 f.k, .int .i64 f.m]
  have hN1 : RowAt W w.heap.size 64 #[.int .i64 f.k, .int .i64 f.m] := by rw [hW]; exact hN0.later ((Below.refl _ _).alloc (Nat.le_refl _) _)
  have hN2 : RowAt W (w.heap.size + 1) 64 #[.int .i64 t.k, .int .i64 t.m] := by
    have q := RowAt.new (w.alloc (.cells #[.int .i64 f.k, .int .i64 f.m] 64)) 64 #[.int .i64 t.k, .int .i64 t.m]
    rw [World.size_alloc] at q
    rw [hW]
    exact q
  have a0 := hN1.cell 0 _ rfl
  have a1 := hN1.cell 1 _ rfl
  have b0 := hN2.cell 0 _ rfl
  have b1 := hN2.cell 1 _ rfl
  have HT := hide (show Tn (Is gr) w W from Tn.of_below hb)
  have HL := hide h.lt.2
  have HH := hide (h.later hb)
  have HF := hide (rok14 p HH.out)
  have hne : ¬ gr = w.heap.size := fun e => by have := HL.out; omega
  have hne2 : ¬ gr = w.heap.size + 1 := fun e => by have := HL.out; omega
  clear h hb hb0 hN0 hN1 hN2
  unfold Dr.tuE Dr.tu
  subst hW
  cases e : d.ix p with
  | none =>
    rw [e] at HF
    clear e
    go_enter Try.func36, Try.ntmps36
    go_wp2_with fail
    refine HF.out.mono ?_
    rintro e w1 ⟨rfl, rfl⟩
    go_wp2
    go_ret
    exact ⟨rfl, HH.out, HT.out⟩
  | some i =>
    rw [e] at HF
    obtain ⟨rfl, hi⟩ := Dr.ix_some e
    have HI := hide hi
    obtain ⟨d0, d1⟩ := HH.out.cell hi
    obtain ⟨cap, c0, hc, hc2⟩ := HH.out.head
    have h32 := HH.out.few
    have i1 : (i : Int) < d.n := by omega
    have f0 := HH.out.free (i * 2)
    have f1 := HH.out.free (i * 2 + 1)
    clear e
    simp only []
    have hnf := fun w => rnode14 (w := w) f.m
    have hnt := fun w => rnode14 (w := w) t.m
    by_cases hm : isNd f.m = true
    · rw [if_pos hm, if_pos hm]
      rw [hm] at hnf
      have HNF := hide hnf
      clear hm hnf
      by_cases hm : isNd t.m = true
      · rw [if_pos hm, if_pos hm]
        rw [hm] at hnt
        have HNT := hide hnt
        clear hm hnt
        by_cases hs : d.is i f.k f.m
        · rw [if_pos hs, if_pos hs]
          obtain ⟨s1, s2⟩ := hs
          rw [s1] at d0
          rw [s2] at d1
          clear s1 s2
          go_enter Try.func36, Try.ntmps36
          go_wp2_with fail
          refine HF.out.mono ?_
          rintro e w1 ⟨rfl, rfl⟩
          go_wp2_with fail
          refine (HNF.out _).mono ?_
          rintro e w1 ⟨rfl, rfl⟩
          go_wp2_with fail
          refine (HNT.out _).mono ?_
          rintro e w1 ⟨rfl, rfl⟩
          go_wp2_with fail
          go_quiet (fail)
          go_wp2_with fail
          go_region
          go_wp2
          go_ret
          exact ⟨rfl, (HH.out.drewN _).two HI.out t, ((HT.out.later (below_dn (Below.refl _ _) _)).set gr _ _ rfl).set gr _ _ rfl⟩
        · rw [if_neg hs, if_neg hs]
          by_cases s1 : (d.sp i).k = f.k
          · have s3 : ((d.sp i).m == f.m) = false := by
              rw [beq_eq_false_iff_ne]
              exact fun e => hs ⟨s1, e⟩
            rw [s1] at d0
            clear s1 hs
            generalize (d.sp i).m = m' at *
            go_enter Try.func36, Try.ntmps36
            go_wp2_with fail
            refine HF.out.mono ?_
            rintro e w1 ⟨rfl, rfl⟩
            go_wp2_with fail
            refine (HNF.out _).mono ?_
            rintro e w1 ⟨rfl, rfl⟩
            go_wp2_with fail
            refine (HNT.out _).mono ?_
            rintro e w1 ⟨rfl, rfl⟩
            go_wp2_with fail
            go_quiet (fail)
            go_wp2
            go_ret
            exact ⟨rfl, HH.out.drewN _, HT.out.later (below_dn (Below.refl _ _) _)⟩
          · have s3 : ((d.sp i).k == f.k) = false := by rw [beq_eq_false_iff_ne]; exact s1
            clear hs
            generalize (d.sp i).m = m' at *
            generalize (d.sp i).k = k' at *
            go_enter Try.func36, Try.ntmps36
            go_wp2_with fail
            refine HF.out.mono ?_
            rintro e w1 ⟨rfl, rfl⟩
            go_wp2_with fail
            refine (HNF.out _).mono ?_
            rintro e w1 ⟨rfl, rfl⟩
            go_wp2_with fail
            refine (HNT.out _).mono ?_
            rintro e w1 ⟨rfl, rfl⟩
            go_wp2_with fail
            go_quiet (fail)
            go_wp2
            go_ret
            exact ⟨rfl, HH.out.drewN _, HT.out.later (below_dn (Below.refl _ _) _)⟩
      · rw [if_neg hm, if_neg hm]
        rw [show isNd t.m = false by simpa using hm] at hnt
        have HNT := hide hnt
        clear hm hnt
        go_enter Try.func36, Try.ntmps36
        go_wp2_with fail
        refine HF.out.mono ?_
        rintro e w1 ⟨rfl, rfl⟩
        go_wp2_with fail
        refine (HNF.out _).mono ?_
        rintro e w1 ⟨rfl, rfl⟩
        go_wp2_with fail
        refine (HNT.out _).mono ?_
        rintro e w1 ⟨rfl, rfl⟩
        go_wp2
        go_ret
        exact ⟨rfl, HH.out, HT.out⟩
    · rw [if_neg hm, if_neg hm]
      rw [show isNd f.m = false by simpa using hm] at hnf
      have HNF := hide hnf
      clear hm hnf
      go_enter Try.func36, Try.ntmps36
      go_wp2_with fail
      refine HF.out.mono ?_
      rintro e w1 ⟨rfl, rfl⟩
      go_wp2_with fail
      refine (HNF.out _).mono ?_
      rintro e w1 ⟨rfl, rfl⟩
      go_wp2
      go_ret
      exact ⟨rfl, HH.out, HT.out⟩
set_option maxRecDepth 4000 in
set_option maxHeartbeats 400000 in
theorem rland14 (p m : Int) (h : DD w g gr d) : Calls Try.prog 23 #[.pointer (some ⟨g, 0, none⟩), .int .i64 p, .int .i64 m] w fun e w' => e = .returned (.int .i64 (d.laE p m)) ∧ DD w' g gr (d.la p m) ∧ Tn (Is gr) w w' := by
  have hq := rturn14 p ⟨2, m⟩ ⟨1, m⟩ h
  rw [(d.tu_la p m).1, (d.tu_la p m).2] at hq
  have HM := hide hq
  clear h hq
  generalize d.laE p m = E at *
  generalize d.la p m = D at *
  go_enter Try.func23, Try.ntmps23
  go_wp2_with fail
  refine HM.out.mono ?_
  rintro e w1 ⟨rfl, h1⟩
  have H1 := hide h1
  clear h1
  go_wp2
  go_ret
  exact ⟨rfl, H1.out⟩
set_option maxRecDepth 4000 in
set_option maxHeartbeats 400000 in
theorem rleave14 (p m : Int) (h : DD w g gr d) : Calls Try.prog 24 #[.pointer (some ⟨g, 0, none⟩), .int .i64 p, .int .i64 m] w fun e w' => e = .returned (.int .i64 (d.leE p m)) ∧ DD w' g gr (d.le p m) ∧ Tn (Is gr) w w' := by
  have hq := rturn14 p ⟨1, m⟩ Sp.home h
  rw [(d.tu_le p m).1, (d.tu_le p m).2] at hq
  have HM := hide hq
  clear h hq
  generalize d.leE p m = E at *
  generalize d.le p m = D at *
  go_enter Try.func24, Try.ntmps24
  go_wp2_with fail
  refine HM.out.mono ?_
  rintro e w1 ⟨rfl, h1⟩
  have H1 := hide h1
  clear h1
  go_wp2
  go_ret
  exact ⟨rfl, H1.out⟩
set_option maxRecDepth 4000 in
set_option maxHeartbeats 400000 in
theorem rship14 (p a b : Int) (h : DD w g gr d) : Calls Try.prog 22 #[.pointer (some ⟨g, 0, none⟩), .int .i64 p, .int .i64 a, .int .i64 b] w fun e w' => e = .returned (.int .i64 (d.shE p a b)) ∧ DD w' g gr (d.sh p a b) ∧ Tn (Is gr) w w' := by
  by_cases hab : a = b
  · have HH := hide h
    have q : d.shE p a b = 1 ∧ d.sh p a b = d := by
      unfold Dr.shE Dr.sh
      rw [if_pos hab, if_pos hab, ite_self, ite_self]
      exact ⟨rfl, rfl⟩
    rw [q.1, q.2]
    have e1 : (a == b) = true := by simpa using hab
    clear hab q h
    go_enter Try.func22, Try.ntmps22
    go_wp2
    go_ret
    exact ⟨rfl, HH.out, Tn.refl _ _⟩
  · have hq := rturn14 p ⟨1, a⟩ ⟨2, b⟩ h
    rw [(d.tu_sh p a b hab).1, (d.tu_sh p a b hab).2] at hq
    have HM := hide hq
    have e1 : (a == b) = false := by simpa using hab
    clear h hq hab
    generalize d.shE p a b = E at *
    generalize d.sh p a b = D at *
    go_enter Try.func22, Try.ntmps22
    go_wp2_with fail
    refine HM.out.mono ?_
    rintro e w1 ⟨rfl, h1⟩
    have H1 := hide h1
    clear h1
    go_wp2
    go_ret
    exact ⟨rfl, H1.out⟩
set_option maxRecDepth 4000 in
set_option maxHeartbeats 1600000 in
theorem rheal14 (hd : d.ok) (p : Int) (h : DD w g gr d) : Calls Try.prog 27 #[.pointer (some ⟨g, 0, none⟩), .int .i64 p] w fun e w' => e = .returned (.int .i64 (d.heE p)) ∧ DD w' g gr (d.he p) ∧ Tn (Is gr) w w' := by
  have HWH := hide (rwhere14 p h)
  have HH := hide h
  have HO := hide hd
  clear h hd
  obtain ⟨E, hE⟩ : ∃ E, d.heE p = E := ⟨_, rfl⟩
  obtain ⟨D, hD⟩ : ∃ D, d.he p = D := ⟨_, rfl⟩
  rw [hE, hD]
  have HED := hide (And.intro hE hD)
  clear hE hD
  generalize hs : d.wh p = s at *
  have HS := hide hs
  clear hs
  go_enter Try.func27, Try.ntmps27
  go_wp2_with fail
  refine HWH.out.mono ?_
  rintro e w1 ⟨rfl, hb⟩
  obtain ⟨W, hW⟩ : ∃ W, W = w1.alloc (.cells #[.int .i64 s.k, .int .i64 s.m] 64) := ⟨_, rfl⟩
  have hbW : Below w1.heap.size w1 W := by rw [hW]; exact (Below.refl _ _).alloc (Nat.le_refl _) _
  have hN : RowAt W w1.heap.size 64 #[.int .i64 s.k, .int .i64 s.m] := by rw [hW]; exact RowAt.new w1 _ _
  have HB := hide (hb.trans (hbW.mono hb.size))
  have HD := hide (HH.out.later HB.out)
  have a0 := hN.cell 0 _ rfl
  have a1 := hN.cell 1 _ rfl
  have HF := hide (rok14 p HD.out)
  clear hb hbW hN
  subst hW
  by_cases hx : (d.ix p).isSome = true ∧ ¬ s.k = 3
  · have q := d.he_no p hx.1 (by rw [HS.out]; exact hx.2)
    have HQ := hide (show E = 13 ∧ D = d from ⟨HED.out.1.symm.trans q.1, HED.out.2.symm.trans q.2⟩)
    rw [hx.1] at HF
    have e1 : (s.k == 3) = false := by rw [beq_eq_false_iff_ne]; exact hx.2
    have e2 : (s.k != 3) = true := by simpa using hx.2
    clear hx q
    go_wp2_with fail
    refine HF.out.mono ?_
    rintro e w2 ⟨rfl, rfl⟩
    go_wp2
    go_ret
    rw [HQ.out.1, HQ.out.2]
    exact ⟨rfl, HD.out, Tn.of_below HB.out⟩
  · have q := d.tu_he HO.out p (by rw [HS.out]; exact hx)
    have hq := rturn14 p s Sp.home HD.out
    rw [HS.out] at q
    rw [q.1, q.2, HED.out.1, HED.out.2] at hq
    have HM := hide hq
    clear hq q
    cases ho : (d.ix p).isSome with
    | true =>
      have e1 : s.k = 3 := Classical.byContradiction fun q => hx ⟨ho, q⟩
      have e2 : (s.k != 3) = false := by simp [e1]
      rw [ho] at HF
      rw [e1] at a0
      clear hx ho e1
      go_wp2_with fail
      refine HF.out.mono ?_
      rintro e w2 ⟨rfl, rfl⟩
      go_wp2_with fail
      refine HM.out.mono ?_
      rintro e w3 ⟨rfl, h1, h2⟩
      have H1 := hide (And.intro h1 ((Tn.of_below HB.out).then h2))
      clear h1 h2
      go_wp2
      go_ret
      exact ⟨rfl, H1.out⟩
    | false =>
      rw [ho] at HF
      clear hx ho
      go_wp2_with fail
      refine HF.out.mono ?_
      rintro e w2 ⟨rfl, rfl⟩
      go_wp2_with fail
      refine HM.out.mono ?_
      rintro e w3 ⟨rfl, h1, h2⟩
      have H1 := hide (And.intro h1 ((Tn.of_below HB.out).then h2))
      clear h1 h2
      go_wp2
      go_ret
      exact ⟨rfl, H1.out⟩
end
end Go.Proofs.Ytpbdachbefafiaa
