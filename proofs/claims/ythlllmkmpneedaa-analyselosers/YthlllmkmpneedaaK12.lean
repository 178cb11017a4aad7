/-
  Texts that lean on one another, one behind the other: each opens with its own remark.
-/
import Derived.Test.YthlllmkmpneedaaRows
import Derived.Test.YthlllmkmpneedaaK11
import Derived.Test.YthlllmkmpneedaaK03
import Derived.Test.YthlllmkmpneedaaK02

namespace Go.Proofs.Ythlllmkmpneedaa
open Go.RowKit
set_option linter.unusedVariables false
set_option maxRecDepth 8000
set_option maxHeartbeats 25600000
def losB (x : Tx) : Bool := decide (x.s ≠ 3)
def Qsl (l : List Tx) : List Tx := l.filter losB
theorem losL_succ {l : List Tx} {j : Nat} (hj : j < l.length) : Qsl (l.take (j + 1)) = Qsl (l.take j) ++ (if losB (l.getD j Tx.zero) = true then [l.getD j Tx.zero] else []) := by
  unfold Qsl; rw [List.take_succ_eq_append_getElem hj, List.filter_append, List.getD_eq_getElem?_getD, List.getElem?_eq_getElem hj]; show _ ++ List.filter _ [l[j]] = _ ++ (if losB (l[j]) = true then [l[j]] else [])
  by_cases h : losB (l[j]) = true
  · rw [if_pos h]; simp [h]
  · rw [if_neg h]; simp [h]
theorem losers16 (w : World) (vT vD : Value) (T : List Tx) (D : List Di) (hT : Qqd w vT T) (hD : Qcf w vD D) (h1 : T.length <= 900) :
    Calls Try.prog 17 #[.agg (taA vT vD)] w fun e w' => ∃ v', e = .returned v' /\ OwT w' w.heap.size v' (Qsl T) /\ Below w.heap.size w w' := by
  obtain ⟨a1, c1, rfl, _⟩ := id hT; obtain ⟨a2, c2, rfl, _⟩ := id hD; have HI := Qc hT; obtain ⟨n1, hn1⟩ : ∃ n, n = T.length := ⟨_, rfl⟩; obtain ⟨n2, hn2⟩ : ∃ n, n = D.length := ⟨_, rfl⟩; have HNN := Qc hn1; rw [<- hn1] at HI h1 |-; rw [<- hn2]; obtain ⟨y, hy⟩ : ∃ y, y = w.alloc (.cells (taA (.slice a1 n1 c1) (.slice a2 n2 c2)) 28) := ⟨_, rfl⟩; have m2 : Below w.heap.size w y := by rw [hy]; exact (Below.refl _ _).alloc (Nat.le_refl _) _
  have m1 : Qb y w.heap.size 28 (taA (.slice a1 n1 c1) (.slice a2 n2 c2)) := by rw [hy]; exact Qb.new w _ _
  obtain ⟨b1, hb1⟩ : ∃ b, b = w.heap.size := ⟨_, rfl⟩; rw [<- hb1] at m1; have HY := Qc hy; have HB := Qc hb1; obtain ⟨B, hB⟩ : ∃ B, B = w.heap.size := ⟨_, rfl⟩; have HBB := Qc hB; have H0 : Hid (OwT y B (.slice none 0 0) (Qsl (T.take 0)) /\ Below w.heap.size w y) := ⟨World.ownsRow_nil _ _ _ _, m2⟩; have q1 := m1.cell 0 (.slice a1 n1 c1) rfl; clear hT hD hn1 hn2 hy m1 m2 hb1 hB; go_enter Try.func17, Try.ntmps17; go_wp2_with (with_reducible refine Qw 7 rfl ?_); rw [<- HY.out, <- HB.out]; refine Qf ?_; clear HY; go_wp2; clear q1; go_loopw [3, 9] (fun vo i wr => ∃ j : Nat, j <= n1 /\ i = .int .i64 (j : Int) /\ Hid (OwT wr B vo (Qsl (T.take j)) /\ Below w.heap.size w wr)) (fun _ i _ => n1 - (intOf i).toNat)
  case atStart => exact ⟨0, Nat.zero_le _, rfl, H0⟩
  case round =>
    obtain ⟨j, hj, rfl, HJ⟩ := hrel; clear H0; obtain ⟨ao, co, hvo, _, _⟩ := Qlf HJ.out.1; subst hvo
    by_cases hlt : j < n1
    · have i5 : (j : Int) < (n1 : Int) := by omega
      have hjT : j < T.length := by rw [<- HNN.out]; exact hlt
      have HNX := Qc (losL_succ hjT)
      have hO : (Qsl (T.take j)).length <= 1000 := by
        have h1 : (Qsl (T.take j)).length <= (T.take j).length := List.length_filter_le _ _; rw [List.length_take] at h1; omega
      obtain ⟨b, off, c, hv, _, hrx⟩ := HI.out.mid hjT; injection hv with p1 p2 p3; have HLD0 := Qc (Qnf wr b _ (T.getD j Tx.zero) (hrx wr HJ.out.2)); obtain ⟨O, hOO⟩ : ∃ O, O = Qsl (T.take j) := ⟨_, rfl⟩; obtain ⟨y, hyy⟩ : ∃ y, y = T.getD j Tx.zero := ⟨_, rfl⟩; rw [<- hOO] at HJ HNX hO |-; rw [<- hyy] at HLD0 HNX; have HLD : Hid ((Instr.loadAt 42 (.pointer (some ⟨b, off + j * 5, none⟩))).run Try.prog wr = .ok (.agg #[.int .i64 y.t, .int .i64 y.s, .int .u64 (y.f : Int), .int .u64 (y.l : Int), .int .u64 (y.n : Int)]) wr) := HLD0.out; clear hjT hrx p2 p3 hyy HLD0 hOO; subst p1; go_wp2_with (first | (refine Qo rfl 42 (.tmp 11) rfl _ (.agg #[.int .i64 y.t, .int .i64 y.s, .int .u64 (y.f : Int), .int .u64 (y.l : Int), .int .u64 (y.n : Int)]) rfl HLD.out ?_) | (refine Qm rfl 42 (.tmp 5) (.tmp 12) rfl wr.heap.size 0 42 (txA Tx.zero) #[.int .i64 y.t, .int .i64 y.s, .int .u64 (y.f : Int), .int .u64 (y.l : Int), .int .u64 (y.n : Int)] rfl rfl (Qb.new wr _ _) Qkc (Nat.le_refl 5) (by simp [Value.oneCell']) ?_; intro w5 hr5 ho5; refine Qz ?_)); rw [Qu (txA Tx.zero) #[.int .i64 y.t, .int .i64 y.s, .int .u64 (y.f : Int), .int .u64 (y.l : Int), .int .u64 (y.n : Int)] rfl] at hr5; have hal : Below wr.heap.size wr (wr.alloc (.cells (txA Tx.zero) 42)) := (Below.refl _ _).alloc (Nat.le_refl _) _; have hb5 := ho5.below hal (Nat.le_refl _); have H5 : Hid (Qb w5 wr.heap.size 42 #[.int .i64 y.t, .int .i64 y.s, .int .u64 (y.f : Int), .int .u64 (y.l : Int), .int .u64 (y.n : Int)] /\ OwT w5 B (.slice ao O.length co) O /\ Below w.heap.size w w5) := ⟨hr5, Qdb HJ.out.1 hb5, HJ.out.2.trans (hb5.mono HJ.out.2.size)⟩; obtain ⟨g, hg⟩ : ∃ g, g = wr.heap.size := ⟨_, rfl⟩; rw [<- hg] at H5 |-; clear hr5 ho5 hal hb5 hg HLD HJ; refine Qf ?_; have g1 : w5.cell? ⟨g, 1, none⟩ = some (.int .i64 y.s) := H5.out.1.cell 1 _ rfl
      by_cases hs : y.s = 3
      · have HN : Hid (Qsl (T.take (j + 1)) = O) := by
          show _ = _; rw [HNX.out, if_neg (by unfold losB; simp [hs]), List.append_nil]
        rw [hs] at g1; clear hs HNX; go_wp2; go_roundw
        case rel => exact ⟨j + 1, by omega, by go_num, by rw [HN.out]; exact H5.out.2⟩
        case measure => simp [intOf] <;> omega
      · have e1 : (y.s == 3) = false := by rw [beq_eq_false_iff_ne]; exact hs
        have e2 : (y.s != 3) = true := by rw [bne, e1]; rfl
        have HN : Hid (Qsl (T.take (j + 1)) = O ++ [y]) := by
          show _ = _; rw [HNX.out, if_pos (by unfold losB; simp [hs])]
        clear hs HNX; have hbB : B <= w5.heap.size := by rw [HBB.out]; exact H5.out.2.2.size
        go_wp2_with (first | (refine Qd rfl 42 (.tmp 5) rfl g rfl #[.int .i64 y.t, .int .i64 y.s, .int .u64 (y.f : Int), .int .u64 (y.l : Int), .int .u64 (y.n : Int)] H5.out.1 _ Try.underlying42 rfl Qkc ?_) | (refine Qea _ 25 42 5 40 (.agg #[.int .i64 0, .int .i64 0, .int .u64 0, .int .u64 0, .int .u64 0]) Try.underlying25 Qak rfl (by decide) (by decide) rfl (.tmp 16) (.tmp 18) rfl B (.slice ao O.length co) O.length (flT O) rfl (Qdb H5.out.2.1 ((Below.refl w5.heap.size w5).alloc (Nat.le_refl _) _)) w5.heap.size #[.int .i64 y.t, .int .i64 y.s, .int .u64 (y.f : Int), .int .u64 (y.l : Int), .int .u64 (y.n : Int)] rfl (Qb.new w5 42 #[.int .i64 y.t, .int .i64 y.s, .int .u64 (y.f : Int), .int .u64 (y.l : Int), .int .u64 (y.n : Int)]) rfl (by simp [Value.oneCell']) hO (Nat.le_trans hbB (by simp)) ?_; intro v' w7 ho7 hg7; refine Qz ?_))
        have H7 : Hid (OwT w7 B v' (Qsl (T.take (j + 1))) /\ Below w.heap.size w w7) := by
          rw [HN.out]; refine ⟨owT_push (x := y) ho7, ow_below (Qdb H5.out.2.1 ((Below.refl w5.heap.size w5).alloc (Nat.le_refl _) _)) (by rw [HBB.out]; exact Nat.le_refl _) (H5.out.2.2.trans (((Below.refl w5.heap.size w5).alloc (Nat.le_refl _) _).mono H5.out.2.2.size)) (by simp; have := H5.out.2.2.size; omega) hg7⟩
        clear ho7 hg7 H5 g1; refine Qf ?_; go_wp2; go_roundw
        case rel => exact ⟨j + 1, by omega, by go_num, H7⟩
        case measure => simp [intOf] <;> omega
    · have i5 : ¬ (j : Int) < (n1 : Int) := by omega
      have HE : Hid (OwT wr w.heap.size (.slice ao (Qsl (T.take j)).length co) (Qsl T) /\ Below w.heap.size w wr) := by
        have h := HJ.out; have e : T.take j = T := List.take_of_length_le (by rw [<- HNN.out]; omega); rw [e, HBB.out] at h; rw [e]; exact h
      clear HJ; go_wp2; go_ret; exact ⟨_, rfl, HE.out.1, HE.out.2⟩
section
def Hs.table (h : Hs) (n : Nat) : List Tx := (Qna ([], []) (h.lg n)).1
def Qjh (t : Tu) : Nat := if t.last ≠ 0 then 1 else 0
def Hs.opens (h : Hs) (n : Nat) : Nat := Qjh (h.tx (n * 3)) + Qjh (h.tx (n * 3 + 1)) + Qjh (h.tx (n * 3 + 2))
theorem Qfn : ∀ (l m : List Int), l.Nodup -> (∀ x ∈ l, x ∈ m) -> l.length <= m.length
  | [], _, _, _ => Nat.zero_le _
  | a :: l, m, h, hs => by
    have h1 := List.nodup_cons.1 h; have ha := hs a (by simp); have h2 := Qfn l (m.erase a) h1.2 fun x hx => (List.mem_erase_of_ne (fun q : x = a => h1.1 (by rw [<- q]; exact hx))).2 (hs x (List.mem_cons_of_mem _ hx))
    have h3 := List.length_erase_of_mem ha; have h4 := List.length_pos_of_mem ha; rw [List.length_cons]; omega
theorem Qhu : ∀ l : List Tx, Qmi l -> (l.map (·.t)).Nodup
  | [], _ => List.nodup_nil
  | x :: l, h => by
    rw [List.map_cons, List.nodup_cons]; refine ⟨fun hm => ?_, Qhu l (Qvc h)⟩; obtain ⟨y, hy, e⟩ := List.mem_map.1 hm; have := Qkd h y hy; omega
section
variable {h : Hs} {N n : Nat}
theorem Hs.table_srt (h : Hs) (n : Nat) : Qmi (h.table n) := Qao _
theorem Hs.ok.table_in (ok : h.ok N) (hn : n < 3) (t : Int) : inT (h.table n) t = Qjn (h.lg n) t := inT_takes _ (fun r hr => (ok.recs n hn r hr).1) t
theorem Hs.ok.row_is (ok : h.ok N) (R : RowsOk h) (hn : n < 3) {x : Tx} {t : Int} (ht : 1 <= t) (hx : Qjn (h.lg n) t = some x) : ∃ i, i < 9 /\ i / 3 = n /\ (h.tx i).nr = t /\ (h.tx i).last ≠ 0 /\ x = ⟨t, (h.tx i).st, Qva (h.lg n) t, (h.tx i).last, (h.tx i).next⟩ := by
  by_cases q : ∃ i, i < 9 /\ i / 3 = n /\ (h.tx i).nr = t
  · obtain ⟨i, hi, e, e2⟩ := q; subst e; subst e2; have h0 : (h.tx i).nr ≠ 0 := by omega
    refine ⟨i, hi, rfl, rfl, ?_⟩
    by_cases l0 : (h.tx i).last = 0
    · rw [(R.new i hi h0 l0).2] at hx; exact absurd hx (by simp)
    · rw [R.row i hi h0 l0] at hx; injection hx with hx; exact ⟨l0, hx.symm⟩
  · rw [R.none n hn t ht (fun i hi e e2 => q ⟨i, hi, e, e2⟩)] at hx; exact absurd hx (by simp)
theorem withT_pos (r : Rec) (hr : 1 <= r.t) : ∀ l : List Tx, (∀ x ∈ l, 1 <= x.t) -> ∀ x ∈ Qzb l r, 1 <= x.t := fun l hl x hx => by
  rcases Qym l r x hx with h1 | h1
  · exact hl x h1
  · omega
theorem takes_pos (l : List Rec) (h : ∀ r ∈ l, 1 <= r.t) : ∀ x ∈ (Qna ([], []) l).1, 1 <= x.t := by
  induction l using Qab with
  | h0 => intro x hx; exact nomatch hx
  | h1 l r ih =>
    have ih := ih fun q hq => h q (List.mem_append_left _ hq)
    rw [Qpd]; unfold Ql
    split
    · exact ih
    · show ∀ x ∈ (if r.k = 5 then _ else _), _
      split
      · exact fun x hx => ih x (Qre _ _ _ hx)
      · exact withT_pos r (h r (by simp)) _ ih
theorem Hs.ok.table_row (ok : h.ok N) (R : RowsOk h) (hn : n < 3) {x : Tx} (hx : x ∈ h.table n) : ∃ i, i < 9 /\ i / 3 = n /\ (h.tx i).nr = x.t /\ (h.tx i).last ≠ 0 /\ x = ⟨x.t, (h.tx i).st, Qva (h.lg n) x.t, (h.tx i).last, (h.tx i).next⟩ := by
  have h1 := takes_pos (h.lg n) (fun r hr => (ok.recs n hn r hr).2.1) x hx; have h2 := inT_mem _ (h.table_srt n) x hx; rw [ok.table_in hn] at h2; exact ok.row_is R hn h1 h2
theorem Hs.ok.row_of (ok : h.ok N) (R : RowsOk h) {i : Nat} (hi : i < 9) (l0 : (h.tx i).last ≠ 0) : (⟨(h.tx i).nr, (h.tx i).st, Qva (h.lg (i / 3)) (h.tx i).nr, (h.tx i).last, (h.tx i).next⟩ : Tx) ∈ h.table (i / 3) := by
  have h0 : (h.tx i).nr ≠ 0 := fun q => l0 (by rw [(ok.txn i hi).zero q]; rfl)
  have h1 := R.row i hi h0 l0; rw [<- ok.table_in (by omega)] at h1; exact (inT_is h1).1
theorem Hs.ok.table_len (ok : h.ok N) (R : RowsOk h) (hn : n < 3) : (h.table n).length = h.opens n := by
  obtain ⟨S, hS⟩ : ∃ S, S = ([n * 3, n * 3 + 1, n * 3 + 2].filter (fun i => decide ((h.tx i).last ≠ 0))).map (fun i => (h.tx i).nr) := ⟨_, rfl⟩; have nz : ∀ i, i < 9 -> (h.tx i).last ≠ 0 -> (h.tx i).nr ≠ 0 := fun i hi l0 q => l0 (by rw [(ok.txn i hi).zero q]; rfl)
  have m : ∀ t, t ∈ S ↔ ∃ i, (i = n * 3 ∨ i = n * 3 + 1 ∨ i = n * 3 + 2) /\ (h.tx i).last ≠ 0 /\ (h.tx i).nr = t := fun t => by
    rw [hS, List.mem_map]
    constructor
    · rintro ⟨i, hi, e⟩; rw [List.mem_filter] at hi; exact ⟨i, by simpa using hi.1, by simpa using hi.2, e⟩
    · rintro ⟨i, hi, l0, e⟩; exact ⟨i, List.mem_filter.2 ⟨by simpa using hi, by simpa using l0⟩, e⟩
  have a1 : (h.table n).length <= S.length := by
    have := Qfn ((h.table n).map (·.t)) S (Qhu _ (h.table_srt n)) fun t ht => by
      obtain ⟨x, hx, e⟩ := List.mem_map.1 ht; obtain ⟨i, hi, e1, e2, l0, _⟩ := ok.table_row R hn hx; exact (m t).2 ⟨i, by omega, l0, by rw [e2]; exact e⟩
    rwa [List.length_map] at this
  have ap : ∀ a b, a < 9 -> b < 9 -> a / 3 = n -> b / 3 = n -> a ≠ b -> (h.tx a).last ≠ 0 -> (h.tx a).nr ≠ (h.tx b).nr := fun a b ha hb e1 e2 ne l0 => ok.apart a b ha hb (by omega) ne (nz a ha l0)
  have p01 := ap (n * 3) (n * 3 + 1) (by omega) (by omega) (by omega) (by omega) (by omega); have p02 := ap (n * 3) (n * 3 + 2) (by omega) (by omega) (by omega) (by omega) (by omega); have p12 := ap (n * 3 + 1) (n * 3 + 2) (by omega) (by omega) (by omega) (by omega) (by omega)
  have nd : S.Nodup /\ S.length = h.opens n := by
    rw [hS]; unfold Hs.opens Qjh; by_cases b0 : (h.tx (n * 3)).last = 0 <;> by_cases b1 : (h.tx (n * 3 + 1)).last = 0 <;> by_cases b2 : (h.tx (n * 3 + 2)).last = 0 <;> simp [b0, b1, b2] <;> simp_all
  have a2 : S.length <= (h.table n).length := by
    have := Qfn S ((h.table n).map (·.t)) nd.1 fun t ht => by
      obtain ⟨i, hi, l0, e⟩ := (m t).1 ht; have h3 : i / 3 = n := by omega
      have := ok.row_of R (i := i) (by omega) l0; rw [h3, e] at this; exact List.mem_map.2 ⟨_, this, rfl⟩
    rwa [List.length_map] at this
  rw [<- nd.2]; omega
theorem Quw : ∀ l : List Tx, Qmi l -> Qmi (Qsl l)
  | [], h => h
  | x :: l, h => by
    have hh := Qkd h; have ih := Quw l (Qvc h); unfold Qsl at ih |-; rw [List.filter_cons]
    split
    · exact Qzh (fun y hy => hh y (List.mem_filter.1 hy).1) ih
    · exact ih
theorem Qzq {l : List Tx} {x : Tx} : x ∈ Qsl l ↔ x ∈ l /\ x.s ≠ 3 := by
  unfold Qsl losB; rw [List.mem_filter]; simp
theorem Hs.ok.los_no (ok : h.ok N) (R : RowsOk h) (hn : n < 3) {t : Int} (hno : Qva (h.lg n) t = 0 ∨ Qze (h.lg n) t = true) : ∀ x ∈ Qsl (h.table n), x.t ≠ t := by
  intro x hx e; obtain ⟨hx, h3⟩ := Qzq.1 hx; obtain ⟨i, hi, e1, e2, l0, ex⟩ := ok.table_row R hn hx; rw [e] at e2; have h0 : (h.tx i).nr ≠ 0 := fun q => l0 (by rw [(ok.txn i hi).zero q]; rfl)
  subst e1
  rcases hno with q | q
  · rw [<- e2] at q; exact l0 ((ok.first_zero hi h0).1 q)
  · obtain ⟨r, hr, rt, rk⟩ := (Qks _ _).1 q; have hs : x.s = (h.tx i).st := by rw [ex]
    rcases rk with rk | rk
    · exact (ok.txn i hi).nocom h0 (by rw [<- hs]; exact h3) r hr (by rw [rt, e2]) rk
    · exact (ok.txn i hi).noend h0 r hr (by rw [rt, e2]) rk
theorem Hs.ok.los_yes (ok : h.ok N) (R : RowsOk h) (hn : n < 3) {t : Int} (h1 : Qva (h.lg n) t ≠ 0) (h2 : Qze (h.lg n) t = false) : ∃ x ∈ Qsl (h.table n), x.t = t /\ x.f = Qva (h.lg n) t /\ x.l = Qeg (h.lg n) t /\ x.n = Qcb (h.lg n) x.l := by
  have no : ∀ r ∈ h.lg n, r.t = t -> r.k ≠ 3 /\ r.k ≠ 5 := fun r hr rt => by
    have q : ¬ Qze (h.lg n) t = true := by rw [h2]; simp
    rw [Qks] at q; exact ⟨fun k => q ⟨r, hr, rt, .inl k⟩, fun k => q ⟨r, hr, rt, .inr k⟩⟩
  obtain ⟨r, hr, rt⟩ : ∃ r ∈ h.lg n, r.t = t := by
    by_cases q : ∃ r ∈ h.lg n, r.t = t
    · exact q
    · exact absurd ((Qzm (Qsq _ 0 (ok.rise n hn)) t).2 fun r hr rt => q ⟨r, hr, rt⟩) h1
  rcases ok.over n hn r hr with ⟨i, hi, e1, e2⟩ | ⟨e, he, et, ek⟩
  · rw [rt] at e2; subst e1; have rp := (ok.recs _ hn r hr).2.1; have h0 : (h.tx i).nr ≠ 0 := by omega
    have o := ok.txn i hi; have l0 : (h.tx i).last ≠ 0 := fun q => h1 (by rw [<- e2]; exact (ok.first_zero hi h0).2 q)
    have s3 : (h.tx i).st ≠ 3 := fun q => by
      obtain ⟨c, hc, ct, ck⟩ := o.com h0 q; exact (no c hc (by rw [ct, e2])).1 ck
    refine ⟨_, Qzq.2 ⟨ok.row_of R hi l0, s3⟩, e2, by rw [e2], ?_, o.next h0⟩; show (h.tx i).last = _; rw [o.last h0, e2]
  · exact absurd ek (no e he (by rw [et, rt])).2
theorem does_ct (h : Hs) (o : Ac) (n : Nat) : (h.does o).ct n <= h.ct n + 1 := by
  unfold Hs.does
  split
  · unfold Hs.change; obtain ⟨g, hg⟩ : ∃ g, g = h.begun (pick15 o.n 3) (pick15 o.n 3 * 3 + pick15 o.t 3) := ⟨_, rfl⟩
    have e : g.ct n <= h.ct n + 1 := by
      rw [hg]; unfold Hs.begun
      split
      · show upd h.ct _ _ n <= _
        by_cases q : n = pick15 o.n 3
        · rw [<- q, Qj]; exact Int.le_refl _
        · rw [Qq _ _ _ _ q]; omega
      · omega
    rw [<- hg]; unfold Hs.change1
    split
    · exact e
    · split
      · exact e
      · have b : (g.lockedUp (pick15 o.n 3) (pick15 o.n 3 * 3 + pick15 o.t 3) (pick15 o.pg 4) (pick15 o.sl 8)).ct = g.ct := by
          unfold Hs.lockedUp Hs.locked; split <;> rfl
        show (g.lockedUp (pick15 o.n 3) (pick15 o.n 3 * 3 + pick15 o.t 3) (pick15 o.pg 4) (pick15 o.sl 8)).ct n <= _; rw [b]; exact e
  · split
    · show h.ct n <= _; omega
    · split
      · omega
      · unfold Hs.does2
        split
        · show h.ct n <= _; omega
        · split
          · show h.ct n <= _; omega
          · split
            · show h.ct n <= _; omega
            · split
              · unfold Hs.back
                split
                · omega
                · show h.ct n <= _; omega
              · split
                · show h.ct n <= _; omega
                · omega
theorem play_ct (l : List Ac) (n : Nat) : (Hs.play l).ct n <= (l.length : Int) := by
  induction l using Qab with
  | h0 => exact Int.le_refl _
  | h1 l o ih =>
    rw [Hs.play_snoc, List.length_append, List.length_singleton]; have := does_ct (Hs.play l) o n; omega
theorem Hs.ok.los_le (ok : h.ok N) (R : RowsOk h) (hn : n < 3) {x : Tx} (hx : x ∈ Qsl (h.table n)) : 1 <= x.t /\ x.t <= h.ct n := by
  obtain ⟨i, hi, e1, e2, l0, _⟩ := ok.table_row R hn (Qzq.1 hx).1; have h0 : (h.tx i).nr ≠ 0 := fun q => l0 (by rw [(ok.txn i hi).zero q]; rfl)
  have := (ok.txn i hi).nr h0; rw [e1, e2] at this; omega
end
structure At16 (L : List Tx) (number k : Nat) : Prop where
  le : k <= L.length
  low : ∀ j, j < k -> (L.getD j Tx.zero).t < (number : Int)
  high : ∀ j, k <= j -> j < L.length -> (number : Int) <= (L.getD j Tx.zero).t
theorem At16.skip {L : List Tx} {m k : Nat} (a : At16 L m k) (hno : ∀ x ∈ L, x.t ≠ (m : Int)) : At16 L (m + 1) k :=
  ⟨a.le, fun j hj => by have := a.low j hj; omega, fun j h1 h2 => by
    have := a.high j h1 h2; have := hno _ (Qua L j Tx.zero h2)
    omega⟩
theorem At16.here {L : List Tx} {m k : Nat} (a : At16 L m k) (hs : Qmi L) {x : Tx} (hx : x ∈ L) (ht : x.t = (m : Int)) : k < L.length /\ L.getD k Tx.zero = x /\ At16 L (m + 1) (k + 1) := by
  obtain ⟨j, hj, rfl⟩ := List.mem_iff_getElem.1 hx; have e : L.getD j Tx.zero = L[j] := by simp [List.getD, hj]
  have h1 : ¬ j < k := fun q => by
    have := a.low j q; rw [e] at this; omega
  have h2 : ¬ k < j := fun q => by
    have h3 := hs k j q hj; have h4 := a.high k (Nat.le_refl _) (by omega); rw [e] at h3; omega
  obtain rfl : j = k := by omega
  refine ⟨hj, e, by omega, fun i hi => ?_, fun i h3 h4 => ?_⟩
  · rcases Nat.lt_or_ge i j with q | q
    · have := a.low i q; omega
    · obtain rfl : i = j := by omega
      rw [e]; omega
  · have := hs j i (by omega) h4; rw [e] at this; omega
end
def Hs.opensTo (h : Hs) (n : Nat) : Nat -> Nat
  | 0 => 0
  | k + 1 => h.opensTo n k + Qjh (h.tx (n * 3 + k))
theorem Hs.opens_to (h : Hs) (n : Nat) : h.opensTo n 3 = h.opens n := by
  show 0 + Qjh (h.tx (n * 3 + 0)) + Qjh (h.tx (n * 3 + 1)) + Qjh (h.tx (n * 3 + 2)) = Qjh (h.tx (n * 3)) + Qjh (h.tx (n * 3 + 1)) + Qjh (h.tx (n * 3 + 2)); rw [Nat.add_zero, Nat.zero_add]
theorem openB_le (t : Tu) : Qjh t <= 1 := by
  unfold Qjh; split <;> omega
theorem Hs.opensTo_le (h : Hs) (n : Nat) : ∀ k, h.opensTo n k <= k
  | 0 => Nat.le_refl _
  | k + 1 => by
    have h1 := Hs.opensTo_le h n k; have h2 := openB_le (h.tx (n * 3 + k)); show h.opensTo n k + _ <= _; omega
theorem opens15 (w : World) (B g n : Nat) (F : Nat -> Prop) (h : Hs) (H : HB w B g F h) (hn : n < 3) :
    Calls Try.prog 26 #[.pointer (some ⟨g, 0, none⟩), .int .i64 (n : Int)] w fun e w' => e = .returned (.int .i64 (h.opens n : Int)) /\ Below w.heap.size w w' := by
  have HC := Qc (fun x (hx : Below w.heap.size w x) k (hk : k < 3) => ((H.later hx).tu (i := n * 3 + k) (by omega) rfl).2.2.1); have HE := Qc (h.opens_to n); have HT := Qc (fun k => (show h.opensTo n (k + 1) = h.opensTo n k + Qjh (h.tx (n * 3 + k)) from rfl)); have HL := Qc (h.opensTo_le n); have i1 : (n : Int) < 3 := by omega
  have i2 : (0 : Int) <= (n : Int) := by omega
  clear H; go_enter Try.func26, Try.ntmps26; go_wp2; go_loopw [5, 6] (fun m i wr => ∃ k : Nat, k <= 3 /\ i = .int .i64 (k : Int) /\ m = .int .i64 (h.opensTo n k : Int) /\ Hid (Below w.heap.size w wr)) (fun _ i _ => 3 - (intOf i).toNat)
  case atStart => exact ⟨0, by omega, rfl, rfl, Below.refl _ _⟩
  case round =>
    obtain ⟨k, hk, rfl, rfl, HB⟩ := hrel; have hle := HL.out k
    by_cases hlt : k < 3
    · have i3 : (k : Int) < 3 := by omega
      have i4 : (0 : Int) <= (k : Int) := by omega
      have q := HC.out _ HB.out k hlt; rw [show 9 + (n * 3 + k) * 4 + 2 = 9 + n * 12 + k * 4 + 2 by omega] at q; have HS := Qc (HT.out k); obtain ⟨m, hm⟩ : ∃ m, m = h.opensTo n k := ⟨_, rfl⟩; rw [<- hm] at HS hle |-
      by_cases e : (h.tx (n * 3 + k)).last = 0
      · have e1 : h.opensTo n (k + 1) = m := by
          rw [HS.out]; unfold Qjh; rw [if_neg (fun x => x e), Nat.add_zero]
        have HN := Qc e1; rw [e] at q; clear hm HS e e1 HT HC; go_wp2; go_roundw
        case rel => exact ⟨k + 1, by omega, by go_num, by rw [HN.out], HB.out⟩
        case measure => simp [intOf] <;> omega
      · have e1 : h.opensTo n (k + 1) = m + 1 := by
          rw [HS.out]; unfold Qjh; rw [if_pos e]
        have HN := Qc e1; obtain ⟨x, hx⟩ : ∃ x, x = (h.tx (n * 3 + k)).last := ⟨_, rfl⟩; rw [<- hx] at q e; have e2 : ((x : Int) == 0) = false := by simpa using e
        clear hm HS e e1 HT HC hx; go_wp2; go_roundw
        case rel => exact ⟨k + 1, by omega, by go_num, by rw [HN.out]; go_num, HB.out⟩
        case measure => simp [intOf] <;> omega
    · obtain rfl : k = 3 := by omega
      rw [HE.out] at hle |-; clear HL HT HC; go_wp2; go_ret; exact ⟨rfl, HB.out⟩
section
open Go.ChangeShapes Go.WideShapes Go.ChangeAt Go.RowKit Go.Deep Go.Joins
set_option linter.unusedVariables false
end
section
open Go.ChangeShapes Go.WideShapes Go.ChangeAt Go.RowKit Go.Deep Go.Joins
set_option linter.unusedVariables false
end
end Go.Proofs.Ythlllmkmpneedaa
