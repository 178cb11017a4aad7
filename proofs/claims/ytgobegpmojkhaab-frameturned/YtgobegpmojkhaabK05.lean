/-
  Texts that lean on one another, one behind the other: each opens with its own remark.
-/
import Derived.RangeFuncBox
import Derived.RangeFuncCalls
import Derived.Shelf.Abstract
import Derived.Shelf.RegionOpen
import Derived.WalkKit
import Derived.TacticsInMore
import Derived.LoopNIn
import Derived.LoopIn
import Derived.Maps.AppendAt
import Derived.Test.YtgobegpmojkhaabK04
import Derived.Test.YtgobegpmojkhaabK00
import Derived.Test.YtgobegpmojkhaabK01

/-
  The contract of the iterator that frame.frames makes.
-/
namespace Go.Proofs.Ytgobegpmojkhaab
open Go.RowKit Go.Shelf
set_option linter.unusedVariables false
attribute [local go_sem] Oper.semAt_some

/-- What is handed over: a record with the values of its lists, and the place behind its frame. -/
abbrev Hd := (Rec × Value × Value) × Nat
def recs (xs : List Hd) : List Rec := xs.map (·.1.1)
theorem recs_snoc (xs : List Hd) (x : Hd) : recs (xs ++ [x]) = recs xs ++ [x.1.1] := by simp [recs]
theorem framesB_snoc (rs : List Rec) (r : Rec) : framesB (rs ++ [r]) = framesB rs ++ frameB r := by simp [framesB]
def encH (x : Hd) : Array Value := #[.agg (rcF x.1), .int .i64 (x.2 : Int)]
/-- What is said of each. -/
def Told (base : Nat) (bs : List UInt8) (pre : List Hd) (x : Hd) (W : World) : Prop :=
  x.1.1.right ∧ x.1.1.fits ∧ GotIn base W x.1.1 x.1.2.1 x.1.2.2 ∧ x.2 = (framesB (recs (pre ++ [x]))).length ∧ ∃ y, bs = framesB (recs (pre ++ [x])) ++ y
/-- All have come. -/
def Over (bs : List UInt8) (xs : List Hd) : Prop := ∃ y, bs = framesB (recs xs) ++ y ∧ (headF y).2.2 ≠ 0
theorem head_fits (y : List UInt8) : (headF y).1.fits := by
  unfold headF
  split
  · exact zero_rec_fits
  · split
    · exact zero_rec_fits
    · split
      · exact zero_rec_fits
      · exact dec_fits _
/-- What a round keeps: what lay at the call of Scan, and the iterator's own box. -/
def KpI (n0 gb : Nat) (A B : World) : Prop := Below n0 A B ∧ ∀ cs, RowAt A gb 30 cs → RowAt B gb 30 cs

theorem head_over {bs y : List UInt8} {xs : List Hd} (h : bs = framesB (recs xs) ++ y) : takF bs ((framesB (recs xs)).length : Int) = ((headF y).1, if (headF y).2.2 = 0 then ((framesB (recs xs)).length : Int) + ((headF y).2.1 : Int) else 0, (headF y).2.2) := by
  unfold takF
  have e : bs.drop ((framesB (recs xs)).length : Int).toNat = y := by
    rw [Int.toNat_natCast, h]
    exact List.drop_left' rfl
  rw [if_neg (by rw [h, List.length_append]; omega), e]

theorem frames_step {bs y : List UInt8} {xs : List Hd} (h : bs = framesB (recs xs) ++ y) (he : (headF y).2.2 = 0) (va vb : Value) :
    (headF y).1.right ∧ ∃ y', bs = framesB (recs (xs ++ [(((headF y).1, va, vb), (framesB (recs xs)).length + (headF y).2.1)])) ++ y' ∧ (framesB (recs (xs ++ [(((headF y).1, va, vb), (framesB (recs xs)).length + (headF y).2.1)]))).length = (framesB (recs xs)).length + (headF y).2.1 ∧ 6 ≤ (headF y).2.1 := by
  obtain ⟨h1, h2, h3, h4⟩ := head_ok y he
  refine ⟨h1, y.drop (headF y).2.1, ?_, ?_, ?_⟩
  · rw [recs_snoc, framesB_snoc, ← h2, List.append_assoc, List.take_append_drop]
    exact h
  · rw [recs_snoc, framesB_snoc, List.length_append, ← h3]
  · rw [h3, frameB_length]
    omega

set_option maxRecDepth 100000 in
set_option maxHeartbeats 3200000 in
theorem iter_any (l n gb n0 : Nat) (a : Option Addr) (len cap : Nat) (bs : List UInt8) (hn : 1 ≤ n) (hl : len ≤ 140737488355328) (hcap : len ≤ cap) (J Jx : List Hd → World → Prop)
    (hJ : ∀ s A B, Below A.heap.size A B → J s A → J s B)
    (hY : ∀ pre x A, J pre A → Told n0 bs pre x A → YieldAt Fence.wide (n - 1) Try.prog l (encH x) A fun e B => (e = .returned (.bool true) ∧ J (pre ++ [x]) B ∧ KpI n0 gb A B) ∨ (e = .returned (.bool false) ∧ Jx pre B))
    (W : World) (hB : ∀ W', Below n0 W W' → IsB W' a len bs) (hn0 : n0 ≤ W.heap.size) (hbox : RowAt W gb 30 #[.slice a len cap]) (h0 : J [] W) :
    CallsIn Fence.wide n Try.prog 40 #[.func (.yield l) #[] #[], .pointer (some ⟨gb, 0, none⟩)] W fun e B => (∃ v, e = .returned v) ∧ ((∃ xs, Over bs xs ∧ J xs B) ∨ (∃ pre, Jx pre B)) := by
  have HJ := hide hJ
  have HY := hide hY
  have HBX := hide hB
  clear hJ hY hB
  refine callsIn_of_wp Try.func40 rfl trivial ?_ rfl
  simp only [Try.ntmps40, List.size_toArray, List.length_cons, List.length_nil, Nat.reduceAdd, Nat.reduceSub, Array.replicate_succ, Array.replicate_zero, List.push_toArray, List.append_toArray, List.nil_append, List.cons_append]
  gi_wp2
  gi_loopw [3] (fun p wr => ∃ (pre : List Hd) (y : List UInt8), p = .int .i64 ((framesB (recs pre)).length : Int) ∧ Hid (bs = framesB (recs pre) ++ y) ∧ Hid (J pre wr ∧ Below n0 W wr ∧ RowAt wr gb 30 #[.slice a len cap])) (fun p _ => len - (intOf p).toNat)
  case atStart => exact ⟨[], bs, rfl, rfl, h0, Below.refl _ _, hbox⟩
  case round =>
    obtain ⟨pre, y, rfl, HBS, HST⟩ := hrel
    clear hbox h0
    have c0 := HST.out.2.2.cell 0 (.slice a len cap) rfl
    have HBW := hide (HBX.out _ HST.out.2.1)
    have HT := hide (ftake_any a len cap bs ((framesB (recs pre)).length : Int) wr HBW.out hl hcap)
    rw [head_over HBS.out] at HT
    unfold TakAns at HT
    gi_wp2_with fail
    refine ⟨trivial, (callsIn_wide.2 HT.out).mono ?_⟩
    rintro e w1 ⟨⟨va, vb, rfl, hgot⟩, hb1⟩
    obtain ⟨av, cv, rfl⟩ := own_shape5 hgot.1
    obtain ⟨au, cu, rfl⟩ := own_shape5 hgot.2
    have HFS := hide (fun he va vb => frames_step HBS.out he va vb)
    have HOV : Hid ((headF y).2.2 ≠ 0 → Over bs pre) := fun he => ⟨y, HBS.out, he⟩
    have HFI : Hid (headF y).1.fits := head_fits y
    have HGT := hide (show GotIn n0 w1 (headF y).1 (.slice av (headF y).1.ts.length cv) (.slice au (headF y).1.ds.length cu) from ⟨own_mono hgot.1 (Nat.le_trans hn0 HST.out.2.1.size), own_mono hgot.2 (Nat.le_trans hn0 HST.out.2.1.size)⟩)
    have HS1 : Hid (J pre w1 ∧ Below n0 W w1 ∧ RowAt w1 gb 30 #[.slice a len cap]) := ⟨HJ.out _ _ _ hb1 HST.out.1, HST.out.2.1.trans (hb1.mono (Nat.le_trans hn0 HST.out.2.1.size)), HST.out.2.2.later hb1⟩
    clear HT HST HBW hgot hb1 c0
    generalize headF y = hy9 at *
    obtain ⟨r, k, er⟩ := hy9
    simp only at HFS HOV HGT HFI ⊢
    by_cases he : er = 0
    · subst he
      rw [if_pos rfl]
      obtain ⟨p9, hp9⟩ : ∃ p9 : Nat, p9 = (framesB (recs pre)).length + k := ⟨_, rfl⟩
      have e9 : ((framesB (recs pre)).length : Int) + (k : Int) = (p9 : Int) := by omega
      rw [e9]
      have HP9 := hide hp9
      clear hp9 e9
      gi_wp2_with (refine wpListIn_store_at rfl 28 (.tmp 4) (.tmp 11) rfl w1.heap.size zeroA (rcA r (.slice av r.ts.length cv) (.slice au r.ds.length cu)) rfl rfl (RowAt.new w1 28 zeroA) infoRc rfl (by simp [rcA, Value.oneCell']) ?_)
      intro w2 hr2 hg2
      have hb2 : Below w1.heap.size w1 w2 := ((Below.refl w1.heap.size w1).alloc (Nat.le_refl _) (.cells zeroA 28)).grown hg2 (by simp) (fun k hk => by cases hk; exact Nat.le_refl _)
      have HS2 : Hid (J pre w2 ∧ Below n0 W w2 ∧ RowAt w2 gb 30 #[.slice a len cap]) := ⟨HJ.out _ _ _ hb2 HS1.out.1, HS1.out.2.1.trans (hb2.mono (Nat.le_trans hn0 HS1.out.2.1.size)), HS1.out.2.2.later hb2⟩
      have HG2 := hide (HGT.out.below hb2)
      have HR2 := hide hr2
      clear hr2 hg2 hb2 HS1 HGT
      generalize w1.heap.size = g1 at *
      obtain ⟨hr, y2, hbs2, hlen2, hk6⟩ := HFS.out trivial (.slice av r.ts.length cv) (.slice au r.ds.length cu)
      rw [← HP9.out] at hbs2 hlen2
      obtain ⟨fn, tmps, assign, body, hyd, hR⟩ := HY.out pre ((r, .slice av r.ts.length cv, .slice au r.ds.length cu), p9) w2 HS2.out.1 ⟨hr, HFI.out, HG2.out, hlen2.symm, y2, hbs2⟩
      have HN2 := hide hbs2
      have HL2 := hide hlen2
      have HRR := hide hR
      have hle : p9 ≤ len := by
        have := congrArg List.length hbs2
        rw [(HBX.out _ (Below.refl _ _)).1, List.length_append, hlen2] at this
        omega
      have hgt : (framesB (recs pre)).length < p9 := by
        have := HP9.out
        omega
      clear hr hbs2 hlen2 hR HFS HOV hk6 HP9
      dsimp only [encH, rcF] at hyd
      gi_wp2_with (refine wpListIn_load_at rfl 28 (.tmp 4) rfl g1 rfl (rcA r (.slice av r.ts.length cv) (.slice au r.ds.length cu)) HR2.out _ Try.underlying28 rfl infoRc ?_)
      refine HRR.out.mono ?_
      rintro e w3 (⟨rfl, hJ3, hk3⟩ | ⟨rfl, hJx3⟩)
      · have HS3 : Hid (J (pre ++ [((r, .slice av r.ts.length cv, .slice au r.ds.length cu), p9)]) w3 ∧ Below n0 W w3 ∧ RowAt w3 gb 30 #[.slice a len cap]) := ⟨hJ3, HS2.out.2.1.trans hk3.1, hk3.2 _ HS2.out.2.2⟩
        clear hJ3 hk3 HS2 HG2 HR2 HRR hyd
        gi_wp2
        go_roundw
        case rel => exact ⟨_, y2, by rw [HL2.out], HN2, HS3⟩
        case measure => simp [intOf]; omega
      · have HX3 := hide hJx3
        clear hJx3 HS2 HG2 HR2 HRR hyd
        gi_wp2
        refine bodyPost_ret (results_none rfl _ _ _) rfl ?_
        exact ⟨⟨_, rfl⟩, .inr ⟨pre, HX3.out⟩⟩
    · rw [if_neg he]
      have k0 : (er == 0) = false := by rw [beq_eq_false_iff_ne]; exact he
      have k1 : (er != 0) = true := by rw [bne, k0]; rfl
      have HO := hide (HOV.out he)
      clear he HOV HFS
      gi_wp2_with (refine wpListIn_store_at rfl 28 (.tmp 4) (.tmp 11) rfl w1.heap.size zeroA (rcA r (.slice av r.ts.length cv) (.slice au r.ds.length cu)) rfl rfl (RowAt.new w1 28 zeroA) infoRc rfl (by simp [rcA, Value.oneCell']) ?_)
      intro w2 hr2 hg2
      have hb2 : Below w1.heap.size w1 w2 := ((Below.refl w1.heap.size w1).alloc (Nat.le_refl _) (.cells zeroA 28)).grown hg2 (by simp) (fun k hk => by cases hk; exact Nat.le_refl _)
      have HS2 : Hid (J pre w2 ∧ Below n0 W w2 ∧ RowAt w2 gb 30 #[.slice a len cap]) := ⟨HJ.out _ _ _ hb2 HS1.out.1, HS1.out.2.1.trans (hb2.mono (Nat.le_trans hn0 HS1.out.2.1.size)), HS1.out.2.2.later hb2⟩
      have HG2 := hide (HGT.out.below hb2)
      have HR2 := hide hr2
      clear hr2 hg2 hb2 HS1 HGT
      generalize w1.heap.size = g1 at *
      gi_wp2
      refine ⟨fun _ h => (by cases h), ?_⟩
      gi_wp2
      refine bodyPost_ret (results_none rfl _ _ _) rfl ?_
      exact ⟨⟨_, rfl⟩, .inl ⟨pre, HO.out, HS2.out.1⟩⟩
end Go.Proofs.Ytgobegpmojkhaab

/-
  What is scanned, by where it ends: plain facts, of no program.
-/
namespace Go.Proofs.Ytgobegpmojkhaab
open Go.RowKit
set_option linter.unusedVariables false

/-- What is scanned of bytes. -/
noncomputable def scanL (bs : List UInt8) : List Rec × Nat := scanF (bs.length + 1) 0 bs
theorem framesB_long : ∀ rs : List Rec, rs.length * 6 ≤ (framesB rs).length
  | [] => Nat.le_refl _
  | r :: rs => by
    have h := framesB_long rs
    have e : framesB (r :: rs) = frameB r ++ framesB rs := by simp [framesB]
    rw [e, List.length_append, frameB_length, List.length_cons]
    omega
theorem scan_end {bs y : List UInt8} {rs : List Rec} (h : bs = framesB rs ++ y) (hr : Rise 0 rs) (hs : (headF y).2.2 ≠ 0 ∨ (headF y).1.l ≤ lastL 0 rs) : scanL bs = (rs, (framesB rs).length) := by
  have h1 := framesB_long rs
  have h2 := congrArg List.length h
  rw [List.length_append] at h2
  have e : bs.length + 1 = rs.length + (bs.length + 1 - rs.length) := by omega
  unfold scanL
  rw [e, h, scan_all rs _ 0 y hr, scan_stop _ _ y hs]
  simp
theorem rise_snoc : ∀ (rs : List Rec) (a : Nat) (r : Rec), Rise a (rs ++ [r]) ↔ Rise a rs ∧ r.right ∧ lastL a rs < r.l
  | [], a, r => ⟨fun h => ⟨trivial, h.1, h.2.1⟩, fun h => ⟨h.2.1, h.2.2, trivial⟩⟩
  | q :: rs, a, r => by
    have ih := rise_snoc rs q.l r
    constructor
    · rintro ⟨h1, h2, h3⟩
      have h4 := ih.1 h3
      exact ⟨⟨h1, h2, h4.1⟩, h4.2⟩
    · rintro ⟨⟨h1, h2, h3⟩, h4⟩
      exact ⟨h1, h2, ih.2 ⟨h3, h4⟩⟩
theorem last_snoc : ∀ (rs : List Rec) (a : Nat) (r : Rec), lastL a (rs ++ [r]) = r.l
  | [], _, _ => rfl
  | q :: rs, _, r => last_snoc rs q.l r
theorem last_lt : ∀ (rs : List Rec) (a : Nat), Rise a rs → a < 18446744073709551616 → lastL a rs < 18446744073709551616
  | [], _, _, h => h
  | q :: rs, a, h, ha => last_lt rs q.l h.2.2 (by have := h.1.lm; unfold maxP at this; omega)
theorem rise_right : ∀ (rs : List Rec) (a : Nat), Rise a rs → ∀ r ∈ rs, r.right
  | [], _, _, _, h => nomatch h
  | q :: rs, a, h, r, hr => by
    rcases List.mem_cons.1 hr with rfl | hr
    · exact h.1
    · exact rise_right rs q.l h.2.2 r hr
theorem eq_dec (a b : Nat) : ((a : Int) == (b : Int)) = decide (a = b) := by
  rw [Bool.eq_iff_iff]
  simp
  omega
end Go.Proofs.Ytgobegpmojkhaab

/-
  The contract of frame.Scan.
-/
namespace Go.Proofs.Ytgobegpmojkhaab
open Go.RowKit Go.Shelf
set_option linter.unusedVariables false
attribute [local go_sem] Oper.semAt_some

/-- The cells of records, one behind the other. -/
def flatR (ms : List (Rec × Value × Value)) : List Value := ms.flatMap fun m => (rcF m).toList
theorem flatR_append (a b : List (Rec × Value × Value)) : flatR (a ++ b) = flatR a ++ flatR b := by simp [flatR]
theorem infoRc3 : (Try.prog.info? 28).map (fun i => (i.zero, i.size, i.bytes)) = some (some (.agg zeroA), 14, 160) := by kernel_rfl
theorem own_kind {y : World} {base n sz k : Nat} {e t : TypeId} {v : Value} {xs : List Value} {cs : Array Value} (h : y.ownsRow base e sz v n xs) (hr : RowAt y k t cs) (ht : t ≠ e) : v.ownBlock ≠ some k := fun hk => by
  rcases h.2 with ⟨rfl, _⟩ | ⟨g, cap, cur, rfl, _, hg, _⟩
  · cases hk
  · obtain rfl : g = k := by simpa [Value.ownBlock] using hk
    have h5 := (show y.heap[g]? = _ from hr).symm.trans hg
    simp only [Option.some.injEq, Obj.cells.injEq] at h5
    exact ht h5.2.1
/-- A row of the call's own, where blocks of its type are kept. -/
theorem own_kept {A B : World} {base n sz : Nat} {e : TypeId} {v : Value} {xs : List Value} (h : A.ownsRow base e sz v n xs) (hk : ∀ k cs, RowAt A k e cs → RowAt B k e cs) : B.ownsRow base e sz v n xs := by
  refine ⟨h.1, h.2.imp id ?_⟩
  rintro ⟨g, cap, cur, h1, h2, h3, h4⟩
  exact ⟨g, cap, cur, h1, h2, hk g cur h3, h4⟩
theorem cells_new (W : World) (t : TypeId) (cs : Array Value) : ∀ j u, cs.toList[j]? = some u → (W.alloc (.cells cs t)).cell? ((⟨W.heap.size, 0, none⟩ : Addr).add j) = some u := fun j u hu => by
  rw [Addr.add_lit, Nat.zero_add]
  refine (RowAt.new W t cs).cell j u ?_
  rw [← hu, Array.getElem?_toList]
theorem hush_row {n : Nat} {A B : World} (h : Hush n A B) {k : Nat} {t : TypeId} {cs : Array Value} (hr : RowAt A k t cs) : RowAt B k t cs := h.cells k cs t (0, 0) hr
theorem hush_below {n : Nat} {w A B : World} (h : Hush n A B) (hb : Below n w A) : Below n w B := ⟨h.os.trans hb.os, h.tape.trans hb.tape, h.output.trans hb.output, Nat.le_trans hb.size h.size, fun k hk => (h.low k hk).trans (hb.block k hk)⟩

set_option maxRecDepth 4000 in
theorem frames_any (a : Option Addr) (len cap : Nat) (w : World) :
    Calls Try.prog 22 #[.slice a len cap] w fun e w' => e = .returned (.func (.func 40) #[] #[.pointer (some ⟨w.heap.size, 0, none⟩)]) ∧ w' = w.alloc (.cells #[.slice a len cap] 30) := by
  go_enter Try.func22, Try.ntmps22
  go_wp2
  go_ret
  exact ⟨rfl, rfl⟩

/-- What Scan keeps between two rounds; v: the records so far. -/
structure ScI (n0 : Nat) (w : World) (bs : List UInt8) (v : Value) (pre : List Hd) (W : World) : Prop where
  box : RowAt W n0 42 #[v]
  own : W.ownsRow n0 28 14 v pre.length (flatR (pre.map (·.1)))
  size : RowAt W (n0 + 1) 3 #[.int .i64 ((framesB (recs pre)).length : Int)]
  last : RowAt W (n0 + 1 + 1) 22 #[.int .u64 ((lastL 0 (recs pre) : Nat) : Int)]
  rise : Rise 0 (recs pre)
  part : ∃ y, bs = framesB (recs pre) ++ y
  got : ∀ x ∈ pre, x.1.1.fits ∧ GotIn n0 W x.1.1 x.1.2.1 x.1.2.2
  bel : Below n0 w W
theorem ScI.hush {n0 : Nat} {w : World} {bs : List UInt8} {v : Value} {pre : List Hd} {A B : World} {n : Nat} (h : ScI n0 w bs v pre A) (hn : n0 ≤ n) (hc : Hush n A B) : ScI n0 w bs v pre B :=
  ⟨hush_row hc h.box, own_kept h.own (fun _ _ => hush_row hc), hush_row hc h.size, hush_row hc h.last, h.rise, h.part, fun x hx => ⟨(h.got x hx).1, own_kept (h.got x hx).2.1 (fun _ _ => hush_row hc), own_kept (h.got x hx).2.2 (fun _ _ => hush_row hc)⟩,
    ⟨hc.os.trans h.bel.os, hc.tape.trans h.bel.tape, hc.output.trans h.bel.output, Nat.le_trans h.bel.size hc.size, fun k hk => (hc.low k (by omega)).trans (h.bel.block k hk)⟩⟩
theorem told_hush {base n : Nat} {bs : List UInt8} {pre : List Hd} {x : Hd} {A B : World} (h : Told base bs pre x A) (hc : Hush n A B) : Told base bs pre x B :=
  ⟨h.1, h.2.1, ⟨own_kept h.2.2.1.1 (fun _ _ => hush_row hc), own_kept h.2.2.1.2 (fun _ _ => hush_row hc)⟩, h.2.2.2⟩

theorem kpI_right {n0 gb n : Nat} {A B C : World} (h : KpI n0 gb A B) (hc : Hush n B C) (hn : n0 ≤ n) : KpI n0 gb A C :=
  ⟨⟨hc.os.trans h.1.os, hc.tape.trans h.1.tape, hc.output.trans h.1.output, Nat.le_trans h.1.size hc.size, fun k hk => (hc.low k (by omega)).trans (h.1.block k hk)⟩, fun cs hr => hush_row hc (h.2 cs hr)⟩

/-- The frame of a round, behind the assignment of its variables. -/
def actS (n0 : Nat) (a : Option Addr) (len cap g : Nat) (x : Hd) : Act :=
  { tmps := #[.slice a len cap, undef, .slice none 0 0, .int .i64 0, .bool false, .pointer (some ⟨n0, 0, none⟩), .pointer (some ⟨n0 + 1, 0, none⟩), .pointer (some ⟨n0 + 1 + 1, 0, none⟩), .pointer (some ⟨g, 0, none⟩), .int .i64 (x.2 : Int), .slice a len cap, .func (.func 40) #[] #[.pointer (some ⟨n0 + 1 + 1 + 1, 0, none⟩)], .agg (rcF x.1), .int .i64 (x.2 : Int), undef, undef, undef, undef, undef, undef, undef, undef, undef, undef, undef, undef, undef, undef, undef, undef, undef], defers := [] }
def AcS (n0 : Nat) (w : World) (a : Option Addr) (len cap : Nat) (bs : List UInt8) (pre : List Hd) (x : Hd) (c : Act) (W : World) : Prop :=
  ∃ g v, c = actS n0 a len cap g x ∧ RowAt W g 28 (rcF x.1) ∧ ScI n0 w bs v pre W ∧ Told n0 bs pre x W ∧ v.ownBlock ≠ some g

theorem ScI.drew {n0 : Nat} {w : World} {bs : List UInt8} {v : Value} {pre : List Hd} {A : World} (h : ScI n0 w bs v pre A) : ScI n0 w bs v pre A.drew :=
  ⟨h.box, h.own, h.size, h.last, h.rise, h.part, h.got, below_drew h.bel⟩
theorem scan_fin {n0 : Nat} {w W X : World} {bs : List UInt8} {v : Value} {xs : List Hd} {mm len : Nat} (hn : n0 = w.heap.size) (h : ScI n0 w bs v xs W) (he : scanL bs = (recs xs, mm)) (hc : Hush n0 W.drew X) :
    ∃ u ms, Ending.returned (.tuple #[v, .int .i64 (mm : Int), .bool ((mm : Int) == (len : Int))]) = .returned (.tuple #[u, .int .i64 ((scanL bs).2 : Int), .bool (decide ((scanL bs).2 = len))]) ∧ ms.map (·.1) = (scanL bs).1 ∧
      X.ownsRow w.heap.size 28 14 u ms.length (flatR ms) ∧ (∀ m ∈ ms, m.1.fits ∧ GotIn w.heap.size X m.1 m.2.1 m.2.2) ∧ Below w.heap.size w X := by
  subst hn
  have h2 := h.drew.hush (Nat.le_refl _) hc
  refine ⟨v, xs.map (·.1), ?_, ?_, ?_, fun m hm => ?_, h2.bel⟩
  · rw [he]
    have e : ((mm : Int) == (len : Int)) = decide (mm = len) := by
      rw [Bool.eq_iff_iff]
      simp
      omega
    rw [e]
  · rw [he]
    simp [recs]
  · rw [List.length_map]
    exact h2.own
  · obtain ⟨x, hx, rfl⟩ := List.mem_map.1 hm
    exact h2.got x hx

set_option maxRecDepth 100000 in
set_option maxHeartbeats 6400000 in
theorem scan_any (a : Option Addr) (len cap : Nat) (bs : List UInt8) (w : World) (hB : IsB w a len bs) (hl : len ≤ 140737488355) (hcap : len ≤ cap) :
    Calls Try.prog 12 #[.slice a len cap] w fun e w' => ∃ v ms, e = .returned (.tuple #[v, .int .i64 ((scanL bs).2 : Int), .bool (decide ((scanL bs).2 = len))]) ∧ ms.map (·.1) = (scanL bs).1 ∧
      w'.ownsRow w.heap.size 28 14 v ms.length (flatR ms) ∧ (∀ m ∈ ms, m.1.fits ∧ GotIn w.heap.size w' m.1 m.2.1 m.2.2) ∧ Below w.heap.size w w' := by
  have HB := hide hB
  clear hB
  refine (callsIn_wide (n := 3)).1 ?_
  refine callsIn_of_wp_marks Try.func12 rfl trivial ?_ rfl
  simp only [Try.ntmps12, List.size_toArray, List.length_cons, List.length_nil, Nat.reduceAdd, Nat.reduceSub, Array.replicate_succ, Array.replicate_zero, List.push_toArray, List.append_toArray, List.nil_append, List.cons_append]
  gi_wp2_with fail
  refine ⟨trivial, (callsIn_wide.2 (frames_any a len cap _)).mono ?_⟩
  rintro e w4 ⟨rfl, hw4⟩
  have K3 := Keeps.three w 42 3 22 #[.slice none 0 0] #[.int .i64 0] #[.int .u64 0]
  have z3 : (((w.alloc (.cells #[.slice none 0 0] 42)).alloc (.cells #[.int .i64 0] 3)).alloc (.cells #[.int .u64 0] 22)).heap.size = w.heap.size + 1 + 1 + 1 := by simp
  rw [z3]
  have K4 := K3.more ((Below.refl _ _).alloc (Nat.le_refl _) (.cells #[.slice a len cap] 30)) (RowAt.new _ 30 #[.slice a len cap])
  rw [z3, ← hw4] at K4
  have HZ4 : Hid (w4.heap.size = w.heap.size + 1 + 1 + 1 + 1) := by rw [hw4, World.size_alloc, z3]; exact rfl
  have HK4 := hide K4
  clear K3 K4 z3 hw4
  obtain ⟨n0, hn0⟩ : ∃ n0, n0 = w.heap.size := ⟨_, rfl⟩
  rw [← hn0] at HK4 HZ4
  rw [← hn0]
  have HN0 := hide hn0
  clear hn0
  gi_wp2
  have hz4 : n0 ≤ w4.heap.size := by
    rw [HZ4.out]
    omega
  have hz5 : n0 + 1 + 1 + 1 < w4.heap.size := by
    rw [HZ4.out]
    omega
  refine wpIn_range_told (α := Hd) rfl (by decide) (gf := 40) (lb := #[.pointer (some ⟨n0 + 1 + 1 + 1, 0, none⟩)]) rfl trivial (enters_of Try.func40 (by kernel_rfl) rfl)
    encH (fun _ => rfl) 0 (Told n0 bs) (fun xs _ => Over bs xs) (KpI n0 (n0 + 1 + 1 + 1)) (fun pre W => ∃ v, ScI n0 w bs v pre W)
    (fun pre W => ∃ v, ScI n0 w bs v pre W ∧ ∃ y, bs = framesB (recs pre) ++ y ∧ (headF y).1.l ≤ lastL 0 (recs pre)) (AcS n0 w a len cap bs)
    (fun A B C h hc => kpI_right h hc hz4) (fun A B C h k => ⟨h.1.trans k.1, fun cs hr => k.2 cs (h.2 cs hr)⟩)
    (fun s A B hc h => h.imp fun v hv => hv.hush hz4 hc) (fun s A B hc h => h.imp fun v hv => ⟨hv.1.hush hz4 hc, hv.2⟩)
    (fun s x c A B hc h => by
      obtain ⟨g, v, h1, h2, h3, h4, h5⟩ := h
      exact ⟨g, v, h1, hush_row hc h2, h3.hush hz4 hc, told_hush h4 hc, h5⟩)
    (fun l J Jx W hb hJ hY h0 => iter_any l 2 (n0 + 1 + 1 + 1) n0 a len cap bs (by decide) (by omega) hcap J Jx hJ hY W (fun W' h => HB.out.below ((HK4.out.2.trans (hb.mono HK4.out.2.size)).trans (HN0.out ▸ h))) (Nat.le_trans hz4 hb.size) (HK4.out.1.1.below hb hz5) h0)
    ⟨.slice none 0 0, ?_⟩ (fun _ _ _ _ h => h) ?assign ?body ?done ?stop
  · refine ⟨HK4.out.1.2.2.2.1, World.ownsRow_nil _ _ _ _, HK4.out.1.2.2.1, HK4.out.1.2.1, trivial, ⟨bs, rfl⟩, fun x hx => (nomatch hx), ?_⟩
    rw [HN0.out]
    exact HK4.out.2
  case assign =>
    rintro l pre x W K ⟨v, hi⟩ hg hK
    obtain ⟨hr, hf, hgot, hend, hpart⟩ := hg
    obtain ⟨av, cv, hav⟩ := own_shape5 hgot.1
    obtain ⟨au, cu, hau⟩ := own_shape5 hgot.2
    have HI := hide hi
    have HTO : Hid (Told n0 bs pre x W) := ⟨hr, hf, hgot, hend, hpart⟩
    have HKK := hide hK
    clear hi hr hf hgot hend hpart hK
    have h1c : (rcF x.1).all (·.oneCell') = true := by
      unfold rcF
      rw [hav, hau]
      simp [rcA, Value.oneCell']
    clear hav hau
    obtain ⟨A, hA⟩ : ∃ A, A = rcF x.1 := ⟨_, rfl⟩
    have hsz : A.size = 14 := by rw [hA]; rfl
    unfold encH
    rw [← hA] at h1c ⊢
    have HA := hide hA
    have HSZ := hide hsz
    have H1C := hide h1c
    clear hA hsz h1c
    gi_wp2_with (refine wpListIn_store_at rfl 28 (.tmp 8) (.tmp 12) rfl W.heap.size zeroA A rfl rfl (RowAt.new W 28 zeroA) (by rw [HSZ.out]; exact infoRc) (by rw [HSZ.out]; rfl) H1C.out ?_)
    intro w2 hr2 hg2
    have hb2 : Below W.heap.size W w2 := ((Below.refl W.heap.size W).alloc (Nat.le_refl _) (.cells zeroA 28)).grown hg2 (by simp) (fun k hk => by cases hk; exact Nat.le_refl _)
    have HC := hide (Hush.of_below (n := n0) hb2 (by have := HI.out.box.lt; omega))
    have hlt : n0 ≤ W.heap.size := by have := HI.out.box.lt; omega
    gi_wp2
    refine HKK.out _ w2 ⟨hb2.size, fun k o _ hk _ => (hb2.block k (Array.getElem?_eq_some_iff.1 hk).1).trans hk⟩ ⟨hb2.mono hlt, fun cs hr => hr.later hb2⟩ ⟨W.heap.size, v, ?_, ?_, HI.out.hush (Nat.le_refl _) HC.out, told_hush HTO.out HC.out, fun e => ?_⟩
    · unfold actS
      rw [HA.out]
    · rw [← HA.out]
      exact hr2
    · have := (HI.out.own.lt _ e).2
      omega
  case body =>
    rintro l pre x c W ⟨g, v, rfl, hg, hi, ht, hne⟩
    obtain ⟨hr, hf, hgot, hend, hpart⟩ := ht
    obtain ⟨av, cv, hav⟩ := own_shape5 hgot.1
    obtain ⟨au, cu, hau⟩ := own_shape5 hgot.2
    obtain ⟨⟨r, va, vb⟩, k9⟩ := x
    simp only at hr hf hgot hend hpart hav hau
    subst hav hau
    have HTO : Hid (Told n0 bs pre ((r, .slice av r.ts.length cv, .slice au r.ds.length cu), k9) W) := ⟨hr, hf, hgot, hend, hpart⟩
    have HI := hide hi
    have HNE := hide hne
    have HG := hide hg
    have hcl := hg.cell 1 (.int .u64 (r.l : Int)) rfl
    have hlast := hi.last.cell 0 _ rfl
    have hrl : r.l < 18446744073709551616 := by have := hr.lm; unfold maxP at this; omega
    have hll := last_lt (recs pre) 0 hi.rise (by decide)
    clear hr hf hgot hend hpart hi hne hg
    generalize hLL : lastL 0 (recs pre) = ll at *
    have HLL := hide hLL
    clear hLL
    unfold actS
    dsimp only
    by_cases hle : r.l ≤ ll
    · gi_wp2
      obtain ⟨_, _, _, _, y2, hy2⟩ := HTO.out
      refine ⟨rfl, KeepsFrom.refl _ _, ⟨v, HI.out⟩, frameB r ++ y2, ?_, ?_⟩
      · rw [recs_snoc, framesB_snoc, List.append_assoc] at hy2
        exact hy2
      · rw [head_frame r HTO.out.1 y2, HLL.out]
        exact hle
    · obtain ⟨a9, c9, hv9⟩ := own_shape5 HI.out.own
      subst hv9
      have hcb := HI.out.box.cell 0 _ rfl
      obtain ⟨i0, hi, hz0, hz1, hz2⟩ := info_parts infoRc3
      have HPL : Hid (pre.length * 6 ≤ len) := by
        obtain ⟨_, _, _, _, y2, hy2⟩ := HTO.out
        have h1 := congrArg List.length hy2
        have h2 := framesB_long (recs pre)
        have h3 : (recs pre).length = pre.length := by simp [recs]
        rw [recs_snoc, framesB_snoc, List.length_append, List.length_append, HB.out.1] at h1
        unfold Hid
        omega
      have HWS : Hid (n0 ≤ W.heap.size) := by
        have := HI.out.box.lt
        unfold Hid
        omega
      gi_wp2_with (first | (refine wpListIn_load_at rfl 28 (.tmp 8) rfl g rfl #[.int .i64 r.k, .int .u64 (r.l : Int), .int .i64 r.t, .int .u64 (r.p : Int), .int .i64 r.c.k, .int .i64 r.c.pg, .int .i64 r.c.sl, .string r.c.o, .string r.c.n, .int .u64 (r.n : Int), .int .i64 r.s, .int .u64 (r.b : Int), .slice av r.ts.length cv, .slice au r.ds.length cu] HG.out _ Try.underlying28 rfl infoRc ?_) | (gi_at_builtin; refine wpListIn_append_own _ rfl (.tmp 18) (.tmp 20) 42 rfl n0 28 i0 (.agg zeroA) 14 160 Try.underlying42 hi hz0 hz1 hz2 rfl (by decide) _ pre.length _ rfl (HI.out.own.alloc _) ⟨W.heap.size, 0, none⟩ 1 1 (rcF (r, .slice av r.ts.length cv, .slice au r.ds.length cu)).toList rfl rfl (cells_new W 28 (rcF (r, .slice av r.ts.length cv, .slice au r.ds.length cu))) (by simp [rcF, rcA, Value.oneCell']) (by have := HPL.out; unfold maxLen; omega) (by have := HPL.out; omega) (by have := HWS.out; simp; omega) ?_))
      intro v' w1 hown' hgrow _
      obtain ⟨g', cap', rfl⟩ := ownsRow_succ hown'
      obtain ⟨hv1, hv2, hr2, hk2, hb2⟩ := Boxed.appended (t := 42) (v := .slice a9 pre.length c9) (W := W) HI.out.box (by decide) HI.out.own HWS.out (Nat.le_refl _) hown' hgrow
      have hc1 := hv1.cell
      have hf1 := hv1.frozen
      have HT : Hid (∀ k t cs, t ≠ 28 → t ≠ 42 → RowAt W k t cs → RowAt (w1.setCell ⟨n0, 0, none⟩ (.slice (some ⟨g', 0, none⟩) (pre.length + 1) cap')) k t cs) := fun k t cs h1 h2 hr => by
        have hr1 := hr.later ((Below.refl W.heap.size W).alloc (Nat.le_refl _) (.cells (rcF (r, .slice av r.ts.length cv, .slice au r.ds.length cu)) 28))
        have hr2 : RowAt w1 k t cs := (hgrow.block k hr1.lt (fun e => own_kind HI.out.own hr h1 e.symm)).trans hr1
        exact hr2.other _ _ (fun e => by
          subst e
          have := (show W.heap[_]? = _ from hr).symm.trans HI.out.box
          simp only [Option.some.injEq, Obj.cells.injEq] at this
          exact h2 this.2.1)
      have HGA : Hid (RowAt (w1.setCell ⟨n0, 0, none⟩ (.slice (some ⟨g', 0, none⟩) (pre.length + 1) cap')) g 28 (rcF (r, .slice av r.ts.length cv, .slice au r.ds.length cu))) := by
        have hr1 := HG.out.later ((Below.refl W.heap.size W).alloc (Nat.le_refl _) (.cells (rcF (r, .slice av r.ts.length cv, .slice au r.ds.length cu)) 28))
        have hr2 : RowAt w1 g 28 (rcF (r, .slice av r.ts.length cv, .slice au r.ds.length cu)) := (hgrow.block g hr1.lt (fun e => HNE.out e.symm)).trans hr1
        exact hr2.other _ _ (fun e => by
          subst e
          have := (show W.heap[_]? = _ from HG.out).symm.trans HI.out.box
          simp only [Option.some.injEq, Obj.cells.injEq] at this
          exact absurd this.2.1 (by decide))
      have HBA : Hid (RowAt (w1.setCell ⟨n0, 0, none⟩ (.slice (some ⟨g', 0, none⟩) (pre.length + 1) cap')) n0 42 #[.slice (some ⟨g', 0, none⟩) (pre.length + 1) cap'] ∧ (w1.setCell ⟨n0, 0, none⟩ (.slice (some ⟨g', 0, none⟩) (pre.length + 1) cap')).ownsRow n0 28 14 (.slice (some ⟨g', 0, none⟩) (pre.length + 1) cap') (pre.length + 1) (flatR (pre.map (·.1)) ++ (rcF (r, .slice av r.ts.length cv, .slice au r.ds.length cu)).toList) ∧ KeepsOthers W (w1.setCell ⟨n0, 0, none⟩ (.slice (some ⟨g', 0, none⟩) (pre.length + 1) cap')) ∧ Below n0 W (w1.setCell ⟨n0, 0, none⟩ (.slice (some ⟨g', 0, none⟩) (pre.length + 1) cap'))) := ⟨hv2, hr2, hk2, hb2⟩
      clear hv1 hv2 hr2 hk2 hb2 hown' hgrow hcb hcl hlast
      gi_wp2
      refine gen_w (fun A1 => Hid (∀ k t cs, t ≠ 28 → t ≠ 42 → RowAt W k t cs → RowAt A1 k t cs) ∧ Hid (RowAt A1 g 28 (rcF (r, .slice av r.ts.length cv, .slice au r.ds.length cu))) ∧ Hid (RowAt A1 n0 42 #[.slice (some ⟨g', 0, none⟩) (pre.length + 1) cap'] ∧ A1.ownsRow n0 28 14 (.slice (some ⟨g', 0, none⟩) (pre.length + 1) cap') (pre.length + 1) (flatR (pre.map (·.1)) ++ (rcF (r, .slice av r.ts.length cv, .slice au r.ds.length cu)).toList) ∧ KeepsOthers W A1 ∧ Below n0 W A1)) ⟨HT, HGA, HBA⟩ ?_
      clear HT HGA HBA hc1 hf1
      rintro A1 ⟨HT, HGA, HBA⟩
      have HS := hide (HT.out _ _ _ (show (3 : TypeId) ≠ 28 by decide) (by decide) HI.out.size)
      have HL := hide (HT.out _ _ _ (show (22 : TypeId) ≠ 28 by decide) (by decide) HI.out.last)
      have c1 := HGA.out.cell 1 (.int .u64 (r.l : Int)) rfl
      have c2 := HS.out.cell 0 _ rfl
      have f2 := HS.out.free 0
      have c3 := HL.out.cell 0 _ rfl
      have f3 := HL.out.free 0
      have n1 : ¬ g = n0 + 1 := fun e => by
        subst e
        have := (show A1.heap[_]? = _ from HGA.out).symm.trans HS.out
        simp only [Option.some.injEq, Obj.cells.injEq] at this
        exact absurd this.2.1 (by decide)
      have n2 : ¬ g = n0 + 1 + 1 := fun e => by
        subst e
        have := (show A1.heap[_]? = _ from HGA.out).symm.trans HL.out
        simp only [Option.some.injEq, Obj.cells.injEq] at this
        exact absurd this.2.1 (by decide)
      have hmix : Try.prog.follows .mixedOrders = true := by kernel_rfl
      have HFIN : Hid (KeepsFrom w4.heap.size W ((A1.setCell ⟨n0 + 1, 0, none⟩ (.int .i64 (k9 : Int))).setCell ⟨n0 + 1 + 1, 0, none⟩ (.int .u64 (r.l : Int))).drew ∧ KpI n0 (n0 + 1 + 1 + 1) W ((A1.setCell ⟨n0 + 1, 0, none⟩ (.int .i64 (k9 : Int))).setCell ⟨n0 + 1 + 1, 0, none⟩ (.int .u64 (r.l : Int))).drew ∧ ∃ v, ScI n0 w bs v (pre ++ [((r, .slice av r.ts.length cv, .slice au r.ds.length cu), k9)]) ((A1.setCell ⟨n0 + 1, 0, none⟩ (.int .i64 (k9 : Int))).setCell ⟨n0 + 1 + 1, 0, none⟩ (.int .u64 (r.l : Int))).drew) := by
        have hle' : ll < r.l := by omega
        have hpt := HTO.out.2.2.2.2
        have hS1 : RowAt (A1.setCell ⟨n0 + 1, 0, none⟩ (.int .i64 (k9 : Int))) (n0 + 1) 3 #[.int .i64 (k9 : Int)] := HS.out.set 0 _
        have hO : ∀ k t cs, k ≠ n0 + 1 → k ≠ n0 + 1 + 1 → RowAt A1 k t cs → RowAt ((A1.setCell ⟨n0 + 1, 0, none⟩ (.int .i64 (k9 : Int))).setCell ⟨n0 + 1 + 1, 0, none⟩ (.int .u64 (r.l : Int))).drew k t cs := fun k t cs h1 h2 hr => (hr.other _ _ h1).other _ _ h2
        have hOT : ∀ k t cs, t ≠ 3 → t ≠ 22 → RowAt A1 k t cs → RowAt ((A1.setCell ⟨n0 + 1, 0, none⟩ (.int .i64 (k9 : Int))).setCell ⟨n0 + 1 + 1, 0, none⟩ (.int .u64 (r.l : Int))).drew k t cs := fun k t cs h1 h2 hr => hO k t cs (fun e => by
            subst e
            have := (show A1.heap[_]? = _ from hr).symm.trans HS.out
            simp only [Option.some.injEq, Obj.cells.injEq] at this
            exact h1 this.2.1) (fun e => by
            subst e
            have := (show A1.heap[_]? = _ from hr).symm.trans HL.out
            simp only [Option.some.injEq, Obj.cells.injEq] at this
            exact h2 this.2.1) hr
        have hbB : Below n0 W ((A1.setCell ⟨n0 + 1, 0, none⟩ (.int .i64 (k9 : Int))).setCell ⟨n0 + 1 + 1, 0, none⟩ (.int .u64 (r.l : Int))).drew := below_drew ((HBA.out.2.2.2.setCell (p := ⟨n0 + 1, 0, none⟩) (by show n0 ≤ n0 + 1; omega) _).setCell (p := ⟨n0 + 1 + 1, 0, none⟩) (by show n0 ≤ n0 + 1 + 1; omega) _)
        refine ⟨(((HBA.out.2.2.1.trans (KeepsOthers.setCell _ _ _)).trans (KeepsOthers.setCell _ _ _)).trans (KeepsOthers.drew _)).from _, ⟨hbB, fun cs hr => ?_⟩, .slice (some ⟨g', 0, none⟩) (pre.length + 1) cap', ?_⟩
        · exact hOT _ _ _ (by decide) (by decide) (HT.out _ _ _ (show (30 : TypeId) ≠ 28 by decide) (by decide) hr)
        · have hKO : ∀ e, e ≠ 28 → e ≠ 42 → e ≠ 3 → e ≠ 22 → ∀ k cs, RowAt W k e cs → RowAt ((A1.setCell ⟨n0 + 1, 0, none⟩ (.int .i64 (k9 : Int))).setCell ⟨n0 + 1 + 1, 0, none⟩ (.int .u64 (r.l : Int))).drew k e cs := fun e h1 h2 h3 h4 k cs hr => hOT _ _ _ h3 h4 (HT.out _ _ _ h1 h2 hr)
          refine ⟨hOT _ _ _ (by decide) (by decide) HBA.out.1, ?_, ?_, ?_, ?_, ?_, ?_, HI.out.bel.trans hbB⟩
          · have ho := own_kept HBA.out.2.1 (fun k cs hr => hOT k 28 cs (by decide) (by decide) hr)
            rw [List.length_append, List.map_append, flatR_append]
            exact ho
          · have hq := HTO.out.2.2.2.1
            simp only at hq
            rw [← hq]
            exact hS1.other _ _ (by show n0 + 1 ≠ n0 + 1 + 1; omega)
          · rw [recs_snoc, last_snoc]
            exact (HL.out.other ⟨n0 + 1, 0, none⟩ (.int .i64 (k9 : Int)) (by show n0 + 1 + 1 ≠ n0 + 1; omega)).set 0 (.int .u64 (r.l : Int))
          · rw [recs_snoc, rise_snoc]
            exact ⟨HI.out.rise, HTO.out.1, by rw [HLL.out]; exact hle'⟩
          · exact hpt
          · intro z hz
            rcases List.mem_append.1 hz with hz | hz
            · exact ⟨(HI.out.got z hz).1, own_kept (HI.out.got z hz).2.1 (hKO _ (by decide) (by decide) (by decide) (by decide)), own_kept (HI.out.got z hz).2.2 (hKO _ (by decide) (by decide) (by decide) (by decide))⟩
            · obtain rfl := List.mem_singleton.1 hz
              exact ⟨HTO.out.2.1, own_kept HTO.out.2.2.1.1 (hKO _ (by decide) (by decide) (by decide) (by decide)), own_kept HTO.out.2.2.1.2 (hKO _ (by decide) (by decide) (by decide) (by decide))⟩
      gi_region_with_o (fail)
      all_goals exact HFIN.out
  case done =>
    rintro D xs W hD ⟨y, hy, he⟩ ⟨v, hi⟩ hK
    obtain ⟨a9, c9, hv9⟩ := own_shape5 hi.own
    subst hv9
    have c1 := hi.box.cell 0 _ rfl
    have c2 := hi.size.cell 0 _ rfl
    have HI := hide hi
    have HEN := hide (scan_end hy hi.rise (.inl he))
    have HKK := hide hK
    have HDD := hide hD
    clear hi hy he hK hD
    generalize hmm : (framesB (recs xs)).length = mm at *
    have HMM := hide hmm
    clear hmm
    gi_wp2
    gi_region
    gi_wp2
    refine ⟨by simp, .inl ⟨_, _, rfl, run_takeDeferred HKK.out, ?_⟩⟩
    refine ⟨_, results_tmp3 rfl _ _ _, ?_⟩
    exact scan_fin HN0.out HI.out HEN.out (Hush.put _ (Nat.le_trans hz4 HDD.out) HKK.out rfl)
  case stop =>
    rintro D xs W hD ⟨v, hi, y, hy, he⟩ hK
    obtain ⟨a9, c9, hv9⟩ := own_shape5 hi.own
    subst hv9
    have c1 := hi.box.cell 0 _ rfl
    have c2 := hi.size.cell 0 _ rfl
    have HI := hide hi
    have HEN := hide (scan_end hy hi.rise (.inr he))
    have HKK := hide hK
    have HDD := hide hD
    clear hi hy he hK hD
    generalize hmm : (framesB (recs xs)).length = mm at *
    have HMM := hide hmm
    clear hmm
    gi_wp2
    gi_region
    gi_wp2
    refine ⟨by simp, .inl ⟨_, _, rfl, run_takeDeferred HKK.out, ?_⟩⟩
    refine ⟨_, results_tmp3 rfl _ _ _, ?_⟩
    exact scan_fin HN0.out HI.out HEN.out (Hush.put _ (Nat.le_trans hz4 HDD.out) HKK.out rfl)

def msR (ms : List (Rec × Value × Value)) : List Rec := ms.map (·.1)
theorem msR_snoc (ms : List (Rec × Value × Value)) (m : Rec × Value × Value) : msR (ms ++ [m]) = msR ms ++ [m.1] := by simp [msR]
/-- What Scan answers. -/
def ScanAns (w : World) (bs : List UInt8) (len : Nat) (e : Ending) (w' : World) : Prop :=
  ∃ v ms, e = .returned (.tuple #[v, .int .i64 ((scanL bs).2 : Int), .bool (decide ((scanL bs).2 = len))]) ∧ msR ms = (scanL bs).1 ∧
    w'.ownsRow w.heap.size 28 14 v ms.length (flatR ms) ∧ (∀ m ∈ ms, m.1.fits ∧ GotIn w.heap.size w' m.1 m.2.1 m.2.2) ∧ Below w.heap.size w w'
/-- THE CONTRACT. -/
theorem scan7_any (a : Option Addr) (len cap : Nat) (bs : List UInt8) (w : World) (hB : IsB w a len bs) (hl : len ≤ 140737488355) (hcap : len ≤ cap) :
    Calls Try.prog 12 #[.slice a len cap] w (ScanAns w bs len) := scan_any a len cap bs w hB hl hcap
end Go.Proofs.Ytgobegpmojkhaab

/-
  The contract of quaysidelaw07.awake.
-/
namespace Go.Proofs.Ytgobegpmojkhaab
open Go.RowKit
set_option linter.unusedVariables false

theorem aw_put : putL awR = frameB awR := by unfold putL; rw [if_pos (rightB_yes awR_right)]
theorem aw_len : (frameB awR).length = 27 := by rw [frameB_length, awB]; rfl
theorem aw_scan : scanL (frameB awR) = ([awR], 27) := by
  have h := scan_end (bs := frameB awR) (y := []) (rs := [awR]) (by simp [framesB]) ⟨awR_right, by decide, trivial⟩ (.inl (by unfold headF; rw [if_pos (.inl (by decide))]; decide))
  have e : framesB [awR] = frameB awR := by simp [framesB]
  rw [e, aw_len] at h
  exact h

set_option maxRecDepth 8000 in
set_option maxHeartbeats 1600000 in
theorem awake7_any (w : World) : Calls Try.prog 5 #[] w fun e w' => e = .returned (.bool true) ∧ Below w.heap.size w w' := by
  have HP := hide (fun w => fput_ok awR _ _ w awR_right awR_fits (awR_in w))
  rw [awA, aw_len] at HP
  unfold awL at HP
  have HS := hide (fun a cap w hB hc => scan7_any a 27 cap (frameB awR) w hB (by decide) hc)
  unfold ScanAns at HS
  rw [aw_scan] at HS
  go_enter Try.func5, Try.ntmps5
  go_wp2_with fail
  refine (HP.out _).mono ?_
  rintro e w1 ⟨v1, rfl, hown1, hb1⟩
  obtain ⟨a1, c1, rfl, hc1, hB1⟩ := shape_isB hown1
  have HB1 := hide hB1
  have HD1 := hide hb1
  clear hown1 hB1 hb1 HP
  go_wp2_with fail
  refine (HS.out a1 c1 w1 HB1.out hc1).mono ?_
  rintro e w2 ⟨v2, ms, rfl, hms, hown2, -, hb2⟩
  have d2 := HD1.out.trans (hb2.mono HD1.out.size)
  have hl : ms.length = 1 := by
    have := congrArg List.length hms
    simpa [msR] using this
  obtain ⟨a2, c2, rfl⟩ := own_shape5 hown2
  rw [hl]
  clear hms hown2 hb2 hl HS HD1 HB1
  simp only [decide_true]
  go_wp2
  go_ret
  exact ⟨rfl, d2⟩
end Go.Proofs.Ytgobegpmojkhaab

/-
  The contract of quaysideref06.Same: all but the lists.
-/
namespace Go.Proofs.Ytgobegpmojkhaab
open Go.RowKit
set_option linter.unusedVariables false

theorem bne_yes {a b : Int} (h : ¬ a = b) : (a != b) = true := by rw [bne, beq_no h]; rfl
theorem bne_no {a b : Int} (h : a = b) : (a != b) = false := by rw [bne, beq_yes h]; rfl
/-- All is alike but the lists. -/
def Rec.flat (a b : Rec) : Prop := a.k = b.k ∧ a.l = b.l ∧ a.t = b.t ∧ a.p = b.p ∧ a.c = b.c ∧ a.n = b.n ∧ a.s = b.s ∧ a.b = b.b

set_option maxRecDepth 4000 in
set_option maxHeartbeats 6400000 in
theorem rsame_no (a b : Rec) (va vb ua ub : Value) (w : World) (hn : ¬ Rec.flat a b) (ha : RcIn w a va vb) (hb : RcIn w b ua ub) :
    Calls Try.prog 10 #[.agg (rcA a va vb), .agg (rcA b ua ub)] w fun e w' => e = .returned (.bool false) ∧ Below w.heap.size w w' := by
  have HN := hide hn
  clear hn
  have HA := hide ha
  have HB := hide hb
  obtain ⟨⟨a1, cap1, rfl, -⟩, ⟨a2, cap2, rfl, -⟩⟩ := ha
  obtain ⟨⟨b1, dap1, rfl, -⟩, ⟨b2, dap2, rfl, -⟩⟩ := hb
  have K0 := Keeps.two w 28 28 (rcA a (.slice a1 a.ts.length cap1) (.slice a2 a.ds.length cap2)) (rcA b (.slice b1 b.ts.length dap1) (.slice b2 b.ds.length dap2))
  have HK := hide K0
  obtain ⟨c0, c1, c2, c3, c9, c10, c11, c12, c13⟩ := rc_cells K0.1.2.1
  obtain ⟨d0, d1, d2, d3, d9, d10, d11, d12, d13⟩ := rc_cells K0.1.1
  obtain ⟨c4, c5, c6, c7, c8⟩ := rc_chg K0.1.2.1
  obtain ⟨d4, d5, d6, d7, d8⟩ := rc_chg K0.1.1
  have hb0 := K0.2
  clear K0
  clear HK HA HB
  by_cases hk : a.k = b.k
  case neg =>
    have gk := beq_no hk
    have kk := bne_yes hk
    clear hk
    clear HN
    go_enter Try.func10, Try.ntmps10
    go_wp2
    go_ret
    exact ⟨rfl, hb0⟩
  have Hk := hide hk
  have gk := beq_yes hk
  have kk := bne_no hk
  clear hk
  by_cases hl : (a.l : Int) = (b.l : Int)
  case neg =>
    have gl := beq_no hl
    have kl := bne_yes hl
    clear hl
    clear HN
    go_enter Try.func10, Try.ntmps10
    go_wp2
    go_ret
    exact ⟨rfl, hb0⟩
  have Hl := hide hl
  have gl := beq_yes hl
  have kl := bne_no hl
  clear hl
  by_cases ht : a.t = b.t
  case neg =>
    have gt := beq_no ht
    have kt := bne_yes ht
    clear ht
    clear HN
    go_enter Try.func10, Try.ntmps10
    go_wp2
    go_ret
    exact ⟨rfl, hb0⟩
  have Ht := hide ht
  have gt := beq_yes ht
  have kt := bne_no ht
  clear ht
  by_cases hp : (a.p : Int) = (b.p : Int)
  case neg =>
    have gp := beq_no hp
    have kp := bne_yes hp
    clear hp
    clear HN
    go_enter Try.func10, Try.ntmps10
    go_wp2
    go_ret
    exact ⟨rfl, hb0⟩
  have Hp := hide hp
  have gp := beq_yes hp
  have kp := bne_no hp
  clear hp
  by_cases hck : a.c.k = b.c.k
  case neg =>
    have gck := beq_no hck
    have kck := bne_yes hck
    clear hck
    clear HN
    go_enter Try.func10, Try.ntmps10
    go_wp2
    go_ret
    exact ⟨rfl, hb0⟩
  have Hck := hide hck
  have gck := beq_yes hck
  have kck := bne_no hck
  clear hck
  by_cases hcp : a.c.pg = b.c.pg
  case neg =>
    have gcp := beq_no hcp
    have kcp := bne_yes hcp
    clear hcp
    clear HN
    go_enter Try.func10, Try.ntmps10
    go_wp2
    go_ret
    exact ⟨rfl, hb0⟩
  have Hcp := hide hcp
  have gcp := beq_yes hcp
  have kcp := bne_no hcp
  clear hcp
  by_cases hcs : a.c.sl = b.c.sl
  case neg =>
    have gcs := beq_no hcs
    have kcs := bne_yes hcs
    clear hcs
    clear HN
    go_enter Try.func10, Try.ntmps10
    go_wp2
    go_ret
    exact ⟨rfl, hb0⟩
  have Hcs := hide hcs
  have gcs := beq_yes hcs
  have kcs := bne_no hcs
  clear hcs
  by_cases hco : a.c.o.toList = b.c.o.toList
  case neg =>
    clear HN
    go_enter Try.func10, Try.ntmps10
    go_wp2
    go_ret
    exact ⟨rfl, hb0⟩
  have Hco := hide hco
  by_cases hcn : a.c.n.toList = b.c.n.toList
  case neg =>
    clear HN
    go_enter Try.func10, Try.ntmps10
    go_wp2
    go_ret
    exact ⟨rfl, hb0⟩
  have Hcn := hide hcn
  by_cases hn : (a.n : Int) = (b.n : Int)
  case neg =>
    have gn := beq_no hn
    have kn := bne_yes hn
    clear hn
    clear HN
    go_enter Try.func10, Try.ntmps10
    go_wp2
    go_ret
    exact ⟨rfl, hb0⟩
  have Hn := hide hn
  have gn := beq_yes hn
  have kn := bne_no hn
  clear hn
  by_cases hs : a.s = b.s
  case neg =>
    have gs := beq_no hs
    have ks := bne_yes hs
    clear hs
    clear HN
    go_enter Try.func10, Try.ntmps10
    go_wp2
    go_ret
    exact ⟨rfl, hb0⟩
  have Hs := hide hs
  have gs := beq_yes hs
  have ks := bne_no hs
  clear hs
  by_cases hb : (a.b : Int) = (b.b : Int)
  case neg =>
    have gb := beq_no hb
    have kb := bne_yes hb
    clear hb
    clear HN
    go_enter Try.func10, Try.ntmps10
    go_wp2
    go_ret
    exact ⟨rfl, hb0⟩
  have Hb := hide hb
  have gb := beq_yes hb
  have kb := bne_no hb
  clear hb
  exact absurd ⟨Hk.out, Int.ofNat_inj.1 Hl.out, Ht.out, Int.ofNat_inj.1 Hp.out, (like_iff _ _).1 ⟨Hck.out, Hcp.out, Hcs.out, str_same Hco.out, str_same Hcn.out⟩, Int.ofNat_inj.1 Hn.out, Hs.out, Int.ofNat_inj.1 Hb.out⟩ HN.out
end Go.Proofs.Ytgobegpmojkhaab
