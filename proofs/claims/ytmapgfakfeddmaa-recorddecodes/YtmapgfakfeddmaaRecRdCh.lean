/-
  The reader of package record: structs beside it, and change.
-/
import Derived.Test.YtmapgfakfeddmaaRecReader
import Derived.Test.YtmapgfakfeddmaaRowOne
namespace Go.Proofs.Ytmapgfakfeddmaa
open Go.RowKit
set_option linter.unusedVariables false

/-- The reader, and structs beside it: what was there when it began is as it was, but for the reader's block. -/
structure RK (w x : World) (g : Nat) (a : Option Addr) (len cap : Nat) (bs : List UInt8) (s : St) (r : Rec) (va vb : Value) (l : List (Nat × TypeId × Array Value)) : Prop where
  rb : RbAt x g a len cap bs s r va vb
  gr : w.grownBy x (some g)
  has : Has x l
def Off (g : Nat) (l : List (Nat × TypeId × Array Value)) : Prop := ∀ e ∈ l, e.1 ≠ g
theorem has_grown {g : Nat} {x y : World} (h : x.grownBy y (some g)) : ∀ {l : List (Nat × TypeId × Array Value)}, Off g l → Has x l → Has y l
  | [], _, _ => trivial
  | e :: l, ha, hh => ⟨row_grown hh.1 h (ha e (by simp)), has_grown h (fun e he => ha e (by simp [he])) hh.2⟩
theorem RK.step {w x y : World} {g : Nat} {a : Option Addr} {len cap : Nat} {bs : List UInt8} {s s' : St} {r r' : Rec} {va vb va' vb' : Value} {l : List (Nat × TypeId × Array Value)} (h : RK w x g a len cap bs s r va vb l) (hb : RbAt y g a len cap bs s' r' va' vb') (hg : x.grownBy y (some g)) (ho : Off g l) : RK w y g a len cap bs s' r' va' vb' l :=
  ⟨hb, grown_trans h.gr hg, has_grown hg ho h.has⟩
theorem RbAt.other {w : World} {g : Nat} {a : Option Addr} {len cap : Nat} {bs : List UInt8} {s : St} {r : Rec} {va vb : Value} (h : RbAt w g a len cap bs s r va vb) {b : Nat} (hb : g < b) (j : Nat) (v : Value) : RbAt (w.setCell ⟨b, j, none⟩ v) g a len cap bs s r va vb := by
  obtain ⟨k, h1, h2, h3⟩ := h.row
  exact ⟨⟨k, h1.other _ _ (Nat.ne_of_lt hb), h2, h3⟩, isB_grown h.bytes (grown_set v (grown_refl w (some b))) (fun hp x hx => Nat.ne_of_lt (Nat.lt_trans (h.apart hp x hx) hb)), h.room, h.apart⟩
theorem RbAt.later {w x : World} {g : Nat} {a : Option Addr} {len cap : Nat} {bs : List UInt8} {s : St} {r : Rec} {va vb : Value} (h : RbAt w g a len cap bs s r va vb) (hb : Below w.heap.size w x) : RbAt x g a len cap bs s r va vb := by
  obtain ⟨k, h1, h2, h3⟩ := h.row
  exact ⟨⟨k, h1.later hb, h2, h3⟩, h.bytes.below hb, h.room, h.apart⟩
theorem RbAt.lt {w : World} {g : Nat} {a : Option Addr} {len cap : Nat} {bs : List UInt8} {s : St} {r : Rec} {va vb : Value} (h : RbAt w g a len cap bs s r va vb) : g < w.heap.size := by
  obtain ⟨k, h1, _⟩ := h.row
  exact h1.lt
theorem RK.later {w x y : World} {g : Nat} {a : Option Addr} {len cap : Nat} {bs : List UInt8} {s : St} {r : Rec} {va vb : Value} {l : List (Nat × TypeId × Array Value)} (h : RK w x g a len cap bs s r va vb l) (hb : Below x.heap.size x y) : RK w y g a len cap bs s r va vb l :=
  ⟨h.rb.later hb, grown_trans h.gr (of_below hb), h.has.later hb⟩
/-- A cell of the newest struct beside the reader is written. -/
theorem RK.put {w x : World} {g : Nat} {a : Option Addr} {len cap : Nat} {bs : List UInt8} {s : St} {r : Rec} {va vb : Value} {b : Nat} {t : TypeId} {cs : Array Value} {l : List (Nat × TypeId × Array Value)} (h : RK w x g a len cap bs s r va vb ((b, t, cs) :: l)) (hb : g < b) (hw : w.heap.size ≤ b) (hl : ∀ e ∈ l, e.1 ≠ b) (j : Nat) (v : Value) :
    RK w (x.setCell ⟨b, j, none⟩ v) g a len cap bs s r va vb ((b, t, cs.setIfInBounds j v) :: l) := by
  refine ⟨h.rb.other hb j v, ?_, h.has.1.set j v, ?_⟩
  · have hs := grown_set (g := b) (j := j) v (grown_refl x (some b))
    refine ⟨hs.os.trans h.gr.os, hs.tape.trans h.gr.tape, hs.output.trans h.gr.output, Nat.le_trans h.gr.size hs.size, fun k hk hne => ?_⟩
    rw [hs.block k (Nat.lt_of_lt_of_le hk h.gr.size) (fun e => by cases e; omega)]
    exact h.gr.block k hk hne
  · have : ∀ l : List (Nat × TypeId × Array Value), (∀ e ∈ l, e.1 ≠ b) → Has x l → Has (x.setCell ⟨b, j, none⟩ v) l := by
      intro l
      induction l with
      | nil => exact fun _ _ => trivial
      | cons e l ih => exact fun hl hh => ⟨hh.1.other _ _ (hl e (by simp)), ih (fun e he => hl e (by simp [he])) hh.2⟩
    exact this l hl h.has.2
theorem conv_i64 (n : Nat) (h : n < 9223372036854775808) : IntKind.i64.wrap (n : Int) = (n : Int) := by
  rw [IntKind.wrap_i64]
  omega

set_option maxRecDepth 4000 in
set_option maxHeartbeats 1600000 in
theorem bchange_any (g : Nat) (a : Option Addr) (len cap : Nat) (bs : List UInt8) (s : St) (r : Rec) (va vb : Value) (w : World) (h : RbAt w g a len cap bs s r va vb) :
    Calls Try.prog 46 #[.pointer (some ⟨g, 0, none⟩)] w fun e w' => e = .returned (.agg (chA (pCh s).1)) ∧ RbAt w' g a len cap bs (pCh s).2 r va vb ∧ w.grownBy w' (some g) := by
  obtain ⟨n1, s1, h1⟩ : ∃ n s', pNum 1 s = (n, s') := ⟨_, _, rfl⟩
  have b1 : n1 < 256 ^ 1 := by have := num_lt 1 s; rw [h1] at this; exact this
  have N1 := hide (fun x h => bnum_any g a len cap bs s r va vb 1 x (by omega) h)
  have ew1 := conv_i64 n1 (by omega)
  rw [h1] at N1
  obtain ⟨n2, s2, h2⟩ : ∃ n s', pNum 2 s1 = (n, s') := ⟨_, _, rfl⟩
  have b2 : n2 < 256 ^ 2 := by have := num_lt 2 s1; rw [h2] at this; exact this
  have N2 := hide (fun x h => bnum_any g a len cap bs s1 r va vb 2 x (by omega) h)
  have ew2 := conv_i64 n2 (by omega)
  rw [h2] at N2
  obtain ⟨n3, s3, h3⟩ : ∃ n s', pNum 1 s2 = (n, s') := ⟨_, _, rfl⟩
  have b3 : n3 < 256 ^ 1 := by have := num_lt 1 s2; rw [h3] at this; exact this
  have N3 := hide (fun x h => bnum_any g a len cap bs s2 r va vb 1 x (by omega) h)
  have ew3 := conv_i64 n3 (by omega)
  rw [h3] at N3
  obtain ⟨n4, s4, h4⟩ : ∃ n s', pText s3 = (n, s') := ⟨_, _, rfl⟩
  have N4 := hide (fun x h => btext_any g a len cap bs s3 r va vb x h)
  rw [h4] at N4
  obtain ⟨n5, s5, h5⟩ : ∃ n s', pText s4 = (n, s') := ⟨_, _, rfl⟩
  have N5 := hide (fun x h => btext_any g a len cap bs s4 r va vb x h)
  rw [h5] at N5
  have hP : pCh s = (⟨n1, n2, n3, n4, n5⟩, s5) := by
    simp only [pCh, bindP, pureP, h1, h2, h3, h4, h5]
  rw [hP]
  clear hP h1 h2 h3 h4 h5 b1 b2 b3
  have K2 := Keeps.two w 24 24 #[.int .i64 0, .int .i64 0, .int .i64 0, .string ⟨#[]⟩, .string ⟨#[]⟩] #[.int .i64 0, .int .i64 0, .int .i64 0, .string ⟨#[]⟩, .string ⟨#[]⟩]
  have HKI : Hid (RK w ((w.alloc (.cells #[.int .i64 0, .int .i64 0, .int .i64 0, .string ⟨#[]⟩, .string ⟨#[]⟩] 24)).alloc (.cells #[.int .i64 0, .int .i64 0, .int .i64 0, .string ⟨#[]⟩, .string ⟨#[]⟩] 24)) g a len cap bs s r va vb [(w.heap.size + 1, 24, #[.int .i64 0, .int .i64 0, .int .i64 0, .string ⟨#[]⟩, .string ⟨#[]⟩]), (w.heap.size, 24, #[.int .i64 0, .int .i64 0, .int .i64 0, .string ⟨#[]⟩, .string ⟨#[]⟩])]) := ⟨h.later K2.2, of_below K2.2, K2.1⟩
  have hlt := h.lt
  have HGI : Hid (g < w.heap.size + 1 ∧ w.heap.size ≤ w.heap.size + 1 ∧ w.heap.size ≠ w.heap.size + 1 ∧ g < w.heap.size) := ⟨by omega, by omega, by omega, hlt⟩
  clear K2 h hlt
  obtain ⟨g1, hg1⟩ : ∃ g1, g1 = w.heap.size := ⟨_, rfl⟩
  obtain ⟨g2, hg2⟩ : ∃ g2, g2 = w.heap.size + 1 := ⟨_, rfl⟩
  go_enter Try.func46, Try.ntmps46
  go_wp2_with fail
  rw [← hg2, ← hg1] at HKI
  rw [← hg2, ← hg1]
  rw [← hg2] at HGI
  have HGG : Hid (g < g2 ∧ w.heap.size ≤ g2) := ⟨HGI.out.1, HGI.out.2.1⟩
  have HG1 : Hid (g1 ≠ g2 ∧ g < g1 ∧ w.heap.size ≤ g1) := ⟨by rw [hg1]; exact HGI.out.2.2.1, by rw [hg1]; exact HGI.out.2.2.2, by rw [hg1]; exact Nat.le_refl _⟩
  have HRS : Hid (∀ e ∈ ([(g1, 24, #[.int .i64 0, .int .i64 0, .int .i64 0, .string ⟨#[]⟩, .string ⟨#[]⟩])] : List (Nat × TypeId × Array Value)), e.1 ≠ g2) := fun e he => by
    simp only [List.mem_cons, List.not_mem_nil, or_false] at he
    subst he
    exact HG1.out.1
  have HO0 : Hid (∀ cs : Array Value, Off g [(g2, 24, cs), (g1, 24, #[.int .i64 0, .int .i64 0, .int .i64 0, .string ⟨#[]⟩, .string ⟨#[]⟩])]) := fun cs e he => by
    simp only [List.mem_cons, List.not_mem_nil, or_false] at he
    rcases he with rfl | rfl
    · exact Nat.ne_of_gt HGG.out.1
    · exact Nat.ne_of_gt HG1.out.2.1
  refine gen_calls (fun x => Hid (RK w x g a len cap bs s r va vb [(g2, 24, #[.int .i64 0, .int .i64 0, .int .i64 0, .string ⟨#[]⟩, .string ⟨#[]⟩]), (g1, 24, #[.int .i64 0, .int .i64 0, .int .i64 0, .string ⟨#[]⟩, .string ⟨#[]⟩])])) HKI ?_
  clear HKI HGI hg1 hg2
  intro y0 HK0
  refine (N1.out _ HK0.out.rb).mono ?_
  rintro e x1 ⟨rfl, hb, hg⟩
  have HL1 := hide (HK0.out.step hb hg (HO0.out _))
  clear hb hg HK0 N1
  have d := HL1.out.has.1.cell 0 (.int .i64 0) rfl
  have f := HL1.out.has.1.free 0
  have HK1 : Hid (RK w (x1.setCell ⟨g2, 0, none⟩ (.int .i64 (n1 : Int))) g a len cap bs s1 r va vb [(g2, 24, #[.int .i64 (n1 : Int), .int .i64 0, .int .i64 0, .string ⟨#[]⟩, .string ⟨#[]⟩]), (g1, 24, #[.int .i64 0, .int .i64 0, .int .i64 0, .string ⟨#[]⟩, .string ⟨#[]⟩])]) := HL1.out.put HGG.out.1 HGG.out.2 HRS.out 0 (.int .i64 (n1 : Int))
  clear HL1
  go_wp2_with fail
  refine gen_calls (fun x => Hid (RK w x g a len cap bs s1 r va vb [(g2, 24, #[.int .i64 (n1 : Int), .int .i64 0, .int .i64 0, .string ⟨#[]⟩, .string ⟨#[]⟩]), (g1, 24, #[.int .i64 0, .int .i64 0, .int .i64 0, .string ⟨#[]⟩, .string ⟨#[]⟩])])) HK1 ?_
  clear HK1 d f
  intro y1 HK1
  refine (N2.out _ HK1.out.rb).mono ?_
  rintro e x2 ⟨rfl, hb, hg⟩
  have HL2 := hide (HK1.out.step hb hg (HO0.out _))
  clear hb hg HK1 N2
  have d := HL2.out.has.1.cell 1 (.int .i64 0) rfl
  have f := HL2.out.has.1.free 1
  have HK2 : Hid (RK w (x2.setCell ⟨g2, 1, none⟩ (.int .i64 (n2 : Int))) g a len cap bs s2 r va vb [(g2, 24, #[.int .i64 (n1 : Int), .int .i64 (n2 : Int), .int .i64 0, .string ⟨#[]⟩, .string ⟨#[]⟩]), (g1, 24, #[.int .i64 0, .int .i64 0, .int .i64 0, .string ⟨#[]⟩, .string ⟨#[]⟩])]) := HL2.out.put HGG.out.1 HGG.out.2 HRS.out 1 (.int .i64 (n2 : Int))
  clear HL2
  go_wp2_with fail
  refine gen_calls (fun x => Hid (RK w x g a len cap bs s2 r va vb [(g2, 24, #[.int .i64 (n1 : Int), .int .i64 (n2 : Int), .int .i64 0, .string ⟨#[]⟩, .string ⟨#[]⟩]), (g1, 24, #[.int .i64 0, .int .i64 0, .int .i64 0, .string ⟨#[]⟩, .string ⟨#[]⟩])])) HK2 ?_
  clear HK2 d f
  intro y2 HK2
  refine (N3.out _ HK2.out.rb).mono ?_
  rintro e x3 ⟨rfl, hb, hg⟩
  have HL3 := hide (HK2.out.step hb hg (HO0.out _))
  clear hb hg HK2 N3
  have d := HL3.out.has.1.cell 2 (.int .i64 0) rfl
  have f := HL3.out.has.1.free 2
  have HK3 : Hid (RK w (x3.setCell ⟨g2, 2, none⟩ (.int .i64 (n3 : Int))) g a len cap bs s3 r va vb [(g2, 24, #[.int .i64 (n1 : Int), .int .i64 (n2 : Int), .int .i64 (n3 : Int), .string ⟨#[]⟩, .string ⟨#[]⟩]), (g1, 24, #[.int .i64 0, .int .i64 0, .int .i64 0, .string ⟨#[]⟩, .string ⟨#[]⟩])]) := HL3.out.put HGG.out.1 HGG.out.2 HRS.out 2 (.int .i64 (n3 : Int))
  clear HL3
  go_wp2_with fail
  refine gen_calls (fun x => Hid (RK w x g a len cap bs s3 r va vb [(g2, 24, #[.int .i64 (n1 : Int), .int .i64 (n2 : Int), .int .i64 (n3 : Int), .string ⟨#[]⟩, .string ⟨#[]⟩]), (g1, 24, #[.int .i64 0, .int .i64 0, .int .i64 0, .string ⟨#[]⟩, .string ⟨#[]⟩])])) HK3 ?_
  clear HK3 d f
  intro y3 HK3
  refine (N4.out _ HK3.out.rb).mono ?_
  rintro e x4 ⟨rfl, hb, hg⟩
  have HL4 := hide (HK3.out.step hb hg (HO0.out _))
  clear hb hg HK3 N4
  have d := HL4.out.has.1.cell 3 (.string ⟨#[]⟩) rfl
  have f := HL4.out.has.1.free 3
  have HK4 : Hid (RK w (x4.setCell ⟨g2, 3, none⟩ (.string n4)) g a len cap bs s4 r va vb [(g2, 24, #[.int .i64 (n1 : Int), .int .i64 (n2 : Int), .int .i64 (n3 : Int), .string n4, .string ⟨#[]⟩]), (g1, 24, #[.int .i64 0, .int .i64 0, .int .i64 0, .string ⟨#[]⟩, .string ⟨#[]⟩])]) := HL4.out.put HGG.out.1 HGG.out.2 HRS.out 3 (.string n4)
  clear HL4
  go_wp2_with fail
  refine gen_calls (fun x => Hid (RK w x g a len cap bs s4 r va vb [(g2, 24, #[.int .i64 (n1 : Int), .int .i64 (n2 : Int), .int .i64 (n3 : Int), .string n4, .string ⟨#[]⟩]), (g1, 24, #[.int .i64 0, .int .i64 0, .int .i64 0, .string ⟨#[]⟩, .string ⟨#[]⟩])])) HK4 ?_
  clear HK4 d f
  intro y4 HK4
  refine (N5.out _ HK4.out.rb).mono ?_
  rintro e x5 ⟨rfl, hb, hg⟩
  have HL5 := hide (HK4.out.step hb hg (HO0.out _))
  clear hb hg HK4 N5
  have d := HL5.out.has.1.cell 4 (.string ⟨#[]⟩) rfl
  have f := HL5.out.has.1.free 4
  have HK5 : Hid (RK w (x5.setCell ⟨g2, 4, none⟩ (.string n5)) g a len cap bs s5 r va vb [(g2, 24, #[.int .i64 (n1 : Int), .int .i64 (n2 : Int), .int .i64 (n3 : Int), .string n4, .string n5]), (g1, 24, #[.int .i64 0, .int .i64 0, .int .i64 0, .string ⟨#[]⟩, .string ⟨#[]⟩])]) := HL5.out.put HGG.out.1 HGG.out.2 HRS.out 4 (.string n5)
  clear HL5
  go_wp2_with (first | (refine wpList_load_at rfl 24 (.tmp 3) rfl g2 rfl #[.int .i64 (n1 : Int), .int .i64 (n2 : Int), .int .i64 (n3 : Int), .string n4, .string n5] HK5.out.has.1 _ Try.underlying24 rfl infoCh ?_) | (refine wpList_store_at rfl 24 (.tmp 2) (.tmp 23) rfl g1 #[.int .i64 0, .int .i64 0, .int .i64 0, .string ⟨#[]⟩, .string ⟨#[]⟩] #[.int .i64 (n1 : Int), .int .i64 (n2 : Int), .int .i64 (n3 : Int), .string n4, .string n5] rfl rfl HK5.out.has.2.1 infoCh rfl (by simp [Value.oneCell']) ?_))
  intro w9 hr9 hk9 ho9
  have HROW := hide hr9
  have HX : Hid (RbAt w9 g a len cap bs s5 r va vb ∧ w.grownBy w9 (some g)) := by
    have hb := hk9 _ _ (Below.refl g1 _) (Nat.le_refl _)
    obtain ⟨k, q1, q2, q3⟩ := HK5.out.rb.row
    refine ⟨⟨⟨k, ho9 _ _ _ (Nat.ne_of_lt HG1.out.2.1) q1, q2, q3⟩, ?_, HK5.out.rb.room, HK5.out.rb.apart⟩, ?_⟩
    · refine ⟨HK5.out.rb.bytes.1, fun hp => ?_⟩
      obtain ⟨b, off, ha, hlt, hc⟩ := HK5.out.rb.bytes.2 hp
      have hbg : b < g1 := Nat.lt_trans (HK5.out.rb.apart hp _ ha) HG1.out.2.1
      exact ⟨b, off, ha, Nat.lt_of_lt_of_le hlt hb.size, fun j hj => (hb.cell (p := ⟨b, off + j, none⟩) hbg).trans (hc j hj)⟩
    · have hg := HK5.out.gr
      refine ⟨hb.os.trans hg.os, hb.tape.trans hg.tape, hb.output.trans hg.output, Nat.le_trans hg.size hb.size, fun k hk hne => ?_⟩
      rw [hb.block k (Nat.lt_of_lt_of_le hk HG1.out.2.2)]
      exact hg.block k hk hne
  clear hr9 hk9 ho9 HK5 d f
  go_wp2
  (try simp only [Exit.inBlock, Exit.then])
  refine bodyPost_ret (res_one rfl _ _ g1 #[.int .i64 (n1 : Int), .int .i64 (n2 : Int), .int .i64 (n3 : Int), .string n4, .string n5] _ rfl HROW.out Try.underlying24 rfl infoCh) rfl ?_
  exact ⟨rfl, HX.out.1, HX.out.2⟩
end Go.Proofs.Ytmapgfakfeddmaa
