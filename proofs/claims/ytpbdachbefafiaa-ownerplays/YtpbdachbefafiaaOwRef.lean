/-
  The contracts of the document's own directory. (gen14/ref.py)
-/
import Derived.Test.YtpbdachbefafiaaOwMem
import Derived.Test.YtpbdachbefafiaaOwNew
import Derived.Test.YtpbdachbefafiaaOwLists
import Derived.Test.YtpbdachbefafiaaRowOne
import Derived.BigRegion
namespace Go.Proofs.Ytpbdachbefafiaa
open Go.RowKit
set_option linter.unusedVariables false

abbrev DD (w : World) (g gr : Nat) (d : Dr) : Prop := DAt 55 64 w g gr d
/-- turn. -/
def Dr.tuE (d : Dr) (p : Int) (f t : Sp) : Int := match d.ix p with | none => 1 | some i => if isNd f.m = true then if isNd t.m = true then if d.is i f.k f.m then 0 else 13 else 1 else 1
def Dr.tu (d : Dr) (p : Int) (f t : Sp) : Dr := match d.ix p with | none => d | some i => if isNd f.m = true then if isNd t.m = true then if d.is i f.k f.m then d.set i t else d else d else d
theorem Dr.tu_mv (d : Dr) (p : Int) (f t : Sp) (h : isNd t.m = true) : d.tuE p f t = d.mvE p f.m f.k ∧ d.tu p f t = d.mv p f.m f.k t := by
  unfold Dr.tuE Dr.tu Dr.mvE Dr.mv
  cases d.ix p with
  | none => exact ⟨rfl, rfl⟩
  | some i => simp only [h, if_true]; exact ⟨trivial, trivial⟩
theorem Dr.tu_no (d : Dr) (p : Int) (f t : Sp) (h : isNd t.m = false) : d.tuE p f t = 1 ∧ d.tu p f t = d := by
  unfold Dr.tuE Dr.tu
  cases d.ix p with
  | none => exact ⟨rfl, rfl⟩
  | some i => simp only [h, Bool.false_eq_true, if_false, ite_self]; exact ⟨trivial, trivial⟩
theorem Dr.tu_sh (d : Dr) (p a b : Int) (hab : ¬ a = b) : d.tuE p ⟨1, a⟩ ⟨2, b⟩ = d.shE p a b ∧ d.tu p ⟨1, a⟩ ⟨2, b⟩ = d.sh p a b := by
  unfold Dr.shE Dr.sh
  by_cases h : isNd b = true
  · rw [if_pos h, if_pos h, if_neg hab, if_neg hab]
    exact d.tu_mv p ⟨1, a⟩ ⟨2, b⟩ h
  · rw [if_neg h, if_neg h]
    exact d.tu_no p ⟨1, a⟩ ⟨2, b⟩ (by simpa using h)
theorem Dr.tu_la (d : Dr) (p a : Int) : d.tuE p ⟨2, a⟩ ⟨1, a⟩ = d.laE p a ∧ d.tu p ⟨2, a⟩ ⟨1, a⟩ = d.la p a := by
  by_cases h : isNd a = true
  · exact d.tu_mv p ⟨2, a⟩ ⟨1, a⟩ h
  · have h2 : isNd a = false := by simpa using h
    have := d.tu_no p ⟨2, a⟩ ⟨1, a⟩ h2
    refine ⟨this.1.trans ?_, this.2.trans ?_⟩
    · unfold Dr.laE Dr.mvE
      cases d.ix p with
      | none => rfl
      | some i => simp only [h2, Bool.false_eq_true, if_false]
    · unfold Dr.la Dr.mv
      cases d.ix p with
      | none => rfl
      | some i => simp only [h2, Bool.false_eq_true, if_false]
theorem Dr.tu_le (d : Dr) (p a : Int) : d.tuE p ⟨1, a⟩ Sp.home = d.leE p a ∧ d.tu p ⟨1, a⟩ Sp.home = d.le p a := d.tu_mv p ⟨1, a⟩ Sp.home rfl
theorem Dr.tu_he (d : Dr) (hd : d.ok) (p : Int) (h : ¬ ((d.ix p).isSome = true ∧ ¬ (d.wh p).k = 3)) : d.tuE p (d.wh p) Sp.home = d.heE p ∧ d.tu p (d.wh p) Sp.home = d.he p := by
  unfold Dr.wh at *
  unfold Dr.tuE Dr.tu Dr.heE Dr.he
  cases e : d.ix p with
  | none => exact ⟨rfl, rfl⟩
  | some i =>
    rw [e] at h
    have h3 : (d.sp i).k = 3 := Classical.byContradiction fun q => h ⟨rfl, q⟩
    have hn : isNd (d.sp i).m = true := isNd_iff.2 (hd.node i)
    have h0 : isNd Sp.home.m = true := rfl
    simp only [hn, h0, h3, if_true, Dr.is, and_self]
theorem Dr.he_no (d : Dr) (p : Int) (h : (d.ix p).isSome = true) (h3 : ¬ (d.wh p).k = 3) : d.heE p = 13 ∧ d.he p = d := by
  unfold Dr.wh at h3
  unfold Dr.heE Dr.he
  cases e : d.ix p with
  | none => rw [e] at h; cases h
  | some i =>
    rw [e] at h3
    simp only [if_neg (show ¬ (d.sp i).k = 3 from h3)]
    exact ⟨trivial, trivial⟩
theorem infoP14 : (Try.prog.info? 64).map (fun i => (i.zero, i.size, i.bytes)) = some (some (.agg spZ), 2, 16) := by kernel_rfl
theorem infoP14s : (Try.prog.info? 64).map (·.size) = some 2 := by kernel_rfl
theorem run_mkP (k : Nat) (h : k ≤ 32) (w : World) : (Instr.makeSlice 53 (.int .i64 (k : Int)) (.int .i64 (k : Int))).run Try.prog w = .ok (.slice (some ⟨w.heap.size, 0, none⟩) k k) (w.alloc (.cells (mdS k) 64)) := by
  obtain ⟨z, hz0⟩ : ∃ z : Value, z = .agg spZ := ⟨_, rfl⟩
  have hI := infoP14
  rw [← hz0] at hI
  obtain ⟨i, hi, hz, hs, hb⟩ := info_parts hI
  have hr := run_make (P := Try.prog) w 53 64 i z Try.underlying53 hi hz .i64 .i64 (k : Int) (k : Int) (by omega) (by omega) (by rw [hb]; omega) (by omega)
  rw [Int.toNat_natCast, hs, hz0] at hr
  exact hr
set_option maxRecDepth 4000 in
set_option maxHeartbeats 800000 in
theorem rnew14_go (p : Int) (k : Nat) (w : World) (hk : k ≤ 32) (hk1 : 1 ≤ k) (q : Int) (hq : (if 32 < p then 32 else p) = q) (hp : (if 1 < q then q else 1) = (k : Int)) :
    Calls Try.prog 10 #[.int .i64 p] w fun e w' => ∃ g gr, e = .returned (.pointer (some ⟨g, 0, none⟩)) ∧ DD w' g gr (Dr.newN k) ∧ w.heap.size ≤ g ∧ w.heap.size ≤ gr ∧ Below w.heap.size w w' := by
  have hmk := fun w => run_mkP k hk w
  go_enter Try.func10, Try.ntmps10
  go_wp2
  go_ret
  have h1 := RowAt.new w 64 (mdS k)
  have h2 := RowAt.new (w.alloc (.cells (mdS k) 64)) 55 #[.slice (some ⟨w.heap.size, 0, none⟩) k k]
  rw [World.size_alloc] at h2
  refine ⟨w.heap.size + 1, w.heap.size, rfl, ⟨k, _, h2, h1.later ((Below.refl _ _).alloc (Nat.le_refl _) _), mdS_spb k, Nat.le_refl _, by unfold maxLen; omega, by decide, hk⟩, by omega, Nat.le_refl _, ?_⟩
  exact ((Below.refl _ _).alloc (Nat.le_refl _) _).alloc (by rw [World.size_alloc]; omega) _
theorem rnew14 (p : Int) (w : World) : Calls Try.prog 10 #[.int .i64 p] w fun e w' => ∃ g gr, e = .returned (.pointer (some ⟨g, 0, none⟩)) ∧ DD w' g gr (Dr.new p) ∧ w.heap.size ≤ g ∧ w.heap.size ≤ gr ∧ Below w.heap.size w w' := by
  have hk : (min (max p 1) 32).toNat ≤ 32 ∧ 1 ≤ (min (max p 1) 32).toNat := by omega
  refine rnew14_go p (min (max p 1) 32).toNat w hk.1 hk.2 (min p 32) ?_ ?_
  · by_cases h : 32 < p
    · rw [if_pos h]; omega
    · rw [if_neg h]; omega
  · by_cases h : 1 < min p 32
    · rw [if_pos h]; omega
    · rw [if_neg h]; omega
section
variable {w : World} {g gr : Nat} {d : Dr}
set_option maxRecDepth 4000 in
set_option maxHeartbeats 400000 in
theorem rnode14 (x : Int) : Calls Try.prog 35 #[.int .i64 x] w fun e w' => e = .returned (.bool (isNd x)) ∧ w = w' := by
  unfold isNd
  by_cases h1 : 0 ≤ x
  · have e1 : decide (0 ≤ x) = true := by simpa using h1
    by_cases h2 : x < 8
    · have e2 : decide (x < 8) = true := by simpa using h2
      rw [e1, e2]
      go_enter Try.func35, Try.ntmps35
      go_wp2
      go_ret
      exact ⟨rfl, rfl⟩
    · have e2 : decide (x < 8) = false := by simpa using h2
      rw [e1, e2]
      go_enter Try.func35, Try.ntmps35
      go_wp2
      go_ret
      exact ⟨rfl, rfl⟩
  · have e1 : decide (0 ≤ x) = false := by simpa using h1
    rw [e1]
    go_enter Try.func35, Try.ntmps35
    go_wp2
    go_ret
    exact ⟨rfl, rfl⟩
set_option maxRecDepth 4000 in
set_option maxHeartbeats 400000 in
theorem rok14 (p : Int) (h : DD w g gr d) : Calls Try.prog 34 #[.pointer (some ⟨g, 0, none⟩), .int .i64 p] w fun e w' => e = .returned (.bool (d.ix p).isSome) ∧ w = w' := by
  obtain ⟨cap, c0, hc, hc2⟩ := h.head
  have h32 := h.few
  clear h
  cases e : d.ix p with
  | some i =>
    obtain ⟨rfl, hi⟩ := Dr.ix_some e
    have i1 : (i : Int) < d.n := by omega
    have i2 : (0 : Int) ≤ (i : Int) := by omega
    clear e
    go_enter Try.func34, Try.ntmps34
    go_wp2
    go_ret
    exact ⟨by first | rfl | simp [hi], rfl⟩
  | none =>
    have hn := Dr.ix_none e
    clear e
    by_cases h0 : 0 ≤ p
    · have h1 : ¬ p < (d.n : Int) := by omega
      clear hn
      go_enter Try.func34, Try.ntmps34
      go_wp2
      go_ret
      exact ⟨by first | rfl | simp; omega, rfl⟩
    · clear hn
      go_enter Try.func34, Try.ntmps34
      go_wp2
      go_ret
      exact ⟨by first | rfl | simp; omega, rfl⟩
end
end Go.Proofs.Ytpbdachbefafiaa
