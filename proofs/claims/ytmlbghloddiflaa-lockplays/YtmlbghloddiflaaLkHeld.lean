/-
  The contract of Held: all locks that are had, by things, then by owners.
-/
import Derived.Test.YtmlbghloddiflaaLkNew
namespace Go.Proofs.Ytmlbghloddiflaa
open Go.RowKit
set_option linter.unusedVariables false

/-- A list of locks in memory of one's own. -/
def OwnH (B : Nat) (y : World) (v : Value) (l : List Hd) : Prop := y.ownsRow B 46 3 v l.length (flatH l)
theorem OwnH.nil (B : Nat) (y : World) : OwnH B y (.slice none 0 0) [] := World.ownsRow_nil _ _ _ _
theorem OwnH.later {B : Nat} {y z : World} {v : Value} {l : List Hd} (h : OwnH B y v l) (q : Below y.heap.size y z) : OwnH B z v l := by
  obtain ⟨h1, h2⟩ := h
  refine ⟨h1, h2.imp id ?_⟩
  rintro ⟨g, cap, cur, a, b, c, d⟩
  exact ⟨g, cap, cur, a, b, RowAt.later (show RowAt y g _ cur from c) q, d⟩
theorem OwnH.turned {F : Nat → Prop} {B : Nat} {y z : World} {v : Value} {l : List Hd} (h : OwnH B y v l) (q : Tn F y z) (hF : ∀ k, F k → ¬ v.ownBlock = some k) : OwnH B z v l := by
  obtain ⟨h1, h2⟩ := h
  refine ⟨h1, h2.imp id ?_⟩
  rintro ⟨g, cap, cur, rfl, b, c, d⟩
  have c' : RowAt y g _ cur := c
  exact ⟨g, cap, cur, rfl, b, q.row c' (fun hf => hF g hf rfl), d⟩
theorem OwnH.weak {B C : Nat} {y : World} {v : Value} {l : List Hd} (h : OwnH B y v l) (hc : C ≤ B) : OwnH C y v l := by
  obtain ⟨h1, h2⟩ := h
  refine ⟨h1, h2.imp id ?_⟩
  rintro ⟨g, cap, cur, a, b, c, d⟩
  exact ⟨g, cap, cur, a, Nat.le_trans hc b, c, d⟩
theorem OwnH.block {B : Nat} {y : World} {v : Value} {l : List Hd} (h : OwnH B y v l) {k : Nat} (hk : v.ownBlock = some k) : B ≤ k ∧ k < y.heap.size := by
  rcases h.2 with ⟨rfl, _⟩ | ⟨g', cap, cur, rfl, hb, hr, _⟩
  · cases hk
  · have := Option.some.inj hk
    subst this
    exact ⟨hb, (show RowAt y g' _ cur from hr).lt⟩
theorem OwnH.shape {B : Nat} {y : World} {v : Value} {l : List Hd} (h : OwnH B y v l) : ∃ a c, v = .slice a l.length c ∧ l.length ≤ c ∧ c ≤ maxLen := by
  rcases h.2 with ⟨rfl, h0⟩ | ⟨g', cap, cur, rfl, hb, hr, hn, hm, _⟩
  · exact ⟨none, 0, by rw [h0], by omega, by unfold maxLen; omega⟩
  · exact ⟨_, _, rfl, hn, hm⟩
theorem OwnH.at {B : Nat} {y : World} {a : Option Addr} {m c : Nat} {l : List Hd} (h : OwnH B y (.slice a m c) l) {j : Nat} {k : Hd} (hj : l[j]? = some k) : ∃ b, a = some ⟨b, 0, none⟩ ∧ y.cell? ⟨b, j * 3, none⟩ = some (.int .i64 k.w) ∧ y.cell? ⟨b, j * 3 + 1, none⟩ = some (.int .i64 k.x) ∧ y.cell? ⟨b, j * 3 + 2, none⟩ = some (.int .i64 k.m) := by
  have hjl := (List.getElem?_eq_some_iff.1 hj).1
  rcases h.2 with ⟨_, h0⟩ | ⟨g', cap, cur, e, hb, hr, hn, hm, hs, ht⟩
  · omega
  · injection e with e1 e2 e3
    have hr' : RowAt y g' 46 cur := hr
    have key : ∀ i u, (hdL k)[i]? = some u → i < 3 → y.cell? ⟨g', j * 3 + i, none⟩ = some u := fun i u hu hi => hr'.cell _ u (by
      have h2 := flatH_get l j i k hj hi
      rw [← ht, List.getElem?_take] at h2
      split at h2
      · rw [Array.getElem?_toList] at h2
        rw [h2, hu]
      · rw [hu] at h2; cases h2)
    exact ⟨g', e1, key 0 _ rfl (by omega), key 1 _ rfl (by omega), key 2 _ rfl (by omega)⟩
/-- Locks behind locks. -/
theorem OwnH.join {B : Nat} {y : World} {v : Value} {l l2 : List Hd} {s : Sl} (h : OwnH B y v l) (h2 : HB y s l2) (hB : B ≤ y.heap.size) (hl : l.length + l2.length ≤ 1000000) (ty : TypeId) :
    ∃ v' y', (Builtin.append_ #[30, 30] ty #[v, .slice (adr s.b) l2.length s.c]).run Try.prog y = .ok v' y' ∧ OwnH B y' v' (l ++ l2) ∧ Tn (fun k => v.ownBlock = some k) y y' := by
  obtain ⟨i, hi0, hi1⟩ := Option.map_eq_some_iff.1 infoH
  simp only [Prod.mk.injEq] at hi1
  rcases h2 with ⟨h1, rfl, h3⟩ | ⟨b, cs, h1, h3, h4, h5, h6, h7, h8⟩
  · rw [List.append_nil, h1, h3]
    refine ⟨v, y, ?_, h, Tn.refl _ _⟩
    exact run_append_owned_none (P := Try.prog) (w := y) B 30 ty 46 i 3 Try.underlying30 hi0 v l.length (flatH l) h
  · rw [h1]
    obtain ⟨v', y', r1, r2, r3, _⟩ := run_append_own (P := Try.prog) y B 30 ty 46 i (.agg zeroH) 3 24 Try.underlying30 hi0 hi1.1 hi1.2.1 hi1.2.2 rfl (by omega) v l.length (flatH l) h ⟨b, 0, none⟩ l2.length s.c (flatH l2) (flatH_len l2) (fun j u hu => by
      rw [Addr.add_lit, Nat.zero_add]
      exact h8 j u hu) (flatH_ones l2) (by unfold maxLen; omega) (by omega) hB
    refine ⟨v', y', r1, ?_, Tn.of_grown r3 (fun k hk => hk)⟩
    unfold OwnH
    rw [flatH_append, List.length_append]
    exact r2
/-- All locks of the first things. -/
def heldP (p : Pt) : Nat → List Hd
  | 0 => []
  | n + 1 => heldP p n ++ p.had n
theorem held_len {p : Pt} {N : Nat} (h : p.ok N) : ∀ n, n ≤ 288 → (heldP p n).length ≤ n * N
  | 0, _ => Nat.zero_le _
  | n + 1, hn => by
    have h1 := held_len h n (by omega)
    have h2 := h.len n (by omega)
    show (heldP p n ++ p.had n).length ≤ _
    rw [List.length_append, Nat.add_mul]
    omega
theorem mem_heldP {p : Pt} {k : Hd} : ∀ {n : Nat}, k ∈ heldP p n ↔ ∃ x, x < n ∧ k ∈ p.had x
  | 0 => by simp [heldP]
  | n + 1 => by
    show k ∈ heldP p n ++ p.had n ↔ _
    rw [List.mem_append, mem_heldP]
    constructor
    · rintro (⟨x, hx, hk⟩ | hk)
      · exact ⟨x, by omega, hk⟩
      · exact ⟨n, by omega, hk⟩
    · rintro ⟨x, hx, hk⟩
      by_cases e : x = n
      · subst e
        exact .inr hk
      · exact .inl ⟨x, by omega, hk⟩
theorem ord_heldP {t : Tb} {p : Pt} {N : Nat} (h : PtOk t p N) : ∀ n, n ≤ 288 → OrdL (heldP p n)
  | 0, _ => List.Pairwise.nil
  | n + 1, hn => by
    show OrdL (heldP p n ++ p.had n)
    refine List.pairwise_append.2 ⟨ord_heldP h n (by omega), ?_, fun a ha b hb => ?_⟩
    · refine List.Pairwise.imp_of_mem ?_ (h.rep.srt n (by omega))
      intro a b ha hb hab
      have h1 := ((h.rep.had n (by omega) a).1 ha).2
      have h2 := ((h.rep.had n (by omega) b).1 hb).2
      exact .inr ⟨h1.trans h2.symm, hab⟩
    · obtain ⟨x, hx, ha⟩ := mem_heldP.1 ha
      have h1 := ((h.rep.had x (by omega) a).1 ha).2
      have h2 := ((h.rep.had n (by omega) b).1 hb).2
      exact .inl (by rw [h1, h2]; omega)
theorem heldP_eq {t : Tb} {p : Pt} {N : Nat} (h : PtOk t p N) : heldP p 288 = t.held := by
  refine ord_same (ord_heldP h 288 (Nat.le_refl _)) (ord_held t) (fun k => ?_)
  rw [h.tok.mem_held, mem_heldP]
  constructor
  · rintro ⟨x, hx, hk⟩
    exact ((h.rep.had x hx k).1 hk).1
  · intro hk
    obtain ⟨h1, h2⟩ := thing_nat (h.tok.hk k hk).2.1
    exact ⟨k.x.toNat, h1, (h.rep.had _ h1 k).2 ⟨hk, h2⟩⟩
section
variable {w : World} {g : Nat} {p : Pt} {S : Nat → Sl}
set_option maxRecDepth 8000 in
set_option maxHeartbeats 1600000 in
theorem held13 (h : TAt w g p S) {N : Nat} (hok : p.ok N) (hN : N ≤ 3000) : Calls Try.prog 13 #[.pointer (some ⟨g, 0, none⟩)] w fun e w' => ∃ v, e = .returned v ∧ OwnH w.heap.size w' v (heldP p 288) ∧ Below w.heap.size w w' := by
  have H := hide h
  have HOK := hide hok
  have HS := hide (fun y => size13 ⟨g, 0, none⟩ y)
  clear h hok
  go_enter Try.func13, Try.ntmps13
  go_wp2_with fail
  refine (HS.out _).mono ?_
  rintro e w0 ⟨rfl, rfl⟩
  go_wp2
  go_loopw [3, 7] (fun v q wr => ∃ x : Nat, x ≤ 288 ∧ q = .int .i64 x ∧ Hid (OwnH w.heap.size wr v (heldP p x) ∧ Below w.heap.size w wr)) (fun _ q _ => 288 - (intOf q).toNat)
  case atStart => exact ⟨0, Nat.zero_le _, rfl, ⟨OwnH.nil _ _, Below.refl _ _⟩⟩
  case round =>
    obtain ⟨x, hx, rfl, HR⟩ := hrel
    by_cases hlt : x < 288
    · have i1 : (x : Int) < 288 := by omega
      have hTw := H.out.later HR.out.2
      have c0 := hTw.had hlt
      unfold slV at c0
      have hlen : (heldP p x).length + (p.had x).length ≤ 1000000 := by
        have h1 := held_len HOK.out (x + 1) (by omega)
        have h2 : (heldP p (x + 1)).length = (heldP p x).length + (p.had x).length := List.length_append
        have h3 : (x + 1) * N ≤ 288 * 3000 := Nat.mul_le_mul (by omega) hN
        omega
      obtain ⟨v', w6, ha, hO6, hT6⟩ := HR.out.1.join (hTw.hadB hlt) HR.out.2.size hlen 30
      have HE := hide (show OwnH w.heap.size w6 v' (heldP p (x + 1)) ∧ Below w.heap.size w w6 from ⟨hO6, HR.out.2.trans (hT6.below (fun k hk => (HR.out.1.block hk).1) HR.out.2.size)⟩)
      generalize (p.had x).length = n at *
      generalize adr (S (x * 2)).b = ad at *
      generalize (S (x * 2)).c = c at *
      clear hTw hO6 hT6 hlen
      go_wp2_with (at_builtin; refine Lib.wpList_append_run _ rfl _ _ _ _ rfl _ _ rfl rfl _ _ ha ?_)
      go_roundw
      case rel => exact ⟨x + 1, by omega, by go_num, HE⟩
      case measure => simp [intOf]; omega
    · have i1 : ¬ (x : Int) < 288 := by omega
      have ex : x = 288 := by omega
      have HE := hide (show OwnH w.heap.size wr u3 (heldP p 288) ∧ Below w.heap.size w wr from by have h := HR.out; rw [ex] at h; exact h)
      clear HR
      go_wp2
      go_ret
      exact ⟨_, rfl, HE.out⟩
end
theorem kheld {w : World} {g : Nat} {t : Tb} {N : Nat} {F : Nat → Prop} (h : Kt w g t N F) (hN : N ≤ 3000) : Calls Try.prog 13 #[.pointer (some ⟨g, 0, none⟩)] w fun e w' => ∃ v, e = .returned v ∧ OwnH w.heap.size w' v t.held ∧ Below w.heap.size w w' := by
  obtain ⟨p, S, h1, h2, h3, rfl⟩ := h
  refine (held13 h1 h2.ok hN).mono ?_
  rintro e w' ⟨v, rfl, hO, hb⟩
  rw [heldP_eq h2] at hO
  exact ⟨v, rfl, hO, hb⟩
end Go.Proofs.Ytmlbghloddiflaa
