/-
  Texts that lean on one another, one behind the other: each opens with its own remark.
-/
import Derived.Lib.Overlaps
import Derived.Lib.AppendZerosOnto
import Derived.Laws.NewBlocks
import Derived.Maps.AppendAt
import Derived.Laws.Externs
import Derived.Shelf.RegionOpenPlain
import Derived.Lib.Walk
import Derived.RangeFuncBox
import Derived.RangeFuncCalls
import Derived.Shelf.Abstract
import Derived.Shelf.RegionOpen
import Derived.WalkKit
import Derived.TacticsInMore
import Derived.LoopNIn
import Derived.LoopIn
import Derived.ArgAppend
import Derived.Test.YthlllmkmpneedaaProg
import Derived.RegionTactic
import Derived.BigRegion
import Derived.Laws.IdiomCopy
import Derived.WalkSpells
import Derived.Laws.OwnMore
import Derived.OrdersIn
import Derived.OwnWalkIn
import Derived.Deep.RegionHeld3
import Derived.WalkMore
import Derived.Test.YthlllmkmpneedaaK06
import Derived.Test.YthlllmkmpneedaaK03
import Derived.Test.YthlllmkmpneedaaK00
import Derived.Test.YthlllmkmpneedaaK02
import Derived.Test.YthlllmkmpneedaaK05
import Derived.Test.YthlllmkmpneedaaK04

namespace Go.Proofs.Ythlllmkmpneedaa
open Go.RowKit
set_option linter.unusedVariables false
set_option maxRecDepth 8000
set_option maxHeartbeats 25600000
theorem run_pushT (w : World) (ty : TypeId) (s : Sl) (l : List Tx) (h : RT w s l) (k : Tx) (g c : Nat) (hg : ∀ j u, (txL k)[j]? = some u -> w.cell? ⟨g, j, none⟩ = some u) (hl : l.length <= 1000000) :
    ∃ s' w', (Builtin.append_ #[25, 25] ty #[slV s l.length, .slice (some ⟨g, 0, none⟩) 1 c]).run Try.prog w = .ok (slV s' (l.length + 1)) w' /\ RT w' s' (l ++ [k]) /\ Tn (ofS s) w w' /\ (∀ q, s'.b = some q -> s.b = some q ∨ w.heap.size <= q) := by
  obtain ⟨i, hi0, hi1⟩ := Option.map_eq_some_iff.1 Qak; simp only [Prod.mk.injEq] at hi1
  have hcells : ∀ j u, (txL k)[j]? = some u -> w.cell? ((⟨g, 0, none⟩ : Addr).add j) = some u := fun j u hu => by
    rw [Addr.add_lit, Nat.zero_add]; exact hg j u hu
  have flat : flT (l ++ [k]) = flT l ++ txL k := by rw [Qje, Qsu]
  have own : w.ownsRow 0 42 5 (slV s l.length) l.length (flT l) := by
    refine ⟨Qpb l, ?_⟩
    rcases h with ⟨h1, rfl, h3⟩ | ⟨b, cs, h1, h2, h3, h4, h5, h6, h7⟩
    · left; unfold slV; rw [h1, h3]; exact ⟨rfl, rfl⟩
    · right; refine ⟨b, s.c, cs, by unfold slV; rw [h1]; rfl, Nat.zero_le _, h2, h4, h6, h3, ?_⟩; apply List.ext_getElem?; intro j; rw [List.getElem?_take]
      by_cases hj : j < l.length * 5
      · rw [if_pos hj]; have hj2 : j < (flT l).length := by rw [Qpb]; exact hj
        have h8 := h7 j _ (List.getElem?_eq_getElem hj2); rw [cell_of_row w b j _ _ (0, 0) h2] at h8; rw [Array.getElem?_toList, h8, List.getElem?_eq_getElem hj2]
      · rw [if_neg hj, List.getElem?_eq_none (by rw [Qpb]; omega)]
  obtain ⟨v', w', r1, r2, r3, _, r5⟩ := run_append_own_at (P := Try.prog) w 0 25 ty 42 i (.agg Quf) 5 40 Try.underlying25 hi0 hi1.1 hi1.2.1 hi1.2.2 rfl (by omega) (slV s l.length) l.length (flT l) own ⟨g, 0, none⟩ 1 c (txL k) rfl hcells (Qqq k) (by unfold maxLen; omega) (by omega) (Nat.zero_le _); rw [<- flat] at r2; obtain ⟨s', rfl, h1, _⟩ := RT.fresh (l := l ++ [k]) (by simp) (by omega) r2
  have hob : ∀ (s : Sl) (n : Nat), (slV s n).ownBlock = s.b := by
    rintro ⟨_ | b, c⟩ n <;> rfl
  rw [hob, hob] at r5; rw [hob] at r3; refine ⟨s', w', r1, h1, Tn.of_grown r3 (fun k hk => hk), fun q hq => ?_⟩
  rcases r5 with r5 | r5
  · exact .inl (r5.symm.trans hq)
  · rw [r5] at hq; injection hq with hq; exact .inr (by omega)
theorem overT (w : World) (vb b i m vc lb cb : Nat) (hne : vb ≠ b) (tA tB : TypeId) (va vs : Array Value) (hA : Qb w vb tA va) (hB : Qb w b tB vs) (hz : vs.size ≠ 0) :
    (callFunc 85 #[.slice (some ⟨vb, 0, none⟩) m vc, .slice (some ⟨b, i, none⟩) lb cb]).run Try.prog w = .ok (.value (.bool false)) w := by
  have hsa : w.shape? vb = some (tA, va.size) := by
    have e : w.heap[vb]? = some (.cells va tA (0, 0)) := hA; simp [World.shape?, e]
  have hsb : w.shape? b = some (tB, vs.size) := by
    have e : w.heap[b]? = some (.cells vs tB (0, 0)) := hB; simp [World.shape?, e]
  rw [run_callFunc_extern Try.func85 (by kernel_rfl) (by kernel_rfl) (by kernel_rfl) (e := Extern.SlicesOverlaps.overlaps #[25, 25] #[4]) (by kernel_rfl),
    Lib.run_overlaps_apart w 25 4 42 Try.underlying25 5 (fun w => by kernel_rfl) ⟨vb, 0, none⟩ ⟨b, i, none⟩ m vc lb cb hne tA tB va.size vs.size hsa hsb hz (hA.free _) (hA.free _)]
  rfl
def Qoi (l : List Tx) (i : Nat) (k : Tx) : List Tx := l.take i ++ k :: l.drop i
theorem Qun (l : List Tx) (i : Nat) (k : Tx) (hi : i <= l.length) : (Qoi l i k).length = l.length + 1 := by
  unfold Qoi; rw [List.length_append, List.length_cons, List.length_take, List.length_drop]; omega
theorem flT_ins (l : List Tx) (i : Nat) (k : Tx) : flT (Qoi l i k) = flT (l.take i) ++ (txL k ++ flT (l.drop i)) := by
  unfold Qoi; rw [Qje, show k :: l.drop i = [k] ++ l.drop i from rfl, Qje, Qsu]
def Qph (w : World) (s : Sl) (l : List Tx) (i : Nat) (k : Tx) (e : Ending) (w' : World) : Prop := ∃ s', e = .returned (slV s' (l.length + 1)) /\ RT w' s' (Qoi l i k) /\ Tn (ofS s) w w' /\ ∀ q, s'.b = some q -> s.b = some q ∨ w.heap.size <= q
theorem Qwg {w : World} {g : Nat} {t : TypeId} {k : Tx} (hg : Qb w g t (txA k)) : ∀ j u, (txL k)[j]? = some u -> w.cell? ⟨g, j, none⟩ = some u := fun j u hu => hg.cell j u (by
  have : (txA k).toList = txL k := rfl; rw [<- Array.getElem?_toList, this]
  exact hu)
theorem insT_end (w : World) (s : Sl) (l : List Tx) (h : RT w s l) (k : Tx) (g : Nat) (hg : Qb w g 42 (txA k)) (hl : l.length <= 1000000) :
    Calls Try.prog 68 #[slV s l.length, .int .i64 (l.length : Int), .slice (some ⟨g, 0, none⟩) 1 1] w (Qph w s l l.length k) := by
  obtain ⟨s', w', r1, r2, r3, r4⟩ := run_pushT w 25 s l h k g 1 (Qwg hg) hl; have HE := Qc (show ∃ s', Qph w s l l.length k (.returned (slV s' (l.length + 1))) w' /\ s' = s' from ⟨s', ⟨s', rfl, by unfold Qoi; rw [List.take_length, List.drop_length]; exact r2, r3, r4⟩, rfl⟩); have HG := Qc (show Qph w s l l.length k (.returned (slV s' (l.length + 1))) w' from ⟨s', rfl, by unfold Qoi; rw [List.take_length, List.drop_length]; exact r2, r3, r4⟩); have hcap := h.cap; clear HE r2 r3 r4 hg h; obtain ⟨o, c⟩ := s; obtain ⟨v', hv'⟩ : ∃ v', v' = slV s' (l.length + 1) := ⟨_, rfl⟩; rw [<- hv'] at r1 HG; clear hv'; have hc1 : l.length <= c := hcap.1; have hc2 : c <= 9223372036854775807 := by have := hcap.2; unfold maxLen at this; exact this
  clear hcap; generalize l.length = n at *
  cases o with
  | none =>
    have r1' : (Builtin.append_ #[25, 25] 25 #[.slice none n c, .slice (some ⟨g, 0, none⟩) 1 1]).run Try.prog w = .ok v' w' := r1; show Calls _ _ #[.slice none n c, _, _] w _; clear r1; go_enter Try.func68, Try.ntmps68; go_wp2_with (at_builtin; refine Lib.wpList_append_run _ rfl _ _ _ _ rfl _ _ rfl rfl _ _ r1' ?_)
    all_goals
      go_ret; exact HG.out
  | some b =>
    have r1' : (Builtin.append_ #[25, 25] 25 #[.slice (some ⟨b, 0, none⟩) n c, .slice (some ⟨g, 0, none⟩) 1 1]).run Try.prog w = .ok v' w' := r1; show Calls _ _ #[.slice (some ⟨b, 0, none⟩) n c, _, _] w _; clear r1; go_enter Try.func68, Try.ntmps68; go_wp2_with (at_builtin; refine Lib.wpList_append_run _ rfl _ _ _ _ rfl _ _ rfl rfl _ _ r1' ?_)
    all_goals
      go_ret; exact HG.out
def ShWT (w : World) (b i : Nat) (l : List Tx) (k : Tx) : World := (w.drew.setCells b ((i + 1) * 5) (flT (l.drop i))).setCells b (i * 5) (txL k)
theorem shT_laid {w : World} {b cap i : Nat} {l : List Tx} {k : Tx} (h : RT w ⟨some b, cap⟩ l) (hi : i < l.length) (hc : l.length + 1 <= cap) : RT (ShWT w b i l k) ⟨some b, cap⟩ (Qoi l i k) /\ Tn (Is b) w (ShWT w b i l k) := by
  have hT : Tn (Is b) w (ShWT w b i l k) := ((Tn.refl (Is b) w).drew.then (Qfa _ _ _ b (Is b) (show Is b b from rfl))).then (Qfa _ _ _ b (Is b) (show Is b b from rfl)); refine ⟨?_, hT⟩
  rcases h with ⟨h1, _⟩ | ⟨b', cs, h1, h2, h3, h4, h5, h6, h7⟩
  · cases h1
  · injection h1 with h1; subst h1; have h2' : Qb w.drew b 42 cs := h2; have hsz : cs.size = cap * 5 := h3; obtain ⟨ds, d1, d2⟩ := Qy (flT (l.drop i)) ((i + 1) * 5) w.drew b _ cs h2'; obtain ⟨es, e1, e2⟩ := Qy (txL k) (i * 5) _ b _ ds d1; have hfl : (flT (l.drop i)).length = (l.length - i) * 5 := by rw [Qpb, List.length_drop]
    refine .inr ⟨b, es, rfl, e1, by rw [e2, d2]; exact h3, by rw [Qun _ _ _ (by omega)]; exact hc, h5, h6, fun q u hu => ?_⟩; have hti : (flT (l.take i)).length = i * 5 := by rw [Qpb, List.length_take]; omega
    rw [flT_ins] at hu; unfold ShWT
    by_cases h8 : q < i * 5
    · rw [World.cell?_setCells_out b _ _ _ _ (fun _ _ => .inl (by show q < i * 5; exact h8)), World.cell?_setCells_out b _ _ _ _ (fun _ _ => .inl (by show q < (i + 1) * 5; omega))]; rw [List.getElem?_append_left (by omega), <- Qgk, List.getElem?_take, if_pos h8] at hu; exact h7 q u hu
    · rw [List.getElem?_append_right (by omega), hti] at hu
      by_cases h9 : q < (i + 1) * 5
      · have hin := World.cell?_setCells_in b (txL k) (i * 5) (w.drew.setCells b ((i + 1) * 5) (flT (l.drop i))) (fun j hj => Qga d1 (by have : j < 5 := hj; omega)) (q - i * 5) (by show _ < 5; omega); rw [show i * 5 + (q - i * 5) = q by omega] at hin; rw [hin, <- List.getElem?_eq_getElem]; rw [List.getElem?_append_left (by show _ < 5; omega)] at hu; exact hu
      · rw [World.cell?_setCells_out b _ _ _ _ (fun _ _ => .inr (by show i * 5 + 5 <= q; omega))]
        have hq : q - i * 5 - 5 < (l.length - i) * 5 := by
          have := (List.getElem?_eq_some_iff.1 hu).1; rw [List.length_append, hfl] at this; have h10 : (txL k).length = 5 := rfl; omega
        have hin := World.cell?_setCells_in b (flT (l.drop i)) ((i + 1) * 5) w.drew (fun j hj => Qga h2' (by omega)) (q - i * 5 - 5) (by omega); rw [show (i + 1) * 5 + (q - i * 5 - 5) = q by omega] at hin; rw [hin, <- List.getElem?_eq_getElem]; rw [List.getElem?_append_right (by show 5 <= _; omega)] at hu; exact hu
theorem Qfz (w : World) (b cap : Nat) (l : List Tx) (h : RT w ⟨some b, cap⟩ l) (i : Nat) (hi : i < l.length) (hr : l.length + 1 <= cap) (k : Tx) (g : Nat) (hg : Qb w g 42 (txA k)) (hgb : g ≠ b) (hl : l.length <= 1000000) :
    Calls Try.prog 68 #[.slice (some ⟨b, 0, none⟩) l.length cap, .int .i64 (i : Int), .slice (some ⟨g, 0, none⟩) 1 1] w (Qph w ⟨some b, cap⟩ l i k) := by
  have HD := Qc (shT_laid (k := k) h hi hr); have HG : Qph w ⟨some b, cap⟩ l i k (.returned (.slice (some ⟨b, 0, none⟩) (l.length + 1) cap)) (ShWT w b i l k) := ⟨⟨some b, cap⟩, rfl, HD.out.1, HD.out.2.weak (fun q hq => by rw [hq]; rfl), fun q hq => .inl hq⟩; have hcap2 : cap <= 9223372036854775807 := by have := h.cap.2; unfold maxLen at this; exact this
  obtain ⟨cs, hrow, hcs, hcl⟩ : ∃ cs, Qb w b 42 cs /\ cs.size = cap * 5 /\ ∀ j u, (flT l)[j]? = some u -> w.cell? ⟨b, j, none⟩ = some u := by
    rcases h with ⟨h1, _⟩ | ⟨b', cs, h1, h2, h3, h4, h5, h6, h7⟩
    · cases h1
    · injection h1 with h1; subst h1; exact ⟨cs, h2, h3, h7⟩
  have hrow' : Qb w.drew b 42 cs := hrow; have hfl : (flT (l.drop i)).length = (l.length - i) * 5 := by rw [Qpb, List.length_drop]
  have hov : ∀ lb cb, (callFunc 85 #[.slice (some ⟨g, 0, none⟩) 1 1, .slice (some ⟨b, (i + 1) * 5, none⟩) lb cb]).run Try.prog w = .ok (.value (.bool false)) w := fun lb cb => overT w g b ((i + 1) * 5) 1 1 lb cb hgb _ _ _ _ hg hrow (by omega)
  have hcp1 : ∀ ty dc sc, (Builtin.copy_ #[25, 25] ty #[.slice (some ⟨b, (i + 1) * 5, none⟩) (l.length - i) dc, .slice (some ⟨b, i * 5, none⟩) (l.length + 1 - i) sc]).run Try.prog w.drew = .ok (goInt ((l.length - i : Nat) : Int)) (w.drew.setCells b ((i + 1) * 5) (flT (l.drop i))) := fun ty dc sc => by
    have := Qtb (P := Try.prog) w.drew 25 25 ty 42 5 b ((i + 1) * 5) (l.length - i) dc ⟨b, i * 5, none⟩ (l.length + 1 - i) sc (flT (l.drop i)) Try.underlying25 Qkc (by rw [hfl, show Nat.min (l.length + 1 - i) (l.length - i) = l.length - i from Nat.min_eq_right (by omega)])
      (fun j v hj => by rw [Addr.add_lit]; exact hcl _ v (by rw [<- Qlq, List.getElem?_drop] at hj; exact hj))
      (fun j hj => Qga hrow' (by omega)) (fun j hj => hrow'.free _) (Qjr _)
    rwa [show Nat.min (l.length + 1 - i) (l.length - i) = l.length - i from Nat.min_eq_right (by omega)] at this
  obtain ⟨ds, d1, d2⟩ := Qy (flT (l.drop i)) ((i + 1) * 5) w.drew b _ cs hrow'; have hgr : Qb (w.drew.setCells b ((i + 1) * 5) (flT (l.drop i))) g 42 (txA k) := (Qfa (flT (l.drop i)) ((i + 1) * 5) w.drew b (Is b) rfl).row (show Qb w.drew g _ _ from hg) hgb
  have hcp2 : ∀ ty dc, (Builtin.copy_ #[25, 25] ty #[.slice (some ⟨b, i * 5, none⟩) (l.length + 1 - i) dc, .slice (some ⟨g, 0, none⟩) 1 1]).run Try.prog (w.drew.setCells b ((i + 1) * 5) (flT (l.drop i))) = .ok (goInt 1) (ShWT w b i l k) := fun ty dc => by
    have := Qtb (P := Try.prog) (w.drew.setCells b ((i + 1) * 5) (flT (l.drop i))) 25 25 ty 42 5 b (i * 5) (l.length + 1 - i) dc ⟨g, 0, none⟩ 1 1 (txL k) Try.underlying25 Qkc (by rw [show Nat.min 1 (l.length + 1 - i) = 1 from Nat.min_eq_left (by omega)]; rfl)
      (fun j v hj => by rw [Addr.add_lit, Nat.zero_add]; exact Qwg hgr j v hj)
      (fun j hj => Qga d1 (by have : j < 5 := hj; omega)) (fun j hj => d1.free _) (Qqq k)
    rwa [show Nat.min 1 (l.length + 1 - i) = 1 from Nat.min_eq_left (by omega)] at this
  obtain ⟨W2, hW2⟩ : ∃ W2, W2 = ShWT w b i l k := ⟨_, rfl⟩; rw [<- hW2] at HG hcp2; obtain ⟨W1, hW1⟩ : ∃ W1, W1 = w.drew.setCells b ((i + 1) * 5) (flT (l.drop i)) := ⟨_, rfl⟩; rw [<- hW1] at hcp1 hcp2; have HH := Qc HG; clear hW1 hW2 d1 d2 hgr hfl hrow hrow' hcl hcs h HG HD hg; generalize l.length = n at *; have hz2 : ((i : Int) == (n : Int)) = false := by rw [beq_eq_false_iff_ne]; omega
  have hz3 : ¬ (cap : Int) < (n : Int) + 1 := by omega
  have hz4 : (n : Int) + 1 <= (cap : Int) := by omega
  have htn : ((i : Int) + 1).toNat = i + 1 := by omega
  have hw1 : IntKind.i64.wrap ((i : Int) + 1) = (i : Int) + 1 := by rw [IntKind.wrap_i64]; omega
  have hb1 : (0 : Int) <= (i : Int) + 1 := by omega
  have hb2 : ¬ (cap = i + 1) := by omega
  have hb3 : (i : Int) <= (n : Int) + 1 := by omega
  have hb4 : ¬ (cap = i) := by omega
  have hb5 : (i : Int) + 1 <= (n : Int) + 1 := by omega
  have hin : i <= n := by omega
  have hin2 : (i : Int) <= (n : Int) := by omega
  go_enter Try.func68, Try.ntmps68; go_wp2_with (simp only [hov]); go_region_law (refine Qxd rfl (.tmp 73) (.tmp 76) 25 25 rfl (.slice (some ⟨b, (i + 1) * 5, none⟩) (n - i) (cap - (i + 1))) (.slice (some ⟨b, i * 5, none⟩) (n + 1 - i) (cap - i)) ?h1 ?h2 (hcp1 _ _ _) ?_; (case h1 => simp [Act.eval, Act.put]); (case h2 => simp [Act.eval, Act.put])); go_wp2_with (at_builtin; refine wpList_copy_run13 _ rfl _ _ 25 25 rfl _ _ rfl rfl (hcp2 _ _) ?_); go_ret; exact HH.out
def Qtr (l : List Tx) (i G : Nat) : Array Value := (flT (l.take i)).toArray ++ Builtin.zeroCells Quf (l.length + 1 - i) ++ Builtin.zeroCells Quf (G - (l.length + 1))
def GrWT (w : World) (i G : Nat) (l : List Tx) (k : Tx) : World := ((w.drew.alloc (.cells (Qtr l i G) 42)).setCells w.heap.size (i * 5) (txL k)).drew.setCells w.heap.size ((i + 1) * 5) (flT (l.drop i))
theorem Qnu (l : List Tx) (i G : Nat) (hi : i <= l.length) (hG : l.length + 1 <= G) : (Qtr l i G).size = G * 5 := by
  have h1 : ∀ n, (Builtin.zeroCells Quf n).size = n * 5 := fun n => by rw [<- Array.length_toList]; exact Qgq n
  unfold Qtr; rw [Array.size_append, Array.size_append, h1, h1, List.size_toArray, Qpb, List.length_take]; omega
theorem GrAT_get (l : List Tx) (i G : Nat) (hi : i <= l.length) (q : Nat) (hq : q < i * 5) : (Qtr l i G)[q]? = (flT l)[q]? := by
  have e : (flT (l.take i)).length = i * 5 := by rw [Qpb, List.length_take]; omega
  unfold Qtr; rw [Array.getElem?_append_left (by rw [Array.size_append, List.size_toArray]; omega), Array.getElem?_append_left (by rw [List.size_toArray]; omega), List.getElem?_toArray, <- Qgk, List.getElem?_take, if_pos hq]
theorem grT_laid {w : World} {i G : Nat} {l : List Tx} {k : Tx} (hi : i < l.length) (hG : l.length + 1 <= G) (hG2 : G <= maxLen) : RT (GrWT w i G l k) ⟨some w.heap.size, G⟩ (Qoi l i k) /\ Below w.heap.size w (GrWT w i G l k) := by
  have h0 : Qb (w.drew.alloc (.cells (Qtr l i G) 42)) w.heap.size 42 (Qtr l i G) := Qb.new w.drew _ _; have hb0 : Below w.heap.size w (w.drew.alloc (.cells (Qtr l i G) 42)) := (Below.refl w.heap.size w).drew.alloc (Nat.le_refl _) _; have hsz := Qnu l i G (by omega) hG
  have hT : Below w.heap.size w (GrWT w i G l k) := by
    have t1 := Qfa (txL k) (i * 5) (w.drew.alloc (.cells (Qtr l i G) 42)) w.heap.size (Is w.heap.size) rfl; have t2 := Qfa (flT (l.drop i)) ((i + 1) * 5) ((w.drew.alloc (.cells (Qtr l i G) 42)).setCells w.heap.size (i * 5) (txL k)).drew w.heap.size (Is w.heap.size) rfl; have t3 := t1.drew.then t2; exact hb0.trans (t3.below (fun q hq => by rw [hq]; exact Nat.le_refl _) hb0.size)
  refine ⟨?_, hT⟩; obtain ⟨ds, d1, d2⟩ := Qy (txL k) (i * 5) _ w.heap.size _ _ h0; have d1' : Qb ((w.drew.alloc (.cells (Qtr l i G) 42)).setCells w.heap.size (i * 5) (txL k)).drew w.heap.size 42 ds := Qmd d1; obtain ⟨es, e1, e2⟩ := Qy (flT (l.drop i)) ((i + 1) * 5) _ w.heap.size _ _ d1'; have hfl : (flT (l.drop i)).length = (l.length - i) * 5 := by rw [Qpb, List.length_drop]
  refine .inr ⟨w.heap.size, es, rfl, e1, by rw [e2, d2]; exact hsz, by rw [Qun _ _ _ (by omega)]; exact hG, Nat.zero_le _, hG2, fun q u hu => ?_⟩; have hti : (flT (l.take i)).length = i * 5 := by rw [Qpb, List.length_take]; omega
  rw [flT_ins] at hu; unfold GrWT
  by_cases h8 : q < i * 5
  · rw [World.cell?_setCells_out _ _ _ _ _ (fun _ _ => .inl (by show q < (i + 1) * 5; omega))]; rw [Quj]; rw [World.cell?_setCells_out _ _ _ _ _ (fun _ _ => .inl (by show q < i * 5; exact h8))]; rw [List.getElem?_append_left (by omega), <- Qgk, List.getElem?_take, if_pos h8] at hu; exact h0.cell q u (by rw [GrAT_get l i G (by omega) q h8]; exact hu)
  · rw [List.getElem?_append_right (by omega), hti] at hu
    by_cases h9 : q < (i + 1) * 5
    · rw [World.cell?_setCells_out _ _ _ _ _ (fun _ _ => .inl (by show q < (i + 1) * 5; exact h9))]; rw [Quj]; have hin := World.cell?_setCells_in w.heap.size (txL k) (i * 5) (w.drew.alloc (.cells (Qtr l i G) 42)) (fun j hj => Qga h0 (by have : j < 5 := hj; omega)) (q - i * 5) (by show _ < 5; omega); rw [show i * 5 + (q - i * 5) = q by omega] at hin; rw [hin, <- List.getElem?_eq_getElem]; rw [List.getElem?_append_left (by show _ < 5; omega)] at hu; exact hu
    · have hq : q - i * 5 - 5 < (l.length - i) * 5 := by
        have := (List.getElem?_eq_some_iff.1 hu).1; rw [List.length_append, hfl] at this; have h10 : (txL k).length = 5 := rfl; omega
      have hin := World.cell?_setCells_in w.heap.size (flT (l.drop i)) ((i + 1) * 5) ((w.drew.alloc (.cells (Qtr l i G) 42)).setCells w.heap.size (i * 5) (txL k)).drew (fun j hj => Qga d1' (by omega)) (q - i * 5 - 5) (by omega); rw [show (i + 1) * 5 + (q - i * 5 - 5) = q by omega] at hin; rw [hin, <- List.getElem?_eq_getElem]; rw [List.getElem?_append_right (by show 5 <= _; omega)] at hu; exact hu
theorem insT_grow (w : World) (b cap : Nat) (l : List Tx) (h : RT w ⟨some b, cap⟩ l) (i : Nat) (hi : i < l.length) (hr : cap < l.length + 1) (k : Tx) (g : Nat) (hg : Qb w g 42 (txA k)) (hl : l.length <= 1000000) :
    Calls Try.prog 68 #[.slice (some ⟨b, 0, none⟩) l.length cap, .int .i64 (i : Int), .slice (some ⟨g, 0, none⟩) 1 1] w (Qph w ⟨some b, cap⟩ l i k) := by
  obtain ⟨ii, hi0, hi1⟩ := Option.map_eq_some_iff.1 Qak; simp only [Prod.mk.injEq] at hi1; obtain ⟨G, hG⟩ : ∃ G, G = grownCap w (l.length + 1) cap 42 := ⟨_, rfl⟩; have hG1 : l.length + 1 <= G := by rw [hG]; exact grownCap_ge w _ _ _
  have hG2 : G <= maxLen := by rw [hG]; exact grownCap_le_maxLen w _ _ _ (by unfold maxLen; omega)
  have hG3 : G <= 9223372036854775807 := by unfold maxLen at hG2; exact hG2
  have HD := grT_laid (w := w) (k := k) hi hG1 hG2; have HG : Qph w ⟨some b, cap⟩ l i k (.returned (.slice (some ⟨w.heap.size, 0, none⟩) (l.length + 1) G)) (GrWT w i G l k) := ⟨⟨some w.heap.size, G⟩, rfl, HD.1, Tn.of_below HD.2, fun q hq => .inr (by injection hq with hq; omega)⟩
  obtain ⟨cs, hrow, hcs, hcl, hnc⟩ : ∃ cs, Qb w b 42 cs /\ cs.size = cap * 5 /\ (∀ j u, (flT l)[j]? = some u -> w.cell? ⟨b, j, none⟩ = some u) /\ l.length <= cap := by
    rcases h with ⟨h1, _⟩ | ⟨b', cs, h1, h2, h3, h4, h5, h6, h7⟩
    · cases h1
    · injection h1 with h1; subst h1; exact ⟨cs, h2, h3, h7, h4⟩
  have hfl : (flT (l.drop i)).length = (l.length - i) * 5 := by rw [Qpb, List.length_drop]
  have hold : (Builtin.firstCells ii.size i (.slice (some ⟨b, 0, none⟩) i cap)).run Try.prog w.drew = .ok (flT (l.take i)).toArray w.drew := by
    rw [hi1.2.1]
    exact run_firstCells_some w.drew 5 i ⟨b, 0, none⟩ i cap (flT (l.take i)) (by rw [Qpb, List.length_take]; omega) (fun j v hj => by
      rw [Addr.add_lit, Nat.zero_add]; rw [<- Qgk, List.getElem?_take] at hj
      split at hj
      · exact hcl j v hj
      · cases hj)
  have hrz : ∀ ty, (Builtin.append_ #[25, 3] ty #[.slice (some ⟨b, 0, none⟩) i cap, .int .i64 ((l.length : Int) + 1 - (i : Int))]).run Try.prog w = .ok (.slice (some ⟨w.heap.size, 0, none⟩) (l.length + 1) G) (w.drew.alloc (.cells (Qtr l i G) 42)) := fun ty => by
    have h := Lib.run_append_grow_zeros (P := Try.prog) w 25 3 ty 42 ii (.agg Quf) .i64 .i64 Try.underlying25 Try.underlying3 hi0 hi1.1 (some ⟨b, 0, none⟩) i cap (flT (l.take i)) hold (l.length + 1 - i) (by omega) (by omega) (by omega) (by omega) (by rw [hi1.2.2]; omega) (by rw [hi1.2.2, show i + (l.length + 1 - i) = l.length + 1 by omega]; exact growslice_fits hr (by omega)); rw [show i + (l.length + 1 - i) = l.length + 1 by omega] at h; rw [show (l.length : Int) + 1 - (i : Int) = ((l.length + 1 - i : Nat) : Int) by omega, hG]; exact h
  have h0 : Qb (w.drew.alloc (.cells (Qtr l i G) 42)) w.heap.size 42 (Qtr l i G) := Qb.new w.drew _ _; have hsz := Qnu l i G (by omega) hG1; have hgr : Qb (w.drew.alloc (.cells (Qtr l i G) 42)) g 42 (txA k) := hg.later ((Below.refl w.heap.size w).drew.alloc (Nat.le_refl _) _); obtain ⟨W1, hW1⟩ : ∃ W1, W1 = w.drew.alloc (.cells (Qtr l i G) 42) := ⟨_, rfl⟩; have hbk : Qb W1 b 42 cs := by rw [hW1]; exact hrow.later ((Below.refl w.heap.size w).drew.alloc (Nat.le_refl _) _)
  have hbc : ∀ j u, (flT l)[j]? = some u -> W1.cell? ⟨b, j, none⟩ = some u := fun j u hu => hbk.cell j u (by rw [<- cell_of_row w b j _ _ (0, 0) hrow]; exact hcl j u hu)
  rw [<- hW1] at h0 hgr hrz
  have hcpA : ∀ ty dc, (Builtin.copy_ #[25, 25] ty #[.slice (some ⟨w.heap.size, i * 5, none⟩) (l.length + 1 - i) dc, .slice (some ⟨g, 0, none⟩) 1 1]).run Try.prog W1 = .ok (goInt 1) (W1.setCells w.heap.size (i * 5) (txL k)) := fun ty dc => by
    have := Qtb (P := Try.prog) W1 25 25 ty 42 5 w.heap.size (i * 5) (l.length + 1 - i) dc ⟨g, 0, none⟩ 1 1 (txL k) Try.underlying25 Qkc (by rw [show Nat.min 1 (l.length + 1 - i) = 1 from Nat.min_eq_left (by omega)]; rfl)
      (fun j v hj => by rw [Addr.add_lit, Nat.zero_add]; exact Qwg hgr j v hj)
      (fun j hj => Qga h0 (by have : j < 5 := hj; omega)) (fun j hj => h0.free _) (Qqq k)
    rwa [show Nat.min 1 (l.length + 1 - i) = 1 from Nat.min_eq_left (by omega)] at this
  obtain ⟨W2, hW2⟩ : ∃ W2, W2 = W1.setCells w.heap.size (i * 5) (txL k) := ⟨_, rfl⟩; obtain ⟨ds, d1, d2⟩ := Qy (txL k) (i * 5) W1 w.heap.size _ _ h0; have hne : b ≠ w.heap.size := by have := hrow.lt; omega
  have hbk2 : Qb W2 b 42 cs := by rw [hW2]; exact (Qfa (txL k) (i * 5) W1 w.heap.size (Is w.heap.size) rfl).row hbk hne
  rw [<- hW2] at d1 hcpA; have d1' : Qb W2.drew w.heap.size 42 ds := d1; have hbk2' : Qb W2.drew b 42 cs := hbk2
  have hcpB : ∀ ty dc sc, (Builtin.copy_ #[25, 25] ty #[.slice (some ⟨w.heap.size, (i + 1) * 5, none⟩) (l.length - i) dc, .slice (some ⟨b, i * 5, none⟩) (l.length - i) sc]).run Try.prog W2.drew = .ok (goInt ((l.length - i : Nat) : Int)) (GrWT w i G l k) := fun ty dc sc => by
    have := Qtb (P := Try.prog) W2.drew 25 25 ty 42 5 w.heap.size ((i + 1) * 5) (l.length - i) dc ⟨b, i * 5, none⟩ (l.length - i) sc (flT (l.drop i)) Try.underlying25 Qkc (by rw [hfl, show Nat.min (l.length - i) (l.length - i) = l.length - i from Nat.min_self _])
      (fun j v hj => by
        rw [Addr.add_lit]
        rw [<- Qlq, List.getElem?_drop] at hj
        have := hcl _ v hj
        rw [cell_of_row w b _ _ _ (0, 0) hrow] at this
        exact hbk2'.cell _ v this)
      (fun j hj => Qga d1' (by omega)) (fun j hj => d1'.free _) (Qjr _)
    rw [show Nat.min (l.length - i) (l.length - i) = l.length - i from Nat.min_self _] at this; rw [this, hW2, hW1]; rfl
  obtain ⟨W3, hW3⟩ : ∃ W3, W3 = GrWT w i G l k := ⟨_, rfl⟩; rw [<- hW3] at HG hcpB; have HH := Qc HG; have hgb : b < w.heap.size := hrow.lt; clear hW1 hW2 hW3 d1 d2 d1' hbk2 hbk2' hbk hbc hgr hfl hrow hcl hcs h HG HD hg h0 hsz hold hi1 hi0 hG hG2; generalize l.length = n at *; generalize w.heap.size = N at *; have hz2 : ((i : Int) == (n : Int)) = false := by rw [beq_eq_false_iff_ne]; omega
  have hz3 : (cap : Int) < (n : Int) + 1 := by omega
  have htn : ((i : Int) + 1).toNat = i + 1 := by omega
  have hw1 : IntKind.i64.wrap ((i : Int) + 1) = (i : Int) + 1 := by rw [IntKind.wrap_i64]; omega
  have hb1 : (0 : Int) <= (i : Int) + 1 := by omega
  have hb2 : ¬ (cap = i + 1 /\ False) := by simp
  have hb3 : (i : Int) <= (n : Int) + 1 := by omega
  have hb4 : ¬ (cap = i) := by omega
  have hb6 : ¬ (G = i) := by omega
  have hb7 : ¬ (G = i + 1) := by omega
  have hb8 : (n : Int) + 1 <= (G : Int) := by omega
  have hb5 : (i : Int) + 1 <= (n : Int) + 1 := by omega
  have hin : i <= n := by omega
  have hin2 : (i : Int) <= (n : Int) := by omega
  have hin3 : (i : Int) <= (cap : Int) := by omega
  go_enter Try.func68, Try.ntmps68
  go_wp2_with (first
    | (at_builtin; refine Lib.wpList_append_run _ rfl _ _ _ _ rfl _ _ rfl rfl _ _ (hrz _) ?_)
    | (at_builtin; refine wpList_copy_run13 _ rfl _ _ 25 25 rfl _ _ rfl rfl (hcpA _ _) ?_))
  go_region_law (refine Qxd rfl (.tmp 50) (.tmp 53) 25 25 rfl (.slice (some ⟨N, (i + 1) * 5, none⟩) (n - i) (G - (i + 1))) (.slice (some ⟨b, i * 5, none⟩) (n - i) (cap - i)) ?h1 ?h2 (hcpB _ _ _) ?_; (case h1 => simp [Act.eval, Act.put]); (case h2 => simp [Act.eval, Act.put])); go_wp2; go_ret; exact HH.out
theorem insT (w : World) (s : Sl) (l : List Tx) (h : RT w s l) (i : Nat) (hi : i <= l.length) (k : Tx) (g : Nat) (hg : Qb w g 42 (txA k)) (hgb : s.b ≠ some g) (hl : l.length <= 1000000) :
    Calls Try.prog 68 #[slV s l.length, .int .i64 (i : Int), .slice (some ⟨g, 0, none⟩) 1 1] w (Qph w s l i k) := by
  by_cases hn : i = l.length
  · subst hn; exact insT_end w s l h k g hg hl
  · obtain ⟨o, c⟩ := s
    cases o with
    | none =>
      rcases h with ⟨_, rfl, _⟩ | ⟨b, cs, h1, _⟩
      · simp at hi; exact absurd hi (by simpa using hn)
      · cases h1
    | some b =>
      by_cases hr : l.length + 1 <= c
      · exact Qfz w b c l h i (by omega) hr k g hg (fun e => hgb (by rw [e])) hl
      · exact insT_grow w b c l h i (by omega) (by omega) k g hg hl
def Qwf : Array Value := #[.int .i64 0, .int .u64 0]
theorem Qkp (n : Nat) : (Builtin.zeroCells Qwf n).toList.length = n * 2 := by
  simp [Builtin.zeroCells, show Qwf.size = 2 from rfl]
theorem run_pushD (w : World) (ty : TypeId) (s : Sl) (l : List Di) (h : RD w s l) (k : Di) (g c : Nat) (hg : ∀ j u, (diL k)[j]? = some u -> w.cell? ⟨g, j, none⟩ = some u) (hl : l.length <= 1000000) :
    ∃ s' w', (Builtin.append_ #[26, 26] ty #[slV s l.length, .slice (some ⟨g, 0, none⟩) 1 c]).run Try.prog w = .ok (slV s' (l.length + 1)) w' /\ RD w' s' (l ++ [k]) /\ Tn (ofS s) w w' /\ (∀ q, s'.b = some q -> s.b = some q ∨ w.heap.size <= q) := by
  obtain ⟨i, hi0, hi1⟩ := Option.map_eq_some_iff.1 infoXD; simp only [Prod.mk.injEq] at hi1
  have hcells : ∀ j u, (diL k)[j]? = some u -> w.cell? ((⟨g, 0, none⟩ : Addr).add j) = some u := fun j u hu => by
    rw [Addr.add_lit, Nat.zero_add]; exact hg j u hu
  have flat : flD (l ++ [k]) = flD l ++ diL k := by rw [Qhe, flD_one]
  have own : w.ownsRow 0 81 2 (slV s l.length) l.length (flD l) := by
    refine ⟨Qvb l, ?_⟩
    rcases h with ⟨h1, rfl, h3⟩ | ⟨b, cs, h1, h2, h3, h4, h5, h6, h7⟩
    · left; unfold slV; rw [h1, h3]; exact ⟨rfl, rfl⟩
    · right; refine ⟨b, s.c, cs, by unfold slV; rw [h1]; rfl, Nat.zero_le _, h2, h4, h6, h3, ?_⟩; apply List.ext_getElem?; intro j; rw [List.getElem?_take]
      by_cases hj : j < l.length * 2
      · rw [if_pos hj]; have hj2 : j < (flD l).length := by rw [Qvb]; exact hj
        have h8 := h7 j _ (List.getElem?_eq_getElem hj2); rw [cell_of_row w b j _ _ (0, 0) h2] at h8; rw [Array.getElem?_toList, h8, List.getElem?_eq_getElem hj2]
      · rw [if_neg hj, List.getElem?_eq_none (by rw [Qvb]; omega)]
  obtain ⟨v', w', r1, r2, r3, _, r5⟩ := run_append_own_at (P := Try.prog) w 0 26 ty 81 i (.agg Qwf) 2 16 Try.underlying26 hi0 hi1.1 hi1.2.1 hi1.2.2 rfl (by omega) (slV s l.length) l.length (flD l) own ⟨g, 0, none⟩ 1 c (diL k) rfl hcells (Qpq k) (by unfold maxLen; omega) (by omega) (Nat.zero_le _); rw [<- flat] at r2; obtain ⟨s', rfl, h1, _⟩ := RD.fresh (l := l ++ [k]) (by simp) (by omega) r2
  have hob : ∀ (s : Sl) (n : Nat), (slV s n).ownBlock = s.b := by
    rintro ⟨_ | b, c⟩ n <;> rfl
  rw [hob, hob] at r5; rw [hob] at r3; refine ⟨s', w', r1, h1, Tn.of_grown r3 (fun k hk => hk), fun q hq => ?_⟩
  rcases r5 with r5 | r5
  · exact .inl (r5.symm.trans hq)
  · rw [r5] at hq; injection hq with hq; exact .inr (by omega)
theorem overD (w : World) (vb b i m vc lb cb : Nat) (hne : vb ≠ b) (tA tB : TypeId) (va vs : Array Value) (hA : Qb w vb tA va) (hB : Qb w b tB vs) (hz : vs.size ≠ 0) :
    (callFunc 88 #[.slice (some ⟨vb, 0, none⟩) m vc, .slice (some ⟨b, i, none⟩) lb cb]).run Try.prog w = .ok (.value (.bool false)) w := by
  have hsa : w.shape? vb = some (tA, va.size) := by
    have e : w.heap[vb]? = some (.cells va tA (0, 0)) := hA; simp [World.shape?, e]
  have hsb : w.shape? b = some (tB, vs.size) := by
    have e : w.heap[b]? = some (.cells vs tB (0, 0)) := hB; simp [World.shape?, e]
  rw [run_callFunc_extern Try.func88 (by kernel_rfl) (by kernel_rfl) (by kernel_rfl) (e := Extern.SlicesOverlaps.overlaps #[26, 26] #[4]) (by kernel_rfl),
    Lib.run_overlaps_apart w 26 4 81 Try.underlying26 2 (fun w => by kernel_rfl) ⟨vb, 0, none⟩ ⟨b, i, none⟩ m vc lb cb hne tA tB va.size vs.size hsa hsb hz (hA.free _) (hA.free _)]
  rfl
def Qqk (l : List Di) (i : Nat) (k : Di) : List Di := l.take i ++ k :: l.drop i
theorem Qyn (l : List Di) (i : Nat) (k : Di) (hi : i <= l.length) : (Qqk l i k).length = l.length + 1 := by
  unfold Qqk; rw [List.length_append, List.length_cons, List.length_take, List.length_drop]; omega
theorem flD_ins (l : List Di) (i : Nat) (k : Di) : flD (Qqk l i k) = flD (l.take i) ++ (diL k ++ flD (l.drop i)) := by
  unfold Qqk; rw [Qhe, show k :: l.drop i = [k] ++ l.drop i from rfl, Qhe, flD_one]
def Qnh (w : World) (s : Sl) (l : List Di) (i : Nat) (k : Di) (e : Ending) (w' : World) : Prop := ∃ s', e = .returned (slV s' (l.length + 1)) /\ RD w' s' (Qqk l i k) /\ Tn (ofS s) w w' /\ ∀ q, s'.b = some q -> s.b = some q ∨ w.heap.size <= q
theorem Qxg {w : World} {g : Nat} {t : TypeId} {k : Di} (hg : Qb w g t (diA k)) : ∀ j u, (diL k)[j]? = some u -> w.cell? ⟨g, j, none⟩ = some u := fun j u hu => hg.cell j u (by
  have : (diA k).toList = diL k := rfl; rw [<- Array.getElem?_toList, this]
  exact hu)
theorem insD_end (w : World) (s : Sl) (l : List Di) (h : RD w s l) (k : Di) (g : Nat) (hg : Qb w g 81 (diA k)) (hl : l.length <= 1000000) :
    Calls Try.prog 71 #[slV s l.length, .int .i64 (l.length : Int), .slice (some ⟨g, 0, none⟩) 1 1] w (Qnh w s l l.length k) := by
  obtain ⟨s', w', r1, r2, r3, r4⟩ := run_pushD w 26 s l h k g 1 (Qxg hg) hl; have HE := Qc (show ∃ s', Qnh w s l l.length k (.returned (slV s' (l.length + 1))) w' /\ s' = s' from ⟨s', ⟨s', rfl, by unfold Qqk; rw [List.take_length, List.drop_length]; exact r2, r3, r4⟩, rfl⟩); have HG := Qc (show Qnh w s l l.length k (.returned (slV s' (l.length + 1))) w' from ⟨s', rfl, by unfold Qqk; rw [List.take_length, List.drop_length]; exact r2, r3, r4⟩); have hcap := h.cap; clear HE r2 r3 r4 hg h; obtain ⟨o, c⟩ := s; obtain ⟨v', hv'⟩ : ∃ v', v' = slV s' (l.length + 1) := ⟨_, rfl⟩; rw [<- hv'] at r1 HG; clear hv'; have hc1 : l.length <= c := hcap.1; have hc2 : c <= 9223372036854775807 := by have := hcap.2; unfold maxLen at this; exact this
  clear hcap; generalize l.length = n at *
  cases o with
  | none =>
    have r1' : (Builtin.append_ #[26, 26] 26 #[.slice none n c, .slice (some ⟨g, 0, none⟩) 1 1]).run Try.prog w = .ok v' w' := r1; show Calls _ _ #[.slice none n c, _, _] w _; clear r1; go_enter Try.func71, Try.ntmps71; go_wp2_with (at_builtin; refine Lib.wpList_append_run _ rfl _ _ _ _ rfl _ _ rfl rfl _ _ r1' ?_)
    all_goals
      go_ret; exact HG.out
  | some b =>
    have r1' : (Builtin.append_ #[26, 26] 26 #[.slice (some ⟨b, 0, none⟩) n c, .slice (some ⟨g, 0, none⟩) 1 1]).run Try.prog w = .ok v' w' := r1; show Calls _ _ #[.slice (some ⟨b, 0, none⟩) n c, _, _] w _; clear r1; go_enter Try.func71, Try.ntmps71; go_wp2_with (at_builtin; refine Lib.wpList_append_run _ rfl _ _ _ _ rfl _ _ rfl rfl _ _ r1' ?_)
    all_goals
      go_ret; exact HG.out
def ShWD (w : World) (b i : Nat) (l : List Di) (k : Di) : World := (w.drew.setCells b ((i + 1) * 2) (flD (l.drop i))).setCells b (i * 2) (diL k)
theorem shD_laid {w : World} {b cap i : Nat} {l : List Di} {k : Di} (h : RD w ⟨some b, cap⟩ l) (hi : i < l.length) (hc : l.length + 1 <= cap) : RD (ShWD w b i l k) ⟨some b, cap⟩ (Qqk l i k) /\ Tn (Is b) w (ShWD w b i l k) := by
  have hT : Tn (Is b) w (ShWD w b i l k) := ((Tn.refl (Is b) w).drew.then (Qfa _ _ _ b (Is b) (show Is b b from rfl))).then (Qfa _ _ _ b (Is b) (show Is b b from rfl)); refine ⟨?_, hT⟩
  rcases h with ⟨h1, _⟩ | ⟨b', cs, h1, h2, h3, h4, h5, h6, h7⟩
  · cases h1
  · injection h1 with h1; subst h1; have h2' : Qb w.drew b 81 cs := h2; have hsz : cs.size = cap * 2 := h3; obtain ⟨ds, d1, d2⟩ := Qy (flD (l.drop i)) ((i + 1) * 2) w.drew b _ cs h2'; obtain ⟨es, e1, e2⟩ := Qy (diL k) (i * 2) _ b _ ds d1; have hfl : (flD (l.drop i)).length = (l.length - i) * 2 := by rw [Qvb, List.length_drop]
    refine .inr ⟨b, es, rfl, e1, by rw [e2, d2]; exact h3, by rw [Qyn _ _ _ (by omega)]; exact hc, h5, h6, fun q u hu => ?_⟩; have hti : (flD (l.take i)).length = i * 2 := by rw [Qvb, List.length_take]; omega
    rw [flD_ins] at hu; unfold ShWD
    by_cases h8 : q < i * 2
    · rw [World.cell?_setCells_out b _ _ _ _ (fun _ _ => .inl (by show q < i * 2; exact h8)), World.cell?_setCells_out b _ _ _ _ (fun _ _ => .inl (by show q < (i + 1) * 2; omega))]; rw [List.getElem?_append_left (by omega), <- Qyj, List.getElem?_take, if_pos h8] at hu; exact h7 q u hu
    · rw [List.getElem?_append_right (by omega), hti] at hu
      by_cases h9 : q < (i + 1) * 2
      · have hin := World.cell?_setCells_in b (diL k) (i * 2) (w.drew.setCells b ((i + 1) * 2) (flD (l.drop i))) (fun j hj => Qga d1 (by have : j < 2 := hj; omega)) (q - i * 2) (by show _ < 2; omega); rw [show i * 2 + (q - i * 2) = q by omega] at hin; rw [hin, <- List.getElem?_eq_getElem]; rw [List.getElem?_append_left (by show _ < 2; omega)] at hu; exact hu
      · rw [World.cell?_setCells_out b _ _ _ _ (fun _ _ => .inr (by show i * 2 + 2 <= q; omega))]
        have hq : q - i * 2 - 2 < (l.length - i) * 2 := by
          have := (List.getElem?_eq_some_iff.1 hu).1; rw [List.length_append, hfl] at this; have h10 : (diL k).length = 2 := rfl; omega
        have hin := World.cell?_setCells_in b (flD (l.drop i)) ((i + 1) * 2) w.drew (fun j hj => Qga h2' (by omega)) (q - i * 2 - 2) (by omega); rw [show (i + 1) * 2 + (q - i * 2 - 2) = q by omega] at hin; rw [hin, <- List.getElem?_eq_getElem]; rw [List.getElem?_append_right (by show 2 <= _; omega)] at hu; exact hu
theorem Qraa (w : World) (b cap : Nat) (l : List Di) (h : RD w ⟨some b, cap⟩ l) (i : Nat) (hi : i < l.length) (hr : l.length + 1 <= cap) (k : Di) (g : Nat) (hg : Qb w g 81 (diA k)) (hgb : g ≠ b) (hl : l.length <= 1000000) :
    Calls Try.prog 71 #[.slice (some ⟨b, 0, none⟩) l.length cap, .int .i64 (i : Int), .slice (some ⟨g, 0, none⟩) 1 1] w (Qnh w ⟨some b, cap⟩ l i k) := by
  have HD := Qc (shD_laid (k := k) h hi hr); have HG : Qnh w ⟨some b, cap⟩ l i k (.returned (.slice (some ⟨b, 0, none⟩) (l.length + 1) cap)) (ShWD w b i l k) := ⟨⟨some b, cap⟩, rfl, HD.out.1, HD.out.2.weak (fun q hq => by rw [hq]; rfl), fun q hq => .inl hq⟩; have hcap2 : cap <= 9223372036854775807 := by have := h.cap.2; unfold maxLen at this; exact this
  obtain ⟨cs, hrow, hcs, hcl⟩ : ∃ cs, Qb w b 81 cs /\ cs.size = cap * 2 /\ ∀ j u, (flD l)[j]? = some u -> w.cell? ⟨b, j, none⟩ = some u := by
    rcases h with ⟨h1, _⟩ | ⟨b', cs, h1, h2, h3, h4, h5, h6, h7⟩
    · cases h1
    · injection h1 with h1; subst h1; exact ⟨cs, h2, h3, h7⟩
  have hrow' : Qb w.drew b 81 cs := hrow; have hfl : (flD (l.drop i)).length = (l.length - i) * 2 := by rw [Qvb, List.length_drop]
  have hov : ∀ lb cb, (callFunc 88 #[.slice (some ⟨g, 0, none⟩) 1 1, .slice (some ⟨b, (i + 1) * 2, none⟩) lb cb]).run Try.prog w = .ok (.value (.bool false)) w := fun lb cb => overD w g b ((i + 1) * 2) 1 1 lb cb hgb _ _ _ _ hg hrow (by omega)
  have hcp1 : ∀ ty dc sc, (Builtin.copy_ #[26, 26] ty #[.slice (some ⟨b, (i + 1) * 2, none⟩) (l.length - i) dc, .slice (some ⟨b, i * 2, none⟩) (l.length + 1 - i) sc]).run Try.prog w.drew = .ok (goInt ((l.length - i : Nat) : Int)) (w.drew.setCells b ((i + 1) * 2) (flD (l.drop i))) := fun ty dc sc => by
    have := Qtb (P := Try.prog) w.drew 26 26 ty 81 2 b ((i + 1) * 2) (l.length - i) dc ⟨b, i * 2, none⟩ (l.length + 1 - i) sc (flD (l.drop i)) Try.underlying26 Qwi (by rw [hfl, show Nat.min (l.length + 1 - i) (l.length - i) = l.length - i from Nat.min_eq_right (by omega)])
      (fun j v hj => by rw [Addr.add_lit]; exact hcl _ v (by rw [<- Qay, List.getElem?_drop] at hj; exact hj))
      (fun j hj => Qga hrow' (by omega)) (fun j hj => hrow'.free _) (Qjx _)
    rwa [show Nat.min (l.length + 1 - i) (l.length - i) = l.length - i from Nat.min_eq_right (by omega)] at this
  obtain ⟨ds, d1, d2⟩ := Qy (flD (l.drop i)) ((i + 1) * 2) w.drew b _ cs hrow'; have hgr : Qb (w.drew.setCells b ((i + 1) * 2) (flD (l.drop i))) g 81 (diA k) := (Qfa (flD (l.drop i)) ((i + 1) * 2) w.drew b (Is b) rfl).row (show Qb w.drew g _ _ from hg) hgb
  have hcp2 : ∀ ty dc, (Builtin.copy_ #[26, 26] ty #[.slice (some ⟨b, i * 2, none⟩) (l.length + 1 - i) dc, .slice (some ⟨g, 0, none⟩) 1 1]).run Try.prog (w.drew.setCells b ((i + 1) * 2) (flD (l.drop i))) = .ok (goInt 1) (ShWD w b i l k) := fun ty dc => by
    have := Qtb (P := Try.prog) (w.drew.setCells b ((i + 1) * 2) (flD (l.drop i))) 26 26 ty 81 2 b (i * 2) (l.length + 1 - i) dc ⟨g, 0, none⟩ 1 1 (diL k) Try.underlying26 Qwi (by rw [show Nat.min 1 (l.length + 1 - i) = 1 from Nat.min_eq_left (by omega)]; rfl)
      (fun j v hj => by rw [Addr.add_lit, Nat.zero_add]; exact Qxg hgr j v hj)
      (fun j hj => Qga d1 (by have : j < 2 := hj; omega)) (fun j hj => d1.free _) (Qpq k)
    rwa [show Nat.min 1 (l.length + 1 - i) = 1 from Nat.min_eq_left (by omega)] at this
  obtain ⟨W2, hW2⟩ : ∃ W2, W2 = ShWD w b i l k := ⟨_, rfl⟩; rw [<- hW2] at HG hcp2; obtain ⟨W1, hW1⟩ : ∃ W1, W1 = w.drew.setCells b ((i + 1) * 2) (flD (l.drop i)) := ⟨_, rfl⟩; rw [<- hW1] at hcp1 hcp2; have HH := Qc HG; clear hW1 hW2 d1 d2 hgr hfl hrow hrow' hcl hcs h HG HD hg; generalize l.length = n at *; have hz2 : ((i : Int) == (n : Int)) = false := by rw [beq_eq_false_iff_ne]; omega
  have hz3 : ¬ (cap : Int) < (n : Int) + 1 := by omega
  have hz4 : (n : Int) + 1 <= (cap : Int) := by omega
  have htn : ((i : Int) + 1).toNat = i + 1 := by omega
  have hw1 : IntKind.i64.wrap ((i : Int) + 1) = (i : Int) + 1 := by rw [IntKind.wrap_i64]; omega
  have hb1 : (0 : Int) <= (i : Int) + 1 := by omega
  have hb2 : ¬ (cap = i + 1) := by omega
  have hb3 : (i : Int) <= (n : Int) + 1 := by omega
  have hb4 : ¬ (cap = i) := by omega
  have hb5 : (i : Int) + 1 <= (n : Int) + 1 := by omega
  have hin : i <= n := by omega
  have hin2 : (i : Int) <= (n : Int) := by omega
  go_enter Try.func71, Try.ntmps71; go_wp2_with (simp only [hov]); go_region_law (refine Qxd rfl (.tmp 73) (.tmp 76) 26 26 rfl (.slice (some ⟨b, (i + 1) * 2, none⟩) (n - i) (cap - (i + 1))) (.slice (some ⟨b, i * 2, none⟩) (n + 1 - i) (cap - i)) ?h1 ?h2 (hcp1 _ _ _) ?_; (case h1 => simp [Act.eval, Act.put]); (case h2 => simp [Act.eval, Act.put])); go_wp2_with (at_builtin; refine wpList_copy_run13 _ rfl _ _ 26 26 rfl _ _ rfl rfl (hcp2 _ _) ?_); go_ret; exact HH.out
def Qsr (l : List Di) (i G : Nat) : Array Value := (flD (l.take i)).toArray ++ Builtin.zeroCells Qwf (l.length + 1 - i) ++ Builtin.zeroCells Qwf (G - (l.length + 1))
def GrWD (w : World) (i G : Nat) (l : List Di) (k : Di) : World := ((w.drew.alloc (.cells (Qsr l i G) 81)).setCells w.heap.size (i * 2) (diL k)).drew.setCells w.heap.size ((i + 1) * 2) (flD (l.drop i))
theorem Qfs (l : List Di) (i G : Nat) (hi : i <= l.length) (hG : l.length + 1 <= G) : (Qsr l i G).size = G * 2 := by
  have h1 : ∀ n, (Builtin.zeroCells Qwf n).size = n * 2 := fun n => by rw [<- Array.length_toList]; exact Qkp n
  unfold Qsr; rw [Array.size_append, Array.size_append, h1, h1, List.size_toArray, Qvb, List.length_take]; omega
theorem GrAD_get (l : List Di) (i G : Nat) (hi : i <= l.length) (q : Nat) (hq : q < i * 2) : (Qsr l i G)[q]? = (flD l)[q]? := by
  have e : (flD (l.take i)).length = i * 2 := by rw [Qvb, List.length_take]; omega
  unfold Qsr; rw [Array.getElem?_append_left (by rw [Array.size_append, List.size_toArray]; omega), Array.getElem?_append_left (by rw [List.size_toArray]; omega), List.getElem?_toArray, <- Qyj, List.getElem?_take, if_pos hq]
theorem grD_laid {w : World} {i G : Nat} {l : List Di} {k : Di} (hi : i < l.length) (hG : l.length + 1 <= G) (hG2 : G <= maxLen) : RD (GrWD w i G l k) ⟨some w.heap.size, G⟩ (Qqk l i k) /\ Below w.heap.size w (GrWD w i G l k) := by
  have h0 : Qb (w.drew.alloc (.cells (Qsr l i G) 81)) w.heap.size 81 (Qsr l i G) := Qb.new w.drew _ _; have hb0 : Below w.heap.size w (w.drew.alloc (.cells (Qsr l i G) 81)) := (Below.refl w.heap.size w).drew.alloc (Nat.le_refl _) _; have hsz := Qfs l i G (by omega) hG
  have hT : Below w.heap.size w (GrWD w i G l k) := by
    have t1 := Qfa (diL k) (i * 2) (w.drew.alloc (.cells (Qsr l i G) 81)) w.heap.size (Is w.heap.size) rfl; have t2 := Qfa (flD (l.drop i)) ((i + 1) * 2) ((w.drew.alloc (.cells (Qsr l i G) 81)).setCells w.heap.size (i * 2) (diL k)).drew w.heap.size (Is w.heap.size) rfl; have t3 := t1.drew.then t2; exact hb0.trans (t3.below (fun q hq => by rw [hq]; exact Nat.le_refl _) hb0.size)
  refine ⟨?_, hT⟩; obtain ⟨ds, d1, d2⟩ := Qy (diL k) (i * 2) _ w.heap.size _ _ h0; have d1' : Qb ((w.drew.alloc (.cells (Qsr l i G) 81)).setCells w.heap.size (i * 2) (diL k)).drew w.heap.size 81 ds := Qmd d1; obtain ⟨es, e1, e2⟩ := Qy (flD (l.drop i)) ((i + 1) * 2) _ w.heap.size _ _ d1'; have hfl : (flD (l.drop i)).length = (l.length - i) * 2 := by rw [Qvb, List.length_drop]
  refine .inr ⟨w.heap.size, es, rfl, e1, by rw [e2, d2]; exact hsz, by rw [Qyn _ _ _ (by omega)]; exact hG, Nat.zero_le _, hG2, fun q u hu => ?_⟩; have hti : (flD (l.take i)).length = i * 2 := by rw [Qvb, List.length_take]; omega
  rw [flD_ins] at hu; unfold GrWD
  by_cases h8 : q < i * 2
  · rw [World.cell?_setCells_out _ _ _ _ _ (fun _ _ => .inl (by show q < (i + 1) * 2; omega))]; rw [Quj]; rw [World.cell?_setCells_out _ _ _ _ _ (fun _ _ => .inl (by show q < i * 2; exact h8))]; rw [List.getElem?_append_left (by omega), <- Qyj, List.getElem?_take, if_pos h8] at hu; exact h0.cell q u (by rw [GrAD_get l i G (by omega) q h8]; exact hu)
  · rw [List.getElem?_append_right (by omega), hti] at hu
    by_cases h9 : q < (i + 1) * 2
    · rw [World.cell?_setCells_out _ _ _ _ _ (fun _ _ => .inl (by show q < (i + 1) * 2; exact h9))]; rw [Quj]; have hin := World.cell?_setCells_in w.heap.size (diL k) (i * 2) (w.drew.alloc (.cells (Qsr l i G) 81)) (fun j hj => Qga h0 (by have : j < 2 := hj; omega)) (q - i * 2) (by show _ < 2; omega); rw [show i * 2 + (q - i * 2) = q by omega] at hin; rw [hin, <- List.getElem?_eq_getElem]; rw [List.getElem?_append_left (by show _ < 2; omega)] at hu; exact hu
    · have hq : q - i * 2 - 2 < (l.length - i) * 2 := by
        have := (List.getElem?_eq_some_iff.1 hu).1; rw [List.length_append, hfl] at this; have h10 : (diL k).length = 2 := rfl; omega
      have hin := World.cell?_setCells_in w.heap.size (flD (l.drop i)) ((i + 1) * 2) ((w.drew.alloc (.cells (Qsr l i G) 81)).setCells w.heap.size (i * 2) (diL k)).drew (fun j hj => Qga d1' (by omega)) (q - i * 2 - 2) (by omega); rw [show (i + 1) * 2 + (q - i * 2 - 2) = q by omega] at hin; rw [hin, <- List.getElem?_eq_getElem]; rw [List.getElem?_append_right (by show 2 <= _; omega)] at hu; exact hu
theorem insD_grow (w : World) (b cap : Nat) (l : List Di) (h : RD w ⟨some b, cap⟩ l) (i : Nat) (hi : i < l.length) (hr : cap < l.length + 1) (k : Di) (g : Nat) (hg : Qb w g 81 (diA k)) (hl : l.length <= 1000000) :
    Calls Try.prog 71 #[.slice (some ⟨b, 0, none⟩) l.length cap, .int .i64 (i : Int), .slice (some ⟨g, 0, none⟩) 1 1] w (Qnh w ⟨some b, cap⟩ l i k) := by
  obtain ⟨ii, hi0, hi1⟩ := Option.map_eq_some_iff.1 infoXD; simp only [Prod.mk.injEq] at hi1; obtain ⟨G, hG⟩ : ∃ G, G = grownCap w (l.length + 1) cap 81 := ⟨_, rfl⟩; have hG1 : l.length + 1 <= G := by rw [hG]; exact grownCap_ge w _ _ _
  have hG2 : G <= maxLen := by rw [hG]; exact grownCap_le_maxLen w _ _ _ (by unfold maxLen; omega)
  have hG3 : G <= 9223372036854775807 := by unfold maxLen at hG2; exact hG2
  have HD := grD_laid (w := w) (k := k) hi hG1 hG2; have HG : Qnh w ⟨some b, cap⟩ l i k (.returned (.slice (some ⟨w.heap.size, 0, none⟩) (l.length + 1) G)) (GrWD w i G l k) := ⟨⟨some w.heap.size, G⟩, rfl, HD.1, Tn.of_below HD.2, fun q hq => .inr (by injection hq with hq; omega)⟩
  obtain ⟨cs, hrow, hcs, hcl, hnc⟩ : ∃ cs, Qb w b 81 cs /\ cs.size = cap * 2 /\ (∀ j u, (flD l)[j]? = some u -> w.cell? ⟨b, j, none⟩ = some u) /\ l.length <= cap := by
    rcases h with ⟨h1, _⟩ | ⟨b', cs, h1, h2, h3, h4, h5, h6, h7⟩
    · cases h1
    · injection h1 with h1; subst h1; exact ⟨cs, h2, h3, h7, h4⟩
  have hfl : (flD (l.drop i)).length = (l.length - i) * 2 := by rw [Qvb, List.length_drop]
  have hold : (Builtin.firstCells ii.size i (.slice (some ⟨b, 0, none⟩) i cap)).run Try.prog w.drew = .ok (flD (l.take i)).toArray w.drew := by
    rw [hi1.2.1]
    exact run_firstCells_some w.drew 2 i ⟨b, 0, none⟩ i cap (flD (l.take i)) (by rw [Qvb, List.length_take]; omega) (fun j v hj => by
      rw [Addr.add_lit, Nat.zero_add]; rw [<- Qyj, List.getElem?_take] at hj
      split at hj
      · exact hcl j v hj
      · cases hj)
  have hrz : ∀ ty, (Builtin.append_ #[26, 3] ty #[.slice (some ⟨b, 0, none⟩) i cap, .int .i64 ((l.length : Int) + 1 - (i : Int))]).run Try.prog w = .ok (.slice (some ⟨w.heap.size, 0, none⟩) (l.length + 1) G) (w.drew.alloc (.cells (Qsr l i G) 81)) := fun ty => by
    have h := Lib.run_append_grow_zeros (P := Try.prog) w 26 3 ty 81 ii (.agg Qwf) .i64 .i64 Try.underlying26 Try.underlying3 hi0 hi1.1 (some ⟨b, 0, none⟩) i cap (flD (l.take i)) hold (l.length + 1 - i) (by omega) (by omega) (by omega) (by omega) (by rw [hi1.2.2]; omega) (by rw [hi1.2.2, show i + (l.length + 1 - i) = l.length + 1 by omega]; exact growslice_fits hr (by omega)); rw [show i + (l.length + 1 - i) = l.length + 1 by omega] at h; rw [show (l.length : Int) + 1 - (i : Int) = ((l.length + 1 - i : Nat) : Int) by omega, hG]; exact h
  have h0 : Qb (w.drew.alloc (.cells (Qsr l i G) 81)) w.heap.size 81 (Qsr l i G) := Qb.new w.drew _ _; have hsz := Qfs l i G (by omega) hG1; have hgr : Qb (w.drew.alloc (.cells (Qsr l i G) 81)) g 81 (diA k) := hg.later ((Below.refl w.heap.size w).drew.alloc (Nat.le_refl _) _); obtain ⟨W1, hW1⟩ : ∃ W1, W1 = w.drew.alloc (.cells (Qsr l i G) 81) := ⟨_, rfl⟩; have hbk : Qb W1 b 81 cs := by rw [hW1]; exact hrow.later ((Below.refl w.heap.size w).drew.alloc (Nat.le_refl _) _)
  have hbc : ∀ j u, (flD l)[j]? = some u -> W1.cell? ⟨b, j, none⟩ = some u := fun j u hu => hbk.cell j u (by rw [<- cell_of_row w b j _ _ (0, 0) hrow]; exact hcl j u hu)
  rw [<- hW1] at h0 hgr hrz
  have hcpA : ∀ ty dc, (Builtin.copy_ #[26, 26] ty #[.slice (some ⟨w.heap.size, i * 2, none⟩) (l.length + 1 - i) dc, .slice (some ⟨g, 0, none⟩) 1 1]).run Try.prog W1 = .ok (goInt 1) (W1.setCells w.heap.size (i * 2) (diL k)) := fun ty dc => by
    have := Qtb (P := Try.prog) W1 26 26 ty 81 2 w.heap.size (i * 2) (l.length + 1 - i) dc ⟨g, 0, none⟩ 1 1 (diL k) Try.underlying26 Qwi (by rw [show Nat.min 1 (l.length + 1 - i) = 1 from Nat.min_eq_left (by omega)]; rfl)
      (fun j v hj => by rw [Addr.add_lit, Nat.zero_add]; exact Qxg hgr j v hj)
      (fun j hj => Qga h0 (by have : j < 2 := hj; omega)) (fun j hj => h0.free _) (Qpq k)
    rwa [show Nat.min 1 (l.length + 1 - i) = 1 from Nat.min_eq_left (by omega)] at this
  obtain ⟨W2, hW2⟩ : ∃ W2, W2 = W1.setCells w.heap.size (i * 2) (diL k) := ⟨_, rfl⟩; obtain ⟨ds, d1, d2⟩ := Qy (diL k) (i * 2) W1 w.heap.size _ _ h0; have hne : b ≠ w.heap.size := by have := hrow.lt; omega
  have hbk2 : Qb W2 b 81 cs := by rw [hW2]; exact (Qfa (diL k) (i * 2) W1 w.heap.size (Is w.heap.size) rfl).row hbk hne
  rw [<- hW2] at d1 hcpA; have d1' : Qb W2.drew w.heap.size 81 ds := d1; have hbk2' : Qb W2.drew b 81 cs := hbk2
  have hcpB : ∀ ty dc sc, (Builtin.copy_ #[26, 26] ty #[.slice (some ⟨w.heap.size, (i + 1) * 2, none⟩) (l.length - i) dc, .slice (some ⟨b, i * 2, none⟩) (l.length - i) sc]).run Try.prog W2.drew = .ok (goInt ((l.length - i : Nat) : Int)) (GrWD w i G l k) := fun ty dc sc => by
    have := Qtb (P := Try.prog) W2.drew 26 26 ty 81 2 w.heap.size ((i + 1) * 2) (l.length - i) dc ⟨b, i * 2, none⟩ (l.length - i) sc (flD (l.drop i)) Try.underlying26 Qwi (by rw [hfl, show Nat.min (l.length - i) (l.length - i) = l.length - i from Nat.min_self _])
      (fun j v hj => by
        rw [Addr.add_lit]
        rw [<- Qay, List.getElem?_drop] at hj
        have := hcl _ v hj
        rw [cell_of_row w b _ _ _ (0, 0) hrow] at this
        exact hbk2'.cell _ v this)
      (fun j hj => Qga d1' (by omega)) (fun j hj => d1'.free _) (Qjx _)
    rw [show Nat.min (l.length - i) (l.length - i) = l.length - i from Nat.min_self _] at this; rw [this, hW2, hW1]; rfl
  obtain ⟨W3, hW3⟩ : ∃ W3, W3 = GrWD w i G l k := ⟨_, rfl⟩; rw [<- hW3] at HG hcpB; have HH := Qc HG; have hgb : b < w.heap.size := hrow.lt; clear hW1 hW2 hW3 d1 d2 d1' hbk2 hbk2' hbk hbc hgr hfl hrow hcl hcs h HG HD hg h0 hsz hold hi1 hi0 hG hG2; generalize l.length = n at *; generalize w.heap.size = N at *; have hz2 : ((i : Int) == (n : Int)) = false := by rw [beq_eq_false_iff_ne]; omega
  have hz3 : (cap : Int) < (n : Int) + 1 := by omega
  have htn : ((i : Int) + 1).toNat = i + 1 := by omega
  have hw1 : IntKind.i64.wrap ((i : Int) + 1) = (i : Int) + 1 := by rw [IntKind.wrap_i64]; omega
  have hb1 : (0 : Int) <= (i : Int) + 1 := by omega
  have hb2 : ¬ (cap = i + 1 /\ False) := by simp
  have hb3 : (i : Int) <= (n : Int) + 1 := by omega
  have hb4 : ¬ (cap = i) := by omega
  have hb6 : ¬ (G = i) := by omega
  have hb7 : ¬ (G = i + 1) := by omega
  have hb8 : (n : Int) + 1 <= (G : Int) := by omega
  have hb5 : (i : Int) + 1 <= (n : Int) + 1 := by omega
  have hin : i <= n := by omega
  have hin2 : (i : Int) <= (n : Int) := by omega
  have hin3 : (i : Int) <= (cap : Int) := by omega
  go_enter Try.func71, Try.ntmps71
  go_wp2_with (first
    | (at_builtin; refine Lib.wpList_append_run _ rfl _ _ _ _ rfl _ _ rfl rfl _ _ (hrz _) ?_)
    | (at_builtin; refine wpList_copy_run13 _ rfl _ _ 26 26 rfl _ _ rfl rfl (hcpA _ _) ?_))
  go_region_law (refine Qxd rfl (.tmp 50) (.tmp 53) 26 26 rfl (.slice (some ⟨N, (i + 1) * 2, none⟩) (n - i) (G - (i + 1))) (.slice (some ⟨b, i * 2, none⟩) (n - i) (cap - i)) ?h1 ?h2 (hcpB _ _ _) ?_; (case h1 => simp [Act.eval, Act.put]); (case h2 => simp [Act.eval, Act.put])); go_wp2; go_ret; exact HH.out
theorem insD (w : World) (s : Sl) (l : List Di) (h : RD w s l) (i : Nat) (hi : i <= l.length) (k : Di) (g : Nat) (hg : Qb w g 81 (diA k)) (hgb : s.b ≠ some g) (hl : l.length <= 1000000) :
    Calls Try.prog 71 #[slV s l.length, .int .i64 (i : Int), .slice (some ⟨g, 0, none⟩) 1 1] w (Qnh w s l i k) := by
  by_cases hn : i = l.length
  · subst hn; exact insD_end w s l h k g hg hl
  · obtain ⟨o, c⟩ := s
    cases o with
    | none =>
      rcases h with ⟨_, rfl, _⟩ | ⟨b, cs, h1, _⟩
      · simp at hi; exact absurd hi (by simpa using hn)
      · cases h1
    | some b =>
      by_cases hr : l.length + 1 <= c
      · exact Qraa w b c l h i (by omega) hr k g hg (fun e => hgb (by rw [e])) hl
      · exact insD_grow w b c l h i (by omega) (by omega) k g hg hl
def Qqb (r : Rec) : Tx := ⟨r.t, 1, r.l, 0, 0⟩
def Qhh (x : Tx) (r : Rec) : Tx := ⟨x.t, if r.k = 4 then 2 else if r.k = 3 then 3 else x.s, x.f, r.l, if r.k = 1 then r.l else if r.k = 2 then r.n else x.n⟩
theorem Qmp (x : Tx) (r : Rec) : (Qhh x r).t = x.t := rfl
def Qzb : List Tx -> Rec -> List Tx
  | [], r => [Qhh (Qqb r) r]
  | x :: l, r => if x.t < r.t then x :: Qzb l r else if x.t = r.t then Qhh x r :: l else Qhh (Qqb r) r :: x :: l
def Qoa : List Tx -> Int -> List Tx
  | [], _ => []
  | x :: l, t => if x.t = t then l else x :: Qoa l t
def Qxa : List Di -> Int -> Nat -> List Di
  | [], p, n => [⟨p, n⟩]
  | x :: l, p, n => if x.p < p then x :: Qxa l p n else if x.p = p then x :: l else ⟨p, n⟩ :: x :: l
theorem Qvc {x : Tx} {l : List Tx} (h : Qmi (x :: l)) : Qmi l := fun p q hpq hq => by
  have := h (p + 1) (q + 1) (by omega) (by rw [List.length_cons]; omega); simpa [List.getD] using this
theorem Qkd {x : Tx} {l : List Tx} (h : Qmi (x :: l)) : ∀ y ∈ l, x.t < y.t := fun y hy => by
  obtain ⟨j, hj, rfl⟩ := List.mem_iff_getElem.1 hy; have := h 0 (j + 1) (by omega) (by rw [List.length_cons]; omega); simpa [List.getD, hj] using this
theorem Qzh {x : Tx} {l : List Tx} (h1 : ∀ y ∈ l, x.t < y.t) (h2 : Qmi l) : Qmi (x :: l) := fun p q hpq hq => by
  rw [List.length_cons] at hq; obtain ⟨q, rfl⟩ : ∃ k, q = k + 1 := ⟨q - 1, by omega⟩; have hm : l.getD q Tx.zero ∈ l := Qua _ _ _ (by omega)
  cases p with
  | zero => simpa [List.getD] using h1 _ hm
  | succ p => simpa [List.getD] using h2 p q (by omega) (by omega)
theorem srtD_tail {x : Di} {l : List Di} (h : SrtD (x :: l)) : SrtD l := fun p q hpq hq => by
  have := h (p + 1) (q + 1) (by omega) (by rw [List.length_cons]; omega); simpa [List.getD] using this
theorem srtD_head {x : Di} {l : List Di} (h : SrtD (x :: l)) : ∀ y ∈ l, x.p < y.p := fun y hy => by
  obtain ⟨j, hj, rfl⟩ := List.mem_iff_getElem.1 hy; have := h 0 (j + 1) (by omega) (by rw [List.length_cons]; omega); simpa [List.getD, hj] using this
theorem Qns {x : Di} {l : List Di} (h1 : ∀ y ∈ l, x.p < y.p) (h2 : SrtD l) : SrtD (x :: l) := fun p q hpq hq => by
  rw [List.length_cons] at hq; obtain ⟨q, rfl⟩ : ∃ k, q = k + 1 := ⟨q - 1, by omega⟩; have hm : l.getD q Di.zero ∈ l := Qua _ _ _ (by omega)
  cases p with
  | zero => simpa [List.getD] using h1 _ hm
  | succ p => simpa [List.getD] using h2 p q (by omega) (by omega)
def Qqo (l : List Tx) (t : Int) (i : Nat) (q : Bool) : Prop := Sf (fun k => Qtl t (l.getD k Tx.zero).t) l.length i q
theorem Qfm {l : List Tx} {t : Int} {i : Nat} {q : Bool} (h : Qqo l t i q) {k : Nat} (hk : k < i) : (l.getD k Tx.zero).t < t := (Qkf _ _).1 (h.low k hk)
theorem Qsf {l : List Tx} {t : Int} {i : Nat} (h : Qqo l t i true) : i < l.length /\ (l.getD i Tx.zero).t = t := ⟨(h.yes rfl).1, ((Qkg _ _).1 (h.yes rfl).2).symm⟩
theorem findT_ge {l : List Tx} {t : Int} {i : Nat} {q : Bool} (h : Qqo l t i q) {k : Nat} (h1 : i <= k) (h2 : k < l.length) : t <= (l.getD k Tx.zero).t := by
  have := h.high k h1 h2; have h3 : ¬ 0 < Qtl t (l.getD k Tx.zero).t := by show ¬ 0 < _; omega
  rw [Qkf] at h3; omega
theorem Qmy {l : List Tx} {t : Int} {i : Nat} (h : Qqo l t i false) (hi : i < l.length) : t < (l.getD i Tx.zero).t := by
  have h1 := findT_ge h (Nat.le_refl _) hi; have h2 := h.no rfl hi; have h3 : ¬ t = (l.getD i Tx.zero).t := fun e => h2 ((Qkg _ _).2 e)
  omega
theorem Qnk {x : Tx} {l : List Tx} {t : Int} {i : Nat} {q : Bool} (h : Qqo (x :: l) t (i + 1) q) : Qqo l t i q := by
  refine ⟨by have := h.le; rw [List.length_cons] at this; omega, fun k hk => ?_, fun k h1 h2 => ?_, fun e => ?_, fun e h2 => ?_⟩
  · have := h.low (k + 1) (by omega); simpa [List.getD] using this
  · have := h.high (k + 1) (by omega) (by rw [List.length_cons]; omega); simpa [List.getD] using this
  · have := h.yes e; rw [List.length_cons] at this; exact ⟨by omega, by simpa [List.getD] using this.2⟩
  · have := h.no e (by rw [List.length_cons]; omega); simpa [List.getD] using this
theorem Qys : ∀ (l : List Tx) (r : Rec) (i : Nat), Qqo l r.t i true -> Qzb l r = l.set i (Qhh (l.getD i Tx.zero) r)
  | [], r, i, h => absurd (Qsf h).1 (by simp)
  | x :: l, r, 0, h => by
    have h1 := (Qsf h).2; have h2 : x.t = r.t := by simpa [List.getD] using h1
    unfold Qzb; rw [if_neg (by omega), if_pos h2]; rfl
  | x :: l, r, i + 1, h => by
    have h1 : x.t < r.t := by simpa [List.getD] using Qfm h (Nat.succ_pos i)
    unfold Qzb; rw [if_pos h1, Qys l r i (Qnk h)]; rfl
theorem Qfy : ∀ (l : List Tx) (r : Rec) (i : Nat), Qqo l r.t i false -> Qzb l r = Qoi l i (Qhh (Qqb r) r)
  | [], r, i, h => by
    have := h.le; have h2 : i = 0 := by simpa using this
    subst h2; rfl
  | x :: l, r, 0, h => by
    have h1 : r.t < x.t := by simpa [List.getD] using Qmy h (by simp)
    unfold Qzb; rw [if_neg (by omega), if_neg (by omega)]; rfl
  | x :: l, r, i + 1, h => by
    have h1 : x.t < r.t := by simpa [List.getD] using Qfm h (Nat.succ_pos i)
    unfold Qzb; rw [if_pos h1, Qfy l r i (Qnk h)]; rfl
theorem Qol : ∀ (l : List Tx) (t : Int) (i : Nat), Qqo l t i true -> Qoa l t = l.take i ++ l.drop (i + 1)
  | [], t, i, h => absurd (Qsf h).1 (by simp)
  | x :: l, t, 0, h => by
    have h2 : x.t = t := by simpa [List.getD] using (Qsf h).2
    unfold Qoa; rw [if_pos h2]; rfl
  | x :: l, t, i + 1, h => by
    have h1 : x.t < t := by simpa [List.getD] using Qfm h (Nat.succ_pos i)
    unfold Qoa; rw [if_neg (by omega), Qol l t i (Qnk h)]; rfl
theorem Qik : ∀ (l : List Tx) (t : Int), (∀ x ∈ l, x.t ≠ t) -> Qoa l t = l
  | [], _, _ => rfl
  | x :: l, t, h => by
    unfold Qoa; rw [if_neg (h x (by simp)), Qik l t (fun y hy => h y (List.mem_cons_of_mem _ hy))]
theorem Qzu {l : List Tx} {t : Int} {i : Nat} (hs : Qmi l) (h : Qqo l t i false) : Qoa l t = l := by
  refine Qik l t fun x hx e => ?_
  obtain ⟨j, hj, rfl⟩ := List.mem_iff_getElem.1 hx; have hg : l.getD j Tx.zero = l[j] := by rw [List.getD_eq_getElem?_getD, List.getElem?_eq_getElem hj]; rfl
  rcases Nat.lt_or_ge j i with h1 | h1
  · have := Qfm h h1; rw [hg] at this; omega
  · have h2 := Qmy h (by omega)
    rcases Nat.lt_or_ge i j with h3 | h3
    · have := hs i j h3 hj; rw [hg] at this; omega
    · obtain rfl : i = j := by omega
      rw [hg] at h2; omega
def taA (a b : Value) : Array Value := #[a, b]
theorem Qae : (Try.prog.info? 28).map (·.size) = some 2 := by kernel_rfl
structure TaAt (w0 w : World) (s1 s2 : Sl) (T : List Tx) (D : List Di) : Prop where
  t : RT w s1 T
  d : RD w s2 D
  n1 : ∀ b, s1.b = some b -> w0.heap.size <= b
  n2 : ∀ b, s2.b = some b -> w0.heap.size <= b
  bel : Below w0.heap.size w0 w
theorem own16 (w : World) (vT vD : Value) (T : List Tx) (D : List Di) (hT : Qqd w vT T) (hD : Qcf w vD D) (h1 : T.length <= 10000) (h2 : D.length <= 10000) :
    Calls Try.prog 36 #[.agg (taA vT vD)] w fun e w' => ∃ s1 s2, e = .returned (.agg (taA (slV s1 T.length) (slV s2 D.length))) /\ TaAt w w' s1 s2 T D := by
  obtain ⟨n1, n2, n3⟩ := Qzd w (taA vT vD) #[.slice none 0 0, .slice none 0 0] 28 28; obtain ⟨y, hy⟩ : ∃ y, y = (w.alloc (.cells (taA vT vD) 28)).alloc (.cells #[.slice none 0 0, .slice none 0 0] 28) := ⟨_, rfl⟩; rw [<- hy] at n1 n2 n3; obtain ⟨b1, hb1⟩ : ∃ b, b = w.heap.size := ⟨_, rfl⟩; obtain ⟨b2, hb2⟩ : ∃ b, b = w.heap.size + 1 := ⟨_, rfl⟩; rw [<- hb1] at n1; rw [<- hb2] at n2
  have hv1 : ∃ a c, vT = .slice a T.length c := by
    obtain ⟨a, c, e, _⟩ := hT; exact ⟨a, c, e⟩
  have hv2 : ∃ a c, vD = .slice a D.length c := by
    obtain ⟨a, c, e, _⟩ := hD; exact ⟨a, c, e⟩
  obtain ⟨a1, c1, rfl⟩ := hv1; obtain ⟨a2, c2, rfl⟩ := hv2; have HC := Qc (fun x (hb : Below w.heap.size w x) => clone15T (hT.below hb) (by omega)); have HD := Qc (fun x (hb : Below w.heap.size w x) => clone15D (hD.below hb) (by omega)); have HB := Qc (And.intro hb1 hb2); have HY := Qc hy; have H0 : Hid (Qb y b1 28 (taA (.slice a1 T.length c1) (.slice a2 D.length c2)) /\ Qb y b2 28 (taA (.slice none 0 0) (.slice none 0 0)) /\ Below w.heap.size w y) := ⟨n1, n2, n3⟩; clear n1 n2 n3 hb1 hb2 hy hT hD; obtain ⟨lt, hlt⟩ : ∃ k, k = T.length := ⟨_, rfl⟩; obtain ⟨ld, hld⟩ : ∃ k, k = D.length := ⟨_, rfl⟩; rw [<- hlt] at HC HY H0 |-; rw [<- hld] at HD HY H0 |-; have HLL := Qc (And.intro hlt hld); clear hlt hld h1 h2; go_enter Try.func36, Try.ntmps36; unfold taA at HY H0 |-; go_wp2_with fail; rw [<- HY.out, <- HB.out.2, <- HB.out.1]; have HDR : Hid (Qb y.drew b1 28 #[.slice a1 lt c1, .slice a2 ld c2] /\ Qb y.drew b2 28 #[.slice none 0 0, .slice none 0 0] /\ Below w.heap.size w y.drew) := ⟨Qmd H0.out.1, Qmd H0.out.2.1, Qt H0.out.2.2 1⟩; obtain ⟨z, hz⟩ : ∃ z, z = y.drew := ⟨_, rfl⟩; refine wp_region_noPanic ?_; refine wp_region_held_drew (S := fun x => x.cell? ⟨b1, 0, none⟩ = some (.slice a1 lt c1) /\ x.cell? ⟨b1, 1, none⟩ = some (.slice a2 ld c2)) (by kernel_rfl) (⟨HDR.out.1.cell 0 _ rfl, HDR.out.1.cell 1 _ rfl⟩) (fun hHeld => ?_); rw [<- hz] at HDR |-; have hHeld := And.intro (HDR.out.1.cell 0 (.slice a1 lt c1) rfl) (HDR.out.1.cell 1 (.slice a2 ld c2) rfl); clear hz H0 HY; refine tkq 0 (some 3) (.pointer (some ⟨b1, 0, none⟩)) hHeld ?_; (try simp only [Act.put, List.setIfInBounds_toArray, List.set]); refine tkk 1 (some 4) (.slice a1 lt c1) rfl rfl (by kernel_rfl) (by kernel_rfl) (fun x hSx => by have h1 := hSx.1; go_simp) hHeld ?_; (try simp only [Act.put, List.setIfInBounds_toArray, List.set]); refine tkq 3 (some 6) (.pointer (some ⟨b1, 1, none⟩)) hHeld ?_; (try simp only [Act.put, List.setIfInBounds_toArray, List.set]); refine tkk 4 (some 7) (.slice a2 ld c2) rfl rfl (by kernel_rfl) (by kernel_rfl) (fun x hSx => by have h1 := hSx.2; go_simp) hHeld ?_; (try simp only [Act.put, List.setIfInBounds_toArray, List.set]); refine Qh 2 (by kernel_rfl) ?_; refine Qca (some 5) rfl rfl rfl 51 #[.slice a1 lt c1] ?he ((HC.out _ HDR.out.2.2).mono ?_); (case he => go_simp); rintro e w1 ⟨v1, rfl, ho1, hb1⟩; rw [HLL.out.1] at ho1; obtain ⟨s1, hv1, hR1, hn1⟩ := RT.of rfl ho1; have H1 : Hid (Qb w1 b1 28 #[.slice a1 lt c1, .slice a2 ld c2] /\ Qb w1 b2 28 #[.slice none 0 0, .slice none 0 0] /\ Below w.heap.size w w1 /\ RT w1 s1 T /\ (∀ b, s1.b = some b -> z.heap.size <= b) /\ w.heap.size <= z.heap.size /\ b2 < z.heap.size) := ⟨HDR.out.1.later hb1, HDR.out.2.1.later hb1, HDR.out.2.2.trans (hb1.mono HDR.out.2.2.size), hR1, hn1, HDR.out.2.2.size, HDR.out.2.1.lt⟩
  have hHeld1 := And.intro (H1.out.1.cell 0 (.slice a1 lt c1) rfl) (H1.out.1.cell 1 (.slice a2 ld c2) rfl); rw [<- HLL.out.1] at hv1; obtain ⟨x1, y1, hxy1⟩ : ∃ a c, slV s1 lt = .slice a lt c := ⟨adr s1.b, s1.c, rfl⟩; have HS1 := Qc hxy1; rw [hxy1] at hv1; subst hv1; clear ho1 hb1 hR1 hn1 hxy1 HDR hHeld HC; refine ⟨_, rfl, hHeld1, ?_⟩; (try simp only [Act.put, List.setIfInBounds_toArray, List.set]); refine Qh 5 (by kernel_rfl) ?_; refine Qca (some 8) rfl rfl rfl 52 #[.slice a2 ld c2] ?he ((HD.out _ H1.out.2.2.1).mono ?_); (case he => go_simp); rintro e w2 ⟨v2, rfl, ho2, hb2⟩; rw [HLL.out.2] at ho2; obtain ⟨s2, hv2, hR2, hn2⟩ := RD.of rfl ho2
  have H2 : Hid (Qb w2 b1 28 #[.slice a1 lt c1, .slice a2 ld c2] /\ Qb w2 b2 28 #[.slice none 0 0, .slice none 0 0] /\ Below w.heap.size w w2 /\ RT w2 s1 T /\ RD w2 s2 D /\ (∀ b, s1.b = some b -> w.heap.size <= b /\ b ≠ b2) /\ (∀ b, s2.b = some b -> w.heap.size <= b /\ b ≠ b2)) := ⟨H1.out.1.later hb2, H1.out.2.1.later hb2, H1.out.2.2.1.trans (hb2.mono H1.out.2.2.1.size), H1.out.2.2.2.1.later hb2, hR2, fun b hb => by
    have h1 := H1.out.2.2.2.2.1 b hb; have h2 := H1.out.2.2.2.2.2.1; have h3 := H1.out.2.2.2.2.2.2
    omega, fun b hb => by
    have h1 := hn2 b hb; have h2 := H1.out.2.2.1.size; have h3 := H1.out.2.1.lt
    omega⟩
  have hHeld2 := And.intro (H2.out.1.cell 0 (.slice a1 lt c1) rfl) (H2.out.1.cell 1 (.slice a2 ld c2) rfl); rw [<- HLL.out.2] at hv2; obtain ⟨x2, y2, hxy2⟩ : ∃ a c, slV s2 ld = .slice a ld c := ⟨adr s2.b, s2.c, rfl⟩; have HS2 := Qc hxy2; rw [hxy2] at hv2; subst hv2; clear ho2 hb2 hR2 hn2 hxy2 H1 hHeld1 HD; refine ⟨_, rfl, hHeld2, ?_⟩; (try simp only [Act.put, List.setIfInBounds_toArray, List.set]); refine Qa 6 (some 9) (.agg #[.slice x1 lt y1, .slice x2 ld y2]) rfl rfl (by kernel_rfl) (by kernel_rfl) (by kernel_rfl) (fun _ _ _ h => h) (Or.inl ⟨by kernel_rfl, fun x hSx => by go_simp⟩) hHeld2 ?_; (try simp only [Act.put, List.setIfInBounds_toArray, List.set]); refine Qh 7 (by kernel_rfl) ?_; refine Qba rfl rfl rfl 28 (.tmp 2) (.tmp 9) rfl b2 0 28 #[.slice none 0 0, .slice none 0 0] #[.slice x1 lt y1, .slice x2 ld y2] rfl rfl H2.out.2.1 Qae (by show 0 + 2 <= 2; omega) (by simp [Value.oneCell']) ?_; intro w3 hr3 ho3; rw [Qu #[.slice none 0 0, .slice none 0 0] #[.slice x1 lt y1, .slice x2 ld y2] rfl] at hr3; have hbel : Below w.heap.size w w3 := ho3.below H2.out.2.2.1 (by have := HB.out.2; omega); have hb12 : b1 ≠ b2 := by have := HB.out; omega
  have hHeld3 := And.intro ((ho3.row H2.out.1 hb12).cell 0 (.slice a1 lt c1) rfl) ((ho3.row H2.out.1 hb12).cell 1 (.slice a2 ld c2) rfl); have H3 : Hid (Qb w3 b2 28 #[.slice x1 lt y1, .slice x2 ld y2] /\ TaAt w w3 s1 s2 T D) := ⟨hr3, H2.out.2.2.2.1.keep (fun b hb => ho3.block b (H2.out.2.2.2.2.2.1 b hb).2), H2.out.2.2.2.2.1.keep (fun b hb => ho3.block b (H2.out.2.2.2.2.2.2 b hb).2), fun b hb => (H2.out.2.2.2.2.2.1 b hb).1, fun b hb => (H2.out.2.2.2.2.2.2 b hb).1, hbel⟩; refine ⟨hHeld3, ?_⟩; (try simp only [Act.put, List.setIfInBounds_toArray, List.set]); refine wpAnyH_done (by kernel_rfl) ?_ _; refine NoPanic.normal ?_; clear hHeld2 hHeld3 hr3 ho3 hbel hb12 H2; go_wp2; exact bodyPost_ret (Qlc rfl _ _ b2 #[.slice x1 lt y1, .slice x2 ld y2] _ rfl H3.out.1 Try.underlying28 rfl Qae) rfl ⟨s1, s2, by rw [HS1.out, HS2.out], H3.out.2⟩
abbrev Ta := List Tx × List Di
def Ql (t : Ta) (r : Rec) : Ta :=
  if r.k = 7 ∨ r.k = 8 then t else (if r.k = 5 then Qoa t.1 r.t else Qzb t.1 r, if r.k = 1 ∨ r.k = 2 then Qxa t.2 r.c.pg r.l else t.2)
def Qna (t : Ta) (l : List Rec) : Ta := l.foldl Ql t
theorem Qpd (t : Ta) (l : List Rec) (r : Rec) : Qna t (l ++ [r]) = Ql (Qna t l) r := by
  unfold Qna; rw [List.foldl_append]; rfl
theorem Qym : ∀ (l : List Tx) (r : Rec) (y : Tx), y ∈ Qzb l r -> y ∈ l ∨ y.t = r.t
  | [], r, y, h => by
    rw [Qzb, List.mem_singleton] at h; rw [h]; exact .inr rfl
  | x :: l, r, y, h => by
    rw [Qzb] at h
    split at h
    · rcases List.mem_cons.1 h with rfl | h
      · exact .inl (by simp)
      · exact (Qym l r y h).imp (List.mem_cons_of_mem _) id
    · split at h
      · rename_i _ e
        rcases List.mem_cons.1 h with rfl | h
        · exact .inr e
        · exact .inl (List.mem_cons_of_mem _ h)
      · rcases List.mem_cons.1 h with rfl | h
        · exact .inr rfl
        · exact .inl h
theorem Qum : ∀ (l : List Tx) (r : Rec), Qmi l -> Qmi (Qzb l r)
  | [], r, _ => fun p q hpq hq => absurd hq (by rw [Qzb, List.length_singleton]; omega)
  | x :: l, r, h => by
    have hh := Qkd h; have ht := Qvc h; rw [Qzb]
    split
    · rename_i e; refine Qzh (fun y hy => ?_) (Qum l r ht)
      rcases Qym l r y hy with h1 | h1
      · exact hh y h1
      · omega
    · split
      · rename_i _ e; exact Qzh (fun y hy => by have := hh y hy; show x.t < y.t; exact this) ht
      · rename_i e1 e2; refine Qzh (fun y hy => ?_) h; show r.t < y.t
        rcases List.mem_cons.1 hy with rfl | hy
        · omega
        · have := hh y hy; omega
theorem Qvr : ∀ (l : List Tx) (r : Rec), (Qzb l r).length <= l.length + 1
  | [], _ => Nat.le_refl _
  | x :: l, r => by
    rw [Qzb]
    split
    · rw [List.length_cons, List.length_cons]; have := Qvr l r; omega
    · split
      · rw [List.length_cons, List.length_cons]; omega
      · rw [List.length_cons]; exact Nat.le_refl _
theorem Qre : ∀ (l : List Tx) (t : Int) (y : Tx), y ∈ Qoa l t -> y ∈ l
  | [], _, _, h => h
  | x :: l, t, y, h => by
    rw [Qoa] at h
    split at h
    · exact List.mem_cons_of_mem _ h
    · rcases List.mem_cons.1 h with rfl | h
      · simp
      · exact List.mem_cons_of_mem _ (Qre l t y h)
theorem Qoh : ∀ (l : List Tx) (t : Int), Qmi l -> Qmi (Qoa l t)
  | [], _, h => h
  | x :: l, t, h => by
    rw [Qoa]
    split
    · exact Qvc h
    · exact Qzh (fun y hy => Qkd h y (Qre l t y hy)) (Qoh l t (Qvc h))
theorem Qjl : ∀ (l : List Tx) (t : Int), (Qoa l t).length <= l.length
  | [], _ => Nat.le_refl _
  | x :: l, t => by
    rw [Qoa]
    split
    · rw [List.length_cons]; omega
    · rw [List.length_cons, List.length_cons]; have := Qjl l t; omega
theorem Qbq : ∀ (l : List Di) (p : Int) (n : Nat) (y : Di), y ∈ Qxa l p n -> y ∈ l ∨ y.p = p
  | [], p, n, y, h => by
    rw [Qxa, List.mem_singleton] at h; rw [h]; exact .inr rfl
  | x :: l, p, n, y, h => by
    rw [Qxa] at h
    split at h
    · rcases List.mem_cons.1 h with rfl | h
      · exact .inl (by simp)
      · exact (Qbq l p n y h).imp (List.mem_cons_of_mem _) id
    · split at h
      · exact .inl h
      · rcases List.mem_cons.1 h with rfl | h
        · exact .inr rfl
        · exact .inl h
theorem Qqp : ∀ (l : List Di) (p : Int) (n : Nat), SrtD l -> SrtD (Qxa l p n)
  | [], p, n, _ => fun a q hpq hq => absurd hq (by rw [Qxa, List.length_singleton]; omega)
  | x :: l, p, n, h => by
    have hh := srtD_head h; have ht := srtD_tail h; rw [Qxa]
    split
    · rename_i e; refine Qns (fun y hy => ?_) (Qqp l p n ht)
      rcases Qbq l p n y hy with h1 | h1
      · exact hh y h1
      · omega
    · split
      · exact h
      · rename_i e1 e2; refine Qns (fun y hy => ?_) h; show p < y.p
        rcases List.mem_cons.1 hy with rfl | hy
        · omega
        · have := hh y hy; omega
theorem Quo : ∀ (l : List Di) (p : Int) (n : Nat), (Qxa l p n).length <= l.length + 1
  | [], _, _ => Nat.le_refl _
  | x :: l, p, n => by
    rw [Qxa]
    split
    · rw [List.length_cons, List.length_cons]; have := Quo l p n; omega
    · split
      · omega
      · rw [List.length_cons]; exact Nat.le_refl _
structure TaOk (t : Ta) (n : Nat) : Prop where
  st : Qmi t.1
  sd : SrtD t.2
  lt : t.1.length <= n
  ld : t.2.length <= n
theorem TaOk.take {t : Ta} {n : Nat} (h : TaOk t n) (r : Rec) : TaOk (Ql t r) (n + 1) := by
  have h1 := h.lt; have h2 := h.ld; unfold Ql
  by_cases e : r.k = 7 ∨ r.k = 8
  · rw [if_pos e]; exact ⟨h.st, h.sd, by omega, by omega⟩
  · rw [if_neg e]
    refine ⟨?_, ?_, ?_, ?_⟩
    · show Qmi (if r.k = 5 then _ else _)
      split
      · exact Qoh _ _ h.st
      · exact Qum _ _ h.st
    · show SrtD (if r.k = 1 ∨ r.k = 2 then _ else _)
      split
      · exact Qqp _ _ _ h.sd
      · exact h.sd
    · show (if r.k = 5 then Qoa t.1 r.t else Qzb t.1 r).length <= _
      split
      · have := Qjl t.1 r.t; omega
      · have := Qvr t.1 r; omega
    · show (if r.k = 1 ∨ r.k = 2 then Qxa t.2 r.c.pg r.l else t.2).length <= _
      split
      · have := Quo t.2 r.c.pg r.l; omega
      · omega
theorem TaOk.takes {t : Ta} {n : Nat} (h : TaOk t n) : ∀ l : List Rec, TaOk (Qna t l) (n + l.length) := by
  intro l
  induction l using Qab with
  | h0 => exact h
  | h1 l r ih =>
    rw [Qpd, List.length_append, List.length_singleton]; exact ih.take r
theorem without16 (w : World) (s : Sl) (l : List Tx) (t : Int) (hT : RT w s l) (hs : Qmi l) (hl : l.length <= 10000) :
    Calls Try.prog 45 #[slV s l.length, .int .i64 t] w fun e w' => e = .returned (slV s (Qoa l t).length) /\ RT w' s (Qoa l t) /\ Tn (ofS s) w w' := by
  have HF := Qc (find16 w s l t hT hs (by omega)); have HT := Qc hT; have HS := Qc hs; obtain ⟨v, hv⟩ : ∃ v, v = slV s l.length := ⟨_, rfl⟩; obtain ⟨a, c, hv2⟩ : ∃ a c, v = .slice a l.length c := ⟨adr s.b, s.c, hv⟩; have HV := Qc hv; rw [<- hv] at HF |-; rw [hv2] at HF |-; have HV2 := Qc hv2; clear hv hv2 hT hs; obtain ⟨n, hn⟩ : ∃ n, n = l.length := ⟨_, rfl⟩; rw [<- hn] at HF hl HV2 HV |-; have HN := Qc hn; clear hn; go_enter Try.func45, Try.ntmps45; go_wp2_with fail; refine HF.out.mono ?_; rintro e w1 ⟨i, q, rfl, hsf, hb⟩; have HB := Qc hb
  cases q with
  | false =>
    have HR := Qc (Qzu HS.out hsf); clear hsf hb HF; go_wp2; go_ret; rw [HR.out, <- HN.out, <- HV.out, HV2.out]; exact ⟨rfl, HT.out.later HB.out, Tn.of_below HB.out⟩
  | true =>
    have HR := Qc (Qol _ _ _ hsf); have HD := Qc (delT w1 s l (HT.out.later hb) i (i + 1) (by omega) (by have := (Qsf hsf).1; omega) (by have := HN.out; omega)); rw [<- HN.out, <- HV.out, HV2.out] at HD; have hi9 : i <= 10000 := by have := (Qsf hsf).1; have := HN.out; omega
    rw [show ((i + 1 : Nat) : Int) = (i : Int) + 1 by omega, <- HR.out] at HD; clear hsf hb HF; go_wp2_with fail; refine HD.out.mono ?_; rintro e w2 ⟨rfl, h1, h2⟩; have H2 := Qc (And.intro h1 h2); clear h1 h2 HD; clear HR; go_wp2; go_ret; exact ⟨rfl, H2.out.1, (Tn.of_below HB.out).then H2.out.2⟩
theorem RT.setf {w : World} {s : Sl} {l : List Tx} (h : RT w s l) {i : Nat} (hi : i < l.length) {b : Nat} (hb : s.b = some b) (x : Tx) (j : Nat) (v : Value) (hj : j < 5) (hv : (txL x)[j]? = some v) (ho : ∀ k, k < 5 -> k ≠ j -> (txL x)[k]? = (txL (l.getD i Tx.zero))[k]?) : RT (w.setCell ⟨b, i * 5 + j, none⟩ v) s (l.set i x) := by
  rcases h with ⟨h1, rfl, _⟩ | ⟨b', cs, h1, h2, h3, h4, h5, h6, h7⟩
  · exact absurd hi (by simp)
  · rw [h1] at hb; injection hb with hb; subst hb; have hlen : (l.set i x).length = l.length := List.length_set; have hbig : l.length * 5 <= s.c * 5 := Nat.mul_le_mul_right 5 h4; refine .inr ⟨b', _, h1, h2.set (i * 5 + j) v, by rw [Array.size_setIfInBounds]; exact h3, by rw [hlen]; exact h4, h5, h6, fun q u hu => ?_⟩
    have hq : q < l.length * 5 := by
      have := (List.getElem?_eq_some_iff.1 hu).1; rw [Qpb, hlen] at this; exact this
    have hq5 : q / 5 < l.length := by omega
    have hget : (l.set i x)[q / 5]? = some ((l.set i x).getD (q / 5) Tx.zero) := Qmg Tx.zero (by rw [hlen]; exact hq5); have hfl := Qoq (l.set i x) (q / 5) (q % 5) _ hget (by omega); rw [show q / 5 * 5 + q % 5 = q by omega, hu] at hfl; have hold := h7 q; have hr := h2.set (i * 5 + j) v; refine hr.cell q u ?_
    by_cases e : q = i * 5 + j
    · subst e; rw [Array.getElem?_setIfInBounds_self_of_lt (by rw [h3]; omega)]; have e1 : (i * 5 + j) / 5 = i := by omega
      have e2 : (i * 5 + j) % 5 = j := by omega
      rw [e1, e2] at hfl
      have : (l.set i x).getD i Tx.zero = x := by
        rw [List.getD_eq_getElem?_getD, List.getElem?_set_self hi]; rfl
      rw [this, hv] at hfl; exact hfl.symm
    · rw [Array.getElem?_setIfInBounds_ne (fun h => e h.symm)]; rw [<- cell_of_row w b' q _ _ (0, 0) h2]; refine hold u ?_; have hg2 := Qoq l (q / 5) (q % 5) _ (Qmg Tx.zero hq5) (by omega); rw [show q / 5 * 5 + q % 5 = q by omega] at hg2; rw [hg2, hfl]
      by_cases e1 : q / 5 = i
      · have hx : (l.set i x).getD (q / 5) Tx.zero = x := by
          rw [e1, List.getD_eq_getElem?_getD, List.getElem?_set_self hi]; rfl
        rw [hx, e1]; exact (ho (q % 5) (by omega) (by omega)).symm
      · have hx : (l.set i x).getD (q / 5) Tx.zero = l.getD (q / 5) Tx.zero := by
          rw [List.getD_eq_getElem?_getD, List.getElem?_set_ne (fun h => e1 h.symm), <- List.getD_eq_getElem?_getD]
        rw [hx]
theorem insT_get (l : List Tx) (i : Nat) (k : Tx) (hi : i <= l.length) : (Qoi l i k).getD i Tx.zero = k := by
  unfold Qoi; have e : (l.take i).length = i := by rw [List.length_take]; omega
  rw [List.getD_eq_getElem?_getD, List.getElem?_append_right (by omega), e, Nat.sub_self]; rfl
theorem insT_set (l : List Tx) (i : Nat) (k x : Tx) (hi : i <= l.length) : (Qoi l i k).set i x = Qoi l i x := by
  unfold Qoi; have e : (l.take i).length = i := by rw [List.length_take]; omega
  rw [List.set_append_right _ _ (by omega), e, Nat.sub_self]; rfl
theorem RT.free {w : World} {s : Sl} {l : List Tx} (h : RT w s l) {b : Nat} (hb : s.b = some b) (j : Nat) : w.frozen? ⟨b, j, none⟩ = false := by
  rcases h with ⟨h1, _⟩ | ⟨b', cs, h1, h2, _⟩
  · rw [h1] at hb; cases hb
  · rw [h1] at hb; injection hb with hb; subst hb; exact h2.free j
theorem RT.put1 {w : World} {s : Sl} {l : List Tx} (h : RT w s l) {i : Nat} (hi : i < l.length) {b : Nat} (hb : s.b = some b) (n : Nat) : RT (w.setCell ⟨b, i * 5 + 3, none⟩ (.int .u64 (n : Int))) s (l.set i ⟨(l.getD i Tx.zero).t, (l.getD i Tx.zero).s, (l.getD i Tx.zero).f, n, (l.getD i Tx.zero).n⟩) :=
  h.setf hi hb _ 3 _ (by omega) rfl (fun k hk hn => by
    rcases (show k = 0 ∨ k = 1 ∨ k = 2 ∨ k = 4 by omega) with rfl | rfl | rfl | rfl <;> rfl)
theorem RT.put2n {w : World} {s : Sl} {l : List Tx} (h : RT w s l) {i : Nat} (hi : i < l.length) {b : Nat} (hb : s.b = some b) (n m : Nat) : RT ((w.setCell ⟨b, i * 5 + 3, none⟩ (.int .u64 (n : Int))).setCell ⟨b, i * 5 + 4, none⟩ (.int .u64 (m : Int))) s (l.set i ⟨(l.getD i Tx.zero).t, (l.getD i Tx.zero).s, (l.getD i Tx.zero).f, n, m⟩) := by
  have h1 := h.put1 hi hb n
  have hg : ∀ x : Tx, (l.set i x).getD i Tx.zero = x := fun x => by
    rw [List.getD_eq_getElem?_getD, List.getElem?_set_self hi]; rfl
  have h2 := h1.setf (i := i) (by rw [List.length_set]; exact hi) hb ⟨(l.getD i Tx.zero).t, (l.getD i Tx.zero).s, (l.getD i Tx.zero).f, n, m⟩ 4 (.int .u64 (m : Int)) (by omega) rfl (fun k hk hn => by
    rw [hg]
    rcases (show k = 0 ∨ k = 1 ∨ k = 2 ∨ k = 3 by omega) with rfl | rfl | rfl | rfl <;> rfl)
  rw [List.set_set] at h2; exact h2
theorem RT.put2s {w : World} {s : Sl} {l : List Tx} (h : RT w s l) {i : Nat} (hi : i < l.length) {b : Nat} (hb : s.b = some b) (n : Nat) (m : Int) : RT ((w.setCell ⟨b, i * 5 + 3, none⟩ (.int .u64 (n : Int))).setCell ⟨b, i * 5 + 1, none⟩ (.int .i64 m)) s (l.set i ⟨(l.getD i Tx.zero).t, m, (l.getD i Tx.zero).f, n, (l.getD i Tx.zero).n⟩) := by
  have h1 := h.put1 hi hb n
  have hg : ∀ x : Tx, (l.set i x).getD i Tx.zero = x := fun x => by
    rw [List.getD_eq_getElem?_getD, List.getElem?_set_self hi]; rfl
  have h2 := h1.setf (i := i) (by rw [List.length_set]; exact hi) hb ⟨(l.getD i Tx.zero).t, m, (l.getD i Tx.zero).f, n, (l.getD i Tx.zero).n⟩ 1 (.int .i64 m) (by omega) rfl (fun k hk hn => by
    rw [hg]
    rcases (show k = 0 ∨ k = 2 ∨ k = 3 ∨ k = 4 by omega) with rfl | rfl | rfl | rfl <;> rfl)
  rw [List.set_set] at h2; exact h2
def WithAns (w : World) (s : Sl) (m : List Tx) (e : Ending) (w' : World) : Prop := ∃ s', e = .returned (slV s' m.length) /\ RT w' s' m /\ Tn (ofS s) w w' /\ ∀ q, s'.b = some q -> s.b = some q ∨ w.heap.size <= q
theorem with16 (w : World) (s : Sl) (l : List Tx) (r : Rec) (va vb : Value) (hT : RT w s l) (hs : Qmi l) (hl : l.length <= 10000) :
    Calls Try.prog 46 #[slV s l.length, .agg (rcA r va vb)] w (WithAns w s (Qzb l r)) := by
  have n0 := Qb.new w 46 (rcA r va vb); have hb0 : Below w.heap.size w (w.alloc (.cells (rcA r va vb) 46)) := (Below.refl _ _).alloc (Nat.le_refl _) _; obtain ⟨y, hy⟩ : ∃ y, y = w.alloc (.cells (rcA r va vb) 46) := ⟨_, rfl⟩; obtain ⟨b0, hb⟩ : ∃ b, b = w.heap.size := ⟨_, rfl⟩; have HLT := Qc (fun b (h : s.b = some b) => hT.lt h); rw [<- hy] at n0 hb0; rw [<- hb] at n0; have HF := Qc (find16 y s l r.t (hT.later hb0) hs (by omega)); have H0 : Hid (Qb y b0 46 (rcA r va vb) /\ RT y s l /\ Below w.heap.size w y) := ⟨n0, hT.later hb0, hb0⟩; have HY := Qc hy; have HB := Qc hb; obtain ⟨v, hv⟩ : ∃ v, v = slV s l.length := ⟨_, rfl⟩; obtain ⟨a, c, hv2⟩ : ∃ a c, v = .slice a l.length c := ⟨adr s.b, s.c, hv⟩; have HV := Qc hv; rw [<- hv] at HF |-; rw [hv2] at HF |-; have HV2 := Qc hv2; clear hv hv2 hT hs n0 hb0 hy hb; obtain ⟨n, hn⟩ : ∃ n, n = l.length := ⟨_, rfl⟩; rw [<- hn] at HF hl HV2 HV |-; have HN := Qc hn; clear hn; go_enter Try.func46, Try.ntmps46; go_wp2_with (with_reducible refine Qw 11 rfl ?_); rw [<- HY.out, <- HB.out]; have k2 := H0.out.1.cell 2 (.int .i64 r.t) rfl; refine Qf ?_; go_wp2_with fail; refine HF.out.mono ?_; rintro e w1 ⟨i, q, rfl, hsf, hb⟩; have H1 : Hid (Qb w1 b0 46 (rcA r va vb) /\ RT w1 s l /\ Below w.heap.size w w1) := ⟨H0.out.1.later hb, H0.out.2.1.later hb, H0.out.2.2.trans (hb.mono H0.out.2.2.size)⟩; clear k2 hb HF H0
  cases q with
  | true =>
    have hi9 := (Qsf hsf).1; obtain ⟨W, hW⟩ : ∃ W, W = w1 := ⟨_, rfl⟩; obtain ⟨s1, hs1⟩ : ∃ s1, s1 = s := ⟨_, rfl⟩; obtain ⟨l1, hl1⟩ : ∃ l1, l1 = l := ⟨_, rfl⟩; obtain ⟨n1, hn1⟩ : ∃ n1, n1 = n := ⟨_, rfl⟩; have hil : i < l1.length := by rw [hl1]; exact hi9
    have HN1 : Hid (n1 = l1.length) := by rw [hn1, hl1]; exact HN.out
    have HRES : Hid (Qzb l r = l1.set i (Qhh (l1.getD i Tx.zero) r)) := by rw [hl1]; exact Qys _ _ _ hsf
    have H2 : Hid (Qb W b0 46 (rcA r va vb) /\ RT W s1 l1 /\ Tn (ofS s) w W /\ (∀ q, s1.b = some q -> s.b = some q ∨ w.heap.size <= q) /\ (∀ b, s1.b = some b -> ¬ b0 = b)) := by
      rw [hW, hs1, hl1]; exact ⟨H1.out.1, H1.out.2.1, Tn.of_below H1.out.2.2, fun q hq => .inl hq, fun b hb e => by have := HLT.out b hb; have := HB.out; omega⟩
    have hin : i < n1 := by have := HN1.out; omega
    have hn9 : n1 <= 10000 := by omega
    rw [<- hW, <- hn1]; have HV0 : Hid (slV s1 n1 = .slice a n1 c) := by rw [hs1, hn1, <- HV.out]; exact HV2.out
    clear hW hs1 hl1 hn1 hsf hi9 H1 HN hl HV HV2; have hg := Qmg Tx.zero hil; obtain ⟨b1, hb1, hlt1, hc1⟩ := H2.out.2.1.at hg
    have ha1 : a = some ⟨b1, 0, none⟩ := by
      have h9 : slV s1 n1 = .slice (some ⟨b1, 0, none⟩) n1 s1.c := by unfold slV; rw [hb1]; rfl
      have h8 := HV0.out; rw [h9] at h8; injection h8 with h8; exact h8.symm
    subst ha1; have hne : ¬ b0 = b1 := H2.out.2.2.2.2 b1 hb1; have c3 := hc1 3 (.int .u64 ((l1.getD i Tx.zero).l : Int)) (by omega) rfl; have c4 := hc1 4 (.int .u64 ((l1.getD i Tx.zero).n : Int)) (by omega) rfl; have c5 := hc1 1 (.int .i64 (l1.getD i Tx.zero).s) (by omega) rfl; have f3 : W.frozen? ⟨b1, i * 5 + 3, none⟩ = false := H2.out.2.1.free hb1 _; have f4 : W.frozen? ⟨b1, i * 5 + 4, none⟩ = false := H2.out.2.1.free hb1 _; have f5 : W.frozen? ⟨b1, i * 5 + 1, none⟩ = false := H2.out.2.1.free hb1 _; have k0 := H2.out.1.cell 0 (.int .i64 r.k) rfl; have k1 := H2.out.1.cell 1 (.int .u64 (r.l : Int)) rfl; have k9 := H2.out.1.cell 9 (.int .u64 (r.n : Int)) rfl; have ii : (i : Int) < (n1 : Int) := by omega
    have HBB := Qc hb1; obtain ⟨rk, hrk⟩ : ∃ k, k = r.k := ⟨_, rfl⟩; obtain ⟨rl, hrl⟩ : ∃ k, k = r.l := ⟨_, rfl⟩; obtain ⟨rn, hrn⟩ : ∃ k, k = r.n := ⟨_, rfl⟩; have HRR := Qc (And.intro hrk (And.intro hrl hrn)); have HIL := Qc hil; rw [<- hrk] at k0; rw [<- hrl] at k1; rw [<- hrn] at k9; clear hg hc1 hb1 hrk hrl hrn hil hlt1
    by_cases hk1 : rk = 1
    · have hkk := hk1; subst hk1; go_wp2; go_ret
      refine ⟨s1, ?_, ?_, H2.out.2.2.1.trans (G := fun k => k = b1) ?_ ?_, H2.out.2.2.2.1⟩
      · rw [HRES.out, List.length_set, <- HN1.out]; exact congrArg Ending.returned HV0.out.symm
      · have h8 := H2.out.2.1.put2n HIL.out HBB.out rl rl; rw [HRES.out]
        have h7 : Qhh (l1.getD i Tx.zero) r = ⟨(l1.getD i Tx.zero).t, (l1.getD i Tx.zero).s, (l1.getD i Tx.zero).f, rl, rl⟩ := by
          unfold Qhh; rw [<- HRR.out.1, <- HRR.out.2.1, <- HRR.out.2.2]; simp
        rw [h7]; exact h8
      · exact ((Tn.refl (fun k => k = b1) W).set b1 _ _ rfl).set b1 _ _ rfl
      · intro k hk; rw [hk]; exact H2.out.2.2.2.1 b1 HBB.out
    by_cases hk2 : rk = 2
    · have hkk := hk2; subst hk2; go_wp2; go_ret
      refine ⟨s1, ?_, ?_, H2.out.2.2.1.trans (G := fun k => k = b1) ?_ ?_, H2.out.2.2.2.1⟩
      · rw [HRES.out, List.length_set, <- HN1.out]; exact congrArg Ending.returned HV0.out.symm
      · have h8 := H2.out.2.1.put2n HIL.out HBB.out rl rn; rw [HRES.out]
        have h7 : Qhh (l1.getD i Tx.zero) r = ⟨(l1.getD i Tx.zero).t, (l1.getD i Tx.zero).s, (l1.getD i Tx.zero).f, rl, rn⟩ := by
          unfold Qhh; rw [<- HRR.out.1, <- HRR.out.2.1, <- HRR.out.2.2]; simp
        rw [h7]; exact h8
      · exact ((Tn.refl (fun k => k = b1) W).set b1 _ _ rfl).set b1 _ _ rfl
      · intro k hk; rw [hk]; exact H2.out.2.2.2.1 b1 HBB.out
    by_cases hk4 : rk = 4
    · have hkk := hk4; subst hk4; go_wp2; go_ret
      refine ⟨s1, ?_, ?_, H2.out.2.2.1.trans (G := fun k => k = b1) ?_ ?_, H2.out.2.2.2.1⟩
      · rw [HRES.out, List.length_set, <- HN1.out]; exact congrArg Ending.returned HV0.out.symm
      · have h8 := H2.out.2.1.put2s HIL.out HBB.out rl 2; rw [HRES.out]
        have h7 : Qhh (l1.getD i Tx.zero) r = ⟨(l1.getD i Tx.zero).t, 2, (l1.getD i Tx.zero).f, rl, (l1.getD i Tx.zero).n⟩ := by
          unfold Qhh; rw [<- HRR.out.1, <- HRR.out.2.1, <- HRR.out.2.2]; simp
        rw [h7]; exact h8
      · exact ((Tn.refl (fun k => k = b1) W).set b1 _ _ rfl).set b1 _ _ rfl
      · intro k hk; rw [hk]; exact H2.out.2.2.2.1 b1 HBB.out
    by_cases hk3 : rk = 3
    · have hkk := hk3; subst hk3; go_wp2; go_ret
      refine ⟨s1, ?_, ?_, H2.out.2.2.1.trans (G := fun k => k = b1) ?_ ?_, H2.out.2.2.2.1⟩
      · rw [HRES.out, List.length_set, <- HN1.out]; exact congrArg Ending.returned HV0.out.symm
      · have h8 := H2.out.2.1.put2s HIL.out HBB.out rl 3; rw [HRES.out]
        have h7 : Qhh (l1.getD i Tx.zero) r = ⟨(l1.getD i Tx.zero).t, 3, (l1.getD i Tx.zero).f, rl, (l1.getD i Tx.zero).n⟩ := by
          unfold Qhh; rw [<- HRR.out.1, <- HRR.out.2.1, <- HRR.out.2.2]; simp
        rw [h7]; exact h8
      · exact ((Tn.refl (fun k => k = b1) W).set b1 _ _ rfl).set b1 _ _ rfl
      · intro k hk; rw [hk]; exact H2.out.2.2.2.1 b1 HBB.out
    have hkk := And.intro hk1 (And.intro hk2 (And.intro hk3 hk4)); have j1 : (rk == 1) = false := by simpa using hk1
    have j2 : (rk == 2) = false := by simpa using hk2
    have j3 : (rk == 3) = false := by simpa using hk3
    have j4 : (rk == 4) = false := by simpa using hk4
    go_wp2; go_ret
    refine ⟨s1, ?_, ?_, H2.out.2.2.1.trans (G := fun k => k = b1) ?_ ?_, H2.out.2.2.2.1⟩
    · rw [HRES.out, List.length_set, <- HN1.out]; exact congrArg Ending.returned HV0.out.symm
    · have h8 := H2.out.2.1.put1 HIL.out HBB.out rl; rw [HRES.out]
      have h7 : Qhh (l1.getD i Tx.zero) r = ⟨(l1.getD i Tx.zero).t, (l1.getD i Tx.zero).s, (l1.getD i Tx.zero).f, rl, (l1.getD i Tx.zero).n⟩ := by
        unfold Qhh; rw [<- HRR.out.1, <- HRR.out.2.1, <- HRR.out.2.2]; simp [hkk]
      rw [h7]; exact h8
    · exact (Tn.refl (fun k => k = b1) W).set b1 _ _ rfl
    · intro k hk; rw [hk]; exact H2.out.2.2.2.1 b1 HBB.out
  | false =>
    have hi9 := hsf.le; have HFI := Qc (Qfy l r i hsf); have k2 := H1.out.1.cell 2 (.int .i64 r.t) rfl; have k1 := H1.out.1.cell 1 (.int .u64 (r.l : Int)) rfl; clear hsf
    have hgb : s.b ≠ some w1.heap.size := fun e => by
      have h1 := HLT.out _ e; have h2 := H1.out.2.2.size; omega
    have hbA : Below w1.heap.size w1 (w1.alloc (.cells (txA (Qqb r)) 42)) := (Below.refl _ _).alloc (Nat.le_refl _) _; have HI := Qc (insT (w1.alloc (.cells (txA (Qqb r)) 42)) s l (H1.out.2.1.later hbA) i hi9 (Qqb r) w1.heap.size (Qb.new w1 _ _) hgb (by have := HN.out; omega)); have H3 : Hid (Qb (w1.alloc (.cells (txA (Qqb r)) 42)) b0 46 (rcA r va vb) /\ Below w.heap.size w (w1.alloc (.cells (txA (Qqb r)) 42)) /\ b0 < w1.heap.size /\ w1.heap.size <= (w1.alloc (.cells (txA (Qqb r)) 42)).heap.size) := ⟨H1.out.1.later hbA, H1.out.2.2.trans (hbA.mono H1.out.2.2.size), H1.out.1.lt, hbA.size⟩; rw [<- HN.out, <- HV.out, HV2.out] at HI; have HGB := Qc hi9; clear hgb hbA hi9; go_wp2_with fail; refine HI.out.mono ?_; rintro e W ⟨s1, rfl, hR, hTn, hnw⟩; rw [<- HN.out]; obtain ⟨n1, hn1⟩ : ∃ n1, n1 = n + 1 := ⟨_, rfl⟩; rw [<- hn1]; obtain ⟨l1, hl1⟩ : ∃ l1, l1 = Qoi l i (Qqb r) := ⟨_, rfl⟩; have hlen1 : l1.length = l.length + 1 := by rw [hl1]; exact Qun _ _ _ HGB.out
    have hil : i < l1.length := by have := HGB.out; omega
    have HN1 : Hid (n1 = l1.length) := by rw [hn1, hlen1, HN.out]; exact Qc rfl
    have HRES : Hid (Qzb l r = l1.set i (Qhh (l1.getD i Tx.zero) r)) := by
      rw [hl1, insT_get l i _ HGB.out, insT_set l i _ _ HGB.out]; exact Qc HFI.out
    rw [<- hl1] at hR
    have H2 : Hid (Qb W b0 46 (rcA r va vb) /\ RT W s1 l1 /\ Tn (ofS s) w W /\ (∀ q, s1.b = some q -> s.b = some q ∨ w.heap.size <= q) /\ (∀ b, s1.b = some b -> ¬ b0 = b)) := by
      refine ⟨hTn.row H3.out.1 (fun e => ?_), hR, (Tn.of_below H3.out.2.1).then hTn, fun q hq => (hnw q hq).imp id (fun h => Nat.le_trans H3.out.2.1.size h), fun b hb e => ?_⟩
      · have h1 := HLT.out _ e; have := HB.out; omega
      · rcases hnw b hb with h1 | h1
        · have h2 := HLT.out _ h1; have := HB.out; omega
        · have h2 := H3.out.2.2.1; have h3 := H3.out.2.2.2; omega
    have hin : i < n1 := by have := HN1.out; omega
    have hn9 : n1 <= 10001 := by omega
    clear hl1 hlen1 hn1 hR hTn hnw k1 k2 H1 H3 HI HFI HGB HN hl HV HV2; obtain ⟨a, c, hv0⟩ : ∃ a c, slV s1 n1 = .slice a n1 c := ⟨adr s1.b, s1.c, rfl⟩; rw [hv0]; have HV0 := Qc hv0; clear hv0; have hg := Qmg Tx.zero hil; obtain ⟨b1, hb1, hlt1, hc1⟩ := H2.out.2.1.at hg
    have ha1 : a = some ⟨b1, 0, none⟩ := by
      have h9 : slV s1 n1 = .slice (some ⟨b1, 0, none⟩) n1 s1.c := by unfold slV; rw [hb1]; rfl
      have h8 := HV0.out; rw [h9] at h8; injection h8 with h8; exact h8.symm
    subst ha1; have hne : ¬ b0 = b1 := H2.out.2.2.2.2 b1 hb1; have c3 := hc1 3 (.int .u64 ((l1.getD i Tx.zero).l : Int)) (by omega) rfl; have c4 := hc1 4 (.int .u64 ((l1.getD i Tx.zero).n : Int)) (by omega) rfl; have c5 := hc1 1 (.int .i64 (l1.getD i Tx.zero).s) (by omega) rfl; have f3 : W.frozen? ⟨b1, i * 5 + 3, none⟩ = false := H2.out.2.1.free hb1 _; have f4 : W.frozen? ⟨b1, i * 5 + 4, none⟩ = false := H2.out.2.1.free hb1 _; have f5 : W.frozen? ⟨b1, i * 5 + 1, none⟩ = false := H2.out.2.1.free hb1 _; have k0 := H2.out.1.cell 0 (.int .i64 r.k) rfl; have k1 := H2.out.1.cell 1 (.int .u64 (r.l : Int)) rfl; have k9 := H2.out.1.cell 9 (.int .u64 (r.n : Int)) rfl; have ii : (i : Int) < (n1 : Int) := by omega
    have HBB := Qc hb1; obtain ⟨rk, hrk⟩ : ∃ k, k = r.k := ⟨_, rfl⟩; obtain ⟨rl, hrl⟩ : ∃ k, k = r.l := ⟨_, rfl⟩; obtain ⟨rn, hrn⟩ : ∃ k, k = r.n := ⟨_, rfl⟩; have HRR := Qc (And.intro hrk (And.intro hrl hrn)); have HIL := Qc hil; rw [<- hrk] at k0; rw [<- hrl] at k1; rw [<- hrn] at k9; clear hg hc1 hb1 hrk hrl hrn hil hlt1
    by_cases hk1 : rk = 1
    · have hkk := hk1; subst hk1; go_wp2; go_ret
      refine ⟨s1, ?_, ?_, H2.out.2.2.1.trans (G := fun k => k = b1) ?_ ?_, H2.out.2.2.2.1⟩
      · rw [HRES.out, List.length_set, <- HN1.out]; exact congrArg Ending.returned HV0.out.symm
      · have h8 := H2.out.2.1.put2n HIL.out HBB.out rl rl; rw [HRES.out]
        have h7 : Qhh (l1.getD i Tx.zero) r = ⟨(l1.getD i Tx.zero).t, (l1.getD i Tx.zero).s, (l1.getD i Tx.zero).f, rl, rl⟩ := by
          unfold Qhh; rw [<- HRR.out.1, <- HRR.out.2.1, <- HRR.out.2.2]; simp
        rw [h7]; exact h8
      · exact ((Tn.refl (fun k => k = b1) W).set b1 _ _ rfl).set b1 _ _ rfl
      · intro k hk; rw [hk]; exact H2.out.2.2.2.1 b1 HBB.out
    by_cases hk2 : rk = 2
    · have hkk := hk2; subst hk2; go_wp2; go_ret
      refine ⟨s1, ?_, ?_, H2.out.2.2.1.trans (G := fun k => k = b1) ?_ ?_, H2.out.2.2.2.1⟩
      · rw [HRES.out, List.length_set, <- HN1.out]; exact congrArg Ending.returned HV0.out.symm
      · have h8 := H2.out.2.1.put2n HIL.out HBB.out rl rn; rw [HRES.out]
        have h7 : Qhh (l1.getD i Tx.zero) r = ⟨(l1.getD i Tx.zero).t, (l1.getD i Tx.zero).s, (l1.getD i Tx.zero).f, rl, rn⟩ := by
          unfold Qhh; rw [<- HRR.out.1, <- HRR.out.2.1, <- HRR.out.2.2]; simp
        rw [h7]; exact h8
      · exact ((Tn.refl (fun k => k = b1) W).set b1 _ _ rfl).set b1 _ _ rfl
      · intro k hk; rw [hk]; exact H2.out.2.2.2.1 b1 HBB.out
    by_cases hk4 : rk = 4
    · have hkk := hk4; subst hk4; go_wp2; go_ret
      refine ⟨s1, ?_, ?_, H2.out.2.2.1.trans (G := fun k => k = b1) ?_ ?_, H2.out.2.2.2.1⟩
      · rw [HRES.out, List.length_set, <- HN1.out]; exact congrArg Ending.returned HV0.out.symm
      · have h8 := H2.out.2.1.put2s HIL.out HBB.out rl 2; rw [HRES.out]
        have h7 : Qhh (l1.getD i Tx.zero) r = ⟨(l1.getD i Tx.zero).t, 2, (l1.getD i Tx.zero).f, rl, (l1.getD i Tx.zero).n⟩ := by
          unfold Qhh; rw [<- HRR.out.1, <- HRR.out.2.1, <- HRR.out.2.2]; simp
        rw [h7]; exact h8
      · exact ((Tn.refl (fun k => k = b1) W).set b1 _ _ rfl).set b1 _ _ rfl
      · intro k hk; rw [hk]; exact H2.out.2.2.2.1 b1 HBB.out
    by_cases hk3 : rk = 3
    · have hkk := hk3; subst hk3; go_wp2; go_ret
      refine ⟨s1, ?_, ?_, H2.out.2.2.1.trans (G := fun k => k = b1) ?_ ?_, H2.out.2.2.2.1⟩
      · rw [HRES.out, List.length_set, <- HN1.out]; exact congrArg Ending.returned HV0.out.symm
      · have h8 := H2.out.2.1.put2s HIL.out HBB.out rl 3; rw [HRES.out]
        have h7 : Qhh (l1.getD i Tx.zero) r = ⟨(l1.getD i Tx.zero).t, 3, (l1.getD i Tx.zero).f, rl, (l1.getD i Tx.zero).n⟩ := by
          unfold Qhh; rw [<- HRR.out.1, <- HRR.out.2.1, <- HRR.out.2.2]; simp
        rw [h7]; exact h8
      · exact ((Tn.refl (fun k => k = b1) W).set b1 _ _ rfl).set b1 _ _ rfl
      · intro k hk; rw [hk]; exact H2.out.2.2.2.1 b1 HBB.out
    have hkk := And.intro hk1 (And.intro hk2 (And.intro hk3 hk4)); have j1 : (rk == 1) = false := by simpa using hk1
    have j2 : (rk == 2) = false := by simpa using hk2
    have j3 : (rk == 3) = false := by simpa using hk3
    have j4 : (rk == 4) = false := by simpa using hk4
    go_wp2; go_ret
    refine ⟨s1, ?_, ?_, H2.out.2.2.1.trans (G := fun k => k = b1) ?_ ?_, H2.out.2.2.2.1⟩
    · rw [HRES.out, List.length_set, <- HN1.out]; exact congrArg Ending.returned HV0.out.symm
    · have h8 := H2.out.2.1.put1 HIL.out HBB.out rl; rw [HRES.out]
      have h7 : Qhh (l1.getD i Tx.zero) r = ⟨(l1.getD i Tx.zero).t, (l1.getD i Tx.zero).s, (l1.getD i Tx.zero).f, rl, (l1.getD i Tx.zero).n⟩ := by
        unfold Qhh; rw [<- HRR.out.1, <- HRR.out.2.1, <- HRR.out.2.2]; simp [hkk]
      rw [h7]; exact h8
    · exact (Tn.refl (fun k => k = b1) W).set b1 _ _ rfl
    · intro k hk; rw [hk]; exact H2.out.2.2.2.1 b1 HBB.out
theorem Qmw : ∀ (args : Array Value) (x : World), Sem.run Try.prog (callFunc 69 args) x = Result.ok (Next.enter 69 args) x := by
  intro args x; go_simp
theorem dirt1_16 (x : World) (gn gr h : Nat) (t : Int) (s : Sl) (l : List Di) (hn : x.cell? ⟨gn, 5, none⟩ = some (.int .i64 t)) (hr : x.cell? ⟨gr, 0, none⟩ = some (slV s l.length)) (hT : RD x s l) (hh : h < l.length) (hl : l.length <= 100000) :
    Calls Try.prog 69 #[.int .i64 (h : Int), .pointer (some ⟨gn, 0, none⟩), .pointer (some ⟨gr, 0, none⟩)] x fun e w' => e = .returned (.int .i64 (Qtl t (l.getD h Di.zero).p)) /\ Below x.heap.size x w' := by
  obtain ⟨b, hb, hlt, hc⟩ := hT.at (Qmg Di.zero hh); have c0 := hc 0 (.int .i64 (l.getD h Di.zero).p) (by omega) rfl; rw [Nat.add_zero] at c0; obtain ⟨o, c⟩ := s; have hb2 : o = some b := hb; subst hb2; generalize (l.getD h Di.zero).p = u at *; generalize l.length = n at *; have hr2 : x.cell? ⟨gr, 0, none⟩ = some (.slice (some ⟨b, 0, none⟩) n c) := hr; have HC := Qc (fun w => cmp16 t u w); have HS := Qc (And.intro hn (And.intro hr2 c0)); have ih : (h : Int) < (n : Int) := by omega
  have ih0 : (0 : Int) <= (h : Int) := by omega
  clear hc hT hr hb hn hr2 c0; go_enter Try.func69, Try.ntmps69; go_wp2_with fail; refine wp_region_noPanic ?_; refine wp_region_held_drew (S := fun z => z.cell? ⟨gn, 5, none⟩ = some (.int .i64 t) /\ z.cell? ⟨gr, 0, none⟩ = some (.slice (some ⟨b, 0, none⟩) n c) /\ z.cell? ⟨b, h * 2, none⟩ = some (.int .i64 u)) (by kernel_rfl) (HS.out) (fun hHeld => ?_); refine tkq 0 (some 5) (.pointer (some ⟨gn, 4, none⟩)) hHeld ?_; (try simp only [Act.put, List.setIfInBounds_toArray, List.set]); refine tkq 1 (some 6) (.pointer (some ⟨gn, 5, none⟩)) hHeld ?_; (try simp only [Act.put, List.setIfInBounds_toArray, List.set]); refine tkk 2 (some 7) (.int .i64 t) rfl rfl (by kernel_rfl) (by kernel_rfl) (fun x hSx => by have h1 := hSx.1; go_simp) hHeld ?_; (try simp only [Act.put, List.setIfInBounds_toArray, List.set]); refine tkk 3 (some 8) (.slice (some ⟨b, 0, none⟩) n c) rfl rfl (by kernel_rfl) (by kernel_rfl) (fun x hSx => by have h1 := hSx.2.1; go_simp) hHeld ?_; (try simp only [Act.put, List.setIfInBounds_toArray, List.set]); refine tkq 4 (some 9) (.int .i64 (h : Int)) hHeld ?_; (try simp only [Act.put, List.setIfInBounds_toArray, List.set]); refine tkq 5 (some 10) (.pointer (some ⟨b, h * 2, none⟩)) hHeld ?_; (try simp only [Act.put, List.setIfInBounds_toArray, List.set]); refine tkq 6 (some 11) (.pointer (some ⟨b, h * 2, none⟩)) hHeld ?_; (try simp only [Act.put, List.setIfInBounds_toArray, List.set]); refine tkk 7 (some 12) (.int .i64 u) rfl rfl (by kernel_rfl) (by kernel_rfl) (fun x hSx => by have h1 := hSx.2.2; go_simp) hHeld ?_; (try simp only [Act.put, List.setIfInBounds_toArray, List.set]); refine Qh 8 (by kernel_rfl) ?_; refine Qca (some 13) rfl rfl rfl 70 #[.int .i64 t, .int .i64 u] ?he ((HC.out _).mono ?_); (case he => go_simp); rintro e w1 ⟨rfl, rfl⟩; refine ⟨_, rfl, hHeld, ?_⟩; (try simp only [Act.put, List.setIfInBounds_toArray, List.set]); refine tkq 9 (some 4) (.int .i64 (Qtl t u)) hHeld ?_; (try simp only [Act.put, List.setIfInBounds_toArray, List.set]); refine wpAnyH_done (by kernel_rfl) ?_ _; refine NoPanic.normal ?_; clear hHeld; go_wp2; go_ret; exact ⟨rfl, Qt (Below.refl _ _) 1⟩
def Qbr (l : List Di) (t : Int) (i : Nat) (q : Bool) : Prop := Sf (fun k => Qtl t (l.getD k Di.zero).p) l.length i q
theorem Qux {l : List Di} {t : Int} {i : Nat} {q : Bool} (h : Qbr l t i q) {k : Nat} (hk : k < i) : (l.getD k Di.zero).p < t := (Qkf _ _).1 (h.low k hk)
theorem Qlt {l : List Di} {t : Int} {i : Nat} (h : Qbr l t i true) : i < l.length /\ (l.getD i Di.zero).p = t := ⟨(h.yes rfl).1, ((Qkg _ _).1 (h.yes rfl).2).symm⟩
theorem findD_ge {l : List Di} {t : Int} {i : Nat} {q : Bool} (h : Qbr l t i q) {k : Nat} (h1 : i <= k) (h2 : k < l.length) : t <= (l.getD k Di.zero).p := by
  have := h.high k h1 h2; have h3 : ¬ 0 < Qtl t (l.getD k Di.zero).p := by show ¬ 0 < _; omega
  rw [Qkf] at h3; omega
theorem findD_no {l : List Di} {t : Int} {i : Nat} (h : Qbr l t i false) (hi : i < l.length) : t < (l.getD i Di.zero).p := by
  have h1 := findD_ge h (Nat.le_refl _) hi; have h2 := h.no rfl hi; have h3 : ¬ t = (l.getD i Di.zero).p := fun e => h2 ((Qkg _ _).2 e)
  omega
theorem Qcp {x : Di} {l : List Di} {t : Int} {i : Nat} {q : Bool} (h : Qbr (x :: l) t (i + 1) q) : Qbr l t i q := by
  refine ⟨by have := h.le; rw [List.length_cons] at this; omega, fun k hk => ?_, fun k h1 h2 => ?_, fun e => ?_, fun e h2 => ?_⟩
  · have := h.low (k + 1) (by omega); simpa [List.getD] using this
  · have := h.high (k + 1) (by omega) (by rw [List.length_cons]; omega); simpa [List.getD] using this
  · have := h.yes e; rw [List.length_cons] at this; exact ⟨by omega, by simpa [List.getD] using this.2⟩
  · have := h.no e (by rw [List.length_cons]; omega); simpa [List.getD] using this
theorem Qzp : ∀ (l : List Di) (p : Int) (n i : Nat), Qbr l p i true -> Qxa l p n = l
  | [], p, n, i, h => absurd (Qlt h).1 (by simp)
  | x :: l, p, n, 0, h => by
    have h2 : x.p = p := by simpa [List.getD] using (Qlt h).2
    unfold Qxa; rw [if_neg (by omega), if_pos h2]
  | x :: l, p, n, i + 1, h => by
    have h1 : x.p < p := by simpa [List.getD] using Qux h (Nat.succ_pos i)
    unfold Qxa; rw [if_pos h1, Qzp l p n i (Qcp h)]
theorem Qws : ∀ (l : List Di) (p : Int) (n i : Nat), Qbr l p i false -> Qxa l p n = Qqk l i ⟨p, n⟩
  | [], p, n, i, h => by
    have := h.le; have h2 : i = 0 := by simpa using this
    subst h2; rfl
  | x :: l, p, n, 0, h => by
    have h1 : p < x.p := by simpa [List.getD] using findD_no h (by simp)
    unfold Qxa; rw [if_neg (by omega), if_neg (by omega)]; rfl
  | x :: l, p, n, i + 1, h => by
    have h1 : x.p < p := by simpa [List.getD] using Qux h (Nat.succ_pos i)
    unfold Qxa; rw [if_pos h1, Qws l p n i (Qcp h)]; rfl
def DirtAns (w : World) (s : Sl) (m : List Di) (e : Ending) (w' : World) : Prop := ∃ s', e = .returned (slV s' m.length) /\ RD w' s' m /\ Tn (ofS s) w w' /\ ∀ q, s'.b = some q -> s.b = some q ∨ w.heap.size <= q
theorem Qls (w : World) (s : Sl) (l : List Di) (r : Rec) (va vb : Value) (hT : RD w s l) (hs : SrtD l) (hl : l.length <= 10000) :
    Calls Try.prog 47 #[slV s l.length, .agg (rcA r va vb)] w (DirtAns w s (Qxa l r.c.pg r.l)) := by
  obtain ⟨n1, n2, n3⟩ := Qzd w #[slV s l.length] (rcA r va vb) 26 46; obtain ⟨y, hy⟩ : ∃ y, y = (w.alloc (.cells #[slV s l.length] 26)).alloc (.cells (rcA r va vb) 46) := ⟨_, rfl⟩; rw [<- hy] at n1 n2 n3; obtain ⟨b0, hb0⟩ : ∃ b, b = w.heap.size := ⟨_, rfl⟩; obtain ⟨b1, hb1⟩ : ∃ b, b = w.heap.size + 1 := ⟨_, rfl⟩; rw [<- hb0] at n1; rw [<- hb1] at n2; have HLT := Qc (fun b (h : s.b = some b) => hT.lt h)
  have HF := Qc (Qev 69 b1 b0 l.length (fun k => Qtl r.c.pg (l.getD k Di.zero).p) y (fun x h hb hh => dirt1_16 x b1 b0 h r.c.pg s l ((n2.later hb).cell 5 _ rfl) ((n1.later hb).cell 0 _ rfl) ((hT.later n3).later hb) hh (by omega)) Qmw (fun p q hpq hq h => by
    rw [Qkf] at h |-; have := hs p q hpq hq
    omega) (by omega))
  have HB := Qc (And.intro hb0 hb1); have HY := Qc hy; have H0 : Hid (Qb y b0 26 #[slV s l.length] /\ Qb y b1 46 (rcA r va vb) /\ RD y s l /\ Below w.heap.size w y) := ⟨n1, n2, hT.later n3, n3⟩; clear n1 n2 n3 hb0 hb1 hy hT hs; obtain ⟨v, hv⟩ : ∃ v, v = slV s l.length := ⟨_, rfl⟩; obtain ⟨a, c, hv2⟩ : ∃ a c, v = .slice a l.length c := ⟨adr s.b, s.c, hv⟩; have HV := Qc hv; rw [<- hv] at HY H0 |-; rw [hv2] at HY H0 |-; have HV2 := Qc hv2; clear hv hv2; obtain ⟨n, hn⟩ : ∃ n, n = l.length := ⟨_, rfl⟩; rw [<- hn] at HF HY H0 hl HV2 HV |-; have HN := Qc hn; clear hn; go_enter Try.func47, Try.ntmps47; go_wp2_with (with_reducible refine Qw 8 rfl ?_); rw [<- HY.out, <- HB.out.2, <- HB.out.1]; have k0 := H0.out.1.cell 0 (.slice a n c) rfl; refine Qf ?_; go_wp2_with fail; refine HF.out.mono ?_; rintro e w1 ⟨i, q, rfl, hsf, hb⟩; have H1 : Hid (Qb w1 b0 26 #[.slice a n c] /\ Qb w1 b1 46 (rcA r va vb) /\ RD w1 s l /\ Below w.heap.size w w1) := ⟨H0.out.1.later hb, H0.out.2.1.later hb, H0.out.2.2.1.later hb, H0.out.2.2.2.trans (hb.mono H0.out.2.2.2.size)⟩; clear k0 hb HF H0; have k0 := H1.out.1.cell 0 (.slice a n c) rfl
  have HSF : Hid (Qbr l r.c.pg i q) := by
    have h := hsf; rw [HN.out] at h; exact h
  clear hsf
  cases q with
  | true =>
    have HR := Qc (Qzp l r.c.pg r.l i HSF.out); go_wp2; go_ret; rw [HR.out]; exact ⟨s, by rw [<- HN.out, <- HV.out, HV2.out]; rfl, H1.out.2.2.1, Tn.of_below H1.out.2.2.2, fun q hq => .inl hq⟩
  | false =>
    have HR := Qc (Qws l r.c.pg r.l i HSF.out); have hi9 := HSF.out.le; have k5 := H1.out.2.1.cell 5 (.int .i64 r.c.pg) rfl; have k1 := H1.out.2.1.cell 1 (.int .u64 (r.l : Int)) rfl
    have hgb : s.b ≠ some w1.heap.size := fun e => by
      have h1 := HLT.out _ e; have h2 := H1.out.2.2.2.size; omega
    have hbA : Below w1.heap.size w1 (w1.alloc (.cells (diA ⟨r.c.pg, r.l⟩) 81)) := (Below.refl _ _).alloc (Nat.le_refl _) _; have HI := Qc (insD (w1.alloc (.cells (diA ⟨r.c.pg, r.l⟩) 81)) s l (H1.out.2.2.1.later hbA) i hi9 ⟨r.c.pg, r.l⟩ w1.heap.size (Qb.new w1 _ _) hgb (by have := HN.out; omega)); have H3 : Hid (Qb (w1.alloc (.cells (diA ⟨r.c.pg, r.l⟩) 81)) b0 26 #[.slice a n c] /\ Below w.heap.size w (w1.alloc (.cells (diA ⟨r.c.pg, r.l⟩) 81)) /\ b0 < w1.heap.size /\ w1.heap.size <= (w1.alloc (.cells (diA ⟨r.c.pg, r.l⟩) 81)).heap.size) := ⟨H1.out.1.later hbA, H1.out.2.2.2.trans (hbA.mono H1.out.2.2.2.size), H1.out.1.lt, hbA.size⟩; rw [<- HN.out, <- HV.out, HV2.out] at HI; have HGB := Qc hi9; clear hgb hbA hi9; go_wp2_with fail; refine HI.out.mono ?_; rintro e W ⟨s1, rfl, hR, hTn, hnw⟩; rw [<- HN.out]
    have hrow : Qb W b0 26 #[.slice a n c] := hTn.row H3.out.1 (fun e => by
      have h1 := HLT.out _ e; have := HB.out.1
      omega)
    have hlow := HB.out.1
    have hne : ∀ b, s1.b = some b -> b ≠ b0 := fun b hb e => by
      rcases hnw b hb with h1 | h1
      · have h2 := HLT.out _ h1; omega
      · have h2 := H3.out.2.2.1; have h3 := H3.out.2.2.2; omega
    have hlen1 : (Qqk l i ⟨r.c.pg, r.l⟩).length = n + 1 := by rw [Qyn _ _ _ HGB.out, HN.out]
    obtain ⟨a2, c2, hv0⟩ : ∃ a c, slV s1 (n + 1) = .slice a (n + 1) c := ⟨adr s1.b, s1.c, rfl⟩; rw [hv0]; have H4 : Hid (RD W s1 (Qqk l i ⟨r.c.pg, r.l⟩) /\ Tn (ofS s) w W /\ (∀ q, s1.b = some q -> s.b = some q ∨ w.heap.size <= q) /\ (∀ b, s1.b = some b -> b ≠ b0) /\ slV s1 (n + 1) = .slice a2 (n + 1) c2 /\ (Qqk l i ⟨r.c.pg, r.l⟩).length = n + 1 /\ b0 = w.heap.size) := ⟨hR, (Tn.of_below H3.out.2.1).then hTn, fun q hq => (hnw q hq).imp id (fun h => Nat.le_trans H3.out.2.1.size h), hne, hv0, hlen1, hlow⟩; have d0 := hrow.cell 0 (.slice a n c) rfl; have f0 := hrow.free 0; clear hrow hlow hne hlen1 hv0 hR hTn hnw k1 k5 k0 H1 H3 HI HSF; obtain ⟨m, hm⟩ : ∃ m, m = n + 1 := ⟨_, rfl⟩; rw [<- hm] at H4 |-; clear hm; go_wp2; go_ret; rw [HR.out]
    refine ⟨s1, ?_, H4.out.1.keep (fun b hb => heap_setCell_other W _ _ _ (fun e => H4.out.2.2.2.1 b hb e)), H4.out.2.1.trans (G := fun k => k = b0) ?_ ?_, H4.out.2.2.1⟩
    · rw [H4.out.2.2.2.2.2.1]; exact congrArg Ending.returned H4.out.2.2.2.2.1.symm
    · exact (Tn.refl (fun k => k = b0) W).set b0 _ _ rfl
    · intro k hk; rw [hk, H4.out.2.2.2.2.2.2]; exact .inr (Nat.le_refl _)
section
theorem RT.kind {w : World} {s : Sl} {l : List Tx} (h : RT w s l) {b : Nat} (hb : s.b = some b) : ∃ cs, Qb w b 42 cs := by
  rcases h with ⟨h1, _⟩ | ⟨b', cs, h1, h2, _⟩
  · rw [h1] at hb; cases hb
  · rw [h1] at hb; injection hb with hb; subst hb; exact ⟨cs, h2⟩
theorem RD.kind {w : World} {s : Sl} {l : List Di} (h : RD w s l) {b : Nat} (hb : s.b = some b) : ∃ cs, Qb w b 81 cs := by
  rcases h with ⟨h1, _⟩ | ⟨b', cs, h1, h2, _⟩
  · rw [h1] at hb; cases hb
  · rw [h1] at hb; injection hb with hb; subst hb; exact ⟨cs, h2⟩
theorem RT.not {w : World} {s : Sl} {l : List Tx} (h : RT w s l) {b : Nat} {t : TypeId} {cs : Array Value} (hr : Qb w b t cs) (ht : 42 ≠ t) : s.b ≠ some b := fun e => by
  obtain ⟨ds, h2⟩ := h.kind e; exact ht (Qbb h2 hr)
theorem RD.not {w : World} {s : Sl} {l : List Di} (h : RD w s l) {b : Nat} {t : TypeId} {cs : Array Value} (hr : Qb w b t cs) (ht : 81 ≠ t) : s.b ≠ some b := fun e => by
  obtain ⟨ds, h2⟩ := h.kind e; exact ht (Qbb h2 hr)
structure Tk (w x : World) (b0 b1 : Nat) (s1 s2 : Sl) (t : Ta) : Prop where
  r0 : Qb x b0 28 (taA (slV s1 t.1.length) (slV s2 t.2.length))
  r1 : Qb x b1 28 (taA (.slice none 0 0) (.slice none 0 0))
  ta : TaAt w x s1 s2 t.1 t.2
  lo : w.heap.size <= b0 /\ w.heap.size <= b1 /\ b0 ≠ b1
section
variable {w x y W : World} {b0 b1 : Nat} {s1 s2 s' : Sl} {t : Ta}
theorem Tk.later (h : Tk w x b0 b1 s1 s2 t) (hb : Below x.heap.size x y) : Tk w y b0 b1 s1 s2 t :=
  ⟨h.r0.later hb, h.r1.later hb, ⟨h.ta.t.later hb, h.ta.d.later hb, h.ta.n1, h.ta.n2, h.ta.bel.trans (hb.mono h.ta.bel.size)⟩, h.lo⟩
theorem Tk.store1 (h : Tk w x b0 b1 s1 s2 t) {m : List Tx} (hR : RT W s' m) (hT : Tn (ofS s1) x W) (hn : ∀ q, s'.b = some q -> s1.b = some q ∨ x.heap.size <= q) : Tk w (W.setCell ⟨b0, 0, none⟩ (slV s' m.length)) b0 b1 s' s2 (m, t.2) := by
  have q0 := hT.row h.r0 (h.ta.t.not h.r0 (by decide)); have q1 := hT.row h.r1 (h.ta.t.not h.r1 (by decide))
  have hD : RD W s2 t.2 := h.ta.d.turn hT (fun b hb e => by
    obtain ⟨cs, h1⟩ := h.ta.d.kind hb
    exact h.ta.t.not h1 (by decide) e)
  refine ⟨q0.set 0 _, q1.other _ _ (fun e => h.lo.2.2 e.symm), ⟨hR.keep (fun b hb => heap_setCell_other W _ _ _ (fun e => ?_)), hD.keep (fun b hb => heap_setCell_other W _ _ _ (fun e => ?_)), fun b hb => ?_, h.ta.n2, ?_⟩, h.lo⟩
  · have e' : b = b0 := e; rw [e'] at hb; exact hR.not q0 (by decide) hb
  · have e' : b = b0 := e; rw [e'] at hb; exact hD.not q0 (by decide) hb
  · rcases hn b hb with h1 | h1
    · exact h.ta.n1 b h1
    · exact Nat.le_trans h.ta.bel.size h1
  · exact (h.ta.bel.trans (hT.below (fun k hk => h.ta.n1 k hk) h.ta.bel.size)).setCell h.lo.1 _
theorem Tk.store2 (h : Tk w x b0 b1 s1 s2 t) {m : List Di} (hR : RD W s' m) (hT : Tn (ofS s2) x W) (hn : ∀ q, s'.b = some q -> s2.b = some q ∨ x.heap.size <= q) : Tk w (W.setCell ⟨b0, 1, none⟩ (slV s' m.length)) b0 b1 s1 s' (t.1, m) := by
  have q0 := hT.row h.r0 (h.ta.d.not h.r0 (by decide)); have q1 := hT.row h.r1 (h.ta.d.not h.r1 (by decide))
  have hD : RT W s1 t.1 := h.ta.t.turn hT (fun b hb e => by
    obtain ⟨cs, h1⟩ := h.ta.t.kind hb
    exact h.ta.d.not h1 (by decide) e)
  refine ⟨q0.set 1 _, q1.other _ _ (fun e => h.lo.2.2 e.symm), ⟨hD.keep (fun b hb => heap_setCell_other W _ _ _ (fun e => ?_)), hR.keep (fun b hb => heap_setCell_other W _ _ _ (fun e => ?_)), h.ta.n1, fun b hb => ?_, ?_⟩, h.lo⟩
  · have e' : b = b0 := e; rw [e'] at hb; exact hD.not q0 (by decide) hb
  · have e' : b = b0 := e; rw [e'] at hb; exact hR.not q0 (by decide) hb
  · rcases hn b hb with h1 | h1
    · exact h.ta.n2 b h1
    · exact Nat.le_trans h.ta.bel.size h1
  · exact (h.ta.bel.trans (hT.below (fun k hk => h.ta.n2 k hk) h.ta.bel.size)).setCell h.lo.1 _
end
theorem Qfk {x W : World} {s : Sl} {b b0 j : Nat} {cs ds : Array Value} {l : List Tx} (h : Qb x b 46 cs) (hR : RT x s l) (hT : Tn (ofS s) x W) (h0 : Qb x b0 28 ds) (v : Value) : Qb (W.setCell ⟨b0, j, none⟩ v) b 46 cs :=
  (hT.row h (hR.not h (by decide))).other _ _ (fun e => by
    have e' : b = b0 := e; rw [e'] at h
    exact absurd (Qbb h h0) (by decide))
def TakenAns (w : World) (t : Ta) (e : Ending) (w' : World) : Prop := ∃ s1 s2, e = .returned (.agg (taA (slV s1 t.1.length) (slV s2 t.2.length))) /\ TaAt w w' s1 s2 t.1 t.2
theorem taken16 (w : World) (vT vD : Value) (T : List Tx) (D : List Di) (v : Value) (ms : List (Rec × Value × Value)) (hT : Qqd w vT T) (hD : Qcf w vD D) (ok : TaOk (T, D) 1000) (hl : LogIn w v ms) :
    Calls Try.prog 31 #[.agg (taA vT vD), v] w (TakenAns w (Qna (T, D) (msR ms))) := by
  obtain ⟨n1, n2, n3⟩ := Qzd w (taA vT vD) (taA (.slice none 0 0) (.slice none 0 0)) 28 28; obtain ⟨y, hy⟩ : ∃ y, y = (w.alloc (.cells (taA vT vD) 28)).alloc (.cells (taA (.slice none 0 0) (.slice none 0 0)) 28) := ⟨_, rfl⟩; rw [<- hy] at n1 n2 n3; obtain ⟨b0, hb0⟩ : ∃ b, b = w.heap.size := ⟨_, rfl⟩; obtain ⟨b1, hb1⟩ : ∃ b, b = w.heap.size + 1 := ⟨_, rfl⟩; rw [<- hb0] at n1; rw [<- hb1] at n2; have hlt := ok.lt; have hld := ok.ld; have HOW := Qc (own16 y vT vD T D (hT.below n3) (hD.below n3) (by show T.length <= _; have : T.length <= 1000 := hlt; omega) (by show D.length <= _; have : D.length <= 1000 := hld; omega)); have H0 : Hid (Qb y b0 28 (taA vT vD) /\ Qb y b1 28 (taA (.slice none 0 0) (.slice none 0 0)) /\ Below w.heap.size w y) := ⟨n1, n2, n3⟩; have HB := Qc (And.intro hb0 hb1); have HY := Qc hy; have HOK := Qc ok; have HL := Qc hl
  have hone : (taA vT vD).all (·.oneCell') = true := by
    obtain ⟨a1, c1, e1, _⟩ := hT; obtain ⟨a2, c2, e2, _⟩ := hD; rw [e1, e2]; simp [taA, Value.oneCell']
  obtain ⟨av, cv, rfl, hcap⟩ := hl.slice; have hfew := hl.few; obtain ⟨ln, hln⟩ : ∃ k, k = ms.length := ⟨_, rfl⟩; rw [<- hln] at HL hfew |-; have HLN := Qc hln; clear n1 n2 n3 hy hb0 hb1 hlt hld ok hl hT hD hcap hln; obtain ⟨tb, htb⟩ : ∃ t, t = taA vT vD := ⟨_, rfl⟩; have htz : tb.size = 2 := by rw [htb]; rfl
  rw [<- htb] at HY H0 HOW hone |-; have hinf : (Try.prog.info? 28).map (·.size) = some tb.size := by rw [htz]; exact Qae
  clear htb; go_enter Try.func31, Try.ntmps31; unfold taA at HY H0; go_wp2_with (with_reducible refine Qw 7 rfl ?_); rw [<- HY.out, <- HB.out.2, <- HB.out.1]; refine Qf ?_; go_wp2_with (refine Qd rfl 28 (.tmp 2) rfl b0 rfl tb H0.out.1 _ Try.underlying28 rfl hinf ?_); refine HOW.out.mono ?_; rintro e w1 ⟨s1, s2, rfl, hta⟩; have hb1 : Below y.heap.size y w1 := hta.bel; have H1 : Hid (Qb w1 b0 28 tb /\ Qb w1 b1 28 (taA (.slice none 0 0) (.slice none 0 0)) /\ Below w.heap.size w w1 /\ TaAt y w1 s1 s2 T D) := ⟨H0.out.1.later hb1, H0.out.2.1.later hb1, H0.out.2.2.trans (hb1.mono H0.out.2.2.size), hta⟩; have HLY := Qc H0.out.2.2.size; clear hta hb1 H0 HOW HY; obtain ⟨ra, hra⟩ : ∃ t, t = taA (slV s1 T.length) (slV s2 D.length) := ⟨_, rfl⟩; rw [<- hra]; have hrz : tb.size = ra.size := by rw [htz, hra]; rfl
  have hri : (Try.prog.info? 28).map (·.size) = some ra.size := by rw [<- hrz]; exact hinf
  have hro : ra.all (·.oneCell') = true := by rw [hra]; simp [taA, slV, Value.oneCell']
  have HRA0 := Qc hra; clear hra; go_wp2_with (refine Qe rfl 28 (.tmp 2) (.tmp 8) rfl b0 tb ra rfl rfl H1.out.1 hri hrz hro ?_; intro w2 hr2 hk2 hrow2; refine Qz ?_)
  have HTK : Hid (Tk w w2 b0 b1 s1 s2 (Qna (T, D) ((msR ms).take 0))) := by
    have hbl := hk2 w.heap.size w H1.out.2.2.1 (by have := HB.out.1; omega); have h1 := H1.out.2.2.2; rw [HRA0.out] at hr2
    have hs1 : ∀ b, s1.b = some b -> b ≠ b0 := fun b hb e => by
      have := h1.n1 b hb; have h9 := HLY.out; exact h1.t.not H1.out.1 (by decide) (by rw [<- e]; exact hb)
    have hs2 : ∀ b, s2.b = some b -> b ≠ b0 := fun b hb e => h1.d.not H1.out.1 (by decide) (by rw [<- e]; exact hb)
    refine ⟨hr2, hrow2 b1 _ _ (by have := HB.out; omega) H1.out.2.1, ⟨h1.t.keep (fun b hb => ?_), h1.d.keep (fun b hb => ?_), fun b hb => Nat.le_trans HLY.out (h1.n1 b hb), fun b hb => Nat.le_trans HLY.out (h1.n2 b hb), hbl⟩, by have := HB.out; omega⟩
    · obtain ⟨cs, h2⟩ := h1.t.kind hb; exact (hrow2 b _ _ (hs1 b hb) h2).trans h2.symm
    · obtain ⟨cs, h2⟩ := h1.d.kind hb; exact (hrow2 b _ _ (hs2 b hb) h2).trans h2.symm
  clear hr2 hk2 hrow2 HRA0 hrz hri hro H1 HLY hinf htz hone; refine Qf ?_; go_wp2; go_loopw [11] (fun i wr => ∃ j : Nat, j <= ln /\ i = .int .i64 (j : Int) /\ ∃ s1 s2, Hid (Tk w wr b0 b1 s1 s2 (Qna (T, D) ((msR ms).take j)))) (fun i _ => ln - (intOf i).toNat)
  case atStart => exact ⟨0, Nat.zero_le _, rfl, s1, s2, HTK⟩
  case round =>
    obtain ⟨j, hj, rfl, p1, p2, HJ⟩ := hrel; clear HTK
    by_cases hlt : j < ln
    · have i5 : (j : Int) < (ln : Int) := by omega
      have hjm : j < ms.length := by rw [<- HLN.out]; exact hlt
      obtain ⟨b, off, rfl, hf, he, hx⟩ := HL.out.mid hjm; have HNX := Qc (show Qna (T, D) ((msR ms).take (j + 1)) = Ql (Qna (T, D) ((msR ms).take j)) (ms.getD j rcZ).1 by rw [Qvd hjm, Qpd])
      have hokt : TaOk (Qna (T, D) ((msR ms).take j)) 2000 := by
        have h1 := HOK.out.takes ((msR ms).take j); have h2 : ((msR ms).take j).length <= 1000 := by rw [List.length_take, Qeb]; omega
        exact ⟨h1.st, h1.sd, by have := h1.lt; omega, by have := h1.ld; omega⟩
      obtain ⟨t, ht⟩ : ∃ t, t = Qna (T, D) ((msR ms).take j) := ⟨_, rfl⟩; obtain ⟨m, hm⟩ : ∃ m, m = ms.getD j rcZ := ⟨_, rfl⟩; rw [<- ht] at HJ HNX hokt; rw [<- hm] at hf he hx HNX; have HT := Qc hokt; obtain ⟨hr0, hin⟩ := hx wr HJ.out.ta.bel; have HLD := Qc (Qug wr b (off + j * 14) m hr0); have HALL := Qc (Qzz hin); clear hjm hf he hx ht hm hokt hr0 hin; go_wp2_with (first | (refine Qo rfl 46 (.tmp 13) rfl _ _ rfl HLD.out ?_) | (refine Qe rfl 46 (.tmp 6) (.tmp 14) rfl wr.heap.size Qya (rcF m) rfl rfl (Qb.new wr 46 Qya) Qia rfl HALL.out ?_; intro w5 hr5 hk5 hrow5; refine Qz ?_)); have hba : Below wr.heap.size wr (wr.alloc (.cells Qya 46)) := (Below.refl _ _).alloc (Nat.le_refl _) _
      have H5 : Hid (Tk w w5 b0 b1 p1 p2 t /\ Qb w5 wr.heap.size 46 (rcF m)) := by
        have h1 := HJ.out.later hba
        refine ⟨⟨hrow5 b0 _ _ (Nat.ne_of_lt HJ.out.r0.lt) h1.r0, hrow5 b1 _ _ (Nat.ne_of_lt HJ.out.r1.lt) h1.r1, ⟨h1.ta.t.keep (fun b hb => ?_), h1.ta.d.keep (fun b hb => ?_), h1.ta.n1, h1.ta.n2, hk5 _ _ h1.ta.bel HJ.out.ta.bel.size⟩, h1.lo⟩, hr5⟩
        · obtain ⟨cs, h2⟩ := h1.ta.t.kind hb; exact (hrow5 b _ _ (Nat.ne_of_lt (HJ.out.ta.t.lt hb)) h2).trans h2.symm
        · obtain ⟨cs, h2⟩ := h1.ta.d.kind hb; exact (hrow5 b _ _ (Nat.ne_of_lt (HJ.out.ta.d.lt hb)) h2).trans h2.symm
      obtain ⟨b6, hb6⟩ : ∃ q, q = wr.heap.size := ⟨_, rfl⟩; rw [<- hb6] at H5 |-; clear hr5 hk5 hrow5 hba hb6 HLD HJ; refine Qf ?_; have k0 := H5.out.2.cell 0 (.int .i64 m.1.k) rfl; have k2 := H5.out.2.cell 2 (.int .i64 m.1.t) rfl; obtain ⟨rk, hrk⟩ : ∃ k, k = m.1.k := ⟨_, rfl⟩; have HRK := Qc hrk; rw [<- hrk] at k0; clear hrk; obtain ⟨n1, hn1⟩ : ∃ n, n = t.1.length := ⟨_, rfl⟩; obtain ⟨a1, c1, hv1⟩ : ∃ a c, slV p1 t.1.length = .slice a n1 c := ⟨adr p1.b, p1.c, by rw [hn1]; rfl⟩; have k00 := H5.out.1.r0.cell 0 (slV p1 t.1.length) rfl; rw [hv1] at k00; have HV1 := Qc hv1; clear hv1 hn1
      by_cases hk7 : rk = 7
      · subst hk7; go_wp2; go_roundw
        case rel =>
          refine ⟨j + 1, by omega, by go_num, p1, p2, ?_⟩; rw [HNX.out]; unfold Ql; rw [if_pos (.inl HRK.out.symm)]; exact Qc H5.out.1
        case measure => simp [intOf] <;> omega
      by_cases hk8 : rk = 8
      · subst hk8; go_wp2; go_roundw
        case rel =>
          refine ⟨j + 1, by omega, by go_num, p1, p2, ?_⟩; rw [HNX.out]; unfold Ql; rw [if_pos (.inr HRK.out.symm)]; exact Qc H5.out.1
        case measure => simp [intOf] <;> omega
      by_cases hk5 : rk = 5
      · subst hk5
        have HNX2 : Hid (Qna (T, D) ((msR ms).take (j + 1)) = (Qoa t.1 m.1.t, t.2)) := by
          show _ = _; rw [HNX.out]; unfold Ql; rw [if_neg (by have := HRK.out; omega), if_pos HRK.out.symm, if_neg (by have := HRK.out; omega)]
        have HW := Qc (without16 w5 p1 t.1 m.1.t H5.out.1.ta.t HT.out.st (by have := HT.out.lt; omega)); rw [HV1.out] at HW; clear HNX; go_wp2_with fail; refine HW.out.mono ?_; rintro e W ⟨rfl, hR, hTn⟩; obtain ⟨rs, hrs⟩ : ∃ rs, rs = Qoa t.1 m.1.t := ⟨_, rfl⟩; rw [<- hrs] at hR HNX2 |-; clear hrs; obtain ⟨a2, c2, hv2⟩ : ∃ a c, slV p1 rs.length = .slice a rs.length c := ⟨adr p1.b, p1.c, rfl⟩; rw [hv2]
        have d0 : W.cell? ⟨b0, 0, none⟩ = some (.slice a1 n1 c1) := by
          have h1 := (hTn.row H5.out.1.r0 (H5.out.1.ta.t.not H5.out.1.r0 (by decide))).cell 0 (slV p1 t.1.length) rfl; rw [HV1.out] at h1; exact h1
        have f0 := (hTn.row H5.out.1.r0 (H5.out.1.ta.t.not H5.out.1.r0 (by decide))).free 0; have HTN := Qc (And.intro hR hTn); have HV2 := Qc hv2; clear hR hTn hv2 k00 k2 k0; go_wp2_with (with_reducible refine Qw 34 rfl ?_); obtain ⟨z, hz⟩ : ∃ z, z = W.setCell ⟨b0, 0, none⟩ (.slice a2 rs.length c2) := ⟨_, rfl⟩
        have HZ : Hid (Tk w z b0 b1 p1 p2 (rs, t.2) /\ Qb z b6 46 (rcF m)) := by
          rw [hz, <- HV2.out]; exact ⟨H5.out.1.store1 HTN.out.1 HTN.out.2 (fun q hq => .inl hq), Qfk H5.out.2 H5.out.1.ta.t HTN.out.2 H5.out.1.r0 _⟩
        rw [<- hz]; clear hz HTN HV2 d0 f0 H5; have k0 := HZ.out.2.cell 0 (.int .i64 m.1.k) rfl; rw [<- HRK.out] at k0; refine Qf ?_; go_wp2; go_roundw
        case rel =>
          refine ⟨j + 1, by omega, by go_num, p1, p2, ?_⟩; rw [HNX2.out]; exact Qc HZ.out.1
        case measure => simp [intOf] <;> omega
      by_cases hk1 : rk = 1
      · subst hk1
        have HNX2 : Hid (Qna (T, D) ((msR ms).take (j + 1)) = (Qzb t.1 m.1, Qxa t.2 m.1.c.pg m.1.l)) := by
          show _ = _; rw [HNX.out]; unfold Ql; rw [if_neg (by have := HRK.out; omega), if_neg (by have := HRK.out; omega), if_pos (.inl HRK.out.symm)]
        clear HNX; have HW := Qc (with16 w5 p1 t.1 m.1 m.2.1 m.2.2 H5.out.1.ta.t HT.out.st (by have := HT.out.lt; omega)); rw [HV1.out] at HW; rw [show rcA m.1 m.2.1 m.2.2 = rcF m from rfl] at HW; obtain ⟨rc, hrc⟩ : ∃ rc, rc = rcF m := ⟨_, rfl⟩; have HRC := Qc hrc; rw [<- hrc] at HW; have hrz : rc.size = 14 := by rw [hrc]; rfl
        have hri : (Try.prog.info? 46).map (·.size) = some rc.size := by rw [hrz]; exact Qia
        clear hrc; go_wp2_with (refine Qd rfl 46 (.tmp 6) rfl b6 rfl rc (by rw [HRC.out]; exact H5.out.2) _ Try.underlying46 rfl hri ?_); refine HW.out.mono ?_; rintro e W ⟨s', rfl, hR, hTn, hnw⟩; have HNW := Qc hnw; obtain ⟨rs, hrs⟩ : ∃ rs, rs = Qzb t.1 m.1 := ⟨_, rfl⟩; rw [<- hrs] at hR HNX2 |-; clear hrs hnw HW; obtain ⟨a2, c2, hv2⟩ : ∃ a c, slV s' rs.length = .slice a rs.length c := ⟨adr s'.b, s'.c, rfl⟩; rw [hv2]
        have d0 : W.cell? ⟨b0, 0, none⟩ = some (.slice a1 n1 c1) := by
          have h1 := (hTn.row H5.out.1.r0 (H5.out.1.ta.t.not H5.out.1.r0 (by decide))).cell 0 (slV p1 t.1.length) rfl; rw [HV1.out] at h1; exact h1
        have f0 := (hTn.row H5.out.1.r0 (H5.out.1.ta.t.not H5.out.1.r0 (by decide))).free 0; have HTN := Qc (And.intro hR hTn); have HV2 := Qc hv2; clear hR hTn hv2 k00 k2 k0; go_wp2_with (with_reducible refine Qw 34 rfl ?_); obtain ⟨z, hz⟩ : ∃ z, z = W.setCell ⟨b0, 0, none⟩ (.slice a2 rs.length c2) := ⟨_, rfl⟩
        have HZ : Hid (Tk w z b0 b1 s' p2 (rs, t.2) /\ Qb z b6 46 (rcF m)) := by
          rw [hz, <- HV2.out]; exact ⟨H5.out.1.store1 HTN.out.1 HTN.out.2 HNW.out, Qfk H5.out.2 H5.out.1.ta.t HTN.out.2 H5.out.1.r0 _⟩
        rw [<- hz]; clear hz HTN HV2 d0 f0 H5; have k0 := HZ.out.2.cell 0 (.int .i64 m.1.k) rfl; rw [<- HRK.out] at k0; refine Qf ?_; have HDI := Qc (Qls z p2 t.2 m.1 m.2.1 m.2.2 HZ.out.1.ta.d HT.out.sd (by have := HT.out.ld; omega)); obtain ⟨n2, hn2⟩ : ∃ n, n = t.2.length := ⟨_, rfl⟩; obtain ⟨a3, c3, hv3⟩ : ∃ a c, slV p2 t.2.length = .slice a n2 c := ⟨adr p2.b, p2.c, by rw [hn2]; rfl⟩; rw [hv3, show rcA m.1 m.2.1 m.2.2 = rc from HRC.out.symm] at HDI; have k01 := HZ.out.1.r0.cell 1 (slV p2 t.2.length) rfl; rw [hv3] at k01; have HV3 := Qc hv3; clear hv3 hn2; go_wp2_with (refine Qd rfl 46 (.tmp 6) rfl b6 rfl rc (by rw [HRC.out]; exact HZ.out.2) _ Try.underlying46 rfl hri ?_); refine HDI.out.mono ?_; rintro e W2 ⟨s2', rfl, hR2, hTn2, hnw2⟩; obtain ⟨rd, hrd⟩ : ∃ rd, rd = Qxa t.2 m.1.c.pg m.1.l := ⟨_, rfl⟩; rw [<- hrd] at hR2 HNX2 |-; obtain ⟨a4, c4, hv4⟩ : ∃ a c, slV s2' rd.length = .slice a rd.length c := ⟨adr s2'.b, s2'.c, rfl⟩; rw [hv4]
        have d1 : W2.cell? ⟨b0, 1, none⟩ = some (.slice a3 n2 c3) := by
          have h1 := (hTn2.row HZ.out.1.r0 (HZ.out.1.ta.d.not HZ.out.1.r0 (by decide))).cell 1 (slV p2 t.2.length) rfl; rw [HV3.out] at h1; exact h1
        have f1 := (hTn2.row HZ.out.1.r0 (HZ.out.1.ta.d.not HZ.out.1.r0 (by decide))).free 1; have H9 := Qc (HZ.out.1.store2 hR2 hTn2 hnw2); rw [hv4] at H9; clear hrd hv4 hR2 hTn2 hnw2 HZ HDI k01 k0; go_wp2; go_roundw
        case rel =>
          refine ⟨j + 1, by omega, by go_num, s', s2', ?_⟩; rw [HNX2.out]; exact H9
        case measure => simp [intOf] <;> omega
      by_cases hk2 : rk = 2
      · subst hk2
        have HNX2 : Hid (Qna (T, D) ((msR ms).take (j + 1)) = (Qzb t.1 m.1, Qxa t.2 m.1.c.pg m.1.l)) := by
          show _ = _; rw [HNX.out]; unfold Ql; rw [if_neg (by have := HRK.out; omega), if_neg (by have := HRK.out; omega), if_pos (.inr HRK.out.symm)]
        clear HNX; have HW := Qc (with16 w5 p1 t.1 m.1 m.2.1 m.2.2 H5.out.1.ta.t HT.out.st (by have := HT.out.lt; omega)); rw [HV1.out] at HW; rw [show rcA m.1 m.2.1 m.2.2 = rcF m from rfl] at HW; obtain ⟨rc, hrc⟩ : ∃ rc, rc = rcF m := ⟨_, rfl⟩; have HRC := Qc hrc; rw [<- hrc] at HW; have hrz : rc.size = 14 := by rw [hrc]; rfl
        have hri : (Try.prog.info? 46).map (·.size) = some rc.size := by rw [hrz]; exact Qia
        clear hrc; go_wp2_with (refine Qd rfl 46 (.tmp 6) rfl b6 rfl rc (by rw [HRC.out]; exact H5.out.2) _ Try.underlying46 rfl hri ?_); refine HW.out.mono ?_; rintro e W ⟨s', rfl, hR, hTn, hnw⟩; have HNW := Qc hnw; obtain ⟨rs, hrs⟩ : ∃ rs, rs = Qzb t.1 m.1 := ⟨_, rfl⟩; rw [<- hrs] at hR HNX2 |-; clear hrs hnw HW; obtain ⟨a2, c2, hv2⟩ : ∃ a c, slV s' rs.length = .slice a rs.length c := ⟨adr s'.b, s'.c, rfl⟩; rw [hv2]
        have d0 : W.cell? ⟨b0, 0, none⟩ = some (.slice a1 n1 c1) := by
          have h1 := (hTn.row H5.out.1.r0 (H5.out.1.ta.t.not H5.out.1.r0 (by decide))).cell 0 (slV p1 t.1.length) rfl; rw [HV1.out] at h1; exact h1
        have f0 := (hTn.row H5.out.1.r0 (H5.out.1.ta.t.not H5.out.1.r0 (by decide))).free 0; have HTN := Qc (And.intro hR hTn); have HV2 := Qc hv2; clear hR hTn hv2 k00 k2 k0; go_wp2_with (with_reducible refine Qw 34 rfl ?_); obtain ⟨z, hz⟩ : ∃ z, z = W.setCell ⟨b0, 0, none⟩ (.slice a2 rs.length c2) := ⟨_, rfl⟩
        have HZ : Hid (Tk w z b0 b1 s' p2 (rs, t.2) /\ Qb z b6 46 (rcF m)) := by
          rw [hz, <- HV2.out]; exact ⟨H5.out.1.store1 HTN.out.1 HTN.out.2 HNW.out, Qfk H5.out.2 H5.out.1.ta.t HTN.out.2 H5.out.1.r0 _⟩
        rw [<- hz]; clear hz HTN HV2 d0 f0 H5; have k0 := HZ.out.2.cell 0 (.int .i64 m.1.k) rfl; rw [<- HRK.out] at k0; refine Qf ?_; have HDI := Qc (Qls z p2 t.2 m.1 m.2.1 m.2.2 HZ.out.1.ta.d HT.out.sd (by have := HT.out.ld; omega)); obtain ⟨n2, hn2⟩ : ∃ n, n = t.2.length := ⟨_, rfl⟩; obtain ⟨a3, c3, hv3⟩ : ∃ a c, slV p2 t.2.length = .slice a n2 c := ⟨adr p2.b, p2.c, by rw [hn2]; rfl⟩; rw [hv3, show rcA m.1 m.2.1 m.2.2 = rc from HRC.out.symm] at HDI; have k01 := HZ.out.1.r0.cell 1 (slV p2 t.2.length) rfl; rw [hv3] at k01; have HV3 := Qc hv3; clear hv3 hn2; go_wp2_with (refine Qd rfl 46 (.tmp 6) rfl b6 rfl rc (by rw [HRC.out]; exact HZ.out.2) _ Try.underlying46 rfl hri ?_); refine HDI.out.mono ?_; rintro e W2 ⟨s2', rfl, hR2, hTn2, hnw2⟩; obtain ⟨rd, hrd⟩ : ∃ rd, rd = Qxa t.2 m.1.c.pg m.1.l := ⟨_, rfl⟩; rw [<- hrd] at hR2 HNX2 |-; obtain ⟨a4, c4, hv4⟩ : ∃ a c, slV s2' rd.length = .slice a rd.length c := ⟨adr s2'.b, s2'.c, rfl⟩; rw [hv4]
        have d1 : W2.cell? ⟨b0, 1, none⟩ = some (.slice a3 n2 c3) := by
          have h1 := (hTn2.row HZ.out.1.r0 (HZ.out.1.ta.d.not HZ.out.1.r0 (by decide))).cell 1 (slV p2 t.2.length) rfl; rw [HV3.out] at h1; exact h1
        have f1 := (hTn2.row HZ.out.1.r0 (HZ.out.1.ta.d.not HZ.out.1.r0 (by decide))).free 1; have H9 := Qc (HZ.out.1.store2 hR2 hTn2 hnw2); rw [hv4] at H9; clear hrd hv4 hR2 hTn2 hnw2 HZ HDI k01 k0; go_wp2; go_roundw
        case rel =>
          refine ⟨j + 1, by omega, by go_num, s', s2', ?_⟩; rw [HNX2.out]; exact H9
        case measure => simp [intOf] <;> omega
      have HNX2 : Hid (Qna (T, D) ((msR ms).take (j + 1)) = (Qzb t.1 m.1, t.2)) := by
        show _ = _; rw [HNX.out]; unfold Ql; rw [if_neg (by have := HRK.out; omega), if_neg (by have := HRK.out; omega), if_neg (by have := HRK.out; omega)]
      clear HNX; have e7 : (rk == 7) = false := by simpa using hk7
      have e8 : (rk == 8) = false := by simpa using hk8
      have e5 : (rk == 5) = false := by simpa using hk5
      have e1 : (rk == 1) = false := by simpa using hk1
      have e2 : (rk == 2) = false := by simpa using hk2
      have HW := Qc (with16 w5 p1 t.1 m.1 m.2.1 m.2.2 H5.out.1.ta.t HT.out.st (by have := HT.out.lt; omega)); rw [HV1.out] at HW; rw [show rcA m.1 m.2.1 m.2.2 = rcF m from rfl] at HW; obtain ⟨rc, hrc⟩ : ∃ rc, rc = rcF m := ⟨_, rfl⟩; have HRC := Qc hrc; rw [<- hrc] at HW; have hrz : rc.size = 14 := by rw [hrc]; rfl
      have hri : (Try.prog.info? 46).map (·.size) = some rc.size := by rw [hrz]; exact Qia
      clear hrc; go_wp2_with (refine Qd rfl 46 (.tmp 6) rfl b6 rfl rc (by rw [HRC.out]; exact H5.out.2) _ Try.underlying46 rfl hri ?_); refine HW.out.mono ?_; rintro e W ⟨s', rfl, hR, hTn, hnw⟩; have HNW := Qc hnw; obtain ⟨rs, hrs⟩ : ∃ rs, rs = Qzb t.1 m.1 := ⟨_, rfl⟩; rw [<- hrs] at hR HNX2 |-; clear hrs hnw HW; obtain ⟨a2, c2, hv2⟩ : ∃ a c, slV s' rs.length = .slice a rs.length c := ⟨adr s'.b, s'.c, rfl⟩; rw [hv2]
      have d0 : W.cell? ⟨b0, 0, none⟩ = some (.slice a1 n1 c1) := by
        have h1 := (hTn.row H5.out.1.r0 (H5.out.1.ta.t.not H5.out.1.r0 (by decide))).cell 0 (slV p1 t.1.length) rfl; rw [HV1.out] at h1; exact h1
      have f0 := (hTn.row H5.out.1.r0 (H5.out.1.ta.t.not H5.out.1.r0 (by decide))).free 0; have HTN := Qc (And.intro hR hTn); have HV2 := Qc hv2; clear hR hTn hv2 k00 k2 k0; go_wp2_with (with_reducible refine Qw 34 rfl ?_); obtain ⟨z, hz⟩ : ∃ z, z = W.setCell ⟨b0, 0, none⟩ (.slice a2 rs.length c2) := ⟨_, rfl⟩
      have HZ : Hid (Tk w z b0 b1 s' p2 (rs, t.2) /\ Qb z b6 46 (rcF m)) := by
        rw [hz, <- HV2.out]; exact ⟨H5.out.1.store1 HTN.out.1 HTN.out.2 HNW.out, Qfk H5.out.2 H5.out.1.ta.t HTN.out.2 H5.out.1.r0 _⟩
      rw [<- hz]; clear hz HTN HV2 d0 f0 H5; have k0 := HZ.out.2.cell 0 (.int .i64 m.1.k) rfl; rw [<- HRK.out] at k0; refine Qf ?_; go_wp2; go_roundw
      case rel =>
        refine ⟨j + 1, by omega, by go_num, s', p2, ?_⟩; rw [HNX2.out]; exact Qc HZ.out.1
      case measure => simp [intOf] <;> omega
    · have hjl : j = ln := by omega
      have HE : Hid (Tk w wr b0 b1 p1 p2 (Qna (T, D) (msR ms))) := by
        have h1 := HJ.out; rw [show j = (msR ms).length by rw [Qeb, <- HLN.out]; omega, List.take_length] at h1; exact h1
      have i5 : ¬ (j : Int) < (ln : Int) := by omega
      clear HJ; obtain ⟨R, hR⟩ : ∃ R, R = Qna (T, D) (msR ms) := ⟨_, rfl⟩; rw [<- hR] at HE |-; obtain ⟨ra, hra⟩ : ∃ t, t = taA (slV p1 R.1.length) (slV p2 R.2.length) := ⟨_, rfl⟩; have hrz : (taA (.slice none 0 0) (.slice none 0 0)).size = ra.size := by rw [hra]; rfl
      have hri : (Try.prog.info? 28).map (·.size) = some ra.size := by rw [<- hrz]; exact Qae
      have hro : ra.all (·.oneCell') = true := by rw [hra]; simp [taA, slV, Value.oneCell']
      have HRA := Qc hra; have h0 := HE.out.r0; rw [<- hra] at h0; have H0 := Qc h0; have HRR := Qc hR; clear hra h0 hR; go_wp2_with (first | (refine Qd rfl 28 (.tmp 2) rfl b0 rfl ra H0.out _ Try.underlying28 rfl hri ?_) | (refine Qe rfl 28 (.tmp 4) (.tmp 47) rfl b1 (taA (.slice none 0 0) (.slice none 0 0)) ra rfl rfl HE.out.r1 hri hrz hro ?_; intro w5 hr5 hk5 hrow5; refine Qz ?_)); have hbl := hk5 w.heap.size w HE.out.ta.bel HE.out.lo.2.1
      have HF : Hid (Qb w5 b1 28 ra /\ TaAt w w5 p1 p2 R.1 R.2) := by
        refine ⟨hr5, HE.out.ta.t.keep (fun b hb => ?_), HE.out.ta.d.keep (fun b hb => ?_), HE.out.ta.n1, HE.out.ta.n2, hbl⟩
        · obtain ⟨cs, h2⟩ := HE.out.ta.t.kind hb; exact (hrow5 b _ _ (fun e => HE.out.ta.t.not HE.out.r1 (by decide) (by rw [<- e]; exact hb)) h2).trans h2.symm
        · obtain ⟨cs, h2⟩ := HE.out.ta.d.kind hb; exact (hrow5 b _ _ (fun e => HE.out.ta.d.not HE.out.r1 (by decide) (by rw [<- e]; exact hb)) h2).trans h2.symm
      clear hr5 hk5 hrow5 hbl HE H0; refine Qf ?_; go_wp2; exact bodyPost_ret (Qlc rfl _ _ b1 ra _ rfl HF.out.1 Try.underlying28 rfl hri) rfl ⟨p1, p2, by rw [HRA.out, HRR.out], by rw [<- HRR.out]; exact HF.out.2⟩
end
theorem RT.rows {w : World} {s : Sl} {l : List Tx} (h : RT w s l) : Qqd w (slV s l.length) l := by
  refine ⟨adr s.b, s.c, rfl, fun hl => ?_⟩
  have hget : ∀ i, i < l.length -> l[i]? = some (l.getD i Tx.zero) := fun i hi => by
    rw [List.getD_eq_getElem?_getD, List.getElem?_eq_getElem hi]; rfl
  obtain ⟨b, hb, hlt, _⟩ := h.at (hget 0 hl); refine ⟨b, 0, by rw [hb]; rfl, hlt, fun i hi => ?_⟩; obtain ⟨b', hb', _, hc⟩ := h.at (hget i hi); rw [hb] at hb'; injection hb' with hb'; subst hb'; intro j u hu
  have hj : j < 5 := by
    have h5 := (List.getElem?_eq_some_iff.1 hu).1; exact h5
  have h6 := hc j u hj hu; rw [Nat.zero_add]; exact h6
theorem RD.rows {w : World} {s : Sl} {l : List Di} (h : RD w s l) : Qcf w (slV s l.length) l := by
  refine ⟨adr s.b, s.c, rfl, fun hl => ?_⟩
  have hget : ∀ i, i < l.length -> l[i]? = some (l.getD i Di.zero) := fun i hi => by
    rw [List.getD_eq_getElem?_getD, List.getElem?_eq_getElem hi]; rfl
  obtain ⟨b, hb, hlt, _⟩ := h.at (hget 0 hl); refine ⟨b, 0, by rw [hb]; rfl, hlt, fun i hi => ?_⟩; obtain ⟨b', hb', _, hc⟩ := h.at (hget i hi); rw [hb] at hb'; injection hb' with hb'; subst hb'; intro j u hu
  have hj : j < 2 := by
    have h5 := (List.getElem?_eq_some_iff.1 hu).1; exact h5
  have h6 := hc j u hj hu; rw [Nat.zero_add]; exact h6
section
def toldRet {α : Type} (n : Nat) (Kp : World -> World -> Prop) (I Ix : List α -> World -> Prop) (pre : List α) (x : α) (W : World) : Exit -> Act -> World -> Prop
  | .normal, _, W' => KeepsFrom n W W' /\ Kp W W' /\ I (pre ++ [x]) W'
  | .ret, _, W' => KeepsFrom n W W' /\ Ix pre W'
  | _, _, _ => False
variable {F : Fence} {n : Nat} {P : Program}
theorem Qno {α : Type} {g : Operand} {ps : Array Tmp} {assign body : Code} {Q : Exit -> Act -> World -> Prop} {a : Act} {w : World} (hro : F.round = none) (h1 : 1 <= n)
    {gf : Nat} {lb : Array Value} (hg : a.eval g = .func (.func gf) #[] lb) (hFg : F.fn gf) (eg : ∀ args w, (callFunc gf args).run P w = .ok (.enter gf args) w)
    (encs : α -> Array Value) (hps : ∀ x, (encs x).size = ps.size)
    (G : List α -> α -> World -> Prop) (E : List α -> World -> Prop) (Kp : World -> World -> Prop) (I Ix : List α -> World -> Prop) (Ac : List α -> α -> Act -> World -> Prop)
    (kr : ∀ A B C, Kp A B -> Hush w.heap.size B C -> Kp A C) (kk : ∀ A B C, Kp A B -> Kp B C -> Kp A C)
    (ci : ∀ s A B, Hush w.heap.size A B -> I s A -> I s B) (cx : ∀ s A B, Hush w.heap.size A B -> Ix s A -> Ix s B) (ca : ∀ s x c A B, Hush w.heap.size A B -> Ac s x c A -> Ac s x c B)
    (hseq : ∀ (l : Nat) (J Jx : List α -> World -> Prop) (W : World), Below w.heap.size w W -> (∀ s A B, Below A.heap.size A B -> J s A -> J s B) ->
      (∀ pre x A, J pre A -> G pre x A -> YieldAt F (n - 1 - 1) P l (encs x) A fun e B => (e = .returned (.bool true) /\ J (pre ++ [x]) B /\ Kp A B) ∨ (e = .returned (.bool false) /\ Jx pre B)) -> J [] W ->
      CallsIn F (n - 1) P gf (#[.func (.yield l) #[] #[]] ++ lb) W fun e B => (∃ v, e = .returned v) /\ ((∃ xs, E xs B /\ J xs B) ∨ (∃ pre, Jx pre B)))
    (h0 : I [] w)
    (ce : ∀ s A B, Hush w.heap.size A B -> E s A -> E s B)
    (hassign : ∀ (l : Nat) (pre : List α) (x : α) (W : World) (K : Act -> World -> Prop), I pre W -> G pre x W -> (∀ c W', KeepsFrom w.heap.size W W' -> Kp W W' -> Ac pre x c W' -> K c W') ->
      assign.wpIn (F.inRound l) (n - 1 - 1) P (Exit.then K (fun _ _ _ => False)) { tmps := (ps.zip (encs x)).foldl (fun t (p, v) => t.setIfInBounds p v) a.tmps, defers := [] } W)
    (hbody : ∀ (l : Nat) (pre : List α) (x : α) (c : Act) (W : World), Ac pre x c W -> body.wpIn (F.inRound l) (n - 1 - 1) P (toldRet w.heap.size Kp I Ix pre x W) c W)
    (hdone : ∀ (D : Nat) (xs : List α) (W : World), w.heap.size <= D -> E xs W -> I xs W -> W.heap[D]? = some (.deferred (some [])) -> Q .normal { a with defers := { target := .collected D, args := #[] } :: a.defers } W)
    (hstop : ∀ (D : Nat) (pre : List α) (W : World), w.heap.size <= D -> Ix pre W -> W.heap[D]? = some (.deferred (some [])) -> (Code.ret).wpIn F n P Q { a with defers := { target := .collected D, args := #[] } :: a.defers } W) :
    (Code.rangeFunc g ps assign body).wpIn F n P Q a w := by
  refine wpIn_rangeFunc fun fn hfn => ?_
  rw [hro]; generalize hd : w.heap.size = d at *; let R : LoopState -> Option Code -> Obj := fun s p => .loop { state := s, pending := p, fn := fn, tmps := a.tmps, params := ps, assign := assign, body := body, defers := d }
  let Z : Obj := .deferred (some []); have sz1 : (w.alloc Z).heap.size = d + 1 := by rw [World.size_alloc, hd]
  have bel : Below d w ((w.alloc Z).alloc (R .ready none)) := by
    have h := ((Below.refl w.heap.size w).alloc (Nat.le_refl _) Z).alloc (by rw [sz1]; omega) (R .ready none); rwa [hd] at h
  have atL : ((w.alloc Z).alloc (R .ready none)).heap[d + 1]? = some (R .ready none) := by
    have h := World.alloc_heap_new (w.alloc Z) (R .ready none); rwa [sz1] at h
  have atD : ((w.alloc Z).alloc (R .ready none)).heap[d]? = some Z := by
    have h := World.alloc_heap_new w Z; rw [hd] at h; exact (Below.heap_alloc _ _ _ (by rw [sz1]; omega)).trans h
  have ent : (Instr.enterLoop fn a.tmps ps assign body none).run P w = .ok (d + 1, [{ target := .collected d, args := #[] }]) ((w.alloc Z).alloc (R .ready none)) := by
    have h := run_enterLoop_outer (P := P) (w := w) fn a.tmps ps assign body; rw [hd] at h; exact h
  have calm : Hush d w ((w.alloc Z).alloc (R .ready none)) := Hush.of_below (by rw [hd]; exact bel) (by omega)
  refine ⟨d + 1, _, (w.alloc Z).alloc (R .ready none), { target := .fn (.func gf) lb, args := #[.func (.yield (d + 1)) #[] #[]] }, (w.alloc Z).alloc (R .ready none), gf, #[.func (.yield (d + 1)) #[] #[]] ++ lb, (w.alloc Z).alloc (R .ready none), ent, ?_, ?_, ?_, fun _ => h1, ?_⟩
  · simp only [resolve, hg]; simp [go_sem]
  · intro f' hf'; simp [Target.leads] at hf'; subst hf'; exact hFg
  · simp [invoke, go_sem, eg]
  generalize (w.alloc Z).alloc (R .ready none) = W1 at *
  refine (hseq (d + 1) (fun s A => I s A /\ A.heap[d + 1]? = some (R .ready none) /\ A.heap[d]? = some Z) (fun s A => Ix s A /\ A.heap[d + 1]? = some (R .done (some .ret)) /\ A.heap[d]? = some Z) W1 bel ?_ ?_ ⟨ci _ _ _ calm h0, atL, atD⟩).mono ?_
  · rintro s A B hb ⟨hi, hl, hz⟩; have lt1 := (Array.getElem?_eq_some_iff.1 hl).1; exact ⟨ci _ _ _ (Hush.of_below hb (by omega)) hi, (hb.block _ lt1).trans hl, (hb.block _ (by omega)).trans hz⟩
  · rintro pre x A ⟨hi, hl, hz⟩ hgx; refine ⟨fn, _, assign, body, run_yield (P := P) (args := encs x) hl (hps x), roundIn_of_wpIn hfn (hassign _ pre x A _ hi hgx fun c A1 k1 q1 ha1 => ?_)⟩; have hl1 := k1.same _ _ (by omega) hl rfl; have hz1 := k1.same _ _ (Nat.le_refl _) hz rfl; refine ⟨_, run_beginRound hl1 rfl, ?_⟩; have c1 : Hush d A1 (A1.putObj (d + 1) (R .busy none)) := Hush.put _ (by omega) hl1 rfl; have hl2 : (A1.putObj (d + 1) (R .busy none)).heap[d + 1]? = some (R .busy none) := World.putObj_heap_same (Array.getElem?_eq_some_iff.1 hl1).1; have hz2 : (A1.putObj (d + 1) (R .busy none)).heap[d]? = some Z := (World.putObj_heap_other (by omega)).trans hz1; refine wpIn_mono (hbody (d + 1) pre x c _ (ca _ _ _ _ _ c1 ha1)) ?_; rintro e c3 A3 hp
    cases e with
    | normal =>
      obtain ⟨k3, q3, i3⟩ := hp; have hl3 := k3.same _ _ (by omega) hl2 rfl; have c3' : Hush d A3 (A3.putObj (d + 1) (R .ready none)) := Hush.put _ (by omega) hl3 rfl; refine ⟨_, _, run_endRound (P := P) none hl3, .inl ⟨rfl, ⟨ci _ _ _ c3' i3, World.putObj_heap_same (Array.getElem?_eq_some_iff.1 hl3).1, (World.putObj_heap_other (by omega)).trans (k3.same _ _ (Nat.le_refl _) hz2 rfl)⟩, ?_⟩⟩; exact kr _ _ _ (kk _ _ _ (kr _ _ _ q1 c1) q3) c3'
    | ret =>
      obtain ⟨k3, i3⟩ := hp; have hl3 := k3.same _ _ (by omega) hl2 rfl; have c3' : Hush d A3 (A3.putObj (d + 1) (R .done (some .ret))) := Hush.put _ (by omega) hl3 rfl; exact ⟨_, _, run_endRound (P := P) (some .ret) hl3, .inr ⟨rfl, cx _ _ _ c3' i3, World.putObj_heap_same (Array.getElem?_eq_some_iff.1 hl3).1, (World.putObj_heap_other (by omega)).trans (k3.same _ _ (Nat.le_refl _) hz2 rfl)⟩⟩
    | exit i => exact hp.elim
    | goto t => exact hp.elim
    | panic ch => exact hp.elim
    | outgrown => exact hp.elim
  · rintro e A ⟨⟨v, rfl⟩, (⟨xs, hE, hi, hl, hz⟩ | ⟨pre, hi, hl, hz⟩)⟩
    · have c3 : Hush d A (A.putObj (d + 1) (R .exhausted none)) := Hush.put _ (by omega) hl rfl; exact ⟨none, _, run_endLoop (P := P) hl (by simp), hdone d xs _ (Nat.le_refl _) (ce _ _ _ c3 hE) (ci _ _ _ c3 hi) ((World.putObj_heap_other (by omega)).trans hz)⟩
    · have c3 : Hush d A (A.putObj (d + 1) (R .exhausted (some .ret))) := Hush.put _ (by omega) hl rfl; exact ⟨some .ret, _, run_endLoop (P := P) hl (by simp), hstop d pre _ (Nat.le_refl _) (cx _ _ _ c3 hi) ((World.putObj_heap_other (by omega)).trans hz)⟩
end
section
open Go.RowKit Go.Shelf
attribute [local go_sem] Oper.semAt_some
section
variable {F : Fence} {n : Nat} {P : Program} {ops : Array Oper} {rest : List Oper} {o : Oper} {a : Act} {w : World} {Q : Exit -> Act -> World -> Prop}
theorem Qbl (hw : Region.wanted o (yielded ops a.tmps) = true) (t : TypeId) (x : Operand) (ho : o.op = .load t x) (u v : Value) (hu : a.eval x = u) (hv : (Instr.loadAt t u).run P w = .ok v w)
    (h : wpListIn F n P ops Q rest (a.put o.dst v) w) : wpListIn F n P ops Q (o :: rest) a w :=
  wpListIn_step fun K hK => by
    simp only [hw, if_true]; unfold Oper.wpIn
    refine ⟨?_, ?_⟩
    · simp [Oper.about, ho]
    · rw [Oper.semAt_plain F _ _ (by rw [ho]; intro c hc; cases hc)]; unfold execOp; simp only [ho, hu, Sem.run_bind, hv, Result.andThen_ok, Sem.run_pure]; exact hK _ _ h
end
def Qhx (ms : List (Rec × Value × Value)) (k : Nat) : Array Value := #[.int .i64 (k : Int), .agg (rcF (ms.getD k rcZ))]
set_option maxRecDepth 100000 in
theorem back16 (l n gb ln : Nat) (a : Option Addr) (cap : Nat) (ms : List (Rec × Value × Value)) (w : World) (hn : 1 <= n) (J Jx : List Nat -> World -> Prop) (hln : ln = ms.length)
    (hJ : ∀ s A B, Below A.heap.size A B -> J s A -> J s B)
    (hY : ∀ pre x A, J pre A -> x + 1 + pre.length = ln -> YieldAt Fence.wide (n - 1) Try.prog l (Qhx ms x) A fun e B => (e = .returned (.bool true) /\ J (pre ++ [x]) B /\ Below w.heap.size A B) ∨ (e = .returned (.bool false) /\ Jx pre B))
    (W : World) (hL : LogIn w (.slice a ln cap) ms) (hW : Below w.heap.size w W) (hbox : Qb w gb 22 #[.slice a ln cap]) (h0 : J [] W) :
    CallsIn Fence.wide n Try.prog 64 #[.func (.yield l) #[] #[], .pointer (some ⟨gb, 0, none⟩)] W fun e B => (∃ v, e = .returned v) /\ ((∃ xs, xs.length = ln /\ J xs B) ∨ (∃ pre, Jx pre B)) := by
  have HJ := Qc hJ; have HY := Qc hY; have HL := Qc hL; have HLN := Qc hln; have HBX := Qc hbox; have hfew := hL.few; rw [<- hln] at hfew; have HW := Qc hW; have hcb := (hbox.later hW).cell 0 (.slice a ln cap) rfl; clear hJ hY hL hW hbox hln; refine callsIn_of_wp Try.func64 rfl trivial ?_ rfl; simp only [Try.ntmps64, List.size_toArray, List.length_cons, List.length_nil, Nat.reduceAdd, Nat.reduceSub, Array.replicate_succ, Array.replicate_zero, List.push_toArray, List.append_toArray, List.nil_append, List.cons_append]; gi_wp2; gi_loopw [3] (fun i wr => ∃ (pre : List Nat) (j : Nat), i = .int .i64 ((j : Int) - 1) /\ Hid (j + pre.length = ln) /\ j <= ln /\ Hid (J pre wr /\ Below w.heap.size w wr)) (fun i _ => (intOf i + 1).toNat)
  case atStart => exact ⟨[], ln, rfl, rfl, Nat.le_refl _, h0, HW.out⟩
  case round =>
    obtain ⟨pre, j, rfl, HPJ, hj, HST⟩ := hrel; clear h0 hcb; have c0 := (HBX.out.later HST.out.2).cell 0 (.slice a ln cap) rfl
    cases j with
    | zero =>
      have i0 : ¬ (0 : Int) <= ((0 : Nat) : Int) - 1 := by omega
      gi_wp2; refine bodyPost_end (results_none rfl _ _ _) rfl ?_; exact ⟨⟨_, rfl⟩, .inl ⟨pre, by have := HPJ.out; omega, HST.out.1⟩⟩
    | succ j =>
      have hjm : j < ms.length := by rw [<- HLN.out]; omega
      obtain ⟨b, off, rfl, hf, _, hx⟩ := HL.out.mid hjm; obtain ⟨hrg, hin⟩ := hx _ HST.out.2; have HLD := Qc (Qug _ b (off + j * 14) (ms.getD j rcZ) hrg); clear hf hx hrg hin; have ej : (((j + 1 : Nat) : Int) - 1) = (j : Int) := by omega
      rw [ej]; have i0 : (0 : Int) <= (j : Int) := by omega
      have i1 : (j : Int) < (ln : Int) := by omega
      obtain ⟨fn, tmps, assign, body, hyd, hR⟩ := HY.out pre j _ HST.out.1 (by have := HPJ.out; omega); have HRR := Qc hR; have HJ2 := Qc hjm; clear hR hjm ej; dsimp only [Qhx] at hyd; generalize rcF (ms.getD j rcZ) = rc at *; gi_wp2_with (refine Qbl rfl 46 (.tmp 15) rfl _ _ rfl HLD.out ?_); refine HRR.out.mono ?_
      rintro e w3 (⟨rfl, hJ3, hk3⟩ | ⟨rfl, hJx3⟩)
      · have HS3 : Hid (J (pre ++ [j]) w3 /\ Below w.heap.size w w3) := ⟨hJ3, HST.out.2.trans hk3⟩; clear hJ3 hk3 HST HRR hyd HLD; gi_wp2; go_roundw
        case rel => exact ⟨_, j, rfl, by have := HPJ.out; rw [List.length_append, List.length_singleton]; show _ = _; omega, by omega, HS3⟩
        case measure => simp [intOf]
      · have HX3 := Qc hJx3; clear hJx3 HST HRR hyd HLD; gi_wp2; refine bodyPost_ret (results_none rfl _ _ _) rfl ?_; exact ⟨⟨_, rfl⟩, .inr ⟨pre, HX3.out⟩⟩
theorem nanU16 (x : Int) (w : World) : Calls Try.prog 65 #[.int .u64 x] w fun e w' => e = .returned (.bool false) /\ w = w' := by
  go_enter Try.func65, Try.ntmps65; go_wp2; go_ret; simp
theorem cmpU16 (x y : Int) (w : World) : Calls Try.prog 44 #[.int .u64 x, .int .u64 y] w fun e w' => e = .returned (.int .i64 (Qtl x y)) /\ w = w' := by
  have HN := Qc (fun z w => nanU16 z w); unfold Qtl
  by_cases h1 : x < y
  · rw [if_pos h1]; go_enter Try.func44, Try.ntmps44; go_wp2_with fail; refine (HN.out x w).mono ?_; rintro e w1 ⟨rfl, rfl⟩; go_wp2_with fail; refine (HN.out y w).mono ?_; rintro e w1 ⟨rfl, rfl⟩; go_wp2; go_ret; exact ⟨rfl, rfl⟩
  · rw [if_neg h1]
    by_cases h2 : y < x
    · rw [if_pos h2]; go_enter Try.func44, Try.ntmps44; go_wp2_with fail; refine (HN.out x w).mono ?_; rintro e w1 ⟨rfl, rfl⟩; go_wp2_with fail; refine (HN.out y w).mono ?_; rintro e w1 ⟨rfl, rfl⟩; go_wp2; go_ret; exact ⟨rfl, rfl⟩
    · rw [if_neg h2]; go_enter Try.func44, Try.ntmps44; go_wp2_with fail; refine (HN.out x w).mono ?_; rintro e w1 ⟨rfl, rfl⟩; go_wp2_with fail; refine (HN.out y w).mono ?_; rintro e w1 ⟨rfl, rfl⟩; go_wp2; go_ret; exact ⟨rfl, rfl⟩
end
theorem callf_ck1 : ∀ (args : Array Value) (x : World), Sem.run Try.prog (callFunc 43 args) x = Result.ok (Next.enter 43 args) x := by
  intro args x; go_simp
theorem ck1_16 (x : World) (gr gl h b off n c bg u : Nat) (hr : x.cell? ⟨gr, 11, none⟩ = some (.int .u64 (bg : Int))) (hl : x.cell? ⟨gl, 0, none⟩ = some (.slice (some ⟨b, off, none⟩) n c)) (hc : x.cell? ⟨b, off + h * 14 + 1, none⟩ = some (.int .u64 (u : Int))) (hh : h < n) (hn : n <= 100000) :
    Calls Try.prog 43 #[.int .i64 (h : Int), .pointer (some ⟨gr, 0, none⟩), .pointer (some ⟨gl, 0, none⟩)] x fun e w' => e = .returned (.int .i64 (Qtl (bg : Int) (u : Int))) /\ Below x.heap.size x w' := by
  have HC := Qc (fun w => cmpU16 (bg : Int) (u : Int) w); have HS := Qc (And.intro hr (And.intro hl hc)); have ih : (h : Int) < (n : Int) := by omega
  have ih0 : (0 : Int) <= (h : Int) := by omega
  clear hr hl hc; go_enter Try.func43, Try.ntmps43; go_wp2_with fail; refine wp_region_noPanic ?_; refine wp_region_held_drew (S := fun z => z.cell? ⟨gr, 11, none⟩ = some (.int .u64 (bg : Int)) /\ z.cell? ⟨gl, 0, none⟩ = some (.slice (some ⟨b, off, none⟩) n c) /\ z.cell? ⟨b, off + h * 14 + 1, none⟩ = some (.int .u64 (u : Int))) (by kernel_rfl) (HS.out) (fun hHeld => ?_); refine tkq 0 (some 5) (.pointer (some ⟨gr, 11, none⟩)) hHeld ?_; (try simp only [Act.put, List.setIfInBounds_toArray, List.set]); refine tkk 1 (some 6) (.int .u64 (bg : Int)) rfl rfl (by kernel_rfl) (by kernel_rfl) (fun x hSx => by have h1 := hSx.1; go_simp) hHeld ?_; (try simp only [Act.put, List.setIfInBounds_toArray, List.set]); refine tkk 2 (some 7) (.slice (some ⟨b, off, none⟩) n c) rfl rfl (by kernel_rfl) (by kernel_rfl) (fun x hSx => by have h1 := hSx.2.1; go_simp) hHeld ?_; (try simp only [Act.put, List.setIfInBounds_toArray, List.set]); refine tkq 3 (some 8) (.int .i64 (h : Int)) hHeld ?_; (try simp only [Act.put, List.setIfInBounds_toArray, List.set]); refine tkq 4 (some 9) (.pointer (some ⟨b, off + h * 14, none⟩)) hHeld ?_; (try simp only [Act.put, List.setIfInBounds_toArray, List.set]); refine tkq 5 (some 10) (.pointer (some ⟨b, off + h * 14 + 1, none⟩)) hHeld ?_; (try simp only [Act.put, List.setIfInBounds_toArray, List.set]); refine tkk 6 (some 11) (.int .u64 (u : Int)) rfl rfl (by kernel_rfl) (by kernel_rfl) (fun x hSx => by have h1 := hSx.2.2; go_simp) hHeld ?_; (try simp only [Act.put, List.setIfInBounds_toArray, List.set]); refine Qh 7 (by kernel_rfl) ?_; refine Qca (some 12) rfl rfl rfl 44 #[.int .u64 (bg : Int), .int .u64 (u : Int)] ?he ((HC.out _).mono ?_); (case he => go_simp); rintro e w1 ⟨rfl, rfl⟩; refine ⟨_, rfl, hHeld, ?_⟩; (try simp only [Act.put, List.setIfInBounds_toArray, List.set]); refine tkq 8 (some 4) (.int .i64 (Qtl (bg : Int) (u : Int))) hHeld ?_; (try simp only [Act.put, List.setIfInBounds_toArray, List.set]); refine wpAnyH_done (by kernel_rfl) ?_ _; refine NoPanic.normal ?_; clear hHeld; go_wp2; go_ret; exact ⟨rfl, Qt (Below.refl _ _) 1⟩
set_option linter.unusedVariables false
set_option linter.unusedVariables false
set_option linter.unusedVariables false
set_option linter.unusedVariables false
set_option linter.unusedVariables false
set_option linter.unusedVariables false
set_option linter.unusedVariables false
set_option linter.unusedVariables false
set_option linter.unusedVariables false
set_option linter.unusedVariables false
set_option linter.unusedVariables false
set_option linter.unusedVariables false
set_option linter.unusedVariables false
set_option linter.unusedVariables false
set_option linter.unusedVariables false
set_option linter.unusedVariables false
theorem Qrd : ∀ (l : List Rec) (a : Nat), Qmb a l -> ∀ p q, p < q -> q < l.length -> (l.getD p Rec.zero).l < (l.getD q Rec.zero).l
  | [], _, _, _, _, _, h => absurd h (by simp)
  | r :: rs, a, h, 0, q + 1, _, hq => by
    have hm : rs.getD q Rec.zero ∈ rs := Qua _ _ _ (by simpa using hq); have := (Qle rs r.l h.2.2 _ hm).1; simpa [List.getD] using this
  | r :: rs, a, h, p + 1, q + 1, hpq, hq => by
    have := Qrd rs r.l h.2.2 p q (by omega) (by simpa using hq); simpa [List.getD] using this
  | r :: rs, a, h, p, 0, hpq, _ => absurd hpq (by omega)
def Qjy (rs : List Rec) (b : Nat) : Option Nat := rs.findIdx? fun r => decide (r.l = b) && decide (r.k = 7)
def ckL (rs : List Rec) : Nat -> Option (Nat × Nat)
  | 0 => none
  | n + 1 => if (rs.getD n Rec.zero).k = 8 then (match Qjy rs (rs.getD n Rec.zero).b with | some i => some (n, i) | none => ckL rs n) else ckL rs n
theorem begL_some {rs : List Rec} (h : Qmb 0 rs) {i : Nat} (hi : i < rs.length) {b : Nat} (hb : (rs.getD i Rec.zero).l = b) (hk : (rs.getD i Rec.zero).k = 7) : Qjy rs b = some i := by
  unfold Qjy; rw [List.findIdx?_eq_some_iff_getElem]; have e : rs[i] = rs.getD i Rec.zero := by rw [List.getD_eq_getElem?_getD, List.getElem?_eq_getElem hi]; rfl
  refine ⟨hi, by rw [e, hb, hk]; simp, fun j hj => ?_⟩; have e2 : rs[j] = rs.getD j Rec.zero := by rw [List.getD_eq_getElem?_getD, List.getElem?_eq_getElem (by omega)]; rfl
  have := Qrd rs 0 h j i hj hi; rw [e2]; generalize rs.getD j Rec.zero = z at *; have hne : ¬ z.l = b := by omega
  simp [hne]
theorem Qss {rs : List Rec} {b : Nat} (h : ∀ i, i < rs.length -> (rs.getD i Rec.zero).l = b -> (rs.getD i Rec.zero).k ≠ 7) : Qjy rs b = none := by
  unfold Qjy; rw [List.findIdx?_eq_none_iff]; intro r hr; obtain ⟨i, hi, rfl⟩ := List.getElem_of_mem hr; have e : rs[i] = rs.getD i Rec.zero := by rw [List.getD_eq_getElem?_getD, List.getElem?_eq_getElem hi]; rfl
  have := h i hi; rw [<- e] at this
  by_cases hl : rs[i].l = b
  · simp [this hl]
  · simp [hl]
theorem begL_is {rs : List Rec} {b i : Nat} (h : Qjy rs b = some i) : i < rs.length /\ (rs.getD i Rec.zero).l = b /\ (rs.getD i Rec.zero).k = 7 := by
  unfold Qjy at h; rw [List.findIdx?_eq_some_iff_getElem] at h; obtain ⟨hi, h1, _⟩ := h; have e : rs[i] = rs.getD i Rec.zero := by rw [List.getD_eq_getElem?_getD, List.getElem?_eq_getElem hi]; rfl
  rw [e] at h1; simp at h1; exact ⟨hi, h1⟩
theorem sf_beg {rs : List Rec} (h : Qmb 0 rs) {b i : Nat} {q : Bool} (hs : Sf (fun k => Qtl (b : Int) ((rs.getD k Rec.zero).l : Int)) rs.length i q) :
    (q = true /\ i < rs.length /\ (rs.getD i Rec.zero).k = 7 -> Qjy rs b = some i) /\ (q = true -> i < rs.length /\ ((rs.getD i Rec.zero).k ≠ 7 -> Qjy rs b = none)) /\ (q = false -> Qjy rs b = none) := by
  have hz : q = true -> i < rs.length /\ (rs.getD i Rec.zero).l = b := fun hq => by
    obtain ⟨h1, h2⟩ := hs.yes hq; rw [Qkg] at h2; exact ⟨h1, by omega⟩
  refine ⟨fun ⟨hq, hi, hk⟩ => begL_some h hi (hz hq).2 hk, fun hq => ⟨(hz hq).1, fun hk => Qss fun j hj hl => ?_⟩, fun hq => Qss fun j hj hl => ?_⟩
  · obtain ⟨h1, h2⟩ := hz hq
    rcases Nat.lt_trichotomy j i with h3 | rfl | h3
    · have := Qrd rs 0 h j i h3 h1; omega
    · exact hk
    · have := Qrd rs 0 h i j h3 hj; omega
  · exfalso
    rcases Nat.lt_or_ge j i with h3 | h3
    · have h4 := hs.low j h3; rw [Qkf] at h4; omega
    · have h4 := hs.no hq (by omega); have h5 := hs.high i (Nat.le_refl _) (by omega); have h6 : ¬ ((b : Int) = ((rs.getD i Rec.zero).l : Int)) := fun e => h4 ((Qkg _ _).2 e)
      have h7 : ¬ (((rs.getD i Rec.zero).l : Int) < (b : Int)) := fun e => by
        have := (Qkf (b : Int) ((rs.getD i Rec.zero).l : Int)).2 e; omega
      rcases Nat.lt_or_ge i j with h8 | h8
      · have := Qrd rs 0 h i j h8 hj; omega
      · have : j = i := by omega
        subst this; omega
theorem sf_less {rs : List Rec} (h : Qmb 0 rs) (b : Nat) : ∀ p q, p < q -> q < rs.length -> 0 < Qtl (b : Int) ((rs.getD q Rec.zero).l : Int) -> 0 < Qtl (b : Int) ((rs.getD p Rec.zero).l : Int) := by
  intro p q hpq hq hc; rw [Qkf] at hc |-; have := Qrd rs 0 h p q hpq hq; omega
theorem ckL_is {rs : List Rec} : ∀ {n : Nat} {j i : Nat}, ckL rs n = some (j, i) -> j < n /\ (rs.getD j Rec.zero).k = 8 /\ Qjy rs (rs.getD j Rec.zero).b = some i
  | 0, j, i, h => by cases h
  | n + 1, j, i, h => by
    unfold ckL at h
    split at h
    · rename_i hk
      split at h
      · rename_i i' hb; cases h; exact ⟨by omega, hk, hb⟩
      · have := ckL_is h; exact ⟨by omega, this.2⟩
    · have := ckL_is h; exact ⟨by omega, this.2⟩
theorem Qsp {x : World} {b o : Nat} {m : Rec × Value × Value} (h : x.rangeAt b o (rcF m).toList) : x.cell? ⟨b, o + 1, none⟩ = some (.int .u64 (m.1.l : Int)) /\ x.cell? ⟨b, o + 2, none⟩ = some (.int .i64 m.1.t) := ⟨h 1 _ rfl, h 2 _ rfl⟩
theorem rlast15 (v : Value) (ms : List (Rec × Value × Value)) (t : Int) (w : World) (h : LogIn w v ms) :
    Calls Try.prog 27 #[v, .int .i64 t] w fun e w' => e = .returned (.int .u64 (Qeg (msR ms) t : Int)) /\ Below w.heap.size w w' := by
  have HA := Qc h; obtain ⟨aa, ca, rfl, hlc⟩ := h.slice; have hl := h.few; clear h; obtain ⟨ln, hln⟩ : ∃ ln, ln = ms.length := ⟨_, rfl⟩; rw [<- hln] at HA hl hlc |-; have HN := Qc hln; clear hln; go_enter Try.func27, Try.ntmps27; go_wp2; go_loopw [5, 9] (fun v i wr => ∃ (j ll : Nat), j <= ln /\ i = .int .i64 (j : Int) /\ v = .int .u64 (ll : Int) /\ Hid (ll = Qeg ((msR ms).take j) t) /\ Hid (Below w.heap.size w wr)) (fun _ i _ => ln - (intOf i).toNat)
  case atStart => exact ⟨0, 0, Nat.zero_le _, rfl, rfl, by rw [List.take_zero]; rfl, Below.refl _ _⟩
  case round =>
    obtain ⟨j, ll, hj, rfl, rfl, HLL, HBR⟩ := hrel
    by_cases hlt : j < ln
    · have hjm : j < ms.length := by rw [<- HN.out]; exact hlt
      have HS := Qc (Qvd hjm); obtain ⟨b, off, rfl, hf, _, hx⟩ := HA.out.mid hjm; obtain ⟨m, hm⟩ : ∃ m, m = ms.getD j rcZ := ⟨_, rfl⟩; rw [<- hm] at hf hx HS; clear hm; have ij : (j : Int) < (ln : Int) := by omega
      obtain ⟨c1, c2⟩ := Qsp (hx wr HBR.out).1; clear hf hx
      by_cases ht : 1 <= t
      · by_cases hm : m.1.t = t
        · go_wp2; go_roundw
          case rel =>
            refine ⟨j + 1, m.1.l, by omega, by go_num, rfl, ?_, HBR⟩; rw [HS.out, Qoc, if_pos ⟨ht, hm⟩]; exact rfl
          case measure => simp [intOf]; omega
        · go_wp2; go_roundw
          case rel =>
            refine ⟨j + 1, ll, by omega, by go_num, rfl, ?_, HBR⟩; rw [HS.out, Qoc, if_neg (fun x => hm x.2)]; exact HLL.out
          case measure => simp [intOf]; omega
      · go_wp2; go_roundw
        case rel =>
          refine ⟨j + 1, ll, by omega, by go_num, rfl, ?_, HBR⟩; rw [HS.out, Qoc, if_neg (fun x => ht x.1)]; exact HLL.out
        case measure => simp [intOf]; omega
    · obtain rfl : j = ln := by omega
      go_wp2; go_ret; refine ⟨?_, HBR.out⟩; have h1 := HLL.out; rw [HN.out, <- Qeb, List.take_length] at h1; rw [h1]; rfl
section
def Qmn : Op -> Bool
  | .move _ | .assign _ | .load _ _ | .store _ _ _ | .build _ _ | .binOp _ _ _ _ _ | .slice _ _ _ _ _ | .fieldAddr _ _ _ => true
  | _ => false
section
variable {F : Fence} {n : Nat} {P : Program} {ops : Array Oper} {Q : Exit -> Act -> World -> Prop}
theorem Qxj {o : Oper} (h : Qmn o.op = true) (w : World) (ρ : Operand -> Value) : o.about P w ρ = none := by
  unfold Oper.about; cases ho : o.op <;> first | rfl | (rw [ho] at h; cases h)
theorem Qps {o : Oper} (h : Qmn o.op = true) {a : Act} {w : World} {K : Act -> World -> Prop} (hu : o.upon P a K Q ((execOp a.eval o).run P w)) : o.uponIn F n P a K Q ((execOp a.eval o).run P w) := by
  have key : ∀ x w', (execOp a.eval o).run P w = .ok x w' -> (∃ v, x = .value v) ∨ x = .skip := by
    intro x w' hx; unfold execOp at hx; cases ho : o.op <;> rw [ho] at h hx <;> first | (cases h; done) | skip
    all_goals simp only [Sem.run_bind, Sem.run_pure] at hx
    all_goals first
      | (injection hx with h1 h2; exact .inl ⟨_, h1.symm⟩)
      | (unfold Result.andThen at hx
         split at hx
         · first
             | (injection hx with h1 h2; exact .inl ⟨_, h1.symm⟩)
             | (injection hx with h1 h2; exact .inr h1.symm)
         · cases hx)
  generalize hr : (execOp a.eval o).run P w = r at *
  cases r with
  | ok x w' =>
    rcases key x w' rfl with ⟨v, rfl⟩ | rfl
    · exact hu
    · exact hu
  | halt x w' => cases x <;> exact hu
theorem Qto {i : Nat} (hp : ∀ o, ops[i]? = some o -> Qmn o.op = true) (hL : ¬ LetsOut Q) {K : Act -> World -> Prop} {a : Act} {w : World} (h : wpOp P ops Q i K a w) : wpOpIn F n P ops Q i K a w := by
  unfold wpOp at h; unfold wpOpIn
  cases ho : ops[i]? with
  | none => rw [ho] at h; exact h
  | some o =>
    rw [ho] at h; have hpo := hp o ho; simp only at h |-
    split
    · rename_i hw; rw [if_pos hw] at h
      rcases h with h | h
      · refine ⟨fun f hf => ?_, ?_⟩
        · rw [Qxj hpo] at hf; cases hf
        · rw [Oper.semAt_plain F _ _ (fun c hc => by rw [hc] at hpo; cases hpo)]; exact Qps hpo h
      · exact absurd h.2 hL
    · rename_i hw; rw [if_neg hw] at h; exact ⟨fun f hf => (by rw [Qxj hpo] at hf; cases hf), h⟩
theorem Qvh {md : Region.Mode} (hp : ∀ (i : Nat) o, ops[i]? = some o -> Qmn o.op = true) (hL : ¬ LetsOut Q) : ∀ (fuel : Nat) (listed : Array Bool) (a : Act) (w : World), wpAny P md ops Q fuel listed a w -> wpAnyIn F n P md ops Q fuel listed a w
  | 0, _, _, _, h => h
  | fuel + 1, listed, a, w, h => ⟨h.1, fun i hi => wpOpIn_mono (fun a' w' h' => Qvh hp hL fuel _ a' w' h') (Qto (hp i) hL (h.2 i hi))⟩
theorem Qso {i : Nat} {K : Act -> World -> Prop} {a : Act} {w : World} (h : wpOp P ops (NoPanic Q) i K a w) : wpOp P ops Q i K a w := by
  unfold wpOp at h |-
  cases ho : ops[i]? with
  | none => rw [ho] at h; exact h
  | some o =>
    rw [ho] at h; simp only at h |-
    split
    · rename_i hw; rw [if_pos hw] at h
      rcases h with h | ⟨h1, h2⟩
      · left; unfold Oper.wp at h |-; generalize (execOp a.eval o).run P w = r at *
        cases r with
        | ok x w' =>
          cases x
          all_goals try exact h
          · refine Calls.mono h fun e w'' he => ?_
            cases e with
            | returned v => exact he
            | panicked c => exact (he : False).elim
            | outgrown => exact he
        | halt x w' =>
          cases x; all_goals try exact h
          exact (h : False).elim
      · exact .inr ⟨h1, h2⟩
    · rename_i hw; rw [if_neg hw] at h; exact h
theorem Qkh {md : Region.Mode} : ∀ (fuel : Nat) (listed : Array Bool) (a : Act) (w : World), wpAny P md ops (NoPanic Q) fuel listed a w -> wpAny P md ops Q fuel listed a w
  | 0, _, _, _, h => h
  | fuel + 1, listed, a, w, h => ⟨h.1, fun i hi => wpOp_mono (fun a' w' h' => Qkh fuel _ a' w' h') (Qso (h.2 i hi))⟩
theorem Qzv {i : Nat} {o : Oper} {K : Act -> World -> Prop} {a : Act} {w : World} (ho : ops[i]? = some o) (hd : o.dst = none) (hg : o.guard = none) (w' : World) (he : (execOp a.eval o).run P w = .ok .skip w') (h : K a w') : wpOp P ops Q i K a w := by
  refine wpOp_step ho (fun K' hK => ?_); have hw : Region.wanted o (yielded ops a.tmps) = true := by simp [Region.wanted, hg]
  rw [if_pos hw]; unfold Oper.wp; rw [he, Oper.upon_skip, hd]; exact hK _ _ h
theorem Qul {id : Nat} {a : Act} {w : World} (S : World -> Prop) (hm : P.follows .mixedOrders = true) (hp : ops.all (fun o => Qmn o.op) = true) (hL : ¬ LetsOut Q) (hS : S w.drew)
    (h : S w.drew -> wpAnyH P .any ops (NoPanic Q) S ops.size (Array.replicate ops.size false) a w.drew) : (Code.region id ops true).wpIn F n P Q a w := by
  refine wpIn_region_any hm ?_
  refine Qvh (fun i o ho => ?_) hL _ _ _ _ ?_
  · rw [Array.all_eq_true] at hp; obtain ⟨hi, rfl⟩ := Array.getElem?_eq_some_iff.1 ho; exact hp i hi
  · have h1 := wpAny_of_held _ _ _ _ (h hS); exact Qkh _ _ _ _ h1
end
end
section
open Go.RowKit Go.Shelf
attribute [local go_sem] Oper.semAt_some
theorem Qfaa (a : Option Addr) (len cap : Nat) (w : World) :
    Calls Try.prog 41 #[.slice a len cap] w fun e w' => e = .returned (.func (.func 64) #[] #[.pointer (some ⟨w.heap.size, 0, none⟩)]) /\ w' = w.alloc (.cells #[.slice a len cap] 22) := by
  go_enter Try.func41, Try.ntmps41; go_wp2; go_ret; exact ⟨rfl, rfl⟩
theorem Qpc {n : Nat} {A B : World} (h : Hush n A B) {k : Nat} {t : TypeId} {cs : Array Value} (hr : Qb A k t cs) : Qb B k t cs := h.cells k cs t (0, 0) hr
theorem Qxe {n k : Nat} {w A B : World} (h : Hush n A B) (hk : k <= n) (hb : Below k w A) : Below k w B := ⟨h.os.trans hb.os, h.tape.trans hb.tape, h.output.trans hb.output, Nat.le_trans hb.size h.size, fun i hi => (h.low i (by omega)).trans (hb.block i hi)⟩
theorem Qwaa {fn : Func} {p q : Tmp} {t u : TypeId} (h : fn.results = #[.cell p t, .cell q u]) (tmps : Array Value) (P : Program) (w : World) :
    (results fn tmps).run P w =
      ((asAddr (tmps.getD p undef)).run P w).andThen fun a w₁ => ((loadVar t a).run P w₁).andThen fun v w₂ => ((asAddr (tmps.getD q undef)).run P w₂).andThen fun b w₃ => ((loadVar u b).run P w₃).andThen fun u w₄ => .ok (.tuple #[v, u]) w₄ := by
  simp only [results, h]; simp [Sem.run_bind, Result.andThen]
theorem res_c2 {P : Program} {fn : Func} {p q : Tmp} {t u : TypeId} (h : fn.results = #[.cell p t, .cell q u]) (tmps : Array Value) (w : World) (g k : Nat) (cs : Array Value) (v : Value) (d : TypeDesc) (hp : tmps.getD p undef = .pointer (some ⟨g, 0, none⟩)) (hq : tmps.getD q undef = .pointer (some ⟨k, 0, none⟩)) (hg : Qb w g t cs)
    (hk : (loadVar u ⟨k, 0, none⟩).run P w = .ok v w)
    (hu : P.underlying t = some d) (hd : (match d with | .struct _ | .array _ _ => true | _ => false) = true) (hi : (P.info? t).map (·.size) = some cs.size) :
    (results fn tmps).run P w = .ok (.tuple #[.agg cs, v]) w := by
  have h1 := run_loadVar_row (P := P) w g t t cs (0, 0) d hg hu hd hi; rw [Qwaa h, hp, hq]; simp only [asAddr, Sem.run_pure, Result.andThen_ok, h1, hk]
structure CkI (n0 : Nat) (w : World) (av : Option Addr) (ln cv : Nat) (rs : List Rec) (pre : List Nat) (W : World) : Prop where
  box : Qb W n0 22 #[.slice av ln cv]
  tab : Qb W (n0 + 1) 28 #[.slice none 0 0, .slice none 0 0]
  rest : Qb W (n0 + 1 + 1) 22 #[.slice none 0 0]
  bel : Below n0 w W
  part : ckL rs (ln - pre.length) = ckL rs ln
  size : n0 + 1 + 1 + 1 < W.heap.size
theorem CkI.hush {n0 n : Nat} {w : World} {av : Option Addr} {ln cv : Nat} {rs : List Rec} {pre : List Nat} {A B : World} (h : CkI n0 w av ln cv rs pre A) (hn : n0 <= n) (hc : Hush n A B) : CkI n0 w av ln cv rs pre B :=
  ⟨Qpc hc h.box, Qpc hc h.tab, Qpc hc h.rest, Qxe hc hn h.bel, h.part, Nat.lt_of_lt_of_le h.size hc.size⟩
def CkX (n0 : Nat) (w : World) (av : Option Addr) (ln cv : Nat) (ms : List (Rec × Value × Value)) (W : World) : Prop :=
  ∃ j i b off, ckL (msR ms) ln = some (j, i) /\ av = some ⟨b, off, none⟩ /\ Qb W (n0 + 1) 28 #[(ms.getD j rcZ).2.1, (ms.getD j rcZ).2.2] /\ Qb W (n0 + 1 + 1) 22 #[.slice (some ⟨b, off + (i + 1) * 14, none⟩) (ln - (i + 1)) (cv - (i + 1))] /\ Below n0 w W
def CkAns (w : World) (v : Value) (ms : List (Rec × Value × Value)) (e : Ending) (w' : World) : Prop :=
  Below w.heap.size w w' /\ ((ckL (msR ms) ms.length = none /\ e = .returned (.tuple #[.agg #[.slice none 0 0, .slice none 0 0], v])) ∨
    ∃ j i b off c, ckL (msR ms) ms.length = some (j, i) /\ v = .slice (some ⟨b, off, none⟩) ms.length c /\ e = .returned (.tuple #[.agg #[(ms.getD j rcZ).2.1, (ms.getD j rcZ).2.2], .slice (some ⟨b, off + (i + 1) * 14, none⟩) (ms.length - (i + 1)) (c - (i + 1))]))
theorem Qou {x : World} {k : Nat} {cs : Array Value} (hr : Qb x k 22 cs) {a : Option Addr} {l c : Nat} (h : cs = #[.slice a l c]) : (loadVar 22 ⟨k, 0, none⟩).run Try.prog x = .ok (.slice a l c) x := by
  subst h; have h1 := hr.cell 0 _ rfl; go_simp
def actC (n0 : Nat) (av : Option Addr) (ln cv g x : Nat) (rc : Array Value) : Act :=
  { tmps := #[.slice av ln cv, .pointer (some ⟨n0, 0, none⟩), .pointer (some ⟨n0 + 1, 0, none⟩), .pointer (some ⟨n0 + 1 + 1, 0, none⟩), undef, .pointer (some ⟨g, 0, none⟩), undef, undef, .slice av ln cv, .func (.func 64) #[] #[.pointer (some ⟨n0 + 1 + 1 + 1, 0, none⟩)], .int .i64 (x : Int), .agg rc, undef, undef, undef, undef, undef, undef, undef, undef, undef, undef, undef, undef, undef, undef, undef, undef, undef, undef, undef, undef, undef, undef, undef, undef, undef, undef, undef, undef, undef, undef], defers := [] }
def AcC (nn n0 : Nat) (w : World) (av : Option Addr) (ln cv : Nat) (ms : List (Rec × Value × Value)) (pre : List Nat) (x : Nat) (c : Act) (W : World) : Prop :=
  ∃ g, c = actC n0 av ln cv g x (rcF (ms.getD x rcZ)) /\ Qb W g 46 (rcF (ms.getD x rcZ)) /\ CkI n0 w av ln cv (msR ms) pre W /\ x + 1 + pre.length = ln /\ nn <= W.heap.size
set_option maxRecDepth 100000 in
theorem ck16 (w : World) (v : Value) (ms : List (Rec × Value × Value)) (hl : LogIn w v ms) (hr : Qmb 0 (msR ms)) :
    Calls Try.prog 30 #[v] w (CkAns w v ms) := by
  have HL := Qc hl; have HR := Qc hr; obtain ⟨av, cv, rfl, hcap⟩ := hl.slice; have hfew := hl.few; obtain ⟨ln, hln⟩ : ∃ k, k = ms.length := ⟨_, rfl⟩; rw [<- hln] at HL hfew hcap |-; have HLN := Qc hln; clear hl hr hln; refine (callsIn_wide (n := 3)).1 ?_; refine callsIn_of_wp_marks Try.func30 rfl trivial ?_ rfl; simp only [Try.ntmps30, List.size_toArray, List.length_cons, List.length_nil, Nat.reduceAdd, Nat.reduceSub, Array.replicate_succ, Array.replicate_zero, List.push_toArray, List.append_toArray, List.nil_append, List.cons_append]; gi_wp2_with fail; refine ⟨trivial, (callsIn_wide.2 (Qfaa _ ln cv _)).mono ?_⟩; rintro e w4 ⟨rfl, hw4⟩; have K3 := Qx.three w 22 28 22 #[.slice av ln cv] #[.slice none 0 0, .slice none 0 0] #[.slice none 0 0]; have z3 : (((w.alloc (.cells #[.slice av ln cv] 22)).alloc (.cells #[.slice none 0 0, .slice none 0 0] 28)).alloc (.cells #[.slice none 0 0] 22)).heap.size = w.heap.size + 1 + 1 + 1 := by simp
  rw [z3]; have K4 := K3.more ((Below.refl _ _).alloc (Nat.le_refl _) (.cells #[.slice av ln cv] 22)) (Qb.new _ 22 #[.slice av ln cv]); rw [z3, <- hw4] at K4; have HZ4 : Hid (w4.heap.size = w.heap.size + 1 + 1 + 1 + 1) := by rw [hw4, World.size_alloc, z3]; exact rfl
  have HK4 := Qc K4; clear K3 K4 z3 hw4; obtain ⟨n0, hn0⟩ : ∃ n0, n0 = w.heap.size := ⟨_, rfl⟩; rw [<- hn0] at HK4 HZ4; rw [<- hn0]; have HN0 := Qc hn0; clear hn0; gi_wp2
  have hz4 : n0 <= w4.heap.size := by
    rw [HZ4.out]; omega
  have HL4 : Hid (LogIn w4 (.slice av ln cv) ms) := HL.out.below HK4.out.2
  refine Qno (α := Nat) rfl (by decide) (gf := 64) (lb := #[.pointer (some ⟨n0 + 1 + 1 + 1, 0, none⟩)]) rfl trivial (enters_of Try.func64 (by kernel_rfl) rfl)
    (Qhx ms) (fun _ => rfl) (fun pre x W => x + 1 + pre.length = ln) (fun xs W => xs.length = ln) (Below w4.heap.size) (CkI n0 w av ln cv (msR ms))
    (fun pre W => CkX n0 w av ln cv ms W) (AcC w4.heap.size n0 w av ln cv ms)
    (fun A B C h hc => Qxe hc (Nat.le_refl _) h) (fun A B C h k => h.trans k)
    (fun s A B hc h => h.hush hz4 hc) (fun s A B hc h => ?cx)
    (fun s x c A B hc h => ?ca)
    (fun l J Jx W hb hJ hY h0 => back16 l 2 (n0 + 1 + 1 + 1) ln av cv ms w4 (by decide) J Jx HLN.out hJ hY W HL4.out hb (HK4.out.1.1) h0)
    ⟨HK4.out.1.2.2.2.1, HK4.out.1.2.2.1, HK4.out.1.2.1, by rw [HN0.out]; exact HK4.out.2, rfl, by rw [HZ4.out]; omega⟩ (fun _ _ _ _ h => h) ?assign ?body ?done ?stop
  case cx =>
    obtain ⟨j, i, b, off, h1, h2, h3, h4, h5⟩ := h; exact ⟨j, i, b, off, h1, h2, Qpc hc h3, Qpc hc h4, Qxe hc hz4 h5⟩
  case ca =>
    obtain ⟨g, h1, h2, h3, h4, h5⟩ := h; exact ⟨g, h1, Qpc hc h2, h3.hush hz4 hc, h4, Nat.le_trans h5 hc.size⟩
  case assign =>
    rintro l pre x W K hi hg hK; have HI := Qc hi; have HG := Qc hg; have HKK := Qc hK; have HW : Hid (x < ms.length) := by rw [<- HLN.out]; unfold Hid; omega
    have HZW : Hid (w4.heap.size <= W.heap.size) := by
      have h1 := hi.size; rw [HZ4.out]; exact h1
    clear hi hg hK
    have h1c : (rcF (ms.getD x rcZ)).all (·.oneCell') = true := by
      obtain ⟨b, off, _, _, _, hx⟩ := HL.out.mid HW.out; exact Qzz (hx w (Below.refl _ _)).2
    obtain ⟨A, hA⟩ : ∃ A, A = rcF (ms.getD x rcZ) := ⟨_, rfl⟩; have hsz : A.size = 14 := by rw [hA]; rfl
    unfold Qhx; rw [<- hA] at h1c |-; have HA := Qc hA; have HSZ := Qc hsz; have H1C := Qc h1c; clear hA hsz h1c; gi_wp2_with (refine Qcl rfl 46 (.tmp 5) (.tmp 11) rfl W.heap.size Qya A rfl rfl (Qb.new W 46 Qya) (by rw [HSZ.out]; exact Qia) (by rw [HSZ.out]; rfl) H1C.out ?_); intro w2 hr2 hg2; have hb2 : Below W.heap.size W w2 := ((Below.refl W.heap.size W).alloc (Nat.le_refl _) (.cells Qya 46)).grown hg2 (by simp) (fun k hk => by cases hk; exact Nat.le_refl _); have HC := Qc (Hush.of_below (n := n0) hb2 (by have := HI.out.box.lt; omega)); gi_wp2
    refine HKK.out _ w2 ⟨hb2.size, fun k o _ hk _ => (hb2.block k (Array.getElem?_eq_some_iff.1 hk).1).trans hk⟩ (hb2.mono ?_) ⟨W.heap.size, ?_, ?_, HI.out.hush (Nat.le_refl _) HC.out, HG.out, Nat.le_trans HZW.out hb2.size⟩
    · exact HZW.out
    · unfold actC; rw [HA.out]
    · rw [<- HA.out]; exact hr2
  case body =>
    rintro l pre x c W ⟨g, rfl, hg, hi, hx, hzw⟩; have HZW := Qc hzw; clear hzw; have HI := Qc hi; have HX := Qc hx; have HGR := Qc hg; have HXM : Hid (x < ms.length) := by rw [<- HLN.out]; unfold Hid; omega
    have HCK : Hid (ckL (msR ms) (x + 1) = ckL (msR ms) ln) := by
      have e : x + 1 = ln - pre.length := by omega
      rw [e]; exact hi.part
    have hm : ∃ m, m = ms.getD x rcZ := ⟨_, rfl⟩; obtain ⟨m, hm⟩ := hm; rw [<- hm] at hg HGR |-; have hmr : m.1 = (msR ms).getD x Rec.zero := by rw [hm, Qcj]
    have HM := Qc (And.intro hm hmr); have hb := hi.box.cell 0 _ rfl; have hc0 := hg.cell 0 (.int .i64 m.1.k) rfl; clear hi hx hg hm hmr; obtain ⟨rc, hrc⟩ : ∃ rc, rc = rcF m := ⟨_, rfl⟩; rw [<- hrc] at HGR |-; have HRC := Qc hrc; clear hrc; unfold actC; dsimp only
    have HNX : Hid (m.1.k ≠ 8 ∨ Qjy (msR ms) m.1.b = none -> ckL (msR ms) (ln - (pre ++ [x]).length) = ckL (msR ms) ln) := fun h => by
      rw [List.length_append, List.length_singleton]; have e : ln - (pre.length + 1) = x := by have := HX.out; omega
      rw [e, <- HCK.out]; show _ = if ((msR ms).getD x Rec.zero).k = 8 then _ else _
      rw [<- HM.out.2]
      rcases h with h | h
      · rw [if_neg h]
      · by_cases h8 : m.1.k = 8
        · rw [if_pos h8]; rw [h]
        · rw [if_neg h8]
    by_cases h8 : m.1.k = 8
    · have HK8 := Qc h8; rw [h8] at hc0; clear h8; have HWB : Hid (Below w.heap.size w W) := by have h := HI.out.bel; rwa [HN0.out] at h
      have HF := Qc (Qev 43 g n0 ln (fun k => Qtl (m.1.b : Int) (((msR ms).getD k Rec.zero).l : Int)) W (fun y h hy hh => by
        obtain ⟨b, off, rfl, hf, hm9, hx9⟩ := HL.out.mid (i := h) (by rw [<- HLN.out]; exact hh); have hrg := (hx9 y (HWB.out.trans (hy.mono HWB.out.size))).1; have hb9 := (Qsp hrg).1; rw [hm9] at hb9
        exact ck1_16 y g n0 h b off ln cv m.1.b ((msR ms).getD h Rec.zero).l ((HGR.out.later hy).cell 11 _ (by rw [HRC.out]; rfl)) ((HI.out.box.later hy).cell 0 _ rfl) hb9 hh (by omega)) callf_ck1 (by rw [HLN.out, <- Qeb]; exact sf_less HR.out m.1.b) (by omega))
      gi_wp2_with fail; refine ⟨trivial, (CallsIn.inRound l (callsIn_wide.2 HF.out)).mono ?_⟩; rintro e w1 ⟨i, q, rfl, hsf, hb1⟩; have HSF := Qc (by rw [HLN.out, <- Qeb] at hsf; exact sf_beg HR.out hsf); have HB1 := Qc hb1; have HI1 := Qc (CkI.mk (HI.out.box.later hb1) (HI.out.tab.later hb1) (HI.out.rest.later hb1) (HI.out.bel.trans (hb1.mono (by rw [HN0.out]; exact HWB.out.size))) HI.out.part (Nat.lt_of_lt_of_le HI.out.size hb1.size)); have HG1 := Qc (HGR.out.later hb1); have HWB1 := Qc (HWB.out.trans (hb1.mono HWB.out.size)); have HKF : Hid (KeepsFrom w4.heap.size W w1) := ⟨hb1.size, fun k o _ hk _ => (hb1.block k (Array.getElem?_eq_some_iff.1 hk).1).trans hk⟩; have HKB : Hid (Below w4.heap.size W w1) := hb1.mono HZW.out; clear hsf hb1 hb hc0 HF HI HGR HWB
      cases q with
      | false =>
        have hbl := HI1.out.box.cell 0 _ rfl; gi_wp2; exact ⟨HKF.out, HKB.out, HI1.out.box, HI1.out.tab, HI1.out.rest, HI1.out.bel, HNX.out (.inr (HSF.out.2.2 (by trivial))), HI1.out.size⟩
      | true =>
        obtain ⟨hi9, hno⟩ := HSF.out.2.1 rfl; have HNO := Qc hno; have HI9 := Qc hi9; obtain ⟨b, off, rfl, hf, hm9, hx9⟩ := HL.out.mid (i := i) (by rw [<- Qeb]; exact hi9); have hrg := (hx9 w1 HWB1.out).1; have hk9 := hrg 0 _ rfl; rw [Nat.add_zero, hm9] at hk9; have hbl := HI1.out.box.cell 0 _ rfl; have j0 : (0 : Int) <= (i : Int) := by omega
        have j1 : (i : Int) < (ln : Int) := by
          have h := hi9; rw [Qeb, <- HLN.out] at h; omega
        clear hno hi9 hf hm9 hx9 hrg
        by_cases h7 : ((msR ms).getD i Rec.zero).k = 7
        · have HB7 := Qc (HSF.out.1 ⟨rfl, HI9.out, h7⟩); rw [h7] at hk9; clear h7
          obtain ⟨⟨a1, c1, e1⟩, a2, c2, e2⟩ : (∃ a c, m.2.1 = .slice a m.1.ts.length c) /\ ∃ a c, m.2.2 = .slice a m.1.ds.length c := by
            obtain ⟨_, _, _, _, _, hx9⟩ := HL.out.mid HXM.out; have h := Qxl (hx9 w (Below.refl _ _)).2; rw [<- HM.out.1] at h; exact h
          have hc2 := HG1.out.cell 12 (.slice a1 m.1.ts.length c1) (by rw [HRC.out, <- e1]; rfl); have hc3 := HG1.out.cell 13 (.slice a2 m.1.ds.length c2) (by rw [HRC.out, <- e2]; rfl)
          have hix : i < x := by
            obtain ⟨h1, h2, h3⟩ := begL_is HB7.out; have hmem : m.1 ∈ msR ms := by rw [HM.out.1]; exact msR_mem HXM.out
            have h4 := ((Qka _ 0 HR.out _ hmem).check HK8.out).2.2.2.2.2
            rcases Nat.lt_or_ge i x with h5 | h5
            · exact h5
            · exfalso
              rcases Nat.lt_or_ge x i with h6 | h6
              · have h7 := Qrd _ 0 HR.out x i h6 h1; rw [<- HM.out.2] at h7; omega
              · obtain rfl : i = x := by omega
                rw [<- HM.out.2] at h2; omega
          have j2 : (i : Int) + 1 < (ln : Int) := by
            have := HX.out; omega
          have j3 : (i : Int) + 1 <= (ln : Int) := by omega
          have j4 : (0 : Int) <= (i : Int) + 1 := by omega
          have j5 : ((i : Int) + 1).toNat = i + 1 := by omega
          have j6 : IntKind.i64.wrap ((i : Int) + 1) = (i : Int) + 1 := IntWalk.i64_in _ (by omega); have hcap2 : ln <= cv := hcap; have d2 := HI1.out.tab.cell 0 _ rfl; have d3 := HI1.out.tab.cell 1 _ rfl; have d4 := HI1.out.rest.cell 0 _ rfl; have f2 := HI1.out.tab.free 0; have f3 := HI1.out.tab.free 1; have f4 := HI1.out.rest.free 0
          have n1 : ¬ g = n0 + 1 := fun e => by
            subst e; have := (show w1.heap[_]? = _ from HG1.out).symm.trans HI1.out.tab; simp only [Option.some.injEq, Obj.cells.injEq] at this; exact absurd this.2.1 (by decide)
          have n2 : ¬ g = n0 + 1 + 1 := fun e => by
            subst e; have := (show w1.heap[_]? = _ from HG1.out).symm.trans HI1.out.rest; simp only [Option.some.injEq, Obj.cells.injEq] at this; exact absurd this.2.1 (by decide)
          have HIX := Qc hix; have HE := Qc (And.intro e1 e2); clear hix e1 e2; have HS := Qc (And.intro hc2 (And.intro hc3 hbl)); have HT2 := Qc HI1.out.tab; have HT3 := Qc HI1.out.rest; have HIT := Qc (And.intro j3 (And.intro j4 (And.intro j5 j6))); clear hc2 hc3 d2 d3 d4 f2 f3 f4 j3 j4 j5 j6; gi_wp2; refine Qul (fun z => z.cell? ⟨g, 12, none⟩ = some (.slice a1 m.1.ts.length c1) /\ z.cell? ⟨g, 13, none⟩ = some (.slice a2 m.1.ds.length c2) /\ z.cell? ⟨n0, 0, none⟩ = some (.slice (some ⟨b, off, none⟩) ln cv)) (by kernel_rfl) (by kernel_rfl) ?hL HS.out (fun hHeld => ?_); (case hL => rintro ⟨a, w, h⟩; exact h); refine tkq 0 (some 31) (.pointer (some ⟨g, 12, none⟩)) hHeld ?_; (try simp only [Act.put, List.setIfInBounds_toArray, List.set]); refine tkk 1 (some 32) (.slice a1 m.1.ts.length c1) rfl rfl (by kernel_rfl) (by kernel_rfl) (fun x hSx => by have h1 := hSx.1; go_simp) hHeld ?_; (try simp only [Act.put, List.setIfInBounds_toArray, List.set]); refine tkq 2 (some 33) (.pointer (some ⟨g, 13, none⟩)) hHeld ?_; (try simp only [Act.put, List.setIfInBounds_toArray, List.set]); refine tkk 3 (some 34) (.slice a2 m.1.ds.length c2) rfl rfl (by kernel_rfl) (by kernel_rfl) (fun x hSx => by have h1 := hSx.2.1; go_simp) hHeld ?_; (try simp only [Act.put, List.setIfInBounds_toArray, List.set]); refine tkq 4 (some 35) (.agg #[.slice a1 m.1.ts.length c1, .slice a2 m.1.ds.length c2]) hHeld ?_; (try simp only [Act.put, List.setIfInBounds_toArray, List.set]); refine tkk 5 (some 36) (.slice (some ⟨b, off, none⟩) ln cv) rfl rfl (by kernel_rfl) (by kernel_rfl) (fun x hSx => by have h1 := hSx.2.2; go_simp) hHeld ?_; (try simp only [Act.put, List.setIfInBounds_toArray, List.set]); refine tkq 6 (some 37) (.int .i64 (i : Int)) hHeld ?_; (try simp only [Act.put, List.setIfInBounds_toArray, List.set]); refine tkk 7 (some 38) (.int .i64 ((i : Int) + 1)) rfl rfl (by kernel_rfl) (by kernel_rfl) (fun x hSx => by have h6 := HIT.out.2.2.2; go_simp) hHeld ?_; (try simp only [Act.put, List.setIfInBounds_toArray, List.set]); have hq1 : ((i : Int) + 1).toNat = i + 1 := HIT.out.2.2.1; have hq2 : ¬ cv = i + 1 := by omega
          refine tkk 8 (some 39) (.slice (some ⟨b, off + (i + 1) * 14, none⟩) (ln - (i + 1)) (cv - (i + 1))) rfl rfl (by kernel_rfl) (by kernel_rfl) (fun x hSx => by have h1 := HIT.out.1; have h2 := HIT.out.2.1; go_simp) hHeld ?_; (try simp only [Act.put, List.setIfInBounds_toArray, List.set]); refine Qh 9 (by kernel_rfl) ?_; refine Qba rfl rfl rfl 28 (.tmp 2) (.tmp 35) rfl (n0 + 1) 0 28 #[.slice none 0 0, .slice none 0 0] #[.slice a1 m.1.ts.length c1, .slice a2 m.1.ds.length c2] rfl rfl HT2.out Qae (Nat.le_refl 2) (by simp [Value.oneCell']) (fun w2 hr2 ho2 => ?_); rw [Qu #[.slice none 0 0, .slice none 0 0] #[.slice a1 m.1.ts.length c1, .slice a2 m.1.ds.length c2] rfl] at hr2; have hd1 : Qb w2 g 46 rc := ho2.row (show Qb w1.drew g 46 rc from HG1.out) n1; have hbx : Qb w2 n0 22 #[.slice (some ⟨b, off, none⟩) ln cv] := ho2.row (show Qb w1.drew n0 _ _ from HI1.out.box) (by omega); have ht3 : Qb w2 (n0 + 1 + 1) 22 #[.slice none 0 0] := ho2.row (show Qb w1.drew (n0 + 1 + 1) _ _ from HT3.out) (by omega); refine ⟨⟨hd1.cell 12 _ (by rw [HRC.out, <- HE.out.1]; rfl), hd1.cell 13 _ (by rw [HRC.out, <- HE.out.2]; rfl), hbx.cell 0 _ rfl⟩, ?_⟩; (try simp only [Act.put, List.setIfInBounds_toArray, List.set]); refine Qh 10 (by kernel_rfl) ?_; have e3 := ht3.cell 0 _ rfl; have f3 := ht3.free 0; refine Qzv rfl rfl rfl (w2.setCell ⟨n0 + 1 + 1, 0, none⟩ (.slice (some ⟨b, off + (i + 1) * 14, none⟩) (ln - (i + 1)) (cv - (i + 1)))) ?hs ?_; (case hs => go_simp); have hd4 : Qb (w2.setCell ⟨n0 + 1 + 1, 0, none⟩ (.slice (some ⟨b, off + (i + 1) * 14, none⟩) (ln - (i + 1)) (cv - (i + 1)))) g 46 rc := hd1.other _ _ n2; have hb4 : Qb (w2.setCell ⟨n0 + 1 + 1, 0, none⟩ (.slice (some ⟨b, off + (i + 1) * 14, none⟩) (ln - (i + 1)) (cv - (i + 1)))) n0 22 #[.slice (some ⟨b, off, none⟩) ln cv] := hbx.other _ _ (by show n0 ≠ n0 + 1 + 1; omega); have hr4 : Qb (w2.setCell ⟨n0 + 1 + 1, 0, none⟩ (.slice (some ⟨b, off + (i + 1) * 14, none⟩) (ln - (i + 1)) (cv - (i + 1)))) (n0 + 1) 28 #[.slice a1 m.1.ts.length c1, .slice a2 m.1.ds.length c2] := hr2.other _ _ (by show n0 + 1 ≠ n0 + 1 + 1; omega); have ht4 : Qb (w2.setCell ⟨n0 + 1 + 1, 0, none⟩ (.slice (some ⟨b, off + (i + 1) * 14, none⟩) (ln - (i + 1)) (cv - (i + 1)))) (n0 + 1 + 1) 22 #[.slice (some ⟨b, off + (i + 1) * 14, none⟩) (ln - (i + 1)) (cv - (i + 1))] := ht3.set 0 _
          have hkf : KeepsFrom w4.heap.size W (w2.setCell ⟨n0 + 1 + 1, 0, none⟩ (.slice (some ⟨b, off + (i + 1) * 14, none⟩) (ln - (i + 1)) (cv - (i + 1)))) := by
            refine ⟨?_, fun k o hk ho hc => ?_⟩
            · have h1 := HKF.out.1; have h2 := ho2.size; have h3 : w1.drew.heap.size = w1.heap.size := rfl; rw [World.size_setCell]; omega
            · have h4 := HZ4.out; exact (heap_setCell_other _ _ k _ (by show k ≠ n0 + 1 + 1; omega)).trans ((ho2.block k (by omega)).trans (HKF.out.2 k o hk ho hc))
          have hbl4 : Below n0 w (w2.setCell ⟨n0 + 1 + 1, 0, none⟩ (.slice (some ⟨b, off + (i + 1) * 14, none⟩) (ln - (i + 1)) (cv - (i + 1)))) := (ho2.below (Qp HI1.out.bel) (by omega)).setCell (by show n0 <= n0 + 1 + 1; omega) _; refine ⟨⟨hd4.cell 12 _ (by rw [HRC.out, <- HE.out.1]; rfl), hd4.cell 13 _ (by rw [HRC.out, <- HE.out.2]; rfl), hb4.cell 0 _ rfl⟩, ?_⟩; (try simp only [Act.put, List.setIfInBounds_toArray, List.set]); refine wpAnyH_done (by kernel_rfl) ?_ _; refine NoPanic.normal ?_
          have HFIN : Hid (CkX n0 w (some ⟨b, off, none⟩) ln cv ms (w2.setCell ⟨n0 + 1 + 1, 0, none⟩ (.slice (some ⟨b, off + (i + 1) * 14, none⟩) (ln - (i + 1)) (cv - (i + 1))))) := by
            refine ⟨x, i, b, off, ?_, rfl, ?_, ht4, hbl4⟩
            · rw [<- HCK.out]; show (if ((msR ms).getD x Rec.zero).k = 8 then _ else _) = _; rw [<- HM.out.2, if_pos HK8.out, HB7.out]
            · rw [<- HM.out.1, HE.out.1, HE.out.2]; exact hr4
          have HKF4 := Qc hkf; clear hHeld hkf hbl4 ht4 hr4 hb4 hd4 e3 f3 ht3 hbx hd1 hr2; gi_wp2; exact ⟨HKF4.out, HFIN.out⟩
        · have HN7 := Qc (HNO.out h7); generalize ((msR ms).getD i Rec.zero).k = z at *; have k0 : (z == 7) = false := by rw [beq_eq_false_iff_ne]; exact h7
          gi_wp2; exact ⟨HKF.out, HKB.out, HI1.out.box, HI1.out.tab, HI1.out.rest, HI1.out.bel, HNX.out (.inr HN7.out), HI1.out.size⟩
    · gi_wp2; exact ⟨KeepsFrom.refl _ _, Below.refl _ _, HI.out.box, HI.out.tab, HI.out.rest, HI.out.bel, HNX.out (.inl h8), HI.out.size⟩
  case done =>
    rintro D xs W hD he hi hK; have c1 := hi.box.cell 0 _ rfl; have HI := Qc hi; have HE := Qc he; have HKK := Qc hK; have HDD := Qc hD; have c2 := hi.tab.cell 0 _ rfl; have c3 := hi.tab.cell 1 _ rfl; have c4 := hi.rest.cell 0 _ rfl; have f2 := hi.tab.free 0; have f3 := hi.tab.free 1; have f4 := hi.rest.free 0; clear hi he hK hD; have hY : ∃ Y, Y = (((W.setCell ⟨n0 + 1, 0, none⟩ (.slice none 0 0)).setCell ⟨n0 + 1, 1, none⟩ (.slice none 0 0)).setCell ⟨n0 + 1 + 1, 0, none⟩ (.slice av ln cv)).drew := ⟨_, rfl⟩; obtain ⟨Y, hY⟩ := hY
    have HT : Hid (Qb Y (n0 + 1) 28 #[.slice none 0 0, .slice none 0 0]) := by
      rw [hY]; exact ((HI.out.tab.set 0 (.slice none 0 0)).set 1 (.slice none 0 0)).other ⟨n0 + 1 + 1, 0, none⟩ (.slice av ln cv) (by show n0 + 1 ≠ n0 + 1 + 1; omega)
    have HS : Hid (Qb Y (n0 + 1 + 1) 22 #[.slice av ln cv]) := by
      rw [hY]; exact ((HI.out.rest.other ⟨n0 + 1, 0, none⟩ (.slice none 0 0) (by show n0 + 1 + 1 ≠ n0 + 1; omega)).other ⟨n0 + 1, 1, none⟩ (.slice none 0 0) (by show n0 + 1 + 1 ≠ n0 + 1; omega)).set 0 (.slice av ln cv)
    have HD9 : Hid (Y.heap[D]? = some (.deferred (some []))) := by
      have h1 := HDD.out; have h2 := HZ4.out; rw [hY]; exact (heap_setCell_other _ ⟨n0 + 1 + 1, 0, none⟩ D _ (by show D ≠ n0 + 1 + 1; omega)).trans ((heap_setCell_other _ ⟨n0 + 1, 1, none⟩ D _ (by show D ≠ n0 + 1; omega)).trans ((heap_setCell_other _ ⟨n0 + 1, 0, none⟩ D _ (by show D ≠ n0 + 1; omega)).trans HKK.out))
    have HB : Hid (Below n0 w Y) := by
      rw [hY]; exact Qp (((HI.out.bel.setCell (p := ⟨n0 + 1, 0, none⟩) (by show n0 <= n0 + 1; omega) _).setCell (p := ⟨n0 + 1, 1, none⟩) (by show n0 <= n0 + 1; omega) _).setCell (p := ⟨n0 + 1 + 1, 0, none⟩) (by show n0 <= n0 + 1 + 1; omega) _)
    have HY := Qc hY
    have HCK : Hid (ckL (msR ms) ln = none) := by
      have h := HI.out.part; rw [HE.out, Nat.sub_self] at h; exact h.symm
    clear hY; gi_wp2; gi_region; gi_wp2; rw [<- HY.out]; refine ⟨by simp, .inl ⟨_, _, rfl, run_takeDeferred HD9.out, ?_⟩⟩; have hp := Hush.put (n := n0) (.deferred none) (Nat.le_trans hz4 HDD.out) HD9.out rfl; refine ⟨_, res_c2 rfl _ _ (n0 + 1) (n0 + 1 + 1) _ _ _ rfl rfl (Qpc hp HT.out) (Qou (Qpc hp HS.out) rfl) Try.underlying28 rfl Qae, ?_⟩; refine ⟨HN0.out ▸ Qxe hp (Nat.le_refl _) HB.out, .inl ⟨?_, rfl⟩⟩; rw [<- HLN.out]; exact HCK.out
  case stop =>
    rintro D pre W hD ⟨j, i, b, off, hck, rfl, ht, hs, hb⟩ hK; have HKK := Qc hK; have HDD := Qc hD; have HT := Qc ht; have HS := Qc hs; have HB := Qc hb; have HCK := Qc hck; clear ht hs hb hD hck hK; gi_wp2; refine ⟨by simp, .inl ⟨_, _, rfl, run_takeDeferred HKK.out, ?_⟩⟩; have hp := Hush.put (n := n0) (.deferred none) (Nat.le_trans hz4 HDD.out) HKK.out rfl; refine ⟨_, res_c2 rfl _ _ (n0 + 1) (n0 + 1 + 1) _ _ _ rfl rfl (Qpc hp HT.out) (Qou (Qpc hp HS.out) rfl) Try.underlying28 rfl Qae, ?_⟩
    refine ⟨HN0.out ▸ Qxe hp (Nat.le_refl _) HB.out, .inr ⟨j, i, b, off, cv, ?_, ?_, ?_⟩⟩
    · rw [<- HLN.out]; exact HCK.out
    · rw [<- HLN.out]
    · rw [<- HLN.out]
end
def ofT (rs : List Rec) : Ta × List Rec :=
  match ckL rs rs.length with
  | none => (([], []), rs)
  | some (j, i) => (((rs.getD j Rec.zero).ts, (rs.getD j Rec.zero).ds), rs.drop (i + 1))
def ofA (rs : List Rec) : Ta := Qna (ofT rs).1 (ofT rs).2
theorem Qdp (l : List Tx) (h : ∀ i, i < l.length -> 0 < i -> (l.getD (i - 1) Tx.zero).t < (l.getD i Tx.zero).t) : Qmi l := by
  intro p q hpq
  induction q with
  | zero => omega
  | succ q ih =>
    intro hq; have h1 := h (q + 1) hq (by omega); rw [Nat.add_sub_cancel] at h1
    rcases Nat.lt_or_ge p q with h2 | h2
    · have := ih h2 (by omega); omega
    · obtain rfl : p = q := by omega
      exact h1
theorem Qyo (l : List Di) (h : ∀ i, i < l.length -> 0 < i -> (l.getD (i - 1) Di.zero).p < (l.getD i Di.zero).p) : SrtD l := by
  intro p q hpq
  induction q with
  | zero => omega
  | succ q ih =>
    intro hq; have h1 := h (q + 1) hq (by omega); rw [Nat.add_sub_cancel] at h1
    rcases Nat.lt_or_ge p q with h2 | h2
    · have := ih h2 (by omega); omega
    · obtain rfl : p = q := by omega
      exact h1
theorem rows_ok {r : Rec} (h : r.right) : TaOk (r.ts, r.ds) 1000 := by
  by_cases h8 : r.k = 8
  · obtain ⟨h1, h2, h3, h4, _⟩ := h.check h8; exact ⟨Qdp _ fun i hi hp => (h3 i hi).2 hp, Qyo _ fun i hi hp => (h4 i hi).2 hp, by show r.ts.length <= _; omega, by show r.ds.length <= _; omega⟩
  · obtain ⟨_, h1, h2⟩ := h.nocheck h8; rw [h1, h2]; exact ⟨fun p q _ hq => (nomatch hq), fun p q _ hq => (nomatch hq), Nat.zero_le _, Nat.zero_le _⟩
theorem none_ok16 : TaOk (([], []) : Ta) 1000 := ⟨fun p q _ hq => (nomatch hq), fun p q _ hq => (nomatch hq), Nat.zero_le _, Nat.zero_le _⟩
theorem rs_rest16 {w : World} {b off len c : Nat} {ms : List (Rec × Value × Value)} (h : RsIn w (.slice (some ⟨b, off, none⟩) len c) ms) {k : Nat} (hk : k <= ms.length) (c' : Nat) : RsIn w (.slice (some ⟨b, off + k * 14, none⟩) (ms.length - k) c') (ms.drop k) := by
  obtain ⟨⟨a', cap', h1, h2⟩, h3⟩ := h; injection h1 with e1 e2 e3; subst e1; have hl : (ms.drop k).length = ms.length - k := by rw [List.length_drop]
  refine ⟨⟨_, c', by rw [hl], fun hp => ?_⟩, fun m hm => h3 m (List.mem_of_mem_drop hm)⟩; rw [hl] at hp |-; obtain ⟨b', off', e, hb, hr⟩ := h2 (by omega); injection e with e; injection e with e4 e5 e6; subst e4; subst e5; refine ⟨b, off + k * 14, rfl, hb, fun i hi => ?_⟩; rw [List.getD_eq_getElem?_getD, List.getElem?_drop, <- List.getD_eq_getElem?_getD]; have h9 := hr (k + i) (by omega); rw [show off + (k + i) * 14 = off + k * 14 + i * 14 by omega] at h9; exact h9
def CkG (w : World) (rs : List Rec) (e : Ending) (w' : World) : Prop :=
  ∃ vT vD u ms', e = .returned (.tuple #[.agg (taA vT vD), u]) /\ Qqd w' vT (ofT rs).1.1 /\ Qcf w' vD (ofT rs).1.2 /\ LogIn w' u ms' /\ msR ms' = (ofT rs).2 /\ TaOk (ofT rs).1 1000 /\ Below w.heap.size w w'
theorem ckg16 (w : World) (v : Value) (ms : List (Rec × Value × Value)) (hl : LogIn w v ms) (hr : Qmb 0 (msR ms)) :
    Calls Try.prog 30 #[v] w (CkG w (msR ms)) := by
  refine (ck16 w v ms hl hr).mono ?_
  rintro e w' ⟨hb, ⟨hn, rfl⟩ | ⟨j, i, b, off, c, hck, rfl, rfl⟩⟩
  · have e1 : ofT (msR ms) = (([], []), msR ms) := by
      unfold ofT; rw [Qeb, hn]
    refine ⟨.slice none 0 0, .slice none 0 0, v, ms, rfl, ?_, ?_, hl.below hb, by rw [e1], by rw [e1]; exact none_ok16, hb⟩
    · rw [e1]; exact ⟨none, 0, rfl, fun h => absurd h (by simp)⟩
    · rw [e1]; exact ⟨none, 0, rfl, fun h => absurd h (by simp)⟩
  · obtain ⟨h1, h2, h3⟩ := ckL_is hck; obtain ⟨h4, h5, h6⟩ := begL_is h3; rw [Qeb] at h4
    have e1 : ofT (msR ms) = ((((msR ms).getD j Rec.zero).ts, ((msR ms).getD j Rec.zero).ds), (msR ms).drop (i + 1)) := by
      unfold ofT; rw [Qeb, hck]
    have hL := hl.below hb; have hm := (hL.rs.2 _ (Qua ms j rcZ h1)).2; rw [<- Qcj] at hm; have hcap := hl.cap _ _ _ rfl
    refine ⟨_, _, _, ms.drop (i + 1), rfl, by rw [e1]; exact hm.1, by rw [e1]; exact hm.2, ⟨rs_rest16 hL.rs (by omega) _, ?_, ?_⟩, ?_, ?_, hb⟩
    · rw [List.length_drop]; have := hl.few; omega
    · intro a l c' he; injection he with q1 q2 q3; subst q2 q3; omega
    · rw [e1]; show msR (ms.drop (i + 1)) = (msR ms).drop (i + 1); simp [msR, List.map_drop]
    · rw [e1]; exact rows_ok (Qka _ 0 hr _ (Qua _ _ _ (by rw [Qeb]; exact h1)))
theorem good15 (v : Value) (ms : List (Rec × Value × Value)) (w : World) (h : LogIn w v ms) :
    Calls Try.prog 29 #[v] w fun e w' => e = .returned (.bool (Qjg 0 (msR ms))) /\ Below w.heap.size w w' := by
  obtain ⟨q, hq⟩ : ∃ q, q = Qjg 0 (msR ms) := ⟨_, rfl⟩; have HQ : Hid (q = true ↔ Qmb 0 (msR ms)) := by rw [hq]; exact Qra _ _
  rw [<- hq]; clear hq; have HA := Qc h; obtain ⟨aa, ca, rfl, hlc⟩ := h.slice; have hl := h.few; clear h; obtain ⟨ln, hln⟩ : ∃ ln, ln = ms.length := ⟨_, rfl⟩; rw [<- hln] at HA hl hlc |-; have HN := Qc hln; clear hln; have ft : (4 : Int) = 4 := rfl; go_enter Try.func29, Try.ntmps29; go_wp2; go_loopw [3, 8] (fun v i wr => ∃ (j ll : Nat), j <= ln /\ i = .int .i64 (j : Int) /\ v = .int .u64 (ll : Int) /\ ll < 18446744073709551616 /\ Hid (ll = Qwb 0 ((msR ms).take j)) /\ Hid (Qmb 0 ((msR ms).take j)) /\ Hid (Below w.heap.size w wr)) (fun _ i _ => ln - (intOf i).toNat)
  case atStart => exact ⟨0, 0, Nat.zero_le _, rfl, rfl, by decide, by rw [List.take_zero]; rfl, by rw [List.take_zero]; trivial, Below.refl _ _⟩
  case round =>
    obtain ⟨j, ll, hj, rfl, rfl, hll, HLL, HRI, HBR⟩ := hrel
    by_cases hlt : j < ln
    · have hjm : j < ms.length := by rw [<- HN.out]; exact hlt
      have HS := Qc (Qvd hjm); obtain ⟨b, off, rfl, hf, _, hx⟩ := HA.out.mid hjm; obtain ⟨m, hm⟩ : ∃ m, m = ms.getD j rcZ := ⟨_, rfl⟩; rw [<- hm] at hf hx HS; clear hm; have ij : (j : Int) < (ln : Int) := by omega
      obtain ⟨hr0, hin⟩ := hx wr HBR.out; have HLD := Qc (Qug wr b (off + j * 14) m hr0); have hb1 : Below wr.heap.size wr (wr.alloc (.cells Qya 46)) := (Below.refl _ _).alloc (Nat.le_refl _) _; have HZ := Qc (And.intro (Qb.new wr 46 Qya) hb1); have hall := Qzz hin; have HFX := Qc (And.intro hf hx); clear hr0 hf hx hb1 hin; go_wp2_with (first | (refine Qo rfl 46 (.tmp 10) rfl _ _ rfl HLD.out ?_) | (refine Qe rfl 46 (.tmp 5) (.tmp 11) rfl wr.heap.size Qya (rcF m) rfl rfl HZ.out.1 Qia rfl hall ?_; intro w2 hr2 hk2 hrow2; refine Qz ?_)); have hb2 := hk2 _ _ HZ.out.2 (Nat.le_refl _); have hbw := HBR.out.trans (hb2.mono HBR.out.size); have c1 := hr2.cell 1 (.int .u64 (m.1.l : Int)) rfl; have H2 := Qc (And.intro hr2 hbw); clear hr2 hk2 hrow2 hb2 HLD HZ; refine Qf ?_
      by_cases hle : m.1.l <= ll
      · have ile : (m.1.l : Int) <= (ll : Int) := by omega
        go_wp2; go_ret; refine ⟨?_, H2.out.2⟩; congr 2
        cases hq : q
        · rfl
        · exfalso; have h1 := Qkj _ (j + 1) (HQ.out.1 hq); rw [HS.out, Qld, <- HLL.out] at h1; omega
      · have ile : ¬ (m.1.l : Int) <= (ll : Int) := by omega
        have HR := Qc (Qmq m.1 m.2.1 m.2.2 w2 HFX.out.1 ((HFX.out.2 w2 hbw).2)); clear hbw
        by_cases hr : m.1.right
        · rw [Qdi hr] at HR; have hrl : m.1.l < 18446744073709551616 := by have := hr.lm; unfold Qve at this; omega
          go_wp2_with (refine Qd rfl 46 (.tmp 5) rfl wr.heap.size rfl (rcF m) H2.out.1 _ Try.underlying46 rfl Qia ?_); refine HR.out.mono ?_; rintro e w3 ⟨rfl, hb3⟩; have k1 := (H2.out.1.later hb3).cell 1 (.int .u64 (m.1.l : Int)) rfl; have HB3 := Qc (H2.out.2.trans (hb3.mono H2.out.2.size)); clear c1 hb3 HR; go_wp2; go_roundw
          case rel =>
            refine ⟨j + 1, m.1.l, by omega, by go_num, rfl, hrl, ?_, ?_, HB3⟩
            · rw [HS.out, Qzj]; exact rfl
            · rw [HS.out, Qld, <- HLL.out]; exact ⟨HRI.out, hr, by omega⟩
          case measure => simp [intOf]; omega
        · rw [Qck hr] at HR; go_wp2_with (refine Qd rfl 46 (.tmp 5) rfl wr.heap.size rfl (rcF m) H2.out.1 _ Try.underlying46 rfl Qia ?_); refine HR.out.mono ?_; rintro e w3 ⟨rfl, hb3⟩; have HB3 := Qc (H2.out.2.trans (hb3.mono H2.out.2.size)); clear c1 hb3 HR; go_wp2; go_ret; refine ⟨?_, HB3.out⟩; congr 2
          cases hq : q
          · rfl
          · exfalso; have h1 := Qkj _ (j + 1) (HQ.out.1 hq); rw [HS.out, Qld] at h1; exact hr h1.2.1
    · obtain rfl : j = ln := by omega
      go_wp2; go_ret; refine ⟨?_, HBR.out⟩; have h1 := HRI.out; rw [HN.out, <- Qeb, List.take_length] at h1; rw [HQ.out.2 h1]; rfl
def OfAns (w : World) (rs : List Rec) (e : Ending) (w' : World) : Prop :=
  (Qmb 0 rs /\ ∃ s1 s2, e = .returned (.tuple #[.agg (taA (slV s1 (ofA rs).1.length) (slV s2 (ofA rs).2.length)), .int .i64 0]) /\ TaAt w w' s1 s2 (ofA rs).1 (ofA rs).2) ∨
    (¬ Qmb 0 rs /\ e = .returned (.tuple #[.agg (taA (.slice none 0 0) (.slice none 0 0)), .int .i64 2]) /\ Below w.heap.size w w')
theorem of16 (w : World) (v : Value) (ms : List (Rec × Value × Value)) (hl : LogIn w v ms) : Calls Try.prog 11 #[v] w (OfAns w (msR ms)) := by
  obtain ⟨y, hy⟩ : ∃ y, y = w.alloc (.cells #[.slice none 0 0, .slice none 0 0] 28) := ⟨_, rfl⟩; have hb0 : Below w.heap.size w y := by rw [hy]; exact (Below.refl _ _).alloc (Nat.le_refl _) _
  have hr0 : Qb y w.heap.size 28 #[.slice none 0 0, .slice none 0 0] := by rw [hy]; exact Qb.new w _ _
  have HY := Qc hy; have HL := Qc (hl.below hb0); have H0 := Qc (And.intro hr0 hb0); have HG := Qc (good15 v ms y HL.out); obtain ⟨b0, hb0'⟩ : ∃ b, b = w.heap.size := ⟨_, rfl⟩; have HB := Qc hb0'; obtain ⟨av, cv, rfl, hcap⟩ := hl.slice; have hz2 : (#[Value.slice none 0 0, Value.slice none 0 0] : Array Value).size = 2 := rfl; clear hy hb0 hr0 hl hb0' hcap; obtain ⟨ln, hln⟩ : ∃ k, k = ms.length := ⟨_, rfl⟩; rw [<- hln] at HL HG |-; have HLN := Qc hln; clear hln; have hlen : w.heap.size = b0 := HB.out.symm
  by_cases hr : Qmb 0 (msR ms)
  · have hq : Qjg 0 (msR ms) = true := (Qra _ _).2 hr; have HR := Qc hr; have HQ := Qc hq; clear hr hq hlen; go_enter Try.func11, Try.ntmps11; go_wp2_with (with_reducible refine Qw 7 rfl ?_); rw [<- HY.out, <- HB.out]; refine Qf ?_; go_wp2_with fail; refine HG.out.mono ?_; rintro e w1 ⟨rfl, hb1⟩; rw [HQ.out]; have HL1 := Qc (HL.out.below hb1); have H1 := Qc (And.intro (H0.out.1.later hb1) (H0.out.2.trans (hb1.mono H0.out.2.size))); have HC := Qc (ckg16 w1 _ ms HL1.out HR.out); clear hb1 HL H0 HY HG; go_wp2_with fail; refine HC.out.mono ?_; rintro e w2 ⟨vT, vD, u, ms', rfl, hT, hD, hlg, hms, hok, hb2⟩
    have hca : (taA vT vD).all (·.oneCell') = true := by
      obtain ⟨a1, c1, e1, _⟩ := hT; obtain ⟨a2, c2, e2, _⟩ := hD; rw [e1, e2]; simp [taA, Value.oneCell']
    have H2 := Qc (And.intro (H1.out.1.later hb2) (H1.out.2.trans (hb2.mono H1.out.2.size))); have HIN := Qc (And.intro hT (And.intro hD hlg)); have HMS := Qc hms; have HOK := Qc hok; clear hT hD hlg hms hok hb2 H1 HC HL1; obtain ⟨ta, hta⟩ : ∃ t, t = taA vT vD := ⟨_, rfl⟩; have htz : ta.size = 2 := by rw [hta]; rfl
    rw [<- hta] at hca |-; have HTA := Qc hta; have hri : (Try.prog.info? 28).map (·.size) = some ta.size := by rw [htz]; exact Qae
    clear hta; go_wp2_with (refine Qe rfl 28 (.tmp 4) (.tmp 13) rfl w2.heap.size #[.slice none 0 0, .slice none 0 0] ta rfl rfl (Qb.new w2 _ _) hri (by rw [htz]; rfl) hca ?_; intro w5 hr5 hk5 hrow5; refine Qz ?_); have hb5 : Below w2.heap.size w2 w5 := hk5 _ w2 ((Below.refl _ _).alloc (Nat.le_refl _) _) (Nat.le_refl _); have HTK := Qc (taken16 w5 vT vD (ofT (msR ms)).1.1 (ofT (msR ms)).1.2 u ms' (HIN.out.1.below hb5) (HIN.out.2.1.below hb5) HOK.out (HIN.out.2.2.below hb5)); rw [HMS.out, <- HTA.out] at HTK; have H5 : Hid (Qb w5 b0 28 #[.slice none 0 0, .slice none 0 0] /\ Below w.heap.size w w5) := ⟨HB.out ▸ H2.out.1.later hb5, H2.out.2.trans (hb5.mono H2.out.2.size)⟩; have HR5 := Qc hr5; clear hr5 hk5 hrow5 hb5 H2 HIN HMS HOK HTA; generalize w2.heap.size = b5 at *; refine Qf ?_; go_wp2_with (refine Qd rfl 28 (.tmp 4) rfl b5 rfl ta HR5.out _ Try.underlying28 rfl hri ?_); refine HTK.out.mono ?_; rintro e w6 ⟨s1, s2, rfl, hta⟩; have H6 := Qc (And.intro (H5.out.1.later hta.bel) (H5.out.2.trans (hta.bel.mono H5.out.2.size))); have h5s := H5.out.2.size; have HTT : Hid (Qna ((ofT (msR ms)).1.1, (ofT (msR ms)).1.2) (ofT (msR ms)).2 = ofA (msR ms)) := rfl; rw [HTT.out] at hta |-; obtain ⟨ra, hra⟩ : ∃ t, t = taA (slV s1 (ofA (msR ms)).1.length) (slV s2 (ofA (msR ms)).2.length) := ⟨_, rfl⟩; have hrz : ra.size = 2 := by rw [hra]; rfl
    have hro : ra.all (·.oneCell') = true := by rw [hra]; simp [taA, slV, Value.oneCell']
    have hrj : (Try.prog.info? 28).map (·.size) = some ra.size := by rw [hrz]; exact Qae
    rw [<- hra]; have HRA := Qc hra; have HT6 := Qc hta; have HS := Qc h5s; clear hra hta h5s HTK H5 HR5; go_wp2_with (refine Qe rfl 28 (.tmp 2) (.tmp 17) rfl b0 #[.slice none 0 0, .slice none 0 0] ra rfl rfl H6.out.1 hrj (by rw [hrz]; rfl) hro ?_; intro w7 hr7 hk7 hrow7; refine Qz ?_)
    have HF : Hid (Qb w7 b0 28 ra /\ TaAt w w7 s1 s2 (ofA (msR ms)).1 (ofA (msR ms)).2) := by
      have h0 : w.heap.size <= b0 := by have := HB.out; omega
      refine ⟨hr7, HT6.out.t.keep (fun b hb => ?_), HT6.out.d.keep (fun b hb => ?_), fun b hb => Nat.le_trans HS.out (HT6.out.n1 b hb), fun b hb => Nat.le_trans HS.out (HT6.out.n2 b hb), hk7 w.heap.size w H6.out.2 h0⟩
      · obtain ⟨cs, h2⟩ := HT6.out.t.kind hb; exact (hrow7 b _ _ (fun e => HT6.out.t.not H6.out.1 (by decide) (by rw [<- e]; exact hb)) h2).trans h2.symm
      · obtain ⟨cs, h2⟩ := HT6.out.d.kind hb; exact (hrow7 b _ _ (fun e => HT6.out.d.not H6.out.1 (by decide) (by rw [<- e]; exact hb)) h2).trans h2.symm
    clear hr7 hk7 hrow7; refine Qf ?_; go_wp2; exact bodyPost_ret (Qcc rfl _ _ b0 ra _ rfl HF.out.1 Try.underlying28 rfl hrj) rfl (.inl ⟨HR.out, s1, s2, by rw [HRA.out]; rfl, HF.out.2⟩)
  · have hq : Qjg 0 (msR ms) = false := by
      cases h : Qjg 0 (msR ms)
      · rfl
      · exact absurd ((Qra _ _).1 h) hr
    have HR := Qc hr; have HQ := Qc hq; clear hr hq hlen; go_enter Try.func11, Try.ntmps11; go_wp2_with (with_reducible refine Qw 7 rfl ?_); rw [<- HY.out, <- HB.out]; refine Qf ?_; go_wp2_with fail; refine HG.out.mono ?_; rintro e w1 ⟨rfl, hb1⟩; rw [HQ.out]; have H1 := Qc (And.intro (HB.out ▸ H0.out.1.later hb1 : Qb w1 b0 28 #[.slice none 0 0, .slice none 0 0]) (H0.out.2.trans (hb1.mono H0.out.2.size))); clear hb1 HL H0 HY HG; have c0 := H1.out.1.cell 0 _ rfl; have c1 := H1.out.1.cell 1 _ rfl; have f0 := H1.out.1.free 0; have f1 := H1.out.1.free 1; go_wp2; refine bodyPost_ret (Qcc rfl _ _ b0 #[.slice none 0 0, .slice none 0 0] _ rfl ((H1.out.1.set 0 (.slice none 0 0)).set 1 (.slice none 0 0)) Try.underlying28 rfl Qae) rfl (.inr ⟨HR.out, rfl, ?_⟩); have h0 : w.heap.size <= b0 := by have := HB.out; omega
    exact (H1.out.2.setCell (p := ⟨b0, 0, none⟩) h0 _).setCell (p := ⟨b0, 1, none⟩) h0 _
def ofN (rs : List Rec) (n : Nat) : Ta × Nat :=
  match ckL rs n with
  | none => (([], []), 0)
  | some (j, i) => (((rs.getD j Rec.zero).ts, (rs.getD j Rec.zero).ds), i + 1)
theorem ofN_of (rs : List Rec) : ofA rs = Qna (ofN rs rs.length).1 (rs.drop (ofN rs rs.length).2) := by
  unfold ofA ofT ofN; obtain ⟨o, ho⟩ : ∃ o, o = ckL rs rs.length := ⟨_, rfl⟩; rw [<- ho]
  cases o with
  | none => rfl
  | some p => rfl
set_option linter.unusedVariables false
set_option linter.unusedVariables false
set_option linter.unusedVariables false
set_option linter.unusedVariables false
set_option linter.unusedVariables false
set_option linter.unusedVariables false
set_option linter.unusedVariables false
abbrev OwT (w : World) (B : Nat) (v : Value) (l : List Tx) : Prop := w.ownsRow B 42 5 v l.length (flT l)
theorem owT_in {w : World} {B : Nat} {v : Value} {l : List Tx} (h : OwT w B v l) : Qqd w v l := Qxf txA Tx.zero 5 (fun _ => rfl) h
theorem owT_push {w' : World} {B : Nat} {v' : Value} {l : List Tx} {x : Tx} (h : w'.ownsRow B 42 5 v' (l.length + 1) (flT l ++ (txA x).toList)) : OwT w' B v' (l ++ [x]) := by
  show w'.ownsRow _ _ _ _ (l ++ [x]).length (flT (l ++ [x])); rw [Qje, Qsu, List.length_append, List.length_singleton]; exact h
theorem Qqd.mid {w : World} {v : Value} {l : List Tx} (h : Qqd w v l) {j : Nat} (hj : j < l.length) :
    ∃ b off c, v = .slice (some ⟨b, off, none⟩) l.length c /\ b < w.heap.size /\ ∀ x, Below w.heap.size w x -> x.rangeAt b (off + j * 5) (txA (l.getD j Tx.zero)).toList := by
  obtain ⟨a, c, rfl, h2⟩ := h; obtain ⟨b, off, rfl, hb, hr⟩ := h2 (by omega); exact ⟨b, off, c, rfl, hb, fun x hx => Qjc (hr j hj) hx hb⟩
end Go.Proofs.Ythlllmkmpneedaa
