/-
  Texts that lean on one another, one behind the other: each opens with its own remark.
-/
import Derived.Lib.Overlaps
import Derived.Lib.AppendZerosOnto
import Derived.Laws.NewBlocks
import Derived.Maps.AppendAt
import Derived.Laws.Externs
import Derived.Shelf.RegionOpenPlain
import Derived.Lib.Walk
import Derived.Test.YtkgniegdefaieaaK03
import Derived.Test.YtkgniegdefaieaaK02
import Derived.Test.YtkgniegdefaieaaK00
import Derived.Test.YtkgniegdefaieaaK01

namespace Go.Proofs.Ytkgniegdefaieaa
open Go.RowKit
set_option linter.unusedVariables false
set_option maxRecDepth 8000
set_option maxHeartbeats 25600000
def Qvl (l : List Tx) : Prop := ∀ p q, p < q -> q < l.length -> (l.getD p Tx.zero).t < (l.getD q Tx.zero).t
def Qmt (l : List Di) : Prop := ∀ p q, p < q -> q < l.length -> (l.getD p Di.zero).p < (l.getD q Di.zero).p
theorem Qge {α : Type} {l : List α} {i : Nat} (z : α) (h : i < l.length) : l[i]? = some (l.getD i z) := by
  rw [List.getD_eq_getElem?_getD, List.getElem?_eq_getElem h]; rfl
theorem Qgr : ∀ (args : Array Value) (x : World), Sem.run Try.prog (callFunc 84 args) x = Result.ok (Next.enter 84 args) x := by
  intro args x; go_simp
theorem find1_16 (x : World) (gn gr h : Nat) (t : Int) (s : Sl) (l : List Tx) (hn : x.cell? ⟨gn, 0, none⟩ = some (.int .i64 t)) (hr : x.cell? ⟨gr, 0, none⟩ = some (slV s l.length)) (hT : RT x s l) (hh : h < l.length) (hl : l.length <= 100000) :
    Calls Try.prog 84 #[.int .i64 (h : Int), .pointer (some ⟨gn, 0, none⟩), .pointer (some ⟨gr, 0, none⟩)] x fun e w' => e = .returned (.int .i64 (Qoi t (l.getD h Tx.zero).t)) /\ Below x.heap.size x w' := by
  obtain ⟨b, hb, hlt, hc⟩ := hT.at (Qge Tx.zero hh); have c0 := hc 0 (.int .i64 (l.getD h Tx.zero).t) (by omega) rfl; rw [Nat.add_zero] at c0; obtain ⟨o, c⟩ := s; have hb2 : o = some b := hb; subst hb2; generalize (l.getD h Tx.zero).t = u at *; generalize l.length = n at *; have hr2 : x.cell? ⟨gr, 0, none⟩ = some (.slice (some ⟨b, 0, none⟩) n c) := hr; have HC := Qb (fun w => cmp16 t u w); have HS := Qb (And.intro hn (And.intro hr2 c0)); have ih : (h : Int) < (n : Int) := by omega
  have ih0 : (0 : Int) <= (h : Int) := by omega
  clear hc hT hr hb hn hr2 c0; go_enter Try.func84, Try.ntmps84; go_wp2_with fail; refine wp_region_noPanic ?_; refine wp_region_held_drew (S := fun z => z.cell? ⟨gn, 0, none⟩ = some (.int .i64 t) /\ z.cell? ⟨gr, 0, none⟩ = some (.slice (some ⟨b, 0, none⟩) n c) /\ z.cell? ⟨b, h * 5, none⟩ = some (.int .i64 u)) (by kernel_rfl) (HS.out) (fun hHeld => ?_); refine tkk 0 (some 5) (.int .i64 t) rfl rfl (by kernel_rfl) (by kernel_rfl) (fun x hSx => by have h1 := hSx.1; go_simp) hHeld ?_; (try simp only [Act.put, List.setIfInBounds_toArray, List.set]); refine tkk 1 (some 6) (.slice (some ⟨b, 0, none⟩) n c) rfl rfl (by kernel_rfl) (by kernel_rfl) (fun x hSx => by have h1 := hSx.2.1; go_simp) hHeld ?_; (try simp only [Act.put, List.setIfInBounds_toArray, List.set]); refine tkq 2 (some 7) (.int .i64 (h : Int)) hHeld ?_; (try simp only [Act.put, List.setIfInBounds_toArray, List.set]); refine tkq 3 (some 8) (.pointer (some ⟨b, h * 5, none⟩)) hHeld ?_; (try simp only [Act.put, List.setIfInBounds_toArray, List.set]); refine tkq 4 (some 9) (.pointer (some ⟨b, h * 5, none⟩)) hHeld ?_; (try simp only [Act.put, List.setIfInBounds_toArray, List.set]); refine tkk 5 (some 10) (.int .i64 u) rfl rfl (by kernel_rfl) (by kernel_rfl) (fun x hSx => by have h1 := hSx.2.2; go_simp) hHeld ?_; (try simp only [Act.put, List.setIfInBounds_toArray, List.set]); refine Qm 6 (by kernel_rfl) ?_; refine Qfa (some 11) rfl rfl rfl 70 #[.int .i64 t, .int .i64 u] ?he ((HC.out _).mono ?_); (case he => go_simp); rintro e w1 ⟨rfl, rfl⟩; refine ⟨_, rfl, hHeld, ?_⟩; (try simp only [Act.put, List.setIfInBounds_toArray, List.set]); refine tkq 7 (some 4) (.int .i64 (Qoi t u)) hHeld ?_; (try simp only [Act.put, List.setIfInBounds_toArray, List.set]); refine wpAnyH_done (by kernel_rfl) ?_ _; refine NoPanic.normal ?_; clear hHeld; go_wp2; go_ret; exact ⟨rfl, Qoc (Below.refl _ _) 1⟩
def FindAns (l : List Tx) (t : Int) (w : World) (e : Ending) (w' : World) : Prop := SfAns (fun k => Qoi t (l.getD k Tx.zero).t) l.length w e w'
theorem find16 (w : World) (s : Sl) (l : List Tx) (t : Int) (hT : RT w s l) (hs : Qvl l) (hl : l.length <= 100000) :
    Calls Try.prog 66 #[slV s l.length, .int .i64 t] w (FindAns l t w) := by
  obtain ⟨n1, n2, n3⟩ := Qtc w #[slV s l.length] #[.int .i64 t] 25 3; obtain ⟨y, hy⟩ : ∃ y, y = (w.alloc (.cells #[slV s l.length] 25)).alloc (.cells #[.int .i64 t] 3) := ⟨_, rfl⟩; rw [<- hy] at n1 n2 n3; obtain ⟨b1, hb1⟩ : ∃ b1, b1 = w.heap.size := ⟨_, rfl⟩; obtain ⟨b2, hb2⟩ : ∃ b2, b2 = w.heap.size + 1 := ⟨_, rfl⟩; rw [<- hb1] at n1; rw [<- hb2] at n2
  have HF := Qb (Qdr 84 b2 b1 l.length (fun k => Qoi t (l.getD k Tx.zero).t) y (fun x h hb hh => find1_16 x b2 b1 h t s l ((n2.later hb).cell 0 _ rfl) ((n1.later hb).cell 0 _ rfl) ((hT.later n3).later hb) hh hl) Qgr (fun p q hpq hq h => by
    rw [Qcd] at h |-; have := hs p q hpq hq
    omega) hl)
  have HB := Qb (And.intro hb1 hb2); have HY := Qb hy; have HN := Qb n3; have HR1 := Qb n1; clear n1 n2 n3 hb1 hb2 hy hT hs; obtain ⟨o, c⟩ := s; obtain ⟨a, ha⟩ : ∃ a, a = adr o := ⟨_, rfl⟩; have hv : slV ⟨o, c⟩ l.length = .slice a l.length c := by rw [ha]; rfl
  rw [hv] at HY HR1 |-; clear hv ha; obtain ⟨n, hn⟩ : ∃ n, n = l.length := ⟨_, rfl⟩; rw [<- hn] at HY HR1 HF hl |-; have HNN := Qb hn; clear hn; go_enter Try.func66, Try.ntmps66; go_wp2_with (with_reducible refine Qxa 6 rfl ?_); rw [<- HY.out, <- HB.out.2, <- HB.out.1]; have k0 := HR1.out.cell 0 (.slice a n c) rfl; refine Qg ?_; go_wp2_with fail; refine HF.out.mono ?_; rintro e w1 ⟨i, q, rfl, hsf, hb⟩; have H := Qb (And.intro hsf (HN.out.trans (hb.mono HN.out.size))); clear hsf hb HF k0; go_wp2; go_ret2; refine ⟨i, q, rfl, ?_, H.out.2⟩; rw [<- HNN.out]; exact H.out.1
def Qud : Array Value := #[.int .i64 0, .int .i64 0, .int .u64 0, .int .u64 0, .int .u64 0]
theorem Qot (n : Nat) : ∀ v ∈ (Builtin.zeroCells Qud n).toList, v.oneCell' = true := by
  intro v hv; simp only [Builtin.zeroCells, Array.toList_map, List.mem_map] at hv; obtain ⟨i, _, rfl⟩ := hv; have h : Qud.size = 5 := rfl; rw [h]; have h2 : i % 5 < 5 := Nat.mod_lt _ (by decide); generalize i % 5 = j at h2; have h3 : j = 0 ∨ j = 1 ∨ j = 2 ∨ j = 3 ∨ j = 4 := by omega
  rcases h3 with rfl | rfl | rfl | rfl | rfl <;> rfl
theorem Qil (n : Nat) : (Builtin.zeroCells Qud n).toList.length = n * 5 := by
  simp [Builtin.zeroCells, show Qud.size = 5 from rfl]
theorem Quu (w : World) (ty : TypeId) (b o n c : Nat) (hn : 0 < n) (hc : ∀ j, j < n * 5 -> (w.cell? ⟨b, o + j, none⟩).isSome = true) (hf : ∀ j, w.frozen? ⟨b, j, none⟩ = false) :
    (Builtin.clear_ #[25] ty #[.slice (some ⟨b, o, none⟩) n c]).run Try.prog w = .ok (.tuple #[]) (w.setCells b o (Builtin.zeroCells Qud n).toList) := by
  have hst := run_storeCells_cells (P := Try.prog) b o (Builtin.zeroCells Qud n).toList 0 w (by rw [Qil]; simpa using hc) (fun j _ => by simpa using hf _) (Qot n); simp only [Nat.add_zero] at hst; obtain ⟨m, rfl⟩ : ∃ m, n = m + 1 := ⟨n - 1, by omega⟩; simp [Builtin.clear_, run_underlying (P := Try.prog) Try.underlying25]; change ((Sem.run Try.prog (storeCells ⟨b, o, none⟩ (Builtin.zeroCells Qud (m + 1)).toList) w).andThen fun a w' => Result.ok (Value.tuple #[]) w') = _; rw [hst]; rfl
theorem delT_same (s : Sl) (n i : Nat) (w : World) (hc : n <= s.c) (hi : i <= n) (hn : n <= 1000000) :
    Calls Try.prog 67 #[slV s n, .int .i64 (i : Int), .int .i64 (i : Int)] w fun e w' => e = .returned (slV s n) /\ w = w' := by
  obtain ⟨o, c⟩ := s; have i1 : (i : Int) <= (n : Int) := by omega
  have hc' : n <= c := hc; have hni : n - i <= c := by omega
  cases o with
  | none =>
    show Calls _ _ #[.slice none n c, _, _] w fun e w' => e = .returned (.slice none n c) /\ w = w'
    go_enter Try.func67, Try.ntmps67; go_wp2
    all_goals
      go_ret; exact ⟨rfl, rfl⟩
  | some a =>
    show Calls _ _ #[.slice (some ⟨a, 0, none⟩) n c, _, _] w fun e w' => e = .returned (.slice (some ⟨a, 0, none⟩) n c) /\ w = w'
    go_enter Try.func67, Try.ntmps67; go_wp2
    all_goals
      go_ret; exact ⟨rfl, rfl⟩
def Qkt (w : World) (b i j n : Nat) (l : List Tx) : World := (w.drew.setCells b (i * 5) (flT (l.drop j))).setCells b ((i + (n - j)) * 5) (Builtin.zeroCells Qud (n - (i + (n - j)))).toList
theorem delT_laid {w : World} {b cap i j : Nat} {l : List Tx} (h : RT w ⟨some b, cap⟩ l) (hij : i <= j) (hj : j <= l.length) :
    RT (Qkt w b i j l.length l) ⟨some b, cap⟩ (l.take i ++ l.drop j) /\ Tn (Is b) w (Qkt w b i j l.length l) := by
  have hT : Tn (Is b) w (Qkt w b i j l.length l) := ((Tn.refl (Is b) w).drew.then (Qp _ _ _ b (Is b) (show Is b b from rfl))).then (Qp _ _ _ b (Is b) (show Is b b from rfl)); refine ⟨?_, hT⟩
  rcases h with ⟨h1, _⟩ | ⟨b', cs, h1, h2, h3, h4, h5, h6, h7⟩
  · cases h1
  · injection h1 with h1; subst h1; have h2' : Qa w.drew b 42 cs := h2; have hsz : cs.size = cap * 5 := h3; have h4' : l.length <= cap := h4; obtain ⟨ds, d1, d2⟩ := Qk (flT (l.drop j)) (i * 5) w.drew b _ cs h2'; obtain ⟨es, e1, e2⟩ := Qk (Builtin.zeroCells Qud (l.length - (i + (l.length - j)))).toList ((i + (l.length - j)) * 5) _ b _ ds d1; have hfl : (flT (l.drop j)).length = (l.length - j) * 5 := by rw [Qra, List.length_drop]
    refine .inr ⟨b, es, rfl, e1, by rw [e2, d2]; exact h3, by rw [List.length_append, List.length_take, List.length_drop]; show _ <= cap; omega, h5, h6, fun q u hu => ?_⟩
    have hq : q < (i + (l.length - j)) * 5 := by
      have := (List.getElem?_eq_some_iff.1 hu).1; rw [Qra, List.length_append, List.length_take, List.length_drop] at this; have : min i l.length = i := by omega
      omega
    unfold Qkt; rw [World.cell?_setCells_out b _ _ _ _ (fun _ _ => .inl (by show q < (i + (l.length - j)) * 5; exact hq))]; rw [Qjc] at hu; have hti : (flT (l.take i)).length = i * 5 := by rw [Qra, List.length_take]; omega
    by_cases hqi : q < i * 5
    · rw [World.cell?_setCells_out b _ _ _ _ (fun _ _ => .inl (by show q < i * 5; exact hqi))]; rw [List.getElem?_append_left (by omega), <- Qrg, List.getElem?_take, if_pos hqi] at hu; exact h7 q u hu
    · rw [List.getElem?_append_right (by omega), hti] at hu; have hin := World.cell?_setCells_in b (flT (l.drop j)) (i * 5) w.drew (fun k hk => Qq h2' (by omega)) (q - i * 5) (by omega); rw [show i * 5 + (q - i * 5) = q by omega] at hin; rw [hin, <- List.getElem?_eq_getElem]; exact hu
theorem delT_some (w : World) (b cap : Nat) (l : List Tx) (h : RT w ⟨some b, cap⟩ l) (i j : Nat) (hij : i < j) (hj : j <= l.length) (hl : l.length <= 1000000) :
    Calls Try.prog 67 #[.slice (some ⟨b, 0, none⟩) l.length cap, .int .i64 (i : Int), .int .i64 (j : Int)] w fun e w' => e = .returned (.slice (some ⟨b, 0, none⟩) (i + (l.length - j)) cap) /\ RT w' ⟨some b, cap⟩ (l.take i ++ l.drop j) /\ Tn (Is b) w w' := by
  obtain ⟨ii, hi0, hi1⟩ := Option.map_eq_some_iff.1 Qci; simp only [Prod.mk.injEq] at hi1; have hcap : l.length <= cap := h.cap.1; have hcap2 : cap <= maxLen := h.cap.2; have HD := Qb (delT_laid h (Nat.le_of_lt hij) hj); have hfl : (flT (l.drop j)).length = (l.length - j) * 5 := by rw [Qra, List.length_drop]
  obtain ⟨cs, hrow, hcs, hcl⟩ : ∃ cs, Qa w b 42 cs /\ cs.size = cap * 5 /\ ∀ j u, (flT l)[j]? = some u -> w.cell? ⟨b, j, none⟩ = some u := by
    rcases h with ⟨h1, _⟩ | ⟨b', cs, h1, h2, h3, h4, h5, h6, h7⟩
    · cases h1
    · injection h1 with h1; subst h1; exact ⟨cs, h2, h3, h7⟩
  have hrow' : Qa w.drew b 42 cs := hrow
  have hc : ∀ q, q < (flT (l.drop j)).length -> (w.drew.cell? ⟨b, 0 + i * ii.size + q, none⟩).isSome = true := fun q hq => by
    rw [hfl] at hq; rw [hi1.2.1]; exact Qq hrow' (by omega)
  have hflat : ∀ q u, (flT (l.drop j))[q]? = some u -> w.drew.cell? ((⟨b, j * 5, none⟩ : Addr).add q) = some u := fun q u hu => by
    rw [<- Qvm, List.getElem?_drop] at hu; rw [Addr.add_lit]; exact hcl _ _ hu
  have happ : ∀ ad c, (∀ q u, (flT (l.drop j))[q]? = some u -> w.drew.cell? (Addr.add ad q) = some u) -> (Builtin.append_ #[25, 25] 25 #[.slice (some ⟨b, 0, none⟩) i cap, .slice (some ad) (l.length - j) c]).run Try.prog w.drew = .ok (.slice (some ⟨b, 0, none⟩) (i + (l.length - j)) cap) (w.drew.setCells b (i * 5) (flT (l.drop j))) := fun ad c hcl2 => by
    have r1 := run_append_room_cells (P := Try.prog) w.drew 25 25 42 ii Try.underlying25 hi0 b 0 i cap ad (l.length - j) c (flT (l.drop j)) (by rw [hfl, hi1.2.1]) hcl2 (Qtm _) (by omega) hc (fun q _ => hrow'.free _); rw [hi1.2.1, Nat.zero_add] at r1; exact r1
  obtain ⟨ds, d1, d2⟩ := Qk (flT (l.drop j)) (i * 5) w.drew b _ cs hrow'
  have hclr : ∀ ty, (Builtin.clear_ #[25] ty #[.slice (some ⟨b, (i + (l.length - j)) * 5, none⟩) (l.length - (i + (l.length - j))) (cap - (i + (l.length - j)))]).run Try.prog (w.drew.setCells b (i * 5) (flT (l.drop j))) = .ok (.tuple #[]) (Qkt w b i j l.length l) := fun ty =>
    Quu _ ty b ((i + (l.length - j)) * 5) (l.length - (i + (l.length - j))) (cap - (i + (l.length - j))) (by omega) (fun q hq => Qq d1 (by omega)) (fun q => d1.free q)
  obtain ⟨W2, hW2⟩ : ∃ W2, W2 = Qkt w b i j l.length l := ⟨_, rfl⟩; rw [<- hW2] at hclr HD; obtain ⟨W1, hW1⟩ : ∃ W1, W1 = w.drew.setCells b (i * 5) (flT (l.drop j)) := ⟨_, rfl⟩; rw [<- hW1] at hclr happ; have HE := Qb (fun (e : cap = j) => show l.drop j = [] from List.eq_nil_of_length_eq_zero (by rw [List.length_drop]; omega)); clear hW1 hW2 d1 d2 hc hrow hrow' hfl h hi1 hi0 hcl hcs; generalize l.length = n at *
  have e1 : ((i : Int) == (j : Int)) = false := by
    rw [beq_eq_false_iff_ne]; omega
  have e2 : (j : Int) <= (n : Int) := by omega
  have e3 : (n : Int) <= (cap : Int) := by omega
  have e4 : (j : Int) <= (cap : Int) := by omega
  have e7 : (i : Int) <= (j : Int) := by omega
  have e8 : (i : Int) <= (cap : Int) := by omega
  have e9 : ¬ cap = i := by omega
  have e5 : ¬ cap = i + (n - j) := by omega
  have e6 : ((i + (n - j) : Nat) : Int) <= (n : Int) := by omega
  have e10 : ((i : Int) + ((n - j : Nat) : Int)) <= (n : Int) := by omega
  have HAP := Qb happ
  by_cases hck : cap = j
  · have q1 := HAP.out ⟨b, 0, none⟩ (cap - j) (fun q u hu => by
      rw [HE.out hck] at hu
      cases hu)
    clear happ HAP hflat HE; subst hck; obtain rfl : n = cap := by omega
    simp only [Nat.sub_self, Nat.add_zero] at q1 hclr HD |-; clear e5 e6 e10; go_enter Try.func67, Try.ntmps67; go_wp2_with fail; go_region_law (refine Qfe rfl (.tmp 22) (.tmp 25) 25 25 rfl (.slice (some ⟨b, 0, none⟩) i n) (.slice (some ⟨b, 0, none⟩) 0 0) (.slice (some ⟨b, 0, none⟩) i n) W1 ?h1 ?h2 q1 ?_; (case h1 => simp [Act.eval, Act.put]); (case h2 => simp [Act.eval, Act.put])); go_wp2; go_ret; exact ⟨rfl, HD.out⟩
  · have q1 := HAP.out ⟨b, j * 5, none⟩ (cap - j) hflat; clear happ HAP hflat HE; go_enter Try.func67, Try.ntmps67; go_wp2_with fail; go_region_law (refine Qfe rfl (.tmp 22) (.tmp 25) 25 25 rfl (.slice (some ⟨b, 0, none⟩) i cap) (.slice (some ⟨b, j * 5, none⟩) (n - j) (cap - j)) (.slice (some ⟨b, 0, none⟩) (i + (n - j)) cap) W1 ?h1 ?h2 q1 ?_; (case h1 => simp [Act.eval, Act.put]); (case h2 => simp [Act.eval, Act.put])); go_wp2; go_ret; exact ⟨rfl, HD.out⟩
theorem delT (w : World) (s : Sl) (l : List Tx) (h : RT w s l) (i j : Nat) (hij : i <= j) (hj : j <= l.length) (hl : l.length <= 1000000) :
    Calls Try.prog 67 #[slV s l.length, .int .i64 (i : Int), .int .i64 (j : Int)] w fun e w' => e = .returned (slV s (l.take i ++ l.drop j).length) /\ RT w' s (l.take i ++ l.drop j) /\ Tn (ofS s) w w' := by
  by_cases h0 : i = j
  · subst h0; rw [List.take_append_drop]; refine (delT_same s l.length i w h.cap.1 hj hl).mono ?_; rintro e w' ⟨rfl, rfl⟩; exact ⟨rfl, h, Tn.refl _ _⟩
  · obtain ⟨o, c⟩ := s
    cases o with
    | none =>
      rcases h with ⟨_, rfl, _⟩ | ⟨b, cs, h1, _⟩
      · simp at hj; omega
      · cases h1
    | some b =>
      refine (delT_some w b c l h i j (by omega) hj hl).mono ?_; rintro e w' ⟨rfl, h1, h2⟩; have e : (l.take i ++ l.drop j).length = i + (l.length - j) := by rw [List.length_append, List.length_take, List.length_drop]; omega
      rw [e]; exact ⟨rfl, h1, h2.weak (fun k hk => by rw [hk]; rfl)⟩
theorem run_pushT (w : World) (ty : TypeId) (s : Sl) (l : List Tx) (h : RT w s l) (k : Tx) (g c : Nat) (hg : ∀ j u, (txL k)[j]? = some u -> w.cell? ⟨g, j, none⟩ = some u) (hl : l.length <= 1000000) :
    ∃ s' w', (Builtin.append_ #[25, 25] ty #[slV s l.length, .slice (some ⟨g, 0, none⟩) 1 c]).run Try.prog w = .ok (slV s' (l.length + 1)) w' /\ RT w' s' (l ++ [k]) /\ Tn (ofS s) w w' /\ (∀ q, s'.b = some q -> s.b = some q ∨ w.heap.size <= q) := by
  obtain ⟨i, hi0, hi1⟩ := Option.map_eq_some_iff.1 Qci; simp only [Prod.mk.injEq] at hi1
  have hcells : ∀ j u, (txL k)[j]? = some u -> w.cell? ((⟨g, 0, none⟩ : Addr).add j) = some u := fun j u hu => by
    rw [Addr.add_lit, Nat.zero_add]; exact hg j u hu
  have flat : flT (l ++ [k]) = flT l ++ txL k := by rw [Qjc, Qpq]
  have own : w.ownsRow 0 42 5 (slV s l.length) l.length (flT l) := by
    refine ⟨Qra l, ?_⟩
    rcases h with ⟨h1, rfl, h3⟩ | ⟨b, cs, h1, h2, h3, h4, h5, h6, h7⟩
    · left; unfold slV; rw [h1, h3]; exact ⟨rfl, rfl⟩
    · right; refine ⟨b, s.c, cs, by unfold slV; rw [h1]; rfl, Nat.zero_le _, h2, h4, h6, h3, ?_⟩; apply List.ext_getElem?; intro j; rw [List.getElem?_take]
      by_cases hj : j < l.length * 5
      · rw [if_pos hj]; have hj2 : j < (flT l).length := by rw [Qra]; exact hj
        have h8 := h7 j _ (List.getElem?_eq_getElem hj2); rw [cell_of_row w b j _ _ (0, 0) h2] at h8; rw [Array.getElem?_toList, h8, List.getElem?_eq_getElem hj2]
      · rw [if_neg hj, List.getElem?_eq_none (by rw [Qra]; omega)]
  obtain ⟨v', w', r1, r2, r3, _, r5⟩ := run_append_own_at (P := Try.prog) w 0 25 ty 42 i (.agg Qud) 5 40 Try.underlying25 hi0 hi1.1 hi1.2.1 hi1.2.2 rfl (by omega) (slV s l.length) l.length (flT l) own ⟨g, 0, none⟩ 1 c (txL k) rfl hcells (Qem k) (by unfold maxLen; omega) (by omega) (Nat.zero_le _); rw [<- flat] at r2; obtain ⟨s', rfl, h1, _⟩ := RT.fresh (l := l ++ [k]) (by simp) (by omega) r2
  have hob : ∀ (s : Sl) (n : Nat), (slV s n).ownBlock = s.b := by
    rintro ⟨_ | b, c⟩ n <;> rfl
  rw [hob, hob] at r5; rw [hob] at r3; refine ⟨s', w', r1, h1, Tn.of_grown r3 (fun k hk => hk), fun q hq => ?_⟩
  rcases r5 with r5 | r5
  · exact .inl (r5.symm.trans hq)
  · rw [r5] at hq; injection hq with hq; exact .inr (by omega)
theorem overT (w : World) (vb b i m vc lb cb : Nat) (hne : vb ≠ b) (tA tB : TypeId) (va vs : Array Value) (hA : Qa w vb tA va) (hB : Qa w b tB vs) (hz : vs.size ≠ 0) :
    (callFunc 85 #[.slice (some ⟨vb, 0, none⟩) m vc, .slice (some ⟨b, i, none⟩) lb cb]).run Try.prog w = .ok (.value (.bool false)) w := by
  have hsa : w.shape? vb = some (tA, va.size) := by
    have e : w.heap[vb]? = some (.cells va tA (0, 0)) := hA; simp [World.shape?, e]
  have hsb : w.shape? b = some (tB, vs.size) := by
    have e : w.heap[b]? = some (.cells vs tB (0, 0)) := hB; simp [World.shape?, e]
  rw [run_callFunc_extern Try.func85 (by kernel_rfl) (by kernel_rfl) (by kernel_rfl) (e := Extern.SlicesOverlaps.overlaps #[25, 25] #[4]) (by kernel_rfl),
    Lib.run_overlaps_apart w 25 4 42 Try.underlying25 5 (fun w => by kernel_rfl) ⟨vb, 0, none⟩ ⟨b, i, none⟩ m vc lb cb hne tA tB va.size vs.size hsa hsb hz (hA.free _) (hA.free _)]
  rfl
def Qyf (l : List Tx) (i : Nat) (k : Tx) : List Tx := l.take i ++ k :: l.drop i
theorem Qlk (l : List Tx) (i : Nat) (k : Tx) (hi : i <= l.length) : (Qyf l i k).length = l.length + 1 := by
  unfold Qyf; rw [List.length_append, List.length_cons, List.length_take, List.length_drop]; omega
theorem flT_ins (l : List Tx) (i : Nat) (k : Tx) : flT (Qyf l i k) = flT (l.take i) ++ (txL k ++ flT (l.drop i)) := by
  unfold Qyf; rw [Qjc, show k :: l.drop i = [k] ++ l.drop i from rfl, Qjc, Qpq]
def Qhf (w : World) (s : Sl) (l : List Tx) (i : Nat) (k : Tx) (e : Ending) (w' : World) : Prop := ∃ s', e = .returned (slV s' (l.length + 1)) /\ RT w' s' (Qyf l i k) /\ Tn (ofS s) w w' /\ ∀ q, s'.b = some q -> s.b = some q ∨ w.heap.size <= q
theorem Qne {w : World} {g : Nat} {t : TypeId} {k : Tx} (hg : Qa w g t (txA k)) : ∀ j u, (txL k)[j]? = some u -> w.cell? ⟨g, j, none⟩ = some u := fun j u hu => hg.cell j u (by
  have : (txA k).toList = txL k := rfl; rw [<- Array.getElem?_toList, this]
  exact hu)
theorem insT_end (w : World) (s : Sl) (l : List Tx) (h : RT w s l) (k : Tx) (g : Nat) (hg : Qa w g 42 (txA k)) (hl : l.length <= 1000000) :
    Calls Try.prog 68 #[slV s l.length, .int .i64 (l.length : Int), .slice (some ⟨g, 0, none⟩) 1 1] w (Qhf w s l l.length k) := by
  obtain ⟨s', w', r1, r2, r3, r4⟩ := run_pushT w 25 s l h k g 1 (Qne hg) hl; have HE := Qb (show ∃ s', Qhf w s l l.length k (.returned (slV s' (l.length + 1))) w' /\ s' = s' from ⟨s', ⟨s', rfl, by unfold Qyf; rw [List.take_length, List.drop_length]; exact r2, r3, r4⟩, rfl⟩); have HG := Qb (show Qhf w s l l.length k (.returned (slV s' (l.length + 1))) w' from ⟨s', rfl, by unfold Qyf; rw [List.take_length, List.drop_length]; exact r2, r3, r4⟩); have hcap := h.cap; clear HE r2 r3 r4 hg h; obtain ⟨o, c⟩ := s; obtain ⟨v', hv'⟩ : ∃ v', v' = slV s' (l.length + 1) := ⟨_, rfl⟩; rw [<- hv'] at r1 HG; clear hv'; have hc1 : l.length <= c := hcap.1; have hc2 : c <= 9223372036854775807 := by have := hcap.2; unfold maxLen at this; exact this
  clear hcap; generalize l.length = n at *
  cases o with
  | none =>
    have r1' : (Builtin.append_ #[25, 25] 25 #[.slice none n c, .slice (some ⟨g, 0, none⟩) 1 1]).run Try.prog w = .ok v' w' := r1; show Calls _ _ #[.slice none n c, _, _] w _; clear r1; go_enter Try.func68, Try.ntmps68; go_wp2_with (at_builtin; refine Lib.wpList_append_run _ rfl _ _ _ _ rfl _ _ rfl rfl _ _ r1' ?_)
    all_goals
      go_ret; exact HG.out
  | some b =>
    have r1' : (Builtin.append_ #[25, 25] 25 #[.slice (some ⟨b, 0, none⟩) n c, .slice (some ⟨g, 0, none⟩) 1 1]).run Try.prog w = .ok v' w' := r1; show Calls _ _ #[.slice (some ⟨b, 0, none⟩) n c, _, _] w _; clear r1; go_enter Try.func68, Try.ntmps68; go_wp2_with (at_builtin; refine Lib.wpList_append_run _ rfl _ _ _ _ rfl _ _ rfl rfl _ _ r1' ?_)
    all_goals
      go_ret; exact HG.out
def ShWT (w : World) (b i : Nat) (l : List Tx) (k : Tx) : World := (w.drew.setCells b ((i + 1) * 5) (flT (l.drop i))).setCells b (i * 5) (txL k)
theorem shT_laid {w : World} {b cap i : Nat} {l : List Tx} {k : Tx} (h : RT w ⟨some b, cap⟩ l) (hi : i < l.length) (hc : l.length + 1 <= cap) : RT (ShWT w b i l k) ⟨some b, cap⟩ (Qyf l i k) /\ Tn (Is b) w (ShWT w b i l k) := by
  have hT : Tn (Is b) w (ShWT w b i l k) := ((Tn.refl (Is b) w).drew.then (Qp _ _ _ b (Is b) (show Is b b from rfl))).then (Qp _ _ _ b (Is b) (show Is b b from rfl)); refine ⟨?_, hT⟩
  rcases h with ⟨h1, _⟩ | ⟨b', cs, h1, h2, h3, h4, h5, h6, h7⟩
  · cases h1
  · injection h1 with h1; subst h1; have h2' : Qa w.drew b 42 cs := h2; have hsz : cs.size = cap * 5 := h3; obtain ⟨ds, d1, d2⟩ := Qk (flT (l.drop i)) ((i + 1) * 5) w.drew b _ cs h2'; obtain ⟨es, e1, e2⟩ := Qk (txL k) (i * 5) _ b _ ds d1; have hfl : (flT (l.drop i)).length = (l.length - i) * 5 := by rw [Qra, List.length_drop]
    refine .inr ⟨b, es, rfl, e1, by rw [e2, d2]; exact h3, by rw [Qlk _ _ _ (by omega)]; exact hc, h5, h6, fun q u hu => ?_⟩; have hti : (flT (l.take i)).length = i * 5 := by rw [Qra, List.length_take]; omega
    rw [flT_ins] at hu; unfold ShWT
    by_cases h8 : q < i * 5
    · rw [World.cell?_setCells_out b _ _ _ _ (fun _ _ => .inl (by show q < i * 5; exact h8)), World.cell?_setCells_out b _ _ _ _ (fun _ _ => .inl (by show q < (i + 1) * 5; omega))]; rw [List.getElem?_append_left (by omega), <- Qrg, List.getElem?_take, if_pos h8] at hu; exact h7 q u hu
    · rw [List.getElem?_append_right (by omega), hti] at hu
      by_cases h9 : q < (i + 1) * 5
      · have hin := World.cell?_setCells_in b (txL k) (i * 5) (w.drew.setCells b ((i + 1) * 5) (flT (l.drop i))) (fun j hj => Qq d1 (by have : j < 5 := hj; omega)) (q - i * 5) (by show _ < 5; omega); rw [show i * 5 + (q - i * 5) = q by omega] at hin; rw [hin, <- List.getElem?_eq_getElem]; rw [List.getElem?_append_left (by show _ < 5; omega)] at hu; exact hu
      · rw [World.cell?_setCells_out b _ _ _ _ (fun _ _ => .inr (by show i * 5 + 5 <= q; omega))]
        have hq : q - i * 5 - 5 < (l.length - i) * 5 := by
          have := (List.getElem?_eq_some_iff.1 hu).1; rw [List.length_append, hfl] at this; have h10 : (txL k).length = 5 := rfl; omega
        have hin := World.cell?_setCells_in b (flT (l.drop i)) ((i + 1) * 5) w.drew (fun j hj => Qq h2' (by omega)) (q - i * 5 - 5) (by omega); rw [show (i + 1) * 5 + (q - i * 5 - 5) = q by omega] at hin; rw [hin, <- List.getElem?_eq_getElem]; rw [List.getElem?_append_right (by show 5 <= _; omega)] at hu; exact hu
theorem Qmu (w : World) (b cap : Nat) (l : List Tx) (h : RT w ⟨some b, cap⟩ l) (i : Nat) (hi : i < l.length) (hr : l.length + 1 <= cap) (k : Tx) (g : Nat) (hg : Qa w g 42 (txA k)) (hgb : g ≠ b) (hl : l.length <= 1000000) :
    Calls Try.prog 68 #[.slice (some ⟨b, 0, none⟩) l.length cap, .int .i64 (i : Int), .slice (some ⟨g, 0, none⟩) 1 1] w (Qhf w ⟨some b, cap⟩ l i k) := by
  have HD := Qb (shT_laid (k := k) h hi hr); have HG : Qhf w ⟨some b, cap⟩ l i k (.returned (.slice (some ⟨b, 0, none⟩) (l.length + 1) cap)) (ShWT w b i l k) := ⟨⟨some b, cap⟩, rfl, HD.out.1, HD.out.2.weak (fun q hq => by rw [hq]; rfl), fun q hq => .inl hq⟩; have hcap2 : cap <= 9223372036854775807 := by have := h.cap.2; unfold maxLen at this; exact this
  obtain ⟨cs, hrow, hcs, hcl⟩ : ∃ cs, Qa w b 42 cs /\ cs.size = cap * 5 /\ ∀ j u, (flT l)[j]? = some u -> w.cell? ⟨b, j, none⟩ = some u := by
    rcases h with ⟨h1, _⟩ | ⟨b', cs, h1, h2, h3, h4, h5, h6, h7⟩
    · cases h1
    · injection h1 with h1; subst h1; exact ⟨cs, h2, h3, h7⟩
  have hrow' : Qa w.drew b 42 cs := hrow; have hfl : (flT (l.drop i)).length = (l.length - i) * 5 := by rw [Qra, List.length_drop]
  have hov : ∀ lb cb, (callFunc 85 #[.slice (some ⟨g, 0, none⟩) 1 1, .slice (some ⟨b, (i + 1) * 5, none⟩) lb cb]).run Try.prog w = .ok (.value (.bool false)) w := fun lb cb => overT w g b ((i + 1) * 5) 1 1 lb cb hgb _ _ _ _ hg hrow (by omega)
  have hcp1 : ∀ ty dc sc, (Builtin.copy_ #[25, 25] ty #[.slice (some ⟨b, (i + 1) * 5, none⟩) (l.length - i) dc, .slice (some ⟨b, i * 5, none⟩) (l.length + 1 - i) sc]).run Try.prog w.drew = .ok (goInt ((l.length - i : Nat) : Int)) (w.drew.setCells b ((i + 1) * 5) (flT (l.drop i))) := fun ty dc sc => by
    have := Qva (P := Try.prog) w.drew 25 25 ty 42 5 b ((i + 1) * 5) (l.length - i) dc ⟨b, i * 5, none⟩ (l.length + 1 - i) sc (flT (l.drop i)) Try.underlying25 Qdc (by rw [hfl, show Nat.min (l.length + 1 - i) (l.length - i) = l.length - i from Nat.min_eq_right (by omega)])
      (fun j v hj => by rw [Addr.add_lit]; exact hcl _ v (by rw [<- Qvm, List.getElem?_drop] at hj; exact hj))
      (fun j hj => Qq hrow' (by omega)) (fun j hj => hrow'.free _) (Qtm _)
    rwa [show Nat.min (l.length + 1 - i) (l.length - i) = l.length - i from Nat.min_eq_right (by omega)] at this
  obtain ⟨ds, d1, d2⟩ := Qk (flT (l.drop i)) ((i + 1) * 5) w.drew b _ cs hrow'; have hgr : Qa (w.drew.setCells b ((i + 1) * 5) (flT (l.drop i))) g 42 (txA k) := (Qp (flT (l.drop i)) ((i + 1) * 5) w.drew b (Is b) rfl).row (show Qa w.drew g _ _ from hg) hgb
  have hcp2 : ∀ ty dc, (Builtin.copy_ #[25, 25] ty #[.slice (some ⟨b, i * 5, none⟩) (l.length + 1 - i) dc, .slice (some ⟨g, 0, none⟩) 1 1]).run Try.prog (w.drew.setCells b ((i + 1) * 5) (flT (l.drop i))) = .ok (goInt 1) (ShWT w b i l k) := fun ty dc => by
    have := Qva (P := Try.prog) (w.drew.setCells b ((i + 1) * 5) (flT (l.drop i))) 25 25 ty 42 5 b (i * 5) (l.length + 1 - i) dc ⟨g, 0, none⟩ 1 1 (txL k) Try.underlying25 Qdc (by rw [show Nat.min 1 (l.length + 1 - i) = 1 from Nat.min_eq_left (by omega)]; rfl)
      (fun j v hj => by rw [Addr.add_lit, Nat.zero_add]; exact Qne hgr j v hj)
      (fun j hj => Qq d1 (by have : j < 5 := hj; omega)) (fun j hj => d1.free _) (Qem k)
    rwa [show Nat.min 1 (l.length + 1 - i) = 1 from Nat.min_eq_left (by omega)] at this
  obtain ⟨W2, hW2⟩ : ∃ W2, W2 = ShWT w b i l k := ⟨_, rfl⟩; rw [<- hW2] at HG hcp2; obtain ⟨W1, hW1⟩ : ∃ W1, W1 = w.drew.setCells b ((i + 1) * 5) (flT (l.drop i)) := ⟨_, rfl⟩; rw [<- hW1] at hcp1 hcp2; have HH := Qb HG; clear hW1 hW2 d1 d2 hgr hfl hrow hrow' hcl hcs h HG HD hg; generalize l.length = n at *; have hz2 : ((i : Int) == (n : Int)) = false := by rw [beq_eq_false_iff_ne]; omega
  have hz3 : ¬ (cap : Int) < (n : Int) + 1 := by omega
  have hz4 : (n : Int) + 1 <= (cap : Int) := by omega
  have htn : ((i : Int) + 1).toNat = i + 1 := by omega
  have hw1 : IntKind.i64.wrap ((i : Int) + 1) = (i : Int) + 1 := by rw [IntKind.wrap_i64]; omega
  have hb1 : (0 : Int) <= (i : Int) + 1 := by omega
  have hb2 : ¬ (cap = i + 1) := by omega
  have hb3 : (i : Int) <= (n : Int) + 1 := by omega
  have hb4 : ¬ (cap = i) := by omega
  have hb5 : (i : Int) + 1 <= (n : Int) + 1 := by omega
  have hin : i <= n := by omega
  have hin2 : (i : Int) <= (n : Int) := by omega
  go_enter Try.func68, Try.ntmps68; go_wp2_with (simp only [hov]); go_region_law (refine Qgc rfl (.tmp 73) (.tmp 76) 25 25 rfl (.slice (some ⟨b, (i + 1) * 5, none⟩) (n - i) (cap - (i + 1))) (.slice (some ⟨b, i * 5, none⟩) (n + 1 - i) (cap - i)) ?h1 ?h2 (hcp1 _ _ _) ?_; (case h1 => simp [Act.eval, Act.put]); (case h2 => simp [Act.eval, Act.put])); go_wp2_with (at_builtin; refine Qrb _ rfl _ _ 25 25 rfl _ _ rfl rfl (hcp2 _ _) ?_); go_ret; exact HH.out
def Qin (l : List Tx) (i G : Nat) : Array Value := (flT (l.take i)).toArray ++ Builtin.zeroCells Qud (l.length + 1 - i) ++ Builtin.zeroCells Qud (G - (l.length + 1))
def GrWT (w : World) (i G : Nat) (l : List Tx) (k : Tx) : World := ((w.drew.alloc (.cells (Qin l i G) 42)).setCells w.heap.size (i * 5) (txL k)).drew.setCells w.heap.size ((i + 1) * 5) (flT (l.drop i))
theorem Qzo (l : List Tx) (i G : Nat) (hi : i <= l.length) (hG : l.length + 1 <= G) : (Qin l i G).size = G * 5 := by
  have h1 : ∀ n, (Builtin.zeroCells Qud n).size = n * 5 := fun n => by rw [<- Array.length_toList]; exact Qil n
  unfold Qin; rw [Array.size_append, Array.size_append, h1, h1, List.size_toArray, Qra, List.length_take]; omega
theorem GrAT_get (l : List Tx) (i G : Nat) (hi : i <= l.length) (q : Nat) (hq : q < i * 5) : (Qin l i G)[q]? = (flT l)[q]? := by
  have e : (flT (l.take i)).length = i * 5 := by rw [Qra, List.length_take]; omega
  unfold Qin; rw [Array.getElem?_append_left (by rw [Array.size_append, List.size_toArray]; omega), Array.getElem?_append_left (by rw [List.size_toArray]; omega), List.getElem?_toArray, <- Qrg, List.getElem?_take, if_pos hq]
theorem grT_laid {w : World} {i G : Nat} {l : List Tx} {k : Tx} (hi : i < l.length) (hG : l.length + 1 <= G) (hG2 : G <= maxLen) : RT (GrWT w i G l k) ⟨some w.heap.size, G⟩ (Qyf l i k) /\ Below w.heap.size w (GrWT w i G l k) := by
  have h0 : Qa (w.drew.alloc (.cells (Qin l i G) 42)) w.heap.size 42 (Qin l i G) := Qa.new w.drew _ _; have hb0 : Below w.heap.size w (w.drew.alloc (.cells (Qin l i G) 42)) := (Below.refl w.heap.size w).drew.alloc (Nat.le_refl _) _; have hsz := Qzo l i G (by omega) hG
  have hT : Below w.heap.size w (GrWT w i G l k) := by
    have t1 := Qp (txL k) (i * 5) (w.drew.alloc (.cells (Qin l i G) 42)) w.heap.size (Is w.heap.size) rfl; have t2 := Qp (flT (l.drop i)) ((i + 1) * 5) ((w.drew.alloc (.cells (Qin l i G) 42)).setCells w.heap.size (i * 5) (txL k)).drew w.heap.size (Is w.heap.size) rfl; have t3 := t1.drew.then t2; exact hb0.trans (t3.below (fun q hq => by rw [hq]; exact Nat.le_refl _) hb0.size)
  refine ⟨?_, hT⟩; obtain ⟨ds, d1, d2⟩ := Qk (txL k) (i * 5) _ w.heap.size _ _ h0; have d1' : Qa ((w.drew.alloc (.cells (Qin l i G) 42)).setCells w.heap.size (i * 5) (txL k)).drew w.heap.size 42 ds := Qgj d1; obtain ⟨es, e1, e2⟩ := Qk (flT (l.drop i)) ((i + 1) * 5) _ w.heap.size _ _ d1'; have hfl : (flT (l.drop i)).length = (l.length - i) * 5 := by rw [Qra, List.length_drop]
  refine .inr ⟨w.heap.size, es, rfl, e1, by rw [e2, d2]; exact hsz, by rw [Qlk _ _ _ (by omega)]; exact hG, Nat.zero_le _, hG2, fun q u hu => ?_⟩; have hti : (flT (l.take i)).length = i * 5 := by rw [Qra, List.length_take]; omega
  rw [flT_ins] at hu; unfold GrWT
  by_cases h8 : q < i * 5
  · rw [World.cell?_setCells_out _ _ _ _ _ (fun _ _ => .inl (by show q < (i + 1) * 5; omega))]; rw [Qkg]; rw [World.cell?_setCells_out _ _ _ _ _ (fun _ _ => .inl (by show q < i * 5; exact h8))]; rw [List.getElem?_append_left (by omega), <- Qrg, List.getElem?_take, if_pos h8] at hu; exact h0.cell q u (by rw [GrAT_get l i G (by omega) q h8]; exact hu)
  · rw [List.getElem?_append_right (by omega), hti] at hu
    by_cases h9 : q < (i + 1) * 5
    · rw [World.cell?_setCells_out _ _ _ _ _ (fun _ _ => .inl (by show q < (i + 1) * 5; exact h9))]; rw [Qkg]; have hin := World.cell?_setCells_in w.heap.size (txL k) (i * 5) (w.drew.alloc (.cells (Qin l i G) 42)) (fun j hj => Qq h0 (by have : j < 5 := hj; omega)) (q - i * 5) (by show _ < 5; omega); rw [show i * 5 + (q - i * 5) = q by omega] at hin; rw [hin, <- List.getElem?_eq_getElem]; rw [List.getElem?_append_left (by show _ < 5; omega)] at hu; exact hu
    · have hq : q - i * 5 - 5 < (l.length - i) * 5 := by
        have := (List.getElem?_eq_some_iff.1 hu).1; rw [List.length_append, hfl] at this; have h10 : (txL k).length = 5 := rfl; omega
      have hin := World.cell?_setCells_in w.heap.size (flT (l.drop i)) ((i + 1) * 5) ((w.drew.alloc (.cells (Qin l i G) 42)).setCells w.heap.size (i * 5) (txL k)).drew (fun j hj => Qq d1' (by omega)) (q - i * 5 - 5) (by omega); rw [show (i + 1) * 5 + (q - i * 5 - 5) = q by omega] at hin; rw [hin, <- List.getElem?_eq_getElem]; rw [List.getElem?_append_right (by show 5 <= _; omega)] at hu; exact hu
theorem insT_grow (w : World) (b cap : Nat) (l : List Tx) (h : RT w ⟨some b, cap⟩ l) (i : Nat) (hi : i < l.length) (hr : cap < l.length + 1) (k : Tx) (g : Nat) (hg : Qa w g 42 (txA k)) (hl : l.length <= 1000000) :
    Calls Try.prog 68 #[.slice (some ⟨b, 0, none⟩) l.length cap, .int .i64 (i : Int), .slice (some ⟨g, 0, none⟩) 1 1] w (Qhf w ⟨some b, cap⟩ l i k) := by
  obtain ⟨ii, hi0, hi1⟩ := Option.map_eq_some_iff.1 Qci; simp only [Prod.mk.injEq] at hi1; obtain ⟨G, hG⟩ : ∃ G, G = grownCap w (l.length + 1) cap 42 := ⟨_, rfl⟩; have hG1 : l.length + 1 <= G := by rw [hG]; exact grownCap_ge w _ _ _
  have hG2 : G <= maxLen := by rw [hG]; exact grownCap_le_maxLen w _ _ _ (by unfold maxLen; omega)
  have hG3 : G <= 9223372036854775807 := by unfold maxLen at hG2; exact hG2
  have HD := grT_laid (w := w) (k := k) hi hG1 hG2; have HG : Qhf w ⟨some b, cap⟩ l i k (.returned (.slice (some ⟨w.heap.size, 0, none⟩) (l.length + 1) G)) (GrWT w i G l k) := ⟨⟨some w.heap.size, G⟩, rfl, HD.1, Tn.of_below HD.2, fun q hq => .inr (by injection hq with hq; omega)⟩
  obtain ⟨cs, hrow, hcs, hcl, hnc⟩ : ∃ cs, Qa w b 42 cs /\ cs.size = cap * 5 /\ (∀ j u, (flT l)[j]? = some u -> w.cell? ⟨b, j, none⟩ = some u) /\ l.length <= cap := by
    rcases h with ⟨h1, _⟩ | ⟨b', cs, h1, h2, h3, h4, h5, h6, h7⟩
    · cases h1
    · injection h1 with h1; subst h1; exact ⟨cs, h2, h3, h7, h4⟩
  have hfl : (flT (l.drop i)).length = (l.length - i) * 5 := by rw [Qra, List.length_drop]
  have hold : (Builtin.firstCells ii.size i (.slice (some ⟨b, 0, none⟩) i cap)).run Try.prog w.drew = .ok (flT (l.take i)).toArray w.drew := by
    rw [hi1.2.1]
    exact run_firstCells_some w.drew 5 i ⟨b, 0, none⟩ i cap (flT (l.take i)) (by rw [Qra, List.length_take]; omega) (fun j v hj => by
      rw [Addr.add_lit, Nat.zero_add]; rw [<- Qrg, List.getElem?_take] at hj
      split at hj
      · exact hcl j v hj
      · cases hj)
  have hrz : ∀ ty, (Builtin.append_ #[25, 3] ty #[.slice (some ⟨b, 0, none⟩) i cap, .int .i64 ((l.length : Int) + 1 - (i : Int))]).run Try.prog w = .ok (.slice (some ⟨w.heap.size, 0, none⟩) (l.length + 1) G) (w.drew.alloc (.cells (Qin l i G) 42)) := fun ty => by
    have h := Lib.run_append_grow_zeros (P := Try.prog) w 25 3 ty 42 ii (.agg Qud) .i64 .i64 Try.underlying25 Try.underlying3 hi0 hi1.1 (some ⟨b, 0, none⟩) i cap (flT (l.take i)) hold (l.length + 1 - i) (by omega) (by omega) (by omega) (by omega) (by rw [hi1.2.2]; omega) (by rw [hi1.2.2, show i + (l.length + 1 - i) = l.length + 1 by omega]; exact growslice_fits hr (by omega)); rw [show i + (l.length + 1 - i) = l.length + 1 by omega] at h; rw [show (l.length : Int) + 1 - (i : Int) = ((l.length + 1 - i : Nat) : Int) by omega, hG]; exact h
  have h0 : Qa (w.drew.alloc (.cells (Qin l i G) 42)) w.heap.size 42 (Qin l i G) := Qa.new w.drew _ _; have hsz := Qzo l i G (by omega) hG1; have hgr : Qa (w.drew.alloc (.cells (Qin l i G) 42)) g 42 (txA k) := hg.later ((Below.refl w.heap.size w).drew.alloc (Nat.le_refl _) _); obtain ⟨W1, hW1⟩ : ∃ W1, W1 = w.drew.alloc (.cells (Qin l i G) 42) := ⟨_, rfl⟩; have hbk : Qa W1 b 42 cs := by rw [hW1]; exact hrow.later ((Below.refl w.heap.size w).drew.alloc (Nat.le_refl _) _)
  have hbc : ∀ j u, (flT l)[j]? = some u -> W1.cell? ⟨b, j, none⟩ = some u := fun j u hu => hbk.cell j u (by rw [<- cell_of_row w b j _ _ (0, 0) hrow]; exact hcl j u hu)
  rw [<- hW1] at h0 hgr hrz
  have hcpA : ∀ ty dc, (Builtin.copy_ #[25, 25] ty #[.slice (some ⟨w.heap.size, i * 5, none⟩) (l.length + 1 - i) dc, .slice (some ⟨g, 0, none⟩) 1 1]).run Try.prog W1 = .ok (goInt 1) (W1.setCells w.heap.size (i * 5) (txL k)) := fun ty dc => by
    have := Qva (P := Try.prog) W1 25 25 ty 42 5 w.heap.size (i * 5) (l.length + 1 - i) dc ⟨g, 0, none⟩ 1 1 (txL k) Try.underlying25 Qdc (by rw [show Nat.min 1 (l.length + 1 - i) = 1 from Nat.min_eq_left (by omega)]; rfl)
      (fun j v hj => by rw [Addr.add_lit, Nat.zero_add]; exact Qne hgr j v hj)
      (fun j hj => Qq h0 (by have : j < 5 := hj; omega)) (fun j hj => h0.free _) (Qem k)
    rwa [show Nat.min 1 (l.length + 1 - i) = 1 from Nat.min_eq_left (by omega)] at this
  obtain ⟨W2, hW2⟩ : ∃ W2, W2 = W1.setCells w.heap.size (i * 5) (txL k) := ⟨_, rfl⟩; obtain ⟨ds, d1, d2⟩ := Qk (txL k) (i * 5) W1 w.heap.size _ _ h0; have hne : b ≠ w.heap.size := by have := hrow.lt; omega
  have hbk2 : Qa W2 b 42 cs := by rw [hW2]; exact (Qp (txL k) (i * 5) W1 w.heap.size (Is w.heap.size) rfl).row hbk hne
  rw [<- hW2] at d1 hcpA; have d1' : Qa W2.drew w.heap.size 42 ds := d1; have hbk2' : Qa W2.drew b 42 cs := hbk2
  have hcpB : ∀ ty dc sc, (Builtin.copy_ #[25, 25] ty #[.slice (some ⟨w.heap.size, (i + 1) * 5, none⟩) (l.length - i) dc, .slice (some ⟨b, i * 5, none⟩) (l.length - i) sc]).run Try.prog W2.drew = .ok (goInt ((l.length - i : Nat) : Int)) (GrWT w i G l k) := fun ty dc sc => by
    have := Qva (P := Try.prog) W2.drew 25 25 ty 42 5 w.heap.size ((i + 1) * 5) (l.length - i) dc ⟨b, i * 5, none⟩ (l.length - i) sc (flT (l.drop i)) Try.underlying25 Qdc (by rw [hfl, show Nat.min (l.length - i) (l.length - i) = l.length - i from Nat.min_self _])
      (fun j v hj => by
        rw [Addr.add_lit]
        rw [<- Qvm, List.getElem?_drop] at hj
        have := hcl _ v hj
        rw [cell_of_row w b _ _ _ (0, 0) hrow] at this
        exact hbk2'.cell _ v this)
      (fun j hj => Qq d1' (by omega)) (fun j hj => d1'.free _) (Qtm _)
    rw [show Nat.min (l.length - i) (l.length - i) = l.length - i from Nat.min_self _] at this; rw [this, hW2, hW1]; rfl
  obtain ⟨W3, hW3⟩ : ∃ W3, W3 = GrWT w i G l k := ⟨_, rfl⟩; rw [<- hW3] at HG hcpB; have HH := Qb HG; have hgb : b < w.heap.size := hrow.lt; clear hW1 hW2 hW3 d1 d2 d1' hbk2 hbk2' hbk hbc hgr hfl hrow hcl hcs h HG HD hg h0 hsz hold hi1 hi0 hG hG2; generalize l.length = n at *; generalize w.heap.size = N at *; have hz2 : ((i : Int) == (n : Int)) = false := by rw [beq_eq_false_iff_ne]; omega
  have hz3 : (cap : Int) < (n : Int) + 1 := by omega
  have htn : ((i : Int) + 1).toNat = i + 1 := by omega
  have hw1 : IntKind.i64.wrap ((i : Int) + 1) = (i : Int) + 1 := by rw [IntKind.wrap_i64]; omega
  have hb1 : (0 : Int) <= (i : Int) + 1 := by omega
  have hb2 : ¬ (cap = i + 1 /\ False) := by simp
  have hb3 : (i : Int) <= (n : Int) + 1 := by omega
  have hb4 : ¬ (cap = i) := by omega
  have hb6 : ¬ (G = i) := by omega
  have hb7 : ¬ (G = i + 1) := by omega
  have hb8 : (n : Int) + 1 <= (G : Int) := by omega
  have hb5 : (i : Int) + 1 <= (n : Int) + 1 := by omega
  have hin : i <= n := by omega
  have hin2 : (i : Int) <= (n : Int) := by omega
  have hin3 : (i : Int) <= (cap : Int) := by omega
  go_enter Try.func68, Try.ntmps68
  go_wp2_with (first
    | (at_builtin; refine Lib.wpList_append_run _ rfl _ _ _ _ rfl _ _ rfl rfl _ _ (hrz _) ?_)
    | (at_builtin; refine Qrb _ rfl _ _ 25 25 rfl _ _ rfl rfl (hcpA _ _) ?_))
  go_region_law (refine Qgc rfl (.tmp 50) (.tmp 53) 25 25 rfl (.slice (some ⟨N, (i + 1) * 5, none⟩) (n - i) (G - (i + 1))) (.slice (some ⟨b, i * 5, none⟩) (n - i) (cap - i)) ?h1 ?h2 (hcpB _ _ _) ?_; (case h1 => simp [Act.eval, Act.put]); (case h2 => simp [Act.eval, Act.put])); go_wp2; go_ret; exact HH.out
theorem insT (w : World) (s : Sl) (l : List Tx) (h : RT w s l) (i : Nat) (hi : i <= l.length) (k : Tx) (g : Nat) (hg : Qa w g 42 (txA k)) (hgb : s.b ≠ some g) (hl : l.length <= 1000000) :
    Calls Try.prog 68 #[slV s l.length, .int .i64 (i : Int), .slice (some ⟨g, 0, none⟩) 1 1] w (Qhf w s l i k) := by
  by_cases hn : i = l.length
  · subst hn; exact insT_end w s l h k g hg hl
  · obtain ⟨o, c⟩ := s
    cases o with
    | none =>
      rcases h with ⟨_, rfl, _⟩ | ⟨b, cs, h1, _⟩
      · simp at hi; exact absurd hi (by simpa using hn)
      · cases h1
    | some b =>
      by_cases hr : l.length + 1 <= c
      · exact Qmu w b c l h i (by omega) hr k g hg (fun e => hgb (by rw [e])) hl
      · exact insT_grow w b c l h i (by omega) (by omega) k g hg hl
def Qsd : Array Value := #[.int .i64 0, .int .u64 0]
theorem Qxu (n : Nat) : ∀ v ∈ (Builtin.zeroCells Qsd n).toList, v.oneCell' = true := by
  intro v hv; simp only [Builtin.zeroCells, Array.toList_map, List.mem_map] at hv; obtain ⟨i, _, rfl⟩ := hv; have h : Qsd.size = 2 := rfl; rw [h]; have h2 : i % 2 < 2 := Nat.mod_lt _ (by decide); generalize i % 2 = j at h2; have h3 : j = 0 ∨ j = 1 := by omega
  rcases h3 with rfl | rfl <;> rfl
theorem Qpl (n : Nat) : (Builtin.zeroCells Qsd n).toList.length = n * 2 := by
  simp [Builtin.zeroCells, show Qsd.size = 2 from rfl]
theorem run_clearD (w : World) (ty : TypeId) (b o n c : Nat) (hn : 0 < n) (hc : ∀ j, j < n * 2 -> (w.cell? ⟨b, o + j, none⟩).isSome = true) (hf : ∀ j, w.frozen? ⟨b, j, none⟩ = false) :
    (Builtin.clear_ #[26] ty #[.slice (some ⟨b, o, none⟩) n c]).run Try.prog w = .ok (.tuple #[]) (w.setCells b o (Builtin.zeroCells Qsd n).toList) := by
  have hst := run_storeCells_cells (P := Try.prog) b o (Builtin.zeroCells Qsd n).toList 0 w (by rw [Qpl]; simpa using hc) (fun j _ => by simpa using hf _) (Qxu n); simp only [Nat.add_zero] at hst; obtain ⟨m, rfl⟩ : ∃ m, n = m + 1 := ⟨n - 1, by omega⟩; simp [Builtin.clear_, run_underlying (P := Try.prog) Try.underlying26]; change ((Sem.run Try.prog (storeCells ⟨b, o, none⟩ (Builtin.zeroCells Qsd (m + 1)).toList) w).andThen fun a w' => Result.ok (Value.tuple #[]) w') = _; rw [hst]; rfl
def DelWD (w : World) (b i j n : Nat) (l : List Di) : World := (w.drew.setCells b (i * 2) (flD (l.drop j))).setCells b ((i + (n - j)) * 2) (Builtin.zeroCells Qsd (n - (i + (n - j)))).toList
theorem delD_laid {w : World} {b cap i j : Nat} {l : List Di} (h : RD w ⟨some b, cap⟩ l) (hij : i <= j) (hj : j <= l.length) :
    RD (DelWD w b i j l.length l) ⟨some b, cap⟩ (l.take i ++ l.drop j) /\ Tn (Is b) w (DelWD w b i j l.length l) := by
  have hT : Tn (Is b) w (DelWD w b i j l.length l) := ((Tn.refl (Is b) w).drew.then (Qp _ _ _ b (Is b) (show Is b b from rfl))).then (Qp _ _ _ b (Is b) (show Is b b from rfl)); refine ⟨?_, hT⟩
  rcases h with ⟨h1, _⟩ | ⟨b', cs, h1, h2, h3, h4, h5, h6, h7⟩
  · cases h1
  · injection h1 with h1; subst h1; have h2' : Qa w.drew b 81 cs := h2; have hsz : cs.size = cap * 2 := h3; have h4' : l.length <= cap := h4; obtain ⟨ds, d1, d2⟩ := Qk (flD (l.drop j)) (i * 2) w.drew b _ cs h2'; obtain ⟨es, e1, e2⟩ := Qk (Builtin.zeroCells Qsd (l.length - (i + (l.length - j)))).toList ((i + (l.length - j)) * 2) _ b _ ds d1; have hfl : (flD (l.drop j)).length = (l.length - j) * 2 := by rw [Qwa, List.length_drop]
    refine .inr ⟨b, es, rfl, e1, by rw [e2, d2]; exact h3, by rw [List.length_append, List.length_take, List.length_drop]; show _ <= cap; omega, h5, h6, fun q u hu => ?_⟩
    have hq : q < (i + (l.length - j)) * 2 := by
      have := (List.getElem?_eq_some_iff.1 hu).1; rw [Qwa, List.length_append, List.length_take, List.length_drop] at this; have : min i l.length = i := by omega
      omega
    unfold DelWD; rw [World.cell?_setCells_out b _ _ _ _ (fun _ _ => .inl (by show q < (i + (l.length - j)) * 2; exact hq))]; rw [Qic] at hu; have hti : (flD (l.take i)).length = i * 2 := by rw [Qwa, List.length_take]; omega
    by_cases hqi : q < i * 2
    · rw [World.cell?_setCells_out b _ _ _ _ (fun _ _ => .inl (by show q < i * 2; exact hqi))]; rw [List.getElem?_append_left (by omega), <- Qng, List.getElem?_take, if_pos hqi] at hu; exact h7 q u hu
    · rw [List.getElem?_append_right (by omega), hti] at hu; have hin := World.cell?_setCells_in b (flD (l.drop j)) (i * 2) w.drew (fun k hk => Qq h2' (by omega)) (q - i * 2) (by omega); rw [show i * 2 + (q - i * 2) = q by omega] at hin; rw [hin, <- List.getElem?_eq_getElem]; exact hu
theorem run_pushD (w : World) (ty : TypeId) (s : Sl) (l : List Di) (h : RD w s l) (k : Di) (g c : Nat) (hg : ∀ j u, (diL k)[j]? = some u -> w.cell? ⟨g, j, none⟩ = some u) (hl : l.length <= 1000000) :
    ∃ s' w', (Builtin.append_ #[26, 26] ty #[slV s l.length, .slice (some ⟨g, 0, none⟩) 1 c]).run Try.prog w = .ok (slV s' (l.length + 1)) w' /\ RD w' s' (l ++ [k]) /\ Tn (ofS s) w w' /\ (∀ q, s'.b = some q -> s.b = some q ∨ w.heap.size <= q) := by
  obtain ⟨i, hi0, hi1⟩ := Option.map_eq_some_iff.1 Quj; simp only [Prod.mk.injEq] at hi1
  have hcells : ∀ j u, (diL k)[j]? = some u -> w.cell? ((⟨g, 0, none⟩ : Addr).add j) = some u := fun j u hu => by
    rw [Addr.add_lit, Nat.zero_add]; exact hg j u hu
  have flat : flD (l ++ [k]) = flD l ++ diL k := by rw [Qic, Qkr]
  have own : w.ownsRow 0 81 2 (slV s l.length) l.length (flD l) := by
    refine ⟨Qwa l, ?_⟩
    rcases h with ⟨h1, rfl, h3⟩ | ⟨b, cs, h1, h2, h3, h4, h5, h6, h7⟩
    · left; unfold slV; rw [h1, h3]; exact ⟨rfl, rfl⟩
    · right; refine ⟨b, s.c, cs, by unfold slV; rw [h1]; rfl, Nat.zero_le _, h2, h4, h6, h3, ?_⟩; apply List.ext_getElem?; intro j; rw [List.getElem?_take]
      by_cases hj : j < l.length * 2
      · rw [if_pos hj]; have hj2 : j < (flD l).length := by rw [Qwa]; exact hj
        have h8 := h7 j _ (List.getElem?_eq_getElem hj2); rw [cell_of_row w b j _ _ (0, 0) h2] at h8; rw [Array.getElem?_toList, h8, List.getElem?_eq_getElem hj2]
      · rw [if_neg hj, List.getElem?_eq_none (by rw [Qwa]; omega)]
  obtain ⟨v', w', r1, r2, r3, _, r5⟩ := run_append_own_at (P := Try.prog) w 0 26 ty 81 i (.agg Qsd) 2 16 Try.underlying26 hi0 hi1.1 hi1.2.1 hi1.2.2 rfl (by omega) (slV s l.length) l.length (flD l) own ⟨g, 0, none⟩ 1 c (diL k) rfl hcells (Qjm k) (by unfold maxLen; omega) (by omega) (Nat.zero_le _); rw [<- flat] at r2; obtain ⟨s', rfl, h1, _⟩ := RD.fresh (l := l ++ [k]) (by simp) (by omega) r2
  have hob : ∀ (s : Sl) (n : Nat), (slV s n).ownBlock = s.b := by
    rintro ⟨_ | b, c⟩ n <;> rfl
  rw [hob, hob] at r5; rw [hob] at r3; refine ⟨s', w', r1, h1, Tn.of_grown r3 (fun k hk => hk), fun q hq => ?_⟩
  rcases r5 with r5 | r5
  · exact .inl (r5.symm.trans hq)
  · rw [r5] at hq; injection hq with hq; exact .inr (by omega)
theorem overD (w : World) (vb b i m vc lb cb : Nat) (hne : vb ≠ b) (tA tB : TypeId) (va vs : Array Value) (hA : Qa w vb tA va) (hB : Qa w b tB vs) (hz : vs.size ≠ 0) :
    (callFunc 88 #[.slice (some ⟨vb, 0, none⟩) m vc, .slice (some ⟨b, i, none⟩) lb cb]).run Try.prog w = .ok (.value (.bool false)) w := by
  have hsa : w.shape? vb = some (tA, va.size) := by
    have e : w.heap[vb]? = some (.cells va tA (0, 0)) := hA; simp [World.shape?, e]
  have hsb : w.shape? b = some (tB, vs.size) := by
    have e : w.heap[b]? = some (.cells vs tB (0, 0)) := hB; simp [World.shape?, e]
  rw [run_callFunc_extern Try.func88 (by kernel_rfl) (by kernel_rfl) (by kernel_rfl) (e := Extern.SlicesOverlaps.overlaps #[26, 26] #[4]) (by kernel_rfl),
    Lib.run_overlaps_apart w 26 4 81 Try.underlying26 2 (fun w => by kernel_rfl) ⟨vb, 0, none⟩ ⟨b, i, none⟩ m vc lb cb hne tA tB va.size vs.size hsa hsb hz (hA.free _) (hA.free _)]
  rfl
def Qoh (l : List Di) (i : Nat) (k : Di) : List Di := l.take i ++ k :: l.drop i
theorem Qek (l : List Di) (i : Nat) (k : Di) (hi : i <= l.length) : (Qoh l i k).length = l.length + 1 := by
  unfold Qoh; rw [List.length_append, List.length_cons, List.length_take, List.length_drop]; omega
theorem flD_ins (l : List Di) (i : Nat) (k : Di) : flD (Qoh l i k) = flD (l.take i) ++ (diL k ++ flD (l.drop i)) := by
  unfold Qoh; rw [Qic, show k :: l.drop i = [k] ++ l.drop i from rfl, Qic, Qkr]
def Qjf (w : World) (s : Sl) (l : List Di) (i : Nat) (k : Di) (e : Ending) (w' : World) : Prop := ∃ s', e = .returned (slV s' (l.length + 1)) /\ RD w' s' (Qoh l i k) /\ Tn (ofS s) w w' /\ ∀ q, s'.b = some q -> s.b = some q ∨ w.heap.size <= q
theorem Qre {w : World} {g : Nat} {t : TypeId} {k : Di} (hg : Qa w g t (diA k)) : ∀ j u, (diL k)[j]? = some u -> w.cell? ⟨g, j, none⟩ = some u := fun j u hu => hg.cell j u (by
  have : (diA k).toList = diL k := rfl; rw [<- Array.getElem?_toList, this]
  exact hu)
theorem insD_end (w : World) (s : Sl) (l : List Di) (h : RD w s l) (k : Di) (g : Nat) (hg : Qa w g 81 (diA k)) (hl : l.length <= 1000000) :
    Calls Try.prog 71 #[slV s l.length, .int .i64 (l.length : Int), .slice (some ⟨g, 0, none⟩) 1 1] w (Qjf w s l l.length k) := by
  obtain ⟨s', w', r1, r2, r3, r4⟩ := run_pushD w 26 s l h k g 1 (Qre hg) hl; have HE := Qb (show ∃ s', Qjf w s l l.length k (.returned (slV s' (l.length + 1))) w' /\ s' = s' from ⟨s', ⟨s', rfl, by unfold Qoh; rw [List.take_length, List.drop_length]; exact r2, r3, r4⟩, rfl⟩); have HG := Qb (show Qjf w s l l.length k (.returned (slV s' (l.length + 1))) w' from ⟨s', rfl, by unfold Qoh; rw [List.take_length, List.drop_length]; exact r2, r3, r4⟩); have hcap := h.cap; clear HE r2 r3 r4 hg h; obtain ⟨o, c⟩ := s; obtain ⟨v', hv'⟩ : ∃ v', v' = slV s' (l.length + 1) := ⟨_, rfl⟩; rw [<- hv'] at r1 HG; clear hv'; have hc1 : l.length <= c := hcap.1; have hc2 : c <= 9223372036854775807 := by have := hcap.2; unfold maxLen at this; exact this
  clear hcap; generalize l.length = n at *
  cases o with
  | none =>
    have r1' : (Builtin.append_ #[26, 26] 26 #[.slice none n c, .slice (some ⟨g, 0, none⟩) 1 1]).run Try.prog w = .ok v' w' := r1; show Calls _ _ #[.slice none n c, _, _] w _; clear r1; go_enter Try.func71, Try.ntmps71; go_wp2_with (at_builtin; refine Lib.wpList_append_run _ rfl _ _ _ _ rfl _ _ rfl rfl _ _ r1' ?_)
    all_goals
      go_ret; exact HG.out
  | some b =>
    have r1' : (Builtin.append_ #[26, 26] 26 #[.slice (some ⟨b, 0, none⟩) n c, .slice (some ⟨g, 0, none⟩) 1 1]).run Try.prog w = .ok v' w' := r1; show Calls _ _ #[.slice (some ⟨b, 0, none⟩) n c, _, _] w _; clear r1; go_enter Try.func71, Try.ntmps71; go_wp2_with (at_builtin; refine Lib.wpList_append_run _ rfl _ _ _ _ rfl _ _ rfl rfl _ _ r1' ?_)
    all_goals
      go_ret; exact HG.out
def ShWD (w : World) (b i : Nat) (l : List Di) (k : Di) : World := (w.drew.setCells b ((i + 1) * 2) (flD (l.drop i))).setCells b (i * 2) (diL k)
theorem shD_laid {w : World} {b cap i : Nat} {l : List Di} {k : Di} (h : RD w ⟨some b, cap⟩ l) (hi : i < l.length) (hc : l.length + 1 <= cap) : RD (ShWD w b i l k) ⟨some b, cap⟩ (Qoh l i k) /\ Tn (Is b) w (ShWD w b i l k) := by
  have hT : Tn (Is b) w (ShWD w b i l k) := ((Tn.refl (Is b) w).drew.then (Qp _ _ _ b (Is b) (show Is b b from rfl))).then (Qp _ _ _ b (Is b) (show Is b b from rfl)); refine ⟨?_, hT⟩
  rcases h with ⟨h1, _⟩ | ⟨b', cs, h1, h2, h3, h4, h5, h6, h7⟩
  · cases h1
  · injection h1 with h1; subst h1; have h2' : Qa w.drew b 81 cs := h2; have hsz : cs.size = cap * 2 := h3; obtain ⟨ds, d1, d2⟩ := Qk (flD (l.drop i)) ((i + 1) * 2) w.drew b _ cs h2'; obtain ⟨es, e1, e2⟩ := Qk (diL k) (i * 2) _ b _ ds d1; have hfl : (flD (l.drop i)).length = (l.length - i) * 2 := by rw [Qwa, List.length_drop]
    refine .inr ⟨b, es, rfl, e1, by rw [e2, d2]; exact h3, by rw [Qek _ _ _ (by omega)]; exact hc, h5, h6, fun q u hu => ?_⟩; have hti : (flD (l.take i)).length = i * 2 := by rw [Qwa, List.length_take]; omega
    rw [flD_ins] at hu; unfold ShWD
    by_cases h8 : q < i * 2
    · rw [World.cell?_setCells_out b _ _ _ _ (fun _ _ => .inl (by show q < i * 2; exact h8)), World.cell?_setCells_out b _ _ _ _ (fun _ _ => .inl (by show q < (i + 1) * 2; omega))]; rw [List.getElem?_append_left (by omega), <- Qng, List.getElem?_take, if_pos h8] at hu; exact h7 q u hu
    · rw [List.getElem?_append_right (by omega), hti] at hu
      by_cases h9 : q < (i + 1) * 2
      · have hin := World.cell?_setCells_in b (diL k) (i * 2) (w.drew.setCells b ((i + 1) * 2) (flD (l.drop i))) (fun j hj => Qq d1 (by have : j < 2 := hj; omega)) (q - i * 2) (by show _ < 2; omega); rw [show i * 2 + (q - i * 2) = q by omega] at hin; rw [hin, <- List.getElem?_eq_getElem]; rw [List.getElem?_append_left (by show _ < 2; omega)] at hu; exact hu
      · rw [World.cell?_setCells_out b _ _ _ _ (fun _ _ => .inr (by show i * 2 + 2 <= q; omega))]
        have hq : q - i * 2 - 2 < (l.length - i) * 2 := by
          have := (List.getElem?_eq_some_iff.1 hu).1; rw [List.length_append, hfl] at this; have h10 : (diL k).length = 2 := rfl; omega
        have hin := World.cell?_setCells_in b (flD (l.drop i)) ((i + 1) * 2) w.drew (fun j hj => Qq h2' (by omega)) (q - i * 2 - 2) (by omega); rw [show (i + 1) * 2 + (q - i * 2 - 2) = q by omega] at hin; rw [hin, <- List.getElem?_eq_getElem]; rw [List.getElem?_append_right (by show 2 <= _; omega)] at hu; exact hu
theorem Qtu (w : World) (b cap : Nat) (l : List Di) (h : RD w ⟨some b, cap⟩ l) (i : Nat) (hi : i < l.length) (hr : l.length + 1 <= cap) (k : Di) (g : Nat) (hg : Qa w g 81 (diA k)) (hgb : g ≠ b) (hl : l.length <= 1000000) :
    Calls Try.prog 71 #[.slice (some ⟨b, 0, none⟩) l.length cap, .int .i64 (i : Int), .slice (some ⟨g, 0, none⟩) 1 1] w (Qjf w ⟨some b, cap⟩ l i k) := by
  have HD := Qb (shD_laid (k := k) h hi hr); have HG : Qjf w ⟨some b, cap⟩ l i k (.returned (.slice (some ⟨b, 0, none⟩) (l.length + 1) cap)) (ShWD w b i l k) := ⟨⟨some b, cap⟩, rfl, HD.out.1, HD.out.2.weak (fun q hq => by rw [hq]; rfl), fun q hq => .inl hq⟩; have hcap2 : cap <= 9223372036854775807 := by have := h.cap.2; unfold maxLen at this; exact this
  obtain ⟨cs, hrow, hcs, hcl⟩ : ∃ cs, Qa w b 81 cs /\ cs.size = cap * 2 /\ ∀ j u, (flD l)[j]? = some u -> w.cell? ⟨b, j, none⟩ = some u := by
    rcases h with ⟨h1, _⟩ | ⟨b', cs, h1, h2, h3, h4, h5, h6, h7⟩
    · cases h1
    · injection h1 with h1; subst h1; exact ⟨cs, h2, h3, h7⟩
  have hrow' : Qa w.drew b 81 cs := hrow; have hfl : (flD (l.drop i)).length = (l.length - i) * 2 := by rw [Qwa, List.length_drop]
  have hov : ∀ lb cb, (callFunc 88 #[.slice (some ⟨g, 0, none⟩) 1 1, .slice (some ⟨b, (i + 1) * 2, none⟩) lb cb]).run Try.prog w = .ok (.value (.bool false)) w := fun lb cb => overD w g b ((i + 1) * 2) 1 1 lb cb hgb _ _ _ _ hg hrow (by omega)
  have hcp1 : ∀ ty dc sc, (Builtin.copy_ #[26, 26] ty #[.slice (some ⟨b, (i + 1) * 2, none⟩) (l.length - i) dc, .slice (some ⟨b, i * 2, none⟩) (l.length + 1 - i) sc]).run Try.prog w.drew = .ok (goInt ((l.length - i : Nat) : Int)) (w.drew.setCells b ((i + 1) * 2) (flD (l.drop i))) := fun ty dc sc => by
    have := Qva (P := Try.prog) w.drew 26 26 ty 81 2 b ((i + 1) * 2) (l.length - i) dc ⟨b, i * 2, none⟩ (l.length + 1 - i) sc (flD (l.drop i)) Try.underlying26 Qcm (by rw [hfl, show Nat.min (l.length + 1 - i) (l.length - i) = l.length - i from Nat.min_eq_right (by omega)])
      (fun j v hj => by rw [Addr.add_lit]; exact hcl _ v (by rw [<- Qyr, List.getElem?_drop] at hj; exact hj))
      (fun j hj => Qq hrow' (by omega)) (fun j hj => hrow'.free _) (Qzs _)
    rwa [show Nat.min (l.length + 1 - i) (l.length - i) = l.length - i from Nat.min_eq_right (by omega)] at this
  obtain ⟨ds, d1, d2⟩ := Qk (flD (l.drop i)) ((i + 1) * 2) w.drew b _ cs hrow'; have hgr : Qa (w.drew.setCells b ((i + 1) * 2) (flD (l.drop i))) g 81 (diA k) := (Qp (flD (l.drop i)) ((i + 1) * 2) w.drew b (Is b) rfl).row (show Qa w.drew g _ _ from hg) hgb
  have hcp2 : ∀ ty dc, (Builtin.copy_ #[26, 26] ty #[.slice (some ⟨b, i * 2, none⟩) (l.length + 1 - i) dc, .slice (some ⟨g, 0, none⟩) 1 1]).run Try.prog (w.drew.setCells b ((i + 1) * 2) (flD (l.drop i))) = .ok (goInt 1) (ShWD w b i l k) := fun ty dc => by
    have := Qva (P := Try.prog) (w.drew.setCells b ((i + 1) * 2) (flD (l.drop i))) 26 26 ty 81 2 b (i * 2) (l.length + 1 - i) dc ⟨g, 0, none⟩ 1 1 (diL k) Try.underlying26 Qcm (by rw [show Nat.min 1 (l.length + 1 - i) = 1 from Nat.min_eq_left (by omega)]; rfl)
      (fun j v hj => by rw [Addr.add_lit, Nat.zero_add]; exact Qre hgr j v hj)
      (fun j hj => Qq d1 (by have : j < 2 := hj; omega)) (fun j hj => d1.free _) (Qjm k)
    rwa [show Nat.min 1 (l.length + 1 - i) = 1 from Nat.min_eq_left (by omega)] at this
  obtain ⟨W2, hW2⟩ : ∃ W2, W2 = ShWD w b i l k := ⟨_, rfl⟩; rw [<- hW2] at HG hcp2; obtain ⟨W1, hW1⟩ : ∃ W1, W1 = w.drew.setCells b ((i + 1) * 2) (flD (l.drop i)) := ⟨_, rfl⟩; rw [<- hW1] at hcp1 hcp2; have HH := Qb HG; clear hW1 hW2 d1 d2 hgr hfl hrow hrow' hcl hcs h HG HD hg; generalize l.length = n at *; have hz2 : ((i : Int) == (n : Int)) = false := by rw [beq_eq_false_iff_ne]; omega
  have hz3 : ¬ (cap : Int) < (n : Int) + 1 := by omega
  have hz4 : (n : Int) + 1 <= (cap : Int) := by omega
  have htn : ((i : Int) + 1).toNat = i + 1 := by omega
  have hw1 : IntKind.i64.wrap ((i : Int) + 1) = (i : Int) + 1 := by rw [IntKind.wrap_i64]; omega
  have hb1 : (0 : Int) <= (i : Int) + 1 := by omega
  have hb2 : ¬ (cap = i + 1) := by omega
  have hb3 : (i : Int) <= (n : Int) + 1 := by omega
  have hb4 : ¬ (cap = i) := by omega
  have hb5 : (i : Int) + 1 <= (n : Int) + 1 := by omega
  have hin : i <= n := by omega
  have hin2 : (i : Int) <= (n : Int) := by omega
  go_enter Try.func71, Try.ntmps71; go_wp2_with (simp only [hov]); go_region_law (refine Qgc rfl (.tmp 73) (.tmp 76) 26 26 rfl (.slice (some ⟨b, (i + 1) * 2, none⟩) (n - i) (cap - (i + 1))) (.slice (some ⟨b, i * 2, none⟩) (n + 1 - i) (cap - i)) ?h1 ?h2 (hcp1 _ _ _) ?_; (case h1 => simp [Act.eval, Act.put]); (case h2 => simp [Act.eval, Act.put])); go_wp2_with (at_builtin; refine Qrb _ rfl _ _ 26 26 rfl _ _ rfl rfl (hcp2 _ _) ?_); go_ret; exact HH.out
def Qhn (l : List Di) (i G : Nat) : Array Value := (flD (l.take i)).toArray ++ Builtin.zeroCells Qsd (l.length + 1 - i) ++ Builtin.zeroCells Qsd (G - (l.length + 1))
def GrWD (w : World) (i G : Nat) (l : List Di) (k : Di) : World := ((w.drew.alloc (.cells (Qhn l i G) 81)).setCells w.heap.size (i * 2) (diL k)).drew.setCells w.heap.size ((i + 1) * 2) (flD (l.drop i))
theorem Qon (l : List Di) (i G : Nat) (hi : i <= l.length) (hG : l.length + 1 <= G) : (Qhn l i G).size = G * 2 := by
  have h1 : ∀ n, (Builtin.zeroCells Qsd n).size = n * 2 := fun n => by rw [<- Array.length_toList]; exact Qpl n
  unfold Qhn; rw [Array.size_append, Array.size_append, h1, h1, List.size_toArray, Qwa, List.length_take]; omega
theorem GrAD_get (l : List Di) (i G : Nat) (hi : i <= l.length) (q : Nat) (hq : q < i * 2) : (Qhn l i G)[q]? = (flD l)[q]? := by
  have e : (flD (l.take i)).length = i * 2 := by rw [Qwa, List.length_take]; omega
  unfold Qhn; rw [Array.getElem?_append_left (by rw [Array.size_append, List.size_toArray]; omega), Array.getElem?_append_left (by rw [List.size_toArray]; omega), List.getElem?_toArray, <- Qng, List.getElem?_take, if_pos hq]
theorem grD_laid {w : World} {i G : Nat} {l : List Di} {k : Di} (hi : i < l.length) (hG : l.length + 1 <= G) (hG2 : G <= maxLen) : RD (GrWD w i G l k) ⟨some w.heap.size, G⟩ (Qoh l i k) /\ Below w.heap.size w (GrWD w i G l k) := by
  have h0 : Qa (w.drew.alloc (.cells (Qhn l i G) 81)) w.heap.size 81 (Qhn l i G) := Qa.new w.drew _ _; have hb0 : Below w.heap.size w (w.drew.alloc (.cells (Qhn l i G) 81)) := (Below.refl w.heap.size w).drew.alloc (Nat.le_refl _) _; have hsz := Qon l i G (by omega) hG
  have hT : Below w.heap.size w (GrWD w i G l k) := by
    have t1 := Qp (diL k) (i * 2) (w.drew.alloc (.cells (Qhn l i G) 81)) w.heap.size (Is w.heap.size) rfl; have t2 := Qp (flD (l.drop i)) ((i + 1) * 2) ((w.drew.alloc (.cells (Qhn l i G) 81)).setCells w.heap.size (i * 2) (diL k)).drew w.heap.size (Is w.heap.size) rfl; have t3 := t1.drew.then t2; exact hb0.trans (t3.below (fun q hq => by rw [hq]; exact Nat.le_refl _) hb0.size)
  refine ⟨?_, hT⟩; obtain ⟨ds, d1, d2⟩ := Qk (diL k) (i * 2) _ w.heap.size _ _ h0; have d1' : Qa ((w.drew.alloc (.cells (Qhn l i G) 81)).setCells w.heap.size (i * 2) (diL k)).drew w.heap.size 81 ds := Qgj d1; obtain ⟨es, e1, e2⟩ := Qk (flD (l.drop i)) ((i + 1) * 2) _ w.heap.size _ _ d1'; have hfl : (flD (l.drop i)).length = (l.length - i) * 2 := by rw [Qwa, List.length_drop]
  refine .inr ⟨w.heap.size, es, rfl, e1, by rw [e2, d2]; exact hsz, by rw [Qek _ _ _ (by omega)]; exact hG, Nat.zero_le _, hG2, fun q u hu => ?_⟩; have hti : (flD (l.take i)).length = i * 2 := by rw [Qwa, List.length_take]; omega
  rw [flD_ins] at hu; unfold GrWD
  by_cases h8 : q < i * 2
  · rw [World.cell?_setCells_out _ _ _ _ _ (fun _ _ => .inl (by show q < (i + 1) * 2; omega))]; rw [Qkg]; rw [World.cell?_setCells_out _ _ _ _ _ (fun _ _ => .inl (by show q < i * 2; exact h8))]; rw [List.getElem?_append_left (by omega), <- Qng, List.getElem?_take, if_pos h8] at hu; exact h0.cell q u (by rw [GrAD_get l i G (by omega) q h8]; exact hu)
  · rw [List.getElem?_append_right (by omega), hti] at hu
    by_cases h9 : q < (i + 1) * 2
    · rw [World.cell?_setCells_out _ _ _ _ _ (fun _ _ => .inl (by show q < (i + 1) * 2; exact h9))]; rw [Qkg]; have hin := World.cell?_setCells_in w.heap.size (diL k) (i * 2) (w.drew.alloc (.cells (Qhn l i G) 81)) (fun j hj => Qq h0 (by have : j < 2 := hj; omega)) (q - i * 2) (by show _ < 2; omega); rw [show i * 2 + (q - i * 2) = q by omega] at hin; rw [hin, <- List.getElem?_eq_getElem]; rw [List.getElem?_append_left (by show _ < 2; omega)] at hu; exact hu
    · have hq : q - i * 2 - 2 < (l.length - i) * 2 := by
        have := (List.getElem?_eq_some_iff.1 hu).1; rw [List.length_append, hfl] at this; have h10 : (diL k).length = 2 := rfl; omega
      have hin := World.cell?_setCells_in w.heap.size (flD (l.drop i)) ((i + 1) * 2) ((w.drew.alloc (.cells (Qhn l i G) 81)).setCells w.heap.size (i * 2) (diL k)).drew (fun j hj => Qq d1' (by omega)) (q - i * 2 - 2) (by omega); rw [show (i + 1) * 2 + (q - i * 2 - 2) = q by omega] at hin; rw [hin, <- List.getElem?_eq_getElem]; rw [List.getElem?_append_right (by show 2 <= _; omega)] at hu; exact hu
theorem insD_grow (w : World) (b cap : Nat) (l : List Di) (h : RD w ⟨some b, cap⟩ l) (i : Nat) (hi : i < l.length) (hr : cap < l.length + 1) (k : Di) (g : Nat) (hg : Qa w g 81 (diA k)) (hl : l.length <= 1000000) :
    Calls Try.prog 71 #[.slice (some ⟨b, 0, none⟩) l.length cap, .int .i64 (i : Int), .slice (some ⟨g, 0, none⟩) 1 1] w (Qjf w ⟨some b, cap⟩ l i k) := by
  obtain ⟨ii, hi0, hi1⟩ := Option.map_eq_some_iff.1 Quj; simp only [Prod.mk.injEq] at hi1; obtain ⟨G, hG⟩ : ∃ G, G = grownCap w (l.length + 1) cap 81 := ⟨_, rfl⟩; have hG1 : l.length + 1 <= G := by rw [hG]; exact grownCap_ge w _ _ _
  have hG2 : G <= maxLen := by rw [hG]; exact grownCap_le_maxLen w _ _ _ (by unfold maxLen; omega)
  have hG3 : G <= 9223372036854775807 := by unfold maxLen at hG2; exact hG2
  have HD := grD_laid (w := w) (k := k) hi hG1 hG2; have HG : Qjf w ⟨some b, cap⟩ l i k (.returned (.slice (some ⟨w.heap.size, 0, none⟩) (l.length + 1) G)) (GrWD w i G l k) := ⟨⟨some w.heap.size, G⟩, rfl, HD.1, Tn.of_below HD.2, fun q hq => .inr (by injection hq with hq; omega)⟩
  obtain ⟨cs, hrow, hcs, hcl, hnc⟩ : ∃ cs, Qa w b 81 cs /\ cs.size = cap * 2 /\ (∀ j u, (flD l)[j]? = some u -> w.cell? ⟨b, j, none⟩ = some u) /\ l.length <= cap := by
    rcases h with ⟨h1, _⟩ | ⟨b', cs, h1, h2, h3, h4, h5, h6, h7⟩
    · cases h1
    · injection h1 with h1; subst h1; exact ⟨cs, h2, h3, h7, h4⟩
  have hfl : (flD (l.drop i)).length = (l.length - i) * 2 := by rw [Qwa, List.length_drop]
  have hold : (Builtin.firstCells ii.size i (.slice (some ⟨b, 0, none⟩) i cap)).run Try.prog w.drew = .ok (flD (l.take i)).toArray w.drew := by
    rw [hi1.2.1]
    exact run_firstCells_some w.drew 2 i ⟨b, 0, none⟩ i cap (flD (l.take i)) (by rw [Qwa, List.length_take]; omega) (fun j v hj => by
      rw [Addr.add_lit, Nat.zero_add]; rw [<- Qng, List.getElem?_take] at hj
      split at hj
      · exact hcl j v hj
      · cases hj)
  have hrz : ∀ ty, (Builtin.append_ #[26, 3] ty #[.slice (some ⟨b, 0, none⟩) i cap, .int .i64 ((l.length : Int) + 1 - (i : Int))]).run Try.prog w = .ok (.slice (some ⟨w.heap.size, 0, none⟩) (l.length + 1) G) (w.drew.alloc (.cells (Qhn l i G) 81)) := fun ty => by
    have h := Lib.run_append_grow_zeros (P := Try.prog) w 26 3 ty 81 ii (.agg Qsd) .i64 .i64 Try.underlying26 Try.underlying3 hi0 hi1.1 (some ⟨b, 0, none⟩) i cap (flD (l.take i)) hold (l.length + 1 - i) (by omega) (by omega) (by omega) (by omega) (by rw [hi1.2.2]; omega) (by rw [hi1.2.2, show i + (l.length + 1 - i) = l.length + 1 by omega]; exact growslice_fits hr (by omega)); rw [show i + (l.length + 1 - i) = l.length + 1 by omega] at h; rw [show (l.length : Int) + 1 - (i : Int) = ((l.length + 1 - i : Nat) : Int) by omega, hG]; exact h
  have h0 : Qa (w.drew.alloc (.cells (Qhn l i G) 81)) w.heap.size 81 (Qhn l i G) := Qa.new w.drew _ _; have hsz := Qon l i G (by omega) hG1; have hgr : Qa (w.drew.alloc (.cells (Qhn l i G) 81)) g 81 (diA k) := hg.later ((Below.refl w.heap.size w).drew.alloc (Nat.le_refl _) _); obtain ⟨W1, hW1⟩ : ∃ W1, W1 = w.drew.alloc (.cells (Qhn l i G) 81) := ⟨_, rfl⟩; have hbk : Qa W1 b 81 cs := by rw [hW1]; exact hrow.later ((Below.refl w.heap.size w).drew.alloc (Nat.le_refl _) _)
  have hbc : ∀ j u, (flD l)[j]? = some u -> W1.cell? ⟨b, j, none⟩ = some u := fun j u hu => hbk.cell j u (by rw [<- cell_of_row w b j _ _ (0, 0) hrow]; exact hcl j u hu)
  rw [<- hW1] at h0 hgr hrz
  have hcpA : ∀ ty dc, (Builtin.copy_ #[26, 26] ty #[.slice (some ⟨w.heap.size, i * 2, none⟩) (l.length + 1 - i) dc, .slice (some ⟨g, 0, none⟩) 1 1]).run Try.prog W1 = .ok (goInt 1) (W1.setCells w.heap.size (i * 2) (diL k)) := fun ty dc => by
    have := Qva (P := Try.prog) W1 26 26 ty 81 2 w.heap.size (i * 2) (l.length + 1 - i) dc ⟨g, 0, none⟩ 1 1 (diL k) Try.underlying26 Qcm (by rw [show Nat.min 1 (l.length + 1 - i) = 1 from Nat.min_eq_left (by omega)]; rfl)
      (fun j v hj => by rw [Addr.add_lit, Nat.zero_add]; exact Qre hgr j v hj)
      (fun j hj => Qq h0 (by have : j < 2 := hj; omega)) (fun j hj => h0.free _) (Qjm k)
    rwa [show Nat.min 1 (l.length + 1 - i) = 1 from Nat.min_eq_left (by omega)] at this
  obtain ⟨W2, hW2⟩ : ∃ W2, W2 = W1.setCells w.heap.size (i * 2) (diL k) := ⟨_, rfl⟩; obtain ⟨ds, d1, d2⟩ := Qk (diL k) (i * 2) W1 w.heap.size _ _ h0; have hne : b ≠ w.heap.size := by have := hrow.lt; omega
  have hbk2 : Qa W2 b 81 cs := by rw [hW2]; exact (Qp (diL k) (i * 2) W1 w.heap.size (Is w.heap.size) rfl).row hbk hne
  rw [<- hW2] at d1 hcpA; have d1' : Qa W2.drew w.heap.size 81 ds := d1; have hbk2' : Qa W2.drew b 81 cs := hbk2
  have hcpB : ∀ ty dc sc, (Builtin.copy_ #[26, 26] ty #[.slice (some ⟨w.heap.size, (i + 1) * 2, none⟩) (l.length - i) dc, .slice (some ⟨b, i * 2, none⟩) (l.length - i) sc]).run Try.prog W2.drew = .ok (goInt ((l.length - i : Nat) : Int)) (GrWD w i G l k) := fun ty dc sc => by
    have := Qva (P := Try.prog) W2.drew 26 26 ty 81 2 w.heap.size ((i + 1) * 2) (l.length - i) dc ⟨b, i * 2, none⟩ (l.length - i) sc (flD (l.drop i)) Try.underlying26 Qcm (by rw [hfl, show Nat.min (l.length - i) (l.length - i) = l.length - i from Nat.min_self _])
      (fun j v hj => by
        rw [Addr.add_lit]
        rw [<- Qyr, List.getElem?_drop] at hj
        have := hcl _ v hj
        rw [cell_of_row w b _ _ _ (0, 0) hrow] at this
        exact hbk2'.cell _ v this)
      (fun j hj => Qq d1' (by omega)) (fun j hj => d1'.free _) (Qzs _)
    rw [show Nat.min (l.length - i) (l.length - i) = l.length - i from Nat.min_self _] at this; rw [this, hW2, hW1]; rfl
  obtain ⟨W3, hW3⟩ : ∃ W3, W3 = GrWD w i G l k := ⟨_, rfl⟩; rw [<- hW3] at HG hcpB; have HH := Qb HG; have hgb : b < w.heap.size := hrow.lt; clear hW1 hW2 hW3 d1 d2 d1' hbk2 hbk2' hbk hbc hgr hfl hrow hcl hcs h HG HD hg h0 hsz hold hi1 hi0 hG hG2; generalize l.length = n at *; generalize w.heap.size = N at *; have hz2 : ((i : Int) == (n : Int)) = false := by rw [beq_eq_false_iff_ne]; omega
  have hz3 : (cap : Int) < (n : Int) + 1 := by omega
  have htn : ((i : Int) + 1).toNat = i + 1 := by omega
  have hw1 : IntKind.i64.wrap ((i : Int) + 1) = (i : Int) + 1 := by rw [IntKind.wrap_i64]; omega
  have hb1 : (0 : Int) <= (i : Int) + 1 := by omega
  have hb2 : ¬ (cap = i + 1 /\ False) := by simp
  have hb3 : (i : Int) <= (n : Int) + 1 := by omega
  have hb4 : ¬ (cap = i) := by omega
  have hb6 : ¬ (G = i) := by omega
  have hb7 : ¬ (G = i + 1) := by omega
  have hb8 : (n : Int) + 1 <= (G : Int) := by omega
  have hb5 : (i : Int) + 1 <= (n : Int) + 1 := by omega
  have hin : i <= n := by omega
  have hin2 : (i : Int) <= (n : Int) := by omega
  have hin3 : (i : Int) <= (cap : Int) := by omega
  go_enter Try.func71, Try.ntmps71
  go_wp2_with (first
    | (at_builtin; refine Lib.wpList_append_run _ rfl _ _ _ _ rfl _ _ rfl rfl _ _ (hrz _) ?_)
    | (at_builtin; refine Qrb _ rfl _ _ 26 26 rfl _ _ rfl rfl (hcpA _ _) ?_))
  go_region_law (refine Qgc rfl (.tmp 50) (.tmp 53) 26 26 rfl (.slice (some ⟨N, (i + 1) * 2, none⟩) (n - i) (G - (i + 1))) (.slice (some ⟨b, i * 2, none⟩) (n - i) (cap - i)) ?h1 ?h2 (hcpB _ _ _) ?_; (case h1 => simp [Act.eval, Act.put]); (case h2 => simp [Act.eval, Act.put])); go_wp2; go_ret; exact HH.out
theorem insD (w : World) (s : Sl) (l : List Di) (h : RD w s l) (i : Nat) (hi : i <= l.length) (k : Di) (g : Nat) (hg : Qa w g 81 (diA k)) (hgb : s.b ≠ some g) (hl : l.length <= 1000000) :
    Calls Try.prog 71 #[slV s l.length, .int .i64 (i : Int), .slice (some ⟨g, 0, none⟩) 1 1] w (Qjf w s l i k) := by
  by_cases hn : i = l.length
  · subst hn; exact insD_end w s l h k g hg hl
  · obtain ⟨o, c⟩ := s
    cases o with
    | none =>
      rcases h with ⟨_, rfl, _⟩ | ⟨b, cs, h1, _⟩
      · simp at hi; exact absurd hi (by simpa using hn)
      · cases h1
    | some b =>
      by_cases hr : l.length + 1 <= c
      · exact Qtu w b c l h i (by omega) hr k g hg (fun e => hgb (by rw [e])) hl
      · exact insD_grow w b c l h i (by omega) (by omega) k g hg hl
def Qza (r : Rec) : Tx := ⟨r.t, 1, r.l, 0, 0⟩
def Qag (x : Tx) (r : Rec) : Tx := ⟨x.t, if r.k = 4 then 2 else if r.k = 3 then 3 else x.s, x.f, r.l, if r.k = 1 then r.l else if r.k = 2 then r.n else x.n⟩
theorem upTx_t (x : Tx) (r : Rec) : (Qag x r).t = x.t := rfl
def Qpb : List Tx -> Rec -> List Tx
  | [], r => [Qag (Qza r) r]
  | x :: l, r => if x.t < r.t then x :: Qpb l r else if x.t = r.t then Qag x r :: l else Qag (Qza r) r :: x :: l
def Qba : List Tx -> Int -> List Tx
  | [], _ => []
  | x :: l, t => if x.t = t then l else x :: Qba l t
def Qia : List Di -> Int -> Nat -> List Di
  | [], p, n => [⟨p, n⟩]
  | x :: l, p, n => if x.p < p then x :: Qia l p n else if x.p = p then x :: l else ⟨p, n⟩ :: x :: l
theorem Qje {x : Tx} {l : List Tx} (h : Qvl (x :: l)) : Qvl l := fun p q hpq hq => by
  have := h (p + 1) (q + 1) (by omega) (by rw [List.length_cons]; omega); simpa [List.getD] using this
theorem Qef {x : Tx} {l : List Tx} (h : Qvl (x :: l)) : ∀ y ∈ l, x.t < y.t := fun y hy => by
  obtain ⟨j, hj, rfl⟩ := List.mem_iff_getElem.1 hy; have := h 0 (j + 1) (by omega) (by rw [List.length_cons]; omega); simpa [List.getD, hj] using this
theorem Qog {x : Tx} {l : List Tx} (h1 : ∀ y ∈ l, x.t < y.t) (h2 : Qvl l) : Qvl (x :: l) := fun p q hpq hq => by
  rw [List.length_cons] at hq; obtain ⟨q, rfl⟩ : ∃ k, q = k + 1 := ⟨q - 1, by omega⟩; have hm : l.getD q Tx.zero ∈ l := Qja _ _ _ (by omega)
  cases p with
  | zero => simpa [List.getD] using h1 _ hm
  | succ p => simpa [List.getD] using h2 p q (by omega) (by omega)
theorem Qro {x : Di} {l : List Di} (h : Qmt (x :: l)) : Qmt l := fun p q hpq hq => by
  have := h (p + 1) (q + 1) (by omega) (by rw [List.length_cons]; omega); simpa [List.getD] using this
theorem Qio {x : Di} {l : List Di} (h : Qmt (x :: l)) : ∀ y ∈ l, x.p < y.p := fun y hy => by
  obtain ⟨j, hj, rfl⟩ := List.mem_iff_getElem.1 hy; have := h 0 (j + 1) (by omega) (by rw [List.length_cons]; omega); simpa [List.getD, hj] using this
theorem Qgo {x : Di} {l : List Di} (h1 : ∀ y ∈ l, x.p < y.p) (h2 : Qmt l) : Qmt (x :: l) := fun p q hpq hq => by
  rw [List.length_cons] at hq; obtain ⟨q, rfl⟩ : ∃ k, q = k + 1 := ⟨q - 1, by omega⟩; have hm : l.getD q Di.zero ∈ l := Qja _ _ _ (by omega)
  cases p with
  | zero => simpa [List.getD] using h1 _ hm
  | succ p => simpa [List.getD] using h2 p q (by omega) (by omega)
def Qsk (l : List Tx) (t : Int) (i : Nat) (q : Bool) : Prop := Sf (fun k => Qoi t (l.getD k Tx.zero).t) l.length i q
theorem Qsi {l : List Tx} {t : Int} {i : Nat} {q : Bool} (h : Qsk l t i q) {k : Nat} (hk : k < i) : (l.getD k Tx.zero).t < t := (Qcd _ _).1 (h.low k hk)
theorem Qpd {l : List Tx} {t : Int} {i : Nat} (h : Qsk l t i true) : i < l.length /\ (l.getD i Tx.zero).t = t := ⟨(h.yes rfl).1, ((Qme _ _).1 (h.yes rfl).2).symm⟩
theorem findT_ge {l : List Tx} {t : Int} {i : Nat} {q : Bool} (h : Qsk l t i q) {k : Nat} (h1 : i <= k) (h2 : k < l.length) : t <= (l.getD k Tx.zero).t := by
  have := h.high k h1 h2; have h3 : ¬ 0 < Qoi t (l.getD k Tx.zero).t := by show ¬ 0 < _; omega
  rw [Qcd] at h3; omega
theorem Qxs {l : List Tx} {t : Int} {i : Nat} (h : Qsk l t i false) (hi : i < l.length) : t < (l.getD i Tx.zero).t := by
  have h1 := findT_ge h (Nat.le_refl _) hi; have h2 := h.no rfl hi; have h3 : ¬ t = (l.getD i Tx.zero).t := fun e => h2 ((Qme _ _).2 e)
  omega
theorem Qvh {x : Tx} {l : List Tx} {t : Int} {i : Nat} {q : Bool} (h : Qsk (x :: l) t (i + 1) q) : Qsk l t i q := by
  refine ⟨by have := h.le; rw [List.length_cons] at this; omega, fun k hk => ?_, fun k h1 h2 => ?_, fun e => ?_, fun e h2 => ?_⟩
  · have := h.low (k + 1) (by omega); simpa [List.getD] using this
  · have := h.high (k + 1) (by omega) (by rw [List.length_cons]; omega); simpa [List.getD] using this
  · have := h.yes e; rw [List.length_cons] at this; exact ⟨by omega, by simpa [List.getD] using this.2⟩
  · have := h.no e (by rw [List.length_cons]; omega); simpa [List.getD] using this
theorem Qnp : ∀ (l : List Tx) (r : Rec) (i : Nat), Qsk l r.t i true -> Qpb l r = l.set i (Qag (l.getD i Tx.zero) r)
  | [], r, i, h => absurd (Qpd h).1 (by simp)
  | x :: l, r, 0, h => by
    have h1 := (Qpd h).2; have h2 : x.t = r.t := by simpa [List.getD] using h1
    unfold Qpb; rw [if_neg (by omega), if_pos h2]; rfl
  | x :: l, r, i + 1, h => by
    have h1 : x.t < r.t := by simpa [List.getD] using Qsi h (Nat.succ_pos i)
    unfold Qpb; rw [if_pos h1, Qnp l r i (Qvh h)]; rfl
theorem Qos : ∀ (l : List Tx) (r : Rec) (i : Nat), Qsk l r.t i false -> Qpb l r = Qyf l i (Qag (Qza r) r)
  | [], r, i, h => by
    have := h.le; have h2 : i = 0 := by simpa using this
    subst h2; rfl
  | x :: l, r, 0, h => by
    have h1 : r.t < x.t := by simpa [List.getD] using Qxs h (by simp)
    unfold Qpb; rw [if_neg (by omega), if_neg (by omega)]; rfl
  | x :: l, r, i + 1, h => by
    have h1 : x.t < r.t := by simpa [List.getD] using Qsi h (Nat.succ_pos i)
    unfold Qpb; rw [if_pos h1, Qos l r i (Qvh h)]; rfl
theorem Qei : ∀ (l : List Tx) (t : Int) (i : Nat), Qsk l t i true -> Qba l t = l.take i ++ l.drop (i + 1)
  | [], t, i, h => absurd (Qpd h).1 (by simp)
  | x :: l, t, 0, h => by
    have h2 : x.t = t := by simpa [List.getD] using (Qpd h).2
    unfold Qba; rw [if_pos h2]; rfl
  | x :: l, t, i + 1, h => by
    have h1 : x.t < t := by simpa [List.getD] using Qsi h (Nat.succ_pos i)
    unfold Qba; rw [if_neg (by omega), Qei l t i (Qvh h)]; rfl
theorem Qug : ∀ (l : List Tx) (t : Int), (∀ x ∈ l, x.t ≠ t) -> Qba l t = l
  | [], _, _ => rfl
  | x :: l, t, h => by
    unfold Qba; rw [if_neg (h x (by simp)), Qug l t (fun y hy => h y (List.mem_cons_of_mem _ hy))]
theorem Quq {l : List Tx} {t : Int} {i : Nat} (hs : Qvl l) (h : Qsk l t i false) : Qba l t = l := by
  refine Qug l t fun x hx e => ?_
  obtain ⟨j, hj, rfl⟩ := List.mem_iff_getElem.1 hx; have hg : l.getD j Tx.zero = l[j] := by rw [List.getD_eq_getElem?_getD, List.getElem?_eq_getElem hj]; rfl
  rcases Nat.lt_or_ge j i with h1 | h1
  · have := Qsi h h1; rw [hg] at this; omega
  · have h2 := Qxs h (by omega)
    rcases Nat.lt_or_ge i j with h3 | h3
    · have := hs i j h3 hj; rw [hg] at this; omega
    · obtain rfl : i = j := by omega
      rw [hg] at h2; omega
def taA (a b : Value) : Array Value := #[a, b]
theorem Qde : (Try.prog.info? 28).map (·.size) = some 2 := by kernel_rfl
structure TaAt (w0 w : World) (s1 s2 : Sl) (T : List Tx) (D : List Di) : Prop where
  t : RT w s1 T
  d : RD w s2 D
  n1 : ∀ b, s1.b = some b -> w0.heap.size <= b
  n2 : ∀ b, s2.b = some b -> w0.heap.size <= b
  bel : Below w0.heap.size w0 w
theorem own16 (w : World) (vT vD : Value) (T : List Tx) (D : List Di) (hT : Qxb w vT T) (hD : Qxc w vD D) (h1 : T.length <= 10000) (h2 : D.length <= 10000) :
    Calls Try.prog 36 #[.agg (taA vT vD)] w fun e w' => ∃ s1 s2, e = .returned (.agg (taA (slV s1 T.length) (slV s2 D.length))) /\ TaAt w w' s1 s2 T D := by
  obtain ⟨n1, n2, n3⟩ := Qtc w (taA vT vD) #[.slice none 0 0, .slice none 0 0] 28 28; obtain ⟨y, hy⟩ : ∃ y, y = (w.alloc (.cells (taA vT vD) 28)).alloc (.cells #[.slice none 0 0, .slice none 0 0] 28) := ⟨_, rfl⟩; rw [<- hy] at n1 n2 n3; obtain ⟨b1, hb1⟩ : ∃ b, b = w.heap.size := ⟨_, rfl⟩; obtain ⟨b2, hb2⟩ : ∃ b, b = w.heap.size + 1 := ⟨_, rfl⟩; rw [<- hb1] at n1; rw [<- hb2] at n2
  have hv1 : ∃ a c, vT = .slice a T.length c := by
    obtain ⟨a, c, e, _⟩ := hT; exact ⟨a, c, e⟩
  have hv2 : ∃ a c, vD = .slice a D.length c := by
    obtain ⟨a, c, e, _⟩ := hD; exact ⟨a, c, e⟩
  obtain ⟨a1, c1, rfl⟩ := hv1; obtain ⟨a2, c2, rfl⟩ := hv2; have HC := Qb (fun x (hb : Below w.heap.size w x) => clone15T (hT.below hb) (by omega)); have HD := Qb (fun x (hb : Below w.heap.size w x) => clone15D (hD.below hb) (by omega)); have HB := Qb (And.intro hb1 hb2); have HY := Qb hy; have H0 : Hid (Qa y b1 28 (taA (.slice a1 T.length c1) (.slice a2 D.length c2)) /\ Qa y b2 28 (taA (.slice none 0 0) (.slice none 0 0)) /\ Below w.heap.size w y) := ⟨n1, n2, n3⟩; clear n1 n2 n3 hb1 hb2 hy hT hD; obtain ⟨lt, hlt⟩ : ∃ k, k = T.length := ⟨_, rfl⟩; obtain ⟨ld, hld⟩ : ∃ k, k = D.length := ⟨_, rfl⟩; rw [<- hlt] at HC HY H0 |-; rw [<- hld] at HD HY H0 |-; have HLL := Qb (And.intro hlt hld); clear hlt hld h1 h2; go_enter Try.func36, Try.ntmps36; unfold taA at HY H0 |-; go_wp2_with fail; rw [<- HY.out, <- HB.out.2, <- HB.out.1]; have HDR : Hid (Qa y.drew b1 28 #[.slice a1 lt c1, .slice a2 ld c2] /\ Qa y.drew b2 28 #[.slice none 0 0, .slice none 0 0] /\ Below w.heap.size w y.drew) := ⟨Qgj H0.out.1, Qgj H0.out.2.1, Qoc H0.out.2.2 1⟩; obtain ⟨z, hz⟩ : ∃ z, z = y.drew := ⟨_, rfl⟩; refine wp_region_noPanic ?_; refine wp_region_held_drew (S := fun x => x.cell? ⟨b1, 0, none⟩ = some (.slice a1 lt c1) /\ x.cell? ⟨b1, 1, none⟩ = some (.slice a2 ld c2)) (by kernel_rfl) (⟨HDR.out.1.cell 0 _ rfl, HDR.out.1.cell 1 _ rfl⟩) (fun hHeld => ?_); rw [<- hz] at HDR |-; have hHeld := And.intro (HDR.out.1.cell 0 (.slice a1 lt c1) rfl) (HDR.out.1.cell 1 (.slice a2 ld c2) rfl); clear hz H0 HY; refine tkq 0 (some 3) (.pointer (some ⟨b1, 0, none⟩)) hHeld ?_; (try simp only [Act.put, List.setIfInBounds_toArray, List.set]); refine tkk 1 (some 4) (.slice a1 lt c1) rfl rfl (by kernel_rfl) (by kernel_rfl) (fun x hSx => by have h1 := hSx.1; go_simp) hHeld ?_; (try simp only [Act.put, List.setIfInBounds_toArray, List.set]); refine tkq 3 (some 6) (.pointer (some ⟨b1, 1, none⟩)) hHeld ?_; (try simp only [Act.put, List.setIfInBounds_toArray, List.set]); refine tkk 4 (some 7) (.slice a2 ld c2) rfl rfl (by kernel_rfl) (by kernel_rfl) (fun x hSx => by have h1 := hSx.2; go_simp) hHeld ?_; (try simp only [Act.put, List.setIfInBounds_toArray, List.set]); refine Qm 2 (by kernel_rfl) ?_; refine Qfa (some 5) rfl rfl rfl 51 #[.slice a1 lt c1] ?he ((HC.out _ HDR.out.2.2).mono ?_); (case he => go_simp); rintro e w1 ⟨v1, rfl, ho1, hb1⟩; rw [HLL.out.1] at ho1; obtain ⟨s1, hv1, hR1, hn1⟩ := RT.of rfl ho1; have H1 : Hid (Qa w1 b1 28 #[.slice a1 lt c1, .slice a2 ld c2] /\ Qa w1 b2 28 #[.slice none 0 0, .slice none 0 0] /\ Below w.heap.size w w1 /\ RT w1 s1 T /\ (∀ b, s1.b = some b -> z.heap.size <= b) /\ w.heap.size <= z.heap.size /\ b2 < z.heap.size) := ⟨HDR.out.1.later hb1, HDR.out.2.1.later hb1, HDR.out.2.2.trans (hb1.mono HDR.out.2.2.size), hR1, hn1, HDR.out.2.2.size, HDR.out.2.1.lt⟩
  have hHeld1 := And.intro (H1.out.1.cell 0 (.slice a1 lt c1) rfl) (H1.out.1.cell 1 (.slice a2 ld c2) rfl); rw [<- HLL.out.1] at hv1; obtain ⟨x1, y1, hxy1⟩ : ∃ a c, slV s1 lt = .slice a lt c := ⟨adr s1.b, s1.c, rfl⟩; have HS1 := Qb hxy1; rw [hxy1] at hv1; subst hv1; clear ho1 hb1 hR1 hn1 hxy1 HDR hHeld HC; refine ⟨_, rfl, hHeld1, ?_⟩; (try simp only [Act.put, List.setIfInBounds_toArray, List.set]); refine Qm 5 (by kernel_rfl) ?_; refine Qfa (some 8) rfl rfl rfl 52 #[.slice a2 ld c2] ?he ((HD.out _ H1.out.2.2.1).mono ?_); (case he => go_simp); rintro e w2 ⟨v2, rfl, ho2, hb2⟩; rw [HLL.out.2] at ho2; obtain ⟨s2, hv2, hR2, hn2⟩ := RD.of rfl ho2
  have H2 : Hid (Qa w2 b1 28 #[.slice a1 lt c1, .slice a2 ld c2] /\ Qa w2 b2 28 #[.slice none 0 0, .slice none 0 0] /\ Below w.heap.size w w2 /\ RT w2 s1 T /\ RD w2 s2 D /\ (∀ b, s1.b = some b -> w.heap.size <= b /\ b ≠ b2) /\ (∀ b, s2.b = some b -> w.heap.size <= b /\ b ≠ b2)) := ⟨H1.out.1.later hb2, H1.out.2.1.later hb2, H1.out.2.2.1.trans (hb2.mono H1.out.2.2.1.size), H1.out.2.2.2.1.later hb2, hR2, fun b hb => by
    have h1 := H1.out.2.2.2.2.1 b hb; have h2 := H1.out.2.2.2.2.2.1; have h3 := H1.out.2.2.2.2.2.2
    omega, fun b hb => by
    have h1 := hn2 b hb; have h2 := H1.out.2.2.1.size; have h3 := H1.out.2.1.lt
    omega⟩
  have hHeld2 := And.intro (H2.out.1.cell 0 (.slice a1 lt c1) rfl) (H2.out.1.cell 1 (.slice a2 ld c2) rfl); rw [<- HLL.out.2] at hv2; obtain ⟨x2, y2, hxy2⟩ : ∃ a c, slV s2 ld = .slice a ld c := ⟨adr s2.b, s2.c, rfl⟩; have HS2 := Qb hxy2; rw [hxy2] at hv2; subst hv2; clear ho2 hb2 hR2 hn2 hxy2 H1 hHeld1 HD; refine ⟨_, rfl, hHeld2, ?_⟩; (try simp only [Act.put, List.setIfInBounds_toArray, List.set]); refine Qr 6 (some 9) (.agg #[.slice x1 lt y1, .slice x2 ld y2]) rfl rfl (by kernel_rfl) (by kernel_rfl) (by kernel_rfl) (fun _ _ _ h => h) (Or.inl ⟨by kernel_rfl, fun x hSx => by go_simp⟩) hHeld2 ?_; (try simp only [Act.put, List.setIfInBounds_toArray, List.set]); refine Qm 7 (by kernel_rfl) ?_; refine Qca rfl rfl rfl 28 (.tmp 2) (.tmp 9) rfl b2 0 28 #[.slice none 0 0, .slice none 0 0] #[.slice x1 lt y1, .slice x2 ld y2] rfl rfl H2.out.2.1 Qde (by show 0 + 2 <= 2; omega) (by simp [Value.oneCell']) ?_; intro w3 hr3 ho3; rw [Qn #[.slice none 0 0, .slice none 0 0] #[.slice x1 lt y1, .slice x2 ld y2] rfl] at hr3; have hbel : Below w.heap.size w w3 := ho3.below H2.out.2.2.1 (by have := HB.out.2; omega); have hb12 : b1 ≠ b2 := by have := HB.out; omega
  have hHeld3 := And.intro ((ho3.row H2.out.1 hb12).cell 0 (.slice a1 lt c1) rfl) ((ho3.row H2.out.1 hb12).cell 1 (.slice a2 ld c2) rfl); have H3 : Hid (Qa w3 b2 28 #[.slice x1 lt y1, .slice x2 ld y2] /\ TaAt w w3 s1 s2 T D) := ⟨hr3, H2.out.2.2.2.1.keep (fun b hb => ho3.block b (H2.out.2.2.2.2.2.1 b hb).2), H2.out.2.2.2.2.1.keep (fun b hb => ho3.block b (H2.out.2.2.2.2.2.2 b hb).2), fun b hb => (H2.out.2.2.2.2.2.1 b hb).1, fun b hb => (H2.out.2.2.2.2.2.2 b hb).1, hbel⟩; refine ⟨hHeld3, ?_⟩; (try simp only [Act.put, List.setIfInBounds_toArray, List.set]); refine wpAnyH_done (by kernel_rfl) ?_ _; refine NoPanic.normal ?_; clear hHeld2 hHeld3 hr3 ho3 hbel hb12 H2; go_wp2; exact bodyPost_ret (Qdb rfl _ _ b2 #[.slice x1 lt y1, .slice x2 ld y2] _ rfl H3.out.1 Try.underlying28 rfl Qde) rfl ⟨s1, s2, by rw [HS1.out, HS2.out], H3.out.2⟩
theorem Qks {q : Prop} [Decidable q] {b : List UInt8} : (Qch q b).length = if q then b.length else 0 := by
  unfold Qch; split <;> rfl
theorem chB_len (c : Ch) : (chB c).length = 6 + c.o.size + c.n.size := by
  unfold chB; simp only [List.length_append, Qx, Qii, Qeb]; omega
theorem rec_room (r : Rec) (h : r.right) (h8 : r.k ≠ 8) : 21 <= (Qbg r).length /\ (Qbg r).length <= 75 /\ ((r.k = 3 ∨ r.k = 4 ∨ r.k = 5 ∨ r.k = 7) -> (Qbg r).length = 21) := by
  have e : (Qbg r).length = 21 + ((if r.k <= 2 then (chB r.c).length else 0) + ((if r.k = 2 then 8 else 0) + (if r.k = 6 then 1 else 0))) := by
    unfold Qbg; simp only [List.length_append, Qx, Qks]; rw [if_neg h8]; omega
  rw [e, chB_len]
  have hc : r.k <= 2 -> r.c.o.size <= 20 /\ r.c.n.size <= 20 := fun hk => by
    have := (h.ch hk).1; omega
  by_cases h2 : r.k <= 2
  · have := hc h2; rw [if_pos h2]; split <;> split <;> exact ⟨by omega, by omega, fun hk => by omega⟩
  · rw [if_neg h2]; split <;> split <;> exact ⟨by omega, by omega, fun hk => by omega⟩
theorem txB_len (x : Tx) : (txB x).length = 29 := by
  unfold txB; simp only [List.length_append, Qx]
theorem diB_len (d : Di) : (diB d).length = 10 := by
  unfold diB; simp only [List.length_append, Qx]
theorem Qan {α : Type} (f : α -> List UInt8) (n : Nat) (hf : ∀ x, (f x).length = n) : ∀ xs : List α, (xs.flatMap f).length = xs.length * n
  | [] => by simp
  | x :: xs => by
    rw [List.flatMap_cons, List.length_append, hf, Qan f n hf xs, List.length_cons]; rw [Nat.add_mul, Nat.one_mul, Nat.add_comm]
theorem Qru (b : Nat) (ts : List Tx) (ds : List Di) : (Que b ts ds).length = 10 + ts.length * 29 + ds.length * 10 := by
  unfold Que txsB disB; simp only [List.length_append, Qx, Qan txB 29 txB_len, Qan diB 10 diB_len]; omega
theorem rec_few (r : Rec) (h : r.right) : (Qbg r).length <= 1000 := by
  by_cases h8 : r.k = 8
  · have hr := h.check h8
    have e : (Qbg r).length = 21 + (Que r.b r.ts r.ds).length := by
      unfold Qbg; simp only [List.length_append, Qx, Qks]; rw [if_neg (by omega), if_neg (by omega), if_neg (by omega), if_pos h8]; omega
    rw [e, Qru]; have := hr.1; have := hr.2.1; omega
  · have := (rec_room r h h8).2.1; omega
theorem rec_inj {a b : Rec} (ha : a.right) (hb : b.right) (h : Qbg a = Qbg b) : a = b := by
  have h1 := Qwq a ha; rw [h, Qwq b hb] at h1; exact (Prod.mk.inj h1).1.symm
def Qfk (bs : List UInt8) : List UInt8 := bs ++ leB (crc bs)
def Qoa (r : Rec) : List UInt8 := Qfk (beB 2 (Qbg r).length ++ Qbg r)
theorem Qbf (bs : List UInt8) : (Qfk bs).length = bs.length + 4 := by
  unfold Qfk; rw [List.length_append, Qyd]
theorem Qed (r : Rec) : (Qoa r).length = (Qbg r).length + 6 := by
  unfold Qoa; rw [Qbf, List.length_append, Qx]; omega
theorem open_seal (bs : List UInt8) : Qie (Qfk bs) = (bs, 0) := by
  have hl := Qbf bs; have e : (Qfk bs).length - 4 = bs.length := by omega
  have t : (Qfk bs).take bs.length = bs := List.take_left' rfl; have d : (Qfk bs).drop bs.length = leB (crc bs) := List.drop_left' rfl; rw [Qgn _ (by omega) (by rw [e, t, d]; exact Qom _ (Qct bs)), e, t]
theorem seal_open (f : List UInt8) (h : (Qie f).2 = 0) : f = Qfk (Qie f).1 := by
  by_cases h1 : f.length < 4
  · rw [Qbq f h1] at h; cases h
  · by_cases h2 : leN (f.drop (f.length - 4)) = crc (f.take (f.length - 4))
    · rw [Qgn f h1 h2]; exact ((Qtp f h1).2 h2).symm
    · rw [Qwr f h1 h2] at h; cases h
def Qla (l : List UInt8) : Rec × Nat × Int :=
  if l.length < 2 ∨ l.length < be (l.take 2) + 6 then (Rec.zero, 0, 4)
  else if (Qie (l.take (be (l.take 2) + 6))).2 ≠ 0 then (Rec.zero, 0, 3)
  else if (Qpk ((Qie (l.take (be (l.take 2) + 6))).1.drop 2)).2 ≠ 0 then (Rec.zero, 0, 2)
  else ((Qpk ((Qie (l.take (be (l.take 2) + 6))).1.drop 2)).1, be (l.take 2) + 6, 0)
theorem Qsn (r : Rec) (h : r.right) (y : List UInt8) : be ((Qoa r ++ y).take 2) = (Qbg r).length := by
  have hf := rec_few r h
  have e : (Qoa r ++ y).take 2 = beB 2 (Qbg r).length := by
    unfold Qoa Qfk; rw [List.append_assoc, List.append_assoc]; exact List.take_left' (Qx 2 _)
  rw [e]; exact Qak 2 _ (by omega)
theorem Qhu (r : Rec) (h : r.right) (y : List UInt8) : Qla (Qoa r ++ y) = (r, (Qoa r).length, 0) := by
  have h2 := Qsn r h y; have hl := Qed r; have ht : (Qoa r ++ y).take ((Qbg r).length + 6) = Qoa r := List.take_left' hl; have ho : Qie (Qoa r) = (beB 2 (Qbg r).length ++ Qbg r, 0) := open_seal _; have hd : (beB 2 (Qbg r).length ++ Qbg r).drop 2 = Qbg r := List.drop_left' (Qx 2 _); unfold Qla; rw [h2, ht, ho]; simp only; rw [hd, Qwq r h, if_neg (by rw [List.length_append]; omega), if_neg (by simp), if_neg (by simp), hl]
theorem head_ok (l : List UInt8) (h : (Qla l).2.2 = 0) : (Qla l).1.right /\ l.take (Qla l).2.1 = Qoa (Qla l).1 /\ (Qla l).2.1 = (Qoa (Qla l).1).length /\ (Qla l).2.1 <= l.length := by
  unfold Qla at h |-
  by_cases h1 : l.length < 2 ∨ l.length < be (l.take 2) + 6
  · rw [if_pos h1] at h; cases h
  rw [if_neg h1] at h |-
  by_cases h2 : (Qie (l.take (be (l.take 2) + 6))).2 ≠ 0
  · rw [if_pos h2] at h; cases h
  rw [if_neg h2] at h |-
  by_cases h3 : (Qpk ((Qie (l.take (be (l.take 2) + 6))).1.drop 2)).2 ≠ 0
  · rw [if_pos h3] at h; cases h
  rw [if_neg h3] at h |-; simp only; have h2' : (Qie (l.take (be (l.take 2) + 6))).2 = 0 := by omega
  have h3' : (Qpk ((Qie (l.take (be (l.take 2) + 6))).1.drop 2)).2 = 0 := by omega
  obtain ⟨hr, hb⟩ := dec_ok _ h3'; have hs := seal_open _ h2'; generalize hn : be (l.take 2) = n at *; generalize hq : (Qie (l.take (n + 6))).1 = q at *; have hlen : (l.take (n + 6)).length = n + 6 := by rw [List.length_take]; omega
  have hql : q.length = n + 2 := by
    have h5 := congrArg List.length hs; rw [hlen, Qbf] at h5; omega
  have hq2 : q.take 2 = l.take 2 := by
    have h6 : (l.take (n + 6)).take 2 = l.take 2 := by rw [List.take_take, Nat.min_eq_left (by omega)]
    have h7 : (Qfk q).take 2 = q.take 2 := by
      unfold Qfk; rw [List.take_append_of_le_length (by omega)]
    rw [<- h6, hs, h7]
  have hrl : (Qbg (Qpk (q.drop 2)).1).length = n := by rw [hb, List.length_drop]; omega
  have hbe : beB 2 n = l.take 2 := by
    have h8 := beB_be (l.take 2); rw [List.length_take, Nat.min_eq_left (by omega), hn] at h8; exact h8
  have hfr : Qoa (Qpk (q.drop 2)).1 = l.take (n + 6) := by
    have e9 : beB 2 n ++ q.drop 2 = q := by rw [hbe, <- hq2]; exact List.take_append_drop 2 q
    unfold Qoa; rw [hrl, hb, e9]; exact hs.symm
  exact ⟨hr, hfr.symm, by rw [hfr, hlen], by omega⟩
theorem Qet (r : Rec) (h : r.right) (p t : List UInt8) (hp : Qoa r = p ++ t) (ht : t ≠ []) : Qla p = (Rec.zero, 0, 4) := by
  have hl := congrArg List.length hp; rw [List.length_append, Qed] at hl; have htl : 0 < t.length := List.length_pos_iff.2 ht; unfold Qla; rw [if_pos]
  by_cases h2 : p.length < 2
  · exact .inl h2
  · right; have h3 := Qsn r h []; rw [List.append_nil, hp, List.take_append_of_le_length (by omega)] at h3; rw [h3]; omega
def Qc (rs : List Rec) : List UInt8 := rs.flatMap Qoa
def Qcb : Nat -> List Rec -> Prop
  | _, [] => True
  | a, r :: rs => r.right /\ a < r.l /\ Qcb r.l rs
def Qhd : Nat -> Nat -> List UInt8 -> List Rec × Nat
  | 0, _, _ => ([], 0)
  | f + 1, a, l =>
    if (Qla l).2.2 ≠ 0 ∨ (Qla l).1.l <= a then ([], 0)
    else ((Qla l).1 :: (Qhd f (Qla l).1.l (l.drop (Qla l).2.1)).1, (Qla l).2.1 + (Qhd f (Qla l).1.l (l.drop (Qla l).2.1)).2)
theorem Qpg (f a : Nat) (l : List UInt8) (h : (Qla l).2.2 ≠ 0 ∨ (Qla l).1.l <= a) : Qhd f a l = ([], 0) := by
  cases f with
  | zero => rfl
  | succ f => rw [Qhd, if_pos h]
theorem scan_one (f a : Nat) (r : Rec) (h : r.right) (ha : a < r.l) (y : List UInt8) : Qhd (f + 1) a (Qoa r ++ y) = (r :: (Qhd f r.l y).1, (Qoa r).length + (Qhd f r.l y).2) := by
  have hd : (Qoa r ++ y).drop (Qoa r).length = y := List.drop_left' rfl; rw [Qhd, Qhu r h y]; simp only; rw [if_neg (by omega), hd]
def Qya : Nat -> List Rec -> Nat
  | a, [] => a
  | _, r :: rs => Qya r.l rs
theorem Qms : ∀ (rs : List Rec) (f a : Nat) (y : List UInt8), Qcb a rs -> Qhd (rs.length + f) a (Qc rs ++ y) = (rs ++ (Qhd f (Qya a rs) y).1, (Qc rs).length + (Qhd f (Qya a rs) y).2)
  | [], f, a, y, _ => by
    show Qhd (0 + f) a y = _; rw [Nat.zero_add]; show _ = ((Qhd f a y).1, 0 + (Qhd f a y).2); rw [Nat.zero_add]
  | r :: rs, f, a, y, h => by
    obtain ⟨h1, h2, h3⟩ := h; have e1 : (r :: rs).length + f = (rs.length + f) + 1 := by rw [List.length_cons]; omega
    have e2 : Qc (r :: rs) ++ y = Qoa r ++ (Qc rs ++ y) := by
      unfold Qc; rw [List.flatMap_cons, List.append_assoc]
    rw [e1, e2, scan_one _ a r h1 h2, Qms rs f r.l y h3]; show (r :: (rs ++ (Qhd f (Qya r.l rs) y).1), (Qoa r).length + ((Qc rs).length + (Qhd f (Qya r.l rs) y).2)) = _
    have e3 : (Qc (r :: rs)).length = (Qoa r).length + (Qc rs).length := by
      unfold Qc; rw [List.flatMap_cons, List.length_append]
    rw [e3, Nat.add_assoc]; rfl
theorem Qtl : ∀ (f a : Nat) (l : List UInt8), Qcb a (Qhd f a l).1 /\ l.take (Qhd f a l).2 = Qc (Qhd f a l).1 /\ (Qhd f a l).2 <= l.length
  | 0, a, l => ⟨trivial, rfl, Nat.zero_le _⟩
  | f + 1, a, l => by
    by_cases h : (Qla l).2.2 ≠ 0 ∨ (Qla l).1.l <= a
    · rw [Qpg _ a l h]; exact ⟨trivial, rfl, Nat.zero_le _⟩
    · obtain ⟨h1, h2, h3, h4⟩ := head_ok l (by omega); obtain ⟨i1, i2, i3⟩ := Qtl f (Qla l).1.l (l.drop (Qla l).2.1); rw [Qhd, if_neg h]; simp only; rw [List.length_drop] at i3; refine ⟨⟨h1, by omega, i1⟩, ?_, by omega⟩; rw [List.take_add, h2, i2]; unfold Qc; rw [List.flatMap_cons]
theorem scan_nil (f a : Nat) : Qhd f a [] = ([], 0) := Qpg f a [] (.inl (by unfold Qla; rw [if_pos (.inl (by decide))]; decide))
theorem scan_cut (f a : Nat) (r : Rec) (h : r.right) (p t : List UInt8) (hp : Qoa r = p ++ t) (ht : t ≠ []) : Qhd f a p = ([], 0) := Qpg f a p (.inl (by rw [Qet r h p t hp ht]; decide))
def Qua (bs : List UInt8) : List Rec × Nat := Qhd (bs.length + 1) 0 bs
theorem Qif : ∀ rs : List Rec, rs.length * 6 <= (Qc rs).length
  | [] => Nat.le_refl _
  | r :: rs => by
    have h := Qif rs; have e : Qc (r :: rs) = Qoa r ++ Qc rs := by simp [Qc]
    rw [e, List.length_append, Qed, List.length_cons]; omega
theorem scan_end {bs y : List UInt8} {rs : List Rec} (h : bs = Qc rs ++ y) (hr : Qcb 0 rs) (hs : (Qla y).2.2 ≠ 0 ∨ (Qla y).1.l <= Qya 0 rs) : Qua bs = (rs, (Qc rs).length) := by
  have h1 := Qif rs; have h2 := congrArg List.length h; rw [List.length_append] at h2; have e : bs.length + 1 = rs.length + (bs.length + 1 - rs.length) := by omega
  unfold Qua; rw [e, h, Qms rs _ 0 y hr, Qpg _ _ y hs]; simp
theorem Qcc : ∀ (rs : List Rec) (a : Nat) (r : Rec), Qcb a (rs ++ [r]) ↔ Qcb a rs /\ r.right /\ Qya a rs < r.l
  | [], a, r => ⟨fun h => ⟨trivial, h.1, h.2.1⟩, fun h => ⟨h.2.1, h.2.2, trivial⟩⟩
  | q :: rs, a, r => by
    have ih := Qcc rs q.l r
    constructor
    · rintro ⟨h1, h2, h3⟩; have h4 := ih.1 h3; exact ⟨⟨h1, h2, h4.1⟩, h4.2⟩
    · rintro ⟨⟨h1, h2, h3⟩, h4⟩; exact ⟨h1, h2, ih.2 ⟨h3, h4⟩⟩
theorem Qgh : ∀ (rs : List Rec) (a : Nat) (r : Rec), Qya a (rs ++ [r]) = r.l
  | [], _, _ => rfl
  | q :: rs, _, r => Qgh rs q.l r
theorem last_lt : ∀ (rs : List Rec) (a : Nat), Qcb a rs -> a < 18446744073709551616 -> Qya a rs < 18446744073709551616
  | [], _, _, h => h
  | q :: rs, a, h, ha => last_lt rs q.l h.2.2 (by have := h.1.lm; unfold Qtd at this; omega)
theorem Qta : ∀ (rs : List Rec) (a : Nat), Qcb a rs -> ∀ r ∈ rs, r.right
  | [], _, _, _, h => nomatch h
  | q :: rs, a, h, r, hr => by
    rcases List.mem_cons.1 hr with rfl | hr
    · exact h.1
    · exact Qta rs q.l h.2.2 r hr
theorem eq_dec (a b : Nat) : ((a : Int) == (b : Int)) = decide (a = b) := by
  rw [Bool.eq_iff_iff]; simp; omega
def Qgf : Nat -> List Rec -> Bool
  | _, [] => true
  | a, r :: rs => r.rightB && decide (a < r.l) && Qgf r.l rs
theorem Qea : ∀ (l : List Rec) (a : Nat), Qgf a l = true ↔ Qcb a l
  | [], _ => ⟨fun _ => trivial, fun _ => rfl⟩
  | r :: rs, a => by
    unfold Qgf Qcb; rw [Bool.and_eq_true, Bool.and_eq_true, decide_eq_true_iff, Qqf, Qea rs r.l, and_assoc]
theorem riseB_no {l : List Rec} {a : Nat} (h : ¬ Qcb a l) : Qgf a l = false := by
  rw [<- Qea] at h; simpa using h
theorem Qfp : ∀ (l : List Rec) (a : Nat), Qcb a l -> a <= Qya a l
  | [], _, _ => Nat.le_refl _
  | q :: rs, a, h => by
    have := Qfp rs q.l h.2.2; have := h.2.1; show a <= Qya q.l rs; omega
theorem Qzd : ∀ (l : List Rec) (a : Nat), Qcb a l -> ∀ r ∈ l, a < r.l /\ r.l <= Qya a l
  | [], _, _, _, h => nomatch h
  | q :: rs, a, h, r, hr => by
    have h1 := Qfp rs q.l h.2.2
    rcases List.mem_cons.1 hr with rfl | hr
    · exact ⟨h.2.1, h1⟩
    · have := Qzd rs q.l h.2.2 r hr; have := h.2.1; show a < r.l /\ r.l <= Qya q.l rs; omega
theorem Qkc {l : List Rec} {s : Rec} (h : Qcb 0 (l ++ [s])) : Qcb 0 l /\ s.right /\ ∀ r ∈ l, r.l < s.l := by
  obtain ⟨h1, h2, h3⟩ := (Qcc l 0 s).1 h; exact ⟨h1, h2, fun r hr => by have := (Qzd l 0 h1 r hr).2; omega⟩
theorem Qsb {α : Type} {C : List α -> Prop} (h0 : C []) (h1 : ∀ l s, C l -> C (l ++ [s])) (l : List α) : C l := by
  have h : ∀ m : List α, C m.reverse := by
    intro m
    induction m with
    | nil => exact h0
    | cons a m ih =>
      rw [List.reverse_cons]; exact h1 _ _ ih
  have := h l.reverse; rwa [List.reverse_reverse] at this
def Qst (l : List Rec) (n : Nat) : Option Rec := l.find? (fun r => decide (r.l = n))
def Qqi (l : List Rec) (t : Int) : Nat := l.foldl (fun n r => if 1 <= t /\ r.t = t then r.l else n) 0
theorem lastT_nil (t : Int) : Qqi [] t = 0 := rfl
theorem Qce (l : List Rec) (r : Rec) (t : Int) : Qqi (l ++ [r]) t = if 1 <= t /\ r.t = t then r.l else Qqi l t := by
  unfold Qqi; rw [List.foldl_append]; rfl
theorem lastT_is (l : List Rec) (t : Int) : Qqi l t = 0 ∨ ∃ r ∈ l, r.l = Qqi l t /\ r.t = t /\ 1 <= t := by
  induction l using Qsb with
  | h0 => exact .inl rfl
  | h1 l s ih =>
    rw [Qce]
    by_cases h : 1 <= t /\ s.t = t
    · rw [if_pos h]; exact .inr ⟨s, by simp, rfl, h.2, h.1⟩
    · rw [if_neg h]
      rcases ih with ih | ⟨r, h1, h2⟩
      · exact .inl ih
      · exact .inr ⟨r, List.mem_append.2 (.inl h1), h2⟩
theorem lastT_none (l : List Rec) (t : Int) (h : ∀ r ∈ l, ¬ (1 <= t /\ r.t = t)) : Qqi l t = 0 := by
  rcases lastT_is l t with h1 | ⟨r, h1, h2, h3, h4⟩
  · exact h1
  · exact absurd ⟨h4, h3⟩ (h r h1)
theorem Qss {l : List Rec} (hl : Qcb 0 l) {r : Rec} (hr : r ∈ l) : Qst l r.l = some r := by
  revert hr
  induction l using Qsb with
  | h0 => intro hr; cases hr
  | h1 l s ih =>
    intro hr; obtain ⟨h1, h2, h3⟩ := Qkc hl; unfold Qst at ih |-; rw [List.find?_append]
    rcases List.mem_append.1 hr with hr | hr
    · rw [ih h1 hr]; rfl
    · rw [List.mem_singleton.1 hr]
      have h4 : l.find? (fun r => decide (r.l = s.l)) = none := by
        rw [List.find?_eq_none]; intro x hx; have := h3 x hx; simp; omega
      rw [h4]; simp
theorem Qbp {l : List Rec} {n : Nat} (h : ∀ r ∈ l, r.l ≠ n) : Qst l n = none := by
  unfold Qst; rw [List.find?_eq_none]; intro x hx; simpa using h x hx
theorem getT_cases (l : List Rec) (n : Nat) : (Qst l n = none /\ ∀ r ∈ l, r.l ≠ n) ∨ ∃ r ∈ l, r.l = n /\ Qst l n = some r := by
  unfold Qst
  cases h : l.find? (fun r => decide (r.l = n)) with
  | none =>
    refine .inl ⟨rfl, fun r hr => ?_⟩; have := List.find?_eq_none.1 h r hr; simpa using this
  | some r =>
    have := List.find?_some h; exact .inr ⟨r, List.mem_of_find?_eq_some h, by simpa using this, rfl⟩
def nextR : List Rec -> Nat -> Nat
  | [], _ => 0
  | r :: rs, at_ => if r.l = at_ then (if r.k = 1 then at_ else if r.k = 2 then nextR rs r.n else nextR rs r.p) else nextR rs at_
def Qib (l : List Rec) (at_ : Nat) : Nat := nextR l.reverse at_
def stepT (l : List Rec) (r : Rec) : Nat := if r.k = 1 then r.l else if r.k = 2 then Qib l r.n else Qib l r.p
theorem nextT_nil (n : Nat) : Qib [] n = 0 := rfl
theorem Qlc (l : List Rec) (r : Rec) (n : Nat) : Qib (l ++ [r]) n = if r.l = n then (if r.k = 1 then n else if r.k = 2 then Qib l r.n else Qib l r.p) else Qib l n := by
  unfold Qib; rw [List.reverse_append]; rfl
theorem Qpt {l : List Rec} {n : Nat} (h : ∀ r ∈ l, r.l ≠ n) : Qib l n = 0 := by
  induction l using Qsb with
  | h0 => rfl
  | h1 l s ih =>
    rw [Qlc, if_neg (h s (by simp))]; exact ih (fun r hr => h r (List.mem_append.2 (.inl hr)))
theorem Qvu {l : List Rec} (hl : Qcb 0 l) : Qib l 0 = 0 := Qpt fun r hr => by
  have := (Qzd l 0 hl r hr).1; omega
theorem Qee {r : Rec} (h : r.right) : r.p < r.l := by
  have h1 := h.l1
  by_cases hk : r.k <= 6
  · exact (h.own hk).2.2
  · have := (h.none (by omega)).2; omega
theorem Qmh {r : Rec} (h : r.right) : r.n < r.l := by
  have h1 := h.l1
  by_cases hk : r.k = 2
  · exact h.next hk
  · have := h.nonext hk; omega
theorem Qzt {l : List Rec} (hl : Qcb 0 l) {r : Rec} (hr : r ∈ l) : Qib l r.l = stepT l r := by
  revert hr
  induction l using Qsb with
  | h0 => intro hr; cases hr
  | h1 l s ih =>
    intro hr; obtain ⟨h1, h2, h3⟩ := Qkc hl; have up : ∀ n, n < s.l -> Qib (l ++ [s]) n = Qib l n := fun n hn => by rw [Qlc, if_neg (by omega)]
    unfold stepT
    rcases List.mem_append.1 hr with hr | hr
    · have h4 := h3 r hr; have hR := Qta l 0 h1 r hr; have h5 := Qee hR; have h6 := Qmh hR; rw [up _ h4, up _ (by omega), up _ (by omega)]; exact ih h1 hr
    · rw [List.mem_singleton.1 hr]; have h5 := Qee h2; have h6 := Qmh h2; rw [up _ h5, up _ h6, Qlc, if_pos rfl]
theorem Qsm {l : List Rec} (hl : Qcb 0 l) (n : Nat) : Qib l n <= n := by
  induction l using Qsb generalizing n with
  | h0 => exact Nat.zero_le _
  | h1 l s ih =>
    obtain ⟨h1, h2, h3⟩ := Qkc hl; have h5 := Qee h2; have h6 := Qmh h2; rw [Qlc]
    by_cases e : s.l = n
    · rw [if_pos e]
      by_cases k1 : s.k = 1
      · rw [if_pos k1]; exact Nat.le_refl _
      · rw [if_neg k1]
        by_cases k2 : s.k = 2
        · rw [if_pos k2]; have := ih h1 s.n; omega
        · rw [if_neg k2]; have := ih h1 s.p; omega
    · rw [if_neg e]; exact ih h1 n
theorem Qkm {l : List Rec} (hl : Qcb 0 l) (n : Nat) : Qib l n = 0 ∨ ∃ r ∈ l, r.l = Qib l n /\ r.k = 1 := by
  induction l using Qsb generalizing n with
  | h0 => exact .inl rfl
  | h1 l s ih =>
    obtain ⟨h1, h2, h3⟩ := Qkc hl; have up : ∀ n, Qib l n = 0 ∨ ∃ r ∈ l ++ [s], r.l = Qib l n /\ r.k = 1 := fun n => (ih h1 n).imp id fun ⟨r, h4, h5⟩ => ⟨r, List.mem_append.2 (.inl h4), h5⟩
    rw [Qlc]
    by_cases e : s.l = n
    · rw [if_pos e]
      by_cases k1 : s.k = 1
      · rw [if_pos k1]; exact .inr ⟨s, by simp, e, k1⟩
      · rw [if_neg k1]
        by_cases k2 : s.k = 2
        · rw [if_pos k2]; exact up _
        · rw [if_neg k2]; exact up _
    · rw [if_neg e]; exact up _
theorem Qjk {l : List Rec} (hl : Qcb 0 l) (n : Nat) : Qib l (Qib l n) = Qib l n := by
  rcases Qkm hl n with h | ⟨r, h1, h2, h3⟩
  · rw [h]; exact Qvu hl
  · rw [<- h2, Qzt hl h1]; unfold stepT; rw [if_pos h3]
def Qle (l : List Rec) (r : Rec) : Rec := ⟨2, 0, r.t, 0, invC r.c, Qib l r.p, 0, 0, [], []⟩
def planR : List Rec -> Nat -> Nat -> List Rec
  | [], _, _ => []
  | r :: rs, n, u => if r.l = n then (if u < n /\ r.k = 1 then Qle rs.reverse r :: planR rs (nextR rs r.p) u else []) else planR rs n u
def Qwf (l : List Rec) (n u : Nat) : List Rec := planR l.reverse n u
def planT (l : List Rec) (t : Int) (u : Nat) : List Rec := Qwf l (Qib l (Qqi l t)) u
theorem planL_nil (n u : Nat) : Qwf [] n u = [] := rfl
theorem Qid (l : List Rec) (r : Rec) (n u : Nat) : Qwf (l ++ [r]) n u = if r.l = n then (if u < n /\ r.k = 1 then Qle l r :: Qwf l (Qib l r.p) u else []) else Qwf l n u := by
  unfold Qwf Qib; rw [List.reverse_append]; show planR (r :: l.reverse) n u = _; rw [planR, List.reverse_reverse]
theorem Qtt {l : List Rec} {n u : Nat} (h : ∀ r ∈ l, r.l ≠ n) : Qwf l n u = [] := by
  induction l using Qsb with
  | h0 => rfl
  | h1 l s ih =>
    rw [Qid, if_neg (h s (by simp))]; exact ih (fun r hr => h r (List.mem_append.2 (.inl hr)))
theorem Qxl {l : List Rec} (hl : Qcb 0 l) (u : Nat) : Qwf l 0 u = [] := Qtt fun r hr => by
  have := (Qzd l 0 hl r hr).1; omega
theorem Qel {l : List Rec} {s r : Rec} (h : s.l ≠ r.p) : Qle (l ++ [s]) r = Qle l r := by
  unfold Qle; rw [Qlc, if_neg h]
theorem Qal {l : List Rec} (hl : Qcb 0 l) {r : Rec} (hr : r ∈ l) (hk : r.k = 1) (u : Nat) : Qwf l r.l u = if u < r.l then Qle l r :: Qwf l (Qle l r).n u else [] := by
  revert hr
  induction l using Qsb with
  | h0 => intro hr; cases hr
  | h1 l s ih =>
    intro hr; obtain ⟨h1, h2, h3⟩ := Qkc hl; have hR := Qta _ 0 hl r hr; have h5 := Qee hR
    rcases List.mem_append.1 hr with hr | hr
    · have h4 := h3 r hr; have h7 := Qsm h1 r.p; have e : (Qle l r).n = Qib l r.p := rfl; rw [Qid, if_neg (by omega), Qel (by omega), Qid, if_neg (show ¬ s.l = (Qle l r).n by rw [e]; omega)]; exact ih h1 hr
    · rw [List.mem_singleton.1 hr] at h5 hk |-; have h7 := Qsm h1 s.p; have e : (Qle l s).n = Qib l s.p := rfl; rw [Qid, if_pos rfl, Qel (by omega), Qid, e, if_neg (show ¬ s.l = Qib l s.p by omega)]
      by_cases hu : u < s.l
      · rw [if_pos ⟨hu, hk⟩, if_pos hu]
      · rw [if_neg (fun h => hu h.1), if_neg hu]
theorem Qau {l : List Rec} (hl : Qcb 0 l) (n u : Nat) (h : Qib l n = n) : (n <= u /\ Qwf l n u = []) ∨ ∃ r ∈ l, r.l = n /\ r.k = 1 /\ u < n /\ Qwf l n u = Qle l r :: Qwf l (Qle l r).n u := by
  by_cases hu : n <= u
  · refine .inl ⟨hu, ?_⟩
    rcases Qkm hl n with h1 | ⟨r, h1, h2, h3⟩
    · rw [h] at h1; subst h1; exact Qxl hl u
    · rw [h] at h2; subst h2; rw [Qal hl h1 h3, if_neg (by omega)]
  · rcases Qkm hl n with h1 | ⟨r, h1, h2, h3⟩
    · rw [h] at h1; omega
    · rw [h] at h2; subst h2; refine .inr ⟨r, h1, rfl, h3, by omega, ?_⟩; rw [Qal hl h1 h3, if_pos (by omega)]
theorem clr_again {l : List Rec} (hl : Qcb 0 l) (r : Rec) : Qib l (Qle l r).n = (Qle l r).n := Qjk hl r.p
theorem clr_less {l : List Rec} (hl : Qcb 0 l) {r : Rec} (hr : r ∈ l) : (Qle l r).n < r.l := by
  have h1 := Qsm hl r.p; have h2 := Qee (Qta _ 0 hl r hr); show Qib l r.p < r.l; omega
theorem Qnu {l : List Rec} (hl : Qcb 0 l) (u : Nat) : ∀ f n, n <= f -> Qib l n = n -> (Qwf l n u).length <= n
  | 0, n, hf, h => by
    obtain rfl : n = 0 := by omega
    rw [Qxl hl]; exact Nat.zero_le _
  | f + 1, n, hf, h => by
    rcases Qau hl n u h with ⟨_, e⟩ | ⟨r, h1, h2, h3, h4, e⟩
    · rw [e]; exact Nat.zero_le _
    · have h5 := clr_less hl h1; rw [e, List.length_cons]; have := Qnu hl u f _ (by omega) (clr_again hl r); omega
abbrev Ta := List Tx × List Di
def Qe (t : Ta) (r : Rec) : Ta :=
  if r.k = 7 ∨ r.k = 8 then t else (if r.k = 5 then Qba t.1 r.t else Qpb t.1 r, if r.k = 1 ∨ r.k = 2 then Qia t.2 r.c.pg r.l else t.2)
def Qha (t : Ta) (l : List Rec) : Ta := l.foldl Qe t
theorem Qqe (t : Ta) (l : List Rec) (r : Rec) : Qha t (l ++ [r]) = Qe (Qha t l) r := by
  unfold Qha; rw [List.foldl_append]; rfl
theorem Qvv (t : Ta) (l m : List Rec) : Qha t (l ++ m) = Qha (Qha t l) m := by
  unfold Qha; rw [List.foldl_append]
theorem Qjn : ∀ (l : List Tx) (r : Rec) (y : Tx), y ∈ Qpb l r -> y ∈ l ∨ y.t = r.t
  | [], r, y, h => by
    rw [Qpb, List.mem_singleton] at h; rw [h]; exact .inr rfl
  | x :: l, r, y, h => by
    rw [Qpb] at h
    split at h
    · rcases List.mem_cons.1 h with rfl | h
      · exact .inl (by simp)
      · exact (Qjn l r y h).imp (List.mem_cons_of_mem _) id
    · split at h
      · rename_i _ e
        rcases List.mem_cons.1 h with rfl | h
        · exact .inr e
        · exact .inl (List.mem_cons_of_mem _ h)
      · rcases List.mem_cons.1 h with rfl | h
        · exact .inr rfl
        · exact .inl h
theorem Qqn : ∀ (l : List Tx) (r : Rec), Qvl l -> Qvl (Qpb l r)
  | [], r, _ => fun p q hpq hq => absurd hq (by rw [Qpb, List.length_singleton]; omega)
  | x :: l, r, h => by
    have hh := Qef h; have ht := Qje h; rw [Qpb]
    split
    · rename_i e; refine Qog (fun y hy => ?_) (Qqn l r ht)
      rcases Qjn l r y hy with h1 | h1
      · exact hh y h1
      · omega
    · split
      · rename_i _ e; exact Qog (fun y hy => by have := hh y hy; show x.t < y.t; exact this) ht
      · rename_i e1 e2; refine Qog (fun y hy => ?_) h; show r.t < y.t
        rcases List.mem_cons.1 hy with rfl | hy
        · omega
        · have := hh y hy; omega
theorem Qso : ∀ (l : List Tx) (r : Rec), (Qpb l r).length <= l.length + 1
  | [], _ => Nat.le_refl _
  | x :: l, r => by
    rw [Qpb]
    split
    · rw [List.length_cons, List.length_cons]; have := Qso l r; omega
    · split
      · rw [List.length_cons, List.length_cons]; omega
      · rw [List.length_cons]; exact Nat.le_refl _
theorem Qaf : ∀ (l : List Tx) (t : Int) (y : Tx), y ∈ Qba l t -> y ∈ l
  | [], _, _, h => h
  | x :: l, t, y, h => by
    rw [Qba] at h
    split at h
    · exact List.mem_cons_of_mem _ h
    · rcases List.mem_cons.1 h with rfl | h
      · simp
      · exact List.mem_cons_of_mem _ (Qaf l t y h)
theorem Qbi : ∀ (l : List Tx) (t : Int), Qvl l -> Qvl (Qba l t)
  | [], _, h => h
  | x :: l, t, h => by
    rw [Qba]
    split
    · exact Qje h
    · exact Qog (fun y hy => Qef h y (Qaf l t y hy)) (Qbi l t (Qje h))
theorem Qgi : ∀ (l : List Tx) (t : Int), (Qba l t).length <= l.length
  | [], _ => Nat.le_refl _
  | x :: l, t => by
    rw [Qba]
    split
    · rw [List.length_cons]; omega
    · rw [List.length_cons, List.length_cons]; have := Qgi l t; omega
theorem Qjl : ∀ (l : List Di) (p : Int) (n : Nat) (y : Di), y ∈ Qia l p n -> y ∈ l ∨ y.p = p
  | [], p, n, y, h => by
    rw [Qia, List.mem_singleton] at h; rw [h]; exact .inr rfl
  | x :: l, p, n, y, h => by
    rw [Qia] at h
    split at h
    · rcases List.mem_cons.1 h with rfl | h
      · exact .inl (by simp)
      · exact (Qjl l p n y h).imp (List.mem_cons_of_mem _) id
    · split at h
      · exact .inl h
      · rcases List.mem_cons.1 h with rfl | h
        · exact .inr rfl
        · exact .inl h
theorem Qml : ∀ (l : List Di) (p : Int) (n : Nat), Qmt l -> Qmt (Qia l p n)
  | [], p, n, _ => fun a q hpq hq => absurd hq (by rw [Qia, List.length_singleton]; omega)
  | x :: l, p, n, h => by
    have hh := Qio h; have ht := Qro h; rw [Qia]
    split
    · rename_i e; refine Qgo (fun y hy => ?_) (Qml l p n ht)
      rcases Qjl l p n y hy with h1 | h1
      · exact hh y h1
      · omega
    · split
      · exact h
      · rename_i e1 e2; refine Qgo (fun y hy => ?_) h; show p < y.p
        rcases List.mem_cons.1 hy with rfl | hy
        · omega
        · have := hh y hy; omega
theorem Qzl : ∀ (l : List Di) (p : Int) (n : Nat), (Qia l p n).length <= l.length + 1
  | [], _, _ => Nat.le_refl _
  | x :: l, p, n => by
    rw [Qia]
    split
    · rw [List.length_cons, List.length_cons]; have := Qzl l p n; omega
    · split
      · omega
      · rw [List.length_cons]; exact Nat.le_refl _
structure TaOk (t : Ta) (n : Nat) : Prop where
  st : Qvl t.1
  sd : Qmt t.2
  lt : t.1.length <= n
  ld : t.2.length <= n
theorem TaOk.take {t : Ta} {n : Nat} (h : TaOk t n) (r : Rec) : TaOk (Qe t r) (n + 1) := by
  have h1 := h.lt; have h2 := h.ld; unfold Qe
  by_cases e : r.k = 7 ∨ r.k = 8
  · rw [if_pos e]; exact ⟨h.st, h.sd, by omega, by omega⟩
  · rw [if_neg e]
    refine ⟨?_, ?_, ?_, ?_⟩
    · show Qvl (if r.k = 5 then _ else _)
      split
      · exact Qbi _ _ h.st
      · exact Qqn _ _ h.st
    · show Qmt (if r.k = 1 ∨ r.k = 2 then _ else _)
      split
      · exact Qml _ _ _ h.sd
      · exact h.sd
    · show (if r.k = 5 then Qba t.1 r.t else Qpb t.1 r).length <= _
      split
      · have := Qgi t.1 r.t; omega
      · have := Qso t.1 r; omega
    · show (if r.k = 1 ∨ r.k = 2 then Qia t.2 r.c.pg r.l else t.2).length <= _
      split
      · have := Qzl t.2 r.c.pg r.l; omega
      · omega
theorem TaOk.takes {t : Ta} {n : Nat} (h : TaOk t n) : ∀ l : List Rec, TaOk (Qha t l) (n + l.length) := by
  intro l
  induction l using Qsb with
  | h0 => exact h
  | h1 l r ih =>
    rw [Qqe, List.length_append, List.length_singleton]; exact ih.take r
theorem without16 (w : World) (s : Sl) (l : List Tx) (t : Int) (hT : RT w s l) (hs : Qvl l) (hl : l.length <= 10000) :
    Calls Try.prog 45 #[slV s l.length, .int .i64 t] w fun e w' => e = .returned (slV s (Qba l t).length) /\ RT w' s (Qba l t) /\ Tn (ofS s) w w' := by
  have HF := Qb (find16 w s l t hT hs (by omega)); have HT := Qb hT; have HS := Qb hs; obtain ⟨v, hv⟩ : ∃ v, v = slV s l.length := ⟨_, rfl⟩; obtain ⟨a, c, hv2⟩ : ∃ a c, v = .slice a l.length c := ⟨adr s.b, s.c, hv⟩; have HV := Qb hv; rw [<- hv] at HF |-; rw [hv2] at HF |-; have HV2 := Qb hv2; clear hv hv2 hT hs; obtain ⟨n, hn⟩ : ∃ n, n = l.length := ⟨_, rfl⟩; rw [<- hn] at HF hl HV2 HV |-; have HN := Qb hn; clear hn; go_enter Try.func45, Try.ntmps45; go_wp2_with fail; refine HF.out.mono ?_; rintro e w1 ⟨i, q, rfl, hsf, hb⟩; have HB := Qb hb
  cases q with
  | false =>
    have HR := Qb (Quq HS.out hsf); clear hsf hb HF; go_wp2; go_ret; rw [HR.out, <- HN.out, <- HV.out, HV2.out]; exact ⟨rfl, HT.out.later HB.out, Tn.of_below HB.out⟩
  | true =>
    have HR := Qb (Qei _ _ _ hsf); have HD := Qb (delT w1 s l (HT.out.later hb) i (i + 1) (by omega) (by have := (Qpd hsf).1; omega) (by have := HN.out; omega)); rw [<- HN.out, <- HV.out, HV2.out] at HD; have hi9 : i <= 10000 := by have := (Qpd hsf).1; have := HN.out; omega
    rw [show ((i + 1 : Nat) : Int) = (i : Int) + 1 by omega, <- HR.out] at HD; clear hsf hb HF; go_wp2_with fail; refine HD.out.mono ?_; rintro e w2 ⟨rfl, h1, h2⟩; have H2 := Qb (And.intro h1 h2); clear h1 h2 HD; clear HR; go_wp2; go_ret; exact ⟨rfl, H2.out.1, (Tn.of_below HB.out).then H2.out.2⟩
theorem RT.setf {w : World} {s : Sl} {l : List Tx} (h : RT w s l) {i : Nat} (hi : i < l.length) {b : Nat} (hb : s.b = some b) (x : Tx) (j : Nat) (v : Value) (hj : j < 5) (hv : (txL x)[j]? = some v) (ho : ∀ k, k < 5 -> k ≠ j -> (txL x)[k]? = (txL (l.getD i Tx.zero))[k]?) : RT (w.setCell ⟨b, i * 5 + j, none⟩ v) s (l.set i x) := by
  rcases h with ⟨h1, rfl, _⟩ | ⟨b', cs, h1, h2, h3, h4, h5, h6, h7⟩
  · exact absurd hi (by simp)
  · rw [h1] at hb; injection hb with hb; subst hb; have hlen : (l.set i x).length = l.length := List.length_set; have hbig : l.length * 5 <= s.c * 5 := Nat.mul_le_mul_right 5 h4; refine .inr ⟨b', _, h1, h2.set (i * 5 + j) v, by rw [Array.size_setIfInBounds]; exact h3, by rw [hlen]; exact h4, h5, h6, fun q u hu => ?_⟩
    have hq : q < l.length * 5 := by
      have := (List.getElem?_eq_some_iff.1 hu).1; rw [Qra, hlen] at this; exact this
    have hq5 : q / 5 < l.length := by omega
    have hget : (l.set i x)[q / 5]? = some ((l.set i x).getD (q / 5) Tx.zero) := Qge Tx.zero (by rw [hlen]; exact hq5); have hfl := Qgm (l.set i x) (q / 5) (q % 5) _ hget (by omega); rw [show q / 5 * 5 + q % 5 = q by omega, hu] at hfl; have hold := h7 q; have hr := h2.set (i * 5 + j) v; refine hr.cell q u ?_
    by_cases e : q = i * 5 + j
    · subst e; rw [Array.getElem?_setIfInBounds_self_of_lt (by rw [h3]; omega)]; have e1 : (i * 5 + j) / 5 = i := by omega
      have e2 : (i * 5 + j) % 5 = j := by omega
      rw [e1, e2] at hfl
      have : (l.set i x).getD i Tx.zero = x := by
        rw [List.getD_eq_getElem?_getD, List.getElem?_set_self hi]; rfl
      rw [this, hv] at hfl; exact hfl.symm
    · rw [Array.getElem?_setIfInBounds_ne (fun h => e h.symm)]; rw [<- cell_of_row w b' q _ _ (0, 0) h2]; refine hold u ?_; have hg2 := Qgm l (q / 5) (q % 5) _ (Qge Tx.zero hq5) (by omega); rw [show q / 5 * 5 + q % 5 = q by omega] at hg2; rw [hg2, hfl]
      by_cases e1 : q / 5 = i
      · have hx : (l.set i x).getD (q / 5) Tx.zero = x := by
          rw [e1, List.getD_eq_getElem?_getD, List.getElem?_set_self hi]; rfl
        rw [hx, e1]; exact (ho (q % 5) (by omega) (by omega)).symm
      · have hx : (l.set i x).getD (q / 5) Tx.zero = l.getD (q / 5) Tx.zero := by
          rw [List.getD_eq_getElem?_getD, List.getElem?_set_ne (fun h => e1 h.symm), <- List.getD_eq_getElem?_getD]
        rw [hx]
theorem insT_get (l : List Tx) (i : Nat) (k : Tx) (hi : i <= l.length) : (Qyf l i k).getD i Tx.zero = k := by
  unfold Qyf; have e : (l.take i).length = i := by rw [List.length_take]; omega
  rw [List.getD_eq_getElem?_getD, List.getElem?_append_right (by omega), e, Nat.sub_self]; rfl
theorem insT_set (l : List Tx) (i : Nat) (k x : Tx) (hi : i <= l.length) : (Qyf l i k).set i x = Qyf l i x := by
  unfold Qyf; have e : (l.take i).length = i := by rw [List.length_take]; omega
  rw [List.set_append_right _ _ (by omega), e, Nat.sub_self]; rfl
theorem RT.free {w : World} {s : Sl} {l : List Tx} (h : RT w s l) {b : Nat} (hb : s.b = some b) (j : Nat) : w.frozen? ⟨b, j, none⟩ = false := by
  rcases h with ⟨h1, _⟩ | ⟨b', cs, h1, h2, _⟩
  · rw [h1] at hb; cases hb
  · rw [h1] at hb; injection hb with hb; subst hb; exact h2.free j
theorem RT.put1 {w : World} {s : Sl} {l : List Tx} (h : RT w s l) {i : Nat} (hi : i < l.length) {b : Nat} (hb : s.b = some b) (n : Nat) : RT (w.setCell ⟨b, i * 5 + 3, none⟩ (.int .u64 (n : Int))) s (l.set i ⟨(l.getD i Tx.zero).t, (l.getD i Tx.zero).s, (l.getD i Tx.zero).f, n, (l.getD i Tx.zero).n⟩) :=
  h.setf hi hb _ 3 _ (by omega) rfl (fun k hk hn => by
    rcases (show k = 0 ∨ k = 1 ∨ k = 2 ∨ k = 4 by omega) with rfl | rfl | rfl | rfl <;> rfl)
theorem RT.put2n {w : World} {s : Sl} {l : List Tx} (h : RT w s l) {i : Nat} (hi : i < l.length) {b : Nat} (hb : s.b = some b) (n m : Nat) : RT ((w.setCell ⟨b, i * 5 + 3, none⟩ (.int .u64 (n : Int))).setCell ⟨b, i * 5 + 4, none⟩ (.int .u64 (m : Int))) s (l.set i ⟨(l.getD i Tx.zero).t, (l.getD i Tx.zero).s, (l.getD i Tx.zero).f, n, m⟩) := by
  have h1 := h.put1 hi hb n
  have hg : ∀ x : Tx, (l.set i x).getD i Tx.zero = x := fun x => by
    rw [List.getD_eq_getElem?_getD, List.getElem?_set_self hi]; rfl
  have h2 := h1.setf (i := i) (by rw [List.length_set]; exact hi) hb ⟨(l.getD i Tx.zero).t, (l.getD i Tx.zero).s, (l.getD i Tx.zero).f, n, m⟩ 4 (.int .u64 (m : Int)) (by omega) rfl (fun k hk hn => by
    rw [hg]
    rcases (show k = 0 ∨ k = 1 ∨ k = 2 ∨ k = 3 by omega) with rfl | rfl | rfl | rfl <;> rfl)
  rw [List.set_set] at h2; exact h2
theorem RT.put2s {w : World} {s : Sl} {l : List Tx} (h : RT w s l) {i : Nat} (hi : i < l.length) {b : Nat} (hb : s.b = some b) (n : Nat) (m : Int) : RT ((w.setCell ⟨b, i * 5 + 3, none⟩ (.int .u64 (n : Int))).setCell ⟨b, i * 5 + 1, none⟩ (.int .i64 m)) s (l.set i ⟨(l.getD i Tx.zero).t, m, (l.getD i Tx.zero).f, n, (l.getD i Tx.zero).n⟩) := by
  have h1 := h.put1 hi hb n
  have hg : ∀ x : Tx, (l.set i x).getD i Tx.zero = x := fun x => by
    rw [List.getD_eq_getElem?_getD, List.getElem?_set_self hi]; rfl
  have h2 := h1.setf (i := i) (by rw [List.length_set]; exact hi) hb ⟨(l.getD i Tx.zero).t, m, (l.getD i Tx.zero).f, n, (l.getD i Tx.zero).n⟩ 1 (.int .i64 m) (by omega) rfl (fun k hk hn => by
    rw [hg]
    rcases (show k = 0 ∨ k = 2 ∨ k = 3 ∨ k = 4 by omega) with rfl | rfl | rfl | rfl <;> rfl)
  rw [List.set_set] at h2; exact h2
def WithAns (w : World) (s : Sl) (m : List Tx) (e : Ending) (w' : World) : Prop := ∃ s', e = .returned (slV s' m.length) /\ RT w' s' m /\ Tn (ofS s) w w' /\ ∀ q, s'.b = some q -> s.b = some q ∨ w.heap.size <= q
theorem with16 (w : World) (s : Sl) (l : List Tx) (r : Rec) (va vb : Value) (hT : RT w s l) (hs : Qvl l) (hl : l.length <= 10000) :
    Calls Try.prog 46 #[slV s l.length, .agg (rcA r va vb)] w (WithAns w s (Qpb l r)) := by
  have n0 := Qa.new w 46 (rcA r va vb); have hb0 : Below w.heap.size w (w.alloc (.cells (rcA r va vb) 46)) := (Below.refl _ _).alloc (Nat.le_refl _) _; obtain ⟨y, hy⟩ : ∃ y, y = w.alloc (.cells (rcA r va vb) 46) := ⟨_, rfl⟩; obtain ⟨b0, hb⟩ : ∃ b, b = w.heap.size := ⟨_, rfl⟩; have HLT := Qb (fun b (h : s.b = some b) => hT.lt h); rw [<- hy] at n0 hb0; rw [<- hb] at n0; have HF := Qb (find16 y s l r.t (hT.later hb0) hs (by omega)); have H0 : Hid (Qa y b0 46 (rcA r va vb) /\ RT y s l /\ Below w.heap.size w y) := ⟨n0, hT.later hb0, hb0⟩; have HY := Qb hy; have HB := Qb hb; obtain ⟨v, hv⟩ : ∃ v, v = slV s l.length := ⟨_, rfl⟩; obtain ⟨a, c, hv2⟩ : ∃ a c, v = .slice a l.length c := ⟨adr s.b, s.c, hv⟩; have HV := Qb hv; rw [<- hv] at HF |-; rw [hv2] at HF |-; have HV2 := Qb hv2; clear hv hv2 hT hs n0 hb0 hy hb; obtain ⟨n, hn⟩ : ∃ n, n = l.length := ⟨_, rfl⟩; rw [<- hn] at HF hl HV2 HV |-; have HN := Qb hn; clear hn; go_enter Try.func46, Try.ntmps46; go_wp2_with (with_reducible refine Qxa 11 rfl ?_); rw [<- HY.out, <- HB.out]; have k2 := H0.out.1.cell 2 (.int .i64 r.t) rfl; refine Qg ?_; go_wp2_with fail; refine HF.out.mono ?_; rintro e w1 ⟨i, q, rfl, hsf, hb⟩; have H1 : Hid (Qa w1 b0 46 (rcA r va vb) /\ RT w1 s l /\ Below w.heap.size w w1) := ⟨H0.out.1.later hb, H0.out.2.1.later hb, H0.out.2.2.trans (hb.mono H0.out.2.2.size)⟩; clear k2 hb HF H0
  cases q with
  | true =>
    have hi9 := (Qpd hsf).1; obtain ⟨W, hW⟩ : ∃ W, W = w1 := ⟨_, rfl⟩; obtain ⟨s1, hs1⟩ : ∃ s1, s1 = s := ⟨_, rfl⟩; obtain ⟨l1, hl1⟩ : ∃ l1, l1 = l := ⟨_, rfl⟩; obtain ⟨n1, hn1⟩ : ∃ n1, n1 = n := ⟨_, rfl⟩; have hil : i < l1.length := by rw [hl1]; exact hi9
    have HN1 : Hid (n1 = l1.length) := by rw [hn1, hl1]; exact HN.out
    have HRES : Hid (Qpb l r = l1.set i (Qag (l1.getD i Tx.zero) r)) := by rw [hl1]; exact Qnp _ _ _ hsf
    have H2 : Hid (Qa W b0 46 (rcA r va vb) /\ RT W s1 l1 /\ Tn (ofS s) w W /\ (∀ q, s1.b = some q -> s.b = some q ∨ w.heap.size <= q) /\ (∀ b, s1.b = some b -> ¬ b0 = b)) := by
      rw [hW, hs1, hl1]; exact ⟨H1.out.1, H1.out.2.1, Tn.of_below H1.out.2.2, fun q hq => .inl hq, fun b hb e => by have := HLT.out b hb; have := HB.out; omega⟩
    have hin : i < n1 := by have := HN1.out; omega
    have hn9 : n1 <= 10000 := by omega
    rw [<- hW, <- hn1]; have HV0 : Hid (slV s1 n1 = .slice a n1 c) := by rw [hs1, hn1, <- HV.out]; exact HV2.out
    clear hW hs1 hl1 hn1 hsf hi9 H1 HN hl HV HV2; have hg := Qge Tx.zero hil; obtain ⟨b1, hb1, hlt1, hc1⟩ := H2.out.2.1.at hg
    have ha1 : a = some ⟨b1, 0, none⟩ := by
      have h9 : slV s1 n1 = .slice (some ⟨b1, 0, none⟩) n1 s1.c := by unfold slV; rw [hb1]; rfl
      have h8 := HV0.out; rw [h9] at h8; injection h8 with h8; exact h8.symm
    subst ha1; have hne : ¬ b0 = b1 := H2.out.2.2.2.2 b1 hb1; have c3 := hc1 3 (.int .u64 ((l1.getD i Tx.zero).l : Int)) (by omega) rfl; have c4 := hc1 4 (.int .u64 ((l1.getD i Tx.zero).n : Int)) (by omega) rfl; have c5 := hc1 1 (.int .i64 (l1.getD i Tx.zero).s) (by omega) rfl; have f3 : W.frozen? ⟨b1, i * 5 + 3, none⟩ = false := H2.out.2.1.free hb1 _; have f4 : W.frozen? ⟨b1, i * 5 + 4, none⟩ = false := H2.out.2.1.free hb1 _; have f5 : W.frozen? ⟨b1, i * 5 + 1, none⟩ = false := H2.out.2.1.free hb1 _; have k0 := H2.out.1.cell 0 (.int .i64 r.k) rfl; have k1 := H2.out.1.cell 1 (.int .u64 (r.l : Int)) rfl; have k9 := H2.out.1.cell 9 (.int .u64 (r.n : Int)) rfl; have ii : (i : Int) < (n1 : Int) := by omega
    have HBB := Qb hb1; obtain ⟨rk, hrk⟩ : ∃ k, k = r.k := ⟨_, rfl⟩; obtain ⟨rl, hrl⟩ : ∃ k, k = r.l := ⟨_, rfl⟩; obtain ⟨rn, hrn⟩ : ∃ k, k = r.n := ⟨_, rfl⟩; have HRR := Qb (And.intro hrk (And.intro hrl hrn)); have HIL := Qb hil; rw [<- hrk] at k0; rw [<- hrl] at k1; rw [<- hrn] at k9; clear hg hc1 hb1 hrk hrl hrn hil hlt1
    by_cases hk1 : rk = 1
    · have hkk := hk1; subst hk1; go_wp2; go_ret
      refine ⟨s1, ?_, ?_, H2.out.2.2.1.trans (G := fun k => k = b1) ?_ ?_, H2.out.2.2.2.1⟩
      · rw [HRES.out, List.length_set, <- HN1.out]; exact congrArg Ending.returned HV0.out.symm
      · have h8 := H2.out.2.1.put2n HIL.out HBB.out rl rl; rw [HRES.out]
        have h7 : Qag (l1.getD i Tx.zero) r = ⟨(l1.getD i Tx.zero).t, (l1.getD i Tx.zero).s, (l1.getD i Tx.zero).f, rl, rl⟩ := by
          unfold Qag; rw [<- HRR.out.1, <- HRR.out.2.1, <- HRR.out.2.2]; simp
        rw [h7]; exact h8
      · exact ((Tn.refl (fun k => k = b1) W).set b1 _ _ rfl).set b1 _ _ rfl
      · intro k hk; rw [hk]; exact H2.out.2.2.2.1 b1 HBB.out
    by_cases hk2 : rk = 2
    · have hkk := hk2; subst hk2; go_wp2; go_ret
      refine ⟨s1, ?_, ?_, H2.out.2.2.1.trans (G := fun k => k = b1) ?_ ?_, H2.out.2.2.2.1⟩
      · rw [HRES.out, List.length_set, <- HN1.out]; exact congrArg Ending.returned HV0.out.symm
      · have h8 := H2.out.2.1.put2n HIL.out HBB.out rl rn; rw [HRES.out]
        have h7 : Qag (l1.getD i Tx.zero) r = ⟨(l1.getD i Tx.zero).t, (l1.getD i Tx.zero).s, (l1.getD i Tx.zero).f, rl, rn⟩ := by
          unfold Qag; rw [<- HRR.out.1, <- HRR.out.2.1, <- HRR.out.2.2]; simp
        rw [h7]; exact h8
      · exact ((Tn.refl (fun k => k = b1) W).set b1 _ _ rfl).set b1 _ _ rfl
      · intro k hk; rw [hk]; exact H2.out.2.2.2.1 b1 HBB.out
    by_cases hk4 : rk = 4
    · have hkk := hk4; subst hk4; go_wp2; go_ret
      refine ⟨s1, ?_, ?_, H2.out.2.2.1.trans (G := fun k => k = b1) ?_ ?_, H2.out.2.2.2.1⟩
      · rw [HRES.out, List.length_set, <- HN1.out]; exact congrArg Ending.returned HV0.out.symm
      · have h8 := H2.out.2.1.put2s HIL.out HBB.out rl 2; rw [HRES.out]
        have h7 : Qag (l1.getD i Tx.zero) r = ⟨(l1.getD i Tx.zero).t, 2, (l1.getD i Tx.zero).f, rl, (l1.getD i Tx.zero).n⟩ := by
          unfold Qag; rw [<- HRR.out.1, <- HRR.out.2.1, <- HRR.out.2.2]; simp
        rw [h7]; exact h8
      · exact ((Tn.refl (fun k => k = b1) W).set b1 _ _ rfl).set b1 _ _ rfl
      · intro k hk; rw [hk]; exact H2.out.2.2.2.1 b1 HBB.out
    by_cases hk3 : rk = 3
    · have hkk := hk3; subst hk3; go_wp2; go_ret
      refine ⟨s1, ?_, ?_, H2.out.2.2.1.trans (G := fun k => k = b1) ?_ ?_, H2.out.2.2.2.1⟩
      · rw [HRES.out, List.length_set, <- HN1.out]; exact congrArg Ending.returned HV0.out.symm
      · have h8 := H2.out.2.1.put2s HIL.out HBB.out rl 3; rw [HRES.out]
        have h7 : Qag (l1.getD i Tx.zero) r = ⟨(l1.getD i Tx.zero).t, 3, (l1.getD i Tx.zero).f, rl, (l1.getD i Tx.zero).n⟩ := by
          unfold Qag; rw [<- HRR.out.1, <- HRR.out.2.1, <- HRR.out.2.2]; simp
        rw [h7]; exact h8
      · exact ((Tn.refl (fun k => k = b1) W).set b1 _ _ rfl).set b1 _ _ rfl
      · intro k hk; rw [hk]; exact H2.out.2.2.2.1 b1 HBB.out
    have hkk := And.intro hk1 (And.intro hk2 (And.intro hk3 hk4)); have j1 : (rk == 1) = false := by simpa using hk1
    have j2 : (rk == 2) = false := by simpa using hk2
    have j3 : (rk == 3) = false := by simpa using hk3
    have j4 : (rk == 4) = false := by simpa using hk4
    go_wp2; go_ret
    refine ⟨s1, ?_, ?_, H2.out.2.2.1.trans (G := fun k => k = b1) ?_ ?_, H2.out.2.2.2.1⟩
    · rw [HRES.out, List.length_set, <- HN1.out]; exact congrArg Ending.returned HV0.out.symm
    · have h8 := H2.out.2.1.put1 HIL.out HBB.out rl; rw [HRES.out]
      have h7 : Qag (l1.getD i Tx.zero) r = ⟨(l1.getD i Tx.zero).t, (l1.getD i Tx.zero).s, (l1.getD i Tx.zero).f, rl, (l1.getD i Tx.zero).n⟩ := by
        unfold Qag; rw [<- HRR.out.1, <- HRR.out.2.1, <- HRR.out.2.2]; simp [hkk]
      rw [h7]; exact h8
    · exact (Tn.refl (fun k => k = b1) W).set b1 _ _ rfl
    · intro k hk; rw [hk]; exact H2.out.2.2.2.1 b1 HBB.out
  | false =>
    have hi9 := hsf.le; have HFI := Qb (Qos l r i hsf); have k2 := H1.out.1.cell 2 (.int .i64 r.t) rfl; have k1 := H1.out.1.cell 1 (.int .u64 (r.l : Int)) rfl; clear hsf
    have hgb : s.b ≠ some w1.heap.size := fun e => by
      have h1 := HLT.out _ e; have h2 := H1.out.2.2.size; omega
    have hbA : Below w1.heap.size w1 (w1.alloc (.cells (txA (Qza r)) 42)) := (Below.refl _ _).alloc (Nat.le_refl _) _; have HI := Qb (insT (w1.alloc (.cells (txA (Qza r)) 42)) s l (H1.out.2.1.later hbA) i hi9 (Qza r) w1.heap.size (Qa.new w1 _ _) hgb (by have := HN.out; omega)); have H3 : Hid (Qa (w1.alloc (.cells (txA (Qza r)) 42)) b0 46 (rcA r va vb) /\ Below w.heap.size w (w1.alloc (.cells (txA (Qza r)) 42)) /\ b0 < w1.heap.size /\ w1.heap.size <= (w1.alloc (.cells (txA (Qza r)) 42)).heap.size) := ⟨H1.out.1.later hbA, H1.out.2.2.trans (hbA.mono H1.out.2.2.size), H1.out.1.lt, hbA.size⟩; rw [<- HN.out, <- HV.out, HV2.out] at HI; have HGB := Qb hi9; clear hgb hbA hi9; go_wp2_with fail; refine HI.out.mono ?_; rintro e W ⟨s1, rfl, hR, hTn, hnw⟩; rw [<- HN.out]; obtain ⟨n1, hn1⟩ : ∃ n1, n1 = n + 1 := ⟨_, rfl⟩; rw [<- hn1]; obtain ⟨l1, hl1⟩ : ∃ l1, l1 = Qyf l i (Qza r) := ⟨_, rfl⟩; have hlen1 : l1.length = l.length + 1 := by rw [hl1]; exact Qlk _ _ _ HGB.out
    have hil : i < l1.length := by have := HGB.out; omega
    have HN1 : Hid (n1 = l1.length) := by rw [hn1, hlen1, HN.out]; exact Qb rfl
    have HRES : Hid (Qpb l r = l1.set i (Qag (l1.getD i Tx.zero) r)) := by
      rw [hl1, insT_get l i _ HGB.out, insT_set l i _ _ HGB.out]; exact Qb HFI.out
    rw [<- hl1] at hR
    have H2 : Hid (Qa W b0 46 (rcA r va vb) /\ RT W s1 l1 /\ Tn (ofS s) w W /\ (∀ q, s1.b = some q -> s.b = some q ∨ w.heap.size <= q) /\ (∀ b, s1.b = some b -> ¬ b0 = b)) := by
      refine ⟨hTn.row H3.out.1 (fun e => ?_), hR, (Tn.of_below H3.out.2.1).then hTn, fun q hq => (hnw q hq).imp id (fun h => Nat.le_trans H3.out.2.1.size h), fun b hb e => ?_⟩
      · have h1 := HLT.out _ e; have := HB.out; omega
      · rcases hnw b hb with h1 | h1
        · have h2 := HLT.out _ h1; have := HB.out; omega
        · have h2 := H3.out.2.2.1; have h3 := H3.out.2.2.2; omega
    have hin : i < n1 := by have := HN1.out; omega
    have hn9 : n1 <= 10001 := by omega
    clear hl1 hlen1 hn1 hR hTn hnw k1 k2 H1 H3 HI HFI HGB HN hl HV HV2; obtain ⟨a, c, hv0⟩ : ∃ a c, slV s1 n1 = .slice a n1 c := ⟨adr s1.b, s1.c, rfl⟩; rw [hv0]; have HV0 := Qb hv0; clear hv0; have hg := Qge Tx.zero hil; obtain ⟨b1, hb1, hlt1, hc1⟩ := H2.out.2.1.at hg
    have ha1 : a = some ⟨b1, 0, none⟩ := by
      have h9 : slV s1 n1 = .slice (some ⟨b1, 0, none⟩) n1 s1.c := by unfold slV; rw [hb1]; rfl
      have h8 := HV0.out; rw [h9] at h8; injection h8 with h8; exact h8.symm
    subst ha1; have hne : ¬ b0 = b1 := H2.out.2.2.2.2 b1 hb1; have c3 := hc1 3 (.int .u64 ((l1.getD i Tx.zero).l : Int)) (by omega) rfl; have c4 := hc1 4 (.int .u64 ((l1.getD i Tx.zero).n : Int)) (by omega) rfl; have c5 := hc1 1 (.int .i64 (l1.getD i Tx.zero).s) (by omega) rfl; have f3 : W.frozen? ⟨b1, i * 5 + 3, none⟩ = false := H2.out.2.1.free hb1 _; have f4 : W.frozen? ⟨b1, i * 5 + 4, none⟩ = false := H2.out.2.1.free hb1 _; have f5 : W.frozen? ⟨b1, i * 5 + 1, none⟩ = false := H2.out.2.1.free hb1 _; have k0 := H2.out.1.cell 0 (.int .i64 r.k) rfl; have k1 := H2.out.1.cell 1 (.int .u64 (r.l : Int)) rfl; have k9 := H2.out.1.cell 9 (.int .u64 (r.n : Int)) rfl; have ii : (i : Int) < (n1 : Int) := by omega
    have HBB := Qb hb1; obtain ⟨rk, hrk⟩ : ∃ k, k = r.k := ⟨_, rfl⟩; obtain ⟨rl, hrl⟩ : ∃ k, k = r.l := ⟨_, rfl⟩; obtain ⟨rn, hrn⟩ : ∃ k, k = r.n := ⟨_, rfl⟩; have HRR := Qb (And.intro hrk (And.intro hrl hrn)); have HIL := Qb hil; rw [<- hrk] at k0; rw [<- hrl] at k1; rw [<- hrn] at k9; clear hg hc1 hb1 hrk hrl hrn hil hlt1
    by_cases hk1 : rk = 1
    · have hkk := hk1; subst hk1; go_wp2; go_ret
      refine ⟨s1, ?_, ?_, H2.out.2.2.1.trans (G := fun k => k = b1) ?_ ?_, H2.out.2.2.2.1⟩
      · rw [HRES.out, List.length_set, <- HN1.out]; exact congrArg Ending.returned HV0.out.symm
      · have h8 := H2.out.2.1.put2n HIL.out HBB.out rl rl; rw [HRES.out]
        have h7 : Qag (l1.getD i Tx.zero) r = ⟨(l1.getD i Tx.zero).t, (l1.getD i Tx.zero).s, (l1.getD i Tx.zero).f, rl, rl⟩ := by
          unfold Qag; rw [<- HRR.out.1, <- HRR.out.2.1, <- HRR.out.2.2]; simp
        rw [h7]; exact h8
      · exact ((Tn.refl (fun k => k = b1) W).set b1 _ _ rfl).set b1 _ _ rfl
      · intro k hk; rw [hk]; exact H2.out.2.2.2.1 b1 HBB.out
    by_cases hk2 : rk = 2
    · have hkk := hk2; subst hk2; go_wp2; go_ret
      refine ⟨s1, ?_, ?_, H2.out.2.2.1.trans (G := fun k => k = b1) ?_ ?_, H2.out.2.2.2.1⟩
      · rw [HRES.out, List.length_set, <- HN1.out]; exact congrArg Ending.returned HV0.out.symm
      · have h8 := H2.out.2.1.put2n HIL.out HBB.out rl rn; rw [HRES.out]
        have h7 : Qag (l1.getD i Tx.zero) r = ⟨(l1.getD i Tx.zero).t, (l1.getD i Tx.zero).s, (l1.getD i Tx.zero).f, rl, rn⟩ := by
          unfold Qag; rw [<- HRR.out.1, <- HRR.out.2.1, <- HRR.out.2.2]; simp
        rw [h7]; exact h8
      · exact ((Tn.refl (fun k => k = b1) W).set b1 _ _ rfl).set b1 _ _ rfl
      · intro k hk; rw [hk]; exact H2.out.2.2.2.1 b1 HBB.out
    by_cases hk4 : rk = 4
    · have hkk := hk4; subst hk4; go_wp2; go_ret
      refine ⟨s1, ?_, ?_, H2.out.2.2.1.trans (G := fun k => k = b1) ?_ ?_, H2.out.2.2.2.1⟩
      · rw [HRES.out, List.length_set, <- HN1.out]; exact congrArg Ending.returned HV0.out.symm
      · have h8 := H2.out.2.1.put2s HIL.out HBB.out rl 2; rw [HRES.out]
        have h7 : Qag (l1.getD i Tx.zero) r = ⟨(l1.getD i Tx.zero).t, 2, (l1.getD i Tx.zero).f, rl, (l1.getD i Tx.zero).n⟩ := by
          unfold Qag; rw [<- HRR.out.1, <- HRR.out.2.1, <- HRR.out.2.2]; simp
        rw [h7]; exact h8
      · exact ((Tn.refl (fun k => k = b1) W).set b1 _ _ rfl).set b1 _ _ rfl
      · intro k hk; rw [hk]; exact H2.out.2.2.2.1 b1 HBB.out
    by_cases hk3 : rk = 3
    · have hkk := hk3; subst hk3; go_wp2; go_ret
      refine ⟨s1, ?_, ?_, H2.out.2.2.1.trans (G := fun k => k = b1) ?_ ?_, H2.out.2.2.2.1⟩
      · rw [HRES.out, List.length_set, <- HN1.out]; exact congrArg Ending.returned HV0.out.symm
      · have h8 := H2.out.2.1.put2s HIL.out HBB.out rl 3; rw [HRES.out]
        have h7 : Qag (l1.getD i Tx.zero) r = ⟨(l1.getD i Tx.zero).t, 3, (l1.getD i Tx.zero).f, rl, (l1.getD i Tx.zero).n⟩ := by
          unfold Qag; rw [<- HRR.out.1, <- HRR.out.2.1, <- HRR.out.2.2]; simp
        rw [h7]; exact h8
      · exact ((Tn.refl (fun k => k = b1) W).set b1 _ _ rfl).set b1 _ _ rfl
      · intro k hk; rw [hk]; exact H2.out.2.2.2.1 b1 HBB.out
    have hkk := And.intro hk1 (And.intro hk2 (And.intro hk3 hk4)); have j1 : (rk == 1) = false := by simpa using hk1
    have j2 : (rk == 2) = false := by simpa using hk2
    have j3 : (rk == 3) = false := by simpa using hk3
    have j4 : (rk == 4) = false := by simpa using hk4
    go_wp2; go_ret
    refine ⟨s1, ?_, ?_, H2.out.2.2.1.trans (G := fun k => k = b1) ?_ ?_, H2.out.2.2.2.1⟩
    · rw [HRES.out, List.length_set, <- HN1.out]; exact congrArg Ending.returned HV0.out.symm
    · have h8 := H2.out.2.1.put1 HIL.out HBB.out rl; rw [HRES.out]
      have h7 : Qag (l1.getD i Tx.zero) r = ⟨(l1.getD i Tx.zero).t, (l1.getD i Tx.zero).s, (l1.getD i Tx.zero).f, rl, (l1.getD i Tx.zero).n⟩ := by
        unfold Qag; rw [<- HRR.out.1, <- HRR.out.2.1, <- HRR.out.2.2]; simp [hkk]
      rw [h7]; exact h8
    · exact (Tn.refl (fun k => k = b1) W).set b1 _ _ rfl
    · intro k hk; rw [hk]; exact H2.out.2.2.2.1 b1 HBB.out
theorem Qup : ∀ (args : Array Value) (x : World), Sem.run Try.prog (callFunc 69 args) x = Result.ok (Next.enter 69 args) x := by
  intro args x; go_simp
theorem dirt1_16 (x : World) (gn gr h : Nat) (t : Int) (s : Sl) (l : List Di) (hn : x.cell? ⟨gn, 5, none⟩ = some (.int .i64 t)) (hr : x.cell? ⟨gr, 0, none⟩ = some (slV s l.length)) (hT : RD x s l) (hh : h < l.length) (hl : l.length <= 100000) :
    Calls Try.prog 69 #[.int .i64 (h : Int), .pointer (some ⟨gn, 0, none⟩), .pointer (some ⟨gr, 0, none⟩)] x fun e w' => e = .returned (.int .i64 (Qoi t (l.getD h Di.zero).p)) /\ Below x.heap.size x w' := by
  obtain ⟨b, hb, hlt, hc⟩ := hT.at (Qge Di.zero hh); have c0 := hc 0 (.int .i64 (l.getD h Di.zero).p) (by omega) rfl; rw [Nat.add_zero] at c0; obtain ⟨o, c⟩ := s; have hb2 : o = some b := hb; subst hb2; generalize (l.getD h Di.zero).p = u at *; generalize l.length = n at *; have hr2 : x.cell? ⟨gr, 0, none⟩ = some (.slice (some ⟨b, 0, none⟩) n c) := hr; have HC := Qb (fun w => cmp16 t u w); have HS := Qb (And.intro hn (And.intro hr2 c0)); have ih : (h : Int) < (n : Int) := by omega
  have ih0 : (0 : Int) <= (h : Int) := by omega
  clear hc hT hr hb hn hr2 c0; go_enter Try.func69, Try.ntmps69; go_wp2_with fail; refine wp_region_noPanic ?_; refine wp_region_held_drew (S := fun z => z.cell? ⟨gn, 5, none⟩ = some (.int .i64 t) /\ z.cell? ⟨gr, 0, none⟩ = some (.slice (some ⟨b, 0, none⟩) n c) /\ z.cell? ⟨b, h * 2, none⟩ = some (.int .i64 u)) (by kernel_rfl) (HS.out) (fun hHeld => ?_); refine tkq 0 (some 5) (.pointer (some ⟨gn, 4, none⟩)) hHeld ?_; (try simp only [Act.put, List.setIfInBounds_toArray, List.set]); refine tkq 1 (some 6) (.pointer (some ⟨gn, 5, none⟩)) hHeld ?_; (try simp only [Act.put, List.setIfInBounds_toArray, List.set]); refine tkk 2 (some 7) (.int .i64 t) rfl rfl (by kernel_rfl) (by kernel_rfl) (fun x hSx => by have h1 := hSx.1; go_simp) hHeld ?_; (try simp only [Act.put, List.setIfInBounds_toArray, List.set]); refine tkk 3 (some 8) (.slice (some ⟨b, 0, none⟩) n c) rfl rfl (by kernel_rfl) (by kernel_rfl) (fun x hSx => by have h1 := hSx.2.1; go_simp) hHeld ?_; (try simp only [Act.put, List.setIfInBounds_toArray, List.set]); refine tkq 4 (some 9) (.int .i64 (h : Int)) hHeld ?_; (try simp only [Act.put, List.setIfInBounds_toArray, List.set]); refine tkq 5 (some 10) (.pointer (some ⟨b, h * 2, none⟩)) hHeld ?_; (try simp only [Act.put, List.setIfInBounds_toArray, List.set]); refine tkq 6 (some 11) (.pointer (some ⟨b, h * 2, none⟩)) hHeld ?_; (try simp only [Act.put, List.setIfInBounds_toArray, List.set]); refine tkk 7 (some 12) (.int .i64 u) rfl rfl (by kernel_rfl) (by kernel_rfl) (fun x hSx => by have h1 := hSx.2.2; go_simp) hHeld ?_; (try simp only [Act.put, List.setIfInBounds_toArray, List.set]); refine Qm 8 (by kernel_rfl) ?_; refine Qfa (some 13) rfl rfl rfl 70 #[.int .i64 t, .int .i64 u] ?he ((HC.out _).mono ?_); (case he => go_simp); rintro e w1 ⟨rfl, rfl⟩; refine ⟨_, rfl, hHeld, ?_⟩; (try simp only [Act.put, List.setIfInBounds_toArray, List.set]); refine tkq 9 (some 4) (.int .i64 (Qoi t u)) hHeld ?_; (try simp only [Act.put, List.setIfInBounds_toArray, List.set]); refine wpAnyH_done (by kernel_rfl) ?_ _; refine NoPanic.normal ?_; clear hHeld; go_wp2; go_ret; exact ⟨rfl, Qoc (Below.refl _ _) 1⟩
def Qzm (l : List Di) (t : Int) (i : Nat) (q : Bool) : Prop := Sf (fun k => Qoi t (l.getD k Di.zero).p) l.length i q
theorem Qjs {l : List Di} {t : Int} {i : Nat} {q : Bool} (h : Qzm l t i q) {k : Nat} (hk : k < i) : (l.getD k Di.zero).p < t := (Qcd _ _).1 (h.low k hk)
theorem Qnn {l : List Di} {t : Int} {i : Nat} (h : Qzm l t i true) : i < l.length /\ (l.getD i Di.zero).p = t := ⟨(h.yes rfl).1, ((Qme _ _).1 (h.yes rfl).2).symm⟩
theorem findD_ge {l : List Di} {t : Int} {i : Nat} {q : Bool} (h : Qzm l t i q) {k : Nat} (h1 : i <= k) (h2 : k < l.length) : t <= (l.getD k Di.zero).p := by
  have := h.high k h1 h2; have h3 : ¬ 0 < Qoi t (l.getD k Di.zero).p := by show ¬ 0 < _; omega
  rw [Qcd] at h3; omega
theorem findD_no {l : List Di} {t : Int} {i : Nat} (h : Qzm l t i false) (hi : i < l.length) : t < (l.getD i Di.zero).p := by
  have h1 := findD_ge h (Nat.le_refl _) hi; have h2 := h.no rfl hi; have h3 : ¬ t = (l.getD i Di.zero).p := fun e => h2 ((Qme _ _).2 e)
  omega
theorem Qul {x : Di} {l : List Di} {t : Int} {i : Nat} {q : Bool} (h : Qzm (x :: l) t (i + 1) q) : Qzm l t i q := by
  refine ⟨by have := h.le; rw [List.length_cons] at this; omega, fun k hk => ?_, fun k h1 h2 => ?_, fun e => ?_, fun e h2 => ?_⟩
  · have := h.low (k + 1) (by omega); simpa [List.getD] using this
  · have := h.high (k + 1) (by omega) (by rw [List.length_cons]; omega); simpa [List.getD] using this
  · have := h.yes e; rw [List.length_cons] at this; exact ⟨by omega, by simpa [List.getD] using this.2⟩
  · have := h.no e (by rw [List.length_cons]; omega); simpa [List.getD] using this
theorem Qql : ∀ (l : List Di) (p : Int) (n i : Nat), Qzm l p i true -> Qia l p n = l
  | [], p, n, i, h => absurd (Qnn h).1 (by simp)
  | x :: l, p, n, 0, h => by
    have h2 : x.p = p := by simpa [List.getD] using (Qnn h).2
    unfold Qia; rw [if_neg (by omega), if_pos h2]
  | x :: l, p, n, i + 1, h => by
    have h1 : x.p < p := by simpa [List.getD] using Qjs h (Nat.succ_pos i)
    unfold Qia; rw [if_pos h1, Qql l p n i (Qul h)]
theorem Qoo : ∀ (l : List Di) (p : Int) (n i : Nat), Qzm l p i false -> Qia l p n = Qoh l i ⟨p, n⟩
  | [], p, n, i, h => by
    have := h.le; have h2 : i = 0 := by simpa using this
    subst h2; rfl
  | x :: l, p, n, 0, h => by
    have h1 : p < x.p := by simpa [List.getD] using findD_no h (by simp)
    unfold Qia; rw [if_neg (by omega), if_neg (by omega)]; rfl
  | x :: l, p, n, i + 1, h => by
    have h1 : x.p < p := by simpa [List.getD] using Qjs h (Nat.succ_pos i)
    unfold Qia; rw [if_pos h1, Qoo l p n i (Qul h)]; rfl
def DirtAns (w : World) (s : Sl) (m : List Di) (e : Ending) (w' : World) : Prop := ∃ s', e = .returned (slV s' m.length) /\ RD w' s' m /\ Tn (ofS s) w w' /\ ∀ q, s'.b = some q -> s.b = some q ∨ w.heap.size <= q
theorem Qko (w : World) (s : Sl) (l : List Di) (r : Rec) (va vb : Value) (hT : RD w s l) (hs : Qmt l) (hl : l.length <= 10000) :
    Calls Try.prog 47 #[slV s l.length, .agg (rcA r va vb)] w (DirtAns w s (Qia l r.c.pg r.l)) := by
  obtain ⟨n1, n2, n3⟩ := Qtc w #[slV s l.length] (rcA r va vb) 26 46; obtain ⟨y, hy⟩ : ∃ y, y = (w.alloc (.cells #[slV s l.length] 26)).alloc (.cells (rcA r va vb) 46) := ⟨_, rfl⟩; rw [<- hy] at n1 n2 n3; obtain ⟨b0, hb0⟩ : ∃ b, b = w.heap.size := ⟨_, rfl⟩; obtain ⟨b1, hb1⟩ : ∃ b, b = w.heap.size + 1 := ⟨_, rfl⟩; rw [<- hb0] at n1; rw [<- hb1] at n2; have HLT := Qb (fun b (h : s.b = some b) => hT.lt h)
  have HF := Qb (Qdr 69 b1 b0 l.length (fun k => Qoi r.c.pg (l.getD k Di.zero).p) y (fun x h hb hh => dirt1_16 x b1 b0 h r.c.pg s l ((n2.later hb).cell 5 _ rfl) ((n1.later hb).cell 0 _ rfl) ((hT.later n3).later hb) hh (by omega)) Qup (fun p q hpq hq h => by
    rw [Qcd] at h |-; have := hs p q hpq hq
    omega) (by omega))
  have HB := Qb (And.intro hb0 hb1); have HY := Qb hy; have H0 : Hid (Qa y b0 26 #[slV s l.length] /\ Qa y b1 46 (rcA r va vb) /\ RD y s l /\ Below w.heap.size w y) := ⟨n1, n2, hT.later n3, n3⟩; clear n1 n2 n3 hb0 hb1 hy hT hs; obtain ⟨v, hv⟩ : ∃ v, v = slV s l.length := ⟨_, rfl⟩; obtain ⟨a, c, hv2⟩ : ∃ a c, v = .slice a l.length c := ⟨adr s.b, s.c, hv⟩; have HV := Qb hv; rw [<- hv] at HY H0 |-; rw [hv2] at HY H0 |-; have HV2 := Qb hv2; clear hv hv2; obtain ⟨n, hn⟩ : ∃ n, n = l.length := ⟨_, rfl⟩; rw [<- hn] at HF HY H0 hl HV2 HV |-; have HN := Qb hn; clear hn; go_enter Try.func47, Try.ntmps47; go_wp2_with (with_reducible refine Qxa 8 rfl ?_); rw [<- HY.out, <- HB.out.2, <- HB.out.1]; have k0 := H0.out.1.cell 0 (.slice a n c) rfl; refine Qg ?_; go_wp2_with fail; refine HF.out.mono ?_; rintro e w1 ⟨i, q, rfl, hsf, hb⟩; have H1 : Hid (Qa w1 b0 26 #[.slice a n c] /\ Qa w1 b1 46 (rcA r va vb) /\ RD w1 s l /\ Below w.heap.size w w1) := ⟨H0.out.1.later hb, H0.out.2.1.later hb, H0.out.2.2.1.later hb, H0.out.2.2.2.trans (hb.mono H0.out.2.2.2.size)⟩; clear k0 hb HF H0; have k0 := H1.out.1.cell 0 (.slice a n c) rfl
  have HSF : Hid (Qzm l r.c.pg i q) := by
    have h := hsf; rw [HN.out] at h; exact h
  clear hsf
  cases q with
  | true =>
    have HR := Qb (Qql l r.c.pg r.l i HSF.out); go_wp2; go_ret; rw [HR.out]; exact ⟨s, by rw [<- HN.out, <- HV.out, HV2.out]; rfl, H1.out.2.2.1, Tn.of_below H1.out.2.2.2, fun q hq => .inl hq⟩
  | false =>
    have HR := Qb (Qoo l r.c.pg r.l i HSF.out); have hi9 := HSF.out.le; have k5 := H1.out.2.1.cell 5 (.int .i64 r.c.pg) rfl; have k1 := H1.out.2.1.cell 1 (.int .u64 (r.l : Int)) rfl
    have hgb : s.b ≠ some w1.heap.size := fun e => by
      have h1 := HLT.out _ e; have h2 := H1.out.2.2.2.size; omega
    have hbA : Below w1.heap.size w1 (w1.alloc (.cells (diA ⟨r.c.pg, r.l⟩) 81)) := (Below.refl _ _).alloc (Nat.le_refl _) _; have HI := Qb (insD (w1.alloc (.cells (diA ⟨r.c.pg, r.l⟩) 81)) s l (H1.out.2.2.1.later hbA) i hi9 ⟨r.c.pg, r.l⟩ w1.heap.size (Qa.new w1 _ _) hgb (by have := HN.out; omega)); have H3 : Hid (Qa (w1.alloc (.cells (diA ⟨r.c.pg, r.l⟩) 81)) b0 26 #[.slice a n c] /\ Below w.heap.size w (w1.alloc (.cells (diA ⟨r.c.pg, r.l⟩) 81)) /\ b0 < w1.heap.size /\ w1.heap.size <= (w1.alloc (.cells (diA ⟨r.c.pg, r.l⟩) 81)).heap.size) := ⟨H1.out.1.later hbA, H1.out.2.2.2.trans (hbA.mono H1.out.2.2.2.size), H1.out.1.lt, hbA.size⟩; rw [<- HN.out, <- HV.out, HV2.out] at HI; have HGB := Qb hi9; clear hgb hbA hi9; go_wp2_with fail; refine HI.out.mono ?_; rintro e W ⟨s1, rfl, hR, hTn, hnw⟩; rw [<- HN.out]
    have hrow : Qa W b0 26 #[.slice a n c] := hTn.row H3.out.1 (fun e => by
      have h1 := HLT.out _ e; have := HB.out.1
      omega)
    have hlow := HB.out.1
    have hne : ∀ b, s1.b = some b -> b ≠ b0 := fun b hb e => by
      rcases hnw b hb with h1 | h1
      · have h2 := HLT.out _ h1; omega
      · have h2 := H3.out.2.2.1; have h3 := H3.out.2.2.2; omega
    have hlen1 : (Qoh l i ⟨r.c.pg, r.l⟩).length = n + 1 := by rw [Qek _ _ _ HGB.out, HN.out]
    obtain ⟨a2, c2, hv0⟩ : ∃ a c, slV s1 (n + 1) = .slice a (n + 1) c := ⟨adr s1.b, s1.c, rfl⟩; rw [hv0]; have H4 : Hid (RD W s1 (Qoh l i ⟨r.c.pg, r.l⟩) /\ Tn (ofS s) w W /\ (∀ q, s1.b = some q -> s.b = some q ∨ w.heap.size <= q) /\ (∀ b, s1.b = some b -> b ≠ b0) /\ slV s1 (n + 1) = .slice a2 (n + 1) c2 /\ (Qoh l i ⟨r.c.pg, r.l⟩).length = n + 1 /\ b0 = w.heap.size) := ⟨hR, (Tn.of_below H3.out.2.1).then hTn, fun q hq => (hnw q hq).imp id (fun h => Nat.le_trans H3.out.2.1.size h), hne, hv0, hlen1, hlow⟩; have d0 := hrow.cell 0 (.slice a n c) rfl; have f0 := hrow.free 0; clear hrow hlow hne hlen1 hv0 hR hTn hnw k1 k5 k0 H1 H3 HI HSF; obtain ⟨m, hm⟩ : ∃ m, m = n + 1 := ⟨_, rfl⟩; rw [<- hm] at H4 |-; clear hm; go_wp2; go_ret; rw [HR.out]
    refine ⟨s1, ?_, H4.out.1.keep (fun b hb => heap_setCell_other W _ _ _ (fun e => H4.out.2.2.2.1 b hb e)), H4.out.2.1.trans (G := fun k => k = b0) ?_ ?_, H4.out.2.2.1⟩
    · rw [H4.out.2.2.2.2.2.1]; exact congrArg Ending.returned H4.out.2.2.2.2.1.symm
    · exact (Tn.refl (fun k => k = b0) W).set b0 _ _ rfl
    · intro k hk; rw [hk, H4.out.2.2.2.2.2.2]; exact .inr (Nat.le_refl _)
theorem Qyc {a b : Int} (h : ¬ a = b) : (a != b) = true := by rw [bne, Qnb h]; rfl
theorem Qvb {a b : Int} (h : a = b) : (a != b) = false := by rw [bne, Qz h]; rfl
def Rec.flat (a b : Rec) : Prop := a.k = b.k /\ a.l = b.l /\ a.t = b.t /\ a.p = b.p /\ a.c = b.c /\ a.n = b.n /\ a.s = b.s /\ a.b = b.b
theorem rsame_no (a b : Rec) (va vb ua ub : Value) (w : World) (hn : ¬ Rec.flat a b) (ha : Qwb w a va vb) (hb : Qwb w b ua ub) :
    Calls Try.prog 19 #[.agg (rcA a va vb), .agg (rcA b ua ub)] w fun e w' => e = .returned (.bool false) /\ Below w.heap.size w w' := by
  have HN := Qb hn; clear hn; have HA := Qb ha; have HB := Qb hb; obtain ⟨⟨a1, cap1, rfl, -⟩, ⟨a2, cap2, rfl, -⟩⟩ := ha; obtain ⟨⟨b1, dap1, rfl, -⟩, ⟨b2, dap2, rfl, -⟩⟩ := hb; have K0 := Qj.two w 46 46 (rcA a (.slice a1 a.ts.length cap1) (.slice a2 a.ds.length cap2)) (rcA b (.slice b1 b.ts.length dap1) (.slice b2 b.ds.length dap2)); have HK := Qb K0; obtain ⟨c0, c1, c2, c3, c9, c10, c11, c12, c13⟩ := Qo K0.1.2.1; obtain ⟨d0, d1, d2, d3, d9, d10, d11, d12, d13⟩ := Qo K0.1.1; obtain ⟨c4, c5, c6, c7, c8⟩ := Qwd K0.1.2.1; obtain ⟨d4, d5, d6, d7, d8⟩ := Qwd K0.1.1; have hb0 := K0.2; clear K0; clear HK HA HB; by_cases hk : a.k = b.k
  case neg =>
    have gk := Qnb hk; have kk := Qyc hk; clear hk; clear HN; go_enter Try.func19, Try.ntmps19; go_wp2; go_ret; exact ⟨rfl, hb0⟩
  have Hk := Qb hk; have gk := Qz hk; have kk := Qvb hk; clear hk; by_cases hl : (a.l : Int) = (b.l : Int)
  case neg =>
    have gl := Qnb hl; have kl := Qyc hl; clear hl; clear HN; go_enter Try.func19, Try.ntmps19; go_wp2; go_ret; exact ⟨rfl, hb0⟩
  have Hl := Qb hl; have gl := Qz hl; have kl := Qvb hl; clear hl; by_cases ht : a.t = b.t
  case neg =>
    have gt := Qnb ht; have kt := Qyc ht; clear ht; clear HN; go_enter Try.func19, Try.ntmps19; go_wp2; go_ret; exact ⟨rfl, hb0⟩
  have Ht := Qb ht; have gt := Qz ht; have kt := Qvb ht; clear ht; by_cases hp : (a.p : Int) = (b.p : Int)
  case neg =>
    have gp := Qnb hp; have kp := Qyc hp; clear hp; clear HN; go_enter Try.func19, Try.ntmps19; go_wp2; go_ret; exact ⟨rfl, hb0⟩
  have Hp := Qb hp; have gp := Qz hp; have kp := Qvb hp; clear hp; by_cases hck : a.c.k = b.c.k
  case neg =>
    have gck := Qnb hck; have kck := Qyc hck; clear hck; clear HN; go_enter Try.func19, Try.ntmps19; go_wp2; go_ret; exact ⟨rfl, hb0⟩
  have Hck := Qb hck; have gck := Qz hck; have kck := Qvb hck; clear hck; by_cases hcp : a.c.pg = b.c.pg
  case neg =>
    have gcp := Qnb hcp; have kcp := Qyc hcp; clear hcp; clear HN; go_enter Try.func19, Try.ntmps19; go_wp2; go_ret; exact ⟨rfl, hb0⟩
  have Hcp := Qb hcp; have gcp := Qz hcp; have kcp := Qvb hcp; clear hcp; by_cases hcs : a.c.sl = b.c.sl
  case neg =>
    have gcs := Qnb hcs; have kcs := Qyc hcs; clear hcs; clear HN; go_enter Try.func19, Try.ntmps19; go_wp2; go_ret; exact ⟨rfl, hb0⟩
  have Hcs := Qb hcs; have gcs := Qz hcs; have kcs := Qvb hcs; clear hcs; by_cases hco : a.c.o.toList = b.c.o.toList
  case neg =>
    clear HN; go_enter Try.func19, Try.ntmps19; go_wp2; go_ret; exact ⟨rfl, hb0⟩
  have Hco := Qb hco; by_cases hcn : a.c.n.toList = b.c.n.toList
  case neg =>
    clear HN; go_enter Try.func19, Try.ntmps19; go_wp2; go_ret; exact ⟨rfl, hb0⟩
  have Hcn := Qb hcn; by_cases hn : (a.n : Int) = (b.n : Int)
  case neg =>
    have gn := Qnb hn; have kn := Qyc hn; clear hn; clear HN; go_enter Try.func19, Try.ntmps19; go_wp2; go_ret; exact ⟨rfl, hb0⟩
  have Hn := Qb hn; have gn := Qz hn; have kn := Qvb hn; clear hn; by_cases hs : a.s = b.s
  case neg =>
    have gs := Qnb hs; have ks := Qyc hs; clear hs; clear HN; go_enter Try.func19, Try.ntmps19; go_wp2; go_ret; exact ⟨rfl, hb0⟩
  have Hs := Qb hs; have gs := Qz hs; have ks := Qvb hs; clear hs; by_cases hb : (a.b : Int) = (b.b : Int)
  case neg =>
    have gb := Qnb hb; have kb := Qyc hb; clear hb; clear HN; go_enter Try.func19, Try.ntmps19; go_wp2; go_ret; exact ⟨rfl, hb0⟩
  have Hb := Qb hb; have gb := Qz hb; have kb := Qvb hb; clear hb; exact absurd ⟨Hk.out, Int.ofNat_inj.1 Hl.out, Ht.out, Int.ofNat_inj.1 Hp.out, (Qbj _ _).1 ⟨Hck.out, Hcp.out, Hcs.out, Qaj Hco.out, Qaj Hcn.out⟩, Int.ofNat_inj.1 Hn.out, Hs.out, Int.ofNat_inj.1 Hb.out⟩ HN.out
end Go.Proofs.Ytkgniegdefaieaa
