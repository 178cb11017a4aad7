/-
  Texts that lean on one another, one behind the other: each opens with its own remark.
-/
import Derived.WalkKit
import Derived.OpenShut
import Derived.ShutString
import Derived.SizedLaws
import Derived.ChangeOld
import Derived.Deep.Slices
import Derived.Lib.SmallJoins
import Derived.Test.YtkgniegdefaieaaRows
import Derived.Test.YtkgniegdefaieaaK04
import Derived.Test.YtkgniegdefaieaaK00

namespace Go.Proofs.Ytkgniegdefaieaa
open Go.RowKit
set_option linter.unusedVariables false
set_option maxRecDepth 8000
set_option maxHeartbeats 25600000
theorem rsame_yes (a b : Rec) (va vb ua ub : Value) (w : World) (q : Bool) (Hq : Hid (q = true ↔ a = b)) (hn : Rec.flat a b) (fa : a.fits) (fb : b.fits) (ha : Qwb w a va vb) (hb : Qwb w b ua ub) :
    Calls Try.prog 19 #[.agg (rcA a va vb), .agg (rcA b ua ub)] w fun e w' => e = .returned (.bool q) /\ Below w.heap.size w w' := by
  have HFA := Qb fa; have HFB := Qb fb; have hml : maxLen = 9223372036854775807 := rfl; have ltx := fa.tl; have ldx := fa.dl
  have HF : Hid (¬ a = b -> q = false) := fun h => by
    cases q
    · rfl
    · exact absurd (Hq.out.1 rfl) h
  have HT : Hid (a.ts = b.ts -> a.ds = b.ds -> q = true) := fun h1 h2 => Hq.out.2 (rec_ext hn.1 hn.2.1 hn.2.2.1 hn.2.2.2.1 hn.2.2.2.2.1 hn.2.2.2.2.2.1 hn.2.2.2.2.2.2.1 hn.2.2.2.2.2.2.2 h1 h2)
  clear Hq fa fb; obtain ⟨hk, hl, ht, hp, hc, hnn, hs, hbb⟩ := hn; have HA := Qb ha; have HB := Qb hb; obtain ⟨⟨a1, cap1, rfl, -⟩, ⟨a2, cap2, rfl, -⟩⟩ := ha; obtain ⟨⟨b1, dap1, rfl, -⟩, ⟨b2, dap2, rfl, -⟩⟩ := hb; have K0 := Qj.two w 46 46 (rcA a (.slice a1 a.ts.length cap1) (.slice a2 a.ds.length cap2)) (rcA b (.slice b1 b.ts.length dap1) (.slice b2 b.ds.length dap2)); have HK := Qb K0; obtain ⟨c0, c1, c2, c3, c9, c10, c11, c12, c13⟩ := Qo K0.1.2.1; obtain ⟨d0, d1, d2, d3, d9, d10, d11, d12, d13⟩ := Qo K0.1.1; obtain ⟨c4, c5, c6, c7, c8⟩ := Qwd K0.1.2.1; obtain ⟨d4, d5, d6, d7, d8⟩ := Qwd K0.1.1; have hb0 := K0.2; clear K0; have gk : (a.k == b.k) = true := Qz (hk); have kk : (a.k != b.k) = false := Qvb (hk); have gl : ((a.l : Int) == (b.l : Int)) = true := Qz (congrArg Int.ofNat hl); have kl : ((a.l : Int) != (b.l : Int)) = false := Qvb (congrArg Int.ofNat hl); have gt : (a.t == b.t) = true := Qz (ht); have kt : (a.t != b.t) = false := Qvb (ht); have gp : ((a.p : Int) == (b.p : Int)) = true := Qz (congrArg Int.ofNat hp); have kp : ((a.p : Int) != (b.p : Int)) = false := Qvb (congrArg Int.ofNat hp); have gck : (a.c.k == b.c.k) = true := Qz (congrArg Ch.k hc); have kck : (a.c.k != b.c.k) = false := Qvb (congrArg Ch.k hc); have gcp : (a.c.pg == b.c.pg) = true := Qz (congrArg Ch.pg hc); have kcp : (a.c.pg != b.c.pg) = false := Qvb (congrArg Ch.pg hc); have gcs : (a.c.sl == b.c.sl) = true := Qz (congrArg Ch.sl hc); have kcs : (a.c.sl != b.c.sl) = false := Qvb (congrArg Ch.sl hc); have gn : ((a.n : Int) == (b.n : Int)) = true := Qz (congrArg Int.ofNat hnn); have kn : ((a.n : Int) != (b.n : Int)) = false := Qvb (congrArg Int.ofNat hnn); have gs : (a.s == b.s) = true := Qz (hs); have ks : (a.s != b.s) = false := Qvb (hs); have gb : ((a.b : Int) == (b.b : Int)) = true := Qz (congrArg Int.ofNat hbb); have kb : ((a.b : Int) != (b.b : Int)) = false := Qvb (congrArg Int.ofNat hbb); have hco : a.c.o.toList = b.c.o.toList := by rw [hc]
  have hcn : a.c.n.toList = b.c.n.toList := by rw [hc]
  clear hk hl ht hp hc hnn hs hbb; by_cases lt : a.ts.length = b.ts.length
  case neg =>
    obtain rfl := HF.out (fun h => lt (by rw [h])); have i1 : ((a.ts.length : Int) == (b.ts.length : Int)) = false := Qnb (by omega); have i2 : ((a.ts.length : Int) != (b.ts.length : Int)) = true := Qyc (by omega); clear HF HT HFA HFB HA HB HK lt ltx ldx hml; go_enter Try.func19, Try.ntmps19; go_wp2; go_ret; exact ⟨rfl, hb0⟩
  have i1 : ((a.ts.length : Int) == (b.ts.length : Int)) = true := Qz (by omega); have i2 : ((a.ts.length : Int) != (b.ts.length : Int)) = false := Qvb (by omega); by_cases ld : a.ds.length = b.ds.length
  case neg =>
    obtain rfl := HF.out (fun h => ld (by rw [h])); have j1 : ((a.ds.length : Int) == (b.ds.length : Int)) = false := Qnb (by omega); have j2 : ((a.ds.length : Int) != (b.ds.length : Int)) = true := Qyc (by omega); clear HF HT HFA HFB HA HB HK lt ld ltx ldx hml; go_enter Try.func19, Try.ntmps19; go_wp2; go_ret; exact ⟨rfl, hb0⟩
  have j1 : ((a.ds.length : Int) == (b.ds.length : Int)) = true := Qz (by omega); have j2 : ((a.ds.length : Int) != (b.ds.length : Int)) = false := Qvb (by omega); have HLT := Qb lt; have HLD := Qb ld; clear lt ld; go_enter Try.func19, Try.ntmps19; go_wp2; obtain ⟨A, hA⟩ : ∃ A, A = rcA a (.slice a1 a.ts.length cap1) (.slice a2 a.ds.length cap2) := ⟨_, rfl⟩; obtain ⟨B, hB⟩ : ∃ B, B = rcA b (.slice b1 b.ts.length dap1) (.slice b2 b.ds.length dap2) := ⟨_, rfl⟩; obtain ⟨g1, hg1⟩ : ∃ g1, g1 = w.heap.size + 1 := ⟨_, rfl⟩; rw [<- hA, <- hB, <- hg1] at HK; rw [<- hA, <- hB, <- hg1]; have HEA := Qb hA; have HEB := Qb hB; clear hA hB hg1 c0 c1 c2 c3 c4 c5 c6 c7 c8 c9 c10 c11 c12 c13 d0 d1 d2 d3 d4 d5 d6 d7 d8 d9 d10 d11 d12 d13 hb0 gk gl gt gp gck gcp gcs gn gs gb kk kl kt kp kck kcp kcs kn ks kb hco hcn i1 i2 j1 j2; go_loopw [80, 5] (fun v _ wr => ∃ j : Nat, j <= a.ts.length /\ v = .int .i64 j /\ Qj w wr [(g1, 46, B), (w.heap.size, 46, A)] /\ ∀ i, i < j -> a.ts.getD i Tx.zero = b.ts.getD i Tx.zero) (fun v _ _ => a.ts.length - (intOf v).toNat)
  case atStart => exact ⟨0, Nat.zero_le _, rfl, HK.out, fun i hi => absurd hi (by omega)⟩
  case round =>
    obtain ⟨j, hj, rfl, hk, hat⟩ := hrel; have HAT := Qb hat; clear HK; have HK := Qb hk; clear hat hk; by_cases hlt : j < a.ts.length
    case neg =>
      obtain rfl : j = a.ts.length := by omega
      have HE := Qb (Qlg (z := Tx.zero) HLT.out HAT.out); clear HAT; have HETS := HE; clear HE; have c13 : wr.cell? ⟨w.heap.size, 13, none⟩ = some (.slice a2 a.ds.length cap2) := by have h := HK.out.1.2.1; rw [HEA.out] at h; exact h.cell 13 _ rfl
      go_wp2; clear c13; go_loopw [98, 6] (fun v _ wr => ∃ j : Nat, j <= a.ds.length /\ v = .int .i64 j /\ Qj w wr [(g1, 46, B), (w.heap.size, 46, A)] /\ ∀ i, i < j -> a.ds.getD i Di.zero = b.ds.getD i Di.zero) (fun v _ _ => a.ds.length - (intOf v).toNat)
      case atStart => exact ⟨0, Nat.zero_le _, rfl, HK.out, fun i hi => absurd hi (by omega)⟩
      case round =>
        obtain ⟨j, hj, rfl, hk, hat⟩ := hrel; have HAT := Qb hat; clear HK; have HK := Qb hk; clear hat hk; by_cases hlt : j < a.ds.length
        case neg =>
          obtain rfl : j = a.ds.length := by omega
          have HE := Qb (Qlg (z := Di.zero) HLD.out HAT.out); clear HAT; obtain rfl := HT.out HETS.out HE.out; have d3 := HK.out.2; clear HF HT HFA HFB HA HB HK HE HETS HEA HEB; go_wp2; go_ret; exact ⟨rfl, d3⟩
        have jlt : (j : Int) < (a.ds.length : Int) := by omega
        obtain ⟨u1, k1, e1, hrow1⟩ := (HA.out.below HK.out.2).2; obtain ⟨u2, k2, e2, hrow2⟩ := (HB.out.below HK.out.2).2; rw [<- HLD.out] at e2; cases e1; cases e2; obtain ⟨p1, off1, hp1, -, hc1⟩ := hrow1 (by omega); obtain ⟨p2, off2, hp2, -, hc2⟩ := hrow2 (by rw [<- HLD.out]; omega); have HR1 := Qb (hc1 j hlt); have HR2 := Qb (hc2 j (by rw [<- HLD.out]; exact hlt)); have HPP : Hid (a2 = some ⟨p1, off1, none⟩ /\ b2 = some ⟨p2, off2, none⟩) := ⟨hp1, hp2⟩; clear hrow1 hrow2 hc1 hc2 hp1 hp2; have HF1 := Qb (HFA.out.ds _ (Qja a.ds j Di.zero hlt)); have HF2 := Qb (HFB.out.ds _ (Qja b.ds j Di.zero (by rw [<- HLD.out]; exact hlt))); obtain ⟨x, hx⟩ : ∃ x, x = a.ds.getD j Di.zero := ⟨_, rfl⟩; obtain ⟨y, hy⟩ : ∃ y, y = b.ds.getD j Di.zero := ⟨_, rfl⟩; have HXY : Hid (x = a.ds.getD j Di.zero /\ y = b.ds.getD j Di.zero) := ⟨hx, hy⟩; rw [<- hx] at HR1 HF1; rw [<- hy] at HR2 HF2; clear hx hy; obtain ⟨p, hp⟩ : ∃ p : Bool, p = false ↔ x = y := ⟨!(@decide (x = y) (Classical.propDecidable _)), by simp⟩; have HP := Qb hp; clear hp; go_wp2_with fail; refine Qga (fun z => Qj w z [(g1, 46, B), (w.heap.size, 46, A)] /\ z.rangeAt p1 (off1 + j * 2) (diA x).toList /\ z.rangeAt p2 (off2 + j * 2) (diA y).toList) (by kernel_rfl) (by kernel_rfl) ⟨HK.out.drew, HR1.out, HR2.out⟩ ?_; clear HK HR1 HR2
        repeat (first
          | go_big_quiet_skip
          | (refine Qf rfl 26 (.tmp 101) rfl _ (.slice (some ⟨p1, off1, none⟩) a.ds.length cap2) rfl (fun z hz => Qxi z _ _ _ (show z.cell? ⟨w.heap.size, 13, none⟩ = _ from by have h := hz.1.1.2.1; rw [HEA.out, HPP.out.1] at h; exact h.cell 13 _ rfl)) ?_; simp only [Act.put, List.setIfInBounds_toArray, List.set])
          | (refine Qf rfl 26 (.tmp 106) rfl _ (.slice (some ⟨p2, off2, none⟩) a.ds.length dap2) rfl (fun z hz => Qxi z _ _ _ (show z.cell? ⟨g1, 13, none⟩ = _ from by have h := hz.1.1.1; rw [HEB.out, HPP.out.2, <- HLD.out] at h; exact h.cell 13 _ rfl)) ?_; simp only [Act.put, List.setIfInBounds_toArray, List.set])
          | (refine Qf rfl 81 (.tmp 104) rfl _ (.agg (diA x)) rfl (fun z hz => Qrh z p1 _ x hz.2.1) ?_; simp only [Act.put, List.setIfInBounds_toArray, List.set])
          | (refine Qf rfl 81 (.tmp 109) rfl _ (.agg (diA y)) rfl (fun z hz => Qrh z p2 _ y hz.2.2) ?_; simp only [Act.put, List.setIfInBounds_toArray, List.set])
          | (refine Qfd rfl .neq 81 _ (.tmp 105) (.tmp 110) rfl (.agg (diA x)) (.agg (diA y)) (.bool p) rfl rfl (fun z => Qys .neq _ _ x y z) (fun z => Qhl x y HF1.out HF2.out p HP.out z) ?_; simp only [Act.put, List.setIfInBounds_toArray, List.set])
          | (refine Qw rfl (fun K hK => ?_); go_simp; refine hK _ ?_; clear hK K))
        refine wpQuiet_nil ?_; intro w3 h3; have H3 := Qb h3.1; clear h3
        cases p
        · have HE := Qb (HP.out.1 rfl); clear HP; go_wp2; go_roundw
          case rel => exact ⟨j + 1, by omega, by go_num, H3.out, Qxd HAT.out (by rw [<- HXY.out.1, <- HXY.out.2]; exact HE.out)⟩
          case measure => simp [intOf]; omega
        · obtain rfl := HF.out (fun h => absurd (HP.out.2 (by rw [HXY.out.1, HXY.out.2, h])) (by simp)); have d3 := H3.out.2; clear HP HXY HAT HF1 HF2 H3; go_wp2; go_ret; exact ⟨rfl, d3⟩
    have jlt : (j : Int) < (a.ts.length : Int) := by omega
    obtain ⟨u1, k1, e1, hrow1⟩ := (HA.out.below HK.out.2).1; obtain ⟨u2, k2, e2, hrow2⟩ := (HB.out.below HK.out.2).1; rw [<- HLT.out] at e2; cases e1; cases e2; obtain ⟨p1, off1, hp1, -, hc1⟩ := hrow1 (by omega); obtain ⟨p2, off2, hp2, -, hc2⟩ := hrow2 (by rw [<- HLT.out]; omega); have HR1 := Qb (hc1 j hlt); have HR2 := Qb (hc2 j (by rw [<- HLT.out]; exact hlt)); have HPP : Hid (a1 = some ⟨p1, off1, none⟩ /\ b1 = some ⟨p2, off2, none⟩) := ⟨hp1, hp2⟩; clear hrow1 hrow2 hc1 hc2 hp1 hp2; have HF1 := Qb (HFA.out.ts _ (Qja a.ts j Tx.zero hlt)); have HF2 := Qb (HFB.out.ts _ (Qja b.ts j Tx.zero (by rw [<- HLT.out]; exact hlt))); obtain ⟨x, hx⟩ : ∃ x, x = a.ts.getD j Tx.zero := ⟨_, rfl⟩; obtain ⟨y, hy⟩ : ∃ y, y = b.ts.getD j Tx.zero := ⟨_, rfl⟩; have HXY : Hid (x = a.ts.getD j Tx.zero /\ y = b.ts.getD j Tx.zero) := ⟨hx, hy⟩; rw [<- hx] at HR1 HF1; rw [<- hy] at HR2 HF2; clear hx hy; obtain ⟨p, hp⟩ : ∃ p : Bool, p = false ↔ x = y := ⟨!(@decide (x = y) (Classical.propDecidable _)), by simp⟩; have HP := Qb hp; clear hp; go_wp2_with fail; refine Qga (fun z => Qj w z [(g1, 46, B), (w.heap.size, 46, A)] /\ z.rangeAt p1 (off1 + j * 5) (txA x).toList /\ z.rangeAt p2 (off2 + j * 5) (txA y).toList) (by kernel_rfl) (by kernel_rfl) ⟨HK.out.drew, HR1.out, HR2.out⟩ ?_; clear HK HR1 HR2
    repeat (first
      | go_big_quiet_skip
      | (refine Qf rfl 25 (.tmp 83) rfl _ (.slice (some ⟨p1, off1, none⟩) a.ts.length cap1) rfl (fun z hz => Qvi z _ _ _ (show z.cell? ⟨w.heap.size, 12, none⟩ = _ from by have h := hz.1.1.2.1; rw [HEA.out, HPP.out.1] at h; exact h.cell 12 _ rfl)) ?_; simp only [Act.put, List.setIfInBounds_toArray, List.set])
      | (refine Qf rfl 25 (.tmp 88) rfl _ (.slice (some ⟨p2, off2, none⟩) a.ts.length dap1) rfl (fun z hz => Qvi z _ _ _ (show z.cell? ⟨g1, 12, none⟩ = _ from by have h := hz.1.1.1; rw [HEB.out, HPP.out.2, <- HLT.out] at h; exact h.cell 12 _ rfl)) ?_; simp only [Act.put, List.setIfInBounds_toArray, List.set])
      | (refine Qf rfl 42 (.tmp 86) rfl _ (.agg (txA x)) rfl (fun z hz => Qff z p1 _ x hz.2.1) ?_; simp only [Act.put, List.setIfInBounds_toArray, List.set])
      | (refine Qf rfl 42 (.tmp 91) rfl _ (.agg (txA y)) rfl (fun z hz => Qff z p2 _ y hz.2.2) ?_; simp only [Act.put, List.setIfInBounds_toArray, List.set])
      | (refine Qfd rfl .neq 42 _ (.tmp 87) (.tmp 92) rfl (.agg (txA x)) (.agg (txA y)) (.bool p) rfl rfl (fun z => Qsr .neq _ _ x y z) (fun z => Qxk x y HF1.out HF2.out p HP.out z) ?_; simp only [Act.put, List.setIfInBounds_toArray, List.set])
      | (refine Qw rfl (fun K hK => ?_); go_simp; refine hK _ ?_; clear hK K))
    refine wpQuiet_nil ?_; intro w3 h3; have H3 := Qb h3.1; clear h3
    cases p
    · have HE := Qb (HP.out.1 rfl); clear HP; go_wp2; go_roundw
      case rel => exact ⟨j + 1, by omega, by go_num, H3.out, Qxd HAT.out (by rw [<- HXY.out.1, <- HXY.out.2]; exact HE.out)⟩
      case measure => simp [intOf]; omega
    · obtain rfl := HF.out (fun h => absurd (HP.out.2 (by rw [HXY.out.1, HXY.out.2, h])) (by simp)); have d3 := H3.out.2; clear HP HXY HAT HF1 HF2 H3; go_wp2; go_ret; exact ⟨rfl, d3⟩
theorem Qcx (a b : Rec) (va vb ua ub : Value) (w : World) (q : Bool) (Hq : Hid (q = true ↔ a = b)) (fa : a.fits) (fb : b.fits) (ha : Qwb w a va vb) (hb : Qwb w b ua ub) :
    Calls Try.prog 19 #[.agg (rcA a va vb), .agg (rcA b ua ub)] w fun e w' => e = .returned (.bool q) /\ Below w.heap.size w w' := by
  by_cases hn : Rec.flat a b
  · exact rsame_yes a b va vb ua ub w q Hq hn fa fb ha hb
  · obtain rfl : q = false := by
      cases q
      · rfl
      · have h := Hq.out.1 rfl; subst h; exact absurd ⟨rfl, rfl, rfl, rfl, rfl, rfl, rfl, rfl⟩ hn
    exact rsame_no a b va vb ua ub w hn ha hb
def IsRow (w : World) (a : Option Addr) (len sz : Nat) (f : Nat -> Nat -> Value) : Prop :=
  0 < len -> ∃ b off, a = some ⟨b, off, none⟩ /\ b < w.heap.size /\ ∀ i k, i < len -> k < sz -> w.cell? ⟨b, off + (i * sz + k), none⟩ = some (f i k)
theorem IsRow.below {w w' : World} {a : Option Addr} {len sz B : Nat} {f : Nat -> Nat -> Value} (h : IsRow w a len sz f) (hB : w.heap.size <= B) (hb : Below B w w') : IsRow w' a len sz f := by
  intro hp; obtain ⟨b, off, ha, hlt, hc⟩ := h hp; exact ⟨b, off, ha, Nat.lt_of_lt_of_le hlt hb.size, fun i k hi hk => (hb.cell (p := ⟨b, off + (i * sz + k), none⟩) (Nat.lt_of_lt_of_le hlt hB)).trans (hc i k hi hk)⟩
section
open Go.ChangeShapes Go.WideShapes Go.ChangeAt Go.RowKit Go.Deep Go.Joins
section
variable {H : Type} {enc : TypeId × Value -> H} {P : Program} {W : World}
theorem Qnq {t : TypeId} {v : Value} {d : DataW H} {p : List MemPlace} (h : DataW.Trod enc P W 0 (fun _ => true) true t v d p) : ∀ x ∈ p, x.block < W.heap.size := by
  obtain ⟨m, hm⟩ := h; exact DataW.trod_lt m _ _ _ hm
theorem sized_each {ts : List TypeId} {ds : List (DataW H)} {j : Nat} {t : TypeId} {d : DataW H} (h : (DataW.weightsEach P ts ds).all (· <= reachBytes) = true) (ht : ts[j]? = some t) (hd : ds[j]? = some d) : ∀ n ∈ d.weights P t, n <= reachBytes := by
  intro n hn; have := List.all_eq_true.1 h _ (DataW.weights_mem_each ht hd n hn); simpa using this
def Qji (d : DataW H) (len cap : Nat) : Prop := (d = .nil /\ len = 0 /\ cap = 0) ∨ ∃ es sp, d = .slice es sp /\ es.length = len /\ es.length + sp.length = cap
theorem Qji.sized {d : DataW H} {len cap : Nat} {t e : TypeId} (h : Qji d len cap) (ht : P.underlying t = some (.slice e)) (hb : 1 <= P.bytesOf e) (hs : ∀ n ∈ d.weights P t, n <= reachBytes) : len <= 140737488351232 := by
  rcases h with ⟨_, rfl, _⟩ | ⟨es, sp, rfl, h1, h2⟩
  · omega
  · have h3 := hs ((es.length + sp.length) * P.bytesOf e) (by simp [DataW.weights, ht]); have h4 : (es.length + sp.length) * 1 <= (es.length + sp.length) * P.bytesOf e := Nat.mul_le_mul_left _ hb; have h5 : reachBytes = 140737488351232 := rfl; omega
theorem Qxo {α : Type} [Inhabited α] {t e : TypeId} {sz : Nat} {v : Value} {d : DataW H} {p : List MemPlace} {r : Reach} {b0 : Nat} (F : α -> Nat -> Value) (G : α -> Prop)
    (hel : ∀ n cs y, DataW.trod enc P W 0 (fun _ => true) true n e cs = some y -> ∃ x, G x /\ ∀ k, k < sz -> cs[k]? = some (F x k))
    (ht : P.underlying t = some (.slice e)) (hsz : P.cellsOf e = sz) (hpos : 0 < sz) (hv : Value.okWide P W r b0 t v) (h : DataW.Trod enc P W 0 (fun _ => true) true t v d p) :
    ∃ (a : Option Addr) (len cap : Nat) (f : Nat -> α), v = .slice a len cap /\ Qji d len cap /\ len <= cap /\ (a = none -> cap = 0) /\ (∀ i, i < cap -> G (f i)) /\ IsRow W a len sz (fun i k => F (f i) k) := by
  obtain ⟨a, len, cap, rfl⟩ := okWide_slice ht hv; obtain ⟨fuel, hf⟩ := h
  rcases open_slice ht hf with ⟨hcs, hx⟩ | ⟨x, l, c, m, n, D, Pl, hcs, _, hl, hm, hmm, hx, hall⟩
  · simp [Value.cells] at hcs; obtain ⟨rfl, rfl, rfl⟩ := hcs; simp only [Prod.mk.injEq] at hx; exact ⟨none, 0, 0, fun _ => default, rfl, .inl ⟨hx.1, rfl, rfl⟩, Nat.le_refl _, fun _ => rfl, fun i hi => absurd hi (by omega), fun h => absurd h (by omega)⟩
  · simp [Value.cells] at hcs; obtain ⟨rfl, rfl, rfl⟩ := hcs; simp only [if_true] at hmm; subst hmm; simp only [Prod.mk.injEq] at hx
    obtain ⟨f, hf2⟩ := choose_lt (α := α) (p := fun i y => G y /\ ∀ k, k < sz -> W.cell? (x.add (i * sz + k)) = some (F y k)) (fun i hi => by
      obtain ⟨cs', h1, h2⟩ := hall i hi; obtain ⟨y, hG, hF⟩ := hel _ _ _ h2; rw [hsz] at h1; obtain ⟨_, _, h3⟩ := World.cells?_some h1; refine ⟨y, hG, fun k hk => ?_⟩; have h4 := h3 k hk; rw [hF k hk] at h4
      rw [<- h4, Addr.add_add])
    refine ⟨some x, len, m, f, rfl, .inr ⟨_, _, hx.1, by simp, by simp; omega⟩, hl, (fun h => nomatch h), fun i hi => (hf2 i hi).1, fun hp => ?_⟩; have hc0 := (hf2 0 (by omega)).2 0 hpos; obtain ⟨b, off, spot⟩ := x; have hspot : spot = none := by simpa [Addr.add] using World.cell?_spot hc0
    subst hspot
    refine ⟨b, off, rfl, ?_, fun i k hi hk => ?_⟩
    · have := World.block_lt_of_cell? W _ hc0; simpa [Addr.add] using this
    · have := (hf2 i (by omega)).2 k hk; rw [Addr.add_lit] at this; exact this
theorem open_rows_all {α : Type} [Inhabited α] {t e : TypeId} {sz : Nat} {v : Value} {d : DataW H} {p : List MemPlace} {r : Reach} {b0 : Nat} (F : α -> Nat -> Value) (G : α -> Prop) (hd : G default)
    (hel : ∀ n cs y, DataW.trod enc P W 0 (fun _ => true) true n e cs = some y -> ∃ x, G x /\ ∀ k, k < sz -> cs[k]? = some (F x k))
    (ht : P.underlying t = some (.slice e)) (hsz : P.cellsOf e = sz) (hpos : 0 < sz) (hv : Value.okWide P W r b0 t v) (h : DataW.Trod enc P W 0 (fun _ => true) true t v d p) :
    ∃ (a : Option Addr) (len cap : Nat) (f : Nat -> α), v = .slice a len cap /\ Qji d len cap /\ len <= cap /\ (a = none -> cap = 0) /\ (∀ i, G (f i)) /\ IsRow W a len sz (fun i k => F (f i) k) := by
  obtain ⟨a, len, cap, f, h1, h2, h3, h4, h5, h6⟩ := Qxo F G hel ht hsz hpos hv h
  refine ⟨a, len, cap, fun i => if i < cap then f i else default, h1, h2, h3, h4, fun i => ?_, fun hp => ?_⟩
  · by_cases hi : i < cap
    · simp only [if_pos hi]; exact h5 i hi
    · simp only [if_neg hi]; exact hd
  · obtain ⟨b, off, ha, hb, hc⟩ := h6 hp; refine ⟨b, off, ha, hb, fun i k hi hk => ?_⟩; have hi2 : i < cap := by omega
    rw [hc i k hi hk]; simp only [if_pos hi2]
theorem elem_bool {e : TypeId} (he : P.underlying e = some .bool) (n : Nat) (cs : List Value) (y : DataW H × List MemPlace) (h : DataW.trod enc P W 0 (fun _ => true) true n e cs = some y) : ∃ x : Bool, True /\ ∀ k, k < 1 -> cs[k]? = some (Value.bool x) := by
  obtain ⟨b, rfl, _⟩ := DataW.trod_bool he h; refine ⟨b, trivial, fun k hk => ?_⟩; obtain rfl : k = 0 := by omega
  rfl
theorem elem_int {e : TypeId} {q : IntKind} (he : P.underlying e = some (.int q)) (n : Nat) (cs : List Value) (y : DataW H × List MemPlace) (h : DataW.trod enc P W 0 (fun _ => true) true n e cs = some y) : ∃ x : Int, (Lit.int q x).wf = true /\ ∀ k, k < 1 -> cs[k]? = some (Value.int q x) := by
  obtain ⟨b, rfl, _, hw⟩ := DataW.trod_int he h; refine ⟨b, hw, fun k hk => ?_⟩; obtain rfl : k = 0 := by omega
  rfl
end
end
section
open Go.ChangeShapes Go.WideShapes Go.ChangeAt Go.RowKit Go.Deep Go.Joins
theorem Qzc {i : Int} (h : (Lit.int .u64 i).wf = true) : ∃ n : Nat, i = (n : Int) := by
  have := (bounds_u64 h).1; exact ⟨i.toNat, by omega⟩
section
variable {H : Type} {enc : TypeId × Value -> H} {W : World}
theorem trod_st3 {P : Program} {t : TypeId} {f0 f1 f2 : Field} {fuel : Nat} {cs : List Value} {x : DataW H × List MemPlace} (ht : P.underlying t = some (.struct #[f0, f1, f2])) (h : DataW.trod enc P W 0 (fun _ => true) true fuel t cs = some x) :
    ∃ y0 y1 y2 n, cs.length = P.cellsOf t /\ DataW.trod enc P W 0 (fun _ => true) true n f0.type ((cs.drop f0.offset).take (P.cellsOf f0.type)) = some y0 /\ DataW.trod enc P W 0 (fun _ => true) true n f1.type ((cs.drop f1.offset).take (P.cellsOf f1.type)) = some y1 /\ DataW.trod enc P W 0 (fun _ => true) true n f2.type ((cs.drop f2.offset).take (P.cellsOf f2.type)) = some y2 := by
  obtain ⟨xs, n, _, rfl, hl, hlen, hf⟩ := DataW.trod_struct ht h
  match xs, hlen with
  | [y0, y1, y2], _ => exact ⟨y0, y1, y2, n, hl, by simpa using hf 0 f0 rfl, by simpa using hf 1 f1 rfl, by simpa using hf 2 f2 rfl⟩
theorem trod_st2 {P : Program} {t : TypeId} {f0 f1 : Field} {fuel : Nat} {cs : List Value} {x : DataW H × List MemPlace} (ht : P.underlying t = some (.struct #[f0, f1])) (h : DataW.trod enc P W 0 (fun _ => true) true fuel t cs = some x) :
    ∃ y0 y1 n, cs.length = P.cellsOf t /\ DataW.trod enc P W 0 (fun _ => true) true n f0.type ((cs.drop f0.offset).take (P.cellsOf f0.type)) = some y0 /\ DataW.trod enc P W 0 (fun _ => true) true n f1.type ((cs.drop f1.offset).take (P.cellsOf f1.type)) = some y1 := by
  obtain ⟨xs, n, _, rfl, hl, hlen, hf⟩ := DataW.trod_struct ht h
  match xs, hlen with
  | [y0, y1], _ => exact ⟨y0, y1, n, hl, by simpa using hf 0 f0 rfl, by simpa using hf 1 f1 rfl⟩
theorem Qws {P : Program} {t : TypeId} {f0 f1 f2 f3 f4 : Field} {fuel : Nat} {cs : List Value} {x : DataW H × List MemPlace} (ht : P.underlying t = some (.struct #[f0, f1, f2, f3, f4])) (h : DataW.trod enc P W 0 (fun _ => true) true fuel t cs = some x) :
    ∃ y0 y1 y2 y3 y4 n, cs.length = P.cellsOf t /\ DataW.trod enc P W 0 (fun _ => true) true n f0.type ((cs.drop f0.offset).take (P.cellsOf f0.type)) = some y0 /\ DataW.trod enc P W 0 (fun _ => true) true n f1.type ((cs.drop f1.offset).take (P.cellsOf f1.type)) = some y1 /\ DataW.trod enc P W 0 (fun _ => true) true n f2.type ((cs.drop f2.offset).take (P.cellsOf f2.type)) = some y2 /\ DataW.trod enc P W 0 (fun _ => true) true n f3.type ((cs.drop f3.offset).take (P.cellsOf f3.type)) = some y3 /\ DataW.trod enc P W 0 (fun _ => true) true n f4.type ((cs.drop f4.offset).take (P.cellsOf f4.type)) = some y4 := by
  obtain ⟨xs, n, _, rfl, hl, hlen, hf⟩ := DataW.trod_struct ht h
  match xs, hlen with
  | [y0, y1, y2, y3, y4], _ => exact ⟨y0, y1, y2, y3, y4, n, hl, by simpa using hf 0 f0 rfl, by simpa using hf 1 f1 rfl, by simpa using hf 2 f2 rfl, by simpa using hf 3 f3 rfl, by simpa using hf 4 f4 rfl⟩
theorem Qck {P : Program} {t : TypeId} {f0 f1 f2 f3 f4 f5 f6 f7 f8 f9 : Field} {fuel : Nat} {cs : List Value} {x : DataW H × List MemPlace} (ht : P.underlying t = some (.struct #[f0, f1, f2, f3, f4, f5, f6, f7, f8, f9])) (h : DataW.trod enc P W 0 (fun _ => true) true fuel t cs = some x) :
    ∃ y0 y1 y2 y3 y4 y5 y6 y7 y8 y9 n, cs.length = P.cellsOf t /\ DataW.trod enc P W 0 (fun _ => true) true n f0.type ((cs.drop f0.offset).take (P.cellsOf f0.type)) = some y0 /\ DataW.trod enc P W 0 (fun _ => true) true n f1.type ((cs.drop f1.offset).take (P.cellsOf f1.type)) = some y1 /\ DataW.trod enc P W 0 (fun _ => true) true n f2.type ((cs.drop f2.offset).take (P.cellsOf f2.type)) = some y2 /\ DataW.trod enc P W 0 (fun _ => true) true n f3.type ((cs.drop f3.offset).take (P.cellsOf f3.type)) = some y3 /\ DataW.trod enc P W 0 (fun _ => true) true n f4.type ((cs.drop f4.offset).take (P.cellsOf f4.type)) = some y4 /\ DataW.trod enc P W 0 (fun _ => true) true n f5.type ((cs.drop f5.offset).take (P.cellsOf f5.type)) = some y5 /\ DataW.trod enc P W 0 (fun _ => true) true n f6.type ((cs.drop f6.offset).take (P.cellsOf f6.type)) = some y6 /\ DataW.trod enc P W 0 (fun _ => true) true n f7.type ((cs.drop f7.offset).take (P.cellsOf f7.type)) = some y7 /\ DataW.trod enc P W 0 (fun _ => true) true n f8.type ((cs.drop f8.offset).take (P.cellsOf f8.type)) = some y8 /\ DataW.trod enc P W 0 (fun _ => true) true n f9.type ((cs.drop f9.offset).take (P.cellsOf f9.type)) = some y9 := by
  obtain ⟨xs, n, _, rfl, hl, hlen, hf⟩ := DataW.trod_struct ht h
  match xs, hlen with
  | [y0, y1, y2, y3, y4, y5, y6, y7, y8, y9], _ => exact ⟨y0, y1, y2, y3, y4, y5, y6, y7, y8, y9, n, hl, by simpa using hf 0 f0 rfl, by simpa using hf 1 f1 rfl, by simpa using hf 2 f2 rfl, by simpa using hf 3 f3 rfl, by simpa using hf 4 f4 rfl, by simpa using hf 5 f5 rfl, by simpa using hf 6 f6 rfl, by simpa using hf 7 f7 rfl, by simpa using hf 8 f8 rfl, by simpa using hf 9 f9 rfl⟩
theorem Qzj {α : Type} (f : α -> Array Value) (z : α) (G : α -> Prop) {P : Program} {t e : TypeId} {sz fuel : Nat} {c : Value} {x : DataW H × List MemPlace} (hel : ∀ n cs y, DataW.trod enc P W 0 (fun _ => true) true n e cs = some y -> ∃ x, cs = (f x).toList /\ G x)
    (ht : P.underlying t = some (.slice e)) (hsz : P.cellsOf e = sz) (hfz : ∀ x, (f x).size = sz) (hpos : 0 < sz) (h : DataW.trod enc P W 0 (fun _ => true) true fuel t [c] = some x) : ∃ xs, Qbd f z sz W c xs /\ xs.length <= maxLen /\ ∀ x ∈ xs, G x := by
  rcases open_slice ht h with ⟨hcs, _⟩ | ⟨a, len, cap, m, n, D, Pl, hcs, _, hl, hm, hmm, _, hall⟩
  · simp only [List.cons.injEq, and_true] at hcs; exact ⟨[], ⟨none, 0, hcs, fun h => absurd h (by simp)⟩, Nat.zero_le _, fun x hx => nomatch hx⟩
  · simp only [List.cons.injEq, and_true] at hcs; subst hcs; simp only [if_true] at hmm; subst hmm; have : Nonempty α := ⟨z⟩
    obtain ⟨g, hg⟩ := @choose_lt α ⟨z⟩ m (fun i y => G y /\ ∀ k, k < sz -> W.cell? (a.add (i * sz + k)) = (f y).toList[k]?) (fun i hi => by
      obtain ⟨cs', h1, h2⟩ := hall i hi; obtain ⟨y, rfl, hG⟩ := hel _ _ _ h2; rw [hsz] at h1; obtain ⟨_, _, h3⟩ := World.cells?_some h1; refine ⟨y, hG, fun k hk => ?_⟩
      rw [<- h3 k hk, Addr.add_add])
    have hL : ((List.range len).map g).length = len := by simp
    refine ⟨(List.range len).map g, ⟨some a, m, by rw [hL], fun hp => ?_⟩, by rw [hL]; omega, fun x hx => by
      obtain ⟨i, hi, rfl⟩ := List.mem_map.1 hx
      exact (hg i (by have := List.mem_range.1 hi; omega)).1⟩
    rw [hL] at hp; have hf0 : ∀ y k, k < sz -> ∃ v, (f y).toList[k]? = some v := fun y k hk => ⟨_, List.getElem?_eq_getElem (by rw [Array.length_toList, hfz]; exact hk)⟩
    have hc0 := (hg 0 (by omega)).2 0 hpos; obtain ⟨v0, hv0⟩ := hf0 (g 0) 0 hpos; rw [hv0] at hc0; obtain ⟨b, off, spot⟩ := a; have hspot : spot = none := by simpa [Addr.add] using World.cell?_spot hc0
    subst hspot
    refine ⟨b, off, rfl, ?_, fun i hi j v hv => ?_⟩
    · have := World.block_lt_of_cell? W _ hc0; simpa [Addr.add] using this
    · rw [hL] at hi
      have hget : ((List.range len).map g).getD i z = g i := by
        rw [List.getD_eq_getElem?_getD, List.getElem?_map, List.getElem?_range hi]; rfl
      rw [hget] at hv
      have hj : j < sz := by
        have := (List.getElem?_eq_some_iff.1 hv).1; rw [Array.length_toList, hfz] at this; exact this
      have := (hg i (by omega)).2 j hj; rw [Addr.add_lit, hv] at this; rw [<- this, Nat.add_assoc]
theorem op_cap {P : Program} {t e : TypeId} {c : Value} {fuel : Nat} {x : DataW H × List MemPlace} (ht : P.underlying t = some (.slice e)) (h : DataW.trod enc P W 0 (fun _ => true) true fuel t [c] = some x) {a : Option Addr} {len cap : Nat} (hc : c = .slice a len cap) : len <= cap /\ (a = none -> cap = 0) := by
  rcases open_slice ht h with ⟨hcs, _⟩ | ⟨a', len', cap', m, n, D, Pl, hcs, _, hl, hm, hmm, _, hall⟩
  · simp only [List.cons.injEq, and_true] at hcs; rw [hc] at hcs; injection hcs with h1 h2 h3; subst h1 h2 h3; exact ⟨Nat.le_refl _, fun _ => rfl⟩
  · simp only [List.cons.injEq, and_true] at hcs; rw [hc] at hcs; injection hcs with h1 h2 h3; subst h1 h2 h3; simp only [if_true] at hmm; exact ⟨by omega, fun h => (nomatch h)⟩
end
end
section
open Go.ChangeShapes Go.WideShapes Go.ChangeAt Go.RowKit Go.Deep Go.Joins
section
variable {H : Type} {enc : TypeId × Value -> H} {W : World}
set_option maxRecDepth 40000 in
theorem elem_ch (n : Nat) (cs : List Value) (y : DataW H × List MemPlace) (h : DataW.trod enc Try.prog W 0 (fun _ => true) true n 44 cs = some y) : ∃ c : Ch, cs = (chA c).toList /\ c.fits := by
  obtain ⟨y0, y1, y2, y3, y4, m, hl, h0, h1, h2, h3, h4⟩ := Qws Try.underlying44 h; have hC : Try.prog.cellsOf 44 = 5 := by kernel_rfl
  rw [hC] at hl
  match cs, hl with
  | [c0, c1, c2, c3, c4], _ =>
    have e0 : Try.prog.cellsOf 3 = 1 := by kernel_rfl
    have e1 : Try.prog.cellsOf 9 = 1 := by kernel_rfl
    simp only [e0, e1, List.drop_zero, List.drop_succ_cons, List.take_succ_cons, List.take_zero] at h0 h1 h2 h3 h4; obtain ⟨i0, g0, _, w0⟩ := DataW.trod_int Try.underlying3 h0; obtain ⟨i1, g1, _, w1⟩ := DataW.trod_int Try.underlying3 h1; obtain ⟨i2, g2, _, w2⟩ := DataW.trod_int Try.underlying3 h2; obtain ⟨i3, g3, _, w3⟩ := DataW.trod_string Try.underlying9 h3; obtain ⟨i4, g4, _, w4⟩ := DataW.trod_string Try.underlying9 h4; simp only [List.cons.injEq, and_true] at g0 g1 g2 g3 g4; subst g0 g1 g2 g3 g4; exact ⟨⟨i0, i1, i2, i3, i4⟩, rfl, w0, w1, w2, w3, w4⟩
set_option maxRecDepth 40000 in
theorem Qxw (n : Nat) (cs : List Value) (y : DataW H × List MemPlace) (h : DataW.trod enc Try.prog W 0 (fun _ => true) true n 42 cs = some y) : ∃ c : Tx, cs = (txA c).toList /\ c.fits := by
  obtain ⟨y0, y1, y2, y3, y4, m, hl, h0, h1, h2, h3, h4⟩ := Qws Try.underlying42 h; have hC : Try.prog.cellsOf 42 = 5 := by kernel_rfl
  rw [hC] at hl
  match cs, hl with
  | [c0, c1, c2, c3, c4], _ =>
    have e0 : Try.prog.cellsOf 3 = 1 := by kernel_rfl
    have e1 : Try.prog.cellsOf 37 = 1 := by kernel_rfl
    simp only [e0, e1, List.drop_zero, List.drop_succ_cons, List.take_succ_cons, List.take_zero] at h0 h1 h2 h3 h4; obtain ⟨i0, g0, _, w0⟩ := DataW.trod_int Try.underlying3 h0; obtain ⟨i1, g1, _, w1⟩ := DataW.trod_int Try.underlying3 h1; obtain ⟨i2, g2, _, w2⟩ := DataW.trod_int Try.underlying37 h2; obtain ⟨i3, g3, _, w3⟩ := DataW.trod_int Try.underlying37 h3; obtain ⟨i4, g4, _, w4⟩ := DataW.trod_int Try.underlying37 h4; simp only [List.cons.injEq, and_true] at g0 g1 g2 g3 g4; subst g0 g1 g2 g3 g4; obtain ⟨j2, rfl⟩ := Qzc w2; obtain ⟨j3, rfl⟩ := Qzc w3; obtain ⟨j4, rfl⟩ := Qzc w4; exact ⟨⟨i0, i1, j2, j3, j4⟩, rfl, w0, w1, w2, w3, w4⟩
set_option maxRecDepth 40000 in
theorem Qzw (n : Nat) (cs : List Value) (y : DataW H × List MemPlace) (h : DataW.trod enc Try.prog W 0 (fun _ => true) true n 81 cs = some y) : ∃ c : Di, cs = (diA c).toList /\ c.fits := by
  obtain ⟨y0, y1, m, hl, h0, h1⟩ := trod_st2 Try.underlying81 h; have hC : Try.prog.cellsOf 81 = 2 := by kernel_rfl
  rw [hC] at hl
  match cs, hl with
  | [c0, c1], _ =>
    have e0 : Try.prog.cellsOf 3 = 1 := by kernel_rfl
    have e1 : Try.prog.cellsOf 37 = 1 := by kernel_rfl
    simp only [e0, e1, List.drop_zero, List.drop_succ_cons, List.take_succ_cons, List.take_zero] at h0 h1; obtain ⟨i0, g0, _, w0⟩ := DataW.trod_int Try.underlying3 h0; obtain ⟨i1, g1, _, w1⟩ := DataW.trod_int Try.underlying37 h1; simp only [List.cons.injEq, and_true] at g0 g1; subst g0 g1; obtain ⟨j1, rfl⟩ := Qzc w1; exact ⟨⟨i0, j1⟩, rfl, w0, w1⟩
set_option maxRecDepth 40000 in
theorem op_record {v : Value} {d : DataW H} {p : List MemPlace} {r : Reach} {b0 : Nat} (hv : Value.okWide Try.prog W r b0 46 v) (h : DataW.Trod enc Try.prog W 0 (fun _ => true) true 46 v d p) :
    ∃ m : Rec × Value × Value, v = .agg (rcA m.1 m.2.1 m.2.2) /\ m.1.fits /\ Qwb W m.1 m.2.1 m.2.2 := by
  obtain ⟨cs, rfl, hsz⟩ := okWide_struct Try.underlying46 hv; have hC : Try.prog.cellsOf 46 = 14 := by kernel_rfl
  rw [hC] at hsz; obtain ⟨fuel, hf⟩ := h; obtain ⟨l⟩ := cs; have hl : l.length = 14 := hsz
  match l, hl with
  | [c0, c1, c2, c3, c4, c5, c6, c7, c8, c9, c10, c11, c12, c13], _ =>
    have ec : (Value.agg ⟨[c0, c1, c2, c3, c4, c5, c6, c7, c8, c9, c10, c11, c12, c13]⟩).cells.toList = [c0, c1, c2, c3, c4, c5, c6, c7, c8, c9, c10, c11, c12, c13] := rfl; obtain ⟨y0, y1, y2, y3, y4, y5, y6, y7, y8, y9, m, _, h0, h1, h2, h3, h4, h5, h6, h7, h8, h9⟩ := Qck Try.underlying46 hf; have e0 : Try.prog.cellsOf 3 = 1 := by kernel_rfl
    have e1 : Try.prog.cellsOf 37 = 1 := by kernel_rfl
    have e2 : Try.prog.cellsOf 44 = 5 := by kernel_rfl
    have e3 : Try.prog.cellsOf 25 = 1 := by kernel_rfl
    have e4 : Try.prog.cellsOf 26 = 1 := by kernel_rfl
    simp only [ec, e0, e1, e2, e3, e4, List.drop_zero, List.drop_succ_cons, List.take_succ_cons, List.take_zero] at h0 h1 h2 h3 h4 h5 h6 h7 h8 h9; obtain ⟨i0, g0, _, w0⟩ := DataW.trod_int Try.underlying3 h0; obtain ⟨i1, g1, _, w1⟩ := DataW.trod_int Try.underlying37 h1; obtain ⟨i2, g2, _, w2⟩ := DataW.trod_int Try.underlying3 h2; obtain ⟨i3, g3, _, w3⟩ := DataW.trod_int Try.underlying37 h3; obtain ⟨ch, g4, w4⟩ := elem_ch _ _ _ h4; obtain ⟨i5, g5, _, w5⟩ := DataW.trod_int Try.underlying37 h5; obtain ⟨i6, g6, _, w6⟩ := DataW.trod_int Try.underlying3 h6; obtain ⟨i7, g7, _, w7⟩ := DataW.trod_int Try.underlying37 h7; obtain ⟨ts, g8, w8, u8⟩ := Qzj (sz := 5) txA Tx.zero Tx.fits Qxw Try.underlying25 (by kernel_rfl) (fun _ => rfl) (by decide) h8; obtain ⟨ds, g9, w9, u9⟩ := Qzj (sz := 2) diA Di.zero Di.fits Qzw Try.underlying26 (by kernel_rfl) (fun _ => rfl) (by decide) h9; simp only [chA, List.cons.injEq, and_true] at g0 g1 g2 g3 g4 g5 g6 g7; obtain ⟨g40, g41, g42, g43, g44⟩ := g4; subst g0 g1 g2 g3 g40 g41 g42 g43 g44 g5 g6 g7; obtain ⟨j1, rfl⟩ := Qzc w1; obtain ⟨j3, rfl⟩ := Qzc w3; obtain ⟨j5, rfl⟩ := Qzc w5; obtain ⟨j7, rfl⟩ := Qzc w7; exact ⟨(⟨i0, j1, i2, j3, ch, j5, i6, j7, ts, ds⟩, c12, c13), rfl, ⟨w4, w8, w9, u8, u9⟩, g8, g9⟩
end
end
section
open Go.ChangeShapes Go.WideShapes Go.ChangeAt Go.RowKit Go.Deep Go.Joins
set_option maxRecDepth 40000 in
def rcF (m : Rec × Value × Value) : Array Value := rcA m.1 m.2.1 m.2.2
set_option maxRecDepth 40000 in
def rcZ : Rec × Value × Value := (Rec.zero, .slice none 0 0, .slice none 0 0)
section
variable {H : Type} {enc : TypeId × Value -> H} {W : World}
set_option maxRecDepth 40000 in
theorem Qfs (n : Nat) (cs : List Value) (y : DataW H × List MemPlace) (h : DataW.trod enc Try.prog W 0 (fun _ => true) true n 46 cs = some y) : ∃ m : Rec × Value × Value, cs = (rcF m).toList /\ (m.1.fits /\ Qwb W m.1 m.2.1 m.2.2) := by
  obtain ⟨z0, z1, z2, z3, z4, z5, z6, z7, z8, z9, m', hl, -⟩ := Qck Try.underlying46 h; have hC : Try.prog.cellsOf 46 = 14 := by kernel_rfl
  rw [hC] at hl
  match cs, hl with
  | [c0, c1, c2, c3, c4, c5, c6, c7, c8, c9, c10, c11, c12, c13], _ =>
    obtain ⟨y0, y1, y2, y3, y4, y5, y6, y7, y8, y9, m, _, h0, h1, h2, h3, h4, h5, h6, h7, h8, h9⟩ := Qck Try.underlying46 h; have e0 : Try.prog.cellsOf 3 = 1 := by kernel_rfl
    have e1 : Try.prog.cellsOf 37 = 1 := by kernel_rfl
    have e2 : Try.prog.cellsOf 44 = 5 := by kernel_rfl
    have e3 : Try.prog.cellsOf 25 = 1 := by kernel_rfl
    have e4 : Try.prog.cellsOf 26 = 1 := by kernel_rfl
    simp only [e0, e1, e2, e3, e4, List.drop_zero, List.drop_succ_cons, List.take_succ_cons, List.take_zero] at h0 h1 h2 h3 h4 h5 h6 h7 h8 h9; obtain ⟨i0, g0, _, w0⟩ := DataW.trod_int Try.underlying3 h0; obtain ⟨i1, g1, _, w1⟩ := DataW.trod_int Try.underlying37 h1; obtain ⟨i2, g2, _, w2⟩ := DataW.trod_int Try.underlying3 h2; obtain ⟨i3, g3, _, w3⟩ := DataW.trod_int Try.underlying37 h3; obtain ⟨ch, g4, w4⟩ := elem_ch _ _ _ h4; obtain ⟨i5, g5, _, w5⟩ := DataW.trod_int Try.underlying37 h5; obtain ⟨i6, g6, _, w6⟩ := DataW.trod_int Try.underlying3 h6; obtain ⟨i7, g7, _, w7⟩ := DataW.trod_int Try.underlying37 h7; obtain ⟨ts, g8, w8, u8⟩ := Qzj (sz := 5) txA Tx.zero Tx.fits Qxw Try.underlying25 (by kernel_rfl) (fun _ => rfl) (by decide) h8; obtain ⟨ds, g9, w9, u9⟩ := Qzj (sz := 2) diA Di.zero Di.fits Qzw Try.underlying26 (by kernel_rfl) (fun _ => rfl) (by decide) h9; simp only [chA, List.cons.injEq, and_true] at g0 g1 g2 g3 g4 g5 g6 g7; obtain ⟨g40, g41, g42, g43, g44⟩ := g4; subst g0 g1 g2 g3 g40 g41 g42 g43 g44 g5 g6 g7; obtain ⟨j1, rfl⟩ := Qzc w1; obtain ⟨j3, rfl⟩ := Qzc w3; obtain ⟨j5, rfl⟩ := Qzc w5; obtain ⟨j7, rfl⟩ := Qzc w7; exact ⟨(⟨i0, j1, i2, j3, ch, j5, i6, j7, ts, ds⟩, c12, c13), rfl, ⟨w4, w8, w9, u8, u9⟩, g8, g9⟩
set_option maxRecDepth 40000 in
theorem op_recs {t : TypeId} {c : Value} {fuel : Nat} {x : DataW H × List MemPlace} (ht : Try.prog.underlying t = some (.slice 46)) (h : DataW.trod enc Try.prog W 0 (fun _ => true) true fuel t [c] = some x) :
    ∃ ms : List (Rec × Value × Value), Qbd rcF rcZ 14 W c ms /\ ms.length <= maxLen /\ ∀ m ∈ ms, m.1.fits /\ Qwb W m.1 m.2.1 m.2.2 :=
  Qzj (sz := 14) rcF rcZ (fun m => m.1.fits /\ Qwb W m.1 m.2.1 m.2.2) Qfs ht (by kernel_rfl) (fun _ => rfl) (by decide) h
end
end
end Go.Proofs.Ytkgniegdefaieaa
