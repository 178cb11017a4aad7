/-
  Texts that lean on one another, one behind the other: each opens with its own remark.
-/
import Derived.Deep.QuietTactic
import Derived.BigQuiet
import Derived.Deep.RegionHeld3
import Derived.Test.YtdbpbgpcjmomdaaGreatK17
import Derived.Test.YtdbpbgpcjmomdaaGreatK18
import Derived.Test.YtdbpbgpcjmomdaaGreatK19
import Derived.Test.YtdbpbgpcjmomdaaGreatK06
import Derived.Test.YtdbpbgpcjmomdaaGreatK16
import Derived.Test.YtdbpbgpcjmomdaaGreatK04
import Derived.Test.YtdbpbgpcjmomdaaGreatK07

namespace Go.Proofs.YtdbpbgpcjmomdaaGreat
open Go.RowKit
set_option linter.unusedVariables false
set_option maxRecDepth 8000
set_option maxHeartbeats 25600000
theorem rdec_bad (b : ByteArray) (w : World) (hb : b.size <= 140737488355328) (hk : (Qw 1 (⟨b.data.toList, 0⟩ : St)).2.e = 0 /\ ((Qw 1 (⟨b.data.toList, 0⟩ : St)).1 < 1 ∨ 8 < (Qw 1 (⟨b.data.toList, 0⟩ : St)).1)) :
    Calls Tryz.prog 115 #[.string b] w fun e w' => Ans w b.data.toList e w' := by
  obtain ⟨s, hs⟩ : ∃ s : St, s = ⟨b.data.toList, 0⟩ := ⟨_, rfl⟩; have HSS := Qa hs; obtain ⟨kd, s0, h0⟩ : ∃ n s', Qw 1 s = (n, s') := ⟨_, _, rfl⟩; rw [<- hs, h0] at hk; simp only at hk
  have hpi : pIn 1 8 s = (kd, ⟨s0.l, 2⟩) := by
    unfold pIn; rw [if_pos (by rw [h0]; exact hk), h0]
  have HDD : Hid (Qdc b.data.toList = (Rec.zero, 2)) := by
    have hst : (Qbb s).2 = ⟨s0.l, 2⟩ := by
      rw [Qsb, hpi]; exact (Good.rest kd).stick _ (by show (2 : Int) ≠ 0; decide)
    show Qdc b.data.toList = _; unfold Qdc; rw [<- hs, hst]; rfl
  have he0 := hk.1; have bkd : kd < 256 ^ 1 := by have := Qoa 1 s; rw [h0] at this; exact this
  have ekd := Qha kd (by omega); have HKB := Qa hk.2; clear hk hpi bkd; have K3 := Qp.three w 34 170 34 #[.int .i64 0, .int .u64 0, .int .i64 0, .int .u64 0, .int .i64 0, .int .i64 0, .int .i64 0, .string ⟨#[]⟩, .string ⟨#[]⟩, .int .u64 0, .int .i64 0, .int .u64 0, .slice none 0 0, .slice none 0 0] #[.string b, .int .i64 0, .int .i64 0] #[.int .i64 0, .int .u64 0, .int .i64 0, .int .u64 0, .int .i64 0, .int .i64 0, .int .i64 0, .string ⟨#[]⟩, .string ⟨#[]⟩, .int .u64 0, .int .i64 0, .int .u64 0, .slice none 0 0, .slice none 0 0]
  have HI : Hid (DK w (((w.alloc (.cells #[.int .i64 0, .int .u64 0, .int .i64 0, .int .u64 0, .int .i64 0, .int .i64 0, .int .i64 0, .string ⟨#[]⟩, .string ⟨#[]⟩, .int .u64 0, .int .i64 0, .int .u64 0, .slice none 0 0, .slice none 0 0] 34)).alloc (.cells #[.string b, .int .i64 0, .int .i64 0] 170)).alloc (.cells #[.int .i64 0, .int .u64 0, .int .i64 0, .int .u64 0, .int .i64 0, .int .i64 0, .int .i64 0, .string ⟨#[]⟩, .string ⟨#[]⟩, .int .u64 0, .int .i64 0, .int .u64 0, .slice none 0 0, .slice none 0 0] 34)) w.heap.size (w.heap.size + 1) (w.heap.size + 1 + 1) b s Rec.zero (.slice none 0 0) (.slice none 0 0) []) := by
    rw [hs]; exact ⟨⟨0, K3.1.2.1, Nat.zero_le _, fun _ => ⟨Nat.zero_le _, rfl⟩⟩, K3.1.1, K3.1.2.2.1, K3.2, ⟨World.ownsRow_nil _ _ _ _, World.ownsRow_nil _ _ _ _⟩, trivial⟩
  have HLI0 : Hid (Lie w w.heap.size (w.heap.size + 1) (w.heap.size + 1 + 1)) := ⟨by omega, by omega, by omega, by omega, by omega, by omega⟩; clear K3; go_enter Tryz.func115, Tryz.ntmps115; go_wp2_with fail; obtain ⟨gx, hgx⟩ : ∃ g, g = w.heap.size + 1 + 1 := ⟨_, rfl⟩; obtain ⟨g, hg⟩ : ∃ g, g = w.heap.size + 1 := ⟨_, rfl⟩; obtain ⟨gr, hgr⟩ : ∃ g, g = w.heap.size := ⟨_, rfl⟩; have HLI : Hid (Lie w gr g gx) := by rw [hgx, hg, hgr]; exact HLI0
  have HB : Hid (DK w (((w.alloc (.cells #[.int .i64 0, .int .u64 0, .int .i64 0, .int .u64 0, .int .i64 0, .int .i64 0, .int .i64 0, .string ⟨#[]⟩, .string ⟨#[]⟩, .int .u64 0, .int .i64 0, .int .u64 0, .slice none 0 0, .slice none 0 0] 34)).alloc (.cells #[.string b, .int .i64 0, .int .i64 0] 170)).alloc (.cells #[.int .i64 0, .int .u64 0, .int .i64 0, .int .u64 0, .int .i64 0, .int .i64 0, .int .i64 0, .string ⟨#[]⟩, .string ⟨#[]⟩, .int .u64 0, .int .i64 0, .int .u64 0, .slice none 0 0, .slice none 0 0] 34)) gr g gx b s Rec.zero (.slice none 0 0) (.slice none 0 0) []) := by rw [hgx, hg, hgr]; exact HI
  rw [<- hgx, <- hg, <- hgr]; refine Qk (fun x => Hid (DK w x gr g gx b s Rec.zero (.slice none 0 0) (.slice none 0 0) [])) HB ?_; clear HB HI HLI0 hgx hg hgr hs; intro y HB; have Ck := Qa (fun x h => Qx g b s 1 x (by omega) hb h); rw [h0] at Ck; clear h0; refine (Ck.out _ HB.out.rd).mono ?_; rintro e x ⟨rfl, hrd, hgw⟩; have HX := Qa (HB.out.step HLI.out (fun e he => (nomatch he)) hrd hgw); clear hrd hgw HB Ck; have c := HX.out.xr.cell 0 (.int .i64 0) rfl; have f := HX.out.xr.free 0; have hst : (Instr.storeAt 3 (.pointer (some ⟨gx, 0, none⟩)) (.int .i64 ((kd : Nat) : Int))).run Tryz.prog x = .ok () (x.setCell ⟨gx, 0, none⟩ (.int .i64 ((kd : Nat) : Int))) := by go_simp
  clear c f; have HB : Hid (DK w (x.setCell ⟨gx, 0, none⟩ (.int .i64 ((kd : Nat) : Int))) gr g gx b s0 ⟨kd, 0, 0, 0, Ch.zero, 0, 0, 0, [], []⟩ (.slice none 0 0) (.slice none 0 0) []) := HX.out.set HLI.out (fun e he => (nomatch he)) 0 (.int .i64 ((kd : Nat) : Int)) ⟨kd, 0, 0, 0, Ch.zero, 0, 0, 0, [], []⟩ rfl rfl rfl; clear HX; go_wp2_with (refine Qh rfl 3 (.tmp 17) (.tmp 16) rfl gx 0 (.int .i64 ((kd : Nat) : Int)) rfl rfl hst ?_; refine Qya (fun x => Hid (DK w x gr g gx b s0 ⟨kd, 0, 0, 0, Ch.zero, 0, 0, 0, [], []⟩ (.slice none 0 0) (.slice none 0 0) [])) HB ?_; clear HB hst; intro yt HD; refine halt ?_); have c0 := HD.out.xr.cell 0 (.int .i64 ((kd : Nat) : Int)) rfl; obtain ⟨k, q, -, -⟩ := HD.out.rd; have c2 := q.cell 2 (.int .i64 0) (by rw [he0]; rfl); clear q; have hbad := HKB.out; by_cases h1 : (kd : Int) < 1
  case pos =>
    clear hbad; refine Qqb ?_; go_wp2_with (refine Qc rfl 34 (.tmp 2) (.tmp 33) rfl gr _ #[.int .i64 0, .int .u64 0, .int .i64 0, .int .u64 0, .int .i64 0, .int .i64 0, .int .i64 0, .string ⟨#[]⟩, .string ⟨#[]⟩, .int .u64 0, .int .i64 0, .int .u64 0, .slice none 0 0, .slice none 0 0] rfl rfl HD.out.zr Qj rfl (by simp [Value.oneCell']) ?_); intro w9 hr9 hk9 _; have HROW := Qa hr9; have HBL := Qa (hk9 _ _ HD.out.bel HLI.out.a); clear hr9 hk9 HD c0 c2; go_wp2; (try simp only [Exit.inBlock, Exit.then]); refine bodyPost_ret (Qcb rfl _ _ gr _ _ rfl HROW.out Tryz.underlying34 rfl Qj) rfl ?_; show Ans _ _ _ _; unfold Ans; rw [HDD.out]; exact ⟨⟨_, _, rfl, World.ownsRow_nil _ _ _ _, World.ownsRow_nil _ _ _ _⟩, HBL.out⟩
  case neg =>
    have h8 : (8 : Int) < (kd : Int) := by omega
    clear hbad; refine Qqb ?_; go_wp2_with (refine Qc rfl 34 (.tmp 2) (.tmp 33) rfl gr _ #[.int .i64 0, .int .u64 0, .int .i64 0, .int .u64 0, .int .i64 0, .int .i64 0, .int .i64 0, .string ⟨#[]⟩, .string ⟨#[]⟩, .int .u64 0, .int .i64 0, .int .u64 0, .slice none 0 0, .slice none 0 0] rfl rfl HD.out.zr Qj rfl (by simp [Value.oneCell']) ?_); intro w9 hr9 hk9 _; have HROW := Qa hr9; have HBL := Qa (hk9 _ _ HD.out.bel HLI.out.a); clear hr9 hk9 HD c0 c2; go_wp2; (try simp only [Exit.inBlock, Exit.then]); refine bodyPost_ret (Qcb rfl _ _ gr _ _ rfl HROW.out Tryz.underlying34 rfl Qj) rfl ?_; show Ans _ _ _ _; unfold Ans; rw [HDD.out]; exact ⟨⟨_, _, rfl, World.ownsRow_nil _ _ _ _, World.ownsRow_nil _ _ _ _⟩, HBL.out⟩
theorem Qcv (b : ByteArray) (w : World) (hb : b.size <= 140737488355328) (hk : (Qw 1 (⟨b.data.toList, 0⟩ : St)).2.e ≠ 0) :
    Calls Tryz.prog 115 #[.string b] w fun e w' => Ans w b.data.toList e w' := by
  obtain ⟨s, hs⟩ : ∃ s : St, s = ⟨b.data.toList, 0⟩ := ⟨_, rfl⟩; have HSS := Qa hs; obtain ⟨kd, s0, h0⟩ : ∃ n s', Qw 1 s = (n, s') := ⟨_, _, rfl⟩; rw [<- hs, h0] at hk; simp only at hk; have hkd : kd = 0 := by have := Qzi (k := 1) (s := s) (by rw [h0]; exact hk); rw [h0] at this; exact this
  subst hkd; have hgd : pIn 1 8 s = Qw 1 s := Qtf (by rw [h0]; exact fun h => hk h.1); have HZN : Hid (∀ k, Qw k s0 = (0, s0)) := fun k => by unfold Qw; rw [if_pos hk]
  have HZT : Hid (Qmb s0 = (⟨#[]⟩, s0)) := by show Qmb s0 = _; unfold Qmb; rw [if_pos hk]
  have HPR : Hid ((Qbb ⟨b.data.toList, 0⟩).2 = s0) := by
    show (Qbb ⟨b.data.toList, 0⟩).2 = s0; rw [<- hs, Qsb, hgd, h0]; exact (Good.rest 0).stick s0 hk
  have HNE := Qa hk; have k0 : (s0.e == 0) = false := by rw [beq_eq_false_iff_ne]; exact hk
  clear hk hgd; have K3 := Qp.three w 34 170 34 #[.int .i64 0, .int .u64 0, .int .i64 0, .int .u64 0, .int .i64 0, .int .i64 0, .int .i64 0, .string ⟨#[]⟩, .string ⟨#[]⟩, .int .u64 0, .int .i64 0, .int .u64 0, .slice none 0 0, .slice none 0 0] #[.string b, .int .i64 0, .int .i64 0] #[.int .i64 0, .int .u64 0, .int .i64 0, .int .u64 0, .int .i64 0, .int .i64 0, .int .i64 0, .string ⟨#[]⟩, .string ⟨#[]⟩, .int .u64 0, .int .i64 0, .int .u64 0, .slice none 0 0, .slice none 0 0]
  have HI : Hid (DK w (((w.alloc (.cells #[.int .i64 0, .int .u64 0, .int .i64 0, .int .u64 0, .int .i64 0, .int .i64 0, .int .i64 0, .string ⟨#[]⟩, .string ⟨#[]⟩, .int .u64 0, .int .i64 0, .int .u64 0, .slice none 0 0, .slice none 0 0] 34)).alloc (.cells #[.string b, .int .i64 0, .int .i64 0] 170)).alloc (.cells #[.int .i64 0, .int .u64 0, .int .i64 0, .int .u64 0, .int .i64 0, .int .i64 0, .int .i64 0, .string ⟨#[]⟩, .string ⟨#[]⟩, .int .u64 0, .int .i64 0, .int .u64 0, .slice none 0 0, .slice none 0 0] 34)) w.heap.size (w.heap.size + 1) (w.heap.size + 1 + 1) b s Rec.zero (.slice none 0 0) (.slice none 0 0) []) := by
    rw [hs]; exact ⟨⟨0, K3.1.2.1, Nat.zero_le _, fun _ => ⟨Nat.zero_le _, rfl⟩⟩, K3.1.1, K3.1.2.2.1, K3.2, ⟨World.ownsRow_nil _ _ _ _, World.ownsRow_nil _ _ _ _⟩, trivial⟩
  have HLI0 : Hid (Lie w w.heap.size (w.heap.size + 1) (w.heap.size + 1 + 1)) := ⟨by omega, by omega, by omega, by omega, by omega, by omega⟩; clear K3; go_enter Tryz.func115, Tryz.ntmps115; go_wp2_with fail; obtain ⟨gx, hgx⟩ : ∃ g, g = w.heap.size + 1 + 1 := ⟨_, rfl⟩; obtain ⟨g, hg⟩ : ∃ g, g = w.heap.size + 1 := ⟨_, rfl⟩; obtain ⟨gr, hgr⟩ : ∃ g, g = w.heap.size := ⟨_, rfl⟩; have HLI : Hid (Lie w gr g gx) := by rw [hgx, hg, hgr]; exact HLI0
  have HB : Hid (DK w (((w.alloc (.cells #[.int .i64 0, .int .u64 0, .int .i64 0, .int .u64 0, .int .i64 0, .int .i64 0, .int .i64 0, .string ⟨#[]⟩, .string ⟨#[]⟩, .int .u64 0, .int .i64 0, .int .u64 0, .slice none 0 0, .slice none 0 0] 34)).alloc (.cells #[.string b, .int .i64 0, .int .i64 0] 170)).alloc (.cells #[.int .i64 0, .int .u64 0, .int .i64 0, .int .u64 0, .int .i64 0, .int .i64 0, .int .i64 0, .string ⟨#[]⟩, .string ⟨#[]⟩, .int .u64 0, .int .i64 0, .int .u64 0, .slice none 0 0, .slice none 0 0] 34)) gr g gx b s Rec.zero (.slice none 0 0) (.slice none 0 0) []) := by rw [hgx, hg, hgr]; exact HI
  rw [<- hgx, <- hg, <- hgr]; refine Qk (fun x => Hid (DK w x gr g gx b s Rec.zero (.slice none 0 0) (.slice none 0 0) [])) HB ?_; clear HB HI HLI0 hgx hg hgr hs; intro y HB; have Ck := Qa (fun x h => Qx g b s 1 x (by omega) hb h); rw [h0] at Ck; clear h0; have Cl := Qa (fun x h => Qx g b s0 8 x (by omega) hb h); rw [HZN.out 8] at Cl; have Ct := Qa (fun x h => Qx g b s0 4 x (by omega) hb h); rw [HZN.out 4] at Ct; have Cp := Qa (fun x h => Qx g b s0 8 x (by omega) hb h); rw [HZN.out 8] at Cp; have Cck := Qa (fun x h => Qx g b s0 1 x (by omega) hb h); rw [HZN.out 1] at Cck; have Ccp := Qa (fun x h => Qx g b s0 2 x (by omega) hb h); rw [HZN.out 2] at Ccp; have Ccs := Qa (fun x h => Qx g b s0 1 x (by omega) hb h); rw [HZN.out 1] at Ccs; have Cco := Qa (fun x h => Qqe g b s0 x hb h); rw [HZT.out] at Cco; have Ccn := Qa (fun x h => Qqe g b s0 x hb h); rw [HZT.out] at Ccn; refine (Ck.out _ HB.out.rd).mono ?_; rintro e x ⟨rfl, hrd, hgw⟩; have HX := Qa (HB.out.step HLI.out (fun e he => (nomatch he)) hrd hgw); clear hrd hgw HB Ck; have c := HX.out.xr.cell 0 (.int .i64 0) rfl; have f := HX.out.xr.free 0; have hst : (Instr.storeAt 3 (.pointer (some ⟨gx, 0, none⟩)) (.int .i64 0)).run Tryz.prog x = .ok () (x.setCell ⟨gx, 0, none⟩ (.int .i64 0)) := by go_simp
  clear c f; have HB : Hid (DK w (x.setCell ⟨gx, 0, none⟩ (.int .i64 0)) gr g gx b s0 ⟨0, 0, 0, 0, Ch.zero, 0, 0, 0, [], []⟩ (.slice none 0 0) (.slice none 0 0) []) := HX.out.set HLI.out (fun e he => (nomatch he)) 0 (.int .i64 0) ⟨0, 0, 0, 0, Ch.zero, 0, 0, 0, [], []⟩ rfl rfl rfl; clear HX; go_wp2_with (refine Qh rfl 3 (.tmp 17) (.tmp 16) rfl gx 0 (.int .i64 0) rfl rfl hst ?_; refine Qya (fun x => Hid (DK w x gr g gx b s0 ⟨0, 0, 0, 0, Ch.zero, 0, 0, 0, [], []⟩ (.slice none 0 0) (.slice none 0 0) [])) HB ?_; clear HB hst; intro y HB; have c0 := HB.out.xr.cell 0 (.int .i64 0) rfl; obtain ⟨k, q, -, -⟩ := HB.out.rd; have c2 := q.cell 2 (.int .i64 s0.e) rfl; clear q); clear c2; refine (Cl.out _ HB.out.rd).mono ?_; rintro e x ⟨rfl, hrd, hgw⟩; have HX := Qa (HB.out.step HLI.out (fun e he => (nomatch he)) hrd hgw); clear hrd hgw HB Cl c0; have c := HX.out.xr.cell 1 (.int .u64 0) rfl; have f := HX.out.xr.free 1; have hst : (Instr.storeAt 22 (.pointer (some ⟨gx, 1, none⟩)) (.int .u64 0)).run Tryz.prog x = .ok () (x.setCell ⟨gx, 1, none⟩ (.int .u64 0)) := by go_simp
  clear c f; have HB : Hid (DK w (x.setCell ⟨gx, 1, none⟩ (.int .u64 0)) gr g gx b s0 ⟨0, 0, 0, 0, Ch.zero, 0, 0, 0, [], []⟩ (.slice none 0 0) (.slice none 0 0) []) := HX.out.set HLI.out (fun e he => (nomatch he)) 1 (.int .u64 0) ⟨0, 0, 0, 0, Ch.zero, 0, 0, 0, [], []⟩ rfl rfl rfl; clear HX; go_wp2_with (refine Qh rfl 22 (.tmp 36) (.tmp 35) rfl gx 1 (.int .u64 0) rfl rfl hst ?_; refine Qya (fun x => Hid (DK w x gr g gx b s0 ⟨0, 0, 0, 0, Ch.zero, 0, 0, 0, [], []⟩ (.slice none 0 0) (.slice none 0 0) [])) HB ?_; clear HB hst; intro y HB; have c0 := HB.out.xr.cell 0 (.int .i64 0) rfl); refine (Ct.out _ HB.out.rd).mono ?_; rintro e x ⟨rfl, hrd, hgw⟩; have HX := Qa (HB.out.step HLI.out (fun e he => (nomatch he)) hrd hgw); clear hrd hgw HB Ct c0; have c := HX.out.xr.cell 2 (.int .i64 0) rfl; have f := HX.out.xr.free 2; have hst : (Instr.storeAt 3 (.pointer (some ⟨gx, 2, none⟩)) (.int .i64 0)).run Tryz.prog x = .ok () (x.setCell ⟨gx, 2, none⟩ (.int .i64 0)) := by go_simp
  clear c f; have HB : Hid (DK w (x.setCell ⟨gx, 2, none⟩ (.int .i64 0)) gr g gx b s0 ⟨0, 0, 0, 0, Ch.zero, 0, 0, 0, [], []⟩ (.slice none 0 0) (.slice none 0 0) []) := HX.out.set HLI.out (fun e he => (nomatch he)) 2 (.int .i64 0) ⟨0, 0, 0, 0, Ch.zero, 0, 0, 0, [], []⟩ rfl rfl rfl; clear HX; go_wp2_with (refine Qh rfl 3 (.tmp 40) (.tmp 39) rfl gx 2 (.int .i64 0) rfl rfl hst ?_; refine Qya (fun x => Hid (DK w x gr g gx b s0 ⟨0, 0, 0, 0, Ch.zero, 0, 0, 0, [], []⟩ (.slice none 0 0) (.slice none 0 0) [])) HB ?_; clear HB hst; intro y HB; have c0 := HB.out.xr.cell 0 (.int .i64 0) rfl); refine (Cp.out _ HB.out.rd).mono ?_; rintro e x ⟨rfl, hrd, hgw⟩; have HX := Qa (HB.out.step HLI.out (fun e he => (nomatch he)) hrd hgw); clear hrd hgw HB Cp c0; have c := HX.out.xr.cell 3 (.int .u64 0) rfl; have f := HX.out.xr.free 3; have hst : (Instr.storeAt 22 (.pointer (some ⟨gx, 3, none⟩)) (.int .u64 0)).run Tryz.prog x = .ok () (x.setCell ⟨gx, 3, none⟩ (.int .u64 0)) := by go_simp
  clear c f; have HB : Hid (DK w (x.setCell ⟨gx, 3, none⟩ (.int .u64 0)) gr g gx b s0 ⟨0, 0, 0, 0, Ch.zero, 0, 0, 0, [], []⟩ (.slice none 0 0) (.slice none 0 0) []) := HX.out.set HLI.out (fun e he => (nomatch he)) 3 (.int .u64 0) ⟨0, 0, 0, 0, Ch.zero, 0, 0, 0, [], []⟩ rfl rfl rfl; clear HX; go_wp2_with (refine Qh rfl 22 (.tmp 43) (.tmp 42) rfl gx 3 (.int .u64 0) rfl rfl hst ?_; refine Qya (fun x => Hid (DK w x gr g gx b s0 ⟨0, 0, 0, 0, Ch.zero, 0, 0, 0, [], []⟩ (.slice none 0 0) (.slice none 0 0) [])) HB ?_; clear HB hst; intro y HB; have c0 := HB.out.xr.cell 0 (.int .i64 0) rfl); refine (Cck.out _ HB.out.rd).mono ?_; rintro e x ⟨rfl, hrd, hgw⟩; have HX := Qa (HB.out.step HLI.out (fun e he => (nomatch he)) hrd hgw); clear hrd hgw HB Cck c0; have c := HX.out.xr.cell 4 (.int .i64 0) rfl; have f := HX.out.xr.free 4; have hst : (Instr.storeAt 3 (.pointer (some ⟨gx, 4, none⟩)) (.int .i64 0)).run Tryz.prog x = .ok () (x.setCell ⟨gx, 4, none⟩ (.int .i64 0)) := by go_simp
  clear c f; have HB : Hid (DK w (x.setCell ⟨gx, 4, none⟩ (.int .i64 0)) gr g gx b s0 ⟨0, 0, 0, 0, Ch.zero, 0, 0, 0, [], []⟩ (.slice none 0 0) (.slice none 0 0) []) := HX.out.set HLI.out (fun e he => (nomatch he)) 4 (.int .i64 0) ⟨0, 0, 0, 0, Ch.zero, 0, 0, 0, [], []⟩ rfl rfl rfl; clear HX; go_wp2_with (refine Qh rfl 3 (.tmp 51) (.tmp 49) rfl gx 4 (.int .i64 0) rfl rfl hst ?_; refine Qya (fun x => Hid (DK w x gr g gx b s0 ⟨0, 0, 0, 0, Ch.zero, 0, 0, 0, [], []⟩ (.slice none 0 0) (.slice none 0 0) [])) HB ?_; clear HB hst; intro y HB; have c0 := HB.out.xr.cell 0 (.int .i64 0) rfl); refine (Ccp.out _ HB.out.rd).mono ?_; rintro e x ⟨rfl, hrd, hgw⟩; have HX := Qa (HB.out.step HLI.out (fun e he => (nomatch he)) hrd hgw); clear hrd hgw HB Ccp c0; have c := HX.out.xr.cell 5 (.int .i64 0) rfl; have f := HX.out.xr.free 5; have hst : (Instr.storeAt 3 (.pointer (some ⟨gx, 5, none⟩)) (.int .i64 0)).run Tryz.prog x = .ok () (x.setCell ⟨gx, 5, none⟩ (.int .i64 0)) := by go_simp
  clear c f; have HB : Hid (DK w (x.setCell ⟨gx, 5, none⟩ (.int .i64 0)) gr g gx b s0 ⟨0, 0, 0, 0, Ch.zero, 0, 0, 0, [], []⟩ (.slice none 0 0) (.slice none 0 0) []) := HX.out.set HLI.out (fun e he => (nomatch he)) 5 (.int .i64 0) ⟨0, 0, 0, 0, Ch.zero, 0, 0, 0, [], []⟩ rfl rfl rfl; clear HX; go_wp2_with (refine Qh rfl 3 (.tmp 56) (.tmp 54) rfl gx 5 (.int .i64 0) rfl rfl hst ?_; refine Qya (fun x => Hid (DK w x gr g gx b s0 ⟨0, 0, 0, 0, Ch.zero, 0, 0, 0, [], []⟩ (.slice none 0 0) (.slice none 0 0) [])) HB ?_; clear HB hst; intro y HB; have c0 := HB.out.xr.cell 0 (.int .i64 0) rfl); refine (Ccs.out _ HB.out.rd).mono ?_; rintro e x ⟨rfl, hrd, hgw⟩; have HX := Qa (HB.out.step HLI.out (fun e he => (nomatch he)) hrd hgw); clear hrd hgw HB Ccs c0; have c := HX.out.xr.cell 6 (.int .i64 0) rfl; have f := HX.out.xr.free 6; have hst : (Instr.storeAt 3 (.pointer (some ⟨gx, 6, none⟩)) (.int .i64 0)).run Tryz.prog x = .ok () (x.setCell ⟨gx, 6, none⟩ (.int .i64 0)) := by go_simp
  clear c f; have HB : Hid (DK w (x.setCell ⟨gx, 6, none⟩ (.int .i64 0)) gr g gx b s0 ⟨0, 0, 0, 0, Ch.zero, 0, 0, 0, [], []⟩ (.slice none 0 0) (.slice none 0 0) []) := HX.out.set HLI.out (fun e he => (nomatch he)) 6 (.int .i64 0) ⟨0, 0, 0, 0, Ch.zero, 0, 0, 0, [], []⟩ rfl rfl rfl; clear HX; go_wp2_with (refine Qh rfl 3 (.tmp 61) (.tmp 59) rfl gx 6 (.int .i64 0) rfl rfl hst ?_; refine Qya (fun x => Hid (DK w x gr g gx b s0 ⟨0, 0, 0, 0, Ch.zero, 0, 0, 0, [], []⟩ (.slice none 0 0) (.slice none 0 0) [])) HB ?_; clear HB hst; intro y HB; have c0 := HB.out.xr.cell 0 (.int .i64 0) rfl); refine (Cco.out _ HB.out.rd).mono ?_; rintro e x ⟨rfl, hrd, hgw⟩; have HX := Qa (HB.out.step HLI.out (fun e he => (nomatch he)) hrd hgw); clear hrd hgw HB Cco c0; have c := HX.out.xr.cell 7 (.string ⟨#[]⟩) rfl; have f := HX.out.xr.free 7; have hst : (Instr.storeAt 9 (.pointer (some ⟨gx, 7, none⟩)) (.string ⟨#[]⟩)).run Tryz.prog x = .ok () (x.setCell ⟨gx, 7, none⟩ (.string ⟨#[]⟩)) := by go_simp
  clear c f; have HB : Hid (DK w (x.setCell ⟨gx, 7, none⟩ (.string ⟨#[]⟩)) gr g gx b s0 ⟨0, 0, 0, 0, Ch.zero, 0, 0, 0, [], []⟩ (.slice none 0 0) (.slice none 0 0) []) := HX.out.set HLI.out (fun e he => (nomatch he)) 7 (.string ⟨#[]⟩) ⟨0, 0, 0, 0, Ch.zero, 0, 0, 0, [], []⟩ rfl rfl rfl; clear HX; go_wp2_with (refine Qh rfl 9 (.tmp 65) (.tmp 63) rfl gx 7 (.string ⟨#[]⟩) rfl rfl hst ?_; refine Qya (fun x => Hid (DK w x gr g gx b s0 ⟨0, 0, 0, 0, Ch.zero, 0, 0, 0, [], []⟩ (.slice none 0 0) (.slice none 0 0) [])) HB ?_; clear HB hst; intro y HB; have c0 := HB.out.xr.cell 0 (.int .i64 0) rfl); refine (Ccn.out _ HB.out.rd).mono ?_; rintro e x ⟨rfl, hrd, hgw⟩; have HX := Qa (HB.out.step HLI.out (fun e he => (nomatch he)) hrd hgw); clear hrd hgw HB Ccn c0; have c := HX.out.xr.cell 8 (.string ⟨#[]⟩) rfl; have f := HX.out.xr.free 8; have hst : (Instr.storeAt 9 (.pointer (some ⟨gx, 8, none⟩)) (.string ⟨#[]⟩)).run Tryz.prog x = .ok () (x.setCell ⟨gx, 8, none⟩ (.string ⟨#[]⟩)) := by go_simp
  clear c f; have HB : Hid (DK w (x.setCell ⟨gx, 8, none⟩ (.string ⟨#[]⟩)) gr g gx b s0 ⟨0, 0, 0, 0, Ch.zero, 0, 0, 0, [], []⟩ (.slice none 0 0) (.slice none 0 0) []) := HX.out.set HLI.out (fun e he => (nomatch he)) 8 (.string ⟨#[]⟩) ⟨0, 0, 0, 0, Ch.zero, 0, 0, 0, [], []⟩ rfl rfl rfl; clear HX; go_wp2_with (refine Qh rfl 9 (.tmp 69) (.tmp 67) rfl gx 8 (.string ⟨#[]⟩) rfl rfl hst ?_; refine Qya (fun x => Hid (DK w x gr g gx b s0 ⟨0, 0, 0, 0, Ch.zero, 0, 0, 0, [], []⟩ (.slice none 0 0) (.slice none 0 0) [])) HB ?_; clear HB hst; intro yt HD; refine halt ?_); have c0 := HD.out.xr.cell 0 (.int .i64 0) rfl; obtain ⟨k, q, hkb, hkl⟩ := HD.out.rd; have c2 := q.cell 2 (.int .i64 s0.e) rfl; clear q hkl hkb
  have HDD : Hid (Qdc b.data.toList = (Rec.zero, s0.e)) := by
    show Qdc b.data.toList = _; unfold Qdc; rw [HPR.out, if_pos HNE.out]
  have k1 : (s0.e != 0) = true := by rw [bne, k0]; rfl
  clear HPR HNE HZN HZT; generalize s0.e = es at *; obtain ⟨z0, zf0, z1, zf1, z2, zf2, z3, zf3, z4, zf4, z5, zf5, z6, zf6, z7, zf7, z8, zf8, z9, zf9, z10, zf10, z11, zf11, z12, zf12, z13, zf13⟩ := Qjm HD.out.zr; have ne1 := HLI.out.d; refine Qqb ?_; go_wp2_with fail; go_region; obtain ⟨HRW, HBW⟩ := Qrh HD.out.zr HD.out.bel HLI.out.a; refine genz (Qa (Qcc HRW.out)) (Qa (Qlb HBW.out)) ?_; clear HD HRW HBW z0 zf0 z1 zf1 z2 zf2 z3 zf3 z4 zf4 z5 zf5 z6 zf6 z7 zf7 z8 zf8 z9 zf9 z10 zf10 z11 zf11 z12 zf12 z13 zf13 ne1 c2 c0; rintro y0 ⟨HROW, HBL⟩; go_wp2; (try simp only [Exit.inBlock, Exit.then]); refine bodyPost_ret (Qcb rfl _ _ gr _ _ rfl HROW.out Tryz.underlying34 rfl Qj) rfl ?_; show Ans _ _ _ _; unfold Ans; rw [HDD.out]; exact ⟨⟨_, _, rfl, World.ownsRow_nil _ _ _ _, World.ownsRow_nil _ _ _ _⟩, HBL.out⟩
theorem rdec_any (b : ByteArray) (w : World) (hb : b.size <= 140737488355328) :
    Calls Tryz.prog 115 #[.string b] w fun e w' => Ans w b.data.toList e w' := by
  by_cases he : (Qw 1 (⟨b.data.toList, 0⟩ : St)).2.e = 0
  · by_cases hk : (Qw 1 (⟨b.data.toList, 0⟩ : St)).1 < 1 ∨ 8 < (Qw 1 (⟨b.data.toList, 0⟩ : St)).1
    · exact rdec_bad b w hb ⟨he, hk⟩
    by_cases k1 : (Qw 1 (⟨b.data.toList, 0⟩ : St)).1 = 1
    · exact rdec_1 b w hb ⟨he, k1⟩
    by_cases k2 : (Qw 1 (⟨b.data.toList, 0⟩ : St)).1 = 2
    · exact rdec_2 b w hb ⟨he, k2⟩
    by_cases k6 : (Qw 1 (⟨b.data.toList, 0⟩ : St)).1 = 6
    · exact rdec_6 b w hb ⟨he, k6⟩
    by_cases k8 : (Qw 1 (⟨b.data.toList, 0⟩ : St)).1 = 8
    · exact rdec_8 b w hb ⟨he, k8⟩
    exact rdec_end b w hb ⟨he, by omega⟩
  · exact Qcv b w hb he
theorem Qbt (b : ByteArray) (p : Int) (w : World) (h : p < 0 ∨ (b.size : Int) < p) :
    Calls Tryz.prog 98 #[.string b, .int .i64 p] w (Qyc w (Rec.zero, 0, 1)) := by
  have HK0 := Qa (Qp.one w 34 Qr); unfold Qyc
  by_cases h1 : p < 0
  · clear h; go_enter Tryz.func98, Tryz.ntmps98; go_wp2_with (refine Qc rfl 34 (.tmp 4) (.tmp 20) rfl w.heap.size Qr Qr rfl rfl HK0.out.1.1 Qj rfl (by simp [Qr, Value.oneCell']) ?_); intro w2 hr2 hk2 _; have HR2 := Qa hr2; have HD2 := Qa (hk2 _ _ HK0.out.2 (Nat.le_refl _)); clear hr2 hk2 HK0; go_wp2; (try simp only [Exit.inBlock, Exit.then]); refine bodyPost_ret (Qbd rfl _ _ w.heap.size Qr _ rfl HR2.out Tryz.underlying34 rfl Qj) rfl ?_; exact ⟨⟨_, _, rfl, Qhd _ _⟩, HD2.out⟩
  · have h2 : (b.size : Int) < p := by omega
    clear h; go_enter Tryz.func98, Tryz.ntmps98; go_wp2_with (refine Qc rfl 34 (.tmp 4) (.tmp 20) rfl w.heap.size Qr Qr rfl rfl HK0.out.1.1 Qj rfl (by simp [Qr, Value.oneCell']) ?_); intro w2 hr2 hk2 _; have HR2 := Qa hr2; have HD2 := Qa (hk2 _ _ HK0.out.2 (Nat.le_refl _)); clear hr2 hk2 HK0; go_wp2; (try simp only [Exit.inBlock, Exit.then]); refine bodyPost_ret (Qbd rfl _ _ w.heap.size Qr _ rfl HR2.out Tryz.underlying34 rfl Qj) rfl ?_; exact ⟨⟨_, _, rfl, Qhd _ _⟩, HD2.out⟩
theorem Qzu (b : ByteArray) (p : Nat) (w : World) (hz : b.size <= 140737488355328) (hp : p <= b.size) (h : b.size - p < 2) :
    Calls Tryz.prog 98 #[.string b, .int .i64 (p : Int)] w (Qyc w (Rec.zero, 0, 4)) := by
  have HT := Qa (fun w => Qgh b (p : Int) 2 w (by omega)); rw [Qyd b.data.toList (p : Int) 2 (by omega) (by rw [Qs]; omega)] at HT; have HK0 := Qa (Qp.one w 34 Qr); have h1 : ¬ (p : Int) < 0 := by omega
  have h2 : ¬ (b.size : Int) < (p : Int) := by omega
  clear h; unfold Qyc; go_enter Tryz.func98, Tryz.ntmps98; go_wp2_with fail; refine (HT.out _).mono ?_; rintro e w1 ⟨rfl, rfl⟩; go_wp2_with (refine Qc rfl 34 (.tmp 4) (.tmp 39) rfl w.heap.size Qr Qr rfl rfl HK0.out.1.1 Qj rfl (by simp [Qr, Value.oneCell']) ?_); intro w2 hr2 hk2 _; have HR2 := Qa hr2; have HD2 := Qa (hk2 _ _ HK0.out.2 (Nat.le_refl _)); clear hr2 hk2 HK0; go_wp2; (try simp only [Exit.inBlock, Exit.then]); refine bodyPost_ret (Qbd rfl _ _ w.heap.size Qr _ rfl HR2.out Tryz.underlying34 rfl Qj) rfl ?_; exact ⟨⟨_, _, rfl, Qhd _ _⟩, HD2.out⟩
theorem Qeo (b : ByteArray) (p n : Nat) (w : World) (hz : b.size <= 140737488355328) (hp : p <= b.size) (h : ¬ b.size - p < 2) (hn : be ((b.data.toList.drop p).take 2) = n) (hs : b.size < p + n + 6) :
    Calls Tryz.prog 98 #[.string b, .int .i64 (p : Int)] w (Qyc w (Rec.zero, 0, 4)) := by
  have HT := Qa (fun w => Qgh b (p : Int) 2 w (by omega))
  have e1 : beAt b.data.toList (p : Int).toNat (2 : Int).toNat = n := by
    rw [<- hn]; rfl
  rw [Qzf b.data.toList (p : Int) 2 (by omega) (by rw [Qs]; omega), e1] at HT; have hn2 : n < 65536 := two_lt hn; have HK0 := Qa (Qp.one w 34 Qr); have h1 : ¬ (p : Int) < 0 := by omega
  have h2 : ¬ (b.size : Int) < (p : Int) := by omega
  have h6 : (b.size : Int) - (p : Int) < (n : Int) + 6 := by omega
  clear h hn e1 hs; unfold Qyc; go_enter Tryz.func98, Tryz.ntmps98; go_wp2_with fail; refine (HT.out _).mono ?_; rintro e w1 ⟨rfl, rfl⟩; go_wp2_with (refine Qc rfl 34 (.tmp 4) (.tmp 39) rfl w.heap.size Qr Qr rfl rfl HK0.out.1.1 Qj rfl (by simp [Qr, Value.oneCell']) ?_); intro w2 hr2 hk2 _; have HR2 := Qa hr2; have HD2 := Qa (hk2 _ _ HK0.out.2 (Nat.le_refl _)); clear hr2 hk2 HK0; go_wp2; (try simp only [Exit.inBlock, Exit.then]); refine bodyPost_ret (Qbd rfl _ _ w.heap.size Qr _ rfl HR2.out Tryz.underlying34 rfl Qj) rfl ?_; exact ⟨⟨_, _, rfl, Qhd _ _⟩, HD2.out⟩
theorem rtake7_go (b : ByteArray) (p n : Nat) (q : List UInt8) (eo : Int) (r : Rec) (er : Int) (w : World) (hz : b.size <= 140737488355328) (hp : p + n + 6 <= b.size) (hn : be ((b.data.toList.drop p).take 2) = n)
    (ho : Qpb ((b.data.toList.drop p).take (n + 6)) = (q, eo)) (hq : eo = 0 -> q.length = n + 2) (hd : Qdc (q.drop 2) = (r, er)) (ans : Rec × Int × Int)
    (ha0 : eo ≠ 0 -> ans = (Rec.zero, 0, 3)) (ha1 : eo = 0 -> er = 0 -> ans = (r, ((p + n + 6 : Nat) : Int), 0)) (ha2 : eo = 0 -> er ≠ 0 -> ans = (Rec.zero, 0, 2)) :
    Calls Tryz.prog 98 #[.string b, .int .i64 (p : Int)] w (Qyc w ans) := by
  have HT := Qa (fun w => Qgh b (p : Int) 2 w (by omega))
  have e1 : beAt b.data.toList (p : Int).toNat (2 : Int).toNat = n := by
    rw [<- hn]; rfl
  rw [Qzf b.data.toList (p : Int) 2 (by omega) (by rw [Qs]; omega), e1] at HT; have hn2 : n < 65536 := two_lt hn; have HK0 := Qa (Qp.one w 34 Qr); have h1 : ¬ (p : Int) < 0 := by omega
  have h2 : ¬ (b.size : Int) < (p : Int) := by omega
  have h6 : ¬ (b.size : Int) - (p : Int) < (n : Int) + 6 := by omega
  have eF := Qtc b p (n + 6) (by omega); have eq9 : p + (n + 6) = p + n + 6 := by omega
  rw [eq9] at eF; have HF := Qa (fun w => ropen_any (b.extract p (p + n + 6)) w (by rw [eF, Qxd, List.length_take]; omega)); rw [eF] at HF; have eL : (⟨((b.data.toList.drop p).take (n + 6)).toArray⟩ : ByteArray).data.toList = (b.data.toList.drop p).take (n + 6) := rfl; rw [eL, ho, <- eF] at HF; have HQ : Hid (eo = 0 -> (mkS q).size = n + 2) := fun h => by rw [Qu]; exact hq h
  have HDE : Hid (eo = 0 -> ∀ w, Calls Tryz.prog 115 #[.string ((mkS q).extract 2 (n + 2))] w (Ans w (q.drop 2))) := fun h w => by
    have hs := hq h
    have e3 : (mkS q).extract 2 (n + 2) = ⟨(q.drop 2).toArray⟩ := by
      have e4 := Qtc (mkS q) 2 n (by rw [Qu]; omega); have e5 : (mkS q).data.toList = q := rfl; rw [Nat.add_comm 2 n, e5, List.take_of_length_le (by rw [List.length_drop]; omega)] at e4; exact e4
    rw [e3]; exact rdec_any ⟨(q.drop 2).toArray⟩ w (by rw [Qxd, List.length_drop]; omega)
  unfold Ans at HDE; rw [hd] at HDE; have eS : (⟨q.toArray⟩ : ByteArray) = mkS q := rfl; rw [eS] at HF; generalize mkS q = S at *; generalize hFF : b.extract p (p + n + 6) = FF at *; have HFF := Qa hFF; have HA0 := Qa ha0; have HA1 := Qa ha1; have HA2 := Qa ha2; clear hn e1 eF eL ho hq hd eS hFF ha0 ha1 ha2; unfold Qyc; obtain ⟨e9, he9⟩ : ∃ e9, e9 = p + n + 6 := ⟨_, rfl⟩; rw [<- he9] at hp HFF HA1; have i2 : (p : Int) <= (e9 : Int) := by omega
  have i3 : (e9 : Int) <= (b.size : Int) := by omega
  have ee : (p : Int) + (n : Int) + 6 = (e9 : Int) := by omega
  have HEE := Qa he9; clear he9 eq9; go_enter Tryz.func98, Tryz.ntmps98; go_wp2_with fail; refine (HT.out _).mono ?_; rintro e w1 ⟨rfl, rfl⟩; go_wp2_with fail; rw [HFF.out]; refine Qk (fun x => Hid (Qp w x [(w.heap.size, 34, Qr)])) HK0 ?_; clear HK0; intro x0 HK0; refine (HF.out _).mono ?_; rintro e w2 ⟨rfl, hb2⟩; have HK2 := Qa (HK0.out.later hb2); clear HK0 HF hb2 HT h1 h2 h6 i2 i3 ee hp
  by_cases he : eo = 0
  · have hS := HQ.out he; have HD := Qa (HDE.out he); have HB1 := Qa (HA1.out he); have HB2 := Qa (HA2.out he); subst he; clear HQ HDE HA0 HA1 HA2; have i4 : (2 : Int) <= (S.size : Int) := by omega
    go_wp2_with fail; refine (HD.out _).mono ?_; rintro e w3 ⟨⟨va, vb, rfl, hgot⟩, hb3⟩; obtain ⟨av, cv, rfl⟩ := Qt hgot.1; obtain ⟨au, cu, rfl⟩ := Qt hgot.2; have HG3 : Hid (Qza w.heap.size w3 r (.slice av r.ts.length cv) (.slice au r.ds.length cu)) := ⟨Qrb hgot.1 HK2.out.2.size, Qrb hgot.2 HK2.out.2.size⟩; have HK3 := Qa (HK2.out.later hb3); clear hgot hb3 HK2 HD hS i4; go_wp2_with (refine Qc rfl 34 (.tmp 11) (.tmp 60) rfl w3.heap.size Qr (rcA r (.slice av r.ts.length cv) (.slice au r.ds.length cu)) rfl rfl (Qd.new w3 34 Qr) Qj rfl (by simp [rcA, Value.oneCell']) ?_); intro w4 hr4 hk4 _; have hb4 := hk4 _ _ ((Below.refl w3.heap.size w3).alloc (Nat.le_refl _) _) (Nat.le_refl _); have HG4 := Qa (HG3.out.below hb4); have HK4 : Hid (Qp w w4 [(w3.heap.size, 34, (rcA r (.slice av r.ts.length cv) (.slice au r.ds.length cu))), (w.heap.size, 34, Qr)]) := HK3.out.laid hr4 hk4; clear hr4 hk4 hb4 HG3 HK3; generalize w3.heap.size = g3 at *
    by_cases hq0 : er = 0
    · have HB := Qa (HB1.out hq0); subst hq0; clear HB1 HB2; go_wp2_with (first | (refine Qg rfl 34 (.tmp 11) rfl g3 rfl _ HK4.out.1.1 _ Tryz.underlying34 rfl Qj ?_) | (refine Qc rfl 34 (.tmp 4) (.tmp 65) rfl w.heap.size Qr (rcA r (.slice av r.ts.length cv) (.slice au r.ds.length cu)) rfl rfl HK4.out.1.2.1 Qj rfl (by simp [rcA, Value.oneCell']) ?_)); intro w5 hr5 hk5 ho5; have HR5 := Qa hr5; have HD5 := Qa (hk5 _ _ HK4.out.2 (Nat.le_refl _)); have HG5 : Hid (Qza w.heap.size w5 r (.slice av r.ts.length cv) (.slice au r.ds.length cu)) := ⟨Qtb HG4.out.1 HK4.out.1.2.1 (show (34 : TypeId) ≠ 109 by decide) ho5, Qtb HG4.out.2 HK4.out.1.2.1 (show (34 : TypeId) ≠ 111 by decide) ho5⟩; clear hr5 hk5 ho5 HK4 HG4; go_wp2; (try simp only [Exit.inBlock, Exit.then]); refine bodyPost_ret (Qbd rfl _ _ w.heap.size (rcA r (.slice av r.ts.length cv) (.slice au r.ds.length cu)) _ rfl HR5.out Tryz.underlying34 rfl Qj) rfl ?_; rw [HB.out]; exact ⟨⟨_, _, rfl, HG5.out⟩, HD5.out⟩
    · have k0 : (er == 0) = false := by rw [beq_eq_false_iff_ne]; exact hq0
      have k1 : (er != 0) = true := by rw [bne, k0]; rfl
      have HB := Qa (HB2.out hq0); clear hq0 HB1 HB2; go_wp2_with (refine Qc rfl 34 (.tmp 4) (.tmp 64) rfl w.heap.size Qr Qr rfl rfl HK4.out.1.2.1 Qj rfl (by simp [Qr, Value.oneCell']) ?_); intro w5 hr5 hk5 _; have HR5 := Qa hr5; have HD5 := Qa (hk5 _ _ HK4.out.2 (Nat.le_refl _)); clear hr5 hk5 HK4 HG4; go_wp2; (try simp only [Exit.inBlock, Exit.then]); refine bodyPost_ret (Qbd rfl _ _ w.heap.size Qr _ rfl HR5.out Tryz.underlying34 rfl Qj) rfl ?_; rw [HB.out]; exact ⟨⟨_, _, rfl, Qhd _ _⟩, HD5.out⟩
  · have k0 : (eo == 0) = false := by rw [beq_eq_false_iff_ne]; exact he
    have k1 : (eo != 0) = true := by rw [bne, k0]; rfl
    have HB := Qa (HA0.out he); clear he HQ HDE HA0 HA1 HA2; go_wp2_with (refine Qc rfl 34 (.tmp 4) (.tmp 55) rfl w.heap.size Qr Qr rfl rfl HK2.out.1.1 Qj rfl (by simp [Qr, Value.oneCell']) ?_); intro w5 hr5 hk5 _; have HR5 := Qa hr5; have HD5 := Qa (hk5 _ _ HK2.out.2 (Nat.le_refl _)); clear hr5 hk5 HK2; go_wp2; (try simp only [Exit.inBlock, Exit.then]); refine bodyPost_ret (Qbd rfl _ _ w.heap.size Qr _ rfl HR5.out Tryz.underlying34 rfl Qj) rfl ?_; rw [HB.out]; exact ⟨⟨_, _, rfl, Qhd _ _⟩, HD5.out⟩
theorem Qjt (b : ByteArray) (p : Int) (w : World) (hz : b.size <= 140737488355328) :
    Calls Tryz.prog 98 #[.string b, .int .i64 p] w (Qyc w (Qps b.data.toList p)) := by
  have hbl := Qs b
  by_cases h1 : p < 0 ∨ (b.data.toList.length : Int) < p
  · have e1 : Qps b.data.toList p = (Rec.zero, 0, 1) := by unfold Qps; rw [if_pos h1]
    rw [e1]; exact Qbt b p w (by omega)
  obtain ⟨k, rfl⟩ := Int.eq_ofNat_of_zero_le (show 0 <= p by omega); have hk : k <= b.size := by omega
  have e1 : Qps b.data.toList (k : Int) = ((Qga (b.data.toList.drop k)).1, if (Qga (b.data.toList.drop k)).2.2 = 0 then (k : Int) + ((Qga (b.data.toList.drop k)).2.1 : Int) else 0, (Qga (b.data.toList.drop k)).2.2) := by
    unfold Qps; rw [if_neg h1]; rfl
  have hdl : (b.data.toList.drop k).length = b.size - k := by rw [List.length_drop, hbl]
  by_cases h2 : (b.data.toList.drop k).length < 2 ∨ (b.data.toList.drop k).length < be ((b.data.toList.drop k).take 2) + 6
  · have e2 : Qga (b.data.toList.drop k) = (Rec.zero, 0, 4) := by unfold Qga; rw [if_pos h2]
    rw [e1, e2]
    by_cases h3 : b.size - k < 2
    · exact Qzu b k w hz hk h3
    · exact Qeo b k _ w hz hk h3 rfl (by omega)
  generalize hn : be ((b.data.toList.drop k).take 2) = n at h2; have hfl : ((b.data.toList.drop k).take (n + 6)).length = n + 6 := by rw [List.length_take]; omega
  have key := rtake7_go b k n (Qpb ((b.data.toList.drop k).take (n + 6))).1 (Qpb ((b.data.toList.drop k).take (n + 6))).2 (Qdc ((Qpb ((b.data.toList.drop k).take (n + 6))).1.drop 2)).1 (Qdc ((Qpb ((b.data.toList.drop k).take (n + 6))).1.drop 2)).2 w hz (by omega) hn rfl (fun h4 => by
    have h5 := congrArg List.length (Qcj _ h4); rw [hfl, Qkd] at h5
    omega) rfl
  by_cases h4 : (Qpb ((b.data.toList.drop k).take (n + 6))).2 ≠ 0
  · have e2 : Qga (b.data.toList.drop k) = (Rec.zero, 0, 3) := by unfold Qga; rw [hn, if_neg h2, if_pos h4]
    rw [e1, e2]; exact key _ (fun _ => rfl) (fun h => absurd h h4) (fun h => absurd h h4)
  have h4' : (Qpb ((b.data.toList.drop k).take (n + 6))).2 = 0 := by omega
  by_cases h6 : (Qdc ((Qpb ((b.data.toList.drop k).take (n + 6))).1.drop 2)).2 = 0
  · have e2 : Qga (b.data.toList.drop k) = ((Qdc ((Qpb ((b.data.toList.drop k).take (n + 6))).1.drop 2)).1, n + 6, 0) := by
      unfold Qga; rw [hn, if_neg h2, if_neg h4, if_neg (by omega)]
    rw [e1, e2]; have e3 : (k : Int) + ((n + 6 : Nat) : Int) = ((k + n + 6 : Nat) : Int) := by omega
    simp only [if_true]; rw [e3]; exact key _ (fun h => absurd h4' h) (fun _ _ => rfl) (fun _ h => absurd h6 h)
  · have e2 : Qga (b.data.toList.drop k) = (Rec.zero, 0, 2) := by
      unfold Qga; rw [hn, if_neg h2, if_neg h4, if_pos h6]
    rw [e1, e2]; exact key _ (fun h => absurd h4' h) (fun _ h => absurd h h6) (fun _ _ => rfl)
theorem Qzs {α : Type} (xs : List α) : xs = [] ∨ ∃ ys y, xs = ys ++ [y] := by
  rcases List.eq_nil_or_concat xs with h | ⟨ys, y, h⟩
  · exact .inl h
  · exact .inr ⟨ys, y, by rw [h, List.concat_eq_append]⟩
theorem head_at {bs pre y : List UInt8} (h : bs = pre ++ y) : Qps bs (pre.length : Int) = ((Qga y).1, if (Qga y).2.2 = 0 then (pre.length : Int) + ((Qga y).2.1 : Int) else 0, (Qga y).2.2) := by
  unfold Qps
  have e : bs.drop (pre.length : Int).toNat = y := by
    rw [Int.toNat_natCast, h]; exact List.drop_left' rfl
  rw [if_neg (by rw [h, List.length_append]; omega), e]
theorem head_more {bs pre y : List UInt8} (h : bs = pre ++ y) (he : (Qga y).2.2 = 0) : (Qga y).1.right /\ bs = (pre ++ Qea (Qga y).1) ++ y.drop (Qga y).2.1 /\ (Qea (Qga y).1).length = (Qga y).2.1 /\ 6 <= (Qga y).2.1 /\ pre.length + (Qga y).2.1 <= bs.length := by
  obtain ⟨h1, h2, h3, h4⟩ := Qup y he
  refine ⟨h1, ?_, h3.symm, ?_, ?_⟩
  · rw [<- h2, List.append_assoc, List.take_append_drop]; exact h
  · rw [h3, Qva]; omega
  · rw [h, List.length_append]; omega
structure RsI (w : World) (bs : List UInt8) (v : Value) (ms : List (Rec × Value × Value)) (W : World) : Prop where
  own : W.ownsRow w.heap.size 34 14 v ms.length (Qkb ms)
  rise : Qli 0 (msR ms)
  got : ∀ m ∈ ms, m.1.fits /\ Qza w.heap.size W m.1 m.2.1 m.2.2
  bel : Below w.heap.size w W
theorem RsI.below {w : World} {bs : List UInt8} {v : Value} {ms : List (Rec × Value × Value)} {A B : World} (h : RsI w bs v ms A) (hb : Below A.heap.size A B) : RsI w bs v ms B :=
  ⟨Qqa h.own hb, h.rise, fun m hm => ⟨(h.got m hm).1, (h.got m hm).2.below hb⟩, h.bel.trans (hb.mono h.bel.size)⟩
theorem RsI.push {w : World} {bs : List UInt8} {v v' : Value} {ms : List (Rec × Value × Value)} {m : Rec × Value × Value} {A B C : World} (h : RsI w bs v ms A) (hb : Below A.heap.size A B) (hg : B.grownBy C v.ownBlock) (ho : C.ownsRow w.heap.size 34 14 v' (ms.length + 1) (Qkb ms ++ (rcF m).toList))
    (hm : m.1.right /\ m.1.fits /\ Qza w.heap.size A m.1 m.2.1 m.2.2) (hl : Qnb 0 (msR ms) < m.1.l) : RsI w bs v' (ms ++ [m]) C := by
  have h2 := h.below hb; have key : ∀ k t cs, t ≠ 34 -> Qd B k t cs -> Qd C k t cs := fun k t cs ht hr => (hg.block k hr.lt (fun e => Qcs h2.own hr ht e.symm)).trans hr
  have kg : ∀ z : Rec × Value × Value, Qza w.heap.size B z.1 z.2.1 z.2.2 -> Qza w.heap.size C z.1 z.2.1 z.2.2 := fun z hz => ⟨Qwa hz.1 (fun k cs => key k _ cs (by decide)), Qwa hz.2 (fun k cs => key k _ cs (by decide))⟩
  refine ⟨?_, ?_, fun z hz => ?_, h2.bel.grown hg h2.bel.size (fun k hk => (h2.own.lt k hk).1)⟩
  · rw [List.length_append, Qof]; have e : Qkb [m] = (rcF m).toList := by simp [Qkb]
    rw [e]; exact ho
  · rw [Qxc, Qdh]; exact ⟨h.rise, hm.1, hl⟩
  · rcases List.mem_append.1 hz with hz | hz
    · exact ⟨(h2.got z hz).1, kg z (h2.got z hz).2⟩
    · obtain rfl := List.mem_singleton.1 hz; exact ⟨hm.2.1, kg z (hm.2.2.below hb)⟩
theorem RsI.fin {w : World} {bs : List UInt8} {v : Value} {ms : List (Rec × Value × Value)} {W : World} {mm len : Nat} (h : RsI w bs v ms W) (he : Qgb bs = (msR ms, mm)) (q : Bool) (hq : q = decide (mm = len)) :
    Qip w bs len (.returned (.tuple #[v, .int .i64 (mm : Int), .bool q])) W := by
  refine ⟨v, ms, ?_, ?_, h.own, h.got, h.bel⟩
  · rw [he, hq]
  · rw [he]
theorem own_last {W : World} {base : Nat} {ms : List (Rec × Value × Value)} {m : Rec × Value × Value} {g cap : Nat} (h : W.ownsRow base 34 14 (.slice (some ⟨g, 0, none⟩) (ms.length + 1) cap) (ms.length + 1) (Qkb (ms ++ [m]))) : W.cell? ⟨g, ms.length * 14 + 1, none⟩ = some (.int .u64 (m.1.l : Int)) := by
  have h1 := h.cellAt (ms.length * 14 + 1) (by omega); rw [h1]; have h2 := Qve rcF 14 (fun _ => rfl) rcZ (ms ++ [m]) ms.length 1 (by simp) (by decide); unfold Qkb; rw [h2]; have e : (ms ++ [m]).getD ms.length rcZ = m := by simp
  rw [e]; rfl
set_option maxRecDepth 100000 in
theorem Qst (b : ByteArray) (w : World) (hz : b.size <= 140737488355) :
    Calls Tryz.prog 77 #[.string b] w (Qip w b.data.toList b.size) := by
  have hbl := Qs b; generalize hbs : b.data.toList = bs at *; have HBS := Qa hbs; have HLN := Qa hbl; clear hbs hbl; go_enter Tryz.func77, Tryz.ntmps77; go_wp2; go_loopw [5, 6] (fun v p wr => ∃ (ms : List (Rec × Value × Value)) (y : List UInt8) (k : Nat), p = .int .i64 (k : Int) /\ k <= b.size /\ Hid (k = (Qe (msR ms)).length) /\ Hid (bs = Qe (msR ms) ++ y) /\ Hid (RsI w bs v ms wr)) (fun _ p _ => b.size - (intOf p).toNat)
  case atStart => exact ⟨[], bs, 0, rfl, Nat.zero_le _, rfl, rfl, World.ownsRow_nil _ _ _ _, trivial, fun m hm => (nomatch hm), Below.refl _ _⟩
  case round =>
    obtain ⟨ms, y, k, rfl, hk, HKE, HBY, HI⟩ := hrel; obtain ⟨i0, hi, hz0, hz1, hz2⟩ := info_parts Qwj; obtain ⟨a9, c9, hv9⟩ := Qt HI.out.own; subst hv9
    by_cases hlt : k < b.size
    · have HT := Qa (fun w => Qjt b (k : Int) w (by omega)); rw [HBS.out] at HT; have hka := head_at HBY.out; rw [<- HKE.out] at hka; rw [hka] at HT; unfold Qyc at HT; have HMO := Qa (fun he => head_more HBY.out he)
      have HEN : Hid (((Qga y).2.2 ≠ 0 ∨ (Qga y).1.l <= Qnb 0 (msR ms)) -> Qgb bs = (msR ms, k)) := fun h => by
        rw [HKE.out]; exact Qjh HBY.out HI.out.rise h
      have HFI := Qa (Qpn y); clear hka; generalize Qga y = hy9 at *; obtain ⟨r, n, er⟩ := hy9; simp only at HT HMO HEN HFI; go_wp2_with fail; refine (HT.out wr).mono ?_; rintro e w1 ⟨⟨va, vb, rfl, hgot⟩, hb1⟩; obtain ⟨av, cv, rfl⟩ := Qt hgot.1; obtain ⟨au, cu, rfl⟩ := Qt hgot.2; have HG1 : Hid (Qza w.heap.size w1 r (.slice av r.ts.length cv) (.slice au r.ds.length cu)) := ⟨Qrb hgot.1 HI.out.bel.size, Qrb hgot.2 HI.out.bel.size⟩; have HI1 := Qa (HI.out.below hb1); clear hgot hb1 HI HT
      by_cases he : er = 0
      · subst he; rw [if_pos rfl]; obtain ⟨hr, hbs2, hfl, hn6, hkn⟩ := HMO.out rfl; rw [<- HKE.out, HLN.out] at hkn; obtain ⟨p9, hp9⟩ : ∃ p9 : Nat, p9 = k + n := ⟨_, rfl⟩; have e9 : (k : Int) + (n : Int) = (p9 : Int) := by omega
        rw [e9]; have hgt : k < p9 := by omega
        have hle : p9 <= b.size := by omega
        have HR := Qa hr; have HB2 := Qa hbs2
        have HP9 : Hid (p9 = (Qe (msR ms) ++ Qea r).length) := by
          rw [hp9, List.length_append, hfl, <- HKE.out]; exact rfl
        have hrl : r.l < 18446744073709551616 := by have := hr.lm; unfold Qxe at this; omega
        have hrp : 0 < r.l := hr.l1; clear hr hbs2 hfl hn6 hkn hp9 e9 HMO; go_wp2_with (refine Qc rfl 34 (.tmp 7) (.tmp 18) rfl w1.heap.size Qr (rcA r (.slice av r.ts.length cv) (.slice au r.ds.length cu)) rfl rfl (Qd.new w1 34 Qr) Qj rfl (by simp [rcA, Value.oneCell']) ?_); intro w2 hr2 hk2 _; have hb2 := hk2 _ _ ((Below.refl w1.heap.size w1).alloc (Nat.le_refl _) _) (Nat.le_refl _); have HG2 := Qa (HG1.out.below hb2); have HI2 := Qa (HI1.out.below hb2); have HRR := Qa hr2
        have HNG : Hid ((Value.slice a9 ms.length c9).ownBlock ≠ some w1.heap.size) := fun e => by
          have := (HI1.out.own.lt _ e).2; omega
        clear hr2 hk2 hb2 HG1 HI1; generalize w1.heap.size = g1 at *
        rcases Qzs ms with rfl | ⟨ms', m, rfl⟩
        · have HLL : Hid (Qnb 0 (msR ([] : List (Rec × Value × Value))) < r.l) := hrp; clear HEN; go_wp2; go_quiet (fail); refine Qya (fun x => Hid (RsI w bs (.slice a9 ([] : List (Rec × Value × Value)).length c9) [] x) /\ Hid (Qza w.heap.size x r (.slice av r.ts.length cv) (.slice au r.ds.length cu)) /\ Hid (Qd x g1 34 (rcF (r, .slice av r.ts.length cv, .slice au r.ds.length cu)))) ⟨Qa (HI2.out.below (Qra (Below.refl _ _) _)), Qa (HG2.out.below (Qra (Below.refl _ _) _)), HRR⟩ ?_; clear HI2 HG2 HRR; rintro x3 ⟨HI3, HG3, HRR⟩
          have HPL : Hid (([] : List (Rec × Value × Value)).length * 6 <= b.size) := by
            have h1 := Qob (msR ([] : List (Rec × Value × Value))); have h3 : (msR ([] : List (Rec × Value × Value))).length = ([] : List (Rec × Value × Value)).length := by simp [msR]
            have h2 := HKE.out; unfold Hid; omega
          go_wp2_with (first | (refine Qg rfl 34 (.tmp 7) rfl g1 rfl #[.int .i64 r.k, .int .u64 (r.l : Int), .int .i64 r.t, .int .u64 (r.p : Int), .int .i64 r.c.k, .int .i64 r.c.pg, .int .i64 r.c.sl, .string r.c.o, .string r.c.n, .int .u64 (r.n : Int), .int .i64 r.s, .int .u64 (r.b : Int), .slice av r.ts.length cv, .slice au r.ds.length cu] HRR.out _ Tryz.underlying34 rfl Qj ?_) | (at_builtin; refine wpList_append_own _ rfl (.tmp 40) (.tmp 42) 38 rfl w.heap.size 34 i0 (.agg Qr) 14 160 Tryz.underlying38 hi hz0 hz1 hz2 rfl (by decide) _ ([] : List (Rec × Value × Value)).length _ rfl (HI3.out.own.alloc _) ⟨x3.heap.size, 0, none⟩ 1 1 (rcF (r, .slice av r.ts.length cv, .slice au r.ds.length cu)).toList rfl rfl (Qrk x3 34 (rcF (r, .slice av r.ts.length cv, .slice au r.ds.length cu))) (by simp [rcF, rcA, Value.oneCell']) (by have := HPL.out; unfold maxLen; omega) (by have := HPL.out; omega) (by have := HI3.out.bel.size; simp; omega) ?_)); intro v' w4 hown' hgrow _; have HI4 := Qa (HI3.out.push (m := (r, .slice av r.ts.length cv, .slice au r.ds.length cu)) ((Below.refl _ x3).alloc (Nat.le_refl _) _) hgrow hown' ⟨HR.out, HFI.out, HG3.out⟩ HLL.out); clear hown' hgrow HI3 HG3 HRR HLL; go_wp2; go_roundw
          case rel => exact ⟨([] : List (Rec × Value × Value)) ++ [(r, .slice av r.ts.length cv, .slice au r.ds.length cu)], _, p9, rfl, hle, by rw [Qxc, Qxb]; exact HP9, by rw [Qxc, Qxb]; exact HB2, HI4⟩
          case measure => simp [intOf]; omega
        · have hlen : (ms' ++ [m]).length = ms'.length + 1 := by simp
          rw [hlen] at HI2 HNG |-; have hown := HI2.out.own; rw [hlen] at hown; obtain ⟨g', c', hv'⟩ := ownsRow_succ hown; injection hv' with hv1 hv2 hv3; subst hv1 hv3; have hcl := own_last hown; have hll := Qjp (msR (ms' ++ [m])) 0 HI2.out.rise (by decide); have HLS : Hid (Qnb 0 (msR (ms' ++ [m])) = m.1.l) := by rw [Qxc, Qfh]; exact rfl
          rw [HLS.out] at hll HEN; have HOW := Qa hown; obtain ⟨n1, hn1⟩ : ∃ n1, n1 = ms'.length := ⟨_, rfl⟩; rw [<- hn1] at hcl hlen HI2 HNG HOW |-; have HN1 := Qa hlen
          have hnb : n1 <= 140737488355 := by
            have h1 := Qob (msR (ms' ++ [m])); have h3 : (msR (ms' ++ [m])).length = n1 + 1 := by rw [<- HN1.out]; simp [msR]
            have h2 := HKE.out; omega
          clear hown hlen hn1 hv2; generalize hml : m.1.l = ml at *; have HML := Qa hml; clear hml; have hrc := HRR.out.cell 1 (.int .u64 (r.l : Int)) rfl
          by_cases hge : r.l <= ml
          · have HE := Qa (HEN.out (.inr hge)); clear HEN; go_wp2; go_quiet (fail); go_wp2; go_ret3; exact (HI2.out.below (Qra (Below.refl _ _) _)).fin (len := b.size) HE.out _ (eq_dec _ _)
          · have HLL : Hid (Qnb 0 (msR (ms' ++ [m])) < r.l) := by rw [HLS.out]; show ml < r.l; omega
            clear HEN; go_wp2; go_quiet (fail); refine Qya (fun x => Hid (RsI w bs (.slice (some ⟨g', 0, none⟩) (n1 + 1) c9) (ms' ++ [m]) x) /\ Hid (Qza w.heap.size x r (.slice av r.ts.length cv) (.slice au r.ds.length cu)) /\ Hid (Qd x g1 34 (rcF (r, .slice av r.ts.length cv, .slice au r.ds.length cu)))) ⟨Qa (HI2.out.below (Qra (Below.refl _ _) _)), Qa (HG2.out.below (Qra (Below.refl _ _) _)), HRR⟩ ?_; clear HI2 HG2 HRR; rintro x3 ⟨HI3, HG3, HRR⟩
            have HPL : Hid ((ms' ++ [m]).length * 6 <= b.size) := by
              have h1 := Qob (msR (ms' ++ [m])); have h3 : (msR (ms' ++ [m])).length = (ms' ++ [m]).length := by simp [msR]
              have h2 := HKE.out; unfold Hid; omega
            rw [HN1.out] at HPL; have HO3 := Qa HI3.out.own; rw [HN1.out] at HO3; clear hcl hrc; go_wp2_with (first | (refine Qg rfl 34 (.tmp 7) rfl g1 rfl #[.int .i64 r.k, .int .u64 (r.l : Int), .int .i64 r.t, .int .u64 (r.p : Int), .int .i64 r.c.k, .int .i64 r.c.pg, .int .i64 r.c.sl, .string r.c.o, .string r.c.n, .int .u64 (r.n : Int), .int .i64 r.s, .int .u64 (r.b : Int), .slice av r.ts.length cv, .slice au r.ds.length cu] HRR.out _ Tryz.underlying34 rfl Qj ?_) | (at_builtin; refine wpList_append_own _ rfl (.tmp 40) (.tmp 42) 38 rfl w.heap.size 34 i0 (.agg Qr) 14 160 Tryz.underlying38 hi hz0 hz1 hz2 rfl (by decide) _ (n1 + 1) _ rfl (HO3.out.alloc _) ⟨x3.heap.size, 0, none⟩ 1 1 (rcF (r, .slice av r.ts.length cv, .slice au r.ds.length cu)).toList rfl rfl (Qrk x3 34 (rcF (r, .slice av r.ts.length cv, .slice au r.ds.length cu))) (by simp [rcF, rcA, Value.oneCell']) (by have := HPL.out; unfold maxLen; omega) (by have := HPL.out; omega) (by have := HI3.out.bel.size; simp; omega) ?_)); intro v' w4 hown' hgrow _; have HI4 := Qa (HI3.out.push (m := (r, .slice av r.ts.length cv, .slice au r.ds.length cu)) ((Below.refl _ x3).alloc (Nat.le_refl _) _) hgrow (by rw [HN1.out]; exact hown') ⟨HR.out, HFI.out, HG3.out⟩ HLL.out); clear hown' hgrow HI3 HG3 HRR HLL HO3; go_wp2; go_roundw
            case rel => exact ⟨(ms' ++ [m]) ++ [(r, .slice av r.ts.length cv, .slice au r.ds.length cu)], _, p9, rfl, hle, by rw [Qxc, Qxb]; exact HP9, by rw [Qxc, Qxb]; exact HB2, HI4⟩
            case measure => simp [intOf]; omega
      · rw [if_neg he]; have k0 : (er == 0) = false := by rw [beq_eq_false_iff_ne]; exact he
        have k1 : (er != 0) = true := by rw [bne, k0]; rfl
        have HE := Qa (HEN.out (.inl he)); clear he HEN HMO; go_wp2_with (refine Qc rfl 34 (.tmp 7) (.tmp 18) rfl w1.heap.size Qr (rcA r (.slice av r.ts.length cv) (.slice au r.ds.length cu)) rfl rfl (Qd.new w1 34 Qr) Qj rfl (by simp [rcA, Value.oneCell']) ?_); intro w2 hr2 hk2 _; have hb2 := hk2 _ _ ((Below.refl w1.heap.size w1).alloc (Nat.le_refl _) _) (Nat.le_refl _); have HI2 := Qa (HI1.out.below hb2); clear hr2 hk2 hb2 HG1 HI1; generalize w1.heap.size = g1 at *; go_wp2; go_quiet (fail); go_wp2; go_ret3; exact (HI2.out.below (Qra (Below.refl _ _) _)).fin (len := b.size) HE.out _ (eq_dec _ _)
    · obtain rfl : k = b.size := by omega
      have hy : y = [] := by
        have h1 := congrArg List.length HBY.out; rw [HLN.out, List.length_append, <- HKE.out] at h1; exact List.eq_nil_of_length_eq_zero (by omega)
      have HE := Qa (Qjh HBY.out HI.out.rise (.inl (by rw [hy]; unfold Qga; rw [if_pos (.inl (by decide))]; decide))); rw [<- HKE.out] at HE; clear hy; go_wp2; go_ret3; exact HI.out.fin HE.out true (by simp)
theorem last_get (l : List Rec) : Qnb 0 l = if 0 < l.length then (l.getD (l.length - 1) Rec.zero).l else 0 := by
  by_cases h : 0 < l.length
  · rw [if_pos h]; have e := Qif l 0 (l.length - 1) (by omega); rw [Nat.sub_add_cancel h, List.take_length] at e; exact e
  · rw [if_neg h]; have : l = [] := List.eq_nil_of_length_eq_zero (by omega); rw [this]; rfl
theorem RL.seen {B : Nat} {w w' : World} {gw gr cap : Nat} {a : Option Addr} {ms : List Rm} {g : Lg} {c : Nat} (h : RL B w gw gr a cap ms g) (hw : w' = w.setCell ⟨gw, 1, none⟩ (.int .u64 (c : Int)) ∨ (w' = w /\ c = g.c)) : RL B w' gw gr a cap ms { g with c := c } /\ Tn (Is gw) w w' := by
  rcases hw with rfl | ⟨rfl, rfl⟩
  · exact ⟨h.set ((Tn.refl (Is gw) w).set gw 1 _ rfl) (h.log.set 1 _) rfl h.recs h.apart.2.1 h.same, (Tn.refl (Is gw) w).set gw 1 _ rfl⟩
  · exact ⟨h, Tn.refl _ _⟩
theorem Qpu (B : Nat) (w : World) (gr : Nat) (t : Tp) (base : Nat) (h : Qed w gr t) (ok : t.ok) (hB : B <= w.heap.size) (hr : B <= gr) :
    Calls Tryz.prog 53 #[.pointer (some ⟨gr, 0, none⟩), .int .u64 (base : Int)] w fun e w' => e = .returned (.pointer (some ⟨w.heap.size, 0, none⟩)) /\ ∃ a cap ms, RL B w' w.heap.size gr a cap ms (Lg.open t base) /\ Tn (Is gr) w w' /\ ∀ k, blk a k -> w.heap.size <= k := by
  have hbx : Below w.heap.size w (w.alloc (.cells #[.pointer (some ⟨gr, 0, none⟩), .int .u64 0, .slice none 0 0, .int .i64 0, .int .i64 0, .int .i64 0, .int .u64 0] 49)) := (Below.refl _ _).alloc (Nat.le_refl _) _; have H1 := Qa (And.intro (h.later hbx) (And.intro (Qd.new w 49 #[.pointer (some ⟨gr, 0, none⟩), .int .u64 0, .slice none 0 0, .int .i64 0, .int .i64 0, .int .i64 0, .int .u64 0]) hbx)); have c0 := (h.later hbx).cell 0 (.string t.b) rfl; have hlt := h.lt; have hsz : t.b.size <= 65536 := Nat.le_trans ok.few ok.room; have HOK := Qa ok; clear h ok hbx; have HS := Qa (Qgi t.b.data.toList); have hdl := Qs t.b; go_enter Tryz.func53, Tryz.ntmps53; go_wp2_with fail; refine Qk (fun y => Hid (Qed y gr t /\ Qd y w.heap.size 49 #[.pointer (some ⟨gr, 0, none⟩), .int .u64 0, .slice none 0 0, .int .i64 0, .int .i64 0, .int .i64 0, .int .u64 0] /\ Below w.heap.size w y)) H1 ?_; clear H1 c0; intro y H1; obtain ⟨gw, hgw⟩ : ∃ gw, gw = w.heap.size := ⟨_, rfl⟩; rw [<- hgw] at H1 |-; have HGW := Qa hgw; have hlt2 : gr < gw := by omega
  clear hgw; refine (Qst t.b y (by omega)).mono ?_; rintro e w1 ⟨v, ms, rfl, hms, ho, hgot, hb1⟩; obtain ⟨a, cap, rfl, hrb, hblk⟩ := RB.own (B := B) (Nat.le_trans hB (by have := H1.out.2.2.size; omega)) ho hgot; have hml : ms.length = (Qgb t.b.data.toList).1.length := by rw [<- hms]; simp [msR]
  have H2 := Qa (And.intro (H1.out.1.later hb1) (And.intro (H1.out.2.1.later hb1) (And.intro (H1.out.2.2.trans (hb1.mono (Nat.le_of_lt H1.out.2.1.lt))) (And.intro hrb hblk)))); have HMS := Qa (And.intro hms hml); have HLY := Qa (show gw < y.heap.size from H1.out.2.1.lt); clear ho hgot hb1 hrb hblk hms hml H1; generalize hsc : Qgb t.b.data.toList = sc at *; obtain ⟨rs, N⟩ := sc; have HSC := Qa hsc; clear hsc; simp only at HMS HS |-; obtain ⟨ln, hln⟩ : ∃ ln, ln = ms.length := ⟨_, rfl⟩; rw [<- hln] at HMS |-; have HLN := Qa hln; clear hln; go_wp2_with fail; refine (Qev gr t (N : Int) w1 H2.out.1 HOK.out).mono ?_; rintro e w2 ⟨rfl, ht2, hbt2⟩; generalize hch : t.chop (N : Int) = ch at *; obtain ⟨t2, e2⟩ := ch; have HCH := Qa hch; have HTO := Qa (show t2.ok by have := t.chop_ok HOK.out (N : Int); rw [hch] at this; exact this); clear hch; simp only at ht2 |-; have H3 := Qa (And.intro ht2 hbt2); clear ht2 hbt2; go_wp2_with fail; refine (Qll gr t2 w2 H3.out.1 HTO.out).mono ?_; rintro e w3 ⟨rfl, ht3, hbt3⟩; have HBT := Qa (H3.out.2.trans hbt3); have HLOG := Qa (HBT.out.row H2.out.2.1 (by omega))
  have HRB := Qa (H2.out.2.2.2.1.keep (F := Is gr) (fun k hk => ⟨by rw [hk]; exact hr, by rw [hk]; exact H2.out.1.lt, fun ty cs hrow => by rw [hk] at hrow; rw [Qca hrow H2.out.1]; decide⟩) (Tn.of_but HBT.out rfl) (fun k hk e => by
    have h1 := H2.out.2.2.2.2 k hk; have h2 := HLY.out; have h3 : k = gr := e
    omega))
  have HT3 := Qa ht3; clear ht3 hbt3 H3; have m1 := HLOG.out.cell 1 (.int .u64 0) rfl; have f1 := HLOG.out.free 1; have m2 := HLOG.out.cell 2 (.slice none 0 0) rfl; have f2 := HLOG.out.free 2; have m3 := HLOG.out.cell 3 (.int .i64 0) rfl; have f3 := HLOG.out.free 3; obtain ⟨x, hx⟩ : ∃ x, x = (w3.setCell ⟨gw, 2, none⟩ (.slice a ln cap)).setCell ⟨gw, 3, none⟩ (.int .i64 (ln : Int)) := ⟨_, rfl⟩
  have hT5 : Tn (Is gw) w3 x := by
    rw [hx]; exact ((Tn.refl (Is gw) w3).set gw 2 _ rfl).set gw 3 _ rfl
  have hrl : rs.length = ln := HMS.out.2.symm; have hBw : B <= gw := by rw [HGW.out]; exact hB
  have hlg : Qd x gw 49 (rlA gr a cap ⟨t2.sync, 0, rs, ln, 0, 0, 0⟩) := by
    rw [hx]; show Qd _ gw _ #[.pointer (some ⟨gr, 0, none⟩), .int .u64 0, .slice a rs.length cap, .int .i64 (ln : Int), .int .i64 0, .int .i64 0, .int .u64 0]; rw [hrl]; exact (HLOG.out.set 2 _).set 3 _
  have R5 := Qa (show RL B x gw gr a cap ms ⟨t2.sync, 0, rs, ln, 0, 0, 0⟩ from ⟨hBw, hr, hlg, hT5.row HT3.out (fun e => by have h3 : gr = gw := e; omega), HRB.out.keep (F := Is gw) (fun k hk => ⟨by rw [hk]; exact hBw, by rw [hk]; exact HLOG.out.lt, fun ty cs hrow => by rw [hk] at hrow; rw [Qca hrow HLOG.out]; decide⟩) hT5 (fun k hk e => by
    have h1 := H2.out.2.2.2.2 k hk; have h2 := HLY.out; have h3 : k = gw := e
    omega), HMS.out.1⟩)
  have HX := Qa hx; have hb3 : Below w.heap.size w w1 := by rw [<- HGW.out]; exact H2.out.2.2.1
  have T5 := Qa (show Tn (Is gr) w x from (((Tn.of_below (F := Is gr) hb3).then (Tn.of_but HBT.out rfl)).trans hT5 (fun k hk => .inr (by have h3 : k = gw := hk; have := HGW.out; omega)))); have HBK := Qa (fun k (hk : blk a k) => show w.heap.size <= k by have h1 := H2.out.2.2.2.2 k hk; have h2 := HLY.out; have h3 := HGW.out; omega)
  have hl6 : ln <= 20000 := by
    have h1 := Qob rs; have h2 := congrArg List.length HS.out.2.1; rw [List.length_take] at h2; omega
  clear hx hT5 hlg hb3 H2 HLOG HRB HT3 HBT HLY; go_wp2_with fail; rw [<- HX.out]; have k1 := R5.out.log.cell 1 (.int .u64 ((0 : Nat) : Int)) rfl; refine (Qjj gw 1 0 base x k1 (R5.out.log.free 1)).mono ?_; rintro e w6 ⟨rfl, hw6⟩; have R6 := Qa (R5.out.seen hw6); clear hw6 k1 m1 f1 m2 f2 m3 f3; go_wp2_with fail; refine (Qki B w6 gw gr cap a ms _ R6.out.1 (by show ln <= rs.length; omega) (by show rs.length <= 100000; omega)).mono ?_; rintro e w7 ⟨rfl, h7, t7⟩; simp only at h7; have R7 := Qa h7; have T7 := Qa t7; clear h7 t7; obtain ⟨du, hdu⟩ : ∃ du, du = if 0 < ln then (rs.getD (ln - 1) Rec.zero).l else 0 := ⟨_, rfl⟩
  rw [<- hdu] at R7; have HDU := Qa hdu; clear hdu; have k6 := R7.out.log.cell 6 (.int .u64 (du : Int)) rfl; have HSEE := Qa (Qjj gw 1 (max 0 (min base maxL)) du w7.drew (R7.out.drew.log.cell 1 (.int .u64 ((max 0 (min base maxL) : Nat) : Int)) rfl) (R7.out.drew.log.free 1)); go_wp2_with fail
  go_region_held3 (fun x => x.cell? ⟨gw, 6, none⟩ = some (.int .u64 (du : Int))) (go_keep)
    (first | (go_at_call 29; with_reducible refine HSEE.out.mono ?_; rintro e w8 ⟨rfl, hw8⟩; have R8 := Qa (R7.out.drew.seen hw8); have k8 := R8.out.1.log.cell 6 (.int .u64 (du : Int)) rfl))
  clear hw8 k6 k8 HSEE; go_wp2; go_ret; have hlast : Qnb 0 rs = du := by rw [last_get, hrl, HDU.out]
  have hop : Lg.open t base = ⟨t2.sync, max (max 0 (min base maxL)) (min du maxL), rs, ln, ln, 0, du⟩ := by
    unfold Lg.open; rw [HSC.out]; simp only; rw [HCH.out, hlast, hrl]
  rw [hop]; have hgw : ∀ k, Is gw k -> Is gr k ∨ w.heap.size <= k := fun k hk => .inr (by have h3 : k = gw := hk; have := HGW.out; omega)
  refine ⟨by rw [HGW.out]; rfl, a, cap, ms, ?_, (((T5.out.trans R6.out.2 hgw).trans T7.out hgw).drew).trans R8.out.2 hgw, HBK.out⟩; rw [<- HGW.out]; exact R8.out.1
theorem Qdk (a : Option Addr) (cap : Nat) (ms : List Rm) (w : World) (h : Qlf w (.slice a ms.length cap) ms) (hr : ∀ r ∈ msR ms, r.right) (hl : ms.length <= 20000) (hc : ms.length <= cap) (hz : (Qe (msR ms)).length <= 70000) :
    Calls Tryz.prog 57 #[.slice a ms.length cap] w fun e w' => e = .returned (.string (mkS (Qe (msR ms)))) /\ Below w.heap.size w w' := by
  have HI := Qa h; have HR := Qa hr; have HZ := Qa hz; obtain ⟨ln, hln⟩ : ∃ ln, ln = ms.length := ⟨_, rfl⟩; rw [<- hln] at HI hl hc |-; have HLN := Qa hln; clear h hr hln hz; go_enter Tryz.func57, Tryz.ntmps57; go_wp2; go_loopw [7, 3] (fun i v wr => ∃ j : Nat, j <= ln /\ i = .int .i64 j /\ v = .string (mkS (Qe (msR (ms.take j)))) /\ Below w.heap.size w wr) (fun i _ _ => ln - (intOf i).toNat)
  case atStart => exact ⟨0, Nat.zero_le _, rfl, rfl, Below.refl _ _⟩
  case round =>
    obtain ⟨j, hj, rfl, rfl, hbr⟩ := hrel; have HB := Qa hbr; clear hbr
    by_cases hlt : j < ln
    · have hlm : j < ms.length := by have := HLN.out; omega
      obtain ⟨b, off, rfl, hbl, hrg, hft, hin⟩ := HI.out.at (i := j) hlm
      have hrt : (ms.getD j rcZ).1.right := by
        rw [<- Qae]; refine HR.out _ ?_; rw [List.getD_eq_getElem?_getD, List.getElem?_eq_getElem (by simpa [msR] using hlm)]; exact List.getElem_mem _
      have hmore := Qkl ms j hlm
      have hmo : (Qe (msR (ms.take (j + 1)))).length <= 70000 := by
        have h1 := Qyj (msR ms) (j + 1) ms.length (by omega); rw [Qyn]; have h2 : (msR ms).take ms.length = msR ms := List.take_of_length_le (by simp [msR]); rw [h2] at h1; exact Nat.le_trans h1 HZ.out
      obtain ⟨m, hm⟩ : ∃ m, m = ms.getD j rcZ := ⟨_, rfl⟩; rw [<- hm] at hrg hft hin hrt hmore; rw [hmore, List.length_append] at hmo; clear hm; have HLD := Qa (Qgd wr b (off + j * 14) m (Qma hrg HB.out hbl)); have HFR : Hid (∀ y, Below w.heap.size w y -> Calls Tryz.prog 56 #[.agg (rcF m)] y fun e w' => e = .returned (.string (mkS (Qea m.1))) /\ Below y.heap.size y w') := Qa (fun y hy => Qci m.1 m.2.1 m.2.2 y hrt (hin.below hy)); have hjI : (j : Int) < (ln : Int) := by omega
      have HN : Hid (mkS (Qe (msR (ms.take (j + 1)))) = mkS (Qe (msR (ms.take j))) ++ mkS (Qea m.1)) := by
        rw [hmore, Qeb]; exact rfl
      have z1 := Qu (Qea m.1); have z2 := Qu (Qe (msR (ms.take j))); have hadd := Qvb (mkS (Qe (msR (ms.take j)))) (mkS (Qea m.1)) (by omega); clear hrg hft hin hrt hmore; generalize mkS (Qea m.1) = S at *; generalize mkS (Qe (msR (ms.take j))) = T at *; go_wp2_with (refine Qq rfl 34 (.tmp 13) rfl _ _ rfl HLD.out ?_); refine (HFR.out wr HB.out).mono ?_; rintro e w1 ⟨rfl, hb1⟩; have HB1 := Qa (HB.out.trans (hb1.mono HB.out.size)); clear hb1 HB HFR HLD; go_wp2; go_roundw
      case rel => exact ⟨j + 1, by omega, by go_num, by rw [HN.out], HB1.out⟩
      case measure => simp [intOf]; omega
    · obtain rfl : j = ln := by omega
      have e : ms.take j = ms := by rw [HLN.out, List.take_length]
      rw [e]; go_wp2; go_ret; exact ⟨rfl, HB.out⟩
theorem RL.zc {B : Nat} {w : World} {gw gr : Nat} {ms : List Rm} {g : Lg} (h : RL B w gw gr none 0 ms g) (h1 : g.l.length = 0) (h2 : g.on = 0) : w.cell? ⟨gw, 2, none⟩ = some (.slice none 0 0) /\ w.cell? ⟨gw, 3, none⟩ = some (.int .i64 0) := by
  have e2 := h.log.cell 2 (.slice none g.l.length 0) rfl; have e3 := h.log.cell 3 (.int .i64 (g.on : Int)) rfl; rw [h1] at e2; rw [h2] at e3; exact ⟨e2, e3⟩
theorem Qgt (B : Nat) (w : World) (gw gr : Nat) (b off cap : Nat) (ms : List Rm) (g : Lg) (hc : ¬ cap = g.on) (h : RL B w gw gr (some ⟨b, off, none⟩) (cap) ms g) (ok : g.ok) :
    Calls Tryz.prog 23 #[.pointer (some ⟨gw, 0, none⟩)] w fun e w' => e = .returned (.int .i64 0) /\ RL B w' gw gr (some ⟨b, off, none⟩) (cap) ms g.write /\ Tn (FL gw gr (some ⟨b, off, none⟩)) w w' := by
  have hlen := h.len; have hon := ok.on; have hfew := Qfb g ok; have hcap := h.recs.cap; have e1 : (g.on : Int) <= (g.l.length : Int) := by omega
  have e2 : (0 : Int) <= (g.on : Int) := by omega
  have hsm : (msR (ms.drop g.on)) = g.l.drop g.on := by rw [<- h.same]; simp [msR, List.map_drop]
  have hrr : ∀ r ∈ msR (ms.drop g.on), r.right := fun r hr => Qbc _ 0 ok.rise r (by rw [hsm] at hr; exact List.mem_of_mem_drop hr)
  have hdl : (ms.drop g.on).length = g.l.length - g.on := by rw [List.length_drop]; omega
  have hroom := ok.room; have hmm := ok.tok.room; have hu : g.used = g.t.b.size + (Qe (g.l.drop g.on)).length := rfl; rw [hu] at hroom
  have HRM : Hid (∀ y, RL B y gw gr (some ⟨b, off, none⟩) (cap) ms g -> Calls Tryz.prog 57 #[.slice (some ⟨b, off + g.on * 14, none⟩) (g.l.length - g.on) (cap - g.on)] y fun e w' => e = .returned (.string (mkS (Qe (g.l.drop g.on)))) /\ Below y.heap.size y w') := Qa (fun y hy => by
    have hrs : Qlf y (.slice (some ⟨b, off + g.on * 14, none⟩) (ms.drop g.on).length (cap - g.on)) (ms.drop g.on) := by
      have hx := hy.recs.rs.rest (i := g.on) (by omega) (ms.drop g.on).length (cap - g.on) (by rw [List.length_drop]); exact hx
    have T := Qdk (some ⟨b, off + g.on * 14, none⟩) (cap - g.on) (ms.drop g.on) y hrs hrr (by rw [hdl]; omega) (by rw [hdl]; omega) (by rw [hsm]; omega); rw [hsm, hdl] at T
    exact T)
  have HAP := Qa (show g.t.app (mkS (Qe (g.l.drop g.on))) = (g.write.t, 0) from by
    have e := g.write_app ok; have e2 : mkS (Qe (g.l.drop g.on)) = Qhe (g.l.drop g.on) := rfl; rw [e2, e]; unfold Lg.write
    rw [e])
  have HOK := Qa ok; have H := Qa h; have hS := Qu (Qe (g.l.drop g.on)); have k0 := h.log.cell 0 (.pointer (some ⟨gr, 0, none⟩)) rfl; have k2 := h.log.cell 2 (.slice (some ⟨b, off, none⟩) g.l.length (cap)) rfl; have k3 := h.log.cell 3 (.int .i64 (g.on : Int)) rfl; clear h ok hrr hsm hdl; generalize mkS (Qe (g.l.drop g.on)) = S at *; go_enter Tryz.func23, Tryz.ntmps23; go_wp2_with fail
  go_region_held3 (fun x => x.cell? ⟨gw, 0, none⟩ = some (.pointer (some ⟨gr, 0, none⟩)) /\ x.cell? ⟨gw, 2, none⟩ = some (.slice (some ⟨b, off, none⟩) (g.l.length) (cap)) /\ x.cell? ⟨gw, 3, none⟩ = some (.int .i64 (g.on : Int))) (go_keep)
    (first
      | (go_at_call 57; with_reducible refine (HRM.out _ H.out.drew).mono ?_; rintro e w1 ⟨rfl, hb1⟩; have R1 := Qa (H.out.drew.later hb1); have k0 := R1.out.log.cell 0 (.pointer (some ⟨gr, 0, none⟩)) rfl; have k2 := R1.out.log.cell 2 (.slice (some ⟨b, off, none⟩) g.l.length (cap)) rfl; have k3 := R1.out.log.cell 3 (.int .i64 (g.on : Int)) rfl)
      | (go_at_call 19; with_reducible refine (Qvh gr g.t S w1 R1.out.tape HOK.out.tok (by omega)).mono ?_; rw [HAP.out]; rintro e w2 ⟨rfl, ht2, hbt⟩; have R2 := Qa (R1.out.turn hbt ht2); have k0 := R2.out.log.cell 0 (.pointer (some ⟨gr, 0, none⟩)) rfl; have k2 := R2.out.log.cell 2 (.slice (some ⟨b, off, none⟩) g.l.length (cap)) rfl; have k3 := R2.out.log.cell 3 (.int .i64 (g.on : Int)) rfl))
  have T2 := Qa ((Tn.refl (FL gw gr (some ⟨b, off, none⟩)) w).drew.later hb1 |>.then (Tn.of_but hbt (.inr (.inl rfl)))); have m2 := R2.out.log.cell 2 (.slice (some ⟨b, off, none⟩) g.l.length (cap)) rfl; have m3 := R2.out.log.cell 3 (.int .i64 (g.on : Int)) rfl; have f3 := R2.out.log.free 3; clear ht2 hbt hb1 R1 H HRM k0 k2 k3; go_wp2; go_ret; refine ⟨rfl, R2.out.set ((Tn.refl (Is gw) w2).set gw 3 _ rfl) ?_ rfl R2.out.recs R2.out.apart.2.1 R2.out.same, T2.out.set gw 3 _ (.inl rfl)⟩; exact R2.out.log.set 3 _
theorem Qho (B : Nat) (w : World) (gw gr : Nat) (b off : Nat) (ms : List Rm) (g : Lg) (h : RL B w gw gr (some ⟨b, off, none⟩) (g.on) ms g) (ok : g.ok) :
    Calls Tryz.prog 23 #[.pointer (some ⟨gw, 0, none⟩)] w fun e w' => e = .returned (.int .i64 0) /\ RL B w' gw gr (some ⟨b, off, none⟩) (g.on) ms g.write /\ Tn (FL gw gr (some ⟨b, off, none⟩)) w w' := by
  have hlen := h.len; have hon := ok.on; have hfew := Qfb g ok; have hcap := h.recs.cap; have e1 : (g.on : Int) <= (g.l.length : Int) := by omega
  have e2 : (0 : Int) <= (g.on : Int) := by omega
  have hd0 : g.l.length - g.on = 0 := by omega
  have hsm : (msR (ms.drop g.on)) = g.l.drop g.on := by rw [<- h.same]; simp [msR, List.map_drop]
  have hrr : ∀ r ∈ msR (ms.drop g.on), r.right := fun r hr => Qbc _ 0 ok.rise r (by rw [hsm] at hr; exact List.mem_of_mem_drop hr)
  have hdl : (ms.drop g.on).length = 0 := by rw [List.length_drop]; omega
  have hroom := ok.room; have hmm := ok.tok.room; have hu : g.used = g.t.b.size + (Qe (g.l.drop g.on)).length := rfl; rw [hu] at hroom
  have HRM : Hid (∀ y, RL B y gw gr (some ⟨b, off, none⟩) (g.on) ms g -> Calls Tryz.prog 57 #[.slice (some ⟨b, off, none⟩) (0) (0)] y fun e w' => e = .returned (.string (mkS (Qe (g.l.drop g.on)))) /\ Below y.heap.size y w') := Qa (fun y hy => by
    have hrs : Qlf y (.slice (some ⟨b, off, none⟩) (ms.drop g.on).length (0)) (ms.drop g.on) := by
      have e0 : ms.drop g.on = [] := List.eq_nil_of_length_eq_zero (by rw [List.length_drop]; omega); rw [e0]; exact Qlf.empty _ _ _
    have T := Qdk (some ⟨b, off, none⟩) (0) (ms.drop g.on) y hrs hrr (by rw [hdl]; omega) (by rw [hdl]; omega) (by rw [hsm]; omega); rw [hsm, hdl] at T
    exact T)
  have HAP := Qa (show g.t.app (mkS (Qe (g.l.drop g.on))) = (g.write.t, 0) from by
    have e := g.write_app ok; have e2 : mkS (Qe (g.l.drop g.on)) = Qhe (g.l.drop g.on) := rfl; rw [e2, e]; unfold Lg.write
    rw [e])
  have HOK := Qa ok; have H := Qa h; have hS := Qu (Qe (g.l.drop g.on)); have k0 := h.log.cell 0 (.pointer (some ⟨gr, 0, none⟩)) rfl; have k2 := h.log.cell 2 (.slice (some ⟨b, off, none⟩) g.l.length (g.on)) rfl; have k3 := h.log.cell 3 (.int .i64 (g.on : Int)) rfl; clear h ok hrr hsm hdl; generalize mkS (Qe (g.l.drop g.on)) = S at *; go_enter Tryz.func23, Tryz.ntmps23; go_wp2_with fail
  go_region_held3 (fun x => x.cell? ⟨gw, 0, none⟩ = some (.pointer (some ⟨gr, 0, none⟩)) /\ x.cell? ⟨gw, 2, none⟩ = some (.slice (some ⟨b, off, none⟩) (g.l.length) (g.on)) /\ x.cell? ⟨gw, 3, none⟩ = some (.int .i64 (g.on : Int))) (go_keep)
    (first
      | (go_at_call 57; with_reducible refine (HRM.out _ H.out.drew).mono ?_; rintro e w1 ⟨rfl, hb1⟩; have R1 := Qa (H.out.drew.later hb1); have k0 := R1.out.log.cell 0 (.pointer (some ⟨gr, 0, none⟩)) rfl; have k2 := R1.out.log.cell 2 (.slice (some ⟨b, off, none⟩) g.l.length (g.on)) rfl; have k3 := R1.out.log.cell 3 (.int .i64 (g.on : Int)) rfl)
      | (go_at_call 19; with_reducible refine (Qvh gr g.t S w1 R1.out.tape HOK.out.tok (by omega)).mono ?_; rw [HAP.out]; rintro e w2 ⟨rfl, ht2, hbt⟩; have R2 := Qa (R1.out.turn hbt ht2); have k0 := R2.out.log.cell 0 (.pointer (some ⟨gr, 0, none⟩)) rfl; have k2 := R2.out.log.cell 2 (.slice (some ⟨b, off, none⟩) g.l.length (g.on)) rfl; have k3 := R2.out.log.cell 3 (.int .i64 (g.on : Int)) rfl))
  have T2 := Qa ((Tn.refl (FL gw gr (some ⟨b, off, none⟩)) w).drew.later hb1 |>.then (Tn.of_but hbt (.inr (.inl rfl)))); have m2 := R2.out.log.cell 2 (.slice (some ⟨b, off, none⟩) g.l.length (g.on)) rfl; have m3 := R2.out.log.cell 3 (.int .i64 (g.on : Int)) rfl; have f3 := R2.out.log.free 3; clear ht2 hbt hb1 R1 H HRM k0 k2 k3; go_wp2; go_ret; refine ⟨rfl, R2.out.set ((Tn.refl (Is gw) w2).set gw 3 _ rfl) ?_ rfl R2.out.recs R2.out.apart.2.1 R2.out.same, T2.out.set gw 3 _ (.inl rfl)⟩; exact R2.out.log.set 3 _
theorem Qin (B : Nat) (w : World) (gw gr : Nat)  (ms : List Rm) (g : Lg) (h : RL B w gw gr (none) (0) ms g) (ok : g.ok) :
    Calls Tryz.prog 23 #[.pointer (some ⟨gw, 0, none⟩)] w fun e w' => e = .returned (.int .i64 0) /\ RL B w' gw gr (none) (0) ms g.write /\ Tn (FL gw gr (none)) w w' := by
  have hlen := h.len; have hon := ok.on; have hfew := Qfb g ok; have hcap := h.recs.cap; have hl0 : g.l.length = 0 := by omega
  have hon0 : g.on = 0 := by omega
  have HZ := Qa (And.intro hl0 hon0); have hsm : (msR (ms.drop g.on)) = g.l.drop g.on := by rw [<- h.same]; simp [msR, List.map_drop]
  have hrr : ∀ r ∈ msR (ms.drop g.on), r.right := fun r hr => Qbc _ 0 ok.rise r (by rw [hsm] at hr; exact List.mem_of_mem_drop hr)
  have hdl : (ms.drop g.on).length = 0 := by rw [List.length_drop]; omega
  have hroom := ok.room; have hmm := ok.tok.room; have hu : g.used = g.t.b.size + (Qe (g.l.drop g.on)).length := rfl; rw [hu] at hroom
  have HRM : Hid (∀ y, RL B y gw gr (none) (0) ms g -> Calls Tryz.prog 57 #[.slice (none) (0) (0)] y fun e w' => e = .returned (.string (mkS (Qe (g.l.drop g.on)))) /\ Below y.heap.size y w') := Qa (fun y hy => by
    have hrs : Qlf y (.slice (none) (ms.drop g.on).length (0)) (ms.drop g.on) := by
      have e0 : ms.drop g.on = [] := List.eq_nil_of_length_eq_zero (by rw [List.length_drop]; omega); rw [e0]; exact Qlf.empty _ _ _
    have T := Qdk (none) (0) (ms.drop g.on) y hrs hrr (by rw [hdl]; omega) (by rw [hdl]; omega) (by rw [hsm]; omega); rw [hsm, hdl] at T
    exact T)
  have HAP := Qa (show g.t.app (mkS (Qe (g.l.drop g.on))) = (g.write.t, 0) from by
    have e := g.write_app ok; have e2 : mkS (Qe (g.l.drop g.on)) = Qhe (g.l.drop g.on) := rfl; rw [e2, e]; unfold Lg.write
    rw [e])
  have HOK := Qa ok; have H := Qa h; have hS := Qu (Qe (g.l.drop g.on)); have k0 := h.log.cell 0 (.pointer (some ⟨gr, 0, none⟩)) rfl; have k2 := (RL.zc h HZ.out.1 HZ.out.2).1; have k3 := (RL.zc h HZ.out.1 HZ.out.2).2; clear h ok hrr hsm hdl hl0 hon0; generalize mkS (Qe (g.l.drop g.on)) = S at *; go_enter Tryz.func23, Tryz.ntmps23; go_wp2_with fail
  go_region_held3 (fun x => x.cell? ⟨gw, 0, none⟩ = some (.pointer (some ⟨gr, 0, none⟩)) /\ x.cell? ⟨gw, 2, none⟩ = some (.slice (none) (0) (0)) /\ x.cell? ⟨gw, 3, none⟩ = some (.int .i64 0)) (go_keep)
    (first
      | (go_at_call 57; with_reducible refine (HRM.out _ H.out.drew).mono ?_; rintro e w1 ⟨rfl, hb1⟩; have R1 := Qa (H.out.drew.later hb1); have k0 := R1.out.log.cell 0 (.pointer (some ⟨gr, 0, none⟩)) rfl; have k2 := (RL.zc R1.out HZ.out.1 HZ.out.2).1; have k3 := (RL.zc R1.out HZ.out.1 HZ.out.2).2)
      | (go_at_call 19; with_reducible refine (Qvh gr g.t S w1 R1.out.tape HOK.out.tok (by omega)).mono ?_; rw [HAP.out]; rintro e w2 ⟨rfl, ht2, hbt⟩; have R2 := Qa (R1.out.turn hbt ht2); have k0 := R2.out.log.cell 0 (.pointer (some ⟨gr, 0, none⟩)) rfl; have k2 := (RL.zc R2.out HZ.out.1 HZ.out.2).1; have k3 := (RL.zc R2.out HZ.out.1 HZ.out.2).2))
  have T2 := Qa ((Tn.refl (FL gw gr (none)) w).drew.later hb1 |>.then (Tn.of_but hbt (.inr (.inl rfl)))); have m2 := (RL.zc R2.out HZ.out.1 HZ.out.2).1; have m3 := R2.out.log.cell 3 (.int .i64 (g.on : Int)) rfl; have f3 := R2.out.log.free 3; clear ht2 hbt hb1 R1 H HRM k0 k2 k3; go_wp2; go_ret
  have hw : w2.setCell ⟨gw, 3, none⟩ (.int .i64 0) = w2.setCell ⟨gw, 3, none⟩ (.int .i64 (g.l.length : Int)) := by
    rw [HZ.out.1]; rfl
  rw [hw]; refine ⟨rfl, R2.out.set ((Tn.refl (Is gw) w2).set gw 3 _ rfl) ?_ rfl R2.out.recs R2.out.apart.2.1 R2.out.same, T2.out.set gw 3 _ (.inl rfl)⟩; exact R2.out.log.set 3 _
theorem Qpp (B : Nat) (w : World) (gw gr cap : Nat) (a : Option Addr) (ms : List Rm) (g : Lg) (h : RL B w gw gr a cap ms g) (ok : g.ok) :
    Calls Tryz.prog 23 #[.pointer (some ⟨gw, 0, none⟩)] w fun e w' => e = .returned (.int .i64 0) /\ RL B w' gw gr a cap ms g.write /\ Tn (FL gw gr a) w w' := by
  rcases h.recs.1 with ⟨rfl, _, rfl⟩ | ⟨b, off, cs, rfl, _⟩
  · exact Qin B w gw gr ms g h ok
  · by_cases hc : cap = g.on
    · subst hc; exact Qho B w gw gr b off ms g h ok
    · exact Qgt B w gw gr b off cap ms g hc h ok
end Go.Proofs.YtdbpbgpcjmomdaaGreat
