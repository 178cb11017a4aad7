/-
  The walk of ChangeChains: it returns true, and turns nothing that was there.
-/
import Derived.Test.YtcehppekcbbaaabChangeAwake
import Derived.Test.YtcehppekcbbaaabChangeInv
import Derived.Test.YtcehppekcbbaaabChainMem
import Derived.Test.YtcehppekcbbaaabArgRows
import Derived.OpenShut
namespace Go.Proofs.Ytcehppekcbbaaab.changeChains
open Go.RowKit
set_option linter.unusedVariables false

theorem cast1 (a : Nat) : ((a + 1 : Nat) : Int) = (a : Int) + 1 := by omega

theorem cast2 (a : Nat) : ((2 * a : Nat) : Int) = 2 * (a : Int) := by omega

/-- The list's cells. -/
def mkF (sl : Nat → Int) (us : Nat → Bool) (vs : Nat → ByteArray) (i c : Nat) : Value := if c = 0 then .int .i64 (sl i) else if c = 1 then .bool (us i) else .string (vs i)

set_option maxRecDepth 4000 in
set_option maxHeartbeats 3200000 in
theorem core (ad : Option Addr) (len cap : Nat) (sl : Nat → Int) (us : Nat → Bool) (vs : Nat → ByteArray) (w : World) (hl : len ≤ 140737488355328) (hr : IsRow w ad len 3 (mkF sl us vs)) :
    Calls Try.prog 3 #[.slice ad len cap] w fun e w' => e = .returned (.bool true) ∧ Below w.heap.size w w' := by
  have HRow := hide hr
  clear hr
  go_enter Try.func3, Try.ntmps3
  go_wp2_with fail
  refine (awake_any _).mono ?_
  rintro e w1 ⟨rfl, hb1⟩
  by_cases h300 : 300 < len
  · have i0 : (300 : Int) < (len : Int) := by omega
    go_wp2_with fail
    refine (awake_any _).mono ?_
    rintro e w2 ⟨rfl, hb2⟩
    have d2 := hb1.trans (hb2.mono hb1.size)
    clear hb1 hb2
    go_wp2
    go_ret
    exact ⟨rfl, d2⟩
  · have i0 : ¬ (300 : Int) < (len : Int) := by omega
    have C0 : Hid (CK w w1.heap.size [] Pg.zero (.slice none 0 0) (w1.alloc (.cells (pgA Pg.zero) 29)) []) :=
      ⟨heap_alloc_new w1 _, World.ownsRow_nil _ _ _ _, hb1.alloc hb1.size _, hb1.size, trivial⟩
    go_wp2
    generalize w1.heap.size = g at *
    go_loopw [25, 4] (fun v25 v4 wr => ∃ (j : Nat) (rs : List Ch), j ≤ len ∧ v25 = .int .i64 j ∧ rs.length ≤ j ∧ ChOk rs ∧ CK w g rs (chP rs) v4 wr []) (fun v25 _ _ => len - (intOf v25).toNat)
    case atStart => exact ⟨0, [], Nat.zero_le _, rfl, Nat.le_refl _, trivial, C0.out⟩
    case round =>
      obtain ⟨j, rs, hj, rfl, hrs, hok, hck⟩ := hrel
      clear C0
      have H1 := hide hck
      clear hck
      by_cases hlt : j < len
      · obtain ⟨bk, off, rfl, hbk, hcell⟩ := (HRow.out.below (Nat.le_refl _) H1.out.2.2.1) (by omega)
        have h0 : wr.cell? ⟨bk, off + j * 3, none⟩ = some (.int .i64 (sl j)) := by have h := hcell j 0 hlt (by omega); rwa [Nat.add_zero] at h
        have h1 : wr.cell? ⟨bk, off + j * 3 + 1, none⟩ = some (.bool (us j)) := by have h := hcell j 1 hlt (by omega); rwa [← Nat.add_assoc] at h
        have h2 : wr.cell? ⟨bk, off + j * 3 + 2, none⟩ = some (.string (vs j)) := by have h := hcell j 2 hlt (by omega); rwa [← Nat.add_assoc] at h
        have hjI : (j : Int) < (len : Int) := by omega
        have hbw : bk < w.heap.size := by
          obtain ⟨b2, o2, e2, hb2, _⟩ := HRow.out (by omega)
          cases e2
          exact hb2
        clear hcell
        have HW := hide hbw
        have HBK := hide hbk
        generalize sl j = sj at *
        generalize us j = tu at *
        generalize vs j = tv at *
        by_cases hneg : sj < 0
        · go_wp2
          go_roundw
          case rel => exact ⟨j + 1, rs, by omega, by go_num, by omega, hok, H1.out⟩
          case measure => simp [intOf]; omega
        · by_cases hbig : 8 ≤ sj
          · go_wp2
            go_roundw
            case rel => exact ⟨j + 1, rs, by omega, by go_num, by omega, hok, H1.out⟩
            case measure => simp [intOf]; omega
          · obtain ⟨i, rfl⟩ := Int.eq_ofNat_of_zero_le (show 0 ≤ sj by omega)
            have hi8 : i < 8 := by omega
            have j8 : (i : Int) < 8 := by omega
            have HM := hide (ch_more rs hok (by omega) i hi8 tu tv)
            have HL := hide (ch_facts rs hok)
            have HO := hide (fun w => of_any 0 (i : Int) ((chP rs).u i) ((chP rs).s i) tu tv w)
            have HOK := hide hok
            have q1 := H1.out.1.used i hi8
            have q2 := H1.out.1.val i hi8
            clear hneg hbig hok hbw hbk
            generalize ef : (chP rs).u i = fu at *
            generalize eg : (chP rs).s i = fv at *
            generalize ofC 0 (i : Int) fu fv tu tv = c at *
            generalize ofE 0 (i : Int) fu fv tu tv = er at *
            rw [show chA c = #[.int .i64 c.k, .int .i64 c.pg, .int .i64 c.sl, .string c.o, .string c.n] from rfl] at HO
            have HOB : Hid (∀ k, u4.ownBlock = some k → k < wr.heap.size) := fun k hk => (H1.out.2.1.lt k hk).2
            have n0 : g < wr.heap.size := H1.out.1.lt
            have n00 : bk < wr.heap.size := HBK.out
            have n1 : ¬ wr.heap.size = bk := by omega
            have n2 : ¬ bk = wr.heap.size := by omega
            have n3 : ¬ wr.heap.size = g := by omega
            have n4 : ¬ g = wr.heap.size := by omega
            go_wp2_with fail
            go_region_held3 (fun x => x.cell? ⟨bk, off + j * 3, none⟩ = some (.int .i64 (i : Int)) ∧ x.cell? ⟨bk, off + j * 3 + 1, none⟩ = some (.bool tu) ∧ x.cell? ⟨bk, off + j * 3 + 2, none⟩ = some (.string tv) ∧ x.cell? ⟨g, 1 + i * 2, none⟩ = some (.bool fu) ∧ x.cell? ⟨g, 1 + i * 2 + 1, none⟩ = some (.string fv)) (go_keep)
              (first | (go_at_call 5; refine (HO.out _).mono ?_; rintro e w5 ⟨rfl, hb5⟩; first
                | (have HA : Hid (CK w g rs (chP rs) u4 w5 []) := H1.out.drew.later hb5; have k0 := (HA.out.2.2.1.cell HW.out).trans ((H1.out.2.2.1.cell HW.out).symm.trans h0); have k1 := (HA.out.2.2.1.cell HW.out).trans ((H1.out.2.2.1.cell HW.out).symm.trans h1); have k2 := (HA.out.2.2.1.cell HW.out).trans ((H1.out.2.2.1.cell HW.out).symm.trans h2); have k3 := HA.out.1.used i hi8; have k4 := HA.out.1.val i hi8; rw [ef] at k3; rw [eg] at k4)
                | (have HB : Hid (CK w g rs (chP rs) u4 w5 [(wr.heap.size, 34, chA Ch.zero)]) := CK.later (CK.drew (CK.more H1.out ((Below.refl wr.heap.size wr).alloc (Nat.le_refl _) _) (RowAt.new wr 34 (chA Ch.zero)))) hb5; have k0 := (HB.out.2.2.1.cell HW.out).trans ((H1.out.2.2.1.cell HW.out).symm.trans h0); have k1 := (HB.out.2.2.1.cell HW.out).trans ((H1.out.2.2.1.cell HW.out).symm.trans h1); have k2 := (HB.out.2.2.1.cell HW.out).trans ((H1.out.2.2.1.cell HW.out).symm.trans h2); have k3 := HB.out.1.used i hi8; have k4 := HB.out.1.val i hi8; rw [ef] at k3; rw [eg] at k4; have z0 := HB.out.2.2.2.2.1.cell 0 (.int .i64 0) rfl; have z1 := HB.out.2.2.2.2.1.cell 1 (.int .i64 0) rfl; have z2 := HB.out.2.2.2.2.1.cell 2 (.int .i64 0) rfl; have z3 := HB.out.2.2.2.2.1.cell 3 (.string ⟨#[]⟩) rfl; have z4 := HB.out.2.2.2.2.1.cell 4 (.string ⟨#[]⟩) rfl; have y0 := HB.out.2.2.2.2.1.free 0; have y1 := HB.out.2.2.2.2.1.free 1; have y2 := HB.out.2.2.2.2.1.free 2; have y3 := HB.out.2.2.2.2.1.free 3; have y4 := HB.out.2.2.2.2.1.free 4)))
            · have HN : Hid (CK w g rs (chP rs) u4 (w5.alloc (.cells #[.int .i64 c.k, .int .i64 c.pg, .int .i64 c.sl, .string c.o, .string c.n] 34)) [(w5.heap.size, 34, chA c)] ∧ g < w5.heap.size) := ⟨CK.more HA.out ((Below.refl w5.heap.size w5).alloc (Nat.le_refl _) _) (RowAt.new w5 34 (chA c)), HA.out.1.lt⟩
              clear HOB HA hb5 k0 k1 k2 k3 k4 q1 q2 h0 h1 h2 H1 HO n1 n2 n3 n4 n0 n00
              generalize w5.alloc (.cells #[.int .i64 c.k, .int .i64 c.pg, .int .i64 c.sl, .string c.o, .string c.n] 34) = x at HN ⊢
              generalize w5.heap.size = b at HN ⊢
              by_cases h0 : er = 0
              · subst h0
                have he := HM.out rfl
                have hll : (chP rs).l ≤ 300 := by rw [HL.out.1]; omega
                have HAp := hide (fun w => apply_any (chP rs) c ((chP rs).l + 1) w (by omega))
                rw [he, cast1] at HAp
                have HK2 : Hid (ChOk (c :: rs)) := ⟨he, HOK.out⟩
                have HE : Hid (appP (chP rs) c ((chP rs).l + 1) = chP (c :: rs)) := rfl
                have a0 := PgAt.lsn HN.out.1.1
                have ew : IntKind.u64.wrap (((chP rs).l : Int) + 1) = ((chP rs).l : Int) + 1 := by rw [IntKind.wrap_u64]; omega
                generalize appP (chP rs) c ((chP rs).l + 1) = P2 at *
                clear HM HL he
                generalize chP rs = P1 at *
                go_wp2_with (first | (refine wpList_load_page rfl (.tmp 3) rfl g rfl P1 HN.out.1.1 ?_) | (refine wpList_load_at rfl 34 (.tmp 6) rfl b rfl (chA c) HN.out.1.2.2.2.2.1 _ Try.underlying34 rfl infoCh ?_))
                refine (HAp.out _).mono ?_
                rintro e w7 ⟨rfl, hb7⟩
                have H7 := hide (And.intro (HN.out.1.later hb7) HN.out.2)
                clear HN hb7 HAp a0 ew
                go_wp2_with (refine wpList_store_page rfl (.tmp 8) (.tmp 79) rfl w7.heap.size Pg.zero P2 rfl rfl (show PgAt _ w7.heap.size Pg.zero from heap_alloc_new w7 _) ?_)
                intro w8 hP8 hk
                have H8 := hide (And.intro (CK.laid H7.out.1 (show RowAt w8 w7.heap.size 29 (pgA P2) from hP8) hk) H7.out.2)
                clear hP8 hk H7
                generalize w7.heap.size = g7 at *
                go_wp2_with (first | (refine wpList_load_page rfl (.tmp 8) rfl g7 rfl P2 H8.out.1.2.2.2.2.1 ?_) | (refine wpList_store_at rfl 29 (.tmp 3) (.tmp 83) rfl g (pgA P1) (pgA P2) rfl rfl H8.out.1.1 infoPg rfl (pgA_one _) ?_))
                intro w9 hr9 hk9 ho9
                have H9 := hide (And.intro (CK.put H8.out.1 hr9 hk9 ho9) (ho9 b _ _ (by have := H8.out.2; omega) H8.out.1.2.2.2.2.2.1))
                clear hr9 hk9 ho9 H8
                have hrs2 : rs.length ≤ 1000 := by omega
                have hbs : g + 1 ≤ w9.heap.size := H9.out.1.1.lt
                go_wp2_with (first | (refine wpList_load_at rfl 34 (.tmp 6) rfl b rfl #[.int .i64 c.k, .int .i64 c.pg, .int .i64 c.sl, .string c.o, .string c.n] H9.out.2 _ Try.underlying34 rfl infoCh ?_) | (refine wpList_append_ch _ rfl (.tmp 84) (.tmp 86) rfl (g + 1) u4 rs.length (flatC rs.reverse) rfl (own_later H9.out.1.2.1 ((Below.refl w9.heap.size w9).alloc (Nat.le_refl _) _)) w9.heap.size c rfl (RowAt.new w9 34 (chA c)) hrs2 (Nat.le_trans hbs (by simp)) ?_))
                intro v' w10 ho10 hg10
                have H10 := hide (CK.push (H9.out.1.later ((Below.refl w9.heap.size w9).alloc (Nat.le_refl _) _)) c ho10 hg10)
                clear ho10 hg10 H9
                go_wp2
                go_roundw
                case rel => exact ⟨j + 1, c :: rs, by omega, by go_num, by simp; omega, HK2.out, by rw [← HE.out]; exact H10.out⟩
                case measure => simp [intOf]; omega
              · have k0 : (er == 0) = false := by simpa using h0
                have k1 : (er != 0) = true := by simpa using h0
                have H2 := hide (CK.drop HN.out.1)
                clear HN HM HL
                go_wp2
                go_roundw
                case rel => exact ⟨j + 1, rs, by omega, by go_num, by omega, HOK.out, H2.out⟩
                case measure => simp [intOf]; omega
            · have HN : Hid (CK w g rs (chP rs) u4 (((((w5.setCell ⟨wr.heap.size, 0, none⟩ (.int .i64 c.k)).setCell ⟨wr.heap.size, 1, none⟩ (.int .i64 c.pg)).setCell ⟨wr.heap.size, 2, none⟩ (.int .i64 c.sl)).setCell ⟨wr.heap.size, 3, none⟩ (.string c.o)).setCell ⟨wr.heap.size, 4, none⟩ (.string c.n)) [(wr.heap.size, 34, chA c)] ∧ g < wr.heap.size) := ⟨CK.set5 HB.out n0 HOB.out c, n0⟩
              clear HOB HB hb5 k0 k1 k2 k3 k4 q1 q2 h0 h1 h2 H1 HO n1 n2 n3 n4 n0 n00 z0 z1 z2 z3 z4 y0 y1 y2 y3 y4
              generalize ((((w5.setCell ⟨wr.heap.size, 0, none⟩ (.int .i64 c.k)).setCell ⟨wr.heap.size, 1, none⟩ (.int .i64 c.pg)).setCell ⟨wr.heap.size, 2, none⟩ (.int .i64 c.sl)).setCell ⟨wr.heap.size, 3, none⟩ (.string c.o)).setCell ⟨wr.heap.size, 4, none⟩ (.string c.n) = x at HN ⊢
              generalize wr.heap.size = b at HN ⊢
              by_cases h0 : er = 0
              · subst h0
                have he := HM.out rfl
                have hll : (chP rs).l ≤ 300 := by rw [HL.out.1]; omega
                have HAp := hide (fun w => apply_any (chP rs) c ((chP rs).l + 1) w (by omega))
                rw [he, cast1] at HAp
                have HK2 : Hid (ChOk (c :: rs)) := ⟨he, HOK.out⟩
                have HE : Hid (appP (chP rs) c ((chP rs).l + 1) = chP (c :: rs)) := rfl
                have a0 := PgAt.lsn HN.out.1.1
                have ew : IntKind.u64.wrap (((chP rs).l : Int) + 1) = ((chP rs).l : Int) + 1 := by rw [IntKind.wrap_u64]; omega
                generalize appP (chP rs) c ((chP rs).l + 1) = P2 at *
                clear HM HL he
                generalize chP rs = P1 at *
                go_wp2_with (first | (refine wpList_load_page rfl (.tmp 3) rfl g rfl P1 HN.out.1.1 ?_) | (refine wpList_load_at rfl 34 (.tmp 6) rfl b rfl (chA c) HN.out.1.2.2.2.2.1 _ Try.underlying34 rfl infoCh ?_))
                refine (HAp.out _).mono ?_
                rintro e w7 ⟨rfl, hb7⟩
                have H7 := hide (And.intro (HN.out.1.later hb7) HN.out.2)
                clear HN hb7 HAp a0 ew
                go_wp2_with (refine wpList_store_page rfl (.tmp 8) (.tmp 79) rfl w7.heap.size Pg.zero P2 rfl rfl (show PgAt _ w7.heap.size Pg.zero from heap_alloc_new w7 _) ?_)
                intro w8 hP8 hk
                have H8 := hide (And.intro (CK.laid H7.out.1 (show RowAt w8 w7.heap.size 29 (pgA P2) from hP8) hk) H7.out.2)
                clear hP8 hk H7
                generalize w7.heap.size = g7 at *
                go_wp2_with (first | (refine wpList_load_page rfl (.tmp 8) rfl g7 rfl P2 H8.out.1.2.2.2.2.1 ?_) | (refine wpList_store_at rfl 29 (.tmp 3) (.tmp 83) rfl g (pgA P1) (pgA P2) rfl rfl H8.out.1.1 infoPg rfl (pgA_one _) ?_))
                intro w9 hr9 hk9 ho9
                have H9 := hide (And.intro (CK.put H8.out.1 hr9 hk9 ho9) (ho9 b _ _ (by have := H8.out.2; omega) H8.out.1.2.2.2.2.2.1))
                clear hr9 hk9 ho9 H8
                have hrs2 : rs.length ≤ 1000 := by omega
                have hbs : g + 1 ≤ w9.heap.size := H9.out.1.1.lt
                go_wp2_with (first | (refine wpList_load_at rfl 34 (.tmp 6) rfl b rfl #[.int .i64 c.k, .int .i64 c.pg, .int .i64 c.sl, .string c.o, .string c.n] H9.out.2 _ Try.underlying34 rfl infoCh ?_) | (refine wpList_append_ch _ rfl (.tmp 84) (.tmp 86) rfl (g + 1) u4 rs.length (flatC rs.reverse) rfl (own_later H9.out.1.2.1 ((Below.refl w9.heap.size w9).alloc (Nat.le_refl _) _)) w9.heap.size c rfl (RowAt.new w9 34 (chA c)) hrs2 (Nat.le_trans hbs (by simp)) ?_))
                intro v' w10 ho10 hg10
                have H10 := hide (CK.push (H9.out.1.later ((Below.refl w9.heap.size w9).alloc (Nat.le_refl _) _)) c ho10 hg10)
                clear ho10 hg10 H9
                go_wp2
                go_roundw
                case rel => exact ⟨j + 1, c :: rs, by omega, by go_num, by simp; omega, HK2.out, by rw [← HE.out]; exact H10.out⟩
                case measure => simp [intOf]; omega
              · have k0 : (er == 0) = false := by simpa using h0
                have k1 : (er != 0) = true := by simpa using h0
                have H2 := hide (CK.drop HN.out.1)
                clear HN HM HL
                go_wp2
                go_roundw
                case rel => exact ⟨j + 1, rs, by omega, by go_num, by omega, HOK.out, H2.out⟩
                case measure => simp [intOf]; omega
      · obtain ⟨a4, cap4, rfl⟩ : ∃ a4 cap4, u4 = .slice a4 rs.length cap4 := by
          rcases H1.out.2.1.2 with ⟨h2, h3⟩ | ⟨b, cap, cur, h2, _⟩
          · exact ⟨none, 0, by rw [h2, h3]⟩
          · exact ⟨_, cap, h2⟩
        have hk300 : rs.length ≤ 300 := by omega
        have HF := hide (ch_facts rs hok)
        have HOK := hide hok
        have hjl : ¬ (j : Int) < (len : Int) := by omega
        clear hok HRow hlt hj hrs
        obtain ⟨n, hn⟩ : ∃ n, n = rs.length := ⟨_, rfl⟩
        have C2 : Hid (∃ (dn r : List Ch) (q : Pg), rs = dn ++ r ∧ Value.int .i64 ((n : Int) - 1) = .int .i64 ((r.length : Int) - 1) ∧ CellsAs q (chP r) ∧ q.right ∧ q.l = n + dn.length ∧ ChOk r ∧ CK w g rs q (.slice a4 n cap4) wr []) := ⟨[], rs, chP rs, rfl, by rw [hn], fun i _ => ⟨rfl, rfl⟩, HF.out.2, by rw [HF.out.1, hn]; rfl, HOK.out, by rw [hn]; exact H1.out⟩
        rw [← hn] at hk300 ⊢
        have HNN := hide hn
        clear H1 HF HOK hn
        have e0 : IntKind.i64.wrap ((n : Int) - 1) = (n : Int) - 1 := by rw [IntKind.wrap_i64]; omega
        go_wp2
        go_loopw [10] (fun v10 wq => ∃ (dn r : List Ch) (q : Pg), rs = dn ++ r ∧ v10 = .int .i64 ((r.length : Int) - 1) ∧ CellsAs q (chP r) ∧ q.right ∧ q.l = n + dn.length ∧ ChOk r ∧ CK w g rs q (.slice a4 n cap4) wq []) (fun v10 _ => (intOf v10 + 1).toNat)
        case atStart => exact C2.out
        case round =>
          obtain ⟨dn, r, q, hdr, rfl, hcs, hqr, hql, hok, hck⟩ := hrel
          clear C2
          have H2 := hide hck
          clear hck
          cases r with
          | nil =>
            have e2 : IntKind.i64.wrap (2 * (n : Int)) = 2 * (n : Int) := by rw [IntKind.wrap_i64]; omega
            have e3 : IntKind.u64.wrap (2 * (n : Int)) = 2 * (n : Int) := by rw [IntKind.wrap_u64]; omega
            have hdn : dn.length = n := by rw [HNN.out, hdr, List.append_nil]
            have hz : (⟨2 * n, fun _ => false, fun _ => ⟨#[]⟩⟩ : Pg).fits := ⟨by show 2 * n < 18446744073709551616; omega, fun i _ => by show (0 : Nat) ≤ maxLen; omega⟩
            have HEQ := hide (fun x => run_page_eql q ⟨2 * n, fun _ => false, fun _ => ⟨#[]⟩⟩ hqr.fits hz x)
            rw [decide_eq_true (show q.same ⟨2 * n, fun _ => false, fun _ => ⟨#[]⟩⟩ from ⟨by show q.l = 2 * n; omega, fun i hi => hcs i hi⟩)] at HEQ
            have HGU := hide (fun x => page_guard .eql (.tmp 120) (.tmp 125) q ⟨2 * n, fun _ => false, fun _ => ⟨#[]⟩⟩ x)
            have ez : pgA ⟨2 * n, fun _ => false, fun _ => ⟨#[]⟩⟩ = #[.int .u64 (2 * (n : Int)), .bool false, .string ⟨#[]⟩, .bool false, .string ⟨#[]⟩, .bool false, .string ⟨#[]⟩, .bool false, .string ⟨#[]⟩, .bool false, .string ⟨#[]⟩, .bool false, .string ⟨#[]⟩, .bool false, .string ⟨#[]⟩, .bool false, .string ⟨#[]⟩] := by
              rw [← cast2]
              rfl
            rw [ez] at HEQ HGU
            have d2 := H2.out.2.2.1
            clear hcs hqr hql hok hdr HNN hdn hz ez
            simp only [List.length_nil]
            go_wp2_with (first | (refine wpList_load_page rfl (.tmp 3) rfl g rfl q H2.out.1 ?_) | (refine wpList_binop rfl .eql 29 29 (.tmp 120) (.tmp 125) rfl (.agg (pgA q)) (.agg #[.int .u64 (2 * (n : Int)), .bool false, .string ⟨#[]⟩, .bool false, .string ⟨#[]⟩, .bool false, .string ⟨#[]⟩, .bool false, .string ⟨#[]⟩, .bool false, .string ⟨#[]⟩, .bool false, .string ⟨#[]⟩, .bool false, .string ⟨#[]⟩, .bool false, .string ⟨#[]⟩]) (.bool true) rfl rfl (HGU.out _) (HEQ.out _) ?_))
            go_ret
            exact ⟨rfl, d2⟩
          | cons c r =>
            have el : (((c :: r).length : Nat) : Int) - 1 = (r.length : Int) := by rw [List.length_cons, cast1]; omega
            rw [el]
            have hln : dn.length + (r.length + 1) = n := by rw [HNN.out, hdr, List.length_append, List.length_cons]
            have H3 := H2.out
            rw [hdr] at H3
            obtain ⟨b, capb, hv, hcapb, hrange⟩ := H3.at
            obtain ⟨rfl, hx, rfl⟩ : a4 = some ⟨b, 0, none⟩ ∧ n = _ ∧ cap4 = capb := by simpa using hv
            obtain ⟨hi0, hb0, hb1', hb2, hb3⟩ := ch_back (chP r) q c ((chP r).l + 1) hok.1 hqr hcs (by unfold maxP; omega)
            have HI := hide (fun w => inverse_any c w)
            rw [hi0] at HI
            have HAp := hide (fun w => apply_any q (invC c) (q.l + 1) w (by omega))
            rw [hb0, cast1] at HAp
            have ew : IntKind.u64.wrap ((q.l : Int) + 1) = (q.l : Int) + 1 := by rw [IntKind.wrap_u64]; omega
            have HRG := hide hrange
            have HBK := hide (And.intro hb1' (And.intro hb2 hb3))
            have HOK := hide hok.2
            have HDR := hide hdr
            have HQL := hide hql
            have i1 : (r.length : Int) < (n : Int) := by omega
            have i2 : (0 : Int) ≤ (r.length : Int) := by omega
            have i3 : IntKind.i64.wrap ((r.length : Int) - 1) = (r.length : Int) - 1 := by rw [IntKind.wrap_i64]; omega
            have HLN := hide hln
            clear hx hln
            clear H3 hv hcapb hrange hi0 hb0 hb1' hb2 hb3 hok hcs hqr hql hdr el
            generalize invC c = d at *
            generalize appP q d (q.l + 1) = q2 at *
            generalize hm : r.length = m at *
            have HMM := hide hm
            clear hm
            have a0 := PgAt.lsn H2.out.1
            go_wp2_with (refine wpList_load_ch rfl (.tmp 99) rfl b (m * 5) c rfl HRG.out ?_)
            refine (HI.out _).mono ?_
            rintro e w4 ⟨rfl, hb4⟩
            have H4 := hide (H2.out.later hb4)
            clear H2 hb4 HI HRG a0
            go_wp2_with (refine wpList_store_at rfl 34 (.tmp 11) (.tmp 102) rfl w4.heap.size (chA Ch.zero) (chA d) rfl rfl (RowAt.new w4 34 (chA Ch.zero)) infoCh rfl (chA_one _) ?_)
            intro w5 hr5 hk5 _
            have H5 := hide (CK.laid H4.out hr5 hk5)
            clear hr5 hk5 H4
            generalize w4.heap.size = g4 at *
            have a0 := PgAt.lsn H5.out.1
            go_wp2_with (first | (refine wpList_load_page rfl (.tmp 3) rfl g rfl q H5.out.1 ?_) | (refine wpList_load_at rfl 34 (.tmp 11) rfl g4 rfl (chA d) H5.out.2.2.2.2.1 _ Try.underlying34 rfl infoCh ?_))
            refine (HAp.out _).mono ?_
            rintro e w6 ⟨rfl, hb6⟩
            have H6 := hide (H5.out.later hb6)
            clear H5 hb6 HAp a0
            go_wp2_with (refine wpList_store_page rfl (.tmp 13) (.tmp 111) rfl w6.heap.size Pg.zero q2 rfl rfl (show PgAt _ w6.heap.size Pg.zero from heap_alloc_new w6 _) ?_)
            intro w7 hP7 hk7
            have H7 := hide (CK.laid H6.out (show RowAt w7 w6.heap.size 29 (pgA q2) from hP7) hk7)
            clear hP7 hk7 H6
            generalize w6.heap.size = g6 at *
            go_wp2_with (first | (refine wpList_load_page rfl (.tmp 13) rfl g6 rfl q2 H7.out.2.2.2.2.1 ?_) | (refine wpList_store_at rfl 29 (.tmp 3) (.tmp 119) rfl g (pgA q) (pgA q2) rfl rfl H7.out.1 infoPg rfl (pgA_one _) ?_))
            intro w9 hr9 hk9 ho9
            have H9 := hide (CK.put H7.out hr9 hk9 ho9)
            clear hr9 hk9 ho9 H7
            go_wp2
            go_roundw
            case rel => exact ⟨dn ++ [c], r, q2, by rw [HDR.out]; simp, by rw [HMM.out], HBK.out.1, HBK.out.2.2, by rw [HBK.out.2.1, HQL.out, List.length_append, List.length_singleton]; omega, HOK.out, H9.out⟩
            case measure =>
              show ((m : Int) - 1 + 1).toNat < ((m : Int) + 1).toNat
              omega

theorem walk (m : Option Addr × Nat × Nat × (Nat → Int) × (Nat → Bool) × (Nat → ByteArray)) (w : World) (h1 : m.2.1 ≤ 140737488355328) (h2 : IsRow w m.1 m.2.1 3 (fun i c => if c = 0 then .int .i64 (m.2.2.2.1 i) else if c = 1 then .bool (m.2.2.2.2.1 i) else .string (m.2.2.2.2.2 i))) :
    Calls Try.prog 3 #[.slice m.1 m.2.1 m.2.2.1] w fun e w' => e = .returned (.bool true) ∧ Below w.heap.size w w' := core _ _ _ _ _ _ w h1 h2
end Go.Proofs.Ytcehppekcbbaaab.changeChains
