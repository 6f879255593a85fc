/-
  Package cond: reckon, the walk.
  Package cond: Eval, for whatever operands are.
-/
import Derived.Test.YtfghfohlcofdpaaGreatDoorBa
namespace Go.Proofs.YtfghfohlcofdpaaGreatDoor
open Go Go.RowKit
set_option linter.unusedVariables false
set_option linter.unusedSimpArgs false

/-- What operand tells. -/
def OpC (opM : Gt → Vl × Bool) (t : Gt) (W : World) : Prop := okV (opM t).1 ∧ Calls Tryz.prog 14 #[t.v] W fun e w' => e = .returned (.tuple #[(opM t).1.v, .bool (opM t).2]) ∧ Below W.heap.size W w'
theorem Fk.drew {R : Nat} {W W' : World} (h : Fk R W W') : Fk R W W'.drew := ⟨⟨h.below.os, h.below.tape, h.below.output, h.below.size, h.below.block⟩, h.keep⟩
theorem drewB {B : Nat} {W W' : World} (h : Below B W W') : Below B W W'.drew := ⟨h.os, h.tape, h.output, h.size, h.block⟩
/-- What lies when a round behind an operand begins. -/
structure Ri (w W0 wr : World) (opM : Gt → Vl × Bool) (l : List Gt) (Z : Vl × Bool) (j M : Nat) (vv : Value) (st : List Wt) (und : Bool) (v : Vl) (ok : Bool) : Prop where
  ro : Ro w W0 wr opM l Z j vv st und (some (v, ok))
  box : VBox wr M (.int .u64 v.b) v.u
  new : W0.heap.size ≤ M
  okv : okV v
set_option maxRecDepth 100000 in
set_option maxHeartbeats 16000000 in
theorem reckon_any (opM : Gt → Vl × Bool) (p : Option Addr) (cap : Nat) (l : List Gt) (w : World) (hl : l.length ≤ 1000000) (hT : TkG w.heap.size w (.slice p l.length cap) l)
    (hop : ∀ t ∈ l, ∀ W, Below w.heap.size w W → OpC opM t W) :
    Calls Tryz.prog 10 #[.slice p l.length cap] w fun e w' => e = .returned (.tuple #[(reckM opM l [] false none).1.v, .bool (reckM opM l [] false none).2]) ∧ Below w.heap.size w w' := by
  have b1 := below_new w (.cells #[.int .u64 0, .bool false] 37)
  have z1 : (w.alloc (.cells #[.int .u64 0, .bool false] 37)).heap.size = w.heap.size + 1 := by simp
  have b2 := below_new (w.alloc (.cells #[.int .u64 0, .bool false] 37)) (.cells #[.slice none 0 0, .int .i64 0, .bool false] 53)
  have HB0 : Hid (Below w.heap.size w ((w.alloc (.cells #[.int .u64 0, .bool false] 37)).alloc (.cells #[.slice none 0 0, .int .i64 0, .bool false] 53))) := b1.trans (b2.mono (by omega))
  have hzz : ((w.alloc (.cells #[.int .u64 0, .bool false] 37)).alloc (.cells #[.slice none 0 0, .int .i64 0, .bool false] 53)).heap.size = w.heap.size + 2 := by simp
  have HRO : Hid (Ro w ((w.alloc (.cells #[.int .u64 0, .bool false] 37)).alloc (.cells #[.slice none 0 0, .int .i64 0, .bool false] 53)) ((w.alloc (.cells #[.int .u64 0, .bool false] 37)).alloc (.cells #[.slice none 0 0, .int .i64 0, .bool false] 53)) opM l (reckM opM l [] false none) 0 (.slice none 0 0) [] false none) := by
    refine ⟨⟨?_, World.ownsRow_nil _ _ _ _⟩, ?_, Fk.of (Below.refl _ _) (by omega), (fun y hy => by cases hy), Nat.le_refl _, rfl⟩
    · have a := World.alloc_heap_new (w.alloc (.cells #[.int .u64 0, .bool false] 37)) (.cells #[.slice none 0 0, .int .i64 0, .bool false] 53)
      rw [z1] at a
      exact a
    · exact (b2.block _ (by omega)).trans (World.alloc_heap_new w _)
  generalize reckM opM l [] false none = Z at *
  have HT := hide hT
  have HOP := hide hop
  clear b1 b2 z1 hT hop
  go_enter Tryz.func10, Tryz.ntmps10
  go_wp2
  go_step3
  go_wp2
  go_step3
  go_wp2
  generalize (w.alloc (.cells #[.int .u64 0, .bool false] 37)).alloc (.cells #[.slice none 0 0, .int .i64 0, .bool false] 53) = W0 at *
  go_loopg [5] l.length (fun gk vi wr => ∃ (i : Nat) (vv : Value) (st : List Wt) (und : Bool), gk = l.length - i ∧ vi = .int .i64 i ∧ i ≤ l.length ∧ Hid (Ro w W0 wr opM l Z i vv st und none))
  case atStart => exact ⟨0, _, [], false, rfl, rfl, by omega, HRO⟩
  case round =>
    clear HRO
    obtain ⟨i, vv, st, und, rfl, rfl, hi, HRO⟩ := hrel
    have hR0 : w.heap.size + 1 ≤ W0.heap.size := by omega
    have HB1 := hide ((unhide HB0).trans ((unhide HRO).fk.below.mono (by omega)))
    obtain ⟨q0, q1⟩ := (unhide HRO).res.two
    have y0 := (unhide HRO).res.frozen 0
    have y1 := (unhide HRO).res.frozen 1
    by_cases hlt : i < l.length
    · have i1 : (i : Int) < (l.length : Int) := by omega
      obtain ⟨g, o, rfl, hg, six⟩ := (unhide HT).at i hlt
      have HSX := hide (fun W (hb : Below w.heap.size w W) => six_keep hb hg six)
      have hdrop : l.drop i = l[i] :: l.drop (i + 1) := List.drop_eq_getElem_cons hlt
      have his := (unhide HRO).is
      rw [hdrop, reckM] at his
      have HA := hide (ahead_any (w.heap.size + 1) vv l[i] st und wr (unhide HRO).rk (by have := (unhide HRO).len; omega))
      have HO := hide (fun W hb => unhide HOP l[i] (List.getElem_mem hlt) W hb)
      have HAF := hide (aheadM_false (t := l[i]) (st := st))
      have HAL := hide (aheadM_len l[i] st)
      have HAO := hide (aheadM_ok l[i] (unhide HRO).oks)
      generalize l[i] = t at *
      have HIS := hide his
      obtain ⟨s0, s1, s2, s3, s4, s5⟩ := unhide HSX wr (unhide HB1)
      generalize hA' : aheadM t st = A at *
      obtain ⟨ab, ast⟩ := A
      obtain ⟨kind, sg, f, line, sp, fi⟩ := t
      simp only [Gt.v] at *
      clear hdrop his six hA'
      cases ab
      · obtain rfl : ast = st := unhide HAF rfl
        simp only [Bool.false_eq_true, if_false] at HIS
        go_wp2_with fail
        refine (unhide HA).mono ?_
        rintro e W1 ⟨rfl, ⟨v1, hk1⟩, hf1⟩
        have HB2 := hide ((unhide HB1).trans (hf1.below.mono (Nat.le_succ _)))
        obtain ⟨hov, hoc⟩ := unhide HO W1 (unhide HB2)
        have HOC := hide hoc
        have HOV := hide hov
        generalize opM ⟨kind, sg, f, line, sp, fi⟩ = OV at *
        obtain ⟨⟨ob, ou⟩, ook⟩ := OV
        simp only [Vl.v] at HOC HOV HIS
        have HRes1 := hide ((unhide HRO).res.fk hf1)
        have HK1 := hide hk1
        have HF1 := hide ((unhide HRO).fk.trans hf1)
        clear s0 s1 s2 s3 s4 s5 q0 q1 y0 y1
        obtain ⟨s0, s1, s2, s3, s4, s5⟩ := unhide HSX W1 (unhide HB2)
        clear hk1 hf1 hov hoc HA HO HAF HAL HAO
        go_wp2_with fail
        refine (unhide HOC).mono ?_
        rintro e W2 ⟨rfl, hb2⟩
        have hal := below_new W2 (.cells #[.int .u64 ob, .bool ou] 37)
        have HRI : Hid (Ri w W0 (W2.alloc (.cells #[.int .u64 ob, .bool ou] 37)) opM l Z (i + 1) W2.heap.size v1 ast und ⟨ob, ou⟩ ook) := by
          have k2 := (unhide HK1).next hb2
          have r2 := (unhide HRes1).below hb2 (unhide HRes1).lt
          refine ⟨⟨k2.next hal, r2.below hal r2.lt, ((unhide HF1).trans (Fk.of hb2 (Nat.le_of_lt (unhide HK1).lt))).trans (Fk.of hal (Nat.le_of_lt k2.lt)), (unhide HRO).oks, Nat.le_succ_of_le (unhide HRO).len, unhide HIS⟩, World.alloc_heap_new W2 _, Nat.le_trans (unhide HF1).below.size hb2.size, unhide HOV⟩
        clear hal hb2 HOC HOV HIS HRes1 HK1 HF1 HRO HB1 HB2 HSX s0 s1 s2 s3 s4 s5
        go_wp2
        generalize W2.alloc (.cells #[.int .u64 ob, .bool ou] 37) = W3 at *
        generalize W2.heap.size = M at *
        go_loopg [5, 7] (l.length - (i + 1)) (fun gk vi vok wr => ∃ (j : Nat) (vv : Value) (st : List Wt) (und : Bool) (v : Vl) (ok : Bool), gk = l.length - j ∧ vi = .int .i64 j ∧ vok = .bool ok ∧ j ≤ l.length ∧ i < j ∧ Hid (Ri w W0 wr opM l Z j M vv st und v ok))
        case atStart => exact ⟨i + 1, v1, ast, und, ⟨ob, ou⟩, ook, rfl, by go_num, rfl, by omega, by omega, HRI⟩
        case round =>
          clear HRI
          obtain ⟨j, vv, st, und, v, ok, rfl, rfl, rfl, hj, hij, HRI⟩ := hrel
          have HB3 := hide ((unhide HB0).trans ((unhide HRI).ro.fk.below.mono (by omega)))
          obtain ⟨v0, v1⟩ := (unhide HRI).box.two
          have f0 := (unhide HRI).box.frozen 0
          have f1 := (unhide HRI).box.frozen 1
          have hMn := (unhide HRI).new
          by_cases hgo : ok = true ∧ j < l.length
          · obtain ⟨rfl, hjl⟩ := hgo
            have j1 : (j : Int) < (l.length : Int) := by omega
            obtain ⟨g', o', hgo', _, six⟩ := (unhide HT).at j hjl
            obtain ⟨rfl, rfl⟩ : g = g' ∧ o = o' := by simpa using hgo'
            have HSX := hide (fun W (hb : Below w.heap.size w W) => six_keep hb hg six)
            have hdrop : l.drop j = l[j] :: l.drop (j + 1) := List.drop_eq_getElem_cons hjl
            have his := (unhide HRI).ro.is
            rw [hdrop, reckM, if_pos rfl] at his
            have hlen := (unhide HRI).ro.len
            have hk0 : Rk wr.drew (w.heap.size + 1) vv st und := ⟨(unhide HRI).ro.rk.box, (unhide HRI).ro.rk.row⟩
            have HBH := hide (behind_any (w.heap.size + 1) vv l[j] v st und wr.drew hk0 (unhide HRI).okv (unhide HRI).ro.oks (by omega))
            have HBO := hide (behindM_ok l[j] und (unhide HRI).okv (unhide HRI).ro.oks)
            have HBL := hide (behindM_len l[j] st und v)
            have HCL := hide (fun st und => closeM_len l[j] st und v)
            have HCO := hide (fun st und (h : ∀ y ∈ st, okV y.a) => closeM_ok l[j] (st := st) und (unhide HRI).okv h)
            have HCC := hide (fun vv' st und W (hk : Rk W (w.heap.size + 1) vv' st und) (h : ∀ y ∈ st, okV y.a) => close_any (w.heap.size + 1) vv' l[j] v st und W hk (unhide HRI).okv h)
            generalize l[j] = t at *
            have HIS := hide his
            obtain ⟨s0, s1, s2, s3, s4, s5⟩ := unhide HSX wr (unhide HB3)
            obtain ⟨kind, sg, f, line, sp, fi⟩ := t
            obtain ⟨vb, vu⟩ := v
            simp only [Gt.v, Vl.v] at *
            generalize behindM ⟨kind, sg, f, line, sp, fi⟩ st und ⟨vb, vu⟩ = BH at *
            obtain ⟨bb, bst, bund⟩ := BH
            simp only at HBH HBO HBL HIS
            clear hdrop his six hk0 hgo'
            cases bb
            · simp only [Bool.false_eq_true, if_false] at HIS
              go_upto_region 10 with fail
              go_region_with (
                (go_at_call 15
                 refine (unhide HBH).mono ?_
                 rintro e W4 ⟨rfl, ⟨v4, hk4⟩, hf4⟩
                 have HK4 := hide hk4
                 have HF4 := hide hf4
                 clear hk4 hf4))
              all_goals (
                have HB4 : Hid (Below w.heap.size w W4) := Below.trans (b := wr.drew) ⟨(unhide HB3).os, (unhide HB3).tape, (unhide HB3).output, (unhide HB3).size, (unhide HB3).block⟩ ((unhide HF4).below.mono (Nat.le_succ _))
                have hv4 : VBox W4 M (.int .u64 vb) vu := VBox.fk (W := wr.drew) (unhide HRI).box (unhide HF4)
                have hr4 : VBox W4 w.heap.size (.int .u64 0) false := VBox.fk (W := wr.drew) (unhide HRI).ro.res (unhide HF4)
                have HFF := hide ((unhide HRI).ro.fk.drew.trans (unhide HF4))
                have HC := hide (unhide HCC v4 bst bund W4.drew ⟨(unhide HK4).box, (unhide HK4).row⟩ (unhide HBO))
                have HCL2 := hide (unhide HCL bst bund)
                have HCO2 := hide (unhide HCO bst bund (unhide HBO))
                generalize closeM ⟨kind, sg, f, line, sp, fi⟩ bst bund ⟨vb, vu⟩ = CL at *
                obtain ⟨⟨cb, cu⟩, cok, cst, cund⟩ := CL
                simp only at HC HCL2 HCO2 HIS
                clear s0 s1 s2 s3 s4 s5 v0 v1 f0 f1
                obtain ⟨s0, s1, s2, s3, s4, s5⟩ := unhide HSX W4 (unhide HB4)
                obtain ⟨v0, v1⟩ := hv4.two
                have HV4 := hide hv4
                have HR4 := hide hr4
                clear hv4 hr4 HBH HCC HCL HCO HSX
                go_upto_region 11 with fail
                go_region_with (
                  (go_at_call 16
                   refine (unhide HC).mono ?_
                   rintro e W5 ⟨rfl, ⟨v5, hk5⟩, hf5⟩
                   have hv5 : VBox W5 M (.int .u64 vb) vu := VBox.fk (W := W4.drew) (unhide HV4) hf5
                   have hr5 : VBox W5 w.heap.size (.int .u64 0) false := VBox.fk (W := W4.drew) (unhide HR4) hf5
                   obtain ⟨w0, w1⟩ := hv5.two
                   have g0 := hv5.frozen 0
                   have g1 := hv5.frozen 1
                   have HRI5 : Hid (Ri w W0 (put2 W5 M (.int .u64 cb) cu) opM l Z (j + 1) M v5 cst cund ⟨cb, cu⟩ cok) := by
                     refine ⟨⟨hk5.putV hv5 _ _, (hr5.setCell (by omega) _).setCell (by omega) _, ((unhide HFF).drew.trans hf5).putV (by omega) hMn _ _, (unhide HCO2).2, ?_, unhide HIS⟩, hv5.put _ _, (unhide HRI).new, (unhide HCO2).1⟩
                     have h1 := unhide HCL2
                     have h2 := unhide HBL
                     omega
                   simp only [put2] at HRI5
                   clear hk5 hf5 hv5 hr5))
                all_goals (
                  clear v0 v1 w0 w1 g0 g1 s0 s1 s2 s3 s4 s5
                  go_wp2
                  go_roundg (l.length - (j + 1))
                  case measure => omega
                  case rel => exact ⟨j + 1, v5, cst, cund, ⟨cb, cu⟩, cok, rfl, by go_num, rfl, by omega, by omega, HRI5⟩))
            · simp only [if_true] at HIS
              go_upto_region 10 with fail
              go_region_with (
                (go_at_call 15
                 refine (unhide HBH).mono ?_
                 rintro e W4 ⟨rfl, ⟨v4, hk4⟩, hf4⟩
                 have HK4 := hide hk4
                 have HF4 := hide hf4
                 clear hk4 hf4))
              all_goals (
                have HRO4 : Hid (Ro w W0 W4 opM l Z (j + 1) v4 bst bund none) := by
                  refine ⟨unhide HK4, VBox.fk (W := wr.drew) (unhide HRI).ro.res (unhide HF4), (unhide HRI).ro.fk.drew.trans (unhide HF4), unhide HBO, ?_, unhide HIS⟩
                  have h2 := unhide HBL
                  omega
                clear v0 v1 f0 f1 s0 s1 s2 s3 s4 s5 HK4 HF4 HBH HCC HCL HCO HSX HIS HBO HBL HRI HB3
                go_wp2
                go_roundg (l.length - (j + 1))
                case measure => omega
                case rel => exact ⟨j + 1, v4, bst, bund, rfl, by go_num, by omega, HRO4⟩)
          · have HZ : Hid (finM st und v ok = Z) := by
              have his := (unhide HRI).ro.is
              cases hd : l.drop j with
              | nil => rw [hd, reckM] at his; exact his
              | cons t r =>
                rw [hd, reckM] at his
                have hjl : j < l.length := by
                  rcases Nat.lt_or_ge j l.length with h | h
                  · exact h
                  · rw [List.drop_eq_nil_of_le h] at hd; cases hd
                cases ok
                · rw [if_neg (by decide)] at his; exact his
                · exact absurd ⟨rfl, hjl⟩ hgo
            have HST := hide (settle_any (w.heap.size + 1) vv v 1 st und wr (unhide HRI).ro.rk (unhide HRI).okv (unhide HRI).ro.oks)
            rw [Hid, finM] at HZ
            obtain ⟨vb, vu⟩ := v
            simp only [Vl.v] at v0 v1 HST
            generalize settleM 1 st und ⟨vb, vu⟩ = S at *
            obtain ⟨st6, und6, ⟨sb, su⟩⟩ := S
            simp only at HST HZ
            have hif : (ok && decide ((j : Int) < (l.length : Int))) = false := by
              cases ok
              · rfl
              · have : ¬ (j : Int) < (l.length : Int) := fun h => hgo ⟨rfl, by omega⟩
                simp [this]
            have hcase : ok = false ∨ (ok = true ∧ ¬ (j : Int) < (l.length : Int)) := by
              cases ok
              · exact .inl rfl
              · exact .inr ⟨rfl, fun h => hgo ⟨rfl, by omega⟩⟩
            clear hif hgo
            rcases hcase with rfl | ⟨rfl, j1⟩
            · go_wp2_with fail
              refine (unhide HST).mono ?_
              rintro e W6 ⟨rfl, ⟨v6, hk6⟩, hf6⟩
              have hv6 := (unhide HRI).box.fk hf6
              have hr6 := (unhide HRI).ro.res.fk hf6
              clear v0 v1 f0 f1
              obtain ⟨v0, v1⟩ := hv6.two
              have f0 := hv6.frozen 0
              have f1 := hv6.frozen 1
              have HK7 := hide (hk6.putV hv6 (.int .u64 sb) su)
              have HV7 := hide (hv6.put (.int .u64 sb) su)
              have HR7 := hide ((hr6.setCell (b' := M) (i := 0) (by omega) (.int .u64 sb)).setCell (b' := M) (i := 1) (by omega) (.bool su))
              have HB7 : Hid (Below w.heap.size w (put2 W6 M (.int .u64 sb) su)) := below_put2 ((unhide HB3).trans (hf6.below.mono (Nat.le_succ _))) (by omega) _ _
              simp only [put2] at HK7 HV7 HB7
              clear hv6 hr6 hk6 hf6 HST HRI HB3
              go_upto_region 13 with fail
              clear v0 v1 f0 f1
              generalize (W6.setCell ⟨M, 0, none⟩ (.int .u64 sb)).setCell ⟨M, 1, none⟩ (.bool su) = W7 at *
              obtain ⟨p6, cp6, hvp⟩ := ownsRow_slice (unhide HK7).row
              subst hvp
              obtain ⟨c0, c1, c2⟩ := (unhide HK7).three
              obtain ⟨v0, v1⟩ := (unhide HV7).two
              obtain ⟨q0, q1⟩ := (unhide HR7).two
              have y0 := (unhide HR7).frozen 0
              have y1 := (unhide HR7).frozen 1
              have hMw : M ≠ w.heap.size := by omega
              simp only [Bool.false_and] at HZ
              go_region
              all_goals (
                go_wp2
                try rw [Exit.noGoto_ret]
                refine bodyPost_ret (res_vt (f := Tryz.f10) rfl rfl ((unhide HR7).put _ _) rfl) rfl ⟨by rw [← unhide HZ]; rfl, ?_⟩
                exact drewB (below_put2 (unhide HB7) (Nat.le_refl _) (.int .u64 sb) su))
            · go_wp2_with fail
              refine (unhide HST).mono ?_
              rintro e W6 ⟨rfl, ⟨v6, hk6⟩, hf6⟩
              have hv6 := (unhide HRI).box.fk hf6
              have hr6 := (unhide HRI).ro.res.fk hf6
              clear v0 v1 f0 f1
              obtain ⟨v0, v1⟩ := hv6.two
              have f0 := hv6.frozen 0
              have f1 := hv6.frozen 1
              have HK7 := hide (hk6.putV hv6 (.int .u64 sb) su)
              have HV7 := hide (hv6.put (.int .u64 sb) su)
              have HR7 := hide ((hr6.setCell (b' := M) (i := 0) (by omega) (.int .u64 sb)).setCell (b' := M) (i := 1) (by omega) (.bool su))
              have HB7 : Hid (Below w.heap.size w (put2 W6 M (.int .u64 sb) su)) := below_put2 ((unhide HB3).trans (hf6.below.mono (Nat.le_succ _))) (by omega) _ _
              simp only [put2] at HK7 HV7 HB7
              clear hv6 hr6 hk6 hf6 HST HRI HB3
              go_upto_region 13 with fail
              clear v0 v1 f0 f1
              generalize (W6.setCell ⟨M, 0, none⟩ (.int .u64 sb)).setCell ⟨M, 1, none⟩ (.bool su) = W7 at *
              obtain ⟨p6, cp6, hvp⟩ := ownsRow_slice (unhide HK7).row
              subst hvp
              obtain ⟨c0, c1, c2⟩ := (unhide HK7).three
              obtain ⟨v0, v1⟩ := (unhide HV7).two
              obtain ⟨q0, q1⟩ := (unhide HR7).two
              have y0 := (unhide HR7).frozen 0
              have y1 := (unhide HR7).frozen 1
              have hMw : M ≠ w.heap.size := by omega
              simp only [Bool.true_and] at HZ
              cases st6 with
              | nil =>
                simp only [List.length_nil, List.isEmpty_nil, Bool.true_and] at c0 HZ
                cases und6
                all_goals (
                  simp only [Bool.not_false, Bool.not_true] at HZ
                  go_region
                  all_goals (
                    go_wp2
                    try rw [Exit.noGoto_ret]
                    refine bodyPost_ret (res_vt (f := Tryz.f10) rfl rfl ((unhide HR7).put _ _) rfl) rfl ⟨by rw [← unhide HZ]; rfl, ?_⟩
                    exact drewB (below_put2 (unhide HB7) (Nat.le_refl _) (.int .u64 sb) su)))
              | cons y r6 =>
                simp only [List.length_cons, List.isEmpty_cons, Bool.false_and] at c0 HZ
                have hn0 : ((r6.length : Int) + 1 == 0) = false := by rw [beq_eq_false_iff_ne]; omega
                go_region
                all_goals (
                  go_wp2
                  try rw [Exit.noGoto_ret]
                  refine bodyPost_ret (res_vt (f := Tryz.f10) rfl rfl ((unhide HR7).put _ _) rfl) rfl ⟨by rw [← unhide HZ]; rfl, ?_⟩
                  exact drewB (below_put2 (unhide HB7) (Nat.le_refl _) (.int .u64 sb) su))
      · simp only [if_true] at HIS
        go_wp2_with fail
        refine (unhide HA).mono ?_
        rintro e W1 ⟨rfl, ⟨v1, hk1⟩, hf1⟩
        have HRO1 : Hid (Ro w W0 W1 opM l Z (i + 1) v1 ast und none) := ⟨hk1, (unhide HRO).res.fk hf1, (unhide HRO).fk.trans hf1, unhide HAO, Nat.le_trans (unhide HAL) (by have := (unhide HRO).len; omega), unhide HIS⟩
        clear hk1 hf1 HA HO HAF HAL HAO HIS HSX s0 s1 s2 s3 s4 s5 q0 q1 y0 y1 HRO HB1
        go_wp2
        go_roundg (l.length - (i + 1))
        case measure => omega
        case rel => exact ⟨i + 1, v1, ast, und, rfl, by go_num, by omega, HRO1⟩
    · have i1 : ¬ (i : Int) < (l.length : Int) := by omega
      have his := (unhide HRO).is
      rw [List.drop_eq_nil_of_le (by omega), reckM] at his
      have HIS := hide his
      clear his
      go_wp2
      try rw [Exit.noGoto_ret]
      refine bodyPost_ret (res_vt (f := Tryz.f10) rfl rfl ((unhide HRO).res.put _ _) rfl) rfl ⟨by rw [← unhide HIS]; rfl, below_put2 (unhide HB1) (Nat.le_refl _) _ _⟩
end Go.Proofs.YtfghfohlcofdpaaGreatDoor
namespace Go.Proofs.YtfghfohlcofdpaaGreatDoor
open Go Go.RowKit
set_option linter.unusedVariables false
set_option linter.unusedSimpArgs false

theorem below_drewN {B : Nat} {w W : World} (h : Below B w W) (m : Nat) : Below B w (W.drewN m) := ⟨h.os, h.tape, h.output, h.size, h.block⟩
/-- What Eval tells: bits, kind, error. -/
def evalV (Z : Vl × Bool) : Value := if Z.2 then .tuple #[.int .u64 Z.1.b, .bool Z.1.u, .int .i64 0] else .tuple #[.int .u64 0, .bool false, .int .i64 50]
set_option maxRecDepth 100000 in
set_option maxHeartbeats 4000000 in
theorem Eval_any (opM : Gt → Vl × Bool) (p : Option Addr) (cap : Nat) (l : List Gt) (w : World) (hl : l.length ≤ 1000000) (hT : TkG w.heap.size w (.slice p l.length cap) l)
    (hop : ∀ t ∈ l, ∀ W, Below w.heap.size w W → OpC opM t W) :
    Calls Tryz.prog 6 #[.slice p l.length cap] w fun e w' => e = .returned (evalV (reckM opM l [] false none)) ∧ Below w.heap.size w w' := by
  have HR := hide (reckon_any opM p cap l w hl hT hop)
  generalize reckM opM l [] false none = Z at *
  obtain ⟨⟨b, u⟩, ok⟩ := Z
  simp only [evalV, Vl.v] at *
  clear hT hop
  go_enter Tryz.func6, Tryz.ntmps6
  go_wp2_with fail
  refine (unhide HR).mono ?_
  rintro e W1 ⟨rfl, hb1⟩
  have HB := hide (hb1.trans ((below_new W1 (.cells #[.int .u64 b, .bool u] 37)).mono hb1.size))
  have hn : VBox (W1.alloc (.cells #[.int .u64 b, .bool u] 37)) W1.heap.size (.int .u64 b) u := World.alloc_heap_new W1 _
  obtain ⟨c0, c1⟩ := hn.two
  clear hb1 HR hn
  cases ok
  · go_wp2
    go_ret3
    exact ⟨rfl, unhide HB⟩
  · go_upto_region 4 with fail
    go_quiet (fail)
    go_wp2
    go_ret3
    exact ⟨rfl, below_drewN (unhide HB) _⟩
end Go.Proofs.YtfghfohlcofdpaaGreatDoor
