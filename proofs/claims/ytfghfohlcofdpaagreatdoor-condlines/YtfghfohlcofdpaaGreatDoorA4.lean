/-
  Package cond: what waits, and what it makes of its last operand.
-/
import Derived.Test.YtfghfohlcofdpaaGreatDoorAa
import Derived.Deep.CutRange
import Derived.Deep.RegionWith
import Derived.Deep.DeepCutAuto
import Derived.Deep.QuietTactic
import Derived.BigQuiet
import Derived.BigRegion
namespace Go.Proofs.YtfghfohlcofdpaaGreatDoor
open Go Go.RowKit
set_option linter.unusedVariables false
set_option linter.unusedSimpArgs false

/-- A sign whose last operand is still to come. -/
structure Wt where
  sign : List UInt8
  lev : Int
  a : Vl
  taken : Bool
  skips : Bool
  deriving DecidableEq
def Wt.v (x : Wt) : Value := .agg #[.string ⟨x.sign.toArray⟩, .int .i64 x.lev, .int .u64 x.a.b, .bool x.a.u, .bool x.taken, .bool x.skips]
/-- What it makes of it, and whether that is defined. -/
def ofM (x : Wt) (v : Vl) : Vl × Bool :=
  let u := x.a.u || v.u
  if x.lev == 12 then (prefM x.sign v, true)
  else if x.lev == 1 then (⟨if x.taken then x.a.b else v.b, u⟩, true)
  else if x.lev == 2 then (truthM (x.a.b != 0 || v.b != 0), true)
  else if x.lev == 3 then (truthM (x.a.b != 0 && v.b != 0), true)
  else if x.lev == 7 then (truthM ((x.a.b == v.b) == (x.sign == [61, 61])), true)
  else if x.lev == 8 then (truthM (ordM x.sign x.a.b v.b u), true)
  else if x.lev == 9 then (⟨(shiftM x.sign x.a v.b).1, x.a.u⟩, (shiftM x.sign x.a v.b).2)
  else if x.sign == [47] || x.sign == [37] then (⟨(divM x.sign x.a.b v.b u).1, u⟩, (divM x.sign x.a.b v.b u).2)
  else (⟨joinM x.sign x.a.b v.b, u⟩, true)
theorem res_vt {f : Func} {k j : Nat} {tmps : Array Value} {w : World} {R : Nat} {cs : Array Value} (hr : f.results = #[.cell k 37, .tmp j]) (hp : tmps.getD k undef = .pointer (some ⟨R, 0, none⟩)) (hg : w.heap[R]? = some (.cells cs 37 (0, 0))) (hz : cs.size = 2) :
    (results f tmps).run Tryz.prog w = .ok (.tuple #[.agg cs, tmps.getD j undef]) w := by
  have hi : (Tryz.prog.info? 37).map (·.size) = some cs.size := by rw [hz]; kernel_rfl
  have hp' : tmps[k]?.getD undef = .pointer (some ⟨R, 0, none⟩) := by simpa using hp
  simp [results, hr, hp', asAddr, run_loadVar_row w R 37 37 cs (0, 0) _ hg Tryz.underlying37 rfl hi]
/-- The first part of 'of': what lies when the level is looked at. -/
structure OfW (w W : World) (x : Wt) (v : Vl) : Prop where
  below : Below w.heap.size w W
  c0 : W.cell? ⟨w.heap.size, 0, none⟩ = some (.string ⟨x.sign.toArray⟩)
  c1 : W.cell? ⟨w.heap.size, 1, none⟩ = some (.int .i64 x.lev)
  c4 : W.cell? ⟨w.heap.size, 4, none⟩ = some (.bool x.taken)
  v : VBox W (w.heap.size + 1) (.int .u64 v.b) v.u
  r : VBox W (w.heap.size + 1 + 1) (.int .u64 0) false
  a : VBox W (w.heap.size + 1 + 1 + 1) (.int .u64 x.a.b) x.a.u
theorem OfW.three {w W : World} {x : Wt} {v : Vl} (h : OfW w W x v) : W.cell? ⟨w.heap.size, 0, none⟩ = some (.string ⟨x.sign.toArray⟩) ∧ W.cell? ⟨w.heap.size, 1, none⟩ = some (.int .i64 x.lev) ∧ W.cell? ⟨w.heap.size, 4, none⟩ = some (.bool x.taken) := ⟨h.c0, h.c1, h.c4⟩
theorem of_made (w : World) (x : Wt) (v : Vl) : OfW w ((((w.alloc (.cells #[.string ⟨x.sign.toArray⟩, .int .i64 x.lev, .int .u64 x.a.b, .bool x.a.u, .bool x.taken, .bool x.skips] 70)).alloc (.cells #[.int .u64 v.b, .bool v.u] 37)).alloc (.cells #[.int .u64 0, .bool false] 37)).alloc (.cells #[.int .u64 x.a.b, .bool x.a.u] 37)).drew x v := by
  generalize ho0 : (.cells #[.string ⟨x.sign.toArray⟩, .int .i64 x.lev, .int .u64 x.a.b, .bool x.a.u, .bool x.taken, .bool x.skips] 70 : Obj) = o0
  generalize ho1 : (.cells #[.int .u64 v.b, .bool v.u] 37 : Obj) = o1
  generalize ho2 : (.cells #[.int .u64 0, .bool false] 37 : Obj) = o2
  generalize ho3 : (.cells #[.int .u64 x.a.b, .bool x.a.u] 37 : Obj) = o3
  have z1 : (w.alloc o0).heap.size = w.heap.size + 1 := by simp
  have z2 : ((w.alloc o0).alloc o1).heap.size = w.heap.size + 2 := by simp
  have z3 : (((w.alloc o0).alloc o1).alloc o2).heap.size = w.heap.size + 3 := by simp
  have b1 := below_new (w.alloc o0) o1
  have b2 := below_new ((w.alloc o0).alloc o1) o2
  have b3 := below_new (((w.alloc o0).alloc o1).alloc o2) o3
  rw [z1] at b1
  rw [z2] at b2
  rw [z3] at b3
  have B : Below w.heap.size w ((((w.alloc o0).alloc o1).alloc o2).alloc o3) := (((below_new w o0).trans (b1.mono (by omega))).trans (b2.mono (by omega))).trans (b3.mono (by omega))
  have h0 : ((((w.alloc o0).alloc o1).alloc o2).alloc o3).heap[w.heap.size]? = some o0 := (b3.block _ (by omega)).trans ((b2.block _ (by omega)).trans ((b1.block _ (by omega)).trans (World.alloc_heap_new w o0)))
  have h1 : ((((w.alloc o0).alloc o1).alloc o2).alloc o3).heap[w.heap.size + 1]? = some o1 := (b3.block _ (by omega)).trans ((b2.block _ (by omega)).trans (by have := World.alloc_heap_new (w.alloc o0) o1; rwa [z1] at this))
  have h2 : ((((w.alloc o0).alloc o1).alloc o2).alloc o3).heap[w.heap.size + 2]? = some o2 := (b3.block _ (by omega)).trans (by have := World.alloc_heap_new ((w.alloc o0).alloc o1) o2; rwa [z2] at this)
  have h3 : ((((w.alloc o0).alloc o1).alloc o2).alloc o3).heap[w.heap.size + 3]? = some o3 := by have := World.alloc_heap_new (((w.alloc o0).alloc o1).alloc o2) o3; rwa [z3] at this
  subst ho0 ho1 ho2 ho3
  refine ⟨⟨B.os, B.tape, B.output, B.size, B.block⟩, ?_, ?_, ?_, h1, h2, h3⟩
  all_goals (change World.cell? (World.alloc _ _) _ = _; rw [World.cell?, h0]; rfl)
set_option maxRecDepth 100000 in
set_option maxHeartbeats 4000000 in
theorem of_any (x : Wt) (v : Vl) (w : World) (h0 : 0 ≤ v.b) (h1 : v.b < 18446744073709551616) : Calls Tryz.prog 30 #[x.v, v.v] w fun e w' => e = .returned (.tuple #[(ofM x v).1.v, .bool (ofM x v).2]) ∧ Below w.heap.size w w' := by
  obtain ⟨s, lev, ⟨ab, au⟩, taken, skips⟩ := x
  obtain ⟨b, u⟩ := v
  simp only at h0 h1
  simp only [Wt.v, Vl.v]
  have HR : Hid (ofM ⟨s, lev, ⟨ab, au⟩, taken, skips⟩ ⟨b, u⟩ = (if lev == 12 then (prefM s ⟨b, u⟩, true)
    else if lev == 1 then (⟨if taken then ab else b, au || u⟩, true)
    else if lev == 2 then (truthM (ab != 0 || b != 0), true)
    else if lev == 3 then (truthM (ab != 0 && b != 0), true)
    else if lev == 7 then (truthM ((ab == b) == (s == [61, 61])), true)
    else if lev == 8 then (truthM (ordM s ab b (au || u)), true)
    else if lev == 9 then (⟨(shiftM s ⟨ab, au⟩ b).1, au⟩, (shiftM s ⟨ab, au⟩ b).2)
    else if s == [47] || s == [37] then (⟨(divM s ab b (au || u)).1, au || u⟩, (divM s ab b (au || u)).2)
    else (⟨joinM s ab b, au || u⟩, true))) := rfl
  have HOW := hide (of_made w ⟨s, lev, ⟨ab, au⟩, taken, skips⟩ ⟨b, u⟩)
  simp only at HOW
  generalize ofM ⟨s, lev, ⟨ab, au⟩, taken, skips⟩ ⟨b, u⟩ = R at *
  cases au
  all_goals (
    simp only [Bool.false_or, Bool.true_or] at HR
    go_enter Tryz.func30, Tryz.ntmps30
    go_upto_region 1 with fail
    go_region
    generalize World.drew _ = W at *
    have HO := HOW
    clear HOW
    have hl := (unhide HO).r.lt
    obtain ⟨c0, c1, c4⟩ := (unhide HO).three
    obtain ⟨v0, v1⟩ := (unhide HO).v.two
    obtain ⟨r0, r1⟩ := (unhide HO).r.two
    obtain ⟨a0, a1⟩ := (unhide HO).a.two
    have fv := (unhide HO).v.frozen 0
    have f0 := (unhide HO).r.frozen 0
    have f1 := (unhide HO).r.frozen 1
    simp only at c0 c1 c4 v0 v1 a0 a1
    have HT := hide (fun b w => truth_any b w)
    simp only [Vl.v] at HT
    by_cases l12 : lev = 12
    · subst l12
      simp only [beq_self_eq_true, if_true] at HR
      have HP := hide (prefixed_any s ⟨b, u⟩ W)
      simp only [Vl.v] at HP
      go_wp2_with fail
      refine (unhide HP).mono ?_
      rintro e V ⟨rfl, hb⟩
      have hq := (unhide HO).r.below hb hl
      obtain ⟨d0, d1⟩ := hq.two
      have g0 := hq.frozen 0
      have g1 := hq.frozen 1
      have HQ := hide hq
      have HBB := hide ((unhide HO).below.trans (hb.mono (unhide HO).below.size))
      clear hq hb
      go_wp2
      refine bodyPost_ret (res_vt (f := Tryz.f30) rfl rfl ((unhide HQ).put _ _) rfl) rfl ⟨by rw [unhide HR]; rfl, below_put2 (unhide HBB) (by omega) _ _⟩
    · have e12 : (lev == 12) = false := by simpa using l12
      simp only [e12, Bool.false_eq_true, if_false] at HR
      by_cases l1 : lev = 1
      · subst l1
        simp only [beq_self_eq_true, if_true] at HR
        cases taken
        · have HQ := hide (unhide HO).r
          have HBB := hide (unhide HO).below
          go_wp2
          refine bodyPost_ret (res_vt (f := Tryz.f30) rfl rfl ((unhide HQ).put _ _) rfl) rfl ⟨by rw [unhide HR]; rfl, below_put2 (unhide HBB) (by omega) _ _⟩
        · have hne : w.heap.size + 1 ≠ w.heap.size + 1 + 1 := by omega
          have HQ := hide ((unhide HO).r.setCell (b' := w.heap.size + 1) (i := 0) (by omega) (.int .u64 ab))
          have HBB := hide ((unhide HO).below.setCell (p := ⟨w.heap.size + 1, 0, none⟩) (by show w.heap.size ≤ w.heap.size + 1; omega) (.int .u64 ab))
          go_wp2
          refine bodyPost_ret (res_vt (f := Tryz.f30) rfl rfl ((unhide HQ).put _ _) rfl) rfl ⟨by rw [unhide HR]; rfl, below_put2 (unhide HBB) (by omega) _ _⟩
      · have e1 : (lev == 1) = false := by simpa using l1
        simp only [e1, Bool.false_eq_true, if_false] at HR
        by_cases l2 : lev = 2
        · subst l2
          simp only [beq_self_eq_true, if_true] at HR
          cases hn : ab != 0
          · rw [hn] at HR
            simp only [Bool.false_or] at HR
            go_wp2_with fail
            refine (unhide HT _ _).mono ?_
            rintro e V ⟨rfl, hb⟩
            have hq := (unhide HO).r.below hb hl
            obtain ⟨d0, d1⟩ := hq.two
            have g0 := hq.frozen 0
            have g1 := hq.frozen 1
            have HQ := hide hq
            have HBB := hide ((unhide HO).below.trans (hb.mono (unhide HO).below.size))
            clear hq hb
            go_wp2
            refine bodyPost_ret (res_vt (f := Tryz.f30) rfl rfl ((unhide HQ).put _ _) rfl) rfl ⟨by rw [unhide HR]; rfl, below_put2 (unhide HBB) (by omega) _ _⟩
          · rw [hn] at HR
            simp only [Bool.true_or] at HR
            go_wp2_with fail
            refine (unhide HT _ _).mono ?_
            rintro e V ⟨rfl, hb⟩
            have hq := (unhide HO).r.below hb hl
            obtain ⟨d0, d1⟩ := hq.two
            have g0 := hq.frozen 0
            have g1 := hq.frozen 1
            have HQ := hide hq
            have HBB := hide ((unhide HO).below.trans (hb.mono (unhide HO).below.size))
            clear hq hb
            go_wp2
            refine bodyPost_ret (res_vt (f := Tryz.f30) rfl rfl ((unhide HQ).put _ _) rfl) rfl ⟨by rw [unhide HR]; rfl, below_put2 (unhide HBB) (by omega) _ _⟩
        · have e2 : (lev == 2) = false := by simpa using l2
          simp only [e2, Bool.false_eq_true, if_false] at HR
          by_cases l3 : lev = 3
          · subst l3
            simp only [beq_self_eq_true, if_true] at HR
            cases hn : ab != 0
            · rw [hn] at HR
              simp only [Bool.false_and] at HR
              go_wp2_with fail
              refine (unhide HT _ _).mono ?_
              rintro e V ⟨rfl, hb⟩
              have hq := (unhide HO).r.below hb hl
              obtain ⟨d0, d1⟩ := hq.two
              have g0 := hq.frozen 0
              have g1 := hq.frozen 1
              have HQ := hide hq
              have HBB := hide ((unhide HO).below.trans (hb.mono (unhide HO).below.size))
              clear hq hb
              go_wp2
              refine bodyPost_ret (res_vt (f := Tryz.f30) rfl rfl ((unhide HQ).put _ _) rfl) rfl ⟨by rw [unhide HR]; rfl, below_put2 (unhide HBB) (by omega) _ _⟩
            · rw [hn] at HR
              simp only [Bool.true_and] at HR
              go_wp2_with fail
              refine (unhide HT _ _).mono ?_
              rintro e V ⟨rfl, hb⟩
              have hq := (unhide HO).r.below hb hl
              obtain ⟨d0, d1⟩ := hq.two
              have g0 := hq.frozen 0
              have g1 := hq.frozen 1
              have HQ := hide hq
              have HBB := hide ((unhide HO).below.trans (hb.mono (unhide HO).below.size))
              clear hq hb
              go_wp2
              refine bodyPost_ret (res_vt (f := Tryz.f30) rfl rfl ((unhide HQ).put _ _) rfl) rfl ⟨by rw [unhide HR]; rfl, below_put2 (unhide HBB) (by omega) _ _⟩
          · have e3 : (lev == 3) = false := by simpa using l3
            simp only [e3, Bool.false_eq_true, if_false] at HR
            by_cases l7 : lev = 7
            · subst l7
              simp only [beq_self_eq_true, if_true] at HR
              go_wp2_with fail
              refine (unhide HT _ _).mono ?_
              rintro e V ⟨rfl, hb⟩
              have hq := (unhide HO).r.below hb hl
              obtain ⟨d0, d1⟩ := hq.two
              have g0 := hq.frozen 0
              have g1 := hq.frozen 1
              have HQ := hide hq
              have HBB := hide ((unhide HO).below.trans (hb.mono (unhide HO).below.size))
              clear hq hb
              go_wp2
              refine bodyPost_ret (res_vt (f := Tryz.f30) rfl rfl ((unhide HQ).put _ _) rfl) rfl ⟨by rw [unhide HR]; rfl, below_put2 (unhide HBB) (by omega) _ _⟩
            · have e7 : (lev == 7) = false := by simpa using l7
              simp only [e7, Bool.false_eq_true, if_false] at HR
              by_cases l8 : lev = 8
              · subst l8
                simp only [beq_self_eq_true, if_true] at HR
                go_wp2_with fail
                refine (ordered_any _ _ _ _ _).mono ?_
                rintro e V ⟨rfl, hV⟩
                obtain rfl := hV.symm
                go_wp2_with fail
                refine (unhide HT _ _).mono ?_
                rintro e V ⟨rfl, hb⟩
                have hq := (unhide HO).r.below hb hl
                obtain ⟨d0, d1⟩ := hq.two
                have g0 := hq.frozen 0
                have g1 := hq.frozen 1
                have HQ := hide hq
                have HBB := hide ((unhide HO).below.trans (hb.mono (unhide HO).below.size))
                clear hq hb
                go_wp2
                refine bodyPost_ret (res_vt (f := Tryz.f30) rfl rfl ((unhide HQ).put _ _) rfl) rfl ⟨by rw [unhide HR]; rfl, below_put2 (unhide HBB) (by omega) _ _⟩
              · have e8 : (lev == 8) = false := by simpa using l8
                simp only [e8, Bool.false_eq_true, if_false] at HR
                by_cases l9 : lev = 9
                · subst l9
                  simp only [beq_self_eq_true, if_true] at HR
                  have HS := hide (fun au => shifted_any s ⟨ab, au⟩ b W h0)
                  simp only [Vl.v] at HS
                  go_wp2_with fail
                  refine (unhide HS _).mono ?_
                  rintro e V ⟨rfl, hb⟩
                  have hq := (unhide HO).r.below hb hl
                  obtain ⟨d0, d1⟩ := hq.two
                  have g0 := hq.frozen 0
                  have g1 := hq.frozen 1
                  have hq3 := (unhide HO).a.below hb (unhide HO).a.lt
                  obtain ⟨k0, k1⟩ := hq3.two
                  have HQ := hide hq
                  have HBB := hide ((unhide HO).below.trans (hb.mono (unhide HO).below.size))
                  clear hq hb hq3
                  go_wp2
                  refine bodyPost_ret (res_vt (f := Tryz.f30) rfl rfl ((unhide HQ).put _ _) rfl) rfl ⟨by rw [unhide HR]; rfl, below_put2 (unhide HBB) (by omega) _ _⟩
                · have e9 : (lev == 9) = false := by simpa using l9
                  simp only [e9, Bool.false_eq_true, if_false] at HR
                  cases hd : (s == [47] || s == [37])
                  · rw [hd] at HR
                    simp only [Bool.false_eq_true, if_false] at HR
                    have hd1 : (s == [47]) = false := by cases h : s == [47] <;> simp_all
                    have hd2 : (s == [37]) = false := by cases h : s == [37] <;> simp_all
                    clear hd
                    have HQ := hide (unhide HO).r
                    have HBB := hide (unhide HO).below
                    go_wp2_with (refine (joined_any _ _ _ _).mono ?_; rintro e V ⟨rfl, hV⟩; obtain rfl := hV.symm)
                    refine bodyPost_ret (res_vt (f := Tryz.f30) rfl rfl ((unhide HQ).put _ _) rfl) rfl ⟨by rw [unhide HR]; rfl, below_put2 (unhide HBB) (by omega) _ _⟩
                  · rw [hd] at HR
                    simp only [if_true] at HR
                    have HQ := hide (unhide HO).r
                    have HBB := hide (unhide HO).below
                    have HDV := hide (fun u w => divided_any s ab b u w h0 h1)
                    cases hd1 : s == [47]
                    · have hd2 : (s == [37]) = true := by cases h : s == [37] <;> simp_all
                      clear hd
                      go_wp2_with (refine (unhide HDV _ _).mono ?_; rintro e V ⟨rfl, hV⟩; obtain rfl := hV.symm)
                      refine bodyPost_ret (res_vt (f := Tryz.f30) rfl rfl ((unhide HQ).put _ _) rfl) rfl ⟨by rw [unhide HR]; rfl, below_put2 (unhide HBB) (by omega) _ _⟩
                    · clear hd
                      go_wp2_with (refine (unhide HDV _ _).mono ?_; rintro e V ⟨rfl, hV⟩; obtain rfl := hV.symm)
                      refine bodyPost_ret (res_vt (f := Tryz.f30) rfl rfl ((unhide HQ).put _ _) rfl) rfl ⟨by rw [unhide HR]; rfl, below_put2 (unhide HBB) (by omega) _ _⟩)
end Go.Proofs.YtfghfohlcofdpaaGreatDoor
