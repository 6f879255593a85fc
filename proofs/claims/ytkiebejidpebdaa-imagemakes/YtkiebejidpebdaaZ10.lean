/-
  Package image: find.
  Package image: Spot, findIn, Get.
  Package image: Get, Put.
-/
import Derived.Test.YtkiebejidpebdaaOk
import Derived.Deep.RegionWith
import Derived.Lib.BufferWrite
import Derived.Lib.SlBuf
namespace Go.Proofs.Ytkiebejidpebdaa
open Go Go.RowKit Go.Shelf
set_option linter.unusedVariables false
set_option linter.unusedSimpArgs false

/-- The node of a whole type; whether a path leads to a number; to which. -/
def x0M (t : ShT) : ShT × Int × Int := (t, 0, 8 * (chkM t).1.1)
def okP (t : ShT) (path : List Int) : Bool := decide ((folM (x0M t) 0 path).1.length = path.length) && (nuM (folM (x0M t) 0 path).2.1.1 (folM (x0M t) 0 path).2.1.2.2 (folM (x0M t) 0 path).2.2).2
def spP (t : ShT) (path : List Int) : Int × Int × Int := (nuM (folM (x0M t) 0 path).2.1.1 (folM (x0M t) 0 path).2.1.2.2 (folM (x0M t) 0 path).2.2).1
def spC3 (s : Int × Int × Int) : Array Value := #[.int .i64 s.1, .int .i64 s.2.1, .int .i64 s.2.2]
/-- What find tells: spot, size, error. -/
def fnM (t : ShT) (path : List Int) : (Int × Int × Int) × Int × Int := if (chkM t).2 == 0 then (if okP t path then (spP t path, (chkM t).1.1, 0) else ((0, 0, 0), 0, 110)) else ((0, 0, 0), 0, (chkM t).2)
theorem GdN.whole {t : ShT} (h : ((chkM t).2 == 0) = true) : GdN 6 (x0M t) := by
  have h6 := chk_ok h
  have hs := chk_small h
  refine .inl ⟨h6, ?_, hs⟩
  obtain ⟨hc, _⟩ := chk_of (Nat.le_refl 6) h6 hs
  show 8 * (chkM t).1.1 = 8 * (meaM 6 t).1
  rw [hc]
theorem okP_iff {t : ShT} {path : List Int} : okP t path = true ↔ ((folM (x0M t) 0 path).1.length = path.length ∧ (nuM (folM (x0M t) 0 path).2.1.1 (folM (x0M t) 0 path).2.1.2.2 (folM (x0M t) 0 path).2.2).2 = true) := by
  unfold okP
  simp
/-- One node alone. -/
def oneM (g : Nat) (x : ShT × Int × Int) : Nat → Option (List (ShT × Int × Int)) := fun h => if h = g then some [x] else none
theorem oneM_at (g : Nat) (x : ShT × Int × Int) : oneM g x g = some [x] := by unfold oneM; rw [if_pos rfl]
theorem NI.one {N0 g : Nat} {W : World} {x : ShT × Int × Int} (hN : N0 ≤ g) (hb : Bk W g 117 (ndC x.1 x.2.1 x.2.2 (.slice none 0 0))) : NI N0 (oneM g x) W :=
  ⟨fun g' l hg => by
    unfold oneM at hg
    split at hg
    · rename_i e
      subst e
      cases hg
      refine ⟨hN, _, hb, fun i y hi => ?_⟩
      cases i with
      | zero =>
        obtain rfl : x = y := by simpa using hi
        exact ⟨_, fun j u hu => by rw [Nat.zero_mul, Nat.zero_add]; exact hu, .inl rfl⟩
      | succ i => simp at hi
    · cases hg⟩
set_option maxRecDepth 100000 in
set_option maxHeartbeats 8000000 in
theorem size_c (g o : Nat) (bits : Int) (w : World) (h : w.cell? ⟨g, o + 8, none⟩ = some (.int .i64 bits)) (h0 : 0 ≤ bits) (h1 : bits ≤ 524288) :
    Calls Try.prog 54 #[.pointer (some ⟨g, o, none⟩)] w fun e w' => e = .returned (.int .i64 (bits / 8)) ∧ w' = w := by
  go_enter Try.func54, Try.ntmps54
  go_wp2_with fail
  go_ret
  exact ⟨by first | rfl | (congr 2; omega), rfl⟩
/-- The boxes of find: the type's, the answer's. -/
structure FdS (w W : World) (t : ShT) : Prop where
  t : TyB W w.heap.size t
  z : Bk W (w.heap.size + 1) 42 #[.int .i64 0, .int .i64 0, .int .i64 0]
  be : Below w.heap.size w W
theorem FdS.new (w : World) (t : ShT) : FdS w ((w.alloc (.cells t.cs 25)).alloc (.cells #[.int .i64 0, .int .i64 0, .int .i64 0] 42)) t := by
  have h := Bk.new (w.alloc (.cells t.cs 25)) 42 #[.int .i64 0, .int .i64 0, .int .i64 0]
  rw [World.size_alloc] at h
  exact ⟨(TyB.new w t).below ((Below.refl _ _).alloc (Nat.le_refl _) _), h, below_new2 w _ _⟩
theorem FdS.below {w W W' : World} {t : ShT} (h : FdS w W t) (hb : Below W.heap.size W W') : FdS w W' t := ⟨h.t.below hb, h.z.below hb, h.be.trans (hb.mono h.be.size)⟩
theorem FdS.fin {w W : World} {t : ShT} (h : FdS w W t) (a b c : Value) : ∀ W', W' = ((W.setCell ⟨w.heap.size + 1, 0, none⟩ a).setCell ⟨w.heap.size + 1, 1, none⟩ b).setCell ⟨w.heap.size + 1, 2, none⟩ c → Bk W' (w.heap.size + 1) 42 #[a, b, c] ∧ Below w.heap.size w W' := fun W' e => by
  subst e
  exact ⟨((h.z.set 0 a).set 1 b).set 2 c, ((h.be.setCell (p := ⟨w.heap.size + 1, 0, none⟩) (by show w.heap.size ≤ w.heap.size + 1; omega) _).setCell (p := ⟨w.heap.size + 1, 1, none⟩) (by show w.heap.size ≤ w.heap.size + 1; omega) _).setCell (p := ⟨w.heap.size + 1, 2, none⟩) (by show w.heap.size ≤ w.heap.size + 1; omega) _⟩
theorem FdS.cells {w W : World} {t : ShT} (h : FdS w W t) : (W.cell? ⟨w.heap.size + 1, 0, none⟩ = some (.int .i64 0) ∧ W.cell? ⟨w.heap.size + 1, 1, none⟩ = some (.int .i64 0) ∧ W.cell? ⟨w.heap.size + 1, 2, none⟩ = some (.int .i64 0)) ∧ (W.frozen? ⟨w.heap.size + 1, 0, none⟩ = false ∧ W.frozen? ⟨w.heap.size + 1, 1, none⟩ = false ∧ W.frozen? ⟨w.heap.size + 1, 2, none⟩ = false) ∧ w.heap.size + 1 < W.heap.size :=
  ⟨⟨h.z.cell 0, h.z.cell 1, h.z.cell 2⟩, ⟨h.z.frozen 0, h.z.frozen 1, h.z.frozen 2⟩, h.z.lt⟩
theorem NG.ty {N0 b : Nat} {w w' : World} {t : ShT} (h : NG N0 w w') (hb : TyB w b t) : TyB w' b t := h.bk (T := 25) hb (by decide)
theorem begin_no (t : ShT) (w : World) (hin : t.In w.heap.size w) (hc : ((chkM t).2 == 0) = false) : Calls Try.prog 53 #[t.v] w fun e w' => e = .returned (.tuple #[.pointer none, .int .i64 (chkM t).2]) ∧ Below w.heap.size w w' :=
  (begin_any t w hin).mono (by
    rintro e w' ⟨hb, ⟨_, h⟩ | ⟨h, _⟩⟩
    · exact ⟨h, hb⟩
    · rw [hc] at h; cases h)
theorem begin_yes (t : ShT) (w : World) (hin : t.In w.heap.size w) (hc : ((chkM t).2 == 0) = true) : Calls Try.prog 53 #[t.v] w fun e w' => ∃ g, w.heap.size ≤ g ∧ e = .returned (.tuple #[.pointer (some ⟨g, 0, none⟩), .int .i64 0]) ∧ Bk w' g 117 (ndC t 0 (8 * (chkM t).1.1) (.slice none 0 0)) ∧ Below w.heap.size w w' :=
  (begin_any t w hin).mono (by
    rintro e w' ⟨hb, ⟨h, _⟩ | ⟨_, g, h1, h2, h3⟩⟩
    · rw [hc] at h; cases h
    · exact ⟨g, h1, h2, h3, hb⟩)
theorem res_stt {f : Func} {k i j : Nat} {tmps : Array Value} {w : World} {R : Nat} {cs : Array Value} (hr : f.results = #[.cell k 42, .tmp i, .tmp j]) (hp : tmps.getD k undef = .pointer (some ⟨R, 0, none⟩)) (hg : w.heap[R]? = some (.cells cs 42 (0, 0))) (hz : cs.size = 3) :
    (results f tmps).run Try.prog w = .ok (.tuple #[.agg cs, tmps.getD i undef, tmps.getD j undef]) w := by
  have hi : (Try.prog.info? 42).map (·.size) = some cs.size := by rw [hz]; kernel_rfl
  have hp' : tmps[k]?.getD undef = .pointer (some ⟨R, 0, none⟩) := by simpa using hp
  simp [results, hr, hp', asAddr, run_loadVar_row w R 42 42 cs (0, 0) _ hg Try.underlying42 rfl hi]
set_option maxRecDepth 100000 in
set_option maxHeartbeats 20000000 in
theorem find_any (t : ShT) (p : Option Addr) (cap : Nat) (path : List Int) (w : World) (hin : t.In w.heap.size w) (hp : PaG w.heap.size w p path) (hpl : path.length ≤ maxLen) :
    Calls Try.prog 51 #[t.v, .slice p path.length cap] w fun e w' => e = .returned (.tuple #[.agg (spC3 (fnM t path).1), .int .i64 (fnM t path).2.1, .int .i64 (fnM t path).2.2]) ∧ Below w.heap.size w w' := by
  have HB0 : Hid (∀ W, ((chkM t).2 == 0) = false → Below w.heap.size w W → Calls Try.prog 53 #[t.v] W fun e w' => e = .returned (.tuple #[.pointer none, .int .i64 (chkM t).2]) ∧ Below W.heap.size W w') := fun W hc h => begin_no t W ((hin.below h).mono h.size) hc
  have HB1 : Hid (∀ W, ((chkM t).2 == 0) = true → Below w.heap.size w W → Calls Try.prog 53 #[t.v] W fun e w' => ∃ g, W.heap.size ≤ g ∧ e = .returned (.tuple #[.pointer (some ⟨g, 0, none⟩), .int .i64 0]) ∧ Bk w' g 117 (ndC t 0 (8 * (chkM t).1.1) (.slice none 0 0)) ∧ Below W.heap.size W w') := fun W hc h => begin_yes t W ((hin.below h).mono h.size) hc
  have HT0 := veil (FdS.new w t)
  have HFO : Hid (∀ W g, ((chkM t).2 == 0) = true → Below w.heap.size w W → w.heap.size ≤ g → Bk W g 117 (ndC t 0 (8 * (chkM t).1.1) (.slice none 0 0)) → Calls Try.prog 55 #[.pointer (some ⟨g, 0, none⟩), .slice p path.length cap] W (FoP w.heap.size (oneM g (x0M t)) W (x0M t) path)) := fun W g hc hb hg hk => by
    have := follow_any w.heap.size (oneM g (x0M t)) W g 0 [x0M t] (x0M t) p cap path (NI.one hg hk) (oneM_at _ _) rfl hb.size (fun h hh => by unfold oneM; rw [if_neg (by have := hk.lt; omega)]) (hin.below hb) (GdN.whole hc) (hp.below hb) hpl
    simpa using this
  clear hin hp
  have hze := chk_size t
  have HOK := veil (@okP_iff t path)
  have HFN : Hid (fnM t path = if (chkM t).2 == 0 then (if okP t path then (spP t path, (chkM t).1.1, 0) else ((0, 0, 0), 0, 110)) else ((0, 0, 0), 0, (chkM t).2)) := rfl
  generalize fnM t path = FN at *
  unfold ShT.v ShT.cs at *
  go_enter Try.func51, Try.ntmps51
  go_upto_region 1 with fail
  generalize ((w.alloc (.cells #[.int .i64 t.sh, .int .i64 t.k, .int .i64 t.n, .slice t.op t.of.length t.oc, .slice t.fp t.fs.length t.fc, .bool t.pk, .int .i64 t.al] 25)).alloc (.cells #[.int .i64 0, .int .i64 0, .int .i64 0] 42)) = W0 at HT0 ⊢
  obtain ⟨y0, y1, y2, y3, y4, y5, y6⟩ := (unveil HT0).t.seven
  cases hc : (chkM t).2 == 0
  · have hc' : ((chkM t).2 != 0) = true := by simp only [bne, hc]; rfl
    have HER : Hid (∀ W1, Below W0.heap.size W0 W1 → FdS w W1 t) := fun W1 h => (unveil HT0).below h
    rw [Hid, hc] at HFN
    simp only [Bool.false_eq_true, if_false] at HFN
    go_upto_region 3 with (go_at_call 53; refine (unveil HB0 _ hc (unveil HT0).be).mono ?_; rintro e W1 ⟨rfl, hb1⟩; have HS1 := veil (unveil HER W1 hb1); clear hb1)
    obtain ⟨⟨z0, z1, z2⟩, ⟨f0, f1, f2⟩, zl⟩ := (unveil HS1).cells
    go_wp2_with fail
    obtain ⟨q1, q2⟩ := (unveil HS1).fin (.int .i64 0) (.int .i64 0) (.int .i64 0) _ rfl
    exact bodyPost_ret (res_stt (f := Try.f51) (i := 5) (j := 6) rfl rfl q1 rfl) rfl ⟨by rw [unveil HFN]; rfl, q2⟩
  · rw [Hid, hc] at HFN
    simp only [if_true] at HFN
    have HST : Hid (∀ W1 g, Below W0.heap.size W0 W1 → W0.heap.size ≤ g → Bk W1 g 117 (ndC t 0 (8 * (chkM t).1.1) (.slice none 0 0)) → FdS w W1 t ∧ Below w.heap.size w W1 ∧ w.heap.size ≤ g) := fun W1 g hb hg hk => ⟨(unveil HT0).below hb, (unveil HT0).be.trans (hb.mono (unveil HT0).be.size), Nat.le_trans (unveil HT0).be.size hg⟩
    have HSF : Hid (∀ W1 g e W2, FdS w W1 t → FoP w.heap.size (oneM g (x0M t)) W1 (x0M t) path e W2 → FdS w W2 t ∧ W2.cell? ⟨g, 8, none⟩ = some (.int .i64 (8 * (chkM t).1.1)) ∧ g < W2.heap.size ∧
        ∃ v a b c, e = .returned (.tuple #[v, .agg #[.int .i64 a, .int .i64 b, .int .i64 c], .bool (okP t path)]) ∧ Hid (okP t path = true → spP t path = (a, b, c))) := fun W1 g e W2 hf1 hf => by
      obtain ⟨M', v, hex, hn, hng, hd, hh⟩ := hf
      have hb2 : Below w.heap.size W1 W2 := hng.below hf1.be.size
      have hf2 : FdS w W2 t := ⟨hng.ty hf1.t, hng.bk hf1.z (by decide), hf1.be.trans hb2⟩
      obtain ⟨pv, hnd, _, _⟩ := hn.at (hex _ _ (oneM_at g (x0M t))) (i := 0) rfl
      have h8 := hnd.ten.2.2.1
      rw [Nat.zero_mul, Nat.zero_add] at h8
      refine ⟨hf2, h8, hnd.lt, ?_⟩
      rcases hh with ⟨ho, _, he⟩ | ⟨ho, a, b, c, he⟩
      · rw [← unveil HOK] at ho
        exact ⟨v, _, _, _, by rw [he, ho], fun _ => rfl⟩
      · rw [← unveil HOK] at ho
        have ho' : okP t path = false := by simpa using ho
        exact ⟨v, a, b, c, by rw [he, ho'], fun h => absurd h ho⟩
    generalize okP t path = OK at *
    generalize spP t path = SP at *
    go_upto_region 4 with (go_at_call 53; refine (unveil HB1 _ hc (unveil HT0).be).mono ?_; rintro e W1 ⟨g, hg1, rfl, hk1, hb1⟩; obtain ⟨hs1, hbe1, hgN⟩ := unveil HST W1 g hb1 hg1 hk1; have HS1 := veil hs1; have HK1 := veil hk1; have HBE := veil hbe1; clear hb1 hs1 hbe1 hk1 y0 y1 y2 y3 y4 y5 y6)
    go_upto_region 5 with (go_at_call 55; refine (unveil HFO W1 g hc (unveil HBE) hgN (unveil HK1)).mono ?_; intro e W2 hfo; obtain ⟨hs2, hc8, hgl, v2, a, b, c, rfl, hsp⟩ := unveil HSF W1 g e W2 (unveil HS1) hfo; have HS2 := veil hs2; have HSP := veil hsp; clear hfo hs2 hsp)
    have HS3 : Hid (FdS w (W2.alloc (.cells #[.int .i64 a, .int .i64 b, .int .i64 c] 42)) t) := (unveil HS2).below ((Below.refl _ W2).alloc (Nat.le_refl _) _)
    have hb3 := Bk.new W2 42 #[.int .i64 a, .int .i64 b, .int .i64 c]
    have hc83 : (W2.alloc (.cells #[.int .i64 a, .int .i64 b, .int .i64 c] 42)).cell? ⟨g, 8, none⟩ = some (.int .i64 (8 * (chkM t).1.1)) := (((Below.refl _ W2).alloc (Nat.le_refl _) _).cell (p := ⟨g, 8, none⟩) hgl).trans hc8
    have hgl3 : g < (W2.alloc (.cells #[.int .i64 a, .int .i64 b, .int .i64 c] 42)).heap.size := by simp; omega
    generalize (W2.alloc (.cells #[.int .i64 a, .int .i64 b, .int .i64 c] 42)) = W3 at HS3 hb3 hc83 hgl3 ⊢
    have e0 := hb3.cell 0
    have e1 := hb3.cell 1
    have e2 := hb3.cell 2
    have el := hb3.lt
    generalize W2.heap.size = SB at e0 e1 e2 el ⊢
    simp only [List.getElem?_toArray, List.getElem?_cons_zero, List.getElem?_cons_succ] at e0 e1 e2
    obtain ⟨⟨z0, z1, z2⟩, ⟨f0, f1, f2⟩, zl⟩ := (unveil HS3).cells
    clear hb3 hc8 hgl
    cases OK
    · simp only [Bool.false_eq_true, if_false] at HFN
      go_wp2_with fail
      obtain ⟨q1, q2⟩ := (unveil HS3).fin (.int .i64 0) (.int .i64 0) (.int .i64 0) _ rfl
      exact bodyPost_ret (res_stt (f := Try.f51) (i := 5) (j := 6) rfl rfl q1 rfl) rfl ⟨by rw [unveil HFN]; rfl, q2⟩
    · simp only [if_true] at HFN
      have hsp := unveil HSP rfl
      have HSZ : Hid (∀ W, W.cell? ⟨g, 8, none⟩ = some (.int .i64 (8 * (chkM t).1.1)) → Calls Try.prog 54 #[.pointer (some ⟨g, 0, none⟩)] W fun e w' => e = .returned (.int .i64 (chkM t).1.1) ∧ w' = W) := fun W h => (size_c g 0 (8 * (chkM t).1.1) W (by rw [Nat.zero_add]; exact h) (by omega) (by omega)).mono (by
        rintro e w' ⟨rfl, rfl⟩
        exact ⟨by congr 2; omega, rfl⟩)
      have hne : g ≠ w.heap.size + 1 := fun h => by
        have k1 := unveil HK1
        have k2 := (unveil HS1).z
        unfold Bk at k1 k2
        rw [h, k2] at k1
        simp at k1
      go_upto_region 7 with fail
      go_region_with (go_at_call 54; refine (unveil HSZ _ (by go_simp)).mono ?_; rintro e w' ⟨rfl, rfl⟩)
      all_goals (
        go_wp2_with fail
        obtain ⟨q1, q2⟩ := (unveil HS3).fin (.int .i64 a) (.int .i64 b) (.int .i64 c) _ rfl
        exact bodyPost_ret (res_stt (f := Try.f51) (i := 5) (j := 6) rfl rfl q1 rfl) rfl ⟨by rw [unveil HFN, hsp]; rfl, q2.drew⟩)
end Go.Proofs.Ytkiebejidpebdaa
namespace Go.Proofs.Ytkiebejidpebdaa
open Go Go.RowKit Go.Shelf
set_option linter.unusedVariables false
set_option linter.unusedSimpArgs false

theorem res_st {f : Func} {k i : Nat} {tmps : Array Value} {w : World} {R : Nat} {cs : Array Value} (hr : f.results = #[.cell k 42, .tmp i]) (hp : tmps.getD k undef = .pointer (some ⟨R, 0, none⟩)) (hg : w.heap[R]? = some (.cells cs 42 (0, 0))) (hz : cs.size = 3) :
    (results f tmps).run Try.prog w = .ok (.tuple #[.agg cs, tmps.getD i undef]) w := by
  have hi : (Try.prog.info? 42).map (·.size) = some cs.size := by rw [hz]; kernel_rfl
  have hp' : tmps[k]?.getD undef = .pointer (some ⟨R, 0, none⟩) := by simpa using hp
  simp [results, hr, hp', asAddr, run_loadVar_row w R 42 42 cs (0, 0) _ hg Try.underlying42 rfl hi]
/-- Two boxes of spots, the answer's and another one. -/
theorem FdS.two {w W : World} {t : ShT} (h : FdS w W t) (a b c : Value) : FdS w (W.alloc (.cells #[a, b, c] 42)) t ∧ Bk (W.alloc (.cells #[a, b, c] 42)) W.heap.size 42 #[a, b, c] := ⟨h.below ((Below.refl _ W).alloc (Nat.le_refl _) _), Bk.new _ _ _⟩
set_option maxRecDepth 100000 in
set_option maxHeartbeats 20000000 in
theorem Spot11_any (t : ShT) (p : Option Addr) (cap : Nat) (path : List Int) (w : World) (hin : t.In w.heap.size w) (hp : PaG w.heap.size w p path) (hpl : path.length ≤ maxLen) :
    Calls Try.prog 30 #[t.v, .slice p path.length cap] w fun e w' => e = .returned (.tuple #[.agg (spC3 (fnM t path).1), .int .i64 (fnM t path).2.2]) ∧ Below w.heap.size w w' := by
  have HF : Hid (∀ W, Below w.heap.size w W → Calls Try.prog 51 #[t.v, .slice p path.length cap] W fun e w' => e = .returned (.tuple #[.agg (spC3 (fnM t path).1), .int .i64 (fnM t path).2.1, .int .i64 (fnM t path).2.2]) ∧ Below W.heap.size W w') := fun W h => find_any t p cap path W ((hin.below h).mono h.size) ((hp.below h).mono h.size) hpl
  have HT0 := veil (FdS.new w t)
  clear hin hp
  generalize fnM t path = FN at *
  obtain ⟨⟨a, b, c⟩, z, er⟩ := FN
  unfold ShT.v ShT.cs spC3 at *
  simp only at *
  go_enter Try.func30, Try.ntmps30
  go_upto_region 1 with fail
  generalize ((w.alloc (.cells #[.int .i64 t.sh, .int .i64 t.k, .int .i64 t.n, .slice t.op t.of.length t.oc, .slice t.fp t.fs.length t.fc, .bool t.pk, .int .i64 t.al] 25)).alloc (.cells #[.int .i64 0, .int .i64 0, .int .i64 0] 42)) = W0 at HT0 ⊢
  obtain ⟨y0, y1, y2, y3, y4, y5, y6⟩ := (unveil HT0).t.seven
  go_upto_region 2 with (go_at_call 51; refine (unveil HF _ (unveil HT0).be).mono ?_; rintro e W1 ⟨rfl, hb1⟩; have hs := ((unveil HT0).below hb1).two (.int .i64 a) (.int .i64 b) (.int .i64 c); have HS := veil hs; clear hb1 hs)
  obtain ⟨⟨z0, z1, z2⟩, ⟨f0, f1, f2⟩, zl⟩ := (unveil HS).1.cells
  have e0 := (unveil HS).2.cell 0
  have e1 := (unveil HS).2.cell 1
  have e2 := (unveil HS).2.cell 2
  have el := (unveil HS).2.lt
  simp only [List.getElem?_toArray, List.getElem?_cons_zero, List.getElem?_cons_succ] at e0 e1 e2
  generalize (W1.alloc (.cells #[.int .i64 a, .int .i64 b, .int .i64 c] 42)) = W2 at *
  generalize W1.heap.size = SB at *
  go_wp2_with fail
  obtain ⟨q1, q2⟩ := (unveil HS).1.fin (.int .i64 a) (.int .i64 b) (.int .i64 c) _ rfl
  exact bodyPost_ret (res_st (f := Try.f30) (i := 5) rfl rfl q1 rfl) rfl ⟨rfl, q2⟩
/-- What findIn tells of so many bytes. -/
def fiM (t : ShT) (n : Nat) (path : List Int) : (Int × Int × Int) × Int := if (fnM t path).2.2 == 0 && ((n : Int) != (fnM t path).2.1) then ((0, 0, 0), 2) else ((fnM t path).1, (fnM t path).2.2)
set_option maxRecDepth 100000 in
set_option maxHeartbeats 20000000 in
theorem findIn_any (t : ShT) (T : ByteArray) (p : Option Addr) (cap : Nat) (path : List Int) (w : World) (hin : t.In w.heap.size w) (hp : PaG w.heap.size w p path) (hpl : path.length ≤ maxLen) :
    Calls Try.prog 60 #[t.v, .string T, .slice p path.length cap] w fun e w' => e = .returned (.tuple #[.agg (spC3 (fiM t T.size path).1), .int .i64 (fiM t T.size path).2]) ∧ Below w.heap.size w w' := by
  have HF : Hid (∀ W, Below w.heap.size w W → Calls Try.prog 51 #[t.v, .slice p path.length cap] W fun e w' => e = .returned (.tuple #[.agg (spC3 (fnM t path).1), .int .i64 (fnM t path).2.1, .int .i64 (fnM t path).2.2]) ∧ Below W.heap.size W w') := fun W h => find_any t p cap path W ((hin.below h).mono h.size) ((hp.below h).mono h.size) hpl
  have HT0 := veil (FdS.new w t)
  clear hin hp
  have HFI : Hid (fiM t T.size path = if (fnM t path).2.2 == 0 && ((T.size : Int) != (fnM t path).2.1) then ((0, 0, 0), 2) else ((fnM t path).1, (fnM t path).2.2)) := rfl
  generalize fiM t T.size path = FI at *
  generalize fnM t path = FN at *
  obtain ⟨⟨a, b, c⟩, z, er⟩ := FN
  unfold ShT.v ShT.cs spC3 at *
  simp only at *
  go_enter Try.func60, Try.ntmps60
  go_upto_region 1 with fail
  generalize ((w.alloc (.cells #[.int .i64 t.sh, .int .i64 t.k, .int .i64 t.n, .slice t.op t.of.length t.oc, .slice t.fp t.fs.length t.fc, .bool t.pk, .int .i64 t.al] 25)).alloc (.cells #[.int .i64 0, .int .i64 0, .int .i64 0] 42)) = W0 at HT0 ⊢
  obtain ⟨y0, y1, y2, y3, y4, y5, y6⟩ := (unveil HT0).t.seven
  go_upto_region 2 with (go_at_call 51; refine (unveil HF _ (unveil HT0).be).mono ?_; rintro e W1 ⟨rfl, hb1⟩; have hs := ((unveil HT0).below hb1).two (.int .i64 a) (.int .i64 b) (.int .i64 c); have HS := veil hs; clear hb1 hs)
  obtain ⟨⟨z0, z1, z2⟩, ⟨f0, f1, f2⟩, zl⟩ := (unveil HS).1.cells
  have e0 := (unveil HS).2.cell 0
  have e1 := (unveil HS).2.cell 1
  have e2 := (unveil HS).2.cell 2
  have el := (unveil HS).2.lt
  simp only [List.getElem?_toArray, List.getElem?_cons_zero, List.getElem?_cons_succ] at e0 e1 e2
  generalize (W1.alloc (.cells #[.int .i64 a, .int .i64 b, .int .i64 c] 42)) = W2 at *
  generalize W1.heap.size = SB at *
  clear y0 y1 y2 y3 y4 y5 y6
  cases h1 : er == 0
  · rw [Hid, h1] at HFI
    simp only [Bool.false_and, Bool.false_eq_true, if_false] at HFI
    have HFI' := veil HFI
    clear HFI
    go_wp2_with fail
    obtain ⟨q1, q2⟩ := (unveil HS).1.fin (.int .i64 a) (.int .i64 b) (.int .i64 c) _ rfl
    exact bodyPost_ret (res_st (f := Try.f60) (i := 7) rfl rfl q1 rfl) rfl ⟨by rw [unveil HFI']; rfl, q2⟩
  · cases h2 : (T.size : Int) != z
    · rw [Hid, h1, h2] at HFI
      simp only [Bool.true_and, Bool.false_eq_true, if_false] at HFI
      have HFI' := veil HFI
      clear HFI
      go_wp2_with fail
      obtain ⟨q1, q2⟩ := (unveil HS).1.fin (.int .i64 a) (.int .i64 b) (.int .i64 c) _ rfl
      exact bodyPost_ret (res_st (f := Try.f60) (i := 7) rfl rfl q1 rfl) rfl ⟨by rw [unveil HFI']; rfl, q2⟩
    · rw [Hid, h1, h2] at HFI
      simp only [Bool.true_and, if_true] at HFI
      have HFI' := veil HFI
      clear HFI
      go_wp2_with fail
      obtain ⟨q1, q2⟩ := (unveil HS).1.fin (.int .i64 0) (.int .i64 0) (.int .i64 0) _ rfl
      exact bodyPost_ret (res_st (f := Try.f60) (i := 7) rfl rfl q1 rfl) rfl ⟨by rw [unveil HFI']; rfl, q2⟩
/-- What a path leads to is a number within the type. -/
theorem sp_fits {t : ShT} {path : List Int} (hc : ((chkM t).2 == 0) = true) (ho : okP t path = true) : 0 ≤ (spP t path).1 ∧ 0 < (spP t path).2.1 ∧ (spP t path).2.1 ≤ 64 ∧ (spP t path).1 + (spP t path).2.1 ≤ 8 * (chkM t).1.1 := by
  obtain ⟨_, hn⟩ := okP_iff.1 ho
  obtain ⟨d, hd, hg, h1, h2⟩ := fol_end path 6 (x0M t) 0 (Nat.le_refl 6) (GdN.whole hc)
  unfold spP
  generalize (folM (x0M t) 0 path).2 = E at *
  obtain ⟨y, fr⟩ := E
  simp only at *
  have hb := hg.bits
  have hx : (x0M t).2.2 = 8 * (chkM t).1.1 := rfl
  rw [hx] at h2
  have h64 : (y.1.sh == 1) = true ∨ (y.1.sh == 2) = true → y.2.2 ≤ 64 := fun hs => by
    rcases hg with ⟨g1, g2, g3⟩ | ⟨_, _, _, g⟩
    · cases d with
      | zero => cases g1
      | succ d =>
        rw [g2]
        rw [meaM]
        rcases hs with hs | hs
        · rw [if_pos hs]
          have := siz_cases y.1.k
          simp only
          omega
        · rw [if_neg (by simp at hs; rw [hs]; decide), if_pos hs]
          simp
    · exact g
  unfold nuM at *
  split at hn
  · rename_i h
    rw [if_pos h]
    have := h64 (.inl h)
    simp only
    omega
  · rename_i h
    split at hn
    · rename_i h'
      rw [if_neg h, if_pos h']
      have := h64 (.inr h')
      simp only
      omega
    · cases hn
end Go.Proofs.Ytkiebejidpebdaa
namespace Go.Proofs.Ytkiebejidpebdaa
open Go Go.RowKit Go.Shelf
set_option linter.unusedVariables false
set_option linter.unusedSimpArgs false

/-- Where findIn tells no error, the spot lies within the bytes. -/
theorem fi_ok {t : ShT} {n : Nat} {path : List Int} (h : ((fiM t n path).2 == 0) = true) : ((chkM t).2 == 0) = true ∧ okP t path = true ∧ (n : Int) = (chkM t).1.1 ∧ (fiM t n path).1 = spP t path ∧ n ≤ 65536 ∧
    ∃ (b k : Nat) , (spP t path).1 = b ∧ (spP t path).2.1 = k ∧ 0 < k ∧ k ≤ 64 ∧ b + k ≤ 8 * n := by
  unfold fiM fnM at h ⊢
  cases hc : (chkM t).2 == 0
  · rw [hc] at h
    simp only [Bool.false_eq_true, if_false] at h
    rw [hc] at h
    simp only [Bool.false_and, Bool.false_eq_true, if_false] at h
    rw [hc] at h
    cases h
  · cases ho : okP t path
    · rw [hc, ho] at h
      simp at h
    · rw [hc, ho] at h
      simp only [if_true] at h ⊢
      by_cases hn : (n : Int) = (chkM t).1.1
      · have hne : ((n : Int) != (chkM t).1.1) = false := by simpa using hn
        rw [hne]
        obtain ⟨h1, h2, h3, h4⟩ := sp_fits hc ho
        have hz := chk_size t
        refine ⟨by first | trivial | exact hc, by first | trivial | exact ho, hn, by first | rfl | (rw [hc, ho]; simp), by omega, (spP t path).1.toNat, (spP t path).2.1.toNat, by omega, by omega, by omega, by omega, by omega⟩
      · have hne : ((n : Int) != (chkM t).1.1) = true := by simpa using hn
        rw [hne] at h
        cases h
def gtM (t : ShT) (T : ByteArray) (path : List Int) : Int × Int := if (fiM t T.size path).2 == 0 then (rdM T (spP t path).1.toNat (spP t path).2.1.toNat (spP t path).2.2, 0) else (0, (fiM t T.size path).2)
set_option maxRecDepth 100000 in
set_option maxHeartbeats 20000000 in
theorem Get_any (t : ShT) (T : ByteArray) (p : Option Addr) (cap : Nat) (path : List Int) (w : World) (hin : t.In w.heap.size w) (hp : PaG w.heap.size w p path) (hpl : path.length ≤ maxLen) :
    Calls Try.prog 34 #[t.v, .string T, .slice p path.length cap] w fun e w' => e = .returned (.tuple #[.int .i64 (gtM t T path).1, .int .i64 (gtM t T path).2]) ∧ Below w.heap.size w w' := by
  have HF : Hid (∀ W, Below w.heap.size w W → Calls Try.prog 60 #[t.v, .string T, .slice p path.length cap] W fun e w' => e = .returned (.tuple #[.agg (spC3 (fiM t T.size path).1), .int .i64 (fiM t T.size path).2]) ∧ Below W.heap.size W w') := fun W h => findIn_any t T p cap path W ((hin.below h).mono h.size) ((hp.below h).mono h.size) hpl
  have HT0 := veil (And.intro (TyB.new w t) ((Below.refl _ w).alloc (Nat.le_refl _) (.cells t.cs 25)))
  have HOK := veil (@fi_ok t T.size path)
  have HG : Hid (gtM t T path = if (fiM t T.size path).2 == 0 then (rdM T (spP t path).1.toNat (spP t path).2.1.toNat (spP t path).2.2, 0) else (0, (fiM t T.size path).2)) := rfl
  clear hin hp
  generalize gtM t T path = GT at *
  generalize fiM t T.size path = FI at *
  obtain ⟨⟨a, b, c⟩, er⟩ := FI
  unfold ShT.v ShT.cs spC3 at *
  simp only at *
  cases h1 : er == 0
  · have h1' : (er != 0) = true := by simp only [bne, h1]; rfl
    rw [Hid, h1] at HG
    simp only [Bool.false_eq_true, if_false] at HG
    have HG' := veil HG
    clear HG
    go_enter Try.func34, Try.ntmps34
    go_upto_region 1 with fail
    generalize (w.alloc (.cells #[.int .i64 t.sh, .int .i64 t.k, .int .i64 t.n, .slice t.op t.of.length t.oc, .slice t.fp t.fs.length t.fc, .bool t.pk, .int .i64 t.al] 25)) = W0 at HT0 ⊢
    obtain ⟨y0, y1, y2, y3, y4, y5, y6⟩ := (unveil HT0).1.seven
    go_wp2_with (go_at_call 60; refine (unveil HF _ (unveil HT0).2).mono ?_; rintro e W1 ⟨rfl, hb1⟩; have HB1 := veil ((unveil HT0).2.trans (hb1.mono (unveil HT0).2.size)); clear hb1)
    refine bodyPost_ret (results_tmp2 rfl _ _ _) rfl ?_
    exact ⟨by rw [unveil HG']; rfl, (unveil HB1).alloc (unveil HB1).size _⟩
  · have h1' : (er != 0) = false := by simp only [bne, h1]; rfl
    obtain ⟨_, _, hn, hsp, hT, bb, kk, hb, hk, hk0, hk1, hfit⟩ := unveil HOK h1
    rw [Hid, h1] at HG
    simp only [if_true] at HG
    rw [← hsp] at HG hb hk
    simp only at HG hb hk
    subst hb hk
    rw [Int.toNat_natCast, Int.toNat_natCast] at HG
    have HG' := veil HG
    have HRD := veil (fun W => read_any T bb kk c W (by omega) (by omega) hfit (by omega))
    clear HG HOK hsp hn
    unfold spB at HRD
    go_enter Try.func34, Try.ntmps34
    go_upto_region 1 with fail
    generalize (w.alloc (.cells #[.int .i64 t.sh, .int .i64 t.k, .int .i64 t.n, .slice t.op t.of.length t.oc, .slice t.fp t.fs.length t.fc, .bool t.pk, .int .i64 t.al] 25)) = W0 at HT0 ⊢
    obtain ⟨y0, y1, y2, y3, y4, y5, y6⟩ := (unveil HT0).1.seven
    go_upto_region 4 with (go_at_call 60; refine (unveil HF _ (unveil HT0).2).mono ?_; rintro e W1 ⟨rfl, hb1⟩; have HB1 := veil ((unveil HT0).2.trans (hb1.mono (unveil HT0).2.size)); clear hb1)
    have HB2 := veil ((unveil HB1).alloc (unveil HB1).size (.cells #[.int .i64 (bb : Int), .int .i64 (kk : Int), .int .i64 c] 42))
    have hb2 := Bk.new W1 42 #[.int .i64 (bb : Int), .int .i64 (kk : Int), .int .i64 c]
    generalize (W1.alloc (.cells #[.int .i64 (bb : Int), .int .i64 (kk : Int), .int .i64 c] 42)) = W2 at *
    have e0 := hb2.cell 0
    have e1 := hb2.cell 1
    have e2 := hb2.cell 2
    simp only [List.getElem?_toArray, List.getElem?_cons_zero, List.getElem?_cons_succ] at e0 e1 e2
    generalize W1.heap.size = SB at *
    go_wp2_with (go_at_call 61; refine (unveil HRD _).mono ?_; rintro e W3 ⟨rfl, hb3⟩; have HB3 := veil ((unveil HB2).trans (hb3.mono (unveil HB2).size)); clear hb3)
    refine bodyPost_ret (results_tmp2 rfl _ _ _) rfl ?_
    exact ⟨by rw [unveil HG']; rfl, unveil HB3⟩
end Go.Proofs.Ytkiebejidpebdaa
