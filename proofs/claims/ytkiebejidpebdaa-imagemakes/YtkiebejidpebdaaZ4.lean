/-
  The document's own next.
  Names of members, on lists: what named tells is that one has a name, and that none has another one's.
  ShapeLies: stands.
  ShapeLies: the numbers.
  ShapeLies: what is asked of each member.
  Numbers of the document's box: sizes are above 0; what is too big within makes the whole too big.
-/
import Derived.Test.YtkiebejidpebdaaZ2
import Derived.Test.YtkiebejidpebdaaZ3
import Derived.Test.YtkiebejidpebdaaUp
namespace Go.Proofs.Ytkiebejidpebdaa
open Go Go.RowKit
set_option linter.unusedVariables false
set_option linter.unusedSimpArgs false

set_option maxRecDepth 100000 in
set_option maxHeartbeats 20000000 in
theorem next_any (t : ShT) (f : FdOf ShT) (z a : Int) (bg : Bool) (v : Value) (en : Int) (w : World) (hok : FOk f (z, a)) (he0 : 0 ≤ en) (he1 : en ≤ 1073741824) :
    Calls Try.prog 84 #[t.v, f.v, .agg #[.int .i64 z, .int .i64 a, .bool bg, v], .int .i64 en] w fun e w' => e = .returned (.int .i64 (layM (z, a) f en t.pk).bit) ∧ Below w.heap.size w w' := by
  obtain ⟨h1, h2, h3, h4, h5⟩ := hok
  simp only at h1 h2 h3 h4 h5
  have HU : Hid (∀ m, 1 ≤ m → m ≤ 1099511627776 → ∀ W, Calls Try.prog 85 #[.int .i64 en, .int .i64 m] W fun e w' => e = .returned (.int .i64 (upM en m)) ∧ w' = W) := fun m hm hm2 W => Rup_any en m W he0 (by omega) hm hm2
  have HW0 : Hid ((((w.alloc (.cells t.cs 25)).alloc (.cells f.cs 45)).alloc (.cells #[.int .i64 z, .int .i64 a, .bool bg, v] 32)).cell? ⟨w.heap.size, 5, none⟩ = some (.bool t.pk) ∧
      (((w.alloc (.cells t.cs 25)).alloc (.cells f.cs 45)).alloc (.cells #[.int .i64 z, .int .i64 a, .bool bg, v] 32)).cell? ⟨w.heap.size + 1, 8, none⟩ = some (.int .i64 f.bits) ∧
      (((w.alloc (.cells t.cs 25)).alloc (.cells f.cs 45)).alloc (.cells #[.int .i64 z, .int .i64 a, .bool bg, v] 32)).cell? ⟨w.heap.size + 1 + 1, 0, none⟩ = some (.int .i64 z) ∧
      (((w.alloc (.cells t.cs 25)).alloc (.cells f.cs 45)).alloc (.cells #[.int .i64 z, .int .i64 a, .bool bg, v] 32)).cell? ⟨w.heap.size + 1 + 1, 1, none⟩ = some (.int .i64 a) ∧
      Below w.heap.size w (((w.alloc (.cells t.cs 25)).alloc (.cells f.cs 45)).alloc (.cells #[.int .i64 z, .int .i64 a, .bool bg, v] 32))) := by
    have b1 := Bk.new (w.alloc (.cells t.cs 25)) 45 f.cs
    have b2 := Bk.new ((w.alloc (.cells t.cs 25)).alloc (.cells f.cs 45)) 32 #[.int .i64 z, .int .i64 a, .bool bg, v]
    rw [World.size_alloc] at b1
    rw [World.size_alloc, World.size_alloc] at b2
    exact ⟨(((Bk.new w 25 t.cs).alloc _).alloc _).cell 5, (b1.alloc _).cell 8, b2.cell 0, b2.cell 1, (below_new2 w _ _).alloc (by simp; omega) _⟩
  unfold layM layB
  unfold ShT.v ShT.cs FdOf.v FdOf.cs at *
  generalize t.sh = q1 at *
  generalize t.k = q2 at *
  generalize t.n = q3 at *
  generalize t.op = q4 at *
  generalize t.of.length = q5 at *
  generalize t.oc = q6 at *
  generalize t.fp = q7 at *
  generalize t.fs.length = q8 at *
  generalize t.fc = q9 at *
  generalize t.pk = pk at *
  generalize t.al = q10 at *
  generalize f.bits = bi at *
  by_cases hb : bi < 0
  · rw [if_neg (show ¬ 0 ≤ bi by omega)]
    have HU1 := veil (unveil HU 8 (by omega) (by omega))
    have HU2 := veil (unveil HU (8 * a) (by omega) (by omega))
    clear HU
    cases pk
    · go_enter Try.func84, Try.ntmps84
      go_upto_region 1 with fail
      generalize (World.alloc _ (.cells #[.int .i64 z, .int .i64 a, .bool bg, v] 32)) = W0 at HW0 ⊢
      obtain ⟨y0, y1, y2, y3, hb0⟩ := unveil HW0
      have HB0 := veil hb0
      clear HW0 hb0
      go_wp2_with (go_at_call 85; refine (unveil HU2 _).mono ?_; rintro e w' ⟨rfl, hw'⟩; obtain rfl := hw'.symm)
      go_ret
      exact ⟨by simp, unveil HB0⟩
    · go_enter Try.func84, Try.ntmps84
      go_upto_region 1 with fail
      generalize (World.alloc _ (.cells #[.int .i64 z, .int .i64 a, .bool bg, v] 32)) = W0 at HW0 ⊢
      obtain ⟨y0, y1, y2, y3, hb0⟩ := unveil HW0
      have HB0 := veil hb0
      clear HW0 hb0
      go_wp2_with (go_at_call 85; refine (unveil HU1 _).mono ?_; rintro e w' ⟨rfl, hw'⟩; obtain rfl := hw'.symm)
      go_ret
      exact ⟨by simp, unveil HB0⟩
  · have hb' : 0 ≤ bi := by omega
    obtain ⟨g1, g2, g3⟩ := h5 hb'
    rw [if_pos hb']
    have HU1 := veil (unveil HU (8 * z) (by omega) (by omega))
    clear HU h5
    simp only
    have hz : ¬ 8 * z = 0 := by omega
    by_cases h0 : bi = 0
    · subst h0
      go_enter Try.func84, Try.ntmps84
      go_upto_region 1 with fail
      generalize (World.alloc _ (.cells #[.int .i64 z, .int .i64 a, .bool bg, v] 32)) = W0 at HW0 ⊢
      obtain ⟨y0, y1, y2, y3, hb0⟩ := unveil HW0
      have HB0 := veil hb0
      clear HW0 hb0
      go_upto_region 7 with fail
      go_quiet (fail)
      go_wp2_with (go_at_call 85; refine (unveil HU1 _).mono ?_; rintro e w' ⟨rfl, hw'⟩; obtain rfl := hw'.symm)
      go_ret
      exact ⟨by simp, below_drewS (unveil HB0) _⟩
    · have h0' : (bi == 0) = false := by simpa using h0
      have hcr0 : (en / (8 * z) != (en + bi - 1).tdiv (8 * z)) = (en / (8 * z) != (en + bi - 1) / (8 * z)) := by
        rw [Int.tdiv_eq_ediv_of_nonneg (by omega)]
      rw [hcr0]
      clear hcr0
      cases pk
      · cases hcr : (en / (8 * z) != (en + bi - 1) / (8 * z))
        all_goals
          simp only [h0', Bool.false_or, Bool.true_and, Bool.not_false, Bool.false_and, Bool.false_eq_true, if_true, if_false]
          go_enter Try.func84, Try.ntmps84
          go_upto_region 1 with fail
          generalize (World.alloc _ (.cells #[.int .i64 z, .int .i64 a, .bool bg, v] 32)) = W0 at HW0 ⊢
          obtain ⟨y0, y1, y2, y3, hb0⟩ := unveil HW0
          have HB0 := veil hb0
          clear HW0 hb0
          go_upto_region 7 with fail
          go_quiet (fail)
          go_wp2_with (go_at_call 85; refine (unveil HU1 _).mono ?_; rintro e w' ⟨rfl, hw'⟩; obtain rfl := hw'.symm)
          go_ret
          exact ⟨by simp [h0], below_drewS (unveil HB0) _⟩
      · go_enter Try.func84, Try.ntmps84
        go_upto_region 1 with fail
        generalize (World.alloc _ (.cells #[.int .i64 z, .int .i64 a, .bool bg, v] 32)) = W0 at HW0 ⊢
        obtain ⟨y0, y1, y2, y3, hb0⟩ := unveil HW0
        have HB0 := veil hb0
        clear HW0 hb0
        go_upto_region 7 with fail
        go_quiet (fail)
        go_wp2_with fail
        go_ret
        exact ⟨by simp [h0], below_drewS (unveil HB0) _⟩
end Go.Proofs.Ytkiebejidpebdaa
namespace Go.Proofs.Ytkiebejidpebdaa
open Go Go.RowKit
set_option linter.unusedVariables false
set_option linter.unusedSimpArgs false

/-- None that has a name has one that stands behind it. -/
def dsM : List (List UInt8) → Bool
  | [] => true
  | x :: r => !(!x.isEmpty && decide (x ∈ r)) && dsM r
def hasN (l : List (List UInt8)) : Bool := l.any fun x => !x.isEmpty
theorem nds_facts : ∀ l : List (List UInt8), 
    (nds l : Int) - (if ([] : List UInt8) ∈ l then 1 else 0) + (l.count [] : Nat) ≤ (l.length : Nat) ∧
    (((nds l : Int) - (if ([] : List UInt8) ∈ l then 1 else 0) + (l.count [] : Nat) = (l.length : Nat)) ↔ dsM l = true) ∧
    0 ≤ (nds l : Int) - (if ([] : List UInt8) ∈ l then 1 else 0) ∧
    ((0 < (nds l : Int) - (if ([] : List UInt8) ∈ l then 1 else 0)) ↔ hasN l = true)
  | [] => by simp [nds, dsM, hasN]
  | x :: r => by
    obtain ⟨h1, h2, h3, h4⟩ := nds_facts r
    unfold hasN at h4 ⊢
    simp only [nds, dsM, List.length_cons, List.any_cons]
    by_cases hx : x = []
    · subst hx
      simp only [List.isEmpty_nil, Bool.not_true, Bool.false_and, Bool.not_false, Bool.true_and, Bool.false_or, List.mem_cons_self, if_true, List.count_cons_self]
      by_cases hm : ([] : List UInt8) ∈ r
      · simp only [hm, if_true] at h1 h2 h3 h4 ⊢
        refine ⟨by omega, ?_, by omega, h4⟩
        rw [← h2]; omega
      · simp only [hm, if_false] at h1 h2 h3 h4 ⊢
        refine ⟨by omega, ?_, by omega, ?_⟩
        · rw [← h2]; omega
        · rw [← h4]; omega
    · have hxe : x.isEmpty = false := by cases x with | nil => exact absurd rfl hx | cons => rfl
      have hne : ¬ ([] : List UInt8) = x := fun h => hx h.symm
      have hc : List.count [] (x :: r) = List.count [] r := List.count_cons_of_ne (by simpa using hx)
      have hm0 : (([] : List UInt8) ∈ x :: r) = ([] ∈ r) := by simp [hne]
      simp only [hxe, Bool.not_false, Bool.true_and, Bool.true_or, hc, hm0, iff_true]
      generalize (if ([] : List UInt8) ∈ r then (1 : Int) else 0) = z at *
      by_cases hm : x ∈ r
      · simp only [hm, if_true, decide_true, Bool.not_true, Bool.false_and, Bool.false_eq_true, iff_false]
        have hany : (r.any fun x => !x.isEmpty) = true := List.any_eq_true.2 ⟨x, hm, by simp [hxe]⟩
        refine ⟨by omega, by omega, by omega, h4.2 hany⟩
      · simp only [hm, if_false, decide_false, Bool.not_false, Bool.true_and]
        refine ⟨by omega, ?_, by omega, by omega⟩
        rw [← h2]; omega
theorem nam_is (ns : List (List UInt8)) : namM ns = (hasN ns && dsM ns.reverse) := by
  obtain ⟨h1, h2, h3, h4⟩ := nds_facts ns.reverse
  have hh : hasN ns.reverse = hasN ns := by unfold hasN; simp
  simp only [List.mem_reverse, List.count_reverse, List.length_reverse, hh] at h1 h2 h3 h4
  unfold namM
  simp only
  congr 1
  · rw [Bool.eq_iff_iff, decide_eq_true_eq]; exact h4
  · rw [Bool.eq_iff_iff, beq_iff_eq]; exact h2
theorem ds_app : ∀ {a b : List (List UInt8)}, dsM b = false → dsM (a ++ b) = false
  | [], b, h => h
  | x :: r, b, h => by rw [List.cons_append, dsM, ds_app h, Bool.and_false]
/-- A name that came ahead. -/
theorem ds_no {ns : List (List UInt8)} {k m : Nat} (hk : k < ns.length) (hm : m < k) (he : ns[k].isEmpty = false) (h : ns[m] = ns[k]) : dsM ns.reverse = false := by
  have h1 : ns = ns.take k ++ ns[k] :: ns.drop (k + 1) := by
    rw [← List.drop_eq_getElem_cons hk, List.take_append_drop]
  have h2 : ns.reverse = (ns.drop (k + 1)).reverse ++ (ns[k] :: (ns.take k).reverse) := by
    conv => lhs; rw [h1]
    simp
  rw [h2]
  refine ds_app ?_
  rw [dsM, he]
  have : ns[k] ∈ (ns.take k).reverse := by
    rw [List.mem_reverse, ← h, List.mem_take_iff_getElem]
    exact ⟨m, by omega, rfl⟩
  simp [this]
theorem ds_step {ns : List (List UInt8)} {k : Nat} (hk : k < ns.length) (h0 : dsM (ns.take k).reverse = true) (h : ns[k].isEmpty = true ∨ ∀ m, (hm : m < k) → ns[m] ≠ ns[k]) : dsM (ns.take (k + 1)).reverse = true := by
  rw [List.take_succ_eq_append_getElem hk]
  simp only [List.reverse_append, List.reverse_cons, List.reverse_nil, List.nil_append, List.cons_append, dsM, h0, Bool.and_true]
  rcases h with h | h
  · simp [h]
  · have : ¬ ns[k] ∈ (ns.take k).reverse := by
      rw [List.mem_reverse, List.mem_take_iff_getElem]
      rintro ⟨m, hm, e⟩
      exact h m (by omega) e
    simp [this]
/-- What the document asks of members: each is right, and named so. -/
def rfM (d : Nat) (l : List (FdOf ShT)) : Bool := ffsM l && l.all fun f => rigM d f.t
theorem rf_bad {d : Nat} {l : List (FdOf ShT)} {f : FdOf ShT} (hf : f ∈ l) (h : (rigM d f.t && ffM f) = false) : rfM d l = false := by
  unfold rfM ffsM
  cases hr : rigM d f.t
  · have : (l.all fun f => rigM d f.t) = false := List.all_eq_false.2 ⟨f, hf, by simp [hr]⟩
    rw [this, Bool.and_false]
  · rw [hr, Bool.true_and] at h
    have : l.all ffM = false := List.all_eq_false.2 ⟨f, hf, by simp [h]⟩
    rw [this]; simp
theorem rf_dup {d : Nat} {l : List (FdOf ShT)} {k m : Nat} (hk : k < l.length) (hm : m < k) (he : l[k].nm.isEmpty = false) (h : l[m].nm = l[k].nm) : rfM d l = false := by
  unfold rfM ffsM
  rw [nam_is, ds_no (ns := l.map FdOf.nm) (k := k) (m := m) (by simpa using hk) hm (by simpa using he) (by simpa using h)]
  simp
theorem rf_end {d : Nat} {l : List (FdOf ShT)} (hall : ∀ x ∈ l, (rigM d x.t && ffM x) = true) (hd : dsM (l.map FdOf.nm).reverse = true) : rfM d l = (hasN (l.map FdOf.nm) && decide (l.length ≤ 40)) := by
  unfold rfM ffsM
  have h1 : l.all ffM = true := List.all_eq_true.2 fun x hx => by have := hall x hx; simp only [Bool.and_eq_true] at this; exact this.2
  have h2 : (l.all fun f => rigM d f.t) = true := List.all_eq_true.2 fun x hx => by have := hall x hx; simp only [Bool.and_eq_true] at this; exact this.1
  rw [h1, h2, nam_is, hd]
  simp only [Bool.and_true]
  cases l with
  | nil => simp [hasN]
  | cons x r => simp; rw [Bool.and_comm]
/-- Right types, shape by shape. -/
theorem rig_int {d : Nat} {t : ShT} (h : (t.sh == 1) = true) : rigM (d + 1) t = ((t.fs.length == 0 && !t.pk && t.al == 0) && kiM t.k && t.n == 0 && t.of.length == 0) := by
  unfold rigM formM formW ShT.parts
  rw [h]
  simp only [if_true]
  have hk : decide (0 < sizM t.k) = kiM t.k := by rcases siz_cases t.k with ⟨a, b⟩ | ⟨a, b⟩ <;> rw [b] <;> simp <;> omega
  rw [hk]
  cases h1 : t.fs.length == 0
  · simp
  · cases h2 : t.of.length == 0
    · simp
    · have e1 : t.fs = [] := by simpa using h1
      have e2 : t.of = [] := by simpa using h2
      rw [e1, e2]
      simp
      cases t.n == 0 <;> cases t.pk <;> cases t.al == 0 <;> cases kiM t.k <;> rfl
theorem rig_ptr {d : Nat} {t : ShT} (h1 : (t.sh == 1) = false) (h : (t.sh == 2) = true) : rigM (d + 1) t = ((t.fs.length == 0 && !t.pk && t.al == 0) && t.k == 0 && t.n == 0 && t.of.length == 0) := by
  unfold rigM formM formW ShT.parts
  rw [h1, h]
  simp only [if_true, Bool.false_eq_true, if_false]
  cases h1 : t.fs.length == 0
  · simp
  · cases h2 : t.of.length == 0
    · simp
    · have e1 : t.fs = [] := by simpa using h1
      have e2 : t.of = [] := by simpa using h2
      rw [e1, e2]
      simp
      cases t.n == 0 <;> cases t.pk <;> cases t.al == 0 <;> cases t.k == 0 <;> rfl
theorem rig_arr_no {d : Nat} {t : ShT} (h3 : (t.sh == 3) = true) (h : ((t.fs.length == 0 && !t.pk && t.al == 0) && t.k == 0 && decide (1 ≤ t.n) && t.of.length == 1) = false) : rigM (d + 1) t = false := by
  have hs : t.sh = 3 := by simpa using h3
  unfold rigM formM formW
  rw [hs]
  simp only [Int.reduceBEq, Bool.false_eq_true, if_false, if_true]
  rw [h, Bool.false_and]
theorem rig_arr {d : Nat} {t x : ShT} (h3 : (t.sh == 3) = true) (h : ((t.fs.length == 0 && !t.pk && t.al == 0) && t.k == 0 && decide (1 ≤ t.n) && t.of.length == 1) = true) (hx : t.of = [x]) : rigM (d + 1) t = rigM d x := by
  have hs : t.sh = 3 := by simpa using h3
  show (formM t && t.parts.all (rigM d)) = rigM d x
  unfold formM formW
  rw [hs]
  simp only [Int.reduceBEq, Bool.false_eq_true, if_false, if_true]
  rw [h, Bool.true_and]
  have e1 : t.fs = [] := by
    simp only [Bool.and_eq_true, beq_iff_eq, List.length_eq_zero_iff] at h
    exact h.1.1.1.1.1
  unfold ShT.parts
  rw [hx, e1]
  simp
theorem rig_mem {d : Nat} {t : ShT} (h : (t.sh == 4 || t.sh == 5) = true) : rigM (d + 1) t = (t.k == 0 && t.n == 0 && t.of.length == 0 && aliM t.al && rfM d t.fs) := by
  have hs : t.sh = 4 ∨ t.sh = 5 := by simpa using h
  unfold rigM formM formW rfM ShT.parts
  rw [h]
  have h1 : (t.sh == 1) = false := by simp; omega
  have h2 : (t.sh == 2) = false := by simp; omega
  have h3 : (t.sh == 3) = false := by simp; omega
  rw [h1, h2, h3]
  simp only [if_true, Bool.false_eq_true, if_false]
  cases h4 : t.of.length == 0
  · simp
  · have e2 : t.of = [] := by simpa using h4
    rw [e2]
    simp only [List.nil_append, List.all_map, Function.comp_def, Bool.and_true]
    cases t.n == 0 <;> cases t.k == 0 <;> cases aliM t.al <;> simp
theorem rig_none {d : Nat} {t : ShT} (h1 : (t.sh == 1) = false) (h2 : (t.sh == 2) = false) (h3 : (t.sh == 3) = false) (h4 : (t.sh == 4) = false) (h5 : (t.sh == 5) = false) : rigM (d + 1) t = false := by
  unfold rigM formM formW
  rw [h1, h2, h3, h4, h5]
  simp
end Go.Proofs.Ytkiebejidpebdaa
namespace Go.Proofs.Ytkiebejidpebdaa
open Go Go.RowKit Go.Shelf
set_option linter.unusedVariables false
set_option linter.unusedSimpArgs false

/-- A member lies as it must. -/
def Good (f : FdOf ShT) (m : Mb) (n a : Int) : Prop :=
  (f.bits < 0 → m.bit % (8 * a) = 0 ∧ m.bits = 8 * n) ∧ (f.bits = 0 → m.bit % (8 * sizM f.t.k) = 0) ∧ (0 < f.bits → m.bit / (8 * sizM f.t.k) = (m.bit + m.bits - 1) / (8 * sizM f.t.k))
def StP (w : World) (G : Prop) (e : Ending) (w' : World) : Prop := ∃ b : Bool, e = .returned (.bool b) ∧ Below w.heap.size w w' ∧ (G → b = true)
set_option maxRecDepth 100000 in
set_option maxHeartbeats 8000000 in
theorem stands_any (f : FdOf ShT) (m : Mb) (n a : Int) (w : World) (hin : f.t.In w.heap.size w) (hc : chkM f.t = ((n, a), 0)) (hn0 : 0 ≤ n) (hn1 : n ≤ 65537) (ha0 : 1 ≤ a) (ha1 : a ≤ 64)
    (hb0 : 0 ≤ m.bit) (hb1 : m.bit ≤ 20992320) (hs0 : 0 ≤ m.bits) (hs1 : m.bits ≤ 524296) (hbi : 0 ≤ f.bits → m.bits = f.bits ∧ 1 ≤ sizM f.t.k) :
    Calls Try.prog 28 #[f.v, .agg #[.int .i64 m.bit, .int .i64 m.bits, .int .i64 m.k]] w fun e w' => StP w (Good f m n a) e w' := by
  have HZ : Hid (∀ o o', Calls Try.prog 18 #[f.t.v] ((w.alloc o).alloc o') fun r w' => r = .returned (.tuple #[.int .i64 n, .int .i64 a, .int .i64 0]) ∧ Below ((w.alloc o).alloc o').heap.size ((w.alloc o).alloc o') w') := fun o o' => by
    have := Size10_any f.t ((w.alloc o).alloc o') ((hin.below (below_new2 w o o')).mono (by simp; omega))
    rw [hc] at this
    exact this
  have HK := veil (Size_any f.t.k)
  have hsz := siz_cases f.t.k
  have HX : Hid (∀ w1, Below ((w.alloc (.cells f.cs 45)).alloc (.cells #[.int .i64 m.bit, .int .i64 m.bits, .int .i64 m.k] 42)).heap.size ((w.alloc (.cells f.cs 45)).alloc (.cells #[.int .i64 m.bit, .int .i64 m.bits, .int .i64 m.k] 42)) w1 →
      Bk w1 w.heap.size 45 f.cs ∧ Bk w1 (w.heap.size + 1) 42 #[.int .i64 m.bit, .int .i64 m.bits, .int .i64 m.k] ∧ Below w.heap.size w w1) := fun w1 h => by
    have h1 := Bk.new (w.alloc (.cells f.cs 45)) 42 #[.int .i64 m.bit, .int .i64 m.bits, .int .i64 m.k]
    rw [World.size_alloc] at h1
    exact ⟨((Bk.new w _ _).alloc _).below h, h1.below h, (below_new2 w _ _).trans (h.mono (by simp; omega))⟩
  obtain ⟨G, HG⟩ : ∃ G : Prop, Hid (G ↔ Good f m n a) := ⟨_, Iff.rfl⟩
  have HP : Hid (∀ e w', StP w G e w' → StP w (Good f m n a) e w') := fun e w' ⟨b, h1, h2, h3⟩ => ⟨b, h1, h2, fun g => h3 ((unveil HG).2 g)⟩
  refine Calls.mono (R := fun e w' => StP w G e w') ?_ (unveil HP)
  have HG2 : Hid (G → Good f m n a) := (unveil HG).1
  clear HP HG hin hc
  obtain ⟨bt, bs, km, ml⟩ := m
  simp only at *
  unfold FdOf.v FdOf.cs ShT.v ShT.cs at *
  unfold Good at HG2
  simp only at HG2
  generalize f.t.sh = a1 at *
  generalize sizM f.t.k = z at *
  generalize f.t.k = a2 at *
  generalize f.t.n = a3 at *
  generalize f.t.op = a4 at *
  generalize f.t.of.length = a4l at *
  generalize f.t.oc = a4c at *
  generalize f.t.fp = a5 at *
  generalize f.t.fs.length = a5l at *
  generalize f.t.fc = a5c at *
  generalize f.t.pk = a6 at *
  generalize f.t.al = a7 at *
  generalize f.bits = bi at *
  generalize f.nm = nm at *
  by_cases hlt : bi < 0
  · have h8 : ¬ 8 * a = 0 := by omega
    clear hbi hsz
    have HG3 : Hid (G → bt % (8 * a) = 0 ∧ bs = 8 * n) := fun g => (unveil HG2 g).1 hlt
    have hbm : bt.tmod (8 * a) = bt % (8 * a) := Int.tmod_eq_emod_of_nonneg hb0
    clear HG2
    go_enter Try.func28, Try.ntmps28
    go_wp2_with (go_at_call 18; refine (unveil HZ _ _).mono ?_; rintro r w1 ⟨rfl, hb1⟩; obtain ⟨x1, x2, x3⟩ := unveil HX w1 hb1; obtain ⟨c0, c1, c2, c3, c4, c5, c6, c7, c8⟩ := x1.nine; have d0 := x2.cell 0; have d1 := x2.cell 1; simp only [List.getElem?_toArray, List.getElem?_cons_succ, List.getElem?_cons_zero] at d0 d1; have XB := veil x3; clear x1 x2 x3)
    all_goals go_ret
    all_goals (
      refine ⟨_, rfl, unveil XB, fun g => ?_⟩
      obtain ⟨g1, g2⟩ := unveil HG3 g
      first
      | (simp [g2]; done)
      | (exfalso; simp_all; done))
  · obtain ⟨rfl, hz1⟩ := hbi (by omega)
    have hz8 : z ≤ 8 := by omega
    clear hbi hsz
    have hu : ¬ 8 * z = 0 := by omega
    have hge : ¬ bs < 0 := hlt
    have HSX : Hid (∀ w1, Bk w1 w.heap.size 45 #[.string ⟨nm.toArray⟩, .int .i64 a1, .int .i64 a2, .int .i64 a3, .slice a4 a4l a4c, .slice a5 a5l a5c, .bool a6, .int .i64 a7, .int .i64 bs] → Bk w1 (w.heap.size + 1) 42 #[.int .i64 bt, .int .i64 bs, .int .i64 km] →
        w1.cell? ⟨w.heap.size, 2, none⟩ = some (.int .i64 a2) ∧ w1.cell? ⟨w.heap.size, 8, none⟩ = some (.int .i64 bs) ∧ w1.cell? ⟨w.heap.size + 1, 0, none⟩ = some (.int .i64 bt) ∧ w1.cell? ⟨w.heap.size + 1, 1, none⟩ = some (.int .i64 bs)) := fun w1 h1 h2 => ⟨h1.cell 2, h1.cell 8, h2.cell 0, h2.cell 1⟩
    have hqe : (bs == bs) = true := by simp
    cases h0 : bs == 0
    · have hpos : bs > 0 := by have : ¬ bs = 0 := by simpa using h0
                               omega
      have HG3 : Hid (G → bt / (8 * z) = (bt + bs - 1) / (8 * z)) := fun g => (unveil HG2 g).2.2 hpos
      clear HG2
      go_enter Try.func28, Try.ntmps28
      go_wp2_with (first
        | (go_at_call 18; refine (unveil HZ _ _).mono ?_; rintro r w1 ⟨rfl, hb1⟩; obtain ⟨x1, x2, x3⟩ := unveil HX w1 hb1; obtain ⟨c2, c8, d0, d1⟩ := unveil HSX w1 x1 x2; have XB := veil x3; clear x1 x2 x3)
        | (go_at_call 49; refine (unveil HK _).mono ?_; rintro e w' ⟨rfl, hw'⟩; obtain rfl := hw'.symm))
      go_quiet (fail)
      go_wp2_with fail
      go_ret
      refine ⟨_, rfl, below_drewS (unveil XB) _, fun g => ?_⟩
      have g1 := unveil HG3 g
      simp [g1]
    · have HG3 : Hid (G → bt % (8 * z) = 0) := fun g => (unveil HG2 g).2.1 (by simpa using h0)
      clear HG2
      obtain rfl : bs = 0 := by simpa using h0
      clear h0
      have hbm : bt.tmod (8 * z) = bt % (8 * z) := Int.tmod_eq_emod_of_nonneg hb0
      cases hR : bt % (8 * z) == 0
      all_goals (
        go_enter Try.func28, Try.ntmps28
        go_wp2_with (first
          | (go_at_call 18; refine (unveil HZ _ _).mono ?_; rintro r w1 ⟨rfl, hb1⟩; obtain ⟨x1, x2, x3⟩ := unveil HX w1 hb1; obtain ⟨c2, c8, d0, d1⟩ := unveil HSX w1 x1 x2; have XB := veil x3; clear x1 x2 x3)
          | (go_at_call 49; refine (unveil HK _).mono ?_; rintro e w' ⟨rfl, hw'⟩; obtain rfl := hw'.symm))
        go_quiet (fail)
        go_wp2_with fail
        go_ret
        refine ⟨_, rfl, below_drewS (unveil XB) _, fun g => ?_⟩
        have g1 := unveil HG3 g
        first
        | rfl
        | (exfalso; rw [g1] at hR; cases hR)
        | (simp_all; done))
end Go.Proofs.Ytkiebejidpebdaa
namespace Go.Proofs.Ytkiebejidpebdaa
open Go Go.RowKit Go.Shelf
set_option linter.unusedVariables false

theorem ml_congr {f g : ShT → Int × Int} (pk st : Bool) : ∀ (l : List (FdOf ShT)) (en : Int), (∀ x ∈ l, f x.t = g x.t) → mlM f pk st en l = mlM g pk st en l
  | [], _, _ => rfl
  | x :: r, en, h => by
    rw [mlM, mlM, h x (by simp), ml_congr pk st r _ (fun y hy => h y (by simp [hy]))]
theorem rig_up : ∀ (d : Nat) (t : ShT), rigM d t = true → rigM (d + 1) t = true ∧ meaM (d + 1) t = meaM d t
  | 0, _, h => by cases h
  | d + 1, t, h => by
    obtain ⟨hf, hp⟩ := rig_form h
    refine ⟨?_, ?_⟩
    · rw [rigM, hf, Bool.true_and]
      exact List.all_eq_true.2 (fun x hx => (rig_up d x (hp x hx)).1)
    · rw [meaM, meaM]
      split
      · rfl
      · split
        · rfl
        · split
          · cases hof : t.of with
            | nil => rfl
            | cons x r =>
              have hx := hp x (by unfold ShT.parts; rw [hof]; simp)
              simp only [(rig_up d x hx).2]
          · unfold ShT.ml
            rw [ml_congr _ _ _ _ (fun f hfm => (rig_up d f.t (hp _ (fs_part hfm))).2)]
theorem ml_mem (meas : ShT → Int × Int) (pk st : Bool) : ∀ (l : List (FdOf ShT)) (en : Int), 0 ≤ en → (∀ f ∈ l, FOk f (meas f.t)) → ∀ x ∈ mlM meas pk st en l, x.1 ∈ l ∧ ∃ en', 0 ≤ en' ∧ (st = false → en' = en) ∧ x.2 = layM (meas x.1.t) x.1 en' pk
  | [], _, _, _, x, hx => by cases hx
  | f :: r, en, h0, hok, x, hx => by
    rw [mlM] at hx
    obtain ⟨b1, b2, b3, b4, _, _⟩ := lay_bound (hok f (by simp)) h0 pk
    rcases List.mem_cons.1 hx with rfl | hx
    · exact ⟨by simp, en, h0, fun _ => rfl, rfl⟩
    · obtain ⟨h1, en', h2, h3, h4⟩ := ml_mem meas pk st r _ (by split <;> omega) (fun g hg => hok g (by simp [hg])) x hx
      refine ⟨by simp [h1], en', h2, fun hs => ?_, h4⟩
      rw [h3 hs, hs]
      rfl
/-- In a struct they rise. -/
theorem ml_rise (meas : ShT → Int × Int) (pk : Bool) : ∀ (l : List (FdOf ShT)) (en : Int), 0 ≤ en → (∀ f ∈ l, FOk f (meas f.t)) → ∀ (i : Nat) (h : i < (mlM meas pk true en l).length),
    (if h0 : i = 0 then en else ((mlM meas pk true en l)[i - 1]'(by omega)).2.bit + ((mlM meas pk true en l)[i - 1]'(by omega)).2.bits) ≤ (mlM meas pk true en l)[i].2.bit
  | [], _, _, _, i, h => by simp [mlM] at h
  | f :: r, en, h0, hok, i, h => by
    obtain ⟨b1, b2, b3, b4, _, _⟩ := lay_bound (hok f (by simp)) h0 pk
    cases i with
    | zero => simp only [mlM, dif_pos, List.getElem_cons_zero]; exact b1
    | succ i =>
      have ih := ml_rise meas pk r ((layM (meas f.t) f en pk).bit + (layM (meas f.t) f en pk).bits) (by omega) (fun g hg => hok g (by simp [hg])) i (by simpa [mlM] using h)
      simp only [mlM, if_true, List.getElem_cons_succ]
      cases i with
      | zero => simpa using ih
      | succ i => simpa using ih
theorem enF_mem : ∀ (l : List (FdOf ShT × Mb)) (x : FdOf ShT × Mb), x ∈ l → x.2.bit + x.2.bits ≤ enF l := by
  intro l x hx
  unfold enF
  have mono : ∀ (l : List (FdOf ShT × Mb)) (a : Int), a ≤ l.foldl (fun a x => max a (x.2.bit + x.2.bits)) a := by
    intro l
    induction l with
    | nil => intro a; exact Int.le_refl _
    | cons y r ih => intro a; exact Int.le_trans (by omega) (ih (max a (y.2.bit + y.2.bits)))
  suffices ∀ a, x.2.bit + x.2.bits ≤ l.foldl (fun a x => max a (x.2.bit + x.2.bits)) a from this 0
  induction l with
  | nil => cases hx
  | cons y r ih =>
    intro a
    rcases List.mem_cons.1 hx with rfl | hx
    · exact Int.le_trans (by omega) (mono r (max a (x.2.bit + x.2.bits)))
    · exact ih hx _
theorem alF_le (a0 : Int) : ∀ (l : List (FdOf ShT × Mb)), a0 ≤ alF a0 l := by
  intro l
  unfold alF
  have mono : ∀ (l : List (FdOf ShT × Mb)) (a : Int), a ≤ l.foldl (fun a x => max a x.2.al) a := by
    intro l
    induction l with
    | nil => intro a; exact Int.le_refl _
    | cons y r ih => intro a; exact Int.le_trans (by omega) (ih (max a y.2.al))
  exact Int.le_trans (by omega) (mono l (max 1 a0))
theorem upM_mul (n u : Int) : upM n u % u = 0 := by unfold upM; exact Int.mul_emod_left _ _
theorem good_of {f : FdOf ShT} {e : Int × Int} {en : Int} (h0 : 0 ≤ en) (hok : FOk f e) (hk : 0 ≤ f.bits → e.1 = sizM f.t.k) : Good f (layM e f en false) e.1 e.2 := by
  obtain ⟨o1, o2, o3, o4, o5⟩ := hok
  refine ⟨fun hb => ?_, fun hb => ?_, fun hb => ?_⟩
  · unfold layM
    rw [if_neg (by omega)]
    simp only [Bool.false_eq_true, if_false]
    exact ⟨upM_mul _ _, trivial⟩
  · unfold layM layB
    rw [if_pos (by omega), hb, ← hk (by omega)]
    simp only [beq_self_eq_true, Bool.true_or, if_true]
    exact upM_mul _ _
  · obtain ⟨q1, q2, q3⟩ := o5 (by omega)
    have hz := hk (by omega)
    have hc := siz_cases f.t.k
    unfold layM layB
    rw [if_pos (by omega), ← hz]
    simp only [Bool.not_false, Bool.and_true]
    have hn0 : (f.bits == 0) = false := by simp; omega
    rw [hn0, Bool.false_or]
    have htd : (en + f.bits - 1).tdiv (8 * e.1) = (en + f.bits - 1) / (8 * e.1) := Int.tdiv_eq_ediv_of_nonneg (by omega)
    rw [htd]
    have hm := upM_mul en (8 * e.1)
    have hu := upM_le (n := en) (m := 8 * e.1) h0 (by omega)
    generalize upM en (8 * e.1) = U at *
    have he : e.1 = 1 ∨ e.1 = 2 ∨ e.1 = 4 ∨ e.1 = 8 := by omega
    split
    · rcases he with he | he | he | he <;> rw [he] at hm hu q3 ⊢ <;> omega
    · rename_i hcr
      simpa using hcr
end Go.Proofs.Ytkiebejidpebdaa
namespace Go.Proofs.Ytkiebejidpebdaa
open Go Go.RowKit Go.Shelf
set_option linter.unusedVariables false

theorem ml_fst (meas : ShT → Int × Int) (pk st : Bool) : ∀ (l : List (FdOf ShT)) (en : Int), (mlM meas pk st en l).map Prod.fst = l
  | [], _ => rfl
  | f :: r, en => by rw [mlM, List.map_cons, ml_fst meas pk st r]
/-- What the law asks of the member at i. -/
structure LiF (t : ShT) (n : Int) (f : FdOf ShT) (m : Mb) (at0 : Int) : Prop where
  b0 : 0 ≤ m.bit
  b1 : m.bit ≤ 20992320
  s0 : 0 ≤ m.bits
  s1 : m.bits ≤ 524296
  le : m.bit + m.bits ≤ 8 * n
  st : t.sh = 4 → at0 ≤ m.bit
  un : t.sh = 5 → m.bit = 0
  chk : chkM f.t = (meaM 5 f.t, 0)
  e : EOk (meaM 5 f.t)
  bi : 0 ≤ f.bits → m.bits = f.bits ∧ 1 ≤ sizM f.t.k
  good : t.pk = false → Good f m (meaM 5 f.t).1 (meaM 5 f.t).2
def atM (l : List (FdOf ShT × Mb)) (i : Nat) : Int := if h : 0 < i ∧ i - 1 < l.length then (l[i - 1]'h.2).2.bit + (l[i - 1]'h.2).2.bits else 0
theorem lies_facts (t : ShT) (hrg : rigM 6 t = true) (hs : t.sh = 4 ∨ t.sh = 5) (n a : Int) (hc : chkM t = ((n, a), 0)) :
    n % a = 0 ∧ t.al ≤ a ∧ 1 ≤ a ∧ a ≤ 64 ∧ 0 ≤ n ∧ n ≤ 65536 ∧ t.fs.length ≤ 40 ∧ (t.ml (meaM 5)).length = t.fs.length ∧
    ∀ (i : Nat) (h : i < t.fs.length) (h' : i < (t.ml (meaM 5)).length), ((t.ml (meaM 5))[i]).1 = t.fs[i] ∧ LiF t n t.fs[i] ((t.ml (meaM 5))[i]).2 (atM (t.ml (meaM 5)) i) := by
  obtain ⟨hf, hp⟩ := rig_form hrg
  have h1 : (t.sh == 1) = false := by simp; omega
  have h2 : (t.sh == 2) = false := by simp; omega
  have h3 : (t.sh == 3) = false := by simp; omega
  obtain ⟨_, _, _, _, ha, hfs⟩ := form_struct hf h1 h2 h3
  obtain ⟨f1, f2, f3, _⟩ := ffs_all hfs
  have hok : ∀ f ∈ t.fs, FOk f (meaM 5 f.t) := fun f hfm => fok_of (mea_ok 5) (f3 f hfm) (hp _ (fs_part hfm))
  have hmo : ∀ x ∈ t.ml (meaM 5), MOk x.2 := ml_ok (meaM 5) t.pk (t.sh == 4) t.fs 0 0 hok (by omega) (by omega) (by omega)
  have hen := enF_ok _ hmo
  have hao := alF_ok t.al (ali_le ha).2 _ hmo
  have hm6 : meaM 6 t = memM t (t.ml (meaM 5)) := by
    rw [meaM, h1, h2, h3]
    rfl
  unfold chkM at hc
  rw [hrg, if_pos rfl, hm6] at hc
  unfold memM at hc
  obtain ⟨p1, p2, _⟩ := upM_le (n := enF (t.ml (meaM 5))) (m := 8) hen.1 (by omega)
  have p0 := upM_mul (enF (t.ml (meaM 5))) 8
  obtain ⟨p3, p4, p5⟩ := upM_le (n := upM (enF (t.ml (meaM 5))) 8 / 8) (m := alF t.al (t.ml (meaM 5))) (by omega) hao.1
  split at hc
  · simp at hc
  · rename_i hle
    simp only at hle
    simp only [Prod.mk.injEq, and_true] at hc
    obtain ⟨hn, hal⟩ := hc
    have hmin : min (upM (upM (enF (t.ml (meaM 5))) 8 / 8) (alF t.al (t.ml (meaM 5)))) 65537 = upM (upM (enF (t.ml (meaM 5))) 8 / 8) (alF t.al (t.ml (meaM 5))) := by omega
    rw [hmin] at hn
    have hall := alF_le t.al (t.ml (meaM 5))
    have h8n : enF (t.ml (meaM 5)) ≤ 8 * n := by omega
    refine ⟨by rw [← hn, ← hal]; exact p5, by omega, by omega, by omega, by omega, by omega, f1, ml_len _ _ _ _ _, fun i h h' => ?_⟩
    have hx : (t.ml (meaM 5))[i] ∈ t.ml (meaM 5) := List.getElem_mem _
    have hfst : ((t.ml (meaM 5))[i]).1 = t.fs[i] := by
      have e1 : (t.ml (meaM 5)).map Prod.fst = t.fs := ml_fst _ _ _ _ _
      have e2 : ((t.ml (meaM 5)).map Prod.fst)[i]'(by simpa using h') = t.fs[i] := by simp only [e1]
      simpa using e2
    refine ⟨hfst, ?_⟩
    obtain ⟨hfm, en', q0, q1, q2⟩ := ml_mem (meaM 5) t.pk (t.sh == 4) t.fs 0 (by omega) hok _ hx
    have hme := enF_mem _ _ hx
    obtain ⟨m1, m2, m3, m4, m5⟩ := hmo _ hx
    rw [hfst] at hfm q2
    have hfo := hok _ hfm
    obtain ⟨b1, b2, b3, b4, b5, b6⟩ := lay_bound hfo q0 t.pk
    rw [← q2] at b1 b2 b3 b4 b5 b6
    have hr5 := hp _ (fs_part hfm)
    have heo := mea_ok 5 _ hr5
    have hff := f3 _ hfm
    have hsz : 0 ≤ t.fs[i].bits → (meaM 5 t.fs[i].t).1 = sizM t.fs[i].t.k ∧ 1 ≤ sizM t.fs[i].t.k := fun hb => by
      unfold ffM at hff
      rw [if_neg (by omega)] at hff
      split at hff
      · cases hff
      · simp only [Bool.and_eq_true, decide_eq_true_eq] at hff
        have hz := (form_int (rig_form hr5).1 hff.1).1
        refine ⟨?_, by omega⟩
        rw [meaM, hff.1]
        rfl
    have hbits : ((t.ml (meaM 5))[i]).2.bits = if 0 ≤ t.fs[i].bits then t.fs[i].bits else 8 * (meaM 5 t.fs[i].t).1 := by
      rw [q2]
      unfold layM layB
      split <;> rfl
    refine ⟨m1, by omega, m2, by omega, by omega, fun h4 => ?_, fun h5 => ?_, ?_, heo, fun hb => ⟨by rw [hbits, if_pos hb], (hsz hb).2⟩, fun hpk => ?_⟩
    · have hst : (t.sh == 4) = true := by simp [h4]
      have hr := ml_rise (meaM 5) t.pk t.fs 0 (by omega) hok i (by rw [ml_len]; exact h)
      have hml : t.ml (meaM 5) = mlM (meaM 5) t.pk true 0 t.fs := by unfold ShT.ml; rw [hst]
      unfold atM
      simp only [hml]
      split
      · rename_i hi0
        rw [dif_neg (by omega)] at hr
        exact hr
      · rename_i hi0
        rw [dif_pos (by rw [ml_len] at hi0; omega)] at hr
        exact hr
    · have hst : (t.sh == 4) = false := by simp [h5]
      have hz0 := q1 hst
      rw [q2, hz0]
      unfold layM layB
      have hu0 : ∀ u : Int, 0 < u → upM 0 u = 0 := fun u hu => by
        unfold upM
        rw [show (0 + u - 1) = u - 1 by omega, Int.ediv_eq_zero_of_lt (by omega) (by omega)]; simp
      split
      · rename_i hb
        have := hfo.2.2.2.2 hb
        simp only [hu0 _ (show 0 < 8 * (meaM 5 t.fs[i].t).1 by omega), ite_self]
      · have := hfo.2.2.1
        simp only
        exact hu0 _ (by split <;> omega)
    · unfold chkM
      rw [(rig_up 5 _ hr5).1, if_pos rfl, (rig_up 5 _ hr5).2, if_neg]
      have hb2 := hbits
      by_cases hb : 0 ≤ t.fs[i].bits
      · have := hsz hb
        have hcs := siz_cases t.fs[i].t.k
        omega
      · rw [if_neg hb] at hb2
        omega
    · rw [q2, hpk]
      exact good_of q0 hfo (fun hb => (hsz hb).1)
end Go.Proofs.Ytkiebejidpebdaa
namespace Go.Proofs.Ytkiebejidpebdaa
open Go Go.RowKit
set_option linter.unusedVariables false
set_option linter.unusedSimpArgs false

theorem mea_bit {d : Nat} {f : FdOf ShT} (hf : ffM f = true) (hr : rigM d f.t = true) (hb : 0 ≤ f.bits) : (meaM d f.t).1 = (meaM d f.t).2 := by
  unfold ffM at hf
  rw [if_neg (by omega)] at hf
  split at hf
  · cases hf
  · simp only [Bool.and_eq_true, decide_eq_true_eq] at hf
    cases d with
    | zero => cases hr
    | succ d => rw [meaM, hf.1]; rfl
theorem lay_al {f : FdOf ShT} {e : Int × Int} (hok : FOk f e) (hf : ffM f = true) (he : 0 ≤ f.bits → e.1 = e.2) {A : Int} (hA : 1 ≤ A) (en : Int) (pk : Bool) :
    max A (layM e f en pk).al = if !pk && !f.nm.isEmpty then max A e.2 else A := by
  obtain ⟨h1, h2, h3, h4, h5⟩ := hok
  unfold layM
  by_cases hb : 0 ≤ f.bits
  · rw [if_pos hb]
    have := he hb
    unfold layB
    simp only
    cases pk <;> cases f.nm.isEmpty <;> simp <;> omega
  · rw [if_neg hb]
    unfold ffM at hf
    rw [if_pos (by omega)] at hf
    simp only
    cases pk
    · rw [hf]; simp
    · simp; omega
theorem ml_of {meas : ShT → Int × Int} {t : ShT} {f : FdOf ShT} (hok : ∀ f ∈ t.fs, FOk f (meas f.t)) (hf : f ∈ t.fs) : ∃ x ∈ t.ml meas, ∃ en, 0 ≤ en ∧ x.2 = layM (meas f.t) f en t.pk := by
  have h1 := ml_fst meas t.pk (t.sh == 4) t.fs 0
  rw [← h1] at hf
  obtain ⟨x, hx, rfl⟩ := List.mem_map.1 hf
  obtain ⟨_, en, h0, _, he⟩ := ml_mem meas t.pk (t.sh == 4) t.fs 0 (by omega) hok x hx
  exact ⟨x, hx, en, h0, he⟩
theorem mem_ge {t : ShT} {l : List (FdOf ShT × Mb)} {x : FdOf ShT × Mb} (hx : x ∈ l) (h0 : 0 ≤ enF l) (ha : 1 ≤ alF t.al l) (c : Int) (hc : 8 * c - 7 ≤ x.2.bit + x.2.bits) (hc2 : c ≤ 65537) : c ≤ (memM t l).1 := by
  have h1 := enF_mem l x hx
  unfold memM
  simp only
  obtain ⟨p1, p2, p3⟩ := upM_le (n := enF l) (m := 8) h0 (by omega)
  obtain ⟨p4, p5, _⟩ := upM_le (n := upM (enF l) 8 / 8) (m := alF t.al l) (by omega) ha
  omega
theorem mea_pos : ∀ (d : Nat) (t : ShT), rigM d t = true → 1 ≤ (meaM d t).1
  | 0, _, h => by cases h
  | d + 1, t, h => by
    obtain ⟨hf, hp⟩ := rig_form h
    rw [meaM]
    split
    · rename_i h1
      have := (form_int hf h1).1
      simp only; omega
    · split
      · simp
      · rename_i h1 h2
        split
        · rename_i h3
          obtain ⟨_, q1, q2, _⟩ := form_arr hf h3
          match hof : t.of, q2 with
          | [x], _ =>
            simp only
            have e1 := mea_pos d x (hp x (by unfold ShT.parts; rw [hof]; simp))
            have : 1 * 1 ≤ min t.n 65537 * (meaM d x).1 := Int.mul_le_mul (by omega) e1 (by omega) (by omega)
            omega
        · rename_i h3
          obtain ⟨_, _, _, _, ha, hs⟩ := form_struct hf (by simpa using h1) (by simpa using h2) (by simpa using h3)
          obtain ⟨f1, f2, f3, f4⟩ := ffs_all hs
          have hok : ∀ f ∈ t.fs, FOk f (meaM d f.t) := fun f hfm => fok_of (mea_ok d) (f3 f hfm) (hp _ (fs_part hfm))
          have hmo := ml_ok (meaM d) t.pk (t.sh == 4) t.fs 0 0 hok (by omega) (by omega) (by omega)
          have hen := enF_ok _ hmo
          have hao := alF_ok t.al (ali_le ha).2 _ hmo
          rw [nam_is] at f4
          simp only [Bool.and_eq_true] at f4
          unfold hasN at f4
          obtain ⟨nm, hnm, hne⟩ := List.any_eq_true.1 f4.1
          obtain ⟨f, hfm, rfl⟩ := List.mem_map.1 hnm
          obtain ⟨x, hx, en, h0, he⟩ := ml_of hok hfm
          refine mem_ge hx hen.1 hao.1 1 ?_ (by omega)
          have hb := lay_bound (hok f hfm) h0 t.pk
          rw [he]
          have hpos := mea_pos d f.t (hp _ (fs_part hfm))
          have hff := f3 f hfm
          unfold ffM at hff
          by_cases hbi : 0 ≤ f.bits
          · rw [if_neg (by omega)] at hff
            have hb2 : (layM (meaM d f.t) f en t.pk).bits = f.bits := by unfold layM; rw [if_pos hbi]; rfl
            split at hff
            · cases hff
            · rename_i hz
              have : ¬ f.bits = 0 := fun h0 => hz (by rw [h0]; simp at hne ⊢; exact hne)
              omega
          · have hb2 : (layM (meaM d f.t) f en t.pk).bits = 8 * (meaM d f.t).1 := by unfold layM; rw [if_neg hbi]
            omega
theorem big_mem {d : Nat} {t : ShT} {f : FdOf ShT} (hok : ∀ f ∈ t.fs, FOk f (meaM d f.t)) (hfl : t.fs.length ≤ 40) (hal : t.al ≤ 64) (hfm : f ∈ t.fs) (hbg : 65536 < (meaM d f.t).1) : 65536 < (memM t (t.ml (meaM d))).1 := by
  have hmo := ml_ok (meaM d) t.pk (t.sh == 4) t.fs 0 0 hok (by omega) (by omega) (by omega)
  have hen := enF_ok _ hmo
  have hao := alF_ok t.al hal _ hmo
  obtain ⟨x, hx, en, h0, he⟩ := ml_of hok hfm
  obtain ⟨o1, o2, o3, o4, o5⟩ := hok f hfm
  have : ¬ 0 ≤ f.bits := fun h => by have := o5 h; omega
  have hb := lay_bound (hok f hfm) h0 t.pk
  have hb2 : (layM (meaM d f.t) f en t.pk).bits = 8 * (meaM d f.t).1 := by unfold layM; rw [if_neg this]
  have h2 : 65537 ≤ (memM t (t.ml (meaM d))).1 := mem_ge (t := t) hx hen.1 hao.1 65537 (by rw [he]; omega) (by omega)
  omega
theorem big_arr {n z : Int} (hn : 1 ≤ n) (hz : 1 ≤ z) (hz2 : z ≤ 65537) : (decide (65536 < min (min n 65537 * z) 65537) = (decide (65536 < z) || decide (n > 65536) || decide (z * n > 65536))) := by
  rw [Bool.eq_iff_iff]
  simp only [Bool.or_eq_true, decide_eq_true_eq]
  by_cases h : n ≤ 65536
  · have hm : min n 65537 = n := by omega
    rw [hm, Int.mul_comm n z]
    have h1 : z * 1 ≤ z * n := Int.mul_le_mul_of_nonneg_left hn (by omega)
    constructor
    · intro h2; right; omega
    · rintro ((h2 | h2) | h2) <;> omega
  · have hm : min n 65537 = 65537 := by omega
    rw [hm]
    constructor
    · intro _; left; right; omega
    · intro _; omega
theorem small_arr {n z : Int} (hn : 1 ≤ n) (hz : 1 ≤ z) (h : n ≤ 65536) (h2 : z * n ≤ 65536) : min (min n 65537 * z) 65537 = z * n := by
  have hm : min n 65537 = n := by omega
  rw [hm, Int.mul_comm n z]
  omega
end Go.Proofs.Ytkiebejidpebdaa
