/-
  Package image: bitsOf, an iterator over the bits of a spot.
  Package image: read.
  Package image: write.
-/
import Derived.Test.YtkiebejidpebdaaUo
namespace Go.Proofs.Ytkiebejidpebdaa
open Go Go.RowKit Go.Shelf
attribute [local go_sem] Oper.semAt_some
set_option linter.unusedVariables false
set_option linter.unusedSimpArgs false

/-- The mask of a bit in its byte. -/
def mskM (b : Nat) : Int := 2 ^ (b % 8)
def encB (b : Nat) : Array Value := #[.int .i64 ((b / 8 : Nat) : Int), .int .u8 (mskM b)]
/-- The bits of a spot, the lowest first. -/
def bitL (bit bits : Nat) : List Nat := (List.range bits).map (fun i => bit + i)
def spB (bit bits : Nat) (k : Int) : Array Value := #[.int .i64 (bit : Int), .int .i64 (bits : Int), .int .i64 k]
def KpB (Bd : Nat) (A B : World) : Prop := ∀ cs, Bk A Bd 42 cs → Bk B Bd 42 cs
theorem KpB.trans {Bd : Nat} {A B C : World} (h : KpB Bd A B) (k : KpB Bd B C) : KpB Bd A C := fun cs b => k cs (h cs b)
theorem msk_cases (b : Nat) : mskM b = 1 ∨ mskM b = 2 ∨ mskM b = 4 ∨ mskM b = 8 ∨ mskM b = 16 ∨ mskM b = 32 ∨ mskM b = 64 ∨ mskM b = 128 := by
  unfold mskM
  have h : b % 8 = 0 ∨ b % 8 = 1 ∨ b % 8 = 2 ∨ b % 8 = 3 ∨ b % 8 = 4 ∨ b % 8 = 5 ∨ b % 8 = 6 ∨ b % 8 = 7 := by omega
  rcases h with h | h | h | h | h | h | h | h <;> rw [h] <;> decide
theorem encB_eq (bit j : Nat) : encB (bit + j) = #[.int .i64 (((bit : Int) + (j : Int)) / 8), .int .u8 (2 ^ ((bit + j) % 8) % 256)] := by
  have h1 : (((bit + j) / 8 : Nat) : Int) = ((bit : Int) + (j : Int)) / 8 := by push_cast; rfl
  have h2 : (2 ^ ((bit + j) % 8) % 256 : Int) = mskM (bit + j) := by
    have := msk_cases (bit + j)
    unfold mskM at *
    omega
  unfold encB
  rw [h1, h2]
theorem bitsOf_any (v : Array Value) (a b c : Value) (hv : v = #[a, b, c]) (w : World) :
    Calls Try.prog 77 #[.agg v] w fun e w' => e = .returned (.func (.func 90) #[] #[.pointer (some ⟨w.heap.size, 0, none⟩)]) ∧ w' = w.alloc (.cells v 42) := by
  subst hv
  go_enter Try.func77, Try.ntmps77
  go_wp2
  go_ret
  exact ⟨rfl, rfl⟩
set_option maxRecDepth 100000 in
set_option maxHeartbeats 20000000 in
theorem bits1_in (n : Nat) (h1 : 1 ≤ n) (lp Bd bit bits : Nat) (k : Int) (hb : bit ≤ 1000000) (hb2 : bits ≤ 1000000)
    (J Jx : List Nat → World → Prop) (W : World)
    (hJ : AbidesO W.heap.size W.heap.size 0 J) (hJx : AbidesO W.heap.size W.heap.size 0 Jx)
    (hY : ∀ pre x W1, J pre W1 → W.heap.size + 0 ≤ W1.heap.size → noRow 5 W.heap.size 0 W1 → pre ++ [x] <+: bitL bit bits → YieldAt Fence.wide (n - 1) Try.prog lp (encB x) W1 fun e W' =>
      (e = .returned (.bool true) ∧ J (pre ++ [x]) W' ∧ KeepsO W.heap.size 0 W1 W' ∧ KpB Bd W1 W') ∨ (e = .returned (.bool false) ∧ Jx (pre ++ [x]) W' ∧ KeepsO W.heap.size 0 W1 W'))
    (hbk : Bk W Bd 42 (spB bit bits k)) (h0 : J [] W) :
    CallsIn Fence.wide n Try.prog 90 #[.func (.yield lp) #[] #[], .pointer (some ⟨Bd, 0, none⟩)] W fun e W' => (∃ v, e = .returned v) ∧
      (J (bitL bit bits) W' ∨ (∃ pre, pre <+: bitL bit bits ∧ Jx pre W')) := by
  have HY := veil hY
  have HB := veil hbk
  have c0 := hbk.cell 0
  have c1 := hbk.cell 1
  unfold spB at c0 c1
  simp only [List.getElem?_toArray, List.getElem?_cons_zero, List.getElem?_cons_succ] at c0 c1
  clear hY hbk hJ hJx
  refine callsIn_of_wp Try.func90 rfl trivial ?_ rfl
  simp only [Try.ntmps90, List.size_toArray, List.length_cons, List.length_nil, Nat.reduceAdd, Nat.reduceSub, Array.replicate_succ, Array.replicate_zero, List.push_toArray, List.append_toArray, List.nil_append, List.cons_append]
  gi_wp2
  clear c0 c1
  gi_loopw [3] (fun i wr => ∃ (j : Nat), i = .int .i64 ((bit + j : Nat) : Int) ∧ j ≤ bits ∧ Hid (J (bitL bit j) wr) ∧ W.heap.size ≤ wr.heap.size ∧ Hid (Bk wr Bd 42 (spB bit bits k)))
    (fun i wr => bit + bits - (intOf i).toNat)
  case atStart => exact ⟨0, rfl, Nat.zero_le _, h0, Nat.le_refl _, HB⟩
  case round =>
    obtain ⟨j, rfl, hj, hJp, hsz, hbx⟩ := hrel
    have c0 := (unveil hbx).cell 0
    have c1 := (unveil hbx).cell 1
    unfold spB at c0 c1
    simp only [List.getElem?_toArray, List.getElem?_cons_zero, List.getElem?_cons_succ] at c0 c1
    by_cases hlt : j < bits
    · have hci : ((bit + j : Nat) : Int) < (bit : Int) + bits := by push_cast; omega
      have hpre : bitL bit j ++ [bit + j] <+: bitL bit bits := by
        unfold bitL
        have hr : List.range bits = List.range (j + 1) ++ (List.range (bits - (j + 1))).map (fun x => j + 1 + x) := by
          rw [← List.range_add]
          congr 1
          omega
        rw [hr, List.map_append, List.range_succ, List.map_append]
        simp
      obtain ⟨fn, tmps, assign, body, hyy, hRR⟩ := unveil HY _ _ wr (unveil hJp) hsz (fun j c fz q1 q2 => by omega) hpre
      have HR := veil hRR
      have HPRE := veil hpre
      rw [encB_eq] at hyy
      clear hRR hpre
      gi_wp2
      refine (unveil HR).mono ?_
      rintro e W5 (⟨rfl, hJ5, hk5, hb5⟩ | ⟨rfl, hJx5, hk5⟩)
      · have HB5 := veil (hb5 _ (unveil hbx))
        have HJ5 := veil hJ5
        have hs5 := hk5.size
        clear hb5 hJ5 hk5 HR hyy c0 c1
        gi_wp2
        go_roundw
        case rel =>
          refine ⟨j + 1, ?_, by omega, ?_, by omega, HB5⟩
          · go_num
          · have e : bitL bit (j + 1) = bitL bit j ++ [bit + j] := by unfold bitL; rw [List.range_succ, List.map_append]; rfl
            rw [e]
            exact HJ5
        case measure => simp [intOf]; omega
      · gi_wp2
        refine bodyPost_ret (results_none rfl _ _ _) rfl ?_
        exact ⟨⟨_, rfl⟩, .inr ⟨_, unveil HPRE, hJx5⟩⟩
    · have hci : ¬ ((bit + j : Nat) : Int) < (bit : Int) + bits := by push_cast; omega
      obtain rfl : j = bits := by omega
      gi_wp2
      refine bodyPost_end (results_none (fn := Try.f90) rfl _ _ _) rfl ?_
      exact ⟨⟨_, rfl⟩, .inl (unveil hJp)⟩
theorem bits_stops (n : Nat) (h1 : 1 ≤ n) (Bd bit bits : Nat) (k : Int) (hb : bit ≤ 1000000) (hb2 : bits ≤ 1000000) (w : World) (hbk : Bk w Bd 42 (spB bit bits k)) :
    SeqStopsO Fence.wide n 0 Try.prog 90 #[.pointer (some ⟨Bd, 0, none⟩)] encB (KpB Bd) (bitL bit bits) w :=
  fun lp J Jx W hW hJ hJx hY h0 => bits1_in n h1 lp Bd bit bits k hb hb2 J Jx W hJ hJx hY (hbk.below hW) h0
end Go.Proofs.Ytkiebejidpebdaa
namespace Go.Proofs.Ytkiebejidpebdaa
open Go Go.RowKit Go.Shelf
attribute [local go_sem] Oper.semAt_some
set_option linter.unusedVariables false
set_option linter.unusedSimpArgs false

def unsM (k : Int) : Bool := if k == 2 then true else if k == 4 then true else if k == 6 then true else if k == 8 then true else false
set_option maxRecDepth 100000 in
set_option maxHeartbeats 4000000 in
theorem Unsigned10_any (k : Int) (w : World) : Calls Try.prog 78 #[.int .i64 k] w fun e w' => e = .returned (.bool (unsM k)) ∧ w' = w := by
  rcases kcases k with rfl | rfl | rfl | rfl | rfl | rfl | rfl | rfl | ⟨h1, h2, h3, h4, h5, h6, h7, h8⟩
  all_goals (
    go_enter Try.func78, Try.ntmps78
    go_wp2
    go_ret
    refine ⟨?_, rfl⟩
    first | rfl | simp [unsM, *])
/-- The boxes of read: the bytes, the spot, the worth, the next one's worth. -/
structure RdS (w W : World) (T : ByteArray) (cs : Array Value) (wo nx : Int) : Prop where
  t : Bk W w.heap.size 9 #[.string T]
  s : Bk W (w.heap.size + 1) 42 cs
  a : Bk W (w.heap.size + 1 + 1) 2 #[.int .i64 wo]
  b : Bk W (w.heap.size + 1 + 1 + 1) 2 #[.int .i64 nx]
  be : Below w.heap.size w W
theorem RdS.new (w : World) (T : ByteArray) (cs : Array Value) (wo nx : Int) : RdS w ((((w.alloc (.cells #[.string T] 9)).alloc (.cells cs 42)).alloc (.cells #[.int .i64 wo] 2)).alloc (.cells #[.int .i64 nx] 2)) T cs wo nx := by
  have h1 := Bk.new (w.alloc (.cells #[.string T] 9)) 42 cs
  have h2 := Bk.new ((w.alloc (.cells #[.string T] 9)).alloc (.cells cs 42)) 2 #[.int .i64 wo]
  have h3 := Bk.new (((w.alloc (.cells #[.string T] 9)).alloc (.cells cs 42)).alloc (.cells #[.int .i64 wo] 2)) 2 #[.int .i64 nx]
  rw [World.size_alloc] at h1
  rw [World.size_alloc, World.size_alloc] at h2
  rw [World.size_alloc, World.size_alloc, World.size_alloc] at h3
  exact ⟨(((Bk.new w _ _).alloc _).alloc _).alloc _, (h1.alloc _).alloc _, h2.alloc _, h3, ((below_new2 w _ _).alloc (by simp; omega) _).alloc (by simp; omega) _⟩
theorem RdS.below {w W W' : World} {T : ByteArray} {cs : Array Value} {wo nx : Int} (h : RdS w W T cs wo nx) (hb : Below W.heap.size W W') : RdS w W' T cs wo nx := ⟨h.t.below hb, h.s.below hb, h.a.below hb, h.b.below hb, h.be.trans (hb.mono h.be.size)⟩
theorem RdS.turn {w W W' : World} {T : ByteArray} {cs : Array Value} {wo nx : Int} {row : Option Nat} (h : RdS w W T cs wo nx) (hg : W.grownBy W' row) (hr : ∀ r, row = some r → w.heap.size + 4 ≤ r) : RdS w W' T cs wo nx :=
  ⟨h.t.turn hg (fun r e => by have := hr r e; omega), h.s.turn hg (fun r e => by have := hr r e; omega), h.a.turn hg (fun r e => by have := hr r e; omega), h.b.turn hg (fun r e => by have := hr r e; omega), h.be.grown hg h.be.size (fun r e => by have := hr r e; omega)⟩
theorem RdS.setA {w W : World} {T : ByteArray} {cs : Array Value} {wo nx : Int} (h : RdS w W T cs wo nx) (x : Int) : RdS w (W.setCell ⟨w.heap.size + 1 + 1, 0, none⟩ (.int .i64 x)) T cs x nx :=
  ⟨h.t.other _ _ (by omega), h.s.other _ _ (by omega), h.a.set 0 _, h.b.other _ _ (by omega), h.be.setCell (p := ⟨w.heap.size + 1 + 1, 0, none⟩) (by show w.heap.size ≤ w.heap.size + 1 + 1; omega) _⟩
theorem RdS.setB {w W : World} {T : ByteArray} {cs : Array Value} {wo nx : Int} (h : RdS w W T cs wo nx) (x : Int) : RdS w (W.setCell ⟨w.heap.size + 1 + 1 + 1, 0, none⟩ (.int .i64 x)) T cs wo x :=
  ⟨h.t.other _ _ (by omega), h.s.other _ _ (by omega), h.a.other _ _ (by omega), h.b.set 0 _, h.be.setCell (p := ⟨w.heap.size + 1 + 1 + 1, 0, none⟩) (by show w.heap.size ≤ w.heap.size + 1 + 1 + 1; omega) _⟩
theorem RdS.cells {w W : World} {T : ByteArray} {cs : Array Value} {wo nx : Int} (h : RdS w W T cs wo nx) : W.cell? ⟨w.heap.size, 0, none⟩ = some (.string T) ∧ W.cell? ⟨w.heap.size + 1 + 1, 0, none⟩ = some (.int .i64 wo) ∧ W.cell? ⟨w.heap.size + 1 + 1 + 1, 0, none⟩ = some (.int .i64 nx) ∧ W.frozen? ⟨w.heap.size + 1 + 1, 0, none⟩ = false ∧ W.frozen? ⟨w.heap.size + 1 + 1 + 1, 0, none⟩ = false :=
  ⟨h.t.cell 0, h.a.cell 0, h.b.cell 0, h.a.frozen 0, h.b.frozen 0⟩
/-- One bit more is read. -/
def byM (T : ByteArray) (i : Nat) : Int := ((T.data.toList.getD i 0).toNat : Int)
theorem byM_eq (T : ByteArray) (i : Nat) (h : i < T.size) : ((T[i]).toNat : Int) = byM T i := by
  have h2 : i < T.data.toList.length := by simpa using h
  unfold byM
  rw [List.getD_eq_getElem?_getD, List.getElem?_eq_getElem h2, Option.getD_some]
  rfl
def rdSt (T : ByteArray) (s : Int × Int) (b : Nat) : Int × Int := (if bits .and .u8 (byM T (b / 8)) (mskM b) != 0 then bits .or .i64 s.1 s.2 else s.1, wrap64 (s.2 * 2))
def rdF (T : ByteArray) (l : List Nat) : Int × Int := l.foldl (rdSt T) (0, 1)
/-- What read tells. -/
def rdM (T : ByteArray) (bit nb : Nat) (k : Int) : Int := if unsM k then (rdF T (bitL bit nb)).1 else wrap64 ((rdF T (bitL bit nb)).1 * 2 ^ (64 - nb)) / 2 ^ (64 - nb)
/-- What a round hands on. -/
def RdI (w : World) (T : ByteArray) (cs : Array Value) (st : List Nat → Int × Int) (pre : List Nat) (W : World) : Prop := RdS w W T cs (st pre).1 (st pre).2
theorem RdI.abides (w : World) (T : ByteArray) (cs : Array Value) (st : List Nat → Int × Int) (B C : Nat) (h : w.heap.size + 4 ≤ B) : AbidesO B C 0 (RdI w T cs st) :=
  ⟨fun pre X Y row hs hg hr => RdS.turn hs hg (fun r e => by have := (hr r e).1; omega), fun pre X hs => ⟨hs.t, hs.s, hs.a, hs.b, hs.be.drew⟩⟩
set_option maxRecDepth 100000 in
set_option maxHeartbeats 20000000 in
theorem read_any (T : ByteArray) (bit nb : Nat) (k : Int) (w : World) (hb : bit ≤ 1000000) (hb2 : nb ≤ 64) (hT : bit + nb ≤ 8 * T.size) (hTs : T.size ≤ 1000000) :
    Calls Try.prog 61 #[.string T, .agg (spB bit nb k)] w fun e w' => e = .returned (.int .i64 (rdM T bit nb k)) ∧ Below w.heap.size w w' := by
  obtain ⟨R, hR⟩ : ∃ R, rdM T bit nb k = R := ⟨_, rfl⟩
  rw [hR]
  have HRR : Hid (R = if unsM k then (rdF T (bitL bit nb)).1 else wrap64 ((rdF T (bitL bit nb)).1 * 2 ^ (64 - nb)) / 2 ^ (64 - nb)) := hR.symm
  clear hR
  have HBI := veil (fun w => bitsOf_any (spB bit nb k) _ _ _ rfl w)
  have HBS := veil (fun Bd => bits_stops 3 (by decide) Bd bit nb k hb (by omega))
  have HS0 := veil (RdS.new w T (spB bit nb k) 0 1)
  unfold spB at HBI HBS HS0 ⊢
  refine (callsIn_wide (n := 4)).1 ?_
  refine callsIn_of_wp_marks Try.func61 rfl trivial ?_ rfl
  simp only [Try.ntmps61, List.size_toArray, List.length_cons, List.length_nil, Nat.reduceAdd, Nat.reduceSub, Array.replicate_succ, Array.replicate_zero, List.push_toArray, List.append_toArray, List.nil_append, List.cons_append]
  refine wpIn_wide.2 ?_
  go_upto_region 2 with fail
  generalize ((((w.alloc (.cells #[.string T] 9)).alloc (.cells #[.int .i64 (bit : Int), .int .i64 (nb : Int), .int .i64 k] 42)).alloc (.cells #[.int .i64 0] 2)).alloc (.cells #[.int .i64 1] 2)) = W0 at HS0 ⊢
  have s0 := (unveil HS0).s.cell 0
  have s1 := (unveil HS0).s.cell 1
  have s2 := (unveil HS0).s.cell 2
  simp only [List.getElem?_toArray, List.getElem?_cons_zero, List.getElem?_cons_succ] at s0 s1 s2
  go_wp2_with (go_at_call 77; refine (unveil HBI _).mono ?_; rintro e w' ⟨rfl, rfl⟩)
  have hz : (W0.alloc (.cells #[.int .i64 (bit : Int), .int .i64 (nb : Int), .int .i64 k] 42)).heap.size = W0.heap.size + 1 := by simp
  have HB0 : Hid (Bk (W0.alloc (.cells #[.int .i64 (bit : Int), .int .i64 (nb : Int), .int .i64 k] 42)) W0.heap.size 42 #[.int .i64 (bit : Int), .int .i64 (nb : Int), .int .i64 k]) := Bk.new W0 _ _
  have HS1 : Hid (RdS w (W0.alloc (.cells #[.int .i64 (bit : Int), .int .i64 (nb : Int), .int .i64 k] 42)) T #[.int .i64 (bit : Int), .int .i64 (nb : Int), .int .i64 k] 0 1) := (unveil HS0).below ((Below.refl _ W0).alloc (Nat.le_refl _) _)
  have hlw := (unveil HS0).b.lt
  generalize (W0.alloc (.cells #[.int .i64 (bit : Int), .int .i64 (nb : Int), .int .i64 k] 42)) = W1 at *
  clear s0 s1 s2 HS0 HBI
  refine (wpIn_wide (n := 4)).1 ?_
  refine wpIn_rangeFunc_ownO (k := 0) rfl (by decide) (gf := 90) (lb := #[.pointer (some ⟨W0.heap.size, 0, none⟩)]) rfl trivial (enters_of Try.func90 (by kernel_rfl) rfl)
    (unveil HBS W0.heap.size W1 (unveil HB0)) KpB.trans (fun W lb o o' hlb hlo ho _ cs hbk => (World.putObj_heap_other (by omega)).trans hbk) (Below.refl _ _) (fun _ => rfl)
    (RdI w T #[.int .i64 (bit : Int), .int .i64 (nb : Int), .int .i64 k] (rdF T)) (fun c _ W => False) (RdI.abides w T _ _ _ _ (by omega)) (fun c => ⟨fun pre X Y row hs hg hr => hs, fun pre X hs => hs⟩)
    (unveil HS1) (fun b => { tmps := #[.string T, .agg #[.int .i64 (bit : Int), .int .i64 (nb : Int), .int .i64 k], .pointer (some ⟨w.heap.size, 0, none⟩), .pointer (some ⟨w.heap.size + 1, 0, none⟩), .int .i64 0, .pointer (some ⟨w.heap.size + 1 + 1, 0, none⟩), .pointer (some ⟨w.heap.size + 1 + 1 + 1, 0, none⟩), .int .i64 ((b / 8 : Nat) : Int), .int .u8 (mskM b), undef, .agg #[.int .i64 (bit : Int), .int .i64 (nb : Int), .int .i64 k], .func (.func 90) #[] #[.pointer (some ⟨W0.heap.size, 0, none⟩)], .int .i64 ((b / 8 : Nat) : Int), .int .u8 (mskM b), undef, undef, undef, undef, undef, undef, undef, undef, undef, undef, undef, undef, undef, undef, undef, undef, undef, undef, undef, undef, undef, undef, undef], defers := [] })
    ?assign ?body ?done ?stop
  case assign =>
    intro l' x W' K hK
    simp only [encB] at hK ⊢
    gi_wp2
    simpa using hK
  case body =>
    rintro l' pre b W2 hroom hno hI hpre
    have hS : RdS w W2 T #[.int .i64 (bit : Int), .int .i64 (nb : Int), .int .i64 k] (rdF T pre).1 (rdF T pre).2 := hI
    have hbm : b ∈ bitL bit nb := hpre.subset (by simp)
    have hbT : b / 8 < T.size := by
      unfold bitL at hbm
      obtain ⟨i, hi, rfl⟩ := List.mem_map.1 hbm
      have := List.mem_range.1 hi
      omega
    have HIO : Hid (rdF T (pre ++ [b]) = rdSt T (rdF T pre) b) := by
      unfold Hid rdF
      rw [List.foldl_append]
      rfl
    generalize rdF T pre = st at *
    obtain ⟨wo, nx⟩ := st
    simp only at hS
    obtain ⟨c0, c1, c2, f1, f2⟩ := hS.cells
    have HS := veil hS
    clear hS hI hno hpre hbm
    have hm := msk_cases b
    have HM := veil hm
    clear hm
    have hby := byM_eq T (b / 8) hbT
    unfold rdSt at HIO
    simp only at HIO
    rw [← hby] at HIO
    clear hby
    generalize mskM b = M at *
    generalize b / 8 = B8 at *
    have hne1 : W0.heap.size ≠ w.heap.size + 1 + 1 := by omega
    have hne2 : W0.heap.size ≠ w.heap.size + 1 + 1 + 1 := by omega
    cases hC : bits .and .u8 ((T[B8]).toNat : Int) M != 0
    · rw [hC] at HIO
      simp only [Bool.false_eq_true, if_false] at HIO
      gi_wp2
      refine ⟨(KeepsOthers.setCell _ _ _).from _, KeepsO.setCell (.inl (by omega)), fun cs hbk => hbk.other _ _ hne2, ?_⟩
      show RdS w _ T _ (rdF T (pre ++ [b])).1 (rdF T (pre ++ [b])).2
      rw [unveil HIO]
      exact (unveil HS).setB _
    · rw [hC] at HIO
      simp only [if_true] at HIO
      gi_wp2
      refine ⟨((KeepsOthers.setCell _ _ _).from _).trans ((KeepsOthers.setCell _ _ _).from _), (KeepsO.setCell (.inl (by omega))).trans (KeepsO.setCell (.inl (by omega))), fun cs hbk => (hbk.other _ _ hne1).other _ _ hne2, ?_⟩
      show RdS w _ T _ (rdF T (pre ++ [b])).1 (rdF T (pre ++ [b])).2
      rw [unveil HIO]
      exact ((unveil HS).setA _).setB _
  case done =>
    rintro D' W' hD' hI hK
    have hS : RdS w W' T #[.int .i64 (bit : Int), .int .i64 (nb : Int), .int .i64 k] (rdF T (bitL bit nb)).1 (rdF T (bitL bit nb)).2 := hI
    generalize rdF T (bitL bit nb) = st at *
    obtain ⟨wo, nx⟩ := st
    simp only at hS
    obtain ⟨c0, c1, c2, f1, f2⟩ := hS.cells
    have s0 := hS.s.cell 0
    have s1 := hS.s.cell 1
    have s2 := hS.s.cell 2
    simp only [List.getElem?_toArray, List.getElem?_cons_zero, List.getElem?_cons_succ] at s0 s1 s2
    have HS := veil hS
    have HKK := veil hK
    clear hS hI hK
    have HU := veil (Unsigned10_any k)
    obtain ⟨U, hU⟩ : ∃ U, unsM k = U := ⟨_, rfl⟩
    rw [hU] at HU HRR
    clear hU
    cases U
    · go_wp2_with (go_at_call 78; refine (unveil HU _).mono ?_; rintro e w' ⟨rfl, hw'⟩; obtain rfl := hw'.symm)
      refine ⟨by simp, .inl ⟨_, _, rfl, run_takeDeferred (unveil HKK), ?_⟩⟩
      exact ⟨_, results_tmp rfl _ _ _, by rw [unveil HRR]; rfl, (unveil HS).be.grown (grownBy_putObj' _ D' _) (unveil HS).be.size (fun r e => by cases e; omega)⟩
    · go_wp2_with (go_at_call 78; refine (unveil HU _).mono ?_; rintro e w' ⟨rfl, hw'⟩; obtain rfl := hw'.symm)
      refine ⟨by simp, .inl ⟨_, _, rfl, run_takeDeferred (unveil HKK), ?_⟩⟩
      exact ⟨_, results_tmp rfl _ _ _, by rw [unveil HRR]; rfl, (unveil HS).be.grown (grownBy_putObj' _ D' _) (unveil HS).be.size (fun r e => by cases e; omega)⟩
  case stop => rintro D' c pre W' hD' _ hf hK; cases hf
end Go.Proofs.Ytkiebejidpebdaa
namespace Go.Proofs.Ytkiebejidpebdaa
open Go Go.RowKit Go.Shelf
attribute [local go_sem] Oper.semAt_some
set_option linter.unusedVariables false
set_option linter.unusedSimpArgs false

/-- Bytes as they lie. -/
def byC (bs : List Int) : Array Value := (bs.map (fun x => Value.int .u8 x)).toArray
theorem byC_get (bs : List Int) (i : Nat) : (byC bs)[i]? = (bs[i]?).map (fun x => Value.int .u8 x) := by unfold byC; simp
theorem byC_set (bs : List Int) (i : Nat) (x : Int) : (byC bs).setIfInBounds i (.int .u8 x) = byC (bs.set i x) := by
  unfold byC
  simp [List.map_set]
/-- One bit more is written. -/
def wrX (x m v : Int) : Int := if bits .and .i64 v 1 != 0 then bits .or .u8 (bits .andNot .u8 x m) m else bits .andNot .u8 x m
def wrSt (s : List Int × Int) (b : Nat) : List Int × Int := (s.1.set (b / 8) (wrX (s.1.getD (b / 8) 0) (mskM b) s.2), s.2 / 2)
def wrF (bs : List Int) (v : Int) (l : List Nat) : List Int × Int := l.foldl wrSt (bs, v)
theorem wrF_len (bs : List Int) (v : Int) : ∀ l : List Nat, (wrF bs v l).1.length = bs.length := by
  intro l
  unfold wrF
  have h : ∀ (l : List Nat) (s : List Int × Int), (l.foldl wrSt s).1.length = s.1.length := by
    intro l
    induction l with
    | nil => intro s; rfl
    | cons x r ih => intro s; rw [List.foldl_cons, ih]; unfold wrSt; simp
  exact h l _
/-- The boxes of write: the bytes' list, the spot, the value; the bytes themselves. -/
structure WrS (w W : World) (g n : Nat) (cs : Array Value) (bs : List Int) (v : Int) : Prop where
  i : Bk W w.heap.size 62 #[.slice (some ⟨g, 0, none⟩) n n]
  s : Bk W (w.heap.size + 1) 42 cs
  v : Bk W (w.heap.size + 1 + 1) 2 #[.int .i64 v]
  b : Bk W g 5 (byC bs)
  gr : w.grownBy W (some g)
  gl : g < w.heap.size
theorem WrS.new (w : World) (g n : Nat) (cs : Array Value) (bs : List Int) (v : Int) (hg : Bk w g 5 (byC bs)) : WrS w (((w.alloc (.cells #[.slice (some ⟨g, 0, none⟩) n n] 62)).alloc (.cells cs 42)).alloc (.cells #[.int .i64 v] 2)) g n cs bs v := by
  have h1 := Bk.new (w.alloc (.cells #[.slice (some ⟨g, 0, none⟩) n n] 62)) 42 cs
  have h2 := Bk.new ((w.alloc (.cells #[.slice (some ⟨g, 0, none⟩) n n] 62)).alloc (.cells cs 42)) 2 #[.int .i64 v]
  rw [World.size_alloc] at h1
  rw [World.size_alloc, World.size_alloc] at h2
  have hb := below_grown (((below_new2 w (.cells #[.slice (some ⟨g, 0, none⟩) n n] 62) (.cells cs 42)).alloc (by simp; omega) (.cells #[.int .i64 v] 2)))
  exact ⟨((Bk.new w _ _).alloc _).alloc _, h1.alloc _, h2, ((hg.alloc _).alloc _).alloc _, ⟨hb.os, hb.tape, hb.output, hb.size, fun i hi _ => hb.block i hi (by simp)⟩, hg.lt⟩
theorem gr_then {a b c : World} {g : Nat} {row : Option Nat} (h : a.grownBy b (some g)) (k : b.grownBy c row) (hr : ∀ r, row = some r → a.heap.size ≤ r ∨ r = g) : a.grownBy c (some g) :=
  ⟨k.os.trans h.os, k.tape.trans h.tape, k.output.trans h.output, Nat.le_trans h.size k.size, fun i hi hne => (k.block i (Nat.lt_of_lt_of_le hi h.size) (fun e => by
    rcases hr i e.symm with h2 | h2
    · omega
    · exact hne (by rw [h2]))).trans (h.block i hi hne)⟩
theorem WrS.turn {w W W' : World} {g n : Nat} {cs : Array Value} {bs : List Int} {v : Int} {row : Option Nat} (h : WrS w W g n cs bs v) (hg : W.grownBy W' row) (hr : ∀ r, row = some r → w.heap.size + 3 ≤ r) : WrS w W' g n cs bs v :=
  ⟨h.i.turn hg (fun r e => by have := hr r e; omega), h.s.turn hg (fun r e => by have := hr r e; omega), h.v.turn hg (fun r e => by have := hr r e; omega), h.b.turn hg (fun r e => by have := hr r e; have := h.gl; omega), gr_then h.gr hg (fun r e => .inl (by have := hr r e; omega)), h.gl⟩
theorem gr_set (W : World) (b i : Nat) (v : Value) : W.grownBy (W.setCell ⟨b, i, none⟩ v) (some b) := by
  have h := Below.heap_setCell W ⟨b, i, none⟩ v
  have h0 := grownBy_setCell' W b v
  exact ⟨rfl, rfl, rfl, by simp, fun j hj hne => h j (fun e => hne (by rw [e]))⟩
theorem WrS.setB {w W : World} {g n : Nat} {cs : Array Value} {bs : List Int} {v : Int} (h : WrS w W g n cs bs v) (i : Nat) (x : Int) : WrS w (W.setCell ⟨g, i, none⟩ (.int .u8 x)) g n cs (bs.set i x) v := by
  have hl := h.gl
  exact ⟨h.i.other _ _ (by omega), h.s.other _ _ (by omega), h.v.other _ _ (by omega), by rw [← byC_set]; exact h.b.set i _, gr_then h.gr (gr_set W g i _) (fun r e => by cases e; exact .inr rfl), h.gl⟩
theorem WrS.setV {w W : World} {g n : Nat} {cs : Array Value} {bs : List Int} {v : Int} (h : WrS w W g n cs bs v) (x : Int) : WrS w (W.setCell ⟨w.heap.size + 1 + 1, 0, none⟩ (.int .i64 x)) g n cs bs x := by
  have hl := h.gl
  exact ⟨h.i.other _ _ (by omega), h.s.other _ _ (by omega), h.v.set 0 _, h.b.other _ _ (by omega), gr_then h.gr (gr_set W _ 0 _) (fun r e => by cases e; exact .inl (by omega)), h.gl⟩
def WrI (w : World) (g n : Nat) (cs : Array Value) (st : List Nat → List Int × Int) (pre : List Nat) (W : World) : Prop := WrS w W g n cs (st pre).1 (st pre).2
theorem WrI.abides (w : World) (g n : Nat) (cs : Array Value) (st : List Nat → List Int × Int) (B C : Nat) (h : w.heap.size + 3 ≤ B) : AbidesO B C 0 (WrI w g n cs st) :=
  ⟨fun pre X Y row hs hg hr => WrS.turn hs hg (fun r e => by have := (hr r e).1; omega), fun pre X hs => ⟨hs.i, hs.s, hs.v, hs.b, gr_then hs.gr (row := none) (below_grown (Below.refl _ X).drew) (fun r e => by cases e), hs.gl⟩⟩
set_option maxRecDepth 100000 in
set_option maxHeartbeats 20000000 in
theorem write_any (bs : List Int) (g bit nb : Nat) (k v : Int) (w : World) (hg : Bk w g 5 (byC bs)) (hb : bit ≤ 1000000) (hb2 : nb ≤ 64) (hT : bit + nb ≤ 8 * bs.length) (hTs : bs.length ≤ 1000000) :
    Calls Try.prog 57 #[.slice (some ⟨g, 0, none⟩) bs.length bs.length, .agg (spB bit nb k), .int .i64 v] w fun e w' => (∃ r, e = .returned r) ∧ Bk w' g 5 (byC (wrF bs v (bitL bit nb)).1) ∧ w.grownBy w' (some g) := by
  have HBI := veil (fun w => bitsOf_any (spB bit nb k) _ _ _ rfl w)
  have HBS := veil (fun Bd => bits_stops 3 (by decide) Bd bit nb k hb (by omega))
  have HS0 := veil (WrS.new w g bs.length (spB bit nb k) bs v hg)
  have HWL := veil (wrF_len bs v)
  clear hg
  unfold spB at HBI HBS HS0 ⊢
  refine (callsIn_wide (n := 4)).1 ?_
  refine callsIn_of_wp_marks Try.func57 rfl trivial ?_ rfl
  simp only [Try.ntmps57, List.size_toArray, List.length_cons, List.length_nil, Nat.reduceAdd, Nat.reduceSub, Array.replicate_succ, Array.replicate_zero, List.push_toArray, List.append_toArray, List.nil_append, List.cons_append]
  refine wpIn_wide.2 ?_
  go_upto_region 1 with fail
  generalize (((w.alloc (.cells #[.slice (some ⟨g, 0, none⟩) bs.length bs.length] 62)).alloc (.cells #[.int .i64 (bit : Int), .int .i64 (nb : Int), .int .i64 k] 42)).alloc (.cells #[.int .i64 v] 2)) = W0 at HS0 ⊢
  have s0 := (unveil HS0).s.cell 0
  have s1 := (unveil HS0).s.cell 1
  have s2 := (unveil HS0).s.cell 2
  simp only [List.getElem?_toArray, List.getElem?_cons_zero, List.getElem?_cons_succ] at s0 s1 s2
  go_wp2_with (go_at_call 77; refine (unveil HBI _).mono ?_; rintro e w' ⟨rfl, rfl⟩)
  have hz : (W0.alloc (.cells #[.int .i64 (bit : Int), .int .i64 (nb : Int), .int .i64 k] 42)).heap.size = W0.heap.size + 1 := by simp
  have HB0 : Hid (Bk (W0.alloc (.cells #[.int .i64 (bit : Int), .int .i64 (nb : Int), .int .i64 k] 42)) W0.heap.size 42 #[.int .i64 (bit : Int), .int .i64 (nb : Int), .int .i64 k]) := Bk.new W0 _ _
  have HS1 : Hid (WrS w (W0.alloc (.cells #[.int .i64 (bit : Int), .int .i64 (nb : Int), .int .i64 k] 42)) g bs.length #[.int .i64 (bit : Int), .int .i64 (nb : Int), .int .i64 k] bs v) := (unveil HS0).turn (World.grownBy_alloc _ _ none) (fun r e => by cases e)
  have hlw := (unveil HS0).v.lt
  have hgl := (unveil HS0).gl
  generalize (W0.alloc (.cells #[.int .i64 (bit : Int), .int .i64 (nb : Int), .int .i64 k] 42)) = W1 at *
  clear s0 s1 s2 HS0 HBI
  refine (wpIn_wide (n := 4)).1 ?_
  refine wpIn_rangeFunc_ownO (k := 0) rfl (by decide) (gf := 90) (lb := #[.pointer (some ⟨W0.heap.size, 0, none⟩)]) rfl trivial (enters_of Try.func90 (by kernel_rfl) rfl)
    (unveil HBS W0.heap.size W1 (unveil HB0)) KpB.trans (fun W lb o o' hlb hlo ho _ cs hbk => (World.putObj_heap_other (by omega)).trans hbk) (Below.refl _ _) (fun _ => rfl)
    (WrI w g bs.length #[.int .i64 (bit : Int), .int .i64 (nb : Int), .int .i64 k] (wrF bs v)) (fun c _ W => False) (WrI.abides w g _ _ _ _ _ (by omega)) (fun c => ⟨fun pre X Y row hs hg hr => hs, fun pre X hs => hs⟩)
    (unveil HS1) (fun b => { tmps := #[.slice (some ⟨g, 0, none⟩) bs.length bs.length, .agg #[.int .i64 (bit : Int), .int .i64 (nb : Int), .int .i64 k], .int .i64 v, .pointer (some ⟨w.heap.size, 0, none⟩), .pointer (some ⟨w.heap.size + 1, 0, none⟩), .pointer (some ⟨w.heap.size + 1 + 1, 0, none⟩), .int .i64 ((b / 8 : Nat) : Int), .int .u8 (mskM b), .agg #[.int .i64 (bit : Int), .int .i64 (nb : Int), .int .i64 k], .func (.func 90) #[] #[.pointer (some ⟨W0.heap.size, 0, none⟩)], .int .i64 ((b / 8 : Nat) : Int), .int .u8 (mskM b), undef, undef, undef, undef, undef, undef, undef, undef, undef, undef, undef, undef, undef, undef, undef, undef, undef, undef, undef], defers := [] })
    ?assign ?body ?done ?stop
  case assign =>
    intro l' x W' K hK
    simp only [encB] at hK ⊢
    gi_wp2
    simpa using hK
  case body =>
    rintro l' pre b W2 hroom hno hI hpre
    have hS : WrS w W2 g bs.length #[.int .i64 (bit : Int), .int .i64 (nb : Int), .int .i64 k] (wrF bs v pre).1 (wrF bs v pre).2 := hI
    have hbm : b ∈ bitL bit nb := hpre.subset (by simp)
    have hbT : b / 8 < bs.length := by
      unfold bitL at hbm
      obtain ⟨i, hi, rfl⟩ := List.mem_map.1 hbm
      have := List.mem_range.1 hi
      omega
    have HIO : Hid (wrF bs v (pre ++ [b]) = wrSt (wrF bs v pre) b) := by
      unfold Hid wrF
      rw [List.foldl_append]
      rfl
    have hlen := unveil HWL pre
    generalize wrF bs v pre = st at *
    obtain ⟨cb, cv⟩ := st
    simp only at hS hlen
    have hbx : b / 8 < cb.length := by omega
    have hx : cb.getD (b / 8) 0 = cb[b / 8] := by rw [List.getD_eq_getElem?_getD, List.getElem?_eq_getElem hbx, Option.getD_some]
    have HS := veil hS
    have d0 := hS.i.cell 0
    have d1 := hS.v.cell 0
    have d2 := hS.b.cell (b / 8)
    have e0 := hS.b.frozen (b / 8)
    have e1 := hS.v.frozen 0
    rw [byC_get, List.getElem?_eq_getElem hbx, Option.map_some] at d2
    simp only [List.getElem?_toArray, List.getElem?_cons_zero] at d0 d1
    unfold wrSt at HIO
    simp only at HIO
    rw [hx] at HIO
    have hg2 := hS.b.lt
    clear hS hI hno hpre hbm hx
    generalize cb[b / 8] = x at *
    generalize mskM b = M at *
    generalize b / 8 = B8 at *
    have hne1 : W0.heap.size ≠ g := by omega
    have hne2 : W0.heap.size ≠ w.heap.size + 1 + 1 := by omega
    have hne3 : w.heap.size + 1 + 1 ≠ g := by omega
    have hne4 : w.heap.size ≠ g := by omega
    have hko : ∀ (X : World) (i : Nat) (u : Value), KeepsO (W1.heap.size + 2) 0 X (X.setCell ⟨g, i, none⟩ u) := fun X i u => KeepsO.grown (gr_set X g i u) (fun r e => by cases e; exact .inl (by omega))
    have HKO := veil hko
    clear hko
    unfold wrX at HIO
    cases hC : bits .and .i64 cv 1 != 0
    · rw [hC] at HIO
      simp only [Bool.false_eq_true, if_false] at HIO
      gi_wp2
      refine ⟨((KeepsOthers.setCell _ _ _).from _).trans ((KeepsOthers.setCell _ _ _).from _), (unveil HKO _ _ _).trans (KeepsO.setCell (.inl (by omega))), fun cs hbk => (hbk.other _ _ hne1).other _ _ hne2, ?_⟩
      show WrS w _ g bs.length _ (wrF bs v (pre ++ [b])).1 (wrF bs v (pre ++ [b])).2
      rw [unveil HIO]
      exact ((unveil HS).setB _ _).setV _
    · rw [hC] at HIO
      simp only [if_true] at HIO
      gi_wp2
      refine ⟨(((KeepsOthers.setCell _ _ _).from _).trans ((KeepsOthers.setCell _ _ _).from _)).trans ((KeepsOthers.setCell _ _ _).from _), ((unveil HKO _ _ _).trans (unveil HKO _ _ _)).trans (KeepsO.setCell (.inl (by omega))), fun cs hbk => ((hbk.other _ _ hne1).other _ _ hne1).other _ _ hne2, ?_⟩
      show WrS w _ g bs.length _ (wrF bs v (pre ++ [b])).1 (wrF bs v (pre ++ [b])).2
      rw [unveil HIO]
      have h2 := (((unveil HS).setB B8 (bits .andNot .u8 x M)).setB B8 (bits .or .u8 (bits .andNot .u8 x M) M)).setV (cv / 2)
      rw [List.set_set] at h2
      exact h2
  case done =>
    rintro D' W' hD' hI hK
    have hS : WrS w W' g bs.length #[.int .i64 (bit : Int), .int .i64 (nb : Int), .int .i64 k] (wrF bs v (bitL bit nb)).1 (wrF bs v (bitL bit nb)).2 := hI
    have HS := veil hS
    have HKK := veil hK
    clear hS hI hK
    go_wp2_with fail
    refine ⟨by simp, .inl ⟨_, _, rfl, run_takeDeferred (unveil HKK), ?_⟩⟩
    exact ⟨_, results_none (fn := Try.f57) rfl _ _ _, ⟨_, rfl⟩, (unveil HS).b.turn (grownBy_putObj' _ D' _) (fun r e => by cases e; omega), gr_then (unveil HS).gr (grownBy_putObj' _ D' _) (fun r e => by cases e; exact .inl (by omega))⟩
  case stop => rintro D' c pre W' hD' _ hf hK; cases hf
end Go.Proofs.Ytkiebejidpebdaa
