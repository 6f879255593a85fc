/-
  burinref11.read: the document's reading, bit by bit.
-/
import Derived.Test.YtkiebejidpebdaaTl
namespace Go.Proofs.Ytkiebejidpebdaa
open Go Go.RowKit Go.Shelf
set_option linter.unusedVariables false
set_option linter.unusedSimpArgs false

set_option maxRecDepth 100000 in
set_option maxHeartbeats 4000000 in
theorem RUnsigned11_any (k : Int) (w : World) : Calls Try.prog 79 #[.int .i64 k] w fun e w' => e = .returned (.bool (unsM k)) ∧ w' = w := by
  rcases kcases k with rfl | rfl | rfl | rfl | rfl | rfl | rfl | rfl | ⟨h1, h2, h3, h4, h5, h6, h7, h8⟩
  all_goals (
    go_enter Try.func79, Try.ntmps79
    go_wp2
    go_ret
    refine ⟨?_, rfl⟩
    first | rfl | simp [unsM, *])
/-- A bit as a number. -/
def b01 (l : List Int) (c : Nat) : Nat := if bL l c then 1 else 0
set_option maxRecDepth 100000 in
theorem shx_all : (List.range 256).all (fun x => (List.range 8).all fun j => bits .and .u8 ((x : Int) / 2 ^ j) 1 == (if bits .and .u8 (x : Int) (mskM j) != 0 then 1 else 0)) = true := by decide +kernel
theorem shx {l : List Int} (hl : OkB l) (c : Nat) : bits .and .u8 (l.getD (c / 8) 0 / 2 ^ (c % 8)) 1 = (b01 l c : Int) := by
  have hx := getD_ok hl (c / 8)
  have h := List.all_eq_true.1 (List.all_eq_true.1 shx_all (l.getD (c / 8) 0).toNat (List.mem_range.2 (by omega))) (c % 8) (List.mem_range.2 (by omega))
  rw [show (((l.getD (c / 8) 0).toNat : Nat) : Int) = l.getD (c / 8) 0 by omega] at h
  rw [eq_of_beq h]
  unfold b01 bL
  rw [msk_eq (b := c) (c := c % 8) (by omega)]
  split <;> rfl
structure ReS (w W : World) (b n k : Int) : Prop where
  s : Bk W w.heap.size 42 #[.int .i64 b, .int .i64 n, .int .i64 k]
  be : Below w.heap.size w W
theorem ReS.below {w W W' : World} {b n k : Int} (h : ReS w W b n k) (hb : Below W.heap.size W W') : ReS w W' b n k := ⟨h.s.below hb, h.be.trans (hb.mono h.be.size)⟩
theorem sum_mid (l : List Int) (b m n V : Nat) (h : sumB l b n = sumB l b (m + 1) + 2 ^ (m + 1) * V) : sumB l b n = sumB l b m + 2 ^ m * (2 * V + b01 l (b + m)) := by
  rw [h, sumB, Nat.mul_add, Nat.pow_succ]
  unfold b01
  rw [Nat.mul_assoc]
  generalize 2 ^ m = M
  split
  · rw [Nat.mul_one]; omega
  · omega
theorem wrap_u {n m V B : Nat} (hn : n ≤ 64) (hm : m + 1 ≤ n) (hV : V < 2 ^ (n - (m + 1))) (hB : B ≤ 1) : IntKind.u64.wrap (IntKind.u64.wrap (2 * (V : Int)) + IntKind.u64.wrap (B : Int)) = ((2 * V + B : Nat) : Int) ∧ 2 * V + B < 2 ^ (n - m) := by
  have h2 : 2 ^ (n - m) = 2 ^ (n - (m + 1)) * 2 := by rw [← Nat.pow_succ]; congr 1; omega
  have h3 : 2 ^ (n - m) ≤ 2 ^ 64 := Nat.pow_le_pow_right (by decide) (by omega)
  refine ⟨?_, by omega⟩
  have hu : ∀ x : Int, IntKind.u64.wrap x = x % 18446744073709551616 := fun x => by
    simp [IntKind.wrap, IntKind.bits, IntKind.signed]
  rw [hu, hu, hu]
  omega
theorem rd_a {V P : Nat} (hP : P = 9223372036854775808) (h : V < P * 2) : (if P ≤ V then (V : Int) - ((P * 2 : Nat) : Int) else (V : Int)) = wrap64 (V : Int) := by
  subst hP
  unfold wrap64
  split <;> omega
theorem rd_b {V P : Nat} (hP : P ≤ 9223372036854775808) (h : V < P) : (V : Int) = wrap64 (V : Int) := by
  unfold wrap64
  omega
theorem pw1 : (2 : Nat) ^ 63 ≤ 9223372036854775808 := by simp
theorem pw2 {n : Nat} (h2 : n ≤ 64) : 2 ^ (n - 1) ≤ 9223372036854775808 := Nat.le_trans (Nat.pow_le_pow_right (by decide) (show n - 1 ≤ 63 by omega)) pw1
theorem pw3 : (2 : Nat) ^ 63 = 9223372036854775808 := by simp
theorem pw4 {n : Nat} (h : n = 64) : 2 ^ (n - 1) = 9223372036854775808 := (congrArg (fun x => 2 ^ x) (show n - 1 = 63 by omega)).trans pw3
theorem rd_val {V n : Nat} {k : Int} (T : ByteArray) (b : Nat) (h1 : 1 ≤ n) (h2 : n ≤ 64) (hS : sumB (ofB T) b n = V) : V < 2 ^ n ∧ ((unsM k = true ∨ n = 64 ∨ V < 2 ^ (n - 1)) → rdM T b n k = wrap64 (V : Int)) ∧
    (unsM k = false → n < 64 → 2 ^ (n - 1) ≤ V → rdM T b n k = (V : Int) - ((2 ^ n : Nat) : Int)) := by
  have hlt := sumB_lt (ofB T) b n
  have hp : 2 ^ n = 2 ^ (n - 1) * 2 := by rw [← Nat.pow_succ]; congr 1; omega
  have h63 := pw2 h2
  have h64 := @pw4 n
  rw [rdM_eq T b n k h1 h2, hS]
  rw [hS] at hlt
  clear hS h1 h2
  rw [hp] at hlt ⊢
  generalize 2 ^ (n - 1) = P at *
  refine ⟨hlt, fun h => ?_, fun hu hn hv => ?_⟩
  · cases hu : unsM k
    · simp only [Bool.false_eq_true, if_false]
      rcases h with h | h | h
      · rw [hu] at h; cases h
      · exact rd_a (h64 h) hlt
      · rw [if_neg (by omega)]
        exact rd_b h63 h
    · rw [if_pos rfl]
  · rw [hu]
    simp only [Bool.false_eq_true, if_false]
    rw [if_pos hv]
theorem rd_fin {V n : Nat} (hn : n < 64) (hv : V < 2 ^ n) : wrap64 (wrap64 (V : Int) - wrap64 (2 ^ n)) = (V : Int) - ((2 ^ n : Nat) : Int) := by
  have hc : ((2 : Int) ^ n) = ((2 ^ n : Nat) : Int) := by rw [Int.natCast_pow]; rfl
  have h63 : 2 ^ n ≤ 2 ^ 63 := Nat.pow_le_pow_right (by decide) (by omega)
  rw [hc]
  generalize 2 ^ n = P at *
  simp only [Nat.reducePow] at h63
  unfold wrap64
  omega
set_option maxRecDepth 100000 in
set_option maxHeartbeats 20000000 in
theorem rread_any (T : ByteArray) (g cap b n : Nat) (k : Int) (w : World) (hg : g < w.heap.size) (hc : ∀ i, i < T.size → w.cell? ⟨g, i, none⟩ = some (.int .u8 ((ofB T).getD i 0))) (hT : T.size ≤ 65536) (hn0 : 1 ≤ n) (hn1 : n ≤ 64) (hfit : b + n ≤ 8 * T.size) :
    Calls Try.prog 62 #[.slice (some ⟨g, 0, none⟩) T.size cap, .agg #[.int .i64 b, .int .i64 n, .int .i64 k]] w fun e w' => e = .returned (.int .i64 (rdM T b n k)) ∧ Below w.heap.size w w' := by
  have HS0 : Hid (ReS w (w.alloc (.cells #[.int .i64 b, .int .i64 n, .int .i64 k] 42)) b n k) := ⟨Bk.new _ _ _, (Below.refl _ w).alloc (Nat.le_refl _) _⟩
  have HC := veil hc
  have HU := veil (fun W => RUnsigned11_any k W)
  have HLT := veil (sumB_lt (ofB T) b n)
  have HOK := veil (ofB_ok T)
  have HRD : Hid (∀ V, sumB (ofB T) b n = V → V < 2 ^ n ∧ ((unsM k = true ∨ n = 64 ∨ V < 2 ^ (n - 1)) → rdM T b n k = wrap64 (V : Int)) ∧ (unsM k = false → n < 64 → 2 ^ (n - 1) ≤ V → rdM T b n k = (V : Int) - ((2 ^ n : Nat) : Int))) := fun V hS => rd_val T b hn0 hn1 hS
  clear hc
  generalize rdM T b n k = R at *
  go_enter Try.func62, Try.ntmps62
  go_upto_region 1 with fail
  generalize (w.alloc (.cells #[.int .i64 b, .int .i64 n, .int .i64 k] 42)) = W0 at *
  have y0 := (unveil HS0).s.cell 0
  have y1 := (unveil HS0).s.cell 1
  have y2 := (unveil HS0).s.cell 2
  have yl := (unveil HS0).s.lt
  simp only [List.getElem?_toArray, List.getElem?_cons_zero, List.getElem?_cons_succ] at y0 y1 y2
  go_upto_region 3 with fail
  clear y0 y1 y2 yl
  go_loopg [5, 6] n (fun gk v i wr => ∃ (V : Nat), v = .int .u64 V ∧ i = .int .i64 ((gk : Int) - 1) ∧ gk ≤ n ∧ V < 2 ^ (n - gk) ∧ Hid (sumB (ofB T) b n = sumB (ofB T) b gk + 2 ^ gk * V) ∧ Hid (ReS w wr b n k))
  case atStart => exact ⟨0, rfl, rfl, Nat.le_refl _, by simp, by simp [Hid], HS0⟩
  case round =>
    rename World => wr
    rename Nat => m
    obtain ⟨V, rfl, rfl, hm, hV, hSM, hS⟩ := hrel
    have y0 := (unveil hS).s.cell 0
    have y1 := (unveil hS).s.cell 1
    have y2 := (unveil hS).s.cell 2
    have yl := (unveil hS).s.lt
    simp only [List.getElem?_toArray, List.getElem?_cons_zero, List.getElem?_cons_succ] at y0 y1 y2
    cases m with
    | succ m =>
      have hge : (0 : Int) ≤ ((m + 1 : Nat) : Int) - 1 := by omega
      have e1 : ((m + 1 : Nat) : Int) - 1 = (m : Int) := by omega
      rw [e1]
      go_upto_region 6 with fail
      obtain ⟨c, hc⟩ : ∃ c : Nat, b + m = c := ⟨_, rfl⟩
      have hci : (b : Int) + (m : Int) = (c : Int) := by omega
      have hsx := shx (unveil HOK) c
      have hxr := getD_ok (unveil HOK) (c / 8)
      have hcell := (unveil HC) (c / 8) (by omega)
      have hcell2 : wr.cell? ⟨g, c / 8, none⟩ = some (.int .u8 ((ofB T).getD (c / 8) 0)) := ((unveil hS).be.cell (p := ⟨g, c / 8, none⟩) hg).trans hcell
      have hq : (c : Int) / 8 = ((c / 8 : Nat) : Int) := by omega
      have hq2 : (c : Int).tdiv 8 = ((c / 8 : Nat) : Int) := by rw [Int.tdiv_eq_ediv_of_nonneg (by omega)]; omega
      have hr : (c : Int) % 8 = ((c % 8 : Nat) : Int) := by omega
      have hr2 : (c : Int).tmod 8 = ((c % 8 : Nat) : Int) := by rw [Int.tmod_eq_emod_of_nonneg (by omega)]; omega
      have hlt : c / 8 < T.size := by omega
      have hlti : ((c / 8 : Nat) : Int) < (T.size : Int) := by omega
      have hj : c % 8 < 8 := by omega
      have hj0 : (0 : Int) ≤ ((c % 8 : Nat) : Int) := by omega
      have hj1 : ((c % 8 : Nat) : Int) ≤ 64 := by omega
      have hgl : g < wr.heap.size := Nat.lt_of_lt_of_le hg (unveil hS).be.size
      clear hcell
      rw [hci]
      generalize (ofB T).getD (c / 8) 0 = X at *
      generalize hC8 : c / 8 = C8 at *
      generalize hCr : c % 8 = CR at *
      go_upto_region 4 with fail
      have hb1 : b01 (ofB T) c ≤ 1 := by unfold b01; split <;> omega
      obtain ⟨w1, w2⟩ := wrap_u hn1 hm hV hb1
      have hsm := sum_mid _ _ _ _ _ (unveil hSM)
      rw [w1]
      rw [hc] at hsm
      have HSN : Hid (sumB (ofB T) b n = sumB (ofB T) b m + 2 ^ m * (2 * V + b01 (ofB T) c)) := hsm
      clear hsm w1 hsx hxr
      generalize 2 * V + b01 (ofB T) c = V2 at *
      go_wp2_with fail
      go_roundg m
      case measure => omega
      case rel => exact ⟨V2, rfl, by go_num, by omega, w2, HSN, hS⟩
    | zero =>
      have hng : ¬ (0 : Int) ≤ ((0 : Nat) : Int) - 1 := by omega
      have hSV : sumB (ofB T) b n = V := by
        have := unveil hSM
        simpa [sumB] using this
      obtain ⟨r0, r1, r2⟩ := unveil HRD V hSV
      have HR1 := veil r1
      have HR2 := veil r2
      clear r1 r2 hSV hSM hV
      obtain ⟨N, hN⟩ : ∃ N, N + 1 = n := ⟨n - 1, by omega⟩
      have hNi : (n : Int) - 1 = (N : Int) := by omega
      have hBE : Hid (Below w.heap.size w wr) := (unveil hS).be
      generalize unsM k = U at *
      cases U
      · by_cases h64 : n = 64
        · have hnl : ¬ (n : Int) < 64 := by omega
          have HRF := veil (unveil HR1 (.inr (.inl h64)))
          clear HR1 HR2
          go_wp2_with (go_at_call 79; refine (unveil HU _).mono ?_; rintro e w' ⟨rfl, hw'⟩; obtain rfl := hw'.symm)
          go_ret
          exact ⟨by rw [unveil HRF]; rfl, unveil hBE⟩
        · have hnl : (n : Int) < 64 := by omega
          have hN0 : (0 : Int) ≤ (N : Int) := by omega
          have hN1 : (N : Int) ≤ 64 := by omega
          by_cases hv : V < 2 ^ N
          · have hdv : (V : Int) / 2 ^ N = 0 := by
              have : ((V / 2 ^ N : Nat) : Int) = 0 := by rw [Nat.div_eq_of_lt hv]; rfl
              simpa using this
            have HRF := veil (unveil HR1 (.inr (.inr (by rw [show n - 1 = N by omega]; exact hv))))
            clear HR1 HR2
            go_wp2_with (go_at_call 79; refine (unveil HU _).mono ?_; rintro e w' ⟨rfl, hw'⟩; obtain rfl := hw'.symm)
            go_ret
            exact ⟨by rw [unveil HRF]; rfl, unveil hBE⟩
          · have hdv : (V : Int) / 2 ^ N = 1 := by
              have h2 : V < 2 ^ N * 2 := by have := r0; rw [← hN, Nat.pow_succ] at this; exact this
              have : ((V / 2 ^ N : Nat) : Int) = 1 := by
                have : V / 2 ^ N = 1 := Nat.div_eq_of_lt_le (by omega) (by omega)
                rw [this]; rfl
              simpa using this
            have HRF := veil (unveil HR2 rfl (by omega) (by rw [show n - 1 = N by omega]; omega))
            have hn0' : (0 : Int) ≤ (n : Int) := by omega
            have hn1' : (n : Int) ≤ 64 := by omega
            clear HR1 HR2
            go_wp2_with (go_at_call 79; refine (unveil HU _).mono ?_; rintro e w' ⟨rfl, hw'⟩; obtain rfl := hw'.symm)
            go_ret
            refine ⟨?_, unveil hBE⟩
            rw [unveil HRF, ← rd_fin (by omega) r0]
            rfl
      · have HRF := veil (unveil HR1 (.inl rfl))
        clear HR1 HR2
        go_wp2_with (go_at_call 79; refine (unveil HU _).mono ?_; rintro e w' ⟨rfl, hw'⟩; obtain rfl := hw'.symm)
        go_ret
        exact ⟨by rw [unveil HRF]; rfl, unveil hBE⟩
end Go.Proofs.Ytkiebejidpebdaa
