/-
  burinref11.write: the document's writing, bit by bit.
-/
import Derived.Test.YtkiebejidpebdaaTv
import Derived.Lib.ConvBytes
namespace Go.Proofs.Ytkiebejidpebdaa
open Go Go.RowKit Go.Shelf
set_option linter.unusedVariables false
set_option linter.unusedSimpArgs false

/-- Bytes in a block, which may have more behind them. -/
def ByB (W : World) (g : Nat) (bs : List Int) : Prop :=
  ∃ cs T fz, W.heap[g]? = some (.cells cs T fz) ∧ (∀ i, i < bs.length → cs[i]? = some (.int .u8 (bs.getD i 0))) ∧ ∀ i, i < bs.length → ¬ (fz.1 ≤ i ∧ i < fz.2)
theorem ByB.lt {W : World} {g : Nat} {bs : List Int} (h : ByB W g bs) : g < W.heap.size := by
  obtain ⟨cs, T, fz, h, _⟩ := h
  exact (Array.getElem?_eq_some_iff.1 h).1
theorem ByB.cell {W : World} {g : Nat} {bs : List Int} (h : ByB W g bs) {i : Nat} (hi : i < bs.length) : W.cell? ⟨g, i, none⟩ = some (.int .u8 (bs.getD i 0)) := by
  obtain ⟨cs, T, fz, h, hc, _⟩ := h
  have := hc i hi
  simp [World.cell?, h, this]
theorem ByB.frozen {W : World} {g : Nat} {bs : List Int} (h : ByB W g bs) {i : Nat} (hi : i < bs.length) : W.frozen? ⟨g, i, none⟩ = false := by
  obtain ⟨cs, T, ⟨lo, hi'⟩, h, _, hf⟩ := h
  have := hf i hi
  simp only at this
  simp only [World.frozen?, h]
  rw [Bool.and_eq_false_iff]
  simp only [decide_eq_false_iff_not]
  omega
theorem ByB.set {W : World} {g : Nat} {bs : List Int} (h : ByB W g bs) {i : Nat} (hi : i < bs.length) (x : Int) : ByB (W.setCell ⟨g, i, none⟩ (.int .u8 x)) g (bs.set i x) := by
  obtain ⟨cs, T, fz, h, hc, hf⟩ := h
  refine ⟨cs.setIfInBounds i (.int .u8 x), T, fz, by simp [World.setCell, Array.getElem?_modify, h], fun j hj => ?_, fun j hj => hf j (by simpa using hj)⟩
  rw [List.length_set] at hj
  rw [Array.getElem?_setIfInBounds]
  have hci := hc i hi
  have hsz : i < cs.size := (Array.getElem?_eq_some_iff.1 hci).1
  rw [getD_set _ _ _ _ hi]
  by_cases hij : i = j
  · subst hij
    rw [if_pos rfl, if_pos hsz, if_pos rfl]
  · rw [if_neg hij, hc j hj, if_neg (fun e => hij e.symm)]
theorem ByB.of {W : World} {g : Nat} {T : TypeId} {bs : List Int} (h : Bk W g T (byC bs)) : ByB W g bs :=
  ⟨_, T, (0, 0), h, fun i hi => by rw [byC_get, List.getElem?_eq_getElem hi, List.getD_eq_getElem?_getD, List.getElem?_eq_getElem hi]; rfl, fun i _ => by simp⟩
theorem ByB.below {W W' : World} {g : Nat} {bs : List Int} (h : ByB W g bs) (hb : Below W.heap.size W W') : ByB W' g bs := by
  have hl := h.lt
  obtain ⟨cs, T, fz, h, hr⟩ := h
  exact ⟨cs, T, fz, (hb.block g hl).trans h, hr⟩
theorem ByB.new (W : World) (e : TypeId) (T : ByteArray) : ByB (Lib.bytesWorld W e T) W.heap.size (ofB T) := by
  have h := Lib.bytesWorld_at_new W e T
  have hsz : T.size ≤ (Lib.bytesCells W e T).size := by
    unfold Lib.bytesCells
    rw [Array.size_append, Array.size_map]
    exact Nat.le_add_right _ _
  refine ⟨_, _, _, h, fun i hi => ?_, fun i hi => ?_⟩
  · rw [ofB_len] at hi
    have hc := Lib.bytesWorld_cell W e T i hi
    simp only [World.cell?, h] at hc
    have hg : (ofB T).getD i 0 = ((T.data.toList.getD i 0).toNat : Int) := (byM_of T i).symm
    rw [hg]
    simpa using hc
  · rw [ofB_len] at hi
    simp only
    omega
theorem ByB.back {W : World} {g : Nat} {l : List Int} (hl : OkB l) (hb : ByB W g l) (cap : Nat) : (convert 62 9 (.slice (some ⟨g, 0, none⟩) l.length cap)).run Try.prog W = .ok (.string (toB l)) W := by
  have h := run_convert_bytes_back (P := Try.prog) W 62 9 5 ⟨g, 0, none⟩ cap (l.map (fun x => UInt8.ofNat x.toNat)) Try.underlying62 Try.underlying5 Try.underlying9 (fun j hj => by
    have hj' : j < l.length := by simpa using hj
    have hadd : (⟨g, 0, none⟩ : Addr).add j = ⟨g, j, none⟩ := by unfold Addr.add; split <;> simp_all
    rw [hadd, hb.cell hj', List.getD_eq_getElem?_getD, List.getElem?_eq_getElem hj']
    have := hl l[j] (List.getElem_mem hj')
    simp only [Option.getD_some, List.getElem_map]
    rw [UInt8.toNat_ofNat']
    congr 2
    omega)
  rw [List.length_map] at h
  exact h
theorem and1_eq (v : Int) : bits .and .i64 v 1 = v % 2 := by
  show IntKind.i64.wrap ((BitVec.ofInt 64 v &&& BitVec.ofInt 64 1).toNat : Int) = _
  rw [BitVec.toNat_and, show (BitVec.ofInt 64 1).toNat = 1 from rfl, Nat.and_one_is_mod, BitVec.toNat_ofInt, IntKind.wrap_i64]
  have h1 : 0 ≤ v % (2 ^ 64 : Nat) := Int.emod_nonneg _ (by decide)
  have h2 : (v % (2 ^ 64 : Nat)) % 2 = v % 2 := Int.emod_emod_of_dvd v (by decide)
  have h3 : (((v % (2 ^ 64 : Nat)).toNat % 2 : Nat) : Int) = v % 2 := by
    rw [Int.natCast_emod, Int.toNat_of_nonneg h1]
    exact h2
  rw [h3]
  omega
set_option maxRecDepth 100000 in
theorem wrd_all : (List.range 256).all (fun x => (List.range 8).all fun j => bits .or .u8 (bits .andNot .u8 (x : Int) (mskM j)) (mskM j) == bits .or .u8 (x : Int) (mskM j)) = true := by decide +kernel
theorem wrd {x : Int} (hx : 0 ≤ x ∧ x < 256) (c : Nat) : bits .or .u8 (bits .andNot .u8 x (mskM c)) (mskM c) = bits .or .u8 x (mskM c) := by
  have h := List.all_eq_true.1 (List.all_eq_true.1 wrd_all x.toNat (List.mem_range.2 (by omega))) (c % 8) (List.mem_range.2 (by omega))
  rw [show ((x.toNat : Nat) : Int) = x by omega, msk_eq (b := c % 8) (c := c) (by omega)] at h
  exact eq_of_beq h
theorem msk_pow (c : Nat) : (2 : Int) ^ (c % 8) % 256 = mskM c := by
  unfold mskM
  have : c % 8 < 8 := by omega
  rcases (show c % 8 = 0 ∨ c % 8 = 1 ∨ c % 8 = 2 ∨ c % 8 = 3 ∨ c % 8 = 4 ∨ c % 8 = 5 ∨ c % 8 = 6 ∨ c % 8 = 7 by omega) with h | h | h | h | h | h | h | h <;> rw [h] <;> rfl
structure WdS (w W : World) (b n k : Int) (g : Nat) (bs : List Int) : Prop where
  s : Bk W w.heap.size 42 #[.int .i64 b, .int .i64 n, .int .i64 k]
  b : ByB W g bs
  gr : w.grownBy W (some g)
theorem WdS.set {w W : World} {b n k : Int} {g : Nat} {bs : List Int} (h : WdS w W b n k g bs) (hg : g < w.heap.size) {i : Nat} (hi : i < bs.length) (x : Int) : WdS w (W.setCell ⟨g, i, none⟩ (.int .u8 x)) b n k g (bs.set i x) :=
  ⟨h.s.other _ _ (by omega), h.b.set hi x, gr_then h.gr (gr_set W g i _) (fun r e => by cases e; exact .inr rfl)⟩
set_option maxRecDepth 100000 in
set_option maxHeartbeats 20000000 in
theorem rwrite_any (bs : List Int) (hbs : OkB bs) (g cap b n : Nat) (k v : Int) (w : World) (hg : ByB w g bs) (hl : bs.length ≤ 65536) (hn1 : n ≤ 64) (hfit : b + n ≤ 8 * bs.length) :
    Calls Try.prog 59 #[.slice (some ⟨g, 0, none⟩) bs.length cap, .agg #[.int .i64 b, .int .i64 n, .int .i64 k], .int .i64 v] w fun e w' => (∃ r, e = .returned r) ∧ ByB w' g (wrF bs v (bitL b n)).1 ∧ w.grownBy w' (some g) := by
  have hgl := hg.lt
  have hb0 := below_grown (Below.refl (w.heap.size) w |>.alloc (Nat.le_refl _) (.cells #[.int .i64 (b : Int), .int .i64 (n : Int), .int .i64 k] 42))
  have HS0 : Hid (WdS w (w.alloc (.cells #[.int .i64 b, .int .i64 n, .int .i64 k] 42)) b n k g bs) := ⟨Bk.new _ _ _, hg.below ((Below.refl _ w).alloc (Nat.le_refl _) _), ⟨hb0.os, hb0.tape, hb0.output, hb0.size, fun i hi _ => hb0.block i hi (by simp)⟩⟩
  clear hb0
  have HWL := veil (fun m => wrF_len bs v (bitL b m))
  have HWO := veil (fun m => wrF_ok hbs v (bitL b m))
  have HWV := veil (fun m => wrF_v bs v b m)
  have HWS : Hid (∀ m, wrF bs v (bitL b (m + 1)) = wrSt (wrF bs v (bitL b m)) (b + m)) := fun m => by rw [bitL_succ, wrF_snoc]
  have HW0 : Hid ((wrF bs v (bitL b 0)).1 = bs) := rfl
  clear hg
  generalize hF : (fun m => wrF bs v (bitL b m)) = F at *
  have HF : Hid (∀ m, wrF bs v (bitL b m) = F m) := fun m => by rw [← hF]
  clear hF
  rw [unveil HF n]
  simp only [Hid, unveil HF] at HWL HWO HWV HWS HW0
  replace HWL := veil HWL
  replace HWO := veil HWO
  replace HWV := veil HWV
  replace HWS := veil HWS
  replace HW0 := veil HW0
  go_enter Try.func59, Try.ntmps59
  go_upto_region 1 with fail
  generalize (w.alloc (.cells #[.int .i64 b, .int .i64 n, .int .i64 k] 42)) = W0 at *
  go_upto_region 2 with fail
  go_loopg [6] n (fun gk i wr => ∃ (m : Nat), gk = n - m ∧ i = .int .i64 m ∧ m ≤ n ∧ Hid (WdS w wr b n k g (F m).1))
  case atStart => exact ⟨0, rfl, rfl, Nat.zero_le _, by rw [Hid, unveil HW0]; exact HS0⟩
  case round =>
    rename World => wr
    obtain ⟨m, rfl, rfl, hm, hS⟩ := hrel
    have y0 := (unveil hS).s.cell 0
    have y1 := (unveil hS).s.cell 1
    have yl := (unveil hS).s.lt
    simp only [List.getElem?_toArray, List.getElem?_cons_zero, List.getElem?_cons_succ] at y0 y1
    by_cases hmn : m < n
    · have hlt1 : (m : Int) < (n : Int) := by omega
      obtain ⟨c, hc⟩ : ∃ c : Nat, b + m = c := ⟨_, rfl⟩
      have hci : (b : Int) + (m : Int) = (c : Int) := by omega
      have hC : c / 8 < bs.length := by omega
      have hlen : (F m).1.length = bs.length := unveil HWL m
      have hC' : c / 8 < (F m).1.length := by omega
      have hcell := (unveil hS).b.cell hC'
      have hfro := (unveil hS).b.frozen hC'
      have hgl2 := (unveil hS).b.lt
      have hxr := getD_ok (unveil HWO m) (c / 8)
      have hX := wrd hxr c
      have hmk := msk_pow c
      have hnx := unveil HWS m
      rw [hc] at hnx
      have hv := unveil HWV m
      have HNX : Hid (∀ x, x = wrX ((F m).1.getD (c / 8) 0) (mskM c) (v / 2 ^ m) → ∀ W : World, WdS w (W.setCell ⟨g, c / 8, none⟩ (.int .u8 x)) b n k g ((F m).1.set (c / 8) x) → WdS w (W.setCell ⟨g, c / 8, none⟩ (.int .u8 x)) b n k g (F (m + 1)).1) := fun x hx W h => by
        rw [hnx]
        unfold wrSt
        simp only
        rw [hv, ← hx]
        exact h
      have HST : Hid (∀ x, WdS w (wr.setCell ⟨g, c / 8, none⟩ (.int .u8 x)) b n k g ((F m).1.set (c / 8) x)) := fun x => (unveil hS).set hgl hC' x
      unfold wrX at HNX
      rw [hX] at HNX
      have hand : bits .and .i64 (v / 2 ^ m) 1 = (v / 2 ^ m) % 2 := and1_eq _
      clear hnx hv hX
      have hq2 : (c : Int).tdiv 8 = ((c / 8 : Nat) : Int) := by rw [Int.tdiv_eq_ediv_of_nonneg (by omega)]; omega
      have hr2 : (c : Int).tmod 8 = ((c % 8 : Nat) : Int) := by rw [Int.tmod_eq_emod_of_nonneg (by omega)]; omega
      have hq : (c : Int) / 8 = ((c / 8 : Nat) : Int) := by omega
      have hr : (c : Int) % 8 = ((c % 8 : Nat) : Int) := by omega
      have hlti : ((c / 8 : Nat) : Int) < (bs.length : Int) := by omega
      have hj : c % 8 < 8 := by omega
      have hj0 : (0 : Int) ≤ ((c % 8 : Nat) : Int) := by omega
      have hj1 : ((c % 8 : Nat) : Int) ≤ 64 := by omega
      have hm0 : (0 : Int) ≤ (m : Int) := by omega
      have hm1 : (m : Int) ≤ 64 := by omega
      generalize hC8 : c / 8 = C8 at *
      generalize hCr : c % 8 = CR at *
      generalize mskM c = M at *
      generalize (F m).1.getD C8 0 = X at *
      have hb2 : v / 2 ^ m % 2 = 0 ∨ v / 2 ^ m % 2 = 1 := by omega
      rcases hb2 with hb2 | hb2
      · rw [hb2] at hand
        rw [hand] at HNX
        go_wp2_with fail
        go_roundg (n - (m + 1))
        case measure => omega
        case rel => exact ⟨m + 1, rfl, by go_num, by omega, unveil HNX _ rfl _ (unveil HST _)⟩
      · rw [hb2] at hand
        rw [hand] at HNX
        go_wp2_with fail
        go_roundg (n - (m + 1))
        case measure => omega
        case rel => exact ⟨m + 1, rfl, by go_num, by omega, unveil HNX _ rfl _ (unveil HST _)⟩
    · have hnl : ¬ (m : Int) < (n : Int) := by omega
      obtain rfl : m = n := by omega
      go_wp2_with fail
      refine bodyPost_end (results_none (fn := Try.f59) rfl _ _ _) rfl ?_
      exact ⟨⟨_, rfl⟩, (unveil hS).b, (unveil hS).gr⟩
end Go.Proofs.Ytkiebejidpebdaa
