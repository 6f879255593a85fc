/-
  Bytes told by their bits; two values put in whichever order.
-/
import Derived.Test.YtkiebejidpebdaaTe
import Derived.Test.YtkiebejidpebdaaOs
import Derived.Test.YtkiebejidpebdaaTk
namespace Go.Proofs.Ytkiebejidpebdaa
open Go Go.RowKit Go.Shelf
set_option linter.unusedVariables false
set_option linter.unusedSimpArgs false

def byt (x : Int) : Nat → Nat
  | 0 => 0
  | n + 1 => byt x n + (if bits .and .u8 x (mskM n) != 0 then 2 ^ n else 0)
set_option maxRecDepth 100000 in
theorem byt_all : (List.range 256).all (fun x => byt (x : Int) 8 == x) = true := by decide +kernel
theorem byt_is {x : Int} (hx : 0 ≤ x ∧ x < 256) : (byt x 8 : Int) = x := by
  have h := List.all_eq_true.1 byt_all x.toNat (List.mem_range.2 (by omega))
  rw [show ((x.toNat : Nat) : Int) = x by omega] at h
  have := eq_of_beq h
  omega
theorem byt_sum (l : List Int) (i : Nat) : ∀ n, n ≤ 8 → sumB l (8 * i) n = byt (l.getD i 0) n
  | 0, _ => rfl
  | n + 1, h => by
    have hb : bL l (8 * i + n) = (bits .and .u8 (l.getD i 0) (mskM n) != 0) := by
      unfold bL
      rw [show (8 * i + n) / 8 = i by omega, msk_eq (b := 8 * i + n) (c := n) (by omega)]
    rw [sumB, byt, byt_sum l i n (by omega), hb]
/-- Bytes whose bits are the same are the same. -/
theorem bits_ext {l l' : List Int} (h : OkB l) (h' : OkB l') (hlen : l.length = l'.length) (hb : ∀ c, bL l c = bL l' c) : l = l' := by
  refine List.ext_getElem hlen fun i h1 h2 => ?_
  have e1 : l[i] = l.getD i 0 := by simp [List.getD_eq_getElem?_getD, h1]
  have e2 : l'[i] = l'.getD i 0 := by simp [List.getD_eq_getElem?_getD, h2]
  rw [e1, e2, ← byt_is (getD_ok h i), ← byt_is (getD_ok h' i), ← byt_sum l i 8 (Nat.le_refl 8), ← byt_sum l' i 8 (Nat.le_refl 8), sumB_congr (fun j _ => hb _)]
theorem wr_comm {l : List Int} (hl : OkB l) (v u : Int) (b n b2 n2 : Nat) (hf : b + n ≤ 8 * l.length) (hf2 : b2 + n2 ≤ 8 * l.length) (hd : b + n ≤ b2 ∨ b2 + n2 ≤ b) :
    (wrF (wrF l v (bitL b n)).1 u (bitL b2 n2)).1 = (wrF (wrF l u (bitL b2 n2)).1 v (bitL b n)).1 := by
  refine bits_ext (wrF_ok (wrF_ok hl _ _) _ _) (wrF_ok (wrF_ok hl _ _) _ _) (by rw [wrF_len, wrF_len, wrF_len, wrF_len]) fun c => ?_
  rw [wrF_bit (wrF_ok hl v _) u b2 n2 (by rw [wrF_len]; exact hf2), wrF_bit hl v b n hf, wrF_bit (wrF_ok hl u _) v b n (by rw [wrF_len]; exact hf), wrF_bit hl u b2 n2 hf2]
  by_cases h1 : b ≤ c ∧ c < b + n
  · by_cases h2 : b2 ≤ c ∧ c < b2 + n2
    · omega
    · simp only [if_pos h1, if_neg h2]
  · simp only [if_neg h1]
theorem PtO.on {t : ShT} {T : ByteArray} {path : List Int} {v : Int} {b n : Nat} {k : Int} (h : PtO t T path v b n k) (A : ByteArray) (hA : A.size = T.size) (u : Int) : ptM t A path u = (toB (wrF (ofB A) u (bitL b n)).1, 0) := by
  unfold ptM
  rw [fi_of h.chk h.ok (by rw [hA]; exact h.sz), h.sp]
  simp
theorem turM_nou : ∀ (S : List ((ShT × Int × Int) × Int × Int)) (bs : List Int) (L : List Int → Option Int) (pre : List Int), (∀ st ∈ S, (st.1.1.sh == 5) = false) → turM bs L pre S = (bs, L)
  | [], _, _, _, _ => rfl
  | (x, fr, s) :: r, bs, L, pre, h => by
    have h0 := h (x, fr, s) (List.mem_cons_self ..)
    rw [turM, if_neg (by rw [h0]; simp)]
    exact turM_nou r bs L _ (fun st hs => h st (List.mem_cons_of_mem _ hs))
/-- Two numbers set, in a type without unions: one behind the other. -/
theorem mk_two {t : ShT} {T : ByteArray} {s1 s2 : SetT} {b n b2 n2 : Nat} {k k2 : Int} (h1 : PtO t T s1.path s1.v b n k) (h2 : PtO t T s2.path s2.v b2 n2 k2) :
    ∃ X, mkM t [s1, s2] = (toB X, 0, 0) ∧ (huM 6 t = false → X = (wrF (wrF (List.replicate T.size 0) s1.v (bitL b n)).1 s2.v (bitL b2 n2)).1) := by
  unfold mkM
  rw [if_pos h1.chk, mkR, if_pos h1.ok, mkR, if_pos h2.ok, mkR, h1.sp, h2.sp]
  refine ⟨_, rfl, fun hu => ?_⟩
  have hz : (chkM t).1.1.toNat = T.size := by have := h1.sz; omega
  have f1 := fol_nou s1.path 6 (x0M t) 0 (Nat.le_refl 6) (GdN.whole h1.chk) hu
  have f2 := fol_nou s2.path 6 (x0M t) 0 (Nat.le_refl 6) (GdN.whole h1.chk) hu
  rw [turM_nou _ _ _ _ f1, turM_nou _ _ _ _ f2, hz]
  simp only [Int.toNat_natCast]
theorem rep_ok (n : Nat) : OkB (List.replicate n 0) := fun x hx => by
  rw [(List.mem_replicate.1 hx).2]
  omega
/-- What is known of two spots that share no bit. -/
theorem swap_facts (t : ShT) (T : ByteArray) (p : Option Addr) (cap : Nat) (path : List Int) (p2 : Option Addr) (cap2 : Nat) (path2 : List Int) (v u : Int)
    (e1 : ((fnM t path).2.2 == 0) = true) (e2 : ((fnM t path2).2.2 == 0) = true) (hd : ¬ ((fnM t path2).1.1 < (fnM t path).1.1 + (fnM t path).1.2.1 ∧ (fnM t path).1.1 < (fnM t path2).1.1 + (fnM t path2).1.2.1)) :
    (ptM t T path2 u).2 = (ptM t T path v).2 ∧ (((ptM t T path v).2 == 0) = true → ∃ Z X Y, ptM t (ptM t T path v).1 path2 u = (Z, 0) ∧ ptM t (ptM t T path2 u).1 path v = (Z, 0) ∧
      mkM t [⟨p, cap, path, v⟩, ⟨p2, cap2, path2, u⟩] = (X, 0, 0) ∧ mkM t [⟨p2, cap2, path2, u⟩, ⟨p, cap, path, v⟩] = (Y, 0, 0) ∧ rigM 6 t = true ∧ (X = Y ∨ huM 6 t = true)) := by
  obtain ⟨c1, o1, s1, z1⟩ := fn_ok e1
  obtain ⟨_, o2, s2, z2⟩ := fn_ok e2
  have hee : (ptM t T path2 u).2 = (ptM t T path v).2 := by
    have g1 : (fnM t path).2.2 = 0 := eq_of_beq e1
    have g2 : (fnM t path2).2.2 = 0 := eq_of_beq e2
    unfold ptM fiM
    rw [g1, g2, z1, z2]
    cases hn : ((T.size : Int) != (chkM t).1.1) <;> simp [hn, g1, g2]
  refine ⟨hee, fun hk => ?_⟩
  obtain ⟨b, n, k, H1⟩ := pt_yes hk
  obtain ⟨b2, n2, k2, H2⟩ := pt_yes (t := t) (T := T) (path := path2) (v := u) (by rw [hee]; exact hk)
  have hsp := H1.sp
  have hsp2 := H2.sp
  have hd' : b + n ≤ b2 ∨ b2 + n2 ≤ b := by
    rw [s1, s2, hsp, hsp2] at hd
    simp only at hd
    omega
  have hA : (ptM t T path v).1.size = T.size := H1.size
  have hB : (ptM t T path2 u).1.size = T.size := H2.size
  have hl : (ofB T).length = T.size := ofB_len T
  obtain ⟨X, hX, hX'⟩ := mk_two (s1 := ⟨p, cap, path, v⟩) (s2 := ⟨p2, cap2, path2, u⟩) H1 H2
  obtain ⟨Y, hY, hY'⟩ := mk_two (s1 := ⟨p2, cap2, path2, u⟩) (s2 := ⟨p, cap, path, v⟩) H2 H1
  refine ⟨toB (wrF (wrF (ofB T) v (bitL b n)).1 u (bitL b2 n2)).1, toB X, toB Y, ?_, ?_, hX, hY, chk_ok c1, ?_⟩
  · rw [H2.on _ hA, H1.out]
    simp only
    rw [ofB_to (wrF_ok (ofB_ok T) v _)]
  · rw [H1.on _ hB, H2.out]
    simp only
    rw [ofB_to (wrF_ok (ofB_ok T) u _), wr_comm (ofB_ok T) v u b n b2 n2 (by rw [hl]; exact H1.fit) (by rw [hl]; exact H2.fit) hd']
  · cases hu : huM 6 t
    · left
      have hr : (List.replicate T.size (0 : Int)).length = T.size := List.length_replicate ..
      rw [hX' hu, hY' hu]
      simp only
      rw [wr_comm (rep_ok T.size) v u b n b2 n2 (by rw [hr]; exact H1.fit) (by rw [hr]; exact H2.fit) hd']
    · exact .inr rfl
end Go.Proofs.Ytkiebejidpebdaa
