/-
  What Join writes, on lists: lines that may be come back.
-/
import Derived.Test.YtaoekfokpbebfaaDoorTp3
namespace Go.Proofs.YtaoekfokpbebfaaDoor.Sx.Tx

def sp : Nat → List UInt8
  | 0 => []
  | g + 1 => 92 :: 10 :: sp g
theorem sp_length : ∀ g, (sp g).length = 2 * g
  | 0 => rfl
  | g + 1 => by simp [sp, sp_length g]; omega
theorem sp_snoc : ∀ g, sp (g + 1) = sp g ++ [92, 10]
  | 0 => rfl
  | g + 1 => by
    have h := sp_snoc g
    calc sp (g + 1 + 1) = 92 :: 10 :: sp (g + 1) := rfl
      _ = 92 :: 10 :: (sp g ++ [92, 10]) := by rw [h]
      _ = sp (g + 1) ++ [92, 10] := rfl
def gap (L : List (Nat × List UInt8)) (i : Nat) : Nat := if h : i + 1 < L.length then L[i + 1].1 - L[i].1 - 1 else 0
def pieceJ (L : List (Nat × List UInt8)) (i : Nat) : List UInt8 := (L.getD i (0, [])).2 ++ (sp (gap L i) ++ [10])
def jnk (L : List (Nat × List UInt8)) (k : Nat) : List UInt8 := (List.range k).flatMap (pieceJ L)
def jn (L : List (Nat × List UInt8)) : List UInt8 := jnk L L.length
theorem jnk_succ (L : List (Nat × List UInt8)) (k : Nat) : jnk L (k + 1) = jnk L k ++ pieceJ L k := by simp [jnk, List.range_succ]
theorem gap_cons (x : Nat × List UInt8) (r : List (Nat × List UInt8)) (i : Nat) : gap (x :: r) (i + 1) = gap r i := by simp [gap]
theorem pieceJ_cons (x : Nat × List UInt8) (r : List (Nat × List UInt8)) (i : Nat) : pieceJ (x :: r) (i + 1) = pieceJ r i := by simp [pieceJ, gap_cons]
theorem jn_cons (x : Nat × List UInt8) (r : List (Nat × List UInt8)) : jn (x :: r) = (x.2 ++ (sp (gap (x :: r) 0) ++ [10])) ++ jn r := by
  unfold jn jnk
  rw [List.length_cons, List.range_succ_eq_map, List.flatMap_cons, List.flatMap_map]
  congr 1
  have : (fun i => pieceJ (x :: r) (i + 1)) = pieceJ r := funext (pieceJ_cons x r)
  exact congrArg (fun f => (List.range r.length).flatMap f) this

def okS (s : List UInt8) : Prop := (∀ c ∈ s, c ≠ 13 ∧ c ≠ 10) ∧ bsB s = false
theorem pl_chars : ∀ (s cur d : List UInt8), (∀ c ∈ s, c ≠ 13 ∧ c ≠ 10) → pl cur (s ++ d) = pl (cur ++ s) d
  | [], cur, d, _ => by simp
  | c :: s, cur, d, h => by
    rw [List.cons_append, pl_char (h c (by simp)).1 (h c (by simp)).2, pl_chars s _ d (fun x hx => h x (by simp [hx]))]
    simp
theorem lg_sp : ∀ (g n f : Nat) (w cur d : List UInt8), bsB cur = false → lg n f w (pl cur (sp g ++ 10 :: d)) = (f, w ++ cur) :: lg (n + g + 1) (n + g + 1 + 1) [] (pl [] d)
  | 0, n, f, w, cur, d, h => by
    rw [sp, List.nil_append, pl_lf, lg, h]; simp
  | g + 1, n, f, w, cur, d, h => by
    rw [sp, List.cons_append, List.cons_append, pl_char (by decide) (by decide), pl_lf, lg, bsB_snoc, cutB_snoc]
    have hne : pl [] (sp g ++ 10 :: d) ≠ [] := fun e => by
      have := (pl_eq_nil.1 e).2
      simp at this
    rw [if_pos (by simp [hne]), lg_sp g _ _ _ _ _ (by decide)]
    simp only [List.append_nil]
    rw [show n + 1 + g + 1 = n + (g + 1) + 1 by omega]
theorem lg_jn : ∀ (L : List (Nat × List UInt8)) (n : Nat), (∀ x ∈ L, okS x.2) → (∀ i (h : i + 1 < L.length), L[i].1 < L[i + 1].1) → (∀ y, L.head? = some y → y.1 = n + 1) → lg n (n + 1) [] (pl [] (jn L)) = L
  | [], n, _, _, _ => by simp [jn, jnk, pl_nil, lg]
  | x :: r, n, hok, hch, hh => by
    have hx := hok x (by simp)
    rw [jn_cons, List.append_assoc, pl_chars _ _ _ hx.1, List.append_assoc, List.nil_append, List.singleton_append, lg_sp _ _ _ _ _ _ hx.2, List.nil_append]
    have e1 : n + 1 = x.1 := (hh x rfl).symm
    rw [lg_jn r (n + gap (x :: r) 0 + 1) (fun y hy => hok y (by simp [hy])) (fun i h => hch (i + 1) (by simpa using h)) (fun y hy => ?_), e1]
    cases r with
    | nil => simp at hy
    | cons z r =>
      obtain rfl : z = y := by simpa using hy
      have := hch 0 (by simp)
      simp [gap] at this ⊢
      omega
theorem lines_jn (L : List (Nat × List UInt8)) (hok : ∀ x ∈ L, okS x.2) (hch : ∀ i (h : i + 1 < L.length), L[i].1 < L[i + 1].1) (h1 : ∀ y, L.head? = some y → y.1 = 1) : lines (jn L) = L := by
  rw [lines_lg]; exact lg_jn L 0 hok hch h1
theorem jnk_length (L : List (Nat × List UInt8)) (hs : ∀ x ∈ L, x.2.length ≤ 100) (hg : ∀ i, gap L i ≤ 2) : ∀ k, (jnk L k).length ≤ 105 * k
  | 0 => by simp [jnk]
  | k + 1 => by
    rw [jnk_succ, List.length_append]
    have h1 := jnk_length L hs hg k
    have h2 := hg k
    have h3 : (L.getD k (0, [])).2.length ≤ 100 := by
      by_cases h : k < L.length
      · rw [List.getD_eq_getElem?_getD, List.getElem?_eq_getElem h]; exact hs _ (List.getElem_mem _)
      · rw [List.getD_eq_getElem?_getD, List.getElem?_eq_none (by omega)]; simp
    simp [pieceJ, sp_length] at h3 ⊢
    omega
end Go.Proofs.YtaoekfokpbebfaaDoor.Sx.Tx
