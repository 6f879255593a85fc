/-
  The document's own numbers, on lists: they are the program's.
  The document's own hex, base, suffix: the walks.
  The document's own suffix, Number: the walks.
  The document's own Number: the walk.
-/
import Derived.Test.YtfghfohlcofdpaaGreatDoorE1
namespace Go.Proofs.YtfghfohlcofdpaaGreatDoor
open Go Go.RowKit
set_option linter.unusedVariables false
set_option linter.unusedSimpArgs false

/-- The document's digit; 16: it is none. -/
def hexM (c : Int) : Int := if 48 ≤ c ∧ c ≤ 57 then c - 48 else if 97 ≤ c ∧ c ≤ 102 then c - 87 else if 65 ≤ c ∧ c ≤ 70 then c - 55 else 16
theorem hexM_range (c : Int) : 0 ≤ hexM c ∧ hexM c ≤ 16 := by unfold hexM; repeat' split <;> omega
/-- The digits' value, and how many there are; none: it is too great. -/
def rdg (b : Int) : Int → List UInt8 → Option (Int × Nat)
  | v, [] => some (v, 0)
  | v, c :: r => if hexM c.toNat < b then
      if (18446744073709551615 - hexM c.toNat).tdiv b < v then none else (rdg b (v * b + hexM c.toNat) r).map fun x => (x.1, x.2 + 1)
    else some (v, 0)
theorem hex_facts : ∀ c : UInt8, (∀ b : Int, b = 16 ∨ b = 8 ∨ b = 10 → digM (c.toNat : Int) b = decide (hexM c.toNat < b)) ∧ (hexM c.toNat < 16 → dvM (c.toNat : Int) = hexM c.toNat) := by
  intro c
  have h : ∀ n : Fin 256, (digM ((UInt8.ofNat n.1).toNat : Int) 16 = decide (hexM (UInt8.ofNat n.1).toNat < 16) ∧ digM ((UInt8.ofNat n.1).toNat : Int) 8 = decide (hexM (UInt8.ofNat n.1).toNat < 8) ∧ digM ((UInt8.ofNat n.1).toNat : Int) 10 = decide (hexM (UInt8.ofNat n.1).toNat < 10)) ∧
      (hexM (UInt8.ofNat n.1).toNat < 16 → dvM ((UInt8.ofNat n.1).toNat : Int) = hexM (UInt8.ofNat n.1).toNat) := by decide +kernel
  have := h ⟨c.toNat, c.toNat_lt⟩
  simp only [UInt8.ofNat_toNat] at this
  refine ⟨fun b hb => ?_, this.2⟩
  rcases hb with rfl | rfl | rfl
  · exact this.1.1
  · exact this.1.2.1
  · exact this.1.2.2
theorem rdg_is (b : Int) (hb : b = 16 ∨ b = 8 ∨ b = 10) : ∀ (l : List UInt8) (v : Int), 0 ≤ v → v < 18446744073709551616 →
    rdg b v l = if (puM b (baseC b) v (l.take (digN b l))).2 = 0 then some ((puM b (baseC b) v (l.take (digN b l))).1, digN b l) else none
  | [], v, h0, h1 => by simp [rdg, digN, puM]
  | c :: r, v, h0, h1 => by
    obtain ⟨hd, hv⟩ := hex_facts c
    have hr := hexM_range (c.toNat : Int)
    rw [rdg, digN, hd b hb]
    by_cases hc : hexM c.toNat < b
    · have hc16 : hexM c.toNat < 16 := by rcases hb with rfl | rfl | rfl <;> omega
      rw [if_pos hc, if_pos (decide_eq_true hc), List.take_succ_cons, puM, hv hc16, if_neg (show ¬ b ≤ hexM c.toNat by omega)]
      have hcut : baseC b = (18446744073709551615 : Int) / b + 1 := by rcases hb with rfl | rfl | rfl <;> decide
      have hb0 : 0 < b := by rcases hb with rfl | rfl | rfl <;> decide
      have htd : (18446744073709551615 - hexM c.toNat).tdiv b = (18446744073709551615 - hexM c.toNat) / b := Int.tdiv_eq_ediv_of_nonneg (by omega)
      have hiff : (18446744073709551615 - hexM c.toNat) / b < v ↔ 18446744073709551616 ≤ v * b + hexM c.toNat := by
        rw [Int.ediv_lt_iff_lt_mul hb0]; omega
      by_cases hbig : 18446744073709551616 ≤ v * b + hexM c.toNat
      · rw [htd, if_pos (hiff.2 hbig)]
        by_cases hq : baseC b ≤ v
        · rw [if_pos hq]; simp
        · rw [if_neg hq, if_pos hbig]; simp
      · have hq : ¬ baseC b ≤ v := by
          intro hq
          rcases hb with rfl | rfl | rfl
          · rw [show baseC 16 = 1152921504606846976 from rfl] at hq; omega
          · rw [show baseC 8 = 2305843009213693952 from rfl] at hq; omega
          · rw [show baseC 10 = 1844674407370955162 from rfl] at hq; omega
        rw [htd, if_neg (fun h => hbig (hiff.1 h)), if_neg hq, if_neg hbig]
        have hm : 0 ≤ v * b := Int.mul_nonneg h0 (by omega)
        rw [rdg_is b hb r (v * b + hexM c.toNat) (by omega) (by omega)]
        split
        · rfl
        · rfl
    · rw [if_neg hc, show decide (hexM c.toNat < b) = false from decide_eq_false hc]
      simp [puM]
/-- The document's suffix: which byte stood last, how many u, how many l. -/
def rsuf : UInt8 → Nat → Nat → List UInt8 → Bool × Bool
  | _, u, l, [] => (decide (u ≤ 1) && decide (l ≤ 2), u == 1)
  | p, u, l, c :: r => if c == 117 || c == 85 then rsuf c (u + 1) l r
    else if (c != 108 && c != 76) || (decide (0 < l) && p != c) then (false, false) else rsuf c u (l + 1) r
theorem rsuf_many : ∀ (t : List UInt8) (p : UInt8) (u l : Nat), 3 < u + l + t.length → (rsuf p u l t).1 = false
  | [], p, u, l, h => by
    simp only [rsuf, List.length_nil] at h ⊢
    simp; omega
  | c :: r, p, u, l, h => by
    rw [rsuf]
    simp only [List.length_cons] at h
    split
    · exact rsuf_many r c (u + 1) l (by omega)
    · split
      · rfl
      · exact rsuf_many r c u (l + 1) (by omega)
theorem suf_long (t : List UInt8) (h : 3 < t.length) : sufM t = (false, false) := by
  match t, h with
  | a :: b :: c :: d :: r, _ => simp [sufM]
theorem suf_is (t : List UInt8) (p : UInt8) : (sufM t).2 = (rsuf p 0 0 t).1 ∧ ((rsuf p 0 0 t).1 = true → (sufM t).1 = (rsuf p 0 0 t).2) := by
  by_cases hl : 3 < t.length
  · have h1 := rsuf_many t p 0 0 (by omega)
    rw [suf_long t hl, h1]
    exact ⟨rfl, fun h => by cases h⟩
  · have hk : ∀ c : UInt8, c = 117 ∨ c = 85 ∨ c = 108 ∨ c = 76 ∨ (c ≠ 117 ∧ c ≠ 85 ∧ c ≠ 108 ∧ c ≠ 76) := fun c => by
      by_cases h1 : c = 117
      · exact .inl h1
      · by_cases h2 : c = 85
        · exact .inr (.inl h2)
        · by_cases h3 : c = 108
          · exact .inr (.inr (.inl h3))
          · by_cases h4 : c = 76
            · exact .inr (.inr (.inr (.inl h4)))
            · exact .inr (.inr (.inr (.inr ⟨h1, h2, h3, h4⟩)))
    match t, hl with
    | [], _ => exact ⟨rfl, fun _ => rfl⟩
    | [a], _ =>
      rcases hk a with rfl | rfl | rfl | rfl | ⟨h1, h2, h3, h4⟩
      all_goals first | exact ⟨rfl, fun _ => rfl⟩ | (simp [sufM, rsuf, *]; done)
    | [a, b], _ =>
      rcases hk a with rfl | rfl | rfl | rfl | ⟨h1, h2, h3, h4⟩ <;> rcases hk b with rfl | rfl | rfl | rfl | ⟨g1, g2, g3, g4⟩
      all_goals first | exact ⟨rfl, fun _ => rfl⟩ | exact ⟨rfl, fun h => by cases h⟩ | (simp [sufM, rsuf, *]; done)
    | [a, b, c], _ =>
      rcases hk a with rfl | rfl | rfl | rfl | ⟨h1, h2, h3, h4⟩ <;> rcases hk b with rfl | rfl | rfl | rfl | ⟨g1, g2, g3, g4⟩ <;> rcases hk c with rfl | rfl | rfl | rfl | ⟨i1, i2, i3, i4⟩
      all_goals first | exact ⟨rfl, fun _ => rfl⟩ | exact ⟨rfl, fun h => by cases h⟩ | (simp [sufM, rsuf, *]; done)
    | a :: b :: c :: d :: r, hl => exact absurd (by simp) hl
/-- The document's number. -/
def rnumM (s : List UInt8) : Value :=
  if s = [] then .tuple #[.int .u64 0, .bool false, .int .i64 50]
  else match rdg (baseM s) 0 (restM s) with
    | none => .tuple #[.int .u64 0, .bool false, .int .i64 50]
    | some (v, n) => if (rsuf 0 0 0 ((restM s).drop n)).1 && n != 0 then .tuple #[.int .u64 v, .bool ((rsuf 0 0 0 ((restM s).drop n)).2 || (decide (9223372036854775808 ≤ v) && baseM s != 10)), .int .i64 0] else .tuple #[.int .u64 0, .bool false, .int .i64 50]
theorem rnum_is (s : List UInt8) : rnumM s = evalV (numM s) := by
  have hbi := baseM_is s
  unfold rnumM
  by_cases hs : s = []
  · subst hs
    rw [if_pos rfl]
    rfl
  · rw [if_neg hs, rdg_is (baseM s) hbi (restM s) 0 (by decide) (by decide)]
    unfold numM
    simp only
    generalize restM s = r
    generalize baseM s = b at *
    have hle := digN_le b r
    generalize hn : digN b r = n at *
    by_cases h0 : n = 0
    · subst h0
      simp [puM, puS, evalV]
    · have hne : r.take n ≠ [] := by
        intro h
        have := congrArg List.length h
        rw [List.length_take, List.length_nil] at this
        omega
      have hpu : puS b (baseC b) (r.take n) = puM b (baseC b) 0 (r.take n) := by rw [puS, if_neg hne]
      rw [hpu]
      by_cases hz : (puM b (baseC b) 0 (r.take n)).2 = 0
      · obtain ⟨hs1, hs2⟩ := suf_is (r.drop n) 0
        rw [if_pos hz, if_neg (by simpa using hz)]
        simp only
        cases hok : (rsuf 0 0 0 (r.drop n)).1
        · rw [hok] at hs1
          simp [evalV, hs1]
        · rw [hok] at hs1 hs2
          rw [← hs2 rfl]
          simp [evalV, hs1, h0]
      · rw [if_neg hz, if_pos (by simpa using hz)]
        rfl
end Go.Proofs.YtfghfohlcofdpaaGreatDoor
namespace Go.Proofs.YtfghfohlcofdpaaGreatDoor
open Go Go.RowKit
set_option linter.unusedVariables false
set_option linter.unusedSimpArgs false

set_option maxRecDepth 100000 in
set_option maxHeartbeats 1000000 in
theorem hex_any (c : Int) (h0 : 0 ≤ c) (h1 : c < 256) (w : World) : Calls Tryz.prog 83 #[.int .u8 c] w fun e w' => e = .returned (.int .i64 (hexM c)) ∧ w' = w := by
  have HR : Hid (hexM c = if 48 ≤ c ∧ c ≤ 57 then c - 48 else if 97 ≤ c ∧ c ≤ 102 then c - 87 else if 65 ≤ c ∧ c ≤ 70 then c - 55 else 16) := rfl
  generalize hexM c = R at *
  by_cases a1 : 48 ≤ c <;> by_cases a2 : c ≤ 57 <;> by_cases a3 : 97 ≤ c <;> by_cases a4 : c ≤ 102 <;> by_cases a5 : 65 ≤ c <;> by_cases a6 : c ≤ 70
  all_goals first
    | (exfalso; omega)
    | (simp only [a1, a2, a3, a4, a5, a6, and_self, and_true, and_false, if_true, if_false] at HR
       obtain rfl := unhide HR
       go_enter Tryz.func83, Tryz.ntmps83
       go_wp2
       go_ret
       refine ⟨?_, rfl⟩
       first | rfl | (congr 2; simp; omega) | (simp; omega))
/-- What base tells. -/
def atM (s : List UInt8) : Int := if baseM s == 16 then 2 else 0
set_option maxRecDepth 100000 in
set_option maxHeartbeats 1000000 in
theorem base_any (B : ByteArray) (hB : 0 < B.size) (w : World) (b at_ : Int)
    (HZ : Hid ((b, at_) = if h : 1 < B.size then (if (B[0].toNat : Int) == 48 then (if ((B[1].toNat : Int) == 120) || ((B[1].toNat : Int) == 88) then (16, 2) else (8, 0)) else (10, 0)) else (if (B[0].toNat : Int) == 48 then (8, 0) else (10, 0)))) :
    Calls Tryz.prog 82 #[.string B] w fun e w' => e = .returned (.tuple #[.int .u64 b, .int .i64 at_]) ∧ w' = w := by
  by_cases hl : 1 < B.size
  · have i1 : (1 : Int) < (B.size : Int) := by omega
    have hz := unhide HZ
    rw [dif_pos hl] at hz
    cases h0 : ((B[0].toNat : Int) == 48)
    · rw [h0] at hz
      simp only [Bool.false_eq_true, if_false, Prod.mk.injEq] at hz
      obtain ⟨rfl, rfl⟩ := hz
      clear HZ
      go_enter Tryz.func82, Tryz.ntmps82
      go_wp2
      go_ret2
      exact ⟨rfl, rfl⟩
    · rw [h0] at hz
      simp only [if_true] at hz
      cases h1 : ((B[1].toNat : Int) == 120) <;> cases h2 : ((B[1].toNat : Int) == 88)
      all_goals (
        rw [h1, h2] at hz
        simp only [Bool.or_self, Bool.or_true, Bool.true_or, Bool.or_false, Bool.false_eq_true, if_false, if_true, Prod.mk.injEq] at hz
        obtain ⟨rfl, rfl⟩ := hz
        clear HZ
        go_enter Tryz.func82, Tryz.ntmps82
        go_wp2
        go_ret2
        exact ⟨rfl, rfl⟩)
  · have i1 : ¬ (1 : Int) < (B.size : Int) := by omega
    have hz := unhide HZ
    rw [dif_neg hl] at hz
    cases h0 : ((B[0].toNat : Int) == 48)
    all_goals (
      rw [h0] at hz
      simp only [Bool.false_eq_true, if_false, if_true, Prod.mk.injEq] at hz
      obtain ⟨rfl, rfl⟩ := hz
      clear HZ
      go_enter Tryz.func82, Tryz.ntmps82
      go_wp2
      go_ret2
      exact ⟨rfl, rfl⟩)
end Go.Proofs.YtfghfohlcofdpaaGreatDoor
namespace Go.Proofs.YtfghfohlcofdpaaGreatDoor
open Go Go.RowKit
set_option linter.unusedVariables false
set_option linter.unusedSimpArgs false

theorem byte_is (c d : UInt8) : (c == d) = ((c.toNat : Int) == (d.toNat : Int)) := by
  have : c = d ↔ c.toNat = d.toNat := UInt8.toNat_inj.symm
  rw [Bool.eq_iff_iff]; simp [this]; omega
theorem byte_isnt (c d : UInt8) : (c != d) = ((c.toNat : Int) != (d.toNat : Int)) := by
  rw [bne, bne, byte_is]
theorem baseL_any (s : List UInt8) (hs : s ≠ []) (w : World) : Calls Tryz.prog 82 #[.string ⟨s.toArray⟩] w fun e w' => e = .returned (.tuple #[.int .u64 (baseM s), .int .i64 (atM s)]) ∧ w' = w := by
  have hlen : (⟨s.toArray⟩ : ByteArray).size = s.length := by show s.toArray.size = _; simp
  have h0 : 0 < s.length := by cases s with
    | nil => exact absurd rfl hs
    | cons c r => simp
  refine base_any ⟨s.toArray⟩ (by rw [hlen]; exact h0) w _ _ ?_
  match s, h0 with
  | [c], _ =>
    have e : ((c.toNat : Int) == 48) = (c == 48) := (byte_is c 48).symm
    show (baseM [c], atM [c]) = if (c.toNat : Int) == 48 then (8, 0) else (10, 0)
    rw [e]
    unfold atM baseM
    cases hc : c == 48
    · have : (48 == c) = false := by rw [Bool.eq_false_iff] at hc ⊢; intro h; exact hc (by simpa using (by simpa using h : 48 = c).symm)
      simp [Tk.pre, List.isPrefixOf, this]
    · obtain rfl : c = 48 := by simpa using hc
      rfl
  | c :: d :: r, _ =>
    have e : ((c.toNat : Int) == 48) = (c == 48) := (byte_is c 48).symm
    have e1 : ((d.toNat : Int) == 120) = (d == 120) := (byte_is d 120).symm
    have e2 : ((d.toNat : Int) == 88) = (d == 88) := (byte_is d 88).symm
    show (baseM (c :: d :: r), atM (c :: d :: r)) = dite _ _ _
    rw [dif_pos (by rw [hlen]; simp)]
    show (baseM (c :: d :: r), atM (c :: d :: r)) = if (c.toNat : Int) == 48 then (if ((d.toNat : Int) == 120) || ((d.toNat : Int) == 88) then (16, 2) else (8, 0)) else (10, 0)
    rw [e, e1, e2]
    rw [BEq.comm (a := c), BEq.comm (a := d) (b := 120), BEq.comm (a := d) (b := 88)]
    unfold atM baseM
    simp only [Tk.pre, List.isPrefixOf]
    by_cases h1 : 48 = c <;> by_cases h2 : 120 = d <;> by_cases h3 : 88 = d <;> simp [h1, h2, h3]
theorem rsuf_step (p c : UInt8) (u l : Nat) (r : List UInt8) : rsuf p u l (c :: r) = if ((c.toNat : Int) == 117) || ((c.toNat : Int) == 85) then rsuf c (u + 1) l r
    else if (((c.toNat : Int) != 108) && ((c.toNat : Int) != 76)) || (decide (0 < l) && ((p.toNat : Int) != (c.toNat : Int))) then (false, false) else rsuf c u (l + 1) r := by
  rw [rsuf, byte_is, byte_is, byte_isnt, byte_isnt, byte_isnt]
  rfl
/-- The bytes that stand, one after the other, behind what was read. -/
def prevM (t : List UInt8) (k : Nat) (p : UInt8) : Prop := 0 < k → ∃ h : k - 1 < t.length, t[k - 1] = p
set_option maxRecDepth 100000 in
set_option maxHeartbeats 4000000 in
theorem suffix_any (t : List UInt8) (ht : t.length ≤ 140737488355328) (w : World) : Calls Tryz.prog 84 #[.string ⟨t.toArray⟩] w fun e w' => e = .returned (.tuple #[.bool (rsuf 0 0 0 t).1, .bool (rsuf 0 0 0 t).2]) ∧ Below w.heap.size w w' := by
  have hlen : (⟨t.toArray⟩ : ByteArray).size = t.length := by show t.toArray.size = _; simp
  have hat : ∀ i (h : i < t.length), (⟨t.toArray⟩ : ByteArray)[i]'(by rw [hlen]; exact h) = t[i] := fun i h => rfl
  have HZ : Hid (rsuf 0 0 0 t = rsuf 0 0 0 (t.drop 0)) := rfl
  generalize rsuf 0 0 0 t = Z at *
  have HAT := hide hat
  clear hat
  generalize hT : (⟨t.toArray⟩ : ByteArray) = T at *
  have HT := hide hT
  clear hT
  go_enter Tryz.func84, Tryz.ntmps84
  go_wp2
  go_loopg [4, 5, 6] t.length (fun gk vu vl vi wr => ∃ (k u l : Nat) (p : UInt8), gk = t.length - k ∧ vu = .int .i64 u ∧ vl = .int .i64 l ∧ vi = .int .i64 k ∧ k ≤ t.length ∧ u + l = k ∧ Hid (prevM t k p) ∧ Hid (Z = rsuf p u l (t.drop k)) ∧ Hid (Below w.heap.size w wr))
  case atStart => exact ⟨0, 0, 0, 0, rfl, rfl, rfl, rfl, by omega, rfl, fun h => absurd h (by decide), unhide HZ, Below.refl _ _⟩
  case round =>
    clear HZ
    obtain ⟨k, u, l, p, rfl, rfl, rfl, rfl, hk, hul, HPV, HZ, HB⟩ := hrel
    by_cases hkl : k < t.length
    · have i1 : (k : Int) < (t.length : Int) := by omega
      have hkT : k < T.size := by rw [hlen]; exact hkl
      have hz := unhide HZ
      rw [List.drop_eq_getElem_cons hkl, rsuf_step] at hz
      have hak := unhide HAT k hkl
      rw [← hak] at hz
      have HNX : Hid (prevM t (k + 1) T[k]) := fun _ => ⟨by omega, by rw [hak]; rfl⟩
      have hcr := byte_range T[k]
      cases hu : ((T[k].toNat : Int) == 117) <;> cases hU : ((T[k].toNat : Int) == 85)
      · simp only [hu, hU, Bool.or_self, Bool.false_eq_true, if_false] at hz
        have HZ2 := hide hz
        clear hz HZ hak
        by_cases hl0 : 0 < l
        · obtain ⟨hk1, hp⟩ := unhide HPV (by omega)
          have hpT := unhide HAT (k - 1) hk1
          rw [hp] at hpT
          have j1 : (1 : Int) ≤ (k : Int) := by omega
          have j2 : (k : Int) - 1 < (t.length : Int) := by omega
          have j3 : (0 : Int) < (l : Int) := by omega
          have hkT1 : k - 1 < T.size := by rw [hlen]; exact hk1
          rw [← hpT] at HZ2
          rw [decide_eq_true hl0] at HZ2
          clear hpT hp
          cases h1 : ((T[k].toNat : Int) != 108) <;> cases h2 : ((T[k].toNat : Int) != 76) <;> cases h3 : ((T[k - 1].toNat : Int) != (T[k].toNat : Int))
          all_goals (
            simp only [h1, h2, h3, Bool.and_true, Bool.and_false, Bool.and_self, Bool.or_false, Bool.or_true, Bool.or_self, Bool.false_eq_true, if_false, if_true] at HZ2
            go_upto_region 8 with fail
            go_quiet (fail)
            have HBa := hide (below_drewN (unhide HB) nq)
            generalize World.drewN _ nq = Wa at *
            clear HB nq
            go_wp2
            first
            | done
            | (go_roundg (t.length - (k + 1))
               case measure => omega
               case rel => exact ⟨k + 1, u, l + 1, T[k], rfl, rfl, by go_num, by go_num, by omega, by omega, HNX, HZ2, HBa⟩)
            | (go_ret2
               exact ⟨by rw [unhide HZ2]; rfl, unhide HBa⟩))
        · obtain rfl : l = 0 := by omega
          cases h1 : ((T[k].toNat : Int) != 108) <;> cases h2 : ((T[k].toNat : Int) != 76)
          all_goals (
            simp only [h1, h2, Nat.lt_irrefl, decide_false, Bool.false_and, Bool.and_true, Bool.and_false, Bool.and_self, Bool.or_false, Bool.or_true, Bool.or_self, Bool.false_eq_true, if_false, if_true] at HZ2
            go_upto_region 8 with fail
            go_quiet (fail)
            have HBa := hide (below_drewN (unhide HB) nq)
            generalize World.drewN _ nq = Wa at *
            clear HB nq
            go_wp2
            first
            | done
            | (go_roundg (t.length - (k + 1))
               case measure => omega
               case rel => exact ⟨k + 1, u, 0 + 1, T[k], rfl, rfl, by go_num, by go_num, by omega, by omega, HNX, HZ2, HBa⟩)
            | (go_ret2
               exact ⟨by rw [unhide HZ2]; rfl, unhide HBa⟩))
      all_goals (
        simp only [hu, hU, Bool.or_self, Bool.or_true, Bool.true_or, if_true] at hz
        have HZ2 := hide hz
        clear hz HZ hak
        go_wp2
        go_roundg (t.length - (k + 1))
        case measure => omega
        case rel => exact ⟨k + 1, u + 1, l, T[k], rfl, by go_num, rfl, by go_num, by omega, by omega, HNX, HZ2, HB⟩)
    · have i1 : ¬ (k : Int) < (t.length : Int) := by omega
      have hz := unhide HZ
      rw [List.drop_eq_nil_of_le (by omega), rsuf] at hz
      have HZ2 := hide hz
      clear hz HZ
      have e1 : decide (u ≤ 1) = decide ((u : Int) ≤ 1) := by rw [decide_eq_decide]; omega
      have e2 : decide (l ≤ 2) = decide ((l : Int) ≤ 2) := by rw [decide_eq_decide]; omega
      have e3 : (u == 1) = ((u : Int) == 1) := by rw [Bool.eq_iff_iff]; simp; omega
      rw [e1, e2, e3] at HZ2
      clear e1 e2 e3
      cases h1 : decide ((u : Int) ≤ 1) <;> cases h2 : decide ((l : Int) ≤ 2)
      all_goals (
        rw [h1, h2] at HZ2
        go_wp2
        go_ret2
        exact ⟨by rw [unhide HZ2]; rfl, unhide HB⟩)
end Go.Proofs.YtfghfohlcofdpaaGreatDoor
namespace Go.Proofs.YtfghfohlcofdpaaGreatDoor
open Go Go.RowKit
set_option linter.unusedVariables false
set_option linter.unusedSimpArgs false

set_option maxRecDepth 100000 in
set_option maxHeartbeats 1000000 in
theorem rNumber_nil (w : World) : Calls Tryz.prog 68 #[.string ⟨#[]⟩] w fun e w' => e = .returned (.tuple #[.int .u64 0, .bool false, .int .i64 50]) ∧ Below w.heap.size w w' := by
  go_enter Tryz.func68, Tryz.ntmps68
  go_wp2
  go_ret3
  exact ⟨rfl, Below.refl _ _⟩
set_option maxRecDepth 100000 in
set_option maxHeartbeats 4000000 in
theorem rNumber_go (s : List UInt8) (hne : s ≠ []) (hs : s.length ≤ 140737488355328) (w : World) (b : Int) (A0 : Nat) (r : List UInt8) (hb : baseM s = b) (hA : atM s = (A0 : Int)) (hr : s.drop A0 = r) (hA0 : A0 ≤ s.length) :
    Calls Tryz.prog 68 #[.string ⟨s.toArray⟩] w fun e w' => e = .returned (match rdg b 0 r with
    | none => .tuple #[.int .u64 0, .bool false, .int .i64 50]
    | some (v, n) => if (rsuf 0 0 0 (r.drop n)).1 && n != 0 then .tuple #[.int .u64 v, .bool ((rsuf 0 0 0 (r.drop n)).2 || (decide (9223372036854775808 ≤ v) && b != 10)), .int .i64 0] else .tuple #[.int .u64 0, .bool false, .int .i64 50]) ∧ Below w.heap.size w w' := by
  have hte : (s == []) = false := by cases s with
    | nil => exact absurd rfl hne
    | cons x r => rfl
  have hbi : b = 16 ∨ b = 8 ∨ b = 10 := hb ▸ baseM_is s
  have HBA := hide (fun W => baseL_any s hne W)
  rw [hb, hA] at HBA
  have hlen : (⟨s.toArray⟩ : ByteArray).size = s.length := by show s.toArray.size = _; simp
  have hrl : A0 + r.length = s.length := by rw [← hr, List.length_drop]; omega
  have HAT : Hid (∀ i (h : i < r.length), ∃ h2 : A0 + i < (⟨s.toArray⟩ : ByteArray).size, (⟨s.toArray⟩ : ByteArray)[A0 + i] = r[i]) := fun i h => ⟨by omega, by subst hr; simp; rfl⟩
  have HEX : Hid (∀ i, i ≤ r.length → (⟨s.toArray⟩ : ByteArray).extract (A0 + i) (⟨s.toArray⟩ : ByteArray).size = ⟨(r.drop i).toArray⟩) := fun i h => by
    rw [ext_list, hlen, List.take_length, ← hr, List.drop_drop]
  have HSU := hide (fun (t : List UInt8) (ht : t.length ≤ 140737488355328) W => suffix_any t ht W)
  have HPO : Hid (∀ X : Option (Int × Nat), X = rdg b 0 r → (match X with
    | none => Value.tuple #[.int .u64 0, .bool false, .int .i64 50]
    | some (v, n) => if (rsuf 0 0 0 (r.drop n)).1 && n != 0 then .tuple #[.int .u64 v, .bool ((rsuf 0 0 0 (r.drop n)).2 || (decide (9223372036854775808 ≤ v) && b != 10)), .int .i64 0] else .tuple #[.int .u64 0, .bool false, .int .i64 50]) = (match rdg b 0 r with
    | none => .tuple #[.int .u64 0, .bool false, .int .i64 50]
    | some (v, n) => if (rsuf 0 0 0 (r.drop n)).1 && n != 0 then .tuple #[.int .u64 v, .bool ((rsuf 0 0 0 (r.drop n)).2 || (decide (9223372036854775808 ≤ v) && b != 10)), .int .i64 0] else .tuple #[.int .u64 0, .bool false, .int .i64 50])) := fun X h => by rw [h]
  have HZ : Hid (rdg b 0 r = (rdg b 0 (r.drop 0)).map fun x => (x.1, x.2 + 0)) := by rw [Hid, List.drop_zero]; cases rdg b 0 r <;> rfl
  generalize (match rdg b 0 r with
    | none => Value.tuple #[.int .u64 0, .bool false, .int .i64 50]
    | some (v, n) => if (rsuf 0 0 0 (r.drop n)).1 && n != 0 then .tuple #[.int .u64 v, .bool ((rsuf 0 0 0 (r.drop n)).2 || (decide (9223372036854775808 ≤ v) && b != 10)), .int .i64 0] else .tuple #[.int .u64 0, .bool false, .int .i64 50]) = R at *
  generalize rdg b 0 r = Z at *
  clear hr hb hA hne
  have HT := hide hlen
  go_enter Tryz.func68, Tryz.ntmps68
  go_wp2_with (go_at_call 82; refine (unhide HBA _).mono ?_; rintro e w' ⟨rfl, hw'⟩; obtain rfl := hw'.symm)
  generalize (⟨s.toArray⟩ : ByteArray) = T at *
  clear HBA hte
  go_loopg [6, 7, 8, 9] r.length (fun gk va vv vn vd wr => ∃ (k : Nat) (v : Int), gk = r.length - k ∧ va = .int .i64 ((A0 + k : Nat) : Int) ∧ vv = .int .u64 v ∧ vn = .int .i64 (k : Int) ∧ k ≤ r.length ∧ Hid (0 ≤ v ∧ v < 18446744073709551616) ∧ Hid (Z = (rdg b v (r.drop k)).map fun x => (x.1, x.2 + k)) ∧ Hid (Below w.heap.size w wr))
  case atStart => exact ⟨0, 0, rfl, rfl, rfl, rfl, by omega, ⟨by decide, by decide⟩, unhide HZ, Below.refl _ _⟩
  case round =>
    clear HZ
    obtain ⟨k, v, rfl, rfl, rfl, rfl, hk, HV, HZ, HB⟩ := hrel
    by_cases hkl : k < r.length
    · have i1 : ((A0 + k : Nat) : Int) < (s.length : Int) := by omega
      have i1' : A0 + k < s.length := by omega
      obtain ⟨hkT, hak⟩ := unhide HAT k hkl
      have hz := unhide HZ
      rw [List.drop_eq_getElem_cons hkl, rdg, ← hak] at hz
      obtain ⟨c0, c1⟩ := byte_range T[A0 + k]
      have HH := hide (fun W => hex_any (T[A0 + k].toNat : Int) c0 c1 W)
      obtain ⟨x0, x1⟩ := hexM_range (T[A0 + k].toNat : Int)
      generalize hexM (T[A0 + k].toNat : Int) = x at *
      have HZ2 := hide hz
      clear hz HZ hak c0 c1 HAT
      have htd : (18446744073709551615 - x).tdiv b = (18446744073709551615 - x) / b := Int.tdiv_eq_ediv_of_nonneg (by omega)
      rw [htd] at HZ2
      clear htd
      by_cases hxb : x < b
      · rw [if_pos hxb] at HZ2
        by_cases hbig : (18446744073709551615 - x) / b < v
        · rw [if_pos hbig] at HZ2
          have HP := hide (unhide HPO none (unhide HZ2).symm)
          simp only at HP
          obtain rfl := unhide HP
          clear HZ2 HSU HPO HEX HP
          go_wp2_with (go_at_call 83; refine (unhide HH _).mono ?_; rintro e w' ⟨rfl, hw'⟩; obtain rfl := hw'.symm)
          go_ret3
          exact ⟨rfl, unhide HB⟩
        · rw [if_neg hbig] at HZ2
          have hb0 : 0 < b := by omega
          obtain ⟨v0, v1⟩ := unhide HV
          have hvb : 0 ≤ v * b := Int.mul_nonneg v0 (by omega)
          have hfit : v * b + x < 18446744073709551616 := by
            have h3 : ¬ (18446744073709551615 - x < v * b) := fun h => hbig ((Int.ediv_lt_iff_lt_mul hb0).2 h)
            omega
          have HNV : Hid (IntKind.u64.wrap (IntKind.u64.wrap (v * b) + x) = v * b + x) := by
            rw [Hid, IntKind.wrap_u64, IntKind.wrap_u64, Int.emod_eq_of_lt hvb (by omega), Int.emod_eq_of_lt (by omega) hfit]
          have HNB : Hid (0 ≤ v * b + x ∧ v * b + x < 18446744073709551616) := ⟨by omega, hfit⟩
          have HZ3 : Hid (Z = (rdg b (v * b + x) (r.drop (k + 1))).map fun y => (y.1, y.2 + (k + 1))) := by
            rw [Hid, unhide HZ2, Option.map_map]
            congr 1
            funext y
            simp; omega
          clear HZ2 HSU HPO HEX hvb hfit
          go_wp2_with (go_at_call 83; refine (unhide HH _).mono ?_; rintro e w' ⟨rfl, hw'⟩; obtain rfl := hw'.symm)
          go_roundg (r.length - (k + 1))
          case measure => omega
          case rel => exact ⟨k + 1, v * b + x, rfl, by go_num, by rw [unhide HNV], by go_num, by omega, HNB, HZ3, HB⟩
      · rw [if_neg hxb] at HZ2
        simp only [Option.map_some, Nat.zero_add] at HZ2
        have hx1 : T.extract (A0 + k) s.length = ⟨(r.drop k).toArray⟩ := by have := unhide HEX k hk; rwa [unhide HT] at this
        have HS := hide (unhide HSU (r.drop k) (by simp; omega) wr)
        have HP := hide (unhide HPO (some (v, k)) (unhide HZ2).symm)
        simp only at HP
        generalize rsuf 0 0 0 (r.drop k) = SF at *
        obtain ⟨ok, us⟩ := SF
        generalize (⟨(r.drop k).toArray⟩ : ByteArray) = D at *
        have hk0 : ((k : Int) == 0) = (k == 0) := by rw [Bool.eq_iff_iff]; simp
        simp only at HP
        clear HZ2 HSU HPO HEX
        have j1 : ((A0 + k : Nat) : Int) ≤ (s.length : Int) := by omega
        obtain ⟨v0, v1⟩ := unhide HV
        have hkb : (k != 0) = !(k == 0) := rfl
        rw [hkb, ← hk0] at HP
        clear hkb hk0
        cases ok <;> cases us <;> cases hkz : ((k : Int) == 0) <;> cases hv63 : decide ((9223372036854775808 : Int) ≤ v) <;> cases hb10 : (b != 10)
        all_goals (
          simp only [hkz, hv63, hb10, Bool.not_true, Bool.not_false, Bool.and_true, Bool.and_false, Bool.true_and, Bool.false_and, Bool.or_true, Bool.or_false, Bool.true_or, Bool.false_or, Bool.and_self, Bool.or_self, Bool.false_eq_true, if_true, if_false] at HP
          obtain rfl := unhide HP
          go_wp2_with (first
            | (go_at_call 83; refine (unhide HH _).mono ?_; rintro e w' ⟨rfl, hw'⟩; obtain rfl := hw'.symm)
            | (go_at_call 84; refine (unhide HS).mono ?_; rintro e W2 ⟨rfl, hb2⟩))
          go_ret3
          exact ⟨rfl, (unhide HB).trans (hb2.mono (unhide HB).size)⟩)
    · have i1 : ¬ ((A0 + k : Nat) : Int) < (s.length : Int) := by omega
      have hz := unhide HZ
      rw [List.drop_eq_nil_of_le (by omega), rdg] at hz
      have HZ2 := hide hz
      clear hz HZ HAT
      simp only [Option.map_some, Nat.zero_add] at HZ2
      have hx1 : T.extract (A0 + k) s.length = ⟨(r.drop k).toArray⟩ := by have := unhide HEX k hk; rwa [unhide HT] at this
      have HS := hide (unhide HSU (r.drop k) (by simp; omega) wr)
      have HP := hide (unhide HPO (some (v, k)) (unhide HZ2).symm)
      simp only at HP
      generalize rsuf 0 0 0 (r.drop k) = SF at *
      obtain ⟨ok, us⟩ := SF
      generalize (⟨(r.drop k).toArray⟩ : ByteArray) = D at *
      have hk0 : ((k : Int) == 0) = (k == 0) := by rw [Bool.eq_iff_iff]; simp
      simp only at HP
      clear HZ2 HSU HPO HEX
      have j1 : ((A0 + k : Nat) : Int) ≤ (s.length : Int) := by omega
      obtain ⟨v0, v1⟩ := unhide HV
      have hkb : (k != 0) = !(k == 0) := rfl
      rw [hkb, ← hk0] at HP
      clear hkb hk0
      cases ok <;> cases us <;> cases hkz : ((k : Int) == 0) <;> cases hv63 : decide ((9223372036854775808 : Int) ≤ v) <;> cases hb10 : (b != 10)
      all_goals (
        simp only [hkz, hv63, hb10, Bool.not_true, Bool.not_false, Bool.and_true, Bool.and_false, Bool.true_and, Bool.false_and, Bool.or_true, Bool.or_false, Bool.true_or, Bool.false_or, Bool.and_self, Bool.or_self, Bool.false_eq_true, if_true, if_false] at HP
        obtain rfl := unhide HP
        go_wp2_with (first
          | (go_at_call 83; refine (unhide HH _).mono ?_; rintro e w' ⟨rfl, hw'⟩; obtain rfl := hw'.symm)
          | (go_at_call 84; refine (unhide HS).mono ?_; rintro e W2 ⟨rfl, hb2⟩))
        go_ret3
        exact ⟨rfl, (unhide HB).trans (hb2.mono (unhide HB).size)⟩)
end Go.Proofs.YtfghfohlcofdpaaGreatDoor
