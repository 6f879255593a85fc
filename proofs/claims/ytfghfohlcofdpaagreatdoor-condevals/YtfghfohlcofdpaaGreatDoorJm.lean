/-
  The document's parser: what the loop of chain keeps, on lists.
-/
import Derived.Test.YtfghfohlcofdpaaGreatDoorJg
import Derived.Test.YtfghfohlcofdpaaGreatDoorJe
namespace Go.Proofs.YtfghfohlcofdpaaGreatDoor
open Go Go.RowKit
set_option linter.unusedVariables false
set_option linter.unusedSimpArgs false

/-- What the parser's chain tells here. -/
def CnF (l : List Gt) (k b : Nat) (sl : Value) : Prop := ∀ (n : Int) (live : Bool) (W : World), 0 ≤ n → n ≤ 20 → Pb W b sl k true → TkG b W sl l → Calls Tryz.prog 18 #[.pointer (some ⟨b, 0, none⟩), .int .i64 n, .bool live] W (RP (.chain (n + 1)) live l k b sl W)
/-- What the parser's front tells here. -/
def FrH (l : List Gt) (k b : Nat) (sl : Value) : Prop := ∀ (live : Bool) (W : World), Pb W b sl k true → TkG b W sl l → Calls Tryz.prog 31 #[.pointer (some ⟨b, 0, none⟩), .bool live] W (RP .front live l k b sl W)
/-- What the parser's chain tells, further on. -/
def CnFF (l : List Gt) (k b : Nat) (sl : Value) : Prop := ∀ k' : Nat, k < k' → k' ≤ l.length → CnF l k' b sl
theorem On.oth {w W : World} {b M i : Nat} {v y : Value} {k : Int} {ok u : Bool} {x : Int} (h : On w W b v k ok x u) (h1 : M ≠ b) (h2 : w.heap.size < M) : On w (W.setCell ⟨M, i, none⟩ y) b v k ok x u :=
  ⟨h.r.other (by omega), h.p.other (by omega), h.f.setCell (.inr (by omega)) (by have := h.lt; omega) _, h.lt⟩
/-- The way on from a place: what the loop makes of the rest is what chain makes of all. -/
def Jn (n : Int) (live : Bool) (l : List Gt) (k m : Nat) (x : Vl) : Prop := ∀ (v' : Vl) (rest : List Gt) (kk : Bool), Pr (.loop (n + 1) x) live (l.drop m) v' rest kk → Pr (.chain (n + 1)) live (l.drop k) v' rest kk
/-- What is told of the ways. -/
def Wy (n : Int) (live : Bool) (l : List Gt) (k : Nat) (gk : Nat) (x : Vl) (k1 : Int) (ok1 : Bool) : Prop :=
  (ok1 = false → ∀ (v' : Vl) (rest : List Gt), Pr (.chain (n + 1)) live (l.drop k) v' rest false) ∧ (ok1 = true → ∃ m : Nat, k1 = m ∧ k ≤ m ∧ m ≤ l.length ∧ l.length - m < gk ∧ Jn n live l k m x)
/-- What the loop keeps. -/
structure LR (w : World) (b M : Nat) (sl : Value) (n : Int) (live : Bool) (l : List Gt) (k : Nat) (gk : Nat) (wr : World) (x : Vl) (k1 : Int) (ok1 : Bool) : Prop where
  on : On w wr b sl k1 ok1 0 false
  rb : RB wr M x.b x.u
  ok : okV x
  wy : Wy n live l k gk x k1 ok1
theorem wy_start {n : Int} {live : Bool} {l : List Gt} {k : Nat} {x : Vl} {rest : List Gt} {ok : Bool} {k' : Int} (hk : k ≤ l.length) (hpr : Pr .front live (l.drop k) x rest ok) (hr : ok = true → ∃ m : Nat, k' = m ∧ rest = l.drop m ∧ k ≤ m ∧ m ≤ l.length) : Wy n live l k (l.length + 2 - k) x k' ok := by
  refine ⟨fun h v' rest' => ?_, fun h => ?_⟩
  · subst h; exact Pr.chainNo hpr
  · subst h
    obtain ⟨m, e1, e2, e3, e4⟩ := hr rfl
    subst e2
    exact ⟨m, e1, e3, e4, by omega, fun v' rest kk h => Pr.chain hpr h⟩
theorem wy_step {n : Int} {live : Bool} {l : List Gt} {k m gk : Nat} {t : Gt} {x y : Vl} {rest : List Gt} {ok : Bool} {k' : Int} (hd : l.drop m = t :: l.drop (m + 1)) (hg : l.length - m < gk) (hkm : k ≤ m) (hm : m < l.length) (hJ : Jn n live l k m x) (h5 : t.kind = 5) (h0 : levM t.s ≠ 0) (hn : n + 1 ≤ levM t.s) (hpr : Pr (.chain (levM t.s + 1)) (live && !skipsM (levM t.s) x.b) (l.drop (m + 1)) y rest ok) (hr : ok = true → ∃ m' : Nat, k' = m' ∧ rest = l.drop m' ∧ m + 1 ≤ m' ∧ m' ≤ l.length) :
    Wy n live l k (gk - 1) (ofM (bx t x) y).1 k' (ok && (!live || (ofM (bx t x) y).2)) := by
  have hx : nxL (t :: l.drop (m + 1)) = levM t.s := by simp [nxL, h5]
  rw [← hx] at h0 hn
  have hJ' : ∀ (v' : Vl) (rest : List Gt) (kk : Bool), Pr (.loop (n + 1) x) live (t :: l.drop (m + 1)) v' rest kk → Pr (.chain (n + 1)) live (l.drop k) v' rest kk := by
    intro v' rest kk h
    exact hJ v' rest kk (by rw [hd]; exact h)
  refine ⟨fun h v' rest' => ?_, fun h => ?_⟩
  · cases ok with
    | false => exact hJ' _ _ _ (Pr.loopNo h0 hn hpr)
    | true =>
      have h' : live = true ∧ (ofM (bx t x) y).2 = false := by
        revert h
        cases live <;> cases (ofM (bx t x) y).2 <;> simp
      exact hJ' _ _ _ (Pr.loopUnd h0 hn hpr h'.1 h'.2)
  · cases ok with
    | false => cases h
    | true =>
      obtain ⟨m', e1, e2, e3, e4⟩ := hr rfl
      subst e2
      refine ⟨m', e1, by omega, e4, by omega, fun v' rest kk hh => hJ' _ _ _ (Pr.loopOp h0 hn hpr (fun hl => ?_) hh)⟩
      revert h
      rw [hl]
      cases (ofM (bx t x) y).2 <;> simp
theorem wy_and {n : Int} {live : Bool} {l : List Gt} {k m gk : Nat} {t : Gt} {x y : Vl} {rest : List Gt} {ok c : Bool} {k' : Int} (hd : l.drop m = t :: l.drop (m + 1)) (hg : l.length - m < gk) (hkm : k ≤ m) (hm : m < l.length) (hJ : Jn n live l k m x) (h5 : t.kind = 5) (hs : t.s = [38, 38]) (hn : n ≤ 2) (hpr : Pr (.chain (2 + 1 + 1)) (live && !(x.b == 0)) (l.drop (m + 1)) y rest ok) (hr : ok = true → ∃ m' : Nat, k' = m' ∧ rest = l.drop m' ∧ m + 1 ≤ m' ∧ m' ≤ l.length) (hc : (x.b != 0 && y.b != 0) = c) :
    Wy n live l k (gk - 1) (truthM c) k' ok := by
  have hlev : levM t.s = 3 := by rw [hs]; rfl
  have hsk : skipsM 3 x.b = (x.b == 0) := by simp [skipsM]
  have e := wy_step (y := y) hd hg hkm hm hJ h5 (by omega) (by omega) (by rw [hlev, hsk]; exact hpr) hr
  have ho : ofM (bx t x) y = (truthM c, true) := by
    unfold ofM bx
    rw [hlev, hc]
    rfl
  rw [ho] at e
  simpa using e
theorem wy_or {n : Int} {live : Bool} {l : List Gt} {k m gk : Nat} {t : Gt} {x y : Vl} {rest : List Gt} {ok c : Bool} {k' : Int} (hd : l.drop m = t :: l.drop (m + 1)) (hg : l.length - m < gk) (hkm : k ≤ m) (hm : m < l.length) (hJ : Jn n live l k m x) (h5 : t.kind = 5) (hs : t.s = [124, 124]) (hn : n ≤ 1) (hpr : Pr (.chain (1 + 1 + 1)) (live && !(x.b != 0)) (l.drop (m + 1)) y rest ok) (hr : ok = true → ∃ m' : Nat, k' = m' ∧ rest = l.drop m' ∧ m + 1 ≤ m' ∧ m' ≤ l.length) (hc : (x.b != 0 || y.b != 0) = c) :
    Wy n live l k (gk - 1) (truthM c) k' ok := by
  have hlev : levM t.s = 2 := by rw [hs]; rfl
  have hsk : skipsM 2 x.b = (x.b != 0) := by simp [skipsM]
  have e := wy_step (y := y) hd hg hkm hm hJ h5 (by omega) (by omega) (by rw [hlev, hsk]; exact hpr) hr
  have ho : ofM (bx t x) y = (truthM c, true) := by
    unfold ofM bx
    rw [hlev, hc]
    rfl
  rw [ho] at e
  simpa using e
theorem wy_op {n : Int} {live : Bool} {l : List Gt} {k m gk : Nat} {t : Gt} {x y : Vl} {rest : List Gt} {ok : Bool} {k' q : Int} {R : Vl × Bool} (hd : l.drop m = t :: l.drop (m + 1)) (hg : l.length - m < gk) (hkm : k ≤ m) (hm : m < l.length) (hJ : Jn n live l k m x) (h5 : t.kind = 5) (hq : levM t.s = q + 1) (h1 : 1 ≤ q) (hs3 : t.s ≠ [38, 38]) (hs2 : t.s ≠ [124, 124]) (hn : n ≤ q) (hpr : Pr (.chain (q + 1 + 1)) live (l.drop (m + 1)) y rest ok) (hr : ok = true → ∃ m' : Nat, k' = m' ∧ rest = l.drop m' ∧ m + 1 ≤ m' ∧ m' ≤ l.length) (hR : ofM ⟨t.s, levM t.s, x, false, false⟩ y = R) :
    Wy n live l k (gk - 1) R.1 k' (ok && (!live || R.2)) := by
  have hsk : skipsM (levM t.s) x.b = false := by
    have h16 := sixteen_of (s := t.s) (by omega) hs2 hs3
    unfold skipsM
    rcases h16 with h | h | h | h | h | h | h | h | h | h | h | h | h | h | h | h <;> rw [h] <;> rfl
  have e := wy_step (y := y) hd hg hkm hm hJ h5 (by omega) (by omega) (by rw [hsk, hq]; simpa using hpr) hr
  have ho : ofM (bx t x) y = R := hR
  rw [ho] at e
  exact e
theorem level_zero {s : List UInt8} (h : levM s = 0) (w : World) : Calls Tryz.prog 32 #[.string ⟨s.toArray⟩] w fun e w' => e = .returned (.int .i64 0) ∧ w' = w := by
  have := level_any s w
  rw [if_pos h] at this
  exact this
theorem level_one {s : List UInt8} (h : levM s ≠ 0) : ∃ q : Int, levM s = q + 1 ∧ 1 ≤ q ∧ q ≤ 10 ∧ ∀ w, Calls Tryz.prog 32 #[.string ⟨s.toArray⟩] w fun e w' => e = .returned (.int .i64 q) ∧ w' = w := by
  refine ⟨levM s - 1, by omega, ?_, ?_, fun w => ?_⟩
  · have := levM_two s h; omega
  · have := levM_le s; omega
  · have := level_any s w
    rw [if_neg h] at this
    exact this
theorem LR.next {w : World} {b M : Nat} {sl : Value} {n : Int} {live : Bool} {l : List Gt} {k gk : Nat} {wr W' : World} {x : Vl} {k1 : Int} {ok1 : Bool} (h : LR w b M sl n live l k gk wr x k1 ok1) (hb : Below wr.heap.size wr W') : LR w b M sl n live l k gk W' x k1 ok1 :=
  ⟨h.on.next hb, h.rb.next hb, h.ok, h.wy⟩
theorem nx_none {l : List Gt} {m : Nat} (h : ¬ m < l.length) : nxL (l.drop m) = 0 := by rw [List.drop_eq_nil_of_le (by omega)]; rfl
theorem nx_kind {l r : List Gt} {m : Nat} {t : Gt} (hd : l.drop m = t :: r) (h : (t.kind == 5) = false) : nxL (l.drop m) = 0 := by rw [hd]; simp [nxL, h]
theorem nx_lev {l r : List Gt} {m : Nat} {t : Gt} (hd : l.drop m = t :: r) (h : (t.kind == 5) = true) : nxL (l.drop m) = levM t.s := by rw [hd]; simp [nxL, h]
theorem wy_no {w W' : World} {n : Int} {live : Bool} {l : List Gt} {k gk b : Nat} {sl : Value} {x x' : Vl} {k1 k2 : Int} (h : Wy n live l k gk x k1 false) (hp : Pb W' b sl k2 false) (hf : Fb b w W') (hx : okV x') : RP (.chain (n + 1)) live l k b sl w (.returned x'.v) W' :=
  RP.no (rest := []) hp hf hx (h.1 rfl _ _)
theorem wy_end {w W' : World} {n : Int} {live : Bool} {l : List Gt} {k b m : Nat} {sl : Value} {x : Vl} (hkm : k ≤ m) (hml : m ≤ l.length) (hJ : Jn n live l k m x) (h0 : nxL (l.drop m) = 0 ∨ nxL (l.drop m) < n + 1) (hp : Pb W' b sl m true) (hf : Fb b w W') (hx : okV x) : RP (.chain (n + 1)) live l k b sl w (.returned x.v) W' :=
  RP.yes m hp hf hx (hJ _ _ _ (Pr.loopEnd h0)) hkm hml
end Go.Proofs.YtfghfohlcofdpaaGreatDoor
