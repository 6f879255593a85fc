/-
  Package expr: what words say, as the program reads them: with so much fuel; more fuel tells the same.
  What is read within brackets, in lists.
  How many calls were crowded: no more than words.
-/
import Derived.Test.YtmpkgjonbjpohaaGreatDoorXa
import Derived.Test.YtmpkgjonbjpohaaGreatDoorY2
import Derived.Test.YtmpkgjonbjpohaaGreatDoorRk
namespace Go.Proofs.YtmpkgjonbjpohaaGreatDoor
open Go Go.RowKit
set_option linter.unusedVariables false
set_option linter.unusedSimpArgs false

def zrW : Wd := ⟨0, [], 0, 0, [], 0⟩
/-- The word that stands at a place: none behind the last one, or where it is not right. -/
def nxt (ws : List Wd) (i : Nat) : Wd := match ws[i]? with | some x => if rightM x then x else zrW | none => zrW
/-- An expression. -/
inductive PE where
  | mk (is op k v : Int) (nm : List UInt8) (l : List PE) (line : Int)
namespace PE
def is : PE → Int | .mk a _ _ _ _ _ _ => a
def op : PE → Int | .mk _ a _ _ _ _ _ => a
def k : PE → Int | .mk _ _ a _ _ _ _ => a
def v : PE → Int | .mk _ _ _ a _ _ _ => a
def nm : PE → List UInt8 | .mk _ _ _ _ a _ _ => a
def l : PE → List PE | .mk _ _ _ _ _ a _ => a
def line : PE → Int | .mk _ _ _ _ _ _ a => a
end PE
/-- What is to be read next. -/
inductive Kd where
  | lev (i : Nat)
  | lop (i : Nat) (e : PE)
  | exp
  | one
  | kw (line : Int) (acc : List (List UInt8))
  | alone
  | args
  | arg (acc : List PE)
abbrev GR := Option (Option (List PE) × Nat × List Int)
def sgnL : Nat → List (List UInt8)
  | 1 => [[42], [47], [37]]
  | 2 => [[43], [45]]
  | 3 => [[60, 60], [62, 62]]
  | 4 => [[60], [60, 61], [62], [62, 61]]
  | 5 => [[61, 61], [33, 61]]
  | 6 => [[38]]
  | 7 => [[94]]
  | 8 => [[124]]
  | 9 => [[38, 38]]
  | _ => [[124, 124]]
def sgW (w : Wd) : List UInt8 := if w.kind == 5 then w.s else []
def akW (w : Wd) : Bool := w.kind == 1 && ((kofM [w.s]).2 == 0)
def fstO (p : Int → Bool) : Nat → Int → Int
  | 0, _ => 0
  | n + 1, op => if p op then op else fstO p n (op + 1)
/-- The operator of a sign, of two or of one. -/
def opB (s : List UInt8) : Int := fstO (fun op => (ofM op == 2) && (sigM op == s)) 17 1
def ofO (op : Int) : Bool := !(ofM op == 2) && !(sigM op == [])
def opO (s : List UInt8) : Int := fstO (fun op => ofO op && (sigM op == s)) 17 1
def joiP (w : Wd) (a b : PE) : PE :=
  if w.s == [38, 38] then .mk 5 0 0 0 [] [a, b] w.line
  else if w.s == [124, 124] then .mk 6 0 0 0 [] [a, b] w.line
  else if w.s == [62] then .mk 3 17 0 0 [] [.mk 4 12 0 0 [] [a, b] w.line] w.line
  else if w.s == [62, 61] then .mk 3 17 0 0 [] [.mk 4 11 0 0 [] [a, b] w.line] w.line
  else .mk 4 (opB w.s) 0 0 [] [a, b] w.line
def bnd (A : GR) (k : PE → Nat → List Int → GR) : GR :=
  match A with
  | none => none
  | some (none, a, c) => some (none, a, c)
  | some (some [e], a, c) => k e a c
  | some (some _, a, c) => some (none, a, c)
def bndL (A : GR) (k : List PE → Nat → List Int → GR) : GR :=
  match A with
  | none => none
  | some (none, a, c) => some (none, a, c)
  | some (some l, a, c) => k l a c
/-- What the program reads from a place on: with so much fuel. -/
def gM (N : Nat → Wd) : Nat → Kd → Nat → List Int → GR
  | 0, _, _, _ => none
  | f + 1, .lev 0, p, cr => gM N f .one p cr
  | f + 1, .lev (i + 1), p, cr => bnd (gM N f (.lev i) p cr) fun e p cr => gM N f (.lop i e) p cr
  | f + 1, .lop i e, p, cr => if (sgnL (i + 1)).contains (sgW (N p)) then bnd (gM N f (.lev i) (p + 1) cr) fun e2 p2 cr2 => gM N f (.lop i (joiP (N p) e e2)) p2 cr2 else some (some [e], p, cr)
  | f + 1, .exp, p, cr => bnd (gM N f (.lev 10) p cr) fun e p cr => if sgW (N p) == [63] then bnd (gM N f .exp (p + 1) cr) fun e2 p2 cr2 => if sgW (N p2) == [58] then bnd (gM N f .exp (p2 + 1) cr2) fun e3 p3 cr3 => some (some [.mk 9 0 0 0 [] [e, e2, e3] (N p).line], p3, cr3) else some (none, p2, cr2)
      else some (some [e], p, cr)
  | f + 1, .one, p, cr => if sgW (N p) == [43] then gM N f .one (p + 1) cr
      else if opO (sgW (N p)) != 0 then bnd (gM N f .one (p + 1) cr) fun e p2 cr2 => some (some [.mk 3 (opO (sgW (N p))) 0 0 [] [e] (N p).line], p2, cr2)
      else if sgW (N p) == [40] then (if akW (N (p + 1)) then gM N f (.kw (N p).line []) (p + 1) cr else bnd (gM N f .exp (p + 1) cr) fun e p2 cr2 => if sgW (N p2) == [41] then some (some [e], p2 + 1, cr2) else some (none, p2, cr2))
      else gM N f .alone p cr
  | f + 1, .kw line acc, p, cr => if akW (N p) then gM N f (.kw line (acc ++ [(N p).s])) (p + 1) cr
      else if ((kofM acc).2 == 0) && (sgW (N p) == [41]) then bnd (gM N f .one (p + 1) cr) fun e p2 cr2 => some (some [.mk 7 0 (kofM acc).1 0 [] [e] line], p2, cr2)
      else some (none, p, cr)
  | f + 1, .alone, p, cr => if (N p).kind == 3 then some (some [.mk 1 0 (N p).t (N p).v [] [] (N p).line], p + 1, cr)
      else if (N p).kind == 2 then (if sgW (N (p + 1)) == [40] then bndL (gM N f .args (p + 2) cr) fun l p2 cr2 => some (some [.mk 8 0 0 0 (N p).s l (N p).line], p2, if 8 < l.length then cr2 ++ [(N p).line] else cr2) else some (some [.mk 2 0 0 0 (N p).s [] (N p).line], p + 1, cr))
      else some (none, p, cr)
  | f + 1, .args, p, cr => if sgW (N p) == [41] then some (some [], p + 1, cr) else gM N f (.arg []) p cr
  | f + 1, .arg acc, p, cr => bnd (gM N f .exp p cr) fun e p2 cr2 => if sgW (N p2) == [44] then gM N f (.arg (acc ++ [e])) (p2 + 1) cr2 else if sgW (N p2) == [41] then some (some (acc ++ [e]), p2 + 1, cr2) else some (none, p2, cr2)
def leG (A B : GR) : Prop := ∀ r, A = some r → B = some r
theorem leG.refl (A : GR) : leG A A := fun _ h => h
theorem leG.none (B : GR) : leG .none B := fun _ h => by cases h
theorem bnd_le {A A' : GR} {k k' : PE → Nat → List Int → GR} (h : leG A A') (hk : ∀ e p c, leG (k e p c) (k' e p c)) : leG (bnd A k) (bnd A' k') := by
  cases A with
  | none => exact leG.none _
  | some a =>
    rw [h a rfl]
    obtain ⟨o, p, c⟩ := a
    match o with
    | none => exact leG.refl _
    | some [] => exact leG.refl _
    | some [e] => exact hk e p c
    | some (_ :: _ :: _) => exact leG.refl _
theorem bndL_le {A A' : GR} {k k' : List PE → Nat → List Int → GR} (h : leG A A') (hk : ∀ e p c, leG (k e p c) (k' e p c)) : leG (bndL A k) (bndL A' k') := by
  cases A with
  | none => exact leG.none _
  | some a =>
    rw [h a rfl]
    obtain ⟨o, p, c⟩ := a
    match o with
    | none => exact leG.refl _
    | some l => exact hk l p c
theorem ite_le {b : Bool} {A A' B B' : GR} (h : leG A A') (h2 : leG B B') : leG (if b = true then A else B) (if b = true then A' else B') := by
  cases b
  · exact h2
  · exact h
/-- More fuel tells the same. -/
theorem gM_up (N : Nat → Wd) : ∀ (f : Nat) (k : Kd) (p : Nat) (cr : List Int), leG (gM N f k p cr) (gM N (f + 1) k p cr)
  | 0, _, _, _ => leG.none _
  | f + 1, k, p, cr => by
    have ih := gM_up N f
    cases k with
    | lev i => cases i with
      | zero => rw [gM, gM]; exact ih _ _ _
      | succ i => rw [gM, gM]; exact bnd_le (ih _ _ _) fun _ _ _ => ih _ _ _
    | lop i e => rw [gM, gM]; exact ite_le (bnd_le (ih _ _ _) fun _ _ _ => ih _ _ _) (leG.refl _)
    | exp => rw [gM, gM]; exact bnd_le (ih _ _ _) fun _ _ _ => ite_le (bnd_le (ih _ _ _) fun _ _ _ => ite_le (bnd_le (ih _ _ _) fun _ _ _ => leG.refl _) (leG.refl _)) (leG.refl _)
    | one => rw [gM, gM]; exact ite_le (ih _ _ _) (ite_le (bnd_le (ih _ _ _) fun _ _ _ => leG.refl _) (ite_le (ite_le (ih _ _ _) (bnd_le (ih _ _ _) fun _ _ _ => leG.refl _)) (ih _ _ _)))
    | kw line acc => rw [gM, gM]; exact ite_le (ih _ _ _) (ite_le (bnd_le (ih _ _ _) fun _ _ _ => leG.refl _) (leG.refl _))
    | alone => rw [gM, gM]; exact ite_le (leG.refl _) (ite_le (ite_le (bndL_le (ih _ _ _) fun _ _ _ => leG.refl _) (leG.refl _)) (leG.refl _))
    | args => rw [gM, gM]; exact ite_le (leG.refl _) (ih _ _ _)
    | arg acc => rw [gM, gM]; exact bnd_le (ih _ _ _) fun _ _ _ => ite_le (ih _ _ _) (leG.refl _)
theorem gM_le (N : Nat → Wd) {f f' : Nat} (h : f ≤ f') (k : Kd) (p : Nat) (cr : List Int) : leG (gM N f k p cr) (gM N f' k p cr) := by
  obtain ⟨d, rfl⟩ := Nat.exists_eq_add_of_le h
  induction d with
  | zero => exact leG.refl _
  | succ d ih => exact fun r hr => gM_up N _ k p cr r (ih (by omega) r hr)
theorem gM_det (N : Nat → Wd) {f f' : Nat} {k : Kd} {p : Nat} {cr : List Int} {r r' : Option (List PE) × Nat × List Int} (h : gM N f k p cr = some r) (h' : gM N f' k p cr = some r') : r = r' := by
  rcases Nat.le_total f f' with hl | hl
  · have := gM_le N hl k p cr r h
    rw [h'] at this
    cases this
    rfl
  · have := gM_le N hl k p cr r' h'
    rw [h] at this
    cases this
    rfl
end Go.Proofs.YtmpkgjonbjpohaaGreatDoor
namespace Go.Proofs.YtmpkgjonbjpohaaGreatDoor
open Go Go.RowKit
set_option linter.unusedVariables false
set_option linter.unusedSimpArgs false

theorem bnd_some {A : GR} {k : PE → Nat → List Int → GR} {l : List PE} {p : Nat} {c : List Int} (h : bnd A k = some (some l, p, c)) : ∃ e p1 c1, A = some (some [e], p1, c1) ∧ k e p1 c1 = some (some l, p, c) := by
  match A, h with
  | some (some [e], p1, c1), h => exact ⟨e, p1, c1, rfl, h⟩
  | some (some [], p1, c1), h => simp [bnd] at h
  | some (some (_ :: _ :: _), p1, c1), h => simp [bnd] at h
  | some (none, p1, c1), h => simp [bnd] at h
  | none, h => simp [bnd] at h
theorem bndL_some {A : GR} {k : List PE → Nat → List Int → GR} {l : List PE} {p : Nat} {c : List Int} (h : bndL A k = some (some l, p, c)) : ∃ e p1 c1, A = some (some e, p1, c1) ∧ k e p1 c1 = some (some l, p, c) := by
  match A, h with
  | some (some e, p1, c1), h => exact ⟨e, p1, c1, rfl, h⟩
  | some (none, p1, c1), h => simp [bndL] at h
  | none, h => simp [bndL] at h
theorem sgn_no (i : Nat) : (sgnL i).contains [] = false ∧ (sgnL i).contains [41] = false := by
  unfold sgnL
  split <;> exact ⟨rfl, rfl⟩
theorem fst_no (p : Int → Bool) (h : ∀ x, p x = false) : ∀ (n : Nat) (op : Int), fstO p n op = 0
  | 0, _ => rfl
  | n + 1, op => by rw [fstO, h op]; exact fst_no p h n (op + 1)
theorem opO_nil : opO [] = 0 := fst_no _ (fun x => by unfold ofO; cases sigM x == [] <;> simp) _ _
def lopK : Kd → Bool | .lop _ _ => true | _ => false
/-- Where no word stands, nothing is read. -/
theorem gM_end (N : Nat → Wd) {p : Nat} (h0 : N p = zrW) : ∀ (f : Nat) (k : Kd) (cr : List Int) (l : List PE) (p' : Nat) (cr' : List Int), lopK k = false → gM N f k p cr ≠ some (some l, p', cr')
  | 0, _, _, _, _, _, _ => fun h => by cases h
  | f + 1, k, cr, l, p', cr', hk => fun h => by
    have ih := gM_end N h0 f
    have hs : sgW (N p) = [] := by rw [h0]; rfl
    cases k with
    | lev i => cases i with
      | zero => rw [gM] at h; exact ih _ _ _ _ _ rfl h
      | succ i =>
        rw [gM] at h
        obtain ⟨e, p1, c1, h1, _⟩ := bnd_some h
        exact ih _ _ _ _ _ rfl h1
    | lop i e => cases hk
    | exp =>
      rw [gM] at h
      obtain ⟨e, p1, c1, h1, _⟩ := bnd_some h
      exact ih _ _ _ _ _ rfl h1
    | one =>
      rw [gM, hs, opO_nil] at h
      exact ih _ _ _ _ _ rfl h
    | kw line acc =>
      rw [gM, hs, h0] at h
      simp [akW, zrW] at h
    | alone =>
      rw [gM, h0] at h
      simp [zrW] at h
    | args =>
      rw [gM, hs] at h
      exact ih _ _ _ _ _ rfl h
    | arg acc =>
      rw [gM] at h
      obtain ⟨e, p1, c1, h1, _⟩ := bnd_some h
      exact ih _ _ _ _ _ rfl h1
/-- What is read within brackets is what is read alone. -/
theorem gM_shift {N N' : Nat → Wd} {n c : Nat} (hs : ∀ i, i < n → N' (i + c) = N i) (h0 : N n = zrW) (h1 : sgW (N' (n + c)) = [41]) (h2 : akW (N' (n + c)) = false) :
    ∀ (f : Nat) (k : Kd) (p : Nat) (cr : List Int) (l : List PE) (p' : Nat) (cr' : List Int), p ≤ n → gM N f k p cr = some (some l, p', cr') → p' ≤ n ∧ gM N' f k (p + c) cr = some (some l, p' + c, cr')
  | 0, _, _, _, _, _, _, _ => fun h => by cases h
  | f + 1, k, p, cr, l, p', cr', hp => fun h => by
    have ih := gM_shift hs h0 h1 h2 f
    have hsn : sgW (N n) = [] := by rw [h0]; rfl
    rcases Nat.lt_or_ge p n with hpn | hpn
    · have hN := hs p hpn
      have hp1 : p + c + 1 = p + 1 + c := by omega
      cases k with
      | lev i => cases i with
        | zero => rw [gM] at h ⊢; exact ih _ _ _ _ _ _ hp h
        | succ i =>
          rw [gM] at h ⊢
          obtain ⟨e, p1, c1, g1, g2⟩ := bnd_some h
          obtain ⟨q1, q2⟩ := ih _ _ _ _ _ _ hp g1
          rw [q2]
          exact ih _ _ _ _ _ _ q1 g2
      | lop i e =>
        rw [gM] at h ⊢
        rw [hN]
        by_cases hc : (sgnL (i + 1)).contains (sgW (N p)) = true
        · rw [if_pos hc] at h ⊢
          obtain ⟨e2, p1, c1, g1, g2⟩ := bnd_some h
          obtain ⟨q1, q2⟩ := ih _ _ _ _ _ _ (by omega) g1
          rw [hp1, q2]
          exact ih _ _ _ _ _ _ q1 g2
        · rw [if_neg hc] at h ⊢
          cases h
          exact ⟨hp, rfl⟩
      | exp =>
        rw [gM] at h ⊢
        obtain ⟨e, p1, c1, g1, g2⟩ := bnd_some h
        obtain ⟨q1, q2⟩ := ih _ _ _ _ _ _ hp g1
        rw [q2]
        simp only [bnd]
        rcases Nat.lt_or_ge p1 n with h3 | h3
        · rw [hs p1 h3]
          by_cases hq : (sgW (N p1) == [63]) = true
          · rw [if_pos hq] at g2 ⊢
            obtain ⟨e2, p2, c2, g3, g4⟩ := bnd_some g2
            obtain ⟨q3, q4⟩ := ih _ _ _ _ _ _ (by omega) g3
            rw [show p1 + c + 1 = p1 + 1 + c by omega, q4]
            simp only
            by_cases hr : (sgW (N p2) == [58]) = true
            · have h4 : p2 < n := by
                rcases Nat.lt_or_ge p2 n with h4 | h4
                · exact h4
                · obtain rfl : p2 = n := by omega
                  rw [hsn] at hr
                  cases hr
              rw [hs p2 h4]
              rw [if_pos hr] at g4 ⊢
              obtain ⟨e3, p3, c3, g5, g6⟩ := bnd_some g4
              obtain ⟨q5, q6⟩ := ih _ _ _ _ _ _ (by omega) g5
              rw [show p2 + c + 1 = p2 + 1 + c by omega, q6]
              cases g6
              exact ⟨q5, rfl⟩
            · rw [if_neg hr] at g4
              cases g4
          · rw [if_neg hq] at g2 ⊢
            cases g2
            exact ⟨q1, rfl⟩
        · obtain rfl : p1 = n := by omega
          rw [h1]
          rw [hsn] at g2
          cases g2
          exact ⟨q1, rfl⟩
      | one =>
        rw [gM] at h ⊢
        rw [hN, hp1]
        by_cases t1 : (sgW (N p) == [43]) = true
        · rw [if_pos t1] at h ⊢
          exact ih _ _ _ _ _ _ (by omega) h
        · rw [if_neg t1] at h ⊢
          by_cases t2 : (opO (sgW (N p)) != 0) = true
          · rw [if_pos t2] at h ⊢
            obtain ⟨e, p1, c1, g1, g2⟩ := bnd_some h
            obtain ⟨q1, q2⟩ := ih _ _ _ _ _ _ (by omega) g1
            rw [q2]
            cases g2
            exact ⟨q1, rfl⟩
          · rw [if_neg t2] at h ⊢
            by_cases t3 : (sgW (N p) == [40]) = true
            · rw [if_pos t3] at h ⊢
              have hak : akW (N' (p + 1 + c)) = akW (N (p + 1)) := by
                rcases Nat.lt_or_ge (p + 1) n with h3 | h3
                · rw [hs _ h3]
                · obtain rfl : p + 1 = n := by omega
                  rw [h2, h0]
                  rfl
              rw [hak]
              by_cases t4 : akW (N (p + 1)) = true
              · rw [if_pos t4] at h ⊢
                exact ih _ _ _ _ _ _ (by omega) h
              · rw [if_neg t4] at h ⊢
                obtain ⟨e, p1, c1, g1, g2⟩ := bnd_some h
                obtain ⟨q1, q2⟩ := ih _ _ _ _ _ _ (by omega) g1
                rw [q2]
                simp only [bnd]
                by_cases t5 : (sgW (N p1) == [41]) = true
                · have h4 : p1 < n := by
                    rcases Nat.lt_or_ge p1 n with h4 | h4
                    · exact h4
                    · obtain rfl : p1 = n := by omega
                      rw [hsn] at t5
                      cases t5
                  rw [hs p1 h4]
                  rw [if_pos t5] at g2 ⊢
                  cases g2
                  exact ⟨by omega, by congr 3; omega⟩
                · rw [if_neg t5] at g2
                  cases g2
            · rw [if_neg t3] at h ⊢
              exact ih _ _ _ _ _ _ hp h
      | kw line acc =>
        rw [gM] at h ⊢
        rw [hN, hp1]
        by_cases t1 : akW (N p) = true
        · rw [if_pos t1] at h ⊢
          exact ih _ _ _ _ _ _ (by omega) h
        · rw [if_neg t1] at h ⊢
          by_cases t2 : (((kofM acc).2 == 0) && (sgW (N p) == [41])) = true
          · rw [if_pos t2] at h ⊢
            obtain ⟨e, p1, c1, g1, g2⟩ := bnd_some h
            obtain ⟨q1, q2⟩ := ih _ _ _ _ _ _ (by omega) g1
            rw [q2]
            cases g2
            exact ⟨q1, rfl⟩
          · rw [if_neg t2] at h
            cases h
      | alone =>
        rw [gM] at h ⊢
        rw [hN, hp1]
        by_cases t1 : ((N p).kind == 3) = true
        · rw [if_pos t1] at h ⊢
          cases h
          exact ⟨by omega, by congr 3⟩
        · rw [if_neg t1] at h ⊢
          by_cases t2 : ((N p).kind == 2) = true
          · rw [if_pos t2] at h ⊢
            rcases Nat.lt_or_ge (p + 1) n with h3 | h3
            · rw [hs _ h3]
              by_cases t3 : (sgW (N (p + 1)) == [40]) = true
              · rw [if_pos t3] at h ⊢
                obtain ⟨e, p1, c1, g1, g2⟩ := bndL_some h
                obtain ⟨q1, q2⟩ := ih _ _ _ _ _ _ (by omega) g1
                rw [show p + c + 2 = p + 2 + c by omega, q2]
                cases g2
                exact ⟨q1, rfl⟩
              · rw [if_neg t3] at h ⊢
                cases h
                exact ⟨by omega, rfl⟩
            · obtain rfl : p + 1 = n := by omega
              rw [h1]
              rw [hsn] at h
              cases h
              exact ⟨by omega, rfl⟩
          · rw [if_neg t2] at h
            cases h
      | args =>
        rw [gM] at h ⊢
        rw [hN]
        by_cases t1 : (sgW (N p) == [41]) = true
        · rw [if_pos t1] at h ⊢
          cases h
          exact ⟨by omega, by rw [hp1]⟩
        · rw [if_neg t1] at h ⊢
          exact ih _ _ _ _ _ _ hp h
      | arg acc =>
        rw [gM] at h ⊢
        obtain ⟨e, p1, c1, g1, g2⟩ := bnd_some h
        obtain ⟨q1, q2⟩ := ih _ _ _ _ _ _ hp g1
        rw [q2]
        simp only [bnd]
        rcases Nat.lt_or_ge p1 n with h3 | h3
        · rw [hs p1 h3, show p1 + c + 1 = p1 + 1 + c by omega]
          by_cases t1 : (sgW (N p1) == [44]) = true
          · rw [if_pos t1] at g2 ⊢
            exact ih _ _ _ _ _ _ (by omega) g2
          · rw [if_neg t1] at g2 ⊢
            by_cases t2 : (sgW (N p1) == [41]) = true
            · rw [if_pos t2] at g2 ⊢
              cases g2
              exact ⟨by omega, rfl⟩
            · rw [if_neg t2] at g2
              cases g2
        · obtain rfl : p1 = n := by omega
          rw [hsn] at g2
          cases g2
    · obtain rfl : p = n := by omega
      cases k with
      | lop i e =>
        rw [gM, hsn, (sgn_no _).1] at h
        rw [gM, h1, (sgn_no _).2]
        cases h
        exact ⟨Nat.le_refl _, rfl⟩
      | lev i => exact absurd h (gM_end N h0 _ _ _ _ _ _ rfl)
      | exp => exact absurd h (gM_end N h0 _ _ _ _ _ _ rfl)
      | one => exact absurd h (gM_end N h0 _ _ _ _ _ _ rfl)
      | kw line acc => exact absurd h (gM_end N h0 _ _ _ _ _ _ rfl)
      | alone => exact absurd h (gM_end N h0 _ _ _ _ _ _ rfl)
      | args => exact absurd h (gM_end N h0 _ _ _ _ _ _ rfl)
      | arg acc => exact absurd h (gM_end N h0 _ _ _ _ _ _ rfl)
/-- A word of keys begins no expression. -/
theorem gM_key (N : Nat → Wd) {p : Nat} (h0 : (N p).kind = 1) : ∀ (f : Nat) (k : Kd) (cr : List Int) (l : List PE) (p' : Nat) (cr' : List Int), (match k with | .lev _ => true | .exp => true | .one => true | .alone => true | _ => false) = true → gM N f k p cr ≠ some (some l, p', cr')
  | 0, _, _, _, _, _, _ => fun h => by cases h
  | f + 1, k, cr, l, p', cr', hk => fun h => by
    have ih := gM_key N h0 f
    have hs : sgW (N p) = [] := by unfold sgW; rw [h0]; rfl
    cases k with
    | lev i => cases i with
      | zero => rw [gM] at h; exact ih _ _ _ _ _ rfl h
      | succ i =>
        rw [gM] at h
        obtain ⟨e, p1, c1, h1, _⟩ := bnd_some h
        exact ih _ _ _ _ _ rfl h1
    | exp =>
      rw [gM] at h
      obtain ⟨e, p1, c1, h1, _⟩ := bnd_some h
      exact ih _ _ _ _ _ rfl h1
    | one =>
      rw [gM, hs, opO_nil] at h
      exact ih _ _ _ _ _ rfl h
    | alone =>
      rw [gM, h0] at h
      simp at h
    | _ => cases hk
theorem akW_kind {x : Wd} (h : akW x = true) : x.kind = 1 := by
  unfold akW at h
  simp only [Bool.and_eq_true, beq_iff_eq] at h
  exact h.1
theorem gM_plus {N : Nat → Wd} {f p q : Nat} {cr cr' : List Int} {a : PE} (h0 : sgW (N p) = [43]) (h : gM N f .one (p + 1) cr = some (some [a], q, cr')) : gM N (f + 1) .one p cr = some (some [a], q, cr') := by
  rw [gM, h0]
  exact h
theorem opO_open : opO [40] = 0 := by decide +kernel
theorem gM_wrap {N : Nat → Wd} {f p q : Nat} {cr cr' : List Int} {a : PE} (h0 : sgW (N p) = [40]) (h1 : akW (N (p + 1)) = false) (h : gM N f .exp (p + 1) cr = some (some [a], q, cr')) (h2 : sgW (N q) = [41]) : gM N (f + 1) .one p cr = some (some [a], q + 1, cr') := by
  rw [gM, h0, opO_open, h1, h]
  simp only [bnd, h2]
  rfl
theorem gM_lift {N : Nat → Wd} {p q : Nat} {cr cr' : List Int} {a : PE} (hq : ∀ i, (sgnL i).contains (sgW (N q)) = false) : ∀ (i f : Nat), gM N f .one p cr = some (some [a], q, cr') → ∃ f', gM N f' (.lev i) p cr = some (some [a], q, cr')
  | 0, f, h => ⟨f + 1, by rw [gM]; exact h⟩
  | i + 1, f, h => by
    obtain ⟨f', h'⟩ := gM_lift hq i f h
    refine ⟨f' + 2, ?_⟩
    rw [gM, gM_up N f' _ _ _ _ h']
    simp only [bnd]
    rw [gM, hq]
    rfl
theorem gM_exp {N : Nat → Wd} {p q f : Nat} {cr cr' : List Int} {a : PE} (hq : ∀ i, (sgnL i).contains (sgW (N q)) = false) (hq2 : sgW (N q) ≠ [63]) (h : gM N f .one p cr = some (some [a], q, cr')) : ∃ f', gM N f' .exp p cr = some (some [a], q, cr') := by
  obtain ⟨f', h'⟩ := gM_lift hq 10 f h
  refine ⟨f' + 1, ?_⟩
  rw [gM, h']
  simp only [bnd]
  rw [if_neg (by simpa using hq2)]
def opnW : Wd := ⟨5, [40], 0, 0, [], 0⟩
def clsW : Wd := ⟨5, [41], 0, 0, [], 0⟩
def plsW : Wd := ⟨5, [43], 0, 0, [], 0⟩
theorem wrap_right : rightM opnW = true ∧ rightM clsW = true ∧ rightM plsW = true := by decide +kernel
theorem nxt_end {ws : List Wd} {i : Nat} (h : ws.length ≤ i) : nxt ws i = zrW := by unfold nxt; rw [List.getElem?_eq_none h]
theorem nxt_at {ws : List Wd} {i : Nat} {x : Wd} (h : ws[i]? = some x) (hr : rightM x = true) : nxt ws i = x := by unfold nxt; rw [h]; simp only [hr, if_true]
/-- Brackets round a whole expression make no difference. -/
theorem brk_facts {l : List Wd} {f : Nat} {a : PE} {cr : List Int} (h : gM (nxt l) f .exp 0 [] = some (some [a], l.length, cr)) :
    (∃ f', gM (nxt ([opnW] ++ l ++ [clsW])) f' .exp 0 [] = some (some [a], l.length + 2, cr)) ∧ (∃ f', gM (nxt ([opnW, plsW] ++ ([opnW] ++ l ++ [clsW] ++ [clsW]))) f' .exp 0 [] = some (some [a], l.length + 5, cr)) ∧ (∀ x, l[0]? = some x → x.kind ≠ 1) := by
  have hk : ¬ (nxt l 0).kind = 1 := fun e => gM_key _ e _ _ _ _ _ _ rfl h
  have hz := nxt_end (ws := l) (Nat.le_refl _)
  have hak : akW (nxt l 0) = false := by
    cases e : akW (nxt l 0)
    · rfl
    · exact absurd (akW_kind e) hk
  have hn : 0 < l.length := by
    rcases Nat.eq_zero_or_pos l.length with e | e
    · rw [e] at hz
      exact absurd h (gM_end _ hz _ _ _ _ _ _ rfl)
    · exact e
  have key : ∀ (pre suf : List Wd), sgW (nxt (pre ++ l ++ suf) (l.length + pre.length)) = [41] → akW (nxt (pre ++ l ++ suf) (l.length + pre.length)) = false → gM (nxt (pre ++ l ++ suf)) f .exp pre.length [] = some (some [a], l.length + pre.length, cr) := fun pre suf e1 e2 => by
    have := gM_shift (N := nxt l) (N' := nxt (pre ++ l ++ suf)) (n := l.length) (c := pre.length) (fun i hi => by
      unfold nxt
      rw [List.append_assoc, List.getElem?_append_right (by omega), List.getElem?_append_left (by omega), show i + pre.length - pre.length = i by omega]) hz e1 e2 f .exp 0 [] [a] l.length cr (Nat.zero_le _) h
    rw [Nat.zero_add] at this
    exact this.2
  have hsc : ∀ i, (sgnL i).contains [41] = false := fun i => (sgn_no i).2
  have hsz : ∀ i, (sgnL i).contains [] = false := fun i => (sgn_no i).1
  refine ⟨?_, ?_, fun x hx e => ?_⟩
  · have g1 : nxt ([opnW] ++ l ++ [clsW]) (l.length + 1) = clsW := nxt_at (by rw [List.getElem?_append_right (by first | (simp; done) | (simp; omega))]; simp) wrap_right.2.1
    have k := key [opnW] [clsW] (by rw [show ([opnW] : List Wd).length = 1 from rfl, g1]; rfl) (by rw [show ([opnW] : List Wd).length = 1 from rfl, g1]; rfl)
    have g0 : nxt ([opnW] ++ l ++ [clsW]) 0 = opnW := nxt_at rfl wrap_right.1
    have g2 : nxt ([opnW] ++ l ++ [clsW]) 1 = nxt l 0 := by
      unfold nxt
      rw [List.append_assoc, List.getElem?_append_right (by simp), List.getElem?_append_left (by simpa using hn)]
      rfl
    have w := gM_wrap (N := nxt ([opnW] ++ l ++ [clsW])) (p := 0) (by rw [g0]; rfl) (by rw [g2]; exact hak) k (by rw [show ([opnW] : List Wd).length = 1 from rfl, g1]; rfl)
    have ge : nxt ([opnW] ++ l ++ [clsW]) (l.length + 1 + 1) = zrW := nxt_end (by simp)
    exact gM_exp (q := l.length + 1 + 1) (by rw [ge]; exact hsz) (by rw [ge]; decide) w
  · have e0 : [opnW, plsW] ++ ([opnW] ++ l ++ [clsW] ++ [clsW]) = [opnW, plsW, opnW] ++ l ++ [clsW, clsW] := by simp
    rw [e0]
    have hl3 : ([opnW, plsW, opnW] : List Wd).length = 3 := rfl
    have g3 : nxt ([opnW, plsW, opnW] ++ l ++ [clsW, clsW]) (l.length + 3) = clsW := nxt_at (by rw [List.getElem?_append_right (by first | (simp; done) | (simp; omega))]; simp) wrap_right.2.1
    have g4 : nxt ([opnW, plsW, opnW] ++ l ++ [clsW, clsW]) (l.length + 3 + 1) = clsW := nxt_at (by rw [List.getElem?_append_right (by first | (simp; done) | (simp; omega))]; simp [show l.length + 3 + 1 - (l.length + 1 + 1 + 1) = 1 by omega]) wrap_right.2.1
    have ge : nxt ([opnW, plsW, opnW] ++ l ++ [clsW, clsW]) (l.length + 3 + 1 + 1) = zrW := nxt_end (by simp)
    have k := key [opnW, plsW, opnW] [clsW, clsW] (by rw [hl3, g3]; rfl) (by rw [hl3, g3]; rfl)
    rw [hl3] at k
    have g0 : nxt ([opnW, plsW, opnW] ++ l ++ [clsW, clsW]) 0 = opnW := nxt_at rfl wrap_right.1
    have g1 : nxt ([opnW, plsW, opnW] ++ l ++ [clsW, clsW]) 1 = plsW := nxt_at rfl wrap_right.2.2
    have g2 : nxt ([opnW, plsW, opnW] ++ l ++ [clsW, clsW]) 2 = opnW := nxt_at rfl wrap_right.1
    have g5 : nxt ([opnW, plsW, opnW] ++ l ++ [clsW, clsW]) 3 = nxt l 0 := by
      unfold nxt
      rw [List.append_assoc, List.getElem?_append_right (by simp), List.getElem?_append_left (by simpa using hn)]
      rfl
    have w := gM_wrap (N := nxt ([opnW, plsW, opnW] ++ l ++ [clsW, clsW])) (p := 2) (by rw [g2]; rfl) (by rw [g5]; exact hak) k (by rw [g3]; rfl)
    have w1 := gM_plus (p := 1) (by rw [g1]; rfl) w
    obtain ⟨f2, w2⟩ := gM_exp (q := l.length + 3 + 1) (by rw [g4]; exact hsc) (by rw [g4]; decide) w1
    have w3 := gM_wrap (N := nxt ([opnW, plsW, opnW] ++ l ++ [clsW, clsW])) (p := 0) (by rw [g0]; rfl) (by rw [g1]; rfl) w2 (by rw [g4]; rfl)
    exact gM_exp (q := l.length + 3 + 1 + 1) (by rw [ge]; exact hsz) (by rw [ge]; decide) w3
  · refine hk ?_
    unfold nxt
    rw [hx]
    cases hr : rightM x
    · exfalso
      have hz0 : nxt l 0 = zrW := by unfold nxt; rw [hx]; simp [hr]
      exact gM_end _ hz0 _ _ _ _ _ _ rfl h
    · simp only [hr, if_true]
      exact e
end Go.Proofs.YtmpkgjonbjpohaaGreatDoor
namespace Go.Proofs.YtmpkgjonbjpohaaGreatDoor
open Go Go.RowKit
set_option linter.unusedVariables false
set_option linter.unusedSimpArgs false

theorem bnd_any {A : GR} {k : PE → Nat → List Int → GR} {o : Option (List PE)} {p : Nat} {c : List Int} (h : bnd A k = some (o, p, c)) : (∃ e p1 c1, A = some (some [e], p1, c1) ∧ k e p1 c1 = some (o, p, c)) ∨ (∃ o1, A = some (o1, p, c) ∧ o = none) := by
  match A, h with
  | some (some [e], p1, c1), h => exact .inl ⟨e, p1, c1, rfl, h⟩
  | some (some [], p1, c1), h => simp only [bnd, Option.some.injEq, Prod.mk.injEq] at h; obtain ⟨rfl, rfl, rfl⟩ := h; exact .inr ⟨_, rfl, rfl⟩
  | some (some (_ :: _ :: _), p1, c1), h => simp only [bnd, Option.some.injEq, Prod.mk.injEq] at h; obtain ⟨rfl, rfl, rfl⟩ := h; exact .inr ⟨_, rfl, rfl⟩
  | some (none, p1, c1), h => simp only [bnd, Option.some.injEq, Prod.mk.injEq] at h; obtain ⟨rfl, rfl, rfl⟩ := h; exact .inr ⟨_, rfl, rfl⟩
  | none, h => simp [bnd] at h
theorem bndL_any {A : GR} {k : List PE → Nat → List Int → GR} {o : Option (List PE)} {p : Nat} {c : List Int} (h : bndL A k = some (o, p, c)) : (∃ e p1 c1, A = some (some e, p1, c1) ∧ k e p1 c1 = some (o, p, c)) ∨ (∃ o1, A = some (o1, p, c) ∧ o = none) := by
  match A, h with
  | some (some e, p1, c1), h => exact .inl ⟨e, p1, c1, rfl, h⟩
  | some (none, p1, c1), h => simp only [bndL, Option.some.injEq, Prod.mk.injEq] at h; obtain ⟨rfl, rfl, rfl⟩ := h; exact .inr ⟨_, rfl, rfl⟩
  | none, h => simp [bndL] at h
theorem gM_cr (N : Nat → Wd) : ∀ (f : Nat) (k : Kd) (p : Nat) (cr : List Int) (o : Option (List PE)) (p' : Nat) (cr' : List Int), gM N f k p cr = some (o, p', cr') → p ≤ p' ∧ cr'.length + p ≤ cr.length + p'
  | 0, _, _, _, _, _, _, h => by cases h
  | f + 1, k, p, cr, o, p', cr', h => by
    have ih := gM_cr N f
    have tr : ∀ {a b c : Nat} {x y z : List Int}, (a ≤ b ∧ y.length + a ≤ x.length + b) → (b ≤ c ∧ z.length + b ≤ y.length + c) → (a ≤ c ∧ z.length + a ≤ x.length + c) := fun h1 h2 => ⟨by omega, by omega⟩
    have st : ∀ {a b c : Nat} {x y : List Int}, a ≤ b → (b ≤ c ∧ y.length + b ≤ x.length + c) → (a ≤ c ∧ y.length + a ≤ x.length + c) := fun h1 h2 => ⟨by omega, by omega⟩
    have rf : ∀ {a b : Nat} {x : List Int}, a ≤ b → (a ≤ b ∧ x.length + a ≤ x.length + b) := fun h => ⟨h, by omega⟩
    cases k with
    | lev i => cases i with
      | zero => rw [gM] at h; exact ih _ _ _ _ _ _ h
      | succ i =>
        rw [gM] at h
        rcases bnd_any h with ⟨e, p1, c1, h1, h2⟩ | ⟨o1, h1, _⟩
        · exact tr (ih _ _ _ _ _ _ h1) (ih _ _ _ _ _ _ h2)
        · exact ih _ _ _ _ _ _ h1
    | lop i e =>
      rw [gM] at h
      split at h
      · rcases bnd_any h with ⟨e, p1, c1, h1, h2⟩ | ⟨o1, h1, _⟩
        · exact tr (st (by omega) (ih _ _ _ _ _ _ h1)) (ih _ _ _ _ _ _ h2)
        · exact st (by omega) (ih _ _ _ _ _ _ h1)
      · cases h; exact rf (Nat.le_refl _)
    | exp =>
      rw [gM] at h
      rcases bnd_any h with ⟨e, p1, c1, h1, h2⟩ | ⟨o1, h1, _⟩
      · refine tr (ih _ _ _ _ _ _ h1) ?_
        split at h2
        · rcases bnd_any h2 with ⟨e2, p2, c2, h3, h4⟩ | ⟨o2, h3, _⟩
          · refine tr (st (by omega) (ih _ _ _ _ _ _ h3)) ?_
            split at h4
            · rcases bnd_any h4 with ⟨e3, p3, c3, h5, h6⟩ | ⟨o3, h5, _⟩
              · cases h6; exact st (by omega) (ih _ _ _ _ _ _ h5)
              · exact st (by omega) (ih _ _ _ _ _ _ h5)
            · cases h4; exact rf (Nat.le_refl _)
          · exact st (by omega) (ih _ _ _ _ _ _ h3)
        · cases h2; exact rf (Nat.le_refl _)
      · exact ih _ _ _ _ _ _ h1
    | one =>
      rw [gM] at h
      split at h
      · exact st (by omega) (ih _ _ _ _ _ _ h)
      · split at h
        · rcases bnd_any h with ⟨e, p1, c1, h1, h2⟩ | ⟨o1, h1, _⟩
          · cases h2; exact st (by omega) (ih _ _ _ _ _ _ h1)
          · exact st (by omega) (ih _ _ _ _ _ _ h1)
        · split at h
          · split at h
            · exact st (by omega) (ih _ _ _ _ _ _ h)
            · rcases bnd_any h with ⟨e, p1, c1, h1, h2⟩ | ⟨o1, h1, _⟩
              · refine tr (st (by omega) (ih _ _ _ _ _ _ h1)) ?_
                split at h2
                · cases h2; exact rf (by omega)
                · cases h2; exact rf (Nat.le_refl _)
              · exact st (by omega) (ih _ _ _ _ _ _ h1)
          · exact ih _ _ _ _ _ _ h
    | kw line acc =>
      rw [gM] at h
      split at h
      · exact st (by omega) (ih _ _ _ _ _ _ h)
      · split at h
        · rcases bnd_any h with ⟨e, p1, c1, h1, h2⟩ | ⟨o1, h1, _⟩
          · cases h2; exact st (by omega) (ih _ _ _ _ _ _ h1)
          · exact st (by omega) (ih _ _ _ _ _ _ h1)
        · cases h; exact rf (Nat.le_refl _)
    | alone =>
      rw [gM] at h
      split at h
      · cases h; exact rf (by omega)
      · split at h
        · split at h
          · rcases bndL_any h with ⟨e, p1, c1, h1, h2⟩ | ⟨o1, h1, _⟩
            · obtain ⟨a1, a2⟩ := ih _ _ _ _ _ _ h1
              cases h2
              refine ⟨by omega, ?_⟩
              split
              · rw [List.length_append]; simp only [List.length_cons, List.length_nil]; omega
              · omega
            · exact st (by omega) (ih _ _ _ _ _ _ h1)
          · cases h; exact rf (by omega)
        · cases h; exact rf (Nat.le_refl _)
    | args =>
      rw [gM] at h
      split at h
      · cases h; exact rf (by omega)
      · exact ih _ _ _ _ _ _ h
    | arg acc =>
      rw [gM] at h
      rcases bnd_any h with ⟨e, p1, c1, h1, h2⟩ | ⟨o1, h1, _⟩
      · refine tr (ih _ _ _ _ _ _ h1) ?_
        split at h2
        · exact st (by omega) (ih _ _ _ _ _ _ h2)
        · split at h2
          · cases h2; exact rf (by omega)
          · cases h2; exact rf (Nat.le_refl _)
      · exact ih _ _ _ _ _ _ h1
end Go.Proofs.YtmpkgjonbjpohaaGreatDoor
