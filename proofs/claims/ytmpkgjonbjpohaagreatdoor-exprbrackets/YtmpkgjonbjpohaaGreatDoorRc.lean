/-
  Package expr: what words say, as the program reads them: with so much fuel; more fuel tells the same.
-/
import Derived.Test.YtmpkgjonbjpohaaGreatDoorXa
import Derived.Test.YtmpkgjonbjpohaaGreatDoorHk
import Derived.Test.YtmpkgjonbjpohaaGreatDoorRk
namespace Go.Proofs.YtmpkgjonbjpohaaGreatDoor
open Go Go.RowKit
set_option linter.unusedVariables false
set_option linter.unusedSimpArgs false

def zrW : Wd := ⟨0, [], 0, 0, [], 0⟩
/-- The word that stands at a place: none behind the last one, or where it is not right. -/
def nxt (ws : List Wd) (i : Nat) : Wd := match ws[i]? with | some x => if rightM x then x else zrW | none => zrW
/-- An expression. -/
inductive PE where
  | mk (is op k v : Int) (nm : List UInt8) (l : List PE) (line : Int)
namespace PE
def is : PE → Int | .mk a _ _ _ _ _ _ => a
def op : PE → Int | .mk _ a _ _ _ _ _ => a
def k : PE → Int | .mk _ _ a _ _ _ _ => a
def v : PE → Int | .mk _ _ _ a _ _ _ => a
def nm : PE → List UInt8 | .mk _ _ _ _ a _ _ => a
def l : PE → List PE | .mk _ _ _ _ _ a _ => a
def line : PE → Int | .mk _ _ _ _ _ _ a => a
end PE
/-- What is to be read next. -/
inductive Kd where
  | lev (i : Nat)
  | lop (i : Nat) (e : PE)
  | exp
  | one
  | kw (line : Int) (acc : List (List UInt8))
  | alone
  | args
  | arg (acc : List PE)
abbrev GR := Option (Option (List PE) × Nat × List Int)
def sgnL : Nat → List (List UInt8)
  | 1 => [[42], [47], [37]]
  | 2 => [[43], [45]]
  | 3 => [[60, 60], [62, 62]]
  | 4 => [[60], [60, 61], [62], [62, 61]]
  | 5 => [[61, 61], [33, 61]]
  | 6 => [[38]]
  | 7 => [[94]]
  | 8 => [[124]]
  | 9 => [[38, 38]]
  | _ => [[124, 124]]
def sgW (w : Wd) : List UInt8 := if w.kind == 5 then w.s else []
def akW (w : Wd) : Bool := w.kind == 1 && ((kofM [w.s]).2 == 0)
def fstO (p : Int → Bool) : Nat → Int → Int
  | 0, _ => 0
  | n + 1, op => if p op then op else fstO p n (op + 1)
/-- The operator of a sign, of two or of one. -/
def opB (s : List UInt8) : Int := fstO (fun op => (ofM op == 2) && (sigM op == s)) 17 1
def ofO (op : Int) : Bool := !(ofM op == 2) && !(sigM op == [])
def opO (s : List UInt8) : Int := fstO (fun op => ofO op && (sigM op == s)) 17 1
def joiP (w : Wd) (a b : PE) : PE :=
  if w.s == [38, 38] then .mk 5 0 0 0 [] [a, b] w.line
  else if w.s == [124, 124] then .mk 6 0 0 0 [] [a, b] w.line
  else if w.s == [62] then .mk 3 17 0 0 [] [.mk 4 12 0 0 [] [a, b] w.line] w.line
  else if w.s == [62, 61] then .mk 3 17 0 0 [] [.mk 4 11 0 0 [] [a, b] w.line] w.line
  else .mk 4 (opB w.s) 0 0 [] [a, b] w.line
def bnd (A : GR) (k : PE → Nat → List Int → GR) : GR :=
  match A with
  | none => none
  | some (none, a, c) => some (none, a, c)
  | some (some [e], a, c) => k e a c
  | some (some _, a, c) => some (none, a, c)
def bndL (A : GR) (k : List PE → Nat → List Int → GR) : GR :=
  match A with
  | none => none
  | some (none, a, c) => some (none, a, c)
  | some (some l, a, c) => k l a c
/-- What the program reads from a place on: with so much fuel. -/
def gM (N : Nat → Wd) : Nat → Kd → Nat → List Int → GR
  | 0, _, _, _ => none
  | f + 1, .lev 0, p, cr => gM N f .one p cr
  | f + 1, .lev (i + 1), p, cr => bnd (gM N f (.lev i) p cr) fun e p cr => gM N f (.lop i e) p cr
  | f + 1, .lop i e, p, cr => if (sgnL (i + 1)).contains (sgW (N p)) then bnd (gM N f (.lev i) (p + 1) cr) fun e2 p2 cr2 => gM N f (.lop i (joiP (N p) e e2)) p2 cr2 else some (some [e], p, cr)
  | f + 1, .exp, p, cr => bnd (gM N f (.lev 10) p cr) fun e p cr => if sgW (N p) == [63] then bnd (gM N f .exp (p + 1) cr) fun e2 p2 cr2 => if sgW (N p2) == [58] then bnd (gM N f .exp (p2 + 1) cr2) fun e3 p3 cr3 => some (some [.mk 9 0 0 0 [] [e, e2, e3] (N p).line], p3, cr3) else some (none, p2, cr2)
      else some (some [e], p, cr)
  | f + 1, .one, p, cr => if sgW (N p) == [43] then gM N f .one (p + 1) cr
      else if opO (sgW (N p)) != 0 then bnd (gM N f .one (p + 1) cr) fun e p2 cr2 => some (some [.mk 3 (opO (sgW (N p))) 0 0 [] [e] (N p).line], p2, cr2)
      else if sgW (N p) == [40] then (if akW (N (p + 1)) then gM N f (.kw (N p).line []) (p + 1) cr else bnd (gM N f .exp (p + 1) cr) fun e p2 cr2 => if sgW (N p2) == [41] then some (some [e], p2 + 1, cr2) else some (none, p2, cr2))
      else gM N f .alone p cr
  | f + 1, .kw line acc, p, cr => if akW (N p) then gM N f (.kw line (acc ++ [(N p).s])) (p + 1) cr
      else if ((kofM acc).2 == 0) && (sgW (N p) == [41]) then bnd (gM N f .one (p + 1) cr) fun e p2 cr2 => some (some [.mk 7 0 (kofM acc).1 0 [] [e] line], p2, cr2)
      else some (none, p, cr)
  | f + 1, .alone, p, cr => if (N p).kind == 3 then some (some [.mk 1 0 (N p).t (N p).v [] [] (N p).line], p + 1, cr)
      else if (N p).kind == 2 then (if sgW (N (p + 1)) == [40] then bndL (gM N f .args (p + 2) cr) fun l p2 cr2 => some (some [.mk 8 0 0 0 (N p).s l (N p).line], p2, if 8 < l.length then cr2 ++ [(N p).line] else cr2) else some (some [.mk 2 0 0 0 (N p).s [] (N p).line], p + 1, cr))
      else some (none, p, cr)
  | f + 1, .args, p, cr => if sgW (N p) == [41] then some (some [], p + 1, cr) else gM N f (.arg []) p cr
  | f + 1, .arg acc, p, cr => bnd (gM N f .exp p cr) fun e p2 cr2 => if sgW (N p2) == [44] then gM N f (.arg (acc ++ [e])) (p2 + 1) cr2 else if sgW (N p2) == [41] then some (some (acc ++ [e]), p2 + 1, cr2) else some (none, p2, cr2)
def leG (A B : GR) : Prop := ∀ r, A = some r → B = some r
theorem leG.refl (A : GR) : leG A A := fun _ h => h
theorem leG.none (B : GR) : leG .none B := fun _ h => by cases h
theorem bnd_le {A A' : GR} {k k' : PE → Nat → List Int → GR} (h : leG A A') (hk : ∀ e p c, leG (k e p c) (k' e p c)) : leG (bnd A k) (bnd A' k') := by
  cases A with
  | none => exact leG.none _
  | some a =>
    rw [h a rfl]
    obtain ⟨o, p, c⟩ := a
    match o with
    | none => exact leG.refl _
    | some [] => exact leG.refl _
    | some [e] => exact hk e p c
    | some (_ :: _ :: _) => exact leG.refl _
theorem bndL_le {A A' : GR} {k k' : List PE → Nat → List Int → GR} (h : leG A A') (hk : ∀ e p c, leG (k e p c) (k' e p c)) : leG (bndL A k) (bndL A' k') := by
  cases A with
  | none => exact leG.none _
  | some a =>
    rw [h a rfl]
    obtain ⟨o, p, c⟩ := a
    match o with
    | none => exact leG.refl _
    | some l => exact hk l p c
theorem ite_le {b : Bool} {A A' B B' : GR} (h : leG A A') (h2 : leG B B') : leG (if b = true then A else B) (if b = true then A' else B') := by
  cases b
  · exact h2
  · exact h
/-- More fuel tells the same. -/
theorem gM_up (N : Nat → Wd) : ∀ (f : Nat) (k : Kd) (p : Nat) (cr : List Int), leG (gM N f k p cr) (gM N (f + 1) k p cr)
  | 0, _, _, _ => leG.none _
  | f + 1, k, p, cr => by
    have ih := gM_up N f
    cases k with
    | lev i => cases i with
      | zero => rw [gM, gM]; exact ih _ _ _
      | succ i => rw [gM, gM]; exact bnd_le (ih _ _ _) fun _ _ _ => ih _ _ _
    | lop i e => rw [gM, gM]; exact ite_le (bnd_le (ih _ _ _) fun _ _ _ => ih _ _ _) (leG.refl _)
    | exp => rw [gM, gM]; exact bnd_le (ih _ _ _) fun _ _ _ => ite_le (bnd_le (ih _ _ _) fun _ _ _ => ite_le (bnd_le (ih _ _ _) fun _ _ _ => leG.refl _) (leG.refl _)) (leG.refl _)
    | one => rw [gM, gM]; exact ite_le (ih _ _ _) (ite_le (bnd_le (ih _ _ _) fun _ _ _ => leG.refl _) (ite_le (ite_le (ih _ _ _) (bnd_le (ih _ _ _) fun _ _ _ => leG.refl _)) (ih _ _ _)))
    | kw line acc => rw [gM, gM]; exact ite_le (ih _ _ _) (ite_le (bnd_le (ih _ _ _) fun _ _ _ => leG.refl _) (leG.refl _))
    | alone => rw [gM, gM]; exact ite_le (leG.refl _) (ite_le (ite_le (bndL_le (ih _ _ _) fun _ _ _ => leG.refl _) (leG.refl _)) (leG.refl _))
    | args => rw [gM, gM]; exact ite_le (leG.refl _) (ih _ _ _)
    | arg acc => rw [gM, gM]; exact bnd_le (ih _ _ _) fun _ _ _ => ite_le (ih _ _ _) (leG.refl _)
theorem gM_le (N : Nat → Wd) {f f' : Nat} (h : f ≤ f') (k : Kd) (p : Nat) (cr : List Int) : leG (gM N f k p cr) (gM N f' k p cr) := by
  obtain ⟨d, rfl⟩ := Nat.exists_eq_add_of_le h
  induction d with
  | zero => exact leG.refl _
  | succ d ih => exact fun r hr => gM_up N _ k p cr r (ih (by omega) r hr)
theorem gM_det (N : Nat → Wd) {f f' : Nat} {k : Kd} {p : Nat} {cr : List Int} {r r' : Option (List PE) × Nat × List Int} (h : gM N f k p cr = some r) (h' : gM N f' k p cr = some r') : r = r' := by
  rcases Nat.le_total f f' with hl | hl
  · have := gM_le N hl k p cr r h
    rw [h'] at this
    cases this
    rfl
  · have := gM_le N hl k p cr r' h'
    rw [h] at this
    cases this
    rfl
end Go.Proofs.YtmpkgjonbjpohaaGreatDoor
