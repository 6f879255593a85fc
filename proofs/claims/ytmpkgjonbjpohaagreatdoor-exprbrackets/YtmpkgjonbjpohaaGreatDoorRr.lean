/-
  Package expr: what calls of the reader want and tell; slices.Contains on signs.
-/
import Derived.Test.YtmpkgjonbjpohaaGreatDoorY6
import Derived.Test.YtmpkgjonbjpohaaGreatDoorNb
namespace Go.Proofs.YtmpkgjonbjpohaaGreatDoor
open Go Go.RowKit
set_option linter.unusedVariables false
set_option linter.unusedSimpArgs false

def strA (l : List (List UInt8)) : Array Value := (l.map fun s => Value.string ⟨s.toArray⟩).toArray
/-- The closures of levels. -/
def LvC (W : World) (R : Nat) : Nat → Value → Prop
  | 0, fv => fv = .func (.func 64) #[.pointer (some ⟨R, 0, none⟩)] #[]
  | i + 1, fv => ∃ a b c pv sb sc, fv = .func (.func 94) #[] #[.pointer (some ⟨a, 0, none⟩), .pointer (some ⟨b, 0, none⟩), .pointer (some ⟨c, 0, none⟩)] ∧ (R < a ∧ R < b ∧ R < c ∧ R < sb) ∧ Bk W a 67 #[pv] ∧ LvC W R i pv ∧ Bk W b 91 #[.slice (some ⟨sb, 0, none⟩) (sgnL (i + 1)).length sc] ∧ Bk W c 62 #[.pointer (some ⟨R, 0, none⟩)] ∧ Bk W sb 9 (strA (sgnL (i + 1)))
theorem LvC.fr {R : Nat} {W W' : World} (hf : FrE R W W') : ∀ (i : Nat) (fv : Value), LvC W R i fv → LvC W' R i fv
  | 0, _, h => h
  | i + 1, fv, h => by
    obtain ⟨a, b, c, pv, sb, sc, h0, ⟨h1, h2, h3, h4⟩, k1, k2, k3, k4, k5⟩ := h
    exact ⟨a, b, c, pv, sb, sc, h0, ⟨h1, h2, h3, h4⟩, hf.box k1 (by decide) (by omega), LvC.fr hf i pv k2, hf.box k3 (by decide) (by omega), hf.box k4 (by decide) (by omega), hf.box k5 (by decide) (by omega)⟩
theorem LvC.late {R b : Nat} {W W' : World} {cs : Array Value} (hT : Bk W b 24 cs) (hk : ∀ (j : Nat) (o : Obj), j ≠ b → W.heap[j]? = some o → W'.heap[j]? = some o) : ∀ (i : Nat) (fv : Value), LvC W R i fv → LvC W' R i fv
  | 0, _, h => h
  | i + 1, fv, h => by
    obtain ⟨a, b', c, pv, sb, sc, h0, hl, k1, k2, k3, k4, k5⟩ := h
    have ne : ∀ {j : Nat} {T : TypeId} {ds : Array Value}, Bk W j T ds → T ≠ 24 → Bk W' j T ds := fun {j T ds} hb hn => hk j _ (fun e => by
      subst e
      have h1 : W.heap[j]? = some (.cells cs 24 (0, 0)) := hT
      have h2 : W.heap[j]? = some (.cells ds T (0, 0)) := hb
      rw [h1] at h2
      simp at h2
      exact hn h2.2.symm) hb
    exact ⟨a, b', c, pv, sb, sc, h0, hl, ne k1 (by decide), LvC.late hT hk i pv k2, ne k3 (by decide), ne k4 (by decide), ne k5 (by decide)⟩
/-- Where the reader stands. -/
def Cx (R : Nat) (wv : Value) (ws : List Wd) (tw : Value) (W : World) (p : Nat) (cr : List Int) : Prop := ∃ crv, RdX W R wv ws tw crv p (nxt ws p) cr ∧ LvC W R 10 tw ∧ p ≤ ws.length ∧ cr.length ≤ p
theorem Cx.below {R : Nat} {wv : Value} {ws : List Wd} {tw : Value} {W W' : World} {p : Nat} {cr : List Int} (h : Cx R wv ws tw W p cr) (hb : Below W.heap.size W W') : Cx R wv ws tw W' p cr := by
  obtain ⟨crv, h1, h2, h3⟩ := h
  exact ⟨crv, h1.below hb, LvC.fr (FrE.below hb (Nat.le_of_lt h1.b.lt)) 10 tw h2, h3⟩
theorem Cx.lt {R : Nat} {wv : Value} {ws : List Wd} {tw : Value} {W : World} {p : Nat} {cr : List Int} (h : Cx R wv ws tw W p cr) : R < W.heap.size := by
  obtain ⟨crv, h1, _⟩ := h
  exact h1.b.lt
theorem Cx.bk {R : Nat} {wv : Value} {ws : List Wd} {tw : Value} {W : World} {p : Nat} {cr : List Int} (h : Cx R wv ws tw W p cr) : ∃ cs, Bk W R 70 cs := by
  obtain ⟨crv, h1, _⟩ := h
  exact ⟨_, h1.b⟩
theorem Cx.late {R : Nat} {wv : Value} {ws : List Wd} {tw : Value} {W W' : World} {p : Nat} {cr : List Int} {b : Nat} {cs : Array Value} (h : Cx R wv ws tw W p cr) (hb : R < b) (hT : Bk W b 24 cs) (hk : ∀ (j : Nat) (o : Obj), j ≠ b → W.heap[j]? = some o → W'.heap[j]? = some o) (hB : ∀ n, n ≤ b → Below n W W') : Cx R wv ws tw W' p cr := by
  obtain ⟨crv, h1, h2, h3⟩ := h
  exact ⟨crv, h1.late hb hT (by decide) hk hB, LvC.late hT hk 10 tw h2, h3⟩
/-- What a call tells. -/
def PrP (R : Nat) (wv : Value) (ws : List Wd) (tw : Value) (k : Kd) (p : Nat) (cr : List Int) (W : World) (e : Ending) (W' : World) : Prop :=
  ∃ x q c o p' cr' f, e = .returned (.tuple #[.agg (exC x q c), .bool (Option.isSome o)]) ∧ gM (nxt ws) f k p cr = some (o, p', cr') ∧ (∀ l, o = some l → l = [x]) ∧ Kids W' (fun g => W.heap.size ≤ g) x q ∧ Cx R wv ws tw W' p' cr' ∧ FrE R W W' ∧ p ≤ p'
theorem PrP.fin {R : Nat} {wv : Value} {ws : List Wd} {tw : Value} {k : Kd} {p p' f : Nat} {cr cr' : List Int} {w W : World} {x : PE} {q : Option Addr} {c : Nat} {o : Option (List PE)} {c0 c1 c2 c3 c4 c5 c6 : Value} (hR : R < w.heap.size) (hC : Cx R wv ws tw W p' cr') (hZ : Bk W w.heap.size 24 #[c0, c1, c2, c3, c4, c5, c6]) (hF : FrE R w W) (hK : Kids W (fun g => w.heap.size < g) x q)
    (hg : gM (nxt ws) f k p cr = some (o, p', cr')) (ho : ∀ l, o = some l → l = [x]) (hp : p ≤ p') (B : Bool) (hB : B = o.isSome) : ∀ W', W' = (((((((W.setCell ⟨w.heap.size, 0, none⟩ (.int .i64 x.is)).setCell ⟨w.heap.size, 1, none⟩ (.int .i64 x.op)).setCell ⟨w.heap.size, 2, none⟩ (.int .i64 x.k)).setCell ⟨w.heap.size, 3, none⟩ (.int .i64 x.v)).setCell ⟨w.heap.size, 4, none⟩ (.string ⟨x.nm.toArray⟩)).setCell ⟨w.heap.size, 5, none⟩ (.slice q x.l.length c)).setCell ⟨w.heap.size, 6, none⟩ (.int .i64 x.line)) →
    Bk W' w.heap.size 24 (exC x q c) ∧ PrP R wv ws tw k p cr w (.returned (.tuple #[.agg (exC x q c), .bool B])) W' := fun W' e => by
  obtain ⟨r1, r2, r3, r4⟩ := ex_put hZ (.int .i64 x.is) (.int .i64 x.op) (.int .i64 x.k) (.int .i64 x.v) (.string ⟨x.nm.toArray⟩) (.slice q x.l.length c) (.int .i64 x.line) W' e
  exact ⟨r1, x, q, c, o, p', cr', f, by rw [hB], hg, ho, (hK.off r3 (by simp)).mono (fun g _ h => by omega), hC.late hR hZ r3 r2, FrE.late hF (Nat.le_refl _) (Nat.le_of_lt hR) r3 r2, hp⟩
/-- The same, with a list of parts that is laid behind it. -/
theorem PrP.finL {R : Nat} {wv : Value} {ws : List Wd} {tw : Value} {k : Kd} {p p' f : Nat} {cr cr' : List Int} {w W : World} {x : PE} {c n : Nat} {o : Option (List PE)} {c0 c1 c2 c3 c4 c5 c6 : Value} {L : Array Value} (hn : x.l.length = n) (hR : R < w.heap.size) (hC : Cx R wv ws tw W p' cr') (hZ : Bk W w.heap.size 24 #[c0, c1, c2, c3, c4, c5, c6]) (hF : FrE R w W)
    (hK : ∀ V : World, Bk V W.heap.size 24 L → (∀ (y : PE) (q : Option Addr), Kids W (fun g => w.heap.size < g) y q → Kids V (fun g => w.heap.size ≤ g) y q) → Kids V (fun g => w.heap.size ≤ g) x (some ⟨W.heap.size, 0, none⟩))
    (hg : gM (nxt ws) f k p cr = some (o, p', cr')) (ho : ∀ l, o = some l → l = [x]) (hp : p ≤ p') (B : Bool) (hB : B = o.isSome) : ∀ W', W' = (((((((W.setCell ⟨w.heap.size, 0, none⟩ (.int .i64 x.is)).setCell ⟨w.heap.size, 1, none⟩ (.int .i64 x.op)).setCell ⟨w.heap.size, 2, none⟩ (.int .i64 x.k)).setCell ⟨w.heap.size, 3, none⟩ (.int .i64 x.v)).setCell ⟨w.heap.size, 4, none⟩ (.string ⟨x.nm.toArray⟩)).setCell ⟨w.heap.size, 5, none⟩ (.slice (some ⟨W.heap.size, 0, none⟩) n c)).setCell ⟨w.heap.size, 6, none⟩ (.int .i64 x.line)).alloc (.cells L 24) →
    Bk W' w.heap.size 24 (exC x (some ⟨W.heap.size, 0, none⟩) c) ∧ PrP R wv ws tw k p cr w (.returned (.tuple #[.agg (exC x (some ⟨W.heap.size, 0, none⟩) c), .bool B])) W' := fun W' e => by
  subst hn
  obtain ⟨r1, r2, r3, r4⟩ := ex_put hZ (.int .i64 x.is) (.int .i64 x.op) (.int .i64 x.k) (.int .i64 x.v) (.string ⟨x.nm.toArray⟩) (.slice (some ⟨W.heap.size, 0, none⟩) x.l.length c) (.int .i64 x.line) _ rfl
  have hc2 := hC.late hR hZ r3 r2
  have hf2 := FrE.late hF (Nat.le_refl _) (Nat.le_of_lt hR) r3 r2
  have hoff : ∀ (y : PE) (q : Option Addr), Kids W (fun g => w.heap.size < g) y q → Kids _ (fun g => w.heap.size ≤ g) y q := fun y q h => (h.off r3 (by simp)).mono (fun g _ h => by omega)
  generalize (((((((W.setCell ⟨w.heap.size, 0, none⟩ (.int .i64 x.is)).setCell ⟨w.heap.size, 1, none⟩ (.int .i64 x.op)).setCell ⟨w.heap.size, 2, none⟩ (.int .i64 x.k)).setCell ⟨w.heap.size, 3, none⟩ (.int .i64 x.v)).setCell ⟨w.heap.size, 4, none⟩ (.string ⟨x.nm.toArray⟩)).setCell ⟨w.heap.size, 5, none⟩ (.slice (some ⟨W.heap.size, 0, none⟩) x.l.length c)).setCell ⟨w.heap.size, 6, none⟩ (.int .i64 x.line)) = V at *
  subst e
  have hb := (Below.refl _ V).alloc (Nat.le_refl _) (.cells L 24)
  have hk2 := Bk.new V 24 L
  rw [r4] at hk2
  exact ⟨r1.alloc _, x, _, c, o, p', cr', f, by rw [hB], hg, ho, hK _ hk2 (fun y q h => (hoff y q h).below hb), hc2.below hb, hf2.trans (FrE.below hb (by rw [r4]; have := hF.be.size; have := hC.lt; omega)), hp⟩
set_option maxRecDepth 100000 in
set_option maxHeartbeats 8000000 in
theorem contains_any (l : List (List UInt8)) (s : List UInt8) (g c : Nat) (w : World) (hl : l.length ≤ 1000) (hb : Bk w g 9 (strA l)) :
    Calls Tryz.prog 95 #[.slice (some ⟨g, 0, none⟩) l.length c, .string ⟨s.toArray⟩] w fun e w' => e = .returned (.bool (l.contains s)) ∧ w' = w := by
  have HI : Hid (Calls Tryz.prog 122 #[.slice (some ⟨g, 0, none⟩) l.length c, .string ⟨s.toArray⟩] w fun e w' => (∃ i : Int, e = .returned (.int .i64 i) ∧ decide (0 ≤ i) = l.contains s ∧ i ≤ 1000000) ∧ w' = w) := by
    have HB := veil hb
    have hgl := hb.lt
    clear hb
    unfold Hid
    go_enter Tryz.func122, Tryz.ntmps122
    go_upto_region 2 with fail
    go_loopg [8] l.length (fun gk iv wr => ∃ (k : Nat), gk = l.length - k ∧ iv = .int .i64 k ∧ k ≤ l.length ∧ wr = w ∧ Hid (∀ (i : Nat) (h : i < l.length), i < k → l[i] ≠ s))
    case atStart => exact ⟨0, rfl, rfl, Nat.zero_le _, rfl, fun i _ h => absurd h (Nat.not_lt_zero _)⟩
    case round =>
      rename World => wr
      obtain ⟨k, rfl, rfl, hk, hw, hall⟩ := hrel
      obtain rfl := hw.symm
      clear hw
      by_cases hkl : k < l.length
      · have hkk : (k : Int) < (l.length : Int) := by omega
        have hcell : w.cell? ⟨g, k, none⟩ = some (.string ⟨l[k].toArray⟩) := by
          rw [(unveil HB).cell]
          unfold strA
          simp [hkl]
        have HX : Hid (∀ y, l[k] = y → y = l[k]) := fun y h => h.symm
        generalize hy : l[k] = y at *
        have HY := veil hy
        clear hy
        cases he : s == y
        · have HNX : Hid (∀ (i : Nat) (h : i < l.length), i < k + 1 → l[i] ≠ s) := fun i h hi => by
            by_cases hik : i < k
            · exact unveil hall i h hik
            · obtain rfl : i = k := by omega
              rw [unveil HY]
              intro e
              rw [e] at he
              simp at he
          go_wp2_with fail
          go_roundg (l.length - (k + 1))
          case measure => omega
          case rel => exact ⟨k + 1, rfl, by go_num, by omega, rfl, HNX⟩
        · have HME : Hid (l.contains s = true) := by
            have e : s = y := by simpa using he
            rw [Hid, List.contains_iff_mem, e, ← unveil HY]
            exact List.getElem_mem hkl
          go_wp2_with fail
          go_ret
          exact ⟨⟨_, rfl, by rw [unveil HME]; simp, by omega⟩, rfl⟩
      · have hkk : ¬ (k : Int) < (l.length : Int) := by omega
        have HME : Hid (l.contains s = false) := by
          rw [Hid, ← Bool.not_eq_true, List.contains_iff_mem]
          intro hm
          obtain ⟨i, hi, e⟩ := List.mem_iff_getElem.1 hm
          exact unveil hall i hi (by omega) e
        go_wp2_with fail
        go_ret
        exact ⟨⟨_, rfl, by first | (rw [unveil HME]; rfl) | (have h := unveil HME; rw [← Bool.not_eq_true, List.contains_iff_mem] at h; simpa using h), by omega⟩, rfl⟩
  clear hb
  generalize l.contains s = CT at *
  go_enter Tryz.func95, Tryz.ntmps95
  go_wp2_with (go_at_call 122; refine (unveil HI).mono ?_; rintro e w' ⟨⟨i, rfl, hi, hi2⟩, hw'⟩; obtain rfl := hw'.symm; have HH := veil hi; clear hi hw')
  go_ret
  refine ⟨?_, rfl⟩
  rw [← unveil HH]
  rfl
end Go.Proofs.YtmpkgjonbjpohaaGreatDoor
