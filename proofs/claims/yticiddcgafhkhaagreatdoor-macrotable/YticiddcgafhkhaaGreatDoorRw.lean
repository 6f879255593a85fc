/-
  Steps of a region that draws its order, loads first: for a walk without a fence.
-/
import Derived.Test.YticiddcgafhkhaaGreatDoorReg
import Derived.OwnWalkIn
import Derived.Deep.RegionHeld3
namespace Go.Proofs.YticiddcgafhkhaaGreatDoor
open Go
section
variable {P : Program} {n : Nat} {w : World} {S : World → Prop} {Q : Exit → Act → World → Prop}
theorem yields_nil {ops : Array Oper} {K : Act → Prop} {a : Act} (h : K a) : wpYields P ops S K [] a := h
theorem yields_cons {ops : Array Oper} {K : Act → Prop} {a : Act} {o : Oper} {rest : List Oper} (v : Value) (h : YieldsIf P ops S o v a) (hr : ∀ b, b = a.put o.dst v → wpYields P ops S K rest b) : wpYields P ops S K (o :: rest) a := ⟨v, h, hr _ rfl⟩
theorem wpListS_wide {K : Act → World → Prop} {ops : Array Oper} {o : Oper} {rest : List Oper} {a : Act} {w : World}
    (h : ∀ K' : Act → World → Prop, (∀ a' w', S w' → wpListS none n P ops Q S K rest a' w' → K' a' w') →
      if Region.wanted o (yielded ops a.tmps) = true then o.wpIn Fence.wide n P a w K' Q else (∀ f, o.about P w a.eval = some f → Fence.wide.fn f) ∧ K' (a.put o.dst undef) w) :
    wpListS none n P ops Q S K (o :: rest) a w := by
  have h := h (fun a' w' => S w' ∧ wpListS none n P ops Q S K rest a' w') (fun _ _ h1 h2 => ⟨h1, h2⟩)
  unfold wpListS
  split
  · rename_i hw; rw [if_pos hw] at h; exact h
  · rename_i hw; rw [if_neg hw] at h; exact h
theorem listS_nil {K : Act → World → Prop} {ops : Array Oper} {a : Act} {w : World} (h : K a w) : wpListS none n P ops Q S K [] a w := h
theorem stepIn_append {F : Fence} {ops : Array Oper} {o : Oper} {a : Act} {K : Act → World → Prop} {E : Prop} (hg : o.guard = none) (s x : Operand) (t : TypeId) (hop : o.op = Op.call { callee := Callee.builtin Builtin.append, args := #[s, x], argTypes := #[t, t] })
    (base : Nat) (e : TypeId) (i : TypeInfo) (z : Value) (size bytes : Nat) (h1 : P.underlying t = some (.slice e)) (h2 : P.info? e = some i) (h3 : i.zero = some z) (h4 : i.size = size) (h5 : i.bytes = bytes) (h6 : z.cells.size = size) (h7 : 0 < size)
    (v : Value) (k : Nat) (xs : List Value) (hs : a.eval s = v) (hown : w.ownsRow base e size v k xs) (ad : Addr) (m c : Nat) (news : List Value) (hx : a.eval x = .slice (some ad) m c) (hn : news.length = m * size)
    (hc : ∀ j u, news[j]? = some u → w.cell? (ad.add j) = some u) (h1c : ∀ u ∈ news, u.oneCell' = true) (b1 : k + m ≤ maxLen) (b2 : (k + m) * bytes ≤ 140737488355328) (b3 : base ≤ w.heap.size)
    (hK : ∀ v' w', w'.ownsRow base e size v' (k + m) (xs ++ news) → w.grownBy w' v.ownBlock → K (a.put o.dst v') w') :
    if Region.wanted o (yielded ops a.tmps) = true then o.wpIn F n P a w K Q else E := by
  have hw : Region.wanted o (yielded ops a.tmps) = true := by simp [Region.wanted, hg]
  rw [if_pos hw]
  obtain ⟨v', w', hrun, r1, r2, r3⟩ := run_append_own (P := P) w base t o.type e i z size bytes h1 h2 h3 h4 h5 h6 h7 v k xs hown ad m c news hn hc h1c b1 b2 b3
  unfold Oper.wpIn
  refine ⟨?_, ?_⟩
  · simp [Oper.about, hop, resolve, Target.leads, Sem.run_pure]
  · rw [Oper.semAt_plain F _ _ (by rw [hop]; intro c hc'; cases hc')]
    simp [execOp, hop, resolve, invoke, builtin, hs, hx, hrun, Result.andThen]
    exact hK v' w' r1 r2
theorem listIn_last {ops : Array Oper} {o : Oper} {a : Act} (hg : o.guard = none)
    (h : ∀ K : Act → World → Prop, (∀ a' w', Q .normal a' w' → K a' w') → o.wpIn Fence.wide n P a w K (NoPanic Q)) : wpListIn (wideAt none) n P ops (NoPanic Q) [o] a w :=
  wpListIn_plain hg fun K hK => h K fun a' w' hq => hK a' w' (NoPanic.normal hq)
end
end Go.Proofs.YticiddcgafhkhaaGreatDoor
