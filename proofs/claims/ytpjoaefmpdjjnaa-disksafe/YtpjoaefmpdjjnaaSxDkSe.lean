/- Single operations, of a frame that is a letter: for a region that draws, in a large frame. -/
import Derived.Test.YtpjoaefmpdjjnaaSxDkZA
import Derived.BigRegion
import Derived.Deep.RegionHeld3
namespace Go.Proofs.Ytpjoaefmpdjjnaa
open Go.RowKit Go.Lib Go.Maps

variable {ρ : Operand → Value} {o : Oper} {w : World}
theorem run_slice3 (x hi mx : Operand) (t : TypeId) (ho : o.op = .slice t x none (some hi) (some mx)) (ht : t = 33) {a : Option Addr} {n c : Nat} (h1 : ρ x = .slice a n c) (h2 : ρ hi = .int .i64 (n : Int)) (h3 : ρ mx = .int .i64 (n : Int)) (hc : n ≤ c) (hz : a = none → n = 0 ∧ c = 0) :
    (execOp ρ o).run Try.prog w = .ok (.value (.slice a n n)) w := by
  subst ht
  unfold execOp
  have c1 : (n : Int) ≤ (c : Int) := by omega
  have c2 : (0 : Int) ≤ (n : Int) := by omega
  cases a with
  | none =>
    obtain ⟨rfl, rfl⟩ := hz rfl
    simp only [ho, h1]
    go_simp
  | some ad =>
    simp only [ho, h1]
    go_simp
theorem run_len (x : Operand) (ho : o.op = .call { callee := .builtin .len, args := #[x], argTypes := #[33] }) {a : Option Addr} {n c : Nat} (h1 : ρ x = .slice a n c) : (execOp ρ o).run Try.prog w = .ok (.value (.int .i64 (n : Int))) w := by
  unfold execOp
  simp only [ho]
  go_simp
theorem run_at (x y : Operand) (ho : o.op = .indexAddr 41 x y) {g f n c i : Nat} (h1 : ρ x = .slice (some ⟨g, f, none⟩) n c) (h2 : ρ y = .int .i64 (i : Int)) (hi : i < n) : (execOp ρ o).run Try.prog w = .ok (.value (.pointer (some ⟨g, f + i, none⟩))) w := by
  unfold execOp
  have c1 : (i : Int) < (n : Int) := by omega
  have c2 : (0 : Int) ≤ (i : Int) := by omega
  simp only [ho, h1, h2]
  go_simp
theorem run_load (x : Operand) (ho : o.op = .load 33 x) {p : Addr} {u : Value} (h1 : ρ x = .pointer (some p)) (hu : w.cell? p = some u) (h : ∃ a n c, u = .slice a n c) : (execOp ρ o).run Try.prog w = .ok (.value u) w := by
  unfold execOp
  obtain ⟨a, n, c, rfl⟩ := h
  simp only [ho, h1]
  go_simp
/-- One operation that is taken first, its value outright. -/
theorem tke {P : Program} {ops : Array Oper} {Q : Exit → Act → World → Prop} {md : Region.Mode} {S : World → Prop} (i : Nat) {oi : Oper} {fuel : Nat} {listed : Array Bool} {a : Act} {w : World} (d : Nat) (v : Value) (hi : ops[i]? = some oi) (hy : ∀ w, S w → (execOp a.eval oi).run P w = .ok (.value v) w)
    (h : wpAnyH P md ops Q S fuel (listed.setIfInBounds i true) (a.put (some d) v) w) (hd : oi.dst = some d := by rfl) (hs : Region.noSelect ops = true := by kernel_rfl) (hf : Region.free md ops listed i = true := by kernel_rfl) (hr : (Region.ready md ops listed).contains i = true := by kernel_rfl) (hQ : ∀ c a w, Q (.panic c) (a.put (some d) v) w → Q (.panic c) a w := by exact fun _ _ _ h => h)
    (hw : Region.wanted oi (yielded ops a.tmps) = true := by rfl) (hS : S w := by assumption) : wpAnyH P md ops Q S (fuel + 1) listed a w := wpAnyH_take hi hs hf hr (by rw [hd]; exact hQ) (Or.inl ⟨hw, hy⟩) hS (by rw [hd]; exact h)
theorem step_append_run' {P : Program} {ops : Array Oper} {o : Oper} {a : Act} {w : World} {K : Act → World → Prop} {Q : Exit → Act → World → Prop} {E : Prop}
    (hg : o.guard = none) (d : Nat) (hd : o.dst = some d) (s x : Operand) (t : TypeId) (ho : o.op = .call { callee := .builtin .append, args := #[s, x], argTypes := #[t, t] }) (v u : Value) (hs : a.eval s = v) (hx : a.eval x = u) {r : Value} {w' : World}
    (hr : (Builtin.append_ #[t, t] o.type #[v, u]).run P w = .ok r w') (h : K (a.put (some d) r) w') : if Region.wanted o (yielded ops a.tmps) = true then Oper.wp P o a w K Q else E :=
  step_append_run hg s x t ho v u hs hx hr (by rw [hd]; exact h)
end Go.Proofs.Ytpjoaefmpdjjnaa
