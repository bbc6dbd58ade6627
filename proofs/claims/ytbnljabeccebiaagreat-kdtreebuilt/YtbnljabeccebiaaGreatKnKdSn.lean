/- A search that is refused; a tree that is not built. -/
import Derived.Test.YtbnljabeccebiaaGreatKn43
namespace Go.Proofs.YtbnljabeccebiaaGreat
open Go.RowKit Go.Sort

/-- What Search answers. -/
def srchE (m : Nat) (q : List Int) (k b : Int) : Int := if chk q (m : Int) = 0 then (if (1 ≤ k ∧ k ≤ 64) ∧ 0 ≤ b ∧ b ≤ 1000000 then 0 else 1) else chk q (m : Int)
theorem srchE_zero {m : Nat} {q : List Int} {k b : Int} : srchE m q k b = 0 ↔ chk q (m : Int) = 0 ∧ (1 ≤ k ∧ k ≤ 64) ∧ 0 ≤ b ∧ b ≤ 1000000 := by
  unfold srchE
  by_cases h : chk q (m : Int) = 0
  · rw [if_pos h]
    split
    · rename_i h1; exact ⟨fun _ => ⟨h, h1⟩, fun _ => rfl⟩
    · rename_i h1; exact ⟨fun e => absurd e (by decide), fun e => absurd e.2 h1⟩
  · rw [if_neg h]
    exact ⟨fun e => absurd e h, fun e => absurd e.1 h⟩
theorem knew_bad (k : Int) (hk : k < 1 ∨ 64 < k) (w : World) : Calls Tryz.prog 40 #[.int .i64 k] w fun e w' => e = .returned (.tuple #[.pointer none, .int .i64 1]) ∧ w' = w := by
  rcases hk with h | h
  · exact Tk.new_lo k h w
  · exact Tk.new_hi k h w
set_option maxHeartbeats 1000000 in
theorem ksearch_no {w : World} {tb m leaf : Nat} {rs : List Rw} {F : List Nat} (h : TreeAt w tb m leaf rs F) {u : Value} {q : List Int} (hu : RdI w u q) (k b : Int) (hz : srchE m q k b ≠ 0) :
    Calls Tryz.prog 19 #[.pointer (some ⟨tb, 0, none⟩), u, .int .i64 k, .int .i64 b] w fun e w' => e = .returned (.tuple #[.agg #[.slice none 0 0, .slice none 0 0, .slice none 0 0], .int .i64 (srchE m q k b)]) ∧ Gb w w' := by
  obtain ⟨_, _, _, c0, _⟩ := h.cells
  have g1 : Gb w (w.alloc (.cells #[.slice none 0 0, .slice none 0 0, .slice none 0 0] 51)) := gb_alloc (Below.refl _ _) _
  have G : Hid (Gb w (w.alloc (.cells #[.slice none 0 0, .slice none 0 0, .slice none 0 0] 51))) := g1
  have e0 := gb_keeps g1 c0
  obtain ⟨x, hx⟩ : ∃ x, x = chk q (m : Int) := ⟨_, rfl⟩
  have cK := check_v (hu.gb g1) (m : Int) x hx.symm
  have hE : srchE m q k b = if x = 0 then (if (1 ≤ k ∧ k ≤ 64) ∧ 0 ≤ b ∧ b ≤ 1000000 then 0 else 1) else x := by rw [hx]; rfl
  rw [hE] at hz ⊢
  obtain ⟨ua, uc, eu, _⟩ := hu.rd0
  subst eu
  generalize q.length = nq at *
  clear hE hx hu h c0 g1
  by_cases h1 : x = 0
  · subst h1
    rw [if_pos rfl] at hz ⊢
    by_cases h2 : 1 ≤ k ∧ k ≤ 64
    · by_cases h3 : 0 ≤ b ∧ b ≤ 1000000
      · rw [if_pos ⟨h2, h3⟩] at hz; exact absurd rfl hz
      · rw [if_neg (fun h => h3 h.2)]
        have cN := Tk.new_ok k h2.1 h2.2 (w.alloc (.cells #[.slice none 0 0, .slice none 0 0, .slice none 0 0] 51))
        clear hz h2
        by_cases h4 : b < 0
        · go_enter Tryz.func19, Tryz.ntmps19
          go_wp2_with fail
          go_fit cK
          rintro e w1 ⟨rfl, rfl⟩
          clear cK
          go_wp2_with fail
          go_fit cN
          rintro e w2 ⟨rfl, rfl⟩
          clear cN h3
          go_wp2
          refine bodyPost_ret (v := .tuple #[.agg #[.slice none 0 0, .slice none 0 0, .slice none 0 0], .int .i64 1]) (by simp [results, Tryz.results19, go_sem]) rfl ⟨rfl, ?_⟩
          go_grown
        · have h5 : (1000000 : Int) < b := by omega
          clear h3
          go_enter Tryz.func19, Tryz.ntmps19
          go_wp2_with fail
          go_fit cK
          rintro e w1 ⟨rfl, rfl⟩
          clear cK
          go_wp2_with fail
          go_fit cN
          rintro e w2 ⟨rfl, rfl⟩
          clear cN
          go_wp2
          refine bodyPost_ret (v := .tuple #[.agg #[.slice none 0 0, .slice none 0 0, .slice none 0 0], .int .i64 1]) (by simp [results, Tryz.results19, go_sem]) rfl ⟨rfl, ?_⟩
          go_grown
    · rw [if_neg (fun h => h2 h.1)]
      have cN := knew_bad k (by omega) (w.alloc (.cells #[.slice none 0 0, .slice none 0 0, .slice none 0 0] 51))
      clear hz h2
      go_enter Tryz.func19, Tryz.ntmps19
      go_wp2_with fail
      go_fit cK
      rintro e w1 ⟨rfl, rfl⟩
      clear cK
      go_wp2_with fail
      go_fit cN
      rintro e w2 ⟨rfl, rfl⟩
      clear cN
      go_wp2
      refine bodyPost_ret (v := .tuple #[.agg #[.slice none 0 0, .slice none 0 0, .slice none 0 0], .int .i64 1]) (by simp [results, Tryz.results19, go_sem]) rfl ⟨rfl, ?_⟩
      exact G.out
  · have h2 : (x == 0) = false := by rw [beq_eq_false_iff_ne]; exact h1
    rw [if_neg h1] at hz ⊢
    go_enter Tryz.func19, Tryz.ntmps19
    go_wp2_with fail
    go_fit cK
    rintro e w1 ⟨rfl, rfl⟩
    clear cK
    go_wp2
    refine bodyPost_ret (v := .tuple #[.agg #[.slice none 0 0, .slice none 0 0, .slice none 0 0], .int .i64 x]) (by simp [results, Tryz.results19, go_sem]) rfl ⟨rfl, ?_⟩
    exact G.out

/-- What building answers. -/
def bldE (rs : List Rw) (d leaf : Int) : Int := if flatE rs d = 0 then (if 1 ≤ leaf ∧ leaf ≤ 64 then 0 else 1) else flatE rs d
theorem kbuild_no {w : World} {v : Value} {rs : List Rw} (h : RdW w v rs) (hwf : Wf rs) (d leaf B S : Int) (hz : bldE rs d leaf ≠ 0) :
    Calls Tryz.prog 12 #[v, .int .i64 d, .agg #[.int .i64 leaf, .int .i64 B, .int .u64 S]] w fun e w' => e = .returned (.tuple #[.pointer none, .int .i64 (bldE rs d leaf)]) ∧ Gb w w' := by
  have g1 : Gb w (w.alloc (.cells #[.int .i64 leaf, .int .i64 B, .int .u64 S] 25)) := gb_alloc (Below.refl _ _) _
  have cB : Calls Tryz.prog 32 #[v, .int .i64 d, .int .i64 leaf] (w.alloc (.cells #[.int .i64 leaf, .int .i64 B, .int .u64 S] 25)) fun e w' => e = .returned (.tuple #[.pointer none, .int .i64 (bldE rs d leaf)]) ∧ Gb w w' := by
    by_cases h1 : flatE rs d = 0
    · by_cases h2 : 1 ≤ leaf ∧ leaf ≤ 64
      · unfold bldE at hz; rw [if_pos h1, if_pos h2] at hz; exact absurd rfl hz
      · have e : bldE rs d leaf = 1 := by unfold bldE; rw [if_pos h1, if_neg h2]
        rw [e]
        exact (build_leaf (h.gb g1) hwf d leaf h1 (by omega)).mono fun e w' ⟨h3, h4⟩ => ⟨h3, gb_trans g1 h4⟩
    · have e : bldE rs d leaf = flatE rs d := by unfold bldE; rw [if_neg h1]
      rw [e]
      exact (build_no (h.gb g1) hwf d leaf h1).mono fun e w' ⟨h3, h4⟩ => ⟨h3, gb_trans g1 h4⟩
  obtain ⟨a, c, e, _⟩ := h
  subst e
  generalize rs.length = n at *
  generalize bldE rs d leaf = z at *
  clear g1 hwf
  go_enter Tryz.func12, Tryz.ntmps12
  go_wp2_with fail
  go_fit cB
  rintro e w1 ⟨rfl, hG⟩
  have HG : Hid _ := hG
  clear cB hG
  go_wp2
  refine bodyPost_ret (v := .tuple #[.pointer none, .int .i64 z]) (by simp [results, Tryz.results12, go_sem]) rfl ⟨rfl, ?_⟩
  exact HG.out
end Go.Proofs.YtbnljabeccebiaaGreat
