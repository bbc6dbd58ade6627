/- pq.distances, (*pq.Coder).Table. -/
import Derived.Test.YtblfmhdcgmkpgaaPDec
namespace Go.Proofs.Ytblfmhdcgmkpgaa
open Go.RowKit Go.Maps Go.Sort

/-- Numbers, each as two cells. -/
def encN (ns : List Nat) : List Value := ns.flatMap fun n => [.int .u64 (hi n), .int .u64 (lo n)]
theorem encN_len (ns : List Nat) : (encN ns).length = ns.length * 2 := by
  induction ns with
  | nil => rfl
  | cons a r ih => unfold encN at ih ⊢; rw [List.flatMap_cons, List.length_append, ih]; simp only [List.length_cons, List.length_nil]; omega
theorem encN_push (ns : List Nat) (n : Nat) : encN (ns ++ [n]) = encN ns ++ [.int .u64 (hi n), .int .u64 (lo n)] := by
  unfold encN; rw [List.flatMap_append]; rfl
theorem encN_get : ∀ (ns : List Nat) (i : Nat), i < ns.length → (encN ns)[i * 2]? = some (.int .u64 (hi ns[i]!)) ∧ (encN ns)[i * 2 + 1]? = some (.int .u64 (lo ns[i]!))
  | [], i, hi => absurd hi (Nat.not_lt_zero _)
  | a :: r, 0, _ => ⟨rfl, rfl⟩
  | a :: r, i + 1, hi => by
    have h := encN_get r i (by simpa using hi)
    have e : encN (a :: r) = [.int .u64 (Go.Proofs.Ytblfmhdcgmkpgaa.hi a), .int .u64 (lo a)] ++ encN r := rfl
    rw [e, List.getElem?_append_right (by simp; omega), List.getElem?_append_right (by simp; omega)]
    have e1 : (i + 1) * 2 - [Value.int .u64 (Go.Proofs.Ytblfmhdcgmkpgaa.hi a), Value.int .u64 (lo a)].length = i * 2 := by simp; omega
    have e2 : (i + 1) * 2 + 1 - [Value.int .u64 (Go.Proofs.Ytblfmhdcgmkpgaa.hi a), Value.int .u64 (lo a)].length = i * 2 + 1 := by simp; omega
    rw [e1, e2]
    exact h
/-- The call owns a slice of numbers; one that reads so; a table that reads so. -/
def OwnN (W : World) (B : Nat) (v : Value) (ns : List Nat) : Prop := W.ownsRow B 51 2 v ns.length (encN ns)
def RdN (w : World) (v : Value) (ns : List Nat) : Prop := ∃ a cap, v = .slice a ns.length cap ∧ ∀ i, i < ns.length → ∃ b o, a = some ⟨b, o, none⟩ ∧ w.cell? ⟨b, o + i * 2, none⟩ = some (.int .u64 (hi ns[i]!)) ∧ w.cell? ⟨b, o + i * 2 + 1, none⟩ = some (.int .u64 (lo ns[i]!))
theorem RdN.gb {w w' : World} {v : Value} {ns : List Nat} (h : RdN w v ns) (g : Gb w w') : RdN w' v ns := by
  obtain ⟨a, cap, e, h⟩ := h
  refine ⟨a, cap, e, fun i hi => ?_⟩
  obtain ⟨b, o, e1, e2, e3⟩ := h i hi
  exact ⟨b, o, e1, gb_keeps g e2, gb_keeps g e3⟩
theorem OwnN.gb {W W' : World} {B : Nat} {v : Value} {ns : List Nat} (h : OwnN W B v ns) (g : Gb W W') : OwnN W' B v ns :=
  World.ownsRow.kept h (row := none) ⟨g.os, g.tape, g.output, g.size, fun k hk _ => g.block k hk⟩ (by cases hv : v.ownBlock <;> simp)
theorem OwnN.rd {W : World} {B : Nat} {v : Value} {ns : List Nat} (h : OwnN W B v ns) : RdN W v ns := by
  have h0 := h
  rcases h.2 with ⟨rfl, e0⟩ | ⟨b, cap, cur, rfl, hb, _⟩
  · exact ⟨none, 0, by rw [e0], fun i hi => by omega⟩
  · refine ⟨_, cap, rfl, fun i hi => ⟨b, 0, rfl, ?_, ?_⟩⟩
    · have c1 := World.ownsRow.cells h0 (g := b) rfl (i * 2) _ (encN_get ns i hi).1
      rw [Addr.add_lit] at c1
      exact c1
    · have c1 := World.ownsRow.cells h0 (g := b) rfl (i * 2 + 1) _ (encN_get ns i hi).2
      rw [Addr.add_lit] at c1
      exact c1
def RdT (w : World) (v : Value) (t : List (List Nat)) : Prop := ∃ a cap, v = .slice a t.length cap ∧ ∀ i, i < t.length → ∃ b o u, a = some ⟨b, o, none⟩ ∧ w.cell? ⟨b, o + i, none⟩ = some u ∧ RdN w u t[i]!
theorem RdT.gb {w w' : World} {v : Value} {t : List (List Nat)} (h : RdT w v t) (g : Gb w w') : RdT w' v t := by
  obtain ⟨a, cap, e, h⟩ := h
  refine ⟨a, cap, e, fun i hi => ?_⟩
  obtain ⟨b, o, u, e1, e2, e3⟩ := h i hi
  exact ⟨b, o, u, e1, gb_keeps g e2, e3.gb g⟩
theorem RdT.ls {w : World} {v : Value} {t : List (List Nat)} (h : RdT w v t) : LsAt w v (lensV t) := by
  obtain ⟨a, cap, e, h⟩ := h
  refine ⟨a, cap, by rw [lensV_len]; exact e, fun i hi => ?_⟩
  rw [lensV_len] at hi
  obtain ⟨b, o, u, e1, e2, e3⟩ := h i hi
  obtain ⟨pu, cu, rfl, _⟩ := e3
  exact ⟨b, o, pu, cu, e1, by rw [lensV_get t hi]; exact e2⟩
/-- The call owns a table. -/
def OwnT (W : World) (B : Nat) (v : Value) (t : List (List Nat)) : Prop := ∃ xs, W.ownsRow B 71 1 v t.length xs ∧ ∀ i, i < t.length → ∃ u, xs[i]? = some u ∧ OwnN W B u t[i]!
theorem OwnT.rd {W : World} {B : Nat} {v : Value} {t : List (List Nat)} (h : OwnT W B v t) : RdT W v t := by
  obtain ⟨xs, h, h2⟩ := h
  have h0 := h
  rcases h.2 with ⟨rfl, e0⟩ | ⟨b, cap, cur, rfl, hb, _⟩
  · exact ⟨none, 0, by rw [e0], fun i hi => by omega⟩
  · refine ⟨_, cap, rfl, fun i hi => ?_⟩
    obtain ⟨u, e, o⟩ := h2 i hi
    have c1 := World.ownsRow.cells h0 (g := b) rfl i _ e
    rw [Addr.add_lit] at c1
    exact ⟨b, 0, u, rfl, c1, o.rd⟩
theorem info_partsN : ∃ i, Try.prog.info? 51 = some i ∧ i.zero = some (.agg #[.int .u64 0, .int .u64 0]) ∧ i.size = 2 ∧ i.bytes = 16 := by
  have h : (Try.prog.info? 51).map (fun i => (i.zero, i.size, i.bytes)) = some (some (.agg #[.int .u64 0, .int .u64 0]), 2, 16) := by kernel_rfl
  exact info_parts' h
theorem info_partsM : ∃ i, Try.prog.info? 71 = some i ∧ i.zero = some (.slice none 0 0) ∧ i.size = 1 ∧ i.bytes = 24 := by
  have h : (Try.prog.info? 71).map (fun i => (i.zero, i.size, i.bytes)) = some (some (.slice none 0 0), 1, 24) := by kernel_rfl
  exact info_parts' h
theorem two_new (w : World) (x y : Value) (t : TypeId) : ∀ j u, ([x, y] : List Value)[j]? = some u → (w.alloc (.cells #[x, y] t)).cell? ((⟨w.heap.size, 0, none⟩ : Addr).add j) = some u := by
  intro j u hu
  rw [Addr.add_lit]
  rcases j with _ | _ | j
  · simp at hu; subst hu; simp [go_sem]
  · simp at hu; subst hu; simp [go_sem]
  · simp at hu
theorem dist_ok {w : World} {u v : Value} {y c : List Int} {s : Nat} (hu : RdI w u y) (hv : RdI w v c) (hy : chk y (s : Int) = 0) (hc : chk c (s : Int) = 0) :
    Calls Try.prog 54 #[u, v] w fun e w' => e = .returned (.tuple #[Wd (dst y c), .int .i64 0]) ∧ Gr w w' := by
  have h1 := chk_ok hy
  have e : distE y c = 0 := by unfold distE; rw [← h1.2.2.1, if_pos hy]; exact hc
  have e2 : distV y c = dst y c := by unfold distV; rw [if_pos e]
  have h := dist_c hu hv
  rw [e, e2] at h
  exact h

set_option maxHeartbeats 2000000 in
set_option maxRecDepth 100000 in
theorem distances_c {w : World} {pv bv : Value} {y : List Int} {cs : Vs} {s : Nat} (hp : RdI w pv y) (hb : RdV w bv cs) (hy : chk y (s : Int) = 0) (hc : VsOk cs (s : Int)) (h64 : cs.length ≤ 64) :
    Calls Try.prog 39 #[pv, bv] w fun e w' => ∃ u, e = .returned u ∧ OwnN w' w.heap.size u (cs.map fun c => dst y c) ∧ Gb w w' := by
  have HX : Hid (RdI w pv y ∧ RdV w bv cs ∧ chk y (s : Int) = 0 ∧ VsOk cs (s : Int)) := ⟨hp, hb, hy, hc⟩
  obtain ⟨pa, pc, rfl, _⟩ := hp
  obtain ⟨ba, bc, rfl, _⟩ := hb
  obtain ⟨n, hN⟩ : ∃ n, n = cs.length := ⟨_, rfl⟩
  have N : Hid (n = cs.length) := hN
  rw [← hN] at HX h64 ⊢
  generalize y.length = ny at *
  obtain ⟨j0, hj0, hy0, hy1, hy2⟩ := info_partsN
  have JJ : Hid (Try.prog.info? 51 = some j0 ∧ j0.zero = some (.agg #[.int .u64 0, .int .u64 0]) ∧ j0.size = 2 ∧ j0.bytes = 16) := ⟨hj0, hy0, hy1, hy2⟩
  obtain ⟨w1, hmk, ho, hg⟩ := run_make_own (P := Try.prog) w w.heap.size 71 51 j0 (.agg #[.int .u64 0, .int .u64 0]) 2 Try.underlying71 hj0 hy0 hy1 .i64 .i64 n (by rw [hy2]; omega) (by simp only [maxLen]; omega) (Nat.le_refl _)
  have G1 : Gb w w1 := below_grown (Below.refl _ _) hg (fun k e => by cases e) (Nat.le_refl _)
  have O : Hid (Gb w w1 ∧ OwnN w1 w.heap.size (.slice (some ⟨w.heap.size, 0, none⟩) 0 n) ((cs.map fun c => dst y c).take 0)) := ⟨G1, ho⟩
  clear hj0 hy0 hy1 hy2 ho hg G1 hN hy hc
  go_enter Try.func39, Try.ntmps39
  go_wp2
  clear hmk
  go_loopw [5, 15] (fun cv iv W => ∃ q : Nat, iv = .int .i64 (q : Int) ∧ q ≤ n ∧ Hid (Gb w W ∧ OwnN W w.heap.size cv ((cs.map fun c => dst y c).take q))) (fun _ iv _ => n - (intOf iv).toNat)
  case atStart => exact ⟨0, rfl, Nat.zero_le _, O⟩
  case round =>
    clear O
    obtain ⟨q, rfl, hq, X⟩ := hrel
    by_cases hqn : q < n
    · have hqi : (q : Int) < (n : Int) := by omega
      have hql : q < cs.length := by have := N.out; omega
      obtain ⟨b, o, ur, ea, k1, k2⟩ := cen_at HX.out.2.1 hql
      subst ea
      have k1 := gb_keeps X.out.1 k1
      have cd := dist_ok (HX.out.1.gb X.out.1) (k2.gb X.out.1) HX.out.2.2.1 (HX.out.2.2.2 q hql)
      have CT : Hid ((cs.map fun c => dst y c).take (q + 1) = (cs.map fun c => dst y c).take q ++ [dst y cs[q]!] ∧ ((cs.map fun c => dst y c).take q).length = q) := by
        have h : q < (cs.map fun c => dst y c).length := by rw [List.length_map]; exact hql
        refine ⟨?_, by rw [List.length_take, List.length_map]; omega⟩
        rw [List.take_succ_eq_append_getElem h, List.getElem_map, getElem!_pos cs q hql]
      obtain ⟨pu, cu, eu, _⟩ := k2
      subst eu
      generalize cs[q]!.length = nq at *
      generalize dst y cs[q]! = ds at *
      go_wp2_with fail
      go_fit cd
      rintro e w3 ⟨rfl, g3⟩
      have G3 : Hid (Gb w w3) := gb_trans X.out.1 g3.gb
      have hown := X.out.2.gb g3.gb
      unfold OwnN at hown
      rw [CT.out.2] at hown
      have T2 := At2.new w3 ds 51
      obtain ⟨t0, t1, _, _⟩ := T2
      clear cd g3 X k1
      have hG3 := G3.out.size
      go_wp2_with (first
        | (at_builtin; refine wpList_append_own_at _ rfl _ _ 71 rfl w.heap.size 51 j0 (.agg #[.int .u64 0, .int .u64 0]) 2 16 Try.underlying71 JJ.out.1 JJ.out.2.1 JJ.out.2.2.1 JJ.out.2.2.2 rfl (by decide) u5 q _ rfl (World.ownsRow.alloc (World.ownsRow.alloc hown _) _) ⟨w3.heap.size + 1, 0, none⟩ 1 1 [.int .u64 (hi ds), .int .u64 (lo ds)] rfl rfl (by have h := two_new (w3.alloc (.cells #[.int .u64 (hi ds), .int .u64 (lo ds)] 51)) (.int .u64 (hi ds)) (.int .u64 (lo ds)) 51; rw [World.size_alloc] at h; exact h) (by intro y hy; simp only [List.mem_cons, List.not_mem_nil, or_false] at hy; rcases hy with rfl | rfl <;> rfl) (by unfold maxLen; omega) (by omega) (by simp; omega) ?_; intro v5 w5 hown5 hgrow5 hnil5 hloc5)
        | go_in)
      have XN : Hid (Gb w w5 ∧ OwnN w5 w.heap.size v5 ((cs.map fun c => dst y c).take (q + 1))) := by
        refine ⟨below_grown (gb_alloc (gb_alloc G3.out _) _) hgrow5 (fun j e => (hown.lt j e).1) (gb_alloc (gb_alloc G3.out _) _).size, ?_⟩
        rw [CT.out.1]
        unfold OwnN
        rw [encN_push, List.length_append, CT.out.2]
        exact hown5
      clear hown hown5 hgrow5 hnil5 hloc5 t0 t1
      go_roundw
      case rel => exact ⟨q + 1, by first | rfl | go_num | simp, hqn, XN⟩
      case measure => simp [intOf]; omega
    · have hqi : ¬ (q : Int) < (n : Int) := by omega
      have E : Hid (OwnN wr w.heap.size u5 (cs.map fun c => dst y c) ∧ Gb w wr) := by
        have h := X.out
        rw [List.take_of_length_le (by rw [List.length_map]; have := N.out; omega)] at h
        exact ⟨h.2, h.1⟩
      clear X
      go_wp2
      go_ret
      exact ⟨_, rfl, E.out.1, E.out.2⟩
end Go.Proofs.Ytblfmhdcgmkpgaa
