import Derived.Test.YtdmdjmliggjbjaaGreatCt25
import Derived.Test.YtdmdjmliggjbjaaGreatCt17
import Derived.Test.YtdmdjmliggjbjaaGreatCt18
import Derived.Test.YtdmdjmliggjbjaaGreatCt13
/- Hits in a block of the call's own, by their places. -/
namespace Go.Proofs.YtdmdjmliggjbjaaGreat
open Go.RowKit Go.Sort

/-- Block g holds, at its head, the hits f 0 .. f (n - 1). -/
def HA (W : World) (g n cap : Nat) (f : Nat → Tk.Ht) : Prop :=
  ∃ cur : Array Value, W.heap[g]? = some (.cells cur 43 (0, 0)) ∧ cur.size = cap * 3 ∧ n ≤ cap ∧ cap ≤ maxLen ∧ ∀ i, i < n → cur[i * 3]? = some (.int .i64 (f i).1) ∧ cur[i * 3 + 1]? = some (.int .u64 (f i).2.1) ∧ cur[i * 3 + 2]? = some (.int .u64 (f i).2.2)
theorem HA.lt {W : World} {g n cap : Nat} {f : Nat → Tk.Ht} (h : HA W g n cap f) : g < W.heap.size := by
  obtain ⟨cur, h1, _⟩ := h; exact (Array.getElem?_eq_some_iff.1 h1).1
theorem HA.cell {W : World} {g n cap : Nat} {f : Nat → Tk.Ht} (h : HA W g n cap f) {i : Nat} (hi : i < n) : W.cell? ⟨g, i * 3, none⟩ = some (.int .i64 (f i).1) ∧ W.cell? ⟨g, i * 3 + 1, none⟩ = some (.int .u64 (f i).2.1) ∧ W.cell? ⟨g, i * 3 + 2, none⟩ = some (.int .u64 (f i).2.2) := by
  obtain ⟨cur, h1, _, _, _, h4⟩ := h
  obtain ⟨a, b, c⟩ := h4 i hi
  simp [World.cell?, h1, a, b, c]
theorem HA.frozen {W : World} {g n cap : Nat} {f : Nat → Tk.Ht} (h : HA W g n cap f) (o : Nat) : W.frozen? ⟨g, o, none⟩ = false := by
  obtain ⟨cur, h1, _⟩ := h
  simp [World.frozen?, h1]
theorem HA.block {W W' : World} {g n cap : Nat} {f : Nat → Tk.Ht} (h : HA W g n cap f) (e : W'.heap[g]? = W.heap[g]?) : HA W' g n cap f := by
  obtain ⟨cur, h1, h2⟩ := h
  exact ⟨cur, e.trans h1, h2⟩
theorem HA.congr {W : World} {g n cap : Nat} {f f' : Nat → Tk.Ht} (h : HA W g n cap f) (e : ∀ i, i < n → f i = f' i) : HA W g n cap f' := by
  obtain ⟨cur, h1, h2, h3, h4, h5⟩ := h
  exact ⟨cur, h1, h2, h3, h4, fun i hi => by rw [← e i hi]; exact h5 i hi⟩
theorem HA.set {W : World} {g n cap : Nat} {f : Nat → Tk.Ht} (h : HA W g n cap f) {i : Nat} (hi : i < n) (x : Tk.Ht) :
    HA (((W.setCell ⟨g, i * 3, none⟩ (.int .i64 x.1)).setCell ⟨g, i * 3 + 1, none⟩ (.int .u64 x.2.1)).setCell ⟨g, i * 3 + 2, none⟩ (.int .u64 x.2.2)) g n cap (fun t => if t = i then x else f t) := by
  obtain ⟨cur, h1, h2, h3, h4, h5⟩ := h
  refine ⟨((cur.setIfInBounds (i * 3) (.int .i64 x.1)).setIfInBounds (i * 3 + 1) (.int .u64 x.2.1)).setIfInBounds (i * 3 + 2) (.int .u64 x.2.2), ?_, by simpa using h2, h3, h4, fun t ht => ?_⟩
  · simp [World.setCell, Array.getElem?_modify, h1]
  · by_cases e : t = i
    · subst e
      simp only [if_true]
      refine ⟨?_, ?_, ?_⟩
      · rw [Array.getElem?_setIfInBounds_ne (by omega), Array.getElem?_setIfInBounds_ne (by omega), Array.getElem?_setIfInBounds_self_of_lt (by omega)]
      · rw [Array.getElem?_setIfInBounds_ne (by omega), Array.getElem?_setIfInBounds_self_of_lt (by simp; omega)]
      · rw [Array.getElem?_setIfInBounds_self_of_lt (by simp; omega)]
    · simp only [if_neg e]
      obtain ⟨a, b, c⟩ := h5 t ht
      refine ⟨?_, ?_, ?_⟩
      · rw [Array.getElem?_setIfInBounds_ne (by omega), Array.getElem?_setIfInBounds_ne (by omega), Array.getElem?_setIfInBounds_ne (by omega)]; exact a
      · rw [Array.getElem?_setIfInBounds_ne (by omega), Array.getElem?_setIfInBounds_ne (by omega), Array.getElem?_setIfInBounds_ne (by omega)]; exact b
      · rw [Array.getElem?_setIfInBounds_ne (by omega), Array.getElem?_setIfInBounds_ne (by omega), Array.getElem?_setIfInBounds_ne (by omega)]; exact c
theorem ha_of_own {W : World} {g n cap : Nat} {d : Array Tk.Ht} (h : Tk.Own W (.slice (some ⟨g, 0, none⟩) n cap) d) : n = d.size ∧ HA W g d.size cap (fun i => d.toList[i]!) := by
  rcases h.2 with ⟨e, _⟩ | ⟨g', cap', cur, e, _, h2, h3, h4, h5, h6⟩
  · cases e
  · cases e
    refine ⟨rfl, cur, h2, h5, h3, h4, fun i hi => ?_⟩
    have hl : i < d.toList.length := by simpa using hi
    have key : ∀ c, c < 3 → cur[i * 3 + c]? = (Tk.enc d.toList[i]!)[c]? := fun c hc => by
      have h7 := Tk.fl_get d.toList i c hl hc
      rw [← h6, List.getElem?_take_of_lt (by omega), Array.getElem?_toList] at h7
      rw [h7, getElem!_pos d.toList i hl]
    have k0 := key 0 (by omega)
    have k1 := key 1 (by omega)
    have k2 := key 2 (by omega)
    rw [Nat.add_zero] at k0
    exact ⟨k0.trans rfl, k1.trans rfl, k2.trans rfl⟩
theorem own_of_ha {W : World} {g cap : Nat} {l : List Tk.Ht} {f : Nat → Tk.Ht} (h : HA W g l.length cap f) (e : ∀ i, i < l.length → f i = l[i]!) : Tk.Own W (.slice (some ⟨g, 0, none⟩) l.length cap) l.toArray := by
  obtain ⟨cur, h1, h2, h3, h4, h5⟩ := h
  refine ⟨by rw [Tk.fl_len]; simp, .inr ⟨g, cap, cur, by simp, Nat.zero_le _, h1, by simpa using h3, h4, h2, ?_⟩⟩
  simp only [List.size_toArray]
  apply List.ext_getElem?
  intro j
  by_cases hj : j < l.length * 3
  · obtain ⟨i, c, hc, rfl⟩ : ∃ i c, c < 3 ∧ j = i * 3 + c := ⟨j / 3, j % 3, by omega, by omega⟩
    have hi : i < l.length := by omega
    rw [List.getElem?_take_of_lt hj, Array.getElem?_toList, Tk.fl_get l i c hi hc]
    obtain ⟨a, b, d⟩ := h5 i hi
    rw [e i hi, getElem!_pos l i hi] at a b d
    rcases c with _ | _ | _ | c
    · rw [Nat.add_zero]; exact a
    · exact b
    · exact d
    · omega
  · rw [List.getElem?_eq_none (by rw [List.length_take]; omega), List.getElem?_eq_none (by rw [Tk.fl_len]; simpa using hj)]
end Go.Proofs.YtdmdjmliggjbjaaGreat

/- flat.Search. -/
namespace Go.Proofs.YtdmdjmliggjbjaaGreat
open Go.RowKit Go.Sort

theorem rdw_take {w : World} {a : Option Addr} {n cap c : Nat} {rs : List Rw} (h : RdW w (.slice a n cap) rs) (hc : c ≤ n) : RdW w (.slice a c cap) (rs.take c) := by
  obtain ⟨a', cap', e, h⟩ := h
  injection e with e1 e2 e3
  subst e1; subst e3
  have hl : (rs.take c).length = c := by rw [List.length_take]; omega
  refine ⟨a, cap, by rw [hl], fun i hi => ?_⟩
  rw [hl] at hi
  obtain ⟨b, o, u, r⟩ := h i (by omega)
  refine ⟨b, o, u, ?_⟩
  rw [getElem!_pos (rs.take c) i (by omega), List.getElem_take, ← getElem!_pos rs i (by omega)]
  exact r
theorem rdw_drop {w : World} {a : Option Addr} {n cap c : Nat} {rs : List Rw} (h : RdW w (.slice a n cap) rs) (hn : n ≤ cap) (hc : c ≤ n) : RdW w (.slice (if cap = c then a else Option.map (fun x => x.add (c * 2)) a) (n - c) (cap - c)) (rs.drop c) := by
  obtain ⟨a', cap', e, h⟩ := h
  injection e with e1 e2 e3
  subst e1; subst e3
  refine ⟨_, _, by rw [List.length_drop, e2], fun i hi => ?_⟩
  rw [List.length_drop] at hi
  obtain ⟨b, o, u, e4, e5, e6, e7⟩ := h (c + i) (by omega)
  subst e4
  rw [if_neg (by omega)]
  refine ⟨b, o + c * 2, u, by simp [Addr.add], ?_⟩
  rw [getElem!_pos (rs.drop c) i (by rw [List.length_drop]; omega), List.getElem_drop, ← getElem!_pos rs (c + i) (by omega)]
  rw [show o + c * 2 + i * 2 = o + (c + i) * 2 by omega]
  exact ⟨e5, e6, e7⟩
theorem grown_setCell (w : World) (p : Addr) (u : Value) : w.grownBy (w.setCell p u) (some p.block) :=
  ⟨rfl, rfl, rfl, by simp [World.setCell], fun k _ hn => Below.heap_setCell _ _ _ _ (by rintro rfl; exact hn rfl)⟩

def searchE (rs : List Rw) (q : List Int) (k b : Int) : Int := if topE rs q k = 0 then (if 0 ≤ b ∧ b ≤ 1000000 then 0 else 1) else topE rs q k
theorem searchE_zero {rs : List Rw} {q : List Int} {k b : Int} : searchE rs q k b = 0 ↔ topE rs q k = 0 ∧ 0 ≤ b ∧ b ≤ 1000000 := by
  unfold searchE
  split
  · rename_i h
    split
    · rename_i h1; simp [h, h1]
    · rename_i h1; simp [h]; omega
  · rename_i h; exact ⟨fun e => absurd e h, fun e => absurd e.1 h⟩

/-- Rows that were not looked at, in memory from B on. -/
def RestAt (w : World) (B : Nat) (v : Value) (rs : List Rw) : Prop := (rs = [] ∧ v = .slice none 0 0) ∨ rs ≠ [] ∧ ∃ vi g, v = .slice (some ⟨g, 0, none⟩) 1 1 ∧ B ≤ g ∧
  w.heap[g]? = some (.cells #[.int .i64 1, .slice none 0 0, .slice none 0 0, .int .u64 0, .int .u64 0, vi] 48 (0, 0)) ∧ Own w B vi (srt (idsOf rs))
theorem RestAt.grown {w w' : World} {B : Nat} {v : Value} {rs : List Rw} {b : Nat} (h : RestAt w B v rs) (g : w.grownBy w' (some b)) (hb : b < B) : RestAt w' B v rs := by
  rcases h with h | ⟨h0, vi, x, h1, h2, h3, h4⟩
  · exact .inl h
  · refine .inr ⟨h0, vi, x, h1, h2, (g.block x (Array.getElem?_eq_some_iff.1 h3).1 (by simp; omega)).trans h3, h4.kept g (.inr fun e => ?_)⟩
    have := (World.ownsRow.lt h4 b e).1
    omega
/-- An answer: hits, ids that were seen, the rest; each in memory of its own. -/
def AnsB (w w' : World) (B1 B2 : Nat) (vh vs vr : Value) (rs : List Rw) (q : List Int) (k c : Nat) : Prop := w.heap.size ≤ B1 ∧ B1 ≤ B2 ∧ B2 ≤ w'.heap.size ∧ Gb w w' ∧ Tk.Own w' vh (Tk.firsts k (hitsOf q (rs.take c))).toArray ∧
  (∀ g, vh.ownBlock = some g → w.heap.size ≤ g ∧ g < B1) ∧ Own w' B1 vs (srt (idsOf (rs.take c))) ∧ (∀ g, vs.ownBlock = some g → g < B2) ∧ RestAt w' B2 vr (rs.drop c)
def AnsAt (w w' : World) (vh vs vr : Value) (rs : List Rw) (q : List Int) (k c : Nat) : Prop := ∃ B1 B2, AnsB w w' B1 B2 vh vs vr rs q k c
theorem AnsB.set {w w' : World} {B1 B2 : Nat} {vh vs vr : Value} {rs : List Rw} {q : List Int} {k c : Nat} (h : AnsB w w' B1 B2 vh vs vr rs q k c) (hne : vh.ownBlock ≠ some w.heap.size) (h1 : vs.ownBlock ≠ some w.heap.size) (h2 : w.heap.size < B2) (o : Nat) (u : Value) :
    AnsB w (w'.setCell ⟨w.heap.size, o, none⟩ u) B1 B2 vh vs vr rs q k c := by
  obtain ⟨b1, b2, b3, g, t, b4, b5, b6, b7⟩ := h
  have gs := grown_setCell w' ⟨w.heap.size, o, none⟩ u
  refine ⟨b1, b2, by have := gs.size; omega, gb_set g (Nat.le_refl _) u, ?_, b4, b5.kept gs (.inr h1), b6, b7.grown gs h2⟩
  exact Tk.own_kp t (Tk.Kp.grown gs) fun x hx e => hne (by rw [hx, e])

end Go.Proofs.YtdmdjmliggjbjaaGreat

/- The law's big, and Before; the laws' statements in plain words. -/
namespace Go.Proofs.YtdmdjmliggjbjaaGreat
open Go.RowKit Go.Sort

/-- The document's order of two hits with distances that are numbers. -/
theorem wdv_ne (a b c d : Int) (W : World) : (binOp .neq 41 (.agg #[.int .u64 a, .int .u64 b]) (.agg #[.int .u64 c, .int .u64 d])).run Tryz.prog W = .ok (.bool (!(a == c && b == d))) W := by
  have u37 := Tryz.underlying39
  have a37 := Tryz.isAgg39
  have z37 := Tryz.sizeOf39
  have hS2 : Tryz.prog.underlying 41 = some (.struct (Tryz.prog.fieldsOf 41)) := by kernel_rfl
  have hp2 : Tryz.prog.stoodInHeld 41 = false := by kernel_rfl
  have h24 : (Op.equalIn 10000 41 (.agg #[.int .u64 a, .int .u64 b]) (.agg #[.int .u64 c, .int .u64 d])).run Tryz.prog W = .ok (a == c && b == d) W := by
    rw [show (10000 : Nat) = 9999 + 1 from rfl, run_equalIn_agg W 9999 41 _ _ hS2 hp2]
    simp only [Program.fieldsOf, Tryz.underlying41]
    go_simp
    by_cases h1 : a = c <;> by_cases h2 : b = d <;> simp [h1, h2]
  rw [run_neq_struct, h24]; rfl
set_option maxHeartbeats 1000000 in
theorem before_c (i j : Int) (m n : Nat) (hm : m < 340282366920938463463374607431768211456) (hn : n < 340282366920938463463374607431768211456) (w : World) :
    Calls Tryz.prog 72 #[Tk.hv (i, hi m, lo m), Tk.hv (j, hi n, lo n)] w fun e w' => e = .returned (.bool (Tk.hlt (i, hi m, lo m) (j, hi n, lo n))) ∧ Gr w w' := by
  have G0 : Gr w ((w.alloc (.cells #[.int .i64 i, .int .u64 (hi m), .int .u64 (lo m)] 43)).alloc (.cells #[.int .i64 j, .int .u64 (hi n), .int .u64 (lo n)] 43)) := ((Gr.refl _).alloc _ _).alloc _ _
  by_cases h : m = n
  · subst h
    have he := fun W => wdv_ne (hi m) (lo m) (hi m) (lo m) W
    have hr : Tk.hlt (i, hi m, lo m) (j, hi m, lo m) = decide (i < j) := by
      rw [Bool.eq_iff_iff, hlt_hit, decide_eq_true_eq]; omega
    rw [hr]
    simp only [beq_self_eq_true, Bool.and_self, Bool.not_true] at he
    go_enter Tryz.func72, Tryz.ntmps72
    go_wp2
    go_ret
    exact ⟨rfl, G0⟩
  · have he := fun W => wdv_ne (hi m) (lo m) (hi n) (lo n) W
    have hf : (!(hi m == hi n && lo m == lo n)) = true := by
      rw [Bool.not_eq_true', Bool.and_eq_false_iff]
      by_cases h1 : hi m = hi n
      · right; rw [beq_eq_false_iff_ne]; intro h2; exact h (wd_one h1 h2)
      · left; rw [beq_eq_false_iff_ne]; exact h1
    rw [hf] at he
    have hr : Tk.hlt (i, hi m, lo m) (j, hi n, lo n) = decide (m < n) := by
      rw [Bool.eq_iff_iff, hlt_hit, decide_eq_true_eq]; omega
    rw [hr]
    have cl := fun W => less_any m n hm hn W
    go_enter Tryz.func72, Tryz.ntmps72
    go_wp2_with fail
    refine (cl _).mono ?_
    rintro e w' ⟨rfl, g⟩
    go_wp2
    go_ret
    exact ⟨rfl, G0.trans g⟩

theorem dst_comm5 {a b : List Int} (h : a.length = b.length) : dst a b = dst b a := by
  unfold dst
  rw [← h]
  have hg : ∀ x y : Int, gap x x y = gap y y x := fun x y => by unfold gap; (repeat' split) <;> omega
  have : ∀ n, sumN (fun i => gap a[i]! a[i]! b[i]! * gap a[i]! a[i]! b[i]!) n = sumN (fun i => gap b[i]! b[i]! a[i]! * gap b[i]! b[i]! a[i]!) n := fun n => by
    congr 1; funext i; rw [hg]
  exact this _
end Go.Proofs.YtdmdjmliggjbjaaGreat

/- The law's examples. -/
namespace Go.Proofs.YtdmdjmliggjbjaaGreat
open Go.RowKit Go.Shelf Go.Sort Go.Lib
attribute [local go_sem] Oper.semAt_some

/-- The chapter's rows. -/
def R4 : List Rw := [(1, [0, 0]), (2, [3, 4]), (3, [0, 1]), (4, [3, 4])]
theorem rdi2 {W : World} {b : Nat} {x y : Int} (h : W.heap[b]? = some (.cells #[.int .i64 x, .int .i64 y] 3 (0, 0))) : RdI W (.slice (some ⟨b, 0, none⟩) 2 2) [x, y] := by
  refine ⟨_, _, rfl, fun i hi => ⟨b, 0, rfl, ?_⟩⟩
  rcases i with _ | _ | i
  · simp [World.cell?, h]
  · simp [World.cell?, h]
  · simp only [List.length_cons, List.length_nil] at hi; omega
theorem hits4 : hitsOf [0, 0] R4 = [(1, 0, 0), (2, 0, 25), (3, 0, 1), (4, 0, 25)] := by decide
theorem srt4 : Tk.srt (hitsOf [0, 0] R4) = [(1, 0, 0), (3, 0, 1), (2, 0, 25), (4, 0, 25)] := by
  rw [hits4]
  exact Tk.srt_of_perm (by unfold Tk.Srtd; decide) (by decide)
theorem near4 : Tk.srt (nearL 0 1 [0, 0] R4) = [(1, 0, 0), (3, 0, 1)] := by
  have e : nearL 0 1 [0, 0] R4 = [(1, 0, 0), (3, 0, 1)] := by decide
  rw [e]
  exact Tk.srt_of_srtd (by unfold Tk.Srtd; decide)
theorem topE4 (k : Int) (h1 : 1 ≤ k) (h2 : k ≤ 64) : topE R4 [0, 0] k = 0 := by
  rw [topE_zero]; exact ⟨by decide, h1, h2⟩
theorem ask4 : askE R4 [0, 0] = 0 := by decide
theorem wf4 : Wf R4 := ⟨by decide, by decide⟩
theorem top4 : topE R4 [0, 0] 0 = 1 := by decide

theorem rd_take {w : World} {b n cap c : Nat} {l : List Tk.Ht} (h : Tk.Lies w b 0 l) (hn : l.length = n) (hc : c ≤ n) : Tk.Rd w (.slice (some ⟨b, 0, none⟩) c cap) (l.take c) := by
  have hl : (l.take c).length = c := by rw [List.length_take]; omega
  refine .inr (.inr ⟨b, 0, cap, by rw [hl], fun i hi => ?_⟩)
  rw [hl] at hi
  rw [getElem!_pos (l.take c) i (by omega), List.getElem_take, ← getElem!_pos l i (by omega)]
  exact h i (by omega)
theorem own_sl {w : World} {v : Value} {l : List Tk.Ht} (h : Tk.Own w v l.toArray) (h0 : 0 < l.length) : ∃ g cap, v = .slice (some ⟨g, 0, none⟩) l.length cap ∧ l.length ≤ cap ∧ Tk.Lies w g 0 l := by
  obtain ⟨g, cap, cur, e, hh, hc, _⟩ := Tk.own_form h (by simpa using h0)
  subst e
  exact ⟨g, cap, by simp, by simpa using hc, by simpa using Tk.own_lies h⟩
theorem lies3 {W : World} {b : Nat} {a1 a2 a3 c1 c2 c3 d1 d2 d3 : Int} (h : W.heap[b]? = some (.cells #[.int .i64 a1, .int .u64 a2, .int .u64 a3, .int .i64 c1, .int .u64 c2, .int .u64 c3, .int .i64 d1, .int .u64 d2, .int .u64 d3] 43 (0, 0))) : Tk.Rd W (.slice (some ⟨b, 0, none⟩) 3 3) [(a1, a2, a3), (c1, c2, c3), (d1, d2, d3)] := by
  refine .inr (.inr ⟨b, 0, 3, rfl, fun i hi => ?_⟩)
  simp only [List.length_cons, List.length_nil] at hi
  rcases i with _ | _ | _ | i
  · refine ⟨?_, ?_, ?_⟩ <;> simp [World.cell?, h]
  · refine ⟨?_, ?_, ?_⟩ <;> simp [World.cell?, h]
  · refine ⟨?_, ?_, ?_⟩ <;> simp [World.cell?, h]
  · omega
theorem first3 : Tk.firsts 3 (hitsOf [0, 0] R4) = [(1, 0, 0), (3, 0, 1), (2, 0, 25)] := by unfold Tk.firsts; rw [srt4]; rfl
theorem first1 : Tk.firsts 1 (hitsOf [0, 0] R4) = [(1, 0, 0)] := by unfold Tk.firsts; rw [srt4]; rfl

end Go.Proofs.YtdmdjmliggjbjaaGreat
