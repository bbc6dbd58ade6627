import Derived.Test.YtbnljabeccebiaaGreatKrKqQ
import Derived.Laws.EntriesVeiled
import Derived.Test.YtbnljabeccebiaaGreatKr8
import Derived.Test.YtbnljabeccebiaaGreatKr11
/- kdtree.partsOf. -/
namespace Go.Proofs.YtbnljabeccebiaaGreat
open Go.RowKit Go.Sort

/-- What partsOf tells: nothing of no rows, else a tree of them, in blocks of its own. -/
def PartOut (Iq : Nat → Prop) (w : World) (m : Nat) (d : List Rt) (e : Ending) (w' : World) : Prop :=
  Gb w w' ∧ (d = [] → e = .returned (.pointer none)) ∧
  (d ≠ [] → ∃ b T F, e = .returned (.pointer (some ⟨b, 0, none⟩)) ∧ (∀ N, d.length ≤ N → TrO Iq w' T (N + 1) b F ∧ OkP T m N (T b) ∧ (rowsP T N (T b)).Perm (d.map rwR)) ∧ F.Nodup ∧ ∀ x ∈ F, w.heap.size ≤ x)
theorem own_cap {w : World} {B g n n' cap : Nat} {xs : List Value} (h : w.ownsRow B 43 2 (.slice (some ⟨g, 0, none⟩) n cap) n' xs) : n' ≤ cap := by
  rcases h.2 with ⟨e, _⟩ | ⟨g', cap', cur, e, _, _, hle, _⟩
  · cases e
  · cases e; exact hle
theorem part_out {Iq : Nat → Prop} {w V w3 w4 : World} {g3 m : Nat} {d : List Rt} {e : Ending} (gV : Gb w V) (hb : V.heap.size ≤ g3) (hl : g3 < w3.heap.size) (k3 : Gb V w3) (h : CutOut Iq w3 g3 0 m d e w4) :
    ∃ pv, e = .returned (.pointer pv) ∧ PartOut Iq w m d e w4 ∧ ∀ (p : Addr) (y : Value), p.block < V.heap.size → w3.cell? p = some y → w4.cell? p = some y := by
  have gw : Gb w w3 := gb_trans gV k3
  by_cases hd : d = []
  · obtain ⟨h1, h2⟩ := h.1 hd
    exact ⟨none, h1, ⟨gb_trans gw h2, fun _ => h1, fun h => absurd hd h⟩, fun p y _ hc => gb_keeps h2 hc⟩
  · obtain ⟨b, T, F, h1, h2, h3, h4, h5⟩ := h.2 hd
    have s := gw.size
    have s2 := gV.size
    refine ⟨some ⟨b, 0, none⟩, h1, ⟨?_, fun e => absurd e hd, fun _ => ⟨b, T, F, h1, h2, h3, fun x hx => by have := h4 x hx; omega⟩⟩, fun p y hp hc => h5.kp.cell hc (by intro e; omega)⟩
    exact gw.trans (h5.kp.gr s (fun k e => by omega))

set_option maxHeartbeats 1000000 in
set_option maxRecDepth 100000 in
theorem partsOf_c {Iq : Nat → Prop} {m leaf : Nat} (hm : 1 ≤ m ∧ m ≤ 64) (hlf : 1 ≤ leaf ∧ leaf ≤ 100000) (d : List Rt) {w : World} {g o cap : Nat} (hR : RwRd w g o d) (hI : CutIn Iq w m d) :
    Calls Tryz.prog 58 #[.slice (some ⟨g, o, none⟩) d.length cap, .int .i64 (leaf : Int)] w fun e w' => PartOut Iq w m d e w' := by
  have h512 := hI.ok.few
  rw [List.length_map] at h512
  have G0 : Hid (Gb w ((w.alloc (.cells #[.int .i64 (leaf : Int)] 3)).alloc (.cells #[.func (.func 93) #[] #[.pointer (some ⟨w.heap.size, 0, none⟩), .pointer (some ⟨w.heap.size + 1, 0, none⟩)]] 146)).drew) := (gb_alloc (gb_alloc (Below.refl _ _) _) _).drew
  have cC := cloneR_c (cap := cap) (hR.gb G0.out) (by omega) (fun x hx => by obtain ⟨a, c, e, _⟩ := (hI.vec x hx).rd; rw [e]; rfl)
  have FS0 : (fun W => W.cell? ⟨w.heap.size + 1, 0, none⟩ = some (.func (.func 93) #[] #[.pointer (some ⟨w.heap.size, 0, none⟩), .pointer (some ⟨w.heap.size + 1, 0, none⟩)]) ∧ W.cell? ⟨w.heap.size, 0, none⟩ = some (.int .i64 (leaf : Int))) ((w.alloc (.cells #[.int .i64 (leaf : Int)] 3)).alloc (.cells #[.func (.func 93) #[] #[.pointer (some ⟨w.heap.size, 0, none⟩), .pointer (some ⟨w.heap.size + 1, 0, none⟩)]] 146)).drew := ⟨by simp [go_sem], by simp [go_sem]⟩
  have hsz : ((w.alloc (.cells #[.int .i64 (leaf : Int)] 3)).alloc (.cells #[.func (.func 93) #[] #[.pointer (some ⟨w.heap.size, 0, none⟩), .pointer (some ⟨w.heap.size + 1, 0, none⟩)]] 146)).drew.heap.size = w.heap.size + 2 := by simp only [World.size_drew, World.size_alloc]
  have CX : Hid (∀ w3 g3 c3, ((w.alloc (.cells #[.int .i64 (leaf : Int)] 3)).alloc (.cells #[.func (.func 93) #[] #[.pointer (some ⟨w.heap.size, 0, none⟩), .pointer (some ⟨w.heap.size + 1, 0, none⟩)]] 146)).drew.heap.size ≤ g3 → Gb ((w.alloc (.cells #[.int .i64 (leaf : Int)] 3)).alloc (.cells #[.func (.func 93) #[] #[.pointer (some ⟨w.heap.size, 0, none⟩), .pointer (some ⟨w.heap.size + 1, 0, none⟩)]] 146)).drew w3 → RwAt w3 g3 0 d → d.length ≤ c3 → w3.cell? ⟨w.heap.size, 0, none⟩ = some (.int .i64 (leaf : Int)) → w3.cell? ⟨w.heap.size + 1, 0, none⟩ = some (.func (.func 93) #[] #[.pointer (some ⟨w.heap.size, 0, none⟩), .pointer (some ⟨w.heap.size + 1, 0, none⟩)]) →
      Calls Tryz.prog 93 #[.slice (some ⟨g3, 0, none⟩) d.length c3, .pointer (some ⟨w.heap.size, 0, none⟩), .pointer (some ⟨w.heap.size + 1, 0, none⟩)] w3 fun e w' => CutOut Iq w3 g3 0 m d e w') := by
    intro w3 g3 c3 hb k3 a3 hc h1 h2
    rw [hsz] at hb
    exact cut_c hm hlf d.length d (Nat.le_refl _) w3 g3 0 c3 a3 ⟨fun x hx => ((hI.vec x hx).gb G0.out).gb k3, hI.ok, (hI.up.gb G0.out).gb k3⟩ hc (by omega) (by omega) h1 h2
  have FV : Hid (∀ w3 w4 g3 e, ((w.alloc (.cells #[.int .i64 (leaf : Int)] 3)).alloc (.cells #[.func (.func 93) #[] #[.pointer (some ⟨w.heap.size, 0, none⟩), .pointer (some ⟨w.heap.size + 1, 0, none⟩)]] 146)).drew.heap.size ≤ g3 → g3 < w3.heap.size → Gb ((w.alloc (.cells #[.int .i64 (leaf : Int)] 3)).alloc (.cells #[.func (.func 93) #[] #[.pointer (some ⟨w.heap.size, 0, none⟩), .pointer (some ⟨w.heap.size + 1, 0, none⟩)]] 146)).drew w3 → CutOut Iq w3 g3 0 m d e w4 →
      ∃ pv, e = .returned (.pointer pv) ∧ PartOut Iq w m d e w4 ∧ ∀ b y, b < w.heap.size + 2 → w3.cell? ⟨b, 0, none⟩ = some y → w4.cell? ⟨b, 0, none⟩ = some y) := by
    intro w3 w4 g3 e hb hl k3 hO
    obtain ⟨pv, h1, h2, h3⟩ := part_out G0.out hb hl k3 hO
    exact ⟨pv, h1, h2, fun b y hb hc => h3 _ _ (by rw [hsz]; exact hb) hc⟩
  obtain ⟨n, hN⟩ : ∃ n, n = d.length := ⟨_, rfl⟩
  simp only [← hN] at cC CX
  rw [← hN]
  clear hR hI hsz hN
  go_enter Tryz.func58, Tryz.ntmps58
  go_wp2_with fail

  refine wp_region_held_drew (S := fun W => W.cell? ⟨w.heap.size + 1, 0, none⟩ = some (.func (.func 93) #[] #[.pointer (some ⟨w.heap.size, 0, none⟩), .pointer (some ⟨w.heap.size + 1, 0, none⟩)]) ∧ W.cell? ⟨w.heap.size, 0, none⟩ = some (.int .i64 (leaf : Int))) (by kernel_rfl) (FS0) (fun hHeld => ?_)
  refine wpAnyH_take (i := 0) (v := ?_) rfl (by kernel_rfl) (by kernel_rfl) (by kernel_rfl) (fun _ _ _ h => h) (Or.inl ⟨by rfl, ?_⟩) (by assumption) ?_
  rotate_left 1
  · (intro w hSw; (obtain ⟨s0, s1⟩ := hSw); go_simp; try with_reducible rfl)
  try simp only [Act.put, List.getElem_toArray, List.getElem_cons_zero, List.setIfInBounds_toArray, List.set_cons_zero, List.set_cons_succ]
  refine wpAnyH_take (i := 1) (v := ?_) rfl (by kernel_rfl) (by kernel_rfl) (by kernel_rfl) (fun _ _ _ h => h) (Or.inl ⟨by rfl, ?_⟩) (by assumption) ?_
  rotate_left 1
  · (intro w hSw; (obtain ⟨s0, s1⟩ := hSw); go_simp; try with_reducible rfl)
  try simp only [Act.put, List.getElem_toArray, List.getElem_cons_zero, List.getElem_cons_succ, List.setIfInBounds_toArray, List.set_cons_zero, List.set_cons_succ]
  refine wpAnyH_ready (rs := [2]) (by kernel_rfl) (by simp) ?_
  refine AllReadyH.cons rfl (fun K hK => ?_) AllReadyH.nil
  go_simp
  go_fit cC
  rintro e w3 ⟨g3, c3, rfl, b3, l3, a3, k3, o3⟩
  refine hK.out _ _ (⟨gb_keeps k3 hHeld.1, gb_keeps k3 hHeld.2⟩) (fun hHeld => ?_)
  clear hK K
  try simp only [Act.put, List.getElem_toArray, List.getElem_cons_zero, List.getElem_cons_succ, List.setIfInBounds_toArray, List.set_cons_zero, List.set_cons_succ]
  have cX := CX.out _ _ _ b3 k3 a3 (own_cap o3) hHeld.2 hHeld.1
  refine wpAnyH_ready (rs := [3]) (by kernel_rfl) (by simp) ?_
  refine AllReadyH.cons rfl (fun K hK => ?_) AllReadyH.nil
  go_simp
  go_fit cX
  rintro e w4 hO
  have hv := FV.out _ _ _ _ b3 l3 k3 hO
  obtain ⟨pv, rfl, hP, kk⟩ := hv
  refine hK.out _ _ (⟨kk _ _ (by omega) hHeld.1, kk _ _ (by omega) hHeld.2⟩) (fun hHeld => ?_)
  clear hK K
  try simp only [Act.put, List.getElem_toArray, List.getElem_cons_zero, List.getElem_cons_succ, List.setIfInBounds_toArray, List.set_cons_zero, List.set_cons_succ]
  refine wpAnyH_take (i := 4) (v := ?_) rfl (by kernel_rfl) (by kernel_rfl) (by kernel_rfl) (fun _ _ _ h => h) (Or.inl ⟨by rfl, ?_⟩) (by assumption) ?_
  rotate_left 1
  · (intro w hSw; (obtain ⟨s0, s1⟩ := hSw); go_simp; try with_reducible rfl)
  try simp only [Act.put, List.getElem_toArray, List.getElem_cons_zero, List.getElem_cons_succ, List.setIfInBounds_toArray, List.set_cons_zero, List.set_cons_succ]
  refine wpAnyH_done (by kernel_rfl) ?_ _
  clear FS0 hHeld cX cC CX FV
  go_wp2
  go_ret
  exact hP
end Go.Proofs.YtbnljabeccebiaaGreat

/- A heap that has just these hits: its calls. -/
namespace Go.Proofs.YtbnljabeccebiaaGreat.Tk
open Go.RowKit Go.Sort

/-- The heap of size k has the hits m, in their order. -/
def Has (w : World) (hb k : Nat) (v : Value) (m : List Ht) : Prop :=
  ∃ d, Hp w hb (k : Int) v d ∧ MaxH d ∧ d.toList.Perm m ∧ Srtd m ∧ m.length ≤ k ∧ 1 ≤ k ∧ k ≤ 64
theorem Has.gr {w w' : World} {hb k : Nat} {v : Value} {m : List Ht} (h : Has w hb k v m) (g : Gr w w') : Has w' hb k v m := by
  obtain ⟨d, h1, r⟩ := h; exact ⟨d, h1.gr g, r⟩
theorem Has.kp {S : Nat → Prop} {w w' : World} {hb k : Nat} {v : Value} {m : List Ht} (h : Has w hb k v m) (K : Kp S w w') (h1 : ¬ S hb) (h2 : ∀ g, v.ownBlock = some g → ¬ S g) : Has w' hb k v m := by
  obtain ⟨d, hd, r⟩ := h; exact ⟨d, hd.kp K h1 h2, r⟩
theorem Has.lt {w : World} {hb k : Nat} {v : Value} {m : List Ht} (h : Has w hb k v m) : hb < w.heap.size := by obtain ⟨d, h1, _⟩ := h; exact h1.lt
theorem Has.own_lt {w : World} {hb k : Nat} {v : Value} {m : List Ht} (h : Has w hb k v m) {g : Nat} (hg : v.ownBlock = some g) : g < w.heap.size := by
  obtain ⟨d, h1, _⟩ := h; exact YtbnljabeccebiaaGreat.Tk.own_lt h1.own hg
theorem new_has (k : Nat) (h1 : 1 ≤ k) (h2 : k ≤ 64) (w : World) : Has (w.alloc (.cells #[.int .i64 (k : Int), .slice none 0 0] 111)) w.heap.size k (.slice none 0 0) [] :=
  ⟨#[], new_hp _ w, fun _ _ h => absurd h (Nat.not_lt_zero _), List.Perm.refl _, List.Pairwise.nil, Nat.zero_le _, h1, h2⟩

theorem root_last {d : Array Ht} {m : List Ht} (hm : MaxH d) (p : d.toList.Perm m) (hs : Srtd m) {k : Nat} (hk : m.length = k) (h0 : 0 < k) : d[0]! = m[k - 1]! := by
  have hd : d.size = k := by have := p.length_eq; simp at this; omega
  have a1 : d[0]! ∈ m := p.subset (by rw [getElem!_pos d 0 (by omega)]; exact Array.mem_toList_iff.2 (Array.getElem_mem _))
  have a2 : m[k - 1]! ∈ d.toList := p.symm.subset (by rw [getElem!_pos m (k - 1) (by omega)]; exact List.getElem_mem _)
  have b1 := last_worst hs k hk _ a1
  obtain ⟨i, hi, e⟩ := List.mem_iff_getElem.1 a2
  have b2 := maxh_root hm i (by simpa using hi)
  rw [getElem!_pos d i (by simpa using hi)] at b2
  simp only [Array.getElem_toList] at e
  rw [e] at b2
  exact hlt_tot b2 b1

/-- What Offer leaves. -/
def Offered (w w' : World) (hb k : Nat) (v : Value) (m : List Ht) (x : Ht) : Prop :=
  ∃ v', Has w' hb k v' (keep k m x) ∧ Kp (fun b => b = hb ∨ some b = v.ownBlock) w w' ∧ (v'.ownBlock = v.ownBlock ∨ ∀ g, v'.ownBlock = some g → w.heap.size ≤ g)

theorem offer_has {w : World} {hb k : Nat} {v : Value} {m : List Ht} (h : Has w hb k v m) (x : Ht) :
    Calls Tryz.prog 79 #[.pointer (some ⟨hb, 0, none⟩), hv x] w fun e w' => e = .returned (.bool (kept k m x)) ∧ Offered w w' hb k v m x := by
  have h' := h
  obtain ⟨d, hp, hm, pm, hs, hl, k1, k2⟩ := h
  have hd : d.size = m.length := by have := pm.length_eq; simpa using this
  by_cases c : m.length < k
  · have e : kept k m x = true := by unfold kept; rw [decide_eq_true c]; rfl
    rw [e]
    refine (offer_more hp hm (by omega) (by omega) x).mono ?_
    rintro e w' ⟨rfl, g, cap, d', p1, p2, p3, p4, p5⟩
    refine ⟨rfl, _, ⟨d', p3, p2, ?_, keep_srtd k x hs, by unfold keep; rw [List.length_take]; omega, k1, k2⟩, p4, ?_⟩
    · rw [keep_more x c]
      refine p1.trans ((List.perm_append_singleton x d.toList).trans ((pm.cons x).trans (ins_perm x m).symm))
    · rcases p5 with p5 | p5
      · exact .inl p5.symm
      · right; intro g' hg'; simp [Value.ownBlock] at hg'; omega
  have hk : m.length = k := by omega
  have er := root_last hm pm hs hk (by omega)
  by_cases cx : hlt x m[k - 1]! = true
  · have e : kept k m x = true := by unfold kept; rw [cx]; simp
    rw [e]
    refine (offer_repl hp hm (by omega) (by omega) (by omega) x (by rw [er]; exact cx)).mono ?_
    rintro e w' ⟨rfl, d', p1, p2, p3, p4⟩
    refine ⟨rfl, v, ⟨d', p3, p2, ?_, keep_srtd k x hs, by unfold keep; rw [List.length_take]; omega, k1, k2⟩, p4, .inl rfl⟩
    refine (p1.trans ?_).trans (keep_repl (by omega) hk cx).symm
    -- the set's hits are x and those of m but the last
    have hne : m ≠ [] := by intro e0; subst e0; simp at hk; omega
    obtain ⟨a, z, rfl⟩ : ∃ a z, m = a ++ [z] := ⟨m.dropLast, m.getLast hne, (List.dropLast_concat_getLast hne).symm⟩
    have ez : (a ++ [z])[k - 1]! = z := by
      simp only [List.length_append, List.length_cons, List.length_nil] at hk
      rw [getElem!_pos (a ++ [z]) (k - 1) (by simp; omega), List.getElem_append_right (by omega)]
      simp
    rw [ez] at er
    rw [List.dropLast_concat]
    cases hdl : d.toList with
    | nil =>
      have q0 : d.toList.length = 0 := by rw [hdl]; rfl
      rw [Array.length_toList] at q0; omega
    | cons y r =>
      have hy : d[0]! = y := by
        have hz : 0 < d.size := by omega
        rw [getElem!_pos d 0 hz, ← Array.getElem_toList hz]
        simp [hdl]
      rw [Array.toList_setIfInBounds, hdl, List.set_cons_zero]
      refine List.Perm.cons x ?_
      have q : (y :: r).Perm (z :: a) := by rw [← hdl]; exact pm.trans (List.perm_append_singleton z a)
      rw [← hy, er] at q
      exact List.Perm.cons_inv q
  · have cx' : hlt x m[k - 1]! = false := by simpa using cx
    have e : kept k m x = false := by unfold kept; rw [cx', decide_eq_false c]; rfl
    rw [e]
    refine (offer_no hp (by omega) (by omega) (by omega) x (by rw [er]; exact cx')).mono ?_
    rintro e w' ⟨rfl, g⟩
    refine ⟨rfl, v, ?_, Kp.of_gr g, .inl rfl⟩
    rw [keep_no hs hk cx']
    exact h'.gr g

theorem len_has {w : World} {hb k : Nat} {v : Value} {m : List Ht} (h : Has w hb k v m) : Calls Tryz.prog 152 #[.pointer (some ⟨hb, 0, none⟩)] w fun e w' => e = .returned (.int .i64 (m.length : Nat)) ∧ w' = w := by
  obtain ⟨d, hp, hm, pm, hs, hl, k1, k2⟩ := h
  have := len17 hp
  rwa [show d.size = m.length by have := pm.length_eq; simpa using this] at this
theorem worst_has {w : World} {hb k : Nat} {v : Value} {m : List Ht} (h : Has w hb k v m) (h0 : 0 < m.length) : Calls Tryz.prog 107 #[.pointer (some ⟨hb, 0, none⟩)] w fun e w' => e = .returned (.tuple #[hv m[m.length - 1]!, .bool true]) ∧ Gr w w' := by
  obtain ⟨d, hp, hm, pm, hs, hl, k1, k2⟩ := h
  have hd : d.size = m.length := by have := pm.length_eq; simpa using this
  have := worst15 hp (by omega) (by omega)
  rwa [root_last hm pm hs rfl h0] at this
theorem worst_has_none {w : World} {hb k : Nat} {v : Value} {m : List Ht} (h : Has w hb k v m) (h0 : m.length = 0) : Calls Tryz.prog 107 #[.pointer (some ⟨hb, 0, none⟩)] w fun e w' => e = .returned (.tuple #[hv ⟨0, 0, 0⟩, .bool false]) ∧ Gr w w' := by
  refine worst15_none _ w fun W g => ?_
  have := len_has (h.gr g)
  rwa [h0] at this
theorem list_has {w : World} {hb k : Nat} {v : Value} {m : List Ht} (h : Has w hb k v m) : Calls Tryz.prog 76 #[.pointer (some ⟨hb, 0, none⟩)] w fun e w' => ∃ v', e = .returned v' ∧ Out w w' v' m := by
  obtain ⟨d, hp, hm, pm, hs, hl, k1, k2⟩ := h
  have hd : d.size = m.length := by have := pm.length_eq; simpa using this
  have := list16 hp (by omega)
  rwa [srt_of_perm hs pm] at this
end Go.Proofs.YtbnljabeccebiaaGreat.Tk

/- flat.Check, checkAll, begin. -/
namespace Go.Proofs.YtbnljabeccebiaaGreat
open Go.RowKit Go.Sort

/-- Rows whose numbers are of a machine's word. -/
def Wf (rs : List Rw) : Prop := rs.length ≤ 4611686018427387904 ∧ ∀ i, i < rs.length → (Lit.int .i64 rs[i]!.1).wf = true
set_option maxHeartbeats 1000000 in
theorem fcheck_c {w : World} {v : Value} {rs : List Rw} (h : RdW w v rs) (hwf : Wf rs) (d : Int) :
    Calls Tryz.prog 54 #[v, .int .i64 d] w fun e w' => e = .returned (.int .i64 (flatE rs d)) ∧ Gb w w' := by
  have hb := box_c h d hwf.1 hwf.2
  have E := flatE_box rs d
  obtain ⟨a, cap, rfl, _⟩ := h
  generalize boxR rs d = R at *
  generalize boxE rs d = x at *
  generalize flatE rs d = y at *
  generalize rs.length = n at *
  by_cases hx : x = 1
  · rw [if_pos hx] at E
    subst hx; subst E
    go_enter Tryz.func54, Tryz.ntmps54
    go_wp2_with fail
    refine hb.mono ?_
    rintro e w' ⟨vl, vh, vi, rfl, g, o1, o2, o3, _⟩
    obtain ⟨p1, c1, rfl, _⟩ := o1.rd
    obtain ⟨p2, c2, rfl, _⟩ := o2.rd
    obtain ⟨p3, c3, rfl, _⟩ := o3.rd
    clear hb o1 o2 o3
    go_wp2
    go_ret
    exact ⟨rfl, by refine gb_trans g ?_; go_grown⟩
  · rw [if_neg hx] at E
    subst E
    have hx' : (y == 1) = false := by rw [beq_eq_false_iff_ne]; exact hx
    go_enter Tryz.func54, Tryz.ntmps54
    go_wp2_with fail
    refine hb.mono ?_
    rintro e w' ⟨vl, vh, vi, rfl, g, o1, o2, o3, _⟩
    obtain ⟨p1, c1, rfl, _⟩ := o1.rd
    obtain ⟨p2, c2, rfl, _⟩ := o2.rd
    obtain ⟨p3, c3, rfl, _⟩ := o3.rd
    clear hb o1 o2 o3
    go_wp2
    go_ret
    exact ⟨rfl, by refine gb_trans g ?_; go_grown⟩

end Go.Proofs.YtbnljabeccebiaaGreat

/- A tree in memory of its own; kdtree.Build. -/
namespace Go.Proofs.YtbnljabeccebiaaGreat
open Go.RowKit Go.Sort

/-- The tree in block tb: dimension m, leaf, these rows by rising ids; in the blocks F (where vectors are not told). -/
def TreeAt (Iq : Nat → Prop) (w : World) (tb m leaf : Nat) (rs : List Rw) (F : List Nat) : Prop := ∃ (g cap : Nat) (d : List Rt) (rt : Value) (F1 : List Nat),
  w.heap[tb]? = some (.cells #[.int .i64 (m : Int), .int .i64 (leaf : Int), .slice (some ⟨g, 0, none⟩) d.length cap, rt] 83 (0, 0)) ∧
  OwnRs Iq w (.slice (some ⟨g, 0, none⟩) d.length cap) d ∧ d.map rwR = rs ∧ (rs.Pairwise fun x y => x.1 < y.1) ∧ RowsOk rs (m : Int) ∧
  ((d = [] ∧ rt = .pointer none ∧ F1 = []) ∨ ∃ b T, rt = .pointer (some ⟨b, 0, none⟩) ∧ d ≠ [] ∧ ∀ N, d.length ≤ N → TrO Iq w T (N + 1) b F1 ∧ OkP T m N (T b) ∧ (rowsP T N (T b)).Perm rs) ∧
  F = tb :: g :: F1 ∧ F.Nodup ∧ (1 ≤ m ∧ m ≤ 64) ∧ 1 ≤ leaf ∧ leaf ≤ 64

theorem pick_lt {α : Type} {p : Nat → α → Prop} (a0 : α) {n : Nat} (h : ∀ i, i < n → ∃ a, p i a) : ∃ f : Nat → α, ∀ i, i < n → p i (f i) := by
  classical
  refine ⟨fun i => if hi : i < n then (h i hi).choose else a0, fun i hi => ?_⟩
  simp only [dif_pos hi]
  exact (h i hi).choose_spec
/-- Rows of the call's own, with the values of their vectors. -/
theorem OwnC.rt {W : World} {B : Nat} {v : Value} {rs : List Rw} (h : OwnC W B v rs) : ∃ d : List Rt, d.map rwR = rs ∧ W.ownsRow B 43 2 v d.length (d.flatMap encR) ∧ ∀ x ∈ d, Own W B x.2.1 x.2.2 := by
  obtain ⟨_, xs, h1, h2⟩ := h
  have hl := h1.1
  have hc : ∀ i, i < rs.length → ∃ u, xs[i * 2]? = some (.int .i64 rs[i]!.1) ∧ xs[i * 2 + 1]? = some u ∧ Own W B u rs[i]!.2 := fun i hi => by
    obtain ⟨a, u, b, c⟩ := h2 i hi
    exact ⟨u, a, b, c⟩
  obtain ⟨U, hU⟩ := pick_lt (p := fun i u => xs[i * 2]? = some (.int .i64 rs[i]!.1) ∧ xs[i * 2 + 1]? = some u ∧ Own W B u rs[i]!.2) (.slice none 0 0) hc
  have hdl : ((List.range rs.length).map fun i => ((rs[i]!.1, U i, rs[i]!.2) : Rt)).length = rs.length := by simp
  refine ⟨(List.range rs.length).map fun i => (rs[i]!.1, U i, rs[i]!.2), ?_, ?_, ?_⟩
  · apply List.ext_getElem (by simp)
    intro i h1 h2
    simp [h2]
  · rw [hdl]
    have e : ((List.range rs.length).map fun i => ((rs[i]!.1, U i, rs[i]!.2) : Rt)).flatMap encR = xs := by
      apply List.ext_getElem?
      intro t
      rw [flR_get]
      by_cases ht : t / 2 < rs.length
      · rw [dif_pos (by rw [hdl]; exact ht)]
        obtain ⟨a, b, _⟩ := hU (t / 2) ht
        simp only [List.getElem_map, List.getElem_range, encR]
        rcases Nat.mod_two_eq_zero_or_one t with h0 | h0
        · rw [h0, show t = t / 2 * 2 by omega, a]; simp
        · rw [h0]
          have e2 : t = t / 2 * 2 + 1 := by omega
          rw [show xs[t]? = xs[t / 2 * 2 + 1]? from by rw [← e2], b]; rfl
      · rw [dif_neg (by rw [hdl]; exact ht), List.getElem?_eq_none (by omega)]
    rw [e]; exact h1
  · intro x hx
    obtain ⟨i, hi, rfl⟩ := List.mem_map.1 hx
    exact (hU i (List.mem_range.1 hi)).2.2
/-- What was sorted in place is owned as before. -/
theorem own_sorted {w w' : World} {B g cap : Nat} {d d' : List Rt} (h : w.ownsRow B 43 2 (.slice (some ⟨g, 0, none⟩) d.length cap) d.length (d.flatMap encR)) (hr : RwAt w' g 0 d') (hs : Srt w w' g 0 d.length) (hl : d'.length = d.length) :
    w'.ownsRow B 43 2 (.slice (some ⟨g, 0, none⟩) d'.length cap) d'.length (d'.flatMap encR) := by
  refine ⟨flR_len d', ?_⟩
  rcases h.2 with ⟨e, _⟩ | ⟨g', cap', cur, e, hB, hh, hle, hmx, hsz, _⟩
  · cases e
  · cases e
    obtain ⟨c2, e2, s2, _⟩ := hs.blk cur hh
    obtain ⟨c3, e3, _, f3⟩ := hr
    rw [e2] at e3
    injection e3 with e3
    injection e3 with e3 _ _
    subst e3
    refine .inr ⟨g, cap, c2, rfl, hB, e2, by omega, hmx, by omega, ?_⟩
    apply List.ext_getElem?
    intro t
    rw [flR_get]
    by_cases ht : t / 2 < d'.length
    · rw [dif_pos ht, List.getElem?_take_of_lt (by omega), Array.getElem?_toList]
      obtain ⟨a, b⟩ := f3 (t / 2) ht
      rw [Nat.zero_add] at a b
      rcases Nat.mod_two_eq_zero_or_one t with h0 | h0
      · rw [h0]
        rw [show c2[t]? = c2[t / 2 * 2]? from by rw [show t / 2 * 2 = t by omega], a]; rfl
      · rw [h0]
        rw [show c2[t]? = c2[t / 2 * 2 + 1]? from by rw [show t / 2 * 2 + 1 = t by omega], b]; rfl
    · rw [dif_neg ht, List.getElem?_eq_none (by rw [List.length_take]; omega)]
theorem ci_neg (a b : Int) : (¬ Tk.ci a b < 0) ↔ b ≤ a := by
  unfold Tk.ci
  split
  · omega
  · split <;> omega
theorem rise_ids {d : List Rt} (h : d.Pairwise fun x y => ¬ Tk.ci y.1 x.1 < 0) (hid : (idsOf (d.map rwR)).Pairwise (· ≠ ·)) : (d.map rwR).Pairwise fun x y => x.1 < y.1 := by
  unfold idsOf at hid
  rw [List.pairwise_map] at hid ⊢
  rw [List.pairwise_map] at hid
  refine (h.and hid).imp ?_
  intro a b hab
  have h1 := (ci_neg _ _).1 hab.1
  have h2 := hab.2
  simp only [] at h2 ⊢
  omega
end Go.Proofs.YtbnljabeccebiaaGreat
