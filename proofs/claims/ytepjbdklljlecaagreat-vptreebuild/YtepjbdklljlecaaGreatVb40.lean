import Derived.Test.YtepjbdklljlecaaGreatVb39
import Derived.Test.YtepjbdklljlecaaGreatVb20
import Derived.Deep.DeepCutAuto
/- A search's state, as it turns. -/
namespace Go.Proofs.YtepjbdklljlecaaGreat
open Go.RowKit Go.Sort

theorem tne {W : World} {a b : Nat} {c c' : Array Value} {t t' : TypeId} {s s' : Nat × Nat} (h1 : W.heap[a]? = some (.cells c t s)) (h2 : W.heap[b]? = some (.cells c' t' s')) (hne : t ≠ t') : a ≠ b := by
  intro e
  subst e
  rw [h1] at h2
  injection h2 with h2
  injection h2 with _ h2 _
  exact hne h2
/-- Block b holds cells of the type t. -/
def Ty (W : World) (b : Nat) (t : TypeId) : Prop := ∃ c s, W.heap[b]? = some (.cells c t s)
theorem Ty.ne {W : World} {a b : Nat} {t t' : TypeId} (h1 : Ty W a t) (h2 : Ty W b t') (hne : t ≠ t') : a ≠ b := by
  obtain ⟨_, _, h1⟩ := h1
  obtain ⟨_, _, h2⟩ := h2
  exact tne h1 h2 hne
theorem Ty.gb {W W' : World} {b : Nat} {t : TypeId} (h : Ty W b t) (g : Gb W W') : Ty W' b t := by
  obtain ⟨c, s, h⟩ := h
  exact ⟨c, s, by rw [g.block b (Array.getElem?_eq_some_iff.1 h).1]; exact h⟩
theorem own_ty {W : World} {B n k : Nat} {t : TypeId} {v : Value} {xs : List Value} (h : W.ownsRow B t k v n xs) {g : Nat} (hg : v.ownBlock = some g) : Ty W g t := by
  rcases h.2 with ⟨rfl, _⟩ | ⟨g', cap, cur, rfl, _, hh, _⟩
  · cases hg
  · cases hg; exact ⟨cur, (0, 0), hh⟩
section
variable {w0 W : World} {T : Nat → Pt} {N sb hb k : Nat} {vq : Value} {q : List Int} {bud : Nat} {seen : List Rw} {O M : List (Nat × Pt)} {vs vo vh : Value}
theorem SAt.tsb (h : SAt w0 W T N sb hb k vq q bud seen O M vs vo vh) : Ty W sb 91 := ⟨_, _, h.blk⟩
theorem SAt.thb (h : SAt w0 W T N sb hb k vq q bud seen O M vs vo vh) : Ty W hb 113 := by
  obtain ⟨c, e⟩ := Has.cells h.has
  exact ⟨c, _, e⟩
theorem SAt.tvh (h : SAt w0 W T N sb hb k vq q bud seen O M vs vo vh) {g : Nat} (hg : vh.ownBlock = some g) : Ty W g 68 := by
  obtain ⟨c, e⟩ := Has.own h.has hg
  exact ⟨c, _, e⟩
theorem SAt.tvs (h : SAt w0 W T N sb hb k vq q bud seen O M vs vo vh) {g : Nat} (hg : vs.ownBlock = some g) : Ty W g 3 := own_ty h.sn hg
theorem SAt.tvo (h : SAt w0 W T N sb hb k vq q bud seen O M vs vo vh) {g : Nat} (hg : vo.ownBlock = some g) : Ty W g 121 := own_ty h.op hg
theorem SAt.tp (h : SAt w0 W T N sb hb k vq q bud seen O M vs vo vh) {x : Nat × Pt} (hx : x ∈ M) : Ty W x.1 117 := by
  obtain ⟨_, _, _, e, _⟩ := h.prt x hx
  exact ⟨_, _, e⟩
theorem MP.ty {w0 W : World} {T : Nat → Pt} {N pb : Nat} {p : Pt} (h : MP w0 W T N pb p) : Ty W pb 117 := by
  obtain ⟨_, _, _, e, _⟩ := h
  exact ⟨_, _, e⟩
theorem own_kpR {S : Nat → Prop} {w w' : World} {B n k : Nat} {t : TypeId} {v : Value} {xs : List Value} (h : w.ownsRow B t k v n xs) (kp : Tk.Kp S w w') (hn : ∀ g, v.ownBlock = some g → ¬ S g) : w'.ownsRow B t k v n xs := by
  refine ⟨h.1, ?_⟩
  rcases h.2 with h1 | ⟨g, cap, cur, e, hB, hh, r⟩
  · exact .inl h1
  · subst e
    exact .inr ⟨g, cap, cur, rfl, hB, by rw [kp.block g (Array.getElem?_eq_some_iff.1 hh).1 (hn g rfl)]; exact hh, r⟩
/-- Nothing of it has turned. -/
theorem SAt.kp (h : SAt w0 W T N sb hb k vq q bud seen O M vs vo vh) {S : Nat → Prop} {W' : World} (kp : Tk.Kp S W W') (hS : ∀ b, S b → w0.heap.size ≤ b) (n1 : ¬ S sb) (n2 : ¬ S hb) (n3 : ∀ g, vh.ownBlock = some g → ¬ S g) (n4 : ∀ g, vs.ownBlock = some g → ¬ S g)
    (n6 : ∀ g, vo.ownBlock = some g → ¬ S g) (n7 : ∀ x ∈ M, ¬ S x.1) : SAt w0 W' T N sb hb k vq q bud seen O M vs vo vh where
  blk := by rw [kp.block sb (Array.getElem?_eq_some_iff.1 h.blk).1 n1]; exact h.blk
  sbB := h.sbB
  hbB := h.hbB
  has := h.has.kp kp n2 n3
  hhB := h.hhB
  sn := own_kpI h.sn kp n4
  op := own_kpR h.op kp n6
  sub := h.sub
  prt := fun x hx => (h.prt x hx).kp kp (n7 x hx)
  gb := h.gb.trans (kp.gr h.gb.size hS)
  q := h.q
  few := h.few
  ofew := h.ofew
/-- A cell of the search's own block is written. -/
theorem SAt.set (h : SAt w0 W T N sb hb k vq q bud seen O M vs vo vh) (u : Value) (i : Nat) : Tk.Kp (fun b => b = sb) W (W.setCell ⟨sb, i, none⟩ u) ∧ Tk.Has (W.setCell ⟨sb, i, none⟩ u) hb k vh (Tk.firsts k (hitsOf q seen)) ∧ Own (W.setCell ⟨sb, i, none⟩ u) w0.heap.size vs (idsOf seen) ∧
    (W.setCell ⟨sb, i, none⟩ u).ownsRow w0.heap.size 121 3 vo O.length (O.flatMap (encD q)) ∧ (∀ x ∈ M, MP w0 (W.setCell ⟨sb, i, none⟩ u) T N x.1 x.2) ∧ Gb w0 (W.setCell ⟨sb, i, none⟩ u) := by
  have kp : Tk.Kp (fun b => b = sb) W (W.setCell ⟨sb, i, none⟩ u) := (Tk.Kp.refl (fun b => b = sb) W).setCell (.inl rfl) u
  refine ⟨kp, h.has.kp kp (h.thb.ne h.tsb (by decide)) (fun g hg => (h.tvh hg).ne h.tsb (by decide)), own_kpI h.sn kp (fun g hg => (h.tvs hg).ne h.tsb (by decide)), own_kpR h.op kp (fun g hg => (h.tvo hg).ne h.tsb (by decide)), fun x hx => (h.prt x hx).kp kp ((h.tp hx).ne h.tsb (by decide)), h.gb.trans (kp.gr h.gb.size (fun b e => by rw [e]; exact h.sbB))⟩
/-- The budget. -/
theorem SAt.setBud (h : SAt w0 W T N sb hb k vq q bud seen O M vs vo vh) (b' : Nat) : SAt w0 (W.setCell ⟨sb, 2, none⟩ (.int .i64 (b' : Int))) T N sb hb k vq q b' seen O M vs vo vh := by
  obtain ⟨kp, a1, a2, a4, a5, a6⟩ := h.set (.int .i64 (b' : Int)) 2
  exact ⟨by simp [World.setCell, Array.getElem?_modify, h.blk], h.sbB, h.hbB, a1, h.hhB, a2, a4, h.sub, a5, a6, h.q, h.few, h.ofew⟩
theorem fl3_take (q : List Int) : ∀ (O : List (Nat × Pt)) (n : Nat), (O.flatMap (encD q)).take (n * 3) = (O.take n).flatMap (encD q)
  | [], n => by simp
  | x :: r, 0 => by simp
  | x :: r, n + 1 => by
    rw [List.take_succ_cons, List.flatMap_cons, List.flatMap_cons, ← fl3_take q r n, show (n + 1) * 3 = (n * 3) + 1 + 1 + 1 by omega]
    rfl
theorem fl3_drop (q : List Int) : ∀ (O : List (Nat × Pt)) (n : Nat), (O.flatMap (encD q)).drop (n * 3) = (O.drop n).flatMap (encD q)
  | [], n => by simp
  | x :: r, 0 => by simp
  | x :: r, n + 1 => by
    rw [List.drop_succ_cons, List.flatMap_cons, ← fl3_drop q r n, show (n + 1) * 3 = (n * 3) + 1 + 1 + 1 by omega]
    rfl
/-- The last open one is taken. -/
theorem SAt.pop (h : SAt w0 W T N sb hb k vq q bud seen O M vs vo vh) {g cap : Nat} (e : vo = .slice (some ⟨g, 0, none⟩) O.length cap) (hO : O ≠ []) : SAt w0 (W.setCell ⟨sb, 4, none⟩ (.slice (some ⟨g, 0, none⟩) (O.length - 1) cap)) T N sb hb k vq q bud seen O.dropLast M vs (.slice (some ⟨g, 0, none⟩) (O.length - 1) cap) vh := by
  have hp := List.length_pos_iff.2 hO
  rcases h.op.2 with ⟨e2, _⟩ | ⟨g', cap', cur, e2, hB, hh, hle, hmx, hsz, htk⟩
  · rw [e] at e2; cases e2
  · rw [e] at e2
    cases e2
    obtain ⟨kp, a1, a2, a4, a5, a6⟩ := h.set (.slice (some ⟨g, 0, none⟩) (O.length - 1) cap) 4
    refine ⟨by simp [World.setCell, Array.getElem?_modify, h.blk], h.sbB, h.hbB, a1, h.hhB, a2, ?_, fun x hx => h.sub x (List.dropLast_subset _ hx), a5, a6, h.q, h.few, by rw [List.length_dropLast]; have := h.ofew; omega⟩
    have gs : g ≠ sb := by
      have := h.tvo (g := g) (by rw [e]; rfl)
      exact this.ne h.tsb (by decide)
    have ef : ∀ n, (O.take n).flatMap (encD q) = (O.flatMap (encD q)).take (n * 3) := fun n => (fl3_take q O n).symm
    have hfl : (O.flatMap (encD q)).length = O.length * 3 := h.op.1
    rw [List.length_dropLast, List.dropLast_eq_take, ef]
    refine ⟨by rw [List.length_take, hfl]; omega, .inr ⟨g, cap, cur, rfl, hB, ?_, by omega, hmx, hsz, ?_⟩⟩
    · rw [kp.block g (Array.getElem?_eq_some_iff.1 hh).1 gs]; exact hh
    · rw [← htk, List.take_take]
      congr 1
      omega
/-- A part is laid among the open ones. -/
theorem SAt.ins (h : SAt w0 W T N sb hb k vq q bud seen O M vs vo vh) {V' W2 : World} {c pb : Nat} {p : Pt} {g cap n : Nat} (gV : Gb W V') (hO : n = O.length) (ho : InsO_insC V' vo n ((O.flatMap (encD q)).take (c * 3) ++ encD q (pb, p) ++ (O.flatMap (encD q)).drop (c * 3)) (.returned (.slice (some ⟨g, 0, none⟩) (n + 1) cap)) W2) (hmp : MP w0 V' T N pb p) (hf : O.length + 1 ≤ 10000) :
    SAt w0 (W2.setCell ⟨sb, 4, none⟩ (.slice (some ⟨g, 0, none⟩) (n + 1) cap)) T N sb hb k vq q bud seen (O.take c ++ (pb, p) :: O.drop c) (M ++ [(pb, p)]) vs (.slice (some ⟨g, 0, none⟩) (n + 1) cap) vh ∧ W2.heap[sb]? = some (.cells #[vq, .pointer (some ⟨hb, 0, none⟩), .int .i64 (bud : Int), vs, vo] 91 (0, 0)) := by
  subst hO
  obtain ⟨g', cap', e0, ho, kp, hg⟩ := ho
  cases e0
  have hV := h.grow gV
  have to' : ∀ {b : Nat}, vo.ownBlock = some b → Ty V' b 121 := fun e => hV.tvo e
  have nn : ∀ {b : Nat} {t : TypeId}, Ty V' b t → t ≠ 121 → ¬ vo.ownBlock = some b := fun ht hne e => ht.ne (to' e) hne rfl
  have hS : ∀ b, vo.ownBlock = some b → w0.heap.size ≤ b := fun b e => (h.op.lt b e).1
  have blk2 : W2.heap[sb]? = some (.cells #[vq, .pointer (some ⟨hb, 0, none⟩), .int .i64 (bud : Int), vs, vo] 91 (0, 0)) := by rw [kp.block sb (Array.getElem?_eq_some_iff.1 hV.blk).1 (nn hV.tsb (by decide))]; exact hV.blk
  have k2 : Tk.Kp (fun b => b = sb) W2 (W2.setCell ⟨sb, 4, none⟩ (.slice (some ⟨g, 0, none⟩) (O.length + 1) cap)) := (Tk.Kp.refl (fun b => b = sb) W2).setCell (.inl rfl) _
  have t2 : ∀ {b : Nat} {t : TypeId}, Ty V' b t → t ≠ 91 → ¬ b = sb := fun ht hne e => ht.ne hV.tsb hne e
  have p2 : ∀ {pb : Nat} {p : Pt}, MP w0 V' T N pb p → MP w0 (W2.setCell ⟨sb, 4, none⟩ (.slice (some ⟨g, 0, none⟩) (O.length + 1) cap)) T N pb p := fun hx => (hx.kp kp (nn hx.ty (by decide))).kp k2 (t2 hx.ty (by decide))
  have gge : w0.heap.size ≤ g := by
    rcases hg with e | e
    · exact hS g e
    · have := hV.gb.size; omega
  have gsb : g ≠ sb := (own_ty ho rfl).ne ⟨_, _, blk2⟩ (by decide)
  refine ⟨⟨by simp [World.setCell, Array.getElem?_modify, blk2], h.sbB, h.hbB, (hV.has.kp kp (nn hV.thb (by decide)) (fun g e => nn (hV.tvh e) (by decide))).kp k2 (t2 hV.thb (by decide)) (fun g e => t2 (hV.tvh e) (by decide)), h.hhB, own_kpI (own_kpI hV.sn kp (fun g e => nn (hV.tvs e) (by decide))) k2 (fun g e => t2 (hV.tvs e) (by decide)), ?_, ?_, ?_, ?_, h.q, h.few, ?_⟩, blk2⟩
  · have el : (O.take c ++ (pb, p) :: O.drop c).length = O.length + 1 := by
      rw [List.length_append, List.length_cons, List.length_take, List.length_drop]; omega
    have ex : (O.take c ++ (pb, p) :: O.drop c).flatMap (encD q) = (O.flatMap (encD q)).take (c * 3) ++ encD q (pb, p) ++ (O.flatMap (encD q)).drop (c * 3) := by
      rw [List.flatMap_append, List.flatMap_cons, fl3_take, fl3_drop, List.append_assoc]
    have := own_kpR ho k2 (fun g' e => by cases e; exact gsb)
    rw [el, ex]
    refine ⟨this.1, ?_⟩
    rcases this.2 with ⟨e, _⟩ | ⟨g', cap', cur, e, hB, r⟩
    · cases e
    · cases e; exact .inr ⟨g, cap, cur, rfl, gge, r⟩
  · intro x hx
    rcases List.mem_append.1 hx with hx | hx
    · exact List.mem_append_left _ (h.sub x (List.mem_of_mem_take hx))
    · rcases List.mem_cons.1 hx with rfl | hx
      · exact List.mem_append_right _ (by simp)
      · exact List.mem_append_left _ (h.sub x (List.mem_of_mem_drop hx))
  · intro x hx
    rcases List.mem_append.1 hx with hx | hx
    · exact p2 (hV.prt x hx)
    · rw [List.mem_singleton.1 hx]; exact p2 hmp
  · exact (hV.gb.trans (kp.gr hV.gb.size hS)).trans (k2.gr (by have := hV.gb.size; have := kp.size; omega) (fun b e => by rw [e]; exact h.sbB))
  · rw [List.length_append, List.length_cons, List.length_take, List.length_drop]; omega
end
end Go.Proofs.YtepjbdklljlecaaGreat

/- (*vptree.search).await's closure; sort.Search by it. -/
namespace Go.Proofs.YtepjbdklljlecaaGreat
open Go.RowKit Go.Sort

set_option maxHeartbeats 2000000 in
set_option maxRecDepth 100000 in
theorem await1_c {w : World} {sx bx sb g n cap i : Nat} {ah al bh bl : Int} (cs : w.cell? ⟨sx, 0, none⟩ = some (.pointer (some ⟨sb, 0, none⟩))) (c4 : w.cell? ⟨sb, 4, none⟩ = some (.slice (some ⟨g, 0, none⟩) n cap)) (hi' : i < n)
    (a1 : w.cell? ⟨g, i * 3 + 1, none⟩ = some (.int .u64 ah)) (a2 : w.cell? ⟨g, i * 3 + 2, none⟩ = some (.int .u64 al)) (b1 : w.cell? ⟨bx, 0, none⟩ = some (.int .u64 bh)) (b2 : w.cell? ⟨bx, 1, none⟩ = some (.int .u64 bl)) :
    Calls Tryz.prog 69 #[.int .i64 (i : Int), .pointer (some ⟨sx, 0, none⟩), .pointer (some ⟨bx, 0, none⟩)] w fun e w' => e = .returned (.bool (decide (Tk.cw ah al bh bl < 0))) ∧ Tk.Gw w w' := by
  have hii : (i : Int) < (n : Int) := by omega
  go_enter Tryz.func69, Tryz.ntmps69
  go_wp2
  have C : Tk.Gw w w := Tk.Gw.refl _
  go_region_held3 (fun w' => Tk.Gw w w' ∧ w'.cell? ⟨sx, 0, none⟩ = some (.pointer (some ⟨sb, 0, none⟩)) ∧ w'.cell? ⟨sb, 4, none⟩ = some (.slice (some ⟨g, 0, none⟩) n cap) ∧ w'.cell? ⟨g, i * 3 + 1, none⟩ = some (.int .u64 ah) ∧ w'.cell? ⟨g, i * 3 + 2, none⟩ = some (.int .u64 al) ∧ w'.cell? ⟨bx, 0, none⟩ = some (.int .u64 bh) ∧ w'.cell? ⟨bx, 1, none⟩ = some (.int .u64 bl)) (first | (with_reducible exact Tk.six_call (by assumption) (by assumption)) | (with_reducible assumption) | exact ⟨C.drew, cs, c4, a1, a2, b1, b2⟩) (first | (go_at_call 70; refine (Tk.cmpw _ _ _ _ _).mono ?_; rintro e w' ⟨rfl, hg⟩))
  all_goals
    go_wp2
    go_ret
    exact ⟨rfl, And.left (by assumption)⟩
set_option maxHeartbeats 2000000 in
set_option maxRecDepth 100000 in
/-- sort.Search: those ahead of the place p are not, the others are. -/
theorem ssearch_c {w : World} {sx bx n p : Nat} {cf : Nat → Bool} (hn : n ≤ 100000) (hp : p ≤ n) (hlo : ∀ t, t < p → cf t = false) (hhi : ∀ t, t < n → p ≤ t → cf t = true)
    (hc : ∀ W, Tk.Gw w W → ∀ t : Nat, t < n → Calls Tryz.prog 69 #[.int .i64 (t : Int), .pointer (some ⟨sx, 0, none⟩), .pointer (some ⟨bx, 0, none⟩)] W fun e w' => e = .returned (.bool (cf t)) ∧ Tk.Gw W w') :
    Calls Tryz.prog 68 #[.int .i64 (n : Int), .func (.func 69) #[] #[.pointer (some ⟨sx, 0, none⟩), .pointer (some ⟨bx, 0, none⟩)]] w fun e w' => e = .returned (.int .i64 (p : Int)) ∧ Tk.Gw w w' := by
  have HC : Hid (∀ W, Tk.Gw w W → ∀ t : Nat, t < n → Calls Tryz.prog 69 #[.int .i64 (t : Int), .pointer (some ⟨sx, 0, none⟩), .pointer (some ⟨bx, 0, none⟩)] W fun e w' => e = .returned (.bool (cf t)) ∧ Tk.Gw W w') := hc
  have HP : Hid ((∀ t, t < p → cf t = false) ∧ (∀ t, t < n → p ≤ t → cf t = true)) := ⟨hlo, hhi⟩
  clear hc hlo hhi
  go_enter Tryz.func68, Tryz.ntmps68
  go_wp2
  go_loopw [5, 6] (fun iv jv W => ∃ i j : Nat, iv = .int .i64 (i : Int) ∧ jv = .int .i64 (j : Int) ∧ i ≤ p ∧ p ≤ j ∧ j ≤ n ∧ Hid (Tk.Gw w W)) (fun iv jv _ => (intOf jv).toNat - (intOf iv).toNat)
  case atStart => exact ⟨0, n, rfl, rfl, Nat.zero_le _, hp, Nat.le_refl _, Tk.Gw.refl _⟩
  case round =>
    obtain ⟨i, j, rfl, rfl, hip, hpj, hjn, X⟩ := hrel
    by_cases hlt : i < j
    · have hlti : (i : Int) < (j : Int) := by omega
      have cF := HC.out wr X.out ((i + j) / 2) (by omega)
      rw [show (((i + j) / 2 : Nat) : Int) = ((i : Int) + (j : Int)) / 2 by omega] at cF
      by_cases h : (i + j) / 2 < p
      · rw [HP.out.1 _ h] at cF
        go_wp2_with fail
        go_fit cF
        rintro e w' ⟨rfl, hg⟩
        have HG : Hid (Tk.Gw w w') := X.out.trans hg
        clear cF hg X
        go_wp2
        go_roundw
        case rel => exact ⟨(i + j) / 2 + 1, j, by rw [show ((i : Int) + (j : Int)) / 2 + 1 = (((i + j) / 2 + 1 : Nat) : Int) by omega], rfl, by omega, hpj, hjn, HG.out⟩
        case measure => simp [intOf]; omega
      · rw [HP.out.2 _ (by omega) (by omega)] at cF
        go_wp2_with fail
        go_fit cF
        rintro e w' ⟨rfl, hg⟩
        have HG : Hid (Tk.Gw w w') := X.out.trans hg
        clear cF hg X
        go_wp2
        go_roundw
        case rel => exact ⟨i, (i + j) / 2, rfl, by rw [show ((i : Int) + (j : Int)) / 2 = (((i + j) / 2 : Nat) : Int) by omega], hip, by omega, by omega, HG.out⟩
        case measure => simp [intOf]; omega
    · obtain rfl : j = i := by omega
      obtain rfl : p = j := by omega
      have hlti : ¬ (p : Int) < (p : Int) := by omega
      go_wp2
      go_ret
      exact ⟨rfl, X.out⟩
end Go.Proofs.YtepjbdklljlecaaGreat

/- (*vptree.search).await. -/
namespace Go.Proofs.YtepjbdklljlecaaGreat
open Go.RowKit Go.Sort Go.Maps

/-- The open parts. -/
def opn (O : List (Nat × Pt)) : List Pt := O.map Prod.snd
theorem cnt_lt {q : List Int} {p : Pt} : ∀ {l : List Pt}, Dsc q l → ∀ t (ht : t < l.length), (t < l.countP fun u => decide (bnd q p ≤ bnd q u)) ↔ bnd q p ≤ bnd q l[t]
  | [], _, t, ht => absurd ht (Nat.not_lt_zero _)
  | u :: r, h, t, ht => by
    have h1 := List.pairwise_cons.1 h
    by_cases hu : bnd q p ≤ bnd q u
    · rw [List.countP_cons_of_pos (by simpa using hu)]
      cases t with
      | zero => simp [hu]
      | succ t =>
        have := cnt_lt (p := p) h1.2 t (by simpa using ht)
        simp only [List.getElem_cons_succ]
        omega
    · have h0 : (u :: r).countP (fun u => decide (bnd q p ≤ bnd q u)) = 0 := by
        rw [List.countP_eq_zero]
        intro x hx
        rcases List.mem_cons.1 hx with e | e
        · rw [e]; simpa using hu
        · have := h1.1 x e; simp; omega
      rw [h0]
      constructor
      · intro e; omega
      · intro e
        exfalso
        have hm := List.getElem_mem ht
        rcases List.mem_cons.1 hm with e2 | e2
        · rw [e2] at e; exact hu e
        · have := h1.1 _ e2; omega
theorem cw_hl (a b : Nat) : Tk.cw (hi a) (lo a) (hi b) (lo b) = if a = b then 0 else if a < b then -1 else 1 := by
  by_cases e : a = b
  · subst e; unfold Tk.cw; rw [if_pos ⟨rfl, rfl⟩, if_pos rfl]
  · have hne : ¬ (hi a = hi b ∧ lo a = lo b) := by unfold hi lo; omega
    rw [if_neg e]; unfold Tk.cw; rw [if_neg hne]
    by_cases l : a < b
    · rw [if_pos l, if_pos (by unfold hi lo; omega)]
    · rw [if_neg l, if_neg (by unfold hi lo; omega)]
theorem cw_lt (a b : Nat) : decide (Tk.cw (hi a) (lo a) (hi b) (lo b) < 0) = decide (a < b) := by
  rw [cw_hl]
  by_cases e : a = b
  · rw [if_pos e, decide_eq_false (by decide), decide_eq_false (by omega)]
  · rw [if_neg e]
    by_cases l : a < b
    · rw [if_pos l, decide_eq_true (by decide), decide_eq_true l]
    · rw [if_neg l, decide_eq_false (by decide), decide_eq_false l]
set_option maxHeartbeats 4000000 in
set_option maxRecDepth 100000 in
theorem await_c {w0 W : World} {T : Nat → Pt} {N sb hb k : Nat} {vq : Value} {q : List Int} {bud : Nat} {seen : List Rw} {O M : List (Nat × Pt)} {vs vo vh : Value} {pb : Nat} {p : Pt} (h : SAt w0 W T N sb hb k vq q bud seen O M vs vo vh) (hmp : MP w0 W T N pb p)
    (hbx : ckB (pr p) q = 0) (hd : Dsc q (opn O)) (hof : O.length + 1 ≤ 10000) :
    Calls Tryz.prog 41 #[.pointer (some ⟨sb, 0, none⟩), .pointer (some ⟨pb, 0, none⟩)] W fun e W' => e = .returned (.tuple #[]) ∧ ∃ O' vo', SAt w0 W' T N sb hb k vq q bud seen O' (M ++ [(pb, p)]) vs vo' vh ∧ opn O' = insP q p (opn O) ∧ O'.length = O.length + 1 := by
  obtain ⟨qa, qc, eq, _⟩ := h.q
  obtain ⟨oa, oc, eo⟩ : ∃ oa oc, vo = .slice oa O.length oc := by
    rcases h.form with ⟨e1, e2⟩ | ⟨g, cap, e, _⟩
    · exact ⟨none, 0, by rw [e2, e1]; rfl⟩
    · exact ⟨_, cap, e⟩
  subst eq eo
  have hmp0 := hmp
  obtain ⟨vl, vh', vr, hblk, rl, rh', hbo, _⟩ := hmp
  have rl0 := rl
  have rh0 := rh'
  obtain ⟨al, cl, el, _⟩ := rl0
  obtain ⟨ah, ch, eh, _⟩ := rh0
  have hrR : RdR w0 (.agg #[.int .i64 3, vl, vh', .int .u64 (hi p.reg.R), .int .u64 (lo p.reg.R), .slice none 0 0]) (pr p) := by
    have e := hbo.1
    refine ⟨vl, vh', .slice none 0 0, ?_, rl, ?_, ?_⟩
    · show _ = Value.agg #[.int .i64 p.reg.S, vl, vh', .int .u64 (hi p.reg.R), .int .u64 (lo p.reg.R), .slice none 0 0]
      rw [show p.reg.S = 3 from by rw [e]]
    · rw [show (pr p).H = [] from by show p.reg.H = []; rw [e]]; exact rh'
    · rw [show (pr p).I = [] from by show p.reg.I = []; rw [e]]; exact ⟨none, 0, rfl, fun i hi => absurd hi (Nat.not_lt_zero _)⟩
  have hbv : bndV (pr p) q = bnd q p := by unfold bndV; rw [if_pos hbx]; rfl
  subst el eh
  obtain ⟨rh, hrh⟩ : ∃ rh, rh = hi p.reg.R := ⟨_, rfl⟩
  obtain ⟨rl', hrl⟩ : ∃ rl, rl = lo p.reg.R := ⟨_, rfl⟩
  obtain ⟨sx, hsx⟩ : ∃ sx, sx = W.heap.size := ⟨_, rfl⟩
  have gB : Gb W (W.alloc (.cells #[.pointer (some ⟨sb, 0, none⟩)] 88)) := gb_alloc (Below.refl _ _) _
  have sxc : (W.alloc (.cells #[.pointer (some ⟨sb, 0, none⟩)] 88)).cell? ⟨sx, 0, none⟩ = some (.pointer (some ⟨sb, 0, none⟩)) := by rw [hsx]; simp [go_sem]
  have sxt : Ty (W.alloc (.cells #[.pointer (some ⟨sb, 0, none⟩)] 88)) sx 88 := by rw [hsx]; exact ⟨_, _, heap_new _ _⟩
  obtain ⟨W1, hW1⟩ : ∃ W1, W1 = W.alloc (.cells #[.pointer (some ⟨sb, 0, none⟩)] 88) := ⟨_, rfl⟩
  rw [← hW1] at gB sxc sxt
  have h1 := h.grow gB
  have hb1 : W1.heap[pb]? = some (.cells (pcells p (.slice al p.reg.L.length cl) (.slice ah ([] : List Int).length ch) vr) 117 (0, 0)) := by rw [gB.block pb (Array.getElem?_eq_some_iff.1 hblk).1]; exact hblk
  obtain ⟨c0, c1, c2, c3, c4, fz⟩ := h1.cells
  have CB : Hid (∀ W', Gb W1.drew W' → Calls Tryz.prog 67 #[.agg #[.int .i64 3, .slice al p.reg.L.length cl, .slice ah 0 ch, .int .u64 rh, .int .u64 rl', .slice none 0 0], .slice qa q.length qc] W' fun e w' => e = .returned (.tuple #[.agg #[.int .u64 (hi (bnd q p)), .int .u64 (lo (bnd q p))], .int .i64 0]) ∧ Gb W' w') := fun W' g => by
    have g0 : Gb w0 W' := gb_trans h1.gb (gb_trans (Below.refl _ _).drew g)
    have := bound_c (hrR.gb g0) (h.q.gb g0) (by rw [show (pr p).I = [] from by show p.reg.I = []; rw [hbo.1]]; simp) hbo.2
    rw [hbv, hbx] at this
    rw [hrh, hrl]
    exact this.mono fun e w' hh => ⟨hh.1, hh.2.gb⟩
  have FS1 : (fun W => W.cell? ⟨pb, 0, none⟩ = some (.int .i64 3) ∧ W.cell? ⟨pb, 1, none⟩ = some (.slice al p.reg.L.length cl) ∧ W.cell? ⟨pb, 2, none⟩ = some (.slice ah 0 ch) ∧ W.cell? ⟨pb, 3, none⟩ = some (.int .u64 rh) ∧ W.cell? ⟨pb, 4, none⟩ = some (.int .u64 rl') ∧ W.cell? ⟨pb, 5, none⟩ = some (.slice none 0 0) ∧ W.cell? ⟨sb, 0, none⟩ = some (.slice qa q.length qc) ∧ W.cell? ⟨sx, 0, none⟩ = some (.pointer (some ⟨sb, 0, none⟩))) W1.drew := ⟨cell_cur hb1 rfl, cell_cur hb1 rfl, cell_cur hb1 rfl, by rw [hrh]; exact cell_cur hb1 rfl, by rw [hrl]; exact cell_cur hb1 rfl, cell_cur hb1 rfl, c0, sxc⟩
  obtain ⟨bh, hbh⟩ : ∃ bh, bh = hi (bnd q p) := ⟨_, rfl⟩
  obtain ⟨bl, hbl⟩ : ∃ bl, bl = lo (bnd q p) := ⟨_, rfl⟩
  have BB : Hid (bh = hi (bnd q p) ∧ bl = lo (bnd q p)) := ⟨hbh, hbl⟩
  rw [← hbh, ← hbl] at CB
  generalize p.reg.L.length = nl at *
  generalize hnq : q.length = nq at *
  have keep1 : ∀ w', Gb W1.drew w' → (fun W => W.cell? ⟨pb, 0, none⟩ = some (.int .i64 3) ∧ W.cell? ⟨pb, 1, none⟩ = some (.slice al nl cl) ∧ W.cell? ⟨pb, 2, none⟩ = some (.slice ah 0 ch) ∧ W.cell? ⟨pb, 3, none⟩ = some (.int .u64 rh) ∧ W.cell? ⟨pb, 4, none⟩ = some (.int .u64 rl') ∧ W.cell? ⟨pb, 5, none⟩ = some (.slice none 0 0) ∧ W.cell? ⟨sb, 0, none⟩ = some (.slice qa nq qc) ∧ W.cell? ⟨sx, 0, none⟩ = some (.pointer (some ⟨sb, 0, none⟩))) w' := fun w' g => ⟨gb_keeps (g) FS1.1, gb_keeps (g) FS1.2.1, gb_keeps (g) FS1.2.2.1, gb_keeps (g) FS1.2.2.2.1, gb_keeps (g) FS1.2.2.2.2.1, gb_keeps (g) FS1.2.2.2.2.2.1, gb_keeps (g) FS1.2.2.2.2.2.2.1, gb_keeps (g) FS1.2.2.2.2.2.2.2⟩
  have KA : Hid (∀ w1, Gb W1.drew w1 → (fun W => W.cell? ⟨pb, 0, none⟩ = some (.int .i64 3) ∧ W.cell? ⟨pb, 1, none⟩ = some (.slice al nl cl) ∧ W.cell? ⟨pb, 2, none⟩ = some (.slice ah 0 ch) ∧ W.cell? ⟨pb, 3, none⟩ = some (.int .u64 rh) ∧ W.cell? ⟨pb, 4, none⟩ = some (.int .u64 rl') ∧ W.cell? ⟨pb, 5, none⟩ = some (.slice none 0 0) ∧ W.cell? ⟨sb, 0, none⟩ = some (.slice qa nq qc) ∧ W.cell? ⟨sx, 0, none⟩ = some (.pointer (some ⟨sb, 0, none⟩))) (w1.alloc (.cells #[.int .u64 bh, .int .u64 bl] 66))) := fun w1 g => keep1 _ (gb_alloc g _)
  have KB : Hid (∀ w1, Gb (W1.drew.alloc (.cells #[.int .u64 0, .int .u64 0] 66)) w1 → (fun W => W.cell? ⟨pb, 0, none⟩ = some (.int .i64 3) ∧ W.cell? ⟨pb, 1, none⟩ = some (.slice al nl cl) ∧ W.cell? ⟨pb, 2, none⟩ = some (.slice ah 0 ch) ∧ W.cell? ⟨pb, 3, none⟩ = some (.int .u64 rh) ∧ W.cell? ⟨pb, 4, none⟩ = some (.int .u64 rl') ∧ W.cell? ⟨pb, 5, none⟩ = some (.slice none 0 0) ∧ W.cell? ⟨sb, 0, none⟩ = some (.slice qa nq qc) ∧ W.cell? ⟨sx, 0, none⟩ = some (.pointer (some ⟨sb, 0, none⟩))) ((w1.setCell ⟨W1.heap.size, 0, none⟩ (.int .u64 bh)).setCell ⟨W1.heap.size, 1, none⟩ (.int .u64 bl))) := fun w1 g => keep1 _ (gb_set (gb_set (gb_trans (gb_alloc (Below.refl _ _) _) g) (Nat.le_refl _) _) (Nat.le_refl _) _)
  have ZB : Hid (∀ w1, Gb (W1.drew.alloc (.cells #[.int .u64 0, .int .u64 0] 66)) w1 → (∃ y, w1.cell? ⟨W1.heap.size, 0, none⟩ = some y) ∧ (∃ y, w1.cell? ⟨W1.heap.size, 1, none⟩ = some y) ∧ w1.frozen? ⟨W1.heap.size, 0, none⟩ = false ∧ w1.frozen? ⟨W1.heap.size, 1, none⟩ = false) := fun w1 g => by
    have hb : w1.heap[W1.heap.size]? = some (.cells #[.int .u64 0, .int .u64 0] 66 (0, 0)) := by
      rw [g.block W1.heap.size (by rw [World.size_alloc]; exact Nat.lt_succ_self _)]
      exact Array.getElem?_push_size
    exact ⟨⟨_, cell_cur hb rfl⟩, ⟨_, cell_cur hb rfl⟩, by simp [World.frozen?, hb], by simp [World.frozen?, hb]⟩
  have RA : Hid (∀ w1, Gb W1.drew w1 → ∃ wb, (Value.pointer (some ⟨w1.heap.size, 0, none⟩)) = .pointer (some ⟨wb, 0, none⟩) ∧ Hid (Gb W1 (w1.alloc (.cells #[.int .u64 bh, .int .u64 bl] 66)) ∧ (w1.alloc (.cells #[.int .u64 bh, .int .u64 bl] 66)).cell? ⟨wb, 0, none⟩ = some (.int .u64 bh) ∧ (w1.alloc (.cells #[.int .u64 bh, .int .u64 bl] 66)).cell? ⟨wb, 1, none⟩ = some (.int .u64 bl) ∧ Ty (w1.alloc (.cells #[.int .u64 bh, .int .u64 bl] 66)) wb 66)) := fun w1 g => ⟨_, rfl, gb_alloc (gb_trans (Below.refl _ _).drew g) _, by simp [go_sem], by simp [go_sem], _, _, heap_new _ _⟩
  have RB : Hid (∀ w1, Gb (W1.drew.alloc (.cells #[.int .u64 0, .int .u64 0] 66)) w1 → ∃ wb, (Value.pointer (some ⟨W1.heap.size, 0, none⟩)) = .pointer (some ⟨wb, 0, none⟩) ∧ Hid (Gb W1 ((w1.setCell ⟨W1.heap.size, 0, none⟩ (.int .u64 bh)).setCell ⟨W1.heap.size, 1, none⟩ (.int .u64 bl)) ∧ ((w1.setCell ⟨W1.heap.size, 0, none⟩ (.int .u64 bh)).setCell ⟨W1.heap.size, 1, none⟩ (.int .u64 bl)).cell? ⟨wb, 0, none⟩ = some (.int .u64 bh) ∧ ((w1.setCell ⟨W1.heap.size, 0, none⟩ (.int .u64 bh)).setCell ⟨W1.heap.size, 1, none⟩ (.int .u64 bl)).cell? ⟨wb, 1, none⟩ = some (.int .u64 bl) ∧ Ty ((w1.setCell ⟨W1.heap.size, 0, none⟩ (.int .u64 bh)).setCell ⟨W1.heap.size, 1, none⟩ (.int .u64 bl)) wb 66)) := fun w1 g => by
    have hb : w1.heap[W1.heap.size]? = some (.cells #[.int .u64 0, .int .u64 0] 66 (0, 0)) := by
      rw [g.block W1.heap.size (by rw [World.size_alloc]; exact Nat.lt_succ_self _)]
      exact Array.getElem?_push_size
    refine ⟨_, rfl, gb_set (gb_set (gb_trans (gb_alloc (gb_trans (Below.refl _ _).drew (Below.refl _ _)) _) g) (Nat.le_refl _) _) (Nat.le_refl _) _, ?_, ?_, #[.int .u64 bh, .int .u64 bl], (0, 0), ?_⟩ <;> simp [World.cell?, World.setCell, Array.getElem?_modify, hb]
  have HS : Hid (SAt w0 W1 T N sb hb k (.slice qa nq qc) q bud seen O M vs (.slice oa O.length oc) vh ∧ MP w0 W1 T N pb p ∧ Dsc q (opn O) ∧ O.length + 1 ≤ 10000 ∧ W1.cell? ⟨sx, 0, none⟩ = some (.pointer (some ⟨sb, 0, none⟩)) ∧ Ty W1 sx 88) := ⟨h1, hmp0.gb gB, hd, hof, sxc, sxt⟩
  clear h h1 hmp0 hd hblk hb1 rl rh' hrR hbv c1 c2 c3 c4 fz keep1 hbh hbl hbx c0 hof hbo gB sxc sxt hrh hrl
  go_enter Tryz.func41, Tryz.ntmps41
  go_wp2_with fail
  rw [← hW1, ← hsx]
  clear hW1 hsx
  go_cut [4] (fun b wx => ∃ wb, b = .pointer (some ⟨wb, 0, none⟩) ∧ Hid (Gb W1 wx ∧ wx.cell? ⟨wb, 0, none⟩ = some (.int .u64 bh) ∧ wx.cell? ⟨wb, 1, none⟩ = some (.int .u64 bl) ∧ Ty wx wb 66))
  case first =>
    refine wp_region_held_drew (S := fun W => W.cell? ⟨pb, 0, none⟩ = some (.int .i64 3) ∧ W.cell? ⟨pb, 1, none⟩ = some (.slice al nl cl) ∧ W.cell? ⟨pb, 2, none⟩ = some (.slice ah 0 ch) ∧ W.cell? ⟨pb, 3, none⟩ = some (.int .u64 rh) ∧ W.cell? ⟨pb, 4, none⟩ = some (.int .u64 rl') ∧ W.cell? ⟨pb, 5, none⟩ = some (.slice none 0 0) ∧ W.cell? ⟨sb, 0, none⟩ = some (.slice qa nq qc) ∧ W.cell? ⟨sx, 0, none⟩ = some (.pointer (some ⟨sb, 0, none⟩))) (by kernel_rfl) (FS1) (fun hHeld => ?_)
    refine wpAnyH_take (i := 0) (v := ?_) rfl (by kernel_rfl) (by kernel_rfl) (by kernel_rfl) (fun _ _ _ h => h) (Or.inl ⟨by rfl, ?_⟩) (by assumption) ?_
    rotate_left 1
    · (intro w hSw; (obtain ⟨s0, s1, s2, s3, s4, s5, s6, s7⟩ := hSw); go_simp; try with_reducible rfl)
    refine wpAnyH_take (i := 1) (v := ?_) rfl (by kernel_rfl) (by kernel_rfl) (by kernel_rfl) (fun _ _ _ h => h) (Or.inl ⟨by rfl, ?_⟩) (by assumption) ?_
    rotate_left 1
    · (intro w hSw; (obtain ⟨s0, s1, s2, s3, s4, s5, s6, s7⟩ := hSw); go_simp; try with_reducible rfl)
    refine wpAnyH_take (i := 2) (v := ?_) rfl (by kernel_rfl) (by kernel_rfl) (by kernel_rfl) (fun _ _ _ h => h) (Or.inl ⟨by rfl, ?_⟩) (by assumption) ?_
    rotate_left 1
    · (intro w hSw; (obtain ⟨s0, s1, s2, s3, s4, s5, s6, s7⟩ := hSw); go_simp; try with_reducible rfl)
    refine wpAnyH_take (i := 3) (v := ?_) rfl (by kernel_rfl) (by kernel_rfl) (by kernel_rfl) (fun _ _ _ h => h) (Or.inl ⟨by rfl, ?_⟩) (by assumption) ?_
    rotate_left 1
    · (intro w hSw; (obtain ⟨s0, s1, s2, s3, s4, s5, s6, s7⟩ := hSw); go_simp; try with_reducible rfl)
    refine wpAnyH_take (i := 4) (v := ?_) rfl (by kernel_rfl) (by kernel_rfl) (by kernel_rfl) (fun _ _ _ h => h) (Or.inl ⟨by rfl, ?_⟩) (by assumption) ?_
    rotate_left 1
    · (intro w hSw; (obtain ⟨s0, s1, s2, s3, s4, s5, s6, s7⟩ := hSw); go_simp; try with_reducible rfl)
    refine wpAnyH_take (i := 5) (v := ?_) rfl (by kernel_rfl) (by kernel_rfl) (by kernel_rfl) (fun _ _ _ h => h) (Or.inl ⟨by rfl, ?_⟩) (by assumption) ?_
    rotate_left 1
    · (intro w hSw; (obtain ⟨s0, s1, s2, s3, s4, s5, s6, s7⟩ := hSw); go_simp; try with_reducible rfl)
    refine wpAnyH_take (i := 6) (v := ?_) rfl (by kernel_rfl) (by kernel_rfl) (by kernel_rfl) (fun _ _ _ h => h) (Or.inl ⟨by rfl, ?_⟩) (by assumption) ?_
    rotate_left 1
    · (intro w hSw; (obtain ⟨s0, s1, s2, s3, s4, s5, s6, s7⟩ := hSw); go_simp; try with_reducible rfl)
    refine wpAnyH_take (i := 7) (v := ?_) rfl (by kernel_rfl) (by kernel_rfl) (by kernel_rfl) (fun _ _ _ h => h) (Or.inl ⟨by rfl, ?_⟩) (by assumption) ?_
    rotate_left 1
    · (intro w hSw; (obtain ⟨s0, s1, s2, s3, s4, s5, s6, s7⟩ := hSw); go_simp; try with_reducible rfl)
    refine wpAnyH_ready (rs := [8, 12]) (by kernel_rfl) (by simp) ?_
    refine AllReadyH.cons rfl (fun K hK => ?_) (AllReadyH.cons rfl (fun K hK => ?_) AllReadyH.nil)
    · go_simp
      go_fit (CB.out _ (Below.refl _ _))
      rintro e w1 ⟨rfl, g1⟩
      refine hK.out _ _ (⟨gb_keeps (g1) hHeld.1, gb_keeps (g1) hHeld.2.1, gb_keeps (g1) hHeld.2.2.1, gb_keeps (g1) hHeld.2.2.2.1, gb_keeps (g1) hHeld.2.2.2.2.1, gb_keeps (g1) hHeld.2.2.2.2.2.1, gb_keeps (g1) hHeld.2.2.2.2.2.2.1, gb_keeps (g1) hHeld.2.2.2.2.2.2.2⟩) (fun hHeld => ?_)
      clear hK K
      refine wpAnyH_take (i := 9) (v := ?_) rfl (by kernel_rfl) (by kernel_rfl) (by kernel_rfl) (fun _ _ _ h => h) (Or.inl ⟨by rfl, ?_⟩) (by assumption) ?_
      rotate_left 1
      · (intro w hSw; (obtain ⟨s0, s1, s2, s3, s4, s5, s6, s7⟩ := hSw); go_simp; try with_reducible rfl)
      refine wpAnyH_take (i := 10) (v := ?_) rfl (by kernel_rfl) (by kernel_rfl) (by kernel_rfl) (fun _ _ _ h => h) (Or.inl ⟨by rfl, ?_⟩) (by assumption) ?_
      rotate_left 1
      · (intro w hSw; (obtain ⟨s0, s1, s2, s3, s4, s5, s6, s7⟩ := hSw); go_simp; try with_reducible rfl)
      refine wpAnyH_take (i := 11) (v := ?_) rfl (by kernel_rfl) (by kernel_rfl) (by kernel_rfl) (fun _ _ _ h => h) (Or.inl ⟨by rfl, ?_⟩) (by assumption) ?_
      rotate_left 1
      · (intro w hSw; (obtain ⟨s0, s1, s2, s3, s4, s5, s6, s7⟩ := hSw); go_simp; try with_reducible rfl)
      refine wpAnyH_ready (rs := [12]) (by kernel_rfl) (by simp) ?_
      refine AllReadyH.cons rfl (fun K hK => ?_) AllReadyH.nil
      go_simp
      refine hK.out _ _ (⟨gb_keeps (gb_alloc (Below.refl _ _) _) hHeld.1, gb_keeps (gb_alloc (Below.refl _ _) _) hHeld.2.1, gb_keeps (gb_alloc (Below.refl _ _) _) hHeld.2.2.1, gb_keeps (gb_alloc (Below.refl _ _) _) hHeld.2.2.2.1, gb_keeps (gb_alloc (Below.refl _ _) _) hHeld.2.2.2.2.1, gb_keeps (gb_alloc (Below.refl _ _) _) hHeld.2.2.2.2.2.1, gb_keeps (gb_alloc (Below.refl _ _) _) hHeld.2.2.2.2.2.2.1, gb_keeps (gb_alloc (Below.refl _ _) _) hHeld.2.2.2.2.2.2.2⟩) (fun hHeld => ?_)
      clear hK K
      refine wpAnyH_ready (rs := [13]) (by kernel_rfl) (by simp) ?_
      refine AllReadyH.cons rfl (fun K hK => ?_) AllReadyH.nil
      go_simp
      refine hK.out _ _ (KA.out _ g1) (fun hHeld => ?_)
      clear hK K
      refine wpAnyH_take (i := 14) (v := ?_) rfl (by kernel_rfl) (by kernel_rfl) (by kernel_rfl) (fun _ _ _ h => h) (Or.inl ⟨by rfl, ?_⟩) (by assumption) ?_
      rotate_left 1
      · (intro w hSw; (obtain ⟨s0, s1, s2, s3, s4, s5, s6, s7⟩ := hSw); go_simp; try with_reducible rfl)
      refine wpAnyH_done (by kernel_rfl) ?_ _
      clear hHeld
      go_wp2_with fail
      go_meet
      case rel => exact RA.out _ g1
    · go_simp
      refine hK.out _ _ (⟨gb_keeps (gb_alloc (Below.refl _ _) _) hHeld.1, gb_keeps (gb_alloc (Below.refl _ _) _) hHeld.2.1, gb_keeps (gb_alloc (Below.refl _ _) _) hHeld.2.2.1, gb_keeps (gb_alloc (Below.refl _ _) _) hHeld.2.2.2.1, gb_keeps (gb_alloc (Below.refl _ _) _) hHeld.2.2.2.2.1, gb_keeps (gb_alloc (Below.refl _ _) _) hHeld.2.2.2.2.2.1, gb_keeps (gb_alloc (Below.refl _ _) _) hHeld.2.2.2.2.2.2.1, gb_keeps (gb_alloc (Below.refl _ _) _) hHeld.2.2.2.2.2.2.2⟩) (fun hHeld => ?_)
      clear hK K
      refine wpAnyH_ready (rs := [8]) (by kernel_rfl) (by simp) ?_
      refine AllReadyH.cons rfl (fun K hK => ?_) AllReadyH.nil
      go_simp
      go_fit (CB.out _ (gb_alloc (Below.refl _ _) _))
      rintro e w1 ⟨rfl, g1⟩
      obtain ⟨⟨y0, z0⟩, ⟨y1, z1⟩, f0, f1⟩ := ZB.out _ g1
      refine hK.out _ _ (⟨gb_keeps (g1) hHeld.1, gb_keeps (g1) hHeld.2.1, gb_keeps (g1) hHeld.2.2.1, gb_keeps (g1) hHeld.2.2.2.1, gb_keeps (g1) hHeld.2.2.2.2.1, gb_keeps (g1) hHeld.2.2.2.2.2.1, gb_keeps (g1) hHeld.2.2.2.2.2.2.1, gb_keeps (g1) hHeld.2.2.2.2.2.2.2⟩) (fun hHeld => ?_)
      clear hK K
      refine wpAnyH_take (i := 9) (v := ?_) rfl (by kernel_rfl) (by kernel_rfl) (by kernel_rfl) (fun _ _ _ h => h) (Or.inl ⟨by rfl, ?_⟩) (by assumption) ?_
      rotate_left 1
      · (intro w hSw; (obtain ⟨s0, s1, s2, s3, s4, s5, s6, s7⟩ := hSw); go_simp; try with_reducible rfl)
      refine wpAnyH_take (i := 10) (v := ?_) rfl (by kernel_rfl) (by kernel_rfl) (by kernel_rfl) (fun _ _ _ h => h) (Or.inl ⟨by rfl, ?_⟩) (by assumption) ?_
      rotate_left 1
      · (intro w hSw; (obtain ⟨s0, s1, s2, s3, s4, s5, s6, s7⟩ := hSw); go_simp; try with_reducible rfl)
      refine wpAnyH_take (i := 11) (v := ?_) rfl (by kernel_rfl) (by kernel_rfl) (by kernel_rfl) (fun _ _ _ h => h) (Or.inl ⟨by rfl, ?_⟩) (by assumption) ?_
      rotate_left 1
      · (intro w hSw; (obtain ⟨s0, s1, s2, s3, s4, s5, s6, s7⟩ := hSw); go_simp; try with_reducible rfl)
      refine wpAnyH_ready (rs := [13]) (by kernel_rfl) (by simp) ?_
      refine AllReadyH.cons rfl (fun K hK => ?_) AllReadyH.nil
      go_simp
      refine hK.out _ _ (KB.out _ g1) (fun hHeld => ?_)
      clear hK K
      refine wpAnyH_take (i := 14) (v := ?_) rfl (by kernel_rfl) (by kernel_rfl) (by kernel_rfl) (fun _ _ _ h => h) (Or.inl ⟨by rfl, ?_⟩) (by assumption) ?_
      rotate_left 1
      · (intro w hSw; (obtain ⟨s0, s1, s2, s3, s4, s5, s6, s7⟩ := hSw); go_simp; try with_reducible rfl)
      refine wpAnyH_done (by kernel_rfl) ?_ _
      clear hHeld z0 z1 f0 f1
      go_wp2_with fail
      go_meet
      case rel => exact RB.out _ g1
  case rest =>
    clear CB FS1 KA KB ZB RA RB
    obtain ⟨wb, rfl, H1⟩ := hcut
    obtain ⟨hS0, hmp, hd, hof, sxc, sxt⟩ := HS.out
    have hS := hS0.grow H1.out.1
    have sxc := gb_keeps H1.out.1 sxc
    have sxt := sxt.gb H1.out.1
    obtain ⟨c0, c1, c2, c3, c4, fz⟩ := hS.cells
    obtain ⟨c, hc⟩ : ∃ c, c = (opn O).countP fun u => decide (bnd q p ≤ bnd q u) := ⟨_, rfl⟩
    have hol : (opn O).length = O.length := by unfold opn; rw [List.length_map]
    have hcl : c ≤ O.length := by rw [hc, ← hol]; exact List.countP_le_length
    have hget : ∀ t (ht : t < O.length), (opn O)[t]'(by omega) = O[t].2 := fun t ht => by simp [opn]
    have cS := ssearch_c (w := wc) (sx := sx) (bx := wb) (n := O.length) (p := c) (cf := fun t => if h : t < O.length then decide (bnd q O[t].2 < bnd q p) else true) (by omega) hcl
      (fun t ht => by
        have ht2 : t < O.length := by omega
        have := (cnt_lt (p := p) hd t (by omega)).1 (by omega)
        rw [hget t ht2] at this
        simp only [dif_pos ht2]
        exact decide_eq_false (by omega))
      (fun t ht htc => by
        simp only [dif_pos ht]
        refine decide_eq_true (Nat.lt_of_not_le fun e => ?_)
        have := (cnt_lt (p := p) hd t (by omega)).2 (by rw [hget t ht]; exact e)
        omega)
      (fun W' g t ht => by
        simp only [dif_pos ht]
        rcases hS.form with ⟨e1, _⟩ | ⟨g', cap', e, _, hcd⟩
        · rw [e1] at ht; simp at ht
        · obtain ⟨_, a1, a2⟩ := hcd t ht
          cases e
          have := await1_c (gb_keeps g.gr sxc) (gb_keeps g.gr c4) ht (gb_keeps g.gr a1) (gb_keeps g.gr a2) (gb_keeps g.gr H1.out.2.1) (gb_keeps g.gr H1.out.2.2.1)
          rw [BB.out.1, BB.out.2, cw_lt] at this
          exact this)
    obtain ⟨no, hno⟩ : ∃ no, no = O.length := ⟨_, rfl⟩
    have NO : Hid (no = O.length) := hno
    have IX : Hid (∀ w3, Tk.Gw wc w3 → Calls Tryz.prog 71 #[.slice oa no oc, .int .i64 (c : Int), .slice (some ⟨w3.drew.heap.size, 0, none⟩) 1 1] (w3.drew.alloc (.cells #[.pointer (some ⟨pb, 0, none⟩), .int .u64 bh, .int .u64 bl] 121)) fun e w' => InsO_insC (w3.drew.alloc (.cells #[.pointer (some ⟨pb, 0, none⟩), .int .u64 bh, .int .u64 bl] 121)) (.slice oa no oc) no ((O.flatMap (encD q)).take (c * 3) ++ encD q (pb, p) ++ (O.flatMap (encD q)).drop (c * 3)) e w') := fun w3 g3 => by
      have gg : Gb wc (w3.drew.alloc (.cells #[.pointer (some ⟨pb, 0, none⟩), .int .u64 bh, .int .u64 bl] 121)) := gb_alloc g3.gr.drew _
      have ho : (w3.drew.alloc (.cells #[.pointer (some ⟨pb, 0, none⟩), .int .u64 bh, .int .u64 bl] 121)).ownsRow 0 121 3 (.slice oa O.length oc) O.length (O.flatMap (encD q)) := ⟨(hS.grow gg).op.1, (hS.grow gg).op.2.imp id (fun ⟨g, cap, cur, e, _, r⟩ => ⟨g, cap, cur, e, Nat.zero_le _, r⟩)⟩
      rw [← hno] at ho
      have ev : encD q (pb, p) = [.pointer (some ⟨pb, 0, none⟩), .int .u64 bh, .int .u64 bl] := by rw [BB.out.1, BB.out.2]
      rw [ev]
      refine insC_c ho (by omega) (by omega) (vs := [.pointer (some ⟨pb, 0, none⟩), .int .u64 bh, .int .u64 bl]) (heap_new _ _) rfl (fun e => ?_) (fun v hv => ?_) (fun v hv => ?_)
      · rw [hno] at e
        have := (hS.op.lt _ e).2
        have := g3.gr.drew.size
        omega
      · obtain ⟨x, _, hv⟩ := List.mem_flatMap.1 hv
        simp only [List.mem_cons, List.not_mem_nil, or_false] at hv
        rcases hv with rfl | rfl | rfl <;> rfl
      · simp only [List.mem_cons, List.not_mem_nil, or_false] at hv
        rcases hv with rfl | rfl | rfl <;> rfl
    have FX : Hid (∀ w3, Tk.Gw wc w3 → ∀ e w4, InsO_insC (w3.drew.alloc (.cells #[.pointer (some ⟨pb, 0, none⟩), .int .u64 bh, .int .u64 bl] 121)) (.slice oa no oc) no ((O.flatMap (encD q)).take (c * 3) ++ encD q (pb, p) ++ (O.flatMap (encD q)).drop (c * 3)) e w4 → ∃ g cap, e = .returned (.slice (some ⟨g, 0, none⟩) (no + 1) cap) ∧ w4.cell? ⟨sb, 4, none⟩ = some (.slice oa no oc) ∧ w4.frozen? ⟨sb, 4, none⟩ = false ∧ (∀ (a : Addr) y, (a.block = sx ∨ a.block = wb) → (w3.drew.alloc (.cells #[.pointer (some ⟨pb, 0, none⟩), .int .u64 bh, .int .u64 bl] 121)).cell? a = some y → w4.cell? a = some y) ∧ (∀ (a : Addr) {u y : Value}, (a.block = sx ∨ a.block = wb) → w4.cell? a = some y → (w4.setCell ⟨sb, 4, none⟩ u).cell? a = some y) ∧ Hid (∃ O' vo', SAt w0 (w4.setCell ⟨sb, 4, none⟩ (.slice (some ⟨g, 0, none⟩) (no + 1) cap)) T N sb hb k (.slice qa nq qc) q bud seen O' (M ++ [(pb, p)]) vs vo' vh ∧ opn O' = insP q p (opn O) ∧ O'.length = O.length + 1)) := fun w3 g3 e w4 hO => by
      have gg : Gb wc (w3.drew.alloc (.cells #[.pointer (some ⟨pb, 0, none⟩), .int .u64 bh, .int .u64 bl] 121)) := gb_alloc g3.gr.drew _
      have kp := hO
      obtain ⟨g, cap, rfl, r1, kp, r3⟩ := hO
      have hS' := hS
      rw [← hno] at hS'
      obtain ⟨hF, blkF⟩ := SAt.ins (c := c) hS' gg hno ⟨g, cap, rfl, r1, kp, r3⟩ (hmp.gb (gb_trans H1.out.1 gg)) hof
      have tV := (hS.grow gg)
      have nv : ∀ (a : Addr), (a.block = sx ∨ a.block = wb) → ¬ (Value.slice oa no oc).ownBlock = some a.block := fun a e e2 => by
        rw [hno] at e2
        have t1 := tV.tvo e2
        rcases e with e | e
        · rw [e] at t1; exact (sxt.gb gg).ne t1 (by decide) rfl
        · rw [e] at t1; exact (H1.out.2.2.2.gb gg).ne t1 (by decide) rfl
      refine ⟨g, cap, rfl, cell_cur blkF rfl, by simp [World.frozen?, blkF], fun a y e hc => kp.cell hc (nv a e), fun a u y e hc => ((Tk.Kp.refl (fun b => b = sb) w4).setCell (.inl rfl) u).cell hc (fun e2 => ?_), _, _, hF, ?_, ?_⟩
      · have t1 := tV.tsb
        rcases e with e | e
        · rw [← e2, e] at t1; exact (sxt.gb gg).ne t1 (by decide) rfl
        · rw [← e2, e] at t1; exact (H1.out.2.2.2.gb gg).ne t1 (by decide) rfl
      · rw [insP_at q p _ hd, ← hc]
        unfold opn
        rw [List.map_append, List.map_cons, List.map_take, List.map_drop]
      · rw [List.length_append, List.length_cons, List.length_take, List.length_drop]; omega
    have C4 : Hid (∀ w3, Tk.Gw wc w3 → w3.drew.cell? ⟨sb, 4, none⟩ = some (.slice oa no oc) ∧ (w3.alloc (.cells #[.pointer (some ⟨pb, 0, none⟩), .int .u64 bh, .int .u64 bl] 121)).cell? ⟨sb, 4, none⟩ = some (.slice oa no oc) ∧ (fun W => W.cell? ⟨sx, 0, none⟩ = some (.pointer (some ⟨sb, 0, none⟩)) ∧ W.cell? ⟨wb, 0, none⟩ = some (.int .u64 bh) ∧ W.cell? ⟨wb, 1, none⟩ = some (.int .u64 bl)) w3.drew) := fun w3 g3 => by
      rw [hno]
      exact ⟨gb_keeps g3.gr.drew c4, gb_keeps (gb_alloc g3.gr _) c4, gb_keeps g3.gr.drew sxc, gb_keeps g3.gr.drew H1.out.2.1, gb_keeps g3.gr.drew H1.out.2.2.1⟩
    rw [← hno] at cS c4
    clear hd hof hS fz hc hol hcl hget H1 HS BB hS0 hmp sxt c0 c1 c2 c3 NO hno
    go_wp2_with fail
    go_fit cS
    rintro e w3 ⟨rfl, g3⟩
    have cN := IX.out _ g3
    have FN : Hid _ := FX.out _ g3
    obtain ⟨c5, c5a, FS4⟩ := C4.out _ g3
    clear cS g3 IX FX c4 C4 sxc
    go_wp2_with fail
    refine wp_region_held_drew (S := fun W => W.cell? ⟨sx, 0, none⟩ = some (.pointer (some ⟨sb, 0, none⟩)) ∧ W.cell? ⟨wb, 0, none⟩ = some (.int .u64 bh) ∧ W.cell? ⟨wb, 1, none⟩ = some (.int .u64 bl)) (by kernel_rfl) (FS4) (fun hHeld => ?_)
    refine wpAnyH_take (i := 0) (v := ?_) rfl (by kernel_rfl) (by kernel_rfl) (by kernel_rfl) (fun _ _ _ h => h) (Or.inl ⟨by rfl, ?_⟩) (by assumption) ?_
    rotate_left 1
    · (intro w hSw; (obtain ⟨s0, s1, s2⟩ := hSw); go_simp; try with_reducible rfl)
    refine wpAnyH_take (i := 1) (v := ?_) rfl (by kernel_rfl) (by kernel_rfl) (by kernel_rfl) (fun _ _ _ h => h) (Or.inl ⟨by rfl, ?_⟩) (by assumption) ?_
    rotate_left 1
    · (intro w hSw; (obtain ⟨s0, s1, s2⟩ := hSw); go_simp; try with_reducible rfl)
    refine wpAnyH_take (i := 2) (v := ?_) rfl (by kernel_rfl) (by kernel_rfl) (by kernel_rfl) (fun _ _ _ h => h) (Or.inl ⟨by rfl, ?_⟩) (by assumption) ?_
    rotate_left 1
    · (intro w hSw; (obtain ⟨s0, s1, s2⟩ := hSw); go_simp; try with_reducible rfl)
    refine wpAnyH_take (i := 3) (v := ?_) rfl (by kernel_rfl) (by kernel_rfl) (by kernel_rfl) (fun _ _ _ h => h) (Or.inl ⟨by rfl, ?_⟩) (by assumption) ?_
    rotate_left 1
    · (intro w hSw; (obtain ⟨s0, s1, s2⟩ := hSw); go_simp; try with_reducible rfl)
    refine wpAnyH_take (i := 5) (v := ?_) rfl (by kernel_rfl) (by kernel_rfl) (by kernel_rfl) (fun _ _ _ h => h) (Or.inl ⟨by rfl, ?_⟩) (by assumption) ?_
    rotate_left 1
    · (intro w hSw; (obtain ⟨s0, s1, s2⟩ := hSw); go_simp; try with_reducible rfl)
    refine wpAnyH_take (i := 6) (v := ?_) rfl (by kernel_rfl) (by kernel_rfl) (by kernel_rfl) (fun _ _ _ h => h) (Or.inl ⟨by rfl, ?_⟩) (by assumption) ?_
    rotate_left 1
    · (intro w hSw; (obtain ⟨s0, s1, s2⟩ := hSw); go_simp; try with_reducible rfl)
    refine wpAnyH_take (i := 7) (v := ?_) rfl (by kernel_rfl) (by kernel_rfl) (by kernel_rfl) (fun _ _ _ h => h) (Or.inl ⟨by rfl, ?_⟩) (by assumption) ?_
    rotate_left 1
    · (intro w hSw; (obtain ⟨s0, s1, s2⟩ := hSw); go_simp; try with_reducible rfl)
    refine wpAnyH_take (i := 8) (v := ?_) rfl (by kernel_rfl) (by kernel_rfl) (by kernel_rfl) (fun _ _ _ h => h) (Or.inl ⟨by rfl, ?_⟩) (by assumption) ?_
    rotate_left 1
    · (intro w hSw; (obtain ⟨s0, s1, s2⟩ := hSw); go_simp; try with_reducible rfl)
    refine wpAnyH_ready (rs := [4, 9]) (by kernel_rfl) (by simp) ?_
    refine AllReadyH.cons rfl (fun K hK => ?_) (AllReadyH.cons rfl (fun K hK => ?_) AllReadyH.nil)
    · go_simp
      refine hK.out _ _ (⟨hHeld.1, hHeld.2.1, hHeld.2.2⟩) (fun hHeld => ?_)
      clear hK K
      refine wpAnyH_ready (rs := [9]) (by kernel_rfl) (by simp) ?_
      refine AllReadyH.cons rfl (fun K hK => ?_) AllReadyH.nil
      go_simp
      refine hK.out _ _ (⟨gb_keeps (gb_alloc (Below.refl _ _) _) hHeld.1, gb_keeps (gb_alloc (Below.refl _ _) _) hHeld.2.1, gb_keeps (gb_alloc (Below.refl _ _) _) hHeld.2.2⟩) (fun hHeld => ?_)
      clear hK K
      refine wpAnyH_ready (rs := [10]) (by kernel_rfl) (by simp) ?_
      refine AllReadyH.cons rfl (fun K hK => ?_) AllReadyH.nil
      go_simp
      go_fit cN
      intro e w4 hO
      obtain ⟨g, cap, rfl, k5, f5, kk4, kk5, RR⟩ := FN.out _ _ hO
      clear hO cN FN
      refine hK.out _ _ (⟨kk4 _ _ (.inl rfl) hHeld.1, kk4 _ _ (.inr rfl) hHeld.2.1, kk4 _ _ (.inr rfl) hHeld.2.2⟩) (fun hHeld => ?_)
      clear hK K
      refine wpAnyH_take (i := 11) (v := ?_) rfl (by kernel_rfl) (by kernel_rfl) (by kernel_rfl) (fun _ _ _ h => h) (Or.inl ⟨by rfl, ?_⟩) (by assumption) ?_
      rotate_left 1
      · (intro w hSw; (obtain ⟨s0, s1, s2⟩ := hSw); go_simp; try with_reducible rfl)
      refine wpAnyH_take (i := 12) (v := ?_) rfl (by kernel_rfl) (by kernel_rfl) (by kernel_rfl) (fun _ _ _ h => h) (Or.inl ⟨by rfl, ?_⟩) (by assumption) ?_
      rotate_left 1
      · (intro w hSw; (obtain ⟨s0, s1, s2⟩ := hSw); go_simp; try with_reducible rfl)
      refine wpAnyH_ready (rs := [13]) (by kernel_rfl) (by simp) ?_
      refine AllReadyH.cons rfl (fun K hK => ?_) AllReadyH.nil
      go_simp
      refine hK.out _ _ (⟨kk5 _ (.inl rfl) hHeld.1, kk5 _ (.inr rfl) hHeld.2.1, kk5 _ (.inr rfl) hHeld.2.2⟩) (fun hHeld => ?_)
      clear hK K
      refine wpAnyH_done (by kernel_rfl) ?_ _
      clear hHeld kk4 kk5 k5 f5
      go_wp2
      go_end0
      exact ⟨rfl, RR.out⟩
    · go_simp
      refine hK.out _ _ (⟨gb_keeps (gb_alloc (Below.refl _ _) _) hHeld.1, gb_keeps (gb_alloc (Below.refl _ _) _) hHeld.2.1, gb_keeps (gb_alloc (Below.refl _ _) _) hHeld.2.2⟩) (fun hHeld => ?_)
      clear hK K
      refine wpAnyH_ready (rs := [4]) (by kernel_rfl) (by simp) ?_
      refine AllReadyH.cons rfl (fun K hK => ?_) AllReadyH.nil
      go_simp
      refine hK.out _ _ (⟨hHeld.1, hHeld.2.1, hHeld.2.2⟩) (fun hHeld => ?_)
      clear hK K
      refine wpAnyH_ready (rs := [10]) (by kernel_rfl) (by simp) ?_
      refine AllReadyH.cons rfl (fun K hK => ?_) AllReadyH.nil
      go_simp
      go_fit cN
      intro e w4 hO
      obtain ⟨g, cap, rfl, k5, f5, kk4, kk5, RR⟩ := FN.out _ _ hO
      clear hO cN FN
      refine hK.out _ _ (⟨kk4 _ _ (.inl rfl) hHeld.1, kk4 _ _ (.inr rfl) hHeld.2.1, kk4 _ _ (.inr rfl) hHeld.2.2⟩) (fun hHeld => ?_)
      clear hK K
      refine wpAnyH_take (i := 11) (v := ?_) rfl (by kernel_rfl) (by kernel_rfl) (by kernel_rfl) (fun _ _ _ h => h) (Or.inl ⟨by rfl, ?_⟩) (by assumption) ?_
      rotate_left 1
      · (intro w hSw; (obtain ⟨s0, s1, s2⟩ := hSw); go_simp; try with_reducible rfl)
      refine wpAnyH_take (i := 12) (v := ?_) rfl (by kernel_rfl) (by kernel_rfl) (by kernel_rfl) (fun _ _ _ h => h) (Or.inl ⟨by rfl, ?_⟩) (by assumption) ?_
      rotate_left 1
      · (intro w hSw; (obtain ⟨s0, s1, s2⟩ := hSw); go_simp; try with_reducible rfl)
      refine wpAnyH_ready (rs := [13]) (by kernel_rfl) (by simp) ?_
      refine AllReadyH.cons rfl (fun K hK => ?_) AllReadyH.nil
      go_simp
      refine hK.out _ _ (⟨kk5 _ (.inl rfl) hHeld.1, kk5 _ (.inr rfl) hHeld.2.1, kk5 _ (.inr rfl) hHeld.2.2⟩) (fun hHeld => ?_)
      clear hK K
      refine wpAnyH_done (by kernel_rfl) ?_ _
      clear hHeld kk4 kk5 k5 f5
      go_wp2
      go_end0
      exact ⟨rfl, RR.out⟩
theorem await_nil (W : World) (sb : Nat) : Calls Tryz.prog 41 #[.pointer (some ⟨sb, 0, none⟩), .pointer none] W fun e W' => e = .returned (.tuple #[]) ∧ Gb W W' := by
  have G : Hid (Gb W (W.alloc (.cells #[.pointer (some ⟨sb, 0, none⟩)] 88))) := gb_alloc (Below.refl _ _) _
  go_enter Tryz.func41, Tryz.ntmps41
  go_wp2
  exact bodyPost_ret (v := .tuple #[]) (by simp [results, Tryz.results41, go_sem]) rfl ⟨rfl, G.out⟩
end Go.Proofs.YtepjbdklljlecaaGreat
