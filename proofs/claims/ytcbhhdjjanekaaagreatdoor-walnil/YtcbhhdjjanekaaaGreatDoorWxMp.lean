/- Maps with whole keys, of the program's own, whose elements are whatever they are: what lies under each key, as values. Of no program. -/
import Derived.Maps.OwnSet
import Derived.Maps.RangeWalk
import Derived.Below
namespace Go.Proofs.YtcbhhdjjanekaaaGreatDoor
open Go.RowKit Go.Maps

/-- An element read as itself. -/
def slf (v : Value) : Option (DataW Value × List MemPlace) := some (.held v, [])
/-- A key. -/
abbrev ky (x : Int) : Lit := .int .i64 x
def KWf (x : Int) : Prop := -9223372036854775808 ≤ x ∧ x ≤ 9223372036854775807
theorem KWf.wf {x : Int} (h : KWf x) : (Lit.int .i64 x).wf = true := by
  obtain ⟨h1, h2⟩ := h
  have e1 : IntKind.i64.min = -9223372036854775808 := rfl
  have e2 : IntKind.i64.max = 9223372036854775807 := rfl
  simp [Lit.wf, e1, e2]
  omega
/-- Block b is a map with just the keys ks, and f tells what lies under each. -/
def MapA (P : Program) (kt : TypeId) (w : World) (b : Nat) (ks : List Int) (f : Int → Value) : Prop :=
  ∃ D : DataW Value, w.ownsMap P kt slf b (Maps.size D) D ∧ ks.Nodup ∧ (∀ x ∈ ks, KWf x) ∧ Maps.size D = ks.length ∧ (∀ x, KWf x → Maps.has D (ky x) = decide (x ∈ ks)) ∧ ∀ x ∈ ks, ∀ z, D.atKey (ky x) z = .held (f x)

variable {P : Program} {kt t e : TypeId} {w w' : World} {b : Nat} {ks : List Int} {f : Int → Value}

theorem ky_is (x : Int) : WideAt.IsKeyLit (ky x) := by
  simp [WideAt.IsKeyLit]
theorem own_tight {k : TypeId} {R : Value → Option (DataW Value × List MemPlace)} {n : Nat} {D : DataW Value} (h : w.ownsMap P k R b n D) : w.ownsMap P k R b (Maps.size D) D := by
  obtain ⟨es, clock, hb, F, _, rfl⟩ := h
  exact ⟨es, clock, hb, F, by simp [Maps.size, length_sorted], rfl⟩
theorem own_same {k : TypeId} {R : Value → Option (DataW Value × List MemPlace)} {n : Nat} {D : DataW Value} (h : w.ownsMap P k R b n D) (hb : w'.heap[b]? = w.heap[b]?) : w'.ownsMap P k R b n D := by
  obtain ⟨es, clock, h1, F, h2, h3⟩ := h
  exact ⟨es, clock, hb.trans h1, F, h2, h3⟩
theorem MapA.same (h : MapA P kt w b ks f) (hb : w'.heap[b]? = w.heap[b]?) : MapA P kt w' b ks f := by
  obtain ⟨D, ho, r⟩ := h
  exact ⟨D, own_same ho hb, r⟩
theorem MapA.lt (h : MapA P kt w b ks f) : b < w.heap.size := by
  obtain ⟨D, ho, _⟩ := h
  exact ho.lt
theorem MapA.isMap (h : MapA P kt w b ks f) : ∃ es clock, w.heap[b]? = some (.map es clock) := by
  obtain ⟨D, ⟨es, clock, hb, _⟩, _⟩ := h
  exact ⟨es, clock, hb⟩
theorem MapA.new (w : World) (f : Int → Value) : MapA P kt (w.alloc (.map #[] 0)) w.heap.size [] f :=
  ⟨.map [], World.ownsMap_made w P kt slf, List.nodup_nil, by simp, rfl, fun x _ => by simp [Maps.has], by simp⟩
theorem MapA.ext {g : Int → Value} (h : MapA P kt w b ks f) (hg : ∀ x ∈ ks, g x = f x) : MapA P kt w b ks g := by
  obtain ⟨D, ho, hn, hw, hs, hh, ha⟩ := h
  exact ⟨D, ho, hn, hw, hs, hh, fun x hx z => by rw [ha x hx z, hg x hx]⟩
theorem MapA.perm {ls : List Int} (h : MapA P kt w b ks f) (hp : ls.Perm ks) : MapA P kt w b ls f := by
  obtain ⟨D, ho, hn, hw, hs, hh, ha⟩ := h
  refine ⟨D, ho, hp.nodup_iff.2 hn, fun x hx => hw x (hp.mem_iff.1 hx), by rw [hs, hp.length_eq], fun x hx => ?_, fun x hx z => ha x (hp.mem_iff.1 hx) z⟩
  rw [hh x hx]
  exact decide_eq_decide.2 hp.mem_iff.symm

/-- len(m). -/
theorem MapA.len (h : MapA P kt w b ks f) (ht : P.underlying t = some (.map kt e)) (ty : TypeId) : (Builtin.len_ #[t] ty #[.map (some b)]).run P w = .ok (.int .i64 (ks.length : Int)) w := by
  obtain ⟨D, ho, hn, hw, hs, hh, ha⟩ := h
  rw [ho.len ht ty, hs]
/-- v, ok := m[x]. -/
theorem MapA.look_ok (h : MapA P kt w b ks f) (hk : P.underlying kt = some (.int .i64)) (ht : P.underlying t = some (.map kt e)) {z : Value} (hz : (zeroValue e).run P w = .ok z w) {x : Int} (hx : KWf x) :
    (Instr.lookup t (.map (some b)) (.int .i64 x) true).run P w = .ok (.tuple #[if x ∈ ks then f x else z, .bool (decide (x ∈ ks))]) w := by
  obtain ⟨D, ho, hn, hw, hs, hh, ha⟩ := h
  obtain ⟨v, ps, hrun, hv⟩ := ho.look_ok (int_keyed hk) ht hz (zd := .held z) (zp := []) rfl (keyOf_int_mk hk hx.wf)
  rw [hrun, hh x hx]
  simp only [slf, Option.some.injEq, Prod.mk.injEq] at hv
  by_cases hm : x ∈ ks
  · rw [ha x hm] at hv
    injection hv.1 with e1
    rw [if_pos hm, e1]
  · have h0 : Maps.has D (ky x) = false := by rw [hh x hx]; simp [hm]
    rw [atKey_of_not_has h0] at hv
    injection hv.1 with e1
    rw [if_neg hm, e1]
/-- m[x]. -/
theorem MapA.look (h : MapA P kt w b ks f) (hk : P.underlying kt = some (.int .i64)) (ht : P.underlying t = some (.map kt e)) {z : Value} (hz : (zeroValue e).run P w = .ok z w) {x : Int} (hx : KWf x) :
    (Instr.lookup t (.map (some b)) (.int .i64 x) false).run P w = .ok (if x ∈ ks then f x else z) w := by
  obtain ⟨D, ho, hn, hw, hs, hh, ha⟩ := h
  obtain ⟨v, ps, hrun, hv⟩ := ho.lookup (int_keyed hk) ht hz (zd := .held z) (zp := []) rfl (keyOf_int_mk hk hx.wf)
  rw [hrun]
  simp only [slf, Option.some.injEq, Prod.mk.injEq] at hv
  by_cases hm : x ∈ ks
  · rw [ha x hm] at hv
    injection hv.1 with e1
    rw [if_pos hm, e1]
  · have h0 : Maps.has D (ky x) = false := by rw [hh x hx]; simp [hm]
    rw [atKey_of_not_has h0] at hv
    injection hv.1 with e1
    rw [if_neg hm, e1]
/-- The keys behind m[x] = v. -/
def putK (ks : List Int) (x : Int) : List Int := if x ∈ ks then ks else x :: ks
def putF (f : Int → Value) (x : Int) (v : Value) : Int → Value := fun y => if y = x then v else f y
theorem ky_ne {x y : Int} (h : y ≠ x) : ky y ≠ ky x := by
  intro e
  injection e with _ e
  exact h e
theorem mem_putK {ks : List Int} {x y : Int} : y ∈ putK ks x ↔ y = x ∨ y ∈ ks := by
  unfold putK
  split
  · rename_i h
    constructor
    · exact Or.inr
    · rintro (rfl | h')
      · exact h
      · exact h'
  · simp
/-- m[x] = v. -/
theorem MapA.put (h : MapA P kt w b ks f) (hk : P.underlying kt = some (.int .i64)) (ht : P.underlying t = some (.map kt e)) (hn : ks.length < 1000000) {x : Int} (hx : KWf x) (v : Value) :
    ∃ w', (Instr.mapUpdate t (.map (some b)) (.int .i64 x) v).run P w = .ok () w' ∧ MapA P kt w' b (putK ks x) (putF f x v) ∧ w.mapTurned w' b := by
  obtain ⟨D, ho, hnd, hw, hs, hh, ha⟩ := h
  have htidy := ho.tidy (int_keyed hk)
  obtain ⟨w', hrun, ho', hm⟩ := ho.store (int_keyed hk) ht (by rw [hs]; unfold maxLen; omega) (keyOf_int_mk hk hx.wf) (d := .held v) (ps := []) rfl
  refine ⟨w', hrun, ⟨D.put (ky x) (.held v), own_tight ho', ?_, ?_, ?_, ?_, ?_⟩, hm⟩
  · unfold putK; split
    · exact hnd
    · rename_i hx'; exact List.nodup_cons.2 ⟨hx', hnd⟩
  · intro y hy
    rcases mem_putK.1 hy with rfl | hy
    · exact hx
    · exact hw y hy
  · rw [size_put htidy, hh x hx]
    unfold putK
    by_cases hm' : x ∈ ks
    · simp [hm', hs]
    · simp [hm', hs]
  · intro y hy
    by_cases hyx : y = x
    · subst hyx
      rw [has_put_same htidy.isMap (ky_is y)]
      simp [mem_putK]
    · rw [has_put_other (ky_ne hyx), hh y hy]
      exact decide_eq_decide.2 (by rw [mem_putK]; simp [hyx])
  · intro y hy z
    by_cases hyx : y = x
    · subst hyx
      rw [atKey_put_same htidy.isMap (ky_is y)]
      simp [putF]
    · rw [atKey_put_other (ky_ne hyx)]
      have hy' : y ∈ ks := by
        rcases mem_putK.1 hy with h1 | h1
        · exact absurd h1 hyx
        · exact h1
      rw [ha y hy' z]
      simp [putF, hyx]
/-- delete(m, x). -/
theorem MapA.del (h : MapA P kt w b ks f) (hk : P.underlying kt = some (.int .i64)) (ht : P.underlying t = some (.map kt e)) {x : Int} (hx : KWf x) (ty : TypeId) :
    ∃ w', (Builtin.delete_ #[t, kt] ty #[.map (some b), .int .i64 x]).run P w = .ok (.tuple #[]) w' ∧ MapA P kt w' b (ks.erase x) f ∧ w.mapTurned w' b := by
  obtain ⟨D, ho, hnd, hw, hs, hh, ha⟩ := h
  have htidy := ho.tidy (int_keyed hk)
  obtain ⟨w', hrun, ho', hm⟩ := ho.drop (int_keyed hk) ht (keyOf_int_mk hk hx.wf) ty
  refine ⟨w', hrun, ⟨D.del (ky x), own_tight ho', hnd.erase x, fun y hy => hw y (List.mem_of_mem_erase hy), ?_, ?_, ?_⟩, hm⟩
  · have e1 := size_del (k := ky x) htidy
    rw [hh x hx, hs] at e1
    rw [List.length_erase]
    by_cases hm' : x ∈ ks
    · have : 0 < ks.length := List.length_pos_of_mem hm'
      simp [hm'] at e1 ⊢
      omega
    · simp [hm'] at e1 ⊢
      omega
  · intro y hy
    by_cases hyx : y = x
    · subst hyx
      rw [has_del_same]
      have : y ∉ ks.erase y := fun h' => (List.Nodup.not_mem_erase hnd) h'
      simp [this]
    · rw [has_del_other (ky_ne hyx), hh y hy]
      exact decide_eq_decide.2 (by rw [List.mem_erase_of_ne hyx])
  · intro y hy z
    have hyx : y ≠ x := fun h' => by subst h'; exact (List.Nodup.not_mem_erase hnd) hy
    rw [atKey_del_other (ky_ne hyx), ha y (List.mem_of_mem_erase hy) z]

/-- A range over the map under way: the keys lf are still to come. -/
def RngA (P : Program) (kt : TypeId) (w : World) (b r : Nat) (ks lf : List Int) (f : Int → Value) : Prop :=
  ∃ (D : DataW Value) (left : Lit → Bool) (cnt : Nat), w.ranges P kt slf b r (Maps.size D) D left cnt ∧ (ks.Nodup ∧ (∀ x ∈ ks, KWf x) ∧ Maps.size D = ks.length ∧ (∀ x, KWf x → Maps.has D (ky x) = decide (x ∈ ks)) ∧ ∀ x ∈ ks, ∀ z, D.atKey (ky x) z = .held (f x)) ∧
    lf.Nodup ∧ (∀ x ∈ lf, x ∈ ks) ∧ ∀ x, KWf x → left (ky x) = decide (x ∈ lf)
theorem RngA.map {r : Nat} {lf : List Int} (h : RngA P kt w b r ks lf f) : MapA P kt w b ks f := by
  obtain ⟨D, left, cnt, hr, hD, _⟩ := h
  exact ⟨D, hr.owns, hD⟩
theorem RngA.same {r : Nat} {lf : List Int} (h : RngA P kt w b r ks lf f) (hb : w'.heap[b]? = w.heap[b]?) (hr' : w'.heap[r]? = w.heap[r]?) : RngA P kt w' b r ks lf f := by
  obtain ⟨D, left, cnt, ⟨es, clock, since, seen, c0, h1, F, h2, h3, h4, h5⟩, hD⟩ := h
  exact ⟨D, left, cnt, ⟨es, clock, since, seen, c0, hb.trans h1, F, h2, h3, hr'.trans h4, h5⟩, hD⟩
theorem RngA.ne {r : Nat} {lf : List Int} (h : RngA P kt w b r ks lf f) : r ≠ b := by
  obtain ⟨D, left, cnt, hr, _⟩ := h
  exact hr.ne
theorem RngA.lt {r : Nat} {lf : List Int} (h : RngA P kt w b r ks lf f) : r < w.heap.size := by
  obtain ⟨D, left, cnt, hr, _⟩ := h
  exact hr.lt
/-- range m. -/
theorem MapA.range (h : MapA P kt w b ks f) (hk : P.underlying kt = some (.int .i64)) (ht : P.underlying t = some (.map kt e)) :
    ∃ w', (Instr.range t (.map (some b))).run P w = .ok (.pointer (some ⟨w.heap.size, 0, none⟩)) w' ∧ RngA P kt w' b w.heap.size ks ks f ∧ w.grownBy w' none ∧ w'.heap.size = w.heap.size + 1 := by
  obtain ⟨D, ho, hD⟩ := h
  obtain ⟨w', hrun, hr, hg, hs⟩ := ho.range (int_keyed hk) ht
  exact ⟨w', hrun, ⟨D, _, _, hr, hD, hD.1, fun x hx => hx, fun x hx => hD.2.2.2.1 x hx⟩, hg, hs⟩
theorem same_ky {x y : Int} : (ky y).sameKey (ky x) = decide (y = x) := by
  by_cases h : y = x
  · subst h
    rw [WideAt.sameKey_self (ky_is y)]; simp
  · rw [sameKey_ne (ky_ne h)]; simp [h]
/-- The step. -/
theorem RngA.next {r : Nat} {lf : List Int} (h : RngA P kt w b r ks lf f) (hk : P.underlying kt = some (.int .i64)) (ty : TypeId) :
    (lf = [] ∧ (Instr.next (.pointer (some ⟨r, 0, none⟩)) false ty).run P w = .ok (.tuple #[.bool false]) w) ∨
    ∃ x w', x ∈ lf ∧ (Instr.next (.pointer (some ⟨r, 0, none⟩)) false ty).run P w = .ok (.tuple #[.bool true, .int .i64 x, f x]) w' ∧ RngA P kt w' b r ks (lf.erase x) f ∧ w.grownBy w' (some r) ∧ w'.heap.size = w.heap.size ∧
      (Instr.entry (.pointer (some ⟨r, 0, none⟩))).run P w' = .ok (.tuple #[.int .i64 x, f x]) w' := by
  obtain ⟨D, left, cnt, hr, hD, hl1, hl2, hl3⟩ := h
  rcases hr.next (int_keyed hk) ty with ⟨_, h0, hrun⟩ | ⟨key, v, kl, y, w', cnt', hkey, hlk, hv, hat, hrun, hrg, _, hg, hs, hen⟩
  · refine Or.inl ⟨?_, hrun⟩
    cases lf with
    | nil => rfl
    | cons x r' =>
      have h1 := hl3 x (hD.2.1 x (hl2 x List.mem_cons_self))
      rw [h0] at h1
      simp at h1
  · obtain ⟨x, rfl, rfl, hw⟩ := keyOf_int_inv hk hkey
    have hx : KWf x := by
      have e1 : IntKind.i64.min = -9223372036854775808 := rfl
      have e2 : IntKind.i64.max = 9223372036854775807 := rfl
      simp [Lit.wf, e1, e2] at hw
      exact ⟨hw.1, hw.2⟩
    have hm : x ∈ lf := by
      have := hl3 x hx
      rw [show left (ky x) = true from hlk] at this
      simpa using this.symm
    have hv' : v = f x := by
      have h1 := hat (.held v)
      rw [hD.2.2.2.2 x (hl2 x hm)] at h1
      simp only [slf, Option.some.injEq] at hv
      rw [← hv] at h1
      injection h1 with h1
      exact h1.symm
    subst hv'
    refine Or.inr ⟨x, w', hm, hrun, ⟨D, _, cnt', hrg, hD, hl1.erase x, fun z hz => hl2 z (List.mem_of_mem_erase hz), fun z hz => ?_⟩, hg, hs, hen⟩
    show (left (ky z) && !(ky z).sameKey (ky x)) = _
    rw [hl3 z hz, same_ky]
    by_cases hzx : z = x
    · subst hzx
      have : z ∉ lf.erase z := fun h' => (List.Nodup.not_mem_erase hl1) h'
      simp [this]
    · simp [hzx, List.mem_erase_of_ne hzx]

end Go.Proofs.YtcbhhdjjanekaaaGreatDoor
