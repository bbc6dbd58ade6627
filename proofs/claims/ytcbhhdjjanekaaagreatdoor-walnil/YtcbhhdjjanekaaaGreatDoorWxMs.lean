/- Maps with strings for keys, of the program's own, whose elements are whatever they are: what lies under each key, as values. Of no program. -/
import Derived.Test.YtcbhhdjjanekaaaGreatDoorWxMp
import Derived.Test.YtcbhhdjjanekaaaGreatDoorWx5
namespace Go.Proofs.YtcbhhdjjanekaaaGreatDoor
open Go.RowKit Go.Maps

/-- A key. -/
abbrev kyS (x : List UInt8) : Lit := .string x
def KWfS (x : List UInt8) : Prop := x.length ≤ maxLen
theorem KWfS.kv {P : Program} {kt : TypeId} (hk : P.underlying kt = some .string) {x : List UInt8} (h : KWfS x) : keyOf P kt (.string (sb x)) = some (.string x) := by
  have hs : (sb x).size = x.length := by simp [sb, ByteArray.size]
  have := Go.WideMaps.keyOf_string_mk hk (s := sb x) (by unfold KWfS at h; omega)
  rw [this]; simp [sb]
/-- Block b is a map with just the keys ks, and f tells what lies under each. -/
def MapS (P : Program) (kt : TypeId) (w : World) (b : Nat) (ks : List (List UInt8)) (f : List UInt8 → Value) : Prop :=
  ∃ D : DataW Value, w.ownsMap P kt slf b (Maps.size D) D ∧ ks.Nodup ∧ (∀ x ∈ ks, KWfS x) ∧ Maps.size D = ks.length ∧ (∀ x, KWfS x → Maps.has D (kyS x) = decide (x ∈ ks)) ∧ ∀ x ∈ ks, ∀ z, D.atKey (kyS x) z = .held (f x)

variable {P : Program} {kt t e : TypeId} {w w' : World} {b : Nat} {ks : List (List UInt8)} {f : List UInt8 → Value}

theorem kyS_is (x : List UInt8) : WideAt.IsKeyLit (kyS x) := by
  simp [WideAt.IsKeyLit]
theorem MapS.same (h : MapS P kt w b ks f) (hb : w'.heap[b]? = w.heap[b]?) : MapS P kt w' b ks f := by
  obtain ⟨D, ho, r⟩ := h
  exact ⟨D, own_same ho hb, r⟩
theorem MapS.lt (h : MapS P kt w b ks f) : b < w.heap.size := by
  obtain ⟨D, ho, _⟩ := h
  exact ho.lt
theorem MapS.isMap (h : MapS P kt w b ks f) : ∃ es clock, w.heap[b]? = some (.map es clock) := by
  obtain ⟨D, ⟨es, clock, hb, _⟩, _⟩ := h
  exact ⟨es, clock, hb⟩
theorem MapS.new (w : World) (f : List UInt8 → Value) : MapS P kt (w.alloc (.map #[] 0)) w.heap.size [] f :=
  ⟨.map [], World.ownsMap_made w P kt slf, List.nodup_nil, by simp, rfl, fun x _ => by simp [Maps.has], by simp⟩
theorem MapS.ext {g : List UInt8 → Value} (h : MapS P kt w b ks f) (hg : ∀ x ∈ ks, g x = f x) : MapS P kt w b ks g := by
  obtain ⟨D, ho, hn, hw, hs, hh, ha⟩ := h
  exact ⟨D, ho, hn, hw, hs, hh, fun x hx z => by rw [ha x hx z, hg x hx]⟩
theorem MapS.perm {ls : List (List UInt8)} (h : MapS P kt w b ks f) (hp : ls.Perm ks) : MapS P kt w b ls f := by
  obtain ⟨D, ho, hn, hw, hs, hh, ha⟩ := h
  refine ⟨D, ho, hp.nodup_iff.2 hn, fun x hx => hw x (hp.mem_iff.1 hx), by rw [hs, hp.length_eq], fun x hx => ?_, fun x hx z => ha x (hp.mem_iff.1 hx) z⟩
  rw [hh x hx]
  exact decide_eq_decide.2 hp.mem_iff.symm

/-- len(m). -/
theorem MapS.len (h : MapS P kt w b ks f) (ht : P.underlying t = some (.map kt e)) (ty : TypeId) : (Builtin.len_ #[t] ty #[.map (some b)]).run P w = .ok (.int .i64 (ks.length : Int)) w := by
  obtain ⟨D, ho, hn, hw, hs, hh, ha⟩ := h
  rw [ho.len ht ty, hs]
/-- v, ok := m[x]. -/
theorem MapS.look_ok (h : MapS P kt w b ks f) (hk : P.underlying kt = some .string) (ht : P.underlying t = some (.map kt e)) {z : Value} (hz : (zeroValue e).run P w = .ok z w) {x : List UInt8} (hx : KWfS x) :
    (Instr.lookup t (.map (some b)) (.string (sb x)) true).run P w = .ok (.tuple #[if x ∈ ks then f x else z, .bool (decide (x ∈ ks))]) w := by
  obtain ⟨D, ho, hn, hw, hs, hh, ha⟩ := h
  obtain ⟨v, ps, hrun, hv⟩ := ho.look_ok (string_keyed hk) ht hz (zd := .held z) (zp := []) rfl (KWfS.kv hk hx)
  rw [hrun, hh x hx]
  simp only [slf, Option.some.injEq, Prod.mk.injEq] at hv
  by_cases hm : x ∈ ks
  · rw [ha x hm] at hv
    injection hv.1 with e1
    rw [if_pos hm, e1]
  · have h0 : Maps.has D (kyS x) = false := by rw [hh x hx]; simp [hm]
    rw [atKey_of_not_has h0] at hv
    injection hv.1 with e1
    rw [if_neg hm, e1]
/-- m[x]. -/
theorem MapS.look (h : MapS P kt w b ks f) (hk : P.underlying kt = some .string) (ht : P.underlying t = some (.map kt e)) {z : Value} (hz : (zeroValue e).run P w = .ok z w) {x : List UInt8} (hx : KWfS x) :
    (Instr.lookup t (.map (some b)) (.string (sb x)) false).run P w = .ok (if x ∈ ks then f x else z) w := by
  obtain ⟨D, ho, hn, hw, hs, hh, ha⟩ := h
  obtain ⟨v, ps, hrun, hv⟩ := ho.lookup (string_keyed hk) ht hz (zd := .held z) (zp := []) rfl (KWfS.kv hk hx)
  rw [hrun]
  simp only [slf, Option.some.injEq, Prod.mk.injEq] at hv
  by_cases hm : x ∈ ks
  · rw [ha x hm] at hv
    injection hv.1 with e1
    rw [if_pos hm, e1]
  · have h0 : Maps.has D (kyS x) = false := by rw [hh x hx]; simp [hm]
    rw [atKey_of_not_has h0] at hv
    injection hv.1 with e1
    rw [if_neg hm, e1]
/-- The keys behind m[x] = v. -/
def putKS (ks : List (List UInt8)) (x : List UInt8) : List (List UInt8) := if x ∈ ks then ks else x :: ks
def putFS (f : List UInt8 → Value) (x : List UInt8) (v : Value) : List UInt8 → Value := fun y => if y = x then v else f y
theorem kyS_ne {x y : List UInt8} (h : y ≠ x) : kyS y ≠ kyS x := by
  intro e
  injection e with e
  exact h e
theorem mem_putKS {ks : List (List UInt8)} {x y : List UInt8} : y ∈ putKS ks x ↔ y = x ∨ y ∈ ks := by
  unfold putKS
  split
  · rename_i h
    constructor
    · exact Or.inr
    · rintro (rfl | h')
      · exact h
      · exact h'
  · simp
/-- m[x] = v. -/
theorem MapS.put (h : MapS P kt w b ks f) (hk : P.underlying kt = some .string) (ht : P.underlying t = some (.map kt e)) (hn : ks.length < 1000000) {x : List UInt8} (hx : KWfS x) (v : Value) :
    ∃ w', (Instr.mapUpdate t (.map (some b)) (.string (sb x)) v).run P w = .ok () w' ∧ MapS P kt w' b (putKS ks x) (putFS f x v) ∧ w.mapTurned w' b := by
  obtain ⟨D, ho, hnd, hw, hs, hh, ha⟩ := h
  have htidy := ho.tidy (string_keyed hk)
  obtain ⟨w', hrun, ho', hm⟩ := ho.store (string_keyed hk) ht (by rw [hs]; unfold maxLen; omega) (KWfS.kv hk hx) (d := .held v) (ps := []) rfl
  refine ⟨w', hrun, ⟨D.put (kyS x) (.held v), own_tight ho', ?_, ?_, ?_, ?_, ?_⟩, hm⟩
  · unfold putKS; split
    · exact hnd
    · rename_i hx'; exact List.nodup_cons.2 ⟨hx', hnd⟩
  · intro y hy
    rcases mem_putKS.1 hy with rfl | hy
    · exact hx
    · exact hw y hy
  · rw [size_put htidy, hh x hx]
    unfold putKS
    by_cases hm' : x ∈ ks
    · simp [hm', hs]
    · simp [hm', hs]
  · intro y hy
    by_cases hyx : y = x
    · subst hyx
      rw [has_put_same htidy.isMap (kyS_is y)]
      simp [mem_putKS]
    · rw [has_put_other (kyS_ne hyx), hh y hy]
      exact decide_eq_decide.2 (by rw [mem_putKS]; simp [hyx])
  · intro y hy z
    by_cases hyx : y = x
    · subst hyx
      rw [atKey_put_same htidy.isMap (kyS_is y)]
      simp [putFS]
    · rw [atKey_put_other (kyS_ne hyx)]
      have hy' : y ∈ ks := by
        rcases mem_putKS.1 hy with h1 | h1
        · exact absurd h1 hyx
        · exact h1
      rw [ha y hy' z]
      simp [putFS, hyx]
/-- delete(m, x). -/
theorem MapS.del (h : MapS P kt w b ks f) (hk : P.underlying kt = some .string) (ht : P.underlying t = some (.map kt e)) {x : List UInt8} (hx : KWfS x) (ty : TypeId) :
    ∃ w', (Builtin.delete_ #[t, kt] ty #[.map (some b), .string (sb x)]).run P w = .ok (.tuple #[]) w' ∧ MapS P kt w' b (ks.erase x) f ∧ w.mapTurned w' b := by
  obtain ⟨D, ho, hnd, hw, hs, hh, ha⟩ := h
  have htidy := ho.tidy (string_keyed hk)
  obtain ⟨w', hrun, ho', hm⟩ := ho.drop (string_keyed hk) ht (KWfS.kv hk hx) ty
  refine ⟨w', hrun, ⟨D.del (kyS x), own_tight ho', hnd.erase x, fun y hy => hw y (List.mem_of_mem_erase hy), ?_, ?_, ?_⟩, hm⟩
  · have e1 := size_del (k := kyS x) htidy
    rw [hh x hx, hs] at e1
    rw [List.length_erase]
    by_cases hm' : x ∈ ks
    · have : 0 < ks.length := List.length_pos_of_mem hm'
      simp [hm'] at e1 ⊢
      omega
    · simp [hm'] at e1 ⊢
      omega
  · intro y hy
    by_cases hyx : y = x
    · subst hyx
      rw [has_del_same]
      have : y ∉ ks.erase y := fun h' => (List.Nodup.not_mem_erase hnd) h'
      simp [this]
    · rw [has_del_other (kyS_ne hyx), hh y hy]
      exact decide_eq_decide.2 (by rw [List.mem_erase_of_ne hyx])
  · intro y hy z
    have hyx : y ≠ x := fun h' => by subst h'; exact (List.Nodup.not_mem_erase hnd) hy
    rw [atKey_del_other (kyS_ne hyx), ha y (List.mem_of_mem_erase hy) z]

theorem kv_inv (hk : P.underlying kt = some .string) {key : Value} {kl : Lit} (h : keyOf P kt key = some kl) : ∃ x, key = .string (sb x) ∧ kl = kyS x ∧ KWfS x := by
  cases key <;> simp [keyOf, mapKey, hk] at h
  rename_i s
  obtain ⟨h1, h2⟩ := h
  refine ⟨s.data.toList, by rw [← sb_of s], h2.symm, ?_⟩
  unfold KWfS; simpa using h1
/-- A range over the map under way: the keys lf are still to come. -/
def RngS (P : Program) (kt : TypeId) (w : World) (b r : Nat) (ks lf : List (List UInt8)) (f : List UInt8 → Value) : Prop :=
  ∃ (D : DataW Value) (left : Lit → Bool) (cnt : Nat), w.ranges P kt slf b r (Maps.size D) D left cnt ∧ (ks.Nodup ∧ (∀ x ∈ ks, KWfS x) ∧ Maps.size D = ks.length ∧ (∀ x, KWfS x → Maps.has D (kyS x) = decide (x ∈ ks)) ∧ ∀ x ∈ ks, ∀ z, D.atKey (kyS x) z = .held (f x)) ∧
    lf.Nodup ∧ (∀ x ∈ lf, x ∈ ks) ∧ ∀ x, KWfS x → left (kyS x) = decide (x ∈ lf)
theorem RngS.map {r : Nat} {lf : List (List UInt8)} (h : RngS P kt w b r ks lf f) : MapS P kt w b ks f := by
  obtain ⟨D, left, cnt, hr, hD, _⟩ := h
  exact ⟨D, hr.owns, hD⟩
theorem RngS.same {r : Nat} {lf : List (List UInt8)} (h : RngS P kt w b r ks lf f) (hb : w'.heap[b]? = w.heap[b]?) (hr' : w'.heap[r]? = w.heap[r]?) : RngS P kt w' b r ks lf f := by
  obtain ⟨D, left, cnt, ⟨es, clock, since, seen, c0, h1, F, h2, h3, h4, h5⟩, hD⟩ := h
  exact ⟨D, left, cnt, ⟨es, clock, since, seen, c0, hb.trans h1, F, h2, h3, hr'.trans h4, h5⟩, hD⟩
theorem RngS.ne {r : Nat} {lf : List (List UInt8)} (h : RngS P kt w b r ks lf f) : r ≠ b := by
  obtain ⟨D, left, cnt, hr, _⟩ := h
  exact hr.ne
theorem RngS.lt {r : Nat} {lf : List (List UInt8)} (h : RngS P kt w b r ks lf f) : r < w.heap.size := by
  obtain ⟨D, left, cnt, hr, _⟩ := h
  exact hr.lt
/-- range m. -/
theorem MapS.range (h : MapS P kt w b ks f) (hk : P.underlying kt = some .string) (ht : P.underlying t = some (.map kt e)) :
    ∃ w', (Instr.range t (.map (some b))).run P w = .ok (.pointer (some ⟨w.heap.size, 0, none⟩)) w' ∧ RngS P kt w' b w.heap.size ks ks f ∧ w.grownBy w' none ∧ w'.heap.size = w.heap.size + 1 := by
  obtain ⟨D, ho, hD⟩ := h
  obtain ⟨w', hrun, hr, hg, hs⟩ := ho.range (string_keyed hk) ht
  exact ⟨w', hrun, ⟨D, _, _, hr, hD, hD.1, fun x hx => hx, fun x hx => hD.2.2.2.1 x hx⟩, hg, hs⟩
theorem same_kyS {x y : List UInt8} : (kyS y).sameKey (kyS x) = decide (y = x) := by
  by_cases h : y = x
  · subst h
    rw [WideAt.sameKey_self (kyS_is y)]; simp
  · rw [sameKey_ne (kyS_ne h)]; simp [h]
/-- The step. -/
theorem RngS.next {r : Nat} {lf : List (List UInt8)} (h : RngS P kt w b r ks lf f) (hk : P.underlying kt = some .string) (ty : TypeId) :
    (lf = [] ∧ (Instr.next (.pointer (some ⟨r, 0, none⟩)) false ty).run P w = .ok (.tuple #[.bool false]) w) ∨
    ∃ x w', x ∈ lf ∧ (Instr.next (.pointer (some ⟨r, 0, none⟩)) false ty).run P w = .ok (.tuple #[.bool true, .string (sb x), f x]) w' ∧ RngS P kt w' b r ks (lf.erase x) f ∧ w.grownBy w' (some r) ∧ w'.heap.size = w.heap.size ∧
      (Instr.entry (.pointer (some ⟨r, 0, none⟩))).run P w' = .ok (.tuple #[.string (sb x), f x]) w' := by
  obtain ⟨D, left, cnt, hr, hD, hl1, hl2, hl3⟩ := h
  rcases hr.next (string_keyed hk) ty with ⟨_, h0, hrun⟩ | ⟨key, v, kl, y, w', cnt', hkey, hlk, hv, hat, hrun, hrg, _, hg, hs, hen⟩
  · refine Or.inl ⟨?_, hrun⟩
    cases lf with
    | nil => rfl
    | cons x r' =>
      have h1 := hl3 x (hD.2.1 x (hl2 x List.mem_cons_self))
      rw [h0] at h1
      simp at h1
  · obtain ⟨x, rfl, rfl, hx⟩ := kv_inv hk hkey
    have hm : x ∈ lf := by
      have := hl3 x hx
      rw [show left (kyS x) = true from hlk] at this
      simpa using this.symm
    have hv' : v = f x := by
      have h1 := hat (.held v)
      rw [hD.2.2.2.2 x (hl2 x hm)] at h1
      simp only [slf, Option.some.injEq] at hv
      rw [← hv] at h1
      injection h1 with h1
      exact h1.symm
    subst hv'
    refine Or.inr ⟨x, w', hm, hrun, ⟨D, _, cnt', hrg, hD, hl1.erase x, fun z hz => hl2 z (List.mem_of_mem_erase hz), fun z hz => ?_⟩, hg, hs, hen⟩
    show (left (kyS z) && !(kyS z).sameKey (kyS x)) = _
    rw [hl3 z hz, same_kyS]
    by_cases hzx : z = x
    · subst hzx
      have : z ∉ lf.erase z := fun h' => (List.Nodup.not_mem_erase hl1) h'
      simp [this]
    · simp [hzx, List.mem_erase_of_ne hzx]

end Go.Proofs.YtcbhhdjjanekaaaGreatDoor
