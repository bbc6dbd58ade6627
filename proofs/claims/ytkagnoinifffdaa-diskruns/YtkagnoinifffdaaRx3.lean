import Derived.Test.YtkagnoinifffdaaRx2
import Derived.Test.YtkagnoinifffdaaRx1
/- Maps with strings for keys, of the program's own, whose elements are whatever they are: what lies under each key, as values. Of no program. -/
namespace Go.Proofs.Ytkagnoinifffdaa
open Go.RowKit Go.Maps

/-- A key. -/
abbrev kyS (x : List UInt8) : Lit := .string x
def KWfS (x : List UInt8) : Prop := x.length ≤ maxLen
theorem KWfS.kv {P : Program} {kt : TypeId} (hk : P.underlying kt = some .string) {x : List UInt8} (h : KWfS x) : keyOf P kt (.string (sb x)) = some (.string x) := by
  have hs : (sb x).size = x.length := by simp [sb, ByteArray.size]
  have := Go.WideMaps.keyOf_string_mk hk (s := sb x) (by unfold KWfS at h; omega)
  rw [this]; simp [sb]
/-- Block b is a map with just the keys ks, and f tells what lies under each. -/
def MapS (P : Program) (kt : TypeId) (w : World) (b : Nat) (ks : List (List UInt8)) (f : List UInt8 → Value) : Prop :=
  ∃ D : DataW Value, w.ownsMap P kt slf b (Maps.size D) D ∧ ks.Nodup ∧ (∀ x ∈ ks, KWfS x) ∧ Maps.size D = ks.length ∧ (∀ x, KWfS x → Maps.has D (kyS x) = decide (x ∈ ks)) ∧ ∀ x ∈ ks, ∀ z, D.atKey (kyS x) z = .held (f x)

variable {P : Program} {kt t e : TypeId} {w w' : World} {b : Nat} {ks : List (List UInt8)} {f : List UInt8 → Value}

theorem kyS_is (x : List UInt8) : WideAt.IsKeyLit (kyS x) := by
  simp [WideAt.IsKeyLit]
theorem MapS.same (h : MapS P kt w b ks f) (hb : w'.heap[b]? = w.heap[b]?) : MapS P kt w' b ks f := by
  obtain ⟨D, ho, r⟩ := h
  exact ⟨D, own_same ho hb, r⟩
theorem MapS.lt (h : MapS P kt w b ks f) : b < w.heap.size := by
  obtain ⟨D, ho, _⟩ := h
  exact ho.lt
theorem MapS.isMap (h : MapS P kt w b ks f) : ∃ es clock, w.heap[b]? = some (.map es clock) := by
  obtain ⟨D, ⟨es, clock, hb, _⟩, _⟩ := h
  exact ⟨es, clock, hb⟩
theorem MapS.new (w : World) (f : List UInt8 → Value) : MapS P kt (w.alloc (.map #[] 0)) w.heap.size [] f :=
  ⟨.map [], World.ownsMap_made w P kt slf, List.nodup_nil, by simp, rfl, fun x _ => by simp [Maps.has], by simp⟩
theorem MapS.ext {g : List UInt8 → Value} (h : MapS P kt w b ks f) (hg : ∀ x ∈ ks, g x = f x) : MapS P kt w b ks g := by
  obtain ⟨D, ho, hn, hw, hs, hh, ha⟩ := h
  exact ⟨D, ho, hn, hw, hs, hh, fun x hx z => by rw [ha x hx z, hg x hx]⟩
theorem MapS.perm {ls : List (List UInt8)} (h : MapS P kt w b ks f) (hp : ls.Perm ks) : MapS P kt w b ls f := by
  obtain ⟨D, ho, hn, hw, hs, hh, ha⟩ := h
  refine ⟨D, ho, hp.nodup_iff.2 hn, fun x hx => hw x (hp.mem_iff.1 hx), by rw [hs, hp.length_eq], fun x hx => ?_, fun x hx z => ha x (hp.mem_iff.1 hx) z⟩
  rw [hh x hx]
  exact decide_eq_decide.2 hp.mem_iff.symm

/-- len(m). -/
theorem MapS.len (h : MapS P kt w b ks f) (ht : P.underlying t = some (.map kt e)) (ty : TypeId) : (Builtin.len_ #[t] ty #[.map (some b)]).run P w = .ok (.int .i64 (ks.length : Int)) w := by
  obtain ⟨D, ho, hn, hw, hs, hh, ha⟩ := h
  rw [ho.len ht ty, hs]
/-- v, ok := m[x]. -/
theorem MapS.look_ok (h : MapS P kt w b ks f) (hk : P.underlying kt = some .string) (ht : P.underlying t = some (.map kt e)) {z : Value} (hz : (zeroValue e).run P w = .ok z w) {x : List UInt8} (hx : KWfS x) :
    (Instr.lookup t (.map (some b)) (.string (sb x)) true).run P w = .ok (.tuple #[if x ∈ ks then f x else z, .bool (decide (x ∈ ks))]) w := by
  obtain ⟨D, ho, hn, hw, hs, hh, ha⟩ := h
  obtain ⟨v, ps, hrun, hv⟩ := ho.look_ok (string_keyed hk) ht hz (zd := .held z) (zp := []) rfl (KWfS.kv hk hx)
  rw [hrun, hh x hx]
  simp only [slf, Option.some.injEq, Prod.mk.injEq] at hv
  by_cases hm : x ∈ ks
  · rw [ha x hm] at hv
    injection hv.1 with e1
    rw [if_pos hm, e1]
  · have h0 : Maps.has D (kyS x) = false := by rw [hh x hx]; simp [hm]
    rw [atKey_of_not_has h0] at hv
    injection hv.1 with e1
    rw [if_neg hm, e1]
/-- m[x]. -/
theorem MapS.look (h : MapS P kt w b ks f) (hk : P.underlying kt = some .string) (ht : P.underlying t = some (.map kt e)) {z : Value} (hz : (zeroValue e).run P w = .ok z w) {x : List UInt8} (hx : KWfS x) :
    (Instr.lookup t (.map (some b)) (.string (sb x)) false).run P w = .ok (if x ∈ ks then f x else z) w := by
  obtain ⟨D, ho, hn, hw, hs, hh, ha⟩ := h
  obtain ⟨v, ps, hrun, hv⟩ := ho.lookup (string_keyed hk) ht hz (zd := .held z) (zp := []) rfl (KWfS.kv hk hx)
  rw [hrun]
  simp only [slf, Option.some.injEq, Prod.mk.injEq] at hv
  by_cases hm : x ∈ ks
  · rw [ha x hm] at hv
    injection hv.1 with e1
    rw [if_pos hm, e1]
  · have h0 : Maps.has D (kyS x) = false := by rw [hh x hx]; simp [hm]
    rw [atKey_of_not_has h0] at hv
    injection hv.1 with e1
    rw [if_neg hm, e1]
/-- The keys behind m[x] = v. -/
def putKS (ks : List (List UInt8)) (x : List UInt8) : List (List UInt8) := if x ∈ ks then ks else x :: ks
def putFS (f : List UInt8 → Value) (x : List UInt8) (v : Value) : List UInt8 → Value := fun y => if y = x then v else f y
theorem kyS_ne {x y : List UInt8} (h : y ≠ x) : kyS y ≠ kyS x := by
  intro e
  injection e with e
  exact h e
theorem mem_putKS {ks : List (List UInt8)} {x y : List UInt8} : y ∈ putKS ks x ↔ y = x ∨ y ∈ ks := by
  unfold putKS
  split
  · rename_i h
    constructor
    · exact Or.inr
    · rintro (rfl | h')
      · exact h
      · exact h'
  · simp
/-- m[x] = v. -/
theorem MapS.put (h : MapS P kt w b ks f) (hk : P.underlying kt = some .string) (ht : P.underlying t = some (.map kt e)) (hn : ks.length < 1000000) {x : List UInt8} (hx : KWfS x) (v : Value) :
    ∃ w', (Instr.mapUpdate t (.map (some b)) (.string (sb x)) v).run P w = .ok () w' ∧ MapS P kt w' b (putKS ks x) (putFS f x v) ∧ w.mapTurned w' b := by
  obtain ⟨D, ho, hnd, hw, hs, hh, ha⟩ := h
  have htidy := ho.tidy (string_keyed hk)
  obtain ⟨w', hrun, ho', hm⟩ := ho.store (string_keyed hk) ht (by rw [hs]; unfold maxLen; omega) (KWfS.kv hk hx) (d := .held v) (ps := []) rfl
  refine ⟨w', hrun, ⟨D.put (kyS x) (.held v), own_tight ho', ?_, ?_, ?_, ?_, ?_⟩, hm⟩
  · unfold putKS; split
    · exact hnd
    · rename_i hx'; exact List.nodup_cons.2 ⟨hx', hnd⟩
  · intro y hy
    rcases mem_putKS.1 hy with rfl | hy
    · exact hx
    · exact hw y hy
  · rw [size_put htidy, hh x hx]
    unfold putKS
    by_cases hm' : x ∈ ks
    · simp [hm', hs]
    · simp [hm', hs]
  · intro y hy
    by_cases hyx : y = x
    · subst hyx
      rw [has_put_same htidy.isMap (kyS_is y)]
      simp [mem_putKS]
    · rw [has_put_other (kyS_ne hyx), hh y hy]
      exact decide_eq_decide.2 (by rw [mem_putKS]; simp [hyx])
  · intro y hy z
    by_cases hyx : y = x
    · subst hyx
      rw [atKey_put_same htidy.isMap (kyS_is y)]
      simp [putFS]
    · rw [atKey_put_other (kyS_ne hyx)]
      have hy' : y ∈ ks := by
        rcases mem_putKS.1 hy with h1 | h1
        · exact absurd h1 hyx
        · exact h1
      rw [ha y hy' z]
      simp [putFS, hyx]
/-- delete(m, x). -/
theorem MapS.del (h : MapS P kt w b ks f) (hk : P.underlying kt = some .string) (ht : P.underlying t = some (.map kt e)) {x : List UInt8} (hx : KWfS x) (ty : TypeId) :
    ∃ w', (Builtin.delete_ #[t, kt] ty #[.map (some b), .string (sb x)]).run P w = .ok (.tuple #[]) w' ∧ MapS P kt w' b (ks.erase x) f ∧ w.mapTurned w' b := by
  obtain ⟨D, ho, hnd, hw, hs, hh, ha⟩ := h
  have htidy := ho.tidy (string_keyed hk)
  obtain ⟨w', hrun, ho', hm⟩ := ho.drop (string_keyed hk) ht (KWfS.kv hk hx) ty
  refine ⟨w', hrun, ⟨D.del (kyS x), own_tight ho', hnd.erase x, fun y hy => hw y (List.mem_of_mem_erase hy), ?_, ?_, ?_⟩, hm⟩
  · have e1 := size_del (k := kyS x) htidy
    rw [hh x hx, hs] at e1
    rw [List.length_erase]
    by_cases hm' : x ∈ ks
    · have : 0 < ks.length := List.length_pos_of_mem hm'
      simp [hm'] at e1 ⊢
      omega
    · simp [hm'] at e1 ⊢
      omega
  · intro y hy
    by_cases hyx : y = x
    · subst hyx
      rw [has_del_same]
      have : y ∉ ks.erase y := fun h' => (List.Nodup.not_mem_erase hnd) h'
      simp [this]
    · rw [has_del_other (kyS_ne hyx), hh y hy]
      exact decide_eq_decide.2 (by rw [List.mem_erase_of_ne hyx])
  · intro y hy z
    have hyx : y ≠ x := fun h' => by subst h'; exact (List.Nodup.not_mem_erase hnd) hy
    rw [atKey_del_other (kyS_ne hyx), ha y (List.mem_of_mem_erase hy) z]

theorem kv_inv (hk : P.underlying kt = some .string) {key : Value} {kl : Lit} (h : keyOf P kt key = some kl) : ∃ x, key = .string (sb x) ∧ kl = kyS x ∧ KWfS x := by
  cases key <;> simp [keyOf, mapKey, hk] at h
  rename_i s
  obtain ⟨h1, h2⟩ := h
  refine ⟨s.data.toList, by rw [← sb_of s], h2.symm, ?_⟩
  unfold KWfS; simpa using h1
/-- A range over the map under way: the keys lf are still to come. -/
def RngS (P : Program) (kt : TypeId) (w : World) (b r : Nat) (ks lf : List (List UInt8)) (f : List UInt8 → Value) : Prop :=
  ∃ (D : DataW Value) (left : Lit → Bool) (cnt : Nat), w.ranges P kt slf b r (Maps.size D) D left cnt ∧ (ks.Nodup ∧ (∀ x ∈ ks, KWfS x) ∧ Maps.size D = ks.length ∧ (∀ x, KWfS x → Maps.has D (kyS x) = decide (x ∈ ks)) ∧ ∀ x ∈ ks, ∀ z, D.atKey (kyS x) z = .held (f x)) ∧
    lf.Nodup ∧ (∀ x ∈ lf, x ∈ ks) ∧ ∀ x, KWfS x → left (kyS x) = decide (x ∈ lf)
theorem RngS.map {r : Nat} {lf : List (List UInt8)} (h : RngS P kt w b r ks lf f) : MapS P kt w b ks f := by
  obtain ⟨D, left, cnt, hr, hD, _⟩ := h
  exact ⟨D, hr.owns, hD⟩
theorem RngS.same {r : Nat} {lf : List (List UInt8)} (h : RngS P kt w b r ks lf f) (hb : w'.heap[b]? = w.heap[b]?) (hr' : w'.heap[r]? = w.heap[r]?) : RngS P kt w' b r ks lf f := by
  obtain ⟨D, left, cnt, ⟨es, clock, since, seen, c0, h1, F, h2, h3, h4, h5⟩, hD⟩ := h
  exact ⟨D, left, cnt, ⟨es, clock, since, seen, c0, hb.trans h1, F, h2, h3, hr'.trans h4, h5⟩, hD⟩
theorem RngS.ne {r : Nat} {lf : List (List UInt8)} (h : RngS P kt w b r ks lf f) : r ≠ b := by
  obtain ⟨D, left, cnt, hr, _⟩ := h
  exact hr.ne
theorem RngS.lt {r : Nat} {lf : List (List UInt8)} (h : RngS P kt w b r ks lf f) : r < w.heap.size := by
  obtain ⟨D, left, cnt, hr, _⟩ := h
  exact hr.lt
/-- range m. -/
theorem MapS.range (h : MapS P kt w b ks f) (hk : P.underlying kt = some .string) (ht : P.underlying t = some (.map kt e)) :
    ∃ w', (Instr.range t (.map (some b))).run P w = .ok (.pointer (some ⟨w.heap.size, 0, none⟩)) w' ∧ RngS P kt w' b w.heap.size ks ks f ∧ w.grownBy w' none ∧ w'.heap.size = w.heap.size + 1 := by
  obtain ⟨D, ho, hD⟩ := h
  obtain ⟨w', hrun, hr, hg, hs⟩ := ho.range (string_keyed hk) ht
  exact ⟨w', hrun, ⟨D, _, _, hr, hD, hD.1, fun x hx => hx, fun x hx => hD.2.2.2.1 x hx⟩, hg, hs⟩
theorem same_kyS {x y : List UInt8} : (kyS y).sameKey (kyS x) = decide (y = x) := by
  by_cases h : y = x
  · subst h
    rw [WideAt.sameKey_self (kyS_is y)]; simp
  · rw [sameKey_ne (kyS_ne h)]; simp [h]
/-- The step. -/
theorem RngS.next {r : Nat} {lf : List (List UInt8)} (h : RngS P kt w b r ks lf f) (hk : P.underlying kt = some .string) (ty : TypeId) :
    (lf = [] ∧ (Instr.next (.pointer (some ⟨r, 0, none⟩)) false ty).run P w = .ok (.tuple #[.bool false]) w) ∨
    ∃ x w', x ∈ lf ∧ (Instr.next (.pointer (some ⟨r, 0, none⟩)) false ty).run P w = .ok (.tuple #[.bool true, .string (sb x), f x]) w' ∧ RngS P kt w' b r ks (lf.erase x) f ∧ w.grownBy w' (some r) ∧ w'.heap.size = w.heap.size ∧
      (Instr.entry (.pointer (some ⟨r, 0, none⟩))).run P w' = .ok (.tuple #[.string (sb x), f x]) w' := by
  obtain ⟨D, left, cnt, hr, hD, hl1, hl2, hl3⟩ := h
  rcases hr.next (string_keyed hk) ty with ⟨_, h0, hrun⟩ | ⟨key, v, kl, y, w', cnt', hkey, hlk, hv, hat, hrun, hrg, _, hg, hs, hen⟩
  · refine Or.inl ⟨?_, hrun⟩
    cases lf with
    | nil => rfl
    | cons x r' =>
      have h1 := hl3 x (hD.2.1 x (hl2 x List.mem_cons_self))
      rw [h0] at h1
      simp at h1
  · obtain ⟨x, rfl, rfl, hx⟩ := kv_inv hk hkey
    have hm : x ∈ lf := by
      have := hl3 x hx
      rw [show left (kyS x) = true from hlk] at this
      simpa using this.symm
    have hv' : v = f x := by
      have h1 := hat (.held v)
      rw [hD.2.2.2.2 x (hl2 x hm)] at h1
      simp only [slf, Option.some.injEq] at hv
      rw [← hv] at h1
      injection h1 with h1
      exact h1.symm
    subst hv'
    refine Or.inr ⟨x, w', hm, hrun, ⟨D, _, cnt', hrg, hD, hl1.erase x, fun z hz => hl2 z (List.mem_of_mem_erase hz), fun z hz => ?_⟩, hg, hs, hen⟩
    show (left (kyS z) && !(kyS z).sameKey (kyS x)) = _
    rw [hl3 z hz, same_kyS]
    by_cases hzx : z = x
    · subst hzx
      have : z ∉ lf.erase z := fun h' => (List.Nodup.not_mem_erase hl1) h'
      simp [this]
    · simp [hzx, List.mem_erase_of_ne hzx]

end Go.Proofs.Ytkagnoinifffdaa

/- disk, plainly: names, changes of names, files; a map of names in memory. -/
namespace Go.Proofs.Ytkagnoinifffdaa
open Go.RowKit Go.Lib Go.Maps

abbrev By := List UInt8
abbrev Nms := List (By × Int)
/-- Names without one; with one; the number under a name. -/
def del (l : Nms) (x : By) : Nms := l.filter fun p => decide (p.1 ≠ x)
def ins (l : Nms) (x : By) (n : Int) : Nms := (x, n) :: del l x
def kys (l : Nms) : List By := l.map Prod.fst
def num (l : Nms) (x : By) : Int := match l.find? fun p => decide (p.1 = x) with | some p => p.2 | none => 0
theorem kys_del (l : Nms) (x : By) : kys (del l x) = (kys l).filter fun y => decide (y ≠ x) := by
  unfold kys del; rw [List.filter_map]; rfl
theorem mem_del {l : Nms} {x : By} {p : By × Int} : p ∈ del l x ↔ p ∈ l ∧ p.1 ≠ x := by simp [del]
theorem mem_kys_del {l : Nms} {x y : By} : y ∈ kys (del l x) ↔ y ∈ kys l ∧ y ≠ x := by rw [kys_del]; simp
theorem mem_kys_ins {l : Nms} {x y : By} {n : Int} : y ∈ kys (ins l x n) ↔ y = x ∨ y ∈ kys l := by
  have e : kys (ins l x n) = x :: kys (del l x) := rfl
  rw [e, List.mem_cons, mem_kys_del]
  by_cases h : y = x <;> simp [h]
theorem nodup_del {l : Nms} (h : (kys l).Nodup) (x : By) : (kys (del l x)).Nodup := by rw [kys_del]; exact h.sublist List.filter_sublist
theorem nodup_ins {l : Nms} (h : (kys l).Nodup) (x : By) (n : Int) : (kys (ins l x n)).Nodup :=
  List.nodup_cons.2 ⟨fun h' => (mem_kys_del.1 h').2 rfl, nodup_del h x⟩
theorem num_mem {l : Nms} (h : (kys l).Nodup) {p : By × Int} (hp : p ∈ l) : num l p.1 = p.2 := by
  induction l with
  | nil => simp at hp
  | cons a r ih =>
    have hn := List.nodup_cons.1 h
    rcases List.mem_cons.1 hp with rfl | hp
    · simp [num]
    · have : a.1 ≠ p.1 := fun e => hn.1 (by rw [e]; exact List.mem_map_of_mem hp)
      have := ih hn.2 hp
      unfold num at this ⊢
      rw [List.find?_cons, decide_eq_false ‹a.1 ≠ p.1›]
      exact this
theorem mem_num {l : Nms} {x : By} (hx : x ∈ kys l) : (x, num l x) ∈ l := by
  induction l with
  | nil => simp [kys] at hx
  | cons a r ih =>
    by_cases e : a.1 = x
    · subst e; simp [num]
    · have hx' : x ∈ kys r := by
        rcases List.mem_cons.1 hx with h | h
        · exact absurd h.symm e
        · exact h
      have : num (a :: r) x = num r x := by unfold num; rw [List.find?_cons, decide_eq_false e]
      rw [this]
      exact List.mem_cons_of_mem _ (ih hx')
theorem num_none {l : Nms} {x : By} (hx : x ∉ kys l) : num l x = 0 := by
  unfold num
  have : l.find? (fun p => decide (p.1 = x)) = none := by
    rw [List.find?_eq_none]
    intro p hp
    simp only [decide_eq_true_eq]
    exact fun e => hx (by rw [← e]; exact List.mem_map_of_mem hp)
  rw [this]
theorem num_del {l : Nms} (h : (kys l).Nodup) {x y : By} (hy : y ≠ x) : num (del l x) y = num l y := by
  by_cases hm : y ∈ kys l
  · have := num_mem (nodup_del h x) (p := (y, num l y)) (mem_del.2 ⟨mem_num hm, hy⟩)
    exact this
  · rw [num_none hm, num_none (fun h' => hm (mem_kys_del.1 h').1)]
theorem num_ins {l : Nms} (h : (kys l).Nodup) (x y : By) (n : Int) : num (ins l x n) y = if y = x then n else num l y := by
  by_cases e : y = x
  · subst e; rw [if_pos rfl]; simp [num, ins]
  · rw [if_neg e, ← num_del h e]
    unfold num ins
    rw [List.find?_cons, decide_eq_false (fun h => e h.symm)]
theorem kys_length (l : Nms) : (kys l).length = l.length := List.length_map _
theorem del_length (l : Nms) (x : By) : (del l x).length ≤ l.length := List.length_filter_le _ _
theorem ins_length (l : Nms) (x : By) (n : Int) : (ins l x n).length ≤ l.length + 1 := Nat.succ_le_succ (del_length l x)

/-- Block b is a map of these names. -/
def NmAt (w : World) (b : Nat) (l : Nms) : Prop := MapS Try.prog 9 w b (kys l) fun x => .int .i64 (num l x)
theorem NmAt.nodup {w : World} {b : Nat} {l : Nms} (h : NmAt w b l) : (kys l).Nodup := by obtain ⟨D, _, h, _⟩ := h; exact h
theorem NmAt.kwf {w : World} {b : Nat} {l : Nms} (h : NmAt w b l) : ∀ x ∈ kys l, KWfS x := by obtain ⟨D, _, _, h, _⟩ := h; exact h
theorem NmAt.same {w w' : World} {b : Nat} {l : Nms} (h : NmAt w b l) (hb : w'.heap[b]? = w.heap[b]?) : NmAt w' b l := MapS.same h hb
theorem NmAt.lt {w : World} {b : Nat} {l : Nms} (h : NmAt w b l) : b < w.heap.size := MapS.lt h
theorem NmAt.made (w : World) : NmAt (w.alloc (.map #[] 0)) w.heap.size [] := MapS.new _ _
theorem zero3 (w : World) : (zeroValue 3).run Try.prog w = .ok (.int .i64 0) w := by kernel_rfl
theorem NmAt.look_ok {w : World} {b : Nat} {l : Nms} (h : NmAt w b l) {x : By} (hx : KWfS x) :
    (Instr.lookup 60 (.map (some b)) (.string (sb x)) true).run Try.prog w = .ok (.tuple #[.int .i64 (num l x), .bool (decide (x ∈ kys l))]) w := by
  rw [MapS.look_ok h Try.underlying9 Try.underlying60 (zero3 w) hx]
  by_cases hm : x ∈ kys l
  · rw [if_pos hm]
  · rw [if_neg hm, num_none hm]
theorem NmAt.look {w : World} {b : Nat} {l : Nms} (h : NmAt w b l) {x : By} (hx : KWfS x) :
    (Instr.lookup 60 (.map (some b)) (.string (sb x)) false).run Try.prog w = .ok (.int .i64 (num l x)) w := by
  rw [MapS.look h Try.underlying9 Try.underlying60 (zero3 w) hx]
  by_cases hm : x ∈ kys l
  · rw [if_pos hm]
  · rw [if_neg hm, num_none hm]
theorem NmAt.len {w : World} {b : Nat} {l : Nms} (h : NmAt w b l) (ty : TypeId) : (Builtin.len_ #[60] ty #[.map (some b)]).run Try.prog w = .ok (.int .i64 (l.length : Int)) w := by
  rw [MapS.len h Try.underlying60, kys_length]
theorem NmAt.put {w : World} {b : Nat} {l : Nms} (h : NmAt w b l) (hn : l.length < 1000000) {x : By} (hx : KWfS x) (n : Int) :
    ∃ w', (Instr.mapUpdate 60 (.map (some b)) (.string (sb x)) (.int .i64 n)).run Try.prog w = .ok () w' ∧ NmAt w' b (ins l x n) ∧ w.mapTurned w' b := by
  obtain ⟨w', hr, hm, ht⟩ := MapS.put h Try.underlying9 Try.underlying60 (by rw [kys_length]; exact hn) hx (.int .i64 n)
  refine ⟨w', hr, ?_, ht⟩
  have hnd := h.nodup
  have hp : (kys (ins l x n)).Perm (putKS (kys l) x) := by
    have hk : (putKS (kys l) x).Nodup := by obtain ⟨D, _, h', _⟩ := hm; exact h'
    have hi := nodup_ins hnd x n
    have hm : ∀ y, y ∈ kys (ins l x n) ↔ y ∈ putKS (kys l) x := fun y => mem_kys_ins.trans mem_putKS.symm
    generalize kys (ins l x n) = A at *
    exact (List.perm_ext_iff_of_nodup hi hk).2 hm
  refine (MapS.perm hm hp).ext fun y _ => ?_
  rw [num_ins hnd]
  unfold putFS
  by_cases e : y = x
  · rw [if_pos e, if_pos e]
  · rw [if_neg e, if_neg e]
theorem NmAt.delete {w : World} {b : Nat} {l : Nms} (h : NmAt w b l) {x : By} (hx : KWfS x) (ty : TypeId) :
    ∃ w', (Builtin.delete_ #[60, 9] ty #[.map (some b), .string (sb x)]).run Try.prog w = .ok (.tuple #[]) w' ∧ NmAt w' b (del l x) ∧ w.mapTurned w' b := by
  obtain ⟨w', hr, hm, ht⟩ := MapS.del h Try.underlying9 Try.underlying60 hx ty
  refine ⟨w', hr, ?_, ht⟩
  have hnd := h.nodup
  have e : kys (del l x) = (kys l).erase x := by
    rw [kys_del, hnd.erase_eq_filter]
    exact List.filter_congr fun y _ => by by_cases h : y = x <;> simp [h]
  unfold NmAt
  rw [e]
  refine hm.ext fun y hy => ?_
  rw [num_del hnd (fun h' => by subst h'; exact hnd.not_mem_erase hy)]

/-- Only blocks of F have turned, among the old ones. -/
structure Kf (F : Nat → Prop) (w w' : World) : Prop where
  os : w'.os = w.os
  tape : w'.tape = w.tape
  output : w'.output = w.output
  size : w.heap.size ≤ w'.heap.size
  block : ∀ k, k < w.heap.size → ¬ F k → w'.heap[k]? = w.heap[k]?
variable {F G : Nat → Prop} {a w w' : World}
theorem Kf.refl (F : Nat → Prop) (w : World) : Kf F w w := ⟨rfl, rfl, rfl, Nat.le_refl _, fun _ _ _ => rfl⟩
theorem Kf.then (h : Kf F a w) (k : Kf G w w') (hG : ∀ k, k < a.heap.size → G k → F k) : Kf F a w' :=
  ⟨k.os.trans h.os, k.tape.trans h.tape, k.output.trans h.output, Nat.le_trans h.size k.size, fun i hi hF => (k.block i (Nat.lt_of_lt_of_le hi h.size) (fun g => hF (hG i hi g))).trans (h.block i hi hF)⟩
theorem Kf.trans (h : Kf F a w) (k : Kf F w w') : Kf F a w' := h.then k fun _ _ h => h
theorem Kf.gb (h : Gb w w') (F : Nat → Prop) : Kf F w w' := ⟨h.os, h.tape, h.output, h.size, fun k hk _ => h.block k hk⟩
theorem Kf.grown {row : Option Nat} (h : w.grownBy w' row) (hr : ∀ k, row = some k → F k) : Kf F w w' := ⟨h.os, h.tape, h.output, h.size, fun k hk hF => h.block k hk fun e => hF (hr k e.symm)⟩
theorem Kf.turned {b : Nat} (h : w.mapTurned w' b) (hb : F b) : Kf F w w' := Kf.grown h.grown fun k e => by cases e; exact hb
theorem Kf.alloc (h : Kf F a w) (o : Obj) : Kf F a (w.alloc o) := h.then (Kf.gb (gb_alloc (Below.refl _ _) o) fun _ => False) fun _ _ h => h.elim
theorem Kf.set (h : Kf F a w) {p : Addr} (hp : p.block < a.heap.size → F p.block) (u : Value) : Kf F a (w.setCell p u) :=
  ⟨h.os, h.tape, h.output, by rw [World.size_setCell]; exact h.size, fun k hk hF => by
    rw [Below.heap_setCell _ _ _ _ (fun e => hF (by subst e; exact hp hk))]; exact h.block k hk hF⟩
theorem Kf.toGb (h : Kf F w w') (hF : ∀ k, F k → w.heap.size ≤ k) : Gb w w' := ⟨h.os, h.tape, h.output, h.size, fun k hk => h.block k hk fun f => by have := hF k f; omega⟩
/-- The blocks of F, and what has come since. -/
def Nw (F : Nat → Prop) (w w' : World) : Nat → Prop := fun k => F k ∨ w.heap.size ≤ k ∧ k < w'.heap.size
theorem row_same {base : Nat} {e : TypeId} {m n : Nat} {v : Value} {xs : List Value} (h : w.ownsRow base e m v n xs) (hk : ∀ k, v.ownBlock = some k → w'.heap[k]? = w.heap[k]?) : w'.ownsRow base e m v n xs := by
  refine ⟨h.1, ?_⟩
  rcases h.2 with h1 | ⟨g, cap, cur, rfl, h1, h2, r⟩
  · exact .inl h1
  · exact .inr ⟨g, cap, cur, rfl, h1, (hk g rfl).trans h2, r⟩
end Go.Proofs.Ytkagnoinifffdaa

/- A disk, plainly, and as it lies in memory; what turns one part of it. -/
namespace Go.Proofs.Ytkagnoinifffdaa
open Go.RowKit Go.Lib Go.Maps

/-- A disk: its room, names, safe names, changes, each file's bytes and how many of them are safe, steps, steps left. -/
structure Dq where
  room : Int
  nm : Nms
  sf : Nms
  ch : List (By × By × Int)
  fb : Int → By
  fs : Int → Nat
  st : Nat
  lf : Int
structure Dq.Ok (q : Dq) : Prop where
  room : 1 ≤ q.room ∧ q.room ≤ 4194304
  lf : -1 ≤ q.lf ∧ q.lf ≤ 9223372036854775807
  nmB : ∀ p ∈ q.nm, nmOk p.1 = true
  sfB : ∀ p ∈ q.sf, nmOk p.1 = true
  chB : ∀ c ∈ q.ch, c.1.length ≤ 32 ∧ (c.2.1 ≠ [] → nmOk c.2.1 = true)
  fb : ∀ n, (q.fb n).length ≤ 4194304
  fs : ∀ n, q.fs n ≤ (q.fb n).length
  nmL : q.nm.length ≤ q.st
  sfL : q.sf.length + q.ch.length ≤ q.st
theorem nmOk_len {x : By} (h : nmOk x = true) : 1 ≤ x.length ∧ x.length ≤ 32 := by
  unfold nmOk at h
  simp only [Bool.and_eq_true, decide_eq_true_eq] at h
  exact h.1
theorem kwf_small {x : By} (h : x.length ≤ 65536) : KWfS x := by unfold KWfS maxLen; omega
/-- A change's cells. -/
def chV (c : By × By × Int) : List Value := [.string (sb c.1), .string (sb c.2.1), .int .i64 c.2.2]
def fileV (fv : Int → Value) (fs : Int → Nat) : Int → Value := fun n => .agg #[fv n, .int .i64 (fs n : Int)]
structure DkM (w : World) (b : Nat) (q : Dq) (F : Nat → Prop) (ks : List Int) (fm nb sn : Nat) (cv : Value) (fv : Int → Value) : Prop where
  blk : w.heap[b]? = some (.cells #[.int .i64 q.room, .map (some fm), .map (some nb), .map (some sn), cv, .int .i64 (q.st : Int), .int .i64 q.lf] 63 (0, 0))
  fls : MapA Try.prog 3 w fm ks (fileV fv q.fs)
  nms : NmAt w nb q.nm
  sfs : NmAt w sn q.sf
  chs : w.ownsRow 0 76 3 cv q.ch.length (q.ch.flatMap chV)
  own : ∀ n ∈ ks, OwnB w 0 (fv n) (q.fb n)
  ownF : ∀ n ∈ ks, ∀ k, (fv n).ownBlock = some k → F k
  ownD : ∀ n ∈ ks, ∀ m ∈ ks, n ≠ m → ∀ k, (fv n).ownBlock = some k → (fv m).ownBlock ≠ some k
  chF : ∀ k, cv.ownBlock = some k → F k
  inF : F b ∧ F fm ∧ F nb ∧ F sn
  fd : fm ≠ nb ∧ fm ≠ sn ∧ nb ≠ sn
  nmK : ∀ p ∈ q.nm, p.2 ∈ ks
  sfK : ∀ p ∈ q.sf, p.2 ∈ ks
  chK : ∀ c ∈ q.ch, c.2.1 ≠ [] → c.2.2 ∈ ks
variable {w w' : World} {b : Nat} {q q' : Dq} {F G : Nat → Prop} {ks : List Int} {fm nb sn : Nat} {cv : Value} {fv : Int → Value}
theorem row_cells {base : Nat} {e : TypeId} {m n : Nat} {v : Value} {xs : List Value} (h : w.ownsRow base e m v n xs) {k : Nat} (hk : v.ownBlock = some k) : ∃ cur, w.heap[k]? = some (.cells cur e (0, 0)) := by
  rcases h.2 with ⟨rfl, _⟩ | ⟨g, cap, cur, rfl, h1, h2, r⟩
  · cases hk
  · cases hk; exact ⟨cur, h2⟩
theorem map_cells {k c : Nat} {es : Array MapEntry} {cur : Array Value} {t : TypeId} {f : Nat × Nat} (h : w.heap[k]? = some (.map es c)) (h' : w.heap[k]? = some (.cells cur t f)) : False := by
  rw [h] at h'; simp at h'
theorem type_cells {k : Nat} {cur cur' : Array Value} {t t' : TypeId} {f f' : Nat × Nat} (h : w.heap[k]? = some (.cells cur t f)) (h' : w.heap[k]? = some (.cells cur' t' f')) : t = t' := by
  rw [h] at h'; simp at h'; exact h'.2.1
theorem DkM.neB (h : DkM w b q F ks fm nb sn cv fv) : fm ≠ b ∧ nb ≠ b ∧ sn ≠ b ∧ (∀ k, cv.ownBlock = some k → k ≠ b) ∧ ∀ n ∈ ks, ∀ k, (fv n).ownBlock = some k → k ≠ b := by
  obtain ⟨_, _, e1⟩ := h.fls.isMap
  obtain ⟨_, _, e2⟩ := MapS.isMap h.nms
  obtain ⟨_, _, e3⟩ := MapS.isMap h.sfs
  refine ⟨?_, ?_, ?_, ?_, ?_⟩
  · rintro rfl; exact map_cells e1 h.blk
  · rintro rfl; exact map_cells e2 h.blk
  · rintro rfl; exact map_cells e3 h.blk
  · rintro k hk rfl
    obtain ⟨cur, e⟩ := row_cells h.chs hk
    have := type_cells e h.blk
    exact absurd this (by decide)
  · rintro n hn k hk rfl
    obtain ⟨cur, e⟩ := row_cells (h.own n hn) hk
    have := type_cells e h.blk
    exact absurd this (by decide)
/-- A map's block is none of the files' nor that of the changes. -/
theorem DkM.neM (h : DkM w b q F ks fm nb sn cv fv) {m c : Nat} {es : Array MapEntry} (hm : w.heap[m]? = some (.map es c)) : (∀ k, cv.ownBlock = some k → k ≠ m) ∧ ∀ n ∈ ks, ∀ k, (fv n).ownBlock = some k → k ≠ m := by
  refine ⟨?_, ?_⟩
  · rintro k hk rfl
    obtain ⟨cur, e⟩ := row_cells h.chs hk
    exact map_cells hm e
  · rintro n hn k hk rfl
    obtain ⟨cur, e⟩ := row_cells (h.own n hn) hk
    exact map_cells hm e
theorem DkM.neC (h : DkM w b q F ks fm nb sn cv fv) : ∀ n ∈ ks, ∀ k, (fv n).ownBlock = some k → cv.ownBlock ≠ some k := by
  intro n hn k hk hc
  obtain ⟨c1, e1⟩ := row_cells (h.own n hn) hk
  obtain ⟨c2, e2⟩ := row_cells h.chs hc
  have := type_cells e1 e2
  exact absurd this (by decide)
theorem DkM.lt (h : DkM w b q F ks fm nb sn cv fv) : b < w.heap.size := (Array.getElem?_eq_some_iff.1 h.blk).1
/-- The block of the disk turns. -/
theorem DkM.mvB (h : DkM w b q F ks fm nb sn cv fv) (hk : ∀ k, k < w.heap.size → F k → k ≠ b → w'.heap[k]? = w.heap[k]?) (e1 : q'.nm = q.nm) (e2 : q'.sf = q.sf) (e3 : q'.ch = q.ch) (e4 : q'.fb = q.fb) (e5 : q'.fs = q.fs)
    (hb : w'.heap[b]? = some (.cells #[.int .i64 q'.room, .map (some fm), .map (some nb), .map (some sn), cv, .int .i64 (q'.st : Int), .int .i64 q'.lf] 63 (0, 0))) : DkM w' b q' F ks fm nb sn cv fv := by
  obtain ⟨n1, n2, n3, n4, n5⟩ := h.neB
  obtain ⟨_, f1, f2, f3⟩ := h.inF
  refine ⟨hb, ?_, ?_, ?_, ?_, ?_, h.ownF, h.ownD, h.chF, h.inF, h.fd, ?_, ?_, ?_⟩
  · rw [e5]; exact h.fls.same (hk _ h.fls.lt f1 n1)
  · rw [e1]; exact h.nms.same (hk _ h.nms.lt f2 n2)
  · rw [e2]; exact h.sfs.same (hk _ h.sfs.lt f3 n3)
  · rw [e3]; exact row_same h.chs fun k e => hk k (h.chs.lt k e).2 (h.chF k e) (n4 k e)
  · rw [e4]; exact fun n hn => row_same (h.own n hn) fun k e => hk k ((h.own n hn).lo k e).2 (h.ownF n hn k e) (n5 n hn k e)
  · rw [e1]; exact h.nmK
  · rw [e2]; exact h.sfK
  · rw [e3]; exact h.chK
/-- The names turn. -/
theorem DkM.mvN (h : DkM w b q F ks fm nb sn cv fv) (hk : ∀ k, k < w.heap.size → F k → k ≠ nb → w'.heap[k]? = w.heap[k]?) {l : Nms} (hl : NmAt w' nb l) (hn : ∀ p ∈ l, p.2 ∈ ks) : DkM w' b { q with nm := l } F ks fm nb sn cv fv := by
  obtain ⟨es, c, em⟩ := MapS.isMap h.nms
  obtain ⟨m1, m2⟩ := h.neM em
  obtain ⟨f0, f1, f2, f3⟩ := h.inF
  exact ⟨(hk _ h.lt f0 (Ne.symm h.neB.2.1)).trans h.blk, h.fls.same (hk _ h.fls.lt f1 h.fd.1), hl, h.sfs.same (hk _ h.sfs.lt f3 (Ne.symm h.fd.2.2)), row_same h.chs fun k e => hk k (h.chs.lt k e).2 (h.chF k e) (m1 k e),
    fun n hn => row_same (h.own n hn) fun k e => hk k ((h.own n hn).lo k e).2 (h.ownF n hn k e) (m2 n hn k e), h.ownF, h.ownD, h.chF, h.inF, h.fd, hn, h.sfK, h.chK⟩
/-- Nothing of it turns; more may belong to it. -/
theorem DkM.kp (h : DkM w b q F ks fm nb sn cv fv) (hk : ∀ k, k < w.heap.size → F k → w'.heap[k]? = w.heap[k]?) (hF : ∀ k, F k → k < w.heap.size → G k) : DkM w' b q G ks fm nb sn cv fv := by
  obtain ⟨f0, f1, f2, f3⟩ := h.inF
  exact ⟨(hk _ h.lt f0).trans h.blk, h.fls.same (hk _ h.fls.lt f1), h.nms.same (hk _ h.nms.lt f2), h.sfs.same (hk _ h.sfs.lt f3), row_same h.chs fun k e => hk k (h.chs.lt k e).2 (h.chF k e),
    fun n hn => row_same (h.own n hn) fun k e => hk k ((h.own n hn).lo k e).2 (h.ownF n hn k e), fun n hn k e => hF k (h.ownF n hn k e) ((h.own n hn).lo k e).2, h.ownD, fun k e => hF k (h.chF k e) (h.chs.lt k e).2,
    ⟨hF _ f0 (Array.getElem?_eq_some_iff.1 h.blk).1, hF _ f1 h.fls.lt, hF _ f2 h.nms.lt, hF _ f3 h.sfs.lt⟩, h.fd, h.nmK, h.sfK, h.chK⟩
/-- The files turn: the map, and what lies under it. -/
theorem DkM.mvF (h : DkM w b q F ks fm nb sn cv fv) {ls : List Int} {gv : Int → Value} {fb : Int → By} {fs : Int → Nat} (hk : ∀ k, k < w.heap.size → F k → k ≠ fm → (∀ n ∈ ks, (fv n).ownBlock ≠ some k) → w'.heap[k]? = w.heap[k]?)
    (hm : MapA Try.prog 3 w' fm ls (fileV gv fs)) (ho : ∀ n ∈ ls, OwnB w' 0 (gv n) (fb n)) (hF : ∀ n ∈ ls, ∀ k, (gv n).ownBlock = some k → F k) (hD : ∀ n ∈ ls, ∀ m ∈ ls, n ≠ m → ∀ k, (gv n).ownBlock = some k → (gv m).ownBlock ≠ some k)
    (hs : ∀ n ∈ ks, n ∈ ls) : DkM w' b { q with fb := fb, fs := fs } F ls fm nb sn cv gv := by
  obtain ⟨e0, c0, em⟩ := h.fls.isMap
  obtain ⟨e1, c1, en⟩ := MapS.isMap h.nms
  obtain ⟨e2, c2, es⟩ := MapS.isMap h.sfs
  obtain ⟨f0, f1, f2, f3⟩ := h.inF
  obtain ⟨n1, n2, n3, n4, n5⟩ := h.neB
  refine ⟨(hk _ h.lt f0 (Ne.symm n1) fun n hn e => n5 n hn _ e rfl).trans h.blk, hm, h.nms.same (hk _ h.nms.lt f2 (Ne.symm h.fd.1) fun n hn e => (h.neM en).2 n hn _ e rfl), h.sfs.same (hk _ h.sfs.lt f3 (Ne.symm h.fd.2.1) fun n hn e => (h.neM es).2 n hn _ e rfl), ?_, ho, hF, hD, h.chF, h.inF, h.fd, fun p hp => hs _ (h.nmK p hp), fun p hp => hs _ (h.sfK p hp), fun c hc hc' => hs _ (h.chK c hc hc')⟩
  exact row_same h.chs fun k e => hk k (h.chs.lt k e).2 (h.chF k e) ((h.neM em).1 k e) fun n hn e' => h.neC n hn k e' e
/-- The changes turn, and the cell that leads to them. -/
theorem DkM.mvC (h : DkM w b q F ks fm nb sn cv fv) {cl : List (By × By × Int)} {cw : Value} (hk : ∀ k, k < w.heap.size → F k → k ≠ b → cv.ownBlock ≠ some k → w'.heap[k]? = w.heap[k]?)
    (hb : w'.heap[b]? = some (.cells #[.int .i64 q.room, .map (some fm), .map (some nb), .map (some sn), cw, .int .i64 (q.st : Int), .int .i64 q.lf] 63 (0, 0)))
    (hc : w'.ownsRow 0 76 3 cw cl.length (cl.flatMap chV)) (hF : ∀ k, cw.ownBlock = some k → F k) (hK : ∀ c ∈ cl, c.2.1 ≠ [] → c.2.2 ∈ ks) : DkM w' b { q with ch := cl } F ks fm nb sn cw fv := by
  obtain ⟨e0, c0, em⟩ := h.fls.isMap
  obtain ⟨e1, c1, en⟩ := MapS.isMap h.nms
  obtain ⟨e2, c2, es⟩ := MapS.isMap h.sfs
  obtain ⟨f0, f1, f2, f3⟩ := h.inF
  obtain ⟨n1, n2, n3, n4, n5⟩ := h.neB
  exact ⟨hb, h.fls.same (hk _ h.fls.lt f1 n1 fun e => (h.neM em).1 _ e rfl), h.nms.same (hk _ h.nms.lt f2 n2 fun e => (h.neM en).1 _ e rfl), h.sfs.same (hk _ h.sfs.lt f3 n3 fun e => (h.neM es).1 _ e rfl), hc,
    fun n hn => row_same (h.own n hn) fun k e => hk k ((h.own n hn).lo k e).2 (h.ownF n hn k e) (n5 n hn k e) (h.neC n hn k e), h.ownF, h.ownD, hF, h.inF, h.fd, h.nmK, h.sfK, hK⟩
/-- A disk in block b, of which all lies in F. -/
def DkAt (w : World) (b : Nat) (q : Dq) (F : Nat → Prop) : Prop := ∃ ks fm nb sn cv fv, DkM w b q F ks fm nb sn cv fv ∧ (∀ n ∈ ks, 0 ≤ n ∧ n < (q.st : Int)) ∧ ks.length ≤ q.st ∧ ∀ k, F k → k < w.heap.size
theorem DkAt.kp (h : DkAt w b q F) (hk : Kf G w w') (hG : ∀ k, G k → ¬ F k) : DkAt w' b q F := by
  obtain ⟨ks, fm, nb, sn, cv, fv, h1, h2, h3, h4⟩ := h
  exact ⟨ks, fm, nb, sn, cv, fv, h1.kp (fun k _ hF => hk.block k (h4 k hF) fun g => hG k g hF) (fun _ f _ => f), h2, h3, fun k hF => Nat.lt_of_lt_of_le (h4 k hF) hk.size⟩
theorem DkAt.gb (h : DkAt w b q F) (g : Gb w w') : DkAt w' b q F := h.kp (Kf.gb g fun _ => False) fun _ h => h.elim
/-- F, and whatever is new. -/
def Wn (F : Nat → Prop) (w : World) : Nat → Prop := fun k => F k ∨ w.heap.size ≤ k
theorem DkM.wn (h : DkM w b q F ks fm nb sn cv fv) (w0 : World) : DkM w b q (Wn F w0) ks fm nb sn cv fv := h.kp (fun _ _ _ => rfl) fun _ f _ => .inl f
theorem DkM.nw {w0 : World} (h : DkM w b q (Wn F w0) ks fm nb sn cv fv) : DkM w b q (Nw F w0 w) ks fm nb sn cv fv := h.kp (fun _ _ _ => rfl) fun _ f g => f.elim .inl fun f => .inr ⟨f, g⟩
theorem Nw.lt (h : ∀ k, F k → k < w.heap.size) (hs : w.heap.size ≤ w'.heap.size) : ∀ k, Nw F w w' k → k < w'.heap.size := fun k hk => hk.elim (fun f => Nat.lt_of_lt_of_le (h k f) hs) fun f => f.2
theorem DkM.cells (h : DkM w b q F ks fm nb sn cv fv) : (w.cell? ⟨b, 0, none⟩ = some (.int .i64 q.room) ∧ w.cell? ⟨b, 1, none⟩ = some (.map (some fm)) ∧ w.cell? ⟨b, 2, none⟩ = some (.map (some nb)) ∧ w.cell? ⟨b, 3, none⟩ = some (.map (some sn)) ∧ w.cell? ⟨b, 4, none⟩ = some cv ∧
    w.cell? ⟨b, 5, none⟩ = some (.int .i64 (q.st : Int)) ∧ w.cell? ⟨b, 6, none⟩ = some (.int .i64 q.lf)) ∧ ∀ i, w.frozen? ⟨b, i, none⟩ = false := by
  have e := h.blk
  refine ⟨⟨?_, ?_, ?_, ?_, ?_, ?_, ?_⟩, fun i => ?_⟩ <;> simp [World.cell?, World.frozen?, e]

/-- The error that comes ahead of the others. -/
def rfE (q : Dq) : Int := if q.lf = 0 then 174 else 0
theorem none_c (h : DkAt w b q F) (ok : q.Ok) : Calls Try.prog 38 #[.pointer (some ⟨b, 0, none⟩)] w fun e w' => e = .returned (.bool false) ∧ w = w' := by
  obtain ⟨ks, fm, nb, sn, cv, fv, h1, _⟩ := h
  obtain ⟨⟨c0, _⟩, _⟩ := h1.cells
  have r := ok.room
  have e : (q.room == 0) = false := by rw [beq_eq_false_iff_ne]; omega
  clear h1 ok
  go_enter Try.func38, Try.ntmps38
  go_wp2
  go_ret
  exact ⟨rfl, rfl⟩
theorem none_nil (w : World) : Calls Try.prog 38 #[.pointer none] w fun e w' => e = .returned (.bool true) ∧ w = w' := by
  go_enter Try.func38, Try.ntmps38
  go_wp2
  go_ret
  exact ⟨rfl, rfl⟩
theorem refusal_c (h : DkAt w b q F) (ok : q.Ok) : Calls Try.prog 56 #[.pointer (some ⟨b, 0, none⟩)] w fun e w' => e = .returned (.int .i64 (rfE q)) ∧ w = w' := by
  have hn := none_c h ok
  obtain ⟨ks, fm, nb, sn, cv, fv, h1, _⟩ := h
  obtain ⟨⟨_, _, _, _, _, _, c6⟩, _⟩ := h1.cells
  by_cases e : q.lf = 0
  · have E : rfE q = 174 := by unfold rfE; rw [if_pos e]
    rw [E]
    have e : (q.lf == 0) = true := by rw [beq_iff_eq]; exact e
    clear h1 ok E
    go_enter Try.func56, Try.ntmps56
    go_wp2_with fail
    refine hn.mono ?_
    rintro e w' ⟨rfl, rfl⟩
    go_wp2
    go_ret
    exact ⟨rfl, rfl⟩
  · have E : rfE q = 0 := by unfold rfE; rw [if_neg e]
    rw [E]
    have e : (q.lf == 0) = false := by rw [beq_eq_false_iff_ne]; exact e
    clear h1 ok E
    go_enter Try.func56, Try.ntmps56
    go_wp2_with fail
    refine hn.mono ?_
    rintro e w' ⟨rfl, rfl⟩
    go_wp2
    go_ret
    exact ⟨rfl, rfl⟩
theorem refusal_nil (w : World) : Calls Try.prog 56 #[.pointer none] w fun e w' => e = .returned (.int .i64 3) ∧ w = w' := by
  have hn := none_nil w
  go_enter Try.func56, Try.ntmps56
  go_wp2_with fail
  refine hn.mono ?_
  rintro e w' ⟨rfl, rfl⟩
  go_wp2
  go_ret
  exact ⟨rfl, rfl⟩
end Go.Proofs.Ytkagnoinifffdaa
