import Derived.Test.YtcbhhdjjanekaaaGreatDoorWxDkQ
import Derived.Test.YtcbhhdjjanekaaaGreatDoorWxCoD
import Derived.Test.YtcbhhdjjanekaaaGreatDoorWx5
import Derived.Lib.ItoaNum
import Derived.Lib.AtoiAll
import Derived.Lib.Strings
import Derived.Test.YtcbhhdjjanekaaaGreatDoorWxDkI
import Derived.Maps.OwnSet
import Derived.Shelf.Small.Wraps
import Derived.Shelf.Strconv.AtoiAll
import Derived.Shelf.Strconv.Itoa3
import Derived.Shelf.Slices.Turned
import Derived.Shelf.Sort.Plain
import Derived.Shelf.Slices.In.SortNone
import Derived.Shelf.Lay
import Derived.Lib.AtoiErrMem
import Derived.Lib.AppendIntMem
import Derived.Lib.OwnBridge
import Derived.Sort.OwnSortedInts
import Derived.Ground.NamesProg
/- wal, plainly: what each call makes of a log and its disk. -/
namespace Go.Proofs.YtcbhhdjjanekaaaGreatDoor
open Go

abbrev Sg := Int × Int
/-- The log beside its disk: the segments, the last one's bytes, is it torn, up to which number all is safe. -/
structure Lg where
  sg : List Sg
  sz : Nat
  tn : Bool
  sy : Int
abbrev Rec := Int × By
def pfx : By := [108, 111, 103, 46]
def sprN : By := [108, 111, 103, 46, 110, 101, 119]
def sgN (n : Int) : By := pfx ++ Lib.itoa n
/-- The number that a name tells. -/
def fst1 (x : By) : Option Int := if Lib.hasPrefix x pfx = true then (match Lib.atoiAll (Lib.trimPrefix x pfx) with | .ok v => some v | _ => none) else none
def srtN (l : List Int) : List Int := l.mergeSort fun x y => decide (x ≤ y)
def fsts (l : List By) : List Int := srtN (l.filterMap fst1)
def Lg.cur (L : Lg) : Sg := L.sg.getLastD (0, 0)
def Lg.lst (L : Lg) : Int := L.cur.2 - 1
def Lg.count (L : Lg) (n : Nat) : Lg := { L with sg := L.sg.dropLast ++ [(L.cur.1, L.cur.2 + 1)], sz := L.sz + n }
def Lg.add (L : Lg) (f : Int) : Lg := { L with sg := L.sg ++ [(f, f)], sz := 0, tn := false }
/-- What a file's bytes tell from the log's size on. -/
def Lg.takeF : Nat → By → Lg → List Rec × Lg
  | 0, _, L => ([], L)
  | f + 1, b, L => if dcE (b.drop L.sz) = 0 then
      let r := Lg.takeF f b (L.count (9 + dcN (b.drop L.sz)))
      ((L.cur.2, dcB (b.drop L.sz)) :: r.1, r.2)
    else ([], L)
def Lg.take (L : Lg) (b : By) : List Rec × Lg :=
  let r := L.takeF (b.length + 1) b
  (r.1, { r.2 with tn := decide (r.2.sz < b.length) })
/-- The files of these numbers, one behind the other. -/
def Lg.readF (q : Dq) : List Int → Lg → List Rec → Int × List Rec × Lg
  | [], L, rs => (0, rs, L)
  | f :: t, L, rs => if fiE q (sgN f) = 0 then
      let r := (L.add f).take (rdV q (sgN f))
      Lg.readF q t r.2 (rs ++ r.1)
    else (fiE q (sgN f), [], L.add f)
/-- A log and its disk behind a call, and the error. -/
abbrev Lq := Lg × Dq
def wBegin (s : Lq) (f : Int) : Int × Lq := if crE s.2 (sgN f) = 0 then (0, s.1.add f, s.2.create (sgN f)) else (crE s.2 (sgN f), s.1, s.2)
def wTidy (s : Lq) : Int × Lq :=
  if sprN ∈ nmL s.2 then
    (if fiE s.2 sprN = 0 then (if s.1.sg = [] then wBegin (s.1, s.2.remove sprN) 1 else (0, s.1, s.2.remove sprN)) else (fiE s.2 sprN, s))
  else if s.1.sg = [] then wBegin s 1 else (0, s)
def wFill (q : Dq) (b : By) : Int × Dq :=
  if b = [] then (0, q)
  else if apE q sprN b.length = 0 then (fiE (q.append sprN b) sprN, (q.append sprN b).sync sprN) else (apE q sprN b.length, q)
def Lg.cn (L : Lg) : By := sgN L.cur.1
def wMend2 (L : Lg) (q : Dq) (b : By) : Int × Lq :=
  let r := wFill q b
  if r.1 = 0 then (if reE r.2 sprN L.cn = 0 then (0, { L with tn := false }, r.2.rename sprN L.cn) else (reE r.2 sprN L.cn, L, r.2))
  else if r.1 = 173 then (173, L, r.2.remove sprN) else (r.1, L, r.2)
def wMend (s : Lq) : Int × Lq :=
  if fiE s.2 s.1.cn = 0 then
    (if crE s.2 sprN = 0 then wMend2 s.1 (s.2.create sprN) ((rdV s.2 s.1.cn).take s.1.sz) else (crE s.2 sprN, s))
  else (fiE s.2 s.1.cn, s)
def wRoll (s : Lq) : Int × Lq :=
  if s.1.sz = 0 then wMend s
  else if fiE s.2 s.1.cn = 0 then wBegin (s.1, s.2.sync s.1.cn) s.1.cur.2 else (fiE s.2 s.1.cn, s)
def wFull (s : Lq) : Bool := decide (16384 < s.1.sz) && decide ((nmL s.2).length < 60)
def wReady (s : Lq) : Int × Lq :=
  if s.1.tn = true ∧ wFull s = false then
    (if (wMend s).1 = 173 then wRoll (wMend s).2 else wMend s)
  else if s.1.tn = true ∨ wFull s = true then wRoll s else (0, s)
def wRmF : Nat → Int → Lq → Int × Lq
  | 0, _, s => (0, s)
  | f + 1, n, s => match s.1.sg with
    | a :: c :: t => if a.2 ≤ n + 1 then
        (if fiE s.2 (sgN a.1) = 0 then wRmF f n ({ s.1 with sg := c :: t }, s.2.remove (sgN a.1)) else (fiE s.2 (sgN a.1), s))
      else (0, s)
    | _ => (0, s)
def wRm (n : Int) (s : Lq) : Int × Lq := wRmF s.1.sg.length n s
def wSync (s : Lq) : Int × Lq :=
  if fiE s.2 s.1.cn = 0 then
    (if rfE (s.2.sync s.1.cn) = 0 then (0, { s.1 with sy := s.1.lst }, (s.2.sync s.1.cn).syncDir) else (rfE (s.2.sync s.1.cn), s.1, s.2.sync s.1.cn))
  else (fiE s.2 s.1.cn, s)
def wOpen (q : Dq) : Int × List Rec × Lq :=
  let r := Lg.readF q (fsts (nmL q)) ⟨[], 0, false, 0⟩ []
  if r.1 = 0 then
    (if (wTidy (r.2.2, q)).1 = 0 then ((wSync (wTidy (r.2.2, q)).2).1, r.2.1, (wSync (wTidy (r.2.2, q)).2).2)
     else ((wTidy (r.2.2, q)).1, r.2.1, (wTidy (r.2.2, q)).2))
  else (r.1, r.2.1, r.2.2, q)
def wApp (s : Lq) (d : By) : Int × Int × Lq :=
  if 65536 < d.length then (0, 2, s)
  else if (wReady s).1 = 0 then
    (if apE (wReady s).2.2 (wReady s).2.1.cn (enT 1 d).length = 0 then
      (((wReady s).2.1.count (enT 1 d).length).lst, 0, (wReady s).2.1.count (enT 1 d).length, (wReady s).2.2.append (wReady s).2.1.cn (enT 1 d))
     else (0, apE (wReady s).2.2 (wReady s).2.1.cn (enT 1 d).length, (wReady s).2))
  else (0, (wReady s).1, (wReady s).2)
def wCut (s : Lq) (n : Int) : Int × Lq :=
  if n < 0 ∨ s.1.lst < n then (180, s)
  else if (wRm n s).1 = 0 then
    (if n < (wRm n s).2.1.lst ∨ ((wRm n s).2.1.sz = 0 ∧ (wRm n s).2.1.tn = false) then (0, (wRm n s).2)
     else if (wRoll (wRm n s).2).1 = 0 then wRm n (wRoll (wRm n s).2).2 else wRoll (wRm n s).2)
  else wRm n s
end Go.Proofs.YtcbhhdjjanekaaaGreatDoor

/- The library's contracts at this program: CutPrefix, Atoi, Itoa, slices.Contains at strings, slices.Sort at numbers. -/
namespace Go.Proofs.YtcbhhdjjanekaaaGreatDoor
open Go.Shelf Go.RowKit Go.Lib Go.Sort

shelf_lay Lays.n103 Nm 103 at Tryz as Tryz.laysCut
shelf_lay LaysC.n172 Nm 172 at Tryz as Tryz.laysAtoi
shelf_lay LaysM.n171 Nm 171 at Tryz as Tryz.laysItoa
shelf_lay Lays.n110 Nm 110 at Tryz as Tryz.laysHas
shelf_lay Lays.n189 Nm 189 at Tryz as Tryz.laysSort

variable {w w' : World}
theorem cutPrefix_c (s p : By) (w : World) : Calls Tryz.prog 77 #[.string (sb s), .string (sb p)] w fun e w' => e = .returned (.tuple #[.string (sb (Lib.trimPrefix s p)), .bool (Lib.hasPrefix s p)]) ∧ w' = w := by
  have := Any.strings_CutPrefix Tryz.laysCut (sb s) (sb p) w
  change Calls Tryz.prog 77 _ _ _ at this
  rw [show (sb s).data.toList = s by simp [sb], show (sb p).data.toList = p by simp [sb]] at this
  exact this
/-- What the listed variables of strconv hold. -/
def ErrV (w : World) : Prop := (∃ te pe, w.cell? ⟨0, 0, none⟩ = some (.iface te pe)) ∧ (∃ te pe, w.cell? ⟨1, 0, none⟩ = some (.iface te pe))
theorem ErrV.gb (h : ErrV w) (b : Gb w w') : ErrV w' := by
  obtain ⟨⟨a, c, h1⟩, ⟨d, f, h2⟩⟩ := h
  exact ⟨⟨a, c, gb_keeps b h1⟩, ⟨d, f, gb_keeps b h2⟩⟩
def Gl (w : World) : Prop := Lib.TabIs Tryz.prog w "internal/strconv.uint64pow10" .u64 Lib.pow10Tab ∧ ErrV w
theorem Gl.gb (h : Gl w) (b : Gb w w') : Gl w' := ⟨Lib.tabBelow_of_tabIs h.1 w' b, h.2.gb b⟩
theorem itoa_c (i : Int) (h0 : -9223372036854775808 ≤ i) (h1 : i ≤ 9223372036854775807) (w : World) (hG : Gl w) : Calls Tryz.prog 72 #[.int .i64 i] w fun e w' => e = .returned (.string (sb (Lib.itoa i))) ∧ Gb w w' := by
  refine (Any.strconv_Itoa Tryz.laysItoa i h0 h1 w hG.1).mono ?_
  rintro e w' ⟨rfl, k, os, rfl⟩
  exact ⟨rfl, below_grow _ _ (Nat.le_refl _) _ _⟩
/-- What Atoi tells: the number, and nil where it is one. -/
theorem atoi_c (s : By) (hs : s.length ≤ 65536) (w : World) (hE : Gl w) : Calls Tryz.prog 78 #[.string (sb s)] w fun e w' => (∃ n x, e = .returned (.tuple #[.int .i64 n, x]) ∧ (match Lib.atoiAll s with | .ok v => n = v ∧ x = .nilIface | _ => ∃ N, x = .iface 151 (.pointer (some ⟨N, 0, none⟩)))) ∧ Gb w w' := by
  obtain ⟨⟨a, c, h1⟩, ⟨d, f, h2⟩⟩ := hE.2
  have hz : (sb s).size ≤ 65536 := by simpa [sb, ByteArray.size] using hs
  have hd : (sb s).data.toList = s := by simp [sb]
  cases h : Lib.atoiAll s with
  | ok v =>
    refine (Any.strconv_Atoi_ok Tryz.laysAtoi (sb s) (by omega) v (by rw [hd]; exact h) w).mono ?_
    rintro e w' ⟨rfl, hw⟩
    refine ⟨⟨v, .nilIface, rfl, rfl, rfl⟩, ?_⟩
    rcases hw with rfl | ⟨t, rfl⟩
    · exact Below.refl _ _
    · exact Lib.bytesWorld_below _ _ _
  | «syntax» =>
    refine (Any.strconv_Atoi_syntax Tryz.laysAtoi (sb s) (by omega) (by rw [hd]; exact h) _ w h1 (Or.inr ⟨_, _, rfl⟩)).mono ?_
    rintro e w' ⟨N, rfl, -, -, hb⟩
    exact ⟨⟨_, _, rfl, N, rfl⟩, hb⟩
  | range =>
    refine (Any.strconv_Atoi_range Tryz.laysAtoi (sb s) (by omega) (by rw [hd]; exact h) _ w h2 (Or.inr ⟨_, _, rfl⟩)).mono ?_
    rintro e w' ⟨N, rfl, -, -, hb⟩
    exact ⟨⟨_, _, rfl, N, rfl⟩, hb⟩
/-- Is a text among these? -/
theorem containsS_sb (l : List By) (x : By) : Lib.containsS (l.map sb) (sb x) = decide (x ∈ l) := by
  rw [Bool.eq_iff_iff, Lib.containsS_iff, decide_eq_true_iff]
  constructor
  · intro h
    obtain ⟨y, hy, e⟩ := List.mem_map.1 h
    rwa [← sb_inj e]
  · exact fun h => List.mem_map_of_mem h
theorem contains_c {base : Nat} {v : Value} {l : List By} (h : OwnT w base v l) (hl : l.length ≤ 1000000) (x : By) : Calls Tryz.prog 64 #[v, .string (sb x)] w fun e w' => e = .returned (.bool (decide (x ∈ l))) ∧ w' = w := by
  rcases id h.2 with ⟨rfl, h0⟩ | ⟨g, cap, cur, rfl, hg, hh, h1, h2, h3, h4⟩
  · obtain rfl := List.eq_nil_of_length_eq_zero h0
    have := Any.slices_Contains_string_empty Tryz.laysHas none 0 (sb x) w
    change Calls Tryz.prog 64 _ _ _ at this
    refine this.mono fun e w' h => ⟨by rw [h.1]; simp, h.2⟩
  · have := Any.slices_Contains_string Tryz.laysHas g 0 l.length cap (l.map sb) (sb x) w (by simp) (by omega) (fun j hj => by
      have hj' : j < l.length := by simpa using hj
      have := World.ownsRow.cells h (g := g) rfl j (.string (sb l[j]!)) (by rw [List.getElem?_map, List.getElem?_eq_getElem hj', getElem!_pos l j hj']; rfl)
      rw [Addr.add_lit] at this
      rw [this, List.getD, List.getElem?_map, List.getElem?_eq_getElem hj', getElem!_pos l j hj']; rfl)
    rw [List.take_of_length_le (by simp), containsS_sb] at this
    exact this
/-- The call owns, in blocks from base on, a slice v of these numbers. -/
def OwnI (w : World) (base : Nat) (v : Value) (l : List Int) : Prop := w.ownsRow base 3 1 v l.length (l.map (Value.int .i64))
theorem sort_c {base : Nat} {v : Value} {l : List Int} (h : OwnI w base v l) (hn : l.length ≤ 100000) (hb : base ≤ w.heap.size) :
    Calls Tryz.prog 79 #[v] w fun e w' => e = .returned (.tuple #[]) ∧ OwnI w' base v (srtN l) ∧ Below base w w' := by
  have hlen : (srtN l).length = l.length := List.length_mergeSort l
  rcases h.2 with ⟨rfl, h0⟩ | ⟨g, cap, cur, rfl, hg, hh, h1, h2, h3, h4⟩
  · have hc := Any.slices_Sort_int_none Tryz.laysSort none 0 w
    change Calls Tryz.prog 79 _ _ _ at hc
    refine hc.mono ?_
    rintro e w' ⟨rfl, e2⟩
    subst e2
    refine ⟨rfl, ?_, Below.refl _ _⟩
    have : l = [] := List.eq_nil_of_length_eq_zero h0
    subst this
    rw [show srtN [] = [] by simp [srtN]]
    exact World.ownsRow_nil _ _ _ _
  · have hH : Holds (Value.int .i64) w g 0 l.toArray := holds_of_blockI hh (by rw [Nat.mul_one] at h4; exact h4)
    have hc := Any.slices_Sort_int Tryz.laysSort g 0 cap l w hH (Array.getElem?_eq_some_iff.1 hh).1 (by omega)
    change Calls Tryz.prog 79 _ _ _ at hc
    refine hc.mono ?_
    rintro e w' ⟨rfl, n, os, rfl⟩
    refine ⟨rfl, ?_, ?_⟩
    · have := ownsRow_sortedI (n := n) (os := os) (ts := srtN l) hlen hg hh h1 h2 h3
      unfold OwnI
      rw [hlen]; exact this
    · exact Below.grown (Below.refl _ _) (grownBy_sortedI _) hb (fun k e => by cases e; exact hg)
end Go.Proofs.YtcbhhdjjanekaaaGreatDoor
