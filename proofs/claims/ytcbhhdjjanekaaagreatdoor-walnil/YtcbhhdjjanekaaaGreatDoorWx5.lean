import Derived.Test.YtcbhhdjjanekaaaGreatDoorWxCoO
/- withNumber and number above what was there; withVector, coord; checkChange. -/
namespace Go.Proofs.YtcbhhdjjanekaaaGreatDoor
open Go.RowKit

theorem OwnB.below {w1 w w' : World} {v v' : Value} {l : List UInt8} (g : Gb w1 w) (h : OwnB w w1.heap.size v l) (k : GrB w w' v v') : Gb w1 w' :=
  g.trans (k.below (fun i e => (h.lo i e).1) g.size)
theorem withNumber_g {w1 w : World} {v : Value} {l : List UInt8} (g : Gb w1 w) (h : OwnB w w1.heap.size v l) (m k : Nat) (hm : m < 4294967296) (hl : l.length + k ≤ 140737488355328) :
    Calls Tryz.prog 68 #[v, .int .u32 (m : Int), .int .i64 (k : Int)] w fun e w' => ∃ v', e = .returned v' ∧ OwnB w' w1.heap.size v' (l ++ leB m k) ∧ Gb w1 w' :=
  (withNumber_c h g.size m k hm hl).mono fun _ _ ⟨v', e, o, r⟩ => ⟨v', e, o, h.below g r⟩
/-- A coordinate's bytes; a vector's. -/
def co1 (x : Int) : List UInt8 := leB (x % 4294967296).toNat 4
def coB (v : List Int) : List UInt8 := v.flatMap co1
theorem co1_length (x : Int) : (co1 x).length = 4 := leB_length _ _
theorem coB_length (v : List Int) : (coB v).length = 4 * v.length := by
  unfold coB
  induction v with
  | nil => rfl
  | cons x v ih => rw [List.flatMap_cons, List.length_append, co1_length, ih, List.length_cons]; omega
theorem coB_take {v : List Int} {q : Nat} (hq : q < v.length) : coB (v.take (q + 1)) = coB (v.take q) ++ co1 v[q]! := by
  unfold coB
  rw [List.take_succ_eq_append_getElem hq, List.flatMap_append, getElem!_pos v q hq]; simp
/-- A change as a value; what keeps it from having a text; its text. -/
def Ch (k id : Int) (u : Value) : Value := .agg #[.int .i64 k, .int .i64 id, u]
def chE (k id : Int) (v : List Int) : Int := if k ≠ 1 ∧ k ≠ 2 then 160 else if id < 1 ∨ 1000000000 < id then 50 else if k = 1 then chk v v.length else if 0 < v.length then 1 else 0
def chT (k id : Int) (v : List Int) : List UInt8 := leB k.toNat 1 ++ leB id.toNat 4 ++ (if k = 1 then leB v.length 1 ++ coB v else [])
/-- These bytes as a string. -/
def sb (l : List UInt8) : ByteArray := ⟨l.toArray⟩
theorem str_of {w : World} {v : Value} {l : List UInt8} (h : RdB w v l) : (convert 59 9 v).run Tryz.prog w = .ok (.string (sb l)) w := by
  obtain ⟨a, cap, rfl, _, ha⟩ := h
  by_cases hl : l = []
  · subst hl
    rcases a with _ | a
    · exact run_convert_bytes_nil w 59 5 Tryz.underlying59 Tryz.underlying5 0 cap 9 Tryz.underlying9
    · obtain ⟨b, o, r⟩ := a
      rw [run_convert_bytes_string w 59 9 5 _ _ cap Tryz.underlying59 Tryz.underlying5 Tryz.underlying9]
      simp [Conv.bytesToString, loadCells]
      rfl
  · have h0 : 0 < l.length := List.length_pos_iff.2 hl
    obtain ⟨b, o, rfl, _⟩ := ha 0 h0
    have := run_convert_bytes_arg w 59 5 Tryz.underlying59 Tryz.underlying5 b o l.length cap (l.map fun x => (x.toNat : Int)) (by simp) (fun i hi => by
      obtain ⟨b', o', e, hc⟩ := ha i hi
      cases e
      rw [hc]; simp [List.getD, hi]) 9 Tryz.underlying9
    have e : (l.map (fun x => (x.toNat : Int))).map (fun n => UInt8.ofNat n.toNat) = l := by
      rw [List.map_map]
      conv => rhs; rw [← List.map_id l]
      apply List.map_congr_left
      intro x _
      simp
    unfold strOfNums at this
    rw [e] at this
    exact this
end Go.Proofs.YtcbhhdjjanekaaaGreatDoor

/- PutChange. -/
namespace Go.Proofs.YtcbhhdjjanekaaaGreatDoor
open Go.RowKit

theorem chE_zero {k id : Int} {v : List Int} (h : chE k id v = 0) : (1 ≤ id ∧ id ≤ 1000000000) ∧ (k = 1 ∧ chk v v.length = 0 ∧ 1 ≤ v.length ∧ v.length ≤ 64 ∨ k = 2 ∧ v = []) := by
  unfold chE at h
  split at h
  · omega
  split at h
  · omega
  refine ⟨by omega, ?_⟩
  split at h
  · rename_i hk
    refine .inl ⟨hk, h, ?_⟩
    unfold chk at h
    split at h
    · omega
    · omega
  · split at h
    · omega
    · exact .inr ⟨by omega, List.eq_nil_of_length_eq_zero (by omega)⟩
/-- What PutChange tells. -/
def pcV (k id : Int) (v : List Int) : Value := .tuple #[.string (sb (if chE k id v = 0 then chT k id v else [])), .int .i64 (chE k id v)]
end Go.Proofs.YtcbhhdjjanekaaaGreatDoor

/- Strings and bytes; Encode. -/
namespace Go.Proofs.YtcbhhdjjanekaaaGreatDoor
open Go.RowKit Go.Lib

theorem sb_size (l : List UInt8) : (sb l).size = l.length := by simp [sb, ByteArray.size]
theorem sb_of (s : ByteArray) : s = sb s.data.toList := by cases s; simp [sb]
theorem sb_inj {l m : List UInt8} (h : sb l = sb m) : l = m := by
  have := congrArg (fun s => s.data.toList) h
  simpa [sb] using this
theorem gb_bytes (w : World) (e : TypeId) (s : ByteArray) : Gb w (bytesWorld w e s) := ⟨rfl, rfl, rfl, by rw [bytesWorld_size]; omega, fun k hk => bytesWorld_at_old w e s k hk⟩
theorem rdb_bytes (w : World) (l : List UInt8) : RdB (bytesWorld w 5 (sb l)) (.slice (some ⟨w.heap.size, 0, none⟩) l.length (grownCap w l.length 0 5)) l := by
  refine ⟨_, _, rfl, grownCap_ge _ _ _ _, fun i hi => ⟨w.heap.size, 0, rfl, ?_⟩⟩
  have := bytesWorld_cell w 5 (sb l) i (by rw [sb_size]; exact hi)
  rw [Nat.zero_add, this]
  simp [sb, List.getD, hi]
theorem conv_bytes (w : World) (l : List UInt8) : (convert 9 59 (.string (sb l))).run Tryz.prog w = .ok (.slice (some ⟨w.heap.size, 0, none⟩) l.length (grownCap w l.length 0 5)) (bytesWorld w 5 (sb l)) := by
  have := Go.Lib.run_convert_string_bytes (P := Tryz.prog) w 9 59 5 (sb l) Tryz.underlying9 Tryz.underlying59 Tryz.underlying5
  rw [sb_size] at this; exact this
theorem strCells_sb (l : List UInt8) : strCells (sb l) = l.map bv := by simp [strCells, sb, bv]
/-- What Encode tells: the error, the record. -/
def enE (k : Int) (n : Nat) : Int := if k < 1 ∨ 255 < k then 160 else if 262144 < n then 2 else 0
def enT (k : Nat) (l : List UInt8) : List UInt8 := leB k 1 ++ leB l.length 4 ++ leB (crc (UInt8.ofNat k :: l)).toNat 4 ++ l
def enP (w w' : World) (e : Ending) (k : Int) (l : List UInt8) : Prop := ∃ v', e = .returned (.tuple #[v', .int .i64 (enE k l.length)]) ∧ Gb w w' ∧ OwnB w' w.heap.size v' (if enE k l.length = 0 then enT k.toNat l else [])
set_option maxHeartbeats 2000000 in
theorem encode_c (k : Int) (l : List UInt8) (hl : l.length ≤ 4611686018427387904) (w : World) :
    Calls Tryz.prog 43 #[.int .i64 k, .string (sb l)] w fun e w' => enP w w' e k l := by
  have hsz := sb_size l
  have hcv := conv_bytes w l
  have G1 := gb_bytes w 5 (sb l)
  have R1 := rdb_bytes w l
  have ST : Hid (strCells (sb l) = l.map bv) := strCells_sb l
  generalize bytesWorld w 5 (sb l) = w1 at *
  generalize grownCap w l.length 0 5 = gc at *
  generalize sb l = s at *
  unfold enP
  by_cases h1 : k < 1 ∨ 255 < k
  · have E : enE k l.length = 160 := by unfold enE; rw [if_pos h1]
    rw [E]
    by_cases h0 : k < 1
    · clear h1 hcv G1 R1 ST hsz hl E
      go_enter Tryz.func43, Tryz.ntmps43
      go_wp2
      exact bodyPost_ret (v := .tuple #[.slice none 0 0, .int .i64 160]) (by simp [results, Tryz.results43, go_sem]) rfl ⟨_, rfl, Below.refl _ _, ownb_nil _ _⟩
    · have h2 : 255 < k := by omega
      clear h1 hcv G1 R1 ST hsz hl E
      go_enter Tryz.func43, Tryz.ntmps43
      go_wp2
      exact bodyPost_ret (v := .tuple #[.slice none 0 0, .int .i64 160]) (by simp [results, Tryz.results43, go_sem]) rfl ⟨_, rfl, Below.refl _ _, ownb_nil _ _⟩
  have hk1 : ¬ k < 1 := by omega
  have hk2 : ¬ 255 < k := by omega
  by_cases h2 : 262144 < l.length
  · have E : enE k l.length = 2 := by unfold enE; rw [if_neg h1, if_pos h2]
    rw [E]
    clear h1 E R1 ST hcv G1
    generalize l.length = n at *
    have h2' : (262144 : Int) < (n : Int) := by omega
    go_enter Tryz.func43, Tryz.ntmps43
    go_wp2
    exact bodyPost_ret (v := .tuple #[.slice none 0 0, .int .i64 2]) (by simp [results, Tryz.results43, go_sem]) rfl ⟨_, rfl, Below.refl _ _, ownb_nil _ _⟩
  have E : enE k l.length = 0 := by unfold enE; rw [if_neg h1, if_neg h2]
  rw [E, if_pos rfl]
  obtain ⟨m, rfl⟩ : ∃ m : Nat, k = (m : Int) := ⟨k.toNat, by omega⟩
  have hm : m < 256 := by omega
  have M : Hid ((m : Int).toNat = m) := by unfold Hid; omega
  have hx : (m : Int) = ((UInt8.ofNat m).toNat : Int) := by simp; omega
  have c1 := checkOf_c R1 (by omega) (UInt8.ofNat m) hx
  have hU : U3 (crc (UInt8.ofNat m :: l)) := by unfold crc; exact u3_bits _ _ _
  have TT : Hid (enT m l = [] ++ leB m 1 ++ leB l.length 4 ++ leB (crc (UInt8.ofNat m :: l)).toNat 4 ++ l) := by unfold Hid enT; simp
  obtain ⟨cn, hcn⟩ : ∃ cn : Nat, crc (UInt8.ofNat m :: l) = (cn : Int) := ⟨(crc (UInt8.ofNat m :: l)).toNat, by unfold U3 at hU; omega⟩
  rw [hcn] at c1 hU TT
  have CN : Hid ((cn : Int).toNat = cn) := by unfold Hid; omega
  rw [CN.out] at TT
  rw [M.out]
  have hcl : cn < 4294967296 := by unfold U3 at hU; omega
  generalize hn : l.length = n at *
  have N : Hid (l.length = n) := hn
  have h2' : ¬ (262144 : Int) < (n : Int) := by omega
  have hn0 : n ≤ 262144 := by omega
  clear hn hx h1 E hcn hU R1 h2
  have W : Hid (Gb w w1) := G1
  go_enter Tryz.func43, Tryz.ntmps43
  go_wp2_with fail
  refine c1.mono ?_
  rintro e w2 ⟨rfl, g2⟩
  have g2 := gb_trans W.out g2
  have n1 := withNumber_g g2 (ownb_nil w2 w.heap.size) m 1 (by omega) (by simp)
  go_wp2_with fail
  refine n1.mono ?_
  rintro e w3 ⟨v3, rfl, o3, g3⟩
  have n2 := withNumber_g g3 o3 n 4 (by omega) (by simp [leB_length])
  go_wp2_with fail
  refine n2.mono ?_
  rintro e w4 ⟨v4, rfl, o4, g4⟩
  have n3 := withNumber_g g4 o4 cn 4 hcl (by simp [leB_length])
  go_wp2_with fail
  refine n3.mono ?_
  rintro e w5 ⟨v5, rfl, o5, g5⟩
  have len5 : ([] ++ leB m 1 ++ leB n 4 ++ leB cn 4).length = 9 := by simp [leB_length]
  have hrow := o5
  unfold OwnB at hrow
  rw [len5] at hrow
  obtain ⟨i0, II⟩ := info5
  have hsz5 := g5.size
  go_wp2_with (first
    | (at_builtin; refine wpList_append_own_string w5 rfl _ _ 59 9 rfl w.heap.size 5 i0 Tryz.underlying59 Tryz.underlying9 II.1 II.2.1 II.2.2.1 II.2.2.2 _ _ _ rfl hrow _ rfl (by unfold maxLen; omega) (by omega) hsz5 ?_; intro v6 w6 ho6 hg6 hn6)
    | go_in)
  refine bodyPost_ret (v := .tuple #[v6, .int .i64 0]) (by simp [results, Tryz.results43, go_sem]) rfl ⟨v6, rfl, ?_, ?_⟩
  · exact below_grown' g5 hg6 (fun i e => (o5.lo i e).1)
  · unfold OwnB
    rw [TT.out, List.length_append, len5, List.map_append, N.out]
    rw [ST.out, hsz] at ho6
    exact ho6
end Go.Proofs.YtcbhhdjjanekaaaGreatDoor
