/- Strings and bytes; Encode. -/
import Derived.Test.YtpjoaefmpdjjnaaSxCoP
namespace Go.Proofs.Ytpjoaefmpdjjnaa
open Go.RowKit Go.Lib

theorem sb_size (l : List UInt8) : (sb l).size = l.length := by simp [sb, ByteArray.size]
theorem sb_of (s : ByteArray) : s = sb s.data.toList := by cases s; simp [sb]
theorem sb_inj {l m : List UInt8} (h : sb l = sb m) : l = m := by
  have := congrArg (fun s => s.data.toList) h
  simpa [sb] using this
theorem gb_bytes (w : World) (e : TypeId) (s : ByteArray) : Gb w (bytesWorld w e s) := ⟨rfl, rfl, rfl, by rw [bytesWorld_size]; omega, fun k hk => bytesWorld_at_old w e s k hk⟩
theorem rdb_bytes (w : World) (l : List UInt8) : RdB (bytesWorld w 5 (sb l)) (.slice (some ⟨w.heap.size, 0, none⟩) l.length (grownCap w l.length 0 5)) l := by
  refine ⟨_, _, rfl, grownCap_ge _ _ _ _, fun i hi => ⟨w.heap.size, 0, rfl, ?_⟩⟩
  have := bytesWorld_cell w 5 (sb l) i (by rw [sb_size]; exact hi)
  rw [Nat.zero_add, this]
  simp [sb, List.getD, hi]
theorem conv_bytes (w : World) (l : List UInt8) : (convert 9 33 (.string (sb l))).run Try.prog w = .ok (.slice (some ⟨w.heap.size, 0, none⟩) l.length (grownCap w l.length 0 5)) (bytesWorld w 5 (sb l)) := by
  have := Go.Lib.run_convert_string_bytes (P := Try.prog) w 9 33 5 (sb l) Try.underlying9 Try.underlying33 Try.underlying5
  rw [sb_size] at this; exact this
theorem strCells_sb (l : List UInt8) : strCells (sb l) = l.map bv := by simp [strCells, sb, bv]
/-- What Encode tells: the error, the record. -/
def enE (k : Int) (n : Nat) : Int := if k < 1 ∨ 255 < k then 160 else if 262144 < n then 2 else 0
def enT (k : Nat) (l : List UInt8) : List UInt8 := leB k 1 ++ leB l.length 4 ++ leB (crc (UInt8.ofNat k :: l)).toNat 4 ++ l
def enP (w w' : World) (e : Ending) (k : Int) (l : List UInt8) : Prop := ∃ v', e = .returned (.tuple #[v', .int .i64 (enE k l.length)]) ∧ Gb w w' ∧ OwnB w' w.heap.size v' (if enE k l.length = 0 then enT k.toNat l else [])
end Go.Proofs.Ytpjoaefmpdjjnaa
