import Derived.Test.YtgbgejflmbhigaaGreatKwBoxY
import Derived.Test.YtgbgejflmbhigaaGreatKw16
import Derived.Test.YtgbgejflmbhigaaGreatKw4
namespace Go.Proofs.YtgbgejflmbhigaaGreat
open Go.RowKit Go.Sort
set_option maxHeartbeats 1000000
def Wf (rs:List Rw):Prop:=rs.length<=4611686018427387904/\∀ i,i < rs.length->(Lit.int .i64 rs[i]!.1).wf=true
theorem fcheck_c {w:World} {v:Value} {rs:List Rw} (h:RdW w v rs) (hwf:Wf rs) (d:Int) :
  Calls Tryz.prog 28 #[v,.int .i64 d] w fun e w'=>e=.returned (.int .i64 (flatE rs d))/\Gb w w':=by
 have hb:=box_c h d hwf.1 hwf.2
 have E:=flatE_box rs d
 obtain ⟨a,cap,rfl,_⟩:=h
 generalize boxR rs d=R at *
 generalize boxE rs d=x at *
 generalize flatE rs d=y at *
 generalize rs.length=n at *
 by_cases hx:x=1
 ·rw [if_pos hx] at E
  subst hx;subst E
  go_enter Tryz.func28,Tryz.ntmps28
  go_wp2_with fail
  refine hb.mono ?_
  rintro e w' ⟨vl,vh,vi,rfl,g,o1,o2,o3,_⟩
  obtain ⟨p1,c1,rfl,_⟩:=o1.rd
  obtain ⟨p2,c2,rfl,_⟩:=o2.rd
  obtain ⟨p3,c3,rfl,_⟩:=o3.rd
  clear hb o1 o2 o3
  go_wp2
  go_ret
  exact ⟨rfl,by refine gb_trans g ?_;go_grown⟩
 ·rw [if_neg hx] at E
  subst E
  have hx':(y == 1)=false:=by rw [beq_eq_false_iff_ne];exact hx
  go_enter Tryz.func28,Tryz.ntmps28
  go_wp2_with fail
  refine hb.mono ?_
  rintro e w' ⟨vl,vh,vi,rfl,g,o1,o2,o3,_⟩
  obtain ⟨p1,c1,rfl,_⟩:=o1.rd
  obtain ⟨p2,c2,rfl,_⟩:=o2.rd
  obtain ⟨p3,c3,rfl,_⟩:=o3.rd
  clear hb o1 o2 o3
  go_wp2
  go_ret
  exact ⟨rfl,by refine gb_trans g ?_;go_grown⟩
end Go.Proofs.YtgbgejflmbhigaaGreat

namespace Go.Proofs.YtgbgejflmbhigaaGreat
open Go.RowKit Go.Shelf
attribute [local go_sem] Oper.semAt_some
end Go.Proofs.YtgbgejflmbhigaaGreat

namespace Go.Proofs.YtgbgejflmbhigaaGreat
open Go.RowKit Go.Sort
end Go.Proofs.YtgbgejflmbhigaaGreat
