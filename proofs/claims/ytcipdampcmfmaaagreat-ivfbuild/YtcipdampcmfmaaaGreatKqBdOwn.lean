/- Proved: the law IvfBuild answers true for all rows, every dimension and every way of building, and leaves them as they were; there is no condition on the input. -/
import Derived.Test.YtcipdampcmfmaaaGreatRows
import Derived.Test.YtcipdampcmfmaaaGreatIa44
import Derived.Test.YtcipdampcmfmaaaGreatIa46
namespace Go.Proofs.YtcipdampcmfmaaaGreat
open Go.ChangeShapes Go.WideShapes Go.ChangeAt Go.RowKit Go.Joins Go.Deep
set_option maxRecDepth 100000
theorem build_any {w:World} {v:Value} {l:List Rw} (hv:RdW w v l) (hwf:Wf l) (hrow:∀ i,i < l.length->l[i]!.2.length<=4611686018427387904) (d A B S:Int) (hus:Rn.U S) :
  Calls Tryz.prog 3 #[v,.int .i64 d,.agg #[.int .i64 A,.int .i64 B,.int .u64 S]] w fun e w'=>e=.returned (.bool true)/\Gb w w':=by
 by_cases hz:bldE l d A B=0
 ·obtain ⟨h1,h2,h3⟩:=bldE_zero.1 hz
  obtain ⟨lf,rfl⟩:=Int.eq_ofNat_of_zero_le (show 0<=A by omega)
  obtain ⟨B',rfl⟩:=Int.eq_ofNat_of_zero_le h3.1
  have hd:=(flatE_zero.1 h1).1
  obtain ⟨m,rfl⟩:=Int.eq_ofNat_of_zero_le (show 0<=d by omega)
  exact build_law_ok hv hwf hrow S h1 (by omega) (by omega) hus
 ·exact build_law_no hv hwf hrow d A B S hz
theorem ivfBuild_lifted (os:Os) (started:os.Started) (H:Type) (enc:TypeId × Value->H) :
  ReturnsInHanded {} Tryz.checked os 3 .any (Rows.ivfBuildSpec.pre6 enc Tryz.prog Tryz.f3 Rows.ivfBuildRow.domain false) (Rows.ivfBuildSpec.post enc Tryz.prog Tryz.f3 false true false false):=by
 refine returnsInHanded_of_change_sized (C:=Tryz.checked) Tryz.own started (by kernel_rfl) Tryz.func3
  (ChangeSpec.witness6 (enc:=enc) (C:=Tryz.checked) false ⟨#[],#[.slice none 0 0,.int .i64 0,.agg #[.int .i64 0,.int .i64 0,.int .u64 0]],[]⟩ 3 (by kernel_rfl) (by kernel_rfl) (by kernel_rfl) (by kernel_rfl)) ?_
 intro W base args ds gs before hval0 hW _ hsz0 _
 have hsz:(DataW.weightsEach Tryz.prog (Tryz.f3.params.toList ++ Rows.ivfBuildSpec.plain.varTypes Tryz.prog) (ds ++ gs)).all (·<=reachBytes)=true:=hsz0
 have hval:∀ (j:Nat) t v,Tryz.f3.params[j]? = some t->args[j]? = some v->Value.okWide Tryz.prog W .any base t v:=hval0
 have hW':=hW
 obtain ⟨p,q,hA0,hV,rfl,_,_⟩:=hW
 have hA:DataW.TrodAll enc Tryz.prog W 0 (fun _=>true) true Tryz.f3.params.toList args.toList ds p:=hA0
 rw [Tryz.params3] at hA hval hsz
 obtain ⟨v0,vs0,d0,ds0,p0,q0,e0,rfl,rfl,h0,hA⟩:=trodAll_cons hA
 obtain ⟨v1,vs1,d1,ds1,p1,q1,rfl,rfl,rfl,h1,hA⟩:=trodAll_cons hA
 obtain ⟨v2,vs2,d2,ds2,p2,q2,rfl,rfl,rfl,h2,hA⟩:=trodAll_cons hA
 obtain ⟨rfl,rfl,rfl⟩:=trodAll_nil hA
 obtain rfl:args=#[v0,v1,v2]:=Array.ext' e0
 obtain ⟨rfl,rfl⟩:=trodVars_none hV
 obtain ⟨rs,hr,hl,hwf,hrw,_⟩:=open_rows_sz (hval 0 22 v0 rfl rfl) h0 (fun n hn=>of_decide_eq_true (List.all_eq_true.1 hsz n (DataW.weights_mem_each (j:=0) (t:=22) rfl rfl n hn)))
 obtain ⟨d,rfl,rfl,rfl,_⟩:=open_int Tryz.underlying3 (hval 1 3 v1 rfl rfl) h1
 obtain ⟨A,B,S,rfl,hus⟩:=open_how (hval 2 25 v2 rfl rfl) h2
 have hy:reachBytes<=4611686018427387904:=by decide
 refine (build_any hr ⟨Nat.le_trans hl hy,hwf⟩ (fun i hi=>Nat.le_trans (hrw i hi) hy) d A B S hus).mono fun e W' ⟨he,hg⟩=>?_
 subst he
 exact ⟨_,rfl,law_post hW' rfl (by kernel_rfl) rfl (by rw [Tryz.params3];intro t ht;simp at ht;rcases ht with rfl | rfl | rfl <;> exact ⟨by kernel_rfl,of_decide_eq_true (by kernel_rfl)⟩) hg⟩
theorem ivfBuild_holds:Rows.IvfBuildSaid :=
 OpenClaim.holds_of_wide 3 Tryz.f3 rfl rfl rfl rfl rfl rfl rfl ⟨rfl,rfl,rfl,rfl,rfl⟩ rfl rfl rfl rfl rfl (by kernel_rfl) Tryz.func3 (by kernel_rfl)
  (of_decide_eq_true (by kernel_rfl)) (by unfold Func.isWrapper;first | (rw [if_pos (by decide +kernel)];kernel_rfl) | (rw [if_neg (by decide +kernel)];exact ⟨rfl,rfl⟩))
  (fun os started H enc _=>ivfBuild_lifted os started H enc)
#print axioms ivfBuild_holds
end Go.Proofs.YtcipdampcmfmaaaGreat
