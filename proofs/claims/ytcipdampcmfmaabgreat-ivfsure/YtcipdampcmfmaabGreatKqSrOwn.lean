/- Proved: the law IvfSure answers true for all rows, every way of building, every script of calls, every vector, every k and every budget, and leaves them as they were; there is no condition on the input. -/
import Derived.Test.YtcipdampcmfmaabGreatRows
import Derived.Test.YtcipdampcmfmaabGreatJa46
namespace Go.Proofs.YtcipdampcmfmaabGreat
open Go.ChangeShapes Go.WideShapes Go.ChangeAt Go.RowKit Go.Joins Go.Deep
set_option maxRecDepth 100000
theorem sure_any {w:World} {v u sc:Value} {l:List Rw} {q:List Int} {ops:List Opv} (hv:RdW w v l) (hwf:Wf l) (hs:RdO w sc ops) (hwo:WfO ops) (hn:ops.length<=maxLen) (hu:RdI w u q) (A B S k b:Int) (hus:Rn.U S) :
  Calls Tryz.prog 5 #[v,.agg #[.int .i64 A,.int .i64 B,.int .u64 S],sc,u,.int .i64 k,.int .i64 b] w fun e w'=>e=.returned (.bool true)/\Gb w w':=by
 by_cases hz:bldE l (q.length:Int) A B=0
 ·obtain ⟨h1,h2,h3⟩:=bldE_zero.1 hz
  obtain ⟨lf,rfl⟩:=Int.eq_ofNat_of_zero_le (show 0<=A by omega)
  obtain ⟨B',rfl⟩:=Int.eq_ofNat_of_zero_le h3.1
  exact sure_ok hv hwf hs hwo hn hu S k b h1 (by omega) (by omega) hus
 ·exact sure_no hv hwf hs hu A B S k b hz
theorem ivfSure_lifted (os:Os) (started:os.Started) (H:Type) (enc:TypeId × Value->H) :
  ReturnsInHanded {} Tryz.checked os 5 .any (Rows.ivfSureSpec.pre6 enc Tryz.prog Tryz.f5 Rows.ivfSureRow.domain false) (Rows.ivfSureSpec.post enc Tryz.prog Tryz.f5 false true false false):=by
 refine returnsInHanded_of_change_sized (C:=Tryz.checked) Tryz.own started (by kernel_rfl) Tryz.func5
  (ChangeSpec.witness6 (enc:=enc) (C:=Tryz.checked) false ⟨#[],#[.slice none 0 0,.agg #[.int .i64 0,.int .i64 0,.int .u64 0],.slice none 0 0,.slice none 0 0,.int .i64 0,.int .i64 0],[]⟩ 5 (by kernel_rfl) (by kernel_rfl) (by kernel_rfl) (by kernel_rfl)) ?_
 intro W base args ds gs before hval0 hW _ hsz0 _
 have hsz:(DataW.weightsEach Tryz.prog (Tryz.f5.params.toList ++ Rows.ivfSureSpec.plain.varTypes Tryz.prog) (ds ++ gs)).all (·<=reachBytes)=true:=hsz0
 have hval:∀ (j:Nat) t v,Tryz.f5.params[j]? = some t->args[j]? = some v->Value.okWide Tryz.prog W .any base t v:=hval0
 have hW':=hW
 obtain ⟨p,q,hA0,hV,rfl,_,_⟩:=hW
 have hA:DataW.TrodAll enc Tryz.prog W 0 (fun _=>true) true Tryz.f5.params.toList args.toList ds p:=hA0
 rw [Tryz.params5] at hA hval hsz
 obtain ⟨v0,vs0,d0,ds0,p0,q0,e0,rfl,rfl,h0,hA⟩:=trodAll_cons hA
 obtain ⟨v1,vs1,d1,ds1,p1,q1,rfl,rfl,rfl,h1,hA⟩:=trodAll_cons hA
 obtain ⟨v2,vs2,d2,ds2,p2,q2,rfl,rfl,rfl,h2,hA⟩:=trodAll_cons hA
 obtain ⟨v3,vs3,d3,ds3,p3,q3,rfl,rfl,rfl,h3,hA⟩:=trodAll_cons hA
 obtain ⟨v4,vs4,d4,ds4,p4,q4,rfl,rfl,rfl,h4,hA⟩:=trodAll_cons hA
 obtain ⟨v5,vs5,d5,ds5,p5,q5,rfl,rfl,rfl,h5,hA⟩:=trodAll_cons hA
 obtain ⟨rfl,rfl,rfl⟩:=trodAll_nil hA
 obtain rfl:args=#[v0,v1,v2,v3,v4,v5]:=Array.ext' e0
 obtain ⟨rfl,rfl⟩:=trodVars_none hV
 obtain ⟨rs,hr,hl,hwf,_,_⟩:=open_rows_sz (hval 0 22 v0 rfl rfl) h0 (fun n hn=>of_decide_eq_true (List.all_eq_true.1 hsz n (DataW.weights_mem_each (j:=0) (t:=22) rfl rfl n hn)))
 obtain ⟨A,B,S,rfl,hus⟩:=open_how (hval 1 25 v1 rfl rfl) h1
 obtain ⟨ops,ho,hol,hwo⟩:=open_ops (hval 2 60 v2 rfl rfl) h2
 obtain ⟨c,hc,_⟩:=open_ints (hval 3 26 v3 rfl rfl) h3
 obtain ⟨k,rfl,rfl,rfl,_⟩:=open_int Tryz.underlying3 (hval 4 3 v4 rfl rfl) h4
 obtain ⟨b,rfl,rfl,rfl,_⟩:=open_int Tryz.underlying3 (hval 5 3 v5 rfl rfl) h5
 have hy:reachBytes<=4611686018427387904:=by decide
 refine (sure_any hr ⟨Nat.le_trans hl hy,hwf⟩ ho hwo hol hc A B S k b hus).mono fun e W' ⟨he,hg⟩=>?_
 subst he
 exact ⟨_,rfl,law_post hW' rfl (by kernel_rfl) rfl (by rw [Tryz.params5];intro t ht;simp at ht;rcases ht with rfl | rfl | rfl | rfl | rfl | rfl <;> exact ⟨by kernel_rfl,of_decide_eq_true (by kernel_rfl)⟩) hg⟩
theorem ivfSure_holds:Rows.IvfSureSaid :=
 OpenClaim.holds_of_wide 5 Tryz.f5 rfl rfl rfl rfl rfl rfl rfl ⟨rfl,rfl,rfl,rfl,rfl⟩ rfl rfl rfl rfl rfl (by kernel_rfl) Tryz.func5 (by kernel_rfl)
  (of_decide_eq_true (by kernel_rfl)) (by unfold Func.isWrapper;first | (rw [if_pos (by decide +kernel)];kernel_rfl) | (rw [if_neg (by decide +kernel)];exact ⟨rfl,rfl⟩))
  (fun os started H enc _=>ivfSure_lifted os started H enc)
#print axioms ivfSure_holds
end Go.Proofs.YtcipdampcmfmaabGreat
