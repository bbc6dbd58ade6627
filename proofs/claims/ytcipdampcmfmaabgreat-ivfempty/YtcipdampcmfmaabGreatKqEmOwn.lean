/- Proved: the law IvfEmpty answers true for all rows, every way of building, every vector, every k and budget and every row more, and leaves them as they were; there is no condition on the input. -/
import Derived.Test.YtcipdampcmfmaabGreatRows
import Derived.Test.YtcipdampcmfmaabGreatJa31
import Derived.Deep.Strs
import Derived.Test.YtcipdampcmfmaabGreatJbKqEm
import Derived.Test.YtcipdampcmfmaabGreatJa46
namespace Go.Proofs.YtcipdampcmfmaabGreat
open Go.ChangeShapes Go.WideShapes Go.ChangeAt Go.RowKit Go.Joins Go.Deep
set_option maxRecDepth 100000
theorem open_row {H:Type} {enc:TypeId × Value->H} {W:World} {b0:Nat} {r:Reach} {v:Value} {d:DataW H} {p:List MemPlace}
  (hv':Value.okWide Tryz.prog W r b0 45 v) (h:DataW.Trod enc Tryz.prog W 0 (fun _=>true) true 45 v d p) :
  ∃ (x:Int) (u:Value) (l:List Int),v=.agg #[.int .i64 x,u]/\RdI W u l:=by
 obtain ⟨cs,rfl,hsz⟩:=okWide_struct Tryz.underlying45 hv'
 obtain ⟨fuel,hf⟩:=h
 obtain ⟨l⟩:=cs
 simp only [Value.cells] at hf
 obtain ⟨z0,z1,m,_,hl1,j0,j1⟩:=trod_struct2 Tryz.underlying45 hf
 rw [Tryz.cells45] at hl1
 match l,hl1 with
 | [c0,c1],_ =>
  obtain ⟨a,e0,_⟩:=DataW.trod_int Tryz.underlying3 j0
  obtain ⟨u,l,e1,hr,_⟩:=trod22 j1
  simp [Tryz.cells3,Tryz.cells26] at e0 e1
  subst e0 e1
  exact ⟨a,_,l,rfl,hr⟩
theorem empty_any {w:World} {v u x:Value} {l:List Rw} {q xl:List Int} (hv:RdW w v l) (hwf:Wf l) (hu:RdI w u q) (hx:RdI w x xl) (A B S k b xi:Int) (hus:Rn.U S) :
  Calls Tryz.prog 4 #[v,.agg #[.int .i64 A,.int .i64 B,.int .u64 S],u,.int .i64 k,.int .i64 b,.agg #[.int .i64 xi,x]] w fun e w'=>e=.returned (.bool true)/\Gb w w':=by
 obtain ⟨ax,cx,ex,_⟩:=hx.rd0
 subst ex
 by_cases hz:bldE l (q.length:Int) A B=0
 ·obtain ⟨h1,h2,h3⟩:=bldE_zero.1 hz
  obtain ⟨lf,rfl⟩:=Int.eq_ofNat_of_zero_le (show 0<=A by omega)
  obtain ⟨B',rfl⟩:=Int.eq_ofNat_of_zero_le h3.1
  exact empty_ok hv hwf hu hx S k b xi h1 (by omega) (by omega) hus
 ·exact empty_no hv hwf hu A B S k b xi hz
theorem ivfEmpty_lifted (os:Os) (started:os.Started) (H:Type) (enc:TypeId × Value->H) :
  ReturnsInHanded {} Tryz.checked os 4 .any (Rows.ivfEmptySpec.pre6 enc Tryz.prog Tryz.f4 Rows.ivfEmptyRow.domain false) (Rows.ivfEmptySpec.post enc Tryz.prog Tryz.f4 false true false false):=by
 refine returnsInHanded_of_change_sized (C:=Tryz.checked) Tryz.own started (by kernel_rfl) Tryz.func4
  (ChangeSpec.witness6 (enc:=enc) (C:=Tryz.checked) false ⟨#[],#[.slice none 0 0,.agg #[.int .i64 0,.int .i64 0,.int .u64 0],.slice none 0 0,.int .i64 0,.int .i64 0,.agg #[.int .i64 0,.slice none 0 0]],[]⟩ 4 (by kernel_rfl) (by kernel_rfl) (by kernel_rfl) (by kernel_rfl)) ?_
 intro W base args ds gs before hval0 hW _ hsz0 _
 have hsz:(DataW.weightsEach Tryz.prog (Tryz.f4.params.toList ++ Rows.ivfEmptySpec.plain.varTypes Tryz.prog) (ds ++ gs)).all (·<=reachBytes)=true:=hsz0
 have hval:∀ (j:Nat) t v,Tryz.f4.params[j]? = some t->args[j]? = some v->Value.okWide Tryz.prog W .any base t v:=hval0
 have hW':=hW
 obtain ⟨p,q,hA0,hV,rfl,_,_⟩:=hW
 have hA:DataW.TrodAll enc Tryz.prog W 0 (fun _=>true) true Tryz.f4.params.toList args.toList ds p:=hA0
 rw [Tryz.params4] at hA hval hsz
 obtain ⟨v0,vs0,d0,ds0,p0,q0,e0,rfl,rfl,h0,hA⟩:=trodAll_cons hA
 obtain ⟨v1,vs1,d1,ds1,p1,q1,rfl,rfl,rfl,h1,hA⟩:=trodAll_cons hA
 obtain ⟨v2,vs2,d2,ds2,p2,q2,rfl,rfl,rfl,h2,hA⟩:=trodAll_cons hA
 obtain ⟨v3,vs3,d3,ds3,p3,q3,rfl,rfl,rfl,h3,hA⟩:=trodAll_cons hA
 obtain ⟨v4,vs4,d4,ds4,p4,q4,rfl,rfl,rfl,h4,hA⟩:=trodAll_cons hA
 obtain ⟨v5,vs5,d5,ds5,p5,q5,rfl,rfl,rfl,h5,hA⟩:=trodAll_cons hA
 obtain ⟨rfl,rfl,rfl⟩:=trodAll_nil hA
 obtain rfl:args=#[v0,v1,v2,v3,v4,v5]:=Array.ext' e0
 obtain ⟨rfl,rfl⟩:=trodVars_none hV
 obtain ⟨rs,hr,hl,hwf,_,_⟩:=open_rows_sz (hval 0 22 v0 rfl rfl) h0 (fun n hn=>of_decide_eq_true (List.all_eq_true.1 hsz n (DataW.weights_mem_each (j:=0) (t:=22) rfl rfl n hn)))
 obtain ⟨A,B,S,rfl,hus⟩:=open_how (hval 1 25 v1 rfl rfl) h1
 obtain ⟨c,hc,_⟩:=open_ints (hval 2 26 v2 rfl rfl) h2
 obtain ⟨k,rfl,rfl,rfl,_⟩:=open_int Tryz.underlying3 (hval 3 3 v3 rfl rfl) h3
 obtain ⟨b,rfl,rfl,rfl,_⟩:=open_int Tryz.underlying3 (hval 4 3 v4 rfl rfl) h4
 obtain ⟨xi,x,xl,rfl,hx⟩:=open_row (hval 5 45 v5 rfl rfl) h5
 have hy:reachBytes<=4611686018427387904:=by decide
 refine (empty_any hr ⟨Nat.le_trans hl hy,hwf⟩ hc hx A B S k b xi hus).mono fun e W' ⟨he,hg⟩=>?_
 subst he
 exact ⟨_,rfl,law_post hW' rfl (by kernel_rfl) rfl (by rw [Tryz.params4];intro t ht;simp at ht;rcases ht with rfl | rfl | rfl | rfl | rfl | rfl <;> exact ⟨by kernel_rfl,of_decide_eq_true (by kernel_rfl)⟩) hg⟩
theorem ivfEmpty_holds:Rows.IvfEmptySaid :=
 OpenClaim.holds_of_wide 4 Tryz.f4 rfl rfl rfl rfl rfl rfl rfl ⟨rfl,rfl,rfl,rfl,rfl⟩ rfl rfl rfl rfl rfl (by kernel_rfl) Tryz.func4 (by kernel_rfl)
  (of_decide_eq_true (by kernel_rfl)) (by unfold Func.isWrapper;first | (rw [if_pos (by decide +kernel)];kernel_rfl) | (rw [if_neg (by decide +kernel)];exact ⟨rfl,rfl⟩))
  (fun os started H enc _=>ivfEmpty_lifted os started H enc)
#print axioms ivfEmpty_holds
end Go.Proofs.YtcipdampcmfmaabGreat
