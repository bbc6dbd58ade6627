/- Proved: the law IvfNil answers true for every call, and leaves it as it was; there is no condition on the input. -/
import Derived.Test.YtcipdampcmfmaaaGreatRows
import Derived.Test.YtcipdampcmfmaaaGreatIa42
import Derived.Test.YtcipdampcmfmaaaGreatIdKqNl
namespace Go.Proofs.YtcipdampcmfmaaaGreat
open Go.ChangeShapes Go.WideShapes Go.ChangeAt Go.RowKit Go.Joins
set_option maxRecDepth 100000
theorem open_op {H:Type} {enc:TypeId × Value->H} {W:World} {b0:Nat} {r:Reach} {v:Value} {d:DataW H} {p:List MemPlace}
  (hv':Value.okWide Tryz.prog W r b0 45 v) (h:DataW.Trod enc Tryz.prog W 0 (fun _=>true) true 45 v d p) :
  ∃ (k i n b ri:Int) (rv qv:Value) (rl ql:List Int),v=.agg #[.int .i64 k,.int .i64 i,.int .i64 n,.int .i64 b,.int .i64 ri,rv,qv]/\RdI W rv rl/\RdI W qv ql:=by
 obtain ⟨cs,rfl,hsz⟩:=okWide_struct Tryz.underlying45 hv'
 obtain ⟨fuel,hf⟩:=h
 obtain ⟨l⟩:=cs
 simp only [Value.cells] at hf
 obtain ⟨y0,y1,y2,y3,y4,y5,n,hl,k0,k1,k2,k3,k4,k5⟩:=trod_struct6 Tryz.underlying45 hf
 rw [Tryz.cellsOp] at hl
 match l,hl with
 | [c0,c1,c2,c3,c4,c5,c6],_ =>
  obtain ⟨z0,z1,m,_,hl1,j0,j1⟩:=trod_struct2 Tryz.underlying43 k4
  obtain ⟨a0,e0,_⟩:=DataW.trod_int Tryz.underlying3 k0
  obtain ⟨a1,e1,_⟩:=DataW.trod_int Tryz.underlying3 k1
  obtain ⟨a2,e2,_⟩:=DataW.trod_int Tryz.underlying3 k2
  obtain ⟨a3,e3,_⟩:=DataW.trod_int Tryz.underlying3 k3
  obtain ⟨a4,e4,_⟩:=DataW.trod_int Tryz.underlying3 j0
  obtain ⟨rv,rl,e5,hr,_⟩:=trod22 j1
  obtain ⟨qv,ql,e6,hq,_⟩:=trod22 k5
  simp [Tryz.cells3,Tryz.cells41,Tryz.cells43] at e0 e1 e2 e3 e4 e5 e6
  subst e0 e1 e2 e3 e4 e5 e6
  exact ⟨a0,a1,a2,a3,a4,_,_,rl,ql,rfl,hr,hq⟩
theorem ivfNil_lifted (os:Os) (started:os.Started) (H:Type) (enc:TypeId × Value->H) :
  ReturnsInHanded {} Tryz.checked os 7 .any (Rows.ivfNilSpec.pre6 enc Tryz.prog Tryz.f7 Rows.ivfNilRow.domain false) (Rows.ivfNilSpec.post enc Tryz.prog Tryz.f7 false true false false):=by
 refine returnsInHanded_of_change (C:=Tryz.checked) Tryz.own started (by kernel_rfl) Tryz.func7
  (ChangeSpec.witness6 (enc:=enc) (C:=Tryz.checked) false ⟨#[],#[.agg #[.int .i64 0,.int .i64 0,.int .i64 0,.int .i64 0,.int .i64 0,.slice none 0 0,.slice none 0 0]],[]⟩ 8 (by kernel_rfl) (by kernel_rfl) (by kernel_rfl) (by kernel_rfl)) ?_
 intro W base args ds gs before hval0 hW _ _
 have hval:∀ (j:Nat) t v,Tryz.f7.params[j]? = some t->args[j]? = some v->Value.okWide Tryz.prog W .any base t v:=hval0
 have hW':=hW
 obtain ⟨p,q,hA0,hV,rfl,_,_⟩:=hW
 have hA:DataW.TrodAll enc Tryz.prog W 0 (fun _=>true) true Tryz.f7.params.toList args.toList ds p:=hA0
 rw [Tryz.params7] at hA hval
 obtain ⟨v0,d0,rfl,rfl,h0⟩:=trodAll_one hA
 obtain ⟨rfl,rfl⟩:=trodVars_none hV
 obtain ⟨k,i,n,b,ri,rv,qv,rl,ql,rfl,hr,hq⟩:=open_op (hval 0 45 v0 rfl rfl) h0
 refine (nil_c hr hq).mono fun e W' ⟨he,hg⟩=>?_
 subst he
 exact ⟨_,rfl,law_post hW' rfl (by kernel_rfl) rfl (by rw [Tryz.params7];intro t ht;simp at ht;subst ht;exact ⟨by kernel_rfl,of_decide_eq_true (by kernel_rfl)⟩) hg⟩
theorem ivfNil_holds:Rows.IvfNilSaid :=
 OpenClaim.holds_of_wide 7 Tryz.f7 rfl rfl rfl rfl rfl rfl rfl ⟨rfl,rfl,rfl,rfl,rfl⟩ rfl rfl rfl rfl rfl (by kernel_rfl) Tryz.func7 (by kernel_rfl)
  (of_decide_eq_true (by kernel_rfl)) (by unfold Func.isWrapper;first | (rw [if_pos (by decide +kernel)];kernel_rfl) | (rw [if_neg (by decide +kernel)];exact ⟨rfl,rfl⟩))
  (fun os started H enc _=>ivfNil_lifted os started H enc)
#print axioms ivfNil_holds
end Go.Proofs.YtcipdampcmfmaaaGreat
