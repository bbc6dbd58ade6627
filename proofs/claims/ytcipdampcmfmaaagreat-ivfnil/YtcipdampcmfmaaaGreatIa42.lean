import Derived.Test.YtcipdampcmfmaaaGreatIa2
import Derived.ProofKit
import Derived.Carry
import Derived.Deep.Slices
import Derived.Lib.SmallJoins
import Derived.Test.YtcipdampcmfmaaaGreatIaKqPu
import Derived.Test.YtcipdampcmfmaaaGreatIa17
import Derived.Test.YtcipdampcmfmaaaGreatIa11
import Derived.Test.YtcipdampcmfmaaaGreatIa23
import Derived.Laws.AppendOwnNone
import Derived.Maps.AppendAt
import Derived.Test.YtcipdampcmfmaaaGreatIa6
namespace Go.Proofs.YtcipdampcmfmaaaGreat
open Go.ChangeShapes Go.WideShapes Go.ChangeAt Go.RowKit Go.Joins Go.Deep
set_option maxRecDepth 100000
theorem Tryz.own:ownKnob Tryz.prog.godebug=none:=by kernel_rfl
theorem Tryz.cells3:Tryz.prog.cellsOf 3=1:=by kernel_rfl
theorem Tryz.cells41:Tryz.prog.cellsOf 41=1:=by kernel_rfl
theorem Tryz.cells23:Tryz.prog.cellsOf 23=1:=by kernel_rfl
theorem Tryz.cells43:Tryz.prog.cellsOf 43=2:=by kernel_rfl
theorem below_trodAll {H:Type} {enc:TypeId × Value->H} {W W':World} (g:Gb W W'):∀ (ts:List TypeId) (vs:List Value) (ds:List (DataW H)) (p:List MemPlace),
  (∀ t ∈ ts,Tryz.prog.readableRec t=true/\t < Tryz.prog.types.size)->(∀ x ∈ p,x.block < W.heap.size)->DataW.TrodAll enc Tryz.prog W 0 (fun _=>true) true ts vs ds p ->
  DataW.TrodAll enc Tryz.prog W' 0 (fun b=>decide (b < W.heap.size)) true ts vs ds p
 | [],vs,ds,p,_,_,h=>by
  obtain ⟨rfl,rfl,rfl⟩:=trodAll_nil h
  rfl
 | t :: ts,vs,ds,p,hr,hl,h=>by
  obtain ⟨v,vs1,d,ds1,a,b,rfl,rfl,rfl,h1,h2⟩:=trodAll_cons h
  exact ⟨a,b,Below.trod (by kernel_rfl) (hr t List.mem_cons_self).1 (hr t List.mem_cons_self).2 h1 g (fun x hx=>hl x (List.mem_append_left _ hx)),
   below_trodAll g ts vs1 ds1 b (fun t' ht'=>hr t' (List.mem_cons_of_mem _ ht')) (fun x hx=>hl x (List.mem_append_right _ hx)) h2,rfl⟩
theorem law_post {H:Type} {enc:TypeId × Value->H} {s:ChangeSpec} {f:Func} {W W':World} {args:Array Value} {ds gs:List (DataW H)} {before:List MemPlace}
  (hW:DataW.Whole enc Tryz.prog f.params.toList s.vars false W args.toList ds gs before) (hv:s.vars=[]) (hr:f.resultTypes=#[4])
  (hf:s.fn H (ds ++ gs)={ results:=[.lit (.bool true)],args:=ds }) (hread:∀ t ∈ f.params.toList,Tryz.prog.readableRec t=true/\t < Tryz.prog.types.size) (g:Gb W W') :
  s.post enc Tryz.prog f false true false false W args (.bool true) W':=by
 have hlt:=hW.lt
 have hW2:=hW
 obtain ⟨p,q,hA,hV,rfl,_,_⟩:=hW2
 rw [hv] at hV
 obtain ⟨rfl,rfl⟩:=trodVars_none hV
 rw [List.append_nil] at hlt
 refine ⟨ds,[],p ++ [],[],p,[],hW,?_,?_,?_,Below.frame g _,fun h=>by cases h⟩
 ·rw [hf,hr]
  exact trodAll_mk1 (shut_bool Tryz.underlying4 _)
 ·rw [hf]
  exact below_trodAll g _ _ _ _ hread hlt hA
 ·rw [hf,hv]
  exact rfl
theorem spot_none {w:World} {a:Addr} {v:Value} (h:w.cell? a=some v):a=⟨a.block,a.off,none⟩:=by
 obtain ⟨b,o,s⟩:=a
 cases s with
 | none=>rfl
 | some s =>
  simp only [World.cell?] at h
  split at h <;> simp at h
theorem word_of_wf {a:Int} (h:(Lit.int .u64 a).wf=true):0<=a/\a < 18446744073709551616:=by
 simp [Lit.wf,IntKind.min,IntKind.max,IntKind.signed,IntKind.bits] at h
 exact ⟨by omega,by omega⟩
theorem trod22 {H:Type} {enc:TypeId × Value->H} {W:World} {base fuel:Nat} {hd:Bool} {cs:List Value} {x:DataW H × List MemPlace}
  (h:DataW.trod enc Tryz.prog W base (fun _=>true) hd fuel 41 cs=some x):∃ v l,cs=[v]/\RdI W v l/\l.length<=maxLen:=by
 rcases open_slice1 Tryz.underlying41 Tryz.cells3 h with ⟨rfl,_⟩ | ⟨a,len,cap,m,n,V,D,Pl,rfl,_,hlc,hcm,hm,_,hx⟩
 ·exact ⟨_,[],rfl,rdi_nil _,Nat.zero_le _⟩
 ·rw [if_pos rfl] at hm
  subst hm
  have hy:∀ i,i < len->∃ y:Int,W.cell? (a.add i)=some (.int .i64 y):=by
   intro i hi
   obtain ⟨hc,ht⟩:=hx i (by omega)
   obtain ⟨y,e,_⟩:=DataW.trod_int Tryz.underlying3 ht
   simp at e
   exact ⟨y,by rw [hc,e]⟩
  obtain ⟨Y,hY⟩:=choose_lt (α:=Int) (p:=fun i y=>W.cell? (a.add i)=some (.int .i64 y)) hy
  refine ⟨_,(List.range len).map Y,rfl,⟨some a,m,by simp,fun i hi=>?_⟩,by simp;omega⟩
  have hi':i < len:=by simpa using hi
  have ha:a=⟨a.block,a.off,none⟩:=spot_none (by simpa [Addr.add] using hY 0 (by omega))
  refine ⟨a.block,a.off,by rw [<- ha],?_⟩
  have e:((List.range len).map Y)[i]! = Y i:=by rw [getElem!_pos _ i hi];simp
  rw [e]
  have:=hY i hi'
  rwa [ha,Addr.add_lit] at this
theorem open_ints {H:Type} {enc:TypeId × Value->H} {W:World} {b0:Nat} {r:Reach} {v:Value} {d:DataW H} {p:List MemPlace}
  (hv':Value.okWide Tryz.prog W r b0 41 v) (h:DataW.Trod enc Tryz.prog W 0 (fun _=>true) true 41 v d p):∃ l,RdI W v l/\l.length<=maxLen:=by
 obtain ⟨a0,len,cap,rfl⟩:=okWide_slice Tryz.underlying41 hv'
 obtain ⟨fuel,hf⟩:=h
 obtain ⟨v,l,e,hr⟩:=trod22 (by simpa [Value.cells] using hf)
 cases e
 exact ⟨l,hr⟩
end Go.Proofs.YtcipdampcmfmaaaGreat

namespace Go.Proofs.YtcipdampcmfmaaaGreat
open Go.RowKit Go.Sort Go.Maps
theorem append_any {P:Program} {w:World} {ops:Array Oper} {rest:List Oper} {o:Oper} {a:Act} {Q:Exit->Act->World->Prop} (hgd:o.guard=none) (s x:Operand) (t:TypeId)
  (ho:o.op=.call { callee:=.builtin .append,args:=#[s,x],argTypes:=#[t,t] })
  (base:Nat) (e:TypeId) (i:TypeInfo) (z:Value) (size bytes:Nat) (ht:P.underlying t=some (.slice e)) (hi:P.info? e=some i) (hz:i.zero=some z)
  (hsize:i.size=size) (hby:i.bytes=bytes) (hzs:z.cells.size=size) (hsz:0 < size)
  (v:Value) (n:Nat) (xs:List Value) (hs:a.eval s=v) (hown:w.ownsRow base e size v n xs)
  (ax:Option Addr) (m c:Nat) (news:List Value) (hx:a.eval x=.slice ax m c) (hnil:ax=none->m=0/\c=0) (hl:news.length=m * size) (hnews:∀ ad,ax=some ad->∀ j u,news[j]? = some u->w.cell? (ad.add j)=some u) (h1:∀ u ∈ news,u.oneCell'=true)
  (h63:n + m<=maxLen) (hbytes:(n + m) * bytes<=140737488355328) (hbase:base<=w.heap.size)
  (h:∀ v' w',w'.ownsRow base e size v' (n + m) (xs ++ news)->w.grownBy w' v.ownBlock->(v'.ownBlock=v.ownBlock ∨ v'.ownBlock=some w.heap.size)->wpList P ops Q rest (a.put o.dst v') w') :
  wpList P ops Q (o :: rest) a w:=by
 cases ax with
 | none =>
  obtain ⟨rfl,rfl⟩:=hnil rfl
  have e0:news=[]:=List.length_eq_zero_iff.1 (by omega)
  subst e0
  refine wpList_append_own_none hgd s x t ho base e i size ht hi v n xs hs hown hx (h v w ?_ ?_ (.inl rfl))
  ·rw [List.append_nil];exact hown
  ·exact ⟨rfl,rfl,rfl,Nat.le_refl _,fun _ _ _=>rfl⟩
 | some ad=>exact wpList_append_own_at w hgd s x t ho base e i z size bytes ht hi hz hsize hby hzs hsz v n xs hs hown ad m c news hx hl (hnews ad rfl) h1 h63 hbytes hbase (fun v' w' a b _ d=>h v' w' a b d)
theorem del_split {rs:List Rw} {id:Int} (h:Ris rs) (hh:hasId rs id=true):delRw rs id=rs.take (plc rs id) ++ rs.drop (plc rs id + 1):=by
 obtain ⟨hp,he⟩:=plc_has h hh
 have hs:=split_lt id h
 generalize plc rs id=p at hp he hs ⊢
 have e:rs=rs.take p ++ rs[p] :: rs.drop (p + 1):=by rw [<- List.drop_eq_getElem_cons hp,List.take_append_drop]
 unfold delRw
 conv=>lhs;rw [e]
 rw [List.filter_append,List.filter_cons_of_neg (by simp [he])]
 congr 1
 ·rw [List.filter_eq_self]
  intro y hy
  rw [hs.1] at hy
  have:=(List.mem_filter.1 hy).2
  simp at this ⊢
  omega
 ·rw [List.filter_eq_self]
  intro y hy
  obtain ⟨j,hj,rfl⟩:=List.getElem_of_mem hy
  rw [List.getElem_drop]
  rw [List.length_drop] at hj
  have:=List.pairwise_iff_getElem.1 h p (p + 1 + j) hp (by omega) (by omega)
  simp
  omega
theorem put_at {rs:List Rw} {r:Rw} (h:Ris rs):putRw rs r=rs.take (plc rs r.1) ++ r :: rs.drop (plc rs r.1 + (if hasId rs r.1 then 1 else 0)):=by
 unfold putRw
 by_cases hh:hasId rs r.1=true
 ·rw [if_pos hh]
  obtain ⟨hp,he⟩:=plc_has h hh
  have hr:Ris (delRw rs r.1):=del_ris _ h
  have e:=del_split h hh
  have hl:(rs.take (plc rs r.1)).length=plc rs r.1:=by rw [List.length_take];omega
  have hpl:plc (delRw rs r.1) r.1=plc rs r.1:=by
   unfold plc delRw
   rw [List.filter_filter]
   congr 1
   apply List.filter_congr
   intro x _
   by_cases hx:x.1 < r.1
   ·have:¬ x.1=r.1:=by omega
    simp [hx,this]
   ·simp [hx]
  unfold insRw
  rw [hpl,e,List.take_left' hl,List.drop_left' hl]
 ·rw [if_neg hh,Nat.add_zero,del_none (Bool.eq_false_iff.2 hh)]
  rfl
theorem put_len {m:Nat} {rs:List Rw} {r:Rw} (h:Ris rs) (hl:rs.length<=512) (he:putE m rs r=0):(putRw rs r).length<=512:=by
 rw [put_at h,List.length_append,List.length_cons,List.length_take,List.length_drop]
 have hp:=plc_le rs r.1
 unfold putE at he
 by_cases hh:hasId rs r.1=true
 ·obtain ⟨hp',_⟩:=plc_has h hh
  rw [if_pos hh]
  omega
 ·have hf:=Bool.eq_false_iff.2 hh
  by_cases h1:okId r.1=true
  ·rw [if_pos h1] at he
   by_cases h2:chk r.2 (m:Int)=0
   ·rw [if_pos h2] at he
    by_cases h3:512<=rs.length
    ·rw [if_pos ⟨hf,h3⟩] at he
     exact absurd he (by decide)
    ·rw [if_neg hh]
     omega
   ·rw [if_neg h2] at he
    exact absurd he h2
  ·rw [if_neg h1] at he
   exact absurd he (by decide)
theorem putRw_ris {rs:List Rw} {r:Rw} (h:Ris rs):Ris (putRw rs r):=by
 refine ins_ris (del_ris _ h) (fun y hy=>?_)
 have:=(List.mem_filter.1 hy).2
 simpa using this
theorem OwnRs.gb {Iq:Nat->Prop} {W W':World} {v:Value} {d:List Rt} (h:OwnRs Iq W v d) (g:Gb W W'):OwnRs Iq W' v d:=h.kp (kpF g) (noF _) (fun _ _ h=>h)
theorem OwnRs.rdw {w:World} {v:Value} {d:List Rt} (h:OwnRs IqT w v d):RdW w v (d.map rwR):=by
 rcases h.row.2 with ⟨e,h0⟩ | ⟨g,cap,cur,e,_⟩
 ·have e0:d=[]:=List.length_eq_zero_iff.1 h0
  subst e e0
  exact ⟨none,0,rfl,fun i hi=>absurd hi (Nat.not_lt_zero _)⟩
 ·subst e
  have h1:=rwAt_own h.row
  exact RwRd.rdw' (cap:=cap) h1.1.rd (fun x hx=>(h.vec x hx).rd)
def TbAt (w:World) (tb m:Nat) (rs:List Rw) (G:List Nat):Prop:=∃ v d,w.heap[tb]? = some (.cells #[.int .i64 (m:Int),v] 83 (0,0))/\OwnRs IqT w v d/\d.map rwR=rs/\Ris rs/\rs.length<=512/\G=tb :: v.ownBlock.toList
theorem TbAt.kp {S:Nat->Prop} {w w':World} {tb m:Nat} {rs:List Rw} {G:List Nat} (h:TbAt w tb m rs G) (k:Tk.Kp S w w') (hS:NoInt w S) (hG:∀ x ∈ G,¬ S x):TbAt w' tb m rs G:=by
 obtain ⟨v,d,h1,h2,h3,h4,h5,rfl⟩:=h
 refine ⟨v,d,?_,h2.kp k hS (fun g e=>hG g ?_),h3,h4,h5,rfl⟩
 ·rw [k.block tb (Array.getElem?_eq_some_iff.1 h1).1 (hG tb List.mem_cons_self)];exact h1
 ·rw [e];simp
theorem TbAt.gb {w w':World} {tb m:Nat} {rs:List Rw} {G:List Nat} (h:TbAt w tb m rs G) (g:Gb w w'):TbAt w' tb m rs G:=h.kp (kpF g) (noF _) (fun _ _ h=>h)
theorem TbAt.mem {w:World} {tb m:Nat} {rs:List Rw} {G:List Nat} (h:TbAt w tb m rs G):tb ∈ G/\∀ y ∈ G,y < w.heap.size:=by
 obtain ⟨v,d,h1,h2,h3,h4,h5,rfl⟩:=h
 refine ⟨List.mem_cons_self,fun y hy=>?_⟩
 rcases List.mem_cons.1 hy with rfl | hy
 ·exact (Array.getElem?_eq_some_iff.1 h1).1
 ·exact (h2.row.lt y (by simpa using hy)).2
theorem TbAt.noint {w:World} {tb m:Nat} {rs:List Rw} {G:List Nat} (h:TbAt w tb m rs G):NoInt w (fun k=>k=tb):=by
 obtain ⟨v,d,h1,_⟩:=h
 intro k e cur s hc
 subst e
 rw [h1] at hc
 simp at hc
theorem TbAt.rd {w:World} {tb m:Nat} {rs:List Rw} {G:List Nat} (h:TbAt w tb m rs G):∃ a cap,w.cell? ⟨tb,0,none⟩=some (.int .i64 (m:Int))/\w.cell? ⟨tb,1,none⟩=some (.slice a rs.length cap)/\RdW w (.slice a rs.length cap) rs/\rs.length<=512:=by
 obtain ⟨v,d,h1,h2,h3,h4,h5,rfl⟩:=h
 have hd:d.length=rs.length:=by rw [<- h3,List.length_map]
 have hr:RdW w v rs:=by rw [<- h3];exact OwnRs.rdw h2
 obtain ⟨a,cap,e,hx⟩:=hr
 subst e
 exact ⟨a,cap,by simp [World.cell?,h1],by simp [World.cell?,h1],⟨a,cap,rfl,hx⟩,h5⟩
def TbOut (w:World) (tb m:Nat) (rs:List Rw) (G:List Nat) (w':World):Prop:=∃ G',TbAt w' tb m rs G'/\(∀ y ∈ G',y ∈ G ∨ w.heap.size<=y)/\Tk.Kp (fun k=>k=tb) w w'
theorem own_row_ne {W:World} {B B' n:Nat} {u v:Value} {x:List Int} {xs:List Value} (h:Own W B u x) (r:W.ownsRow B' 43 2 v n xs):u.ownBlock=none ∨ u.ownBlock ≠ v.ownBlock:=by
 rcases h.2 with ⟨rfl,_⟩ | ⟨g,cap,cur,rfl,_,h2,_⟩
 ·exact .inl rfl
 ·rcases r.2 with ⟨rfl,_⟩ | ⟨g',cap',cur',rfl,_,h4,_⟩
  ·exact .inr (by simp [Value.ownBlock])
  ·refine .inr (fun e=>?_)
   simp only [Value.ownBlock,Option.some.injEq] at e
   rw [e,h4] at h2
   simp at h2
theorem own_grown {W W':World} {B B' n:Nat} {u v:Value} {x:List Int} {xs:List Value} (h:Own W B u x) (r:W.ownsRow B' 43 2 v n xs) (g:W.grownBy W' v.ownBlock):Own W' B u x:=h.kept g (own_row_ne h r)
theorem ownsR_mono {w:World} {B B' n:Nat} {v:Value} {t:TypeId} {k:Nat} {xs:List Value} (h:w.ownsRow B t k v n xs) (hb:B'<=B):w.ownsRow B' t k v n xs:=by
 refine ⟨h.1,?_⟩
 rcases h.2 with h1 | ⟨g,cap,cur,e,hB,r⟩
 ·exact .inl h1
 ·exact .inr ⟨g,cap,cur,e,Nat.le_trans hb hB,r⟩
theorem tb_fin {w w5:World} {tb m n:Nat} {rs rs':List Rw} {G:List Nat} {v':Value} {d':List Rt} (h:TbAt w tb m rs G) (g:Gb w w5) (hr:w5.ownsRow w.heap.size 43 2 v' n (d'.flatMap encR)) (hn:n=d'.length)
  (hv:∀ x ∈ d',OwnQ IqT w5 x.2.1 x.2.2) (hd:d'.map rwR=rs') (hs:Ris rs') (hl:rs'.length<=512):TbOut w tb m rs' G (w5.setCell ⟨tb,1,none⟩ v'):=by
 subst hn
 have hm:=h.mem.2 tb h.mem.1
 have nb:=(h.gb g).noint
 have h5:=h.gb g
 obtain ⟨v,d,h1,_⟩:=h5
 have kb:Tk.Kp (fun k=>k=tb) w5 (w5.setCell ⟨tb,1,none⟩ v'):=(Tk.Kp.refl (fun k=>k=tb) w5).setCell (.inl rfl) _
 refine ⟨tb :: v'.ownBlock.toList,⟨v',d',?_,?_,hd,hs,hl,rfl⟩,fun y hy=>?_,(Tk.Kp.of_gr g).trans kb⟩
 ·simp [World.setCell,Array.getElem?_modify,h1]
 ·have o5:OwnRs IqT w5 v' d':=⟨ownsR_mono hr (Nat.zero_le _),hv,upT _⟩
  refine o5.kp kb nb (fun g' e hg=>?_)
  have:=(hr.lt g' e).1
  omega
 ·rcases List.mem_cons.1 hy with rfl | hy
  ·exact .inl h.mem.1
  ·exact .inr (hr.lt y (by simpa using hy)).1
theorem rows_news {w:World} {v:Value} {d:List Rt} (h:OwnRs IqT w v d) {g cap n:Nat} (e:v=.slice (some ⟨g,0,none⟩) n cap) (p:Nat):(∀ j u,((d.take p).flatMap encR)[j]? = some u->w.cell? ((⟨g,0,none⟩:Addr).add j)=some u)/\∀ j u,((d.drop p).flatMap encR)[j]? = some u->w.cell? ((⟨g,p * 2,none⟩:Addr).add j)=some u:=by
 subst e
 have hc:=h.row.cells (g:=g) rfl
 refine ⟨fun j u hj=>hc j u ?_,fun j u hj=>?_⟩
 ·rw [<- flat_takeR,List.getElem?_take] at hj
  by_cases c:j < p * 2
  ·rw [if_pos c] at hj;exact hj
  ·rw [if_neg c] at hj;cases hj
 ·rw [<- flat_dropR,List.getElem?_drop] at hj
  have:=hc _ u hj
  rw [Addr.add_lit] at this ⊢
  rw [Nat.zero_add] at this
  exact this
theorem encR_one {d:List Rt} {w:World} (hv:∀ x ∈ d,OwnQ IqT w x.2.1 x.2.2):∀ u ∈ d.flatMap encR,u.oneCell'=true:=by
 intro u hu
 obtain ⟨x,hx,hu⟩:=List.mem_flatMap.1 hu
 simp only [List.mem_cons,List.not_mem_nil,or_false] at hu
 rcases hu with rfl | rfl
 ·rfl
 ·obtain ⟨a,c,e,_⟩:=(hv x hx).rd
  rw [e];rfl
theorem encR_len (d:List Rt):(d.flatMap encR).length=d.length * 2:=by
 induction d with
 | nil=>rfl
 | cons x r ih=>rw [List.flatMap_cons,List.length_append,ih,List.length_cons];simp;omega
theorem owns_form {w:World} {B n k:Nat} {t:TypeId} {v:Value} {xs:List Value} (h:w.ownsRow B t k v n xs):∃ a c,v=.slice a n c:=by
 rcases h.2 with ⟨e,h0⟩ | ⟨g,cap,cur,e,_⟩
 ·exact ⟨none,0,by rw [e,h0]⟩
 ·exact ⟨_,cap,e⟩
theorem take_news {w:World} {a:Option Addr} {n cap:Nat} {d:List Rt} (h:OwnRs IqT w (.slice a n cap) d) (p:Nat) (hp:p<=n):(a=none->p=0/\cap=0)/\∀ ad,a=some ad->∀ j u,((d.take p).flatMap encR)[j]? = some u->w.cell? (ad.add j)=some u:=by
 rcases h.row.2 with ⟨e,h0⟩ | ⟨g,c,cur,e,_⟩
 ·injection e with e1 e2 e3
  subst e1 e2 e3
  exact ⟨fun _=>⟨by omega,rfl⟩,(fun ad e=>by cases e)⟩
 ·injection e with e1 e2 e3
  subst e1 e3
  refine ⟨(fun e=>by cases e),fun ad e=>?_⟩
  cases e
  exact (rows_news h rfl p).1
theorem rest_news {w:World} {a a2:Option Addr} {n cap:Nat} {d:List Rt} (h:OwnRs IqT w (.slice a n cap) d) (p:Nat) (hp:p<=n) (e2:(if cap=p then a else Option.map (fun x=>x.add (p * 2)) a)=a2):(a2=none->n - p=0/\cap - p=0)/\∀ ad,a2=some ad->∀ j u,((d.drop p).flatMap encR)[j]? = some u->w.cell? (ad.add j)=some u:=by
 rcases h.row.2 with ⟨e,h0⟩ | ⟨g,c,cur,e,_,_,hc,_⟩
 ·injection e with e1 e2' e3
  subst e1 e2' e3
  have e4:a2=none:=by rw [<- e2];split <;> rfl
  subst e4
  exact ⟨fun _=>⟨by omega,by omega⟩,fun ad e=>by cases e⟩
 ·injection e with e1 e2' e3
  subst e1 e3
  by_cases hcp:cap=p
  ·rw [if_pos hcp] at e2
   subst e2
   refine ⟨(fun e=>by cases e),fun ad e=>?_⟩
   intro j u hj
   rw [List.drop_of_length_le (by omega)] at hj
   cases hj
  ·rw [if_neg hcp] at e2
   subst e2
   refine ⟨(fun e=>by cases e),fun ad e=>?_⟩
   simp only [Option.map_some,Option.some.injEq] at e
   subst e
   rw [Addr.add_lit,Nat.zero_add]
   exact (rows_news h rfl p).2
theorem ints_news {w:World} {a:Option Addr} {n cap:Nat} {l:List Int} (h:RdI w (.slice a n cap) l):∀ ad,a=some ad->∀ j u,(l.map (Value.int .i64))[j]? = some u->w.cell? (ad.add j)=some u:=by
 intro ad e j u hj
 rw [List.getElem?_map] at hj
 obtain ⟨y,hy,rfl⟩:=Option.map_eq_some_iff.1 hj
 obtain ⟨hjl,hy⟩:=List.getElem?_eq_some_iff.1 hy
 obtain ⟨a',c',e',ha⟩:=h
 injection e' with e1 e2 e3
 obtain ⟨b',o',e4,hc⟩:=ha j hjl
 rw [<- e1,e] at e4
 cases e4
 rw [Addr.add_lit,hc,getElem!_pos l j hjl,hy]
theorem put_fin {w wr w1 w2 w3 w4:World} {tb m q q' r lu:Nat} {rs:List Rw} {G:List Nat} {xi:Int} {xl:List Int} {v v1 v2 v3 v4:Value} {d:List Rt} (h:TbAt w tb m rs G) (ho:OwnRs IqT w v d) (hd:d.map rwR=rs) (g0:Gb w wr) (hlu:lu=xl.length)
  (ho1:w1.ownsRow wr.heap.size 3 1 v1 lu ([] ++ xl.map (Value.int .i64))) (hg1:wr.grownBy w1 (Value.ownBlock (.slice none 0 0)))
  (ho2:w2.ownsRow wr.heap.size 43 2 v2 (0 + q) ([] ++ (d.take q).flatMap encR)) (hg2:w1.grownBy w2 (Value.ownBlock (.slice none 0 0)))
  (ho3:w3.ownsRow wr.heap.size 43 2 v3 (0 + q + 1) ([] ++ (d.take q).flatMap encR ++ [.int .i64 xi,v1])) (hg3:(w2.alloc (.cells #[.int .i64 xi,v1] 43)).grownBy w3 v2.ownBlock)
  (ho4:w4.ownsRow wr.heap.size 43 2 v4 (0 + q + 1 + r) ([] ++ (d.take q).flatMap encR ++ [.int .i64 xi,v1] ++ (d.drop q').flatMap encR)) (hg4:w3.grownBy w4 v3.ownBlock)
  (hr:r=d.length - q') (hq:q<=d.length) (hput:putRw rs (xi,xl)=rs.take q ++ (xi,xl) :: rs.drop q') (hris:Ris (putRw rs (xi,xl))) (hlen:(putRw rs (xi,xl)).length<=512):TbOut w tb m (putRw rs (xi,xl)) G (w4.setCell ⟨tb,1,none⟩ v4)/\Gb wr w4:=by
 have G1:Gb wr w1:=below_grown (Below.refl _ _) hg1 (fun k e=>by cases e) (Nat.le_refl _)
 have G2:Gb wr w2:=below_grown G1 hg2 (fun k e=>by cases e) G1.size
 have G2':Gb w1 w2:=below_grown (Below.refl _ _) hg2 (fun k e=>by cases e) (Nat.le_refl _)
 have G3:Gb wr w3:=below_grown (gb_alloc G2 _) hg3 (fun k e=>(ho2.lt k e).1) (gb_alloc G2 _).size
 have G4:Gb wr w4:=below_grown G3 hg4 (fun k e=>(ho3.lt k e).1) G3.size
 have GW:=gb_trans g0 G4
 refine ⟨tb_fin (d':=d.take q ++ (xi,v1,xl) :: d.drop q') h GW (ownsR_mono (by simpa using ho4) g0.size) ?_ ?_ ?_ hris hlen,G4⟩
 ·simp only [List.length_append,List.length_cons,List.length_take,List.length_drop];omega
 ·intro x hx
  rcases List.mem_append.1 hx with hx | hx
  ·exact (ho.gb GW).vec x (List.mem_of_mem_take hx)
  ·rcases List.mem_cons.1 hx with rfl | hx
   ·have o1:Own w1 wr.heap.size v1 xl:=by unfold Own;rw [<- hlu];simpa using ho1
    exact ⟨(own_grown (own_grown ((o1.gb G2').gb (gb_alloc (Below.refl _ _) _)) (ho2.alloc _) hg3) ho3 hg4).mono (Nat.zero_le _),fun _ _=>trivial⟩
   ·exact (ho.gb GW).vec x (List.mem_of_mem_drop hx)
 ·rw [hput,<- hd]
  simp only [List.map_append,List.map_cons,List.map_take,List.map_drop]
end Go.Proofs.YtcipdampcmfmaaaGreat

namespace Go.Proofs.YtcipdampcmfmaaaGreat
open Go.RowKit Go.Sort Go.Maps
set_option maxRecDepth 100000
set_option maxHeartbeats 1000000
theorem tput_id {w:World} {tb m:Nat} {rs:List Rw} {G:List Nat} {xi:Int} {u:Value} {xl:List Int} (h:TbAt w tb m rs G) (hu:RdI w u xl) (h1:okId xi=false):Calls Tryz.prog 42 #[.pointer (some ⟨tb,0,none⟩),.agg #[.int .i64 xi,u]] w fun e w'=>e=.returned (.tuple #[.bool false,.int .i64 50])/\TbOut w tb m rs G w':=by
 obtain ⟨W1,hW1⟩:∃ W1,W1=w.alloc (.cells #[.int .i64 xi,u] 43):=⟨_,rfl⟩
 have G0:Hid (Gb w W1):=by unfold Hid;rw [hW1];exact gb_alloc (Below.refl _ _) _
 have b0:W1.cell? ⟨w.heap.size,0,none⟩=some (.int .i64 xi):=by rw [hW1];simp [go_sem]
 have b1:W1.cell? ⟨w.heap.size,1,none⟩=some u:=by rw [hW1];simp [go_sem]
 have cI:=fun W=>rid_c xi W
 rw [h1] at cI
 obtain ⟨au,cu,rfl,_⟩:=hu
 go_enter Tryz.func42,Tryz.ntmps42
 go_wp2_with fail
 rw [<- hW1]
 clear hW1
 go_wp2_with fail
 refine (cI _).mono ?_
 rintro e w2 ⟨rfl,rfl⟩
 clear b0 b1 cI
 go_wp2
 exact bodyPost_ret (v:=.tuple #[.bool false,.int .i64 50]) (by simp [results,Tryz.results42,go_sem]) rfl ⟨rfl,G,h.gb G0.out,fun y hy=>.inl hy,Tk.Kp.of_gr G0.out⟩
theorem tput_chk {w:World} {tb m:Nat} {rs:List Rw} {G:List Nat} {xi:Int} {u:Value} {xl:List Int} (h:TbAt w tb m rs G) (hu:RdI w u xl) (h1:okId xi=true) {e0:Int} (h2:chk xl (m:Int)=e0) (h3:e0 ≠ 0):Calls Tryz.prog 42 #[.pointer (some ⟨tb,0,none⟩),.agg #[.int .i64 xi,u]] w fun e w'=>e=.returned (.tuple #[.bool false,.int .i64 e0])/\TbOut w tb m rs G w':=by
 obtain ⟨W1,hW1⟩:∃ W1,W1=w.alloc (.cells #[.int .i64 xi,u] 43):=⟨_,rfl⟩
 have G0:Hid (Gb w W1):=by unfold Hid;rw [hW1];exact gb_alloc (Below.refl _ _) _
 have b0:W1.cell? ⟨w.heap.size,0,none⟩=some (.int .i64 xi):=by rw [hW1];simp [go_sem]
 have b1:W1.cell? ⟨w.heap.size,1,none⟩=some u:=by rw [hW1];simp [go_sem]
 have cI:=fun W=>rid_c xi W
 rw [h1] at cI
 have cC:=fun W (g:Gb W1 W)=>rcheck_v ((hu.gb G0.out).gb g) (m:Int) e0 h2
 obtain ⟨a,cap,c0,c1,_⟩:=(h.gb G0.out).rd
 have GD:Gb W1 W1.drew:=⟨rfl,rfl,rfl,Nat.le_refl _,fun _ _=>rfl⟩
 have hzb:(e0 == 0)=false:=by rw [beq_eq_false_iff_ne];exact h3
 obtain ⟨au,cu,rfl,_⟩:=hu
 go_enter Tryz.func42,Tryz.ntmps42
 go_wp2_with fail
 rw [<- hW1]
 clear hW1
 go_wp2_with fail
 refine (cI _).mono ?_
 rintro e wa ⟨rfl,rfl⟩
 clear cI
 go_wp2_with fail
 refine wp_region_held_drew (S:=fun W=>Gb W1 W) (by kernel_rfl) (GD) (fun hHeld=>?_)
 refine tkn 0 ?_ rfl ?_ ?_;rotate_left;·(intro w hSw;obtain ⟨s0,s1,s2,s3⟩:=kp4 hSw b0 b1 c0 c1;go_simp;try rfl)
 refine tkn 1 ?_ rfl ?_ ?_;rotate_left;·(intro w hSw;obtain ⟨s0,s1,s2,s3⟩:=kp4 hSw b0 b1 c0 c1;go_simp;try rfl)
 refine tkn 2 ?_ rfl ?_ ?_;rotate_left;·(intro w hSw;obtain ⟨s0,s1,s2,s3⟩:=kp4 hSw b0 b1 c0 c1;go_simp;try rfl)
 refine tkn 3 ?_ rfl ?_ ?_;rotate_left;·(intro w hSw;obtain ⟨s0,s1,s2,s3⟩:=kp4 hSw b0 b1 c0 c1;go_simp;try rfl)
 refine tkn 4 ?_ rfl ?_ ?_;rotate_left;·(intro w hSw;obtain ⟨s0,s1,s2,s3⟩:=kp4 hSw b0 b1 c0 c1;go_simp;try rfl)
 refine tkn 5 ?_ rfl ?_ ?_;rotate_left;·(intro w hSw;obtain ⟨s0,s1,s2,s3⟩:=kp4 hSw b0 b1 c0 c1;go_simp;try rfl)
 refine rdn 6 rfl (fun K hK=>?_)
 go_simp
 refine (cC _ hHeld).mono ?_
 rintro e w3 ⟨rfl,rfl⟩
 refine hK.out _ _ (hHeld) (fun hHeld=>?_)
 clear hK K
 refine tkn 7 ?_ rfl ?_ ?_;rotate_left;·(intro w hSw;obtain ⟨s0,s1,s2,s3⟩:=kp4 hSw b0 b1 c0 c1;go_simp;try rfl)
 refine wpAnyH_done (by kernel_rfl) ?_ _
 clear b0 b1 c0 c1 cC
 have GF:Hid (Gb w W1.drew):=gb_trans G0.out hHeld
 clear hHeld
 go_wp2
 exact bodyPost_ret (v:=.tuple #[.bool false,.int .i64 e0]) (by simp [results,Tryz.results42,go_sem]) rfl ⟨rfl,G,h.gb GF.out,fun y hy=>.inl hy,Tk.Kp.of_gr GF.out⟩
end Go.Proofs.YtcipdampcmfmaaaGreat
