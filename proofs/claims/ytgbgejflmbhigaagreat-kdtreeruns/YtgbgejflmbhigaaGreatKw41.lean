import Derived.Test.YtgbgejflmbhigaaGreatKwKqPu
import Derived.Test.YtgbgejflmbhigaaGreatKw33
import Derived.Test.YtgbgejflmbhigaaGreatKw15
import Derived.Laws.AppendOwnNone
import Derived.Maps.AppendAt
import Derived.Test.YtgbgejflmbhigaaGreatKw11
import Derived.Deep.RegionWith
import Derived.Test.YtgbgejflmbhigaaGreatKw28
import Derived.Maps.OwnIn
import Derived.Test.YtgbgejflmbhigaaGreatKw16
namespace Go.Proofs.YtgbgejflmbhigaaGreat
open Go.RowKit Go.Sort Go.Maps
theorem append_any {P:Program} {w:World} {ops:Array Oper} {rest:List Oper} {o:Oper} {a:Act} {Q:Exit->Act->World->Prop} (hgd:o.guard=none) (s x:Operand) (t:TypeId)
  (ho:o.op=.call { callee:=.builtin .append,args:=#[s,x],argTypes:=#[t,t] })
  (base:Nat) (e:TypeId) (i:TypeInfo) (z:Value) (size bytes:Nat) (ht:P.underlying t=some (.slice e)) (hi:P.info? e=some i) (hz:i.zero=some z)
  (hsize:i.size=size) (hby:i.bytes=bytes) (hzs:z.cells.size=size) (hsz:0 < size)
  (v:Value) (n:Nat) (xs:List Value) (hs:a.eval s=v) (hown:w.ownsRow base e size v n xs)
  (ax:Option Addr) (m c:Nat) (news:List Value) (hx:a.eval x=.slice ax m c) (hnil:ax=none->m=0/\c=0) (hl:news.length=m * size) (hnews:∀ ad,ax=some ad->∀ j u,news[j]? = some u->w.cell? (ad.add j)=some u) (h1:∀ u ∈ news,u.oneCell'=true)
  (h63:n + m<=maxLen) (hbytes:(n + m) * bytes<=140737488355328) (hbase:base<=w.heap.size)
  (h:∀ v' w',w'.ownsRow base e size v' (n + m) (xs ++ news)->w.grownBy w' v.ownBlock->(v'.ownBlock=v.ownBlock ∨ v'.ownBlock=some w.heap.size)->wpList P ops Q rest (a.put o.dst v') w') :
  wpList P ops Q (o :: rest) a w:=by
 cases ax with
 | none =>
  obtain ⟨rfl,rfl⟩:=hnil rfl
  have e0:news=[]:=List.length_eq_zero_iff.1 (by omega)
  subst e0
  refine wpList_append_own_none hgd s x t ho base e i size ht hi v n xs hs hown hx (h v w ?_ ?_ (.inl rfl))
  ·rw [List.append_nil];exact hown
  ·exact ⟨rfl,rfl,rfl,Nat.le_refl _,fun _ _ _=>rfl⟩
 | some ad=>exact wpList_append_own_at w hgd s x t ho base e i z size bytes ht hi hz hsize hby hzs hsz v n xs hs hown ad m c news hx hl (hnews ad rfl) h1 h63 hbytes hbase (fun v' w' a b _ d=>h v' w' a b d)
theorem del_split {rs:List Rw} {id:Int} (h:Ris rs) (hh:hasId rs id=true):delRw rs id=rs.take (plc rs id) ++ rs.drop (plc rs id + 1):=by
 obtain ⟨hp,he⟩:=plc_has h hh
 have hs:=split_lt id h
 generalize plc rs id=p at hp he hs ⊢
 have e:rs=rs.take p ++ rs[p] :: rs.drop (p + 1):=by rw [<- List.drop_eq_getElem_cons hp,List.take_append_drop]
 unfold delRw
 conv=>lhs;rw [e]
 rw [List.filter_append,List.filter_cons_of_neg (by simp [he])]
 congr 1
 ·rw [List.filter_eq_self]
  intro y hy
  rw [hs.1] at hy
  have:=(List.mem_filter.1 hy).2
  simp at this ⊢
  omega
 ·rw [List.filter_eq_self]
  intro y hy
  obtain ⟨j,hj,rfl⟩:=List.getElem_of_mem hy
  rw [List.getElem_drop]
  rw [List.length_drop] at hj
  have:=List.pairwise_iff_getElem.1 h p (p + 1 + j) hp (by omega) (by omega)
  simp
  omega
theorem put_at {rs:List Rw} {r:Rw} (h:Ris rs):putRw rs r=rs.take (plc rs r.1) ++ r :: rs.drop (plc rs r.1 + (if hasId rs r.1 then 1 else 0)):=by
 unfold putRw
 by_cases hh:hasId rs r.1=true
 ·rw [if_pos hh]
  obtain ⟨hp,he⟩:=plc_has h hh
  have hr:Ris (delRw rs r.1):=del_ris _ h
  have e:=del_split h hh
  have hl:(rs.take (plc rs r.1)).length=plc rs r.1:=by rw [List.length_take];omega
  have hpl:plc (delRw rs r.1) r.1=plc rs r.1:=by
   unfold plc delRw
   rw [List.filter_filter]
   congr 1
   apply List.filter_congr
   intro x _
   by_cases hx:x.1 < r.1
   ·have:¬ x.1=r.1:=by omega
    simp [hx,this]
   ·simp [hx]
  unfold insRw
  rw [hpl,e,List.take_left' hl,List.drop_left' hl]
 ·rw [if_neg hh,Nat.add_zero,del_none (Bool.eq_false_iff.2 hh)]
  rfl
theorem put_len {m:Nat} {rs:List Rw} {r:Rw} (h:Ris rs) (hl:rs.length<=512) (he:putE m rs r=0):(putRw rs r).length<=512:=by
 rw [put_at h,List.length_append,List.length_cons,List.length_take,List.length_drop]
 have hp:=plc_le rs r.1
 unfold putE at he
 by_cases hh:hasId rs r.1=true
 ·obtain ⟨hp',_⟩:=plc_has h hh
  rw [if_pos hh]
  omega
 ·have hf:=Bool.eq_false_iff.2 hh
  by_cases h1:okId r.1=true
  ·rw [if_pos h1] at he
   by_cases h2:chk r.2 (m:Int)=0
   ·rw [if_pos h2] at he
    by_cases h3:512<=rs.length
    ·rw [if_pos ⟨hf,h3⟩] at he
     exact absurd he (by decide)
    ·rw [if_neg hh]
     omega
   ·rw [if_neg h2] at he
    exact absurd he h2
  ·rw [if_neg h1] at he
   exact absurd he (by decide)
theorem putRw_ris {rs:List Rw} {r:Rw} (h:Ris rs):Ris (putRw rs r):=by
 refine ins_ris (del_ris _ h) (fun y hy=>?_)
 have:=(List.mem_filter.1 hy).2
 simpa using this
theorem OwnRs.rdw {w:World} {v:Value} {d:List Rt} (h:OwnRs IqT w v d):RdW w v (d.map rwR):=by
 rcases h.row.2 with ⟨e,h0⟩ | ⟨g,cap,cur,e,_⟩
 ·have e0:d=[]:=List.length_eq_zero_iff.1 h0
  subst e e0
  exact ⟨none,0,rfl,fun i hi=>absurd hi (Nat.not_lt_zero _)⟩
 ·subst e
  have h1:=rwAt_own h.row
  exact RwRd.rdw (cap:=cap) h1.1.rd (fun x hx=>(h.vec x hx).rd)
def TbAt (w:World) (tb m:Nat) (rs:List Rw) (G:List Nat):Prop:=∃ v d,w.heap[tb]? = some (.cells #[.int .i64 (m:Int),v] 64 (0,0))/\OwnRs IqT w v d/\d.map rwR=rs/\Ris rs/\rs.length<=512/\G=tb :: v.ownBlock.toList
theorem TbAt.kp {S:Nat->Prop} {w w':World} {tb m:Nat} {rs:List Rw} {G:List Nat} (h:TbAt w tb m rs G) (k:Tk.Kp S w w') (hS:NoInt w S) (hG:∀ x ∈ G,¬ S x):TbAt w' tb m rs G:=by
 obtain ⟨v,d,h1,h2,h3,h4,h5,rfl⟩:=h
 refine ⟨v,d,?_,h2.kp k hS (fun g e=>hG g ?_),h3,h4,h5,rfl⟩
 ·rw [k.block tb (Array.getElem?_eq_some_iff.1 h1).1 (hG tb List.mem_cons_self)];exact h1
 ·rw [e];simp
theorem TbAt.gb {w w':World} {tb m:Nat} {rs:List Rw} {G:List Nat} (h:TbAt w tb m rs G) (g:Gb w w'):TbAt w' tb m rs G:=h.kp (kpF g) (noF _) (fun _ _ h=>h)
theorem TbAt.mem {w:World} {tb m:Nat} {rs:List Rw} {G:List Nat} (h:TbAt w tb m rs G):tb ∈ G/\∀ y ∈ G,y < w.heap.size:=by
 obtain ⟨v,d,h1,h2,h3,h4,h5,rfl⟩:=h
 refine ⟨List.mem_cons_self,fun y hy=>?_⟩
 rcases List.mem_cons.1 hy with rfl | hy
 ·exact (Array.getElem?_eq_some_iff.1 h1).1
 ·exact (h2.row.lt y (by simpa using hy)).2
theorem TbAt.noint {w:World} {tb m:Nat} {rs:List Rw} {G:List Nat} (h:TbAt w tb m rs G):NoInt w (fun k=>k=tb):=by
 obtain ⟨v,d,h1,_⟩:=h
 intro k e cur s hc
 subst e
 rw [h1] at hc
 simp at hc
theorem TbAt.rd {w:World} {tb m:Nat} {rs:List Rw} {G:List Nat} (h:TbAt w tb m rs G):∃ a cap,w.cell? ⟨tb,0,none⟩=some (.int .i64 (m:Int))/\w.cell? ⟨tb,1,none⟩=some (.slice a rs.length cap)/\RdW w (.slice a rs.length cap) rs/\rs.length<=512:=by
 obtain ⟨v,d,h1,h2,h3,h4,h5,rfl⟩:=h
 have hd:d.length=rs.length:=by rw [<- h3,List.length_map]
 have hr:RdW w v rs:=by rw [<- h3];exact OwnRs.rdw h2
 obtain ⟨a,cap,e,hx⟩:=hr
 subst e
 exact ⟨a,cap,by simp [World.cell?,h1],by simp [World.cell?,h1],⟨a,cap,rfl,hx⟩,h5⟩
def TbOut (w:World) (tb m:Nat) (rs:List Rw) (G:List Nat) (w':World):Prop:=∃ G',TbAt w' tb m rs G'/\(∀ y ∈ G',y ∈ G ∨ w.heap.size<=y)/\Tk.Kp (fun k=>k=tb) w w'
theorem own_row_ne {W:World} {B B' n:Nat} {u v:Value} {x:List Int} {xs:List Value} (h:Own W B u x) (r:W.ownsRow B' 39 2 v n xs):u.ownBlock=none ∨ u.ownBlock ≠ v.ownBlock:=by
 rcases h.2 with ⟨rfl,_⟩ | ⟨g,cap,cur,rfl,_,h2,_⟩
 ·exact .inl rfl
 ·rcases r.2 with ⟨rfl,_⟩ | ⟨g',cap',cur',rfl,_,h4,_⟩
  ·exact .inr (by simp [Value.ownBlock])
  ·refine .inr (fun e=>?_)
   simp only [Value.ownBlock,Option.some.injEq] at e
   rw [e,h4] at h2
   simp at h2
theorem own_grown {W W':World} {B B' n:Nat} {u v:Value} {x:List Int} {xs:List Value} (h:Own W B u x) (r:W.ownsRow B' 39 2 v n xs) (g:W.grownBy W' v.ownBlock):Own W' B u x:=h.kept g (own_row_ne h r)
theorem ownsR_mono {w:World} {B B' n:Nat} {v:Value} {t:TypeId} {k:Nat} {xs:List Value} (h:w.ownsRow B t k v n xs) (hb:B'<=B):w.ownsRow B' t k v n xs:=by
 refine ⟨h.1,?_⟩
 rcases h.2 with h1 | ⟨g,cap,cur,e,hB,r⟩
 ·exact .inl h1
 ·exact .inr ⟨g,cap,cur,e,Nat.le_trans hb hB,r⟩
theorem tb_fin {w w5:World} {tb m n:Nat} {rs rs':List Rw} {G:List Nat} {v':Value} {d':List Rt} (h:TbAt w tb m rs G) (g:Gb w w5) (hr:w5.ownsRow w.heap.size 39 2 v' n (d'.flatMap encR)) (hn:n=d'.length)
  (hv:∀ x ∈ d',OwnQ IqT w5 x.2.1 x.2.2) (hd:d'.map rwR=rs') (hs:Ris rs') (hl:rs'.length<=512):TbOut w tb m rs' G (w5.setCell ⟨tb,1,none⟩ v'):=by
 subst hn
 have hm:=h.mem.2 tb h.mem.1
 have nb:=(h.gb g).noint
 have h5:=h.gb g
 obtain ⟨v,d,h1,_⟩:=h5
 have kb:Tk.Kp (fun k=>k=tb) w5 (w5.setCell ⟨tb,1,none⟩ v'):=(Tk.Kp.refl (fun k=>k=tb) w5).setCell (.inl rfl) _
 refine ⟨tb :: v'.ownBlock.toList,⟨v',d',?_,?_,hd,hs,hl,rfl⟩,fun y hy=>?_,(Tk.Kp.of_gr g).trans kb⟩
 ·simp [World.setCell,Array.getElem?_modify,h1]
 ·have o5:OwnRs IqT w5 v' d':=⟨ownsR_mono hr (Nat.zero_le _),hv,upT _⟩
  refine o5.kp kb nb (fun g' e hg=>?_)
  have:=(hr.lt g' e).1
  omega
 ·rcases List.mem_cons.1 hy with rfl | hy
  ·exact .inl h.mem.1
  ·exact .inr (hr.lt y (by simpa using hy)).1
theorem rows_news {w:World} {v:Value} {d:List Rt} (h:OwnRs IqT w v d) {g cap n:Nat} (e:v=.slice (some ⟨g,0,none⟩) n cap) (p:Nat):(∀ j u,((d.take p).flatMap encR)[j]? = some u->w.cell? ((⟨g,0,none⟩:Addr).add j)=some u)/\∀ j u,((d.drop p).flatMap encR)[j]? = some u->w.cell? ((⟨g,p * 2,none⟩:Addr).add j)=some u:=by
 subst e
 have hc:=h.row.cells (g:=g) rfl
 refine ⟨fun j u hj=>hc j u ?_,fun j u hj=>?_⟩
 ·rw [<- flat_takeR,List.getElem?_take] at hj
  by_cases c:j < p * 2
  ·rw [if_pos c] at hj;exact hj
  ·rw [if_neg c] at hj;cases hj
 ·rw [<- flat_dropR,List.getElem?_drop] at hj
  have:=hc _ u hj
  rw [Addr.add_lit] at this ⊢
  rw [Nat.zero_add] at this
  exact this
theorem encR_one {d:List Rt} {w:World} (hv:∀ x ∈ d,OwnQ IqT w x.2.1 x.2.2):∀ u ∈ d.flatMap encR,u.oneCell'=true:=by
 intro u hu
 obtain ⟨x,hx,hu⟩:=List.mem_flatMap.1 hu
 simp only [List.mem_cons,List.not_mem_nil,or_false] at hu
 rcases hu with rfl | rfl
 ·rfl
 ·obtain ⟨a,c,e,_⟩:=(hv x hx).rd
  rw [e];rfl
theorem encR_len (d:List Rt):(d.flatMap encR).length=d.length * 2:=by
 induction d with
 | nil=>rfl
 | cons x r ih=>rw [List.flatMap_cons,List.length_append,ih,List.length_cons];simp;omega
theorem owns_form {w:World} {B n k:Nat} {t:TypeId} {v:Value} {xs:List Value} (h:w.ownsRow B t k v n xs):∃ a c,v=.slice a n c:=by
 rcases h.2 with ⟨e,h0⟩ | ⟨g,cap,cur,e,_⟩
 ·exact ⟨none,0,by rw [e,h0]⟩
 ·exact ⟨_,cap,e⟩
theorem take_news {w:World} {a:Option Addr} {n cap:Nat} {d:List Rt} (h:OwnRs IqT w (.slice a n cap) d) (p:Nat) (hp:p<=n):(a=none->p=0/\cap=0)/\∀ ad,a=some ad->∀ j u,((d.take p).flatMap encR)[j]? = some u->w.cell? (ad.add j)=some u:=by
 rcases h.row.2 with ⟨e,h0⟩ | ⟨g,c,cur,e,_⟩
 ·injection e with e1 e2 e3
  subst e1 e2 e3
  exact ⟨fun _=>⟨by omega,rfl⟩,(fun ad e=>by cases e)⟩
 ·injection e with e1 e2 e3
  subst e1 e3
  refine ⟨(fun e=>by cases e),fun ad e=>?_⟩
  cases e
  exact (rows_news h rfl p).1
theorem rest_news {w:World} {a a2:Option Addr} {n cap:Nat} {d:List Rt} (h:OwnRs IqT w (.slice a n cap) d) (p:Nat) (hp:p<=n) (e2:(if cap=p then a else Option.map (fun x=>x.add (p * 2)) a)=a2):(a2=none->n - p=0/\cap - p=0)/\∀ ad,a2=some ad->∀ j u,((d.drop p).flatMap encR)[j]? = some u->w.cell? (ad.add j)=some u:=by
 rcases h.row.2 with ⟨e,h0⟩ | ⟨g,c,cur,e,_,_,hc,_⟩
 ·injection e with e1 e2' e3
  subst e1 e2' e3
  have e4:a2=none:=by rw [<- e2];split <;> rfl
  subst e4
  exact ⟨fun _=>⟨by omega,by omega⟩,fun ad e=>by cases e⟩
 ·injection e with e1 e2' e3
  subst e1 e3
  by_cases hcp:cap=p
  ·rw [if_pos hcp] at e2
   subst e2
   refine ⟨(fun e=>by cases e),fun ad e=>?_⟩
   intro j u hj
   rw [List.drop_of_length_le (by omega)] at hj
   cases hj
  ·rw [if_neg hcp] at e2
   subst e2
   refine ⟨(fun e=>by cases e),fun ad e=>?_⟩
   simp only [Option.map_some,Option.some.injEq] at e
   subst e
   rw [Addr.add_lit,Nat.zero_add]
   exact (rows_news h rfl p).2
theorem ints_news {w:World} {a:Option Addr} {n cap:Nat} {l:List Int} (h:RdI w (.slice a n cap) l):∀ ad,a=some ad->∀ j u,(l.map (Value.int .i64))[j]? = some u->w.cell? (ad.add j)=some u:=by
 intro ad e j u hj
 rw [List.getElem?_map] at hj
 obtain ⟨y,hy,rfl⟩:=Option.map_eq_some_iff.1 hj
 obtain ⟨hjl,hy⟩:=List.getElem?_eq_some_iff.1 hy
 obtain ⟨a',c',e',ha⟩:=h
 injection e' with e1 e2 e3
 obtain ⟨b',o',e4,hc⟩:=ha j hjl
 rw [<- e1,e] at e4
 cases e4
 rw [Addr.add_lit,hc,getElem!_pos l j hjl,hy]
theorem put_fin {w wr w1 w2 w3 w4:World} {tb m q q' r lu:Nat} {rs:List Rw} {G:List Nat} {xi:Int} {xl:List Int} {v v1 v2 v3 v4:Value} {d:List Rt} (h:TbAt w tb m rs G) (ho:OwnRs IqT w v d) (hd:d.map rwR=rs) (g0:Gb w wr) (hlu:lu=xl.length)
  (ho1:w1.ownsRow wr.heap.size 3 1 v1 lu ([] ++ xl.map (Value.int .i64))) (hg1:wr.grownBy w1 (Value.ownBlock (.slice none 0 0)))
  (ho2:w2.ownsRow wr.heap.size 39 2 v2 (0 + q) ([] ++ (d.take q).flatMap encR)) (hg2:w1.grownBy w2 (Value.ownBlock (.slice none 0 0)))
  (ho3:w3.ownsRow wr.heap.size 39 2 v3 (0 + q + 1) ([] ++ (d.take q).flatMap encR ++ [.int .i64 xi,v1])) (hg3:(w2.alloc (.cells #[.int .i64 xi,v1] 39)).grownBy w3 v2.ownBlock)
  (ho4:w4.ownsRow wr.heap.size 39 2 v4 (0 + q + 1 + r) ([] ++ (d.take q).flatMap encR ++ [.int .i64 xi,v1] ++ (d.drop q').flatMap encR)) (hg4:w3.grownBy w4 v3.ownBlock)
  (hr:r=d.length - q') (hq:q<=d.length) (hput:putRw rs (xi,xl)=rs.take q ++ (xi,xl) :: rs.drop q') (hris:Ris (putRw rs (xi,xl))) (hlen:(putRw rs (xi,xl)).length<=512):TbOut w tb m (putRw rs (xi,xl)) G (w4.setCell ⟨tb,1,none⟩ v4)/\Gb wr w4:=by
 have G1:Gb wr w1:=below_grown (Below.refl _ _) hg1 (fun k e=>by cases e) (Nat.le_refl _)
 have G2:Gb wr w2:=below_grown G1 hg2 (fun k e=>by cases e) G1.size
 have G2':Gb w1 w2:=below_grown (Below.refl _ _) hg2 (fun k e=>by cases e) (Nat.le_refl _)
 have G3:Gb wr w3:=below_grown (gb_alloc G2 _) hg3 (fun k e=>(ho2.lt k e).1) (gb_alloc G2 _).size
 have G4:Gb wr w4:=below_grown G3 hg4 (fun k e=>(ho3.lt k e).1) G3.size
 have GW:=gb_trans g0 G4
 refine ⟨tb_fin (d':=d.take q ++ (xi,v1,xl) :: d.drop q') h GW (ownsR_mono (by simpa using ho4) g0.size) ?_ ?_ ?_ hris hlen,G4⟩
 ·simp only [List.length_append,List.length_cons,List.length_take,List.length_drop];omega
 ·intro x hx
  rcases List.mem_append.1 hx with hx | hx
  ·exact (ho.gb GW).vec x (List.mem_of_mem_take hx)
  ·rcases List.mem_cons.1 hx with rfl | hx
   ·have o1:Own w1 wr.heap.size v1 xl:=by unfold Own;rw [<- hlu];simpa using ho1
    exact ⟨(own_grown (own_grown ((o1.gb G2').gb (gb_alloc (Below.refl _ _) _)) (ho2.alloc _) hg3) ho3 hg4).mono (Nat.zero_le _),fun _ _=>trivial⟩
   ·exact (ho.gb GW).vec x (List.mem_of_mem_drop hx)
 ·rw [hput,<- hd]
  simp only [List.map_append,List.map_cons,List.map_take,List.map_drop]
theorem del_fin {w wr w1 w2:World} {tb m q r:Nat} {rs rs':List Rw} {G:List Nat} {v v1 v2:Value} {d:List Rt} (h:TbAt w tb m rs G) (ho:OwnRs IqT w v d) (hd:d.map rwR=rs) (g0:Gb w wr)
  (ho1:w1.ownsRow wr.heap.size 39 2 v1 (0 + q) ([] ++ (d.take q).flatMap encR)) (hg1:wr.grownBy w1 (Value.ownBlock (.slice none 0 0)))
  (ho2:w2.ownsRow wr.heap.size 39 2 v2 (0 + q + r) ([] ++ (d.take q).flatMap encR ++ (d.drop (q + 1)).flatMap encR)) (hg2:w1.grownBy w2 v1.ownBlock)
  (hr:r=d.length - (q + 1)) (hq:q<=d.length) (hput:rs'=rs.take q ++ rs.drop (q + 1)) (hris:Ris rs') (hlen:rs'.length<=512):TbOut w tb m rs' G (w2.setCell ⟨tb,1,none⟩ v2)/\Gb wr w2:=by
 have G1:Gb wr w1:=below_grown (Below.refl _ _) hg1 (fun k e=>by cases e) (Nat.le_refl _)
 have G2:Gb wr w2:=below_grown G1 hg2 (fun k e=>(ho1.lt k e).1) G1.size
 have GW:=gb_trans g0 G2
 refine ⟨tb_fin (d':=d.take q ++ d.drop (q + 1)) h GW (ownsR_mono (by simpa using ho2) g0.size) ?_ ?_ ?_ hris hlen,G2⟩
 ·simp only [List.length_append,List.length_take,List.length_drop];omega
 ·intro x hx
  rcases List.mem_append.1 hx with hx | hx
  ·exact (ho.gb GW).vec x (List.mem_of_mem_take hx)
  ·exact (ho.gb GW).vec x (List.mem_of_mem_drop hx)
 ·rw [hput,<- hd]
  simp only [List.map_append,List.map_take,List.map_drop]
end Go.Proofs.YtgbgejflmbhigaaGreat

namespace Go.Proofs.YtgbgejflmbhigaaGreat
open Go.RowKit
theorem plus_ex (n:Nat) (hn:n < 340282366920938463463374607431768211456) (o:Bool) (k v:Nat) (hk:k<=14) (hv:v < 8589934592) (w:World) :
  Calls Tryz.prog 198 #[Nm n o,.int .i64 (k:Int),.int .i64 (v:Int)] w fun e w'=>∃ q:Nat,∃ p:Bool,e=.returned (Nm q p)/\q < 340282366920938463463374607431768211456 /\
   Hid (q=(n + v * 65536 ^ k) % 340282366920938463463374607431768211456/\p=(o || decide (340282366920938463463374607431768211456<=n + v * 65536 ^ k)))/\Gr w w':=by
 refine (plus_any n hn o k v hk hv w).mono ?_
 rintro e w' ⟨rfl,g⟩
 exact ⟨_,_,rfl,Nat.mod_lt _ (by omega),⟨rfl,rfl⟩,g⟩
theorem sum_step (Y d:Nat) (ov:Bool) (q q':Nat) (p p':Bool) (hq:q=Y % 340282366920938463463374607431768211456) (hp:p=(ov || decide (340282366920938463463374607431768211456<=Y)))
  (hq':q'=(q + d) % 340282366920938463463374607431768211456) (hp':p'=(p || decide (340282366920938463463374607431768211456<=q + d))) :
  q'=(Y + d) % 340282366920938463463374607431768211456/\p'=(ov || decide (340282366920938463463374607431768211456<=Y + d)):=by
 subst hq hp hq' hp'
 refine ⟨by omega,?_⟩
 by_cases h:340282366920938463463374607431768211456<=Y
 ·rw [decide_eq_true h,decide_eq_true (show 340282366920938463463374607431768211456<=Y + d by omega)];simp
 ·rw [Nat.mod_eq_of_lt (by omega),decide_eq_false h];simp
theorem NumAt.zero (w:World) (t:TypeId):NumAt (w.alloc (.cells #[.int .i64 0,.int .i64 0,.int .i64 0,.int .i64 0,.int .i64 0,.int .i64 0,.int .i64 0,.int .i64 0,.bool false] t)) w.heap.size 0 false:=NumAt.new w 0 false t
theorem NumAt.drew {w:World} {B n:Nat} {o:Bool} (h:NumAt w B n o):NumAt w.drew B n o:=h.call (Gr.refl _).drew
end Go.Proofs.YtgbgejflmbhigaaGreat

namespace Go.Proofs.YtgbgejflmbhigaaGreat
open Go.RowKit Go.Sort
def HA (W:World) (g n cap:Nat) (f:Nat->Tk.Ht):Prop :=
 ∃ cur:Array Value,W.heap[g]? = some (.cells cur 60 (0,0))/\cur.size=cap * 3/\n<=cap/\cap<=maxLen/\∀ i,i < n->cur[i * 3]? = some (.int .i64 (f i).1)/\cur[i * 3 + 1]? = some (.int .u64 (f i).2.1)/\cur[i * 3 + 2]? = some (.int .u64 (f i).2.2)
theorem HA.lt {W:World} {g n cap:Nat} {f:Nat->Tk.Ht} (h:HA W g n cap f):g < W.heap.size:=by
 obtain ⟨cur,h1,_⟩:=h;exact (Array.getElem?_eq_some_iff.1 h1).1
theorem HA.cell {W:World} {g n cap:Nat} {f:Nat->Tk.Ht} (h:HA W g n cap f) {i:Nat} (hi:i < n):W.cell? ⟨g,i * 3,none⟩=some (.int .i64 (f i).1)/\W.cell? ⟨g,i * 3 + 1,none⟩=some (.int .u64 (f i).2.1)/\W.cell? ⟨g,i * 3 + 2,none⟩=some (.int .u64 (f i).2.2):=by
 obtain ⟨cur,h1,_,_,_,h4⟩:=h
 obtain ⟨a,b,c⟩:=h4 i hi
 simp [World.cell?,h1,a,b,c]
theorem HA.frozen {W:World} {g n cap:Nat} {f:Nat->Tk.Ht} (h:HA W g n cap f) (o:Nat):W.frozen? ⟨g,o,none⟩=false:=by
 obtain ⟨cur,h1,_⟩:=h
 simp [World.frozen?,h1]
theorem HA.block {W W':World} {g n cap:Nat} {f:Nat->Tk.Ht} (h:HA W g n cap f) (e:W'.heap[g]? = W.heap[g]?):HA W' g n cap f:=by
 obtain ⟨cur,h1,h2⟩:=h
 exact ⟨cur,e.trans h1,h2⟩
theorem HA.congr {W:World} {g n cap:Nat} {f f':Nat->Tk.Ht} (h:HA W g n cap f) (e:∀ i,i < n->f i=f' i):HA W g n cap f':=by
 obtain ⟨cur,h1,h2,h3,h4,h5⟩:=h
 exact ⟨cur,h1,h2,h3,h4,fun i hi=>by rw [<- e i hi];exact h5 i hi⟩
theorem HA.set {W:World} {g n cap:Nat} {f:Nat->Tk.Ht} (h:HA W g n cap f) {i:Nat} (hi:i < n) (x:Tk.Ht) :
  HA (((W.setCell ⟨g,i * 3,none⟩ (.int .i64 x.1)).setCell ⟨g,i * 3 + 1,none⟩ (.int .u64 x.2.1)).setCell ⟨g,i * 3 + 2,none⟩ (.int .u64 x.2.2)) g n cap (fun t=>if t=i then x else f t):=by
 obtain ⟨cur,h1,h2,h3,h4,h5⟩:=h
 refine ⟨((cur.setIfInBounds (i * 3) (.int .i64 x.1)).setIfInBounds (i * 3 + 1) (.int .u64 x.2.1)).setIfInBounds (i * 3 + 2) (.int .u64 x.2.2),?_,by simpa using h2,h3,h4,fun t ht=>?_⟩
 ·simp [World.setCell,Array.getElem?_modify,h1]
 ·by_cases e:t=i
  ·subst e
   simp only [if_true]
   refine ⟨?_,?_,?_⟩
   ·rw [Array.getElem?_setIfInBounds_ne (by omega),Array.getElem?_setIfInBounds_ne (by omega),Array.getElem?_setIfInBounds_self_of_lt (by omega)]
   ·rw [Array.getElem?_setIfInBounds_ne (by omega),Array.getElem?_setIfInBounds_self_of_lt (by simp;omega)]
   ·rw [Array.getElem?_setIfInBounds_self_of_lt (by simp;omega)]
  ·simp only [if_neg e]
   obtain ⟨a,b,c⟩:=h5 t ht
   refine ⟨?_,?_,?_⟩
   ·rw [Array.getElem?_setIfInBounds_ne (by omega),Array.getElem?_setIfInBounds_ne (by omega),Array.getElem?_setIfInBounds_ne (by omega)];exact a
   ·rw [Array.getElem?_setIfInBounds_ne (by omega),Array.getElem?_setIfInBounds_ne (by omega),Array.getElem?_setIfInBounds_ne (by omega)];exact b
   ·rw [Array.getElem?_setIfInBounds_ne (by omega),Array.getElem?_setIfInBounds_ne (by omega),Array.getElem?_setIfInBounds_ne (by omega)];exact c
theorem ha_of_own {W:World} {g n cap:Nat} {d:Array Tk.Ht} (h:Tk.Own W (.slice (some ⟨g,0,none⟩) n cap) d):n=d.size/\HA W g d.size cap (fun i=>d.toList[i]!):=by
 rcases h.2 with ⟨e,_⟩ | ⟨g',cap',cur,e,_,h2,h3,h4,h5,h6⟩
 ·cases e
 ·cases e
  refine ⟨rfl,cur,h2,h5,h3,h4,fun i hi=>?_⟩
  have hl:i < d.toList.length:=by simpa using hi
  have key:∀ c,c < 3->cur[i * 3 + c]? = (Tk.enc d.toList[i]!)[c]? := fun c hc=>by
   have h7:=Tk.fl_get d.toList i c hl hc
   rw [<- h6,List.getElem?_take_of_lt (by omega),Array.getElem?_toList] at h7
   rw [h7,getElem!_pos d.toList i hl]
  have k0:=key 0 (by omega)
  have k1:=key 1 (by omega)
  have k2:=key 2 (by omega)
  rw [Nat.add_zero] at k0
  exact ⟨k0.trans rfl,k1.trans rfl,k2.trans rfl⟩
theorem own_of_ha {W:World} {g cap:Nat} {l:List Tk.Ht} {f:Nat->Tk.Ht} (h:HA W g l.length cap f) (e:∀ i,i < l.length->f i=l[i]!):Tk.Own W (.slice (some ⟨g,0,none⟩) l.length cap) l.toArray:=by
 obtain ⟨cur,h1,h2,h3,h4,h5⟩:=h
 refine ⟨by rw [Tk.fl_len];simp,.inr ⟨g,cap,cur,by simp,Nat.zero_le _,h1,by simpa using h3,h4,h2,?_⟩⟩
 simp only [List.size_toArray]
 apply List.ext_getElem?
 intro j
 by_cases hj:j < l.length * 3
 ·obtain ⟨i,c,hc,rfl⟩:∃ i c,c < 3/\j=i * 3 + c:=⟨j / 3,j % 3,by omega,by omega⟩
  have hi:i < l.length:=by omega
  rw [List.getElem?_take_of_lt hj,Array.getElem?_toList,Tk.fl_get l i c hi hc]
  obtain ⟨a,b,d⟩:=h5 i hi
  rw [e i hi,getElem!_pos l i hi] at a b d
  rcases c with _ | _ | _ | c
  ·rw [Nat.add_zero];exact a
  ·exact b
  ·exact d
  ·omega
 ·rw [List.getElem?_eq_none (by rw [List.length_take];omega),List.getElem?_eq_none (by rw [Tk.fl_len];simpa using hj)]
end Go.Proofs.YtgbgejflmbhigaaGreat

namespace Go.Proofs.YtgbgejflmbhigaaGreat
open Go.RowKit Go.Shelf Go.Sort Go.Lib
attribute [local go_sem] Oper.semAt_some
end Go.Proofs.YtgbgejflmbhigaaGreat

namespace Go.Proofs.YtgbgejflmbhigaaGreat
open Go.RowKit Go.Shelf Go.Sort Go.Lib
attribute [local go_sem] Oper.semAt_some
def RadBox (W:World) (p:Nat) (rh rl:Int):Prop:=W.heap[p]? = some (.cells #[.int .u64 rh,.int .u64 rl] 58 (0,0))
theorem RadBox.cells {W:World} {p:Nat} {rh rl:Int} (h:RadBox W p rh rl):W.cell? ⟨p,0,none⟩=some (.int .u64 rh)/\W.cell? ⟨p,1,none⟩=some (.int .u64 rl):=by
 have e:W.heap[p]? = _:=h
 refine ⟨?_,?_⟩ <;> simp [World.cell?,e]
theorem RadBox.gb {W W':World} {p:Nat} {rh rl:Int} (h:RadBox W p rh rl) (g:Gb W W'):RadBox W' p rh rl:=gb_same g h
theorem Boxed.gb {W W':World} {B:Nat} {t:TypeId} {v:Value} (h:Boxed W B t v) (g:Gb W W'):Boxed W' B t v:=gb_same g h
end Go.Proofs.YtgbgejflmbhigaaGreat

namespace Go.Proofs.YtgbgejflmbhigaaGreat
open Go.RowKit Go.Sort Go.Maps
set_option maxRecDepth 100000
set_option maxHeartbeats 8000000
theorem rIds_c {w:World} {v:Value} {rs:List Rw} (h:RdW w v rs) (hn:rs.length<=2000) :
  Calls Tryz.prog 125 #[v] w fun e w'=>∃ v',e=.returned v'/\Own w' w.heap.size v' (srt (idsOf rs))/\Gb w w':=by
 obtain ⟨a,cap,rfl,ha⟩:=h
 have A:Hid (∀ i,i < rs.length->∃ b o u,a=some ⟨b,o,none⟩/\w.cell? ⟨b,o + i * 2,none⟩=some (.int .i64 rs[i]!.1)/\w.cell? ⟨b,o + i * 2 + 1,none⟩=some u/\RdI w u rs[i]!.2):=ha
 obtain ⟨n,hN⟩:∃ n,n=rs.length:=⟨_,rfl⟩
 have N:Hid (n=rs.length):=hN
 rw [<- hN] at hn ⊢
 clear ha hN
 go_enter Tryz.func125,Tryz.ntmps125
 go_wp2
 go_loopw [3,4] (fun vv iv w'=>∃ q:Nat,iv=.int .i64 (q:Int)/\q<=n/\Hid (Own w' w.heap.size vv (srt ((idsOf rs).take q))/\Gb w w')) (fun _ iv _=>n - (intOf iv).toNat)
 case atStart=>exact ⟨0,rfl,Nat.zero_le _,⟨by simp [srt];exact own_nil _ _,Below.refl _ _⟩⟩
 case round =>
  obtain ⟨q,rfl,hq,X⟩:=hrel
  by_cases hqn:q < n
  ·have hqi:(q:Int) < (n:Int):=by omega
   have hql:q < rs.length:=by have:=N.out;omega
   obtain ⟨b,o,u,ea,h1,h2,h3⟩:=A.out q hql
   subst ea
   have h1:=gb_keeps X.out.2 h1
   clear h2 h3
   have NX:Hid (srt ((idsOf rs).take (q + 1))=insI rs[q]!.1 (srt ((idsOf rs).take q))):=by unfold Hid;rw [ids_take hql,srt_snocI]
   have c68:=rwith_c X.out.1 (by rw [srt_len,List.length_take];omega) rs[q]!.1
   generalize rs[q]!.1=x at *
   clear hql
   go_wp2_with fail
   refine c68.mono ?_
   rintro e w1 ⟨v',rfl,o1,g1⟩
   have R:Hid (Own w1 w.heap.size v' (srt ((idsOf rs).take (q + 1)))/\Gb w w1):=⟨by rw [NX.out];exact o1.mono X.out.2.size,gb_trans X.out.2 g1⟩
   clear c68 o1 g1 X NX h1
   go_wp2
   go_roundw
   case rel=>exact ⟨q + 1,by simp,hqn,R⟩
   case measure=>simp [intOf];omega
  ·have hqi:¬ (q:Int) < (n:Int):=by omega
   have R:Hid (Own wr w.heap.size u3 (srt (idsOf rs))/\Gb w wr):=by
    have h1:=X.out
    rw [List.take_of_length_le (by unfold idsOf;rw [List.length_map];have:=N.out;omega)] at h1
    exact h1
   clear X
   go_wp2
   go_ret
   exact ⟨_,rfl,R.out⟩
theorem contains_take {l:List Int} {x:Int} {q:Nat} (hq:q<=l.length):(l.take q).contains x=true ↔ ∃ k,k < q/\l[k]! = x:=by
 rw [List.contains_iff_mem,List.mem_iff_getElem]
 constructor
 ·rintro ⟨k,hk,e⟩
  have h1:k < q:=by rw [List.length_take] at hk;omega
  refine ⟨k,h1,?_⟩
  rw [getElem!_pos l k (by omega),<- e];simp
 ·rintro ⟨k,hk,e⟩
  refine ⟨k,by rw [List.length_take];omega,?_⟩
  rw [getElem!_pos l k (by omega)] at e
  rw [<- e];simp
theorem rrows_c {w:World} {v:Value} {rs:List Rw} (h:RdW w v rs) (d:Int) (hlen:rs.length<=4611686018427387904) :
  Calls Tryz.prog 43 #[v,.int .i64 d] w fun e w'=>e=.returned (.int .i64 (idsE rs d))/\Gr w w':=by
 obtain ⟨a,cap,rfl,ha⟩:=h
 have A:Hid (∀ i,i < rs.length->∃ b o u,a=some ⟨b,o,none⟩/\w.cell? ⟨b,o + i * 2,none⟩=some (.int .i64 rs[i]!.1)/\w.cell? ⟨b,o + i * 2 + 1,none⟩=some u/\RdI w u rs[i]!.2):=ha
 obtain ⟨n,hN⟩:∃ n,n=rs.length:=⟨_,rfl⟩
 have N:Hid (n=rs.length):=hN
 rw [<- hN] at hlen ⊢
 clear ha
 by_cases hn:n<=512
 ·have E:Hid (idsE rs d=rowsTo rs d rs.length):=by unfold Hid idsE;rw [if_pos (by omega)]
  clear hN
  go_enter Tryz.func43,Tryz.ntmps43
  go_wp2
  go_loopw [5] (fun iv w'=>∃ q:Nat,iv=.int .i64 (q:Int)/\q<=n/\Hid (rowsTo rs d q=0/\Gr w w')) (fun iv _=>n - (intOf iv).toNat)
  case atStart=>exact ⟨0,rfl,Nat.zero_le _,rfl,Gr.refl _⟩
  case round =>
   obtain ⟨q,rfl,hq,X⟩:=hrel
   by_cases hqn:q < n
   ·have hqi:(q:Int) < (n:Int):=by omega
    have hql:q < rs.length:=by have:=N.out;omega
    obtain ⟨b,o,u,ea,h1,h2,h3⟩:=A.out q hql
    have EE:Hid (rowE rs d q=if ((idsOf rs).take q).contains rs[q]!.1=false/\okId rs[q]!.1=true then chk rs[q]!.2 d else 50):=rfl
    have hE:Hid (rowE rs d q ≠ 0->idsE rs d=rowE rs d q):=fun h=>rowsTo_err hql X.out.1 h (by have:=N.out;omega)
    have hNext:Hid (rowE rs d q=0->rowsTo rs d (q + 1)=0):=fun h=>rowsTo_next X.out.1 h
    replace h1:=X.out.2.keeps h1
    replace h2:=X.out.2.keeps h2
    have h3:=h3.gb X.out.2.gb
    subst ea
    cases hok:okId rs[q]!.1 with
    | false =>
     have c66:=fun W=>rid_v rs[q]!.1 false hok W
     have R:Hid (idsE rs d=50/\Gr w wr):=by
      have e1:=EE.out
      rw [if_neg (by rw [hok];simp)] at e1
      exact ⟨by rw [hE.out (by omega),e1],X.out.2⟩
     generalize rs[q]!.1=x at *
     clear EE hE hNext hok h3
     go_wp2_with (go_at_call 44;refine (c66 _).mono ?_;rintro e w' ⟨rfl,e2⟩;subst e2)
     go_ret
     exact ⟨by rw [R.out.1];rfl,R.out.2⟩
    | true =>
     have c66:=fun W=>rid_v rs[q]!.1 true hok W
     have c15:=fun W (g:Gr wr W) r h=>rcheck_v (h3.gb g.gb) d r h
     have IDS:Hid (∀ k,k < rs.length->(idsOf rs)[k]! = rs[k]!.1):=fun k hk=>by
      unfold idsOf
      rw [getElem!_pos _ k (by simpa using hk),getElem!_pos rs k hk];simp
     have CT:Hid (((idsOf rs).take q).contains rs[q]!.1=true ↔ ∃ k,k < q/\rs[k]!.1=rs[q]!.1):=by
      unfold Hid
      rw [contains_take (by unfold idsOf;rw [List.length_map];omega)]
      exact ⟨fun ⟨k,hk,e⟩=>⟨k,hk,by rw [<- IDS.out k (by omega)];exact e⟩,fun ⟨k,hk,e⟩=>⟨k,hk,by rw [IDS.out k (by omega)];exact e⟩⟩
     obtain ⟨a1,c1,rfl,_⟩:=h3
     obtain ⟨x,hx⟩:∃ x,x=rs[q]!.1:=⟨_,rfl⟩
     obtain ⟨m,hm⟩:∃ m,m=rs[q]!.2.length:=⟨_,rfl⟩
     rw [<- hx] at h1 c66 CT EE
     rw [<- hm] at h2 c15
     have XM:Hid (x=rs[q]!.1/\m=rs[q]!.2.length/\q < rs.length/\okId x=true):=⟨hx,hm,hql,by rw [hx];exact hok⟩
     clear hql hx hm hok
     go_wp2_with (go_at_call 44;refine (c66 _).mono ?_;rintro e w' ⟨rfl,e2⟩;subst e2)
     clear c66
     go_loopw [6] (fun iv w'=>∃ p:Nat,iv=.int .i64 (p:Int)/\p<=q/\Hid ((∀ i,i < p->rs[i]!.1 ≠ x)/\Gr wr w')) (fun iv _=>q - (intOf iv).toNat)
     case atStart=>exact ⟨0,rfl,Nat.zero_le _,fun i hi=>absurd hi (Nat.not_lt_zero _),Gr.refl _⟩
     case round =>
      obtain ⟨p,rfl,hp,Y⟩:=hrel
      by_cases hpq:p < q
      ·have hpi:(p:Int) < (q:Int):=by omega
       have hpn:(p:Int) < (n:Int):=by omega
       obtain ⟨b',o',u',ea,y1,_,_⟩:=A.out p (by have:=N.out;omega)
       cases ea
       replace y1:=(X.out.2.trans Y.out.2).keeps y1
       have z1:=Y.out.2.keeps h1
       by_cases hxy:rs[p]!.1=x
       ·have R:Hid (idsE rs d=50/\Gr w wr):=by
         have e1:=EE.out
         rw [if_neg (by rw [CT.out.2 ⟨p,hpq,hxy⟩];simp)] at e1
         exact ⟨by rw [hE.out (by omega),e1],X.out.2.trans Y.out.2⟩
        rw [hxy] at y1
        clear EE hE hNext hxy CT IDS c15
        go_wp2
        go_quiet (fail)
        go_wp2
        go_ret
        exact ⟨by rw [R.out.1];rfl,R.out.2.drewN _⟩
       ·have R:Hid (∀ i,i < p + 1->rs[i]!.1 ≠ x):=fun i hi=>by
         by_cases e:i=p
         ·rw [e];exact hxy
         ·exact Y.out.1 i (by omega)
        have hxy':(rs[p]!.1 == x)=false:=by rw [beq_eq_false_iff_ne];exact hxy
        generalize rs[p]!.1=y at *
        clear EE hE hNext CT IDS c15
        go_wp2
        go_quiet (fail)
        go_wp2
        go_roundw
        case rel=>exact ⟨p + 1,by simp,hpq,R.out,Y.out.2.drewN _⟩
        case measure=>simp [intOf];omega
      ·have hpi:¬ (p:Int) < (q:Int):=by omega
       have EE2:Hid (rowE rs d q=chk rs[q]!.2 d):=by
        have e1:=EE.out
        rw [if_pos ⟨by
         cases hc:((idsOf rs).take q).contains x with
         | false=>rfl
         | true =>
          obtain ⟨k,hk,e⟩:=CT.out.1 hc
          exact absurd e (Y.out.1 k (by omega)),XM.out.2.2.2⟩] at e1
        exact e1
       have z2:=Y.out.2.keeps h2
       have GG:Hid (Gr w wr):=X.out.2.trans Y.out.2
       by_cases hv:chk rs[q]!.2 d=0
       ·have c:=c15 _ Y.out.2 0 hv
        have R:Hid (rowsTo rs d (q + 1)=0):=hNext.out (by rw [EE2.out,hv])
        clear EE hE hNext CT IDS c15 EE2 hv Y X
        go_wp2_with (go_at_call 45;refine c.mono ?_;rintro e w' ⟨rfl,e2⟩;subst e2)
        go_roundw
        case rel=>exact ⟨q + 1,by simp,hqn,R.out,GG.out⟩
        case measure=>simp [intOf];omega
       ·have c:=c15 _ Y.out.2 _ rfl
        have R:Hid (idsE rs d=chk rs[q]!.2 d):=by
         have:=hE.out (by rw [EE2.out];exact hv)
         rw [EE2.out] at this;exact this
        have hv':(chk rs[q]!.2 d == 0)=false:=by rw [beq_eq_false_iff_ne];exact hv
        generalize chk rs[q]!.2 d=ce at *
        clear EE hE hNext CT IDS c15 EE2 Y X
        go_wp2_with (go_at_call 45;refine c.mono ?_;rintro e w' ⟨rfl,e2⟩;subst e2)
        go_ret
        exact ⟨by rw [R.out];rfl,GG.out⟩
   ·have hqi:¬ (q:Int) < (n:Int):=by omega
    have R:Hid (idsE rs d=0/\Gr w wr):=by
     have h1:=X.out.1
     rw [show q=rs.length by have:=N.out;omega,<- E.out] at h1
     exact ⟨h1,X.out.2⟩
    clear X E
    go_wp2
    go_ret
    exact ⟨by rw [R.out.1];rfl,R.out.2⟩
 ·have E:Hid (idsE rs d=2):=by unfold Hid idsE;rw [if_neg (by omega)]
  have hn':(n:Int) > 512:=by omega
  clear hN
  go_enter Tryz.func43,Tryz.ntmps43
  go_wp2
  go_ret
  exact ⟨by rw [E.out];rfl,Gr.refl _⟩
end Go.Proofs.YtgbgejflmbhigaaGreat
