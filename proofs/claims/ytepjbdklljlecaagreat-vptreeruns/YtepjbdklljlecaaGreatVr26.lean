import Derived.Test.YtepjbdklljlecaaGreatVr25
import Derived.Lib.SliceRun
import Derived.Test.YtepjbdklljlecaaGreatVr23
import Derived.Test.YtepjbdklljlecaaGreatVr9
import Derived.Test.YtepjbdklljlecaaGreatVr19
namespace Go.Proofs.YtepjbdklljlecaaGreat
open Go.RowKit Go.Sort
set_option maxRecDepth 100000
set_option maxHeartbeats 1000000
theorem RwAt.gb {w W:World} {g o:Nat} {d:List Rt} (h:RwAt w g o d) (k:Gb w W):RwAt W g o d:=h.gbv k
theorem RwAt.set {W:World} {g o i:Nat} {D:List Rt} (h:RwAt W g o D) (hi:i < D.length) (x:Rt):RwAt ((W.setCell ⟨g,o + i * 2,none⟩ (.int .i64 x.1)).setCell ⟨g,o + i * 2 + 1,none⟩ x.2.1) g o (D.set i x):=by
 obtain ⟨cur,h1,h2,h3⟩:=h
 refine ⟨(cur.setIfInBounds (o + i * 2) (.int .i64 x.1)).setIfInBounds (o + i * 2 + 1) x.2.1,?_,by simpa using h2,fun t ht=>?_⟩
 ·simp [World.setCell,Array.getElem?_modify,h1]
 ·rw [List.length_set] at ht
  rw [List.getElem_set]
  by_cases e:i=t
  ·subst e
   rw [if_pos rfl]
   constructor
   ·rw [Array.getElem?_setIfInBounds_ne (by omega),Array.getElem?_setIfInBounds_self_of_lt (by omega)]
   ·rw [Array.getElem?_setIfInBounds_self_of_lt (by simp;omega)]
  ·rw [if_neg e]
   obtain ⟨a,b⟩:=h3 t ht
   constructor
   ·rw [Array.getElem?_setIfInBounds_ne (by omega),Array.getElem?_setIfInBounds_ne (by omega)];exact a
   ·rw [Array.getElem?_setIfInBounds_ne (by omega),Array.getElem?_setIfInBounds_ne (by omega)];exact b
def mixL (d:List Rt) (i0 i:Nat):List Rt:=(d.eraseIdx i0).take i ++ d.drop i
theorem mixL_len {d:List Rt} {i0 i:Nat} (h0:i0 < d.length) (hi:i < d.length):(mixL d i0 i).length=d.length:=by
 unfold mixL
 rw [List.length_append,List.length_take,List.length_drop,List.length_eraseIdx_of_lt h0]
 omega
theorem mixL_start {d:List Rt} {i0:Nat} (h0:i0 < d.length):mixL d i0 i0=d:=by
 unfold mixL
 rw [List.eraseIdx_eq_take_drop_succ,List.take_append_of_le_length (by rw [List.length_take];omega),List.take_take,Nat.min_self,List.take_append_drop]
theorem clear_one {W:World} {g p c:Nat} {ty:TypeId} {cur:Array Value} (h:W.heap[g]? = some (.cells cur 43 (0,0))) (hp:p + 1 < cur.size) :
  (Builtin.clear_ #[22] ty #[.slice (some ⟨g,p,none⟩) 1 c]).run Tryz.prog W=.ok (.tuple #[]) (W.setCells g p [.int .i64 0,.slice none 0 0]):=by
 have hc:∀ j,j < 2->(W.cell? ⟨g,p + j,none⟩).isSome=true:=fun j hj=>by
  rw [cell_cur h (Array.getElem?_eq_getElem (show p + j < cur.size by omega))];rfl
 have hf:∀ j,j < 2->W.frozen? ⟨g,p + j,none⟩=false:=fun j _=>by simp [World.frozen?,h]
 have hst:=run_storeCells_cells (P:=Tryz.prog) g p [.int .i64 0,.slice none 0 0] 0 W (by simpa using hc) (by simpa using hf) (by intro v hv;simp only [List.mem_cons,List.not_mem_nil,or_false] at hv;rcases hv with rfl | rfl <;> rfl)
 simp only [Nat.add_zero] at hst
 have hzc:(Builtin.zeroCells (Value.agg #[.int .i64 0,.slice none 0 0]).cells 1).toList=[.int .i64 0,.slice none 0 0]:=by first | kernel_rfl | decide | simp [Builtin.zeroCells,Value.cells]
 simp [Builtin.clear_,run_underlying Tryz.underlying22,hzc,hst]
theorem mixL_get {d:List Rt} {i0 i:Nat} (h0:i0 < d.length) (hi:i + 1 < d.length):(mixL d i0 i)[i + 1]'(by rw [mixL_len h0 (by omega)];exact hi)=d[i + 1]:=by
 unfold mixL
 rw [List.getElem_append_right (by rw [List.length_take,List.length_eraseIdx_of_lt h0];omega),List.getElem_drop]
 congr 1
 rw [List.length_take,List.length_eraseIdx_of_lt h0]
 omega
theorem mixL_next {d:List Rt} {i0 i:Nat} (h0:i0 < d.length) (hi0:i0<=i) (hi:i + 1 < d.length):(mixL d i0 i).set i d[i + 1]=mixL d i0 (i + 1):=by
 have hl:=mixL_len h0 (show i < d.length by omega)
 have hl2:=mixL_len h0 hi
 apply List.ext_getElem (by rw [List.length_set,hl,hl2])
 intro t h1 h2
 rw [List.length_set,hl] at h1
 have hel:(d.eraseIdx i0).length=d.length - 1:=List.length_eraseIdx_of_lt h0
 have key:∀ (j:Nat) (hj:j < d.length) (ht:t < (mixL d i0 j).length),(mixL d i0 j)[t]=if h:t < j then (d.eraseIdx i0)[t]'(by omega) else d[t]:=by
  intro j hj ht
  unfold mixL at ht ⊢
  by_cases c:t < j
  ·rw [dif_pos c,List.getElem_append_left (by rw [List.length_take];omega),List.getElem_take]
  ·rw [dif_neg c,List.getElem_append_right (by rw [List.length_take];omega),List.getElem_drop]
   congr 1
   rw [List.length_take];omega
 rw [List.getElem_set,key (i + 1) hi h2]
 by_cases e:i=t
 ·subst e
  rw [if_pos rfl,dif_pos (by omega),List.getElem_eraseIdx,dif_neg (by omega)]
 ·rw [if_neg e,key i (by omega) (by rw [hl];exact h1)]
  by_cases c:t < i
  ·rw [dif_pos c,dif_pos (by omega)]
  ·rw [dif_neg c,dif_neg (by omega)]
def DelOut (w:World) (g n cap i0:Nat) (d:List Rt) (e:Ending) (w':World):Prop:=e=.returned (.slice (some ⟨g,0,none⟩) (n - 1) cap)/\RwAt w' g 0 (d.eraseIdx i0)/\Tk.Kp (fun b=>b=g) w w'
theorem delf_c {w:World} {g cap cb i0:Nat} {d:List Rt} (hd:RwAt w g 0 d) (hone:∀ x ∈ d,x.2.1.oneCell'=true) (hn:d.length<=4000) (hcap:d.length<=cap) (hcb:cb ≠ g) (id:Int) (hc:w.cell? ⟨cb,0,none⟩=some (.int .i64 id)) (h0:i0 < d.length) (hid:d[i0].1=id) (hnd:(d.map (·.1)).Pairwise (· ≠ ·)) :
  Calls Tryz.prog 117 #[.slice (some ⟨g,0,none⟩) d.length cap,.func (.func 118) #[] #[.pointer (some ⟨cb,0,none⟩)]] w fun e w'=>DelOut w g d.length cap i0 d e w':=by
 have cI:=idx_c (cap:=cap) hd.rd hone hn id hc
 rw [List.pairwise_iff_getElem] at hnd
 have ND:Hid (∀ t (h:t < d.length),t ≠ i0->d[t].1 ≠ id):=fun t h hne e=>by
  rcases Nat.lt_or_gt_of_ne hne with c | c
  ·have:=hnd t i0 (by simpa using h) (by simpa using h0) c;simp only [List.getElem_map] at this;omega
  ·have:=hnd i0 t (by simpa using h0) (by simpa using h) c;simp only [List.getElem_map] at this;omega
 have HD:Hid (RwAt w g 0 d/\(∀ x ∈ d,x.2.1.oneCell'=true)/\w.cell? ⟨cb,0,none⟩=some (.int .i64 id)/\i0 < d.length/\d.length<=cap/\cb ≠ g):=⟨hd,hone,hc,h0,hcap,hcb⟩
 have IX:Hid (∀ e w',IxOut d id w e w'->e=.returned (.int .i64 (i0:Int))/\Tk.Gw w w'):=fun e w' h=>by
  rcases h.2 with ⟨_,h2⟩ | ⟨i,hi,h2,h3,_⟩
  ·exact absurd hid (h2 i0 h0)
  ·by_cases e0:i=i0
   ·subst e0;exact ⟨h2,h.1⟩
   ·exact absurd h3 (ND.out i hi e0)
 obtain ⟨n,hN⟩:∃ n,n=d.length:=⟨_,rfl⟩
 have N:Hid (n=d.length):=hN
 rw [<- hN] at hn cI h0 hcap ⊢
 clear hd hone hc hnd hid hN
 go_enter Tryz.func117,Tryz.ntmps117
 go_wp2_with fail
 go_fit cI
 intro e w1 hO
 obtain ⟨rfl,g1⟩:=IX.out _ _ hO
 have hneg:((i0:Int) == -1)=false:=by rw [beq_eq_false_iff_ne];omega
 have X0:Hid (RwAt w1 g 0 (mixL d i0 i0)/\Tk.Kp (fun b=>b=g) w w1):=⟨by rw [mixL_start HD.out.2.2.2.1];exact HD.out.1.gb g1.gr,Tk.Kp.of_gr g1.gr⟩
 clear cI hO IX g1
 go_wp2
 go_loopw [5,6] (fun iv jv W=>∃ i j:Nat,iv=.int .i64 (i:Int)/\jv=.int .i64 (j:Int)/\j=i + 1/\i0<=i/\j<=n/\Hid (RwAt W g 0 (mixL d i0 i)/\Tk.Kp (fun b=>b=g) w W)) (fun _ jv _=>n - (intOf jv).toNat)
 case atStart=>exact ⟨i0,i0 + 1,rfl,by first | rfl | go_num,rfl,Nat.le_refl _,by omega,X0⟩
 case round =>
  clear X0
  obtain ⟨i,j,rfl,rfl,hji,hi0,hjn,X⟩:=hrel
  by_cases hlt:j < n
  ·have hlti:(j:Int) < (n:Int):=by omega
   have hm:i + 1 < d.length:=by have:=N.out;omega
   have hml:=mixL_len HD.out.2.2.2.1 (show i < d.length by omega)
   obtain ⟨k1,k2⟩:=X.out.1.rd (i + 1) (by rw [hml];exact hm)
   rw [mixL_get HD.out.2.2.2.1 hm] at k1 k2
   have ho:=HD.out.2.1 _ (List.getElem_mem hm)
   have hne:=ND.out (i + 1) hm (by omega)
   obtain ⟨x,hx⟩:∃ x,x=d[i + 1]:=⟨_,rfl⟩
   rw [<- hx] at k1 k2 ho hne
   rw [<- hji,Nat.zero_add] at k1 k2
   have NX:Hid (∀ W,RwAt W g 0 (mixL d i0 i)->RwAt ((W.setCell ⟨g,i * 2,none⟩ (.int .i64 x.1)).setCell ⟨g,i * 2 + 1,none⟩ x.2.1) g 0 (mixL d i0 (i + 1))):=fun W h=>by
    have:=h.set (i:=i) (by rw [hml];omega) x
    rw [hx,mixL_next HD.out.2.2.2.1 hi0 hm] at this
    rw [Nat.zero_add] at this
    rw [hx];exact this
   obtain ⟨xi,u,xl⟩:=x
   dsimp only at k1 k2 ho hne NX
   have hcu:u.cells=#[u]:=by first | exact Value.cells_of_oneCell' ho | (cases u <;> simp_all [Value.oneCell',Value.cells])
   have hst:=fun W (a:Addr)=>run_store Tryz.prog W a u .plain ho
   have hb:(xi == id)=false:=by rw [beq_eq_false_iff_ne];exact hne
   have cF:=rem11_c xi id u ho (w:=wr.alloc (.cells #[.int .i64 xi,u] 43)) (cb:=cb) (gb_keeps (gb_alloc (Below.refl _ _) _) (X.out.2.cell HD.out.2.2.1 HD.out.2.2.2.2.2))
   rw [hb] at cF
   have hgl:=X.out.1.lt
   have ST:Hid (∀ W,Tk.Gw (wr.alloc (.cells #[.int .i64 xi,u] 43)) W->(∃ a b,W.cell? ⟨g,i * 2,none⟩=some a/\W.cell? ⟨g,i * 2 + 1,none⟩=some b)/\(W.frozen? ⟨g,i * 2,none⟩=false/\W.frozen? ⟨g,i * 2 + 1,none⟩=false)/\(W.cell? ⟨wr.heap.size,0,none⟩=some (.int .i64 xi)/\W.cell? ⟨wr.heap.size,1,none⟩=some u)/\RwAt W g 0 (mixL d i0 i)/\Tk.Kp (fun b=>b=g) w W):=fun W hg=>by
    have gW:Gb wr W:=gb_trans (gb_alloc (Below.refl _ _) _) hg.gr
    have r:=X.out.1.gb gW
    obtain ⟨q1,q2⟩:=r.rd i (by rw [hml];omega)
    rw [Nat.zero_add] at q1 q2
    obtain ⟨cur,hcur,_⟩:=r
    exact ⟨⟨_,_,q1,q2⟩,⟨by simp [World.frozen?,hcur],by simp [World.frozen?,hcur]⟩,⟨gb_keeps hg.gr (by simp [go_sem]),gb_keeps hg.gr (by simp [go_sem])⟩,X.out.1.gb gW,X.out.2.trans (Tk.Kp.of_gr gW)⟩
   have hii:(i:Int) < (n:Int):=by omega
   have HJ:Hid (j=i + 1):=hji
   clear hx hm hml hne hb X hji
   go_wp2_with fail
   go_fit cF
   rintro e w' ⟨rfl,hg⟩
   obtain ⟨⟨qa,qb,q1,q2⟩,⟨f1,f2⟩,⟨y1,y2⟩,r',kp'⟩:=ST.out _ hg
   have XN:Hid (RwAt ((w'.setCell ⟨g,i * 2,none⟩ (.int .i64 xi)).setCell ⟨g,i * 2 + 1,none⟩ u) g 0 (mixL d i0 (i + 1))/\Tk.Kp (fun b=>b=g) w ((w'.setCell ⟨g,i * 2,none⟩ (.int .i64 xi)).setCell ⟨g,i * 2 + 1,none⟩ u)):=⟨NX.out _ r',(kp'.setCell (.inl rfl) _).setCell (.inl rfl) _⟩
   clear cF hg ST NX r' kp' k1 k2
   go_wp2
   go_roundw
   case rel=>exact ⟨i + 1,j + 1,by first | rfl | go_num,by first | rfl | go_num,by have:=HJ.out;omega,by omega,hlt,XN⟩
   case measure=>simp [intOf];omega
  ·have hlti:¬ (j:Int) < (n:Int):=by omega
   have e:n=i + 1:=by omega
   have hml:=mixL_len HD.out.2.2.2.1 (show i < d.length by have:=N.out;omega)
   obtain ⟨cur,hcur,hsz,_⟩:=X.out.1
   rw [hml,<- N.out,Nat.zero_add] at hsz
   have hcl:=fun (c:Nat) (ty:TypeId)=>clear_one (c:=c) (ty:=ty) (p:=i * 2) hcur (by omega)
   have FD:Hid (DelOut w g n cap i0 d (.returned (.slice (some ⟨g,0,none⟩) i cap)) (wr.setCells g (i * 2) [.int .i64 0,.slice none 0 0])):=by
    refine ⟨by rw [e];rfl,?_,?_⟩
    ·have h1:=(X.out.1.set (i:=i) (by rw [hml,<- N.out];omega) ((0:Int),Value.slice none 0 0,([]:List Int))).take (n:=i)
     rw [Nat.zero_add] at h1
     have h2:((mixL d i0 i).set i ((0:Int),Value.slice none 0 0,([]:List Int))).take i=d.eraseIdx i0:=by
      have hel:(d.eraseIdx i0).length=d.length - 1:=List.length_eraseIdx_of_lt HD.out.2.2.2.1
      rw [List.take_set_of_le (Nat.le_refl _)]
      unfold mixL
      rw [List.take_append_of_le_length (by rw [List.length_take,hel];have:=N.out;omega),List.take_take,Nat.min_self,List.take_of_length_le (by rw [hel];have:=N.out;omega)]
     rw [h2] at h1
     exact h1
    ·exact (X.out.2.setCell (.inl rfl) _).setCell (.inl rfl) _
   have hcc:¬ cap=i:=by have:=HD.out.2.2.2.2.1;have:=N.out;omega
   have hic:(i:Int)<=(n:Int):=by omega
   have hicp:(i:Int)<=(cap:Int):=by have:=HD.out.2.2.2.2.1;have:=N.out;omega
   have hni:n - i=1:=by omega
   clear X hcur hsz hml e hji
   go_wp2
   go_ret
   exact FD.out
end Go.Proofs.YtepjbdklljlecaaGreat

namespace Go.Proofs.YtepjbdklljlecaaGreat
open Go.RowKit Go.Sort
theorem noF (W:World):NoInt W (fun _=>False):=fun _ h=>h.elim
theorem kpF {W W':World} (g:Gb W W'):Tk.Kp (fun _=>False) W W':=Tk.Kp.of_gr g
theorem OwnRs.gb {Iq:Nat->Prop} {W W':World} {v:Value} {d:List Rt} (h:OwnRs Iq W v d) (g:Gb W W'):OwnRs Iq W' v d:=h.kp (kpF g) (noF _) (fun _ _ h=>h)
theorem PcAt.gb {Iq:Nat->Prop} {W W':World} {b:Nat} {p:Pt} {vl vh vr:Value} (h:PcAt Iq W b p vl vh vr) (g:Gb W W'):PcAt Iq W' b p vl vh vr:=h.kp (kpF g) (noF _) (fun h=>h)
theorem TrO.gb {Iq:Nat->Prop} {W W':World} {T:Nat->Pt} {n b:Nat} {F:List Nat} (h:TrO Iq W T n b F) (g:Gb W W'):TrO Iq W' T n b F:=TrO.kp (kpF g) (noF _) _ _ _ h (fun _ _ h=>h)
theorem OwnRs.noint {Iq:Nat->Prop} {W:World} {v:Value} {d:List Rt} (h:OwnRs Iq W v d):NoInt W (fun b=>v.ownBlock=some b):=by
 intro k e cur s hc
 rcases h.row.2 with ⟨rfl,_⟩ | ⟨g,cap,cur',rfl,_,hh,_⟩
 ·cases e
 ·cases e
  rw [hh] at hc
  simp at hc
theorem TrO.noint {Iq:Nat->Prop} {w:World} {T:Nat->Pt}:∀ {n b:Nat} {F:List Nat},TrO Iq w T n b F->NoInt w (fun k=>k ∈ F)
 | 0,_,_,h=>h.elim
 | n + 1,b,F,h=>by
  obtain ⟨vl,vh,vr,hp,h⟩:=h
  have hb:∀ cur s,w.heap[b]? ≠ some (.cells cur 3 s):=fun cur s e=>by rw [hp.blk] at e;simp at e
  cases hk:(T b).kids with
  | none =>
   rw [hk] at h
   obtain ⟨d,g,h1,h2,h3,rfl⟩:=h
   intro k hm cur s e
   simp only [List.mem_cons,List.not_mem_nil,or_false] at hm
   rcases hm with rfl | rfl
   ·exact hb _ _ e
   ·exact h1.noint _ h3 _ _ e
  | some lh =>
   obtain ⟨l,hh⟩:=lh
   rw [hk] at h
   obtain ⟨_,F1,F2,h1,h2,rfl⟩:=h
   have a1:=TrO.noint h1
   have a2:=TrO.noint h2
   intro k hm cur s e
   simp only [List.mem_cons,List.mem_append] at hm
   rcases hm with rfl | hm | hm
   ·exact hb _ _ e
   ·exact a1 _ hm _ _ e
   ·exact a2 _ hm _ _ e
theorem node_re {Iq:Nat->Prop} {W:World} {m b b1 b2 n1 n2:Nat} {T1 T2:Nat->Pt} {F1 F2:List Nat} {q:Pt} {vl vh:Value} (hp:PcAt Iq W b q vl vh (.slice none 0 0)) (hq:q.kids=some (b1,b2))
  (t1:TrO Iq W T1 (n1 + 1) b1 F1) (k1:OkP T1 m n1 (T1 b1)) (t2:TrO Iq W T2 (n2 + 1) b2 F2) (k2:OkP T2 m n2 (T2 b2)) (bx:BoxOk m q (rowsP T1 n1 (T1 b1) ++ rowsP T2 n2 (T2 b2)))
  (a1:∀ r ∈ rowsP T1 n1 (T1 b1),isAb q r=true) (a2:∀ r ∈ rowsP T2 n2 (T2 b2),isAb q r=false) (hnd:(b :: (F1 ++ F2)).Nodup) :
  ∃ T n,TrO Iq W T (n + 1) b (b :: (F1 ++ F2))/\OkP T m n (T b)/\rowsP T n (T b)=rowsP T1 n1 (T1 b1) ++ rowsP T2 n2 (T2 b2):=by
 obtain ⟨M,hM⟩:∃ M,M=(rowsP T1 n1 (T1 b1)).length + (rowsP T2 n2 (T2 b2)).length:=⟨_,rfl⟩
 obtain ⟨x1,x2,x3⟩:=TrO.any _ _ _ t1 k1 M (by omega)
 obtain ⟨y1,y2,y3⟩:=TrO.any _ _ _ t2 k2 M (by omega)
 rw [List.nodup_cons,List.nodup_append] at hnd
 obtain ⟨d1,_,_,d2⟩:=hnd
 generalize hT:(fun k=>if k=b then q else if k ∈ F1 then T1 k else T2 k)=T
 have e0:T b=q:=by rw [<- hT];simp
 have e1:∀ x ∈ F1,T x=T1 x:=fun x hx=>by
  rw [<- hT]
  simp only
  rw [if_neg (fun e=>d1 (by rw [<- e];exact List.mem_append_left _ hx)),if_pos hx]
 have e2:∀ x ∈ F2,T x=T2 x:=fun x hx=>by
  rw [<- hT]
  simp only
  rw [if_neg (fun e=>d1 (by rw [<- e];exact List.mem_append_right _ hx)),if_neg (fun e=>d2 x e x hx rfl)]
 obtain ⟨p1,p2⟩:=TrO.congr _ _ _ x1 e1
 obtain ⟨q1,q2⟩:=TrO.congr _ _ _ y1 e2
 obtain ⟨r1,r2⟩:=p2 M (by omega) m
 obtain ⟨u1,u2⟩:=q2 M (by omega) m
 have hk:(T b).kids=some (b1,b2):=by rw [e0];exact hq
 refine ⟨T,M + 1,⟨vl,vh,.slice none 0 0,by rw [e0];exact hp,?_⟩,?_,?_⟩
 ·rw [hk];exact ⟨rfl,F1,F2,p1,q1,rfl⟩
 ·rw [OkP,hk]
  dsimp only
  rw [r1,u1,x3,y3,e0]
  exact ⟨r2.2 x2,u2.2 y2,bx,a1,a2⟩
 ·rw [rowsP_node hk,r1,u1,x3,y3]
def rsd (p:Pt) (D:Nat):Pt:=⟨⟨3,p.reg.L,[],max p.reg.R D,[]⟩,p.rs,p.cut,p.kids⟩
theorem rsd_no {p:Pt} {D:Nat} (hb:p.reg=⟨3,p.reg.L,[],p.reg.R,[]⟩) (h:D<=p.reg.R):rsd p D=p:=by
 obtain ⟨⟨S,L,H,R,I⟩,rs,ct,kd⟩:=p
 simp only [Reg.mk.injEq] at hb
 obtain ⟨rfl,_,rfl,_,rfl⟩:=hb
 unfold rsd
 dsimp only at h ⊢
 rw [Nat.max_eq_left h]
theorem boxok_rsd {m:Nat} {p:Pt} {rs:List Rw} {D:Nat} (hb:p.reg=⟨3,p.reg.L,[],p.reg.R,[]⟩) (h:BoxOk m p rs):BoxOk m (rsd p D) rs:=by
 obtain ⟨⟨S,L,H,R,I⟩,rs0,ct,kd⟩:=p
 simp only [Reg.mk.injEq] at hb
 obtain ⟨rfl,_,rfl,_,rfl⟩:=hb
 refine ⟨?_,fun r hr=>⟨(h.2 r hr).1,?_⟩⟩
 ·have h1:=h.1
  simp only [ckR,uses] at h1
  simp only [pr,rsd,ckR,uses]
  exact h1
 ·have h1:=(h.2 r hr).2
  simp only [inV] at h1
  simp only [pr,rsd,inV]
  simp at h1 ⊢
  exact decide_eq_true (by omega)
theorem boxok_add {m:Nat} {p:Pt} {rs:List Rw} {D:Nat} {x:Rw} (hb:p.reg=⟨3,p.reg.L,[],p.reg.R,[]⟩) (h:BoxOk m p rs) (hc:chk x.2 (m:Int)=0) (hd:dst p.reg.L x.2<=D):BoxOk m (rsd p D) (x :: rs):=by
 have h1:=boxok_rsd (D:=D) hb h
 refine ⟨h1.1,fun r hr=>?_⟩
 rcases List.mem_cons.1 hr with rfl | hr
 ·refine ⟨hc,?_⟩
  simp only [pr,rsd,inV]
  simp
  exact decide_eq_true (by omega)
 ·exact h1.2 r hr
theorem pcat_rsd {Iq:Nat->Prop} {w:World} {b D:Nat} {p:Pt} {vl vh vr:Value} (h:PcAt Iq w b p vl vh vr) (hD:p.reg.R < D) (hl:D < 340282366920938463463374607431768211456) :
  PcAt Iq ((w.setCell ⟨b,3,none⟩ (.int .u64 (hi D))).setCell ⟨b,4,none⟩ (.int .u64 (lo D))) b (rsd p D) vl vh vr:=by
 have kb:Tk.Kp (fun k=>k=b) w ((w.setCell ⟨b,3,none⟩ (.int .u64 (hi D))).setCell ⟨b,4,none⟩ (.int .u64 (lo D))):=((Tk.Kp.refl (fun k=>k=b) w).setCell (.inl rfl) _).setCell (.inl rfl) _
 have nb:NoInt w (fun k=>k=b):=fun k e cur s hc=>by subst e;rw [h.blk] at hc;simp at hc
 have e:max p.reg.R D=D:=Nat.max_eq_right (by omega)
 refine ⟨?_,ownq_noint h.low kb nb,ownq_noint h.high kb nb,⟨rfl,?_⟩,h.up.le kb.size⟩
 ·simp [World.setCell,Array.getElem?_modify,h.blk,rsd,e]
 ·show max p.reg.R D < _
  omega
def Fil (Iq:Nat->Prop) (m:Nat) (x:Rw) (sb:Nat) (w0:World) (b0:Nat) (F0:List Nat) (R0:List Rw) (wr:World) (p:Nat) (Fp:List Nat) (Rp:List Rw):Prop :=
 ∀ W T2 F2 n2,Tk.Kp (fun k=>k ∈ Fp ∨ k=sb) wr W->TrO Iq W T2 (n2 + 1) p F2->OkP T2 m n2 (T2 p)->(rowsP T2 n2 (T2 p)).Perm (x :: Rp)->F2.Nodup->(∀ y ∈ F2,y ∈ Fp ∨ wr.heap.size<=y) ->
  ∃ T3 F3 n3,TrO Iq W T3 (n3 + 1) b0 F3/\OkP T3 m n3 (T3 b0)/\(rowsP T3 n3 (T3 b0)).Perm (x :: R0)/\F3.Nodup/\∀ y ∈ F3,y ∈ F0 ∨ w0.heap.size<=y
theorem fil_start (Iq:Nat->Prop) (m:Nat) (x:Rw) (sb:Nat) (w0:World) (b0:Nat) (F0:List Nat) (R0:List Rw):Fil Iq m x sb w0 b0 F0 R0 w0 b0 F0 R0 :=
 fun _ T2 F2 n2 _ t ok pm nd l=>⟨T2,F2,n2,t,ok,pm,nd,l⟩
theorem fil_kp {Iq:Nat->Prop} {m:Nat} {x:Rw} {sb:Nat} {w0:World} {b0:Nat} {F0:List Nat} {R0:List Rw} {wr wr2:World} {p:Nat} {Fp:List Nat} {Rp:List Rw} (h:Fil Iq m x sb w0 b0 F0 R0 wr p Fp Rp) (k:Tk.Kp (fun k=>k ∈ Fp ∨ k=sb) wr wr2):Fil Iq m x sb w0 b0 F0 R0 wr2 p Fp Rp :=
 fun W T2 F2 n2 kW t ok pm nd l=>h W T2 F2 n2 (k.trans kW) t ok pm nd (fun y hy=>(l y hy).imp id (fun e=>Nat.le_trans k.size e))
theorem fil_kid {Iq:Nat->Prop} {m:Nat} {x:Rw} {sb:Nat} {w0:World} {b0:Nat} {F0:List Nat} {R0:List Rw} {wr wr2:World} {b l h n D:Nat} {F F1 F2:List Nat} {T:Nat->Pt} {vl vh:Value}
  (hf:Fil Iq m x sb w0 b0 F0 R0 wr b F (rowsP T (n + 1) (T b))) (hk:(T b).kids=some (l,h)) (t1:TrO Iq wr T (n + 1) l F1) (t2:TrO Iq wr T (n + 1) h F2) (eF:F=b :: (F1 ++ F2)) (hnd:F.Nodup) (ok:OkP T m (n + 1) (T b)) (hsb:sb ∉ F) (hS:SrcAt wr sb) (hbl:(T b).reg=⟨3,(T b).reg.L,[],(T b).reg.R,[]⟩)
  (hp:PcAt Iq wr2 b (rsd (T b) D) vl vh (.slice none 0 0)) (k:Tk.Kp (fun k=>k=b) wr wr2) (nb:NoInt wr (fun k=>k=b)) (hc:chk x.2 (m:Int)=0) (hD:dst (T b).reg.L x.2<=D) :
  (isAb (T b) x=true->Fil Iq m x sb w0 b0 F0 R0 wr2 l F1 (rowsP T n (T l))/\TrO Iq wr2 T (n + 1) l F1)/\(isAb (T b) x=false->Fil Iq m x sb w0 b0 F0 R0 wr2 h F2 (rowsP T n (T h))/\TrO Iq wr2 T (n + 1) h F2):=by
 subst eF
 obtain ⟨n',e',o1,o2,o3,o4,o5⟩:=okP_node hk ok
 have e'':n'=n:=by omega
 subst e''
 have hnd2:=hnd
 rw [List.nodup_cons,List.nodup_append] at hnd2
 obtain ⟨hbn,nd1,nd2,dj⟩:=hnd2
 have b1:b ∉ F1:=fun e=>hbn (List.mem_append_left _ e)
 have b2:b ∉ F2:=fun e=>hbn (List.mem_append_right _ e)
 have bs:b ≠ sb:=fun e=>hsb (by rw [<- e];simp)
 have s1:sb ∉ F1:=fun e=>hsb (by simp [e])
 have s2:sb ∉ F2:=fun e=>hsb (by simp [e])
 have t1':TrO Iq wr2 T (n' + 1) l F1:=TrO.kp k nb _ _ _ t1 (fun y hy e=>b1 (by rw [<- e];exact hy))
 have t2':TrO Iq wr2 T (n' + 1) h F2:=TrO.kp k nb _ _ _ t2 (fun y hy e=>b2 (by rw [<- e];exact hy))
 have hS2:SrcAt wr2 sb:=by
  obtain ⟨y,hy,hx⟩:=hS
  exact ⟨y,hy,(k.block sb hx.lt (fun e=>bs e.symm)).trans hx⟩
 have hkr:(rsd (T b) D).kids=some (l,h):=hk
 have kS:∀ (G:List Nat) (W:World),(∀ y ∈ G,y ∈ b :: (F1 ++ F2))->Tk.Kp (fun k=>k ∈ G ∨ k=sb) wr2 W->Tk.Kp (fun k=>k ∈ b :: (F1 ++ F2) ∨ k=sb) wr W:=fun G W hG kW =>
  (k.mono (fun y _ e=>.inl (by rw [e];simp))).trans (kW.mono (fun y _ e=>e.imp (hG y) id))
 have box:=boxok_add hbl o3 hc hD
 constructor
 ·intro hab
  refine ⟨fun W T2 G n2 kW tr okG pm nd l2=>?_,t1'⟩
  have ni:NoInt wr2 (fun k=>k ∈ F1 ∨ k=sb):=fun y hy cur s=>hy.elim (fun e=>t1'.noint y e cur s) (fun e=>hS2.noint y e cur s)
  have hpW:=hp.kp kW ni (fun e=>e.elim b1 bs)
  have t2W:=TrO.kp kW ni _ _ _ t2' (fun y hy e=>e.elim (fun e=>dj y e y hy rfl) (fun e=>s2 (by rw [<- e];exact hy)))
  have lt2:=t2'.mem.2
  have hbs:=(Array.getElem?_eq_some_iff.1 hp.blk).1
  have ndG:(b :: (G ++ F2)).Nodup:=by
   rw [List.nodup_cons,List.nodup_append]
   refine ⟨fun e=>?_,nd,nd2,fun a ha c hc e=>?_⟩
   ·rcases List.mem_append.1 e with e | e
    ·rcases l2 b e with e | e
     ·exact b1 e
     ·omega
    ·exact b2 e
   ·subst e
    rcases l2 a ha with e | e
    ·exact dj a e a hc rfl
    ·have:=lt2 a hc;omega
  obtain ⟨T',n3,r1,r2,r3⟩:=node_re hpW hkr tr okG t2W o2 (box.sub (fun r hr=>by
   rcases List.mem_append.1 hr with hr | hr
   ·rcases List.mem_cons.1 (pm.mem_iff.1 hr) with rfl | hr
    ·exact List.mem_cons_self
    ·exact List.mem_cons_of_mem _ (List.mem_append_left _ hr)
   ·exact List.mem_cons_of_mem _ (List.mem_append_right _ hr))) (fun r hr=>by
   rcases List.mem_cons.1 (pm.mem_iff.1 hr) with rfl | hr
   ·exact hab
   ·exact o4 r hr) (fun r hr=>o5 r hr) ndG
  refine hf W T' _ n3 (kS F1 W (fun y hy=>by simp [hy]) kW) r1 r2 ?_ ndG (fun y hy=>?_)
  ·rw [r3,rowsP_node hk]
   exact (pm.append_right _)
  ·rcases List.mem_cons.1 hy with rfl | hy
   ·exact .inl (by simp)
   ·rcases List.mem_append.1 hy with hy | hy
    ·exact (l2 y hy).imp (fun e=>by simp [e]) (fun e=>Nat.le_trans k.size e)
    ·exact .inl (by simp [hy])
 ·intro hab
  refine ⟨fun W T2 G n2 kW tr okG pm nd l2=>?_,t2'⟩
  have ni:NoInt wr2 (fun k=>k ∈ F2 ∨ k=sb):=fun y hy cur s=>hy.elim (fun e=>t2'.noint y e cur s) (fun e=>hS2.noint y e cur s)
  have hpW:=hp.kp kW ni (fun e=>e.elim b2 bs)
  have t1W:=TrO.kp kW ni _ _ _ t1' (fun y hy e=>e.elim (fun e=>dj y hy y e rfl) (fun e=>s1 (by rw [<- e];exact hy)))
  have lt1:=t1'.mem.2
  have hbs:=(Array.getElem?_eq_some_iff.1 hp.blk).1
  have ndG:(b :: (F1 ++ G)).Nodup:=by
   rw [List.nodup_cons,List.nodup_append]
   refine ⟨fun e=>?_,nd1,nd,fun a ha c hc e=>?_⟩
   ·rcases List.mem_append.1 e with e | e
    ·exact b1 e
    ·rcases l2 b e with e | e
     ·exact b2 e
     ·omega
   ·subst e
    rcases l2 a hc with e | e
    ·exact dj a ha a e rfl
    ·have:=lt1 a ha;omega
  obtain ⟨T',n3,r1,r2,r3⟩:=node_re hpW hkr t1W o1 tr okG (box.sub (fun r hr=>by
   rcases List.mem_append.1 hr with hr | hr
   ·exact List.mem_cons_of_mem _ (List.mem_append_left _ hr)
   ·rcases List.mem_cons.1 (pm.mem_iff.1 hr) with rfl | hr
    ·exact List.mem_cons_self
    ·exact List.mem_cons_of_mem _ (List.mem_append_right _ hr))) (fun r hr=>o4 r hr) (fun r hr=>by
   rcases List.mem_cons.1 (pm.mem_iff.1 hr) with rfl | hr
   ·exact hab
   ·exact o5 r hr) ndG
  refine hf W T' _ n3 (kS F2 W (fun y hy=>by simp [hy]) kW) r1 r2 ?_ ndG (fun y hy=>?_)
  ·rw [r3,rowsP_node hk]
   exact (pm.append_left _).trans List.perm_middle
  ·rcases List.mem_cons.1 hy with rfl | hy
   ·exact .inl (by simp)
   ·rcases List.mem_append.1 hy with hy | hy
    ·exact .inl (by simp [hy])
    ·exact (l2 y hy).imp (fun e=>by simp [e]) (fun e=>Nat.le_trans k.size e)
theorem TrO.move {Iq:Nat->Prop} {W:World} {T:Nat->Pt} {n b b2 m:Nat} {F:List Nat} (h:TrO Iq W T (n + 1) b F) (ok:OkP T m n (T b)) (hb:W.heap[b2]? = W.heap[b]?) (hn:b2 ∉ F) (hnd:F.Nodup) :
  ∃ T2 F2,TrO Iq W T2 (n + 1) b2 F2/\OkP T2 m n (T2 b2)/\rowsP T2 n (T2 b2)=rowsP T n (T b)/\F2.Nodup/\∀ y ∈ F2,y=b2 ∨ y ∈ F:=by
 have hbF:=h.mem.1
 obtain ⟨vl,vh,vr,hp,h⟩:=h
 generalize hT:(fun k=>if k=b2 then T b else T k)=T2
 have e0:T2 b2=T b:=by rw [<- hT];simp
 have eT:∀ x ∈ F,T2 x=T x:=fun x hx=>by
  rw [<- hT]
  simp only
  rw [if_neg (fun e=>hn (by rw [<- e];exact hx))]
 have hp2:PcAt Iq W b2 (T2 b2) vl vh vr:=⟨by rw [hb,e0];exact hp.blk,by rw [e0];exact hp.low,hp.high,by rw [e0];exact hp.ball,hp.up⟩
 cases hk:(T b).kids with
 | none =>
  rw [hk] at h
  obtain ⟨d,g,h1,h2,h3,rfl⟩:=h
  refine ⟨T2,[b2,g],⟨vl,vh,vr,hp2,?_⟩,?_,?_,?_,?_⟩
  ·rw [e0,hk];exact ⟨d,g,h1,h2,h3,rfl⟩
  ·rw [e0]
   exact (okP_leaf hk _).2 ((okP_leaf hk _).1 ok)
  ·rw [e0,rowsP_leaf hk,rowsP_leaf hk]
  ·simp at hn ⊢;omega
  ·intro y hy
   simp at hy ⊢
   omega
 | some lh =>
  obtain ⟨l,hh⟩:=lh
  rw [hk] at h
  obtain ⟨h0,F1,F2,h1,h2,rfl⟩:=h
  obtain ⟨n',e',o1,o2,o3,o4,o5⟩:=okP_node hk ok
  subst e'
  obtain ⟨p1,p2⟩:=TrO.congr _ _ _ h1 (fun x hx=>eT x (by simp [hx]))
  obtain ⟨q1,q2⟩:=TrO.congr _ _ _ h2 (fun x hx=>eT x (by simp [hx]))
  obtain ⟨r1,r2⟩:=p2 n' (by omega) m
  obtain ⟨u1,u2⟩:=q2 n' (by omega) m
  have hk2:(T2 b2).kids=some (l,hh):=by rw [e0];exact hk
  refine ⟨T2,b2 :: (F1 ++ F2),⟨vl,vh,vr,hp2,?_⟩,?_,?_,?_,?_⟩
  ·rw [hk2];exact ⟨h0,F1,F2,p1,q1,rfl⟩
  ·rw [OkP,hk2]
   dsimp only
   rw [r1,u1,e0]
   exact ⟨r2.2 o1,u2.2 o2,o3,o4,o5⟩
  ·rw [rowsP_node hk2,rowsP_node hk,r1,u1]
  ·rw [List.nodup_cons] at hnd ⊢
   exact ⟨fun e=>hn (List.mem_cons_of_mem _ e),hnd.2⟩
  ·intro y hy
   rcases List.mem_cons.1 hy with e | hy
   ·exact .inl e
   ·exact .inr (List.mem_cons_of_mem _ hy)
end Go.Proofs.YtepjbdklljlecaaGreat

namespace Go.Proofs.YtepjbdklljlecaaGreat
open Go.RowKit Go.Sort
set_option maxRecDepth 100000
set_option maxHeartbeats 1000000
theorem own_one {w:World} {B:Nat} {u:Value} {l:List Int} (h:Own w B u l):u.oneCell'=true:=by
 obtain ⟨a,c,rfl,_⟩:=h.rd;rfl
theorem erase_filter {d:List Rt} {i:Nat} (hi:i < d.length) (hnd:(d.map (·.1)).Pairwise (· ≠ ·)):(d.eraseIdx i).map rwR=(d.map rwR).filter fun y=>!decide (y.1=d[i].1):=by
 have hne:∀ (l:List Rt),(∀ y ∈ l,y.1 ≠ d[i].1)->(l.map rwR).filter (fun y=>!decide (y.1=d[i].1))=l.map rwR:=fun l h=>by
  rw [List.filter_eq_self]
  intro r hr
  obtain ⟨y,hy,rfl⟩:=List.mem_map.1 hr
  simp [h y hy]
 have e:d=d.take i ++ d[i] :: d.drop (i + 1):=by
  rw [List.getElem_cons_drop,List.take_append_drop]
 rw [List.pairwise_iff_getElem] at hnd
 have hh:∀ t (h:t < d.length),t ≠ i->d[t].1 ≠ d[i].1:=fun t h hti=>by
  rcases Nat.lt_or_gt_of_ne hti with c | c
  ·have:=hnd t i (by simpa using h) (by simpa using hi) c;simpa using this
  ·have:=hnd i t (by simpa using hi) (by simpa using h) c;simp only [List.getElem_map] at this;exact fun e=>this e.symm
 have h1:(d.map rwR).filter (fun y=>!decide (y.1=d[i].1))=((d.take i ++ d[i] :: d.drop (i + 1)).map rwR).filter (fun y=>!decide (y.1=d[i].1)):=by rw [<- e]
 rw [h1,List.map_append,List.filter_append,List.map_cons,List.filter_cons_of_neg (by simp),hne _ (fun y hy=>?_),hne _ (fun y hy=>?_),<- List.map_append,List.eraseIdx_eq_take_drop_succ]
 ·obtain ⟨t,ht,rfl⟩:=List.getElem_of_mem hy
  rw [List.length_drop] at ht
  rw [List.getElem_drop]
  exact hh _ (by omega) (by omega)
 ·obtain ⟨t,ht,rfl⟩:=List.getElem_of_mem hy
  rw [List.length_take] at ht
  rw [List.getElem_take]
  exact hh t (by omega) (by omega)
theorem kp_src {S:Nat->Prop} {w w':World} {sb:Nat} (h:SrcAt w sb) (k:Tk.Kp S w w') (hn:¬ S sb):SrcAt w' sb:=by
 obtain ⟨y,hy,hx⟩:=h
 exact ⟨y,hy,(k.block sb hx.lt hn).trans hx⟩
def RmOut (Iq:Nat->Prop) (w:World) (sb m:Nat) (F:List Nat) (R:List Rw) (e:Ending) (w':World):Prop :=
 Tk.Kp (fun k=>k ∈ F ∨ k=sb) w w'/\SrcAt w' sb/\(R=[]->e=.returned (.pointer none)) /\
 (R ≠ []->∃ b T F' n,e=.returned (.pointer (some ⟨b,0,none⟩))/\TrO Iq w' T (n + 1) b F'/\OkP T m n (T b)/\(rowsP T n (T b)).Perm R/\F'.Nodup/\∀ y ∈ F',y ∈ F ∨ w.heap.size<=y)
theorem rm_parts {Iq:Nat->Prop} {w W W':World} {sb m:Nat} {F:List Nat} {d:List Rt} {e:Ending} (k:Tk.Kp (fun b=>b ∈ F ∨ b=sb) w W) (hS:SrcAt W sb) (h:CutOut Iq W sb m d e W'):RmOut Iq w sb m F (d.map rwR) e W'/\∃ pv,e=.returned (.pointer pv):=by
 obtain ⟨h1,h2⟩:=h
 by_cases hd:d=[]
 ·obtain ⟨e1,g⟩:=h1 hd
  refine ⟨⟨k.trans (Tk.Kp.of_gr g),hS.gb g,fun _=>e1,fun hne=>absurd (by rw [hd];rfl) hne⟩,_,e1⟩
 ·obtain ⟨⟨b,T,F',e1,t,nd,l⟩,h5,h6⟩:=h2 hd
  obtain ⟨t1,t2,t3⟩:=t d.length (Nat.le_refl _)
  refine ⟨⟨k.trans (h6.mono (fun y _ e=>.inr e)),h5,fun he=>absurd (List.map_eq_nil_iff.1 he) hd,fun _=>⟨b,T,F',d.length,e1,t1,t2,t3,nd,fun y hy=>.inr ?_⟩⟩,_,e1⟩
  have:=l y hy
  have:=k.size
  omega
theorem wo_leaf {Iq:Nat->Prop} {m leaf tb sb:Nat} (hm:1<=m/\m<=64) (hlf:1<=leaf/\leaf<=64) {x:Rt} {w:World} {b n:Nat} {F:List Nat} {T:Nat->Pt} (ht:TrO Iq w T (n + 1) b F) (hk:(T b).kids=none)
  (c1:w.cell? ⟨tb,1,none⟩=some (.int .i64 (leaf:Int))) (c2:w.cell? ⟨tb,2,none⟩=some (.pointer (some ⟨sb,0,none⟩))) (hS:SrcAt w sb) (htb:tb ∉ F) (hsb:sb ∉ F) (hv:OwnQ Iq w x.2.1 x.2.2) (hx:rwR x ∈ (T b).rs) (h1:RowsOk (T b).rs (m:Int)) :
  Calls Tryz.prog 85 #[.pointer (some ⟨tb,0,none⟩),.pointer (some ⟨b,0,none⟩),.agg #[.int .i64 x.1,x.2.1]] w fun e w'=>RmOut Iq w sb m F (aft false (rwR x) (T b).rs) e w':=by
 obtain ⟨vl,vh,vr,hp,ht⟩:=ht
 rw [hk] at ht
 obtain ⟨d,g,hd,hdm,hvr,rfl⟩:=ht
 rw [<- hdm] at hx h1 ⊢
 obtain ⟨y,hy,ey⟩:=List.mem_map.1 hx
 obtain ⟨i,hi,rfl⟩:=List.getElem_of_mem hy
 have eid:d[i].1=x.1:=(Prod.mk.inj ey).1
 have hnd:(d.map (·.1)).Pairwise (· ≠ ·):=by
  have:=h1.ids
  unfold idsOf at this
  rw [List.map_map] at this
  exact this
 have hn:=h1.few
 rw [List.length_map] at hn
 obtain ⟨cap,evr,hle⟩:∃ cap,vr=.slice (some ⟨g,0,none⟩) d.length cap/\d.length<=cap:=by
  rcases hd.row.2 with ⟨rfl,_⟩ | ⟨g',cap',cur,rfl,_,_,hle,_⟩
  ·cases hvr
  ·cases hvr
   exact ⟨_,rfl,hle⟩
 subst evr
 obtain ⟨xi,u,xl⟩:=x
 obtain ⟨ua,uc,eu,_⟩:=hv.rd
 dsimp only at eu eid
 subst eu
 have gA:Gb w (w.alloc (.cells #[.int .i64 xi,.slice ua xl.length uc] 43)):=gb_alloc (Below.refl _ _) _
 have cI:=isCut_c (hp.gb gA)
 rw [hk] at cI
 have c6:=cell_cur (i:=6) (hp.gb gA).blk rfl
 have gl:=(hd.row.lt g rfl).2
 have cD:=delf_c (cb:=w.heap.size) (cap:=cap) ((rwAt_own hd.row).1.gb gA) (fun y hy=>own_one (hd.vec y hy).own) (by omega) hle (by omega) xi (by simp [go_sem]) hi eid hnd
 have eaft:(d.eraseIdx i).map rwR=aft false (xi,xl) (d.map rwR):=by
  unfold aft
  rw [if_neg (by decide),erase_filter hi hnd,eid]
 have tl:tb ≠ g:=fun e=>htb (by rw [e];simp)
 have sg:¬ sb=g:=fun e=>hsb (by rw [e];simp)
 have PX:Hid (∀ e W',DelOut (w.alloc (.cells #[.int .i64 xi,.slice ua xl.length uc] 43)) g d.length cap i d e W'->e=.returned (.slice (some ⟨g,0,none⟩) (d.length - 1) cap)/\Calls Tryz.prog 59 #[.pointer (some ⟨tb,0,none⟩),.slice (some ⟨g,0,none⟩) (d.length - 1) cap] W' fun e w'=>RmOut Iq w sb m [b,g] (aft false (xi,xl) (d.map rwR)) e w'/\∃ pv,e=.returned (.pointer pv)):=by
  rintro e W' ⟨rfl,hR,hK⟩
  refine ⟨rfl,?_⟩
  have el:(d.eraseIdx i).length=d.length - 1:=List.length_eraseIdx_of_lt hi
  have ni:NoInt (w.alloc (.cells #[.int .i64 xi,.slice ua xl.length uc] 43)) (fun k=>k=g):=fun k e cur s hc=>(hd.gb gA).noint k (by rw [e];rfl) cur s hc
  have hS':SrcAt W' sb:=kp_src (hS.gb gA) hK sg
  have hI:CutIn Iq W' m (d.eraseIdx i):=⟨fun y hy=>ownq_noint (((hd.gb gA)).vec y (List.mem_of_mem_eraseIdx hy)) hK ni,h1.sub ((List.eraseIdx_sublist _ _).map _),(hp.up.gb gA).le hK.size⟩
  have cP:=partsOf_c hm ⟨hlf.1,by omega⟩ (d.eraseIdx i) (cap:=cap) hR hI (by omega) (kp_cell hK (gb_keeps gA c1) tl) (kp_cell hK (gb_keeps gA c2) tl) hS'
  rw [el] at cP
  rw [<- eaft]
  refine cP.mono ?_
  intro e w' h
  refine rm_parts ((Tk.Kp.of_gr gA).trans (hK.mono ?_)) hS' h
  intro k _ e
  exact .inl (by rw [e];simp)
 clear hp hd hdm h1 gA hk hvr htb hsb hS hx hy ey eid hnd hn hle eaft c1 c2 hi gl tl sg hv hlf hm
 generalize aft false (xi,xl) (d.map rwR)=R at *
 generalize d.length - 1=nd' at *
 generalize d.length=nd at *
 generalize xl.length=nx at *
 go_enter Tryz.func85,Tryz.ntmps85
 go_wp2_with fail
 go_fit cI
 rintro e w1 ⟨rfl,rfl⟩
 go_wp2_with fail
 go_fit cD
 intro e w2 hO
 obtain ⟨rfl,cP⟩:=PX.out _ _ hO
 clear hO cD PX cI c6
 go_wp2_with fail
 go_fit cP
 rintro e w3 ⟨hO,pv,rfl⟩
 have H:Hid _:=hO
 clear hO cP
 go_wp2
 go_ret
 exact H.out
def Alt_near (Iq:Nat->Prop) (w w2:World) (sb m b h:Nat) (F:List Nat) (R:List Rw) (pv:Option Addr):Prop :=
 (pv=none/\(w2.setCell ⟨b,10,none⟩ (.pointer none)).cell? ⟨b,10,none⟩=some (.pointer none)/\(w2.setCell ⟨b,10,none⟩ (.pointer none)).cell? ⟨b,11,none⟩=some (.pointer (some ⟨h,0,none⟩))/\RmOut Iq w sb m F R (.returned (.pointer (some ⟨h,0,none⟩))) (w2.setCell ⟨b,10,none⟩ (.pointer none))) ∨
 ∃ b',pv=some ⟨b',0,none⟩/\(w2.setCell ⟨b,10,none⟩ (.pointer (some ⟨b',0,none⟩))).cell? ⟨b,10,none⟩=some (.pointer (some ⟨b',0,none⟩))/\(w2.setCell ⟨b,10,none⟩ (.pointer (some ⟨b',0,none⟩))).cell? ⟨b,11,none⟩=some (.pointer (some ⟨h,0,none⟩))/\RmOut Iq w sb m F R (.returned (.pointer (some ⟨b,0,none⟩))) (w2.setCell ⟨b,10,none⟩ (.pointer (some ⟨b',0,none⟩)))
theorem alt_near {Iq:Nat->Prop} {w w1 w2:World} {sb m b l h n:Nat} {F1 F2:List Nat} {T:Nat->Pt} {vl vh:Value} {r:Rw} {e:Ending} (hp:PcAt Iq w b (T b) vl vh (.slice none 0 0)) (hk:(T b).kids=some (l,h)) (t1:TrO Iq w T (n + 1) l F1) (t2:TrO Iq w T (n + 1) h F2)
  (ok:OkP T m (n + 1) (T b)) (hnd:(b :: (F1 ++ F2)).Nodup) (hS:SrcAt w sb) (hsb:sb ∉ b :: (F1 ++ F2)) (pm:(aft false r (rowsP T n (T l)) ++ rowsP T n (T h)).Perm (aft false r (rowsP T n (T l) ++ rowsP T n (T h)))) (g1:Gb w w1) (hO:RmOut Iq w1 sb m F1 (aft false r (rowsP T n (T l))) e w2) :
  ∃ pv,e=.returned (.pointer pv)/\Alt_near Iq w w2 sb m b h (b :: (F1 ++ F2)) (aft false r (rowsP T n (T l) ++ rowsP T n (T h))) pv/\w2.cell? ⟨b,10,none⟩=some (.pointer (some ⟨l,0,none⟩))/\w2.frozen? ⟨b,10,none⟩=false/\∀ (p:Addr) (y:Value),w.heap.size<=p.block->w1.cell? p=some y->w2.cell? p=some y:=by
 obtain ⟨n',e',o1,o2,o3,o4,o5⟩:=okP_node hk ok
 have e'':n'=n:=by omega
 subst e''
 obtain ⟨k2,hS2,hn,hs⟩:=hO
 have bl:=(Array.getElem?_eq_some_iff.1 hp.blk).1
 have s1:=g1.size
 have m1:=t1.mem
 have m2:=t2.mem
 have hsl:=hS.lt
 have hnd2:=hnd
 rw [List.nodup_cons,List.nodup_append] at hnd2
 obtain ⟨hbn,nd1,nd2,dj⟩:=hnd2
 have hbk:b ∉ F1:=fun e=>hbn (List.mem_append_left _ e)
 have hbs:¬ b=sb:=fun e=>hsb (by rw [e];simp)
 have hp2:PcAt Iq w2 b (T b) vl vh (.slice none 0 0):=(hp.gb g1).kp k2 (fun y hy cur s=>hy.elim (fun e=>(t1.gb g1).noint y e cur s) (fun e=>(hS.gb g1).noint y e cur s)) (fun e=>e.elim hbk hbs)
 have hb2:w2.heap[b]? = some (.cells #[.int .i64 3,vl,vh,.int .u64 (hi (T b).reg.R),.int .u64 (lo (T b).reg.R),.slice none 0 0,.slice none 0 0,.int .i64 (T b).cut.1,.int .u64 (T b).cut.2.1,.int .u64 (T b).cut.2.2,.pointer (some ⟨l,0,none⟩),.pointer (some ⟨h,0,none⟩)] 117 (0,0)):=by
  have:=hp2.blk
  rw [hk] at this
  exact this
 have ni:NoInt w1 (fun k=>k ∈ F1 ∨ k=sb):=fun y hy cur s=>hy.elim (fun e=>(t1.gb g1).noint y e cur s) (fun e=>(hS.gb g1).noint y e cur s)
 have toW:TrO Iq w2 T (n' + 1) h F2:=TrO.kp k2 ni _ _ _ (t2.gb g1) (fun y hy e=>e.elim (fun e=>dj y e y hy rfl) (fun e=>hsb (by rw [<- e];exact List.mem_cons_of_mem _ (List.mem_append_right _ hy))))
 have nb:NoInt w2 (fun k=>k=b):=fun k e cur s hc=>by subst e;rw [hb2] at hc;simp at hc
 have kb:∀ u,Tk.Kp (fun k=>k=b) w2 (w2.setCell ⟨b,10,none⟩ u):=fun u=>(Tk.Kp.refl (fun k=>k=b) w2).setCell (.inl rfl) u
 have toS:∀ u,TrO Iq (w2.setCell ⟨b,10,none⟩ u) T (n' + 1) h F2:=fun u=>TrO.kp (kb u) nb _ _ _ toW (fun x hx e=>hbn (by rw [<- e];exact List.mem_append_right _ hx))
 have srcS:∀ u,SrcAt (w2.setCell ⟨b,10,none⟩ u) sb:=fun u=>kp_src hS2 (kb u) (fun e=>hbs e.symm)
 have kF:∀ u,Tk.Kp (fun k=>k ∈ b :: (F1 ++ F2) ∨ k=sb) w (w2.setCell ⟨b,10,none⟩ u):=fun u=>by
  have k0:Tk.Kp (fun k=>k ∈ b :: (F1 ++ F2) ∨ k=sb) w w2:=(Tk.Kp.of_gr g1).trans (k2.mono (fun k _ hk=>hk.imp (fun hk=>List.mem_cons_of_mem _ (List.mem_append_left _ hk)) id))
  exact k0.setCell (.inl (.inl List.mem_cons_self)) u
 have hcell:w2.cell? ⟨b,10,none⟩=some (.pointer (some ⟨l,0,none⟩)):=cell_cur hb2 rfl
 have hfro:w2.frozen? ⟨b,10,none⟩=false:=by simp [World.frozen?,hb2]
 have hkeep:∀ (p:Addr) (y:Value),w.heap.size<=p.block->w1.cell? p=some y->w2.cell? p=some y:=fun p y hp hc=>k2.cell hc (fun e=>by
  rcases e with e | e
  ·have:=(m1).2 _ e
   omega
  ·omega)
 by_cases hR:aft false r (rowsP T n' (T l))=[]
 ·refine ⟨none,hn hR,.inl ⟨rfl,?_,?_,kF _,srcS _,fun e=>?_,fun _=>⟨h,T,F2,n',rfl,toS _,o2,?_,nd2,fun y hy=>.inl (List.mem_cons_of_mem _ (List.mem_append_right _ hy))⟩⟩,hcell,hfro,hkeep⟩
  ·simp [World.cell?,World.setCell,Array.getElem?_modify,hb2]
  ·simp [World.cell?,World.setCell,Array.getElem?_modify,hb2]
  ·rw [hR,e] at pm
   exact absurd (List.append_eq_nil_iff.1 pm.eq_nil).2 (okP_ne _ _ o2)
  ·rw [hR] at pm
   simpa using pm
 ·obtain ⟨b',T',F',n'',e1,t3',ok3,pm3,nd,l3⟩:=hs hR
  have hbF':b ∉ F':=fun e=>by
   rcases l3 b e with h | h
   ·exact hbk h
   ·omega
  have t3:=TrO.kp (kb (.pointer (some ⟨b',0,none⟩))) nb _ _ _ t3' (fun x hx e=>hbF' (by rw [<- e];exact hx))
  have t4:=toS (.pointer (some ⟨b',0,none⟩))
  have hp3:PcAt Iq (w2.setCell ⟨b,10,none⟩ (.pointer (some ⟨b',0,none⟩))) b ⟨(T b).reg,(T b).rs,(T b).cut,some (b',h)⟩ vl vh (.slice none 0 0):=by
   refine ⟨?_,ownq_noint hp2.low (kb _) nb,ownq_noint hp2.high (kb _) nb,hp2.ball,hp2.up.le (kb (.pointer (some ⟨b',0,none⟩))).size⟩
   simp [World.setCell,Array.getElem?_modify,hb2,kidV]
  have ndF:(b :: (F' ++ F2)).Nodup:=by
   rw [List.nodup_cons,List.nodup_append]
   refine ⟨fun e=>?_,nd,nd2,fun a ha c hc e=>?_⟩
   ·rcases List.mem_append.1 e with e | e
    ·exact hbF' e
    ·exact hbn (List.mem_append_right _ e)
   ·subst e
    rcases l3 a ha with h | h
    ·exact dj a h a hc rfl
    ·have:=(m2).2 a hc
     omega
  have sub:∀ y ∈ rowsP T' n'' (T' b'),y ∈ rowsP T n' (T l):=fun y hy=>by
   have:=pm3.mem_iff.1 hy
   unfold aft at this
   rw [if_neg (by decide)] at this
   exact (List.mem_filter.1 this).1
  obtain ⟨T4,n4,r1,r2,r3⟩:=node_re (m:=m) hp3 rfl t3 ok3 t4 o2 (o3.sub (fun y hy=>(List.mem_append.1 hy).elim (fun hy=>List.mem_append_left _ (sub y hy)) (fun hy=>List.mem_append_right _ hy))) (fun y hy=>o4 y (sub y hy)) o5 ndF
  have pm4:(rowsP T4 n4 (T4 b)).Perm (aft false r (rowsP T n' (T l) ++ rowsP T n' (T h))):=by
   rw [r3]
   exact (pm3.append_right _).trans pm
  refine ⟨some ⟨b',0,none⟩,e1,.inr ⟨b',rfl,?_,?_,kF _,srcS _,fun e=>?_,fun _=>⟨b,T4,_,n4,rfl,r1,r2,pm4,ndF,fun y hy=>?_⟩⟩,hcell,hfro,hkeep⟩
  ·simp [World.cell?,World.setCell,Array.getElem?_modify,hb2]
  ·simp [World.cell?,World.setCell,Array.getElem?_modify,hb2]
  ·rw [e] at pm4
   exact absurd pm4.eq_nil (okP_ne _ _ r2)
  ·rcases List.mem_cons.1 hy with rfl | hy
   ·exact .inl List.mem_cons_self
   ·rcases List.mem_append.1 hy with hy | hy
    ·exact (l3 y hy).imp (fun e=>List.mem_cons_of_mem _ (List.mem_append_left _ e)) (fun e=>by omega)
    ·exact .inl (List.mem_cons_of_mem _ (List.mem_append_right _ hy))
def Alt_far (Iq:Nat->Prop) (w w2:World) (sb m b l:Nat) (F:List Nat) (R:List Rw) (pv:Option Addr):Prop :=
 (pv=none/\(w2.setCell ⟨b,11,none⟩ (.pointer none)).cell? ⟨b,11,none⟩=some (.pointer none)/\(w2.setCell ⟨b,11,none⟩ (.pointer none)).cell? ⟨b,10,none⟩=some (.pointer (some ⟨l,0,none⟩))/\RmOut Iq w sb m F R (.returned (.pointer (some ⟨l,0,none⟩))) (w2.setCell ⟨b,11,none⟩ (.pointer none))) ∨
 ∃ b',pv=some ⟨b',0,none⟩/\(w2.setCell ⟨b,11,none⟩ (.pointer (some ⟨b',0,none⟩))).cell? ⟨b,11,none⟩=some (.pointer (some ⟨b',0,none⟩))/\(w2.setCell ⟨b,11,none⟩ (.pointer (some ⟨b',0,none⟩))).cell? ⟨b,10,none⟩=some (.pointer (some ⟨l,0,none⟩))/\RmOut Iq w sb m F R (.returned (.pointer (some ⟨b,0,none⟩))) (w2.setCell ⟨b,11,none⟩ (.pointer (some ⟨b',0,none⟩)))
theorem alt_far {Iq:Nat->Prop} {w w1 w2:World} {sb m b l h n:Nat} {F1 F2:List Nat} {T:Nat->Pt} {vl vh:Value} {r:Rw} {e:Ending} (hp:PcAt Iq w b (T b) vl vh (.slice none 0 0)) (hk:(T b).kids=some (l,h)) (t1:TrO Iq w T (n + 1) l F1) (t2:TrO Iq w T (n + 1) h F2)
  (ok:OkP T m (n + 1) (T b)) (hnd:(b :: (F1 ++ F2)).Nodup) (hS:SrcAt w sb) (hsb:sb ∉ b :: (F1 ++ F2)) (pm:(rowsP T n (T l) ++ aft false r (rowsP T n (T h))).Perm (aft false r (rowsP T n (T l) ++ rowsP T n (T h)))) (g1:Gb w w1) (hO:RmOut Iq w1 sb m F2 (aft false r (rowsP T n (T h))) e w2) :
  ∃ pv,e=.returned (.pointer pv)/\Alt_far Iq w w2 sb m b l (b :: (F1 ++ F2)) (aft false r (rowsP T n (T l) ++ rowsP T n (T h))) pv/\w2.cell? ⟨b,11,none⟩=some (.pointer (some ⟨h,0,none⟩))/\w2.frozen? ⟨b,11,none⟩=false/\∀ (p:Addr) (y:Value),w.heap.size<=p.block->w1.cell? p=some y->w2.cell? p=some y:=by
 obtain ⟨n',e',o1,o2,o3,o4,o5⟩:=okP_node hk ok
 have e'':n'=n:=by omega
 subst e''
 obtain ⟨k2,hS2,hn,hs⟩:=hO
 have bl:=(Array.getElem?_eq_some_iff.1 hp.blk).1
 have s1:=g1.size
 have m1:=t1.mem
 have m2:=t2.mem
 have hsl:=hS.lt
 have hnd2:=hnd
 rw [List.nodup_cons,List.nodup_append] at hnd2
 obtain ⟨hbn,nd1,nd2,dj⟩:=hnd2
 have hbk:b ∉ F2:=fun e=>hbn (List.mem_append_right _ e)
 have hbs:¬ b=sb:=fun e=>hsb (by rw [e];simp)
 have hp2:PcAt Iq w2 b (T b) vl vh (.slice none 0 0):=(hp.gb g1).kp k2 (fun y hy cur s=>hy.elim (fun e=>(t2.gb g1).noint y e cur s) (fun e=>(hS.gb g1).noint y e cur s)) (fun e=>e.elim hbk hbs)
 have hb2:w2.heap[b]? = some (.cells #[.int .i64 3,vl,vh,.int .u64 (hi (T b).reg.R),.int .u64 (lo (T b).reg.R),.slice none 0 0,.slice none 0 0,.int .i64 (T b).cut.1,.int .u64 (T b).cut.2.1,.int .u64 (T b).cut.2.2,.pointer (some ⟨l,0,none⟩),.pointer (some ⟨h,0,none⟩)] 117 (0,0)):=by
  have:=hp2.blk
  rw [hk] at this
  exact this
 have ni:NoInt w1 (fun k=>k ∈ F2 ∨ k=sb):=fun y hy cur s=>hy.elim (fun e=>(t2.gb g1).noint y e cur s) (fun e=>(hS.gb g1).noint y e cur s)
 have toW:TrO Iq w2 T (n' + 1) l F1:=TrO.kp k2 ni _ _ _ (t1.gb g1) (fun y hy e=>e.elim (fun e=>dj y hy y e rfl) (fun e=>hsb (by rw [<- e];exact List.mem_cons_of_mem _ (List.mem_append_left _ hy))))
 have nb:NoInt w2 (fun k=>k=b):=fun k e cur s hc=>by subst e;rw [hb2] at hc;simp at hc
 have kb:∀ u,Tk.Kp (fun k=>k=b) w2 (w2.setCell ⟨b,11,none⟩ u):=fun u=>(Tk.Kp.refl (fun k=>k=b) w2).setCell (.inl rfl) u
 have toS:∀ u,TrO Iq (w2.setCell ⟨b,11,none⟩ u) T (n' + 1) l F1:=fun u=>TrO.kp (kb u) nb _ _ _ toW (fun x hx e=>hbn (by rw [<- e];exact List.mem_append_left _ hx))
 have srcS:∀ u,SrcAt (w2.setCell ⟨b,11,none⟩ u) sb:=fun u=>kp_src hS2 (kb u) (fun e=>hbs e.symm)
 have kF:∀ u,Tk.Kp (fun k=>k ∈ b :: (F1 ++ F2) ∨ k=sb) w (w2.setCell ⟨b,11,none⟩ u):=fun u=>by
  have k0:Tk.Kp (fun k=>k ∈ b :: (F1 ++ F2) ∨ k=sb) w w2:=(Tk.Kp.of_gr g1).trans (k2.mono (fun k _ hk=>hk.imp (fun hk=>List.mem_cons_of_mem _ (List.mem_append_right _ hk)) id))
  exact k0.setCell (.inl (.inl List.mem_cons_self)) u
 have hcell:w2.cell? ⟨b,11,none⟩=some (.pointer (some ⟨h,0,none⟩)):=cell_cur hb2 rfl
 have hfro:w2.frozen? ⟨b,11,none⟩=false:=by simp [World.frozen?,hb2]
 have hkeep:∀ (p:Addr) (y:Value),w.heap.size<=p.block->w1.cell? p=some y->w2.cell? p=some y:=fun p y hp hc=>k2.cell hc (fun e=>by
  rcases e with e | e
  ·have:=(m2).2 _ e
   omega
  ·omega)
 by_cases hR:aft false r (rowsP T n' (T h))=[]
 ·refine ⟨none,hn hR,.inl ⟨rfl,?_,?_,kF _,srcS _,fun e=>?_,fun _=>⟨l,T,F1,n',rfl,toS _,o1,?_,nd1,fun y hy=>.inl (List.mem_cons_of_mem _ (List.mem_append_left _ hy))⟩⟩,hcell,hfro,hkeep⟩
  ·simp [World.cell?,World.setCell,Array.getElem?_modify,hb2]
  ·simp [World.cell?,World.setCell,Array.getElem?_modify,hb2]
  ·rw [hR,e] at pm
   exact absurd (List.append_eq_nil_iff.1 pm.eq_nil).1 (okP_ne _ _ o1)
  ·rw [hR] at pm
   simpa using pm
 ·obtain ⟨b',T',F',n'',e1,t3',ok3,pm3,nd,l3⟩:=hs hR
  have hbF':b ∉ F':=fun e=>by
   rcases l3 b e with h | h
   ·exact hbk h
   ·omega
  have t3:=TrO.kp (kb (.pointer (some ⟨b',0,none⟩))) nb _ _ _ t3' (fun x hx e=>hbF' (by rw [<- e];exact hx))
  have t4:=toS (.pointer (some ⟨b',0,none⟩))
  have hp3:PcAt Iq (w2.setCell ⟨b,11,none⟩ (.pointer (some ⟨b',0,none⟩))) b ⟨(T b).reg,(T b).rs,(T b).cut,some (l,b')⟩ vl vh (.slice none 0 0):=by
   refine ⟨?_,ownq_noint hp2.low (kb _) nb,ownq_noint hp2.high (kb _) nb,hp2.ball,hp2.up.le (kb (.pointer (some ⟨b',0,none⟩))).size⟩
   simp [World.setCell,Array.getElem?_modify,hb2,kidV]
  have ndF:(b :: (F1 ++ F')).Nodup:=by
   rw [List.nodup_cons,List.nodup_append]
   refine ⟨fun e=>?_,nd1,nd,fun a ha c hc e=>?_⟩
   ·rcases List.mem_append.1 e with e | e
    ·exact hbn (List.mem_append_left _ e)
    ·exact hbF' e
   ·subst e
    rcases l3 a hc with h | h
    ·exact dj a ha a h rfl
    ·have:=(m1).2 a ha
     omega
  have sub:∀ y ∈ rowsP T' n'' (T' b'),y ∈ rowsP T n' (T h):=fun y hy=>by
   have:=pm3.mem_iff.1 hy
   unfold aft at this
   rw [if_neg (by decide)] at this
   exact (List.mem_filter.1 this).1
  obtain ⟨T4,n4,r1,r2,r3⟩:=node_re (m:=m) hp3 rfl t4 o1 t3 ok3 (o3.sub (fun y hy=>(List.mem_append.1 hy).elim (fun hy=>List.mem_append_left _ hy) (fun hy=>List.mem_append_right _ (sub y hy)))) o4 (fun y hy=>o5 y (sub y hy)) ndF
  have pm4:(rowsP T4 n4 (T4 b)).Perm (aft false r (rowsP T n' (T l) ++ rowsP T n' (T h))):=by
   rw [r3]
   exact (pm3.append_left _).trans pm
  refine ⟨some ⟨b',0,none⟩,e1,.inr ⟨b',rfl,?_,?_,kF _,srcS _,fun e=>?_,fun _=>⟨b,T4,_,n4,rfl,r1,r2,pm4,ndF,fun y hy=>?_⟩⟩,hcell,hfro,hkeep⟩
  ·simp [World.cell?,World.setCell,Array.getElem?_modify,hb2]
  ·simp [World.cell?,World.setCell,Array.getElem?_modify,hb2]
  ·rw [e] at pm4
   exact absurd pm4.eq_nil (okP_ne _ _ r2)
  ·rcases List.mem_cons.1 hy with rfl | hy
   ·exact .inl List.mem_cons_self
   ·rcases List.mem_append.1 hy with hy | hy
    ·exact .inl (List.mem_cons_of_mem _ (List.mem_append_left _ hy))
    ·exact (l3 y hy).imp (fun e=>List.mem_cons_of_mem _ (List.mem_append_right _ e)) (fun e=>by omega)
end Go.Proofs.YtepjbdklljlecaaGreat

namespace Go.Proofs.YtepjbdklljlecaaGreat
open Go.RowKit Go.Sort
set_option maxRecDepth 100000
set_option maxHeartbeats 4000000
theorem del_cells {xs ys:List Value} {a k N:Nat} {cur c1 c2:Array Value} (ha:a + k<=xs.length) (hN:N=xs.length - k) (hx:∀ t,t < xs.length->cur[t]? = xs[t]?)
  (h1:∀ t,c1[t]? = if a<=t/\t < a + (xs.drop (a + k)).length then (xs.drop (a + k))[t - a]? else cur[t]?)
  (h2:∀ t,c2[t]? = if N<=t/\t < N + ys.length then ys[t - N]? else c1[t]?):c2.toList.take N=xs.take a ++ xs.drop (a + k):=by
 rw [List.length_drop] at h1
 apply List.ext_getElem?
 intro t
 have hl1:(xs.take a).length=a:=by rw [List.length_take];omega
 by_cases ht:t < N
 ·rw [List.getElem?_take_of_lt ht,Array.getElem?_toList,h2 t,if_neg (by omega),h1 t]
  by_cases c:t < a
  ·rw [if_neg (by omega),hx t (by omega),List.getElem?_append_left (by omega),List.getElem?_take_of_lt c]
  ·rw [if_pos (by omega),List.getElem?_append_right (by omega),hl1]
 ·rw [List.getElem?_eq_none (by rw [List.length_take];omega),List.getElem?_eq_none (by rw [List.length_append,hl1,List.length_drop];omega)]
theorem setCells_nil (w:World) (g o:Nat):w.setCells g o []=w:=rfl
theorem delX_c {w:World} {g n cap i:Nat} {xs:List Value} (h:w.ownsRow 0 43 2 (.slice (some ⟨g,0,none⟩) n cap) n xs) (hi:i < n) (hn:n<=4000) (h1c:∀ v ∈ xs,v.oneCell'=true) :
  Calls Tryz.prog 84 #[.slice (some ⟨g,0,none⟩) n cap,.int .i64 (i:Int),.int .i64 ((i + 1:Nat):Int)] w fun e w'=>e=.returned (.slice (some ⟨g,0,none⟩) (n - 1) cap)/\w'.ownsRow 0 43 2 (.slice (some ⟨g,0,none⟩) (n - 1) cap) (n - 1) (xs.take (i * 2) ++ xs.drop ((i + 1) * 2))/\Tk.Kp (fun b=>b=g) w w':=by
 obtain ⟨hxl,h⟩:=h
 rcases h with ⟨e,_⟩ | ⟨g',cap',cur,e,_,hg,hle,hmx,hsz,htk⟩
 ·cases e
 cases e
 obtain ⟨i0,hi0,_,hzs,_⟩:=info_insR
 have mixed:Tryz.prog.follows Departure.mixedOrders=true:=by kernel_rfl
 have hmx2:cap<=9223372036854775807:=by unfold maxLen at hmx;omega
 have hcs:∀ j v,xs[j]? = some v->w.cell? ⟨g,j,none⟩=some v:=fun j v hj=>by
  have hjl:=(List.getElem?_eq_some_iff.1 hj).1
  rw [<- htk,List.getElem?_take_of_lt (by omega),Array.getElem?_toList] at hj
  simp [World.cell?,hg,hj]
 have hdl:(xs.drop ((i + 1) * 2)).length=(n - (i + 1)) * 2:=by rw [List.length_drop,hxl];omega
 have hap:∀ (ty:TypeId) (a:Addr) (c:Nat),(i + 1 < n->a=⟨g,(i + 1) * 2,none⟩)->(Builtin.append_ #[22,22] ty #[.slice (some ⟨g,0,none⟩) i cap,.slice (some a) (n - (i + 1)) c]).run Tryz.prog w.drew=.ok (.slice (some ⟨g,0,none⟩) (n - 1) cap) (w.drew.setCells g (i * 2) (xs.drop ((i + 1) * 2))):=fun ty a c ha=>by
  have:=run_append_room_cells (P:=Tryz.prog) w.drew 22 ty 43 i0 Tryz.underlying22 hi0 g 0 i cap a (n - (i + 1)) c (xs.drop ((i + 1) * 2)) (by rw [hdl,hzs]) (fun j u hj=>by
   have hlt:=(List.getElem?_eq_some_iff.1 hj).1
   rw [hdl] at hlt
   rw [ha (by omega),Addr.add_lit]
   exact hcs _ u (by rwa [List.getElem?_drop] at hj)) (fun v hv=>h1c v (List.mem_of_mem_drop hv)) (by omega)
   (fun j hj=>by rw [hdl] at hj;rw [hzs];exact some_setCells g _ _ hg (by omega)) (fun j hj=>by simp [World.frozen?,show w.drew.heap[g]? = _ from hg])
  rw [hzs,show i + (n - (i + 1))=n - 1 by omega,Nat.zero_add] at this
  exact this
 obtain ⟨c1,e1,s1,f1⟩:=setCells_heap g 43 (0,0) (xs.drop ((i + 1) * 2)) (i * 2) w.drew cur hg (by rw [hdl];omega)
 have hcl:=fun (c:Nat) (ty:TypeId)=>clear_one (c:=c) (ty:=ty) (p:=(n - 1) * 2) e1 (by omega)
 have FD:Hid (w.drew.setCells g (i * 2) (xs.drop ((i + 1) * 2)) |>.setCells g ((n - 1) * 2) [.int .i64 0,.slice none 0 0] |>.ownsRow 0 43 2 (.slice (some ⟨g,0,none⟩) (n - 1) cap) (n - 1) (xs.take (i * 2) ++ xs.drop ((i + 1) * 2))):=by
  obtain ⟨c2,e2,s2,f2⟩:=setCells_heap g 43 (0,0) [.int .i64 0,.slice none 0 0] ((n - 1) * 2) _ c1 e1 (by simp;omega)
  refine ⟨by rw [List.length_append,hdl,List.length_take];omega,.inr ⟨g,cap,c2,rfl,Nat.zero_le _,e2,by omega,hmx,by omega,?_⟩⟩
  have ee:(i + 1) * 2=i * 2 + 2:=by omega
  rw [ee] at f1 ⊢
  exact del_cells (by omega) (by omega) (fun t ht=>by rw [<- htk,List.getElem?_take_of_lt (by omega),Array.getElem?_toList]) f1 f2
 have FK:Hid (Tk.Kp (fun b=>b=g) w ((w.drew.setCells g (i * 2) (xs.drop ((i + 1) * 2))).setCells g ((n - 1) * 2) [.int .i64 0,.slice none 0 0])):=by
  have k0:Tk.Kp (fun b=>b=g) w w.drew:=⟨rfl,rfl,rfl,Nat.le_refl _,fun _ _ _=>rfl⟩
  exact kp_setCells (S:=fun b=>b=g) (.inl rfl) _ _ _ (kp_setCells (S:=fun b=>b=g) (.inl rfl) _ _ _ k0)
 have hz2:¬ ((i:Int)=(i:Int) + 1):=by omega
 have hb1:(i:Int) + 1<=(n:Int):=by omega
 have hb5:(i:Int)<=(i:Int) + 1:=by omega
 have hb6:(0:Int)<=(i:Int) + 1:=by omega
 have hb2:(n:Int)<=(cap:Int):=by omega
 have hb3:(i:Int)<=(cap:Int):=by omega
 have hb4:(i:Int)<=(n:Int):=by omega
 have hcn:¬ cap=n - 1:=by omega
 have hci:¬ cap=i:=by omega
 have hnn:n - (n - 1)=1:=by omega
 have hn1:1<=n:=by omega
 have hni:¬ n=i:=by omega
 have hii:i<=i + 1:=by omega
 have hdr:n=i + 1->xs.drop ((i + 1) * 2)=[]:=fun e=>List.drop_of_length_le (by omega)
 clear hg htk hxl hcs hdl hsz hi0 hzs e1 s1 f1 hmx h1c
 by_cases hcc:cap=i + 1
 ·have hin:n=i + 1:=by omega
  have hap2:=fun ty c=>hap ty ⟨g,0,none⟩ c (fun e=>by omega)
  clear hap
  subst hcc hin
  simp only [Nat.sub_self,Nat.add_sub_cancel,hdr rfl,setCells_nil] at hap2 hcl FD FK ⊢
  clear hdr
  go_enter Tryz.func84,Tryz.ntmps84
  go_wp2
  go_region_law_o (refine step_append_k rfl _ _ 22 22 rfl _ _ (by simp [Act.eval,Act.put]) (by simp [Act.eval,Act.put]) (hap2 _ _) ?_)
  go_wp2
  go_ret
  exact ⟨rfl,FD.out,FK.out⟩
 ·have hap2:=fun ty c=>hap ty ⟨g,(i + 1) * 2,none⟩ c (fun _=>rfl)
  clear hap
  go_enter Tryz.func84,Tryz.ntmps84
  go_wp2
  go_region_law_o (refine step_append_k rfl _ _ 22 22 rfl (.slice (some ⟨g,0,none⟩) i cap) (.slice (some ⟨g,(i + 1) * 2,none⟩) (n - (i + 1)) (cap - (i + 1))) (by simp [Act.eval,Act.put]) (by simp [Act.eval,Act.put]) (hap2 22 (cap - (i + 1))) ?_)
  go_wp2
  go_ret
  exact ⟨rfl,FD.out,FK.out⟩
end Go.Proofs.YtepjbdklljlecaaGreat

namespace Go.Proofs.YtepjbdklljlecaaGreat
open Go.RowKit Go.Shelf
attribute [local go_sem] Oper.semAt_some
end Go.Proofs.YtepjbdklljlecaaGreat
