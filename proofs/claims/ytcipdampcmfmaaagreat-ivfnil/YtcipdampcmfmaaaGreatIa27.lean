import Derived.Test.YtcipdampcmfmaaaGreatIa18
import Derived.Test.YtcipdampcmfmaaaGreatIa19
import Derived.Deep.OwnRows
namespace Go.Proofs.YtcipdampcmfmaaaGreat
open Go.RowKit Go.Maps
set_option maxRecDepth 100000
set_option maxHeartbeats 4000000
structure Pl (w W:World) (pb:Nat) (us:Nat->Value) (k:Nat) (ps:Nat->List Int):Prop where
 row:W.rowIs pb 41 k us
 own:∀ i,i < k->Own W w.heap.size (us i) (ps i)
 ne:∀ i,i < k->(us i).ownBlock ≠ some pb
 apart:∀ i j,i < k->j < k->i ≠ j->(us i).ownBlock=none ∨ (us i).ownBlock ≠ (us j).ownBlock
 gb:Gb w W
 hB:w.heap.size<=pb
theorem Pl.gr {w W W':World} {pb k:Nat} {us:Nat->Value} {ps:Nat->List Int} (h:Pl w W pb us k ps) (g:Gb W W'):Pl w W' pb us k ps :=
 ⟨h.row.of_block (g.block _ h.row.lt),fun i hi=>(h.own i hi).gb g,h.ne,h.apart,gb_trans h.gb g,h.hB⟩
theorem k_own_lt {w:World} {B:Nat} {v:Value} {l:List Int} (h:Own w B v l) {g:Nat} (hg:v.ownBlock=some g):g < w.heap.size/\B<=g:=by
 have:=World.ownsRow.lt h g hg
 exact ⟨this.2,this.1⟩
theorem Pl.next {w W W2:World} {pb k t:Nat} {us:Nat->Value} {ps:Nat->List Int} {v':Value} {x:Int} (h:Pl w W pb us k ps) (ht:t < k)
  (hr:W2.ownsRow w.heap.size 3 1 v' ((ps t).length + 1) ((ps t).map (Value.int .i64) ++ [.int .i64 x])) (hg:W.grownBy W2 (us t).ownBlock) (hloc:v'.ownBlock=(us t).ownBlock ∨ v'.ownBlock=some W.heap.size) :
  Pl w (W2.setCell ⟨pb,t,none⟩ v') pb (fun i=>if i=t then v' else us i) k (fun i=>if i=t then ps t ++ [x] else ps i):=by
 have hrow:W2.rowIs pb 41 k us:=h.row.of_block (hg.block pb h.row.lt (fun e=>h.ne t ht e.symm))
 have hO:Own W2 w.heap.size v' (ps t ++ [x]):=by unfold Own;rw [List.length_append,List.map_append];exact hr
 have hne:v'.ownBlock ≠ some pb:=by
  rcases hloc with e | e
  ·rw [e];exact h.ne t ht
  ·rw [e];intro e2;have:=h.row.lt;injection e2;omega
 have keep:∀ {v:Value} {l:List Int},Own W2 w.heap.size v l->v.ownBlock ≠ some pb->Own (W2.setCell ⟨pb,t,none⟩ v') w.heap.size v l:=fun {v l} ho hn =>
  own_kp (S:=fun b=>b=pb) ho (Kp.set (S:=fun b=>b=pb) (Kp.refl _ W2) (p:=⟨pb,t,none⟩) (.inl rfl) v') (fun g e1 e2=>hn (by rw [e1,e2]))
 have hap:∀ i,i < k->i ≠ t->(us i).ownBlock=none ∨ (us i).ownBlock ≠ v'.ownBlock:=fun i hi hit=>by
  rcases hloc with e | e
  ·rw [e];exact h.apart i t hi ht hit
  ·cases hv:(us i).ownBlock with
   | none=>exact .inl rfl
   | some g =>
    refine .inr ?_
    rw [e]
    intro e2
    have:=k_own_lt (h.own i hi) hv
    injection e2;omega
 have gb2:Gb w W2:=below_grown h.gb hg (fun g e=>(k_own_lt (h.own t ht) e).2) h.gb.size
 refine ⟨(hrow.set t v').congr (fun i _=>rfl),fun i hi=>?_,fun i hi=>?_,fun i j hi hj hij=>?_,gb_set gb2 h.hB _,h.hB⟩
 ·by_cases e:i=t
  ·simp only [if_pos e];exact keep hO hne
  ·simp only [if_neg e]
   refine keep ((h.own i hi).kept hg ?_) (h.ne i hi)
   exact h.apart i t hi ht e
 ·by_cases e:i=t
  ·simp only [if_pos e];exact hne
  ·simp only [if_neg e];exact h.ne i hi
 ·by_cases e:i=t
  ·simp only [if_pos e]
   rw [if_neg (fun e2=>hij (e.trans e2.symm))]
   rcases hap j hj (fun e2=>hij (e.trans e2.symm)) with h1 | h1
   ·cases hv:v'.ownBlock with
    | none=>exact .inl rfl
    | some g=>rw [h1];exact .inr (by simp)
   ·exact .inr (fun e2=>h1 e2.symm)
  ·simp only [if_neg e]
   by_cases e2:j=t
   ·simp only [if_pos e2];exact hap i hi e
   ·simp only [if_neg e2];exact h.apart i j hi hj hij
theorem Tryz.infoV:(Tryz.prog.info? 41).map (fun i=>(i.zero,i.size,i.bytes))=some (some (.slice none 0 0),1,24):=by kernel_rfl
theorem Tryz.infoI:(Tryz.prog.info? 3).map (fun i=>(i.zero,i.size,i.bytes))=some (some (.int .i64 0),1,8):=by kernel_rfl
theorem info_parts' {i:Nat} {z:Value} {s b:Nat} (h:(Tryz.prog.info? i).map (fun i=>(i.zero,i.size,i.bytes))=some (some z,s,b)):∃ i0,Tryz.prog.info? i=some i0/\i0.zero=some z/\i0.size=s/\i0.bytes=b:=by
 obtain ⟨i,hi,hzz⟩:=Option.map_eq_some_iff.1 h
 simp only [Prod.mk.injEq] at hzz
 exact ⟨i,hi,hzz.1,hzz.2.1,hzz.2.2⟩
def belI (cs l:Vs) (q:Nat) (i:Nat):List Int:=(belTo cs l i q).map Int.ofNat
theorem belI_next (cs l:Vs) (q t:Nat) (ht:(nearP cs l[q]!).1=t):belI cs l (q + 1)=fun i=>if i=t then belI cs l q t ++ [(q:Int)] else belI cs l q i:=by
 funext i
 unfold belI
 rw [belTo_next]
 by_cases e:i=t
 ·subst e;rw [if_pos ht];simp
 ·simp only [if_neg e];rw [if_neg (fun e2=>e (e2.symm.trans ht))]
theorem belonging_c {w:World} {lv cv:Value} {l cs:Vs} {d:Int} (hl:RdV w lv l) (hc:RdV w cv cs) (hlo:VsOk l d) (hco:VsOk cs d) (h0:1<=cs.length) (h64:cs.length<=64) (hn:l.length<=512) :
  Calls Tryz.prog 186 #[lv,cv] w fun e w'=>∃ us,e=.returned (.slice (some ⟨w.heap.size,0,none⟩) cs.length cs.length)/\Pl w w' w.heap.size us cs.length (belI cs l l.length):=by
 have L:Hid (RdV w lv l):=hl
 have C:Hid (RdV w cv cs):=hc
 have K:Hid (VsOk l d/\VsOk cs d/\1<=cs.length/\cs.length<=64):=⟨hlo,hco,h0,h64⟩
 obtain ⟨al,cl,rfl,_⟩:=hl
 obtain ⟨ac,cc,rfl,_⟩:=hc
 obtain ⟨k,hk⟩:∃ k,k=cs.length:=⟨_,rfl⟩
 have KK:Hid (k=cs.length):=hk
 obtain ⟨n,hN⟩:∃ n,n=l.length:=⟨_,rfl⟩
 have N:Hid (n=l.length):=hN
 rw [<- hk] at C h0 h64 ⊢
 rw [<- hN] at L hn ⊢
 clear hk hN hlo hco
 have hmk:=run_make_row' (P:=Tryz.prog) 65 41 (.slice none 0 0) 24 Tryz.underlying65 Tryz.infoV rfl .i64 .i64 k (by omega) (by omega) w
 have P0:Pl w (w.alloc (.cells (madeCells #[Value.slice none 0 0] k) 41)) w.heap.size (fun _=>.slice none 0 0) k (belI cs l 0) :=
  ⟨World.rowIs_made w _ k _,fun i _=>own_nil _ _,fun i _ e=>by simp [Value.ownBlock] at e,fun i j _ _ _=>.inl rfl,gb_alloc (Below.refl _ _) _,Nat.le_refl _⟩
 obtain ⟨i0,hi,hz0,hz1,hz2⟩:=info_parts' Tryz.infoI
 have II:Hid (Tryz.prog.info? 3=some i0/\i0.zero=some (.int .i64 0)/\i0.size=1/\i0.bytes=8):=⟨hi,hz0,hz1,hz2⟩
 clear hi hz0 hz1 hz2
 generalize w.alloc (.cells (madeCells #[Value.slice none 0 0] k) 41)=W0 at *
 go_enter Tryz.func186,Tryz.ntmps186
 go_wp2
 clear hmk
 go_loopw [14] (fun iv W=>∃ (q:Nat) (us:Nat->Value),iv=.int .i64 (q:Int)/\q<=n/\Hid (Pl w W w.heap.size us k (belI cs l q))) (fun iv _=>n - (intOf iv).toNat)
 case atStart=>exact ⟨0,_,rfl,Nat.zero_le _,P0⟩
 case round =>
  clear P0
  obtain ⟨q,us,rfl,hq,X⟩:=hrel
  by_cases hqn:q < n
  ·have hqi:(q:Int) < (n:Int):=by omega
   have hql:q < l.length:=by have:=N.out;omega
   obtain ⟨b1,o1,u1,ea,k1,k2⟩:=cen_at L.out hql
   subst ea
   have g1:=X.out.gb
   have x0:=gb_keeps g1 k1
   have cn:=k_nearest_c (C.out.gb g1) (k2.gb g1) K.out.2.1 (K.out.1 q hql) K.out.2.2.1 K.out.2.2.2
   have hto:=nearP_lt K.out.2.2.1 l[q]!
   have NX:=belI_next cs l q _ rfl
   rw [<- KK.out] at hto
   obtain ⟨pu,cu,rfl,_⟩:=k2
   generalize l[q]!.length=m1 at *
   generalize nearP cs l[q]! = p at *
   obtain ⟨t,pd⟩:=p
   dsimp only at hto cn NX
   have hti:(t:Int) < (k:Int):=by omega
   have hlt:(belI cs l q t).length<=512:=by unfold belI;rw [List.length_map];exact Nat.le_trans (belTo_len cs l t q) (by omega)
   have NXH:Hid (belI cs l (q + 1)=fun i=>if i=t then belI cs l q t ++ [(q:Int)] else belI cs l q i):=NX
   clear k1 NX
   go_wp2_with fail
   refine cn.mono ?_
   rintro e w2 ⟨rfl,g2⟩
   have X2:Hid (Pl w (w2.alloc (.cells #[.int .u64 (hi pd),.int .u64 (lo pd)] 79)) w.heap.size us k (belI cs l q)):=(X.out.gr g2.gb).gr (gb_alloc (Below.refl _ _) _)
   have c1:=X2.out.row.cell hto
   have hrow:=X2.out.own t hto
   obtain ⟨nt,pt,ct,et⟩:∃ nt pt ct,us t=.slice pt nt ct:=by obtain ⟨pv,cv,ev,_⟩:=hrow.rd;exact ⟨_,pv,cv,ev⟩
   have ET:Hid (us t=.slice pt nt ct):=et
   rw [et] at c1 hrow
   have hw0:=X2.out.gb.size
   clear cn X x0 g1 g2 et
   have II':=II.out
   go_wp2_with (first
    | (at_builtin;refine wpList_append_own_at _ rfl _ _ 41 rfl w.heap.size 3 i0 (.int .i64 0) 1 8 Tryz.underlying41 II'.1 II'.2.1 II'.2.2.1 II'.2.2.2 rfl (by decide) (.slice pt nt ct) (belI cs l q t).length ((belI cs l q t).map (Value.int .i64)) rfl (World.ownsRow.alloc hrow _) ⟨w2.heap.size + 1,0,none⟩ 1 1 [.int .i64 (q:Int)] rfl rfl (by have hc:=cell_one_new (w2.alloc (.cells #[.int .u64 (hi pd),.int .u64 (lo pd)] 79)) (.int .i64 (q:Int)) 3;rwa [World.size_alloc] at hc) (ints_oneCell .i64 [(q:Int)]) (by unfold maxLen;omega) (by omega) (by rw [World.size_alloc];omega) ?_;intro v' w4 hown' hgrow' hnil' hloc';obtain ⟨nv,pv,cv,ev⟩:∃ nv pv cv,v'=.slice pv nv cv:=(by rcases hown'.2 with ⟨e,_⟩ | ⟨g,cap,cur,e,_⟩ <;> exact ⟨_,_,_,e⟩);subst ev;have X3:Hid (Pl w (w4.setCell ⟨w.heap.size,t,none⟩ (.slice pv nv cv)) w.heap.size (fun i=>if i=t then .slice pv nv cv else us i) k (fun i=>if i=t then belI cs l q t ++ [(q:Int)] else belI cs l q i)):=(X2.out.gr (gb_alloc (Below.refl _ _) _)).next hto hown' (by rw [ET.out];exact hgrow') (by rw [ET.out];exact hloc');have r4:=(X2.out.gr (gb_alloc (Below.refl _ _) _)).row.of_block (hgrow'.block w.heap.size (by rw [World.size_alloc];have:=X2.out.row.lt;omega) (fun e=>X2.out.ne t hto (by rw [ET.out];exact e.symm)));have c4:=r4.cell hto;have f4:=r4.frozen t;rw [ET.out] at c4;clear r4)
    | go_in)
   go_roundw
   case rel=>exact ⟨q + 1,_,by go_num,hqn,by rw [NXH.out];exact X3⟩
   case measure=>simp [intOf];omega
  ·have hqi:¬ (q:Int) < (n:Int):=by omega
   have hqn':q=n:=by omega
   subst hqn'
   go_wp2
   go_ret
   exact ⟨rfl,us,X.out⟩
end Go.Proofs.YtcipdampcmfmaaaGreat

namespace Go.Proofs.YtcipdampcmfmaaaGreat
open Go.RowKit Go.Maps
set_option maxRecDepth 100000
set_option maxHeartbeats 4000000
theorem own_arr {w:World} {B:Nat} {v:Value} {l:List Int} (h:Own w B v l) (h0:1<=l.length):∃ g cap,v=.slice (some ⟨g,0,none⟩) l.length cap/\B<=g/\Rn.Arr w g l.length cap (fun t=>l[t]!):=by
 rcases h.2 with ⟨rfl,h1⟩ | ⟨g,cap,cur,rfl,h1,h2,h3,h4,h5,h6⟩
 ·omega
 ·refine ⟨g,cap,rfl,h1,cur,h2,by omega,h3,fun i hi=>?_⟩
  rw [Nat.mul_one] at h6
  have h7:(cur.toList.take l.length)[i]? = some (.int .i64 l[i]!):=by
   rw [h6,List.getElem?_map,List.getElem?_eq_getElem hi,getElem!_pos l i hi];rfl
  rw [List.getElem?_take_of_lt hi] at h7
  rwa [Array.getElem?_toList] at h7
structure Cen (B:Nat) (W:World) (cb:Nat) (gs cp:Nat->Nat) (k d:Nat) (f:Nat->Nat->Int):Prop where
 row:W.rowIs cb 41 k (fun i=>.slice (some ⟨gs i,0,none⟩) d (cp i))
 arr:∀ i,i < k->Rn.Arr W (gs i) d (cp i) (f i)
 base:∀ i,i < k->B<=gs i
 hB:B<=cb
 ne:∀ i,i < k->gs i ≠ cb
 inj:∀ i j,i < k->j < k->gs i=gs j->i=j
def cenF (cs:Vs):Nat->Nat->Int:=fun i t=>cs[i]![t]!
theorem Cen.rd {B:Nat} {W:World} {cb:Nat} {gs cp:Nat->Nat} {k d:Nat} {cs:Vs} (h:Cen B W cb gs cp k d (cenF cs)) (hk:cs.length=k) (hd:∀ i,i < k->cs[i]!.length=d):RdV W (.slice (some ⟨cb,0,none⟩) k k) cs:=by
 refine ⟨some ⟨cb,0,none⟩,k,by rw [hk],fun i hi=>?_⟩
 rw [hk] at hi
 refine ⟨cb,0,_,rfl,by rw [Nat.zero_add];exact h.row.cell hi,?_⟩
 exact arr_rd (h.arr i hi) (hd i hi) (fun t _=>rfl)
theorem Cen.kp {B:Nat} {W W':World} {cb:Nat} {gs cp:Nat->Nat} {k d:Nat} {f:Nat->Nat->Int} {S:Nat->Prop} (h:Cen B W cb gs cp k d f) (g:Kp S W W') (h1:¬ S cb) (h2:∀ i,i < k->¬ S (gs i)):Cen B W' cb gs cp k d f :=
 ⟨h.row.of_block (g.block _ h.row.lt h1),fun i hi=>arr_kp (h.arr i hi) g (h2 i hi),h.base,h.hB,h.ne,h.inj⟩
theorem Cen.gb {B:Nat} {W W':World} {cb:Nat} {gs cp:Nat->Nat} {k d:Nat} {f:Nat->Nat->Int} (h:Cen B W cb gs cp k d f) (g:Gb W W'):Cen B W' cb gs cp k d f :=
 h.kp (S:=fun _=>False) (Kp.gb g) id (fun _ _=>id)
structure Dr (w W:World) (cb ob:Nat) (gs cp:Nat->Nat) (k d n q:Nat) (p:Nat->Int) (f:Nat->Nat->Int):Prop where
 row:W.rowIs cb 41 k (fun i=>if i < q then .slice (some ⟨gs i,0,none⟩) d (cp i) else .slice none 0 0)
 arr:∀ i,i < q->Rn.Arr W (gs i) d (cp i) (f i)
 base:∀ i,i < q->w.heap.size<=gs i
 hB:w.heap.size<=cb
 ne:∀ i,i < q->gs i ≠ cb
 inj:∀ i j,i < q->j < q->gs i=gs j->i=j
 ord:Rn.Arr W ob n n p
 neo:ob ≠ cb
 gb:Gb w W
theorem Dr.next {w W W2:World} {cb ob:Nat} {gs cp:Nat->Nat} {k d n q:Nat} {p:Nat->Int} {f:Nat->Nat->Int} {g cap:Nat} {x:List Int} (h:Dr w W cb ob gs cp k d n q p f) (hq:q < k) (gb2:Gb W W2)
  (hg:W.heap.size<=g) (hA:Rn.Arr W2 g d cap (fun t=>x[t]!)) (hf:∀ t,f q t=x[t]!) :
  Dr w (W2.setCell ⟨cb,q,none⟩ (.slice (some ⟨g,0,none⟩) d cap)) cb ob (fun i=>if i=q then g else gs i) (fun i=>if i=q then cap else cp i) k d n (q + 1) p f:=by
 have hcb:=h.row.lt
 have keep:∀ {b n' c':Nat} {f':Nat->Int},Rn.Arr W2 b n' c' f'->b ≠ cb->Rn.Arr (W2.setCell ⟨cb,q,none⟩ (.slice (some ⟨g,0,none⟩) d cap)) b n' c' f':=fun ha hn=>ha.other (Ne.symm hn) _
 have old:∀ {b n' c':Nat} {f':Nat->Int},Rn.Arr W b n' c' f'->Rn.Arr W2 b n' c' f':=fun ha=>arr_kp (S:=fun _=>False) ha (Kp.gb gb2) id
 have hlt:∀ i,i < q->gs i < W.heap.size:=fun i hi=>(h.arr i hi).lt
 have hs:=h.gb.size
 refine ⟨((h.row.of_block (gb2.block _ hcb)).set q _).congr (fun i hi=>?_),fun i hi=>?_,fun i hi=>?_,h.hB,fun i hi=>?_,fun i j hi hj e=>?_,keep (old h.ord) h.neo,h.neo,gb_set (gb_trans h.gb gb2) h.hB _⟩
 ·by_cases e:i=q
  ·subst e;simp
  ·simp only [if_neg e]
   by_cases e2:i < q
   ·rw [if_pos e2,if_pos (by omega)]
   ·rw [if_neg e2,if_neg (by omega)]
 ·by_cases e:i=q
  ·subst e
   simp only [if_true]
   exact keep (hA.congr (fun t _=>(hf t).symm)) (by omega)
  ·simp only [if_neg e]
   exact keep (old (h.arr i (by omega))) (h.ne i (by omega))
 ·by_cases e:i=q
  ·simp only [if_pos e];omega
  ·simp only [if_neg e];exact h.base i (by omega)
 ·by_cases e:i=q
  ·simp only [if_pos e];omega
  ·simp only [if_neg e];exact h.ne i (by omega)
 ·by_cases e1:i=q
  ·by_cases e2:j=q
   ·omega
   ·simp only [if_pos e1,if_neg e2] at e
    have:=hlt j (by omega);omega
  ·by_cases e2:j=q
   ·simp only [if_neg e1,if_pos e2] at e
    have:=hlt i (by omega);omega
   ·simp only [if_neg e1,if_neg e2] at e
    exact h.inj i j (by omega) (by omega) e
theorem drawn_c {w:World} {lv:Value} {l:Vs} {d:Nat} (hl:RdV w lv l) (hlo:VsOk l (d:Int)) (k:Nat) (hk1:1<=k) (hk:k<=l.length) (hn:l.length<=512) (x:Int) (hx:Rn.U x) :
  Calls Tryz.prog 142 #[lv,.int .i64 (k:Int),.int .u64 x] w fun e w'=>∃ cb gs cp,e=.returned (.slice (some ⟨cb,0,none⟩) k k)/\Cen w.heap.size w' cb gs cp k d (cenF (drawnV l k x))/\Gb w w':=by
 have L:Hid (RdV w lv l):=hl
 have K:Hid (VsOk l (d:Int)):=hlo
 have PE:Hid (Rn.Per l.length (Rn.pS x l.length (l.length - 1))):=Rn.per_pS x l.length (l.length - 1) (Nat.le_refl _)
 have DG:Hid (∀ i,i < k->(drawnV l k x)[i]! = l[(Rn.pS x l.length (l.length - 1) i).toNat]!):=fun i hi=>drawnV_get l x hi
 obtain ⟨al,cl,rfl,_⟩:=hl
 obtain ⟨n,hN⟩:∃ n,n=l.length:=⟨_,rfl⟩
 have N:Hid (n=l.length):=hN
 rw [<- hN] at L hk hn PE DG ⊢
 clear hlo hN
 have bB:Boxed (w.alloc (.cells #[.int .u64 x] 251)) w.heap.size 251 (.int .u64 x):=Boxed.new w _ _
 have cP:=Rn.perm_ok w.heap.size n x _ bB hx (by omega)
 rw [World.size_alloc] at cP
 go_enter Tryz.func142,Tryz.ntmps142
 go_wp2_with fail
 refine (Rn.new_c x w).mono ?_
 rintro e w1 ⟨rfl,rfl⟩
 go_wp2_with fail
 refine cP.mono ?_
 rintro e w2 ⟨rfl,hA,_,g2⟩
 clear cP bB
 have G2:Gb w w2:=below_grown (gb_alloc (Below.refl _ _) _) g2 (fun b e=>by cases e;exact Nat.le_refl _) (by rw [World.size_alloc];omega)
 have hmk:=run_make_row' (P:=Tryz.prog) 65 41 (.slice none 0 0) 24 Tryz.underlying65 Tryz.infoV rfl .i64 .i64 k (by omega) (by omega) w2
 have hlt:=hA.lt
 have D0:Dr w (w2.alloc (.cells (madeCells #[Value.slice none 0 0] k) 41)) w2.heap.size (w.heap.size + 1) (fun _=>0) (fun _=>0) k d n 0 (Rn.pS x n (n - 1)) (cenF (drawnV l k x)) :=
  ⟨(World.rowIs_made w2 _ k _).congr (fun i _=>by simp),fun i hi=>absurd hi (Nat.not_lt_zero _),fun i hi=>absurd hi (Nat.not_lt_zero _),G2.size,fun i hi=>absurd hi (Nat.not_lt_zero _),fun i j hi=>absurd hi (Nat.not_lt_zero _),hA.alloc _,by omega,gb_alloc G2 _⟩
 generalize w2.alloc (.cells (madeCells #[Value.slice none 0 0] k) 41)=W0 at *
 generalize w2.heap.size=cb at *
 generalize w.heap.size + 1=ob at *
 clear hA g2 G2 hlt
 go_wp2
 clear hmk
 go_loopw [22] (fun iv W=>∃ (q:Nat) (gs cp:Nat->Nat),iv=.int .i64 (q:Int)/\q<=k/\Hid (Dr w W cb ob gs cp k d n q (Rn.pS x n (n - 1)) (cenF (drawnV l k x)))) (fun iv _=>k - (intOf iv).toNat)
 case atStart=>exact ⟨0,_,_,rfl,Nat.zero_le _,D0⟩
 case round =>
  clear D0
  obtain ⟨q,gs,cp,rfl,hq,X⟩:=hrel
  by_cases hqn:q < k
  ·have hqi:(q:Int) < (k:Int):=by omega
   have hqn':(q:Int) < (n:Int):=by omega
   have hp:=PE.out.1 q (by omega)
   have c1:=X.out.ord.cell (i:=q) (by omega)
   obtain ⟨j,hj⟩:∃ j:Nat,Rn.pS x n (n - 1) q=(j:Int):=⟨(Rn.pS x n (n - 1) q).toNat,by omega⟩
   have DQ:=DG.out q hqn
   rw [hj] at hp c1 DQ
   rw [Int.toNat_natCast] at DQ
   have hjl:j < l.length:=by have:=N.out;omega
   have hji:(j:Int) < (n:Int):=hp.2
   obtain ⟨b1,o1,u1,ea,k1,k2⟩:=cen_at L.out hjl
   subst ea
   have g1:=X.out.gb
   have x0:=gb_keeps g1 k1
   have hd:=K.out.get hjl
   have cC:=clone_c (k2.gb g1) (by omega) hd.1
   have r0:=X.out.row.cell hqn
   have r1:=X.out.row.frozen q
   simp only [Nat.lt_irrefl,if_false] at r0
   obtain ⟨pu,cu,rfl,_⟩:=k2
   have FQ:Hid (∀ t,cenF (drawnV l k x) q t=l[j]![t]!):=fun t=>by unfold cenF;rw [DQ]
   have hdl:d=l[j]!.length:=by omega
   generalize l[j]! = y at *
   have HY:Hid (d=y.length/\1<=y.length):=⟨hdl,hd.1⟩
   rw [<- hdl] at x0 cC
   clear k1 hj DQ hd hdl hp
   go_wp2_with fail
   refine cC.mono ?_
   rintro e w4 ⟨v',rfl,ho,g4⟩
   obtain ⟨g,cap,ev,hg,hA4⟩:=own_arr ho HY.out.2
   rw [<- HY.out.1] at ev hA4
   subst ev
   have X2:=X.out.next hqn g4 hg hA4 FQ.out
   have r2:=gb_keeps g4 r0
   have r3:w4.frozen? ⟨cb,q,none⟩=false:=(World.frozen?_of_block (g4.block cb X.out.row.lt)).trans r1
   clear cC ho X g4 hg hA4 r0 r1 g1 x0 c1
   go_wp2
   go_roundw
   case rel=>exact ⟨q + 1,_,_,by go_num,hqn,X2⟩
   case measure=>simp [intOf];omega
  ·have hqi:¬ (q:Int) < (k:Int):=by omega
   have hqk:q=k:=by omega
   subst hqk
   have X':=X.out
   clear X
   go_wp2
   go_ret
   exact ⟨cb,rfl,⟨gs,cp,⟨X'.row.congr (fun i hi=>by rw [if_pos hi]),X'.arr,X'.base,X'.hB,X'.ne,X'.inj⟩⟩,X'.gb⟩
end Go.Proofs.YtcipdampcmfmaaaGreat
