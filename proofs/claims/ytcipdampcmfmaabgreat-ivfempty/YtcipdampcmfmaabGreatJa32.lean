import Derived.Test.YtcipdampcmfmaabGreatJa20
import Derived.Test.YtcipdampcmfmaabGreatJa4
import Derived.Test.YtcipdampcmfmaabGreatJa29
import Derived.Test.YtcipdampcmfmaabGreatJa31
import Derived.Test.YtcipdampcmfmaabGreatJa23
import Derived.Test.YtcipdampcmfmaabGreatJa28
namespace Go.Proofs.YtcipdampcmfmaabGreat
open Go.RowKit Go.Sort
set_option maxRecDepth 100000
set_option maxHeartbeats 4000000
theorem cmpw_any (ah al bh bl:Int) (w:World):Calls Tryz.prog 54 #[.agg #[.int .u64 ah,.int .u64 al],.agg #[.int .u64 bh,.int .u64 bl]] w fun e w'=>∃ z:Int,e=.returned (.int .i64 z)/\(z < 0 ↔ ah < bh ∨ (ah=bh/\al < bl))/\Tk.Gw w w':=by
 rcases Int.lt_trichotomy ah bh with h | rfl | h
 ·have h1:(ah == bh)=false:=by rw [beq_eq_false_iff_ne];omega
  go_enter Tryz.func54,Tryz.ntmps54
  go_wp2
  go_ret
  exact ⟨-1,rfl,by first | omega | (simp;done) | (simp;omega) | (simp [h];done),((Tk.Gw.refl _).alloc _).alloc _⟩
 ·rcases Int.lt_trichotomy al bl with h | rfl | h
  ·have h1:(al == bl)=false:=by rw [beq_eq_false_iff_ne];omega
   go_enter Tryz.func54,Tryz.ntmps54
   go_wp2
   go_ret
   exact ⟨-1,rfl,by first | omega | (simp;done) | (simp;omega) | (simp [h];done),((Tk.Gw.refl _).alloc _).alloc _⟩
  ·skip
   go_enter Tryz.func54,Tryz.ntmps54
   go_wp2
   go_ret
   exact ⟨0,rfl,by first | omega | (simp;done) | (simp;omega) | (simp [h];done),((Tk.Gw.refl _).alloc _).alloc _⟩
  ·have h1:(al == bl)=false:=by rw [beq_eq_false_iff_ne];omega
   go_enter Tryz.func54,Tryz.ntmps54
   go_wp2
   go_ret
   exact ⟨1,rfl,by first | omega | (simp;done) | (simp;omega) | (simp [h];done),((Tk.Gw.refl _).alloc _).alloc _⟩
 ·have h1:(ah == bh)=false:=by rw [beq_eq_false_iff_ne];omega
  go_enter Tryz.func54,Tryz.ntmps54
  go_wp2
  go_ret
  exact ⟨1,rfl,by first | omega | (simp;done) | (simp;omega) | (simp [h];done),((Tk.Gw.refl _).alloc _).alloc _⟩
def FarA (w:World) (bf fb:Nat) (n:Nat) (hiF loF:Nat->Int):Prop:=(∃ cap,w.cell? ⟨bf,0,none⟩=some (.slice (some ⟨fb,0,none⟩) n cap))/\∀ i,i < n->w.cell? ⟨fb,i * 2,none⟩=some (.int .u64 (hiF i))/\w.cell? ⟨fb,i * 2 + 1,none⟩=some (.int .u64 (loF i))
theorem outward1_c {W:World} {bf fb n x y:Nat} {hiF loF:Nat->Int} (h:FarA W bf fb n hiF loF) (hx:x < n) (hy:y < n) :
  Calls Tryz.prog 53 #[.int .i64 (x:Int),.int .i64 (y:Int),.pointer (some ⟨bf,0,none⟩)] W fun e w'=>∃ z:Int,e=.returned (.int .i64 z)/\(z < 0 ↔ hiF x < hiF y ∨ (hiF x=hiF y/\loF x < loF y))/\Tk.Gw W w':=by
 obtain ⟨⟨cap,c1⟩,hF⟩:=h
 obtain ⟨c2,c3⟩:=hF x hx
 obtain ⟨c4,c5⟩:=hF y hy
 have hxi:(x:Int) < (n:Int):=by omega
 have hyi:(y:Int) < (n:Int):=by omega
 generalize hiF x=xh at *
 generalize loF x=xl at *
 generalize hiF y=yh at *
 generalize loF y=yl at *
 clear hF
 go_enter Tryz.func53,Tryz.ntmps53
 go_wp2
 refine wp_region_held_drew (S:=fun W2=>Tk.Gw W W2) (by kernel_rfl) ((Tk.Gw.refl W).drew) (fun hHeld=>?_)
 refine tkn 0 ?_ rfl ?_ ?_;rotate_left;·(intro w hSw;(have s1:=gwk hSw c1;have s2:=gwk hSw c2;have s3:=gwk hSw c3;have s4:=gwk hSw c4;have s5:=gwk hSw c5);go_simp;try rfl)
 try simp only [pt]
 refine tkn 1 ?_ rfl ?_ ?_;rotate_left;·(intro w hSw;(have s1:=gwk hSw c1;have s2:=gwk hSw c2;have s3:=gwk hSw c3;have s4:=gwk hSw c4;have s5:=gwk hSw c5);go_simp;try rfl)
 try simp only [pt]
 refine tkn 2 ?_ rfl ?_ ?_;rotate_left;·(intro w hSw;(have s1:=gwk hSw c1;have s2:=gwk hSw c2;have s3:=gwk hSw c3;have s4:=gwk hSw c4;have s5:=gwk hSw c5);go_simp;try rfl)
 try simp only [pt]
 refine tkn 3 ?_ rfl ?_ ?_;rotate_left;·(intro w hSw;(have s1:=gwk hSw c1;have s2:=gwk hSw c2;have s3:=gwk hSw c3;have s4:=gwk hSw c4;have s5:=gwk hSw c5);go_simp;try rfl)
 try simp only [pt]
 refine tkn 4 ?_ rfl ?_ ?_;rotate_left;·(intro w hSw;(have s1:=gwk hSw c1;have s2:=gwk hSw c2;have s3:=gwk hSw c3;have s4:=gwk hSw c4;have s5:=gwk hSw c5);go_simp;try rfl)
 try simp only [pt]
 refine tkn 5 ?_ rfl ?_ ?_;rotate_left;·(intro w hSw;(have s1:=gwk hSw c1;have s2:=gwk hSw c2;have s3:=gwk hSw c3;have s4:=gwk hSw c4;have s5:=gwk hSw c5);go_simp;try rfl)
 try simp only [pt]
 refine tkn 6 ?_ rfl ?_ ?_;rotate_left;·(intro w hSw;(have s1:=gwk hSw c1;have s2:=gwk hSw c2;have s3:=gwk hSw c3;have s4:=gwk hSw c4;have s5:=gwk hSw c5);go_simp;try rfl)
 try simp only [pt]
 refine tkn 7 ?_ rfl ?_ ?_;rotate_left;·(intro w hSw;(have s1:=gwk hSw c1;have s2:=gwk hSw c2;have s3:=gwk hSw c3;have s4:=gwk hSw c4;have s5:=gwk hSw c5);go_simp;try rfl)
 try simp only [pt]
 refine rdn 8 rfl (fun K hK=>?_)
 go_simp
 refine (cmpw_any _ _ _ _ _).mono ?_
 rintro e wa ⟨z,rfl,hz,ga⟩
 refine hK.out _ _ (hHeld.trans ga) (fun hHeld=>?_)
 clear hK K
 try simp only [pt]
 refine tkn 9 ?_ rfl ?_ ?_;rotate_left;·(intro w hSw;(have s1:=gwk hSw c1;have s2:=gwk hSw c2;have s3:=gwk hSw c3;have s4:=gwk hSw c4;have s5:=gwk hSw c5);go_simp;try rfl)
 try simp only [pt]
 refine wpAnyH_done (by kernel_rfl) ?_ _
 go_wp2
 go_ret
 exact ⟨z,rfl,hz,hHeld⟩
end Go.Proofs.YtcipdampcmfmaabGreat

namespace Go.Proofs.YtcipdampcmfmaabGreat
open Go.RowKit Go.Sort Go.Maps
def KeepO (w w':World) (lb p:Nat) (ks:List Int) (f:Int->Value) (c:List Int) (R:List Rw) (sl:Value):Prop :=
 (R=[]/\MapA Tryz.prog 3 w' lb (ks.erase p) f/\w.mapTurned w' lb) ∨
 (R ≠ []/\∃ w1 W vl vh vi,OutR w w1 (ballR c R) vl vh vi/\Gb w1 W/\MapA Tryz.prog 3 w' lb (putK ks p) (putF f p (lv (ballR c R) vl vh vi sl))/\W.mapTurned w' lb)
theorem keep_any {w:World} {tb lb p n cap:Nat} {a:Option Addr} {ks:List Int} {f:Int->Value} {u:Value} {cs:Vs} {rs:List Rw} (hc:w.cell? ⟨tb,1,none⟩=some u) (hu:RdV w u cs) (hp:w.cell? ⟨tb,2,none⟩=some (.map (some lb))) (hm:MapA Tryz.prog 3 w lb ks f) (hk:ks.length < 1000000) (hpl:p < cs.length) (hcl:cs.length<=100000)
  (h:RdW w (.slice a n cap) rs) (hn2:n<=4000) (hwf:∀ i,i < rs.length->(Lit.int .i64 rs[i]!.1).wf=true) :
  Calls Tryz.prog 60 #[.pointer (some ⟨tb,0,none⟩),.int .i64 (p:Int),.slice a n cap] w fun e w'=>e=.returned (.tuple #[])/\KeepO w w' lb p ks f cs[p]! rs (.slice a n cap):=by
 have hln:rs.length=n:=by
  obtain ⟨a',c',e,_⟩:=h
  injection e with _ e _
  exact e.symm
 by_cases h0:n=0
 ·subst h0
  refine (keep_none hp hm ⟨by omega,by omega⟩).mono ?_
  rintro e w' ⟨rfl,h1,h2⟩
  exact ⟨rfl,.inl ⟨List.length_eq_zero_iff.1 hln,h1,h2⟩⟩
 ·refine (keep_c hc hu hp hm hk hpl hcl h (by omega) hn2 (by omega) hwf).mono ?_
  rintro e w' ⟨rfl,h1⟩
  exact ⟨rfl,.inr ⟨fun e=>by rw [e] at hln;simp at hln;omega,h1⟩⟩
theorem KeepO.kp {w w':World} {lb p:Nat} {ks:List Int} {f:Int->Value} {c:List Int} {R:List Rw} {sl:Value} (h:KeepO w w' lb p ks f c R sl):Tk.Kp (fun k=>k=lb) w w':=by
 rcases h with ⟨_,_,t⟩ | ⟨_,w1,W,vl,vh,vi,o,g,_,t⟩
 ·exact (turned_of t).2.2
 ·have g2:=gb_trans o.1 g
  have k1:Tk.Kp (fun k=>k=lb) w W:=⟨g2.os,g2.tape,g2.output,g2.size,fun k hk _=>g2.block k hk⟩
  exact k1.trans (turned_of t).2.2
def PcO (w w':World) (here:Prop) (a b:Loc):Prop:=(here/\b=a/\Tn w w' a.1 a.2.1 (a.2.2 * 2)) ∨ (w.heap.size<=b.1/\Gb w w')
theorem PcR.ne_map {w:World} {g o n cap b:Nat} {xs:List Value} {ks:List Int} {f:Int->Value} (h:PcR w g o n cap xs) (m:MapA Tryz.prog 3 w b ks f):g ≠ b:=by
 rintro rfl
 obtain ⟨cur,e,_⟩:=h
 obtain ⟨es,cl,e'⟩:=m.isMap
 rw [e] at e';simp at e'
theorem one_fin {Iq:Nat->Prop} {w w1 w2 w3 w4 w5:World} {tb m:Nat} {C:Vs} {rs rs':List Rw} {gc cc lb pb:Nat} {ks pk pk':List Int} {f:Int->Value} {pf pf':Int->Int} {G:Int->Loc} (h:TreeO Iq w tb m C rs gc cc lb pb ks pk f pf G) {p:Nat} {G1:Loc} {d':List Rt}
  (g1:Gb w w1) (ch:PcO w1 w2 ((p:Int) ∈ ks) (G p) G1) (pc:PcR w2 G1.1 G1.2.1 d'.length G1.2.2 (d'.flatMap encR)) (hd:d'.map rwR=listR C rs' p) (hv:∀ x ∈ d',OwnQ Iq w2 x.2.1 x.2.2)
  (kp:KeepO w2 w3 lb p ks f C[p]! (listR C rs' p) (.slice (some ⟨G1.1,G1.2.1,none⟩) d'.length G1.2.2)) (g4:Gb w3 w4) (mp:MapA Tryz.prog 3 w5 pb pk' (fun x=>.int .i64 (pf' x))) (t5:w4.mapTurned w5 pb)
  (same:∀ x:Nat,x ≠ p->listR C rs' x=listR C rs x) (pkk:∀ x,x ∈ pk' ↔ x ∈ idsOf rs') (pfv:∀ r ∈ rs',pf' r.1=((nearP C r.2).1:Int)) (ris:Ris rs') (rok:RowsOk rs' (m:Int)) :
  TOut Iq w tb m C (blks tb gc lb pb ks G) rs' w5:=by
 have hpc:(p:Int) ∈ ks->∃ n xs,PcR w (G p).1 (G p).2.1 n (G p).2.2 xs:=fun hp=>by
  obtain ⟨d,vl,vh,vi,a⟩:=h.ls.at_ _ hp
  exact ⟨_,_,a.pc⟩
 have k2:Tk.Kp (fun b=>(p:Int) ∈ ks/\b=(G p).1) w w2:=by
  rcases ch with ⟨hp,e,t,_⟩ | ⟨_,g⟩
  ·exact (kpF g1 |>.mono (fun _ _ h=>h.elim)).trans (t.mono (fun k _ e=>⟨hp,e⟩))
  ·exact (kpF (gb_trans g1 g)).mono (fun _ _ h=>h.elim)
 have eL:w2.heap[lb]? = w.heap[lb]? := k2.block _ h.lst.lt (fun ⟨hp,e⟩=>by
  obtain ⟨n,xs,c⟩:=hpc hp
  exact c.ne_map h.lst e.symm)
 have eP:w2.heap[pb]? = w.heap[pb]? := k2.block _ h.plc.lt (fun ⟨hp,e⟩=>by
  obtain ⟨n,xs,c⟩:=hpc hp
  exact c.ne_map h.plc e.symm)
 have eT:w2.heap[tb]? = w.heap[tb]? := k2.block _ (Array.getElem?_eq_some_iff.1 h.blk).1 (fun ⟨hp,e⟩=>by
  obtain ⟨n,xs,cur,c,_⟩:=hpc hp
  rw [<- e,h.blk] at c;simp at c)
 obtain ⟨ccur,hcc,_⟩:=h.cen.blk
 have eC:w2.heap[gc]? = w.heap[gc]? := k2.block _ (Array.getElem?_eq_some_iff.1 hcc).1 (fun ⟨hp,e⟩=>by
  obtain ⟨n,xs,cur,c,_⟩:=hpc hp
  rw [<- e,hcc] at c;simp at c)
 have mL:=h.lst.same eL
 have mP:=h.plc.same eP
 have kk5:Tk.Kp (fun k=>k=lb ∨ k=pb) w2 w5:=((kp.kp.mono (fun k _ e=>.inl e)).trans ((kpF g4).mono (fun _ _ h=>h.elim))).trans ((turned_of t5).2.2.mono (fun k _ e=>.inr e))
 have no5:NoInt w2 (fun k=>k=lb ∨ k=pb):=by
  rintro k (rfl | rfl) cur s e
  ·obtain ⟨es,cl,e'⟩:=mL.isMap
   rw [e] at e';simp at e'
  ·obtain ⟨es,cl,e'⟩:=mP.isMap
   rw [e] at e';simp at e'
 have k5:Tk.Kp (fun b=>b ∈ blks tb gc lb pb ks G) w w5:=by
  refine (k2.mono (fun k _ e=>?_)).trans (kk5.mono (fun k _ e=>?_))
  ·simp only [blks,List.mem_cons,List.mem_map]
   exact .inr (.inr (.inr (.inr ⟨p,e.1,e.2.symm⟩)))
  ·rcases e with rfl | rfl <;> simp [blks]
 have t5':=turned_of t5
 have eT5:w5.heap[tb]? = w.heap[tb]? := by
  rw [kk5.block _ (Nat.lt_of_lt_of_le (Array.getElem?_eq_some_iff.1 h.blk).1 k2.size) (fun e=>?_)]
  ·exact eT
  ·rcases e with rfl | rfl
   ·obtain ⟨es,cl,e'⟩:=h.lst.isMap
    rw [h.blk] at e';simp at e'
   ·obtain ⟨es,cl,e'⟩:=h.plc.isMap
    rw [h.blk] at e';simp at e'
 have eC5:w5.heap[gc]? = w.heap[gc]? := by
  rw [kk5.block _ (Nat.lt_of_lt_of_le (Array.getElem?_eq_some_iff.1 hcc).1 k2.size) (fun e=>?_)]
  ·exact eC
  ·rcases e with rfl | rfl
   ·obtain ⟨es,cl,e'⟩:=h.lst.isMap
    rw [hcc] at e';simp at e'
   ·obtain ⟨es,cl,e'⟩:=h.plc.isMap
    rw [hcc] at e';simp at e'
 have pc25:∀ {g o n cap:Nat} {xs:List Value},PcR w2 g o n cap xs->PcR w5 g o n cap xs:=fun c=>c.blk (kk5.block _ c.lt (fun e=>by
  rcases e with e | e
  ·exact c.ne_map mL e
  ·exact c.ne_map mP e))
 obtain ⟨_,_,hnd,_⟩:=h.lst
 have pcs:∀ x ∈ ks,x ≠ (p:Int)->∀ n xs,PcR w (G x).1 (G x).2.1 n (G x).2.2 xs->PcR w5 (G x).1 (G x).2.1 n (G x).2.2 xs:=fun x hx hne n xs c=>by
  have c1:=c.blk (g1.block _ c.lt)
  refine pc25 ?_
  rcases ch with ⟨hp,e,t⟩ | ⟨_,g⟩
  ·by_cases eg:(G x).1=(G p).1
   ·rcases h.ls.apart x hx p hp hne with a | a | a
    ·exact absurd eg a
    ·rw [eg] at c1 ⊢
     exact c1.apart t (.inl a)
    ·rw [eg] at c1 ⊢
     exact c1.apart t (.inr a)
   ·exact c1.blk (t.1.block _ c1.lt eg)
  ·exact c1.blk (g.block _ c1.lt)
 have apt:∀ x ∈ ks,x ≠ (p:Int)->Apart G1 (G x):=fun x hx hne=>by
  rcases ch with ⟨hp,e,t⟩ | ⟨hB,g⟩
  ·rw [e]
   exact h.ls.apart p hp x hx (fun e=>hne e.symm)
  ·obtain ⟨d,vl,vh,vi,a⟩:=h.ls.at_ _ hx
   have:=a.pc.lt
   have:=g1.size
   exact .inl (by omega)
 have gnew:((p:Int) ∈ ks/\G1.1=(G p).1) ∨ w.heap.size<=G1.1:=by
  rcases ch with ⟨hp,e,_⟩ | ⟨hB,_⟩
  ·exact .inl ⟨hp,by rw [e]⟩
  ·have:=g1.size
   exact .inr (by omega)
 rcases kp with ⟨hR,mk,t3⟩ | ⟨hR,v1,V,vl,vh,vi,o,gV,mk,t3⟩
 ·have hkeys:∀ x:Int,x ∈ ks.erase (p:Int) ↔ 0<=x/\listR C rs' x.toNat ≠ []:=fun x=>by
   rw [hnd.mem_erase_iff,h.ls.keys x]
   by_cases e:x=(p:Int)
   ·subst e
    simp [hR]
   ·constructor
    ·rintro ⟨_,h1,h2⟩
     exact ⟨h1,by rw [same x.toNat (by omega)];exact h2⟩
    ·rintro ⟨h1,h2⟩
     exact ⟨e,h1,by rw [<- same x.toNat (by omega)];exact h2⟩
  have hnp:(p:Int) ∉ ks.erase (p:Int):=fun hm=>(hkeys _).1 hm |>.2 (by simpa using hR)
  refine h.chg (p:=p) (G':=G) (f':=f) k5 eT5 eC5 (mk.same ?_) mp (fun x hx hne=>⟨rfl,rfl,pcs x hx hne⟩) hkeys same (fun hm=>absurd hm hnp) (fun hm=>absurd hm hnp) (fun hm=>absurd hm hnp) pkk pfv ris rok
  rw [t5'.2.1 _ h.ne,g4.block _ mk.lt]
 ·have hkeys:∀ x:Int,x ∈ putK ks (p:Int) ↔ 0<=x/\listR C rs' x.toNat ≠ []:=fun x=>by
   rw [mem_putK,h.ls.keys x]
   by_cases e:x=(p:Int)
   ·subst e
    simp [hR]
   ·constructor
    ·rintro (e' | ⟨h1,h2⟩)
     ·exact absurd e' e
     ·exact ⟨h1,by rw [same x.toNat (by omega)];exact h2⟩
    ·rintro ⟨h1,h2⟩
     exact .inr ⟨h1,by rw [<- same x.toNat (by omega)];exact h2⟩
  have upw2:Up Iq w2:=h.up.le k2.size
  have kv5:Tk.Kp (fun k=>k=lb ∨ k=pb) v1 w5:=((((kpF gV).mono (fun _ _ h=>h.elim)).trans ((turned_of t3).2.2.mono (fun k _ e=>.inl e))).trans ((kpF g4).mono (fun _ _ h=>h.elim))).trans (t5'.2.2.mono (fun k _ e=>.inr e))
  have nov:NoInt v1 (fun k=>k=lb ∨ k=pb):=by
   have mL':=mL.same (o.1.block _ mL.lt)
   have mP':=mP.same (o.1.block _ mP.lt)
   rintro k (rfl | rfl) cur s e
   ·obtain ⟨es,cl,e'⟩:=mL'.isMap
    rw [e] at e';simp at e'
   ·obtain ⟨es,cl,e'⟩:=mP'.isMap
    rw [e] at e';simp at e'
  have q1:OwnQ Iq w5 vl (ballR C[p]! (listR C rs' p)).L:=ownq_noint (OwnQ.new o.2.1 upw2 (Nat.le_refl _)) kv5 nov
  have q2:OwnQ Iq w5 vh (ballR C[p]! (listR C rs' p)).H:=ownq_noint (OwnQ.new o.2.2.1 upw2 (Nat.le_refl _)) kv5 nov
  have q3:OwnQ Iq w5 vi (ballR C[p]! (listR C rs' p)).I:=ownq_noint (OwnQ.new o.2.2.2.1 upw2 (Nat.le_refl _)) kv5 nov
  refine h.chg (p:=p) (G':=fun x=>if x=(p:Int) then G1 else G x) (f':=putF f p (lv (ballR C[p]! (listR C rs' p)) vl vh vi (.slice (some ⟨G1.1,G1.2.1,none⟩) d'.length G1.2.2))) k5 eT5 eC5 (mk.same ?_) mp (fun x hx hne=>⟨if_neg hne,if_neg hne,pcs x hx hne⟩) hkeys same (fun _=>⟨d',vl,vh,vi,?_⟩) (fun _ x hx hne=>?_) (fun _=>?_) pkk pfv ris rok
  ·rw [t5'.2.1 _ h.ne,g4.block _ mk.lt]
  ·refine ⟨?_,hd,?_,fun x hx=>ownq_noint (hv x hx) kk5 no5,q1,q2,q3⟩
   ·simp [putF]
   ·simpa using pc25 pc
  ·simpa using apt x hx hne
  ·simpa using gnew
end Go.Proofs.YtcipdampcmfmaabGreat

namespace Go.Proofs.YtcipdampcmfmaabGreat
open Go.RowKit Go.Sort Go.Maps
set_option maxRecDepth 100000
set_option maxHeartbeats 4000000
theorem oneCell_own {Iq:Nat->Prop} {w:World} {v:Value} {l:List Int} (h:OwnQ Iq w v l):v.oneCell'=true:=by
 obtain ⟨a,c,rfl,_⟩:=h.rd
 rfl
theorem wf_ok {rs:List Rw} {d:Int} (h:RowsOk rs d):∀ i,i < rs.length->(Lit.int .i64 rs[i]!.1).wf=true:=fun i hi=>by
 have h1:=(okId_iff _).1 (h.row rs[i]! (by rw [getElem!_pos rs i hi];exact List.getElem_mem hi)).1
 exact KWf.wf ⟨by omega,by omega⟩
theorem zeroInt (w:World):(zeroValue 3).run Tryz.prog w=.ok (.int .i64 0) w:=by go_simp
abbrev zL:Value:=.agg #[.int .i64 0,.slice none 0 0,.slice none 0 0,.int .u64 0,.int .u64 0,.slice none 0 0,.slice none 0 0]
theorem zeroList (w:World):(zeroValue 100).run Tryz.prog w=.ok zL w:=by kernel_rfl
theorem fld_rows (a b c d e f g:Value) (w:World):(Instr.field 100 (.agg #[a,b,c,d,e,f,g]) 1).run Tryz.prog w=.ok g w:=by
 simp [Instr.field,run_underlying Tryz.underlying100,asAgg,part]
theorem Tn.kp {w w':World} {g o l:Nat} (h:Tn w w' g o l):Tk.Kp (fun b=>b=g) w w':=h.1
theorem nE {cs:Vs} {d:Int} (h:VsOk cs d) (h0:1<=cs.length) (h64:cs.length<=64) {x:List Int} (hx:chk x d=0):nearE cs x=0:=by
 have h1:=h.get (i:=0) (by omega)
 unfold nearE
 rw [if_pos (cenE_zero.2 ⟨⟨h0,h64⟩,by rw [<- h1.2.2.1];exact h⟩),<- h1.2.2.1]
 exact hx
theorem remove_no {Iq:Nat->Prop} {w:World} {tb m:Nat} {C:Vs} {rs:List Rw} {F:List Nat} (h:TreeAt Iq w tb m C rs F) (id:Int) (hid:KWf id) (hh:hasId rs id=false) :
  Calls Tryz.prog 35 #[.pointer (some ⟨tb,0,none⟩),.int .i64 id] w fun e w'=>e=.returned (.bool false)/\w'=w:=by
 obtain ⟨gc,cc,lb,pb,ks,pk,f,pf,G,o,rfl⟩:=h.opn
 obtain ⟨_,_,_,c3⟩:=o.cells
 have hnp:id ∉ pk:=fun e=>by
  obtain ⟨r,hr,e⟩:=List.mem_map.1 ((o.pkk id).1 e)
  have:hasId rs id=true:=by unfold hasId;rw [List.any_eq_true];exact ⟨r,hr,by simp [e]⟩
  rw [hh] at this;cases this
 have lk:=o.plc.look_ok (t:=72) Tryz.underlying3 Tryz.underlying72 (zeroInt w) hid
 rw [if_neg hnp,decide_eq_false hnp] at lk
 clear o hh h hnp hid
 go_enter Tryz.func35,Tryz.ntmps35
 go_wp2
 go_ret
 exact ⟨rfl,rfl⟩
theorem remove_yes {Iq:Nat->Prop} {w:World} {tb m:Nat} {C:Vs} {rs:List Rw} {F:List Nat} (h:TreeAt Iq w tb m C rs F) (id:Int) (hid:KWf id) (hh:hasId rs id=true) :
  Calls Tryz.prog 35 #[.pointer (some ⟨tb,0,none⟩),.int .i64 id] w fun e w'=>e=.returned (.bool true)/\TOut Iq w tb m C F (delRw rs id) w':=by
 obtain ⟨gc,cc,lb,pb,ks,pk,f,pf,G,o,rfl⟩:=h.opn
 obtain ⟨c0,c1,c2,c3⟩:=o.cells
 obtain ⟨r,hr,hri⟩:∃ r ∈ rs,r.1=id:=by
  unfold hasId at hh
  rw [List.any_eq_true] at hh
  obtain ⟨r,hr,e⟩:=hh
  exact ⟨r,hr,by simpa using e⟩
 obtain ⟨p,hp⟩:∃ p,p=(nearP C r.2).1:=⟨_,rfl⟩
 have hpk:id ∈ pk:=(o.pkk id).2 (List.mem_map.2 ⟨r,hr,hri⟩)
 have hpf:pf id=(p:Int):=by rw [<- hri,o.pfv r hr,hp]
 have hrl:r ∈ listR C rs p:=mem_listR.2 ⟨hr,hp.symm⟩
 have hks:(p:Int) ∈ ks:=(o.ls.keys _).2 ⟨by omega,by simp only [Int.toNat_natCast];exact List.ne_nil_of_mem hrl⟩
 have hpl:p < C.length:=by rw [hp];exact nearP_lt o.cok.2.1 _
 obtain ⟨d,vl,vh,vi,a⟩:=o.ls.at_ _ hks
 simp only [Int.toNat_natCast] at a
 obtain ⟨R,eR⟩:∃ R,R=listR C rs p:=⟨_,rfl⟩
 rw [<- eR] at a hrl
 have hris:Ris R:=by rw [eR];exact listR_ris p o.ris
 have hRok:RowsOk R (m:Int):=by rw [eR];exact o.rok.sub (listR_sub C rs p)
 have hdl:d.length=R.length:=by rw [<- a.rows,List.length_map]
 have hfew:=hRok.few
 have hone:∀ x ∈ d,x.2.1.oneCell'=true:=fun x hx=>oneCell_own (a.vec x hx)
 have h1c:∀ v ∈ d.flatMap encR,v.oneCell'=true:=fun v hv=>by
  obtain ⟨x,hx,hv⟩:=List.mem_flatMap.1 hv
  simp only [encR,List.mem_cons,List.not_mem_nil,or_false] at hv
  rcases hv with rfl | rfl
  ·rfl
  ·exact hone x hx
 obtain ⟨hi,hie⟩:=plc_has (id:=id) hris (by unfold hasId;rw [List.any_eq_true];exact ⟨r,hrl,by simp [hri]⟩)
 have lk:=o.plc.look_ok (t:=72) Tryz.underlying3 Tryz.underlying72 (zeroInt w) hid
 rw [if_pos hpk,decide_eq_true hpk,hpf] at lk
 have ll:=o.lst.look (t:=71) Tryz.underlying3 Tryz.underlying71 (zeroList w) (x:=(p:Int)) ⟨by omega,by have:=o.cok.2.2;omega⟩
 rw [if_pos hks,a.val] at ll
 have cA:=among_c (cap:=(G p).2.2) a.pc.rd hone (by omega) id (by rw [a.rows];exact hris)
 rw [a.rows] at cA
 obtain ⟨i,ei⟩:∃ i,i=plc R id:=⟨_,rfl⟩
 rw [<- ei] at cA
 have hi':i < d.length:=by omega
 have hie':∃ hq:i < R.length,R[i].1=id:=⟨by omega,by simp only [ei];exact hie⟩
 obtain ⟨hq,hiq⟩:=hie'
 have DP:Hid (∀ w1,Gb w w1->Calls Tryz.prog 61 #[.slice (some ⟨(G p).1,(G p).2.1,none⟩) d.length (G p).2.2,.int .i64 (i:Int),.int .i64 ((i:Int) + 1)] w1 fun e w'=>e=.returned (.slice (some ⟨(G p).1,(G p).2.1,none⟩) (d.length - 1) (G p).2.2)/\PcR w' (G p).1 (G p).2.1 (d.length - 1) (G p).2.2 ((d.take i ++ d.drop (i + 1)).flatMap encR)/\Tn w1 w' (G p).1 (G p).2.1 ((G p).2.2 * 2)):=fun w1 g=>by
  have:=delP_c (i:=i) (a.pc.blk (g.block _ a.pc.lt)) hi' (by omega) h1c
  rw [flat_takeR,flat_dropR,<- List.flatMap_append,show ((i + 1:Nat):Int)=(i:Int) + 1 by omega] at this
  exact this
 have hdd:(d.take i ++ d.drop (i + 1)).map rwR=delRw R id:=by
  rw [List.map_append,List.map_take,List.map_drop,a.rows]
  exact del_at hris hq hiq
 have hdl2:(d.take i ++ d.drop (i + 1)).length=d.length - 1:=by rw [List.length_append,List.length_take,List.length_drop];omega
 have hdel:listR C (delRw rs id) p=delRw R id:=by rw [listR_del,<- eR]
 have hvd:∀ x ∈ d.take i ++ d.drop (i + 1),x ∈ d:=fun x hx=>by
  rcases List.mem_append.1 hx with hx | hx
  ·exact List.mem_of_mem_take hx
  ·exact List.mem_of_mem_drop hx
 have KP:Hid (∀ w1 w2,Gb w w1->PcR w2 (G p).1 (G p).2.1 (d.length - 1) (G p).2.2 ((d.take i ++ d.drop (i + 1)).flatMap encR)->Tn w1 w2 (G p).1 (G p).2.1 ((G p).2.2 * 2) ->
   Calls Tryz.prog 60 #[.pointer (some ⟨tb,0,none⟩),.int .i64 (p:Int),.slice (some ⟨(G p).1,(G p).2.1,none⟩) (d.length - 1) (G p).2.2] w2 fun e w3=>e=.returned (.tuple #[])/\KeepO w2 w3 lb p ks f C[p]! (delRw R id) (.slice (some ⟨(G p).1,(G p).2.1,none⟩) (d.length - 1) (G p).2.2) /\
    w3.cell? ⟨tb,3,none⟩=some (.map (some pb))/\∃ w5,(Builtin.delete_ #[72,3] 0 #[.map (some pb),.int .i64 id]).run Tryz.prog w3=.ok (.tuple #[]) w5/\TOut Iq w tb m C (blks tb gc lb pb ks G) (delRw rs id) w5):=fun w1 w2 g1 pc t=>by
  have k2:Tk.Kp (fun b=>b=(G p).1) w w2:=(kpF g1 |>.mono (fun _ _ h=>h.elim)).trans t.1
  have noG:NoInt w (fun b=>b=(G p).1):=by
   rintro k rfl cur s e
   obtain ⟨cur',e',_⟩:=a.pc
   rw [e] at e';simp at e'
  have tbn:tb ≠ (G p).1:=fun e=>by
   obtain ⟨cur',e',_⟩:=a.pc
   rw [<- e,o.blk] at e';simp at e'
  have eT:w2.heap[tb]? = w.heap[tb]? := k2.block _ (Array.getElem?_eq_some_iff.1 o.blk).1 tbn
  have cc1:w2.cell? ⟨tb,1,none⟩=some (.slice (some ⟨gc,0,none⟩) C.length cc):=cell_cur (eT.trans o.blk) rfl
  have cc2:w2.cell? ⟨tb,2,none⟩=some (.map (some lb)):=cell_cur (eT.trans o.blk) rfl
  have gcn:gc ≠ (G p).1:=fun e=>by
   obtain ⟨cur',e',_⟩:=a.pc
   obtain ⟨cur,e2,_⟩:=o.cen.blk
   rw [<- e,e2] at e';simp at e'
  have cq:=o.cen.kq k2 (NoI.of noG) gcn
  have mL:=o.lst.same (k2.block _ o.lst.lt (fun e=>a.pc.ne_map o.lst e.symm))
  have mP:=o.plc.same (k2.block _ o.plc.lt (fun e=>a.pc.ne_map o.plc e.symm))
  have hv2:∀ x ∈ d.take i ++ d.drop (i + 1),OwnQ Iq w2 x.2.1 x.2.2:=fun x hx=>ownq_noint (a.vec x (hvd x hx)) k2 noG
  have rd:RdW w2 (.slice (some ⟨(G p).1,(G p).2.1,none⟩) (d.length - 1) (G p).2.2) (delRw R id):=by
   rw [<- hdd,<- hdl2]
   rw [<- hdl2] at pc
   exact RwRd.rdw' pc.rd (fun x hx=>(hv2 x hx).rd)
  refine (keep_any cc1 (cq.rd cc) cc2 mL (by have:=o.ksl;omega) hpl (by have:=o.cok.2.2;omega) rd (by omega) (wf_ok (hRok.sub List.filter_sublist))).mono ?_
  rintro e w3 ⟨rfl,ko⟩
  have k3:=ko.kp
  have tbl:tb ≠ lb:=fun e=>by
   obtain ⟨es,cl,e'⟩:=o.lst.isMap
   rw [<- e,o.blk] at e';simp at e'
  have eT3:w3.heap[tb]? = w.heap[tb]? := (k3.block _ (Nat.lt_of_lt_of_le (Array.getElem?_eq_some_iff.1 o.blk).1 k2.size) tbl).trans eT
  have mP3:=mP.same (k3.block _ mP.lt (fun e=>o.ne e.symm))
  obtain ⟨w5,hrun,m5,t5⟩:=mP3.del (t:=72) Tryz.underlying3 Tryz.underlying72 hid 0
  refine ⟨rfl,ko,cell_cur (eT3.trans o.blk) rfl,w5,hrun,?_⟩
  refine one_fin (p:=p) (G1:=G p) (d':=d.take i ++ d.drop (i + 1)) o g1 (.inl ⟨hks,rfl,t⟩) (by rw [hdl2];exact pc) (by rw [hdel];exact hdd) hv2 (by rw [hdel,hdl2];exact ko) (Below.refl _ _) m5 t5 (fun x hx=>?_) (fun x=>?_) (fun y hy=>?_) (del_ris id o.ris) (o.rok.sub List.filter_sublist)
  ·rw [listR_del]
   refine del_self fun y hy e=>?_
   have hy':=mem_listR.1 hy
   have:y=r:=by
    have hnd:=ris_nodup o.ris
    have h1:=o.rok.ids
    unfold idsOf at h1
    rw [List.pairwise_map] at h1
    exact Decidable.byContradiction fun hne=>by
     obtain ⟨i1,hi1,e1⟩:=List.getElem_of_mem hy'.1
     obtain ⟨i2,hi2,e2⟩:=List.getElem_of_mem hr
     have hp2:=List.pairwise_iff_getElem.1 h1
     rcases Nat.lt_trichotomy i1 i2 with hlt | heq | hgt
     ·exact hp2 i1 i2 hi1 hi2 hlt (by rw [e1,e2,e,hri])
     ·subst heq;exact hne (e1.symm.trans e2)
     ·exact hp2 i2 i1 hi2 hi1 hgt (by rw [e1,e2,e,hri])
   rw [this] at hy'
   exact hx (by rw [<- hy'.2,hp])
  ·obtain ⟨_,_,hnd,_⟩:=o.plc
   rw [hnd.mem_erase_iff,o.pkk x]
   unfold idsOf delRw
   constructor
   ·rintro ⟨h1,h2⟩
    obtain ⟨y,hy,rfl⟩:=List.mem_map.1 h2
    exact List.mem_map.2 ⟨y,List.mem_filter.2 ⟨hy,by simp [h1]⟩,rfl⟩
   ·intro h2
    obtain ⟨y,hy,rfl⟩:=List.mem_map.1 h2
    obtain ⟨h3,h4⟩:=List.mem_filter.1 hy
    exact ⟨by simpa using h4,List.mem_map.2 ⟨y,h3,rfl⟩⟩
  ·exact o.pfv y (List.mem_filter.1 hy).1
 have hw1:IntKind.i64.wrap ((i:Int) + 1)=(i:Int) + 1:=by rw [IntKind.wrap_i64];omega
 generalize (G p).1=g at *
 generalize (G p).2.1=off at *
 generalize (G p).2.2=cap at *
 generalize d.length=n at *
 obtain ⟨al,nl,cl,el⟩:∃ al nl cl,vl=.slice al nl cl:=by obtain ⟨x,y,e,_⟩:=a.low.rd;exact ⟨_,_,_,e⟩
 obtain ⟨ah,nh,ch,eh⟩:∃ al nl cl,vh=.slice al nl cl:=by obtain ⟨x,y,e,_⟩:=a.high.rd;exact ⟨_,_,_,e⟩
 obtain ⟨ai,ni,ci,ei'⟩:∃ al nl cl,vi=.slice al nl cl:=by obtain ⟨x,y,e,_⟩:=a.ids.rd;exact ⟨_,_,_,e⟩
 subst el eh ei'
 unfold lv at ll
 generalize ballR C[p]! R=B at *
 clear a h1c hone hdl hfew hris hRok hdd hdl2 hdel hvd hrl hks hpk hpf hie hiq hq hi hp hr hri eR ei hi' o h hh hpl
 generalize B.S=bS at *
 generalize hi B.R=bh at *
 generalize lo B.R=bl at *
 have FL:=fld_rows (.int .i64 bS) (.slice al nl cl) (.slice ah nh ch) (.int .u64 bh) (.int .u64 bl) (.slice ai ni ci) (.slice (some ⟨g,off,none⟩) n cap)
 go_enter Tryz.func35,Tryz.ntmps35
 go_wp2_with fail
 refine cA.mono ?_
 rintro e w1 ⟨rfl,g1⟩
 have G1:Hid (Gb w w1):=gw_gb g1
 have D:=DP.out w1 G1.out
 clear DP cA g1
 go_wp2_with fail
 refine D.mono ?_
 rintro e w2 ⟨rfl,pc2,t2⟩
 have K:=KP.out w1 w2 G1.out pc2 t2
 clear KP D pc2 t2
 go_wp2_with fail
 refine K.mono ?_
 rintro e w3 ⟨rfl,_,c33,w5,hrun,hT⟩
 have T5:Hid (TOut Iq w tb m C (blks tb gc lb pb ks G) (delRw rs id) w5):=hT
 clear K hT
 go_wp2
 go_ret
 exact ⟨rfl,T5.out⟩
end Go.Proofs.YtcipdampcmfmaabGreat

namespace Go.Proofs.YtcipdampcmfmaabGreat
open Go.RowKit Go.Sort
set_option maxRecDepth 100000
set_option maxHeartbeats 8000000
theorem TagR.part {c lt:El->El->Prop} {l l1:List El} {a b n:Nat} (h:TagR c lt l 0 n) (he:∀ i,a<=i->l1[i]! = l[i]!) (hb:b<=n):TagR c lt l1 a b:=fun i j h1 h2 h3=>by
 rw [he i h1,he j (by omega)]
 exact h i j (Nat.zero_le _) h2 (by omega)
theorem stableR {w:World} {g o cap bf:Nat} {l:List El} {c lt:El->El->Prop} (ht:∀ x y z,lt x y->lt y z->lt x z) (h:SRA w g o l) (hl:l.length<=4000) (hT:TagR c lt l 0 l.length) (hc:CmpR w g bf l c) :
  Calls Tryz.prog 121 #[.slice (some ⟨g,o,none⟩) l.length cap,.int .i64 (l.length:Int),.func (.func 79) #[] #[.pointer (some ⟨bf,0,none⟩)]] w fun e w'=>e=.returned (.tuple #[])/\∃ l',l'.Perm l/\Ri lt l' 0 l.length/\SRA w' g o l'/\Tk.Kp (fun k=>k=g) w w':=by
 obtain ⟨n,hn⟩:∃ n,n=l.length:=⟨_,rfl⟩
 have N:Hid (n=l.length):=hn
 have INS:Hid (∀ (W:World) (l1:List El) (a b:Nat),l1.Perm l->a<=b->b<=n->SRA W g o l1->Tk.Kp (fun k=>k=g) w W->TagR c lt l1 a b->Calls Tryz.prog 97 #[.slice (some ⟨g,o,none⟩) n cap,.int .i64 (a:Int),.int .i64 (b:Int),.func (.func 79) #[] #[.pointer (some ⟨bf,0,none⟩)]] W fun e w'=>e=.returned (.tuple #[])/\∃ l',Seg l1 l' a b/\Ri lt l' a b/\SRA w' g o l'/\Tk.Kp (fun k=>k=g) W w'):=fun W l1 a b hp h1 h2 h3 h4 h5=>by
  have q:=insR (cap:=cap) ht h3 (by rw [hp.length_eq];exact hl) h1 (by rw [hp.length_eq];omega) h5 (hc.later h4 hp)
  rw [hp.length_eq,<- hn] at q
  exact q
 have SYM:Hid (∀ (W:World) (l1:List El) (a m b:Nat),l1.Perm l->a < m->m < b->b<=n->SRA W g o l1->Tk.Kp (fun k=>k=g) w W->PreM c lt l1 a m b->Calls Tryz.prog 160 #[.slice (some ⟨g,o,none⟩) n cap,.int .i64 (a:Int),.int .i64 (m:Int),.int .i64 (b:Int),.func (.func 79) #[] #[.pointer (some ⟨bf,0,none⟩)]] W fun e w'=>e=.returned (.tuple #[])/\∃ l',Seg l1 l' a b/\Ri lt l' a b/\SRA w' g o l'/\Tk.Kp (fun k=>k=g) W w'):=fun W l1 a m b hp h1 h2 h3 h4 h5 h6=>by
  have q:=symR (cap:=cap) ht (b - a) a m b l1 W (Nat.le_refl _) h1 h2 (by rw [hp.length_eq];omega) (by rw [hp.length_eq];exact hl) h4 h6 (hc.later h5 hp)
  rw [hp.length_eq,<- hn] at q
  exact q
 have TG:Hid (TagR c lt l 0 n):=by unfold Hid;rw [hn];exact hT
 have H0:Hid (SRA w g o l):=h
 rw [<- hn] at hl ⊢
 have hnl:Hid (n<=l.length):=Nat.le_of_eq hn
 clear h hc hT ht hn
 go_enter Tryz.func121,Tryz.ntmps121
 go_wp2
 go_loopw [7,8] (fun av bv W0=>∃ (W:World) (_:W=W0) (a b:Nat) (l1:List El),av=.int .i64 (a:Int)/\bv=.int .i64 (b:Int)/\a<=n/\b<=n + 20/\Hid (b=a + 20/\20 ∣ a/\PaR lt l l l1 n 20 a/\SRA W g o l1/\Tk.Kp (fun k=>k=g) w W)) (fun av _ _=>n + 1 - (intOf av).toNat)
 case atStart=>exact ⟨_,rfl,0,20,l,rfl,rfl,Nat.zero_le _,by omega,rfl,⟨0,rfl⟩,PaR.start (List.Perm.refl _),H0.out,Tk.Kp.refl _ _⟩
 case round =>
  obtain ⟨W,hW,a,b,l1,rfl,rfl,han,hbn,X⟩:=hrel
  subst hW
  by_cases hb:b<=n
  ·have hbi:(b:Int)<=(n:Int):=by omega
   have S:=INS.out W l1 a b X.out.2.2.1.perm (by have:=X.out.1;omega) hb X.out.2.2.2.1 X.out.2.2.2.2 (TG.out.part X.out.2.2.1.rest hb)
   go_wp2_with fail
   refine S.mono ?_
   rintro e w1 ⟨rfl,l2,s2,i2,a2,k2⟩
   have Y:Hid (20 ∣ b/\PaR lt l l l2 n 20 b/\SRA w1 g o l2/\Tk.Kp (fun k=>k=g) w w1):=by
    have e1:=X.out.1
    have e2:min (a + 20) n=b:=by omega
    have q:=X.out.2.2.1.step (by decide) X.out.2.1 han hnl.out (by rw [e2];exact s2) (by rw [e2];exact i2) (fun i h1 h2=>⟨i,⟨h1,h2⟩,rfl⟩)
    rw [<- e1] at q
    exact ⟨by rw [e1];exact Nat.dvd_add X.out.2.1 (Nat.dvd_refl _),q,a2,X.out.2.2.2.2.trans k2⟩
   have hab:Hid (a < b):=by have:=X.out.1;unfold Hid;omega
   clear S s2 i2 a2 k2 X
   go_wp2
   go_roundw
   case rel=>exact ⟨_,rfl,b,b + 20,l2,rfl,by go_num,hb,by omega,rfl,Y.out⟩
   case measure=>have:=hab.out;simp [intOf];omega
  ·have hbi:¬ (b:Int)<=(n:Int):=by omega
   have S:=INS.out W l1 a n X.out.2.2.1.perm han (Nat.le_refl _) X.out.2.2.2.1 X.out.2.2.2.2 (TG.out.part X.out.2.2.1.rest (Nat.le_refl _))
   go_wp2_with fail
   refine S.mono ?_
   rintro e w1 ⟨rfl,l2,s2,i2,a2,k2⟩
   have Y:Hid (BkR lt l l2 n 20/\SRA w1 g o l2/\Tk.Kp (fun k=>k=g) w w1):=by
    have e1:=X.out.1
    have e2:min (a + 20) n=n:=by omega
    have q:=X.out.2.2.1.step (by decide) X.out.2.1 han hnl.out (by rw [e2];exact s2) (by rw [e2];exact i2) (fun i h1 h2=>⟨i,⟨h1,h2⟩,rfl⟩)
    exact ⟨q.fin (by omega),a2,X.out.2.2.2.2.trans k2⟩
   clear S s2 i2 a2 k2 X
   go_wp2
   go_loopw [6] (fun sv W0=>∃ (W:World) (_:W=W0) (s:Nat) (l3:List El),sv=.int .i64 (s:Int)/\0 < s/\s<=2 * n + 20/\Hid (BkR lt l l3 n s/\SRA W g o l3/\Tk.Kp (fun k=>k=g) w W)) (fun sv _=>n - (intOf sv).toNat)
   case atStart=>exact ⟨_,rfl,20,l2,rfl,by decide,by omega,Y.out⟩
   case round =>
    obtain ⟨W2,hW2,s,l3,rfl,hs0,hsn,Z⟩:=hrel
    subst hW2
    by_cases hsl:s < n
    ·have hsi:(s:Int) < (n:Int):=by omega
     obtain ⟨t,hte⟩:∃ t,t=2 * s:=⟨_,rfl⟩
     have et:2 * (s:Int)=(t:Int):=by omega
     have TT:Hid (t=2 * s):=hte
     have htn:t < 2 * n:=by omega
     have hst:s < t:=by omega
     clear hte
     go_wp2
     go_loopw [7,8] (fun av bv W0=>∃ (W:World) (_:W=W0) (a b:Nat) (l4:List El),av=.int .i64 (a:Int)/\bv=.int .i64 (b:Int)/\a<=n/\b<=n + t/\Hid (b=a + t/\t ∣ a/\PaR lt l l3 l4 n t a/\SRA W g o l4/\Tk.Kp (fun k=>k=g) w W)) (fun av _ _=>n + 1 - (intOf av).toNat)
     case atStart=>exact ⟨_,rfl,0,t,l3,rfl,rfl,Nat.zero_le _,by omega,by omega,Nat.dvd_zero _,PaR.start Z.out.1.perm,Z.out.2.1,Z.out.2.2⟩
     case round =>
      obtain ⟨W3,hW3,a,b,l4,rfl,rfl,han,hbn,V⟩:=hrel
      subst hW3
      have sa:Hid (s ∣ a):=by have q:=V.out.2.1;have e:=TT.out;rw [e] at q;exact Nat.dvd_trans ⟨2,by omega⟩ q
      obtain ⟨m,hme⟩:∃ m,m=a + s:=⟨_,rfl⟩
      have em:(a:Int) + (s:Int)=(m:Int):=by omega
      have MM:Hid (m=a + s):=hme
      have ham:a < m:=by omega
      clear hme
      by_cases hb:b<=n
      ·have hbi:(b:Int)<=(n:Int):=by omega
       have hmb:m < b:=by have:=V.out.1;have:=MM.out;omega
       have S:=SYM.out W3 l4 a m b V.out.2.2.1.perm ham hmb hb V.out.2.2.2.1 V.out.2.2.2.2 (by have e:=MM.out;rw [e];exact Z.out.1.pre TG.out hs0 sa.out (by have:=V.out.1;have:=TT.out;omega) (by omega) V.out.2.2.1.rest)
       go_wp2_with fail
       refine S.mono ?_
       rintro e w1 ⟨rfl,l5,s5,i5,a5,k5⟩
       have Y2:Hid (t ∣ b/\PaR lt l l3 l5 n t b/\SRA w1 g o l5/\Tk.Kp (fun k=>k=g) w w1):=by
        have e1:=V.out.1
        have e2:min (a + t) n=b:=by omega
        have q:=V.out.2.2.1.step (by omega) V.out.2.1 han hnl.out (by rw [e2];exact s5) (by rw [e2];exact i5) (fun i h1 h2=>by have e:=TT.out;rw [e] at h2 ⊢;exact Z.out.1.two sa.out i h1 h2)
        rw [<- e1] at q
        exact ⟨by rw [e1];exact Nat.dvd_add V.out.2.1 (Nat.dvd_refl _),q,a5,V.out.2.2.2.2.trans k5⟩
       have hab:Hid (a < b):=by unfold Hid;omega
       clear S s5 i5 a5 k5 V
       go_wp2
       go_roundw
       case rel=>exact ⟨_,rfl,b,b + t,l5,rfl,by first | rfl | go_num,hb,by omega,rfl,Y2.out⟩
       case measure=>have:=hab.out;simp [intOf];omega
      ·have hbi:¬ (b:Int)<=(n:Int):=by omega
       have es:(s:Int) * 2=(t:Int):=by omega
       by_cases hm:m < n
       ·have hmi:(m:Int) < (n:Int):=by omega
        have S:=SYM.out W3 l4 a m n V.out.2.2.1.perm ham hm (Nat.le_refl _) V.out.2.2.2.1 V.out.2.2.2.2 (by have e:=MM.out;rw [e];exact Z.out.1.pre TG.out hs0 sa.out (by have:=V.out.1;have:=TT.out;omega) (by omega) V.out.2.2.1.rest)
        go_wp2_with fail
        refine S.mono ?_
        rintro e w1 ⟨rfl,l5,s5,i5,a5,k5⟩
        have Y2:Hid (BkR lt l l5 n t/\SRA w1 g o l5/\Tk.Kp (fun k=>k=g) w w1):=by
         have e1:=V.out.1
         have e2:min (a + t) n=n:=by omega
         have q:=V.out.2.2.1.step (by omega) V.out.2.1 han hnl.out (by rw [e2];exact s5) (by rw [e2];exact i5) (fun i h1 h2=>by have e:=TT.out;rw [e] at h2 ⊢;exact Z.out.1.two sa.out i h1 h2)
         exact ⟨q.fin (by omega),a5,V.out.2.2.2.2.trans k5⟩
        clear S s5 i5 a5 k5 V
        go_wp2
        go_roundw
        case rel=>exact ⟨_,rfl,t,l5,by first | rfl | go_num,by omega,by omega,Y2.out⟩
        case measure=>simp [intOf];omega
       ·have hmi:¬ (m:Int) < (n:Int):=by omega
        have Y2:Hid (BkR lt l l4 n t/\SRA W3 g o l4/\Tk.Kp (fun k=>k=g) w W3):=by
         have e1:=V.out.1
         have e0:=MM.out
         have e2:min (a + t) n=n:=by omega
         have rr:=Z.out.1.alone (l1:=l4) sa.out (by omega) V.out.2.2.1.rest
         rw [<- TT.out] at rr
         have q:=V.out.2.2.1.step (by omega) V.out.2.1 han hnl.out (Seg.refl _ _ _) rr (fun i h1 h2=>by have e:=TT.out;rw [e] at h2 ⊢;exact Z.out.1.two sa.out i h1 h2)
         exact ⟨q.fin (by omega),V.out.2.2.2.1,V.out.2.2.2.2⟩
        clear V
        go_wp2
        go_roundw
        case rel=>exact ⟨_,rfl,t,l4,by first | rfl | go_num,by omega,by omega,Y2.out⟩
        case measure=>simp [intOf];omega
    ·have hsi:¬ (s:Int) < (n:Int):=by omega
     go_wp2
     go_end0
     exact ⟨rfl,l3,Z.out.1.perm,Z.out.1.done (by omega),Z.out.2.1,Z.out.2.2⟩
theorem sortStableR {w:World} {g o cap bf:Nat} {l:List El} {c lt:El->El->Prop} (ht:∀ x y z,lt x y->lt y z->lt x z) (h:SRA w g o l) (hl:l.length<=4000) (hT:TagR c lt l 0 l.length) (hc:CmpR w g bf l c) :
  Calls Tryz.prog 78 #[.slice (some ⟨g,o,none⟩) l.length cap,.func (.func 79) #[] #[.pointer (some ⟨bf,0,none⟩)]] w fun e w'=>e=.returned (.tuple #[])/\∃ l',l'.Perm l/\Ri lt l' 0 l.length/\SRA w' g o l'/\Tk.Kp (fun k=>k=g) w w':=by
 have S:=stableR (cap:=cap) ht h hl hT hc
 go_enter Tryz.func78,Tryz.ntmps78
 go_wp2_with fail
 refine S.mono ?_
 rintro e w1 ⟨rfl,q⟩
 go_wp2
 go_end0
 exact ⟨rfl,q⟩
end Go.Proofs.YtcipdampcmfmaabGreat

namespace Go.Proofs.YtcipdampcmfmaabGreat
open Go.RowKit Go.Maps
set_option maxRecDepth 100000
set_option maxHeartbeats 4000000
theorem roundOf_c (a c:Option Addr) (n m k j:Nat) (w:World) :
  Calls Tryz.prog 120 #[.slice a n m,.slice c k j] w fun e w'=>e=.returned (.func (.func 157) #[] #[.pointer (some ⟨w.heap.size,0,none⟩),.pointer (some ⟨w.heap.size + 1,0,none⟩)]) /\
   w'=(w.alloc (.cells #[.slice a n m] 36)).alloc (.cells #[.slice c k j] 36):=by
 go_enter Tryz.func120,Tryz.ntmps120
 go_wp2
 go_ret
 exact ⟨rfl,rfl⟩
structure Tr (w W:World) (cb b0 b1:Nat) (gs cp:Nat->Nat) (k d:Nat) (lv:Value) (cs:Vs):Prop where
 cen:Cen w.heap.size W cb gs cp k d (cenF cs)
 x0:Boxed W b0 36 lv
 x1:Boxed W b1 36 (.slice (some ⟨cb,0,none⟩) k k)
 n0:¬ Gs gs k b0
 n1:¬ Gs gs k b1
 gb:Gb w W
def OutC (w w':World) (v:Value) (k d:Nat) (cs:Vs):Prop:=∃ cb gs cp,v=.slice (some ⟨cb,0,none⟩) k k/\Cen w.heap.size w' cb gs cp k d (cenF cs)
theorem train_ok_c {w:World} {lv:Value} {l:Vs} (hl:RdV w lv l) {k r:Int} (x:Int) (hx:Rn.U x) (hz:trainE l k r=0) :
  Calls Tryz.prog 77 #[lv,.int .i64 k,.int .i64 r,.int .u64 x] w fun e w'=>∃ v,e=.returned (.tuple #[v,.int .i64 0])/\OutC w w' v k.toNat l[0]!.length (trainV l k.toNat r.toNat x)/\Gb w w':=by
 have ck:=checkTraining_c hl k r
 rw [hz] at ck
 obtain ⟨h1,h2,h3,h4⟩:=trainE_zero.1 hz
 have TO:Hid (∀ q,VsOk (roundsV l (drawnV l k.toNat x) q) (l[0]!.length:Int)/\(roundsV l (drawnV l k.toNat x) q).length=k.toNat):=fun q=>(train_ok hz x q).2
 have LO:Hid (VsOk l (l[0]!.length:Int)/\l.length<=512):=⟨h4,h2⟩
 obtain ⟨K,rfl⟩:∃ K:Nat,k=(K:Int):=⟨k.toNat,by omega⟩
 obtain ⟨R,rfl⟩:∃ R:Nat,r=(R:Int):=⟨r.toNat,by omega⟩
 simp only [Int.toNat_natCast] at TO ⊢
 have cd:=drawn_c hl h4 K (by omega) (by omega) h2 x hx
 have KB:Hid (1<=K/\K<=64):=⟨by omega,by omega⟩
 have L:Hid (RdV w lv l):=hl
 have TV:Hid (trainV l K R x=roundsV l (drawnV l K x) R):=rfl
 obtain ⟨al,cl,rfl,_⟩:=hl
 generalize l[0]!.length=d at *
 obtain ⟨nl,hnl⟩:∃ nl,nl=l.length:=⟨_,rfl⟩
 rw [<- hnl] at ck cd L
 have hR:R<=20:=by omega
 clear h1 h2 h3 h4 hz
 rw [<- hnl]
 clear hnl
 go_enter Tryz.func77,Tryz.ntmps77
 go_wp2_with fail
 refine ck.mono ?_
 rintro e w' ⟨rfl,e2⟩
 subst e2
 go_wp2_with fail
 refine cd.mono ?_
 rintro e w1 ⟨cb,gs,cp,rfl,hC,g1⟩
 clear ck cd
 go_wp2_with fail
 refine (roundOf_c _ _ _ _ _ _ _).mono ?_
 rintro e w2 ⟨rfl,hw2⟩
 have T0:Tr w w2 cb w1.heap.size (w1.heap.size + 1) gs cp K d (.slice al nl cl) (roundsV l (drawnV l K x) 0):=by
  have hlt:∀ i,i < K->gs i < w1.heap.size:=fun i hi=>(hC.arr i hi).lt
  have b2:=Boxed.new (w1.alloc (.cells #[.slice al nl cl] 36)) 36 (.slice (some ⟨cb,0,none⟩) K K)
  rw [World.size_alloc] at b2
  rw [hw2]
  exact ⟨(hC.gb (gb_alloc (Below.refl _ _) _)).gb (gb_alloc (Below.refl _ _) _),(Boxed.new w1 _ _).alloc _,b2,fun ⟨i,hi,e⟩=>by have:=hlt i hi;omega,fun ⟨i,hi,e⟩=>by have:=hlt i hi;omega,gb_alloc (gb_alloc g1 _) _⟩
 generalize w1.heap.size=b0 at *
 generalize b0 + 1=b1 at *
 clear hC g1 hw2
 go_wp2
 go_loopw [28] (fun iv W=>∃ q:Nat,iv=.int .i64 (q:Int)/\q<=R/\Hid (Tr w W cb b0 b1 gs cp K d (.slice al nl cl) (roundsV l (drawnV l K x) q))) (fun iv _=>R - (intOf iv).toNat)
 case atStart=>exact ⟨0,rfl,Nat.zero_le _,T0⟩
 case round =>
  clear T0
  obtain ⟨q,rfl,hq,X⟩:=hrel
  by_cases hqn:q < R
  ·have hqi:(q:Int) < (R:Int):=by omega
   have cr:=round_c L.out X.out.gb X.out.cen (TO.out q).2 X.out.x0 X.out.x1 X.out.n0 X.out.n1 LO.out.1 (TO.out q).1 KB.out.1 KB.out.2 LO.out.2
   have NX:Hid (roundsV l (drawnV l K x) (q + 1)=roundV l (roundsV l (drawnV l K x) q)):=rfl
   go_wp2_with (go_at_call 157;refine cr.mono ?_;rintro e w4 ⟨rfl,hC4,g4⟩)
   have X4:Tr w w4 cb b0 b1 gs cp K d (.slice al nl cl) (roundsV l (drawnV l K x) (q + 1)) :=
    ⟨by rw [NX.out];exact hC4,boxed_kp X.out.x0 g4 X.out.n0,boxed_kp X.out.x1 g4 X.out.n1,X.out.n0,X.out.n1,g4.below X.out.gb (fun b ⟨i,hi,e⟩=>by rw [e];exact X.out.cen.base i hi)⟩
   clear X hC4 g4 cr
   go_roundw
   case rel=>exact ⟨q + 1,by go_num,hqn,X4⟩
   case measure=>simp [intOf];omega
  ·have hqi:¬ (q:Int) < (R:Int):=by omega
   have hqr:q=R:=by omega
   subst hqr
   have X':=X.out
   clear X
   go_wp2
   go_ret2
   exact ⟨_,rfl,⟨cb,gs,cp,rfl,by rw [TV.out];exact X'.cen⟩,X'.gb⟩
end Go.Proofs.YtcipdampcmfmaabGreat
