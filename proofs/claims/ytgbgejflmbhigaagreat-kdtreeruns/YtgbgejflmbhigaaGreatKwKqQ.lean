import Derived.Test.YtgbgejflmbhigaaGreatKw20
import Derived.Test.YtgbgejflmbhigaaGreatKw12
namespace Go.Proofs.YtgbgejflmbhigaaGreat
open Go.RowKit Go.Sort
set_option maxRecDepth 100000
set_option maxHeartbeats 2000000
structure Nes (g b1 b4 pb fb lb:Nat):Prop where
 n1:¬ b1=g
 n4:¬ b4=g
 np:¬ pb=g
 nf:¬ fb=g
 nl:¬ lb=g
theorem box_bd {rs:List Rw} {m:Nat} (h:boxE rs (m:Int)=0):(boxL rs m).length=m/\(boxH rs m).length=m/\∀ i,i < m->-4611686018427387904 < (boxL rs m)[i]! /\ (boxL rs m)[i]! < 4611686018427387904/\-4611686018427387904 < (boxH rs m)[i]! /\ (boxH rs m)[i]! < 4611686018427387904:=by
 obtain ⟨_,_,h3,_,_,h6⟩:=rows_of h
 refine ⟨tab_len _ _,tab_len _ _,fun i hi=>?_⟩
 rw [show (boxL rs m)[i]! = loAt rs rs.length i from tab_get _ hi,show (boxH rs m)[i]! = hiAt rs rs.length i from tab_get _ hi]
 obtain ⟨j,hj,e⟩:=lo_is h3 i
 obtain ⟨j2,hj2,e2⟩:=hi_is h3 i
 have a:=allR_get (h6 j hj).2 (by rw [(h6 j hj).1];exact hi)
 have b:=allR_get (h6 j2 hj2).2 (by rw [(h6 j2 hj2).1];exact hi)
 rw [e,e2]
 omega
theorem cut_none {Iq:Nat->Prop} {m lb fb g o cap:Nat} {w:World}:Calls Tryz.prog 56 #[.slice (some ⟨g,o,none⟩) ([]:List Rt).length cap,.pointer (some ⟨lb,0,none⟩),.pointer (some ⟨fb,0,none⟩)] w fun e w'=>CutOut Iq w g o m [] e w':=by
 rw [List.length_nil]
 go_enter Tryz.func56,Tryz.ntmps56
 go_wp2
 go_ret
 exact ⟨fun _=>⟨rfl,Below.refl _ _⟩,fun h=>absurd rfl h⟩
theorem cut_many {Iq:Nat->Prop} {m leaf lb fb:Nat} (hm:1<=m/\m<=64) (hlf:1<=leaf/\leaf<=100000) (k:Nat)
  (ih:∀ (d:List Rt),d.length<=k->∀ (w:World) (g o cap:Nat),RwAt w g o d->CutIn Iq w m d->d.length<=cap->lb ≠ g->fb ≠ g->w.cell? ⟨lb,0,none⟩=some (.int .i64 (leaf:Int))->w.cell? ⟨fb,0,none⟩=some (.func (.func 56) #[] #[.pointer (some ⟨lb,0,none⟩),.pointer (some ⟨fb,0,none⟩)]) ->
   Calls Tryz.prog 56 #[.slice (some ⟨g,o,none⟩) d.length cap,.pointer (some ⟨lb,0,none⟩),.pointer (some ⟨fb,0,none⟩)] w fun e w'=>CutOut Iq w g o m d e w')
  (d:List Rt) (hdk:d.length<=k + 1) (hgt:leaf < d.length) {w:World} {g o cap:Nat} (hR:RwAt w g o d) (hI:CutIn Iq w m d) (hcap:d.length<=cap) (hlg:lb ≠ g) (hfg:fb ≠ g)
  (c1:w.cell? ⟨lb,0,none⟩=some (.int .i64 (leaf:Int))) (c2:w.cell? ⟨fb,0,none⟩=some (.func (.func 56) #[] #[.pointer (some ⟨lb,0,none⟩),.pointer (some ⟨fb,0,none⟩)])) :
  Calls Tryz.prog 56 #[.slice (some ⟨g,o,none⟩) d.length cap,.pointer (some ⟨lb,0,none⟩),.pointer (some ⟨fb,0,none⟩)] w fun e w'=>CutOut Iq w g o m d e w':=by
 have h512:=hI.ok.few
 rw [List.length_map] at h512
 have hp:0 < d.length:=by omega
 have hd:d ≠ []:=List.length_pos_iff.1 hp
 have BX:=hI.boxE hm hd
 have cB:=boxOf_c (RwRd.rdw (cap:=cap) hR.rd (fun x hx=>(hI.vec x hx).rd)) BX (by rw [getElem!_pos _ 0 (by simpa using hp)];simp only [List.getElem_map,rwR];exact hI.len (List.getElem_mem hp)) (fun i hi=>by
  rw [getElem!_pos _ i hi]
  exact okId_wf (hI.ok.row _ (List.getElem_mem hi)).1)
 have bd:=box_bd BX
 have HH:Hid (RwAt w g o d/\CutIn Iq w m d/\boxE (d.map rwR) (m:Int)=0/\d ≠ []/\d.length<=k + 1/\d.length<=cap):=⟨hR,hI,BX,hd,hdk,hcap⟩
 have IH:Hid (∀ (d:List Rt),d.length<=k->∀ (w:World) (g o cap:Nat),RwAt w g o d->CutIn Iq w m d->d.length<=cap->lb ≠ g->fb ≠ g->w.cell? ⟨lb,0,none⟩=some (.int .i64 (leaf:Int))->w.cell? ⟨fb,0,none⟩=some (.func (.func 56) #[] #[.pointer (some ⟨lb,0,none⟩),.pointer (some ⟨fb,0,none⟩)]) ->
   Calls Tryz.prog 56 #[.slice (some ⟨g,o,none⟩) d.length cap,.pointer (some ⟨lb,0,none⟩),.pointer (some ⟨fb,0,none⟩)] w fun e w'=>CutOut Iq w g o m d e w'):=ih
 obtain ⟨n,hN⟩:∃ n,n=d.length:=⟨_,rfl⟩
 have N:Hid (n=d.length):=hN
 generalize hbl:boxL (d.map rwR) m=L at *
 generalize hbh:boxH (d.map rwR) m=H at *
 have BB:Hid (boxL (d.map rwR) m=L/\boxH (d.map rwR) m=H):=⟨hbl,hbh⟩
 have BD:Hid (L.length=m/\H.length=m/\∀ i,i < m->-4611686018427387904 < L[i]! /\ L[i]! < 4611686018427387904/\-4611686018427387904 < H[i]! /\ H[i]! < 4611686018427387904):=bd
 simp only [<- hN] at cB h512 hp hgt hcap
 rw [<- hN]
 have hn0:((n:Int) == 0)=false:=by rw [beq_eq_false_iff_ne];omega
 have hlei:¬ (n:Int)<=(leaf:Int):=by omega
 obtain ⟨mid,hmid⟩:∃ mid,mid=n / 2:=⟨_,rfl⟩
 have M:Hid (1<=mid/\mid < n):=⟨by omega,by omega⟩
 have hq1:(n:Int).tdiv 2=(mid:Int):=by rw [Int.tdiv_eq_ediv_of_nonneg (by omega)];omega
 have hq2:IntKind.i64.wrap (mid:Int)=(mid:Int):=by rw [IntKind.wrap_i64];omega
 have hq3:wrap64 (mid:Int)=(mid:Int):=by simp only [wrap64];omega
 have C12:Hid (w.cell? ⟨lb,0,none⟩=some (.int .i64 (leaf:Int))/\w.cell? ⟨fb,0,none⟩=some (.func (.func 56) #[] #[.pointer (some ⟨lb,0,none⟩),.pointer (some ⟨fb,0,none⟩)])/\lb ≠ g/\fb ≠ g):=⟨c1,c2,hlg,hfg⟩
 clear hR hI BX hd hN hbl hbh ih bd hdk hmid
 go_enter Tryz.func56,Tryz.ntmps56
 go_wp2_with fail
 go_fit cB
 rintro e w1 ⟨vl,vh,rfl,g1,o1,o2⟩
 obtain ⟨al,cl,el,_⟩:=o1.rd
 obtain ⟨ah,ch,eh,_⟩:=o2.rd
 subst el eh
 have hz:hi 0=0/\lo 0=0:=⟨by decide,by decide⟩
 have gR:Gb w1 (w1.alloc (.cells #[.int .i64 2,.slice al L.length cl,.slice ah H.length ch,.int .u64 0,.int .u64 0,.slice none 0 0] 97)):=gb_alloc (Below.refl _ _) _
 have cW:=widest_c (w:=w1.alloc (.cells #[.int .i64 2,.slice al L.length cl,.slice ah H.length ch,.int .u64 0,.int .u64 0,.slice none 0 0] 97)) (v:=.agg #[.int .i64 2,.slice al L.length cl,.slice ah H.length ch,.int .u64 0,.int .u64 0,.slice none 0 0]) (r:=⟨2,L,H,0,[]⟩)
  ⟨_,_,_,by simp only [rv,hz.1,hz.2];rfl,(o1.gb gR).rd,(o2.gb gR).rd,none,0,rfl,fun i hi=>absurd hi (Nat.not_lt_zero _)⟩ (by dsimp only;rw [BD.out.1,BD.out.2.1]) (by dsimp only;rw [BD.out.1];omega) (by dsimp only;rw [BD.out.1];exact BD.out.2.2)
 dsimp only at cW
 have hwl:=wid_le L H L.length
 obtain ⟨ax,hax⟩:∃ ax,ax=wid L H L.length:=⟨_,rfl⟩
 rw [<- hax] at cW hwl
 have AX:Hid (ax < m):=by have:=BD.out.1;unfold Hid;omega
 have X1:Hid (Gb w w1/\Own w1 w.heap.size (.slice al L.length cl) L/\Own w1 w.heap.size (.slice ah H.length ch) H):=⟨g1,o1,o2⟩
 generalize L.length=nl at *
 generalize H.length=nh at *
 have c1':=gb_keeps (gb_alloc g1 (.cells #[.int .i64 2,.slice al nl cl,.slice ah nh ch,.int .u64 0,.int .u64 0,.slice none 0 0] 97)) c1
 clear cB g1 o1 o2 c1 c2 gR hz hax hwl
 go_wp2_with fail
 go_fit cW
 rintro e w3 ⟨rfl,g3⟩
 have X3:Hid (Gb (w1.alloc (.cells #[.int .i64 2,.slice al nl cl,.slice ah nh ch,.int .u64 0,.int .u64 0,.slice none 0 0] 97)) w3):=g3.gr
 clear cW g3 c1'
 go_wp2_with fail
 go_fit (along_c (ax:Int) w3)
 rintro e w3' ⟨rfl,rfl⟩
 have G3:Hid (Gb w (w3.alloc (.cells #[.int .i64 (ax:Int)] 3))):=gb_alloc (gb_trans (gb_alloc X1.out.1 _) X3.out) _
 have cS:=sortAl_c (cap:=cap) (cb:=w3.heap.size) (ax:=ax) (n:=m) (HH.out.1.gb G3.out) HH.out.2.2.2.1 (by have:=N.out;omega) ((CutIn.rtOk (CutIn.kp HH.out.2.1 (Tk.Kp.of_gr G3.out) HH.out.1) (HH.out.1.gb G3.out))) AX.out (by simp [go_sem]) (by have h1:=HH.out.1.lt;have h2:=G3.out.size;rw [World.size_alloc] at h2;have h3:=X1.out.1.size;have h4:=X3.out.size;rw [World.size_alloc] at h4;omega)
 simp only [<- N.out] at cS
 go_wp2_with fail
 go_fit cS
 rintro e w4 ⟨rfl,d',pm,hs,r4,s4⟩
 have hs:d'.Pairwise fun x y=>¬ alg y.1 y.2.2[ax]! x.1 x.2.2[ax]! < 0:=by first | exact hs | exact hs.imp (fun h=>Int.not_lt.2 h)
 have hl':d'.length=n:=by rw [pm.length_eq];exact N.out.symm
 have hmd:mid < d'.length:=by have:=M.out;omega
 have K4:Tk.Kp (fun b=>b=g) w w4:=(Tk.Kp.of_gr G3.out).trans s4.kp
 have CI:CutIn Iq w4 m d':=(CutIn.kp HH.out.2.1 K4 HH.out.1).perm pm
 obtain ⟨x,hx⟩:∃ x,x=d'[mid]:=⟨_,rfl⟩
 have xm:x ∈ d':=hx ▸ List.getElem_mem hmd
 have rok:=CI.rtOk r4 x xm
 obtain ⟨k1,k2⟩:=r4.rd mid hmd
 rw [<- hx] at k1 k2
 obtain ⟨pa,pc,ep,hc0⟩:=rok.rd
 obtain ⟨pb,po,epa,hxa⟩:=hc0 ax (by rw [rok.len];exact AX.out)
 subst epa
 rw [rok.len] at ep
 have npb:=rok.ne _ _ _ _ ep
 obtain ⟨xi,u,xl⟩:=x
 dsimp only at ep k1 k2 hxa
 subst ep
 obtain ⟨xa,hxe⟩:∃ xa,xa=xl[ax]! := ⟨_,rfl⟩
 rw [<- hxe] at hxa
 have XX:Hid ((xi,Value.slice (some ⟨pb,po,none⟩) m pc,xl)=d'[mid]/\xa=xl[ax]!):=⟨hx,hxe⟩
 have hg0:=HH.out.1.lt
 have hg1:=X1.out.1.size
 have hg2:=X3.out.size
 rw [World.size_alloc] at hg2
 have hg3:=s4.kp.size
 rw [World.size_alloc] at hg3
 have NE:Hid (Nes g w1.heap.size w4.heap.size pb fb lb):=⟨by omega,by omega,npb,C12.out.2.2.2,C12.out.2.2.1⟩
 have GV:Gb w4 (w4.alloc (.cells #[.int .i64 xi,.slice (some ⟨pb,po,none⟩) m pc] 39)).drew:=(gb_alloc (Below.refl _ _) _).drew
 have KV:Tk.Kp (fun b=>b=g) w (w4.alloc (.cells #[.int .i64 xi,.slice (some ⟨pb,po,none⟩) m pc] 39)).drew:=K4.trans (Tk.Kp.of_gr GV)
 have FS0:(fun W=>W.cell? ⟨w1.heap.size,0,none⟩=some (.int .i64 2)/\W.cell? ⟨w1.heap.size,1,none⟩=some (.slice al nl cl)/\W.cell? ⟨w1.heap.size,2,none⟩=some (.slice ah nh ch)/\W.cell? ⟨w1.heap.size,3,none⟩=some (.int .u64 0)/\W.cell? ⟨w1.heap.size,4,none⟩=some (.int .u64 0)/\W.cell? ⟨w1.heap.size,5,none⟩=some (.slice none 0 0)/\W.cell? ⟨w4.heap.size,0,none⟩=some (.int .i64 xi)/\W.cell? ⟨w4.heap.size,1,none⟩=some (.slice (some ⟨pb,po,none⟩) m pc)/\W.cell? ⟨pb,po + ax,none⟩=some (.int .i64 xa)/\W.cell? ⟨fb,0,none⟩=some (.func (.func 56) #[] #[.pointer (some ⟨lb,0,none⟩),.pointer (some ⟨fb,0,none⟩)])/\W.cell? ⟨lb,0,none⟩=some (.int .i64 (leaf:Int))) (w4.alloc (.cells #[.int .i64 xi,.slice (some ⟨pb,po,none⟩) m pc] 39)).drew:=by
  have z:∀ i y,(w1.alloc (.cells #[.int .i64 2,.slice al nl cl,.slice ah nh ch,.int .u64 0,.int .u64 0,.slice none 0 0] 97)).cell? ⟨w1.heap.size,i,none⟩=some y->(w4.alloc (.cells #[.int .i64 xi,.slice (some ⟨pb,po,none⟩) m pc] 39)).drew.cell? ⟨w1.heap.size,i,none⟩=some y:=fun i y h=>gb_keeps GV (s4.kp.cell (gb_keeps (gb_alloc (Below.refl _ _) _) (gb_keeps X3.out h)) NE.out.n1)
  exact ⟨z _ _ (by simp [go_sem]),z _ _ (by simp [go_sem]),z _ _ (by simp [go_sem]),z _ _ (by simp [go_sem]),z _ _ (by simp [go_sem]),z _ _ (by simp [go_sem]),by simp [go_sem],by simp [go_sem],gb_keeps GV hxa,KV.cell C12.out.2.1 NE.out.nf,KV.cell C12.out.1 NE.out.nl⟩
 have lt1:(d'.take mid).length=mid:=by rw [List.length_take];omega
 have lt2:(d'.drop mid).length=n - mid:=by rw [List.length_drop];omega
 have ND:Hid (d'.take mid ≠ []/\d'.drop mid ≠ []):=⟨fun e=>by rw [e] at lt1;have:=M.out.1;simp at lt1;omega,fun e=>by rw [e] at lt2;have:=M.out.2;simp at lt2;omega⟩
 have RV:RwAt (w4.alloc (.cells #[.int .i64 xi,.slice (some ⟨pb,po,none⟩) m pc] 39)).drew g o d':=r4.gb GV
 have CV:CutIn Iq (w4.alloc (.cells #[.int .i64 xi,.slice (some ⟨pb,po,none⟩) m pc] 39)).drew m d':=CI.kp (Tk.Kp.of_gr GV) r4
 have cc1:=IH.out (d'.take mid) (by have h1:=HH.out.2.2.2.2.1;have h2:=M.out.2;have:=N.out;omega) _ g o cap RV.take (CV.sub (List.take_sublist _ _)) (by have:=M.out.2;omega) C12.out.2.2.1 C12.out.2.2.2 FS0.2.2.2.2.2.2.2.2.2.2 FS0.2.2.2.2.2.2.2.2.2.1
 have CC2:Hid (∀ w5,Srt (w4.alloc (.cells #[.int .i64 xi,.slice (some ⟨pb,po,none⟩) m pc] 39)).drew w5 g o (d'.take mid).length->w5.cell? ⟨lb,0,none⟩=some (.int .i64 (leaf:Int))->w5.cell? ⟨fb,0,none⟩=some (.func (.func 56) #[] #[.pointer (some ⟨lb,0,none⟩),.pointer (some ⟨fb,0,none⟩)]) ->
   Calls Tryz.prog 56 #[.slice (some ⟨g,o + mid * 2,none⟩) (n - mid) (cap - mid),.pointer (some ⟨lb,0,none⟩),.pointer (some ⟨fb,0,none⟩)] w5 fun e w'=>CutOut Iq w5 g (o + mid * 2) m (d'.drop mid) e w'):=by
  intro w5 sr h1 h2
  have:=IH.out (d'.drop mid) (by have h1:=HH.out.2.2.2.2.1;have h2:=M.out;have:=N.out;omega) w5 g (o + mid * 2) (cap - mid) ((RV.drop (by omega)).beside sr (by rw [lt1];omega)) ((CV.kp sr.kp RV).sub (List.drop_sublist _ _)) (by omega) C12.out.2.2.1 C12.out.2.2.2 h1 h2
  rwa [lt2] at this
 rw [lt1] at cc1
 have FINQ:Hid (∀ w5 w6 b1 b2 T1 T2 F1 F2,(∀ N,(d'.take mid).length<=N->TrO Iq w5 T1 (N + 1) b1 F1/\OkP T1 m N (T1 b1)/\(rowsP T1 N (T1 b1)).Perm ((d'.take mid).map rwR))->F1.Nodup->(∀ x ∈ F1,(w4.alloc (.cells #[.int .i64 xi,.slice (some ⟨pb,po,none⟩) m pc] 39)).drew.heap.size<=x)->Srt (w4.alloc (.cells #[.int .i64 xi,.slice (some ⟨pb,po,none⟩) m pc] 39)).drew w5 g o (d'.take mid).length ->
   (∀ N,(d'.drop mid).length<=N->TrO Iq w6 T2 (N + 1) b2 F2/\OkP T2 m N (T2 b2)/\(rowsP T2 N (T2 b2)).Perm ((d'.drop mid).map rwR))->F2.Nodup->(∀ x ∈ F2,w5.heap.size<=x)->Srt w5 w6 g (o + mid * 2) (d'.drop mid).length ->
   CutOut Iq w g o m d (.returned (.pointer (some ⟨w6.heap.size,0,none⟩))) (w6.alloc (.cells #[.int .i64 2,.slice al nl cl,.slice ah nh ch,.int .u64 0,.int .u64 0,.slice none 0 0,.slice none 0 0,.int .i64 (ax:Int),.int .i64 xa,.int .i64 xi,.pointer (some ⟨b1,0,none⟩),.pointer (some ⟨b2,0,none⟩)] 108))):=by
  intro w5 w6 b1 b2 T1 T2 F1 F2 t1 nd1 l1 sr1 t2 nd2 l2 sr2
  have gd:Gb w1 (w3.alloc (.cells #[.int .i64 (ax:Int)] 3)):=gb_alloc (gb_trans (gb_alloc (Below.refl _ _) _) X3.out) _
  have KT:Tk.Kp (fun b=>b=g) w1 w6:=(((((Tk.Kp.of_gr gd).trans s4.kp).trans (Tk.Kp.of_gr GV)).trans sr1.kp).trans sr2.kp)
  have ni:=(HH.out.1.gb X1.out.1).noint
  have ni5:=(RV.drop (n:=mid) (by omega)).beside sr1 (by rw [lt1];omega)
  have zV:=GV.size
  have z5:=sr1.kp.size
  have z6:=sr2.kp.size
  rw [XX.out.2]
  refine node_out (W5:=w5) (T1:=T1) (x:=(xi,Value.slice (some ⟨pb,po,none⟩) m pc,xl)) HH.out.2.2.2.1 HH.out.2.1 HH.out.2.2.1 BB.out.1 BB.out.2 pm hs N.out M.out.1 hmd AX.out XX.out.1 (ownq_noint (OwnQ.new X1.out.2.1 HH.out.2.1.up (Nat.le_refl _)) KT ni) (ownq_noint (OwnQ.new X1.out.2.2 HH.out.2.1.up (Nat.le_refl _)) KT ni) ?_ (by omega) z6 ?_ nd1 ?_ t2 nd2 l2
  ·refine Srt.trans (Srt.trans (Srt.trans (Srt.trans (srt_gb (o:=o) (n:=n) G3.out hg0) s4 (Nat.le_refl _) (Nat.le_refl _)) (srt_gb (o:=o) (n:=n) GV (by omega)) (Nat.le_refl _) (Nat.le_refl _)) sr1 (Nat.le_refl _) (by rw [lt1];have:=M.out.2;omega)) sr2 (by omega) (by rw [lt2];have:=M.out.2;omega)
  ·intro N hN
   obtain ⟨a,b⟩:=t1 N hN
   exact ⟨TrO.kp sr2.kp ni5.noint _ _ _ a (fun y hy e=>by have:=l1 y hy;omega),b⟩
  ·intro y hy
   exact ⟨by have:=l1 y hy;omega,(t1 _ (Nat.le_refl _)).1.mem.2 y hy⟩
 have hcne:¬ cap=mid:=by have:=M.out.2;omega
 have hmn:=M.out.2
 have hmni:(mid:Int) < (n:Int):=by omega
 have hmn2:(mid:Int)<=(n:Int):=by omega
 have hmc:(mid:Int)<=(cap:Int):=by omega
 have haxm:(ax:Int) < (m:Int):=by have:=AX.out;omega
 clear cS pm hs s4 r4 K4 CI xm rok hc0 hx hxe hg0 hg1 hg2 hg3 GV KV RV CV lt1 lt2 hmd hl' npb hxa C12 G3 X3 X1 IH HH AX BB BD XX hgt hlei hn0
 go_wp2_with fail
 refine wp_region_held_drew (S:=fun W=>W.cell? ⟨w1.heap.size,0,none⟩=some (.int .i64 2)/\W.cell? ⟨w1.heap.size,1,none⟩=some (.slice al nl cl)/\W.cell? ⟨w1.heap.size,2,none⟩=some (.slice ah nh ch)/\W.cell? ⟨w1.heap.size,3,none⟩=some (.int .u64 0)/\W.cell? ⟨w1.heap.size,4,none⟩=some (.int .u64 0)/\W.cell? ⟨w1.heap.size,5,none⟩=some (.slice none 0 0)/\W.cell? ⟨w4.heap.size,0,none⟩=some (.int .i64 xi)/\W.cell? ⟨w4.heap.size,1,none⟩=some (.slice (some ⟨pb,po,none⟩) m pc)/\W.cell? ⟨pb,po + ax,none⟩=some (.int .i64 xa)/\W.cell? ⟨fb,0,none⟩=some (.func (.func 56) #[] #[.pointer (some ⟨lb,0,none⟩),.pointer (some ⟨fb,0,none⟩)])/\W.cell? ⟨lb,0,none⟩=some (.int .i64 (leaf:Int))) (by kernel_rfl) (FS0) (fun hHeld=>?_)
 refine tkn 0 ?_ rfl ?_ ?_;rotate_left;·(rintro w ⟨s0,s1,s2,s3,s4,s5,s6,s7,s8,s9,s10⟩;go_simp;try rfl)
 try simp only [Act.put,List.getElem_toArray,List.getElem_cons_zero,List.setIfInBounds_toArray,List.set_cons_zero,List.set_cons_succ]
 refine tkn 1 ?_ rfl ?_ ?_;rotate_left;·(rintro w ⟨s0,s1,s2,s3,s4,s5,s6,s7,s8,s9,s10⟩;go_simp;try rfl)
 try simp only [Act.put,List.getElem_toArray,List.getElem_cons_zero,List.getElem_cons_succ,List.setIfInBounds_toArray,List.set_cons_zero,List.set_cons_succ]
 refine tkn 2 ?_ rfl ?_ ?_;rotate_left;·(rintro w ⟨s0,s1,s2,s3,s4,s5,s6,s7,s8,s9,s10⟩;go_simp;try rfl)
 try simp only [Act.put,List.getElem_toArray,List.getElem_cons_zero,List.getElem_cons_succ,List.setIfInBounds_toArray,List.set_cons_zero,List.set_cons_succ]
 refine tkn 3 ?_ rfl ?_ ?_;rotate_left;·(rintro w ⟨s0,s1,s2,s3,s4,s5,s6,s7,s8,s9,s10⟩;go_simp;try rfl)
 try simp only [Act.put,List.getElem_toArray,List.getElem_cons_zero,List.getElem_cons_succ,List.setIfInBounds_toArray,List.set_cons_zero,List.set_cons_succ]
 refine tkn 4 ?_ rfl ?_ ?_;rotate_left;·(rintro w ⟨s0,s1,s2,s3,s4,s5,s6,s7,s8,s9,s10⟩;go_simp;try rfl)
 try simp only [Act.put,List.getElem_toArray,List.getElem_cons_zero,List.getElem_cons_succ,List.setIfInBounds_toArray,List.set_cons_zero,List.set_cons_succ]
 refine tkn 5 ?_ rfl ?_ ?_;rotate_left;·(rintro w ⟨s0,s1,s2,s3,s4,s5,s6,s7,s8,s9,s10⟩;go_simp;try rfl)
 try simp only [Act.put,List.getElem_toArray,List.getElem_cons_zero,List.getElem_cons_succ,List.setIfInBounds_toArray,List.set_cons_zero,List.set_cons_succ]
 refine tkn 6 ?_ rfl ?_ ?_;rotate_left;·(rintro w ⟨s0,s1,s2,s3,s4,s5,s6,s7,s8,s9,s10⟩;go_simp;try rfl)
 try simp only [Act.put,List.getElem_toArray,List.getElem_cons_zero,List.getElem_cons_succ,List.setIfInBounds_toArray,List.set_cons_zero,List.set_cons_succ]
 refine tkn 7 ?_ rfl ?_ ?_;rotate_left;·(rintro w ⟨s0,s1,s2,s3,s4,s5,s6,s7,s8,s9,s10⟩;go_simp;try rfl)
 try simp only [Act.put,List.getElem_toArray,List.getElem_cons_zero,List.getElem_cons_succ,List.setIfInBounds_toArray,List.set_cons_zero,List.set_cons_succ]
 refine tkn 8 ?_ rfl ?_ ?_;rotate_left;·(rintro w ⟨s0,s1,s2,s3,s4,s5,s6,s7,s8,s9,s10⟩;go_simp;try rfl)
 try simp only [Act.put,List.getElem_toArray,List.getElem_cons_zero,List.getElem_cons_succ,List.setIfInBounds_toArray,List.set_cons_zero,List.set_cons_succ]
 refine tkn 9 ?_ rfl ?_ ?_;rotate_left;·(rintro w ⟨s0,s1,s2,s3,s4,s5,s6,s7,s8,s9,s10⟩;go_simp;try rfl)
 try simp only [Act.put,List.getElem_toArray,List.getElem_cons_zero,List.getElem_cons_succ,List.setIfInBounds_toArray,List.set_cons_zero,List.set_cons_succ]
 refine tkn 10 ?_ rfl ?_ ?_;rotate_left;·(rintro w ⟨s0,s1,s2,s3,s4,s5,s6,s7,s8,s9,s10⟩;go_simp;try rfl)
 try simp only [Act.put,List.getElem_toArray,List.getElem_cons_zero,List.getElem_cons_succ,List.setIfInBounds_toArray,List.set_cons_zero,List.set_cons_succ]
 refine tkn 11 ?_ rfl ?_ ?_;rotate_left;·(rintro w ⟨s0,s1,s2,s3,s4,s5,s6,s7,s8,s9,s10⟩;go_simp;try rfl)
 try simp only [Act.put,List.getElem_toArray,List.getElem_cons_zero,List.getElem_cons_succ,List.setIfInBounds_toArray,List.set_cons_zero,List.set_cons_succ]
 refine tkn 12 ?_ rfl ?_ ?_;rotate_left;·(rintro w ⟨s0,s1,s2,s3,s4,s5,s6,s7,s8,s9,s10⟩;go_simp;try rfl)
 try simp only [Act.put,List.getElem_toArray,List.getElem_cons_zero,List.getElem_cons_succ,List.setIfInBounds_toArray,List.set_cons_zero,List.set_cons_succ]
 refine tkn 13 ?_ rfl ?_ ?_;rotate_left;·(rintro w ⟨s0,s1,s2,s3,s4,s5,s6,s7,s8,s9,s10⟩;go_simp;try rfl)
 try simp only [Act.put,List.getElem_toArray,List.getElem_cons_zero,List.getElem_cons_succ,List.setIfInBounds_toArray,List.set_cons_zero,List.set_cons_succ]
 refine tkn 15 ?_ rfl ?_ ?_;rotate_left;·(rintro w ⟨s0,s1,s2,s3,s4,s5,s6,s7,s8,s9,s10⟩;go_simp;try rfl)
 try simp only [Act.put,List.getElem_toArray,List.getElem_cons_zero,List.getElem_cons_succ,List.setIfInBounds_toArray,List.set_cons_zero,List.set_cons_succ]
 refine tkn 16 ?_ rfl ?_ ?_;rotate_left;·(rintro w ⟨s0,s1,s2,s3,s4,s5,s6,s7,s8,s9,s10⟩;go_simp;try rfl)
 try simp only [Act.put,List.getElem_toArray,List.getElem_cons_zero,List.getElem_cons_succ,List.setIfInBounds_toArray,List.set_cons_zero,List.set_cons_succ]
 refine tkn 17 ?_ rfl ?_ ?_;rotate_left;·(rintro w ⟨s0,s1,s2,s3,s4,s5,s6,s7,s8,s9,s10⟩;go_simp;try rfl)
 try simp only [Act.put,List.getElem_toArray,List.getElem_cons_zero,List.getElem_cons_succ,List.setIfInBounds_toArray,List.set_cons_zero,List.set_cons_succ]
 refine tkn 18 ?_ rfl ?_ ?_;rotate_left;·(rintro w ⟨s0,s1,s2,s3,s4,s5,s6,s7,s8,s9,s10⟩;go_simp;try rfl)
 try simp only [Act.put,List.getElem_toArray,List.getElem_cons_zero,List.getElem_cons_succ,List.setIfInBounds_toArray,List.set_cons_zero,List.set_cons_succ]
 refine rdn 14 rfl (fun K hK=>?_)
 go_simp
 go_fit cc1
 rintro e w5 ⟨_,hE1⟩
 obtain ⟨b1,T1,F1,rfl,t1,nd1,l1,sr1⟩:=hE1 ND.out.1
 refine hK.out _ _ (⟨sr1.kp.cell hHeld.1 NE.out.n1,sr1.kp.cell hHeld.2.1 NE.out.n1,sr1.kp.cell hHeld.2.2.1 NE.out.n1,sr1.kp.cell hHeld.2.2.2.1 NE.out.n1,sr1.kp.cell hHeld.2.2.2.2.1 NE.out.n1,sr1.kp.cell hHeld.2.2.2.2.2.1 NE.out.n1,sr1.kp.cell hHeld.2.2.2.2.2.2.1 NE.out.n4,sr1.kp.cell hHeld.2.2.2.2.2.2.2.1 NE.out.n4,sr1.kp.cell hHeld.2.2.2.2.2.2.2.2.1 NE.out.np,sr1.kp.cell hHeld.2.2.2.2.2.2.2.2.2.1 NE.out.nf,sr1.kp.cell hHeld.2.2.2.2.2.2.2.2.2.2 NE.out.nl⟩) (fun hHeld=>?_)
 clear hK K
 try simp only [Act.put,List.getElem_toArray,List.getElem_cons_zero,List.getElem_cons_succ,List.setIfInBounds_toArray,List.set_cons_zero,List.set_cons_succ]
 have cc2:=CC2.out _ sr1 hHeld.2.2.2.2.2.2.2.2.2.2 hHeld.2.2.2.2.2.2.2.2.2.1
 refine rdn 19 rfl (fun K hK=>?_)
 go_simp
 go_fit cc2
 rintro e w6 ⟨_,hE2⟩
 obtain ⟨b2,T2,F2,rfl,t2,nd2,l2,sr2⟩:=hE2 ND.out.2
 refine hK.out _ _ (⟨sr2.kp.cell hHeld.1 NE.out.n1,sr2.kp.cell hHeld.2.1 NE.out.n1,sr2.kp.cell hHeld.2.2.1 NE.out.n1,sr2.kp.cell hHeld.2.2.2.1 NE.out.n1,sr2.kp.cell hHeld.2.2.2.2.1 NE.out.n1,sr2.kp.cell hHeld.2.2.2.2.2.1 NE.out.n1,sr2.kp.cell hHeld.2.2.2.2.2.2.1 NE.out.n4,sr2.kp.cell hHeld.2.2.2.2.2.2.2.1 NE.out.n4,sr2.kp.cell hHeld.2.2.2.2.2.2.2.2.1 NE.out.np,sr2.kp.cell hHeld.2.2.2.2.2.2.2.2.2.1 NE.out.nf,sr2.kp.cell hHeld.2.2.2.2.2.2.2.2.2.2 NE.out.nl⟩) (fun hHeld=>?_)
 clear hK K
 try simp only [Act.put,List.getElem_toArray,List.getElem_cons_zero,List.getElem_cons_succ,List.setIfInBounds_toArray,List.set_cons_zero,List.set_cons_succ]
 refine tkn 20 ?_ rfl ?_ ?_;rotate_left;·(rintro w ⟨s0,s1,s2,s3,s4,s5,s6,s7,s8,s9,s10⟩;go_simp;try rfl)
 try simp only [Act.put,List.getElem_toArray,List.getElem_cons_zero,List.getElem_cons_succ,List.setIfInBounds_toArray,List.set_cons_zero,List.set_cons_succ]
 refine rdn 21 rfl (fun K hK=>?_)
 go_simp
 refine hK.out _ _ (⟨gb_keeps (gb_alloc (Below.refl _ _) _) hHeld.1,gb_keeps (gb_alloc (Below.refl _ _) _) hHeld.2.1,gb_keeps (gb_alloc (Below.refl _ _) _) hHeld.2.2.1,gb_keeps (gb_alloc (Below.refl _ _) _) hHeld.2.2.2.1,gb_keeps (gb_alloc (Below.refl _ _) _) hHeld.2.2.2.2.1,gb_keeps (gb_alloc (Below.refl _ _) _) hHeld.2.2.2.2.2.1,gb_keeps (gb_alloc (Below.refl _ _) _) hHeld.2.2.2.2.2.2.1,gb_keeps (gb_alloc (Below.refl _ _) _) hHeld.2.2.2.2.2.2.2.1,gb_keeps (gb_alloc (Below.refl _ _) _) hHeld.2.2.2.2.2.2.2.2.1,gb_keeps (gb_alloc (Below.refl _ _) _) hHeld.2.2.2.2.2.2.2.2.2.1,gb_keeps (gb_alloc (Below.refl _ _) _) hHeld.2.2.2.2.2.2.2.2.2.2⟩) (fun hHeld=>?_)
 clear hK K
 try simp only [Act.put,List.getElem_toArray,List.getElem_cons_zero,List.getElem_cons_succ,List.setIfInBounds_toArray,List.set_cons_zero,List.set_cons_succ]
 refine tkn 22 ?_ rfl ?_ ?_;rotate_left;·(rintro w ⟨s0,s1,s2,s3,s4,s5,s6,s7,s8,s9,s10⟩;go_simp;try rfl)
 try simp only [Act.put,List.getElem_toArray,List.getElem_cons_zero,List.getElem_cons_succ,List.setIfInBounds_toArray,List.set_cons_zero,List.set_cons_succ]
 refine wpAnyH_done (by kernel_rfl) ?_ _
 clear FS0 hHeld cc1 CC2
 go_wp2
 go_ret
 exact FINQ.out _ _ _ _ _ _ _ _ t1 nd1 l1 sr1 t2 nd2 l2 sr2
theorem cut_c {Iq:Nat->Prop} {m leaf lb fb:Nat} (hm:1<=m/\m<=64) (hlf:1<=leaf/\leaf<=100000):∀ (k:Nat) (d:List Rt),d.length<=k->∀ (w:World) (g o cap:Nat),RwAt w g o d->CutIn Iq w m d->d.length<=cap->lb ≠ g->fb ≠ g ->
  w.cell? ⟨lb,0,none⟩=some (.int .i64 (leaf:Int))->w.cell? ⟨fb,0,none⟩=some (.func (.func 56) #[] #[.pointer (some ⟨lb,0,none⟩),.pointer (some ⟨fb,0,none⟩)]) ->
  Calls Tryz.prog 56 #[.slice (some ⟨g,o,none⟩) d.length cap,.pointer (some ⟨lb,0,none⟩),.pointer (some ⟨fb,0,none⟩)] w fun e w'=>CutOut Iq w g o m d e w':=by
 intro k
 induction k with
 | zero =>
  intro d hd w g o cap _ _ _ _ _ _ _
  have e:d=[]:=List.eq_nil_of_length_eq_zero (by omega)
  subst e
  exact cut_none
 | succ k ih =>
  intro d hd w g o cap hR hI hcap hlg hfg c1 c2
  by_cases he:d=[]
  ·subst he
   exact cut_none
  ·by_cases hle:d.length<=leaf
   ·exact cut_leaf hm d he hle hlf.2 hR hI c1
   ·exact cut_many hm hlf k ih d hd (by omega) hR hI hcap hlg hfg c1 c2
end Go.Proofs.YtgbgejflmbhigaaGreat
