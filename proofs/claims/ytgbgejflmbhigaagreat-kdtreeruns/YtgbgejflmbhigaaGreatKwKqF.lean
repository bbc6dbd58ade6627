import Derived.Test.YtgbgejflmbhigaaGreatKw23
namespace Go.Proofs.YtgbgejflmbhigaaGreat
open Go.RowKit Go.Sort
set_option maxRecDepth 100000
set_option maxHeartbeats 2000000
def plc (rs:List Rw) (id:Int):Nat:=(rs.filter fun r=>decide (r.1 < id)).length
def hasId (rs:List Rw) (id:Int):Bool:=rs.any fun r=>decide (r.1=id)
theorem plc_of {rs:List Rw} {id:Int} {i:Nat} (hi:i<=rs.length) (h1:∀ t (h:t < rs.length),t < i->rs[t].1 < id) (h2:∀ t (h:t < rs.length),i<=t->¬ rs[t].1 < id):plc rs id=i:=by
 unfold plc
 rw [<- List.take_append_drop i rs,List.filter_append,List.length_append]
 rw [List.filter_eq_self.2 (by
  intro r hr
  obtain ⟨t,ht,rfl⟩:=List.getElem_of_mem hr
  rw [List.length_take] at ht
  rw [List.getElem_take]
  exact decide_eq_true (h1 t (by omega) (by omega))),List.filter_eq_nil_iff.2 (by
  intro r hr
  obtain ⟨t,ht,rfl⟩:=List.getElem_of_mem hr
  rw [List.length_drop] at ht
  rw [List.getElem_drop]
  simpa using h2 (i + t) (by omega) (by omega))]
 rw [List.length_take]
 simp
 omega
theorem rise_le {d:List Rt} (h:(d.map rwR).Pairwise fun x y=>x.1 < y.1) {a b:Nat} (hb:b < d.length) (hab:a<=b):(d[a]'(by omega)).1<=d[b].1:=by
 by_cases e:a=b
 ·subst e;exact Int.le_refl _
 ·rw [List.pairwise_iff_getElem] at h
  have:=h a b (by simp;omega) (by simpa using hb) (by omega)
  simp only [List.getElem_map,rwR] at this
  omega
theorem has_at {d:List Rt} {id:Int} {j:Nat} (h:(d.map rwR).Pairwise fun x y=>x.1 < y.1) (hj:j < d.length) (h1:∀ t (h:t < d.length),t < j->d[t].1 < id) (h2:∀ t (h:t < d.length),j<=t->id<=d[t].1):hasId (d.map rwR) id=decide (d[j].1=id):=by
 unfold hasId
 rw [Bool.eq_iff_iff,List.any_eq_true,decide_eq_true_eq]
 constructor
 ·rintro ⟨r,hr,he⟩
  obtain ⟨t,ht,rfl⟩:=List.getElem_of_mem hr
  have ht':t < d.length:=by simpa using ht
  simp only [List.getElem_map,rwR,decide_eq_true_eq] at he
  by_cases c:t < j
  ·have:=h1 t ht' c;omega
  ·have h3:=rise_le h ht' (a:=j) (by omega)
   have h4:=h2 j hj (Nat.le_refl _)
   omega
 ·intro he
  exact ⟨rwR d[j],List.mem_map.2 ⟨d[j],List.getElem_mem hj,rfl⟩,by simp [he]⟩
theorem bsr_c {w:World} {g o cap:Nat} {d:List Rt} (hd:RwRd w g o d) (hone:∀ x ∈ d,x.2.1.oneCell'=true) (hn:d.length<=4000) (id:Int) (hs:(d.map rwR).Pairwise fun x y=>x.1 < y.1) :
  Calls Tryz.prog 73 #[.slice (some ⟨g,o,none⟩) d.length cap,.int .i64 id,.func (.func 74) #[] #[]] w fun e w'=>e=.returned (.tuple #[.int .i64 (plc (d.map rwR) id:Nat),.bool (hasId (d.map rwR) id)])/\Tk.Gw w w':=by
 have HD:Hid (RwRd w g o d/\(∀ x ∈ d,x.2.1.oneCell'=true)):=⟨hd,hone⟩
 obtain ⟨n,hN⟩:∃ n,n=d.length:=⟨_,rfl⟩
 have N:Hid (n=d.length):=hN
 rw [<- hN] at hn ⊢
 have SR:Hid ((d.map rwR).Pairwise fun x y=>x.1 < y.1):=hs
 obtain ⟨pl,hpl⟩:∃ pl,pl=plc (d.map rwR) id:=⟨_,rfl⟩
 obtain ⟨fd,hfd⟩:∃ fd,fd=hasId (d.map rwR) id:=⟨_,rfl⟩
 have PF:Hid (pl=plc (d.map rwR) id/\fd=hasId (d.map rwR) id):=⟨hpl,hfd⟩
 rw [<- hpl,<- hfd]
 clear hd hone hs hN hpl hfd
 go_enter Tryz.func73,Tryz.ntmps73
 go_wp2
 go_loopw [9,10] (fun iv jv W=>∃ i j:Nat,iv=.int .i64 (i:Int)/\jv=.int .i64 (j:Int)/\i<=j/\j<=n/\Hid ((∀ t (h:t < d.length),t < i->d[t].1 < id)/\(∀ t (h:t < d.length),j<=t->id<=d[t].1)/\Tk.Gw w W)) (fun iv jv _=>(intOf jv).toNat - (intOf iv).toNat)
 case atStart=>exact ⟨0,n,rfl,rfl,Nat.zero_le _,Nat.le_refl _,fun t _ h=>absurd h (Nat.not_lt_zero _),fun t h h2=>absurd h (by have:=N.out;omega),Tk.Gw.refl _⟩
 case round =>
  obtain ⟨i,j,rfl,rfl,hij,hjn,X⟩:=hrel
  by_cases hlt:i < j
  ·have hlti:(i:Int) < (j:Int):=by omega
   have hm:(i + j) / 2 < d.length:=by have:=N.out;omega
   obtain ⟨k1,k2⟩:=HD.out.1 ((i + j) / 2) hm
   have ho:=HD.out.2 _ (List.getElem_mem hm)
   obtain ⟨x,hx⟩:∃ x,x=d[(i + j) / 2]:=⟨_,rfl⟩
   rw [<- hx] at k1 k2 ho
   have XH:Hid (d[(i + j) / 2]? = some x):=by unfold Hid;rw [List.getElem?_eq_getElem hm,hx]
   obtain ⟨xi,u,xl⟩:=x
   dsimp only at k1 k2 ho
   have k1:=Tk.gr_keeps X.out.2.2.gr k1
   have k2:=Tk.gr_keeps X.out.2.2.gr k2
   have hcu:u.cells=#[u]:=by first | exact Value.cells_of_oneCell' ho | (cases u <;> simp_all [Value.oneCell',Value.cells])
   have cF:=find1_c xi id u ho
   clear hx hm
   have MX:Hid ((xi < id->∀ t (h:t < d.length),t < (i + j) / 2 + 1->d[t].1 < id)/\(¬ xi < id->∀ t (h:t < d.length),(i + j) / 2<=t->id<=d[t].1)):=by
    have hm:(i + j) / 2 < d.length:=by have:=N.out;omega
    have hx:=XH.out
    rw [List.getElem?_eq_getElem hm] at hx
    injection hx with hx
    refine ⟨fun h t ht h2=>?_,fun h t ht h2=>?_⟩
    ·have:=rise_le SR.out (a:=t) (b:=(i + j) / 2) hm (by omega)
     rw [hx] at this
     dsimp only at this
     omega
    ·have:=rise_le SR.out (a:=(i + j) / 2) (b:=t) ht h2
     rw [hx] at this
     dsimp only at this
     omega
   by_cases hxi:xi < id
   ·have hc:Tk.ci xi id=-1:=by unfold Tk.ci;rw [if_pos hxi]
    rw [hc] at cF
    have I2:=MX.out.1 hxi
    have YX:Hid ((∀ t (h:t < d.length),t < (i + j) / 2 + 1->d[t].1 < id)/\(∀ t (h:t < d.length),j<=t->id<=d[t].1)/\Tk.Gw w wr):=⟨I2,X.out.2⟩
    clear I2 MX XH X hc
    go_wp2_with fail
    refine (cF wr).mono ?_
    rintro e w' ⟨rfl,hg⟩
    have HG:Hid (Tk.Gw wr w'):=hg
    clear cF k1 k2 hg
    go_wp2
    go_roundw
    case rel=>exact ⟨(i + j) / 2 + 1,j,by rw [show ((i:Int) + (j:Int)) / 2 + 1=(((i + j) / 2 + 1:Nat):Int) by omega],rfl,by omega,hjn,YX.out.1,YX.out.2.1,YX.out.2.2.trans HG.out⟩
    case measure=>simp [intOf];omega
   ·have hc:¬ Tk.ci xi id < 0:=(ci_neg _ _).2 (by omega)
    generalize Tk.ci xi id=z at *
    have I2:=MX.out.2 hxi
    have YX:Hid ((∀ t (h:t < d.length),t < i->d[t].1 < id)/\(∀ t (h:t < d.length),(i + j) / 2<=t->id<=d[t].1)/\Tk.Gw w wr):=⟨X.out.1,I2,X.out.2.2⟩
    clear I2 MX XH X
    go_wp2_with fail
    refine (cF wr).mono ?_
    rintro e w' ⟨rfl,hg⟩
    have HG:Hid (Tk.Gw wr w'):=hg
    clear cF k1 k2 hg
    go_wp2
    go_roundw
    case rel=>exact ⟨i,(i + j) / 2,rfl,by rw [show ((i:Int) + (j:Int)) / 2=(((i + j) / 2:Nat):Int) by omega],by omega,by omega,YX.out.1,YX.out.2.1,YX.out.2.2.trans HG.out⟩
    case measure=>simp [intOf];omega
  ·obtain rfl:j=i:=by omega
   have hlti:¬ (j:Int) < (j:Int):=by omega
   have PL:Hid (pl=j):=PF.out.1.trans <| plc_of (by rw [List.length_map];have:=N.out;omega) (fun t h h2=>by have:=X.out.1 t (by simpa using h) h2;simpa using this) (fun t h h2=>by have:=X.out.2.1 t (by simpa using h) h2;simp;omega)
   have GW:Hid (Tk.Gw w wr):=X.out.2.2
   by_cases hjl:j < n
   ·have hjli:(j:Int) < (n:Int):=by omega
    have hm:j < d.length:=by have:=N.out;omega
    obtain ⟨k1,k2⟩:=HD.out.1 j hm
    have ho:=HD.out.2 _ (List.getElem_mem hm)
    have FI:fd=decide (d[j].1=id):=PF.out.2.trans (has_at SR.out hm X.out.1 X.out.2.1)
    obtain ⟨x,hx⟩:∃ x,x=d[j]:=⟨_,rfl⟩
    rw [<- hx] at k1 k2 ho FI
    obtain ⟨xi,u,xl⟩:=x
    dsimp only at k1 k2 ho FI
    have FI2:Hid (fd=decide (xi=id)):=FI
    have k1:=Tk.gr_keeps X.out.2.2.gr k1
    have k2:=Tk.gr_keeps X.out.2.2.gr k2
    have hcu:u.cells=#[u]:=by first | exact Value.cells_of_oneCell' ho | (cases u <;> simp_all [Value.oneCell',Value.cells])
    have cF:=find1_c xi id u ho
    have hz:(Tk.ci xi id == 0)=decide (xi=id):=by
     unfold Tk.ci
     split
     ·rename_i h;rw [decide_eq_false (by omega)];rfl
     ·split
      ·rename_i h;rw [decide_eq_false (by omega)];rfl
      ·rw [decide_eq_true (by omega)];rfl
    generalize decide (xi=id)=q at *
    generalize Tk.ci xi id=z at *
    clear hx hm X FI
    go_wp2_with fail
    refine (cF wr).mono ?_
    rintro e w' ⟨rfl,hg⟩
    have HG:Hid (Tk.Gw w w'):=GW.out.trans hg
    clear cF k1 k2 hg GW
    go_wp2
    exact bodyPost_ret (v:=.tuple #[.int .i64 (j:Int),.bool q]) (by simp [results,Tryz.results73,go_sem]) rfl ⟨by rw [PL.out,FI2.out],HG.out⟩
   ·have hjli:¬ (j:Int) < (n:Int):=by omega
    have FI:Hid (fd=false):=by
     unfold Hid
     rw [PF.out.2]
     unfold hasId
     rw [List.any_eq_false]
     intro r hr
     obtain ⟨t,ht,rfl⟩:=List.getElem_of_mem hr
     have ht':t < d.length:=by simpa using ht
     have:=X.out.1 t ht' (by have:=N.out;omega)
     simp
     omega
    clear X
    go_wp2
    exact bodyPost_ret (v:=.tuple #[.int .i64 (j:Int),.bool false]) (by simp [results,Tryz.results73,go_sem]) rfl ⟨by rw [PL.out,FI.out],GW.out⟩
theorem find_c {Iq:Nat->Prop} {w:World} {tb m leaf:Nat} {rs:List Rw} {F:List Nat} (h:TreeAt Iq w tb m leaf rs F) (id:Int) :
  Calls Tryz.prog 39 #[.pointer (some ⟨tb,0,none⟩),.int .i64 id] w fun e w'=>e=.returned (.tuple #[.int .i64 (plc rs id:Nat),.bool (hasId rs id)])/\Tk.Gw w w':=by
 obtain ⟨g,cap,d,rt,F1,hb,ho,hd,hs,hok,_⟩:=h
 have hl:d.length<=512:=by have:=hok.few;rw [<- hd,List.length_map] at this;exact this
 have cB:=bsr_c (cap:=cap) (rwAt_own ho.row).1.rd (fun x hx=>by obtain ⟨a,c,e,_⟩:=(ho.vec x hx).rd;rw [e];rfl) (by omega) id (by rw [hd];exact hs)
 rw [hd] at cB
 have c2:w.cell? ⟨tb,2,none⟩=some (.slice (some ⟨g,0,none⟩) d.length cap):=cell_cur hb rfl
 generalize plc rs id=pl at *
 generalize hasId rs id=fd at *
 generalize d.length=n at *
 clear hb ho hd hs hok hl
 go_enter Tryz.func39,Tryz.ntmps39
 go_wp2_with fail
 go_fit cB
 rintro e w1 ⟨rfl,g1⟩
 have G:Hid (Tk.Gw w w1):=g1
 clear g1 cB
 go_wp2
 exact bodyPost_ret (v:=.tuple #[.int .i64 (pl:Int),.bool fd]) (by simp [results,Tryz.results39,go_sem]) rfl ⟨rfl,G.out⟩
end Go.Proofs.YtgbgejflmbhigaaGreat
