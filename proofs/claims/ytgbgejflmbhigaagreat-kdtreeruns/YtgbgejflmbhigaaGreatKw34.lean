import Derived.Test.YtgbgejflmbhigaaGreatKwKqPu
import Derived.Test.YtgbgejflmbhigaaGreatKw28
import Derived.Test.YtgbgejflmbhigaaGreatKw16
import Derived.Test.YtgbgejflmbhigaaGreatKw33
namespace Go.Proofs.YtgbgejflmbhigaaGreat
open Go.RowKit Go.Sort
abbrev pcells (p:Pt) (vl vh vr:Value):Array Value:=#[.int .i64 2,vl,vh,.int .u64 0,.int .u64 0,.slice none 0 0,vr,.int .i64 p.cut.1,.int .i64 p.cut.2.1,.int .i64 p.cut.2.2,kidV (p.kids.map Prod.fst),kidV (p.kids.map Prod.snd)]
def RdWs (w:World) (v:Value) (rs:List Rw):Prop:=RdW w v rs/\∃ g o cap,v=.slice (some ⟨g,o,none⟩) rs.length cap/\rs.length<=cap
def TrR (w0:World) (T:Nat->Pt):Nat->Nat->Prop
 | 0,_=>False
 | n + 1,b=>∃ vl vh vr,w0.heap[b]? = some (.cells (pcells (T b) vl vh vr) 108 (0,0))/\RdI w0 vl (T b).L/\RdI w0 vh (T b).H/\match (T b).kids with
  | none=>RdWs w0 vr (T b).rs
  | some (l,h)=>vr=.slice none 0 0/\TrR w0 T n l/\TrR w0 T n h
theorem TrR.mono {w0:World} {T:Nat->Pt}:∀ {n b:Nat},TrR w0 T n b->TrR w0 T (n + 1) b
 | 0,_,h=>h.elim
 | n + 1,b,h=>by
  obtain ⟨vl,vh,vr,h1,h2,h3,h4⟩:=h
  refine ⟨vl,vh,vr,h1,h2,h3,?_⟩
  cases hk:(T b).kids with
  | none=>rw [hk] at h4;exact h4
  | some lh =>
   obtain ⟨l,hh⟩:=lh
   rw [hk] at h4
   exact ⟨h4.1,TrR.mono h4.2.1,TrR.mono h4.2.2⟩
theorem own_rdw {Iq:Nat->Prop} {w:World} {v:Value} {d:List Rt} {g:Nat} (h:OwnRs Iq w v d) (hg:v.ownBlock=some g):RdWs w v (d.map rwR):=by
 rcases h.row.2 with ⟨rfl,_⟩ | ⟨g',cap,cur,rfl,_,_,hle,_⟩
 ·cases hg
 ·have hx:=(rwAt_own h.row).1.rd
  refine ⟨?_,g',0,cap,by rw [List.length_map],by rw [List.length_map];exact hle⟩
  exact RwRd.rdw hx (fun x hx=>(h.vec x hx).rd)
theorem TrO.rd {Iq:Nat->Prop} {w:World} {T:Nat->Pt}:∀ {n b:Nat} {F:List Nat},TrO Iq w T n b F->TrR w T n b
 | 0,_,_,h=>h.elim
 | n + 1,b,F,h=>by
  obtain ⟨vl,vh,vr,hp,h⟩:=h
  refine ⟨vl,vh,vr,hp.blk,hp.low.rd,hp.high.rd,?_⟩
  cases hk:(T b).kids with
  | none =>
   rw [hk] at h
   obtain ⟨d,g,h1,h2,h3,_⟩:=h
   rw [<- h2]
   exact own_rdw h1 h3
  | some lh =>
   obtain ⟨l,hh⟩:=lh
   rw [hk] at h
   obtain ⟨h0,F1,F2,h1,h2,_⟩:=h
   exact ⟨h0,TrO.rd h1,TrO.rd h2⟩
def MP (w0 W:World) (T:Nat->Pt) (N pb:Nat) (p:Pt):Prop:=∃ vl vh vr,W.heap[pb]? = some (.cells (pcells p vl vh vr) 108 (0,0))/\RdI w0 vl p.L/\RdI w0 vh p.H/\match p.kids with
 | none=>RdWs w0 vr p.rs
 | some (l,h)=>vr=.slice none 0 0/\TrR w0 T N l/\TrR w0 T N h
theorem TrR.mp {w0 W:World} {T:Nat->Pt} {N b:Nat} (h:TrR w0 T (N + 1) b) (g:Gb w0 W):MP w0 W T N b (T b):=by
 obtain ⟨vl,vh,vr,h1,h2,h3,h4⟩:=h
 exact ⟨vl,vh,vr,by rw [g.block b (Array.getElem?_eq_some_iff.1 h1).1];exact h1,h2,h3,h4⟩
theorem MP.kp {S:Nat->Prop} {w0 W W':World} {T:Nat->Pt} {N pb:Nat} {p:Pt} (h:MP w0 W T N pb p) (k:Tk.Kp S W W') (hn:¬ S pb):MP w0 W' T N pb p:=by
 obtain ⟨vl,vh,vr,h1,h2⟩:=h
 exact ⟨vl,vh,vr,by rw [k.block pb (Array.getElem?_eq_some_iff.1 h1).1 hn];exact h1,h2⟩
theorem MP.gb {w0 W W':World} {T:Nat->Pt} {N pb:Nat} {p:Pt} (h:MP w0 W T N pb p) (g:Gb W W'):MP w0 W' T N pb p:=h.kp (kpF g) (fun h=>h)
abbrev encM (q:List Int) (x:Nat × Pt):List Value:=[.pointer (some ⟨x.1,0,none⟩),.int .u64 (hi (bnd q x.2)),.int .u64 (lo (bnd q x.2))]
structure SAt (w0 W:World) (T:Nat->Pt) (N sb hb k:Nat) (vq:Value) (q:List Int) (bud:Nat) (seen:List Rw) (O:List Nat) (M:List (Nat × Pt)) (vs vm vo vh:Value):Prop where
 blk:W.heap[sb]? = some (.cells #[vq,.pointer (some ⟨hb,0,none⟩),.int .i64 (bud:Int),vs,vm,vo] 85 (0,0))
 sbB:w0.heap.size<=sb
 hbB:w0.heap.size<=hb
 has:Tk.Has W hb k vh (Tk.firsts k (hitsOf q seen))
 hhB:∀ g,vh.ownBlock=some g->w0.heap.size<=g
 sn:Own W w0.heap.size vs (idsOf seen)
 mt:W.ownsRow w0.heap.size 117 3 vm M.length (M.flatMap (encM q))
 op:Own W w0.heap.size vo (O.map fun i:Nat=>(i:Int))
 olt:∀ i ∈ O,i < M.length
 prt:∀ x ∈ M,MP w0 W T N x.1 x.2
 ne:∀ g,vs.ownBlock=some g->vo.ownBlock ≠ some g
 gb:Gb w0 W
 q:RdI w0 vq q
 few:seen.length<=512
 mfew:M.length<=10000
theorem SAt.cells {w0 W:World} {T:Nat->Pt} {N sb hb k:Nat} {vq:Value} {q:List Int} {bud:Nat} {seen:List Rw} {O:List Nat} {M:List (Nat × Pt)} {vs vm vo vh:Value} (h:SAt w0 W T N sb hb k vq q bud seen O M vs vm vo vh) :
  W.cell? ⟨sb,0,none⟩=some vq/\W.cell? ⟨sb,1,none⟩=some (.pointer (some ⟨hb,0,none⟩))/\W.cell? ⟨sb,2,none⟩=some (.int .i64 (bud:Int))/\W.cell? ⟨sb,3,none⟩=some vs/\W.cell? ⟨sb,4,none⟩=some vm/\W.cell? ⟨sb,5,none⟩=some vo/\∀ i,W.frozen? ⟨sb,i,none⟩=false :=
 ⟨cell_cur h.blk rfl,cell_cur h.blk rfl,cell_cur h.blk rfl,cell_cur h.blk rfl,cell_cur h.blk rfl,cell_cur h.blk rfl,fun i=>by simp [World.frozen?,h.blk]⟩
theorem SAt.grow {w0 W W':World} {T:Nat->Pt} {N sb hb k:Nat} {vq:Value} {q:List Int} {bud:Nat} {seen:List Rw} {O:List Nat} {M:List (Nat × Pt)} {vs vm vo vh:Value} (h:SAt w0 W T N sb hb k vq q bud seen O M vs vm vo vh) (g:Gb W W'):SAt w0 W' T N sb hb k vq q bud seen O M vs vm vo vh where
 blk:=by rw [g.block sb (Array.getElem?_eq_some_iff.1 h.blk).1];exact h.blk
 sbB:=h.sbB
 hbB:=h.hbB
 has:=h.has.gr g
 hhB:=h.hhB
 sn:=own_kpI h.sn (kpF g) (fun _ _ h=>h)
 mt:=h.mt.kept (row:=none) ⟨g.os,g.tape,g.output,g.size,fun k hk _=>g.block k hk⟩ (by cases vm.ownBlock <;> simp)
 op:=own_kpI h.op (kpF g) (fun _ _ h=>h)
 olt:=h.olt
 prt:=fun x hx=>(h.prt x hx).gb g
 ne:=h.ne
 gb:=gb_trans h.gb g
 q:=h.q
 few:=h.few
 mfew:=h.mfew
theorem flM_get (q:List Int):∀ (M:List (Nat × Pt)) (i j:Nat) (hi':i < M.length),j < 3->(M.flatMap (encM q))[i * 3 + j]? = (encM q M[i])[j]?
 | x :: r,0,j,_,hj=>by rw [List.flatMap_cons,List.getElem?_append_left (by simp;omega)];simp
 | x :: r,i + 1,j,hi',hj=>by
  rw [List.flatMap_cons,List.getElem?_append_right (by simp;omega)]
  have:=flM_get q r i j (by simpa using hi') hj
  simp only [List.length_cons,List.length_nil,List.getElem_cons_succ]
  rw [<- this]
  congr 1
  omega
theorem SAt.cand {w0 W:World} {T:Nat->Pt} {N sb hb k:Nat} {vq:Value} {q:List Int} {bud:Nat} {seen:List Rw} {O:List Nat} {M:List (Nat × Pt)} {vs vm vo vh:Value} (h:SAt w0 W T N sb hb k vq q bud seen O M vs vm vo vh) {i:Nat} (hi':i < M.length) :
  ∃ mb mc,vm=.slice (some ⟨mb,0,none⟩) M.length mc/\M.length<=mc/\W.cell? ⟨mb,i * 3,none⟩=some (.pointer (some ⟨M[i].1,0,none⟩))/\W.cell? ⟨mb,i * 3 + 1,none⟩=some (.int .u64 (hi (bnd q M[i].2)))/\W.cell? ⟨mb,i * 3 + 2,none⟩=some (.int .u64 (lo (bnd q M[i].2))):=by
 rcases h.mt.2 with ⟨_,h0⟩ | ⟨mb,mc,cur,e,_,hh,hle,_,hsz,htk⟩
 ·omega
 ·have key:∀ j,j < 3->∀ y,(encM q M[i])[j]? = some y->W.cell? ⟨mb,i * 3 + j,none⟩=some y:=fun j hj y hy=>by
   rw [<- flM_get q M i j hi' hj,<- htk,List.getElem?_take_of_lt (by omega),Array.getElem?_toList] at hy
   exact cell_cur hh hy
  exact ⟨mb,mc,e,hle,key 0 (by omega) _ rfl,key 1 (by omega) _ rfl,key 2 (by omega) _ rfl⟩
end Go.Proofs.YtgbgejflmbhigaaGreat

namespace Go.Proofs.YtgbgejflmbhigaaGreat
open Go.RowKit Go.Sort
set_option maxRecDepth 100000
set_option maxHeartbeats 2000000
theorem nine_call {w0 W w':World} {p0 p1 p2 p3 p4:Addr} {v0 v1 v2 v3 v4:Value} (g:Tk.Gw W w')
  (h:Tk.Gw w0 W/\W.cell? p0=some v0/\W.cell? p1=some v1/\W.cell? p2=some v2/\W.cell? p3=some v3/\W.cell? p4=some v4) :
  Tk.Gw w0 w'/\w'.cell? p0=some v0/\w'.cell? p1=some v1/\w'.cell? p2=some v2/\w'.cell? p3=some v3/\w'.cell? p4=some v4:=by
 obtain ⟨a,b0,b1,b2,b3,b4⟩:=h
 exact ⟨a.trans g,Tk.gr_keeps g.gr b0,Tk.gr_keeps g.gr b1,Tk.gr_keeps g.gr b2,Tk.gr_keeps g.gr b3,Tk.gr_keeps g.gr b4⟩
theorem nine_alloc {w0 W:World} {o:Obj} {p0 p1 p2 p3 p4:Addr} {v0 v1 v2 v3 v4:Value}
  (h:Tk.Gw w0 W/\W.cell? p0=some v0/\W.cell? p1=some v1/\W.cell? p2=some v2/\W.cell? p3=some v3/\W.cell? p4=some v4) :
  Tk.Gw w0 (W.alloc o)/\(W.alloc o).cell? p0=some v0/\(W.alloc o).cell? p1=some v1/\(W.alloc o).cell? p2=some v2/\(W.alloc o).cell? p3=some v3/\(W.alloc o).cell? p4=some v4 :=
 nine_call ((Tk.Gw.refl _).alloc _) h
theorem sorder_c {w:World} {sb mb n mc i j:Nat} {ah al bh bl:Int} (c4:w.cell? ⟨sb,4,none⟩=some (.slice (some ⟨mb,0,none⟩) n mc)) (hi':i < n) (hj:j < n)
  (a1:w.cell? ⟨mb,i * 3 + 1,none⟩=some (.int .u64 ah)) (a2:w.cell? ⟨mb,i * 3 + 2,none⟩=some (.int .u64 al)) (b1:w.cell? ⟨mb,j * 3 + 1,none⟩=some (.int .u64 bh)) (b2:w.cell? ⟨mb,j * 3 + 2,none⟩=some (.int .u64 bl)) :
  Calls Tryz.prog 64 #[.pointer (some ⟨sb,0,none⟩),.int .i64 (i:Int),.int .i64 (j:Int)] w fun e w'=>e=.returned (.int .i64 (Tk.cor (Tk.cw bh bl ah al) (Tk.ci (i:Int) (j:Int))))/\Tk.Gw w w':=by
 have hii:(i:Int) < (n:Int):=by omega
 have hji:(j:Int) < (n:Int):=by omega
 go_enter Tryz.func64,Tryz.ntmps64
 go_wp2
 have C:Tk.Gw w w:=Tk.Gw.refl _
 go_region_held3 (fun w'=>Tk.Gw w w'/\w'.cell? ⟨sb,4,none⟩=some (.slice (some ⟨mb,0,none⟩) n mc)/\w'.cell? ⟨mb,i * 3 + 1,none⟩=some (.int .u64 ah)/\w'.cell? ⟨mb,i * 3 + 2,none⟩=some (.int .u64 al)/\w'.cell? ⟨mb,j * 3 + 1,none⟩=some (.int .u64 bh)/\w'.cell? ⟨mb,j * 3 + 2,none⟩=some (.int .u64 bl)) (first | (with_reducible exact nine_call (by assumption) (by assumption)) | (with_reducible assumption) | (with_reducible exact nine_alloc (by assumption)) | exact ⟨C.drew,c4,a1,a2,b1,b2⟩) (first | (go_at_call 102;refine (Tk.cmpw _ _ _ _ _).mono ?_;rintro e w' ⟨rfl,hg⟩) | (go_at_call 32;refine (Tk.compare_c _ _ _).mono ?_;rintro e w' ⟨rfl,rfl⟩) | (go_at_call 98;refine (Tk.or_new _ _ _).mono ?_;rintro e w' ⟨rfl,rfl⟩))
 all_goals
  go_wp2
  go_ret
  exact ⟨rfl,And.left (by assumption)⟩
theorem bsi_c {w:World} {v:Value} {L:List Int} {sb p:Nat} {tg:Int} {cf:Int->Int} (hL:RdI w v L) (hn:L.length<=100000) (hp:p<=L.length) (hlo:∀ t (_:t < L.length),t < p->cf L[t]! < 0) (hhi:∀ t (_:t < L.length),p<=t->0 < cf L[t]!)
  (hc:∀ W,Tk.Gw w W->∀ t,t < L.length->Calls Tryz.prog 64 #[.pointer (some ⟨sb,0,none⟩),.int .i64 L[t]!,.int .i64 tg] W fun e w'=>e=.returned (.int .i64 (cf L[t]!))/\Tk.Gw W w') :
  Calls Tryz.prog 63 #[v,.int .i64 tg,.func (.func 64) #[.pointer (some ⟨sb,0,none⟩)] #[]] w fun e w'=>e=.returned (.tuple #[.int .i64 (p:Int),.bool false])/\Tk.Gw w w':=by
 obtain ⟨a,cap,rfl,hrd⟩:=hL
 have HD:Hid (∀ i,i < L.length->∃ b o,a=some ⟨b,o,none⟩/\w.cell? ⟨b,o + i,none⟩=some (.int .i64 L[i]!)):=hrd
 have HC:Hid (∀ W,Tk.Gw w W->∀ t,t < L.length->Calls Tryz.prog 64 #[.pointer (some ⟨sb,0,none⟩),.int .i64 L[t]!,.int .i64 tg] W fun e w'=>e=.returned (.int .i64 (cf L[t]!))/\Tk.Gw W w'):=hc
 have HP:Hid ((∀ t (_:t < L.length),t < p->cf L[t]! < 0)/\(∀ t (_:t < L.length),p<=t->0 < cf L[t]!)):=⟨hlo,hhi⟩
 obtain ⟨n,hN⟩:∃ n,n=L.length:=⟨_,rfl⟩
 have N:Hid (n=L.length):=hN
 rw [<- hN] at hn hp ⊢
 clear hrd hc hlo hhi hN
 go_enter Tryz.func63,Tryz.ntmps63
 go_wp2
 go_loopw [9,10] (fun iv jv W=>∃ i j:Nat,iv=.int .i64 (i:Int)/\jv=.int .i64 (j:Int)/\i<=p/\p<=j/\j<=n/\Hid (Tk.Gw w W)) (fun iv jv _=>(intOf jv).toNat - (intOf iv).toNat)
 case atStart=>exact ⟨0,n,rfl,rfl,Nat.zero_le _,hp,Nat.le_refl _,Tk.Gw.refl _⟩
 case round =>
  obtain ⟨i,j,rfl,rfl,hip,hpj,hjn,X⟩:=hrel
  by_cases hlt:i < j
  ·have hlti:(i:Int) < (j:Int):=by omega
   have hm:(i + j) / 2 < L.length:=by have:=N.out;omega
   obtain ⟨b,o,ea,k1⟩:=HD.out ((i + j) / 2) hm
   subst ea
   have k1:=Tk.gr_keeps X.out.gr k1
   have cF:=HC.out wr X.out ((i + j) / 2) hm
   have hcs:(cf L[(i + j) / 2]! < 0/\(i + j) / 2 < p) ∨ (¬ cf L[(i + j) / 2]! < 0/\p<=(i + j) / 2):=by
    by_cases h:(i + j) / 2 < p
    ·exact .inl ⟨HP.out.1 _ hm h,h⟩
    ·exact .inr ⟨by have:=HP.out.2 _ hm (by omega);omega,by omega⟩
   generalize L[(i + j) / 2]! = x at *
   generalize cf x=z at *
   clear hm
   rcases hcs with ⟨hz,hpm⟩ | ⟨hz,hpm⟩
   ·go_wp2_with fail
    go_fit cF
    rintro e w' ⟨rfl,hg⟩
    have HG:Hid (Tk.Gw w w'):=X.out.trans hg
    clear cF k1 hg X
    go_wp2
    go_roundw
    case rel=>exact ⟨(i + j) / 2 + 1,j,by rw [show ((i:Int) + (j:Int)) / 2 + 1=(((i + j) / 2 + 1:Nat):Int) by omega],rfl,by omega,hpj,hjn,HG.out⟩
    case measure=>simp [intOf];omega
   ·go_wp2_with fail
    go_fit cF
    rintro e w' ⟨rfl,hg⟩
    have HG:Hid (Tk.Gw w w'):=X.out.trans hg
    clear cF k1 hg X
    go_wp2
    go_roundw
    case rel=>exact ⟨i,(i + j) / 2,rfl,by rw [show ((i:Int) + (j:Int)) / 2=(((i + j) / 2:Nat):Int) by omega],hip,by omega,by omega,HG.out⟩
    case measure=>simp [intOf];omega
  ·obtain rfl:j=i:=by omega
   obtain rfl:p=j:=by omega
   have hlti:¬ (p:Int) < (p:Int):=by omega
   by_cases hjl:p < n
   ·have hjli:(p:Int) < (n:Int):=by omega
    have hm:p < L.length:=by have:=N.out;omega
    obtain ⟨b,o,ea,k1⟩:=HD.out p hm
    subst ea
    have k1:=Tk.gr_keeps X.out.gr k1
    have cF:=HC.out wr X.out p hm
    have hz:=HP.out.2 p hm (Nat.le_refl _)
    generalize L[p]! = x at *
    generalize cf x=z at *
    have hz0:(z == 0)=false:=by rw [beq_eq_false_iff_ne];omega
    clear hm hz
    go_wp2_with fail
    go_fit cF
    rintro e w' ⟨rfl,hg⟩
    have HG:Hid (Tk.Gw w w'):=X.out.trans hg
    clear cF k1 hg X
    go_wp2
    exact bodyPost_ret (v:=.tuple #[.int .i64 (p:Int),.bool false]) (by simp [results,Tryz.results63,go_sem]) rfl ⟨rfl,HG.out⟩
   ·have hjli:¬ (p:Int) < (n:Int):=by omega
    go_wp2
    exact bodyPost_ret (v:=.tuple #[.int .i64 (p:Int),.bool false]) (by simp [results,Tryz.results63,go_sem]) rfl ⟨rfl,X.out⟩
end Go.Proofs.YtgbgejflmbhigaaGreat

namespace Go.Proofs.YtgbgejflmbhigaaGreat
open Go.RowKit Go.Sort
theorem tne {W:World} {a b:Nat} {c c':Array Value} {t t':TypeId} {s s':Nat × Nat} (h1:W.heap[a]? = some (.cells c t s)) (h2:W.heap[b]? = some (.cells c' t' s')) (hne:t ≠ t'):a ≠ b:=by
 intro e
 subst e
 rw [h1] at h2
 injection h2 with h2
 injection h2 with _ h2 _
 exact hne h2
def Ty (W:World) (b:Nat) (t:TypeId):Prop:=∃ c s,W.heap[b]? = some (.cells c t s)
theorem Ty.ne {W:World} {a b:Nat} {t t':TypeId} (h1:Ty W a t) (h2:Ty W b t') (hne:t ≠ t'):a ≠ b:=by
 obtain ⟨_,_,h1⟩:=h1
 obtain ⟨_,_,h2⟩:=h2
 exact tne h1 h2 hne
theorem Ty.gb {W W':World} {b:Nat} {t:TypeId} (h:Ty W b t) (g:Gb W W'):Ty W' b t:=by
 obtain ⟨c,s,h⟩:=h
 exact ⟨c,s,by rw [g.block b (Array.getElem?_eq_some_iff.1 h).1];exact h⟩
theorem own_ty {W:World} {B n k:Nat} {t:TypeId} {v:Value} {xs:List Value} (h:W.ownsRow B t k v n xs) {g:Nat} (hg:v.ownBlock=some g):Ty W g t:=by
 rcases h.2 with ⟨rfl,_⟩ | ⟨g',cap,cur,rfl,_,hh,_⟩
 ·cases hg
 ·cases hg;exact ⟨cur,(0,0),hh⟩
section
variable {w0 W:World} {T:Nat->Pt} {N sb hb k:Nat} {vq:Value} {q:List Int} {bud:Nat} {seen:List Rw} {O:List Nat} {M:List (Nat × Pt)} {vs vm vo vh:Value}
theorem SAt.tsb (h:SAt w0 W T N sb hb k vq q bud seen O M vs vm vo vh):Ty W sb 85:=⟨_,_,h.blk⟩
theorem SAt.thb (h:SAt w0 W T N sb hb k vq q bud seen O M vs vm vo vh):Ty W hb 113:=by
 obtain ⟨c,e⟩:=Has.cells h.has
 exact ⟨c,_,e⟩
theorem SAt.tvh (h:SAt w0 W T N sb hb k vq q bud seen O M vs vm vo vh) {g:Nat} (hg:vh.ownBlock=some g):Ty W g 60:=by
 obtain ⟨c,e⟩:=Has.own h.has hg
 exact ⟨c,_,e⟩
theorem SAt.tvs (h:SAt w0 W T N sb hb k vq q bud seen O M vs vm vo vh) {g:Nat} (hg:vs.ownBlock=some g):Ty W g 3:=own_ty h.sn hg
theorem SAt.tvo (h:SAt w0 W T N sb hb k vq q bud seen O M vs vm vo vh) {g:Nat} (hg:vo.ownBlock=some g):Ty W g 3:=own_ty h.op hg
theorem SAt.tvm (h:SAt w0 W T N sb hb k vq q bud seen O M vs vm vo vh) {g:Nat} (hg:vm.ownBlock=some g):Ty W g 117:=own_ty h.mt hg
theorem SAt.tp (h:SAt w0 W T N sb hb k vq q bud seen O M vs vm vo vh) {x:Nat × Pt} (hx:x ∈ M):Ty W x.1 108:=by
 obtain ⟨_,_,_,e,_⟩:=h.prt x hx
 exact ⟨_,_,e⟩
theorem MP.ty {w0 W:World} {T:Nat->Pt} {N pb:Nat} {p:Pt} (h:MP w0 W T N pb p):Ty W pb 108:=by
 obtain ⟨_,_,_,e,_⟩:=h
 exact ⟨_,_,e⟩
theorem own_kpR {S:Nat->Prop} {w w':World} {B n k:Nat} {t:TypeId} {v:Value} {xs:List Value} (h:w.ownsRow B t k v n xs) (kp:Tk.Kp S w w') (hn:∀ g,v.ownBlock=some g->¬ S g):w'.ownsRow B t k v n xs:=by
 refine ⟨h.1,?_⟩
 rcases h.2 with h1 | ⟨g,cap,cur,e,hB,hh,r⟩
 ·exact .inl h1
 ·subst e
  exact .inr ⟨g,cap,cur,rfl,hB,by rw [kp.block g (Array.getElem?_eq_some_iff.1 hh).1 (hn g rfl)];exact hh,r⟩
theorem SAt.kp (h:SAt w0 W T N sb hb k vq q bud seen O M vs vm vo vh) {S:Nat->Prop} {W':World} (kp:Tk.Kp S W W') (hS:∀ b,S b->w0.heap.size<=b) (n1:¬ S sb) (n2:¬ S hb) (n3:∀ g,vh.ownBlock=some g->¬ S g) (n4:∀ g,vs.ownBlock=some g->¬ S g)
  (n5:∀ g,vm.ownBlock=some g->¬ S g) (n6:∀ g,vo.ownBlock=some g->¬ S g) (n7:∀ x ∈ M,¬ S x.1):SAt w0 W' T N sb hb k vq q bud seen O M vs vm vo vh where
 blk:=by rw [kp.block sb (Array.getElem?_eq_some_iff.1 h.blk).1 n1];exact h.blk
 sbB:=h.sbB
 hbB:=h.hbB
 has:=h.has.kp kp n2 n3
 hhB:=h.hhB
 sn:=own_kpI h.sn kp n4
 mt:=own_kpR h.mt kp n5
 op:=own_kpI h.op kp n6
 olt:=h.olt
 prt:=fun x hx=>(h.prt x hx).kp kp (n7 x hx)
 ne:=h.ne
 gb:=h.gb.trans (kp.gr h.gb.size hS)
 q:=h.q
 few:=h.few
 mfew:=h.mfew
theorem SAt.set (h:SAt w0 W T N sb hb k vq q bud seen O M vs vm vo vh) (u:Value) (i:Nat):Tk.Kp (fun b=>b=sb) W (W.setCell ⟨sb,i,none⟩ u)/\Tk.Has (W.setCell ⟨sb,i,none⟩ u) hb k vh (Tk.firsts k (hitsOf q seen))/\Own (W.setCell ⟨sb,i,none⟩ u) w0.heap.size vs (idsOf seen) /\
  (W.setCell ⟨sb,i,none⟩ u).ownsRow w0.heap.size 117 3 vm M.length (M.flatMap (encM q))/\Own (W.setCell ⟨sb,i,none⟩ u) w0.heap.size vo (O.map fun i:Nat=>(i:Int))/\(∀ x ∈ M,MP w0 (W.setCell ⟨sb,i,none⟩ u) T N x.1 x.2)/\Gb w0 (W.setCell ⟨sb,i,none⟩ u):=by
 have kp:Tk.Kp (fun b=>b=sb) W (W.setCell ⟨sb,i,none⟩ u):=(Tk.Kp.refl (fun b=>b=sb) W).setCell (.inl rfl) u
 refine ⟨kp,h.has.kp kp (h.thb.ne h.tsb (by decide)) (fun g hg=>(h.tvh hg).ne h.tsb (by decide)),own_kpI h.sn kp (fun g hg=>(h.tvs hg).ne h.tsb (by decide)),own_kpR h.mt kp (fun g hg=>(h.tvm hg).ne h.tsb (by decide)),own_kpI h.op kp (fun g hg=>(h.tvo hg).ne h.tsb (by decide)),fun x hx=>(h.prt x hx).kp kp ((h.tp hx).ne h.tsb (by decide)),h.gb.trans (kp.gr h.gb.size (fun b e=>by rw [e];exact h.sbB))⟩
theorem SAt.setBud (h:SAt w0 W T N sb hb k vq q bud seen O M vs vm vo vh) (b':Nat):SAt w0 (W.setCell ⟨sb,2,none⟩ (.int .i64 (b':Int))) T N sb hb k vq q b' seen O M vs vm vo vh:=by
 obtain ⟨kp,a1,a2,a3,a4,a5,a6⟩:=h.set (.int .i64 (b':Int)) 2
 exact ⟨by simp [World.setCell,Array.getElem?_modify,h.blk],h.sbB,h.hbB,a1,h.hhB,a2,a3,a4,h.olt,a5,h.ne,a6,h.q,h.few,h.mfew⟩
theorem SAt.pop (h:SAt w0 W T N sb hb k vq q bud seen O M vs vm vo vh) (hO:O ≠ []):∃ g cap,vo=.slice (some ⟨g,0,none⟩) O.length cap/\O.length<=cap/\W.cell? ⟨g,O.length - 1,none⟩=some (.int .i64 ((O.getLast hO:Nat):Int))/\SAt w0 (W.setCell ⟨sb,5,none⟩ (.slice (some ⟨g,0,none⟩) (O.length - 1) cap)) T N sb hb k vq q bud seen O.dropLast M vs vm (.slice (some ⟨g,0,none⟩) (O.length - 1) cap) vh:=by
 have hp:=List.length_pos_iff.2 hO
 rcases h.op.2 with ⟨_,e⟩ | ⟨g,cap,cur,e,hB,hh,hle,hmx,hsz,htk⟩
 ·rw [List.length_map] at e;omega
 ·rw [List.length_map] at e hle htk
  obtain ⟨kp,a1,a2,a3,a4,a5,a6⟩:=h.set (.slice (some ⟨g,0,none⟩) (O.length - 1) cap) 5
  have hc:W.cell? ⟨g,O.length - 1,none⟩=some (.int .i64 ((O.getLast hO:Nat):Int)):=by
   have hx:((O.map fun i:Nat=>(i:Int)).map (Value.int .i64))[O.length - 1]? = some (.int .i64 ((O.getLast hO:Nat):Int)):=by
    rw [List.getElem?_map,List.getElem?_map,List.getElem?_eq_getElem (by omega),<- List.getLast_eq_getElem]
    rfl
   rw [<- htk,List.getElem?_take_of_lt (by omega),Array.getElem?_toList] at hx
   exact cell_cur hh hx
  refine ⟨g,cap,e,hle,hc,⟨by simp [World.setCell,Array.getElem?_modify,h.blk],h.sbB,h.hbB,a1,h.hhB,a2,a3,?_,fun i hi=>h.olt i (List.dropLast_subset _ hi),a5,?_,a6,h.q,h.few,h.mfew⟩⟩
  ·have gs:g ≠ sb:=by
    have:=h.tvo (g:=g) (by rw [e];rfl)
    exact this.ne h.tsb (by decide)
   refine ⟨by simp,.inr ⟨g,cap,cur,by simp,hB,?_,by simp;omega,hmx,hsz,?_⟩⟩
   ·rw [kp.block g (Array.getElem?_eq_some_iff.1 hh).1 gs];exact hh
   ·simp only [List.length_map,List.length_dropLast] at *
    have e2:cur.toList.take ((O.length - 1) * 1)=(cur.toList.take (O.length * 1)).take (O.length - 1):=by rw [List.take_take];congr 1;omega
    rw [e2,htk,<- List.map_take,<- List.map_take,List.dropLast_eq_take]
  ·intro g' hg' e'
   injection e' with e'
   dsimp only at e'
   exact h.ne g' hg' (by rw [e,<- e'];rfl)
theorem SAt.met (h:SAt w0 W T N sb hb k vq q bud seen O M vs vm vo vh) {V W2:World} {v':Value} {pb:Nat} {p:Pt} (gV:Gb W V) (ho:W2.ownsRow w0.heap.size 117 3 v' (M.length + 1) (M.flatMap (encM q) ++ encM q (pb,p))) (hg:V.grownBy W2 vm.ownBlock) (hmp:MP w0 V T N pb p) (hf:M.length + 1<=10000) :
  SAt w0 (W2.setCell ⟨sb,4,none⟩ v') T N sb hb k vq q bud seen O (M ++ [(pb,p)]) vs v' vo vh/\MP w0 (W2.setCell ⟨sb,4,none⟩ v') T N pb p/\W2.heap[sb]? = some (.cells #[vq,.pointer (some ⟨hb,0,none⟩),.int .i64 (bud:Int),vs,vm,vo] 85 (0,0)):=by
 have hV:=h.grow gV
 have kp:Tk.Kp (fun b=>vm.ownBlock=some b) V W2:=⟨hg.os,hg.tape,hg.output,hg.size,fun k hk hn=>hg.block k hk (fun e=>hn e.symm)⟩
 have tm:∀ {b:Nat},vm.ownBlock=some b->Ty V b 117:=fun e=>hV.tvm e
 have nn:∀ {b:Nat} {t:TypeId},Ty V b t->t ≠ 117->¬ vm.ownBlock=some b:=fun ht hne e=>ht.ne (tm e) hne rfl
 have hS:∀ b,vm.ownBlock=some b->w0.heap.size<=b:=fun b e=>(h.mt.lt b e).1
 have blk2:W2.heap[sb]? = some (.cells #[vq,.pointer (some ⟨hb,0,none⟩),.int .i64 (bud:Int),vs,vm,vo] 85 (0,0)):=by rw [kp.block sb (Array.getElem?_eq_some_iff.1 hV.blk).1 (nn hV.tsb (by decide))];exact hV.blk
 have k2:Tk.Kp (fun b=>b=sb) W2 (W2.setCell ⟨sb,4,none⟩ v'):=(Tk.Kp.refl (fun b=>b=sb) W2).setCell (.inl rfl) v'
 have t2:∀ {b:Nat} {t:TypeId},Ty V b t->t ≠ 117->t ≠ 85->¬ b=sb:=fun ht _ hne e=>ht.ne hV.tsb hne e
 have p2:∀ {pb:Nat} {p:Pt},MP w0 V T N pb p->MP w0 (W2.setCell ⟨sb,4,none⟩ v') T N pb p:=fun hx=>(hx.kp kp (nn hx.ty (by decide))).kp k2 (t2 hx.ty (by decide) (by decide))
 refine ⟨⟨by simp [World.setCell,Array.getElem?_modify,blk2],h.sbB,h.hbB,(hV.has.kp kp (nn hV.thb (by decide)) (fun g e=>nn (hV.tvh e) (by decide))).kp k2 (t2 hV.thb (by decide) (by decide)) (fun g e=>t2 (hV.tvh e) (by decide) (by decide)),h.hhB,own_kpI (own_kpI hV.sn kp (fun g e=>nn (hV.tvs e) (by decide))) k2 (fun g e=>t2 (hV.tvs e) (by decide) (by decide)),?_,own_kpI (own_kpI hV.op kp (fun g e=>nn (hV.tvo e) (by decide))) k2 (fun g e=>t2 (hV.tvo e) (by decide) (by decide)),fun i hi=>by have:=h.olt i hi;rw [List.length_append];omega,fun x hx=>?_,h.ne,?_,h.q,h.few,by rw [List.length_append];exact hf⟩,p2 hmp,blk2⟩
 ·rw [List.length_append,List.flatMap_append]
  simp only [List.length_cons,List.length_nil,List.flatMap_cons,List.flatMap_nil,List.append_nil]
  refine own_kpR ho k2 (fun g e=>?_)
  exact (own_ty ho e).ne ⟨_,_,blk2⟩ (by decide)
 ·rcases List.mem_append.1 hx with hx | hx
  ·exact p2 (hV.prt x hx)
  ·rw [List.mem_singleton.1 hx];exact p2 hmp
 ·exact (hV.gb.trans (kp.gr hV.gb.size hS)).trans (k2.gr (by have:=hV.gb.size;have:=kp.size;omega) (fun b e=>by rw [e];exact h.sbB))
theorem SAt.ins (h:SAt w0 W T N sb hb k vq q bud seen O M vs vm vo vh) {V W2:World} {c j:Nat} {g cap n:Nat} (gV:Gb W V) (hO:n=O.length) (ho:InsO_insI V vo n ((O.map fun i:Nat=>(Value.int .i64 (i:Int))).take c ++ [.int .i64 (j:Int)] ++ (O.map fun i:Nat=>(Value.int .i64 (i:Int))).drop c) (.returned (.slice (some ⟨g,0,none⟩) (n + 1) cap)) W2) (hj:j < M.length) :
  SAt w0 (W2.setCell ⟨sb,5,none⟩ (.slice (some ⟨g,0,none⟩) (n + 1) cap)) T N sb hb k vq q bud seen (O.take c ++ j :: O.drop c) M vs vm (.slice (some ⟨g,0,none⟩) (n + 1) cap) vh/\W2.heap[sb]? = some (.cells #[vq,.pointer (some ⟨hb,0,none⟩),.int .i64 (bud:Int),vs,vm,vo] 85 (0,0)):=by
 subst hO
 obtain ⟨g',cap',e0,ho,kp,hg⟩:=ho
 cases e0
 have hV:=h.grow gV
 have to':∀ {b:Nat},vo.ownBlock=some b->Ty V b 3:=fun e=>hV.tvo e
 have nn:∀ {b:Nat} {t:TypeId},Ty V b t->t ≠ 3->¬ vo.ownBlock=some b:=fun ht hne e=>ht.ne (to' e) hne rfl
 have hS:∀ b,vo.ownBlock=some b->w0.heap.size<=b:=fun b e=>(h.op.lt b e).1
 have blk2:W2.heap[sb]? = some (.cells #[vq,.pointer (some ⟨hb,0,none⟩),.int .i64 (bud:Int),vs,vm,vo] 85 (0,0)):=by rw [kp.block sb (Array.getElem?_eq_some_iff.1 hV.blk).1 (nn hV.tsb (by decide))];exact hV.blk
 have k2:Tk.Kp (fun b=>b=sb) W2 (W2.setCell ⟨sb,5,none⟩ (.slice (some ⟨g,0,none⟩) (O.length + 1) cap)):=(Tk.Kp.refl (fun b=>b=sb) W2).setCell (.inl rfl) _
 have t2:∀ {b:Nat} {t:TypeId},Ty V b t->t ≠ 85->¬ b=sb:=fun ht hne e=>ht.ne hV.tsb hne e
 have p2:∀ {pb:Nat} {p:Pt},MP w0 V T N pb p->MP w0 (W2.setCell ⟨sb,5,none⟩ (.slice (some ⟨g,0,none⟩) (O.length + 1) cap)) T N pb p:=fun hx=>(hx.kp kp (nn hx.ty (by decide))).kp k2 (t2 hx.ty (by decide))
 have gge:w0.heap.size<=g:=by
  rcases hg with e | e
  ·exact hS g e
  ·have:=hV.gb.size;omega
 have gsb:g ≠ sb:=(own_ty ho rfl).ne ⟨_,_,blk2⟩ (by decide)
 refine ⟨⟨by simp [World.setCell,Array.getElem?_modify,blk2],h.sbB,h.hbB,(hV.has.kp kp (nn hV.thb (by decide)) (fun g e=>nn (hV.tvh e) (by decide))).kp k2 (t2 hV.thb (by decide)) (fun g e=>t2 (hV.tvh e) (by decide)),h.hhB,own_kpI (own_kpI hV.sn kp (fun g e e2=>h.ne g e e2)) k2 (fun g e=>t2 (hV.tvs e) (by decide)),own_kpR (own_kpR hV.mt kp (fun g e=>nn (hV.tvm e) (by decide))) k2 (fun g e=>t2 (hV.tvm e) (by decide)),?_,?_,fun x hx=>p2 (hV.prt x hx),?_,?_,h.q,h.few,h.mfew⟩,blk2⟩
 ·have el:((O.take c ++ j :: O.drop c).map fun i:Nat=>(i:Int)).length=O.length + 1:=by
   rw [List.length_map,List.length_append,List.length_cons,List.length_take,List.length_drop];omega
  have ex:((O.take c ++ j :: O.drop c).map fun i:Nat=>(i:Int)).map (Value.int .i64)=(O.map fun i:Nat=>(Value.int .i64 (i:Int))).take c ++ [.int .i64 (j:Int)] ++ (O.map fun i:Nat=>(Value.int .i64 (i:Int))).drop c:=by
   rw [List.map_map,List.map_append,List.map_cons,List.map_take,List.map_drop,List.append_assoc]
   rfl
  have:=own_kpR ho k2 (fun g' e=>by cases e;exact gsb)
  refine ⟨by rw [List.length_map,Nat.mul_one],?_⟩
  rw [el,ex]
  rcases this.2 with ⟨e,_⟩ | ⟨g',cap',cur,e,hB,r⟩
  ·cases e
  ·cases e;exact .inr ⟨g,cap,cur,rfl,gge,r⟩
 ·intro i hi
  rcases List.mem_append.1 hi with hi | hi
  ·exact h.olt i (List.mem_of_mem_take hi)
  ·rcases List.mem_cons.1 hi with rfl | hi
   ·exact hj
   ·exact h.olt i (List.mem_of_mem_drop hi)
 ·intro g' hg' e'
  injection e' with e'
  dsimp only at e'
  subst e'
  rcases hg with e | e
  ·exact h.ne g hg' e
  ·have:=(hV.sn.lt g hg').2
   omega
 ·exact (hV.gb.trans (kp.gr hV.gb.size hS)).trans (k2.gr (by have:=hV.gb.size;have:=kp.size;omega) (fun b e=>by rw [e];exact h.sbB))
end
end Go.Proofs.YtgbgejflmbhigaaGreat
