import Derived.Test.YtepjbdklljlecaaGreatVrKqPu
import Derived.Test.YtepjbdklljlecaaGreatVrKdIc
import Derived.Test.YtepjbdklljlecaaGreatVr19
import Derived.Test.YtepjbdklljlecaaGreatVr33
namespace Go.Proofs.YtepjbdklljlecaaGreat
open Go.RowKit Go.Sort
abbrev pcells (p:Pt) (vl vh vr:Value):Array Value:=#[.int .i64 3,vl,vh,.int .u64 (hi p.reg.R),.int .u64 (lo p.reg.R),.slice none 0 0,vr,.int .i64 p.cut.1,.int .u64 p.cut.2.1,.int .u64 p.cut.2.2,kidV (p.kids.map Prod.fst),kidV (p.kids.map Prod.snd)]
def RdWs (w:World) (v:Value) (rs:List Rw):Prop:=RdW w v rs/\∃ g o cap,v=.slice (some ⟨g,o,none⟩) rs.length cap/\rs.length<=cap
def BlOk (p:Pt):Prop:=p.reg=⟨3,p.reg.L,[],p.reg.R,[]⟩/\p.reg.R < 340282366920938463463374607431768211456
def TrR (w0:World) (T:Nat->Pt):Nat->Nat->Prop
 | 0,_=>False
 | n + 1,b=>∃ vl vh vr,w0.heap[b]? = some (.cells (pcells (T b) vl vh vr) 117 (0,0))/\RdI w0 vl (T b).reg.L/\RdI w0 vh []/\BlOk (T b)/\match (T b).kids with
  | none=>RdWs w0 vr (T b).rs
  | some (l,h)=>vr=.slice none 0 0/\TrR w0 T n l/\TrR w0 T n h
theorem TrR.mono {w0:World} {T:Nat->Pt}:∀ {n b:Nat},TrR w0 T n b->TrR w0 T (n + 1) b
 | 0,_,h=>h.elim
 | n + 1,b,h=>by
  obtain ⟨vl,vh,vr,h1,h2,h3,h5,h4⟩:=h
  refine ⟨vl,vh,vr,h1,h2,h3,h5,?_⟩
  cases hk:(T b).kids with
  | none=>rw [hk] at h4;exact h4
  | some lh =>
   obtain ⟨l,hh⟩:=lh
   rw [hk] at h4
   exact ⟨h4.1,TrR.mono h4.2.1,TrR.mono h4.2.2⟩
theorem own_rdw {Iq:Nat->Prop} {w:World} {v:Value} {d:List Rt} {g:Nat} (h:OwnRs Iq w v d) (hg:v.ownBlock=some g):RdWs w v (d.map rwR):=by
 rcases h.row.2 with ⟨rfl,_⟩ | ⟨g',cap,cur,rfl,_,_,hle,_⟩
 ·cases hg
 ·have hx:=(rwAt_own h.row).1.rd
  refine ⟨?_,g',0,cap,by rw [List.length_map],by rw [List.length_map];exact hle⟩
  exact RwRd.rdw hx (fun x hx=>(h.vec x hx).rd)
theorem TrO.rd {Iq:Nat->Prop} {w:World} {T:Nat->Pt}:∀ {n b:Nat} {F:List Nat},TrO Iq w T n b F->TrR w T n b
 | 0,_,_,h=>h.elim
 | n + 1,b,F,h=>by
  obtain ⟨vl,vh,vr,hp,h⟩:=h
  refine ⟨vl,vh,vr,hp.blk,hp.low.rd,hp.high.rd,hp.ball,?_⟩
  cases hk:(T b).kids with
  | none =>
   rw [hk] at h
   obtain ⟨d,g,h1,h2,h3,_⟩:=h
   rw [<- h2]
   exact own_rdw h1 h3
  | some lh =>
   obtain ⟨l,hh⟩:=lh
   rw [hk] at h
   obtain ⟨h0,F1,F2,h1,h2,_⟩:=h
   exact ⟨h0,TrO.rd h1,TrO.rd h2⟩
def MP (w0 W:World) (T:Nat->Pt) (N pb:Nat) (p:Pt):Prop:=∃ vl vh vr,W.heap[pb]? = some (.cells (pcells p vl vh vr) 117 (0,0))/\RdI w0 vl p.reg.L/\RdI w0 vh []/\BlOk p/\match p.kids with
 | none=>RdWs w0 vr p.rs
 | some (l,h)=>vr=.slice none 0 0/\TrR w0 T N l/\TrR w0 T N h
theorem TrR.mp {w0 W:World} {T:Nat->Pt} {N b:Nat} (h:TrR w0 T (N + 1) b) (g:Gb w0 W):MP w0 W T N b (T b):=by
 obtain ⟨vl,vh,vr,h1,h2,h3,h4⟩:=h
 exact ⟨vl,vh,vr,by rw [g.block b (Array.getElem?_eq_some_iff.1 h1).1];exact h1,h2,h3,h4⟩
theorem MP.kp {S:Nat->Prop} {w0 W W':World} {T:Nat->Pt} {N pb:Nat} {p:Pt} (h:MP w0 W T N pb p) (k:Tk.Kp S W W') (hn:¬ S pb):MP w0 W' T N pb p:=by
 obtain ⟨vl,vh,vr,h1,h2⟩:=h
 exact ⟨vl,vh,vr,by rw [k.block pb (Array.getElem?_eq_some_iff.1 h1).1 hn];exact h1,h2⟩
theorem MP.gb {w0 W W':World} {T:Nat->Pt} {N pb:Nat} {p:Pt} (h:MP w0 W T N pb p) (g:Gb W W'):MP w0 W' T N pb p:=h.kp (kpF g) (fun h=>h)
abbrev encD (q:List Int) (x:Nat × Pt):List Value:=[.pointer (some ⟨x.1,0,none⟩),.int .u64 (hi (bnd q x.2)),.int .u64 (lo (bnd q x.2))]
structure SAt (w0 W:World) (T:Nat->Pt) (N sb hb k:Nat) (vq:Value) (q:List Int) (bud:Nat) (seen:List Rw) (O M:List (Nat × Pt)) (vs vo vh:Value):Prop where
 blk:W.heap[sb]? = some (.cells #[vq,.pointer (some ⟨hb,0,none⟩),.int .i64 (bud:Int),vs,vo] 91 (0,0))
 sbB:w0.heap.size<=sb
 hbB:w0.heap.size<=hb
 has:Tk.Has W hb k vh (Tk.firsts k (hitsOf q seen))
 hhB:∀ g,vh.ownBlock=some g->w0.heap.size<=g
 sn:Own W w0.heap.size vs (idsOf seen)
 op:W.ownsRow w0.heap.size 121 3 vo O.length (O.flatMap (encD q))
 sub:∀ x ∈ O,x ∈ M
 prt:∀ x ∈ M,MP w0 W T N x.1 x.2
 gb:Gb w0 W
 q:RdI w0 vq q
 few:seen.length<=512
 ofew:O.length<=10000
theorem SAt.cells {w0 W:World} {T:Nat->Pt} {N sb hb k:Nat} {vq:Value} {q:List Int} {bud:Nat} {seen:List Rw} {O M:List (Nat × Pt)} {vs vo vh:Value} (h:SAt w0 W T N sb hb k vq q bud seen O M vs vo vh) :
  W.cell? ⟨sb,0,none⟩=some vq/\W.cell? ⟨sb,1,none⟩=some (.pointer (some ⟨hb,0,none⟩))/\W.cell? ⟨sb,2,none⟩=some (.int .i64 (bud:Int))/\W.cell? ⟨sb,3,none⟩=some vs/\W.cell? ⟨sb,4,none⟩=some vo/\∀ i,W.frozen? ⟨sb,i,none⟩=false :=
 ⟨cell_cur h.blk rfl,cell_cur h.blk rfl,cell_cur h.blk rfl,cell_cur h.blk rfl,cell_cur h.blk rfl,fun i=>by simp [World.frozen?,h.blk]⟩
theorem SAt.grow {w0 W W':World} {T:Nat->Pt} {N sb hb k:Nat} {vq:Value} {q:List Int} {bud:Nat} {seen:List Rw} {O M:List (Nat × Pt)} {vs vo vh:Value} (h:SAt w0 W T N sb hb k vq q bud seen O M vs vo vh) (g:Gb W W'):SAt w0 W' T N sb hb k vq q bud seen O M vs vo vh where
 blk:=by rw [g.block sb (Array.getElem?_eq_some_iff.1 h.blk).1];exact h.blk
 sbB:=h.sbB
 hbB:=h.hbB
 has:=h.has.gr g
 hhB:=h.hhB
 sn:=own_kpI h.sn (kpF g) (fun _ _ h=>h)
 op:=h.op.kept (row:=none) ⟨g.os,g.tape,g.output,g.size,fun k hk _=>g.block k hk⟩ (by cases vo.ownBlock <;> simp)
 sub:=h.sub
 prt:=fun x hx=>(h.prt x hx).gb g
 gb:=gb_trans h.gb g
 q:=h.q
 few:=h.few
 ofew:=h.ofew
theorem flM_get (q:List Int):∀ (M:List (Nat × Pt)) (i j:Nat) (hi':i < M.length),j < 3->(M.flatMap (encD q))[i * 3 + j]? = (encD q M[i])[j]?
 | x :: r,0,j,_,hj=>by rw [List.flatMap_cons,List.getElem?_append_left (by simp;omega)];simp
 | x :: r,i + 1,j,hi',hj=>by
  rw [List.flatMap_cons,List.getElem?_append_right (by simp;omega)]
  have:=flM_get q r i j (by simpa using hi') hj
  simp only [List.length_cons,List.length_nil,List.getElem_cons_succ]
  rw [<- this]
  congr 1
  omega
def CdAt (W:World) (q:List Int) (g:Nat) (O:List (Nat × Pt)):Prop:=∀ i (h:i < O.length),W.cell? ⟨g,i * 3,none⟩=some (.pointer (some ⟨O[i].1,0,none⟩))/\W.cell? ⟨g,i * 3 + 1,none⟩=some (.int .u64 (hi (bnd q O[i].2)))/\W.cell? ⟨g,i * 3 + 2,none⟩=some (.int .u64 (lo (bnd q O[i].2)))
theorem CdAt.gb {W W':World} {q:List Int} {g:Nat} {O:List (Nat × Pt)} (h:CdAt W q g O) (k:Gb W W'):CdAt W' q g O:=fun i hi=>⟨gb_keeps k (h i hi).1,gb_keeps k (h i hi).2.1,gb_keeps k (h i hi).2.2⟩
theorem SAt.form {w0 W:World} {T:Nat->Pt} {N sb hb k:Nat} {vq:Value} {q:List Int} {bud:Nat} {seen:List Rw} {O M:List (Nat × Pt)} {vs vo vh:Value} (h:SAt w0 W T N sb hb k vq q bud seen O M vs vo vh):(O=[]/\vo=.slice none 0 0) ∨ ∃ g cap,vo=.slice (some ⟨g,0,none⟩) O.length cap/\O.length<=cap/\CdAt W q g O:=by
 rcases h.op.2 with ⟨e,h0⟩ | ⟨g,cap,cur,e,_,hh,hle,_,hsz,htk⟩
 ·exact .inl ⟨List.length_eq_zero_iff.1 h0,e⟩
 ·refine .inr ⟨g,cap,e,hle,fun i hi'=>?_⟩
  have key:∀ j,j < 3->∀ y,(encD q O[i])[j]? = some y->W.cell? ⟨g,i * 3 + j,none⟩=some y:=fun j hj y hy=>by
   rw [<- flM_get q O i j hi' hj,<- htk,List.getElem?_take_of_lt (by omega),Array.getElem?_toList] at hy
   exact cell_cur hh hy
  exact ⟨key 0 (by omega) _ rfl,key 1 (by omega) _ rfl,key 2 (by omega) _ rfl⟩
end Go.Proofs.YtepjbdklljlecaaGreat

namespace Go.Proofs.YtepjbdklljlecaaGreat
open Go.RowKit Go.Sort
theorem tne {W:World} {a b:Nat} {c c':Array Value} {t t':TypeId} {s s':Nat × Nat} (h1:W.heap[a]? = some (.cells c t s)) (h2:W.heap[b]? = some (.cells c' t' s')) (hne:t ≠ t'):a ≠ b:=by
 intro e
 subst e
 rw [h1] at h2
 injection h2 with h2
 injection h2 with _ h2 _
 exact hne h2
def Ty (W:World) (b:Nat) (t:TypeId):Prop:=∃ c s,W.heap[b]? = some (.cells c t s)
theorem Ty.ne {W:World} {a b:Nat} {t t':TypeId} (h1:Ty W a t) (h2:Ty W b t') (hne:t ≠ t'):a ≠ b:=by
 obtain ⟨_,_,h1⟩:=h1
 obtain ⟨_,_,h2⟩:=h2
 exact tne h1 h2 hne
theorem Ty.gb {W W':World} {b:Nat} {t:TypeId} (h:Ty W b t) (g:Gb W W'):Ty W' b t:=by
 obtain ⟨c,s,h⟩:=h
 exact ⟨c,s,by rw [g.block b (Array.getElem?_eq_some_iff.1 h).1];exact h⟩
theorem own_ty {W:World} {B n k:Nat} {t:TypeId} {v:Value} {xs:List Value} (h:W.ownsRow B t k v n xs) {g:Nat} (hg:v.ownBlock=some g):Ty W g t:=by
 rcases h.2 with ⟨rfl,_⟩ | ⟨g',cap,cur,rfl,_,hh,_⟩
 ·cases hg
 ·cases hg;exact ⟨cur,(0,0),hh⟩
section
variable {w0 W:World} {T:Nat->Pt} {N sb hb k:Nat} {vq:Value} {q:List Int} {bud:Nat} {seen:List Rw} {O M:List (Nat × Pt)} {vs vo vh:Value}
theorem SAt.tsb (h:SAt w0 W T N sb hb k vq q bud seen O M vs vo vh):Ty W sb 91:=⟨_,_,h.blk⟩
theorem SAt.thb (h:SAt w0 W T N sb hb k vq q bud seen O M vs vo vh):Ty W hb 113:=by
 obtain ⟨c,e⟩:=Has.cells h.has
 exact ⟨c,_,e⟩
theorem SAt.tvh (h:SAt w0 W T N sb hb k vq q bud seen O M vs vo vh) {g:Nat} (hg:vh.ownBlock=some g):Ty W g 68:=by
 obtain ⟨c,e⟩:=Has.own h.has hg
 exact ⟨c,_,e⟩
theorem SAt.tvs (h:SAt w0 W T N sb hb k vq q bud seen O M vs vo vh) {g:Nat} (hg:vs.ownBlock=some g):Ty W g 3:=own_ty h.sn hg
theorem SAt.tvo (h:SAt w0 W T N sb hb k vq q bud seen O M vs vo vh) {g:Nat} (hg:vo.ownBlock=some g):Ty W g 121:=own_ty h.op hg
theorem SAt.tp (h:SAt w0 W T N sb hb k vq q bud seen O M vs vo vh) {x:Nat × Pt} (hx:x ∈ M):Ty W x.1 117:=by
 obtain ⟨_,_,_,e,_⟩:=h.prt x hx
 exact ⟨_,_,e⟩
theorem MP.ty {w0 W:World} {T:Nat->Pt} {N pb:Nat} {p:Pt} (h:MP w0 W T N pb p):Ty W pb 117:=by
 obtain ⟨_,_,_,e,_⟩:=h
 exact ⟨_,_,e⟩
theorem own_kpR {S:Nat->Prop} {w w':World} {B n k:Nat} {t:TypeId} {v:Value} {xs:List Value} (h:w.ownsRow B t k v n xs) (kp:Tk.Kp S w w') (hn:∀ g,v.ownBlock=some g->¬ S g):w'.ownsRow B t k v n xs:=by
 refine ⟨h.1,?_⟩
 rcases h.2 with h1 | ⟨g,cap,cur,e,hB,hh,r⟩
 ·exact .inl h1
 ·subst e
  exact .inr ⟨g,cap,cur,rfl,hB,by rw [kp.block g (Array.getElem?_eq_some_iff.1 hh).1 (hn g rfl)];exact hh,r⟩
theorem SAt.kp (h:SAt w0 W T N sb hb k vq q bud seen O M vs vo vh) {S:Nat->Prop} {W':World} (kp:Tk.Kp S W W') (hS:∀ b,S b->w0.heap.size<=b) (n1:¬ S sb) (n2:¬ S hb) (n3:∀ g,vh.ownBlock=some g->¬ S g) (n4:∀ g,vs.ownBlock=some g->¬ S g)
  (n6:∀ g,vo.ownBlock=some g->¬ S g) (n7:∀ x ∈ M,¬ S x.1):SAt w0 W' T N sb hb k vq q bud seen O M vs vo vh where
 blk:=by rw [kp.block sb (Array.getElem?_eq_some_iff.1 h.blk).1 n1];exact h.blk
 sbB:=h.sbB
 hbB:=h.hbB
 has:=h.has.kp kp n2 n3
 hhB:=h.hhB
 sn:=own_kpI h.sn kp n4
 op:=own_kpR h.op kp n6
 sub:=h.sub
 prt:=fun x hx=>(h.prt x hx).kp kp (n7 x hx)
 gb:=h.gb.trans (kp.gr h.gb.size hS)
 q:=h.q
 few:=h.few
 ofew:=h.ofew
theorem SAt.set (h:SAt w0 W T N sb hb k vq q bud seen O M vs vo vh) (u:Value) (i:Nat):Tk.Kp (fun b=>b=sb) W (W.setCell ⟨sb,i,none⟩ u)/\Tk.Has (W.setCell ⟨sb,i,none⟩ u) hb k vh (Tk.firsts k (hitsOf q seen))/\Own (W.setCell ⟨sb,i,none⟩ u) w0.heap.size vs (idsOf seen) /\
  (W.setCell ⟨sb,i,none⟩ u).ownsRow w0.heap.size 121 3 vo O.length (O.flatMap (encD q))/\(∀ x ∈ M,MP w0 (W.setCell ⟨sb,i,none⟩ u) T N x.1 x.2)/\Gb w0 (W.setCell ⟨sb,i,none⟩ u):=by
 have kp:Tk.Kp (fun b=>b=sb) W (W.setCell ⟨sb,i,none⟩ u):=(Tk.Kp.refl (fun b=>b=sb) W).setCell (.inl rfl) u
 refine ⟨kp,h.has.kp kp (h.thb.ne h.tsb (by decide)) (fun g hg=>(h.tvh hg).ne h.tsb (by decide)),own_kpI h.sn kp (fun g hg=>(h.tvs hg).ne h.tsb (by decide)),own_kpR h.op kp (fun g hg=>(h.tvo hg).ne h.tsb (by decide)),fun x hx=>(h.prt x hx).kp kp ((h.tp hx).ne h.tsb (by decide)),h.gb.trans (kp.gr h.gb.size (fun b e=>by rw [e];exact h.sbB))⟩
theorem SAt.setBud (h:SAt w0 W T N sb hb k vq q bud seen O M vs vo vh) (b':Nat):SAt w0 (W.setCell ⟨sb,2,none⟩ (.int .i64 (b':Int))) T N sb hb k vq q b' seen O M vs vo vh:=by
 obtain ⟨kp,a1,a2,a4,a5,a6⟩:=h.set (.int .i64 (b':Int)) 2
 exact ⟨by simp [World.setCell,Array.getElem?_modify,h.blk],h.sbB,h.hbB,a1,h.hhB,a2,a4,h.sub,a5,a6,h.q,h.few,h.ofew⟩
theorem fl3_take (q:List Int):∀ (O:List (Nat × Pt)) (n:Nat),(O.flatMap (encD q)).take (n * 3)=(O.take n).flatMap (encD q)
 | [],n=>by simp
 | x :: r,0=>by simp
 | x :: r,n + 1=>by
  rw [List.take_succ_cons,List.flatMap_cons,List.flatMap_cons,<- fl3_take q r n,show (n + 1) * 3=(n * 3) + 1 + 1 + 1 by omega]
  rfl
theorem fl3_drop (q:List Int):∀ (O:List (Nat × Pt)) (n:Nat),(O.flatMap (encD q)).drop (n * 3)=(O.drop n).flatMap (encD q)
 | [],n=>by simp
 | x :: r,0=>by simp
 | x :: r,n + 1=>by
  rw [List.drop_succ_cons,List.flatMap_cons,<- fl3_drop q r n,show (n + 1) * 3=(n * 3) + 1 + 1 + 1 by omega]
  rfl
theorem SAt.pop (h:SAt w0 W T N sb hb k vq q bud seen O M vs vo vh) {g cap:Nat} (e:vo=.slice (some ⟨g,0,none⟩) O.length cap) (hO:O ≠ []):SAt w0 (W.setCell ⟨sb,4,none⟩ (.slice (some ⟨g,0,none⟩) (O.length - 1) cap)) T N sb hb k vq q bud seen O.dropLast M vs (.slice (some ⟨g,0,none⟩) (O.length - 1) cap) vh:=by
 have hp:=List.length_pos_iff.2 hO
 rcases h.op.2 with ⟨e2,_⟩ | ⟨g',cap',cur,e2,hB,hh,hle,hmx,hsz,htk⟩
 ·rw [e] at e2;cases e2
 ·rw [e] at e2
  cases e2
  obtain ⟨kp,a1,a2,a4,a5,a6⟩:=h.set (.slice (some ⟨g,0,none⟩) (O.length - 1) cap) 4
  refine ⟨by simp [World.setCell,Array.getElem?_modify,h.blk],h.sbB,h.hbB,a1,h.hhB,a2,?_,fun x hx=>h.sub x (List.dropLast_subset _ hx),a5,a6,h.q,h.few,by rw [List.length_dropLast];have:=h.ofew;omega⟩
  have gs:g ≠ sb:=by
   have:=h.tvo (g:=g) (by rw [e];rfl)
   exact this.ne h.tsb (by decide)
  have ef:∀ n,(O.take n).flatMap (encD q)=(O.flatMap (encD q)).take (n * 3):=fun n=>(fl3_take q O n).symm
  have hfl:(O.flatMap (encD q)).length=O.length * 3:=h.op.1
  rw [List.length_dropLast,List.dropLast_eq_take,ef]
  refine ⟨by rw [List.length_take,hfl];omega,.inr ⟨g,cap,cur,rfl,hB,?_,by omega,hmx,hsz,?_⟩⟩
  ·rw [kp.block g (Array.getElem?_eq_some_iff.1 hh).1 gs];exact hh
  ·rw [<- htk,List.take_take]
   congr 1
   omega
theorem SAt.ins (h:SAt w0 W T N sb hb k vq q bud seen O M vs vo vh) {V' W2:World} {c pb:Nat} {p:Pt} {g cap n:Nat} (gV:Gb W V') (hO:n=O.length) (ho:InsO_insC V' vo n ((O.flatMap (encD q)).take (c * 3) ++ encD q (pb,p) ++ (O.flatMap (encD q)).drop (c * 3)) (.returned (.slice (some ⟨g,0,none⟩) (n + 1) cap)) W2) (hmp:MP w0 V' T N pb p) (hf:O.length + 1<=10000) :
  SAt w0 (W2.setCell ⟨sb,4,none⟩ (.slice (some ⟨g,0,none⟩) (n + 1) cap)) T N sb hb k vq q bud seen (O.take c ++ (pb,p) :: O.drop c) (M ++ [(pb,p)]) vs (.slice (some ⟨g,0,none⟩) (n + 1) cap) vh/\W2.heap[sb]? = some (.cells #[vq,.pointer (some ⟨hb,0,none⟩),.int .i64 (bud:Int),vs,vo] 91 (0,0)):=by
 subst hO
 obtain ⟨g',cap',e0,ho,kp,hg⟩:=ho
 cases e0
 have hV:=h.grow gV
 have to':∀ {b:Nat},vo.ownBlock=some b->Ty V' b 121:=fun e=>hV.tvo e
 have nn:∀ {b:Nat} {t:TypeId},Ty V' b t->t ≠ 121->¬ vo.ownBlock=some b:=fun ht hne e=>ht.ne (to' e) hne rfl
 have hS:∀ b,vo.ownBlock=some b->w0.heap.size<=b:=fun b e=>(h.op.lt b e).1
 have blk2:W2.heap[sb]? = some (.cells #[vq,.pointer (some ⟨hb,0,none⟩),.int .i64 (bud:Int),vs,vo] 91 (0,0)):=by rw [kp.block sb (Array.getElem?_eq_some_iff.1 hV.blk).1 (nn hV.tsb (by decide))];exact hV.blk
 have k2:Tk.Kp (fun b=>b=sb) W2 (W2.setCell ⟨sb,4,none⟩ (.slice (some ⟨g,0,none⟩) (O.length + 1) cap)):=(Tk.Kp.refl (fun b=>b=sb) W2).setCell (.inl rfl) _
 have t2:∀ {b:Nat} {t:TypeId},Ty V' b t->t ≠ 91->¬ b=sb:=fun ht hne e=>ht.ne hV.tsb hne e
 have p2:∀ {pb:Nat} {p:Pt},MP w0 V' T N pb p->MP w0 (W2.setCell ⟨sb,4,none⟩ (.slice (some ⟨g,0,none⟩) (O.length + 1) cap)) T N pb p:=fun hx=>(hx.kp kp (nn hx.ty (by decide))).kp k2 (t2 hx.ty (by decide))
 have gge:w0.heap.size<=g:=by
  rcases hg with e | e
  ·exact hS g e
  ·have:=hV.gb.size;omega
 have gsb:g ≠ sb:=(own_ty ho rfl).ne ⟨_,_,blk2⟩ (by decide)
 refine ⟨⟨by simp [World.setCell,Array.getElem?_modify,blk2],h.sbB,h.hbB,(hV.has.kp kp (nn hV.thb (by decide)) (fun g e=>nn (hV.tvh e) (by decide))).kp k2 (t2 hV.thb (by decide)) (fun g e=>t2 (hV.tvh e) (by decide)),h.hhB,own_kpI (own_kpI hV.sn kp (fun g e=>nn (hV.tvs e) (by decide))) k2 (fun g e=>t2 (hV.tvs e) (by decide)),?_,?_,?_,?_,h.q,h.few,?_⟩,blk2⟩
 ·have el:(O.take c ++ (pb,p) :: O.drop c).length=O.length + 1:=by
   rw [List.length_append,List.length_cons,List.length_take,List.length_drop];omega
  have ex:(O.take c ++ (pb,p) :: O.drop c).flatMap (encD q)=(O.flatMap (encD q)).take (c * 3) ++ encD q (pb,p) ++ (O.flatMap (encD q)).drop (c * 3):=by
   rw [List.flatMap_append,List.flatMap_cons,fl3_take,fl3_drop,List.append_assoc]
  have:=own_kpR ho k2 (fun g' e=>by cases e;exact gsb)
  rw [el,ex]
  refine ⟨this.1,?_⟩
  rcases this.2 with ⟨e,_⟩ | ⟨g',cap',cur,e,hB,r⟩
  ·cases e
  ·cases e;exact .inr ⟨g,cap,cur,rfl,gge,r⟩
 ·intro x hx
  rcases List.mem_append.1 hx with hx | hx
  ·exact List.mem_append_left _ (h.sub x (List.mem_of_mem_take hx))
  ·rcases List.mem_cons.1 hx with rfl | hx
   ·exact List.mem_append_right _ (by simp)
   ·exact List.mem_append_left _ (h.sub x (List.mem_of_mem_drop hx))
 ·intro x hx
  rcases List.mem_append.1 hx with hx | hx
  ·exact p2 (hV.prt x hx)
  ·rw [List.mem_singleton.1 hx];exact p2 hmp
 ·exact (hV.gb.trans (kp.gr hV.gb.size hS)).trans (k2.gr (by have:=hV.gb.size;have:=kp.size;omega) (fun b e=>by rw [e];exact h.sbB))
 ·rw [List.length_append,List.length_cons,List.length_take,List.length_drop];omega
end
end Go.Proofs.YtepjbdklljlecaaGreat

namespace Go.Proofs.YtepjbdklljlecaaGreat
open Go.RowKit Go.Sort
set_option maxRecDepth 100000
set_option maxHeartbeats 2000000
theorem await1_c {w:World} {sx bx sb g n cap i:Nat} {ah al bh bl:Int} (cs:w.cell? ⟨sx,0,none⟩=some (.pointer (some ⟨sb,0,none⟩))) (c4:w.cell? ⟨sb,4,none⟩=some (.slice (some ⟨g,0,none⟩) n cap)) (hi':i < n)
  (a1:w.cell? ⟨g,i * 3 + 1,none⟩=some (.int .u64 ah)) (a2:w.cell? ⟨g,i * 3 + 2,none⟩=some (.int .u64 al)) (b1:w.cell? ⟨bx,0,none⟩=some (.int .u64 bh)) (b2:w.cell? ⟨bx,1,none⟩=some (.int .u64 bl)) :
  Calls Tryz.prog 69 #[.int .i64 (i:Int),.pointer (some ⟨sx,0,none⟩),.pointer (some ⟨bx,0,none⟩)] w fun e w'=>e=.returned (.bool (decide (Tk.cw ah al bh bl < 0)))/\Tk.Gw w w':=by
 have hii:(i:Int) < (n:Int):=by omega
 go_enter Tryz.func69,Tryz.ntmps69
 go_wp2
 have C:Tk.Gw w w:=Tk.Gw.refl _
 go_region_held3 (fun w'=>Tk.Gw w w'/\w'.cell? ⟨sx,0,none⟩=some (.pointer (some ⟨sb,0,none⟩))/\w'.cell? ⟨sb,4,none⟩=some (.slice (some ⟨g,0,none⟩) n cap)/\w'.cell? ⟨g,i * 3 + 1,none⟩=some (.int .u64 ah)/\w'.cell? ⟨g,i * 3 + 2,none⟩=some (.int .u64 al)/\w'.cell? ⟨bx,0,none⟩=some (.int .u64 bh)/\w'.cell? ⟨bx,1,none⟩=some (.int .u64 bl)) (first | (with_reducible exact Tk.six_call (by assumption) (by assumption)) | (with_reducible assumption) | exact ⟨C.drew,cs,c4,a1,a2,b1,b2⟩) (first | (go_at_call 70;refine (Tk.cmpw _ _ _ _ _).mono ?_;rintro e w' ⟨rfl,hg⟩))
 all_goals
  go_wp2
  go_ret
  exact ⟨rfl,And.left (by assumption)⟩
theorem ssearch_c {w:World} {sx bx n p:Nat} {cf:Nat->Bool} (hn:n<=100000) (hp:p<=n) (hlo:∀ t,t < p->cf t=false) (hhi:∀ t,t < n->p<=t->cf t=true)
  (hc:∀ W,Tk.Gw w W->∀ t:Nat,t < n->Calls Tryz.prog 69 #[.int .i64 (t:Int),.pointer (some ⟨sx,0,none⟩),.pointer (some ⟨bx,0,none⟩)] W fun e w'=>e=.returned (.bool (cf t))/\Tk.Gw W w') :
  Calls Tryz.prog 68 #[.int .i64 (n:Int),.func (.func 69) #[] #[.pointer (some ⟨sx,0,none⟩),.pointer (some ⟨bx,0,none⟩)]] w fun e w'=>e=.returned (.int .i64 (p:Int))/\Tk.Gw w w':=by
 have HC:Hid (∀ W,Tk.Gw w W->∀ t:Nat,t < n->Calls Tryz.prog 69 #[.int .i64 (t:Int),.pointer (some ⟨sx,0,none⟩),.pointer (some ⟨bx,0,none⟩)] W fun e w'=>e=.returned (.bool (cf t))/\Tk.Gw W w'):=hc
 have HP:Hid ((∀ t,t < p->cf t=false)/\(∀ t,t < n->p<=t->cf t=true)):=⟨hlo,hhi⟩
 clear hc hlo hhi
 go_enter Tryz.func68,Tryz.ntmps68
 go_wp2
 go_loopw [5,6] (fun iv jv W=>∃ i j:Nat,iv=.int .i64 (i:Int)/\jv=.int .i64 (j:Int)/\i<=p/\p<=j/\j<=n/\Hid (Tk.Gw w W)) (fun iv jv _=>(intOf jv).toNat - (intOf iv).toNat)
 case atStart=>exact ⟨0,n,rfl,rfl,Nat.zero_le _,hp,Nat.le_refl _,Tk.Gw.refl _⟩
 case round =>
  obtain ⟨i,j,rfl,rfl,hip,hpj,hjn,X⟩:=hrel
  by_cases hlt:i < j
  ·have hlti:(i:Int) < (j:Int):=by omega
   have cF:=HC.out wr X.out ((i + j) / 2) (by omega)
   rw [show (((i + j) / 2:Nat):Int)=((i:Int) + (j:Int)) / 2 by omega] at cF
   by_cases h:(i + j) / 2 < p
   ·rw [HP.out.1 _ h] at cF
    go_wp2_with fail
    go_fit cF
    rintro e w' ⟨rfl,hg⟩
    have HG:Hid (Tk.Gw w w'):=X.out.trans hg
    clear cF hg X
    go_wp2
    go_roundw
    case rel=>exact ⟨(i + j) / 2 + 1,j,by rw [show ((i:Int) + (j:Int)) / 2 + 1=(((i + j) / 2 + 1:Nat):Int) by omega],rfl,by omega,hpj,hjn,HG.out⟩
    case measure=>simp [intOf];omega
   ·rw [HP.out.2 _ (by omega) (by omega)] at cF
    go_wp2_with fail
    go_fit cF
    rintro e w' ⟨rfl,hg⟩
    have HG:Hid (Tk.Gw w w'):=X.out.trans hg
    clear cF hg X
    go_wp2
    go_roundw
    case rel=>exact ⟨i,(i + j) / 2,rfl,by rw [show ((i:Int) + (j:Int)) / 2=(((i + j) / 2:Nat):Int) by omega],hip,by omega,by omega,HG.out⟩
    case measure=>simp [intOf];omega
  ·obtain rfl:j=i:=by omega
   obtain rfl:p=j:=by omega
   have hlti:¬ (p:Int) < (p:Int):=by omega
   go_wp2
   go_ret
   exact ⟨rfl,X.out⟩
end Go.Proofs.YtepjbdklljlecaaGreat
