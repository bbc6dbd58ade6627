import Derived.Test.YtcipdampcmfmaabGreatJa4
import Derived.Test.YtcipdampcmfmaabGreatJa0
import Derived.Deep.RegionWith
import Derived.BigQuiet
namespace Go.Proofs.YtcipdampcmfmaabGreat.Tk
open Go.RowKit Go.Sort
set_option maxHeartbeats 2000000
attribute [local go_sem ↓] Go.wp_at_zero Go.wp_at_succ
theorem len72 (a:Option Addr) (n cap:Nat) (w:World):Calls Tryz.prog 218 #[.slice a n cap] w fun e w'=>e=.returned (.int .i64 (n:Nat))/\w'=w:=by
 go_enter Tryz.func218,Tryz.ntmps218
 go_wp2
 go_ret
 exact ⟨rfl,rfl⟩
theorem less73_c (g n cap i j:Nat) (hi:i < n) (hj:j < n) (x y:Ht) (w:World)
  (hx:w.cell? ⟨g,i * 3,none⟩=some (.int .i64 x.id)/\w.cell? ⟨g,i * 3 + 1,none⟩=some (.int .u64 x.hi)/\w.cell? ⟨g,i * 3 + 2,none⟩=some (.int .u64 x.lo))
  (hy:w.cell? ⟨g,j * 3,none⟩=some (.int .i64 y.id)/\w.cell? ⟨g,j * 3 + 1,none⟩=some (.int .u64 y.hi)/\w.cell? ⟨g,j * 3 + 2,none⟩=some (.int .u64 y.lo)) :
  Calls Tryz.prog 219 #[.slice (some ⟨g,0,none⟩) n cap,.int .i64 i,.int .i64 j] w fun e w'=>e=.returned (.bool (hlt y x))/\Gw w w':=by
 obtain ⟨x0,x1,x2⟩:=hx
 obtain ⟨y0,y1,y2⟩:=hy
 have i0:(0:Int)<=(i:Int):=by omega
 have i1:(i:Int) < (n:Int):=by omega
 have j0:(0:Int)<=(j:Int):=by omega
 have j1:(j:Int) < (n:Int):=by omega
 have C:Gw w w:=Gw.refl _
 go_enter Tryz.func219,Tryz.ntmps219
 go_wp2
 go_region_held3 (fun w'=>Gw w w'/\w'.cell? ⟨g,i * 3,none⟩=some (.int .i64 x.id)/\w'.cell? ⟨g,i * 3 + 1,none⟩=some (.int .u64 x.hi)/\w'.cell? ⟨g,i * 3 + 2,none⟩=some (.int .u64 x.lo)/\w'.cell? ⟨g,j * 3,none⟩=some (.int .i64 y.id)/\w'.cell? ⟨g,j * 3 + 1,none⟩=some (.int .u64 y.hi)/\w'.cell? ⟨g,j * 3 + 2,none⟩=some (.int .u64 y.lo)) (first | (with_reducible exact six_call (by assumption) (by assumption)) | (with_reducible assumption) | exact ⟨C.drew,x0,x1,x2,y0,y1,y2⟩) (first | (go_at_call 115;refine (less_c y x _).mono ?_;rintro e w' ⟨rfl,hg⟩))
 all_goals
  go_wp2
  go_ret
  exact ⟨rfl,And.left (by assumption)⟩
theorem less73 {w:World} {g cap:Nat} {d:Array Ht} (h:Own w (.slice (some ⟨g,0,none⟩) d.size cap) d) {i j:Nat} (hi:i < d.size) (hj:j < d.size) :
  Calls Tryz.prog 219 #[.slice (some ⟨g,0,none⟩) d.size cap,.int .i64 i,.int .i64 j] w fun e w'=>e=.returned (.bool (hlt d[j]! d[i]!))/\Gw w w' :=
 less73_c g d.size cap i j hi hj _ _ w (own_cell h hi) (own_cell h hj)
theorem set_drew (w:World) (a:Addr) (v:Value):(w.setCell a v).drew=w.drew.setCell a v:=rfl
theorem drew_one (w:World):w.drew=w.drewN 1:=rfl
theorem swap74_c (g n cap i j:Nat) (hi:i < n) (hj:j < n) (hne:i ≠ j) (x y:Ht) (w:World) (hf:∀ o,w.frozen? ⟨g,o,none⟩=false)
  (hx:w.cell? ⟨g,i * 3,none⟩=some (.int .i64 x.id)/\w.cell? ⟨g,i * 3 + 1,none⟩=some (.int .u64 x.hi)/\w.cell? ⟨g,i * 3 + 2,none⟩=some (.int .u64 x.lo))
  (hy:w.cell? ⟨g,j * 3,none⟩=some (.int .i64 y.id)/\w.cell? ⟨g,j * 3 + 1,none⟩=some (.int .u64 y.hi)/\w.cell? ⟨g,j * 3 + 2,none⟩=some (.int .u64 y.lo)) :
  Calls Tryz.prog 220 #[.slice (some ⟨g,0,none⟩) n cap,.int .i64 i,.int .i64 j] w fun e w'=>e=.returned (.tuple #[])/\∃ q,w'=((w.drewN q).setCells g (i * 3) (enc y)).setCells g (j * 3) (enc x):=by
 obtain ⟨x0,x1,x2⟩:=hx
 obtain ⟨y0,y1,y2⟩:=hy
 have i0:(0:Int)<=(i:Int):=by omega
 have i1:(i:Int) < (n:Int):=by omega
 have j0:(0:Int)<=(j:Int):=by omega
 have j1:(j:Int) < (n:Int):=by omega
 have f0:=hf (i * 3);have f1:=hf (i * 3 + 1);have f2:=hf (i * 3 + 2)
 have k0:=hf (j * 3);have k1:=hf (j * 3 + 1);have k2:=hf (j * 3 + 2)
 clear hf
 go_enter Tryz.func220,Tryz.ntmps220
 go_wp2
 go_region
 go_end0
 refine ⟨rfl,1,?_⟩
 rw [<- drew_one]
 simp only [enc,World.setCells,set_drew,Nat.add_assoc]
theorem swap74 {w:World} {g cap:Nat} {d:Array Ht} (h:Own w (.slice (some ⟨g,0,none⟩) d.size cap) d) {i j:Nat} (hi:i < d.size) (hj:j < d.size) (hne:i ≠ j) :
  Calls Tryz.prog 220 #[.slice (some ⟨g,0,none⟩) d.size cap,.int .i64 i,.int .i64 j] w fun e w'=>e=.returned (.tuple #[])/\Own w' (.slice (some ⟨g,0,none⟩) d.size cap) (swp d i j)/\Kp (fun k=>k=g) w w':=by
 refine (swap74_c g d.size cap i j hi hj hne d[i]! d[j]! w (own_froz h) (own_cell h hi) (own_cell h hj)).mono ?_
 rintro e w' ⟨rfl,q,rfl⟩
 have hw:=swap_worldK enc 3 enc_len w 0 q g 0 d i j hi hj
 rw [Nat.zero_add,Nat.zero_add,Nat.zero_add,ahead_zero,putRowK_self enc 3 w g 0 d (own_holds h)] at hw
 rw [hw]
 exact ⟨rfl,own_put h q _ (size_swp d i j),Kp.put w _⟩
theorem info58:∃ i z,Tryz.prog.info? 58=some i/\i.zero=some z/\i.size=3/\i.bytes=24/\z.cells.size=3:=by
 obtain ⟨i,hi⟩:=Option.isSome_iff_exists.1 (show (Tryz.prog.info? 58).isSome=true by kernel_rfl)
 refine ⟨i,.agg #[.int .i64 0,.int .u64 0,.int .u64 0],hi,?_,?_,?_,rfl⟩
 ·have h:(Tryz.prog.info? 58).map (·.zero)=some (some (.agg #[.int .i64 0,.int .u64 0,.int .u64 0])):=by kernel_rfl
  rw [hi] at h;simpa using h
 ·have h:(Tryz.prog.info? 58).map (·.size)=some 3:=by kernel_rfl
  rw [hi] at h;simpa using h
 ·have h:(Tryz.prog.info? 58).map (·.bytes)=some 24:=by kernel_rfl
  rw [hi] at h;simpa using h
end Go.Proofs.YtcipdampcmfmaabGreat.Tk

namespace Go.Proofs.YtcipdampcmfmaabGreat.Tk
open Go.RowKit Go.Sort
set_option maxHeartbeats 2000000
attribute [local go_sem ↓] Go.wp_at_zero Go.wp_at_succ
structure Hp (w:World) (hb:Nat) (k:Int) (v:Value) (d:Array Ht):Prop where
 blk:w.heap[hb]? = some (.cells #[.int .i64 k,v] 131 (0,0))
 own:Own w v d
 ne:v.ownBlock ≠ some hb
theorem Hp.cell0 {w:World} {hb:Nat} {k:Int} {v:Value} {d:Array Ht} (h:Hp w hb k v d):w.cell? ⟨hb,0,none⟩=some (.int .i64 k):=by simp [World.cell?,h.blk]
theorem Hp.cell1 {w:World} {hb:Nat} {k:Int} {v:Value} {d:Array Ht} (h:Hp w hb k v d):w.cell? ⟨hb,1,none⟩=some v:=by simp [World.cell?,h.blk]
theorem Hp.froz {w:World} {hb:Nat} {k:Int} {v:Value} {d:Array Ht} (h:Hp w hb k v d) (o:Nat):w.frozen? ⟨hb,o,none⟩=false:=by simp [World.frozen?,h.blk]
theorem Hp.lt {w:World} {hb:Nat} {k:Int} {v:Value} {d:Array Ht} (h:Hp w hb k v d):hb < w.heap.size:=(Array.getElem?_eq_some_iff.1 h.blk).1
theorem Hp.gr {w w':World} {hb:Nat} {k:Int} {v:Value} {d:Array Ht} (h:Hp w hb k v d) (g:Gr w w'):Hp w' hb k v d:=⟨by rw [g.block hb h.lt];exact h.blk,own_gr h.own g,h.ne⟩
theorem lt2 {w:World} {b:Nat} {A B:Obj} (h:b < w.heap.size):b < ((w.alloc A).drew.alloc B).heap.size:=by simp;omega
theorem froz2 {w:World} {b o:Nat} {A B:Obj} (h:w.frozen? ⟨b,o,none⟩=false) (hb:b < w.heap.size):((w.alloc A).drew.alloc B).frozen? ⟨b,o,none⟩=false:=by
 rw [World.frozen?_of_block (w:=w) (a:=⟨b,o,none⟩)]
 ·exact h
 ·show (((w.alloc A).drew).alloc B).heap[b]? = _
  rw [Below.heap_alloc _ _ _ (by simp;omega)]
  exact Below.heap_alloc _ _ _ hb
theorem push_fin {w w1:World} {A B:Obj} {hb:Nat} {k:Int} {v:Value} {d:Array Ht} {x:Ht} {g cap:Nat} (h:Hp w hb k v d)
  (hown:w1.ownsRow 0 58 3 (.slice (some ⟨g,0,none⟩) (d.size + 1) cap) (d.size + 1) (fl d.toList ++ enc x)) (hg:((w.alloc A).drew.alloc B).grownBy w1 v.ownBlock) (hat:v.ownBlock=some g ∨ g=w.heap.size + 2) :
  Hp (w1.setCell ⟨hb,1,none⟩ (.slice (some ⟨g,0,none⟩) (d.size + 1) cap)) hb k (.slice (some ⟨g,0,none⟩) (d.size + 1) cap) (d.push x)/\Kp (fun b=>b=hb ∨ some b=v.ownBlock) w (w1.setCell ⟨hb,1,none⟩ (.slice (some ⟨g,0,none⟩) (d.size + 1) cap))/\(v.ownBlock=some g ∨ w.heap.size<=g):=by
 have hlt:=h.lt
 have hgn:g ≠ hb:=by
  rcases hat with e | e
  ·intro e2;exact h.ne (by rw [e,e2])
  ·omega
 have hw1:w1.heap[hb]? = some (.cells #[.int .i64 k,v] 131 (0,0)):=by
  rw [hg.block hb (lt2 hlt) (Ne.symm h.ne)]
  show (((w.alloc A).drew).alloc B).heap[hb]? = _
  rw [Below.heap_alloc _ _ _ (by simp;omega)]
  exact (Below.heap_alloc _ _ _ hlt).trans h.blk
 have K0:Kp (fun b=>b=hb ∨ some b=v.ownBlock) w w1:=by
  refine Kp.trans (b:=(w.alloc A).drew.alloc B) (Kp.of_gr ?_) ((Kp.grown hg).mono fun _ _ hs=>.inr hs)
  exact Below.alloc (Below.drew (Below.alloc (Below.refl _ _) (Nat.le_refl _) _)) (by simp) _
 refine ⟨⟨?_,?_,?_⟩,K0.setCell (.inl (.inl rfl)) _,?_⟩
 ·simp [World.setCell,Array.getElem?_modify,hw1]
 ·have:Own w1 (.slice (some ⟨g,0,none⟩) (d.size + 1) cap) (d.push x):=by
   unfold Own
   rw [Array.size_push,Array.toList_push,fl_app,fl_one]
   exact hown
  exact own_kept this (Below.heap_setCell _ _ _ _ hgn)
 ·simp [Value.ownBlock,hgn]
 ·rcases hat with e | e
  ·exact .inl e
  ·exact .inr (by omega)
theorem push75 {w:World} {hb:Nat} {k:Int} {v:Value} {d:Array Ht} (h:Hp w hb k v d) (hn:d.size<=4000) (x:Ht) :
  Calls Tryz.prog 221 #[.pointer (some ⟨hb,1,none⟩),.iface 58 (hv x)] w fun e w'=>e=.returned (.tuple #[]) /\
   ∃ g cap,Hp w' hb k (.slice (some ⟨g,0,none⟩) (d.size + 1) cap) (d.push x)/\Kp (fun b=>b=hb ∨ some b=v.ownBlock) w w'/\(v.ownBlock=some g ∨ w.heap.size<=g):=by
 have hta:∀ w,(Instr.typeAssert (.iface 58 (hv x)) 20 58 true).run Tryz.prog w=.ok (.tuple #[hv x,.bool true]) w:=fun w=>by kernel_rfl
 obtain ⟨i0,z0,hi0,hz0,hz1,hz2,hz3⟩:=info58
 have h1:d.size + 1<=maxLen:=by simp only [maxLen];omega
 have c1:(w.alloc (.cells #[.int .i64 x.id,.int .u64 x.hi,.int .u64 x.lo] 58)).cell? ⟨hb,1,none⟩=some v:=alloc_keeps h.cell1 _
 have c2:=alloc_keeps c1 (.cells #[.int .i64 x.id,.int .u64 x.hi,.int .u64 x.lo] 58)
 have H:Hid (Hp w hb k v d):=h
 clear h
 go_enter Tryz.func221,Tryz.ntmps221
 go_wp2
 go_region_law (refine step_append_lies _ rfl (.tmp 15) (.tmp 17) 129 rfl 0 58 i0 z0 3 24 Tryz.underlying129 hi0 hz0 hz1 hz2 hz3 (by omega) v d.size (fl d.toList) (by simp [Act.eval]) (by first | exact (H.out.own.alloc _).alloc _ | exact (World.ownsRow.alloc (w:=World.drew _) (H.out.own.alloc _) _)) ⟨w.heap.size + 1,0,none⟩ 1 1 (enc x) (by simp [Act.eval]) rfl (by intro j u hu;rw [Addr.add_lit];rcases j with _ | _ | _ | j <;> simp [enc] at hu <;> subst hu <;> simp [go_sem]) (enc_one x) (by omega) h1 (by omega) (Nat.zero_le _) (w.heap.size + 2) (by simp) ?_;intro g cap w1 hown hgrow hat hlt;have cc:=hgrow.cell (a:=⟨hb,1,none⟩) (v:=v) (alloc_keeps (alloc_keeps H.out.cell1 _) _) (Ne.symm H.out.ne);have ff:=(hgrow.frozen_far ⟨hb,1,none⟩ (lt2 H.out.lt) (Ne.symm H.out.ne)).trans (froz2 (H.out.froz 1) H.out.lt))
 all_goals
  go_end0
  exact ⟨rfl,g,cap,push_fin H.out hown hgrow hat⟩
end Go.Proofs.YtcipdampcmfmaabGreat.Tk

namespace Go.Proofs.YtcipdampcmfmaabGreat.Tk
open Go.RowKit Go.Sort
theorem load53 (hb:Nat) (v:Value) (W:World) (hc:W.cell? ⟨hb,1,none⟩=some v):(loadVar 129 ⟨hb,1,none⟩).run Tryz.prog W=.ok v W:=by
 simp [loadVar,go_sem,hc]
theorem wrapchk (a : Addr) (nm : String) (W : World) : (Builtin.ssaWrapNilChk_ #[182] 182 #[.pointer (some a), strVal "", strVal nm]).run Tryz.prog W = .ok (.pointer (some a)) W := rfl
theorem recv_any (nm:String) (hb:Nat) (v:Value) (W:World) (hc:W.cell? ⟨hb,1,none⟩=some v) :
  (receiverAt 182 (.val (.pointer (some ⟨hb,1,none⟩))) false (some nm)).run Tryz.prog W=.ok v W:=by
 have hl:=load53 hb v W hc
 have hu:=run_underlying Tryz.underlying182 W
 have hw:=wrapchk ⟨hb,1,none⟩ nm W
 unfold receiverAt
 simp only [Sem.run_bind,hu,Result.andThen_ok,Place.get,Sem.run_pure,hw,asAddr,hl]
theorem inv_any (name:String) (f:Nat) (hm:(Tryz.prog.info? 182).map (fun i=>(i.methods.find? (·.name == name)).map fun m=>(m.path,m.func))=some (some (#[],some (f,false))))
  (hb:Nat) (v:Value) (W:World) (hc:W.cell? ⟨hb,1,none⟩=some v) :
  (method 370 182 (.pointer (some ⟨hb,1,none⟩)) name).run Tryz.prog W=.ok (f,v) W:=by
 obtain ⟨i,hi⟩:=Option.isSome_iff_exists.1 (show (Tryz.prog.info? 182).isSome=true by kernel_rfl)
 rw [hi] at hm
 simp only [Option.map_some,Option.some.injEq] at hm
 cases hf:i.methods.find? (·.name == name) with
 | none=>rw [hf] at hm;cases hm
 | some m =>
  rw [hf] at hm
  simp only [Option.map_some,Option.some.injEq,Prod.mk.injEq] at hm
  obtain ⟨h1,h2⟩:=hm
  have hr:=fun nm=>recv_any nm hb v W hc
  have ht:(typeInfo 182).run Tryz.prog W=.ok i W:=by simp [typeInfo,hi]
  rw [method]
  simp only [Sem.run_bind,ht,Result.andThen_ok,hf,h1,h2,follow,Sem.run_pure]
  simp [hr]
theorem inv_less (hb:Nat) (v:Value) (W:World) (hc:W.cell? ⟨hb,1,none⟩=some v) :
  (method 370 182 (.pointer (some ⟨hb, 1, none⟩)) "Less").run Tryz.prog W = .ok (219, v) W := inv_any "Less" 219 (by kernel_rfl) hb v W hc
theorem inv_swap (hb:Nat) (v:Value) (W:World) (hc:W.cell? ⟨hb,1,none⟩=some v) :
  (method 370 182 (.pointer (some ⟨hb, 1, none⟩)) "Swap").run Tryz.prog W = .ok (220, v) W := inv_any "Swap" 220 (by kernel_rfl) hb v W hc
theorem inv_len (hb:Nat) (v:Value) (W:World) (hc:W.cell? ⟨hb,1,none⟩=some v) :
  (method 370 182 (.pointer (some ⟨hb, 1, none⟩)) "Len").run Tryz.prog W = .ok (218, v) W := inv_any "Len" 218 (by kernel_rfl) hb v W hc
theorem inv_push (hb:Nat) (W:World) :
  (method 370 182 (.pointer (some ⟨hb, 1, none⟩)) "Push").run Tryz.prog W = .ok (221, .pointer (some ⟨hb, 1, none⟩)) W := by kernel_rfl
end Go.Proofs.YtcipdampcmfmaabGreat.Tk

namespace Go.Proofs.YtcipdampcmfmaabGreat
open Go.RowKit
set_option maxHeartbeats 2000000
theorem wide_any (n:Nat) (hn:n < 340282366920938463463374607431768211456) (o:Bool) (w:World) :
  Calls Tryz.prog 112 #[Nm n o] w fun e w'=>e=.returned (Wd n)/\Gr w w':=by
 have n0:=((NumAt.new w n o 85).call ((Gr.refl _).alloc #[.int .u64 0,.int .u64 0] 40)).call ((Gr.refl _).alloc #[.int .u64 0,.int .u64 0] 40)
 go_enter Tryz.func112,Tryz.ntmps112
 go_wp2
 go_loopw [4] (fun iv w'=>∃ z:Int,∃ k x y:Nat,iv=.int .i64 z/\z=(k:Int) - 1/\k<=4/\Hid (x=n / 18446744073709551616 / 65536 ^ k/\y=n % 18446744073709551616 / 65536 ^ k)/\Gr (((w.alloc (.cells #[.int .i64 (dd n 0),.int .i64 (dd n 1),.int .i64 (dd n 2),.int .i64 (dd n 3),.int .i64 (dd n 4),.int .i64 (dd n 5),.int .i64 (dd n 6),.int .i64 (dd n 7),.bool o] 85)).alloc (.cells #[.int .u64 0,.int .u64 0] 40))) w'/\NumAt w' w.heap.size n o/\w'.cell? ⟨w.heap.size + 1 + 1,0,none⟩=some (.int .u64 (x:Int))/\w'.cell? ⟨w.heap.size + 1 + 1,1,none⟩=some (.int .u64 (y:Int))/\w'.frozen? ⟨w.heap.size + 1 + 1,0,none⟩=false/\w'.frozen? ⟨w.heap.size + 1 + 1,1,none⟩=false) (fun iv _=>(intOf iv + 1).toNat)
 case atStart =>
  refine ⟨3,4,0,0,rfl,by omega,by omega,?_,(Gr.refl _).alloc _ _,n0,by simp [go_sem],by simp [go_sem],by simp [go_sem],by simp [go_sem]⟩
  show 0=n / 18446744073709551616 / 65536 ^ 4/\0=n % 18446744073709551616 / 65536 ^ 4
  simp only [Nat.reducePow];omega
 case round =>
  clear n0
  obtain ⟨z,k,x,y,rfl,hz,hk,X,hG,hN,c0,c1,f0,f1⟩:=hrel
  cases k with
  | zero =>
   have hz':z < 0:=by omega
   have E:Hid ((x:Int)=hi n/\(y:Int)=lo n):=by
    have:=X.out
    simp at this
    obtain ⟨h1,h2⟩:=this
    subst h1 h2;exact ⟨rfl,rfl⟩
   have V:=hG.var2
   simp only [World.size_alloc] at V
   obtain ⟨v0,v1,v2,v3⟩:=V
   clear hz X hN
   go_wp2
   refine bodyPost_ret (v:=Wd n) ?_ rfl ⟨rfl,?_⟩
   ·rw [Wd,<- E.out.1,<- E.out.2];simp [results,Tryz.results112,go_sem,v0,v1]
   ·exact (((((Gr.refl _).alloc _ _).alloc _ _).trans hG).setCell (by simp) _).setCell (by simp) _
  | succ t =>
   have hzt:z=(t:Int):=by omega
   subst hzt
   obtain ⟨e,he,he1,he2⟩:=dd_nat n t
   obtain ⟨f,hf,hf1,hf2⟩:=dd_nat n (4 + t)
   have ca:=hN.d t (by omega)
   have cb:=hN.d (4 + t) (by omega)
   rw [he] at ca;rw [hf] at cb
   have hnb:w.heap.size + 1 + 1 ≠ w.heap.size:=by omega
   have hx:x < 281474976710656/\y < 281474976710656:=by
    obtain ⟨h1,h2⟩:=X.out
    have ht:t=0 ∨ t=1 ∨ t=2 ∨ t=3:=by omega
    rcases ht with rfl | rfl | rfl | rfl <;> (simp only [Nat.reduceAdd,Nat.reducePow] at h1 h2;omega)
   obtain ⟨x1,y1⟩:=hx
   have X':Hid (65536 * x + f=n / 18446744073709551616 / 65536 ^ t/\65536 * y + e=n % 18446744073709551616 / 65536 ^ t):=by
    obtain ⟨h1,h2⟩:=X.out
    have ht:t=0 ∨ t=1 ∨ t=2 ∨ t=3:=by omega
    unfold Hid
    rcases ht with rfl | rfl | rfl | rfl <;> (simp only [Nat.reduceAdd,Nat.reducePow] at *;omega)
   clear he he2 hf hf2 X hz
   go_wp2
   go_region
   go_wp2
   go_region
   go_wp2
   refine ⟨⟨(t:Int) - 1,t,65536 * x + f,65536 * y + e,by go_num,rfl,by omega,X',?_,?_,?_,?_,?_,?_⟩,by simp [intOf]⟩
   ·exact (((hG.setCell (by simp) _).drew.setCell (by simp) _).drew)
   ·exact ((hN.far _ _ hnb _).far _ _ hnb _).call ((Gr.refl _).drew.drew)
   ·simp [go_sem,c0]
   ·simp [go_sem,c1]
   ·simp [go_sem,f0]
   ·simp [go_sem,f1]
end Go.Proofs.YtcipdampcmfmaabGreat

namespace Go.Proofs.YtcipdampcmfmaabGreat
open Go.RowKit
theorem plus_ex (n:Nat) (hn:n < 340282366920938463463374607431768211456) (o:Bool) (k v:Nat) (hk:k<=14) (hv:v < 8589934592) (w:World) :
  Calls Tryz.prog 150 #[Nm n o,.int .i64 (k:Int),.int .i64 (v:Int)] w fun e w'=>∃ q:Nat,∃ p:Bool,e=.returned (Nm q p)/\q < 340282366920938463463374607431768211456 /\
   Hid (q=(n + v * 65536 ^ k) % 340282366920938463463374607431768211456/\p=(o || decide (340282366920938463463374607431768211456<=n + v * 65536 ^ k)))/\Gr w w':=by
 refine (plus_any n hn o k v hk hv w).mono ?_
 rintro e w' ⟨rfl,g⟩
 exact ⟨_,_,rfl,Nat.mod_lt _ (by omega),⟨rfl,rfl⟩,g⟩
theorem sum_step (Y d:Nat) (ov:Bool) (q q':Nat) (p p':Bool) (hq:q=Y % 340282366920938463463374607431768211456) (hp:p=(ov || decide (340282366920938463463374607431768211456<=Y)))
  (hq':q'=(q + d) % 340282366920938463463374607431768211456) (hp':p'=(p || decide (340282366920938463463374607431768211456<=q + d))) :
  q'=(Y + d) % 340282366920938463463374607431768211456/\p'=(ov || decide (340282366920938463463374607431768211456<=Y + d)):=by
 subst hq hp hq' hp'
 refine ⟨by omega,?_⟩
 by_cases h:340282366920938463463374607431768211456<=Y
 ·rw [decide_eq_true h,decide_eq_true (show 340282366920938463463374607431768211456<=Y + d by omega)];simp
 ·rw [Nat.mod_eq_of_lt (by omega),decide_eq_false h];simp
theorem NumAt.zero (w:World) (t:TypeId):NumAt (w.alloc (.cells #[.int .i64 0,.int .i64 0,.int .i64 0,.int .i64 0,.int .i64 0,.int .i64 0,.int .i64 0,.int .i64 0,.bool false] t)) w.heap.size 0 false:=NumAt.new w 0 false t
theorem NumAt.drew {w:World} {B n:Nat} {o:Bool} (h:NumAt w B n o):NumAt w.drew B n o:=h.call (Gr.refl _).drew
end Go.Proofs.YtcipdampcmfmaabGreat

namespace Go.Proofs.YtcipdampcmfmaabGreat
open Go.RowKit
set_option maxHeartbeats 4000000
theorem plus_sum (n:Nat) (hn:n < 340282366920938463463374607431768211456) (o:Bool) (i k v:Nat) (hk:i + k<=14) (hv:v < 8589934592) (w:World) :
  Calls Tryz.prog 150 #[Nm n o,.int .i64 ((i:Int) + (k:Int)),.int .i64 (v:Int)] w fun e w'=>∃ q:Nat,∃ p:Bool,e=.returned (Nm q p)/\q < 340282366920938463463374607431768211456 /\
   Hid (q=(n + v * 65536 ^ (i + k)) % 340282366920938463463374607431768211456/\p=(o || decide (340282366920938463463374607431768211456<=n + v * 65536 ^ (i + k))))/\Gr w w':=by
 have:=plus_ex n hn o (i + k) v hk hv w
 rw [Int.natCast_add] at this;exact this
theorem times_step (n m i k e f v Y:Nat) (hf:f=m / 65536 ^ k % 65536) (hv:v=e * f) (hY:Y=n % 65536 ^ i * m + e * 65536 ^ i * (m % 65536 ^ k)) :
  Y + v * 65536 ^ (i + k)=n % 65536 ^ i * m + e * 65536 ^ i * (m % 65536 ^ (k + 1)):=by
 subst hY hv
 rw [Nat.pow_succ,Nat.mod_mul,<- hf,Nat.mul_add,Nat.pow_add,Nat.add_assoc]
 congr 2
 rw [Nat.mul_mul_mul_comm,Nat.mul_comm f,Nat.mul_assoc e]
theorem times_row (n m i e Y:Nat) (hm:m < 340282366920938463463374607431768211456) (he:e=n / 65536 ^ i % 65536) (hY:Y=n % 65536 ^ i * m + e * 65536 ^ i * (m % 65536 ^ 8)):Y=n % 65536 ^ (i + 1) * m:=by
 subst hY
 rw [Nat.mod_eq_of_lt (show m < 65536 ^ 8 from hm),Nat.pow_succ,Nat.mod_mul,<- he,Nat.add_mul,Nat.mul_comm e]
theorem times_false (n m:Nat) (hn:n < 340282366920938463463374607431768211456) (hm:m < 340282366920938463463374607431768211456) (o2:Bool) (w:World) :
  Calls Tryz.prog 111 #[Nm n false,Nm m o2] w fun e w' =>
   e=.returned (Nm (n * m % 340282366920938463463374607431768211456) (o2 || decide (340282366920938463463374607431768211456<=n * m)))/\Gr w w':=by
 have n0:=NumAt.new w n false 85
 have n1:=NumAt.new (w.alloc (.cells #[.int .i64 (dd n 0),.int .i64 (dd n 1),.int .i64 (dd n 2),.int .i64 (dd n 3),.int .i64 (dd n 4),.int .i64 (dd n 5),.int .i64 (dd n 6),.int .i64 (dd n 7),.bool false] 85)) m o2 85
 have n2:=NumAt.zero ((w.alloc (.cells #[.int .i64 (dd n 0),.int .i64 (dd n 1),.int .i64 (dd n 2),.int .i64 (dd n 3),.int .i64 (dd n 4),.int .i64 (dd n 5),.int .i64 (dd n 6),.int .i64 (dd n 7),.bool false] 85)).alloc (.cells #[.int .i64 (dd m 0),.int .i64 (dd m 1),.int .i64 (dd m 2),.int .i64 (dd m 3),.int .i64 (dd m 4),.int .i64 (dd m 5),.int .i64 (dd m 6),.int .i64 (dd m 7),.bool o2] 85)) 85
 have n3:=NumAt.new (((w.alloc (.cells #[.int .i64 (dd n 0),.int .i64 (dd n 1),.int .i64 (dd n 2),.int .i64 (dd n 3),.int .i64 (dd n 4),.int .i64 (dd n 5),.int .i64 (dd n 6),.int .i64 (dd n 7),.bool false] 85)).alloc (.cells #[.int .i64 (dd m 0),.int .i64 (dd m 1),.int .i64 (dd m 2),.int .i64 (dd m 3),.int .i64 (dd m 4),.int .i64 (dd m 5),.int .i64 (dd m 6),.int .i64 (dd m 7),.bool o2] 85)).alloc (.cells #[.int .i64 0,.int .i64 0,.int .i64 0,.int .i64 0,.int .i64 0,.int .i64 0,.int .i64 0,.int .i64 0,.bool false] 85)) 0 o2 85
 simp only [World.size_alloc] at n1 n2 n3
 go_enter Tryz.func111,Tryz.ntmps111
 go_wp2
 go_loopw [6] (fun iv w'=>∃ i Y q:Nat,∃ p:Bool,iv=.int .i64 (i:Int)/\i<=8/\q < 340282366920938463463374607431768211456/\Hid (Y=n % 65536 ^ i * m)/\Hid (q=Y % 340282366920938463463374607431768211456/\p=(o2 || decide (340282366920938463463374607431768211456<=Y)))/\Gr w w'/\NumAt w' w.heap.size n false/\NumAt w' (w.heap.size + 1) m o2/\NumAt w' (w.heap.size + 1 + 1) 0 false/\NumAt w' (w.heap.size + 1 + 1 + 1) q p) (fun iv _=>8 - (intOf iv).toNat)
 case atStart =>
  refine ⟨0,0,0,o2,rfl,by omega,by omega,by show 0=n % 65536 ^ 0 * m;rw [Nat.pow_zero,Nat.mod_one,Nat.zero_mul],⟨rfl,by rw [decide_eq_false (by omega)];simp⟩,((((Gr.refl _).alloc _ _).alloc _ _).alloc _ _).alloc _ _,((n0.call ((Gr.refl _).alloc _ _)).call ((Gr.refl _).alloc _ _)).call ((Gr.refl _).alloc _ _),(n1.call ((Gr.refl _).alloc _ _)).call ((Gr.refl _).alloc _ _),n2.call ((Gr.refl _).alloc _ _),n3⟩
 case round =>
  clear n0 n1 n2 n3
  obtain ⟨i,Y,q,p,rfl,hi8,hq,HY,X,hG,hN,hM,hR,hO⟩:=hrel
  by_cases hi:i < 8
  ·obtain ⟨e,he,he1,he2⟩:=dd_nat n i
   have E2:Hid (e=n / 65536 ^ i % 65536):=he2
   have hcn:=hN.d i hi
   rw [he] at hcn
   clear he he2
   have hib:decide ((i:Int) < 8)=true:=by simp;omega
   go_wp2
   go_loopw [7] (fun kv w'=>∃ k Y q:Nat,∃ p:Bool,kv=.int .i64 (k:Int)/\k<=8/\q < 340282366920938463463374607431768211456/\Hid (Y=n % 65536 ^ i * m + e * 65536 ^ i * (m % 65536 ^ k))/\Hid (q=Y % 340282366920938463463374607431768211456/\p=(o2 || decide (340282366920938463463374607431768211456<=Y)))/\Gr w w'/\NumAt w' w.heap.size n false/\NumAt w' (w.heap.size + 1) m o2/\NumAt w' (w.heap.size + 1 + 1) 0 false/\NumAt w' (w.heap.size + 1 + 1 + 1) q p) (fun kv _=>8 - (intOf kv).toNat)
   case atStart =>
    exact ⟨0,Y,q,p,rfl,by omega,hq,by unfold Hid;rw [Nat.pow_zero,Nat.mod_one,Nat.mul_zero,Nat.add_zero];exact HY.out,X,hG,hN,hM,hR,hO⟩
   case round =>
    clear HY X hG hN hM hR hO hcn hq
    obtain ⟨k,Y,q,p,rfl,hk8,hq,HY,X,hG,hN,hM,hR,hO⟩:=hrel
    by_cases hk:k < 8
    ·obtain ⟨f,hf,hf1,hf2⟩:=dd_nat m k
     have hcn:=hN.d i hi
     have hcm:=hM.d k hk
     obtain ⟨e',he',he1',he2'⟩:=dd_nat n i
     obtain rfl:e'=e:=by rw [he2',E2.out]
     rw [he'] at hcn
     rw [hf] at hcm
     have hvb:e' * f<=65535 * 65535:=Nat.mul_le_mul (by omega) (by omega)
     obtain ⟨v,hv⟩:∃ v:Nat,v=e' * f:=⟨_,rfl⟩
     have hvI:(e':Int) * (f:Int)=(v:Int):=by rw [hv,Int.natCast_mul]
     have hvb':v < 4294967296:=by omega
     have HS:Hid (Y + v * 65536 ^ (i + k)=n % 65536 ^ i * m + e' * 65536 ^ i * (m % 65536 ^ (k + 1))):=times_step n m i k e' f v Y hf2 hv HY.out
     obtain ⟨c0,c1,c2,c3,c4,c5,c6,c7,c8⟩:=hO.cells
     have fo:=hO.f 8 (by omega)
     clear hf hf2 he' he2' hv hvb HY
     by_cases hbig:0 < v/\8<=i + k
     ·obtain ⟨hv0,hik⟩:=hbig
      have X':Hid (q=(Y + v * 65536 ^ (i + k)) % 340282366920938463463374607431768211456/\true=(o2 || decide (340282366920938463463374607431768211456<=Y + v * 65536 ^ (i + k)))):=by
       obtain ⟨x1,x2⟩:=X.out
       obtain ⟨p1,p2⟩:=pow_past (i + k) hik v q hq hv0
       refine ⟨by rw [<- p1,x1];omega,?_⟩
       have:340282366920938463463374607431768211456<=Y + v * 65536 ^ (i + k):=by omega
       rw [decide_eq_true this];simp
      go_wp2
      go_quiet (fail)
      go_wp2
      refine ⟨⟨k + 1,Y + v * 65536 ^ (i + k),q,true,by go_num,by omega,hq,HS,X',(hG.drewN _).setCell (by dsimp only;omega) _,?_,?_,?_,?_⟩,by simp [intOf];omega⟩
      ·exact (hN.call ((Gr.refl _).drewN _)).far _ _ (by omega) _
      ·exact (hM.call ((Gr.refl _).drewN _)).far _ _ (by omega) _
      ·exact (hR.call ((Gr.refl _).drewN _)).far _ _ (by omega) _
      ·exact (hO.call ((Gr.refl _).drewN _)).setOver true
     ·by_cases hv0:0 < v
      ·have hik:i + k < 8:=by omega
       clear hbig
       go_wp2
       go_quiet (fail)
       go_wp2_with (go_at_call 150;refine (plus_sum q hq p i k v (by omega) (by omega) _).mono ?_;rintro _ w2 ⟨q',p',rfl,hq',Z,g2⟩;have hO2:=(hO.call ((Gr.refl _).drewN _)).call g2;obtain ⟨d0,d1,d2,d3,d4,d5,d6,d7,d8⟩:=hO2.cells;obtain ⟨f0,f1,f2,f3,f4,f5,f6,f7,f8⟩:=hO2.open9)
       go_roundw
       case measure=>simp [intOf];omega
       refine ⟨k + 1,Y + v * 65536 ^ (i + k),q',p',by go_num,by omega,hq',HS,?_,((hG.drewN _).trans g2).store9 (by omega) _ _ _ _ _ _ _ _ _,?_,?_,?_,hO2.store q' p'⟩
       ·exact sum_step Y (v * 65536 ^ (i + k)) _ q q' p p' X.out.1 X.out.2 Z.out.1 Z.out.2
       ·have hN2:=(hN.call ((Gr.refl _).drewN _)).call g2
        exact (((((((((hN2.far _ _ (by omega) _).far _ _ (by omega) _).far _ _ (by omega) _).far _ _ (by omega) _).far _ _ (by omega) _).far _ _ (by omega) _).far _ _ (by omega) _).far _ _ (by omega) _).far _ _ (by omega) _)
       ·have hM2:=(hM.call ((Gr.refl _).drewN _)).call g2
        exact (((((((((hM2.far _ _ (by omega) _).far _ _ (by omega) _).far _ _ (by omega) _).far _ _ (by omega) _).far _ _ (by omega) _).far _ _ (by omega) _).far _ _ (by omega) _).far _ _ (by omega) _).far _ _ (by omega) _)
       ·have hR2:=(hR.call ((Gr.refl _).drewN _)).call g2
        exact (((((((((hR2.far _ _ (by omega) _).far _ _ (by omega) _).far _ _ (by omega) _).far _ _ (by omega) _).far _ _ (by omega) _).far _ _ (by omega) _).far _ _ (by omega) _).far _ _ (by omega) _).far _ _ (by omega) _)
      ·have hv1:v<=0:=by omega
       clear hbig
       go_wp2
       go_quiet (fail)
       go_wp2_with (go_at_call 150;refine (plus_sum q hq p i k v (by omega) (by omega) _).mono ?_;rintro _ w2 ⟨q',p',rfl,hq',Z,g2⟩;have hO2:=(hO.call ((Gr.refl _).drewN _)).call g2;obtain ⟨d0,d1,d2,d3,d4,d5,d6,d7,d8⟩:=hO2.cells;obtain ⟨f0,f1,f2,f3,f4,f5,f6,f7,f8⟩:=hO2.open9)
       go_roundw
       case measure=>simp [intOf];omega
       refine ⟨k + 1,Y + v * 65536 ^ (i + k),q',p',by go_num,by omega,hq',HS,?_,((hG.drewN _).trans g2).store9 (by omega) _ _ _ _ _ _ _ _ _,?_,?_,?_,hO2.store q' p'⟩
       ·exact sum_step Y (v * 65536 ^ (i + k)) _ q q' p p' X.out.1 X.out.2 Z.out.1 Z.out.2
       ·have hN2:=(hN.call ((Gr.refl _).drewN _)).call g2
        exact (((((((((hN2.far _ _ (by omega) _).far _ _ (by omega) _).far _ _ (by omega) _).far _ _ (by omega) _).far _ _ (by omega) _).far _ _ (by omega) _).far _ _ (by omega) _).far _ _ (by omega) _).far _ _ (by omega) _)
       ·have hM2:=(hM.call ((Gr.refl _).drewN _)).call g2
        exact (((((((((hM2.far _ _ (by omega) _).far _ _ (by omega) _).far _ _ (by omega) _).far _ _ (by omega) _).far _ _ (by omega) _).far _ _ (by omega) _).far _ _ (by omega) _).far _ _ (by omega) _).far _ _ (by omega) _)
       ·have hR2:=(hR.call ((Gr.refl _).drewN _)).call g2
        exact (((((((((hR2.far _ _ (by omega) _).far _ _ (by omega) _).far _ _ (by omega) _).far _ _ (by omega) _).far _ _ (by omega) _).far _ _ (by omega) _).far _ _ (by omega) _).far _ _ (by omega) _).far _ _ (by omega) _)
    ·have hk9:k=8:=by omega
     have HY':Hid (Y=n % 65536 ^ (i + 1) * m):=times_row n m i e Y hm E2.out (by rw [HY.out,hk9])
     clear HY hk9
     go_wp2
     refine ⟨⟨i + 1,Y,q,p,by go_num,by omega,hq,HY',X,hG,hN,hM,hR,hO⟩,by simp [intOf];omega⟩
  ·have hi9:i=8:=by omega
   obtain ⟨r0,r1,r2,r3,r4,r5,r6,r7,r8⟩:=hR.cells
   obtain ⟨f0,f1,f2,f3,f4,f5,f6,f7,f8⟩:=hR.open9
   obtain ⟨c0,c1,c2,c3,c4,c5,c6,c7,c8⟩:=hO.cells
   have E:Hid (q=n * m % 340282366920938463463374607431768211456/\p=(o2 || decide (340282366920938463463374607431768211456<=n * m))):=by
    have h1:=HY.out
    rw [hi9,Nat.mod_eq_of_lt (show n < 65536 ^ 8 from hn)] at h1
    have h2:=X.out
    rw [h1] at h2
    exact h2
   clear HY X hi9 hN hM hR hO
   go_wp2
   exact bodyPost_ret (v:=Nm q p) (by simp [results,Tryz.results111,go_sem,r0,r1,r2,r3,r4,r5,r6,r7,r8]) rfl ⟨by rw [<- E.out.1,<- E.out.2],hG.store9 (by omega) _ _ _ _ _ _ _ _ _⟩
end Go.Proofs.YtcipdampcmfmaabGreat
