import Derived.Test.YtcipdampcmfmaaaGreatIa4
import Derived.Test.YtcipdampcmfmaaaGreatIa3
import Derived.Test.YtcipdampcmfmaaaGreatIa0
namespace Go.Proofs.YtcipdampcmfmaaaGreat.Tk
open Go.RowKit Go.Sort
theorem load53 (hb:Nat) (v:Value) (W:World) (hc:W.cell? ⟨hb,1,none⟩=some v):(loadVar 120 ⟨hb,1,none⟩).run Tryz.prog W=.ok v W:=by
 simp [loadVar,go_sem,hc]
theorem wrapchk (a : Addr) (nm : String) (W : World) : (Builtin.ssaWrapNilChk_ #[164] 164 #[.pointer (some a), strVal "", strVal nm]).run Tryz.prog W = .ok (.pointer (some a)) W := rfl
theorem recv_any (nm:String) (hb:Nat) (v:Value) (W:World) (hc:W.cell? ⟨hb,1,none⟩=some v) :
  (receiverAt 164 (.val (.pointer (some ⟨hb,1,none⟩))) false (some nm)).run Tryz.prog W=.ok v W:=by
 have hl:=load53 hb v W hc
 have hu:=run_underlying Tryz.underlying164 W
 have hw:=wrapchk ⟨hb,1,none⟩ nm W
 unfold receiverAt
 simp only [Sem.run_bind,hu,Result.andThen_ok,Place.get,Sem.run_pure,hw,asAddr,hl]
theorem inv_any (name:String) (f:Nat) (hm:(Tryz.prog.info? 164).map (fun i=>(i.methods.find? (·.name == name)).map fun m=>(m.path,m.func))=some (some (#[],some (f,false))))
  (hb:Nat) (v:Value) (W:World) (hc:W.cell? ⟨hb,1,none⟩=some v) :
  (method 389 164 (.pointer (some ⟨hb,1,none⟩)) name).run Tryz.prog W=.ok (f,v) W:=by
 obtain ⟨i,hi⟩:=Option.isSome_iff_exists.1 (show (Tryz.prog.info? 164).isSome=true by kernel_rfl)
 rw [hi] at hm
 simp only [Option.map_some,Option.some.injEq] at hm
 cases hf:i.methods.find? (·.name == name) with
 | none=>rw [hf] at hm;cases hm
 | some m =>
  rw [hf] at hm
  simp only [Option.map_some,Option.some.injEq,Prod.mk.injEq] at hm
  obtain ⟨h1,h2⟩:=hm
  have hr:=fun nm=>recv_any nm hb v W hc
  have ht:(typeInfo 164).run Tryz.prog W=.ok i W:=by simp [typeInfo,hi]
  rw [method]
  simp only [Sem.run_bind,ht,Result.andThen_ok,hf,h1,h2,follow,Sem.run_pure]
  simp [hr]
theorem inv_less (hb:Nat) (v:Value) (W:World) (hc:W.cell? ⟨hb,1,none⟩=some v) :
  (method 389 164 (.pointer (some ⟨hb, 1, none⟩)) "Less").run Tryz.prog W = .ok (256, v) W := inv_any "Less" 256 (by kernel_rfl) hb v W hc
theorem inv_swap (hb:Nat) (v:Value) (W:World) (hc:W.cell? ⟨hb,1,none⟩=some v) :
  (method 389 164 (.pointer (some ⟨hb, 1, none⟩)) "Swap").run Tryz.prog W = .ok (257, v) W := inv_any "Swap" 257 (by kernel_rfl) hb v W hc
theorem inv_len (hb:Nat) (v:Value) (W:World) (hc:W.cell? ⟨hb,1,none⟩=some v) :
  (method 389 164 (.pointer (some ⟨hb, 1, none⟩)) "Len").run Tryz.prog W = .ok (255, v) W := inv_any "Len" 255 (by kernel_rfl) hb v W hc
theorem inv_push (hb:Nat) (W:World) :
  (method 389 164 (.pointer (some ⟨hb, 1, none⟩)) "Push").run Tryz.prog W = .ok (258, .pointer (some ⟨hb, 1, none⟩)) W := by kernel_rfl
end Go.Proofs.YtcipdampcmfmaaaGreat.Tk

namespace Go.Proofs.YtcipdampcmfmaaaGreat.Tk
open Go.RowKit Go.Sort
def MaxH (d:Array Ht):Prop:=∀ i,0 < i->i < d.size->hlt d[(i - 1) / 2]! d[i]! = false
def UpInv (d:Array Ht) (j:Nat):Prop :=
 (∀ i,0 < i->i < d.size->i ≠ j->hlt d[(i - 1) / 2]! d[i]! = false)/\∀ c,0 < c->c < d.size->(c - 1) / 2=j->0 < j->hlt d[(j - 1) / 2]! d[c]! = false
def DownInv (d:Array Ht) (i:Nat):Prop :=
 (∀ c,0 < c->c < d.size->(c - 1) / 2 ≠ i->hlt d[(c - 1) / 2]! d[c]! = false)/\∀ c,0 < c->c < d.size->(c - 1) / 2=i->0 < i->hlt d[(i - 1) / 2]! d[c]! = false
theorem swp_perm (d:Array Ht) (i j:Nat) (hi:i < d.size) (hj:j < d.size):(swp d i j).toList.Perm d.toList:=by
 have h:=(swp_permIn d 0 d.size i j (Nat.zero_le _) hi (Nat.zero_le _) hj (Nat.le_refl _)).2.2
 rw [show (swp d i j).extract 0 d.size=swp d i j by rw [<- size_swp d i j,Array.extract_size],Array.extract_size] at h
 exact h
theorem maxh_root {d:Array Ht} (h:MaxH d):∀ i,i < d.size->hlt d[0]! d[i]! = false:=by
 intro i
 induction i using Nat.strongRecOn with
 | _ i ih =>
  intro hi
  by_cases h0:i=0
  ·subst h0;exact hlt_irrefl _
  ·exact hlt_ntrans (ih ((i - 1) / 2) (by omega) (by omega)) (h i (by omega) hi)
theorem up_zero {d:Array Ht} (h:UpInv d 0):MaxH d:=fun i h0 h1=>h.1 i h0 h1 (by omega)
theorem up_stop {d:Array Ht} {j:Nat} (h:UpInv d j) (hn:0 < j->hlt d[(j - 1) / 2]! d[j]! = false):MaxH d:=by
 intro i h0 h1
 by_cases e:i=j
 ·subst e;exact hn h0
 ·exact h.1 i h0 h1 e
theorem up_step {d:Array Ht} {j:Nat} (h:UpInv d j) (h0:0 < j) (hj:j < d.size) (hl:hlt d[(j - 1) / 2]! d[j]! = true):UpInv (swp d ((j - 1) / 2) j) ((j - 1) / 2):=by
 have hi:(j - 1) / 2 < d.size:=by omega
 have g:=swp_get d hi hj
 constructor
 ·intro c c0 c1 c2
  rw [size_swp] at c1
  rw [g,g]
  by_cases e1:c=j
  ·subst e1
   rw [if_neg (by omega),if_pos rfl,if_pos rfl]
   exact hlt_asymm hl
  ·rw [if_neg e1,if_neg c2]
   by_cases e2:(c - 1) / 2=j
   ·rw [if_pos e2]
    exact h.2 c c0 c1 e2 h0
   ·rw [if_neg e2]
    by_cases e3:(c - 1) / 2=(j - 1) / 2
    ·rw [if_pos e3]
     have:=h.1 c c0 c1 e1
     rw [e3] at this
     exact hlt_ntrans (hlt_asymm hl) this
    ·rw [if_neg e3]
     exact h.1 c c0 c1 e1
 ·intro c c0 c1 c2 c3
  rw [size_swp] at c1
  rw [g,g,if_neg (by omega),if_neg (by omega)]
  by_cases e1:c=j
  ·subst e1
   rw [if_pos rfl]
   exact h.1 _ c3 hi (by omega)
  ·rw [if_neg e1,if_neg (by omega)]
   have a:=h.1 c c0 c1 e1
   rw [c2] at a
   exact hlt_ntrans (h.1 _ c3 hi (by omega)) a
theorem up_push {d:Array Ht} (h:MaxH d) (x:Ht):UpInv (d.push x) d.size:=by
 constructor
 ·intro i h0 h1 h2
  rw [Array.size_push] at h1
  have:=h i h0 (by omega)
  rw [getElem!_pos d _ (show (i - 1) / 2 < d.size by omega),getElem!_pos d _ (show i < d.size by omega)] at this
  rw [getElem!_pos (d.push x) _ (show (i - 1) / 2 < (d.push x).size by rw [Array.size_push];omega),getElem!_pos (d.push x) _ (show i < (d.push x).size by rw [Array.size_push];omega),Array.getElem_push_lt (by omega),Array.getElem_push_lt (by omega)]
  exact this
 ·intro c h0 h1 h2 _
  rw [Array.size_push] at h1;omega
theorem down_stop0 {d:Array Ht} {i:Nat} (h:DownInv d i) (hn:d.size<=2 * i + 1):MaxH d:=fun c c0 c1=>h.1 c c0 c1 (by omega)
def Child (d:Array Ht) (i j:Nat):Prop:=0 < j/\j < d.size/\(j - 1) / 2=i/\∀ c,0 < c->c < d.size->(c - 1) / 2=i->hlt d[j]! d[c]! = false
theorem down_stop1 {d:Array Ht} {i j:Nat} (h:DownInv d i) (hc:Child d i j) (hn:hlt d[i]! d[j]! = false):MaxH d:=by
 intro c c0 c1
 by_cases e:(c - 1) / 2=i
 ·rw [e];exact hlt_ntrans hn (hc.2.2.2 c c0 c1 e)
 ·exact h.1 c c0 c1 e
theorem down_step {d:Array Ht} {i j:Nat} (h:DownInv d i) (hc:Child d i j) (hl:hlt d[i]! d[j]! = true):DownInv (swp d i j) j:=by
 obtain ⟨j0,j1,j2,j3⟩:=hc
 have hi:i < d.size:=by omega
 have g:=swp_get d hi j1
 constructor
 ·intro c c0 c1 c2
  rw [size_swp] at c1
  rw [g,g,if_neg c2]
  by_cases e1:(c - 1) / 2=i
  ·rw [if_pos e1]
   by_cases e2:c=j
   ·rw [if_pos e2];exact hlt_asymm hl
   ·rw [if_neg e2,if_neg (by omega)]
    exact j3 c c0 c1 e1
  ·rw [if_neg e1]
   by_cases e2:c=j
   ·subst e2;omega
   ·rw [if_neg e2]
    by_cases e3:c=i
    ·subst e3
     rw [if_pos rfl]
     exact h.2 j j0 j1 j2 c0
    ·rw [if_neg e3];exact h.1 c c0 c1 e1
 ·intro c c0 c1 c2 _
  rw [size_swp] at c1
  rw [g,g,if_neg (by omega),if_pos j2,if_neg (by omega),if_neg (by omega)]
  have:=h.1 c c0 c1 (by omega)
  rw [c2] at this
  exact this
theorem child_one {d:Array Ht} {i:Nat} (h1:2 * i + 1 < d.size) (h2:d.size<=2 * i + 2):Child d i (2 * i + 1) :=
 ⟨by
   omega,h1,by omega,fun c _ c1 c2=>by
   obtain rfl:c=2 * i + 1:=by omega
   exact hlt_irrefl _⟩
theorem child_l {d:Array Ht} {i:Nat} (h2:2 * i + 2 < d.size) (hl:hlt d[2 * i + 1]! d[2 * i + 2]! = false):Child d i (2 * i + 1) :=
 ⟨by omega,by omega,by omega,fun c _ c1 c2=>by
  have:c=2 * i + 1 ∨ c=2 * i + 2:=by omega
  rcases this with rfl | rfl
  ·exact hlt_irrefl _
  ·exact hl⟩
theorem child_r {d:Array Ht} {i:Nat} (h2:2 * i + 2 < d.size) (hl:hlt d[2 * i + 1]! d[2 * i + 2]! = true):Child d i (2 * i + 2) :=
 ⟨by omega,by omega,by omega,fun c _ c1 c2=>by
  have:c=2 * i + 1 ∨ c=2 * i + 2:=by omega
  rcases this with rfl | rfl
  ·exact hlt_asymm hl
  ·exact hlt_irrefl _⟩
theorem down_set {d:Array Ht} (h:MaxH d) (x:Ht):DownInv (d.setIfInBounds 0 x) 0:=by
 constructor
 ·intro c c0 c1 c2
  rw [Array.size_setIfInBounds] at c1
  rw [getElem!_set_other d 0 _ x c2,getElem!_set_other d 0 _ x (by omega)]
  exact h c c0 c1
 ·intro c _ _ _ h0;exact absurd h0 (Nat.lt_irrefl _)
end Go.Proofs.YtcipdampcmfmaaaGreat.Tk

namespace Go.Proofs.YtcipdampcmfmaaaGreat.Tk
open Go.RowKit Go.Sort
set_option maxRecDepth 100000
set_option maxHeartbeats 2000000
attribute [local go_sem ↓] Go.wp_at_zero Go.wp_at_succ
theorem Hp.kp {S:Nat->Prop} {w w':World} {hb:Nat} {k:Int} {v:Value} {d:Array Ht} (h:Hp w hb k v d) (K:Kp S w w') (h1:¬ S hb) (h2:∀ g,v.ownBlock=some g->¬ S g):Hp w' hb k v d :=
 ⟨by rw [K.block hb h.lt h1];exact h.blk,own_kp h.own K h2,h.ne⟩
theorem less73n {w:World} {g n cap:Nat} {d:Array Ht} (h:Own w (.slice (some ⟨g,0,none⟩) n cap) d) (hs:d.size=n) {i j:Nat} (hi:i < n) (hj:j < n) :
  Calls Tryz.prog 256 #[.slice (some ⟨g,0,none⟩) n cap,.int .i64 i,.int .i64 j] w fun e w'=>e=.returned (.bool (hlt d[j]! d[i]!))/\Gw w w':=by
 subst hs;exact less73 h hi hj
theorem swap74n {w:World} {hb g n cap:Nat} {k:Int} {d:Array Ht} (h:Hp w hb k (.slice (some ⟨g,0,none⟩) n cap) d) (hs:d.size=n) {i j:Nat} (hi:i < n) (hj:j < n) (hne:i ≠ j) :
  Calls Tryz.prog 257 #[.slice (some ⟨g,0,none⟩) n cap,.int .i64 i,.int .i64 j] w fun e w'=>e=.returned (.tuple #[])/\Hp w' hb k (.slice (some ⟨g,0,none⟩) n cap) (swp d i j)/\Kp (fun k=>k=g) w w':=by
 subst hs
 refine (swap74 h.own hi hj hne).mono ?_
 rintro e w' ⟨rfl,ho,hk⟩
 refine ⟨rfl,⟨?_,ho,h.ne⟩,hk⟩
 rw [hk.block hb h.lt (by have:=h.ne;simp [Value.ownBlock] at this;omega)]
 exact h.blk
def Fixed (w w':World) (hb g n cap:Nat) (k:Int) (d:Array Ht):Prop :=
 ∃ d',d'.toList.Perm d.toList/\MaxH d'/\Hp w' hb k (.slice (some ⟨g,0,none⟩) n cap) d'/\Kp (fun b=>b=g) w w'
theorem up_c {w:World} {hb g n cap:Nat} {k:Int} {d:Array Ht} (h:Hp w hb k (.slice (some ⟨g,0,none⟩) n cap) d) (hs:d.size=n) (hn:n<=4000) (j:Nat) (hj:j < n) (hu:UpInv d j) :
  Calls Tryz.prog 170 #[.iface 164 (.pointer (some ⟨hb,1,none⟩)),.int .i64 j] w fun e w'=>e=.returned (.tuple #[])/\Fixed w w' hb g n cap k d:=by
 have H:Hid (Hp w hb k (.slice (some ⟨g,0,none⟩) n cap) d/\UpInv d j/\d.size=n):=⟨h,hu,hs⟩
 clear h hu hs
 go_enter Tryz.func170,Tryz.ntmps170
 go_wp2
 go_loopw [1] (fun iv w'=>∃ (q:Nat) (d':Array Ht),iv=.int .i64 (q:Int)/\q < n/\Hid (d'.toList.Perm d.toList/\UpInv d' q/\Hp w' hb k (.slice (some ⟨g,0,none⟩) n cap) d'/\Kp (fun b=>b=g) w w')) (fun iv _=>(intOf iv).toNat)
 case atStart=>exact ⟨j,d,rfl,hj,List.Perm.refl _,H.out.2.1,H.out.1,Kp.refl _ _⟩
 case round =>
  clear hj
  obtain ⟨q,d',rfl,hq,X⟩:=hrel
  have hcell:wr.cell? ⟨hb,1,none⟩=some (.slice (some ⟨g,0,none⟩) n cap):=X.out.2.2.1.cell1
  have hs':Hid (d'.size=n):=by have:=X.out.1.length_eq;have:=H.out.2.2;simp at *;unfold Hid;omega
  by_cases h0:q=0
  ·subst h0
   go_wp2
   go_end0
   exact ⟨rfl,d',X.out.1,up_zero X.out.2.1,X.out.2.2.1,X.out.2.2.2⟩
  ·have hq0:(0:Int)<=(q:Int) - 1:=by omega
   obtain ⟨p,hp⟩:∃ p:Nat,p=(q - 1) / 2:=⟨_,rfl⟩
   have hp1:((q:Int) - 1) / 2=(p:Int):=by omega
   have hpq:p ≠ q:=by omega
   have hpn:p < n:=by omega
   have P:Hid (p=(q - 1) / 2):=hp
   clear hp
   have hm:=inv_less hb _ wr hcell
   have hl:=less73n X.out.2.2.1.own hs'.out hq hpn
   obtain ⟨t,ht⟩:∃ t,t=hlt d'[p]! d'[q]! := ⟨_,rfl⟩
   rw [<- ht] at hl
   have T:Hid (t=hlt d'[p]! d'[q]!):=ht
   clear ht
   cases t with
   | false =>
    go_wp2_with fail
    refine hl.mono ?_
    rintro e w1 ⟨rfl,g1⟩
    go_wp2
    go_end0
    have p1:=P.out
    refine ⟨rfl,d',X.out.1,up_stop X.out.2.1 (fun _=>by rw [<- p1];exact T.out.symm),X.out.2.2.1.gr g1.gr,X.out.2.2.2.trans (Kp.of_gr g1.gr)⟩
   | true =>
    go_wp2_with fail
    refine hl.mono ?_
    rintro e w1 ⟨rfl,g1⟩
    have H1:=X.out.2.2.1.gr g1.gr
    have hm1:=inv_swap hb _ w1 H1.cell1
    have hsw:=swap74n H1 hs'.out hpn hq hpq
    have XX:Hid (Hp w1 hb k (.slice (some ⟨g,0,none⟩) n cap) d'):=H1
    clear H1 hm hl
    go_wp2_with fail
    refine hsw.mono ?_
    rintro e w2 ⟨rfl,h2,k2⟩
    have h2':Hid (Hp w2 hb k (.slice (some ⟨g,0,none⟩) n cap) (swp d' p q)):=h2
    clear h2 hsw hm1
    go_wp2
    go_roundw
    case rel =>
     have p1:=P.out
     have sz:=hs'.out
     subst p1
     refine ⟨_,swp d' ((q - 1) / 2) q,rfl,hpn,?_,?_,h2'.out,(X.out.2.2.2.trans (Kp.of_gr g1.gr)).trans k2⟩
     ·exact (swp_perm d' _ _ (by omega) (by omega)).trans X.out.1
     ·exact up_step X.out.2.1 (by omega) (by omega) T.out.symm
    case measure=>have:=P.out;simp [intOf];omega
end Go.Proofs.YtcipdampcmfmaaaGreat.Tk

namespace Go.Proofs.YtcipdampcmfmaaaGreat.Tk
open Go.RowKit Go.Sort
set_option maxRecDepth 100000
set_option maxHeartbeats 4000000
attribute [local go_sem ↓] Go.wp_at_zero Go.wp_at_succ
theorem down_c {w:World} {hb g n cap:Nat} {k:Int} {d:Array Ht} (h:Hp w hb k (.slice (some ⟨g,0,none⟩) n cap) d) (hs:d.size=n) (hn:n<=4000) (j:Nat) (hj:j < n) (hu:DownInv d j) :
  Calls Tryz.prog 171 #[.iface 164 (.pointer (some ⟨hb,1,none⟩)),.int .i64 j,.int .i64 n] w fun e w'=>(∃ b,e=.returned (.bool b))/\Fixed w w' hb g n cap k d:=by
 have H:Hid (Hp w hb k (.slice (some ⟨g,0,none⟩) n cap) d/\DownInv d j/\d.size=n):=⟨h,hu,hs⟩
 clear h hu hs
 go_enter Tryz.func171,Tryz.ntmps171
 go_wp2
 go_loopw [7] (fun iv w'=>∃ (q:Nat) (d':Array Ht),iv=.int .i64 (q:Int)/\q < n/\Hid (d'.toList.Perm d.toList/\DownInv d' q/\Hp w' hb k (.slice (some ⟨g,0,none⟩) n cap) d'/\Kp (fun b=>b=g) w w')) (fun iv _=>n - (intOf iv).toNat)
 case atStart=>exact ⟨j,d,rfl,hj,List.Perm.refl _,H.out.2.1,H.out.1,Kp.refl _ _⟩
 case round =>
  clear hj
  obtain ⟨q,d',rfl,hq,X⟩:=hrel
  have hcell:wr.cell? ⟨hb,1,none⟩=some (.slice (some ⟨g,0,none⟩) n cap):=X.out.2.2.1.cell1
  have hs':Hid (d'.size=n):=by have:=X.out.1.length_eq;have:=H.out.2.2;simp at *;unfold Hid;omega
  obtain ⟨c1,hc1⟩:∃ c1:Nat,c1=2 * q + 1:=⟨_,rfl⟩
  have e1:2 * (q:Int) + 1=(c1:Int):=by omega
  have C1:Hid (c1=2 * q + 1):=hc1
  by_cases h1:n<=c1
  ·have h1':(n:Int)<=(c1:Int):=by omega
   clear hc1
   go_wp2
   go_ret
   refine ⟨⟨_,rfl⟩,d',X.out.1,down_stop0 X.out.2.1 ?_,X.out.2.2.1,X.out.2.2.2⟩
   have:=hs'.out;have:=C1.out;omega
  have h1':(c1:Int) < (n:Int):=by omega
  have h1n:c1 < n:=by omega
  by_cases h2:n<=c1 + 1
  ·have h2':(n:Int)<=(c1:Int) + 1:=by omega
   have hch:Hid (Child d' q c1):=by
    have s1:=hs'.out;have s2:=C1.out;subst s2
    exact child_one (by omega) (by omega)
   clear hc1 h1 h2
   have hne:q ≠ c1:=by have:=C1.out;omega
   have Z:Hid (Hp wr hb k (.slice (some ⟨g,0,none⟩) n cap) d'/\Kp (fun b=>b=g) w wr):=X.out.2.2
   have hm:=inv_less hb _ wr Z.out.1.cell1
   have hl:=less73n Z.out.1.own hs'.out h1n hq
   obtain ⟨t,ht⟩:∃ t,t=hlt d'[q]! d'[c1]! := ⟨_,rfl⟩
   rw [<- ht] at hl
   have T:Hid (t=hlt d'[q]! d'[c1]!):=ht
   clear ht
   cases t with
   | false =>
    go_wp2_with fail
    refine hl.mono ?_
    rintro e v1 ⟨rfl,g1⟩
    clear hm hl
    go_wp2
    go_ret
    exact ⟨⟨_,rfl⟩,d',X.out.1,down_stop1 X.out.2.1 hch.out T.out.symm,Z.out.1.gr g1.gr,Z.out.2.trans (Kp.of_gr g1.gr)⟩
   | true =>
    go_wp2_with fail
    refine hl.mono ?_
    rintro e v1 ⟨rfl,g1⟩
    have H1:=Z.out.1.gr g1.gr
    have hm1:=inv_swap hb _ v1 H1.cell1
    have hsw:=swap74n H1 hs'.out hq h1n hne
    clear H1 hm hl
    go_wp2_with fail
    refine hsw.mono ?_
    rintro e v2 ⟨rfl,h2,k2⟩
    have h2':Hid (Hp v2 hb k (.slice (some ⟨g,0,none⟩) n cap) (swp d' q c1)):=h2
    clear h2 hsw hm1
    go_wp2
    go_roundw
    case rel=>exact ⟨c1,swp d' q c1,rfl,h1n,(swp_perm d' _ _ (by have:=hs'.out;omega) (by have:=hs'.out;omega)).trans X.out.1,down_step X.out.2.1 hch.out T.out.symm,h2'.out,(Z.out.2.trans (Kp.of_gr g1.gr)).trans k2⟩
    case measure=>have:=C1.out;simp [intOf];omega
  obtain ⟨c2,hc2⟩:∃ c2:Nat,c2=c1 + 1:=⟨_,rfl⟩
  have e2:(c1:Int) + 1=(c2:Int):=by omega
  have h2n:c2 < n:=by omega
  have h2':(c2:Int) < (n:Int):=by omega
  have C2:Hid (c2=c1 + 1):=hc2
  clear hc1 h1 h2 hc2
  have hm:=inv_less hb _ wr hcell
  have hl:=less73n X.out.2.2.1.own hs'.out h2n h1n
  obtain ⟨t,ht⟩:∃ t,t=hlt d'[c1]! d'[c2]! := ⟨_,rfl⟩
  rw [<- ht] at hl
  have T0:Hid (t=hlt d'[c1]! d'[c2]!):=ht
  clear ht
  cases t with
  | false =>
   have hch:Hid (Child d' q c1):=by
    have s1:=hs'.out;have s2:=C1.out;have s3:=C2.out;have s4:=T0.out;subst s2;subst s3
    exact child_l (by omega) s4.symm
   have hne:q ≠ c1:=by have:=C1.out;omega
   go_wp2_with fail
   refine hl.mono ?_
   rintro e w1 ⟨rfl,g0⟩
   have Z:Hid (Hp w1 hb k (.slice (some ⟨g,0,none⟩) n cap) d'/\Kp (fun b=>b=g) w w1):=⟨X.out.2.2.1.gr g0.gr,X.out.2.2.2.trans (Kp.of_gr g0.gr)⟩
   clear hl hm hcell
   have hm:=inv_less hb _ w1 Z.out.1.cell1
   have hl:=less73n Z.out.1.own hs'.out h1n hq
   obtain ⟨t,ht⟩:∃ t,t=hlt d'[q]! d'[c1]! := ⟨_,rfl⟩
   rw [<- ht] at hl
   have T:Hid (t=hlt d'[q]! d'[c1]!):=ht
   clear ht
   cases t with
   | false =>
    go_wp2_with fail
    refine hl.mono ?_
    rintro e v1 ⟨rfl,g1⟩
    clear hm hl
    go_wp2
    go_ret
    exact ⟨⟨_,rfl⟩,d',X.out.1,down_stop1 X.out.2.1 hch.out T.out.symm,Z.out.1.gr g1.gr,Z.out.2.trans (Kp.of_gr g1.gr)⟩
   | true =>
    go_wp2_with fail
    refine hl.mono ?_
    rintro e v1 ⟨rfl,g1⟩
    have H1:=Z.out.1.gr g1.gr
    have hm1:=inv_swap hb _ v1 H1.cell1
    have hsw:=swap74n H1 hs'.out hq h1n hne
    clear H1 hm hl
    go_wp2_with fail
    refine hsw.mono ?_
    rintro e v2 ⟨rfl,h2,k2⟩
    have h2':Hid (Hp v2 hb k (.slice (some ⟨g,0,none⟩) n cap) (swp d' q c1)):=h2
    clear h2 hsw hm1
    go_wp2
    go_roundw
    case rel=>exact ⟨c1,swp d' q c1,rfl,h1n,(swp_perm d' _ _ (by have:=hs'.out;omega) (by have:=hs'.out;omega)).trans X.out.1,down_step X.out.2.1 hch.out T.out.symm,h2'.out,(Z.out.2.trans (Kp.of_gr g1.gr)).trans k2⟩
    case measure=>have:=C1.out;simp [intOf];omega
  | true =>
   have hch:Hid (Child d' q c2):=by
    have s1:=hs'.out;have s2:=C1.out;have s3:=C2.out;have s4:=T0.out;subst s2;subst s3
    exact child_r (by omega) s4.symm
   have hne:q ≠ c2:=by have:=C1.out;have:=C2.out;omega
   go_wp2_with fail
   refine hl.mono ?_
   rintro e w1 ⟨rfl,g0⟩
   have Z:Hid (Hp w1 hb k (.slice (some ⟨g,0,none⟩) n cap) d'/\Kp (fun b=>b=g) w w1):=⟨X.out.2.2.1.gr g0.gr,X.out.2.2.2.trans (Kp.of_gr g0.gr)⟩
   clear hl hm hcell
   have hm:=inv_less hb _ w1 Z.out.1.cell1
   have hl:=less73n Z.out.1.own hs'.out h2n hq
   obtain ⟨t,ht⟩:∃ t,t=hlt d'[q]! d'[c2]! := ⟨_,rfl⟩
   rw [<- ht] at hl
   have T:Hid (t=hlt d'[q]! d'[c2]!):=ht
   clear ht
   cases t with
   | false =>
    go_wp2_with fail
    refine hl.mono ?_
    rintro e v1 ⟨rfl,g1⟩
    clear hm hl
    go_wp2
    go_ret
    exact ⟨⟨_,rfl⟩,d',X.out.1,down_stop1 X.out.2.1 hch.out T.out.symm,Z.out.1.gr g1.gr,Z.out.2.trans (Kp.of_gr g1.gr)⟩
   | true =>
    go_wp2_with fail
    refine hl.mono ?_
    rintro e v1 ⟨rfl,g1⟩
    have H1:=Z.out.1.gr g1.gr
    have hm1:=inv_swap hb _ v1 H1.cell1
    have hsw:=swap74n H1 hs'.out hq h2n hne
    clear H1 hm hl
    go_wp2_with fail
    refine hsw.mono ?_
    rintro e v2 ⟨rfl,h2,k2⟩
    have h2':Hid (Hp v2 hb k (.slice (some ⟨g,0,none⟩) n cap) (swp d' q c2)):=h2
    clear h2 hsw hm1
    go_wp2
    go_roundw
    case rel=>exact ⟨c2,swp d' q c2,rfl,h2n,(swp_perm d' _ _ (by have:=hs'.out;omega) (by have:=hs'.out;omega)).trans X.out.1,down_step X.out.2.1 hch.out T.out.symm,h2'.out,(Z.out.2.trans (Kp.of_gr g1.gr)).trans k2⟩
    case measure=>have:=C1.out;have:=C2.out;simp [intOf];omega
end Go.Proofs.YtcipdampcmfmaaaGreat.Tk

namespace Go.Proofs.YtcipdampcmfmaaaGreat.Rn
open Go.RowKit Go.Shelf
set_option maxHeartbeats 1000000
attribute [local go_sem] Oper.semAt_some
theorem Boxed.ne {W:World} {A B:Nat} {t u:TypeId} {v v':Value} (h:Boxed W A t v) (k:Boxed W B u v') (hn:t ≠ u):A ≠ B:=by
 rintro rfl
 have:=(show W.heap[A]? = _ from h).symm.trans k
 simp at this
 exact hn this.2
theorem Boxed.past {W:World} {A B:Nat} {t:TypeId} {v:Value} (h:Boxed W A t v) (hn:A ≠ B) (u:Value):Boxed (W.setCell ⟨B,0,none⟩ u) A t v :=
 h.kept (grownBy_setCell' W B u) (by simpa using hn)
theorem draws1_gives (n:Nat) (hn:1<=n) (Bs Bc b:Nat) (c x:Int) (_hx:U x) (hc:c<=1000000) (I:Nat->World->Prop)
  (hr:∀ k W,I k W->Boxed W Bs 231 (.pointer (some ⟨b,0,none⟩))/\Boxed W Bc 3 (.int .i64 c)/\Boxed W b 251 (.int .u64 (stN x k))) :
  Gives n Tryz.prog 233 #[.pointer (some ⟨Bs,0,none⟩),.pointer (some ⟨Bc,0,none⟩)] c.toNat b (fun k=>.int .u64 (stN x (k + 1))) (fun k=>.int .u64 (mx (stN x (k + 1)))) I:=by
 intro l J J1 Jx W hJI hst hY h0
 refine callsIn_of_wp Tryz.func233 rfl trivial ?_ rfl
 simp only [Tryz.ntmps233,List.size_toArray,List.length_cons,List.length_nil,Nat.reduceAdd,Nat.reduceSub,Array.replicate_succ,Array.replicate_zero,List.push_toArray,List.append_toArray,List.nil_append,List.cons_append]
 obtain ⟨r1,r2,r3⟩:=hr 0 W (hJI 0 W h0)
 have c1:=r1.cell
 have c2:=r2.cell
 gi_wp2
 clear c1 c2 r1 r2 r3
 gi_loopw [7] (fun v wr=>∃ k:Nat,v=.int .i64 k/\k<=c.toNat/\J k wr) (fun v _=>c.toNat - (intOf v).toNat)
 case atStart=>exact ⟨0,rfl,Nat.zero_le _,h0⟩
 case round =>
  obtain ⟨k,rfl,hk,hj⟩:=hrel
  by_cases hlt:k < c.toNat
  ·have hlt':(k:Int) < c:=by omega
   obtain ⟨r1,r2,r3⟩:=hr k wr (hJI k wr hj)
   have n1:=Boxed.ne r1 r3 (by decide)
   have c1:=r1.cell
   have c3:=r3.cell
   have f3:=r3.frozen
   have c4:=(Boxed.past r1 n1 (.int .u64 (IntKind.u64.wrap (stN x k + 11400714819323198485)))).cell
   have c5:=(r3.set (.int .u64 (IntKind.u64.wrap (stN x k + 11400714819323198485)))).cell
   obtain ⟨fn,tmps,assign,body,hy,hR⟩:=hY k _ hlt (hst k wr hlt hj)
   simp only [stN_succ] at hy hR
   gi_wp2_with (refine ⟨trivial,?_⟩;gi_at_call 234;refine (callsIn_wide.2 (mix_c _ _ (u_wrap _))).mono ?_;rintro e w1 ⟨rfl,rfl⟩)
   refine hR.mono ?_
   rintro e W3 (⟨rfl,hJ3⟩ | ⟨rfl,hJx3⟩)
   ·gi_wp2
    go_roundw
    case rel=>exact ⟨k + 1,by simp,by omega,hJ3⟩
    case measure=>simp [intOf];omega
   ·gi_wp2
    refine bodyPost_ret (results_none rfl _ _ _) rfl ?_
    exact ⟨⟨_,rfl⟩,.inr ⟨k,hlt,hJx3⟩⟩
  ·have hlt':¬ (k:Int) < c:=by omega
   gi_wp2
   go_end0
   obtain rfl:k=c.toNat:=by omega
   exact ⟨⟨_,rfl⟩,.inl hj⟩
end Go.Proofs.YtcipdampcmfmaaaGreat.Rn

namespace Go.Proofs.YtcipdampcmfmaaaGreat.Rn
open Go.RowKit Go.Shelf
theorem ownFrom_grown {B:Nat} {w:World} {r:Option Nat} (hB:w.heap.size<=B):OwnFrom B (fun (_:Nat) W=>w.grownBy W r) :=
 fun _ A C row hs hg hr=>⟨hg.os.trans hs.os,hg.tape.trans hs.tape,hg.output.trans hs.output,Nat.le_trans hs.size hg.size,fun k hk hn =>
  (hg.block k (Nat.lt_of_lt_of_le hk hs.size) (fun e=>by have:=(hr k e.symm).1;omega)).trans (hs.block k hk hn)⟩
theorem ownFrom_boxed {B b:Nat} {t:TypeId} {v:Nat->Value}:OwnFrom B (fun (k:Nat) W=>Boxed W b t (v k)) :=
 fun k A C row hs hg hr=>hs.kept hg (fun e=>by obtain ⟨_,o,ho,hc⟩:=hr b e.symm;rw [show A.heap[b]? = _ from hs] at ho;cases ho;cases hc)
theorem grownBy_refl (w:World) (r:Option Nat):w.grownBy w r:=⟨rfl,rfl,rfl,Nat.le_refl _,fun _ _ _=>rfl⟩
theorem grownBy_al {w V:World} {r:Option Nat} (h:w.grownBy V r) (o:Obj):w.grownBy (V.alloc o) r :=
 ⟨h.os,h.tape,h.output,by have:=h.size;simp;omega,fun k hk hn=>(Below.heap_alloc V o k (Nat.lt_of_lt_of_le hk h.size)).trans (h.block k hk hn)⟩
theorem grownBy_set {w V:World} {b:Nat} (h:w.grownBy V (some b)) {p:Addr} (hp:p.block=b ∨ w.heap.size<=p.block) (u:Value):w.grownBy (V.setCell p u) (some b) :=
 ⟨h.os,h.tape,h.output,Nat.le_trans h.size (KeepsWalks.setCell V p u).size,fun k hk hn=>(Below.heap_setCell V p u k (fun e=>by
  rcases hp with hp | hp
  ·exact hn (by rw [e,hp])
  ·omega)).trans (h.block k hk hn)⟩
theorem grownBy_new {w V:World} {r:Option Nat} {p:Addr} (h:w.grownBy V r) (hp:w.heap.size<=p.block) (u:Value):w.grownBy (V.setCell p u) r :=
 ⟨h.os,h.tape,h.output,Nat.le_trans h.size (KeepsWalks.setCell V p u).size,fun k hk hn=>(Below.heap_setCell V p u k (fun e=>by omega)).trans (h.block k hk hn)⟩
theorem grownBy_put {w V:World} {r:Option Nat} (h:w.grownBy V r) {D:Nat} (hD:w.heap.size<=D) (o:Obj):w.grownBy (V.putObj D o) r :=
 ⟨h.os,h.tape,h.output,by have:=h.size;simp;omega,fun k hk hn=>(World.putObj_heap_other (by omega)).trans (h.block k hk hn)⟩
theorem Boxed.put {W:World} {B D:Nat} {t:TypeId} {v:Value} {o:Obj} (h:Boxed W B t v) (hD:W.heap[D]? = some o) (ho:o.isCells=false) (o':Obj):Boxed (W.putObj D o') B t v :=
 h.kept (grownBy_putObj' W D o') (fun e=>by cases e;rw [show W.heap[B]? = _ from h] at hD;cases hD;cases ho)
abbrev ckOk (n lo hi:Int):Prop:=lo<=n/\n<=hi
theorem ckE_ok {n lo hi:Int} (h:ckOk n lo hi):ckE n lo hi=0:=if_neg (by have:=h.1;have:=h.2;omega)
end Go.Proofs.YtcipdampcmfmaaaGreat.Rn

namespace Go.Proofs.YtcipdampcmfmaaaGreat
open Go.RowKit
def dd (n i:Nat):Int:=((n / 65536 ^ i % 65536:Nat):Int)
abbrev Nm (n:Nat) (o:Bool):Value:=.agg #[.int .i64 (dd n 0),.int .i64 (dd n 1),.int .i64 (dd n 2),.int .i64 (dd n 3),.int .i64 (dd n 4),.int .i64 (dd n 5),.int .i64 (dd n 6),.int .i64 (dd n 7),.bool o]
structure NumAt (w:World) (B n:Nat) (o:Bool):Prop where
 d:∀ j,j < 8->w.cell? ⟨B,j,none⟩=some (.int .i64 (dd n j))
 o:w.cell? ⟨B,8,none⟩=some (.bool o)
 f:∀ j,j < 9->w.frozen? ⟨B,j,none⟩=false
theorem NumAt.call {w w':World} {B n:Nat} {o:Bool} (h:NumAt w B n o) (g:Gr w w'):NumAt w' B n o :=
 ⟨fun j hj=>g.keeps (h.d j hj),g.keeps h.o,fun j hj=>(g.froz _).trans (h.f j hj)⟩
theorem NumAt.far {w:World} {B n:Nat} {o:Bool} (h:NumAt w B n o) (b k:Nat) (hb:b ≠ B) (x:Value):NumAt (w.setCell ⟨b,k,none⟩ x) B n o :=
 ⟨fun j hj=>(World.cell?_setCell_far w _ _ x hb).trans (h.d j hj),(World.cell?_setCell_far w _ _ x hb).trans h.o,fun j hj=>(World.frozen?_setCell _ _ _ _).trans (h.f j hj)⟩
theorem NumAt.cells {w:World} {B n:Nat} {o:Bool} (h:NumAt w B n o) :
  w.cell? ⟨B,0,none⟩=some (.int .i64 (dd n 0))/\w.cell? ⟨B,1,none⟩=some (.int .i64 (dd n 1))/\w.cell? ⟨B,2,none⟩=some (.int .i64 (dd n 2))/\w.cell? ⟨B,3,none⟩=some (.int .i64 (dd n 3)) /\
  w.cell? ⟨B,4,none⟩=some (.int .i64 (dd n 4))/\w.cell? ⟨B,5,none⟩=some (.int .i64 (dd n 5))/\w.cell? ⟨B,6,none⟩=some (.int .i64 (dd n 6))/\w.cell? ⟨B,7,none⟩=some (.int .i64 (dd n 7))/\w.cell? ⟨B,8,none⟩=some (.bool o) :=
 ⟨h.d 0 (by omega),h.d 1 (by omega),h.d 2 (by omega),h.d 3 (by omega),h.d 4 (by omega),h.d 5 (by omega),h.d 6 (by omega),h.d 7 (by omega),h.o⟩
theorem NumAt.new (w:World) (n:Nat) (o:Bool) (t:TypeId):NumAt (w.alloc (.cells #[.int .i64 (dd n 0),.int .i64 (dd n 1),.int .i64 (dd n 2),.int .i64 (dd n 3),.int .i64 (dd n 4),.int .i64 (dd n 5),.int .i64 (dd n 6),.int .i64 (dd n 7),.bool o] t)) w.heap.size n o:=by
 refine ⟨fun j hj=>?_,by simp [go_sem],fun j _=>by simp [go_sem]⟩
 rw [World.cell?_alloc_at _ _ _ _ rfl]
 have:j=0 ∨ j=1 ∨ j=2 ∨ j=3 ∨ j=4 ∨ j=5 ∨ j=6 ∨ j=7:=by omega
 rcases this with rfl | rfl | rfl | rfl | rfl | rfl | rfl | rfl <;> rfl
theorem NumAt.store {w:World} {B n:Nat} {o:Bool} (h:NumAt w B n o) (m:Nat) (p:Bool) :
  NumAt (((((((((w.setCell ⟨B,0,none⟩ (.int .i64 (dd m 0))).setCell ⟨B,1,none⟩ (.int .i64 (dd m 1))).setCell ⟨B,2,none⟩ (.int .i64 (dd m 2))).setCell ⟨B,3,none⟩ (.int .i64 (dd m 3))).setCell ⟨B,4,none⟩ (.int .i64 (dd m 4))).setCell ⟨B,5,none⟩ (.int .i64 (dd m 5))).setCell ⟨B,6,none⟩ (.int .i64 (dd m 6))).setCell ⟨B,7,none⟩ (.int .i64 (dd m 7))).setCell ⟨B,8,none⟩ (.bool p)) B m p:=by
 obtain ⟨c0,c1,c2,c3,c4,c5,c6,c7,c8⟩:=h.cells
 refine ⟨fun j hj=>?_,by simp [go_sem,c8],fun j hj=>?_⟩
 ·have:j=0 ∨ j=1 ∨ j=2 ∨ j=3 ∨ j=4 ∨ j=5 ∨ j=6 ∨ j=7:=by omega
  rcases this with rfl | rfl | rfl | rfl | rfl | rfl | rfl | rfl <;> simp [go_sem, *]
 ·simp only [World.frozen?_setCell];exact h.f j hj
end Go.Proofs.YtcipdampcmfmaaaGreat
