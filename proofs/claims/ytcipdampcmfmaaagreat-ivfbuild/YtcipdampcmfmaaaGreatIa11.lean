import Derived.Test.YtcipdampcmfmaaaGreatIa2
import Derived.Laws.AppendOwnNone
import Derived.Test.YtcipdampcmfmaaaGreatIa8
import Derived.Test.YtcipdampcmfmaaaGreatIa6
import Derived.Test.YtcipdampcmfmaaaGreatIa1
import Derived.Deep.RegionHeld3
import Derived.Test.YtcipdampcmfmaaaGreatIa10
namespace Go.Proofs.YtcipdampcmfmaaaGreat
open Go.RowKit Go.Sort Go.Maps
def SrtI (l:List Int):Prop:=l.Pairwise fun x y=>x<=y
theorem srt_perm (l:List Int):(srt l).Perm l:=List.mergeSort_perm l _
theorem srt_srtI (l:List Int):SrtI (srt l):=by
 have h:=List.pairwise_mergeSort (le:=fun x y:Int=>decide (x<=y)) (fun a b c h1 h2=>by
  simp only [decide_eq_true_eq] at *;omega) (fun a b=>by
  by_cases h:a<=b
  ·simp [h]
  ·have:b<=a:=by omega
   simp [this]) l
 exact h.imp (fun h=>by simpa using h)
theorem srtI_unique:∀ (l l':List Int),SrtI l->SrtI l'->l.Perm l'->l=l'
 | [],l',_,_,p=>(List.Perm.nil_eq p)
 | a :: r,[],_,_,p=>absurd p.length_eq (by simp)
 | a :: r,b :: r',h,h',p=>by
  have hb:b ∈ a :: r:=p.symm.subset List.mem_cons_self
  have ha:a ∈ b :: r':=p.subset List.mem_cons_self
  have e:a=b:=by
   rcases List.mem_cons.1 hb with e | hb
   ·exact e.symm
   rcases List.mem_cons.1 ha with e | ha
   ·exact e
   have h1:=List.rel_of_pairwise_cons h hb
   have h2:=List.rel_of_pairwise_cons h' ha
   omega
  subst e
  rw [srtI_unique r r' (List.Pairwise.of_cons h) (List.Pairwise.of_cons h') (List.Perm.cons_inv p)]
end Go.Proofs.YtcipdampcmfmaaaGreat

namespace Go.Proofs.YtcipdampcmfmaaaGreat.Rn
open Go.RowKit Go.Shelf
set_option maxRecDepth 100000
set_option maxHeartbeats 2000000
attribute [local go_sem] Oper.semAt_some
theorem Tryz.mixed:Tryz.prog.follows .mixedOrders=true:=by kernel_rfl
theorem region_round {l n id:Nat} {P:Program} {ops:Array Oper} {Q:Exit->Act->World->Prop} {S:World->Prop} {a:Act} {w:World} (hm:P.follows .mixedOrders=true)
  (hnd:ops.toList.all (fun o=>match o.op with | .defer _=>false | _=>true)=true) (hQ:¬ LetsOut Q) (hS:S w.drew)
  (h:S w.drew->wpAnyH P .any ops Q S ops.size (Array.replicate ops.size false) a w.drew):(Code.region id ops true).wpIn (Fence.wide.inRound l) n P Q a w:=by
 refine wpIn_region_any hm (any_round (fun i o ho c hc=>?_) hQ _ _ _ _ (wpAny_of_held _ _ _ _ (h hS)))
 have:=List.all_eq_true.1 hnd o (by rw [<- Array.getElem?_toList] at ho;exact List.mem_of_getElem? ho)
 rw [hc] at this
 cases this
theorem boxed_off {W:World} {B:Nat} {t:TypeId} {v:Value} (h:Boxed W B t v) {p:Addr} (hp:p.block ≠ B) (u:Value):Boxed (W.setCell p u) B t v :=
 (Below.heap_setCell W p u B (Ne.symm hp)).trans h
theorem perm_ok (b n:Nat) (x:Int) (w:World) (hb:Boxed w b 251 (.int .u64 x)) (hx:U x) (hn:n<=65536) :
  Calls Tryz.prog 184 #[.pointer (some ⟨b,0,none⟩),.int .i64 n] w fun e w'=>e=.returned (.tuple #[.slice (some ⟨w.heap.size,0,none⟩) n n,.int .i64 0]) /\
   Arr w' w.heap.size n n (pS x n (n - 1))/\Boxed w' b 251 (.int .u64 (stN x (n - 1)))/\w.grownBy w' (some b):=by
 have hck:=check_c ⟨b,0,none⟩ n 0 65536 w
 rw [ckE_ok ⟨by omega,by omega⟩] at hck
 have hbl:=hb.lt
 refine (callsIn_wide (n:=4)).1 ?_
 refine callsIn_of_wp_marks Tryz.func184 rfl trivial ?_ rfl
 simp only [Tryz.ntmps184,List.size_toArray,List.length_cons,List.length_nil,Nat.reduceAdd,Nat.reduceSub,Array.replicate_succ,Array.replicate_zero,List.push_toArray,List.append_toArray,List.nil_append,List.cons_append]
 gi_wp2_with first | (refine ⟨trivial,?_⟩;gi_at_call 213;refine (callsIn_wide.2 hck).mono ?_;rintro e w1 ⟨rfl,rfl⟩) | (refine ⟨trivial,?_⟩;gi_at_call 214;refine (callsIn_wide.2 (rising_c n _ hn)).mono ?_;rintro e w2 ⟨rfl,A2,g2⟩) | (refine ⟨trivial,?_⟩;gi_at_call 215;refine (callsIn_wide.2 (draws_c _ _ _)).mono ?_;rintro e w3 ⟨rfl,rfl⟩)
 obtain ⟨V,hV⟩:∃ V,((((w2.alloc (.cells #[.slice (some ⟨w.heap.size,0,none⟩) n n] 41)).alloc (.cells #[.int .i64 ((n:Int) - 1)] 3)).alloc (.cells #[.pointer (some ⟨b,0,none⟩)] 231)).alloc (.cells #[.int .i64 ((n:Int) - 1)] 3))=V:=⟨_,rfl⟩
 have s2:=g2.size
 have s3:=A2.lt
 have bB:Boxed V b 251 (.int .u64 x):=by rw [<- hV];exact ((((hb.kept g2 (by simp)).alloc _).alloc _).alloc _).alloc _
 have bN:Boxed V w2.heap.size 41 (.slice (some ⟨w.heap.size,0,none⟩) n n):=by rw [<- hV];exact (((Boxed.new w2 _ _).alloc _).alloc _).alloc _
 have bP:Boxed V (w2.heap.size + 1) 3 (.int .i64 ((n:Int) - 1)):=by
  rw [<- hV];have:=((Boxed.new (w2.alloc (.cells #[.slice (some ⟨w.heap.size,0,none⟩) n n] 41)) 3 (.int .i64 ((n:Int) - 1))).alloc (.cells #[.pointer (some ⟨b,0,none⟩)] 231)).alloc (.cells #[.int .i64 ((n:Int) - 1)] 3);rwa [World.size_alloc] at this
 have bS:Boxed V (w2.heap.size + 1 + 1) 231 (.pointer (some ⟨b,0,none⟩)):=by
  rw [<- hV];have:=(Boxed.new ((w2.alloc (.cells #[.slice (some ⟨w.heap.size,0,none⟩) n n] 41)).alloc (.cells #[.int .i64 ((n:Int) - 1)] 3)) 231 (.pointer (some ⟨b,0,none⟩))).alloc (.cells #[.int .i64 ((n:Int) - 1)] 3);rwa [World.size_alloc,World.size_alloc] at this
 have bC:Boxed V (w2.heap.size + 1 + 1 + 1) 3 (.int .i64 ((n:Int) - 1)):=by
  rw [<- hV];have:=Boxed.new (((w2.alloc (.cells #[.slice (some ⟨w.heap.size,0,none⟩) n n] 41)).alloc (.cells #[.int .i64 ((n:Int) - 1)] 3)).alloc (.cells #[.pointer (some ⟨b,0,none⟩)] 231)) 3 (.int .i64 ((n:Int) - 1));rwa [World.size_alloc,World.size_alloc,World.size_alloc] at this
 have aV:Arr V w.heap.size n n (pS x n 0):=by rw [<- hV];exact (((A2.alloc _).alloc _).alloc _).alloc _
 have gV:w.grownBy V (some b):=by rw [<- hV];exact grownBy_al (grownBy_al (grownBy_al (grownBy_al ⟨g2.os,g2.tape,g2.output,g2.size,fun k hk _=>g2.block k hk (by simp)⟩ _) _) _) _
 have sV:w2.heap.size + 4=V.heap.size:=by rw [<- hV];simp
 have eN:((n:Int) - 1).toNat=n - 1:=by omega
 rw [hV]
 refine range_c (gf:=233) (lb:=#[.pointer (some ⟨w2.heap.size + 1 + 1,0,none⟩),.pointer (some ⟨w2.heap.size + 1 + 1 + 1,0,none⟩)]) rfl (enters_of Tryz.func233 (by kernel_rfl) rfl) rfl
  (n - 1) b (fun k=>.int .u64 (stN x (k + 1))) (fun k=>.int .u64 (mx (stN x (k + 1))))
  (fun k W=>Arr W w.heap.size n n (pS x n k)/\Boxed W w2.heap.size 41 (.slice (some ⟨w.heap.size,0,none⟩) n n)/\Boxed W (w2.heap.size + 1) 3 (.int .i64 ((n:Int) - 1 - k))/\Boxed W b 251 (.int .u64 (stN x k))/\Boxed W (w2.heap.size + 1 + 1) 231 (.pointer (some ⟨b,0,none⟩))/\Boxed W (w2.heap.size + 1 + 1 + 1) 3 (.int .i64 ((n:Int) - 1))/\w.grownBy W (some b))
  (fun k W=>Arr W w.heap.size n n (pS x n k)/\Boxed W w2.heap.size 41 (.slice (some ⟨w.heap.size,0,none⟩) n n)/\Boxed W (w2.heap.size + 1) 3 (.int .i64 ((n:Int) - 1 - k))/\Boxed W b 251 (.int .u64 (stN x (k + 1)))/\Boxed W (w2.heap.size + 1 + 1) 231 (.pointer (some ⟨b,0,none⟩))/\Boxed W (w2.heap.size + 1 + 1 + 1) 3 (.int .i64 ((n:Int) - 1))/\w.grownBy W (some b))
  (fun _ _=>False)
  (ownFrom_arr.and (ownFrom_boxed.and (ownFrom_boxed.and (ownFrom_boxed.and (ownFrom_boxed.and (ownFrom_boxed.and (ownFrom_grown gV.size)))))))
  (ownFrom_arr.and (ownFrom_boxed.and (ownFrom_boxed.and (ownFrom_boxed.and (ownFrom_boxed.and (ownFrom_boxed.and (ownFrom_grown gV.size)))))))
  (fun _ _ _ _ h _ _=>h)
  ⟨aV,bN,by simpa using bP,bB,bS,bC,gV⟩
  (fun k W _ h=>⟨h.1.other (by simp;omega) _,h.2.1.other (by omega) _,h.2.2.1.other (by omega) _,h.2.2.2.1.set _,h.2.2.2.2.1.other (by omega) _,h.2.2.2.2.2.1.other (by omega) _,grownBy_set h.2.2.2.2.2.2 (.inl rfl) _⟩)
  (by
    have:=draws1_gives 3 (by decide) (w2.heap.size + 1 + 1) (w2.heap.size + 1 + 1 + 1) b ((n:Int) - 1) x hx (by omega)
     (fun k W=>Arr W w.heap.size n n (pS x n k)/\Boxed W w2.heap.size 41 (.slice (some ⟨w.heap.size,0,none⟩) n n)/\Boxed W (w2.heap.size + 1) 3 (.int .i64 ((n:Int) - 1 - k))/\Boxed W b 251 (.int .u64 (stN x k))/\Boxed W (w2.heap.size + 1 + 1) 231 (.pointer (some ⟨b,0,none⟩))/\Boxed W (w2.heap.size + 1 + 1 + 1) 3 (.int .i64 ((n:Int) - 1))/\w.grownBy W (some b))
     (fun k W h=>⟨h.2.2.2.2.1,h.2.2.2.2.2.1,h.2.2.2.1⟩)
    rw [eN] at this
    exact this)
  (fun k=>{ tmps:=#[.pointer (some ⟨b,0,none⟩),.int .i64 n,undef,undef,.slice none 0 0,.int .i64 0,.int .i64 0,.pointer (some ⟨w2.heap.size,0,none⟩),.pointer (some ⟨w2.heap.size + 1,0,none⟩),
   .int .u64 (mx (stN x (k + 1))),undef,.pointer (some ⟨b,0,none⟩),.int .i64 n,.int .i64 0,.int .i64 0,.bool false,undef,.int .i64 n,.slice (some ⟨w.heap.size,0,none⟩) n n,.int .i64 n,.int .i64 ((n:Int) - 1),
   .pointer (some ⟨b,0,none⟩),.int .i64 n,.int .i64 ((n:Int) - 1),.func (.func 233) #[] #[.pointer (some ⟨w2.heap.size + 1 + 1,0,none⟩),.pointer (some ⟨w2.heap.size + 1 + 1 + 1,0,none⟩)],
   .int .u64 (mx (stN x (k + 1))),undef,undef,undef,undef,undef,undef,undef,undef,undef,undef,undef,undef,undef,undef,undef,undef,undef,undef,undef,undef,undef],defers:=[] }) ?assign ?body ?done ?stop
 case assign =>
  intro l k W K hK
  gi_wp2
  exact hK
 case body =>
  clear hV aV bN bP bB bS bC gV hck A2 g2 hb
  rintro l k W hk ⟨hA,hN,hP,hB,hS,hC,hg⟩
  have hi:(n:Int) - 1 - k=((n - 1 - k:Nat):Int):=by omega
  have hin:n - 1 - k < n:=by omega
  have hz:=u_mx (stN x (k + 1))
  have hpS:pS x n (k + 1)=swp (pS x n k) (n - 1 - k) (mx (stN x (k + 1)) % ((n - 1 - k:Nat) + 1)).toNat:=rfl
  have hnext:(n:Int) - 1 - (k + 1:Nat)=((n - 1 - k:Nat):Int) - 1:=by omega
  rw [hi] at hP
  generalize mx (stN x (k + 1))=z at *
  generalize hii:n - 1 - k=i at *
  have r1:=Int.emod_nonneg z (b:=(i:Int) + 1) (by omega)
  have r2:=Int.emod_lt_of_pos z (b:=(i:Int) + 1) (by omega)
  obtain ⟨j,hj⟩:∃ j:Nat,z % ((i:Int) + 1)=j:=⟨(z % ((i:Int) + 1)).toNat,by omega⟩
  have hjn:j < n:=by omega
  have hr:=rest_c z ((i:Int) + 1) W hz (by omega) (by omega)
  rw [hj] at hr
  have hpS':pS x n (k + 1)=swp (pS x n k) i j:=by rw [hpS,hj];simp
  clear hpS r1 r2 hj hz hi
  have cP:=hP.cell
  gi_wp2_with (refine ⟨trivial,?_⟩;gi_at_call 216;refine (CallsIn.inRound l (callsIn_wide.2 hr)).mono ?_;rintro e w5 ⟨rfl,rfl⟩)
  have cN:=hN.cell
  have cI:=hA.cell hin
  have cJ:=hA.cell hjn
  have fI:=hA.frozen i
  have fJ:=hA.frozen j
  have cJ2:=(hA.set hin (pS x n k j)).cell hjn
  have fJ2:=(hA.set hin (pS x n k j)).frozen j
  have hset:∀ (V:World) (p:Addr) (u:Value),p.block=w.heap.size->(V.cell? ⟨w2.heap.size,0,none⟩=some (.slice (some ⟨w.heap.size,0,none⟩) n n)/\V.cell? ⟨w2.heap.size + 1,0,none⟩=some (.int .i64 i)) ->
    ((V.setCell p u).cell? ⟨w2.heap.size,0,none⟩=some (.slice (some ⟨w.heap.size,0,none⟩) n n)/\(V.setCell p u).cell? ⟨w2.heap.size + 1,0,none⟩=some (.int .i64 i)):=fun V p u hp h =>
   ⟨(World.cell?_of_block (Below.heap_setCell V p u _ (by dsimp only;omega))).trans h.1,(World.cell?_of_block (Below.heap_setCell V p u _ (by dsimp only;omega))).trans h.2⟩
  have FIN:∃ X,X=((W.setCell ⟨w.heap.size,i,none⟩ (.int .i64 (pS x n k j))).setCell ⟨w.heap.size,j,none⟩ (.int .i64 (pS x n k i))).drew /\
    Arr X w.heap.size n n (pS x n (k + 1))/\Boxed X w2.heap.size 41 (.slice (some ⟨w.heap.size,0,none⟩) n n)/\Boxed X (w2.heap.size + 1) 3 (.int .i64 i)/\Boxed X b 251 (.int .u64 (stN x (k + 1)))/\Boxed X (w2.heap.size + 1 + 1) 231 (.pointer (some ⟨b,0,none⟩))/\Boxed X (w2.heap.size + 1 + 1 + 1) 3 (.int .i64 ((n:Int) - 1))/\w.grownBy X (some b)/\KeepsOthers W X:=by
   refine ⟨_,rfl,?_,?_,?_,?_,?_,?_,?_,?_⟩
   ·have A2:=(hA.set hin (pS x n k j)).set hjn (pS x n k i)
    rw [hpS']
    exact A2
   ·exact boxed_off (boxed_off hN (by dsimp only;omega) _) (by dsimp only;omega) _
   ·exact boxed_off (boxed_off hP (by dsimp only;omega) _) (by dsimp only;omega) _
   ·exact boxed_off (boxed_off hB (by dsimp only;omega) _) (by dsimp only;omega) _
   ·exact boxed_off (boxed_off hS (by dsimp only;omega) _) (by dsimp only;omega) _
   ·exact boxed_off (boxed_off hC (by dsimp only;omega) _) (by dsimp only;omega) _
   ·have:=grownBy_new (p:=⟨w.heap.size,j,none⟩) (grownBy_new (p:=⟨w.heap.size,i,none⟩) hg (Nat.le_refl _) (.int .i64 (pS x n k j))) (Nat.le_refl _) (.int .i64 (pS x n k i))
    exact ⟨this.os,this.tape,this.output,this.size,this.block⟩
   ·exact ((KeepsOthers.setCell W _ _).trans (KeepsOthers.setCell _ _ _)).trans (KeepsOthers.drew _)
  obtain ⟨X,hX,FA,FN,FP,FB,FS,FC,Fg,FK⟩:=FIN
  refine region_round (S:=fun w'=>w'.cell? ⟨w2.heap.size,0,none⟩=some (.slice (some ⟨w.heap.size,0,none⟩) n n)/\w'.cell? ⟨w2.heap.size + 1,0,none⟩=some (.int .i64 i)) Tryz.mixed (by kernel_rfl) (by rintro ⟨a',w',h⟩;exact h) ⟨cN,cP⟩ (fun hHeld=>?_)
  refine wpAnyH_take (i:=0) (v:=?_) rfl (by kernel_rfl) (by kernel_rfl) (by kernel_rfl) (fun _ _ _ h=>h) (Or.inl ⟨by rfl,?_⟩) (by assumption) ?_
  rotate_left 1
  ·(intro w' hSw;obtain ⟨q1,q2⟩:=hSw;go_simp;try with_reducible rfl)
  try simp only [pt]
  refine wpAnyH_take (i:=1) (v:=?_) rfl (by kernel_rfl) (by kernel_rfl) (by kernel_rfl) (fun _ _ _ h=>h) (Or.inl ⟨by rfl,?_⟩) (by assumption) ?_
  rotate_left 1
  ·(intro w' hSw;obtain ⟨q1,q2⟩:=hSw;go_simp;try with_reducible rfl)
  try simp only [Act.put]
  refine wpAnyH_take (i:=2) (v:=?_) rfl (by kernel_rfl) (by kernel_rfl) (by kernel_rfl) (fun _ _ _ h=>h) (Or.inl ⟨by rfl,?_⟩) (by assumption) ?_
  rotate_left 1
  ·(intro w' hSw;obtain ⟨q1,q2⟩:=hSw;go_simp;try with_reducible rfl)
  try simp only [Act.put]
  refine wpAnyH_take (i:=3) (v:=?_) rfl (by kernel_rfl) (by kernel_rfl) (by kernel_rfl) (fun _ _ _ h=>h) (Or.inl ⟨by rfl,?_⟩) (by assumption) ?_
  rotate_left 1
  ·(intro w' hSw;obtain ⟨q1,q2⟩:=hSw;go_simp;try with_reducible rfl)
  try simp only [Act.put]
  refine wpAnyH_take (i:=4) (v:=?_) rfl (by kernel_rfl) (by kernel_rfl) (by kernel_rfl) (fun _ _ _ h=>h) (Or.inl ⟨by rfl,?_⟩) (by assumption) ?_
  rotate_left 1
  ·(intro w' hSw;obtain ⟨q1,q2⟩:=hSw;go_simp;try with_reducible rfl)
  try simp only [Act.put]
  refine wpAnyH_take (i:=5) (v:=?_) rfl (by kernel_rfl) (by kernel_rfl) (by kernel_rfl) (fun _ _ _ h=>h) (Or.inl ⟨by rfl,?_⟩) (by assumption) ?_
  rotate_left 1
  ·(intro w' hSw;obtain ⟨q1,q2⟩:=hSw;go_simp;try with_reducible rfl)
  try simp only [Act.put]
  refine wpAnyH_take (i:=6) (v:=?_) rfl (by kernel_rfl) (by kernel_rfl) (by kernel_rfl) (fun _ _ _ h=>h) (Or.inl ⟨by rfl,?_⟩) (by assumption) ?_
  rotate_left 1
  ·(intro w' hSw;obtain ⟨q1,q2⟩:=hSw;go_simp;try with_reducible rfl)
  try simp only [Act.put]
  refine wpAnyH_take (i:=8) (v:=?_) rfl (by kernel_rfl) (by kernel_rfl) (by kernel_rfl) (fun _ _ _ h=>h) (Or.inl ⟨by rfl,?_⟩) (by assumption) ?_
  rotate_left 1
  ·(intro w' hSw;obtain ⟨q1,q2⟩:=hSw;go_simp;try with_reducible rfl)
  try simp only [Act.put]
  refine wpAnyH_take (i:=9) (v:=?_) rfl (by kernel_rfl) (by kernel_rfl) (by kernel_rfl) (fun _ _ _ h=>h) (Or.inl ⟨by rfl,?_⟩) (by assumption) ?_
  rotate_left 1
  ·(intro w' hSw;obtain ⟨q1,q2⟩:=hSw;go_simp;try with_reducible rfl)
  try simp only [Act.put]
  refine wpAnyH_take (i:=10) (v:=?_) rfl (by kernel_rfl) (by kernel_rfl) (by kernel_rfl) (fun _ _ _ h=>h) (Or.inl ⟨by rfl,?_⟩) (by assumption) ?_
  rotate_left 1
  ·(intro w' hSw;obtain ⟨q1,q2⟩:=hSw;go_simp;try with_reducible rfl)
  try simp only [Act.put]
  refine wpAnyH_ready (rs:=[7,11]) (by kernel_rfl) (by simp) ?_
  refine AllReadyH.cons rfl (fun K hK=>?_) (AllReadyH.cons rfl (fun K hK=>?_) (AllReadyH.nil))
  ·go_simp
   refine hK.out _ _ hHeld (fun hHeld=>?_)
   clear hK K
   try simp only [pt]
   refine rdn 11 rfl (fun K hK=>?_)
   go_simp
   refine hK.out _ _ hHeld (fun hHeld=>?_)
   clear hK K
   try simp only [pt]
   refine wpAnyH_take (i:=12) (v:=?_) rfl (by kernel_rfl) (by kernel_rfl) (by kernel_rfl) (fun _ _ _ h=>h) (Or.inl ⟨by rfl,?_⟩) (by assumption) ?_
   rotate_left 1
   ·(intro w' hSw;obtain ⟨q1,q2⟩:=hSw;go_simp;try with_reducible rfl)
   try simp only [pt]
   refine rdn 13 rfl (fun K hK=>?_)
   go_simp
   refine hK.out _ _ (hset W ⟨w.heap.size,i,none⟩ _ rfl hHeld) (fun hHeld=>?_)
   clear hK K
   try simp only [pt]
   refine wpAnyH_take (i:=14) (v:=?_) rfl (by kernel_rfl) (by kernel_rfl) (by kernel_rfl) (fun _ _ _ h=>h) (Or.inl ⟨by rfl,?_⟩) (by assumption) ?_
   rotate_left 1
   ·(intro w' hSw;obtain ⟨q1,q2⟩:=hSw;go_simp;try with_reducible rfl)
   try simp only [pt]
   refine rdn 15 rfl (fun K hK=>?_)
   go_simp
   refine hK.out _ _ (hset (W.setCell ⟨w.heap.size,i,none⟩ (.int .i64 (pS x n k j))) ⟨w.heap.size,j,none⟩ _ rfl hHeld) (fun hHeld=>?_)
   clear hK K
   try simp only [pt]
   refine wpAnyH_done (by kernel_rfl) ?_ _
   rw [<- hX]
   clear cI cJ fI fJ cJ2 fJ2 cN cP hHeld hset hX hA hN hP hB hS hC hg hr
   have cX:=FP.cell
   have fX:=FP.frozen
   gi_wp2
   exact ⟨FK.trans (KeepsOthers.setCell _ _ _),FA.other (by simp;omega) _,FN.other (by omega) _,by rw [hnext];exact FP.set _,FB.other (by omega) _,FS.other (by omega) _,FC.other (by omega) _,grownBy_new Fg (by dsimp only;omega) _⟩
  ·go_simp
   refine hK.out _ _ hHeld (fun hHeld=>?_)
   clear hK K
   try simp only [pt]
   refine rdn 7 rfl (fun K hK=>?_)
   go_simp
   refine hK.out _ _ hHeld (fun hHeld=>?_)
   clear hK K
   try simp only [pt]
   refine wpAnyH_take (i:=12) (v:=?_) rfl (by kernel_rfl) (by kernel_rfl) (by kernel_rfl) (fun _ _ _ h=>h) (Or.inl ⟨by rfl,?_⟩) (by assumption) ?_
   rotate_left 1
   ·(intro w' hSw;obtain ⟨q1,q2⟩:=hSw;go_simp;try with_reducible rfl)
   try simp only [pt]
   refine rdn 13 rfl (fun K hK=>?_)
   go_simp
   refine hK.out _ _ (hset W ⟨w.heap.size,i,none⟩ _ rfl hHeld) (fun hHeld=>?_)
   clear hK K
   try simp only [pt]
   refine wpAnyH_take (i:=14) (v:=?_) rfl (by kernel_rfl) (by kernel_rfl) (by kernel_rfl) (fun _ _ _ h=>h) (Or.inl ⟨by rfl,?_⟩) (by assumption) ?_
   rotate_left 1
   ·(intro w' hSw;obtain ⟨q1,q2⟩:=hSw;go_simp;try with_reducible rfl)
   try simp only [pt]
   refine rdn 15 rfl (fun K hK=>?_)
   go_simp
   refine hK.out _ _ (hset (W.setCell ⟨w.heap.size,i,none⟩ (.int .i64 (pS x n k j))) ⟨w.heap.size,j,none⟩ _ rfl hHeld) (fun hHeld=>?_)
   clear hK K
   try simp only [pt]
   refine wpAnyH_done (by kernel_rfl) ?_ _
   rw [<- hX]
   clear cI cJ fI fJ cJ2 fJ2 cN cP hHeld hset hX hA hN hP hB hS hC hg hr
   have cX:=FP.cell
   have fX:=FP.frozen
   gi_wp2
   exact ⟨FK.trans (KeepsOthers.setCell _ _ _),FA.other (by simp;omega) _,FN.other (by omega) _,by rw [hnext];exact FP.set _,FB.other (by omega) _,FS.other (by omega) _,FC.other (by omega) _,grownBy_new Fg (by dsimp only;omega) _⟩
 case done =>
  rintro D W hD ⟨h1,h2,h3,h4,h5,h6,hg⟩ hK
  have c2:=h2.cell
  gi_wp2
  refine ⟨by simp,.inl ⟨_,_,rfl,run_takeDeferred hK,?_⟩⟩
  exact ⟨.tuple #[.slice (some ⟨w.heap.size,0,none⟩) n n,.int .i64 0],by simp [results,Tryz.results184,go_sem],rfl,Arr.put h1 hK rfl _,Boxed.put h4 hK rfl _,grownBy_put hg (by omega) _⟩
 case stop =>
  rintro D k W hD hk h
  exact h.elim
end Go.Proofs.YtcipdampcmfmaaaGreat.Rn

namespace Go.Proofs.YtcipdampcmfmaaaGreat
open Go.RowKit
set_option maxRecDepth 100000
set_option maxHeartbeats 2000000
theorem rcheck_no {w:World} {v:Value} {l:List Int} (h:RdI w v l) (d:Int) (hn:¬ (1<=d/\d<=64/\(l.length:Int)=d)) :
  Calls Tryz.prog 67 #[v,.int .i64 d] w fun e w'=>e=.returned (.int .i64 30)/\w=w':=by
 obtain ⟨a,cap,rfl,ha⟩:=h
 clear ha
 generalize l.length=n at *
 by_cases h1:d < 1
 ·clear hn
  go_enter Tryz.func67,Tryz.ntmps67
  go_wp2
  go_ret
  exact ⟨rfl,rfl⟩
 by_cases h2:d > 64
 ·clear hn
  go_enter Tryz.func67,Tryz.ntmps67
  go_wp2
  go_ret
  exact ⟨rfl,rfl⟩
 ·have h3:((n:Int) == d)=false:=by rw [beq_eq_false_iff_ne];omega
  have h4:¬ (n:Int)=d:=by omega
  clear hn
  go_enter Tryz.func67,Tryz.ntmps67
  go_wp2
  go_ret
  exact ⟨rfl,rfl⟩
theorem rcheck_in {w:World} {v:Value} {l:List Int} (h:RdI w v l) (hn:1<=l.length/\l.length<=64) :
  Calls Tryz.prog 67 #[v,.int .i64 (l.length:Int)] w fun e w'=>e=.returned (.int .i64 (vErr l))/\w=w':=by
 obtain ⟨a,cap,rfl,ha⟩:=h
 have A:Hid (∀ i,i < l.length->∃ b o,a=some ⟨b,o,none⟩/\w.cell? ⟨b,o + i,none⟩=some (.int .i64 l[i]!)):=ha
 obtain ⟨n,hN⟩:∃ n,n=l.length:=⟨_,rfl⟩
 have N:Hid (n=l.length):=hN
 rw [<- hN] at hn ⊢
 obtain ⟨hn1,hn2⟩:=hn
 have hn3:¬ (n:Int) < 1:=by omega
 have hn4:¬ (n:Int) > 64:=by omega
 clear ha hN
 go_enter Tryz.func67,Tryz.ntmps67
 go_wp2
 go_loopw [5] (fun iv w'=>∃ q:Nat,iv=.int .i64 (q:Int)/\q<=n/\w=w'/\Hid (allR (l.take q)=true)) (fun iv _=>n - (intOf iv).toNat)
 case atStart=>exact ⟨0,rfl,Nat.zero_le _,rfl,by simp [Hid,allR]⟩
 case round =>
  obtain ⟨q,rfl,hq,rfl,X⟩:=hrel
  by_cases hqn:q < n
  ·have hqi:(q:Int) < (n:Int):=by omega
   obtain ⟨b,o,ea,hc⟩:=A.out q (by have:=N.out;omega)
   subst ea
   obtain ⟨x,hx⟩:∃ x,x=l[q]! := ⟨_,rfl⟩
   rw [<- hx] at hc
   have XX:Hid (x=l[q]! /\ q < l.length):=⟨hx,by have:=N.out;omega⟩
   clear hx
   by_cases h1:x < -2147483647
   ·have R:Hid (vErr l=31):=by unfold Hid vErr;rw [allR_no XX.out.2 (by rw [<- XX.out.1,<- Bool.not_eq_true,inR_iff];omega)];rfl
    go_wp2
    go_ret
    exact ⟨by rw [R.out];rfl,by first | rfl | trivial⟩
   by_cases h2:x > 2147483647
   ·have R:Hid (vErr l=31):=by unfold Hid vErr;rw [allR_no XX.out.2 (by rw [<- XX.out.1,<- Bool.not_eq_true,inR_iff];omega)];rfl
    go_wp2
    go_ret
    exact ⟨by rw [R.out];rfl,by first | rfl | trivial⟩
   ·have R:Hid (allR (l.take (q + 1))=true):=allR_take XX.out.2 X.out (by rw [<- XX.out.1,inR_iff];omega)
    go_wp2
    go_roundw
    case rel=>exact ⟨q + 1,by simp,hqn,by first | rfl | trivial,R⟩
    case measure=>simp [intOf];omega
  ·have hqi:¬ (q:Int) < (n:Int):=by omega
   have R:Hid (vErr l=0):=by
    have:=X.out
    rw [List.take_of_length_le (by have:=N.out;omega)] at this
    unfold Hid vErr;rw [this];rfl
   go_wp2
   go_ret
   exact ⟨by rw [R.out];rfl,by first | rfl | trivial⟩
theorem rcheck_c {w:World} {v:Value} {l:List Int} (h:RdI w v l) (d:Int) :
  Calls Tryz.prog 67 #[v,.int .i64 d] w fun e w'=>e=.returned (.int .i64 (chk l d))/\w=w':=by
 unfold chk
 by_cases hn:1<=d/\d<=64/\(l.length:Int)=d
 ·rw [if_pos hn]
  obtain ⟨h1,h2,rfl⟩:=hn
  exact rcheck_in h (by omega)
 ·rw [if_neg hn]
  exact rcheck_no h d hn
theorem rcheck_v {w:World} {v:Value} {l:List Int} (h:RdI w v l) (d r:Int) (hr:chk l d=r) :
  Calls Tryz.prog 67 #[v,.int .i64 d] w fun e w'=>e=.returned (.int .i64 r)/\w=w':=by
 subst hr;exact rcheck_c h d
end Go.Proofs.YtcipdampcmfmaaaGreat

namespace Go.Proofs.YtcipdampcmfmaaaGreat
open Go.RowKit Go.Sort
set_option maxRecDepth 100000
set_option maxHeartbeats 2000000
theorem vects_c {w:World} {v:Value} {rs:List Rw} (h:RdW w v rs) (most:Int) (hlen:rs.length<=9223372036854775807) :
  Calls Tryz.prog 34 #[v,.int .i64 most] w fun e w'=>(∃ z:Int,e=.returned (.int .i64 z))/\w=w':=by
 obtain ⟨a,cap,rfl,ha⟩:=h
 have A:Hid (∀ i,i < rs.length->∃ b o u,a=some ⟨b,o,none⟩/\w.cell? ⟨b,o + i * 2,none⟩=some (.int .i64 rs[i]!.1)/\w.cell? ⟨b,o + i * 2 + 1,none⟩=some u/\RdI w u rs[i]!.2):=ha
 obtain ⟨n,hN⟩:∃ n,n=rs.length:=⟨_,rfl⟩
 have N:Hid (n=rs.length):=hN
 rw [<- hN] at hlen ⊢
 clear ha hN
 go_enter Tryz.func34,Tryz.ntmps34
 go_wp2
 go_loopw [5,6] (fun zv iv w'=>∃ (q:Nat) (z:Int),zv=.int .i64 z/\iv=.int .i64 (q:Int)/\q<=n/\w=w') (fun _ iv _=>n - (intOf iv).toNat)
 case atStart=>exact ⟨0,n,rfl,rfl,Nat.zero_le _,rfl⟩
 case round =>
  obtain ⟨q,z,rfl,rfl,hq,rfl⟩:=hrel
  by_cases hqn:q < n
  ·have hqi:(q:Int) < (n:Int):=by omega
   by_cases hz:z<=most
   ·have hql:q < rs.length:=by have:=N.out;omega
    obtain ⟨b,o,u,ea,hc,hd,hr⟩:=A.out q hql
    obtain ⟨pu,cu,eu,_⟩:=hr
    subst ea;subst eu
    generalize rs[q]!.2.length=k at *
    generalize rs[q]!.1=x at *
    clear hql
    go_wp2
    go_roundw
    case rel=>exact ⟨q + 1,_,rfl,by simp,hqn,by first | rfl | trivial⟩
    case measure=>simp [intOf];omega
   ·go_wp2
    go_ret
    exact ⟨⟨_,rfl⟩,by first | rfl | trivial⟩
  ·have hqi:¬ (q:Int) < (n:Int):=by omega
   go_wp2
   go_ret
   exact ⟨⟨_,rfl⟩,by first | rfl | trivial⟩
end Go.Proofs.YtcipdampcmfmaaaGreat

namespace Go.Proofs.YtcipdampcmfmaaaGreat
open Go.RowKit Go.Sort
set_option maxRecDepth 100000
set_option maxHeartbeats 4000000
theorem cell_curP {W:World} {g:Nat} {cur:Array Value} {t:TypeId} (h:W.heap[g]? = some (.cells cur t (0,0))) {j:Nat} {v:Value} (hj:cur[j]? = some v):W.cell? ⟨g,j,none⟩=some v:=by simp [World.cell?,h,hj]
theorem clear_one {W:World} {g p c:Nat} {ty:TypeId} {cur:Array Value} (h:W.heap[g]? = some (.cells cur 43 (0,0))) (hp:p + 1 < cur.size) :
  (Builtin.clear_ #[22] ty #[.slice (some ⟨g,p,none⟩) 1 c]).run Tryz.prog W=.ok (.tuple #[]) (W.setCells g p [.int .i64 0,.slice none 0 0]):=by
 have hc:∀ j,j < 2->(W.cell? ⟨g,p + j,none⟩).isSome=true:=fun j hj=>by
  rw [cell_curP h (Array.getElem?_eq_getElem (show p + j < cur.size by omega))];rfl
 have hf:∀ j,j < 2->W.frozen? ⟨g,p + j,none⟩=false:=fun j _=>by simp [World.frozen?,h]
 have hst:=run_storeCells_cells (P:=Tryz.prog) g p [.int .i64 0,.slice none 0 0] 0 W (by simpa using hc) (by simpa using hf) (by intro v hv;simp only [List.mem_cons,List.not_mem_nil,or_false] at hv;rcases hv with rfl | rfl <;> rfl)
 simp only [Nat.add_zero] at hst
 have hzc:(Builtin.zeroCells (Value.agg #[.int .i64 0,.slice none 0 0]).cells 1).toList=[.int .i64 0,.slice none 0 0]:=by first | kernel_rfl | decide | simp [Builtin.zeroCells,Value.cells]
 simp [Builtin.clear_,run_underlying Tryz.underlying22,hzc,hst]
theorem setCells_nil (w:World) (g o:Nat):w.setCells g o []=w:=rfl
theorem delP_c {w:World} {g o n cap i:Nat} {xs:List Value} (h:PcR w g o n cap xs) (hi:i < n) (hn:n<=4000) (h1c:∀ v ∈ xs,v.oneCell'=true) :
  Calls Tryz.prog 89 #[.slice (some ⟨g,o,none⟩) n cap,.int .i64 (i:Int),.int .i64 ((i + 1:Nat):Int)] w fun e w'=>e=.returned (.slice (some ⟨g,o,none⟩) (n - 1) cap)/\PcR w' g o (n - 1) cap (xs.take (i * 2) ++ xs.drop ((i + 1) * 2))/\Tn w w' g o (cap * 2):=by
 obtain ⟨cur,hg,hsz,hle,hmx,hxl,htk⟩:=h
 obtain ⟨i0,hi0,_,hzs,_⟩:=info_insR
 have mixed:Tryz.prog.follows Departure.mixedOrders=true:=by kernel_rfl
 have hmx2:=hmx
 have hcs:∀ j v,xs[j]? = some v->w.cell? ⟨g,o + j,none⟩=some v:=fun j v hj=>by
  have hjl:=(List.getElem?_eq_some_iff.1 hj).1
  rw [<- htk,List.getElem?_take_of_lt (by omega),List.getElem?_drop,Array.getElem?_toList] at hj
  simp [World.cell?,hg,hj]
 have hdl:(xs.drop ((i + 1) * 2)).length=(n - (i + 1)) * 2:=by rw [List.length_drop,hxl];omega
 have hap:∀ (ty:TypeId) (a:Addr) (c:Nat),(i + 1 < n->a=⟨g,o + (i + 1) * 2,none⟩)->(Builtin.append_ #[22,22] ty #[.slice (some ⟨g,o,none⟩) i cap,.slice (some a) (n - (i + 1)) c]).run Tryz.prog w.drew=.ok (.slice (some ⟨g,o,none⟩) (n - 1) cap) (w.drew.setCells g (o + i * 2) (xs.drop ((i + 1) * 2))):=fun ty a c ha=>by
  have:=run_append_room_cells (P:=Tryz.prog) w.drew 22 ty 43 i0 Tryz.underlying22 hi0 g o i cap a (n - (i + 1)) c (xs.drop ((i + 1) * 2)) (by rw [hdl,hzs]) (fun j u hj=>by
   have hlt:=(List.getElem?_eq_some_iff.1 hj).1
   rw [hdl] at hlt
   rw [ha (by omega),Addr.add_lit,Nat.add_assoc]
   exact hcs _ u (by rwa [List.getElem?_drop] at hj)) (fun v hv=>h1c v (List.mem_of_mem_drop hv)) (by omega)
   (fun j hj=>by rw [hdl] at hj;rw [hzs];exact some_setCells g _ _ hg (by omega)) (fun j hj=>by simp [World.frozen?,show w.drew.heap[g]? = _ from hg])
  rw [hzs,show i + (n - (i + 1))=n - 1 by omega] at this
  exact this
 obtain ⟨c1,e1,s1,f1⟩:=setCells_heap g 43 (0,0) (xs.drop ((i + 1) * 2)) (o + i * 2) w.drew cur hg (by rw [hdl];omega)
 have hcl:=fun (c:Nat) (ty:TypeId)=>clear_one (c:=c) (ty:=ty) (p:=o + (n - 1) * 2) e1 (by omega)
 have hS:∀ c,w.heap[g]? = some (.cells c 43 (0,0))->o + cap * 2<=c.size:=fun c e=>by
  rw [hg] at e
  injection e with e
  injection e with e _ _
  subst e
  exact hsz
 have FK:Hid (Tn w ((w.drew.setCells g (o + i * 2) (xs.drop ((i + 1) * 2))).setCells g (o + (n - 1) * 2) [.int .i64 0,.slice none 0 0]) g o (cap * 2)):=by
  have t1:=tn_set (tn_drew (tn_refl (l:=cap * 2) (o:=o) hg)) (vs:=xs.drop ((i + 1) * 2)) (a:=o + i * 2) (by omega) (by rw [hdl];omega) hS
  exact tn_set t1 (vs:=[.int .i64 0,.slice none 0 0]) (a:=o + (n - 1) * 2) (by omega) (by simp;omega) hS
 have FD:Hid (PcR ((w.drew.setCells g (o + i * 2) (xs.drop ((i + 1) * 2))).setCells g (o + (n - 1) * 2) [.int .i64 0,.slice none 0 0]) g o (n - 1) cap (xs.take (i * 2) ++ xs.drop ((i + 1) * 2))):=by
  obtain ⟨c2,e2,s2,f2⟩:=setCells_heap g 43 (0,0) [.int .i64 0,.slice none 0 0] (o + (n - 1) * 2) _ c1 e1 (by simp;omega)
  refine ⟨c2,e2,by omega,by omega,hmx,by rw [List.length_append,hdl,List.length_take];omega,?_⟩
  have hcur:∀ t,t < n * 2->cur[o + t]? = xs[t]? := fun t ht=>by rw [<- htk,List.getElem?_take_of_lt (by omega),List.getElem?_drop,Array.getElem?_toList]
  apply List.ext_getElem?
  intro t
  by_cases ht:t < (n - 1) * 2
  ·rw [List.getElem?_take_of_lt ht,List.getElem?_drop,Array.getElem?_toList,f2,if_neg (by omega),f1,hdl]
   by_cases h0:t < i * 2
   ·rw [if_neg (by omega),hcur t (by omega),List.getElem?_append_left (by rw [List.length_take];omega),List.getElem?_take_of_lt h0]
   ·rw [if_pos (by omega),List.getElem?_append_right (by rw [List.length_take];omega),List.length_take,Nat.min_eq_left (by omega)]
    congr 1
    omega
  ·rw [List.getElem?_take,if_neg ht,List.getElem?_eq_none (by rw [List.length_append,hdl,List.length_take];omega)]
 have hz2:¬ ((i:Int)=(i:Int) + 1):=by omega
 have hb1:(i:Int) + 1<=(n:Int):=by omega
 have hb5:(i:Int)<=(i:Int) + 1:=by omega
 have hb6:(0:Int)<=(i:Int) + 1:=by omega
 have hb2:(n:Int)<=(cap:Int):=by omega
 have hb3:(i:Int)<=(cap:Int):=by omega
 have hb4:(i:Int)<=(n:Int):=by omega
 have hcn:¬ cap=n - 1:=by omega
 have hci:¬ cap=i:=by omega
 have hnn:n - (n - 1)=1:=by omega
 have hn1:1<=n:=by omega
 have hni:¬ n=i:=by omega
 have hii:i<=i + 1:=by omega
 have hdr:n=i + 1->xs.drop ((i + 1) * 2)=[]:=fun e=>List.drop_of_length_le (by omega)
 clear hg htk hxl hcs hdl hsz hi0 hzs e1 s1 f1 hmx h1c hS
 by_cases hcc:cap=i + 1
 ·have hin:n=i + 1:=by omega
  have hap2:=fun ty c=>hap ty ⟨g,o,none⟩ c (fun e=>by omega)
  clear hap
  subst hcc hin
  simp only [Nat.sub_self,Nat.add_sub_cancel,hdr rfl,setCells_nil] at hap2 hcl FD FK ⊢
  clear hdr
  go_enter Tryz.func89,Tryz.ntmps89
  go_wp2
  go_region_law_o (refine step_append_k rfl _ _ 22 22 rfl _ _ (by simp [Act.eval,Act.put]) (by simp [Act.eval,Act.put]) (hap2 _ _) ?_)
  go_wp2
  go_ret
  exact ⟨rfl,FD.out,FK.out⟩
 ·have hap2:=fun ty c=>hap ty ⟨g,o + (i + 1) * 2,none⟩ c (fun _=>rfl)
  clear hap
  go_enter Tryz.func89,Tryz.ntmps89
  go_wp2
  go_region_law_o (refine step_append_k rfl _ _ 22 22 rfl (.slice (some ⟨g,o,none⟩) i cap) (.slice (some ⟨g,o + (i + 1) * 2,none⟩) (n - (i + 1)) (cap - (i + 1))) (by simp [Act.eval,Act.put]) (by simp [Act.eval,Act.put]) (hap2 22 (cap - (i + 1))) ?_)
  go_wp2
  go_ret
  exact ⟨rfl,FD.out,FK.out⟩
end Go.Proofs.YtcipdampcmfmaaaGreat
