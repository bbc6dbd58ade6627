import Derived.Test.YtgbgejflmbhigaaGreatKw0
namespace Go.Proofs.YtgbgejflmbhigaaGreat
open Go.RowKit
set_option maxHeartbeats 2000000
def gap (l h x:Int):Nat:=if x < l then (l - x).toNat else if h < x then (x - h).toNat else 0
theorem side_c (l h:Int) (w:World):Calls Tryz.prog 136 #[.int .i64 l,.int .i64 h] w fun e w' =>
  e=.returned (.func (.func 172) #[] #[.pointer (some ⟨w.heap.size,0,none⟩),.pointer (some ⟨w.heap.size + 1,0,none⟩)])/\w'=(w.alloc (.cells #[.int .i64 l] 3)).alloc (.cells #[.int .i64 h] 3):=by
 go_enter Tryz.func136,Tryz.ntmps136
 go_wp2
 go_ret
 exact ⟨rfl,rfl⟩
theorem side1_c (l h x:Int) (hl:-2147483647<=l/\l<=2147483647) (hh:-2147483647<=h/\h<=2147483647) (hx:-2147483647<=x/\x<=2147483647) (b c:Nat) (w:World)
  (c0:w.cell? ⟨b,0,none⟩=some (.int .i64 l)) (c1:w.cell? ⟨c,0,none⟩=some (.int .i64 h)) :
  Calls Tryz.prog 172 #[.int .i64 x,.pointer (some ⟨b,0,none⟩),.pointer (some ⟨c,0,none⟩)] w fun e w'=>e=.returned (.int .u64 (gap l h x:Int))/\w=w':=by
 obtain ⟨l0,l1⟩:=hl
 obtain ⟨h0,h1⟩:=hh
 obtain ⟨x0,x1⟩:=hx
 by_cases k1:x < l
 ·have G:Hid ((gap l h x:Int)=l - x):=by unfold Hid gap;rw [if_pos k1];omega
  go_enter Tryz.func172,Tryz.ntmps172
  go_wp2
  go_ret
  exact ⟨by rw [G.out];simp,rfl⟩
 by_cases k2:h < x
 ·have G:Hid ((gap l h x:Int)=x - h):=by unfold Hid gap;rw [if_neg k1,if_pos k2];omega
  go_enter Tryz.func172,Tryz.ntmps172
  go_wp2
  go_ret
  exact ⟨by rw [G.out];simp,rfl⟩
 ·have G:Hid ((gap l h x:Int)=0):=by unfold Hid gap;rw [if_neg k1,if_neg k2];rfl
  go_enter Tryz.func172,Tryz.ntmps172
  go_wp2
  go_ret
  exact ⟨by rw [G.out];rfl,rfl⟩
theorem withSquare_c (s n:Nat) (hn:n < 18446744073709551616) (hs:s + n * n < 340282366920938463463374607431768211456) (w:World) :
  Calls Tryz.prog 135 #[Wd s,.int .u64 (n:Int)] w fun e w'=>e=.returned (Wd (s + n * n))/\Gr w w':=by
 have c0:((w.alloc (.cells #[.int .u64 (hi s),.int .u64 (lo s)] 58)).alloc (.cells #[.int .u64 0,.int .u64 0] 58)).cell? ⟨w.heap.size,0,none⟩=some (.int .u64 (hi s)):=by simp [go_sem]
 have c1:((w.alloc (.cells #[.int .u64 (hi s),.int .u64 (lo s)] 58)).alloc (.cells #[.int .u64 0,.int .u64 0] 58)).cell? ⟨w.heap.size,1,none⟩=some (.int .u64 (lo s)):=by simp [go_sem]
 have l1:∀ n:Nat,n < n + 1:=fun n=>by omega
 have l2:=lt_two
 have l3:=lt_three
 go_enter Tryz.func135,Tryz.ntmps135
 go_wp2
 go_region_held3 (fun w'=>w'.cell? ⟨w.heap.size,0,none⟩=some (.int .u64 (hi s))/\w'.cell? ⟨w.heap.size,1,none⟩=some (.int .u64 (lo s))) (first | exact ⟨c0,c1⟩ | exact call_keeps2 (by assumption) (by assumption) | exact alloc_keeps2 (by assumption) | exact alloc_keeps2 ⟨c0,c1⟩ | exact alloc_keeps2 (call_keeps2 g2 (call_keeps2 g1 ⟨c0,c1⟩)) | exact set_far2 (by dsimp only;omega) (by dsimp only;omega) (set_far2 (by dsimp only;omega) (by dsimp only;omega) (by assumption)))
  (first
   | (go_at_call 139;refine (mul_any n n hn hn _).mono ?_;rintro e w1 ⟨rfl,g1⟩;obtain ⟨hc1,hf1,hz1⟩:=g1.rules;have z1:=g1.size;simp only [World.size_alloc,World.size_drew] at z1)
   | (go_at_call 171;refine (add_ok s (n * n) hs _).mono ?_;rintro e w2 ⟨rfl,g2⟩;obtain ⟨hc2,hf2,hz2⟩:=g2.rules))
 ·have hG:Gr ((w.alloc (.cells #[.int .u64 (hi s),.int .u64 (lo s)] 58)).alloc (.cells #[.int .u64 0,.int .u64 0] 58)) (w2.alloc (.cells #[.int .u64 (hi (s + n * n)),.int .u64 (lo (s + n * n))] 58)):=((((Gr.refl _).drew.trans g1).trans g2).alloc _ _)
  have hV:=hG.var2;simp only [World.size_alloc] at hV;obtain ⟨v0,v1,v2,v3⟩:=hV
  go_wp2
  exact bodyPost_ret (v:=Wd (s + n * n)) (by simp [results,Tryz.results135,go_sem,v0,v1]) rfl ⟨rfl,by repeat (first | exact ((Gr.refl _).alloc _ _).trans (((Gr.refl _).alloc _ _).trans hG) | refine Gr.setCell ?_ (by simp) _)⟩
 ·have hq:=g2.var2
  obtain ⟨q0,q1,q2,q3⟩:=hq
  have hG:Gr ((w.alloc (.cells #[.int .u64 (hi s),.int .u64 (lo s)] 58)).alloc (.cells #[.int .u64 0,.int .u64 0] 58)) ((w2.setCell ⟨w1.heap.size,0,none⟩ (.int .u64 (hi (s + n * n)))).setCell ⟨w1.heap.size,1,none⟩ (.int .u64 (lo (s + n * n)))):=((((((Gr.refl _).drew.trans g1).alloc _ _).trans g2).setCell (by simp;omega) _).setCell (by simp;omega) _)
  have hV:=hG.var2;simp only [World.size_alloc] at hV;obtain ⟨v0,v1,v2,v3⟩:=hV
  go_wp2
  exact bodyPost_ret (v:=Wd (s + n * n)) (by simp [results,Tryz.results135,go_sem,v0,v1]) rfl ⟨rfl,by repeat (first | exact ((Gr.refl _).alloc _ _).trans (((Gr.refl _).alloc _ _).trans hG) | refine Gr.setCell ?_ (by simp) _)⟩
 ·have hq:=(((Gr.refl _).drew.trans g1).trans g2).var2
  simp only [World.size_alloc] at hq
  obtain ⟨q0,q1,q2,q3⟩:=hq
  have hG:Gr ((w.alloc (.cells #[.int .u64 (hi s),.int .u64 (lo s)] 58)).alloc (.cells #[.int .u64 0,.int .u64 0] 58)) ((w2.setCell ⟨w.heap.size + 1 + 1,0,none⟩ (.int .u64 (hi (s + n * n)))).setCell ⟨w.heap.size + 1 + 1,1,none⟩ (.int .u64 (lo (s + n * n)))):=((((((Gr.refl _).alloc _ _).drew.trans g1).trans g2).setCell (by simp only [World.size_alloc];omega) _).setCell (by simp only [World.size_alloc];omega) _)
  have hV:=hG.var2;simp only [World.size_alloc] at hV;obtain ⟨v0,v1,v2,v3⟩:=hV
  go_wp2
  exact bodyPost_ret (v:=Wd (s + n * n)) (by simp [results,Tryz.results135,go_sem,v0,v1]) rfl ⟨rfl,by repeat (first | exact ((Gr.refl _).alloc _ _).trans (((Gr.refl _).alloc _ _).trans hG) | refine Gr.setCell ?_ (by simp) _)⟩
end Go.Proofs.YtgbgejflmbhigaaGreat
