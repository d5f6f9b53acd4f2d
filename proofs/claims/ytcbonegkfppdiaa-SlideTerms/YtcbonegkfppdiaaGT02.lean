import Derived.Test.YtcbonegkfppdiaaGT01
import Derived.OwnWalk
import Derived.Deep.RegionHeld3
import Derived.Laws.OwnMore
import Derived.Laws.Bits64b
import Derived.Laws.CopyRow
namespace Go.Proofs.Ytcbonegkfppdiaa
set_option maxRecDepth 100000
set_option linter.unusedVariables false
open Go.RowKit
attribute [local go_sem ↓] Go.wp_at_zero Go.wp_at_succ
def insB (n:Int) (xs:List Int):Bool:=xs.all (fun z=>decide (0≤z) && decide (z<n))
theorem insB_iff {n:Int} {xs:List Int}:insB n xs=true ↔ ∀ z∈xs,0≤z∧z<n:=by
 unfold insB;simp [List.all_eq_true]
theorem insB_no {n:Int} {xs:List Int} {k:Nat} (hk:k<xs.length) (h:¬ (0≤xs[k]∧xs[k]<n)):insB n xs=false:=by
 cases e:insB n xs
 ·rfl
 ·exact absurd (insB_iff.1 e _ (List.getElem_mem hk)) h
set_option maxHeartbeats 1000000 in
theorem inside_any {w:World} {ao:Option Addr} {xs:List Int} (cap:Nat) (hx:IntsAt w ao xs) (hm:xs.length≤1000) (n:Int) :
  Calls Try.prog 70 #[.int .i64 n,.slice ao xs.length cap] w fun e w' => e=.returned (.bool (insB n xs))∧w' = w:=by
 have H1:Hid (∀ k (hk:k<xs.length),¬ (0≤xs[k]∧xs[k]<n)→insB n xs=false):=fun k hk h=>insB_no hk h
 go_enter Try.func70,Try.ntmps70
 go_wp2
 go_loop [9] (fun i=>∃ k:Nat,k≤xs.length∧i=.int .i64 k∧Hid (∀ j (hj:j<xs.length),j<k→0≤xs[j]∧xs[j]<n)) (fun i=>xs.length-(intOf i).toNat)
 case atStart=>exact ⟨0,Nat.zero_le _,rfl,fun j _ hj=>absurd hj (Nat.not_lt_zero _)⟩
 case round=>
  obtain ⟨k,hk,rfl,hall⟩:=hrel
  by_cases hlt:k<xs.length
  ·obtain ⟨b,off,rfl,hb,hc⟩:=hx.get hlt
   have i1:(0:Int)≤(k:Int):=by omega
   have i2:(k:Int)<(xs.length:Int):=by omega
   clear hx
   by_cases h1:xs[k]<0
   ·have H2:Hid (insB n xs=false):=H1.out k hlt (by omega)
    clear H1
    go_wp2
    go_ret
    exact ⟨ret_bool H2.out.symm,rfl⟩
   ·by_cases h2:n≤xs[k]
    ·have H2:Hid (insB n xs=false):=H1.out k hlt (by omega)
     clear H1
     go_wp2
     go_ret
     exact ⟨ret_bool H2.out.symm,rfl⟩
    ·go_wp2
     go_round
     case rel=>exact ⟨k+1,by omega,by go_num,fun j hj hjk=>by
      by_cases e:j=k
      ·subst e;omega
      ·exact hall.out j hj (by omega)⟩
     case measure=>simp [intOf];omega
  ·obtain rfl:k=xs.length:=by omega
   have H2:Hid (insB n xs=true):=insB_iff.2 (fun z hz=>by
    obtain ⟨j,hj,rfl⟩:=List.mem_iff_getElem.1 hz
    exact hall.out j hj hj)
   clear hall H1
   go_wp2
   go_ret
   exact ⟨ret_bool H2.out.symm,rfl⟩
def refE (n:Int) (xs:List Int):Int:=if insB n xs=true then 0 else 112
set_option maxHeartbeats 1000000 in
theorem refusal_hp {B:Nat→Prop} {w:World} {h g room:Nat} {l:List Nd} (p:HpB B w h g room l) {ao:Option Addr} {xs:List Int} (cap:Nat) (hx:IntsAt w ao xs) (hm:xs.length≤1000) :
  Calls Try.prog 69 #[.pointer (some ⟨h,0,none⟩),.slice ao xs.length cap] w fun e w' => e=.returned (.int .i64 (refE (l.length:Int) xs))∧w' = w:=by
 have C:=inside_any cap hx hm (l.length:Int)
 obtain ⟨c0,c1⟩:=p.cells
 clear p hx
 cases hi:insB (l.length:Int) xs
 ·have H:Hid (refE (l.length:Int) xs=112):=by show _=_;rw [refE,hi];rfl
  rw [hi] at C
  go_enter Try.func69,Try.ntmps69
  go_wp2_with (first | (go_at_call 70;refine C.mono ?_;rintro e w' ⟨rfl,rfl⟩))
  go_ret
  exact ⟨ret_int H.out.symm,rfl⟩
 ·have H:Hid (refE (l.length:Int) xs=0):=by show _=_;rw [refE,hi];rfl
  rw [hi] at C
  go_enter Try.func69,Try.ntmps69
  go_wp2_with (first | (go_at_call 70;refine C.mono ?_;rintro e w' ⟨rfl,rfl⟩))
  go_ret
  exact ⟨ret_int H.out.symm,rfl⟩
theorem set6_kept (w:World) (a b:Nat) (v v0 v1 v2 v3 v4:Value):Kept (fun k=>k=a∨k=b) w (put5 (w.setCell ⟨a,1,none⟩ v) b 0 v0 v1 v2 v3 v4):=
 (Kept.setCell (S:=fun k=>k=a∨k=b) (Kept.refl _ w) (p:=⟨a,1,none⟩) (fun _=>.inl rfl) v).trans (put5_kept _ _ _ _ _ _ _ _) (fun _ _ e=>.inr e)
abbrev nodeV (x:Nd) (ao:Option Addr) (ac:Nat):Value:=.agg #[.int .i64 x.1,.slice ao x.2.1.length ac,.int .i64 x.2.2.1,.bool x.2.2.2.1,.int .i64 x.2.2.2.2]
set_option maxHeartbeats 1000000 in
theorem copied_any {w:World} {x:Nd} {ao:Option Addr} {ac:Nat} (hx:Arg w ao x.2.1 ac) (hm:x.2.1.length≤1000) :
  Calls Try.prog 61 #[nodeV x ao ac] w fun e w' => ∃ bo bc,e=.returned (nodeV x bo bc)∧ArgT w' bo x.2.1 bc∧(∀ a,bo=some a→w.heap.size≤a.block)∧Same0 w w' := by
 have k1:Same0 w (w.alloc (.cells #[.int .i64 x.1,.slice ao x.2.1.length ac,.int .i64 x.2.2.1,.bool x.2.2.2.1,.int .i64 x.2.2.2.2] 47)):=(Kept.refl _ w).alloc _
 have k2:Same0 w ((w.alloc (.cells #[.int .i64 x.1,.slice ao x.2.1.length ac,.int .i64 x.2.2.1,.bool x.2.2.2.1,.int .i64 x.2.2.2.2] 47)).alloc (.cells #[.int .i64 0,.slice none 0 0,.int .i64 0,.bool false,.int .i64 0] 47)):=k1.alloc _
 have C:=cloneI_any (cap:=ac) (show Arg _ ao x.2.1 ac from ⟨hx.at'.same k2,hx.cap', hx.nil,hx.size⟩)
 simp only [World.size_alloc] at C
 have hb1:((w.alloc (.cells #[.int .i64 x.1,.slice ao x.2.1.length ac,.int .i64 x.2.2.1,.bool x.2.2.2.1,.int .i64 x.2.2.2.2] 47)).alloc (.cells #[.int .i64 0,.slice none 0 0,.int .i64 0,.bool false,.int .i64 0] 47)).heap[w.heap.size]? = some (.cells #[.int .i64 x.1,.slice ao x.2.1.length ac,.int .i64 x.2.2.1,.bool x.2.2.2.1,.int .i64 x.2.2.2.2] 47 (0,0)):=(Below.heap_alloc _ _ _ (by simp)).trans (heap_alloc_new w _)
 have hb2:=heap_alloc_new (w.alloc (.cells #[.int .i64 x.1,.slice ao x.2.1.length ac,.int .i64 x.2.2.1,.bool x.2.2.2.1,.int .i64 x.2.2.2.2] 47)) (.cells #[.int .i64 0,.slice none 0 0,.int .i64 0,.bool false,.int .i64 0] 47)
 have HB:Hid (∀ ww,Same0 ((w.alloc (.cells #[.int .i64 x.1,.slice ao x.2.1.length ac,.int .i64 x.2.2.1,.bool x.2.2.2.1,.int .i64 x.2.2.2.2] 47)).alloc (.cells #[.int .i64 0,.slice none 0 0,.int .i64 0,.bool false,.int .i64 0] 47)) ww→ww.heap[w.heap.size]? = some (.cells #[.int .i64 x.1,.slice ao x.2.1.length ac,.int .i64 x.2.2.1,.bool x.2.2.2.1,.int .i64 x.2.2.2.2] 47 (0,0))∧ww.heap[w.heap.size+1]? = some (.cells #[.int .i64 0,.slice none 0 0,.int .i64 0,.bool false,.int .i64 0] 47 (0,0))):=fun ww hk=>⟨hk.at0 hb1,by have:=hk.at0 hb2;simpa using this⟩
 have HK:Hid (∀ ww,Same0 ((w.alloc (.cells #[.int .i64 x.1,.slice ao x.2.1.length ac,.int .i64 x.2.2.1,.bool x.2.2.2.1,.int .i64 x.2.2.2.2] 47)).alloc (.cells #[.int .i64 0,.slice none 0 0,.int .i64 0,.bool false,.int .i64 0] 47)) ww→Same0 w ww):=fun ww hk=>k2.trans' hk
 clear hb1 hb2 k1 k2 hx
 go_enter Try.func61,Try.ntmps61
 go_upto_region 2 with (first | (go_at_call 78;refine C.mono ?_;rintro e w1 ⟨v,rfl,hr,hk⟩;obtain ⟨bo,bc,rfl,ha,hbb⟩:=hr.arg (by omega);obtain ⟨q1,q2⟩:=HB.out w1 hk;obtain ⟨a0,a1,a2,a3,a4⟩:=box5 q1;obtain ⟨b0,b1,b2,b3,b4⟩:=box5 q2;obtain ⟨-,f1, -, -, -⟩:=free5 q1;obtain ⟨g0,g1,g2,g3,g4⟩:=free5 q2;clear q1 q2))
 go_wp2
 have K6:=set6_kept w1 w.heap.size (w.heap.size+1) (.slice bo x.2.1.length bc) (.int .i64 x.1) (.slice bo x.2.1.length bc) (.int .i64 x.2.2.1) (.bool x.2.2.2.1) (.int .i64 x.2.2.2.2)
 have R1:=ha.kept' K6 (fun a e s=>by have:=hbb a e;omega)
 have R2:Same0 w _:=(HK.out w1 hk).trans K6 (fun i hi e=>by omega)
 exact bodyPost_ret (v:=nodeV x bo bc) (by simp [results,Try.results61,go_sem,b0,b1,b2,b3,b4]) rfl ⟨bo,bc,rfl,R1,fun a e=>by have:=hbb a e;omega,R2⟩
theorem info_node:(Try.prog.info? 47).map (fun i=>(i.zero,i.size,i.bytes))=some (some (.agg #[.int .i64 0,.slice none 0 0,.int .i64 0,.bool false,.int .i64 0]),5,56):=by kernel_rfl
theorem Ac.nil:Ac []:=⟨fun _=>0,fun i j e=>absurd e.1 (Nat.not_lt_zero _)⟩
set_option maxHeartbeats 1000000 in
theorem hnew_yes (n:Nat) (w:World) (h1:1≤n) (h2:n≤4000):Calls Try.prog 15 #[.int .i64 (n:Int)] w fun e w' => ∃ h g,e=.returned (.tuple #[.pointer (some ⟨h,0,none⟩),.int .i64 0])∧HpB (fun _=>False) w' h g n []∧Same0 w w' ∧ w.heap.size≤h∧w.heap.size≤g:=by
 obtain ⟨i,hi,hz0,hz1,hz2⟩:=info_parts info_node
 have i1:(1:Int)≤(n:Int):=by omega
 have i2:(n:Int)≤4000:=by omega
 go_enter Try.func15,Try.ntmps15
 go_wp2_with (first | (at_make;refine wpList_make_full _ rfl _ _ 32 rfl w.heap.size 47 i _ 5 Try.underlying32 hi hz0 hz1 _ _ _ _ n rfl rfl rfl rfl (by rw [hz2];omega) (by unfold maxLen;omega) (Nat.le_refl _) ?_;intro w1 hown hgrow))
 go_ret2
 obtain ⟨hl,hr⟩:=hown
 rcases hr with ⟨e,h0⟩ | ⟨g,cap,cur,e,hb,hg,hle,hml,hsz,ht⟩
 ·cases e
 ·simp only [Value.slice.injEq,Option.some.injEq,Addr.mk.injEq,and_true,true_and] at e
  obtain ⟨rfl,rfl⟩:=e
  have K:Same0 w w1:=Same0.grown (Kept.refl _ w) hgrow
  refine ⟨w1.heap.size,w.heap.size,rfl,⟨heap_alloc_new w1 _,⟨cur,(Below.heap_alloc _ _ _ (lt_of_at hg)).trans hg,hsz⟩,h1,h2,Nat.zero_le _,fun i hi=>absurd hi (Nat.not_lt_zero _),fun x hx=>absurd hx (by simp),Ac.nil⟩,K.alloc _,K.size,Nat.le_refl _⟩
set_option maxHeartbeats 1000000 in
theorem room_any {B:Nat→Prop} {w:World} {h g room:Nat} {l:List Nd} (p:HpB B w h g room l):Calls Try.prog 43 #[.pointer (some ⟨h,0,none⟩)] w fun e w' => e=.returned (.int .i64 (room:Int))∧w' = w:=by
 obtain ⟨c0,c1⟩:=p.cells
 clear p
 go_enter Try.func43,Try.ntmps43
 go_wp2
 go_ret
 exact ⟨rfl,rfl⟩
set_option maxHeartbeats 1000000 in
theorem used_any {B:Nat→Prop} {w:World} {h g room:Nat} {l:List Nd} (p:HpB B w h g room l):Calls Try.prog 24 #[.pointer (some ⟨h,0,none⟩)] w fun e w' => e=.returned (.int .i64 (l.length:Int))∧w' = w:=by
 obtain ⟨c0,c1⟩:=p.cells
 clear p
 go_enter Try.func24,Try.ntmps24
 go_wp2
 go_ret
 exact ⟨rfl,rfl⟩
theorem ints_one (w:World) (z:Int):IntsAt (w.alloc (.cells #[.int .i64 z] 3)) (some ⟨w.heap.size,0,none⟩) [z]:=
 .inr ⟨w.heap.size,0,rfl,by simp,fun i hi=>by
  have hi' : i<1:=hi
  match i,hi' with
  | 0,_=>exact cellAt (heap_alloc_new w _) 0⟩
theorem ints_two (w:World) (z y:Int):IntsAt (w.alloc (.cells #[.int .i64 z,.int .i64 y] 3)) (some ⟨w.heap.size,0,none⟩) [z,y]:=
 .inr ⟨w.heap.size,0,rfl,by simp,fun i hi=>by
  have hi' : i<2:=hi
  match i,hi' with
  | 0,_=>exact cellAt (heap_alloc_new w _) 0
  | 1,_=>exact cellAt (heap_alloc_new w _) 1⟩
theorem refE_one {n:Nat} {a:Int} (h:0≤a∧a<(n:Int)):refE (n:Int) [a]=0:=by
 unfold refE;rw [if_pos (insB_iff.2 (by simpa using h))]
def NdOut (w w' : World) (x:Nd) (bo:Option Addr) (bc:Nat):Prop:=ArgT w' bo x.2.1 bc∧(∀ a,bo=some a→w.heap.size≤a.block)∧Same0 w w'
set_option maxHeartbeats 2000000 in
theorem hat_yes {B:Nat→Prop} {w:World} {h g room:Nat} {l:List Nd} (p:HpB B w h g room l) (i:Nat) (hi:i<l.length):Calls Try.prog 42 #[.pointer (some ⟨h,0,none⟩),.int .i64 (i:Int)] w fun e w' => ∃ bo bc,e=.returned (.tuple #[nodeV l[i] bo bc,.int .i64 0])∧NdOut w w' l[i] bo bc:=by
 obtain ⟨W0,hW0⟩:∃ W0,W0=w.alloc (.cells #[.int .i64 0,.slice none 0 0,.int .i64 0,.bool false,.int .i64 0] 47):=⟨_,rfl⟩
 have k0:Same0 w W0:=by rw [hW0];exact (Kept.refl _ w).alloc _
 have hb:W0.heap[w.heap.size]? = some (.cells #[.int .i64 0,.slice none 0 0,.int .i64 0,.bool false,.int .i64 0] 47 (0,0)):=by rw [hW0];exact heap_alloc_new w _
 have hz:W0.heap.size=w.heap.size+1:=by rw [hW0];simp
 have k1:Same0 W0 (W0.alloc (.cells #[.int .i64 (i:Int)] 3)):=(Kept.refl _ _).alloc _
 have p1:=(p.same k0).same k1
 have C:=refusal_hp p1 1 (ints_one W0 (i:Int)) (by simp)
 rw [refE_one (by omega)] at C
 obtain ⟨c0,c1⟩:=p1.cells
 obtain ⟨ao,ac,n0,n1,n2,n3,n4,n5,n6⟩:=p1.each i hi
 have hm:=(may_facts (p.may _ (List.getElem_mem hi))).2.1
 have CC:=copied_any (x:=l[i]) (ac:=ac) n5.1 (by omega)
 have i1:(0:Int)≤(i:Int):=by omega
 have i2:(i:Int)<(room:Int):=by have:=p.le;omega
 have HB:Hid (∀ ww,Same0 (W0.alloc (.cells #[.int .i64 (i:Int)] 3)) ww→ww.heap[w.heap.size]? = some (.cells #[.int .i64 0,.slice none 0 0,.int .i64 0,.bool false,.int .i64 0] 47 (0,0))):=fun ww hk=>(k1.trans' hk).at0 hb
 have HK:Hid (∀ ww,Same0 (W0.alloc (.cells #[.int .i64 (i:Int)] 3)) ww→Same0 w ww):=fun ww hk=>(k0.trans' k1).trans' hk
 have HZ:Hid (w.heap.size<W0.heap.size):=by show _<_;omega
 clear p p1 k0 hb k1 hz n5 n6
 go_enter Try.func42,Try.ntmps42
 go_upto_region 1 with fail
 rw [← hW0]
 clear hW0
 go_upto_region 4 with (first | (go_at_call 69;refine C.mono ?_;rintro e w' ⟨rfl,rfl⟩))
 clear C
 go_wp2_with (first | (go_at_call 61;refine CC.mono ?_;rintro e w1 ⟨bo,bc,rfl,ha,hbb,hk⟩;have q:=HB.out w1 hk;obtain ⟨b0,b1,b2,b3,b4⟩:=box5 q;obtain ⟨g0,g1,g2,g3,g4⟩:=free5 q;clear q CC n0 n1 n2 n3 n4 c0 c1))
 have hlt:w.heap.size<(W0.alloc (.cells #[.int .i64 (i:Int)] 3)).heap.size:=by have:=HZ.out;simp;omega
 have hx:∀ a,bo=some a→w.heap.size<a.block:=fun a e=>by have:=hbb a e;omega
 have K5:=put5_kept w1 w.heap.size 0 (.int .i64 l[i].1) (.slice bo l[i].2.1.length bc) (.int .i64 l[i].2.2.1) (.bool l[i].2.2.2.1) (.int .i64 l[i].2.2.2.2)
 have R1:=ha.kept' K5 (fun a e s=>by have:=hx a e;omega)
 have R2:Same0 w _:=(HK.out w1 hk).trans K5 (fun i hi e=>by omega)
 exact bodyPost_ret (v:=.tuple #[nodeV l[i] bo bc,.int .i64 0]) (by simp [results,Try.results42,go_sem,b0,b1,b2,b3,b4]) rfl ⟨bo,bc,rfl,R1,fun a e=>Nat.le_of_lt (hx a e),R2⟩
def Ind (l:List Nd):Nat→Nat→Nat→Prop
 | 0,a,b=>a=b
 | k+1,a,b=>∃ h:a<l.length,l[a].2.2.2.1=true∧Ind l k l[a].2.2.2.2.toNat b
def Res (l:List Nd) (a b:Nat):Prop:=(∃ k,Ind l k a b)∧∃ h:b<l.length,l[b].2.2.2.1=false
theorem Ind.uniq {l:List Nd}:∀ {k k' a b b' : Nat},Ind l k a b→Ind l k' a b' → (∃ h:b<l.length,l[b].2.2.2.1=false)→(∃ h:b' < l.length,l[b'].2.2.2.1=false)→b=b'
 | 0,0,a,b,b', h,h', _,_=>by cases h;cases h'; rfl
 | 0,k' + 1,a,b,b', h,⟨_,h1,_⟩,⟨_,q⟩,_=>by cases h;rw [h1] at q;cases q
 | k+1,0,a,b,b', ⟨_,h1,_⟩,h', _,⟨_,q⟩=>by cases h'; rw [h1] at q;cases q
 | k+1,k' + 1,a,b,b', ⟨_,_,h⟩,⟨_,_,h'⟩,q,q' => Ind.uniq h h' q q'
theorem Res.uniq {l:List Nd} {a b b' : Nat} (h:Res l a b) (h' : Res l a b'):b=b' := by
 obtain ⟨⟨k,h1⟩,h2⟩:=h
 obtain ⟨⟨k', h3⟩,h4⟩:=h'
 exact Ind.uniq h1 h3 h2 h4
theorem Ind.snoc {l:List Nd}:∀ {k a b:Nat},Ind l k a b→∀ (h:b<l.length),l[b].2.2.2.1=true→Ind l (k+1) a l[b].2.2.2.2.toNat
 | 0,a,b,h,hb,q=>by cases h;exact ⟨hb,q,rfl⟩
 | k+1,a,b,⟨h1,h2,h3⟩,hb,q=>⟨h1,h2,h3.snoc hb q⟩
theorem Res.step {l:List Nd} {a b:Nat} (h:a<l.length) (q:l[a].2.2.2.1=true) (r:Res l l[a].2.2.2.2.toNat b):Res l a b:=by
 obtain ⟨⟨k,h1⟩,h2⟩:=r
 exact ⟨⟨k+1,h,q,h1⟩,h2⟩
theorem Res.self {l:List Nd} {a:Nat} (h:a<l.length) (q:l[a].2.2.2.1=false):Res l a a:=⟨⟨0,rfl⟩,h,q⟩
theorem ed_ind {l:List Nd} {a:Nat} (h:a<l.length) (q:l[a].2.2.2.1=true) (hz:0≤l[a].2.2.2.2):Ed l a l[a].2.2.2.2.toNat:=⟨h,by unfold downL;rw [if_pos q];simp;omega⟩
set_option maxHeartbeats 2000000 in
theorem hres_yes {B:Nat→Prop} {w:World} {h g room:Nat} {l:List Nd} (p:HpB B w h g room l) (i:Nat) (hi:i<l.length):Calls Try.prog 37 #[.pointer (some ⟨h,0,none⟩),.int .i64 (i:Int)] w fun e w' => ∃ b:Nat,e=.returned (.tuple #[.int .i64 (b:Int),.int .i64 0])∧Res l i b∧Same0 w w' := by
 have k1:Same0 w (w.alloc (.cells #[.int .i64 (i:Int)] 3)):=(Kept.refl _ _).alloc _
 have p1:=p.same k1
 have C:=refusal_hp p1 1 (ints_one w (i:Int)) (by simp)
 rw [refE_one (by omega)] at C
 obtain ⟨c0,c1⟩:=p1.cells
 obtain ⟨r,hr⟩:=p.ac
 have HR:Hid (∀ i j,Ed l i j→r j<r i):=hr
 have HE:Hid (∀ j (hj:j<l.length),NdC B (w.alloc (.cells #[.int .i64 (i:Int)] 3)) g (j * 5) l[j]):=p1.each
 have HM:Hid (∀ x∈l,mayB l.length x=true):=p.may
 have hle:=p.le
 have K1:Hid (Same0 w (w.alloc (.cells #[.int .i64 (i:Int)] 3))):=k1
 clear p p1 k1 hr
 go_enter Try.func37,Try.ntmps37
 go_upto_region 4 with (first | (go_at_call 69;refine C.mono ?_;rintro e w' ⟨rfl,rfl⟩))
 clear C
 go_loop [1] (fun v=>∃ a:Nat,a<l.length∧v=.int .i64 (a:Int)∧Hid (∃ k,Ind l k i a)) (fun v=>r (intOf v).toNat)
 case atStart=>exact ⟨i,hi,rfl,0,rfl⟩
 case round=>
  obtain ⟨a,ha,rfl,hk⟩:=hrel
  obtain ⟨ao,ac,n0,n1,n2,n3,n4, -, -⟩:=HE.out a ha
  have i1:(0:Int)≤(a:Int):=by omega
  have i2:(a:Int)<(room:Int):=by omega
  have mf:=may_facts (HM.out _ (List.getElem_mem ha))
  cases hp:l[a].2.2.2.1
  ·rw [hp] at n3
   have HP:Hid (l[a].2.2.2.1=false):=hp
   clear hp mf n0 n1 n2 n4
   go_wp2
   go_ret2
   exact ⟨a,rfl,⟨hk.out,ha,HP.out⟩,K1.out⟩
  ·rw [hp] at n3
   have HP:Hid (l[a].2.2.2.1=true):=hp
   obtain ⟨m1,m2, -⟩:=mf.2.2.2.2.2.1 hp
   obtain ⟨t,ht⟩:∃ t:Nat,l[a].2.2.2.2=(t:Int):=⟨l[a].2.2.2.2.toNat,by omega⟩
   have HT:Hid (l[a].2.2.2.2=(t:Int)):=ht
   rw [ht] at n4
   have hlt:t<l.length:=by omega
   clear hp mf n0 n1 n2 m1 m2 ht
   go_wp2
   go_round
   case rel=>exact ⟨t,hlt,rfl,by
    obtain ⟨k,hk⟩:=hk.out
    have:=hk.snoc ha HP.out
    rw [HT.out] at this
    exact ⟨k+1,by simpa using this⟩⟩
   case measure=>
    have:=HR.out a t (by have:=ed_ind ha HP.out (by rw [HT.out];omega);rw [HT.out] at this;simpa using this)
    simpa [intOf] using this
end Go.Proofs.Ytcbonegkfppdiaa
namespace Go.Proofs.Ytcbonegkfppdiaa
set_option linter.unusedVariables false
def AppN (l:List Nd) (a:Nat):Prop:=∃ h:a<l.length,l[a].2.2.2.1=false
def Kpt (l:List Nd) (R:List Int) (a:Nat):Prop:=AppN l a∧∃ r∈R,Rc l r.toNat a
def Wf (l:List Nd):Prop:=(∀ x∈l,mayB l.length x=true)∧Ac l
theorem Res.app {l:List Nd} {a b:Nat} (h:Res l a b):AppN l b:=h.2
theorem AppN.res {l:List Nd} {a:Nat} (h:AppN l a):Res l a a:=by
 obtain ⟨h1,h2⟩:=h
 exact Res.self h1 h2
theorem ind_to {l:List Nd} (hw:Wf l) {a:Nat} (h:a<l.length) (q:l[a].2.2.2.1=true):Ed l a l[a].2.2.2.2.toNat∧l[a].2.2.2.2.toNat<l.length:=by
 have m:=(may_facts (hw.1 _ (List.getElem_mem h))).2.2.2.2.2.1 q
 exact ⟨ed_ind h q m.1,by omega⟩
theorem Ind.rc {l:List Nd} (hw:Wf l):∀ {k a b:Nat},Ind l k a b→Rc l a b
 | 0,a,b,h=>by cases h;exact Rc.refl l a
 | k+1,a,b,⟨h,q,r⟩=>(Ind.rc hw r).step (ind_to hw h q).1
theorem Res.rc {l:List Nd} (hw:Wf l) {a b:Nat} (h:Res l a b):Rc l a b:=by
 obtain ⟨⟨k,h1⟩,_⟩:=h
 exact h1.rc hw
theorem Ind.under {l:List Nd} (hw:Wf l):∀ {k a b c:Nat},Ind l k a b→AppN l b→Rc l a c→AppN l c→Rc l b c
 | 0,a,b,c,h,_,r,_=>by cases h;exact r
 | k+1,a,b,c,⟨h,q,i⟩,hb,r,hc=>by
  obtain ⟨n,hn⟩:=r
  cases n with
  | zero=>
   cases hn
   obtain ⟨_,hc2⟩:=hc
   rw [q] at hc2;cases hc2
  | succ n=>
   obtain ⟨m,⟨h1,h2⟩,h3⟩:=hn
   unfold downL at h2
   rw [if_pos q] at h2
   simp only [List.mem_singleton] at h2
   have e:m=l[a].2.2.2.2.toNat:=by omega
   rw [e] at h3
   exact Ind.under hw i hb ⟨n,h3⟩ hc
theorem Res.under {l:List Nd} (hw:Wf l) {a b c:Nat} (h:Res l a b) (r:Rc l a c) (hc:AppN l c):Rc l b c:=by
 obtain ⟨⟨k,h1⟩,h2⟩:=h
 exact h1.under hw h2 r hc
theorem AppN.down {l:List Nd} {a:Nat} (h:AppN l a):downL (l[a]'h.1)=(l[a]'h.1).2.1:=by
 obtain ⟨h1,h2⟩:=h
 unfold downL
 rw [if_neg (by rw [h2];simp)]
theorem args_rng {l:List Nd} (hw:Wf l) {a:Nat} (h:a<l.length) {z:Int} (hz:z∈l[a].2.1):0≤z∧z<(l.length:Int):=(may_facts (hw.1 _ (List.getElem_mem h))).2.2.2.2.1 z hz
theorem Kpt.arg {l:List Nd} (hw:Wf l) {R:List Int} {a:Nat} (h:Kpt l R a) {z:Int} (hz:z∈(l[a]'h.1.1).2.1) {b:Nat} (hb:Res l z.toNat b):Kpt l R b:=by
 obtain ⟨ha,r,hr,hc⟩:=h
 refine ⟨hb.app,r,hr,hc.trans (Rc.step ⟨ha.1,?_⟩ (hb.rc hw))⟩
 rw [ha.down]
 have:=(args_rng hw ha.1 hz).1
 rw [Int.toNat_of_nonneg this];exact hz
theorem Kpt.root {l:List Nd} (hw:Wf l) {R:List Int} {r:Int} (hr:r∈R) {b:Nat} (hb:Res l r.toNat b):Kpt l R b:=⟨hb.app,r,hr,hb.rc hw⟩
theorem Kpt.in {l:List Nd} (hw:Wf l) {R:List Int} (hR:∀ r∈R,0≤r∧r<(l.length:Int)) {S:Nat→Prop} (h1:∀ r∈R,∀ b,Res l r.toNat b→S b) (h2:∀ a (h:AppN l a),S a→∀ z∈(l[a]'h.1).2.1,∀ b,Res l z.toNat b→S b) {a:Nat} (h:Kpt l R a):S a:=by
 obtain ⟨ha,r,hr,hc⟩:=h
 have key:∀ x y,(∀ b,Res l x b→S b)→Ed l x y→∀ b,Res l y b→S b:=by
  intro x y hx ⟨hl,he⟩ b hb
  by_cases q:l[x].2.2.2.1=true
  ·refine hx b (Res.step hl q ?_)
   unfold downL at he
   rw [if_pos q] at he
   simp only [List.mem_singleton] at he
   have e:l[x].2.2.2.2.toNat=y:=by omega
   rw [e];exact hb
  ·have hap:AppN l x:=⟨hl,by simpa using q⟩
   have hd:=hap.down
   refine h2 x hap (hx x hap.res) (y:Int) (by rw [← hd];exact he) b (by simpa using hb)
 have:=Rc.in (S:=fun x=>∀ b,Res l x b→S b) (fun i j hi e=>key i j hi e) (fun b hb=>h1 r hr b hb) hc
 exact this a ha.res
structure Wh (l:List Nd) (R:List Int) (s:List Int) (T:List (List Int)):Prop where
 val:∀ (x:Nat) (v:Int),s[x]? = some v→v = -1∨∃ b:Nat,v=(b:Int)∧Res l x b∧s[b]? = some (b:Int)
 rch:∀ (x b:Nat),s[x]? = some (b:Int)→∃ r∈R,Rc l r.toNat x
 root:∀ r∈R,s[r.toNat]? ≠ some (-1)∨∃ t∈T,r∈t
 args:∀ (a:Nat) (h:a<l.length),s[a]? = some (a:Int)→∀ z∈l[a].2.1,s[z.toNat]? ≠ some (-1)∨∃ t∈T,z∈t
 rng:∀ t∈T,∀ z∈t,(0≤z∧z<(l.length:Int))∧∃ r∈R,Rc l r.toNat z.toNat
 len:l.length≤s.length
theorem Wh.start {l:List Nd} {R:List Int} (hR:∀ r∈R,0≤r∧r<(l.length:Int)) {room:Nat} (hl:l.length≤room):Wh l R (List.replicate room (-1)) [R]:=by
 have h0:∀ (x:Nat) (v:Int),(List.replicate room (-1:Int))[x]? = some v→v = -1:=fun x v h=>by
  rw [List.getElem?_replicate] at h
  split at h
  ·cases h;rfl
  ·cases h
 refine ⟨fun x v h=>.inl (h0 x v h),fun x b h=>?_,fun r hr=>.inr ⟨R,by simp,hr⟩,fun a h ha=>?_,fun t ht z hz=>?_,by simpa using hl⟩
 ·have:=h0 x _ h;omega
 ·have:=h0 a _ ha;omega
 ·simp only [List.mem_singleton] at ht
  subst ht
  exact ⟨hR z hz,z,hz,Rc.refl _ _⟩
theorem Wh.skip {l:List Nd} {R s:List Int} {T:List (List Int)} {b:Int} {t:List Int} (h:Wh l R s (T ++ [b :: t])) (hb:s[b.toNat]? ≠ some (-1)):Wh l R s (T ++ [t]):=by
 have mv:∀ z:Int,(s[z.toNat]? ≠ some (-1)∨∃ u∈T ++ [b :: t],z∈u)→s[z.toNat]? ≠ some (-1)∨∃ u∈T ++ [t],z∈u:=by
  rintro z (q | ⟨u,hu,hz⟩)
  ·exact .inl q
  ·rcases List.mem_append.1 hu with e | e
   ·exact .inr ⟨u,by simp [e],hz⟩
   ·simp only [List.mem_singleton] at e
    subst e
    rcases List.mem_cons.1 hz with e | e
    ·subst e;exact .inl hb
    ·exact .inr ⟨t,by simp,e⟩
 refine ⟨h.val,h.rch,fun r hr=>mv r (h.root r hr),fun a ha q z hz=>mv z (h.args a ha q z hz),fun u hu z hz=>?_,h.len⟩
 rcases List.mem_append.1 hu with e | e
 ·exact h.rng u (by simp [e]) z hz
 ·simp only [List.mem_singleton] at e
  subst e
  exact h.rng (b :: u) (by simp) z (by simp [hz])
theorem Wh.drop {l:List Nd} {R s:List Int} {T:List (List Int)} (h:Wh l R s (T ++ [[]])):Wh l R s T:=by
 have mv:∀ z:Int,(s[z.toNat]? ≠ some (-1)∨∃ u∈T ++ [([]:List Int)],z∈u)→s[z.toNat]? ≠ some (-1)∨∃ u∈T,z∈u:=by
  rintro z (q | ⟨u,hu,hz⟩)
  ·exact .inl q
  ·rcases List.mem_append.1 hu with e | e
   ·exact .inr ⟨u,e,hz⟩
   ·simp only [List.mem_singleton] at e
    subst e;cases hz
 exact ⟨h.val,h.rch,fun r hr=>mv r (h.root r hr),fun a ha q z hz=>mv z (h.args a ha q z hz),fun u hu z hz=>h.rng u (by simp [hu]) z hz,h.len⟩
def wr2 (s:List Int) (a b:Nat):List Int:=(s.set a (a:Int)).set b (a:Int)
theorem wr2_len (s:List Int) (a b:Nat):(wr2 s a b).length=s.length:=by simp [wr2]
theorem wr2_at (s:List Int) (a b x:Nat):(wr2 s a b)[x]? = if b=x then (if x<s.length then some (a:Int) else none) else if a=x then (if x<s.length then some (a:Int) else none) else s[x]? := by
 unfold wr2
 rw [List.getElem?_set]
 simp only [List.length_set]
 split
 ·rename_i e;subst e;rfl
 ·rw [List.getElem?_set]
  split
  ·rename_i e;subst e;rfl
  ·rfl
theorem Wh.look {l:List Nd} (hw:Wf l) {R s:List Int} {T:List (List Int)} {b a:Nat} {t:List Int} (h:Wh l R s (T ++ [(b:Int) :: t])) (hb:s[b]? = some (-1)) (ha:Res l b a) (U:List (List Int)) (hU:∀ u∈T ++ [t],u∈U) (hU2:∀ u∈U,u∈T ++ [t]∨u=(l[a]'ha.2.1).2.1) (hN:s[a]? = some (-1)→(l[a]'ha.2.1).2.1∈U):Wh l R (wr2 s a b) U:=by
 have hlen:=h.len
 have hal:a<l.length:=ha.2.1
 have has:a<s.length:=by omega
 have hbs:b<s.length:=(List.getElem?_eq_some_iff.1 hb).1
 have va:(wr2 s a b)[a]? = some (a:Int):=by
  rw [wr2_at];simp [has]
 have vb:(wr2 s a b)[b]? = some (a:Int):=by rw [wr2_at];simp [hbs]
 have vo:∀ x,x≠a→x≠b→(wr2 s a b)[x]? = s[x]? := fun x h1 h2=>by rw [wr2_at,if_neg (Ne.symm h2),if_neg (Ne.symm h1)]
 have known:∀ x,s[x]? ≠ some (-1)→(wr2 s a b)[x]? ≠ some (-1):=fun x hx=>by
  by_cases h1:x=a
  ·subst h1;rw [va];intro e;simp only [Option.some.injEq] at e;omega
  ·by_cases h2:x=b
   ·subst h2;rw [vb];intro e;simp only [Option.some.injEq] at e;omega
   ·rw [vo x h1 h2];exact hx
 have rb:=(h.rng ((b:Int) :: t) (by simp) (b:Int) (by simp))
 have aa:Res l a a:=AppN.res ha.2
 have mv:∀ z:Int,(s[z.toNat]? ≠ some (-1)∨∃ u∈T ++ [(b:Int) :: t],z∈u)→(wr2 s a b)[z.toNat]? ≠ some (-1)∨∃ u∈U,z∈u:=by
  rintro z (q | ⟨u,hu,hz⟩)
  ·exact .inl (known _ q)
  ·rcases List.mem_append.1 hu with e | e
   ·exact .inr ⟨u,hU u (by simp [e]),hz⟩
   ·simp only [List.mem_singleton] at e
    subst e
    rcases List.mem_cons.1 hz with e | e
    ·subst e
     refine .inl ?_
     rw [Int.toNat_natCast,vb];intro e;simp only [Option.some.injEq] at e;omega
    ·exact .inr ⟨t,hU t (by simp),e⟩
 refine ⟨fun x v hx=>?_,fun x c hx=>?_,fun r hr=>mv r (h.root r hr),fun x hx q z hz=>?_,fun u hu z hz=>?_,by rw [wr2_len];exact hlen⟩
 ·by_cases h1:x=a
  ·subst h1;rw [va] at hx;cases hx;exact .inr ⟨x,rfl,aa,va⟩
  ·by_cases h2:x=b
   ·subst h2;rw [vb] at hx;cases hx;exact .inr ⟨a,rfl,ha,va⟩
   ·rw [vo x h1 h2] at hx
    rcases h.val x v hx with e | ⟨c,e1,e2,e3⟩
    ·exact .inl e
    ·refine .inr ⟨c,e1,e2,?_⟩
     by_cases h3:c=a
     ·subst h3;exact va
     ·by_cases h4:c=b
      ·subst h4;rw [hb] at e3;simp only [Option.some.injEq] at e3;omega
      ·rw [vo c h3 h4];exact e3
 ·by_cases h1:x=a
  ·subst h1
   obtain ⟨r,hr,hc⟩:=rb.2
   rw [Int.toNat_natCast] at hc
   exact ⟨r,hr,hc.trans (ha.rc hw)⟩
  ·by_cases h2:x=b
   ·subst h2
    obtain ⟨r,hr,hc⟩:=rb.2
    rw [Int.toNat_natCast] at hc
    exact ⟨r,hr,hc⟩
   ·rw [vo x h1 h2] at hx
    exact h.rch x c hx
 ·by_cases h1:x=a
  ·subst h1
   by_cases h2:s[x]? = some (-1)
   ·exact .inr ⟨_,hN h2,hz⟩
   ·have h3:s[x]? = some (x:Int):=by
     rcases h.val x s[x] (by simp) with e | ⟨c,e1,e2,e3⟩
     ·exact absurd (by rw [List.getElem?_eq_getElem has,e]) h2
     ·have:=Res.uniq e2 aa;subst this;exact e3
    exact mv z (h.args x hx h3 z hz)
  ·by_cases h2:x=b
   ·subst h2
    rw [vb] at q
    simp only [Option.some.injEq] at q
    omega
   ·rw [vo x h1 h2] at q
    exact mv z (h.args x hx q z hz)
 ·rcases hU2 u hu with e | e
  ·rcases List.mem_append.1 e with e | e
   ·exact h.rng u (by simp [e]) z hz
   ·simp only [List.mem_singleton] at e
    subst e
    exact h.rng ((b:Int) :: u) (by simp) z (by simp [hz])
  ·subst e
   refine ⟨args_rng hw hal hz,?_⟩
   obtain ⟨r,hr,hc⟩:=rb.2
   rw [Int.toNat_natCast] at hc
   refine ⟨r,hr,hc.trans ((ha.rc hw).snoc ⟨hal,?_⟩)⟩
   rw [AppN.down ha.2,Int.toNat_of_nonneg (args_rng hw hal hz).1]
   exact hz
theorem Wh.old {l:List Nd} (hw:Wf l) {R s:List Int} {T:List (List Int)} {b a:Nat} {t:List Int} (h:Wh l R s (T ++ [(b:Int) :: t])) (hb:s[b]? = some (-1)) (ha:Res l b a) (hN:s[a]? ≠ some (-1)):Wh l R (wr2 s a b) (T ++ [t]):=
 h.look hw hb ha (T ++ [t]) (fun _ e=>e) (fun _ e=>.inl e) (fun e=>absurd e hN)
theorem Wh.new {l:List Nd} (hw:Wf l) {R s:List Int} {T:List (List Int)} {b a:Nat} {t:List Int} (h:Wh l R s (T ++ [(b:Int) :: t])) (hb:s[b]? = some (-1)) (ha:Res l b a):Wh l R (wr2 s a b) (T ++ [t] ++ [(l[a]'ha.2.1).2.1]):=
 h.look hw hb ha _ (fun u e=>by simp at e ⊢;rcases e with e | e <;> simp [e]) (fun u e=>by simp at e ⊢;rcases e with e | e | e <;> simp [e]) (fun e=>by simp)
structure IsS (l:List Nd) (R:List Int) (s:List Int):Prop where
 len:l.length≤s.length
 self:∀ a:Nat,s[a]? = some (a:Int) ↔ Kpt l R a
 root:∀ r∈R,∃ b:Nat,s[r.toNat]? = some (b:Int)∧Res l r.toNat b∧Kpt l R b
 args:∀ (a:Nat) (h:Kpt l R a),∀ z∈(l[a]'h.1.1).2.1,∃ b:Nat,s[z.toNat]? = some (b:Int)∧Res l z.toNat b∧Kpt l R b
theorem Wh.done {l:List Nd} (hw:Wf l) {R s:List Int} (hR:∀ r∈R,0≤r∧r<(l.length:Int)) (h:Wh l R s []):IsS l R s:=by
 have hlen:=h.len
 have get:∀ x:Nat,x<l.length→s[x]? ≠ some (-1)→∃ b:Nat,s[x]? = some (b:Int)∧Res l x b∧s[b]? = some (b:Int):=fun x hx hn=>by
  have hs:x<s.length:=by omega
  rcases h.val x s[x] (by simp) with e | ⟨c,e1,e2,e3⟩
  ·exact absurd (by rw [List.getElem?_eq_getElem hs,e]) hn
  ·exact ⟨c,by rw [List.getElem?_eq_getElem hs,e1],e2,e3⟩
 have root:∀ r∈R,∃ b:Nat,s[r.toNat]? = some (b:Int)∧Res l r.toNat b∧s[b]? = some (b:Int):=fun r hr=>by
  have:=hR r hr
  rcases h.root r hr with e | ⟨t,ht,_⟩
  ·exact get _ (by omega) e
  ·cases ht
 have args:∀ (a:Nat) (h:a<l.length),s[a]? = some (a:Int)→∀ z∈l[a].2.1,∃ b:Nat,s[z.toNat]? = some (b:Int)∧Res l z.toNat b∧s[b]? = some (b:Int):=fun a ha q z hz=>by
  have:=args_rng hw ha hz
  rcases h.args a ha q z hz with e | ⟨t,ht,_⟩
  ·exact get _ (by omega) e
  ·cases ht
 have self:∀ a:Nat,s[a]? = some (a:Int) ↔ Kpt l R a:=fun a=>by
  constructor
  ·intro e
   rcases h.val a _ e with e1 | ⟨c,e1,e2,e3⟩
   ·omega
   ·obtain rfl:a=c:=by omega
    exact ⟨e2.app,h.rch a a e⟩
  ·intro k
   refine Kpt.in hw hR (S:=fun a=>s[a]? = some (a:Int)) (fun r hr b hb=>?_) (fun a ha q z hz b hb=>?_) k
   ·obtain ⟨c,c1,c2,c3⟩:=root r hr
    rw [Res.uniq hb c2];exact c3
   ·obtain ⟨c,c1,c2,c3⟩:=args a ha.1 q z hz
    rw [Res.uniq hb c2];exact c3
 refine ⟨hlen,self,fun r hr=>?_,fun a ha z hz=>?_⟩
 ·obtain ⟨b,b1,b2,b3⟩:=root r hr
  exact ⟨b,b1,b2,(self b).1 b3⟩
 ·obtain ⟨b,b1,b2,b3⟩:=args a ha.1.1 ((self a).2 ha) z hz
  exact ⟨b,b1,b2,(self b).1 b3⟩
def msW (s:List Int) (T:List (List Int)):Nat:=8 * s.count (-1)+(T.map (fun t=>t.length+1)).sum
theorem msW_skip (s:List Int) (T:List (List Int)) (b:Int) (t:List Int):msW s (T ++ [t])+1=msW s (T ++ [b :: t]):=by
 simp [msW];omega
theorem msW_drop (s:List Int) (T:List (List Int)):msW s T+1=msW s (T ++ [[]]):=by simp [msW];omega
theorem count_put {s:List Int} {x:Nat} {v:Int} (hv:v ≠ -1):(s.set x v).count (-1)≤s.count (-1):=by
 by_cases h:x<s.length
 ·rw [List.count_set h]
  simp only [beq_iff_eq,hv,if_false]
  omega
 ·rw [List.set_eq_of_length_le (by omega)];exact Nat.le_refl _
theorem count_put' {s:List Int} {x:Nat} {v:Int} (hv:v ≠ -1) (hx:s[x]? = some (-1)):(s.set x v).count (-1)+1=s.count (-1):=by
 obtain ⟨h,e⟩:=List.getElem?_eq_some_iff.1 hx
 rw [List.count_set h]
 have:0<s.count (-1):=List.count_pos_iff.2 (e ▸ List.getElem_mem h)
 simp [hv,e]
 omega
theorem count_wr2 {s:List Int} {a b:Nat} (hb:s[b]? = some (-1)):(wr2 s a b).count (-1)+1≤s.count (-1):=by
 unfold wr2
 by_cases e:a=b
 ·subst e
  rw [List.set_set]
  have:=count_put' (v:=(a:Int)) (by omega) hb
  omega
 ·have h1:(s.set a (a:Int))[b]? = some (-1):=by rw [List.getElem?_set_ne (by omega)];exact hb
  have:=count_put' (v:=(a:Int)) (by omega) h1
  have:=count_put (s:=s) (x:=a) (v:=(a:Int)) (by omega)
  omega
theorem msW_old {s:List Int} (T:List (List Int)) {a b:Nat} (t:List Int) (hb:s[b]? = some (-1)):msW (wr2 s a b) (T ++ [t])<msW s (T ++ [(b:Int) :: t]):=by
 have:=count_wr2 (a:=a) hb
 simp [msW];omega
theorem msW_new {s:List Int} (T:List (List Int)) {a b:Nat} (t u:List Int) (hb:s[b]? = some (-1)) (hu:u.length≤6):msW (wr2 s a b) (T ++ [t] ++ [u])<msW s (T ++ [(b:Int) :: t]):=by
 have:=count_wr2 (a:=a) hb
 simp [msW];omega
structure Bf (l:List Nd) (top N:Nat) (met:List Bool) (F:List Nat):Prop where
 len:met.length=N
 top' : top∈F
 each:∀ j∈F,j<l.length∧Rc l top j
 iff:∀ j,met[j]? = some true ↔ j∈F
 cnt:F.length=met.count true
def Cl (l:List Nd) (F:List Nat) (i:Nat):Prop:=∀ k (h:k<F.length),k<i→∀ j,Ed l F[k] j→j∈F
theorem Bf.le {l:List Nd} {top N:Nat} {met:List Bool} {F:List Nat} (h:Bf l top N met F):F.length≤N:=by
 rw [h.cnt,← h.len];exact List.count_le_length
theorem Bf.start {l:List Nd} {top N:Nat} (ht:top<l.length) (hN:l.length≤N):Bf l top N ((List.replicate N false).set top true) [top]:=by
 refine ⟨by simp,by simp,?_,?_,?_⟩
 ·intro j hj;simp at hj;subst hj;exact ⟨ht,Rc.refl l j⟩
 ·intro j
  rw [List.getElem?_set]
  by_cases e:top=j
  ·subst e;simp;omega
  ·simp [e,List.getElem?_replicate]
   intro h;exact e h.symm
 ·rw [List.count_set (by simp;omega),List.count_replicate]
  simp
theorem Bf.push {l:List Nd} {top N:Nat} {met:List Bool} {F:List Nat} (h:Bf l top N met F) {b:Nat} (hb:met[b]? = some false) (hl:b<l.length) (hr:Rc l top b):Bf l top N (met.set b true) (F ++ [b]):=by
 obtain ⟨hlt,hv⟩:=List.getElem?_eq_some_iff.1 hb
 refine ⟨by simp [h.len],by simp [h.top'],?_,?_,?_⟩
 ·intro j hj
  rcases List.mem_append.1 hj with q | q
  ·exact h.each j q
  ·simp at q;subst q;exact ⟨hl,hr⟩
 ·intro j
  rw [List.getElem?_set]
  by_cases e:b=j
  ·subst e;simp [hlt]
  ·rw [if_neg e,h.iff]
   simp
   intro q;exact absurd q.symm e
 ·rw [List.count_set hlt,List.length_append,h.cnt]
  simp [hv]
theorem Cl.push {l:List Nd} {F:List Nat} {i:Nat} (h:Cl l F i) (hi:i≤F.length) (b:Nat):Cl l (F ++ [b]) i:=by
 intro k hk hki j e
 rw [List.getElem_append_left (by omega)] at e
 exact List.mem_append.2 (.inl (h k (by omega) hki j e))
theorem Bf.done {l:List Nd} {top N:Nat} {met:List Bool} {F:List Nat} (h:Bf l top N met F) (hc:Cl l F F.length) (a:Nat):met[a]? = some true ↔ Rc l top a:=by
 rw [h.iff]
 refine ⟨fun q=>(h.each a q).2,fun q=>?_⟩
 refine Rc.in (S:=fun j=>j∈F) (fun i j hi e=>?_) h.top' q
 obtain ⟨k,hk,rfl⟩:=List.mem_iff_getElem.1 hi
 exact hc k hk hk j e
theorem Bf.has {l:List Nd} {top N:Nat} {met:List Bool} {F:List Nat} (h:Bf l top N met F) {a:Nat} (q:met[a]? = some true):Rc l top a:=(h.each a ((h.iff a).1 q)).2
theorem Cl.next {l:List Nd} {F:List Nat} {i:Nat} (h:Cl l F i) (hi:i<F.length) (hd:∀ z∈(if h:F[i]<l.length then downL l[F[i]] else []),z.toNat∈F):Cl l F (i+1):=by
 intro k hk hki j e
 by_cases q:k=i
 ·subst q
  obtain ⟨hlt,hm⟩:=e
  have:=hd (j:Int) (by rw [dif_pos hlt];exact hm)
  simpa using this
 ·exact h k hk (by omega) j e
end Go.Proofs.Ytcbonegkfppdiaa
namespace Go.Proofs.Ytcbonegkfppdiaa
set_option maxRecDepth 100000
set_option linter.unusedVariables false
open Go.RowKit
attribute [local go_sem ↓] Go.wp_at_zero Go.wp_at_succ
set_option maxHeartbeats 1000000 in
theorem next_any {w:World} {x:Nd} {ao:Option Addr} {ac:Nat} (hx:Arg w ao x.2.1 ac) :
  Calls Try.prog 81 #[nodeV x ao ac] w fun e w' => ∃ bo bc,e=.returned (.slice bo (downL x).length bc)∧IntsAt w' bo (downL x)∧(∀ a,bo=some a→(ao=some a∧downL x=x.2.1)∨(w.heap.size≤a.block∧a.block<w'.heap.size))∧Same0 w w' := by
 obtain ⟨W0,hW0⟩:∃ W0,W0=w.alloc (.cells #[.int .i64 x.1,.slice ao x.2.1.length ac,.int .i64 x.2.2.1,.bool x.2.2.2.1,.int .i64 x.2.2.2.2] 47):=⟨_,rfl⟩
 have k0:Same0 w W0:=by rw [hW0];exact (Kept.refl _ w).alloc _
 have hb:W0.heap[w.heap.size]? = some (.cells #[.int .i64 x.1,.slice ao x.2.1.length ac,.int .i64 x.2.2.1,.bool x.2.2.2.1,.int .i64 x.2.2.2.2] 47 (0,0)):=by rw [hW0];exact heap_alloc_new w _
 obtain ⟨b0,b1,b2,b3,b4⟩:=box5 hb
 have hz:=k0.size
 obtain ⟨pb,hp⟩:∃ pb,x.2.2.2.1=pb:=⟨_,rfl⟩
 cases pb
 ·have hd:downL x=x.2.1:=by unfold downL;rw [hp];rfl
  have H:Hid (IntsAt W0 ao x.2.1∧Same0 w W0):=⟨hx.at'.same k0,k0⟩
  rw [hd]
  rw [hp] at b3
  clear hd hx k0 hb hz hp
  go_enter Try.func81,Try.ntmps81
  go_upto_region 1 with fail
  rw [← hW0]
  clear hW0
  go_wp2
  go_ret
  exact ⟨ao,ac,rfl,H.out.1,fun a e=>.inl ⟨e,by first | trivial | rfl⟩,H.out.2⟩
 ·have hd:downL x=[x.2.2.2.2]:=by unfold downL;rw [hp];rfl
  have H:Hid (IntsAt (W0.alloc (.cells #[.int .i64 x.2.2.2.2] 3)) (some ⟨W0.heap.size,0,none⟩) [x.2.2.2.2]∧(∀ a,some (⟨W0.heap.size,0,none⟩:Addr)=some a→(ao=some a∧[x.2.2.2.2]=x.2.1)∨(w.heap.size≤a.block∧a.block<(W0.alloc (.cells #[.int .i64 x.2.2.2.2] 3)).heap.size))∧Same0 w (W0.alloc (.cells #[.int .i64 x.2.2.2.2] 3))):=⟨ints_one _ _,fun a e=>by cases e;exact .inr ⟨hz,by simp⟩,k0.alloc _⟩
  rw [hd]
  rw [hp] at b3
  clear hd hx k0 hb hz hp
  go_enter Try.func81,Try.ntmps81
  go_upto_region 1 with fail
  rw [← hW0]
  clear hW0
  go_wp2
  go_ret
  exact ⟨_,1,rfl,H.out.1,H.out.2.1,H.out.2.2⟩
theorem info_boolT:(Try.prog.info? 4).map (fun i=>(i.zero,i.size,i.bytes))=some (some (.bool false),1,1):=by kernel_rfl
def bv (m:List Bool):List Value:=m.map Value.bool
theorem bv_set (m:List Bool) (k:Nat) (b:Bool):bv (m.set k b)=(bv m).set k (.bool b):=by simp [bv,List.map_set]
theorem made_bools (n:Nat):(madeCells (Value.bool false).cells (n * 1)).toList=bv (List.replicate n false):=by
 rw [Nat.mul_one,show (Value.bool false).cells = #[Value.bool false] from rfl,toList_madeCells_one]
 simp [bv]
theorem row_bool {w:World} {base g N:Nat} {m:List Bool} (h:w.ownsRow base 4 1 (.slice (some ⟨g,0,none⟩) N N) N (bv m)) {k:Nat} (hk:k<N):∃ b,m[k]? = some b∧w.cell? ⟨g,k,none⟩=some (.bool b)∧w.frozen? ⟨g,k,none⟩=false:=by
 have hl:m.length=N:=by have:=h.1;simp [bv] at this;omega
 refine ⟨m[k]'(by omega),by simp [hl,hk],?_,h.frozenAt k⟩
 rw [h.cellAt k (by omega)]
 simp [bv,hl,hk]
theorem ofN_snoc (F:List Nat) (b:Nat):ofN (F ++ [b])=ofN F ++ [(b:Int)]:=by simp [ofN]
theorem ofN_len' (F:List Nat):(ofN F).length=F.length:=by simp [ofN]
theorem ofN_at {F:List Nat} {i:Nat} (h:i<(ofN F).length):(ofN F)[i]=((F[i]'(by simpa [ofN] using h):Nat):Int):=by simp [ofN]
structure NsAt (w:World) (g N:Nat) (l:List Nd):Prop where
 lt:g<w.heap.size
 le:l.length≤N
 big:N≤4000
 each:∀ i (hi:i<l.length),NdC (fun b=>b<w.heap.size) w g (i * 5) l[i]
 inl:InL l
 few:∀ x∈l,x.2.1.length≤6
theorem NsAt.same {w w' : World} {g N:Nat} {l:List Nd} (h:NsAt w g N l) (hk:Same0 w w'):NsAt w' g N l:=
 ⟨Nat.lt_of_lt_of_le h.lt hk.size,h.le,h.big,fun i hi=>((h.each i hi).kept h.lt hk (fun f=>f) (fun _ _ f=>f.elim)).mono (fun k _ _ e=>Nat.lt_of_lt_of_le e hk.size),h.inl,h.few⟩
theorem HpB.ns {B:Nat→Prop} {w:World} {h g room:Nat} {l:List Nd} (p:HpB B w h g room l):NsAt w g room l:=
 ⟨p.ltG,p.le,p.rm2,fun i hi=>(p.each i hi).mono (fun k hk _ _=>hk),p.inl,fun x hx=>(may_facts (p.may x hx)).2.1⟩
structure StAt' (w wr:World) (mb N:Nat) (met:List Bool) (F:List Nat) (v:Value):Prop where
 mt:wr.ownsRow w.heap.size 4 1 (.slice (some ⟨mb,0,none⟩) N N) N (bv met)
 fd:Row (mb+1) wr v (ofN F)
 kp:Same0 w wr
 lo:w.heap.size≤mb
theorem StAt'.same {w wr w' : World} {mb N:Nat} {met:List Bool} {F:List Nat} {v:Value} (h:StAt' w wr mb N met F v) (hk:Same0 wr w'):StAt' w w' mb N met F v:=
 ⟨hk.row h.mt (fun _ _ f=>f),hk.row h.fd (fun _ _ f=>f),h.kp.trans' hk,h.lo⟩
theorem wpList_pushN {w0:World} {ops:Array Oper} {rest:List Oper} {o:Oper} {a:Act} {Q:Exit→Act→World→Prop} (hgd:o.guard=none) (s x:Operand) (t:TypeId)
  (ho:o.op=.call { callee:=.builtin .append,args:=#[s,x],argTypes:=#[t,t] }) (ht:Try.prog.underlying t=some (.slice 3))
  (base:Nat) (xs:List Int) (v:Value) (hs:a.eval s=v) (hr:Row base w0 v xs) (y:Int) (n:Nat) (hn:w0.heap.size=n) (hx:a.eval x=.slice (some ⟨n,0,none⟩) 1 1) (hb:base≤w0.heap.size) (hsz:(xs.length+1) * 8≤140737488355328)
  (h:∀ g cap w', Row base w' (.slice (some ⟨g,0,none⟩) (xs.length+1) cap) (xs ++ [y])→Kept (fun k=>v.ownBlock=some k) w0 w' → (v.ownBlock=some g∨w0.heap.size≤g)→wpList Try.prog ops Q rest (a.put o.dst (.slice (some ⟨g,0,none⟩) (xs.length+1) cap)) w') :
  wpList Try.prog ops Q (o :: rest) a (w0.alloc (.cells #[.int .i64 y] 3)):=by
 subst hn
 exact wpList_push hgd s x t ho ht base xs v hs hr y hx hb hsz h
theorem StAt'.put {w wr:World} {mb N:Nat} {met:List Bool} {F:List Nat} {v:Value} (h:StAt' w wr mb N met F v) (b:Nat):StAt' w (wr.setCell ⟨mb,b,none⟩ (.bool true)) mb N (met.set b true) F v∧Kept (fun k=>k=mb) wr (wr.setCell ⟨mb,b,none⟩ (.bool true)):=by
 have K:Kept (fun k=>k=mb) wr (wr.setCell ⟨mb,b,none⟩ (.bool true)):=Kept.setCell (S:=fun k=>k=mb) (Kept.refl _ _) (p:=⟨mb,b,none⟩) (fun _=>rfl) _
 refine ⟨⟨by rw [bv_set];exact (h.mt.stored b _).1,K.row h.fd (fun k e q=>?_),h.kp.own h.lo _,h.lo⟩,K⟩
 have:=(h.fd.lt k e).1
 omega
theorem StAt'.push {w wr w4:World} {mb N:Nat} {met:List Bool} {F:List Nat} {v v' : Value} {b:Nat} (h:StAt' w wr mb N met F v) (hr:Row (mb+1) w4 v' (ofN F ++ [(b:Int)])) (hk:Kept (fun k=>v.ownBlock=some k) wr w4):StAt' w w4 mb N met (F ++ [b]) v' := by
 have lo:=h.lo
 refine ⟨hk.row h.mt (fun k e q=>?_),by rw [ofN_snoc];exact hr,h.kp.trans hk (fun i hi e=>?_),h.lo⟩
 ·have:=(h.fd.lt k q).1
  have e' : mb=k:=Option.some.inj e
  omega
 ·have:=(h.fd.lt i e).1
  omega
theorem and32 (n:Nat) (hn:n≤4000):bits BinOp.and IntKind.u64 (n:Int) 4294967295=(n:Int):=by
 have h:=bits_and_u64_nat n 4294967295 (by omega) (by omega)
 have h2:n &&& 4294967295=n:=by
  have:=Nat.and_two_pow_sub_one_eq_mod n 32
  simp only [Nat.reducePow,Nat.reduceSub] at this
  rw [this];omega
 rw [h2] at h
 exact h
theorem u64_small {n:Int} (h0:0≤n) (h1:n≤4000):IntKind.u64.wrap n=n:=by
 rw [IntKind.wrap_u64];omega
set_option maxHeartbeats 1000000 in
theorem mul64_one (n:Nat) (hn:n≤4000) (w:World):Calls Try.prog 86 #[.int .u64 1,.int .u64 (n:Int)] w fun e w' => e=.returned (.tuple #[.int .u64 0,.int .u64 (n:Int)])∧w' = w:=by
 have b1:bits BinOp.and IntKind.u64 1 4294967295=1:=by decide
 have b2:=and32 n hn
 have b3:(n:Int) / 4294967296=0:=by omega
 have b4:bits BinOp.and IntKind.u64 0 4294967295=0:=by decide
 have b5:=u64_small (n:=(n:Int)) (by omega) (by omega)
 have b6:IntKind.u64.wrap 0=0:=by decide
 go_enter Try.func86,Try.ntmps86
 go_wp2
 go_ret2
 exact ⟨rfl,rfl⟩
set_option maxHeartbeats 1000000 in
theorem mul_one (n:Nat) (hn:n≤4000) (w:World):Calls Try.prog 84 #[.int .u64 1,.int .u64 (n:Int)] w fun e w' => e=.returned (.tuple #[.int .u64 0,.int .u64 (n:Int)])∧w' = w:=by
 have C:=mul64_one n hn w
 go_enter Try.func84,Try.ntmps84
 go_wp2_with (first | (go_at_call 86;refine C.mono ?_;rintro e w' ⟨rfl,rfl⟩))
 go_ret2
 exact ⟨rfl,rfl⟩
def repC (z:Int) (n m:Nat):List Value:=iv (List.replicate m z++List.replicate (n-m) 0)
theorem repC_len (z:Int) {n m:Nat} (h:m≤n):(repC z n m).length=n:=by simp [repC,iv];omega
theorem repC_cell {w:World} {q n m:Nat} {z:Int} (h:w.heap[q]? = some (.cells (repC z n m).toArray 3 (0,0))) {k j:Nat} (hk:k≤m) {v:Value} (hv:(iv (List.replicate k z))[j]? = some v):w.cell? ⟨q,j,none⟩=some v:=by
 have hj:j<k:=by have:=(List.getElem?_eq_some_iff.1 hv).1;simpa [iv] using this
 rw [cellAt h]
 simp [iv,hj] at hv
 simp [repC,iv,List.getElem?_append,Nat.lt_of_lt_of_le hj hk,hv]
theorem repC_more (z:Int) {n m k:Nat} (h1:m+k≤n):(repC z n m).take m++iv (List.replicate k z)++(repC z n m).drop (m+k)=repC z n (m+k):=by
 have e1:(repC z n m).take m=iv (List.replicate m z):=by simp [repC,iv]
 have e2:(repC z n m).drop (m+k)=iv (List.replicate (n-(m+k)) 0):=by
  simp [repC,iv,List.drop_append]
  omega
 rw [e1,e2]
 simp [repC,iv,List.replicate_append_replicate]
theorem made_nums (n:Nat):(madeCells (Value.int .i64 0).cells (n * 1)).toList=iv (List.replicate n 0):=by
 rw [Nat.mul_one,show (Value.int .i64 0).cells = #[Value.int .i64 0] from rfl,toList_madeCells_one]
 simp [iv]
theorem addAt (b o j:Nat):(⟨b,o,none⟩:Addr).add j=⟨b,o+j,none⟩:=by
 unfold Addr.add
 split
 ·rename_i e;subst e;rfl
 ·rfl
theorem full_block {w:World} {base g n:Nat} {t:TypeId} {xs:List Value} (h:w.ownsRow base t 1 (.slice (some ⟨g,0,none⟩) n n) n xs):w.heap[g]? = some (.cells xs.toArray t (0,0)):=by
 rcases h.2 with ⟨e,_⟩ | ⟨g', cap,cur,e,hb,hg,hle,hm,hsz,ht⟩
 ·cases e
 ·simp only [Value.slice.injEq,Option.some.injEq,Addr.mk.injEq,and_true,true_and] at e
  obtain ⟨rfl,rfl⟩:=e
  rw [List.take_of_length_le (by simp [hsz])] at ht
  rw [hg,← ht]
theorem row_full {w:World} {base g n:Nat} {xs:List Int} (hb:base≤g) (hn:xs.length=n) (hm:n≤maxLen) (h:w.heap[g]? = some (.cells (iv xs).toArray 3 (0,0))):Row base w (.slice (some ⟨g,0,none⟩) n n) xs:=by
 subst hn
 exact ⟨by simp [iv_length],.inr ⟨g,xs.length,_,rfl,hb,h,Nat.le_refl _,hm,by simp [iv_length],by rw [List.take_of_length_le (by simp [iv_length])]⟩⟩
theorem keptRow (w:World) (g:Nat) (cs:Array Value):Kept (fun k=>k=g) w (w.setRow g cs):=by
 refine ⟨rfl,rfl,rfl,by simp [World.setRow],fun k hk hn=>?_⟩
 simp [World.setRow,Array.getElem?_modify,Ne.symm hn]
set_option maxHeartbeats 2000000 in
theorem repeat_any (n:Nat) (h1:1≤n) (h2:n≤4000) {w:World} {b:Nat} {z:Int} (hb:w.heap[b]? = some (.cells #[.int .i64 z] 3 (0,0))) :
  Calls Try.prog 79 #[.slice (some ⟨b,0,none⟩) 1 1,.int .i64 (n:Int)] w fun e w' => ∃ g,e=.returned (.slice (some ⟨g,0,none⟩) n n)∧w.heap.size≤g∧Row w.heap.size w' (.slice (some ⟨g,0,none⟩) n n) (List.replicate n z)∧Same0 w w' := by
 obtain ⟨i,hi,hz0,hz1,hz2⟩:=info_parts info_intT
 have C:=mul_one n h2 w
 have i0:(0:Int)≤(n:Int):=by omega
 have i1:(n:Int)≤4000:=by omega
 have j0:IntKind.u64.wrap (n:Int)=(n:Int):=u64_small i0 i1
 have j1:IntKind.i64.wrap (n:Int)=(n:Int):=by rw [IntKind.wrap_i64];omega
 have hb0:Hid (w.heap[b]? = some (.cells #[.int .i64 z] 3 (0,0))):=hb
 have hbl:b<w.heap.size:=lt_of_at hb
 clear hb
 go_enter Try.func79,Try.ntmps79
 go_upto_region 7 with (first | (go_at_call 84;refine C.mono ?_;rintro e w' ⟨rfl,hw⟩;have hw:=hw.symm;subst hw) | (at_make;refine wpList_make_full _ rfl _ _ 31 rfl _ 3 i _ 1 Try.underlying31 hi hz0 hz1 _ _ _ _ n rfl rfl rfl rfl (by rw [hz2];omega) (by unfold maxLen;omega) (Nat.le_refl _) ?_;intro w1 hown hgrow))
 rw [made_nums] at hown
 have K1:Same0 w w1:=Same0.grown (Kept.refl _ w) hgrow
 obtain ⟨g,hg⟩:∃ g,g=w.heap.size:=⟨_,rfl⟩
 have B1:w1.heap[g]? = some (.cells (repC z n 0).toArray 3 (0,0)):=by rw [hg];simpa [repC] using full_block hown
 have hlo:w.heap.size≤g:=by omega
 rw [← hg]
 have hcb:w1.heap[b]? = some (.cells #[.int .i64 z] 3 (0,0)):=K1.at0 hb0.out
 have CP:=run_copy_row (P:=Try.prog) w1 31 31 3 3 g 0 n n ⟨b,0,none⟩ 1 1 (repC z n 0).toArray 3 (iv [z]) Try.underlying31 (by rw [hi];simp [hz1]) B1 (by show _=min _ _;simp [iv];omega) (fun j v hv=>by
  have hj:j<1:=by have:=(List.getElem?_eq_some_iff.1 hv).1;simpa [iv] using this
  obtain rfl:j=0:=by omega
  simp [iv] at hv
  rw [← hv]
  exact cellAt hcb 0) (by simp [iv,repC_len];omega) (by simp [iv,Value.oneCell'])
 obtain ⟨W2,hW2⟩:∃ W2,W2=w1.setRow g ((repC z n 0).toArray.toList.take 0++iv [z]++(repC z n 0).toArray.toList.drop (0+(iv [z]).length)).toArray:=⟨_,rfl⟩
 rw [← hW2] at CP
 have B2:W2.heap[g]? = some (.cells (repC z n 1).toArray 3 (0,0)):=by
  rw [hW2]
  have:=repC_more z (n:=n) (m:=0) (k:=1) (by omega)
  simp only [Nat.zero_add,List.replicate_one,iv_length,List.length_singleton] at this ⊢
  rw [this]
  exact setRow_heap w1 g _ _ 3 _ B1
 have K2:Same0 w W2:=by rw [hW2];exact K1.trans (keptRow w1 g _) (fun k hk e=>by omega)
 simp only [iv_length,List.length_singleton] at CP
 have HR:Hid (W2.heap[g]? = some (.cells (repC z n 1).toArray 3 (0,0))∧Same0 w W2):=⟨B2,K2⟩
 clear hown hgrow hW2 B1 B2 K1 K2 hcb hb0 C hg
 go_upto_region 8 with fail
 go_loopw [8] (fun v wr=>∃ m:Nat,1≤m∧m≤n∧v=.int .i64 (m:Int)∧Hid (wr.heap[g]? = some (.cells (repC z n m).toArray 3 (0,0))∧Same0 w wr)) (fun v _=>n-(intOf v).toNat)
 case atStart=>exact ⟨1,Nat.le_refl _,h1,rfl,HR⟩
 case round=>
  clear HR CP
  obtain ⟨m,hm1,hm2,rfl,HW⟩:=hrel
  by_cases hlt:m<n
  ·obtain ⟨k,hk⟩:∃ k,k=min m (n-m):=⟨_,rfl⟩
   have k1:m+k≤n:=by omega
   have k2:1≤k:=by omega
   have k3:k≤m:=by omega
   obtain ⟨D,hD⟩:∃ D:World→World,D=fun ww=>ww.setRow g ((repC z n m).toArray.toList.take m++iv (List.replicate k z)++(repC z n m).toArray.toList.drop (m+(iv (List.replicate k z)).length)).toArray:=⟨_,rfl⟩
   have CP:(Builtin.copy_ #[31,31] 3 #[.slice (some ⟨g,m,none⟩) (n-m) (n-m),.slice (some ⟨g,0,none⟩) m n]).run Try.prog wr.drew=.ok (goInt (k:Int)) (D wr.drew):=by
    have:=run_copy_row (P:=Try.prog) wr.drew 31 31 3 3 g m (n-m) (n-m) ⟨g,0,none⟩ m n (repC z n m).toArray 3 (iv (List.replicate k z)) Try.underlying31 (by rw [hi];simp [hz1]) HW.out.1 (by show _=min _ _;simp [iv];omega) (fun j v hv=>by
     rw [addAt,Nat.zero_add]
     exact repC_cell (w:=wr.drew) HW.out.1 k3 hv) (by simp [iv,repC_len z hm2];omega) (by simp [iv,Value.oneCell'])
    rw [this,hD]
    simp [iv]
   have HD:Hid ((D wr.drew).heap[g]? = some (.cells (repC z n (m+k)).toArray 3 (0,0))∧Same0 w (D wr.drew)):=by
    show _∧_
    rw [hD]
    have e:=repC_more z k1
    simp only [iv_length,List.length_replicate]
    rw [e]
    exact ⟨setRow_heap wr.drew g _ _ 3 _ HW.out.1,(Kept.drew HW.out.2).trans (keptRow _ g _) (fun k hk e=>by omega)⟩
   have m0:(0:Int)≤(m:Int):=by omega
   have m1:(m:Int)≤(n:Int):=by omega
   have m2:(m:Int)<(n:Int):=by omega
   have m3:(n:Int)-(m:Int)=((n-m:Nat):Int):=by omega
   clear hD hk HW
   go_wp2
   go_region
   go_roundw
   case rel=>
    refine ⟨.int .i64 ((m:Int)+(k:Int)),_,_,_,_,_,_,_,_,_,_,_,_,_,⟨m+k,by omega,by omega,congrArg (Value.int .i64) (Int.natCast_add m k).symm,HD⟩,rfl⟩
   case measure=>simp [intOf];omega
  ·obtain rfl:m=n:=by omega
   have R:Row w.heap.size wr (.slice (some ⟨g,0,none⟩) m m) (List.replicate m z):=row_full hlo (by simp) (by unfold maxLen;omega) (by have:=HW.out.1;simpa [repC] using this)
   have K:=HW.out.2
   go_wp2
   go_ret
   exact ⟨g,rfl,hlo,R,K⟩
end Go.Proofs.Ytcbonegkfppdiaa
namespace Go.Proofs.Ytcbonegkfppdiaa
set_option maxRecDepth 100000
set_option linter.unusedVariables false
open Go.RowKit
theorem info_ints:(Try.prog.info? 31).map (fun i=>(i.zero,i.size,i.bytes))=some (some (.slice none 0 0),1,24):=by kernel_rfl
def LsAt (N ib:Nat) (w:World) (ao:Option Addr) (xs:List Int):Prop:=IntsAt w ao xs∧(xs≠[]→∀ a,ao=some a→a.block<N∨ib<a.block∧∃ cur,w.heap[a.block]? = some (.cells cur 3 (0,0)))
theorem LsAt.kept {N ib:Nat} {w w' : World} {ao:Option Addr} {xs:List Int} {S:Nat→Prop} (h:LsAt N ib w ao xs) (hk:Kept S w w') (hS:∀ k,S k→N≤k∧(k≤ib∨NotI w k)):LsAt N ib w' ao xs:=by
 by_cases e:xs=[]
 ·exact ⟨.inl e,fun h=>absurd e h⟩
 ·have ns:∀ a,ao=some a→¬ S a.block:=fun a ea s=>by
   rcases h.2 e a ea with q | ⟨q1,cur,q2⟩
   ·have:=(hS _ s).1;omega
   ·rcases (hS _ s).2 with q | q
    ·omega
    ·exact q cur q2
  refine ⟨h.1.kept hk ns,fun _ a ea=>(h.2 e a ea).imp id (fun ⟨q1,cur,q2⟩=>⟨q1,cur,hk.at q2 (ns a ea)⟩)⟩
def StC (N ib:Nat) (w:World) (vs:List Value) (T:List (List Int)):Prop:=
 vs.length=T.length∧∀ i (h:i<T.length),∃ ao ac,vs[i]? = some (.slice ao T[i].length ac)∧LsAt N ib w ao T[i]∧T[i].length≤ac∧(ao=none→ac=0)
theorem StC.kept {N ib:Nat} {w w' : World} {vs:List Value} {T:List (List Int)} {S:Nat→Prop} (h:StC N ib w vs T) (hk:Kept S w w') (hS:∀ k,S k→N≤k∧(k≤ib∨NotI w k)):StC N ib w' vs T:=
 ⟨h.1,fun i hi=>by
  obtain ⟨ao,ac,h1,h2,h3,h4⟩:=h.2 i hi
  exact ⟨ao,ac,h1,h2.kept hk hS,h3,h4⟩⟩
theorem StC.snoc {N ib:Nat} {w:World} {vs:List Value} {T:List (List Int)} (h:StC N ib w vs T) {t:List Int} {ao:Option Addr} {ac:Nat} (h2:LsAt N ib w ao t) (h3:t.length≤ac) (h4:ao=none→ac=0):StC N ib w (vs ++ [.slice ao t.length ac]) (T ++ [t]):=by
 refine ⟨by simp [h.1],fun i hi=>?_⟩
 by_cases hl:i<T.length
 ·rw [List.getElem_append_left hl,List.getElem?_append_left (by rw [h.1];exact hl)]
  exact h.2 i hl
 ·obtain rfl:i=T.length:=by simp at hi;omega
  rw [List.getElem?_append_right (by rw [h.1];omega)]
  simp only [List.getElem_concat_length,h.1,Nat.sub_self,List.getElem?_cons_zero]
  exact ⟨ao,ac,rfl,h2,h3,h4⟩
theorem StC.init {N ib:Nat} {w:World} {vs:List Value} {T:List (List Int)} {t:List Int} (h:StC N ib w vs (T ++ [t])):StC N ib w (vs.take T.length) T:=by
 refine ⟨by simp [h.1],fun i hi=>?_⟩
 obtain ⟨ao,ac,h1,h2,h3,h4⟩:=h.2 i (by simp;omega)
 rw [List.getElem_append_left hi] at h1 h2 h3
 exact ⟨ao,ac,by rw [List.getElem?_take,if_pos hi];exact h1,h2,h3,h4⟩
def Stk (N ib:Nat) (w:World) (v:Value) (T:List (List Int)):Prop:=∃ vs,w.ownsRow (ib+1) 31 1 v T.length vs∧StC N ib w vs T
theorem Stk.shape {N ib:Nat} {w:World} {v:Value} {T:List (List Int)} (h:Stk N ib w v T):∃ ao cap,v=.slice ao T.length cap:=by
 obtain ⟨vs,h1,_⟩:=h
 exact row_shape h1
theorem Stk.block {N ib:Nat} {w:World} {v:Value} {T:List (List Int)} (h:Stk N ib w v T) {k:Nat} (e:v.ownBlock=some k):ib<k∧k<w.heap.size∧NotI w k:=by
 obtain ⟨vs,h1,_⟩:=h
 rcases h1.2 with ⟨q,_⟩ | ⟨g,cap,cur,q,hb,hg,_⟩
 ·rw [q] at e;cases e
 ·rw [q] at e
  simp only [Value.ownBlock,Option.some.injEq] at e
  subst e
  exact ⟨hb,lt_of_at hg,fun c hc=>by rw [hg] at hc;cases hc⟩
theorem Stk.kept {N ib:Nat} {w w' : World} {v:Value} {T:List (List Int)} {S:Nat→Prop} (h:Stk N ib w v T) (hk:Kept S w w') (hn:∀ k,v.ownBlock=some k→¬ S k) (hS:∀ k,S k→N≤k∧(k≤ib∨NotI w k)):Stk N ib w' v T:=by
 obtain ⟨vs,h1,h2⟩:=h
 exact ⟨vs,hk.row h1 hn,h2.kept hk hS⟩
theorem Stk.same {N ib:Nat} {w w' : World} {v:Value} {T:List (List Int)} (h:Stk N ib w v T) (hk:Same0 w w'):Stk N ib w' v T:=h.kept hk (fun _ _ f=>f) (fun _ f=>f.elim)
theorem Stk.top {N ib:Nat} {w:World} {vo:Option Addr} {vc n:Nat} {T:List (List Int)} {t:List Int} (h:Stk N ib w (.slice vo n vc) (T ++ [t])) (hn:n=T.length+1) :
  ∃ g ao ac,vo=some ⟨g,0,none⟩∧ib<g∧n≤vc∧w.cell? ⟨g,T.length,none⟩=some (.slice ao t.length ac)∧w.frozen? ⟨g,T.length,none⟩=false∧LsAt N ib w ao t∧t.length≤ac∧(ao=none→ac=0)∧Stk N ib w (.slice (some ⟨g,0,none⟩) T.length vc) T:=by
 obtain ⟨vs,h1,h2⟩:=h
 have h1' := h1
 rcases h1.2 with ⟨q,h0⟩ | ⟨g,cap,cur,q,hb,hg,hle,hm,hsz,ht⟩
 ·simp at h0
 ·simp only [Value.slice.injEq] at q
  obtain ⟨rfl,e2,rfl⟩:=q
  obtain ⟨ao,ac,c1,c2,c3,c4⟩:=h2.2 T.length (by simp)
  simp only [List.getElem_concat_length] at c1 c2 c3
  have cc:w.cell? ⟨g,T.length,none⟩=some (.slice ao t.length ac):=by
   have e3:cur[T.length]? = some (.slice ao t.length ac):=by
    rw [← ht,List.getElem?_take] at c1
    split at c1
    ·simpa using c1
    ·cases c1
   rw [cellAt hg,e3]
  refine ⟨g,ao,ac,rfl,hb,?_,cc,frozenAt hg _,c2,c3,c4,vs.take T.length,⟨?_,.inr ⟨g,vc,cur,rfl,hb,hg,?_,hm,hsz,?_⟩⟩,h2.init⟩
  ·simp at hle;omega
  ·have:=h2.1
   simp at this
   simp;omega
  ·simp at hle;omega
  ·rw [← ht,List.take_take]
   simp
theorem Stk.put {N ib:Nat} {w:World} {g vc n:Nat} {T:List (List Int)} {t u:List Int} (h:Stk N ib w (.slice (some ⟨g,0,none⟩) n vc) (T ++ [t])) (hn:n=T.length+1) (hN:N≤g) {ao:Option Addr} {ac:Nat} (hu:LsAt N ib w ao u) (h3:u.length≤ac) (h4:ao=none→ac=0) :
  Stk N ib (w.setCell ⟨g,T.length,none⟩ (.slice ao u.length ac)) (.slice (some ⟨g,0,none⟩) n vc) (T ++ [u])∧Kept (fun k=>k=g) w (w.setCell ⟨g,T.length,none⟩ (.slice ao u.length ac)):=by
 have K:Kept (fun k=>k=g) w (w.setCell ⟨g,T.length,none⟩ (.slice ao u.length ac)):=Kept.setCell (S:=fun k=>k=g) (Kept.refl _ _) (p:=⟨g,T.length,none⟩) (fun _=>rfl) _
 have nb:=(h.block (k:=g) rfl).2.2
 obtain ⟨vs,h1,h2⟩:=h
 have hS:∀ k,k=g→N≤k∧(k≤ib∨NotI w k):=fun k e=>by subst e;exact ⟨hN,.inr nb⟩
 have st:=(h2.init.kept K hS).snoc (hu.kept K hS) h3 h4
 have ev:vs.set T.length (.slice ao u.length ac)=vs.take T.length ++ [.slice ao u.length ac]:=by
  have hl:vs.length=T.length+1:=by have:=h2.1;simpa using this
  rw [List.set_eq_take_append_cons_drop,if_pos (by omega),List.drop_of_length_le (by omega)]
 refine ⟨⟨vs.set T.length (.slice ao u.length ac),?_,by rw [ev];exact st⟩,K⟩
 rcases h1.2 with ⟨q,_⟩ | ⟨g', cap,cur,q,hb,hg,hle,hm,hsz,ht⟩
 ·cases q
 ·simp only [Value.slice.injEq,Option.some.injEq,Addr.mk.injEq,and_true] at q
  obtain ⟨rfl,e2,rfl⟩:=q
  refine ⟨by simp [h1.1],.inr ⟨g,vc,cur.setIfInBounds T.length (.slice ao u.length ac),by simp [hn],hb,setAt hg _ _,by simpa using hle,hm,by simp [hsz],?_⟩⟩
  rw [Array.toList_setIfInBounds,List.take_set]
  have:(T ++ [u]).length=(T ++ [t]).length:=by simp
  rw [this,ht]
theorem wpList_stk {w0 W:World} {ops:Array Oper} {rest:List Oper} {o:Oper} {a:Act} {Q:Exit→Act→World→Prop} (hgd:o.guard=none) (s x:Operand)
  (ho:o.op=.call { callee:=.builtin .append,args:=#[s,x],argTypes:=#[105,105] })
  (N ib:Nat) (T:List (List Int)) (v:Value) (hs:a.eval s=v) (hW:Same0 w0 W) (hr:Stk N ib w0 v T) (hNv:∀ k,v.ownBlock=some k→N≤k) (t:List Int) (ao:Option Addr) (ac:Nat) (q:Nat) (hx:a.eval x=.slice (some ⟨q,0,none⟩) 1 1) (hq:W.heap[q]? = some (.cells #[.slice ao t.length ac] 31 (0,0))) (ha:LsAt N ib w0 ao t) (h3:t.length≤ac) (h4:ao=none→ac=0) (hb:ib+1≤w0.heap.size) (hsz:(T.length+1) * 24≤140737488355328)
  (h:∀ g cap w', Stk N ib w' (.slice (some ⟨g,0,none⟩) (T.length+1) cap) (T ++ [t])→Kept (fun k=>v.ownBlock=some k) w0 w' → (v.ownBlock=some g∨W.heap.size≤g)→wpList Try.prog ops Q rest (a.put o.dst (.slice (some ⟨g,0,none⟩) (T.length+1) cap)) w') :
  wpList Try.prog ops Q (o :: rest) a W:=by
 obtain ⟨i,hi,hz0,hz1,hz2⟩:=info_parts info_ints
 have nb:=fun k e=>(hr.block (k:=k) e).2.2
 obtain ⟨vs,h1,h2⟩:=hr
 refine wpList_append_lies _ hgd s x 105 ho (ib+1) 31 i _ 1 24 Try.underlying105 hi hz0 hz1 hz2 rfl (by decide) v T.length vs hs (hW.row h1 (fun _ _ f=>f)) ⟨q,0,none⟩ 1 1 [.slice ao t.length ac] hx rfl (World.news_of_block (cs:=#[.slice ao t.length ac]) (t:=31) (fr:=(0,0)) hq) (by simp [Value.oneCell']) (by omega) (by unfold maxLen;omega) (by omega) (Nat.le_trans hb hW.size) W.heap.size rfl ?_
 intro g cap w' hown hgrow hat hlt
 have K:Kept (fun k=>v.ownBlock=some k) w0 w' := Kept.grown (Kept.mono hW (fun _ _ f=>f.elim)) hgrow (fun _ e _=>e)
 have hS:∀ k,v.ownBlock=some k→N≤k∧(k≤ib∨NotI w0 k):=fun k e=>⟨hNv k e,.inr (nb k e)⟩
 exact h g cap w' ⟨_,by rw [List.length_append];exact hown,(h2.kept K hS).snoc (ha.kept K hS) h3 h4⟩ K (hat.imp id (fun e=>by omega))
end Go.Proofs.Ytcbonegkfppdiaa
