import Derived.Test.YtblgblgchkonhaaGreatGB07
import Derived.Test.YtblgblgchkonhaaGreatGB06
namespace Go.Proofs.YtblgblgchkonhaaGreat
set_option maxRecDepth 100000
set_option linter.unusedVariables false
open Go.RowKit
attribute [local go_sem ↓] Go.wp_at_zero Go.wp_at_succ
theorem arg_any {B:Nat→Prop} {w:World} {h g room:Nat} {N:List Nd} (p:HpB B w h g room N) (a n:Int) :
  Calls Tryz.prog 115 #[.agg #[.pointer (some ⟨h,0,none⟩)],.int .i64 a,.int .i64 n] w fun e w' => ∃ y,e=.returned (.int .i64 y)∧ArR N a n y∧Same0 w w' := by
 by_cases ha:0≤a∧a<(N.length:Int)
 ·obtain ⟨i,rfl⟩:∃ i:Nat,a=(i:Int):=⟨a.toNat,by omega⟩
  exact arg_yes p i (by omega) n
 ·refine (arg_no p a n ha).mono ?_
  rintro e w' ⟨rfl,k⟩
  refine ⟨-1,rfl,.inr ⟨rfl,fun ⟨i,b,hb,e1,e2,_⟩=>ha ?_⟩,k⟩
  have:=e2.lt.1
  omega
set_option maxHeartbeats 2000000 in
theorem along_any {B:Nat→Prop} {w:World} {h g room:Nat} {N:List Nd} (p:HpB B w h g room N) (z:Int) {ao:Option Addr} {cap:Nat} {xs:List Int} (hx:IntsAt w ao xs) (hm:xs.length≤maxLen) :
  Calls Tryz.prog 89 #[.iface 81 (.agg #[.pointer (some ⟨h,0,none⟩)]),.int .i64 z,.slice ao xs.length cap] w fun e w' => ∃ y,e=.returned (.int .i64 y)∧LdR N z xs y∧Same0 w w' := by
 unfold maxLen at hm
 have mA:=sight_arg
 have HX:Hid (∀ wr,Same0 w wr→IntsAt wr ao xs):=fun wr hk=>hx.same hk
 have HA:Hid (∀ wr a n,Same0 w wr→Calls Tryz.prog 115 #[.agg #[.pointer (some ⟨h,0,none⟩)],.int .i64 a,.int .i64 n] wr fun e w' => ∃ y,e=.returned (.int .i64 y)∧ArR N a n y∧Same0 wr w'):=fun wr a n hk=>arg_any (p.same hk) a n
 clear p hx
 go_enter Tryz.func89,Tryz.ntmps89
 go_wp2
 go_loopw [1,11] (fun s1 s11 wr=>∃ (k:Nat) (y:Int),k≤xs.length∧s1=.int .i64 y∧s11=.int .i64 (k:Int)∧Hid (LdR N z (xs.take k) y)∧Same0 w wr) (fun _ s11 _=>xs.length-(intOf s11).toNat)
 case atStart=>exact ⟨0,z,Nat.zero_le _,rfl,rfl,by simp [Hid,LdR],Kept.refl _ _⟩
 case round=>
  obtain ⟨k,y,hk,rfl,rfl,hl,hs⟩:=hrel
  by_cases hlt:k<xs.length
  ·obtain ⟨xb,off,rfl,hxb,hxc⟩:=(HX.out wr hs).get hlt
   have i1:(0:Int)≤(k:Int):=by omega
   have i2:(k:Int)<(xs.length:Int):=by omega
   have C:=HA.out wr y xs[k] hs
   have NX:Hid (∀ u,ArR N y xs[k] u→LdR N z (xs.take (k+1)) u):=fun u hu=>by rw [List.take_succ_eq_append_getElem hlt];exact hl.out.snoc hu
   generalize xs[k]=x at *
   go_wp2_with (first | (go_at_call 115;refine C.mono ?_;rintro e w2 ⟨u,rfl,hu,k2⟩))
   refine ⟨⟨k+1,u,by omega,by go_num,by go_num,NX.out u hu,hs.trans' k2⟩,by simp [intOf];omega⟩
  ·have hl' : LdR N z xs y:=by have:=hl.out;rw [List.take_of_length_le (by omega)] at this;exact this
   go_wp2
   go_ret
   exact ⟨y,rfl,hl', hs⟩
def PtR (L:List Sym) (N:List Nd) (z:Int) (p:Int × List Int) (x:Tg) (e:Int):Prop:=
 (0≤p.1∧p.1<(L.length:Int)∧x=tgT L p.1∧e=0)∨((L.length:Int)≤p.1∧x=(true,p.1,0,0)∧e=14)∨(p.1 < -1∧x=(false,0,0,0)∧e=1) ∨
 (p.1 = -1∧LdR N z p.2 (-1)∧x=(false,0,0,0)∧e=112)∨(p.1 = -1∧∃ y,LdR N z p.2 y∧y ≠ -1∧x=(false,0,0,y)∧e=0)
set_option maxHeartbeats 4000000 in
theorem part_any {B:Nat→Prop} {n sb:Nat} {L:List Sym} {w:World} {h g room:Nat} {N:List Nd} (hs:Sg n w sb L) (p:HpB B w h g room N) (z s:Int) {ao:Option Addr} {cap:Nat} {xs:List Int} (hx:IntsAt w ao xs) (hm:xs.length≤maxLen) :
  Calls Tryz.prog 71 #[.pointer (some ⟨sb,0,none⟩),.agg #[.int .i64 s,.slice ao xs.length cap],.iface 81 (.agg #[.pointer (some ⟨h,0,none⟩)]),.int .i64 z] w fun e w' => ∃ x c,e=.returned (.tuple #[tgV x,.int .i64 c])∧PtR L N z (s,xs) x c∧Same0 w w' := by
 obtain ⟨W0,hW0⟩:∃ W0,W0=(w.alloc (.cells #[.int .i64 s,.slice ao xs.length cap] 73)).alloc (.cells #[.bool false,.int .i64 0,.int .i64 0,.int .i64 0] 139):=⟨_,rfl⟩
 have k0:Same0 w W0:=by rw [hW0];exact ((Kept.refl _ w).alloc _).alloc _
 have h0:W0.heap[w.heap.size]? = some (.cells #[.int .i64 s,.slice ao xs.length cap] 73 (0,0)):=by
  rw [hW0,heap_alloc_old _ _ (by simp)];exact heap_alloc_new w _
 have h1:W0.heap[w.heap.size+1]? = some (.cells #[.bool false,.int .i64 0,.int .i64 0,.int .i64 0] 139 (0,0)):=by
  rw [hW0]
  have:=heap_alloc_new (w.alloc (.cells #[.int .i64 s,.slice ao xs.length cap] 73)) (.cells #[.bool false,.int .i64 0,.int .i64 0,.int .i64 0] 139)
  simpa using this
 have c0:W0.cell? ⟨w.heap.size,0,none⟩=some (.int .i64 s):=cellAt h0 0
 have c1:W0.cell? ⟨w.heap.size,1,none⟩=some (.slice ao xs.length cap):=cellAt h0 1
 have FIN:Hid (∀ ww x c,Same0 W0 ww→PtR L N z (s,xs) x c→∀ w', w' = put4 ww (w.heap.size+1) 0 (.bool x.1) (.int .i64 x.2.1) (.int .i64 x.2.2.1) (.int .i64 x.2.2.2)→∃ x' c', Ending.returned (.tuple #[tgV x,.int .i64 c])=.returned (.tuple #[tgV x', .int .i64 c'])∧PtR L N z (s,xs) x' c' ∧ Same0 w w'):=fun ww x c hk hp w' hw=>⟨x,c,rfl,hp,by rw [hw];exact (k0.trans' hk).trans (put4_kept _ _ _ _ _ _ _) (fun i hi e=>by omega)⟩
 have HB:Hid (∀ ww,Same0 W0 ww→ww.heap[w.heap.size+1]? = some (.cells #[.bool false,.int .i64 0,.int .i64 0,.int .i64 0] 139 (0,0))):=fun ww hk=>hk.at0 h1
 have hs0:=hs.same k0
 have p0:=p.same k0
 have hx0:=hx.same k0
 have q0:=HB.out W0 (Kept.refl _ _)
 obtain ⟨b0,b1,b2,b3⟩:=boxT4 q0
 obtain ⟨g0,g1,g2,g3⟩:=freeT4 q0
 clear hs p hx h0 h1 q0
 by_cases hs1:0≤s
 ·by_cases hs2:s<(L.length:Int)
  ·obtain ⟨i,rfl⟩:∃ i:Nat,s=(i:Int):=⟨s.toNat,by omega⟩
   have C:=newT_yes hs0 i (by omega)
   have HP:Hid (PtR L N z ((i:Int),xs) (tgT L (i:Int)) 0):=.inl ⟨hs1,hs2,rfl,rfl⟩
   generalize tgT L (i:Int)=x at *
   clear hs0 p0 hx0 b0 b1 b2 b3 g0 g1 g2 g3
   go_enter Tryz.func71,Tryz.ntmps71
   go_upto_region 1 with fail
   rw [← hW0]
   clear hW0
   go_wp2_with (first | (go_at_call 65;refine C.mono ?_;rintro e w2 ⟨rfl,k2⟩;obtain ⟨b0,b1,b2,b3⟩:=boxT4 (HB.out w2 k2);obtain ⟨g0,g1,g2,g3⟩:=freeT4 (HB.out w2 k2);simp only [tgV]))
   exact bodyPost_ret (v:=.tuple #[tgV x,.int .i64 0]) (by simp [results,Tryz.results71,go_sem,b0,b1,b2,b3,tgV]) rfl (FIN.out w2 x 0 k2 HP.out _ rfl)
  ·have C:=newT_no hs0 s (.inr (by omega))
   have HP:Hid (PtR L N z (s,xs) (true,s,0,0) 14):=.inr (.inl ⟨by show _≤s;omega,rfl,rfl⟩)
   clear hs0 p0 hx0 b0 b1 b2 b3 g0 g1 g2 g3 hs2
   go_enter Tryz.func71,Tryz.ntmps71
   go_upto_region 1 with fail
   rw [← hW0]
   clear hW0
   go_wp2_with (first | (go_at_call 65;refine C.mono ?_;rintro e w2 ⟨rfl,k2⟩;obtain ⟨b0,b1,b2,b3⟩:=boxT4 (HB.out w2 k2);obtain ⟨g0,g1,g2,g3⟩:=freeT4 (HB.out w2 k2);simp only [tgV]))
   exact bodyPost_ret (v:=.tuple #[tgV (true,s,0,0),.int .i64 14]) (by simp [results,Tryz.results71,go_sem,b0,b1,b2,b3,tgV]) rfl (FIN.out w2 (true,s,0,0) 14 k2 HP.out _ rfl)
 ·by_cases hs2:s < -1
  ·have HP:Hid (PtR L N z (s,xs) (false,0,0,0) 1):=.inr (.inr (.inl ⟨hs2,rfl,rfl⟩))
   have CC:Calls Tryz.prog 71 #[.pointer (some ⟨sb,0,none⟩),.agg #[.int .i64 s,.slice ao xs.length cap],.iface 81 (.agg #[.pointer (some ⟨h,0,none⟩)]),.int .i64 z] w fun e w' => e=.returned (.tuple #[tgV (false,0,0,0),.int .i64 1])∧Same0 w w' := by
    have K4:Hid (Same0 w (put4 W0 (w.heap.size+1) 0 (.bool false) (.int .i64 0) (.int .i64 0) (.int .i64 0))):=k0.trans (put4_kept _ _ _ _ _ _ _) (fun i hi e=>by omega)
    clear hs0 p0 hx0 HP FIN HB k0 hs1
    go_enter Tryz.func71,Tryz.ntmps71
    go_upto_region 1 with fail
    rw [← hW0]
    clear hW0
    go_wp2
    exact bodyPost_ret (v:=.tuple #[tgV (false,0,0,0),.int .i64 1]) (by simp [results,Tryz.results71,go_sem,b0,b1,b2,b3,tgV]) rfl ⟨rfl,K4.out⟩
   refine CC.mono ?_
   rintro e w' ⟨rfl,k⟩
   exact ⟨_,_,rfl,HP.out,k⟩
  ·obtain rfl:s = -1:=by omega
   have C:=along_any (cap:=cap) p0 z hx0 hm
   clear hs0 p0 hx0 b0 b1 b2 b3 g0 g1 g2 g3 hs1 hs2
   go_enter Tryz.func71,Tryz.ntmps71
   go_upto_region 1 with fail
   rw [← hW0]
   clear hW0
   go_upto_region 6 with (first | (go_at_call 89;refine C.mono ?_;rintro e w2 ⟨y,rfl,hy,k2⟩))
   obtain ⟨b0,b1,b2,b3⟩:=boxT4 (HB.out w2 k2)
   obtain ⟨g0,g1,g2,g3⟩:=freeT4 (HB.out w2 k2)
   by_cases hy1:y = -1
   ·subst hy1
    have HP:Hid (PtR L N z (-1,xs) (false,0,0,0) 112):=.inr (.inr (.inr (.inl ⟨rfl,hy,rfl,rfl⟩)))
    go_wp2
    exact bodyPost_ret (v:=.tuple #[tgV (false,0,0,0),.int .i64 112]) (by simp [results,Tryz.results71,go_sem,b0,b1,b2,b3,tgV]) rfl (FIN.out w2 (false,0,0,0) 112 k2 HP.out _ rfl)
   ·have HP:Hid (PtR L N z (-1,xs) (false,0,0,y) 0):=.inr (.inr (.inr (.inr ⟨rfl,y,hy,hy1,rfl,rfl⟩)))
    have d1:(y == -1)=false:=by simpa using hy1
    go_wp2
    exact bodyPost_ret (v:=.tuple #[tgV (false,0,0,y),.int .i64 0]) (by simp [results,Tryz.results71,go_sem,b0,b1,b2,b3,tgV]) rfl (FIN.out w2 (false,0,0,y) 0 k2 HP.out _ rfl)
set_option maxHeartbeats 2000000 in
theorem nothing_sym (k:Int) (w:World):Calls Tryz.prog 72 #[.int .i64 k,.iface 40 (.int .i64 14)] w fun e w' => ∃ v,e=.returned v∧FtAt w.heap.size w' v 132 k 14∧Same0 w w' := by
 obtain ⟨W0,hW0⟩:∃ W0,W0=w.alloc (.cells #[.int .i64 132,.int .i64 k,.nilIface] 94):=⟨_,rfl⟩
 have k0:Same0 w W0:=by rw [hW0];exact (Kept.refl _ w).alloc _
 have h0:W0.heap[w.heap.size]? = some (.cells #[.int .i64 132,.int .i64 k,.nilIface] 94 (0,0)):=by rw [hW0];exact heap_alloc_new w _
 have C:=is_one 14 14 W0
 have f2:=frozenAt h0 2
 have c2:W0.cell? ⟨w.heap.size,2,none⟩=some .nilIface:=cellAt h0 2
 have e1:((14:Int) == 14)=true:=by decide
 rw [e1] at C
 have HF:Hid (FtAt w.heap.size (W0.setCell ⟨w.heap.size,2,none⟩ (.iface 40 (.int .i64 14))) (.iface 92 (.pointer (some ⟨w.heap.size,0,none⟩))) 132 k 14∧Same0 w (W0.setCell ⟨w.heap.size,2,none⟩ (.iface 40 (.int .i64 14)))):=by
  refine ⟨⟨w.heap.size,rfl,Nat.le_refl _,?_⟩,?_⟩
  ·have:=setAt h0 2 (.iface 40 (.int .i64 14))
   simpa [whyV] using this
  ·exact k0.trans (Kept.setCell (S:=fun q=>q=w.heap.size) (Kept.refl _ _) (p:=⟨w.heap.size,2,none⟩) (fun _=>rfl) _) (fun i hi e=>by omega)
 clear h0 k0
 go_enter Tryz.func72,Tryz.ntmps72
 go_upto_region 2 with fail
 rw [← hW0]
 clear hW0
 go_wp2_with (first | (go_at_call 90;refine C.mono ?_;rintro e w' ⟨rfl,rfl⟩))
 go_ret
 exact ⟨_,rfl,HF.out.1,HF.out.2⟩
set_option maxHeartbeats 2000000 in
theorem nothing_else (k e0:Int) (he:e0≠14) (w:World):Calls Tryz.prog 72 #[.int .i64 k,.iface 40 (.int .i64 e0)] w fun e w' => ∃ v,e=.returned v∧FtAt w.heap.size w' v 132 k 0∧Same0 w w' := by
 obtain ⟨W0,hW0⟩:∃ W0,W0=w.alloc (.cells #[.int .i64 132,.int .i64 k,.nilIface] 94):=⟨_,rfl⟩
 have k0:Same0 w W0:=by rw [hW0];exact (Kept.refl _ w).alloc _
 have h0:W0.heap[w.heap.size]? = some (.cells #[.int .i64 132,.int .i64 k,.nilIface] 94 (0,0)):=by rw [hW0];exact heap_alloc_new w _
 have C:=is_one e0 14 W0
 have e1:(e0 == 14)=false:=by simpa using he
 rw [e1] at C
 have HF:Hid (FtAt w.heap.size W0 (.iface 92 (.pointer (some ⟨w.heap.size,0,none⟩))) 132 k 0∧Same0 w W0):=⟨⟨w.heap.size,rfl,Nat.le_refl _,h0⟩,k0⟩
 clear h0 k0 he e1
 go_enter Tryz.func72,Tryz.ntmps72
 go_upto_region 2 with fail
 rw [← hW0]
 clear hW0
 go_wp2_with (first | (go_at_call 90;refine C.mono ?_;rintro e w' ⟨rfl,rfl⟩))
 go_ret
 exact ⟨_,rfl,HF.out.1,HF.out.2⟩
theorem nothing_any (k e0:Int) (w:World):Calls Tryz.prog 72 #[.int .i64 k,.iface 40 (.int .i64 e0)] w fun e w' => ∃ v,e=.returned v∧FtAt w.heap.size w' v 132 k (if e0=14 then 14 else 0)∧Same0 w w' := by
 by_cases he:e0=14
 ·subst he;exact nothing_sym k w
 ·rw [if_neg he];exact nothing_else k e0 he w
def PaAt (w:World) (go:Option Addr) (Q:List (Int × List Int)):Prop:=
 Q=[]∨∃ b off,go=some ⟨b,off,none⟩∧b<w.heap.size∧∀ j (hj:j<Q.length),∃ ao ac,w.cell? ⟨b,off+j * 2,none⟩=some (.int .i64 Q[j].1)∧w.cell? ⟨b,off+j * 2+1,none⟩=some (.slice ao Q[j].2.length ac)∧IntsAt w ao Q[j].2∧Q[j].2.length≤maxLen
theorem PaAt.same {w w' : World} {go:Option Addr} {Q:List (Int × List Int)} (h:PaAt w go Q) (hk:Same0 w w'):PaAt w' go Q:=by
 refine h.imp id ?_
 rintro ⟨b,off,e,hb,hc⟩
 refine ⟨b,off,e,Nat.lt_of_lt_of_le hb hk.size,fun j hj=>?_⟩
 obtain ⟨ao,ac,d0,d1,d2,d3⟩:=hc j hj
 exact ⟨ao,ac,(hk.cell (p:=⟨b,off+j * 2,none⟩) hb (fun f=>f)).trans d0,(hk.cell (p:=⟨b,off+j * 2+1,none⟩) hb (fun f=>f)).trans d1,d2.same hk,d3⟩
def AllP (L:List Sym) (N:List Nd) (z:Int) (Q:List (Int × List Int)) (l:List Tg):Prop:=l.length=Q.length∧∀ i (h:i<Q.length) (h' : i<l.length),PtR L N z Q[i] l[i] 0
def BadP (L:List Sym) (N:List Nd) (z:Int) (Q:List (Int × List Int)) (k:Nat) (c:Int):Prop:=
 c≠0∧∃ (l:List Tg) (hk:k<Q.length) (x:Tg),l.length=k∧(∀ i (h:i<Q.length) (h' : i<l.length),PtR L N z Q[i] l[i] 0)∧PtR L N z Q[k] x c
def PtsOut (L:List Sym) (N:List Nd) (z:Int) (Q:List (Int × List Int)) (w:World) (e:Ending) (w' : World):Prop:=
 (∃ l tb,e=.returned (.tuple #[.slice (some ⟨tb,0,none⟩) Q.length Q.length,.nilIface])∧AllP L N z Q l∧w.heap.size≤tb∧TgB w' tb l∧Same0 w w') ∨
 (∃ k c v,e=.returned (.tuple #[.slice none 0 0,v])∧BadP L N z Q k c∧FtAt w.heap.size w' v 132 (k:Int) (if c=14 then 14 else 0)∧Same0 w w')
theorem FtAt.from {n0 n1:Nat} {w:World} {v:Value} {c a y:Int} (h:FtAt n1 w v c a y) (hn:n0≤n1):FtAt n0 w v c a y:=by
 obtain ⟨b,h1,h2,h3⟩:=h
 exact ⟨b,h1,Nat.le_trans hn h2,h3⟩
set_option maxHeartbeats 4000000 in
theorem parts_any {B:Nat→Prop} {n sb:Nat} {L:List Sym} {w:World} {h g room:Nat} {N:List Nd} (hs:Sg n w sb L) (p:HpB B w h g room N) (z:Int) {go:Option Addr} {gc:Nat} {Q:List (Int × List Int)} (hq:PaAt w go Q) (hl:Q.length≤4398046511104) :
  Calls Tryz.prog 42 #[.pointer (some ⟨sb,0,none⟩),.slice go Q.length gc,.iface 81 (.agg #[.pointer (some ⟨h,0,none⟩)]),.int .i64 z] w fun e w' => PtsOut L N z Q w e w' := by
 obtain ⟨i0,hi0,hz0,hz1,hz2⟩:=info_parts info_thing
 have HQ:Hid (∀ wr,Same0 w wr→PaAt wr go Q):=fun wr hk=>hq.same hk
 have HP:Hid (∀ wr (s:Int) (ao:Option Addr) (cap:Nat) (xs:List Int),Same0 w wr→IntsAt wr ao xs→xs.length≤maxLen→Calls Tryz.prog 71 #[.pointer (some ⟨sb,0,none⟩),.agg #[.int .i64 s,.slice ao xs.length cap],.iface 81 (.agg #[.pointer (some ⟨h,0,none⟩)]),.int .i64 z] wr fun e w' => ∃ x c,e=.returned (.tuple #[tgV x,.int .i64 c])∧PtR L N z (s,xs) x c∧Same0 wr w'):=fun wr s ao cap xs hk hx hm=>part_any (hs.same hk) (p.same hk) z s hx hm
 clear hs p hq
 go_enter Tryz.func42,Tryz.ntmps42
 go_wp2_with (first | (at_make;refine wpList_make_full _ rfl _ _ 100 rfl w.heap.size 139 i0 _ 4 Tryz.underlying100 hi0 hz0 hz1 _ _ _ _ Q.length rfl rfl rfl rfl (by rw [hz2];omega) (by unfold maxLen;omega) (Nat.le_refl _) ?_;intro w1 hown hgrow))
 have K1:Same0 w w1:=Same0.grown (Kept.refl _ w) hgrow
 have HT:Hid (TgQ w1 w.heap.size Q.length []):=TgQ.start hown
 clear hown hgrow
 go_loopw [20] (fun s20 wr=>∃ (k:Nat) (l:List Tg),k≤Q.length∧s20=.int .i64 (k:Int)∧Hid (l.length=k∧TgQ wr w.heap.size Q.length l∧∀ i (h:i<Q.length) (h' : i<l.length),PtR L N z Q[i] l[i] 0)∧Same0 w wr) (fun s20 _=>Q.length-(intOf s20).toNat)
 case atStart=>exact ⟨0,[],Nat.zero_le _,rfl,⟨rfl,HT.out,fun i h h' => by simp at h'⟩,K1⟩
 case round=>
  clear HT K1
  obtain ⟨k,l,hk,rfl,hl2,hs⟩:=hrel
  by_cases hlt:k<Q.length
  ·obtain ⟨xb,off,rfl,hxb,hxc⟩:=(HQ.out wr hs).resolve_left (fun e=>by rw [e] at hlt;simp at hlt)
   obtain ⟨ao,ac,d0,d1,d2,d3⟩:=hxc k hlt
   have i1:(0:Int)≤(k:Int):=by omega
   have i2:(k:Int)<(Q.length:Int):=by omega
   have ka:Same0 wr (wr.alloc (.cells #[.int .i64 Q[k].1,.slice ao Q[k].2.length ac] 73)):=(Kept.refl _ _).alloc _
   have C:=HP.out (wr.alloc (.cells #[.int .i64 Q[k].1,.slice ao Q[k].2.length ac] 73)) Q[k].1 ao ac Q[k].2 (hs.trans' ka) (d2.same ka) d3
   have BAD:Hid (∀ w2 x c v w4,Same0 (wr.alloc (.cells #[.int .i64 Q[k].1,.slice ao Q[k].2.length ac] 73)) w2→PtR L N z (Q[k].1,Q[k].2) x c→c≠0→FtAt w2.heap.size w4 v 132 (k:Int) (if c=14 then 14 else 0)→Same0 w2 w4→PtsOut L N z Q w (.returned (.tuple #[.slice none 0 0,v])) w4):=fun w2 x c v w4 k2 hp hc hf k4=>
    .inr ⟨k,c,v,rfl,⟨hc,l,hlt,x,hl2.out.1,hl2.out.2.2,hp⟩,hf.from ((hs.trans' ka).trans' k2).size,((hs.trans' ka).trans' k2).trans' k4⟩
   have NX:Hid (∀ w2 x,Same0 (wr.alloc (.cells #[.int .i64 Q[k].1,.slice ao Q[k].2.length ac] 73)) w2→PtR L N z (Q[k].1,Q[k].2) x 0→(∃ u0 u1 u2 u3,w2.cell? ⟨w.heap.size,k * 4,none⟩=some u0∧w2.cell? ⟨w.heap.size,k * 4+1,none⟩=some u1∧w2.cell? ⟨w.heap.size,k * 4+2,none⟩=some u2∧w2.cell? ⟨w.heap.size,k * 4+3,none⟩=some u3∧∀ o,w2.frozen? ⟨w.heap.size,o,none⟩=false)∧((l ++ [x]).length=k+1∧TgQ (put4 w2 w.heap.size (k * 4) (.bool x.1) (.int .i64 x.2.1) (.int .i64 x.2.2.1) (.int .i64 x.2.2.2)) w.heap.size Q.length (l ++ [x])∧∀ i (h:i<Q.length) (h' : i<(l ++ [x]).length),PtR L N z Q[i] (l ++ [x])[i] 0)∧Same0 w (put4 w2 w.heap.size (k * 4) (.bool x.1) (.int .i64 x.2.1) (.int .i64 x.2.2.1) (.int .i64 x.2.2.2))):=fun w2 x k2 hp=>by
    obtain ⟨e1,e2,e3⟩:=hl2.out
    have q2:=e2.same (ka.trans' k2)
    have th:=q2.there (by omega)
    have sn:=q2.snoc (by omega) x
    rw [e1] at th sn
    refine ⟨th,⟨by simp [e1],sn,fun i h h' => ?_⟩,((hs.trans' ka).trans' k2).trans (put4_kept _ _ _ _ _ _ _) (fun i hi e=>by omega)⟩
    by_cases hi:i<l.length
    ·rw [List.getElem_append_left hi];exact e3 i h hi
    ·obtain rfl:i=l.length:=by simp at h'; omega
     rw [List.getElem_concat_length rfl]
     simp only [e1]
     exact hp
   clear d2 d3 hxc hl2 HP
   generalize Q[k].1=q1 at *
   generalize Q[k].2=q2 at *
   go_upto_region 6 with (first | (go_at_call 71;refine C.mono ?_;rintro e w2 ⟨x,c,rfl,hp,k2⟩;simp only [tgV]))
   obtain ⟨X2,hX2⟩:∃ X2,X2=w2.alloc (.cells #[.bool x.1,.int .i64 x.2.1,.int .i64 x.2.2.1,.int .i64 x.2.2.2] 139):=⟨_,rfl⟩
   have kx:Same0 w2 X2:=by rw [hX2];exact (Kept.refl _ _).alloc _
   obtain ⟨y0,y1,y2,y3⟩:=boxT4 (show X2.heap[w2.heap.size]? = some (.cells #[.bool x.1,.int .i64 x.2.1,.int .i64 x.2.2.1,.int .i64 x.2.2.2] 139 (0,0)) by rw [hX2];exact heap_alloc_new _ _)
   rw [← hX2]
   clear hX2 C d0 d1
   by_cases hc:c=0
   ·subst hc
    obtain ⟨⟨u0,u1,u2,u3,d0,d1,d2,d3,fz⟩,n1,n2⟩:=NX.out X2 x (k2.trans' kx) hp
    have f0:=fz (k * 4)
    have f1:=fz (k * 4+1)
    have f2:=fz (k * 4+2)
    have f3:=fz (k * 4+3)
    have HN:Hid ((l ++ [x]).length=k+1∧TgQ (put4 X2 w.heap.size (k * 4) (.bool x.1) (.int .i64 x.2.1) (.int .i64 x.2.2.1) (.int .i64 x.2.2.2)) w.heap.size Q.length (l ++ [x])∧∀ i (h:i<Q.length) (h' : i<(l ++ [x]).length),PtR L N z Q[i] (l ++ [x])[i] 0):=n1
    clear n1 fz BAD NX
    go_wp2
    refine ⟨⟨k+1,l ++ [x],by omega,by go_num,HN,n2⟩,by simp [intOf];omega⟩
   ·have CN:=nothing_any (k:Int) c X2
    have HB:Hid (∀ v w4,FtAt X2.heap.size w4 v 132 (k:Int) (if c=14 then 14 else 0)→Same0 X2 w4→PtsOut L N z Q w (.returned (.tuple #[.slice none 0 0,v])) w4):=fun v w4 h1 h2=>BAD.out X2 x c v w4 (k2.trans' kx) hp hc h1 h2
    have d1:(c == 0)=false:=by simpa using hc
    clear BAD NX
    generalize (if c=14 then (14:Int) else 0)=yy at *
    go_wp2_with (first | (go_at_call 72;refine CN.mono ?_;rintro e w4 ⟨v,rfl,hf,k4⟩))
    go_ret2
    exact HB.out v w4 hf k4
  ·obtain rfl:k=Q.length:=by omega
   obtain ⟨e1,e2,e3⟩:=hl2.out
   have FIN:Hid (PtsOut L N z Q w (.returned (.tuple #[.slice (some ⟨w.heap.size,0,none⟩) Q.length Q.length,.nilIface])) wr):=.inl ⟨l,w.heap.size,rfl,⟨e1,e3⟩,Nat.le_refl _,by rw [← e1] at e2;exact e2.all,hs⟩
   clear e1 e2 e3 hl2
   go_wp2
   go_ret2
   exact FIN.out
def idxG (n:Int) (m:Nat):Bool:=decide (0≤n) && decide (n<(m:Int))
theorem isIdx_any (n:Int) (m:Nat) (w:World):Calls Tryz.prog 69 #[.int .i64 n,.int .i64 (m:Int)] w fun e w' => e=.returned (.bool (idxG n m))∧w' = w:=by
 by_cases h:0≤n
 ·have H:Hid (idxG n m=decide (n<(m:Int))):=by show _=_;simp [idxG,h]
  go_enter Tryz.func69,Tryz.ntmps69
  go_wp2
  go_ret
  exact ⟨by rw [H.out];first | rfl | simp,rfl⟩
 ·have H:Hid (idxG n m=false):=by show _=_;simp [idxG,h]
  go_enter Tryz.func69,Tryz.ntmps69
  go_wp2
  go_ret
  exact ⟨by rw [H.out];first | rfl | simp,rfl⟩
def wtG (Q:List (Int × List Int)):Nat:=Q.countP (fun p=>decide (0≤p.1))
theorem wtG_step {Q:List (Int × List Int)} {k:Nat} (h:k<Q.length):wtG (Q.take (k+1))=wtG (Q.take k)+if 0≤Q[k].1 then 1 else 0:=by
 unfold wtG
 rw [← List.take_append_getElem h,List.countP_append]
 simp [List.countP_cons]
theorem wtG_le (Q:List (Int × List Int)):wtG Q≤Q.length:=List.countP_le_length
def RtAt (w:World) (ro:Option Addr) (R:List (List (Int × List Int))):Prop:=
 R=[]∨∃ b off,ro=some ⟨b,off,none⟩∧b<w.heap.size∧∀ i (h:i<R.length),∃ go gc,w.cell? ⟨b,off+i,none⟩=some (.slice go R[i].length gc)∧PaAt w go R[i]∧R[i].length≤4398046511104
theorem RtAt.same {w w' : World} {ro:Option Addr} {R:List (List (Int × List Int))} (h:RtAt w ro R) (hk:Same0 w w'):RtAt w' ro R:=by
 refine h.imp id ?_
 rintro ⟨b,off,e,hb,hc⟩
 refine ⟨b,off,e,Nat.lt_of_lt_of_le hb hk.size,fun i hi=>?_⟩
 obtain ⟨go,gc,c0,c1,c2⟩:=hc i hi
 exact ⟨go,gc,(hk.cell (p:=⟨b,off+i,none⟩) hb (fun f=>f)).trans c0,c1.same hk,c2⟩
theorem weightG_no {w:World} {ro:Option Addr} {R:List (List (Int × List Int))} (n:Int) (hn:¬ (0≤n∧n<(R.length:Int))) (io po eo:Option Addr) (il ic pl pc el ec rc:Nat) :
  Calls Tryz.prog 40 #[.agg #[.slice io il ic,.slice po pl pc,.slice eo el ec,.slice ro R.length rc],.int .i64 n] w fun e w' => e=.returned (.tuple #[.int .i64 0,.int .i64 91])∧Same0 w w' := by
 have CI:=isIdx_any n R.length
 have hi:idxG n R.length=false:=by unfold idxG;simp;omega
 rw [hi] at CI
 obtain ⟨W1,hW1⟩:∃ W1,W1=w.alloc (.cells #[.slice io il ic,.slice po pl pc,.slice eo el ec,.slice ro R.length rc] 58):=⟨_,rfl⟩
 have ka:Same0 w W1:=by rw [hW1];exact (Kept.refl _ w).alloc _
 have hbx:W1.heap[w.heap.size]? = some (.cells #[.slice io il ic,.slice po pl pc,.slice eo el ec,.slice ro R.length rc] 58 (0,0)):=by rw [hW1];exact heap_alloc_new w _
 have x3:W1.cell? ⟨w.heap.size,3,none⟩=some (.slice ro R.length rc):=cellAt hbx 3
 clear hi hbx hn
 go_enter Tryz.func40,Tryz.ntmps40
 go_upto_region 1 with fail
 rw [← hW1]
 clear hW1
 go_wp2_with (first | (go_at_call 69;refine (CI _).mono ?_;rintro e w2 ⟨rfl,rfl⟩))
 go_ret2
 exact ⟨rfl,ka⟩
set_option maxHeartbeats 8000000 in
theorem weightG_yes {w:World} {ro:Option Addr} {R:List (List (Int × List Int))} (hR:RtAt w ro R) (i:Nat) (hil:i<R.length) (io po eo:Option Addr) (il ic pl pc el ec rc:Nat) :
  Calls Tryz.prog 40 #[.agg #[.slice io il ic,.slice po pl pc,.slice eo el ec,.slice ro R.length rc],.int .i64 (i:Int)] w fun e w' => e=.returned (.tuple #[.int .i64 (wtG R[i]:Int),.int .i64 0])∧Same0 w w' := by
 have CI:=isIdx_any (i:Int) R.length
 have hi:idxG (i:Int) R.length=true:=by unfold idxG;simp;omega
 rw [hi] at CI
 obtain ⟨W1,hW1⟩:∃ W1,W1=w.alloc (.cells #[.slice io il ic,.slice po pl pc,.slice eo el ec,.slice ro R.length rc] 58):=⟨_,rfl⟩
 have ka:Same0 w W1:=by rw [hW1];exact (Kept.refl _ w).alloc _
 have hbx:W1.heap[w.heap.size]? = some (.cells #[.slice io il ic,.slice po pl pc,.slice eo el ec,.slice ro R.length rc] 58 (0,0)):=by rw [hW1];exact heap_alloc_new w _
 have x3:W1.cell? ⟨w.heap.size,3,none⟩=some (.slice ro R.length rc):=cellAt hbx 3
 obtain ⟨b,off,rfl,hb,hc⟩:=(hR.same ka).resolve_left (fun e=>by rw [e] at hil;simp at hil)
 obtain ⟨go,gc,c0,c1,HL⟩:=hc i hil
 generalize R[i]=q at *
 have HC:Hid (∀ wr,Same0 W1 wr→PaAt wr go q):=fun wr hk=>c1.same hk
 have i1:(0:Int)≤(i:Int):=by omega
 have i2:(i:Int)<(R.length:Int):=by omega
 clear hi hR hbx c1 hc
 go_enter Tryz.func40,Tryz.ntmps40
 go_upto_region 1 with fail
 rw [← hW1]
 clear hW1
 go_upto_region 5 with (first | (go_at_call 69;refine (CI _).mono ?_;rintro e w2 ⟨rfl,rfl⟩))
 go_loopw [6,21] (fun s6 s21 wr=>∃ k:Nat,k≤q.length∧s6=.int .i64 (wtG (q.take k):Int)∧s21=.int .i64 (k:Int)∧Same0 w2 wr) (fun _ s21 _=>q.length-(intOf s21).toNat)
 case atStart=>exact ⟨0,Nat.zero_le _,by simp [wtG],rfl,Kept.refl _ _⟩
 case round=>
  obtain ⟨k,hk,rfl,rfl,hs⟩:=hrel
  by_cases hlt:k<q.length
  ·obtain ⟨g,goff,rfl,hg,hgc⟩:=(HC.out wr hs).resolve_left (fun e=>by rw [e] at hlt;simp at hlt)
   obtain ⟨ao,ac,d0,d1, -, -⟩:=hgc k hlt
   have hst:=wtG_step hlt
   have hle:=wtG_le (q.take k)
   rw [List.length_take] at hle
   have hle2:wtG (q.take k)≤k:=by omega
   have j1:(0:Int)≤(k:Int):=by omega
   have j2:(k:Int)<(q.length:Int):=by omega
   clear hgc
   generalize q[k].1=x at *
   generalize q[k].2.length=xl at *
   generalize wtG (q.take k)=m at *
   by_cases hx:0≤x
   ·rw [if_pos hx] at hst
    go_wp2_with fail
    go_roundw
    case rel=>exact ⟨k+1,by omega,by rw [hst];go_num,by go_num,hs.trans' (Kept.alloc (Kept.refl _ _) _)⟩
    case measure=>simp [intOf];omega
   ·rw [if_neg hx] at hst
    go_wp2_with fail
    go_roundw
    case rel=>exact ⟨k+1,by omega,by rw [hst];go_num,by go_num,hs.trans' (Kept.alloc (Kept.refl _ _) _)⟩
    case measure=>simp [intOf];omega
  ·obtain rfl:k=q.length:=by omega
   rw [List.take_length]
   go_wp2_with fail
   go_ret2
   exact ⟨rfl,ka.trans' hs⟩
def BdY (L:List Sym) (N:List Nd) (room:Nat) (R:List (List (Int × List Int))) (rule node:Int) (l:List Tg):Prop:=
 ∃ (i j top:Nat) (hi:i<R.length),rule=(i:Int)∧node=(j:Int)∧Res N j top∧AllP L N (top:Int) R[i] l∧oneT 1 l=true∧N.length+newN l≤room
def BdE (L : List Sym) (N : List Nd) (room : Nat) (R : List (List (Int × List Int))) (rule node : Int) (c a y : Int) : Prop :=
  (¬ (0 ≤ rule ∧ rule < (R.length : Int)) ∧ c = 132 ∧ a = 0 ∧ y = 91) ∨
  ((0 ≤ rule ∧ rule < (R.length : Int)) ∧ ¬ (0 ≤ node ∧ node < (N.length : Int)) ∧ c = 132 ∧ a = 0 ∧ y = 112) ∨
  ∃ (i j top : Nat) (hi : i < R.length), rule = (i : Int) ∧ node = (j : Int) ∧ Res N j top ∧
    ((∃ k cc, BadP L N (top : Int) R[i] k cc ∧ c = 132 ∧ a = (k : Int) ∧ y = if cc = 14 then 14 else 0) ∨
     (∃ l, AllP L N (top : Int) R[i] l ∧ ((oneT 1 l = false ∧ c = 130 ∧ a = 0 ∧ y = 0) ∨ (oneT 1 l = true ∧ ¬ N.length + newN l ≤ room ∧ c = 131 ∧ a = 0 ∧ y = 111))))
def BldOut (B:Nat→Prop) (L:List Sym) (N:List Nd) (room h g:Nat) (R:List (List (Int × List Int))) (rule node:Int) (w:World) (e:Ending) (w' : World):Prop:=
 (∃ v c a y,e=.returned (.tuple #[.int .i64 0,v])∧FtAt w.heap.size w' v c a y∧BdE L N room R rule node c a y∧Same0 w w') ∨
 (∃ (l:List Tg) (a:Nat),e=.returned (.tuple #[.int .i64 (a:Int),.nilIface])∧BdY L N room R rule node l∧(layF N l).2=[(a:Int)]∧HpB (fun b=>B b∨w.heap.size≤b) w' h g room (layF N l).1∧Kept (fun k=>k=h∨k=g) w w')
theorem PtR.ok {L:List Sym} (ha:Ars L) {N:List Nd} {z:Int} (hz:0≤z∧z<(N.length:Int)) {p:Int × List Int} {x:Tg} (h:PtR L N z p x 0):TgOk N.length x∧(x.1=decide (0≤p.1)):=by
 rcases h with ⟨h1,h2,rfl,_⟩ | ⟨_,_,e⟩ | ⟨_,_,e⟩ | ⟨_,_,_,e⟩ | ⟨h1,y,h2,h3,rfl,_⟩
 ·have:=arN_le ha p.1
  exact ⟨⟨by simp [tgT],by simp [tgT];omega,fun _=>h1,fun q=>by cases q⟩,by simp [tgT,h1]⟩
 ·cases e
 ·cases e
 ·cases e
 ·have:=LdR.range (.inr hz) h2
  exact ⟨⟨by simp,by simp,fun q=>(by cases q),fun _=>⟨rfl,by simp only;omega,by simp only;omega⟩⟩,by rw [h1];simp⟩
theorem AllP.ok {L:List Sym} (ha:Ars L) {N:List Nd} {z:Int} (hz:0≤z∧z<(N.length:Int)) {Q:List (Int × List Int)} {l:List Tg} (h:AllP L N z Q l):∀ x∈l,TgOk N.length x:=fun x hx=>by
 obtain ⟨i,hi,rfl⟩:=List.mem_iff_getElem.1 hx
 exact (PtR.ok ha hz (h.2 i (by have:=h.1;omega) hi)).1
theorem AllP.count {L:List Sym} (ha:Ars L) {N:List Nd} {z:Int} (hz:0≤z∧z<(N.length:Int)):∀ {Q:List (Int × List Int)} {l:List Tg},AllP L N z Q l→newN l=wtG Q
 | [],[],_=>rfl
 | [],x :: l,h=>by have:=h.1;simp at this
 | p :: Q,[],h=>by have:=h.1;simp at this
 | p :: Q,x :: l,h=>by
  have ih:=AllP.count ha hz (Q:=Q) (l:=l) ⟨by have:=h.1;simpa using this,fun i h1 h2=>h.2 (i+1) (by simp;omega) (by simp;omega)⟩
  have h0:=(PtR.ok ha hz (h.2 0 (by simp) (by simp))).2
  simp only [List.getElem_cons_zero] at h0
  unfold newN wtG at *
  rw [List.countP_cons,List.countP_cons,ih,h0]
set_option maxHeartbeats 4000000 in
theorem build_any {B:Nat→Prop} {n sb:Nat} {L:List Sym} {w:World} {h g room:Nat} {N:List Nd} (hs:Sg n w sb L) (p:HpB B w h g room N) {ro:Option Addr} {rc:Nat} {R:List (List (Int × List Int))} (hR:RtAt w ro R) (io po eo:Option Addr) (il ic pl pc el ec:Nat) (rule node:Int) :
  Calls Tryz.prog 16 #[.pointer (some ⟨sb,0,none⟩),.agg #[.slice io il ic,.slice po pl pc,.slice eo el ec,.slice ro R.length rc],.pointer (some ⟨h,0,none⟩),.int .i64 rule,.int .i64 node] w fun e w' => BldOut B L N room h g R rule node w e w' := by
 obtain ⟨W0,hW0⟩:∃ W0,W0=w.alloc (.cells #[.slice io il ic,.slice po pl pc,.slice eo el ec,.slice ro R.length rc] 58):=⟨_,rfl⟩
 have k0:Same0 w W0:=by rw [hW0];exact (Kept.refl _ w).alloc _
 have h0:W0.heap[w.heap.size]? = some (.cells #[.slice io il ic,.slice po pl pc,.slice eo el ec,.slice ro R.length rc] 58 (0,0)):=by rw [hW0];exact heap_alloc_new w _
 obtain ⟨c0,c1,c2,c3⟩:=boxT4 h0
 by_cases hru:0≤rule∧rule<(R.length:Int)
 ·obtain ⟨i,rfl⟩:∃ i:Nat,rule=(i:Int):=⟨rule.toNat,by omega⟩
  have hi:i<R.length:=by omega
  have C1:=weightG_yes (rc:=rc) (hR.same k0) i hi io po eo il ic pl pc el ec
  by_cases hno:0≤node∧node<(N.length:Int)
  ·obtain ⟨j,rfl⟩:∃ j:Nat,node=(j:Int):=⟨node.toNat,by omega⟩
   have hj:j<N.length:=by omega
   have C2:Hid (∀ ww,Same0 W0 ww→Calls Tryz.prog 41 #[.pointer (some ⟨h,0,none⟩),.int .i64 (j:Int)] ww fun e w' => ∃ (c:Nat) (s:Int) (bo:Option Addr) (ln bc:Nat) (mk:Int) (pt:Bool) (tt:Int),e=.returned (.tuple #[.int .i64 (c:Int),.agg #[.int .i64 s,.slice bo ln bc,.int .i64 mk,.bool pt,.int .i64 tt],.int .i64 0])∧Res N j c∧Same0 ww w'):=fun ww hk=>(appl_yes (p.same (k0.trans' hk)) j hj).mono (fun e w' ⟨c,hc,bo,bc,e1,e2,_,_,e5⟩=>⟨c,_,bo,_,bc,_,_,_,e1,e2,e5⟩)
   obtain ⟨b,off,rfl,hb,hc⟩:=hR.resolve_left (fun e=>by rw [e] at hi;simp at hi)
   obtain ⟨go,gc,r0,r1,rl⟩:=hc i hi
   have C3:Hid (∀ ww (top:Nat),Same0 w ww→Calls Tryz.prog 42 #[.pointer (some ⟨sb,0,none⟩),.slice go R[i].length gc,.iface 81 (.agg #[.pointer (some ⟨h,0,none⟩)]),.int .i64 (top:Int)] ww fun e w' => PtsOut L N (top:Int) R[i] ww e w'):=fun ww top hk=>parts_any (hs.same hk) (p.same hk) _ (r1.same hk) rl
   have FC:Hid (∀ ww,Same0 W0 ww→ww.cell? ⟨w.heap.size,3,none⟩=some (.slice (some ⟨b,off,none⟩) R.length rc)∧ww.cell? ⟨b,off+i,none⟩=some (.slice go R[i].length gc)):=fun ww hk=>⟨cellAt (hk.at0 h0) 3,((k0.trans' hk).cell (p:=⟨b,off+i,none⟩) hb (fun f=>f)).trans r0⟩
   have C4:Hid (∀ ww tb l,Same0 w ww→TgB ww tb l→(∀ x∈l,TgOk N.length x)→l.length=R[i].length→Calls Tryz.prog 43 #[.slice (some ⟨tb,0,none⟩) R[i].length R[i].length] ww fun e w' => e=.returned (.bool (oneT 1 l))∧Same0 ww w'):=fun ww tb l hk pt hok hl=>by
    have:=isOne_any pt R[i].length (fun x hx=>⟨(hok x hx).1,(hok x hx).2.1⟩) (by omega)
    rw [hl] at this
    exact this
   have C5:Hid (∀ ww,Same0 w ww→Calls Tryz.prog 32 #[.pointer (some ⟨h,0,none⟩),.int .i64 (wtG R[i]:Int)] ww fun e w' => e=.returned (.bool (decide (N.length+wtG R[i]≤room)))∧Same0 ww w'):=fun ww hk=>hasRoom_any (p.same hk) _
   have C6:Hid (∀ ww tb l,Same0 w ww→TgB ww tb l→oneT 1 l=true→(∀ x∈l,TgOk N.length x)→N.length+newN l≤room→l.length=R[i].length→Calls Tryz.prog 34 #[.pointer (some ⟨h,0,none⟩),.slice (some ⟨tb,0,none⟩) R[i].length R[i].length] ww fun e w' => ∃ a:Nat,e=.returned (.int .i64 (a:Int))∧(layF N l).2=[(a:Int)]∧HpB (fun b=>B b∨ww.heap.size≤b) w' h g room (layF N l).1∧Kept (fun k=>k=h∨k=g) ww w'):=fun ww tb l hk pt h1 hok hr hl=>by
    have:=lay_any (p.same hk) R[i].length pt h1 hok hr (by omega)
    rw [hl] at this
    exact this
   have HA:Hid (Ars L):=hs.2
   have i1:(0:Int)≤(i:Int):=by omega
   have i2:(i:Int)<(R.length:Int):=by omega
   have EE:Hid (∀ top v c a y w', Res N j top→((∃ k cc,BadP L N (top:Int) R[i] k cc∧c=132∧a=(k:Int)∧y=if cc=14 then 14 else 0)∨(∃ l,AllP L N (top:Int) R[i] l∧((oneT 1 l=false∧c=130∧a=0∧y=0)∨(oneT 1 l=true∧¬ N.length+newN l≤room∧c=131∧a=0∧y=111))))→FtAt w.heap.size w' v c a y→Same0 w w' → BldOut B L N room h g R (i:Int) (j:Int) w (.returned (.tuple #[.int .i64 0,v])) w'):=fun top v c a y w' hr hh hf hk=>.inl ⟨v,c,a,y,rfl,hf,.inr (.inr ⟨i,j,top,hi,rfl,rfl,hr,hh⟩),hk⟩
   have YY:Hid (∀ (top:Nat) (l:List Tg) (a:Nat) (ww w' : World),Res N j top→AllP L N (top:Int) R[i] l→oneT 1 l=true→N.length+newN l≤room→(layF N l).2=[(a:Int)]→Same0 w ww→HpB (fun b=>B b∨ww.heap.size≤b) w' h g room (layF N l).1→Kept (fun k=>k=h∨k=g) ww w' → BldOut B L N room h g R (i:Int) (j:Int) w (.returned (.tuple #[.int .i64 (a:Int),.nilIface])) w'):=fun top l a ww w' hr ha h1 hro e1 hk hp hk2=>.inr ⟨l,a,rfl,⟨i,j,top,hi,rfl,rfl,hr,ha,h1,hro⟩,e1,hp.mono (fun q _ _ e=>e.imp id (fun e=>Nat.le_trans hk.size e)),(hk.mono (S' := fun k=>k=h∨k=g) (fun _ _ f=>f.elim)).trans hk2 (fun _ _ e=>e)⟩
   have K0:Hid (Same0 w W0):=k0
   clear hs p hR hc r0 r1 h0 hru hno k0 hb
   go_enter Tryz.func16,Tryz.ntmps16
   go_upto_region 1 with fail
   rw [← hW0]
   clear hW0
   go_upto_region 9 with (first
    | (go_at_call 40;refine C1.mono ?_;rintro e w1 ⟨rfl,k1⟩)
    | (go_at_call 41;refine (C2.out w1 k1).mono ?_;rintro e w2 ⟨top,s,bo,ln,bc,mk,pt,tt,rfl,hr,k2⟩))
   obtain ⟨X1,hX1⟩:∃ X1,X1=w2.alloc (.cells #[.int .i64 s,.slice bo ln bc,.int .i64 mk,.bool pt,.int .i64 tt] 76):=⟨_,rfl⟩
   have kx:Same0 W0 X1:=by rw [hX1];exact (k1.trans' k2).trans' ((Kept.refl _ _).alloc _)
   rw [← hX1]
   clear hX1 C1 C2 c0 c1 c2 c3
   have hrt:=hr.lt.2
   have KX:Hid (Same0 W0 X1.drew):=kx.trans' ((Kept.refl _ _).drew)
   obtain ⟨s0a,s0b⟩:=FC.out X1.drew KX.out
   have CO:=of_any (some ⟨h,0,none⟩) X1.drew
   have CP:Hid (∀ ww,Same0 X1.drew ww→Calls Tryz.prog 42 #[.pointer (some ⟨sb,0,none⟩),.slice go R[i].length gc,.iface 81 (.agg #[.pointer (some ⟨h,0,none⟩)]),.int .i64 (top:Int)] ww fun e w' => ∃ v1 v2,e=.returned (.tuple #[v1,v2])∧PtsOut L N (top:Int) R[i] ww (.returned (.tuple #[v1,v2])) w' ∧ Same0 ww w'):=fun ww hk=>(C3.out ww top ((K0.out.trans' KX.out).trans' hk)).mono (fun e w' hp=>by
    rcases hp with ⟨l,tb,rfl,q1,q2,q3,q4⟩ | ⟨k,c,v,rfl,q1,q2,q3⟩
    ·exact ⟨_,_,rfl,.inl ⟨l,tb,rfl,q1,q2,q3,q4⟩,q4⟩
    ·exact ⟨_,_,rfl,.inr ⟨k,c,v,rfl,q1,q2,q3⟩,q3⟩)
   have KD:Hid (∀ ww,Same0 X1.drew ww→Same0 w ww):=fun ww hk=>(K0.out.trans' KX.out).trans' hk
   have FD:Hid (∀ ww,Same0 X1.drew ww→ww.cell? ⟨w.heap.size,3,none⟩=some (.slice (some ⟨b,off,none⟩) R.length rc)∧ww.cell? ⟨b,off+i,none⟩=some (.slice go R[i].length gc)):=fun ww hk=>FC.out ww (KX.out.trans' hk)
   have HLT:Hid (0≤(top:Int)∧(top:Int)<(N.length:Int)):=by show _∧_;omega
   clear C3 FC KX kx k1 k2 hrt
   go_region_held3 (fun ww=>ww.cell? ⟨w.heap.size,3,none⟩=some (.slice (some ⟨b,off,none⟩) R.length rc)∧ww.cell? ⟨b,off+i,none⟩=some (.slice go R[i].length gc)) (with_reducible first | exact ⟨s0a,s0b⟩ | exact cc1 | exact cc2) (first
    | (go_at_call 22;refine CO.mono ?_;rintro e w4 ⟨rfl,k4⟩;have cc1:=FD.out w4 k4)
    | (go_at_call 42;refine (CP.out w4 k4).mono ?_;rintro e w5 ⟨v1,v2,rfl,hpo,k5⟩;have cc2:=FD.out w5 (Same0.trans' k4 k5)))
   have K5:Hid (Same0 w w5):=KD.out w5 (Same0.trans' k4 k5)
   have hz4:w.heap.size≤w4.heap.size:=(KD.out w4 k4).size
   clear CO CP KD FD cc1 cc2 s0a s0b k4 k5
   rcases hpo with ⟨l,tb,e,q1,q2,q3,q4⟩ | ⟨k,c,v,e,q1,q2,q3⟩
   ·simp only [Ending.returned.injEq,Value.tuple.injEq,Array.mk.injEq,List.cons.injEq,and_true] at e
    obtain ⟨rfl,rfl⟩:=e
    have hok:=AllP.ok HA.out HLT.out q1
    have hct:=AllP.count HA.out HLT.out q1
    have CI:=C4.out w5 tb l K5.out q3 hok q1.1
    cases h1:oneT 1 l with
    | false=>
     rw [h1] at CI
     have F1:Hid (∀ w6 w', Same0 w5 w6→w' = w6.alloc (.cells #[.int .i64 130,.int .i64 0,.nilIface] 94)→BldOut B L N room h g R (i:Int) (j:Int) w (.returned (.tuple #[.int .i64 0,.iface 92 (.pointer (some ⟨w6.heap.size,0,none⟩))])) w'):=fun w6 w' k6 hw=>EE.out top _ 130 0 0 w' hr (.inr ⟨l,q1,.inl ⟨h1,rfl,rfl,rfl⟩⟩) ⟨w6.heap.size,rfl,(K5.out.trans' k6).size,by rw [hw];exact heap_alloc_new w6 _⟩ (by rw [hw];exact (K5.out.trans' k6).trans' ((Kept.refl _ _).alloc _))
     clear EE YY C4 C5 C6 hok hct q1 q2 q3 q4 h1 hr
     go_wp2_with (first | (go_at_call 43;refine CI.mono ?_;rintro e w6 ⟨rfl,k6⟩))
     go_ret2
     exact F1.out w6 _ k6 rfl
    | true=>
     rw [h1] at CI
     by_cases hro:N.length+wtG R[i]≤room
     ·have C5' : Hid (∀ ww,Same0 w ww→Calls Tryz.prog 32 #[.pointer (some ⟨h,0,none⟩),.int .i64 (wtG R[i]:Int)] ww fun e w' => e=.returned (.bool true)∧Same0 ww w'):=fun ww hk=>by have:=C5.out ww hk;rw [show decide (N.length+wtG R[i]≤room)=true by simpa using hro] at this;exact this
      have C6' : Hid (∀ ww,Same0 w5 ww→Calls Tryz.prog 34 #[.pointer (some ⟨h,0,none⟩),.slice (some ⟨tb,0,none⟩) R[i].length R[i].length] ww fun e w' => ∃ a:Nat,e=.returned (.int .i64 (a:Int))∧BldOut B L N room h g R (i:Int) (j:Int) w (.returned (.tuple #[.int .i64 (a:Int),.nilIface])) w'):=fun ww hk=>(C6.out ww tb l (K5.out.trans' hk) (q3.same hk) h1 hok (by rw [hct];exact hro) q1.1).mono (fun e w' ⟨a,e1,e2,e3,e4⟩=>⟨a,e1,YY.out top l a ww w' hr q1 h1 (by rw [hct];exact hro) e2 (K5.out.trans' hk) e3 e4⟩)
      clear EE YY C4 C5 C6 hok hct q1 q2 q3 q4 h1 hr hro
      go_wp2_with (first
       | (go_at_call 43;refine CI.mono ?_;rintro e w6 ⟨rfl,k6⟩)
       | (go_at_call 32;refine (C5'.out w6 (K5.out.trans' k6)).mono ?_;rintro e w7 ⟨rfl,k7⟩)
       | (go_at_call 34;refine (C6'.out w7 (Same0.trans' k6 k7)).mono ?_;rintro e w8 ⟨a,rfl,hB⟩))
      go_ret2
      exact hB
     ·have C5' : Hid (∀ ww,Same0 w ww→Calls Tryz.prog 32 #[.pointer (some ⟨h,0,none⟩),.int .i64 (wtG R[i]:Int)] ww fun e w' => e=.returned (.bool false)∧Same0 ww w'):=fun ww hk=>by have:=C5.out ww hk;rw [show decide (N.length+wtG R[i]≤room)=false by simpa using hro] at this;exact this
      have F1:Hid (∀ w7 w' v,Same0 w w7→FtAt w7.heap.size w' v 131 0 111→Same0 w7 w' → BldOut B L N room h g R (i:Int) (j:Int) w (.returned (.tuple #[.int .i64 0,v])) w'):=fun w7 w' v k7 hf k8=>EE.out top v 131 0 111 w' hr (.inr ⟨l,q1,.inr ⟨h1,by rw [hct];exact hro,rfl,rfl,rfl⟩⟩) (hf.from k7.size) (k7.trans' k8)
      clear EE YY C4 C5 C6 hok hct q1 q2 q3 q4 h1 hr hro
      go_wp2_with (first
       | (go_at_call 43;refine CI.mono ?_;rintro e w6 ⟨rfl,k6⟩)
       | (go_at_call 32;refine (C5'.out w6 (K5.out.trans' k6)).mono ?_;rintro e w7 ⟨rfl,k7⟩)
       | (go_at_call 33;refine (full_any w7).mono ?_;rintro e w8 ⟨v,rfl,hf,k8⟩))
      go_ret2
      exact F1.out w7 w8 v ((K5.out.trans' k6).trans' k7) hf k8
   ·simp only [Ending.returned.injEq,Value.tuple.injEq,Array.mk.injEq,List.cons.injEq,and_true] at e
    obtain ⟨rfl,rfl⟩:=e
    have F1:Hid (BldOut B L N room h g R (i:Int) (j:Int) w (.returned (.tuple #[.int .i64 0,v2])) w5):=EE.out top v2 132 k _ w5 hr (.inl ⟨k,c,q1,rfl,rfl,rfl⟩) (q2.from hz4) K5.out
    obtain ⟨fb,rfl, -, -⟩:=q2
    clear EE YY C4 C5 C6 q1 q3 hr
    go_wp2
    go_ret2
    exact F1.out
  ·have C2:Hid (∀ ww,Same0 W0 ww→Calls Tryz.prog 41 #[.pointer (some ⟨h,0,none⟩),.int .i64 node] ww fun e w' => e=.returned (.tuple #[.int .i64 0,nodeV (0,[],0,false,0) none 0,.int .i64 112])∧Same0 ww w'):=fun ww hk=>appl_no (p.same (k0.trans' hk)) node hno
   have EE:Hid (∀ v w', FtAt w.heap.size w' v 132 0 112→Same0 w w' → BldOut B L N room h g R (i:Int) node w (.returned (.tuple #[.int .i64 0,v])) w'):=fun v w' hf hk=>.inl ⟨v,132,0,112,rfl,hf,.inr (.inl ⟨hru,hno,rfl,rfl,rfl⟩),hk⟩
   have K0:Hid (Same0 w W0):=k0
   clear hs p hR h0 hru hno k0
   go_enter Tryz.func16,Tryz.ntmps16
   go_upto_region 1 with fail
   rw [← hW0]
   clear hW0
   go_wp2_with (first
    | (go_at_call 40;refine C1.mono ?_;rintro e w1 ⟨rfl,k1⟩)
    | (go_at_call 41;refine (C2.out w1 k1).mono ?_;rintro e w2 ⟨rfl,k2⟩))
   go_ret2
   have kk:=(K0.out.trans' k1).trans' k2
   refine EE.out _ _ ⟨w2.heap.size+1,rfl,by have:=kk.size;omega,?_⟩ (kk.trans' (((Kept.refl _ _).alloc _).alloc _))
   have:=heap_alloc_new (w2.alloc (.cells #[.int .i64 0,.slice none 0 0,.int .i64 0,.bool false,.int .i64 0] 76)) (.cells #[.int .i64 132,.int .i64 0,.iface 40 (.int .i64 112)] 94)
   simpa [whyV] using this
 ·have C1:=weightG_no (w:=W0) (ro:=ro) (rc:=rc) rule hru io po eo il ic pl pc el ec
  have EE:Hid (∀ v w', FtAt w.heap.size w' v 132 0 91→Same0 w w' → BldOut B L N room h g R rule node w (.returned (.tuple #[.int .i64 0,v])) w'):=fun v w' hf hk=>.inl ⟨v,132,0,91,rfl,hf,.inl ⟨hru,rfl,rfl,rfl⟩,hk⟩
  have K0:Hid (Same0 w W0):=k0
  clear hs p hR h0 hru k0
  go_enter Tryz.func16,Tryz.ntmps16
  go_upto_region 1 with fail
  rw [← hW0]
  clear hW0
  go_wp2_with (first | (go_at_call 40;refine C1.mono ?_;rintro e w1 ⟨rfl,k1⟩))
  go_ret2
  have kk:=K0.out.trans' k1
  exact EE.out _ _ ⟨w1.heap.size,rfl,kk.size,heap_alloc_new w1 _⟩ (kk.trans' ((Kept.refl _ _).alloc _))
end Go.Proofs.YtblgblgchkonhaaGreat
namespace Go.Proofs.YtblgblgchkonhaaGreat
set_option linter.unusedVariables false
theorem ArR.uniq {N:List Nd} {z n u u' : Int} (h:ArR N z n u) (h' : ArR N z n u'):u=u' := by
 rcases h with ⟨i,b,c,hb,hn,e1,e2,e3,e4,rfl⟩ | ⟨rfl,hno⟩
 ·rcases h' with ⟨i', b', c', hb', hn', f1,f2,f3,f4,rfl⟩ | ⟨rfl,hno'⟩
  ·obtain rfl:i=i' := by omega
   obtain rfl:=e2.uniq f2
   obtain rfl:=e4.uniq f4
   rfl
  ·exact absurd ⟨i,b,hb,e1,e2,e3,by omega⟩ hno'
 ·rcases h' with ⟨i', b', c', hb', hn', f1,f2,f3,f4,rfl⟩ | ⟨rfl,hno'⟩
  ·exact absurd ⟨i', b', hb', f1,f2,f3,by omega⟩ hno
  ·rfl
theorem LdR.uniq {N:List Nd}:∀ {p:List Int} {z y y' : Int},LdR N z p y→LdR N z p y' → y=y'
 | [],z,y,y', h,h' => by rw [show y=z from h,show y' = z from h']
 | n :: p,z,y,y', ⟨u,h1,h2⟩,⟨u', h1', h2'⟩=>by
  obtain rfl:=h1.uniq h1'
  exact h2.uniq h2'
theorem PtR.uniq {L:List Sym} {N:List Nd} {z:Int} {p:Int × List Int} {x x' : Tg} {e e' : Int} (h:PtR L N z p x e) (h' : PtR L N z p x' e'):x=x' ∧ e=e' := by
 rcases h with ⟨h1,h2,rfl,rfl⟩ | ⟨h1,rfl,rfl⟩ | ⟨h1,rfl,rfl⟩ | ⟨h1,h2,rfl,rfl⟩ | ⟨h1,y,h2,h3,rfl,rfl⟩ <;>
 rcases h' with ⟨g1,g2,rfl,rfl⟩ | ⟨g1,rfl,rfl⟩ | ⟨g1,rfl,rfl⟩ | ⟨g1,g2,rfl,rfl⟩ | ⟨g1,y', g2,g3,rfl,rfl⟩ <;> first
  | exact ⟨rfl,rfl⟩
  | (exfalso;omega)
  | (exfalso;exact g3 (g2.uniq h2))
  | (exfalso;exact h3 (h2.uniq g2))
  | (obtain rfl:=h2.uniq g2;exact ⟨rfl,rfl⟩)
theorem AllP.uniq {L:List Sym} {N:List Nd} {z:Int} {Q:List (Int × List Int)} {l l' : List Tg} (h:AllP L N z Q l) (h' : AllP L N z Q l'):l=l' := by
 have e1:=h.1
 have e2:=h'.1
 refine List.ext_getElem (by omega) (fun i h1 h2=>((h.2 i (by omega) h1).uniq (h'.2 i (by omega) h2)).1)
theorem AllP.notBad {L:List Sym} {N:List Nd} {z:Int} {Q:List (Int × List Int)} {l:List Tg} {k:Nat} {c:Int} (h:AllP L N z Q l) (h' : BadP L N z Q k c):False:=by
 obtain ⟨hc,l', hk,x,e1,e2,e3⟩:=h'
 exact hc (((h.2 k hk (by have:=h.1;omega)).uniq e3).2).symm
theorem BadP.uniq {L:List Sym} {N:List Nd} {z:Int} {Q:List (Int × List Int)} {k k' : Nat} {c c' : Int} (h:BadP L N z Q k c) (h' : BadP L N z Q k' c'):k=k' ∧ c=c' := by
 obtain ⟨hc,l,hk,x,e1,e2,e3⟩:=h
 obtain ⟨hc', l', hk', x', f1,f2,f3⟩:=h'
 have hkk:k=k' := by
  rcases Nat.lt_trichotomy k k' with q | q | q
  ·exact absurd ((f2 k hk (by omega)).uniq e3).2.symm hc
  ·exact q
  ·exact absurd ((e2 k' hk' (by omega)).uniq f3).2.symm hc'
 subst hkk
 exact ⟨rfl,(e3.uniq f3).2⟩
theorem BdY.uniq {L:List Sym} {N:List Nd} {room:Nat} {R:List (List (Int × List Int))} {rule node:Int} {l l' : List Tg} (h:BdY L N room R rule node l) (h' : BdY L N room R rule node l'):l=l' := by
 obtain ⟨i,j,top,hi,e1,e2,e3,e4,_⟩:=h
 obtain ⟨i', j', top', hi', f1,f2,f3,f4,_⟩:=h'
 obtain rfl:i=i' := by omega
 obtain rfl:j=j' := by omega
 obtain rfl:=e3.uniq f3
 exact e4.uniq f4
theorem BdY.notE {L:List Sym} {N:List Nd} {room:Nat} {R:List (List (Int × List Int))} {rule node:Int} {l:List Tg} {c a y:Int} (h:BdY L N room R rule node l) (h' : BdE L N room R rule node c a y):False:=by
 obtain ⟨i,j,top,hi,e1,e2,e3,e4,e5,e6⟩:=h
 rcases h' with ⟨q,_⟩ | ⟨_,q,_⟩ | ⟨i', j', top', hi', f1,f2,f3,f4⟩
 ·exact q (by omega)
 ·have:=e3.lt.1;exact q (by omega)
 ·obtain rfl:i=i' := by omega
  obtain rfl:j=j' := by omega
  obtain rfl:=e3.uniq f3
  rcases f4 with ⟨k,cc,g1,_⟩ | ⟨l', g1,⟨g2,_⟩ | ⟨_,g2,_⟩⟩
  ·exact e4.notBad g1
  ·obtain rfl:=e4.uniq g1;rw [e5] at g2;cases g2
  ·obtain rfl:=e4.uniq g1;exact g2 e6
theorem BdE.uniq {L:List Sym} {N:List Nd} {room:Nat} {R:List (List (Int × List Int))} {rule node:Int} {c a y c' a' y' : Int} (h:BdE L N room R rule node c a y) (h' : BdE L N room R rule node c' a' y'):c=c' ∧ a=a' ∧ y=y' := by
 rcases h with ⟨q,rfl,rfl,rfl⟩ | ⟨q0,q,rfl,rfl,rfl⟩ | ⟨i,j,top,hi,e1,e2,e3,e4⟩
 ·rcases h' with ⟨p,rfl,rfl,rfl⟩ | ⟨p0,p,_⟩ | ⟨i', j', top', hi', f1,f2,f3,f4⟩
  ·exact ⟨rfl,rfl,rfl⟩
  ·exact absurd p0 q
  ·exact absurd (by omega) q
 ·rcases h' with ⟨p,_⟩ | ⟨p0,p,rfl,rfl,rfl⟩ | ⟨i', j', top', hi', f1,f2,f3,f4⟩
  ·exact absurd q0 p
  ·exact ⟨rfl,rfl,rfl⟩
  ·have:=f3.lt.1;exact absurd (by omega) q
 ·rcases h' with ⟨p,_⟩ | ⟨p0,p,_⟩ | ⟨i', j', top', hi', f1,f2,f3,f4⟩
  ·exact absurd (by omega) p
  ·have:=e3.lt.1;exact absurd (by omega) p
  ·obtain rfl:i=i' := by omega
   obtain rfl:j=j' := by omega
   obtain rfl:=e3.uniq f3
   rcases e4 with ⟨k,cc,g1,rfl,rfl,rfl⟩ | ⟨l,g1,g2⟩
   ·rcases f4 with ⟨k', cc', d1,rfl,rfl,rfl⟩ | ⟨l', d1,_⟩
    ·obtain ⟨rfl,rfl⟩:=g1.uniq d1;exact ⟨rfl,rfl,rfl⟩
    ·exact (d1.notBad g1).elim
   ·rcases f4 with ⟨k', cc', d1,_⟩ | ⟨l', d1,d2⟩
    ·exact (g1.notBad d1).elim
    ·obtain rfl:=g1.uniq d1
     rcases g2 with ⟨g2,rfl,rfl,rfl⟩ | ⟨g2,_,rfl,rfl,rfl⟩ <;> rcases d2 with ⟨d2,rfl,rfl,rfl⟩ | ⟨d2,_,rfl,rfl,rfl⟩
     ·exact ⟨rfl,rfl,rfl⟩
     ·rw [g2] at d2;cases d2
     ·rw [g2] at d2;cases d2
     ·exact ⟨rfl,rfl,rfl⟩
theorem BldOut.yes {B:Nat→Prop} {L:List Sym} {N:List Nd} {room h g:Nat} {R:List (List (Int × List Int))} {rule node:Int} {w w' : World} {e:Ending} {l:List Tg} (hb:BldOut B L N room h g R rule node w e w') (hy:BdY L N room R rule node l) :
  ∃ a:Nat,e=.returned (.tuple #[.int .i64 (a:Int),.nilIface])∧(layF N l).2=[(a:Int)]∧HpB (fun b=>B b∨w.heap.size≤b) w' h g room (layF N l).1∧Kept (fun k=>k=h∨k=g) w w' := by
 rcases hb with ⟨v,c,a,y,_,_,he,_⟩ | ⟨l', a,e1,e2,e3,e4,e5⟩
 ·exact (hy.notE he).elim
 ·obtain rfl:=hy.uniq e2
  exact ⟨a,e1,e3,e4,e5⟩
theorem BldOut.err {B:Nat→Prop} {L:List Sym} {N:List Nd} {room h g:Nat} {R:List (List (Int × List Int))} {rule node:Int} {w w' : World} {e:Ending} {c a y:Int} (hb:BldOut B L N room h g R rule node w e w') (hy:BdE L N room R rule node c a y) :
  ∃ v,e=.returned (.tuple #[.int .i64 0,v])∧FtAt w.heap.size w' v c a y∧Same0 w w' := by
 rcases hb with ⟨v,c', a', y', e1,e2,he,e3⟩ | ⟨l', a', e1,e2,e3,e4,e5⟩
 ·obtain ⟨rfl,rfl,rfl⟩:=hy.uniq he
  exact ⟨v,e1,e2,e3⟩
 ·exact (e2.notE hy).elim
def syl (Q:List (Int × List Int)):List Int:=Q.map (·.1)
theorem syl_len (Q:List (Int × List Int)):(syl Q).length=Q.length:=by simp [syl]
theorem syl_at (Q:List (Int × List Int)) {i:Nat} (h:i<Q.length):(syl Q)[i]'(by rw [syl_len];exact h)=Q[i].1:=by simp [syl]
def AsT (L:List Sym) (t:List Int) (l:List Tg):Prop:=l.map arT=t.map (arN L)
theorem AsT.len {L:List Sym} {t:List Int} {l:List Tg} (h:AsT L t l):l.length=t.length:=by
 have:=congrArg List.length h
 simpa using this
theorem AsT.at {L:List Sym} {t:List Int} {l:List Tg} (h:AsT L t l) {i:Nat} (hl:i<l.length) (ht:i<t.length):arT l[i]=arN L t[i]:=by
 have h' : (l.map arT)[i]? = (t.map (arN L))[i]? := by rw [h]
 simpa [List.getElem?_map,List.getElem?_eq_getElem hl,List.getElem?_eq_getElem ht] using h'
theorem PtR.ar {L:List Sym} {N:List Nd} {z:Int} {p:Int × List Int} {x:Tg} (h:PtR L N z p x 0):arT x=arN L p.1∧p.1<(L.length:Int):=by
 rcases h with ⟨h1,h2,rfl,_⟩ | ⟨_,_,e⟩ | ⟨_,_,e⟩ | ⟨_,_,_,e⟩ | ⟨h1,y,_,_,rfl,_⟩
 ·exact ⟨by simp [arT,tgT],h2⟩
 ·cases e
 ·cases e
 ·cases e
 ·rw [h1];exact ⟨by simp [arT,arN],by omega⟩
theorem AllP.as {L:List Sym} {N:List Nd} {z:Int} {Q:List (Int × List Int)} {l:List Tg} (h:AllP L N z Q l):AsT L (syl Q) l:=by
 refine List.ext_getElem (by simp [syl,h.1]) (fun i h1 h2=>?_)
 simp only [List.getElem_map]
 have hq:i<Q.length:=by simpa [syl] using h2
 have hl:i<l.length:=by simpa using h1
 have:=(h.2 i hq hl).ar.1
 simpa [syl] using this
theorem one_need {L:List Sym}:∀ {t:List Int} {l:List Tg} (k:Nat),AsT L t l→(oneT k l=true ↔ need L k t=some 0)
 | [],[],0,_=>by simp [oneT,need]
 | [],[],k+1,_=>by simp [oneT,need]
 | [],x :: r,k,h=>by simp [AsT] at h
 | y :: t,[],k,h=>by simp [AsT] at h
 | y :: t,x :: r,0,h=>by simp [oneT,need]
 | y :: t,x :: r,k+1,h=>by
  have h1:arT x=arN L y∧AsT L t r:=by simpa [AsT] using h
  have:=one_need (k+arT x) h1.2
  rw [oneT,need,← h1.1]
  exact this
theorem end_need {L:List Sym} {t:List Int}:endO L t 0=some t.length ↔ need L 1 t=some 0:=by
 unfold endO
 rw [List.drop_zero]
 constructor
 ·intro h
  cases hs:scan L 1 t with
  | none=>rw [hs] at h;cases h
  | some n=>
   rw [hs] at h
   have hn:n=t.length:=by simpa using h
   have:=(scan_need hs).2
   rw [hn,List.take_length] at this
   exact this
 ·intro h
  have:=need_scan (b:=[]) h
  rw [List.append_nil] at this
  rw [this];simp
def hdA (N:List Nd) (l:List Tg) (q:Nat):Int:=((layF N (l.drop q)).2).headD 0
theorem lay_stackA {L:List Sym} {t:List Int} {l:List Tg} (h:IsT L t) (hA:AsT L t l) (hO:∀ x∈l,x.1=false→arT x=0) (N:List Nd):∀ (d p k:Nat),p+d=t.length→need L k (t.drop p)=some 0→(layF N (l.drop p)).2=(starts L t k p).map (hdA N l)
 | 0,p,k,hd,hn=>by
  have:=hA.len
  rw [List.drop_of_length_le (by omega)] at hn
  rw [List.drop_of_length_le (by omega)]
  simp [need] at hn
  subst hn
  simp [layF,starts]
 | d+1,p,k,hd,hn=>by
  have hp:p<t.length:=by omega
  have hl:p<l.length:=by have:=hA.len;omega
  have ed:t.drop p=t[p] :: t.drop (p+1):=List.drop_eq_getElem_cons hp
  have el:l.drop p=l[p] :: l.drop (p+1):=List.drop_eq_getElem_cons hl
  rw [ed] at hn
  cases k with
  | zero=>simp [need] at hn
  | succ k=>
   have hn' : need L (k+arN L t[p]) (t.drop (p+1))=some 0:=by simpa [need] using hn
   have ih:=lay_stackA h hA hO N d (p+1) (k+arN L t[p]) (by omega) hn'
   have ea:=hA.at hl hp
   have hh:(layF N (l.drop p)).2=hdA N l p :: (layF N (l.drop p)).2.tail:=by
    unfold hdA
    rw [el]
    cases hx:l[p].1
    ·rw [lay_old N _ hx];rfl
    ·rw [lay_new N _ hx];rfl
   have ht:(layF N (l.drop p)).2.tail=(layF N (l.drop (p+1))).2.drop (arN L t[p]):=by
    rw [el]
    cases hx:l[p].1
    ·have h0:=hO _ (List.getElem_mem hl) hx
     rw [lay_old N _ hx]
     rw [h0] at ea
     simp [← ea]
    ·rw [lay_new N _ hx,← ea];rfl
   rw [hh,ht,ih,Nat.add_comm k,starts_app,end_past h hp,List.map_append,List.drop_left' (by simp [starts_length])]
   rfl
theorem lay_at {L:List Sym} {t:List Int} {l:List Tg} (h:IsT L t) (hA:AsT L t l) (hO:∀ x∈l,x.1=false→arT x=0) (N:List Nd) {p:Nat} (hl:p<l.length) (hp:p<t.length) :
  (l[p].1=false→(layF N (l.drop p)).1=(layF N (l.drop (p+1))).1∧hdA N l p=l[p].2.2.2) ∧
  (l[p].1=true→(layF N (l.drop p)).1=(layF N (l.drop (p+1))).1 ++ [(l[p].2.1,(starts L t (arN L t[p]) (p+1)).map (hdA N l),0,false,0)]∧hdA N l p=((layF N (l.drop (p+1))).1.length:Int)):=by
 have el:l.drop p=l[p] :: l.drop (p+1):=List.drop_eq_getElem_cons hl
 obtain ⟨k,hk⟩:=isT_need h hp
 rw [List.drop_eq_getElem_cons hp] at hk
 have hn' : need L (k+arN L t[p]) (t.drop (p+1))=some 0:=by simpa [need] using hk
 have st:=lay_stackA h hA hO N (t.length-(p+1)) (p+1) (k+arN L t[p]) (by omega) hn'
 constructor
 ·intro hx
  unfold hdA
  rw [el,lay_old N _ hx]
  exact ⟨rfl,rfl⟩
 ·intro hx
  have e2:(layF N (l.drop (p+1))).2.take (arT l[p])=(starts L t (arN L t[p]) (p+1)).map (hdA N l):=by
   rw [st,hA.at hl hp,Nat.add_comm k,starts_app,List.map_append,List.take_left' (by simp [starts_length])]
  constructor
  ·rw [el,lay_new N _ hx,e2]
  ·unfold hdA
   rw [el,lay_new N _ hx];rfl
theorem one_short:∀ {l:List Tg} {k:Nat},oneT k l=true→(∀ x∈l,(x.1=false→arT x=0)∧arT x≤6)→l.length≤k+6 * newN l
 | [],k,h,_=>by simp
 | x :: r,0,h,_=>by simp [oneT] at h
 | x :: r,k+1,h,ho=>by
  have ih:=one_short (l:=r) (k:=k+arT x) (by simpa [oneT] using h) (fun y hy=>ho y (List.mem_cons_of_mem _ hy))
  have hx:=ho x (List.mem_cons_self ..)
  cases hb:x.1
  ·have:=hx.1 hb
   have e:newN (x :: r)=newN r:=by simp [newN,hb]
   rw [e,List.length_cons];omega
  ·have e:newN (x :: r)=newN r+1:=by simp [newN,hb]
   rw [e,List.length_cons];omega
theorem LdR.app {N:List Nd}:∀ {p q:List Int} {z y u:Int},LdR N z p y→LdR N y q u→LdR N z (p++q) u
 | [],q,z,y,u,h,h2=>by cases h;exact h2
 | m :: p,q,z,y,u,⟨v,h1,h2⟩,h3=>⟨v,h1,h2.app h3⟩
theorem ar_dead (N:List Nd) (n:Int):ArR N (-1) n (-1):=.inr ⟨rfl,fun ⟨i,b,hb,e,_⟩=>by omega⟩
theorem ld_dead (N:List Nd):∀ q:List Int,LdR N (-1) q (-1)
 | []=>rfl
 | n :: q=>⟨-1,ar_dead N n,ld_dead N q⟩
theorem Ind.more {N M:List Nd}:∀ {k a b:Nat},Ind N k a b→Ind (N++M) k a b
 | 0,a,b,h=>h
 | k+1,a,b,⟨h,h1,h2⟩=>by
  refine ⟨by rw [List.length_append];omega,?_,?_⟩
  ·rw [List.getElem_append_left h];exact h1
  ·rw [List.getElem_append_left h];exact Ind.more h2
theorem Res.more {N:List Nd} (M:List Nd) {a b:Nat} (h:Res N a b):Res (N++M) a b:=by
 obtain ⟨⟨k,h1⟩,hb,h2⟩:=h
 exact ⟨⟨k,h1.more⟩,by rw [List.length_append];omega,by rw [List.getElem_append_left hb];exact h2⟩
theorem LdR.more {N:List Nd} (M:List Nd):∀ {p:List Int} {z y:Int},LdR N z p y→y ≠ -1→LdR (N++M) z p y
 | [],z,y,h,_=>h
 | n :: p,z,y,⟨u,h1,h2⟩,hy=>by
  rcases h1 with ⟨i,b,c,hb,hn,e1,e2,e3,e4,e5⟩ | ⟨e,_⟩
  ·refine ⟨u,.inl ⟨i,b,c,by rw [List.length_append];omega,?_,e1,e2.more M,e3,?_,e5⟩,h2.more M hy⟩
   ·rw [List.getElem_append_left hb];exact hn
   ·simp only [List.getElem_append_left hb];exact e4.more M
  ·subst e
   exact absurd (LdR.uniq h2 (ld_dead N p)) hy
end Go.Proofs.YtblgblgchkonhaaGreat
