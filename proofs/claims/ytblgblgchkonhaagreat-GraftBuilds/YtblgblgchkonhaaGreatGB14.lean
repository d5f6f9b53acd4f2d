import Derived.Test.YtblgblgchkonhaaGreatGB13
import Derived.Test.YtblgblgchkonhaaGreatGB12
namespace Go.Proofs.YtblgblgchkonhaaGreat
set_option maxRecDepth 100000
set_option linter.unusedVariables false
open Go.RowKit
attribute [local go_sem ↓] Go.wp_at_zero Go.wp_at_succ
set_option maxHeartbeats 8000000 in
theorem gbuilds_walk {w:World} {ao:Option Addr} {len cap:Nat} {xs:List Sym} (hx:SymsAt w ao len xs) (hm:len≤maxLen) (room:Int) {lo:Option Addr} {lc:Nat} {l:List Nd} (hl:NsW w lo l) (hls:l.length * 56≤140737488351232) {ro:Option Addr} {rc:Nat} {R:List (List (Int × List Int))} (hR:RtS w ro R) (hRm:R.length * 24≤140737488351232) {qo:Option Addr} {qc:Nat} {T:List (Int × Int)} (hT:TrAt w qo T) (hTm:T.length≤maxLen) :
  Calls Tryz.prog 4 #[.slice ao len cap,.int .i64 room,.slice lo l.length lc,.slice ro R.length rc,.slice qo T.length qc] w fun e w' => e=.returned (.bool true)∧Below w.heap.size w w' := by
 have CA:=awake13_any w
 have HB:Hid (∀ w', Same0 w w' → Below w.heap.size w w'):=fun w' hk=>hk.below
 have CS:Hid (∀ ww,Same0 w ww→Calls Tryz.prog 6 #[.slice ao len cap] ww fun e w' => ∃ b rv,e=.returned (.tuple #[.pointer (some ⟨b,0,none⟩),rv])∧Sg w'.heap.size w' b (madeL xs)∧Rl w'.heap.size w' rv (madeL xs)∧Same0 ww w'):=fun ww hk=>sign_any ao len cap xs ww (hx.kept hk.below) hm
 have HL:Hid (∀ ww,Same0 w ww→NsW ww lo l):=fun ww hk=>hl.same hk
 have HQ:Hid (∀ ww,Same0 w ww→TrAt ww qo T):=fun ww hk=>hT.same hk
 have HR:Hid (RtS w ro R):=hR
 have HRM:Hid (R.length * 24≤140737488351232):=hRm
 generalize madeL xs=L at *
 unfold maxLen at hTm
 clear hx hl hT hR hRm
 go_enter Tryz.func4,Tryz.ntmps4
 go_upto_region 3 with (first
  | (go_at_call 5;refine CA.mono ?_;rintro e wa ⟨rfl,ka⟩)
  | (go_at_call 6;refine (CS.out wa ka).mono ?_;rintro e w2 ⟨sb,rv,rfl,hs,hr,k2⟩))
 have K2:Hid (Same0 w w2):=ka.trans' k2
 have SG:Hid (Sg w2.heap.size w2 sb L):=hs
 have RL:Hid (Rl w2.heap.size w2 rv L):=hr
 have CM:=made13r_any room (ac:=lc) (HL.out w2 K2.out) (by unfold maxLen;omega)
 clear CA CS hs hr ka k2 HL
 go_upto_region 4 with (first | (go_at_call 7;refine CM.mono ?_;rintro e w3 ⟨v1,v2,rfl,hq⟩))
 rcases hq with ⟨e,k3⟩ | ⟨rm,h,g,r,v,e,md⟩
 ·simp only [Ending.returned.injEq,Value.tuple.injEq,Array.mk.injEq,List.cons.injEq,and_true] at e
  obtain ⟨rfl,rfl⟩:=e
  clear CM
  go_wp2
  go_ret
  exact ⟨rfl,HB.out _ (K2.out.trans' k3)⟩
 ·simp only [Ending.returned.injEq,Value.tuple.injEq,Array.mk.injEq,List.cons.injEq,and_true] at e
  obtain ⟨rfl,rfl⟩:=e
  have Q3:Hid (GLW (fun _=>True) w2.heap.size sb rv L h g r rm v l l w3):=⟨SG.out.same md.same,RL.out.same md.same,md.hp.mono (fun _ _ _ _=>trivial),md.rh.monoG (fun _ _ _=>trivial),md.nr,fun k e=>⟨(md.lv k e).1,(md.lv k e).2.2.1,(md.lv k e).2.1,(md.lv k e).2.2.2⟩,md.lh,md.lg,md.lr⟩
  have K3:Hid (Same0 w w3):=K2.out.trans' md.same
  have hz2:Hid (w.heap.size≤w2.heap.size∧w2.heap.size≤w3.heap.size):=⟨K2.out.size,md.same.size⟩
  have CC:=code13_any (rc:=rc) (HR.out.same K3.out) HRM.out
  clear CM md SG RL K2
  generalize w2.heap.size=n0 at *
  go_upto_region 7 with (first | (go_at_call 15;refine CC.mono ?_;rintro e w4 ⟨vC,b,rfl,hrr,k4⟩;obtain ⟨uo,uc,rfl⟩:=hrr.shape))
  obtain ⟨X4,hX4⟩:∃ X4,X4=w4.alloc (.cells #[.slice none 0 0,.slice none 0 0,.slice none 0 0,.slice uo R.length uc] 58):=⟨_,rfl⟩
  rw [← hX4]
  have j4:Same0 w4 X4:=by rw [hX4];exact (Kept.refl _ _).alloc _
  have b4:X4.heap[w4.heap.size]? = some (.cells #[.slice none 0 0,.slice none 0 0,.slice none 0 0,.slice uo R.length uc] 58 (0,0)):=by rw [hX4];exact heap_alloc_new _ _
  have z4:X4.heap.size=w4.heap.size+1:=by rw [hX4];simp
  have kX:Same0 w3 X4:=k4.trans' j4
  have QB:Hid (GBM n0 w3.heap.size X4.heap.size sb rv L h g r rm X4):=by
   have q:=Q3.out
   refine ⟨v,l,((q.mono (B' := fun b=>b<w3.heap.size) (fun k hk _=>hk)).same kX).mono (fun k _ hb=>.inl hb),fun k e=>.inl (q.rh.row.block e).2.1,⟨q.hp.ltH,q.hp.ltG,q.rh.lt⟩,?_,Nat.le_refl _⟩
   have:=hz2.out;have:=kX.size;omega
  have HCX:Hid (∀ ww,Kept (fun z=>z<w3.heap.size∨X4.heap.size≤z) X4 ww→RRw (w3.heap.size+1) w4.heap.size ww (.slice uo R.length uc) R R.length b∧ww.heap[w4.heap.size]? = some (.cells #[.slice none 0 0,.slice none 0 0,.slice none 0 0,.slice uo R.length uc] 58 (0,0))):=fun ww hk=>⟨(hrr.kept j4 (fun _ _ _ f=>f)).kept hk (fun k a c e=>by omega),hk.at b4 (fun e=>by have:=k4.size;omega)⟩
  have KX:Hid (Same0 w X4):=K3.out.trans' kX
  have K40:Hid (Kept (fun z=>z<w3.heap.size∨X4.heap.size≤z) X4 X4):=Kept.refl _ _
  have hzz:Hid (w.heap.size≤n0∧n0≤w3.heap.size∧w3.heap.size≤w4.heap.size∧X4.heap.size=w4.heap.size+1):=⟨hz2.out.1,hz2.out.2,k4.size,z4⟩
  clear CC hrr k4 j4 b4 z4 kX hX4 Q3 K3 hz2
  generalize w3.heap.size=n1 at *
  generalize hn2:X4.heap.size=n2 at *
  clear hn2
  generalize w4.heap.size=bx at *
  go_upto_region 8 with fail
  go_loopw [17] (fun s17 wr=>∃ i:Nat,i≤T.length∧s17=.int .i64 (i:Int)∧Hid (GBM n0 n1 n2 sb rv L h g r rm wr)∧Hid (Kept (fun z=>z<n1∨n2≤z) X4 wr)∧Hid (Same0 w wr)) (fun s17 _=>T.length-(intOf s17).toNat)
  case atStart=>exact ⟨0,Nat.zero_le _,rfl,QB,K40,KX⟩
  case round=>
   clear QB K40 KX
   obtain ⟨i,hiT,rfl,QI,KC,KI⟩:=hrel
   by_cases hlt:i<T.length
   ·obtain ⟨tb,toff,rfl,htb,htc⟩:=(HQ.out w (Kept.refl _ _)).resolve_left (fun e=>by rw [e] at hlt;simp at hlt)
    obtain ⟨t0,t1⟩:=htc i hlt
    have i1:(0:Int)≤(i:Int):=by omega
    have i2:(i:Int)<(T.length:Int):=by omega
    obtain ⟨v5,N,q⟩:=QI.out
    have SC:Hid (∀ ww,Kept (fun z=>z<n1∨n2≤z) X4 ww→Same0 w ww→(ww.cell? ⟨bx,0,none⟩=some (.slice none 0 0)∧ww.cell? ⟨bx,1,none⟩=some (.slice none 0 0)∧ww.cell? ⟨bx,2,none⟩=some (.slice none 0 0)∧ww.cell? ⟨bx,3,none⟩=some (.slice uo R.length uc))∧ww.cell? ⟨tb,toff+i * 2,none⟩=some (.int .i64 T[i].1)∧ww.cell? ⟨tb,toff+i * 2+1,none⟩=some (.int .i64 T[i].2)):=fun ww hk hs=>⟨boxT4 (HCX.out ww hk).2,(hs.cell (p:=⟨tb,toff+i * 2,none⟩) htb (fun f=>f)).trans t0,(hs.cell (p:=⟨tb,toff+i * 2+1,none⟩) htb (fun f=>f)).trans t1⟩
    have HST:Hid (∀ ww,Kept (fun k=>k=h∨k=g) wr ww→Kept (fun z=>z<n1∨n2≤z) X4 ww∧Same0 w ww):=fun ww hk=>by
     have hl:=q.low
     have hg:=q.glw.lo
     have hz:=hzz.out
     exact ⟨KC.out.trans hk (fun z _ e=>by omega),KI.out.trans hk (fun z hz2 e=>by omega)⟩
    have CB:Hid (∀ ww,Same0 wr ww→Calls Tryz.prog 16 #[.pointer (some ⟨sb,0,none⟩),.agg #[.slice none 0 0,.slice none 0 0,.slice none 0 0,.slice uo R.length uc],.pointer (some ⟨h,0,none⟩),.int .i64 T[i].1,.int .i64 T[i].2] ww fun e w' => ∃ a v2,e=.returned (.tuple #[.int .i64 a,v2])∧Hid (BdP n0 n1 n2 sb rv L h g r rm v5 N R T[i].1 T[i].2 a v2 w')∧Kept (fun k=>k=h∨k=g) wr w'):=fun ww hk=>(bd_call (rule:=T[i].1) (node:=T[i].2) (rc:=uc) (q.same hk) (((HCX.out ww (KC.out.trans hk (fun _ _ f=>f.elim))).1).rt HR.out)).mono (fun e w' ⟨a,v2,e1,e2,e3⟩=>⟨a,v2,e1,e2,(Kept.mono hk (fun _ _ f=>f.elim)).trans e3 (fun _ _ e=>e)⟩)
    have CR:Hid (∀ ww a v2,BdP n0 n1 n2 sb rv L h g r rm v5 N R T[i].1 T[i].2 a v2 ww→Same0 w ww→Kept (fun z=>z<n1∨n2≤z) X4 ww→Calls Tryz.prog 17 #[rv,.agg #[.slice none 0 0,.slice none 0 0,.slice none 0 0,.slice ro R.length rc],.pointer (some ⟨r,0,none⟩),.int .i64 T[i].1,.int .i64 T[i].2] ww fun e w' => ∃ c aa y,e=.returned (.tuple #[.int .i64 a,.agg #[.int .i64 c,.int .i64 aa,.int .i64 y,.bool false,.int .i64 0,.int .i64 0]])∧Hid (FtX n2 w' v2 c aa y∧GBM n0 n1 n2 sb rv L h g r rm w')∧Kept (fun z=>z<n1∨n2≤z) X4 w' ∧ Same0 w w' ∧ Kept (fun z=>z<wr.heap.size) ww w'):=fun ww a v2 p hs hk=>(rbd_call (rc:=rc) p HR.out (by have:=HRM.out;unfold maxLen;omega) hs hzz.out.1).mono (fun e w' ⟨c,aa,y,e1,e2,e3⟩=>by
     have hl:=q.low
     have hg:=q.glw.lo
     have hz:=hzz.out
     refine ⟨c,aa,y,e1,e2,hk.trans e3 (fun z _ e=>?_),hs.trans e3 (fun z hz2 e=>?_),e3.mono (fun z _ e=>?_)⟩
     ·rcases e with e | e
      ·omega
      ·exact q.ownX z e
     ·rcases e with e | e
      ·omega
      ·have:=(q.glw.own z e).1;omega
     ·rcases e with e | e
      ·have:=q.glw.rh.lt;omega
      ·exact (q.glw.rh.row.block e).2.1)
    have KA:Hid (Same0 wr wr.drew):=(Kept.refl _ wr).drew
    have cc0:=SC.out wr.drew KC.out.drew KI.out.drew
    clear QI KC KI q htb htc t0 t1
    generalize T[i].1=ru at *
    generalize T[i].2=nd at *
    go_upto_region 10 with fail
    go_region_held3 (fun ww=>(ww.cell? ⟨bx,0,none⟩=some (.slice none 0 0)∧ww.cell? ⟨bx,1,none⟩=some (.slice none 0 0)∧ww.cell? ⟨bx,2,none⟩=some (.slice none 0 0)∧ww.cell? ⟨bx,3,none⟩=some (.slice uo R.length uc))∧ww.cell? ⟨tb,toff+i * 2,none⟩=some (.int .i64 ru)∧ww.cell? ⟨tb,toff+i * 2+1,none⟩=some (.int .i64 nd)) (with_reducible first | exact cc0 | exact cc1) (first
     | (go_at_call 16;refine (CB.out _ KA.out).mono ?_;rintro e w5 ⟨a,v2,rfl,p5,k5⟩;have cc1:=SC.out w5 (HST.out w5 k5).1 (HST.out w5 k5).2))
    obtain ⟨kc5,ks5⟩:=HST.out w5 k5
    have HP5:Hid (∀ ww,Same0 w5 ww→BdP n0 n1 n2 sb rv L h g r rm v5 N R ru nd a v2 ww∧Same0 w ww∧Kept (fun z=>z<n1∨n2≤z) X4 ww):=fun ww hk=>⟨p5.out.same hk,ks5.trans' hk,kc5.trans hk (fun _ _ f=>f.elim)⟩
    have SC5:Hid (∀ ww,Kept (fun z=>z<n1∨n2≤z) X4 ww→Same0 w ww→ww.cell? ⟨tb,toff+i * 2,none⟩=some (.int .i64 ru)∧ww.cell? ⟨tb,toff+i * 2+1,none⟩=some (.int .i64 nd)):=fun ww a b=>(SC.out ww a b).2
    have dd0:=SC5.out w5.drew kc5.drew ks5.drew
    have HZ5:Hid (wr.heap.size≤w5.heap.size):=k5.size
    have HZN:Hid (n2≤w5.heap.size):=by show _≤_;rcases p5.out with ⟨_,_,_,_,q⟩ | ⟨_,_,_,_,_,_,q⟩ <;> exact q.size.2
    have HZW:Hid (w.heap.size≤w5.heap.size):=ks5.size
    clear CB HST cc0 cc1 KA SC p5 k5 kc5 ks5
    go_upto_region 11 with fail
    go_cut [20,21] (fun s20 s21 wc=>∃ (c aa y:Int) (b5:Nat),s20=.int .i64 a∧s21=.pointer (some ⟨b5,0,none⟩)∧Hid (wc.heap[b5]? = some (.cells #[.int .i64 c,.int .i64 aa,.int .i64 y,.bool false,.int .i64 0,.int .i64 0] 42 (0,0))∧FtX n2 wc v2 c aa y∧GBM n0 n1 n2 sb rv L h g r rm wc∧Kept (fun z=>z<n1∨n2≤z) X4 wc∧Same0 w wc))
    case first=>
     have CR5:Hid (∀ ww,Same0 w5 ww→Calls Tryz.prog 17 #[rv,.agg #[.slice none 0 0,.slice none 0 0,.slice none 0 0,.slice ro R.length rc],.pointer (some ⟨r,0,none⟩),.int .i64 ru,.int .i64 nd] ww fun e w' => ∃ c aa y,e=.returned (.tuple #[.int .i64 a,.agg #[.int .i64 c,.int .i64 aa,.int .i64 y,.bool false,.int .i64 0,.int .i64 0]])∧Hid (FtX n2 w' v2 c aa y∧GBM n0 n1 n2 sb rv L h g r rm w')∧Kept (fun z=>z<n1∨n2≤z) X4 w' ∧ Same0 w w' ∧ Kept (fun z=>z<w5.heap.size) ww w'):=fun ww hk=>(CR.out ww a v2 (HP5.out ww hk).1 (HP5.out ww hk).2.1 (HP5.out ww hk).2.2).mono (fun e w' ⟨c,aa,y,e1,e2,e3,e4,e5⟩=>⟨c,aa,y,e1,e2,e3,e4,e5.mono (fun z _ e=>Nat.lt_of_lt_of_le e HZ5.out)⟩)
     have HA6:Hid (∀ w6 c aa y,FtX n2 w6 v2 c aa y→GBM n0 n1 n2 sb rv L h g r rm w6→Kept (fun z=>z<n1∨n2≤z) X4 w6→Same0 w w6→∃ WW,WW=w6.alloc (.cells #[.int .i64 c,.int .i64 aa,.int .i64 y,.bool false,.int .i64 0,.int .i64 0] 42)∧(WW.cell? ⟨tb,toff+i * 2,none⟩=some (.int .i64 ru)∧WW.cell? ⟨tb,toff+i * 2+1,none⟩=some (.int .i64 nd))∧Hid (∃ (c' aa' y' : Int) (b5:Nat),Value.pointer (some ⟨w6.heap.size,0,none⟩)=.pointer (some ⟨b5,0,none⟩)∧Hid (WW.heap[b5]? = some (.cells #[.int .i64 c', .int .i64 aa', .int .i64 y', .bool false,.int .i64 0,.int .i64 0] 42 (0,0))∧FtX n2 WW v2 c' aa' y' ∧ GBM n0 n1 n2 sb rv L h g r rm WW∧Kept (fun z=>z<n1∨n2≤z) X4 WW∧Same0 w WW))):=fun w6 c aa y f6 q6 kc6 ks6=>⟨_,rfl,SC5.out _ (kc6.alloc _) (ks6.alloc _),c,aa,y,w6.heap.size,rfl,heap_alloc_new _ _,f6.same ((Kept.refl _ _).alloc _),q6.same ((Kept.refl _ _).alloc _),kc6.alloc _,ks6.alloc _⟩
     have HA7:Hid (∀ w6 c aa y,FtX n2 w6 v2 c aa y→GBM n0 n1 n2 sb rv L h g r rm w6→Kept (fun z=>z<n1∨n2≤z) X4 w6→Same0 w w6→w6.heap[w5.heap.size]? = some (.cells #[.int .i64 0,.int .i64 0,.int .i64 0,.bool false,.int .i64 0,.int .i64 0] 42 (0,0))→∃ WW,WW=put6 w6 w5.heap.size (.int .i64 c) (.int .i64 aa) (.int .i64 y) (.bool false) (.int .i64 0) (.int .i64 0)∧(WW.cell? ⟨tb,toff+i * 2,none⟩=some (.int .i64 ru)∧WW.cell? ⟨tb,toff+i * 2+1,none⟩=some (.int .i64 nd))∧Hid (∃ (c' aa' y' : Int) (b5:Nat),Value.pointer (some ⟨w5.heap.size,0,none⟩)=.pointer (some ⟨b5,0,none⟩)∧Hid (WW.heap[b5]? = some (.cells #[.int .i64 c', .int .i64 aa', .int .i64 y', .bool false,.int .i64 0,.int .i64 0] 42 (0,0))∧FtX n2 WW v2 c' aa' y' ∧ GBM n0 n1 n2 sb rv L h g r rm WW∧Kept (fun z=>z<n1∨n2≤z) X4 WW∧Same0 w WW))):=fun w6 c aa y f6 q6 kc6 ks6 h6=>by
      have KP:=put6_kept w6 w5.heap.size (.int .i64 c) (.int .i64 aa) (.int .i64 y) (.bool false) (.int .i64 0) (.int .i64 0)
      have hz5:=HZN.out
      have hw5:=HZW.out
      have kc7:Kept (fun z=>z<n1∨n2≤z) X4 (put6 w6 w5.heap.size (.int .i64 c) (.int .i64 aa) (.int .i64 y) (.bool false) (.int .i64 0) (.int .i64 0)):=kc6.trans KP (fun z _ (e:z=w5.heap.size)=>by omega)
      have ks7:Same0 w (put6 w6 w5.heap.size (.int .i64 c) (.int .i64 aa) (.int .i64 y) (.bool false) (.int .i64 0) (.int .i64 0)):=ks6.trans KP (fun z hz (e:z=w5.heap.size)=>by omega)
      have hbz:∀ z,z=w5.heap.size→n2≤z∧∃ cs,w6.heap[z]? = some (.cells cs 42 (0,0)):=fun z e=>by
       subst e
       exact ⟨hz5,_,h6⟩
      obtain ⟨v', N', q'⟩:=q6
      exact ⟨_,rfl,SC5.out _ kc7 ks7,c,aa,y,w5.heap.size,rfl,put6_at h6,f6.boxes KP (fun z e=>(hbz z e).2),⟨v', N', q'.boxes KP hbz⟩,kc7,ks7⟩
     have HZZ:Hid (∀ w6,Kept (fun z=>z<w5.heap.size) (w5.alloc (.cells #[.int .i64 0,.int .i64 0,.int .i64 0,.bool false,.int .i64 0,.int .i64 0] 42)).drew w6→w6.heap[w5.heap.size]? = some (.cells #[.int .i64 0,.int .i64 0,.int .i64 0,.bool false,.int .i64 0,.int .i64 0] 42 (0,0))):=fun w6 hk=>hk.at (heap_alloc_new _ _) (fun e=>by omega)
     have dd9:=SC5.out _ (Kept.alloc (HP5.out w5 (Kept.refl _ _)).2.2 (.cells #[.int .i64 0,.int .i64 0,.int .i64 0,.bool false,.int .i64 0,.int .i64 0] 42)) (Kept.alloc (HP5.out w5 (Kept.refl _ _)).2.1 (.cells #[.int .i64 0,.int .i64 0,.int .i64 0,.bool false,.int .i64 0,.int .i64 0] 42))
     have dd8:=SC5.out _ (Kept.drew (Kept.alloc (HP5.out w5 (Kept.refl _ _)).2.2 (.cells #[.int .i64 0,.int .i64 0,.int .i64 0,.bool false,.int .i64 0,.int .i64 0] 42))) (Kept.drew (Kept.alloc (HP5.out w5 (Kept.refl _ _)).2.1 (.cells #[.int .i64 0,.int .i64 0,.int .i64 0,.bool false,.int .i64 0,.int .i64 0] 42)))
     have dd7:=SC5.out _ (Kept.alloc (Kept.drew (HP5.out w5 (Kept.refl _ _)).2.2) (.cells #[.int .i64 0,.int .i64 0,.int .i64 0,.bool false,.int .i64 0,.int .i64 0] 42)) (Kept.alloc (Kept.drew (HP5.out w5 (Kept.refl _ _)).2.1) (.cells #[.int .i64 0,.int .i64 0,.int .i64 0,.bool false,.int .i64 0,.int .i64 0] 42))
     go_region_held3 (fun ww=>ww.cell? ⟨tb,toff+i * 2,none⟩=some (.int .i64 ru)∧ww.cell? ⟨tb,toff+i * 2+1,none⟩=some (.int .i64 nd)) (with_reducible first | exact dd0 | exact dd9 | exact dd8 | exact dd7 | exact dd1 | exact dd2 | exact dd3) (first
      | (go_at_call 17;refine (CR5.out _ (by with_reducible exact (Kept.refl _ w5).drew)).mono ?_;rintro e w6 ⟨c,aa,y,rfl,f6,kc6,ks6, -⟩;have dd1:=SC5.out w6 kc6 ks6;have dd2:=SC5.out _ (Kept.alloc kc6 (.cells #[.int .i64 0,.int .i64 0,.int .i64 0,.bool false,.int .i64 0,.int .i64 0] 42)) (Kept.alloc ks6 (.cells #[.int .i64 0,.int .i64 0,.int .i64 0,.bool false,.int .i64 0,.int .i64 0] 42));obtain ⟨WW,hWW,dd3,RR⟩:=HA6.out w6 c aa y f6.out.1 f6.out.2 kc6 ks6;rw [hWW] at dd3)
      | (go_at_call 17;refine (CR5.out _ (by with_reducible exact ((Kept.refl _ w5).alloc _).drew)).mono ?_;rintro e w6 ⟨c,aa,y,rfl,f6,kc6,ks6,kz6⟩;have dd1:=SC5.out w6 kc6 ks6;have h6:=HZZ.out w6 kz6;obtain ⟨WW,hWW,dd3,RR⟩:=HA7.out w6 c aa y f6.out.1 f6.out.2 kc6 ks6 h6;rw [hWW] at dd3;unfold put6 at dd3 hWW;obtain ⟨⟨b0,b1,b2,b3,b4,b5⟩,g0,g1,g2,g3,g4,g5⟩:=boxF6 h6))
     all_goals
      go_wp2_with fail
      go_meet
      subst hWW
      obtain ⟨c', aa', y', b', e', hh⟩:=RR.out
      exact ⟨c', aa', y', b', rfl,e', hh⟩
    case rest=>
     obtain ⟨c,aa,y,b5,rfl,rfl,HH⟩:=hcut
     have C3:=flt_callX HH.out.2.1
     clear dd0 CR HP5 SC5 HZ5 HZN HZW
     go_upto_region 13 with (first | (go_at_call 11;refine C3.mono ?_;rintro e w7 ⟨rfl,k7⟩;simp only [fltV]))
     obtain ⟨n5,F5,⟨v', N', Q5⟩,KC5,KS5⟩:=HH.out
     have hfb:∀ k,FB v2 k→n2≤k∧∃ cs,wc.heap[k]? = some (.cells cs 94 (0,0)):=fun k e=>F5.fb e
     have Q7:=Q5.faults k7 hfb
     have KC7:Kept (fun z=>z<n1∨n2≤z) X4 w7:=KC5.trans k7 (fun z _ e=>.inr (hfb z e).1)
     have KS7:Same0 w w7:=KS5.trans k7 (fun z hz e=>by have:=(hfb z e).1;have:=Q5.size;have:=hzz.out;omega)
     have n7:w7.heap[b5]? = some (.cells #[.int .i64 c,.int .i64 aa,.int .i64 y,.bool false,.int .i64 0,.int .i64 0] 42 (0,0)):=k7.at n5 (fun s=>by
      obtain ⟨_,cs,e2⟩:=hfb b5 s
      rw [n5] at e2;cases e2)
     obtain ⟨X7,hX7⟩:∃ X7,X7=w7.alloc (.cells #[.int .i64 c,.int .i64 aa,.int .i64 y,.bool false,.int .i64 0,.int .i64 0] 42):=⟨_,rfl⟩
     rw [← hX7]
     have j7:Same0 w7 X7:=by rw [hX7];exact (Kept.refl _ _).alloc _
     have m7:X7.heap[w7.heap.size]? = some (.cells #[.int .i64 c,.int .i64 aa,.int .i64 y,.bool false,.int .i64 0,.int .i64 0] 42 (0,0)):=by rw [hX7];exact heap_alloc_new _ _
     have QX:Hid (GBM n0 n1 n2 sb rv L h g r rm X7):=⟨v', N', Q7.same j7⟩
     have KCX:Hid (Kept (fun z=>z<n1∨n2≤z) X4 X7):=KC7.trans j7 (fun _ _ f=>f.elim)
     have KSX:Hid (Same0 w X7):=KS7.trans' j7
     obtain ⟨⟨p0,p1,p2,p3,p4,p5⟩, -⟩:=boxF6 (j7.at0 n7)
     obtain ⟨⟨q0,q1,q2,q3,q4,q5⟩, -⟩:=boxF6 m7
     have f1:=neq_fltX c aa y
     clear hX7 j7 m7 n7 KS7 KC7 Q7 hfb n5 F5 Q5 KC5 KS5 HH C3 k7
     generalize w7.heap.size=b7 at *
     go_wp2_with fail
     refine ⟨⟨i+1,by omega,by go_num,QX,KCX,KSX⟩,by simp [intOf];omega⟩
   ·obtain rfl:i=T.length:=by omega
    obtain ⟨v5,N,q⟩:=QI.out
    obtain ⟨hrr,hbx⟩:=HCX.out wr KC.out
    obtain ⟨x0,x1,x2,x3⟩:=boxT4 hbx
    have CB:=back13_any (rc:=rc) (qc:=uc) hrr HR.out KI.out (by have:=hzz.out;omega) (by have:=hzz.out;have:=q.size;omega) HRM.out
    have HNX:Hid (∀ w5,Kept (fun z=>n1+1≤z∧z<bx∧IsN wr z) wr w5→Same0 w w5∧GLW (fun b=>b<n1∨n2≤b) n0 sb rv L h g r rm v5 N N w5):=fun w5 hk=>by
     have hz:=hzz.out
     have hl:=q.low
     refine ⟨KI.out.trans hk (fun z hz e=>by omega),q.glw.kept hk (fun k hk' s=>by omega) ⟨fun s=>by omega,fun s=>by omega,fun s=>by omega⟩ (fun k e s=>by have:=q.ownX k e;omega) (fun k hb s=>by omega)⟩
    clear QI KC KI hrr hbx q
    go_upto_region 16 with (first | (go_at_call 18;refine CB.mono ?_;rintro e w5 ⟨rfl,k5⟩))
    obtain ⟨s5,q5⟩:=HNX.out w5 k5
    have CT:=told13_any (q5.hp.mono (fun _ _ _ _=>trivial))
    have HN4:Hid (N.length≤maxLen):=by show _≤_;have:=q5.rh.le;have:=q5.rh.rm2;unfold maxLen;omega
    have QR:Hid (RhB (fun b=>b<n1∨n2≤b) w5 r rm v5 N):=q5.rh
    have KI:Hid (Same0 w w5):=s5
    obtain ⟨vo2,vc2,rfl⟩:=q5.rh.row.shape
    clear CB HNX k5 s5 q5 x0 x1 x2 x3
    go_upto_region 17 with (first | (go_at_call 13;refine CT.mono ?_;rintro e w6 ⟨v6,rfl,hrow,k6⟩;obtain ⟨vo,vc,rfl⟩:=hrow.shape))
    have r5:=QR.out.same k6
    obtain ⟨c0,c1⟩:=r5.cells
    have CN:Calls Tryz.prog 14 #[.slice vo N.length vc,.slice vo2 N.length vc2] w6 fun e w' => e=.returned (.bool true)∧Same0 w6 w' := by
     have:=sameNodes_any (ac:=vc) (bc:=vc2) hrow.mem.weak r5.row.mem.weak HN4.out
     rw [eqL_self] at this
     exact this
    have K6:Hid (Same0 w w6):=KI.out.trans' k6
    clear CT hrow k6 r5 QR HN4 KI
    go_wp2_with (first | (go_at_call 14;refine CN.mono ?_;rintro e w7 ⟨rfl,k7⟩))
    go_ret
    exact ⟨rfl,HB.out _ (K6.out.trans' k7)⟩
end Go.Proofs.YtblgblgchkonhaaGreat
