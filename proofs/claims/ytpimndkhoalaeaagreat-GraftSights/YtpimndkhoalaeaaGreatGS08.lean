import Derived.Test.YtpimndkhoalaeaaGreatGS07
import Derived.Test.YtpimndkhoalaeaaGreatGS03
import Derived.Deep.RegionLaw
import Derived.RangeFuncCalls
import Derived.Test.YtpimndkhoalaeaaGreatGS01
import Derived.Test.YtpimndkhoalaeaaGreatGS02
namespace Go.Proofs.YtpimndkhoalaeaaGreat
set_option maxRecDepth 100000
set_option linter.unusedVariables false
open Go.RowKit
attribute [local go_sem ↓] Go.wp_at_zero Go.wp_at_succ
def PaAt (w:World) (go:Option Addr) (Q:List (Int × List Int)):Prop:=
 Q=[]∨∃ b off,go=some ⟨b,off,none⟩∧b<w.heap.size∧∀ j (hj:j<Q.length),∃ ao ac,w.cell? ⟨b,off+j * 2,none⟩=some (.int .i64 Q[j].1)∧w.cell? ⟨b,off+j * 2+1,none⟩=some (.slice ao Q[j].2.length ac)∧IntsAt w ao Q[j].2∧Q[j].2.length≤maxLen
theorem PaAt.same {w w' : World} {go:Option Addr} {Q:List (Int × List Int)} (h:PaAt w go Q) (hk:Same0 w w'):PaAt w' go Q:=by
 refine h.imp id ?_
 rintro ⟨b,off,e,hb,hc⟩
 refine ⟨b,off,e,Nat.lt_of_lt_of_le hb hk.size,fun j hj=>?_⟩
 obtain ⟨ao,ac,d0,d1,d2,d3⟩:=hc j hj
 exact ⟨ao,ac,(hk.cell (p:=⟨b,off+j * 2,none⟩) hb (fun f=>f)).trans d0,(hk.cell (p:=⟨b,off+j * 2+1,none⟩) hb (fun f=>f)).trans d1,d2.same hk,d3⟩
def AllP (L:List Sym) (N:List Nd) (z:Int) (Q:List (Int × List Int)) (l:List Tg):Prop:=l.length=Q.length∧∀ i (h:i<Q.length) (h' : i<l.length),PtR L N z Q[i] l[i] 0
def BadP (L:List Sym) (N:List Nd) (z:Int) (Q:List (Int × List Int)) (k:Nat) (c:Int):Prop:=
 c≠0∧∃ (l:List Tg) (hk:k<Q.length) (x:Tg),l.length=k∧(∀ i (h:i<Q.length) (h' : i<l.length),PtR L N z Q[i] l[i] 0)∧PtR L N z Q[k] x c
def PtsOut (L:List Sym) (N:List Nd) (z:Int) (Q:List (Int × List Int)) (w:World) (e:Ending) (w' : World):Prop:=
 (∃ l tb,e=.returned (.tuple #[.slice (some ⟨tb,0,none⟩) Q.length Q.length,.nilIface])∧AllP L N z Q l∧w.heap.size≤tb∧TgB w' tb l∧Same0 w w') ∨
 (∃ k c v,e=.returned (.tuple #[.slice none 0 0,v])∧BadP L N z Q k c∧FtAt w.heap.size w' v 132 (k:Int) (if c=14 then 14 else 0)∧Same0 w w')
theorem FtAt.from {n0 n1:Nat} {w:World} {v:Value} {c a y:Int} (h:FtAt n1 w v c a y) (hn:n0≤n1):FtAt n0 w v c a y:=by
 obtain ⟨b,h1,h2,h3⟩:=h
 exact ⟨b,h1,Nat.le_trans hn h2,h3⟩
set_option maxHeartbeats 4000000 in
theorem parts_any {B:Nat→Prop} {n sb:Nat} {L:List Sym} {w:World} {h g room:Nat} {N:List Nd} (hs:Sg n w sb L) (p:HpB B w h g room N) (z:Int) {go:Option Addr} {gc:Nat} {Q:List (Int × List Int)} (hq:PaAt w go Q) (hl:Q.length≤4398046511104) :
  Calls Tryz.prog 50 #[.pointer (some ⟨sb,0,none⟩),.slice go Q.length gc,.iface 67 (.agg #[.pointer (some ⟨h,0,none⟩)]),.int .i64 z] w fun e w' => PtsOut L N z Q w e w' := by
 obtain ⟨i0,hi0,hz0,hz1,hz2⟩:=info_parts info_thing
 have HQ:Hid (∀ wr,Same0 w wr→PaAt wr go Q):=fun wr hk=>hq.same hk
 have HP:Hid (∀ wr (s:Int) (ao:Option Addr) (cap:Nat) (xs:List Int),Same0 w wr→IntsAt wr ao xs→xs.length≤maxLen→Calls Tryz.prog 83 #[.pointer (some ⟨sb,0,none⟩),.agg #[.int .i64 s,.slice ao xs.length cap],.iface 67 (.agg #[.pointer (some ⟨h,0,none⟩)]),.int .i64 z] wr fun e w' => ∃ x c,e=.returned (.tuple #[tgV x,.int .i64 c])∧PtR L N z (s,xs) x c∧Same0 wr w'):=fun wr s ao cap xs hk hx hm=>part_any (hs.same hk) (p.same hk) z s hx hm
 clear hs p hq
 go_enter Tryz.func50,Tryz.ntmps50
 go_wp2_with (first | (at_make;refine wpList_make_full _ rfl _ _ 105 rfl w.heap.size 148 i0 _ 4 Tryz.underlying105 hi0 hz0 hz1 _ _ _ _ Q.length rfl rfl rfl rfl (by rw [hz2];omega) (by unfold maxLen;omega) (Nat.le_refl _) ?_;intro w1 hown hgrow))
 have K1:Same0 w w1:=Same0.grown (Kept.refl _ w) hgrow
 have HT:Hid (TgQ w1 w.heap.size Q.length []):=TgQ.start hown
 clear hown hgrow
 go_loopw [20] (fun s20 wr=>∃ (k:Nat) (l:List Tg),k≤Q.length∧s20=.int .i64 (k:Int)∧Hid (l.length=k∧TgQ wr w.heap.size Q.length l∧∀ i (h:i<Q.length) (h' : i<l.length),PtR L N z Q[i] l[i] 0)∧Same0 w wr) (fun s20 _=>Q.length-(intOf s20).toNat)
 case atStart=>exact ⟨0,[],Nat.zero_le _,rfl,⟨rfl,HT.out,fun i h h' => by simp at h'⟩,K1⟩
 case round=>
  clear HT K1
  obtain ⟨k,l,hk,rfl,hl2,hs⟩:=hrel
  by_cases hlt:k<Q.length
  ·obtain ⟨xb,off,rfl,hxb,hxc⟩:=(HQ.out wr hs).resolve_left (fun e=>by rw [e] at hlt;simp at hlt)
   obtain ⟨ao,ac,d0,d1,d2,d3⟩:=hxc k hlt
   have i1:(0:Int)≤(k:Int):=by omega
   have i2:(k:Int)<(Q.length:Int):=by omega
   have ka:Same0 wr (wr.alloc (.cells #[.int .i64 Q[k].1,.slice ao Q[k].2.length ac] 83)):=(Kept.refl _ _).alloc _
   have C:=HP.out (wr.alloc (.cells #[.int .i64 Q[k].1,.slice ao Q[k].2.length ac] 83)) Q[k].1 ao ac Q[k].2 (hs.trans' ka) (d2.same ka) d3
   have BAD:Hid (∀ w2 x c v w4,Same0 (wr.alloc (.cells #[.int .i64 Q[k].1,.slice ao Q[k].2.length ac] 83)) w2→PtR L N z (Q[k].1,Q[k].2) x c→c≠0→FtAt w2.heap.size w4 v 132 (k:Int) (if c=14 then 14 else 0)→Same0 w2 w4→PtsOut L N z Q w (.returned (.tuple #[.slice none 0 0,v])) w4):=fun w2 x c v w4 k2 hp hc hf k4=>
    .inr ⟨k,c,v,rfl,⟨hc,l,hlt,x,hl2.out.1,hl2.out.2.2,hp⟩,hf.from ((hs.trans' ka).trans' k2).size,((hs.trans' ka).trans' k2).trans' k4⟩
   have NX:Hid (∀ w2 x,Same0 (wr.alloc (.cells #[.int .i64 Q[k].1,.slice ao Q[k].2.length ac] 83)) w2→PtR L N z (Q[k].1,Q[k].2) x 0→(∃ u0 u1 u2 u3,w2.cell? ⟨w.heap.size,k * 4,none⟩=some u0∧w2.cell? ⟨w.heap.size,k * 4+1,none⟩=some u1∧w2.cell? ⟨w.heap.size,k * 4+2,none⟩=some u2∧w2.cell? ⟨w.heap.size,k * 4+3,none⟩=some u3∧∀ o,w2.frozen? ⟨w.heap.size,o,none⟩=false)∧((l ++ [x]).length=k+1∧TgQ (put4 w2 w.heap.size (k * 4) (.bool x.1) (.int .i64 x.2.1) (.int .i64 x.2.2.1) (.int .i64 x.2.2.2)) w.heap.size Q.length (l ++ [x])∧∀ i (h:i<Q.length) (h' : i<(l ++ [x]).length),PtR L N z Q[i] (l ++ [x])[i] 0)∧Same0 w (put4 w2 w.heap.size (k * 4) (.bool x.1) (.int .i64 x.2.1) (.int .i64 x.2.2.1) (.int .i64 x.2.2.2))):=fun w2 x k2 hp=>by
    obtain ⟨e1,e2,e3⟩:=hl2.out
    have q2:=e2.same (ka.trans' k2)
    have th:=q2.there (by omega)
    have sn:=q2.snoc (by omega) x
    rw [e1] at th sn
    refine ⟨th,⟨by simp [e1],sn,fun i h h' => ?_⟩,((hs.trans' ka).trans' k2).trans (put4_kept _ _ _ _ _ _ _) (fun i hi e=>by omega)⟩
    by_cases hi:i<l.length
    ·rw [List.getElem_append_left hi];exact e3 i h hi
    ·obtain rfl:i=l.length:=by simp at h'; omega
     rw [List.getElem_concat_length rfl]
     simp only [e1]
     exact hp
   clear d2 d3 hxc hl2 HP
   generalize Q[k].1=q1 at *
   generalize Q[k].2=q2 at *
   go_upto_region 6 with (first | (go_at_call 83;refine C.mono ?_;rintro e w2 ⟨x,c,rfl,hp,k2⟩;simp only [tgV]))
   obtain ⟨X2,hX2⟩:∃ X2,X2=w2.alloc (.cells #[.bool x.1,.int .i64 x.2.1,.int .i64 x.2.2.1,.int .i64 x.2.2.2] 148):=⟨_,rfl⟩
   have kx:Same0 w2 X2:=by rw [hX2];exact (Kept.refl _ _).alloc _
   obtain ⟨y0,y1,y2,y3⟩:=boxT4 (show X2.heap[w2.heap.size]? = some (.cells #[.bool x.1,.int .i64 x.2.1,.int .i64 x.2.2.1,.int .i64 x.2.2.2] 148 (0,0)) by rw [hX2];exact heap_alloc_new _ _)
   rw [← hX2]
   clear hX2 C d0 d1
   by_cases hc:c=0
   ·subst hc
    obtain ⟨⟨u0,u1,u2,u3,d0,d1,d2,d3,fz⟩,n1,n2⟩:=NX.out X2 x (k2.trans' kx) hp
    have f0:=fz (k * 4)
    have f1:=fz (k * 4+1)
    have f2:=fz (k * 4+2)
    have f3:=fz (k * 4+3)
    have HN:Hid ((l ++ [x]).length=k+1∧TgQ (put4 X2 w.heap.size (k * 4) (.bool x.1) (.int .i64 x.2.1) (.int .i64 x.2.2.1) (.int .i64 x.2.2.2)) w.heap.size Q.length (l ++ [x])∧∀ i (h:i<Q.length) (h' : i<(l ++ [x]).length),PtR L N z Q[i] (l ++ [x])[i] 0):=n1
    clear n1 fz BAD NX
    go_wp2
    refine ⟨⟨k+1,l ++ [x],by omega,by go_num,HN,n2⟩,by simp [intOf];omega⟩
   ·have CN:=nothing_any (k:Int) c X2
    have HB:Hid (∀ v w4,FtAt X2.heap.size w4 v 132 (k:Int) (if c=14 then 14 else 0)→Same0 X2 w4→PtsOut L N z Q w (.returned (.tuple #[.slice none 0 0,v])) w4):=fun v w4 h1 h2=>BAD.out X2 x c v w4 (k2.trans' kx) hp hc h1 h2
    have d1:(c == 0)=false:=by simpa using hc
    clear BAD NX
    generalize (if c=14 then (14:Int) else 0)=yy at *
    go_wp2_with (first | (go_at_call 84;refine CN.mono ?_;rintro e w4 ⟨v,rfl,hf,k4⟩))
    go_ret2
    exact HB.out v w4 hf k4
  ·obtain rfl:k=Q.length:=by omega
   obtain ⟨e1,e2,e3⟩:=hl2.out
   have FIN:Hid (PtsOut L N z Q w (.returned (.tuple #[.slice (some ⟨w.heap.size,0,none⟩) Q.length Q.length,.nilIface])) wr):=.inl ⟨l,w.heap.size,rfl,⟨e1,e3⟩,Nat.le_refl _,by rw [← e1] at e2;exact e2.all,hs⟩
   clear e1 e2 e3 hl2
   go_wp2
   go_ret2
   exact FIN.out
def idxG (n:Int) (m:Nat):Bool:=decide (0≤n) && decide (n<(m:Int))
theorem isIdx_any (n:Int) (m:Nat) (w:World):Calls Tryz.prog 81 #[.int .i64 n,.int .i64 (m:Int)] w fun e w' => e=.returned (.bool (idxG n m))∧w' = w:=by
 by_cases h:0≤n
 ·have H:Hid (idxG n m=decide (n<(m:Int))):=by show _=_;simp [idxG,h]
  go_enter Tryz.func81,Tryz.ntmps81
  go_wp2
  go_ret
  exact ⟨by rw [H.out];first | rfl | simp,rfl⟩
 ·have H:Hid (idxG n m=false):=by show _=_;simp [idxG,h]
  go_enter Tryz.func81,Tryz.ntmps81
  go_wp2
  go_ret
  exact ⟨by rw [H.out];first | rfl | simp,rfl⟩
def wtG (Q:List (Int × List Int)):Nat:=Q.countP (fun p=>decide (0≤p.1))
theorem wtG_step {Q:List (Int × List Int)} {k:Nat} (h:k<Q.length):wtG (Q.take (k+1))=wtG (Q.take k)+if 0≤Q[k].1 then 1 else 0:=by
 unfold wtG
 rw [← List.take_append_getElem h,List.countP_append]
 simp [List.countP_cons]
theorem wtG_le (Q:List (Int × List Int)):wtG Q≤Q.length:=List.countP_le_length
def RtAt (w:World) (ro:Option Addr) (R:List (List (Int × List Int))):Prop:=
 R=[]∨∃ b off,ro=some ⟨b,off,none⟩∧b<w.heap.size∧∀ i (h:i<R.length),∃ go gc,w.cell? ⟨b,off+i,none⟩=some (.slice go R[i].length gc)∧PaAt w go R[i]∧R[i].length≤4398046511104
theorem RtAt.same {w w' : World} {ro:Option Addr} {R:List (List (Int × List Int))} (h:RtAt w ro R) (hk:Same0 w w'):RtAt w' ro R:=by
 refine h.imp id ?_
 rintro ⟨b,off,e,hb,hc⟩
 refine ⟨b,off,e,Nat.lt_of_lt_of_le hb hk.size,fun i hi=>?_⟩
 obtain ⟨go,gc,c0,c1,c2⟩:=hc i hi
 exact ⟨go,gc,(hk.cell (p:=⟨b,off+i,none⟩) hb (fun f=>f)).trans c0,c1.same hk,c2⟩
theorem weightG_no {w:World} {ro:Option Addr} {R:List (List (Int × List Int))} (n:Int) (hn:¬ (0≤n∧n<(R.length:Int))) (io po eo:Option Addr) (il ic pl pc el ec rc:Nat) :
  Calls Tryz.prog 48 #[.agg #[.slice io il ic,.slice po pl pc,.slice eo el ec,.slice ro R.length rc],.int .i64 n] w fun e w' => e=.returned (.tuple #[.int .i64 0,.int .i64 91])∧Same0 w w' := by
 have CI:=isIdx_any n R.length
 have hi:idxG n R.length=false:=by unfold idxG;simp;omega
 rw [hi] at CI
 obtain ⟨W1,hW1⟩:∃ W1,W1=w.alloc (.cells #[.slice io il ic,.slice po pl pc,.slice eo el ec,.slice ro R.length rc] 58):=⟨_,rfl⟩
 have ka:Same0 w W1:=by rw [hW1];exact (Kept.refl _ w).alloc _
 have hbx:W1.heap[w.heap.size]? = some (.cells #[.slice io il ic,.slice po pl pc,.slice eo el ec,.slice ro R.length rc] 58 (0,0)):=by rw [hW1];exact heap_alloc_new w _
 have x3:W1.cell? ⟨w.heap.size,3,none⟩=some (.slice ro R.length rc):=cellAt hbx 3
 clear hi hbx hn
 go_enter Tryz.func48,Tryz.ntmps48
 go_upto_region 1 with fail
 rw [← hW1]
 clear hW1
 go_wp2_with (first | (go_at_call 81;refine (CI _).mono ?_;rintro e w2 ⟨rfl,rfl⟩))
 go_ret2
 exact ⟨rfl,ka⟩
set_option maxHeartbeats 8000000 in
theorem weightG_yes {w:World} {ro:Option Addr} {R:List (List (Int × List Int))} (hR:RtAt w ro R) (i:Nat) (hil:i<R.length) (io po eo:Option Addr) (il ic pl pc el ec rc:Nat) :
  Calls Tryz.prog 48 #[.agg #[.slice io il ic,.slice po pl pc,.slice eo el ec,.slice ro R.length rc],.int .i64 (i:Int)] w fun e w' => e=.returned (.tuple #[.int .i64 (wtG R[i]:Int),.int .i64 0])∧Same0 w w' := by
 have CI:=isIdx_any (i:Int) R.length
 have hi:idxG (i:Int) R.length=true:=by unfold idxG;simp;omega
 rw [hi] at CI
 obtain ⟨W1,hW1⟩:∃ W1,W1=w.alloc (.cells #[.slice io il ic,.slice po pl pc,.slice eo el ec,.slice ro R.length rc] 58):=⟨_,rfl⟩
 have ka:Same0 w W1:=by rw [hW1];exact (Kept.refl _ w).alloc _
 have hbx:W1.heap[w.heap.size]? = some (.cells #[.slice io il ic,.slice po pl pc,.slice eo el ec,.slice ro R.length rc] 58 (0,0)):=by rw [hW1];exact heap_alloc_new w _
 have x3:W1.cell? ⟨w.heap.size,3,none⟩=some (.slice ro R.length rc):=cellAt hbx 3
 obtain ⟨b,off,rfl,hb,hc⟩:=(hR.same ka).resolve_left (fun e=>by rw [e] at hil;simp at hil)
 obtain ⟨go,gc,c0,c1,HL⟩:=hc i hil
 generalize R[i]=q at *
 have HC:Hid (∀ wr,Same0 W1 wr→PaAt wr go q):=fun wr hk=>c1.same hk
 have i1:(0:Int)≤(i:Int):=by omega
 have i2:(i:Int)<(R.length:Int):=by omega
 clear hi hR hbx c1 hc
 go_enter Tryz.func48,Tryz.ntmps48
 go_upto_region 1 with fail
 rw [← hW1]
 clear hW1
 go_upto_region 5 with (first | (go_at_call 81;refine (CI _).mono ?_;rintro e w2 ⟨rfl,rfl⟩))
 go_loopw [6,21] (fun s6 s21 wr=>∃ k:Nat,k≤q.length∧s6=.int .i64 (wtG (q.take k):Int)∧s21=.int .i64 (k:Int)∧Same0 w2 wr) (fun _ s21 _=>q.length-(intOf s21).toNat)
 case atStart=>exact ⟨0,Nat.zero_le _,by simp [wtG],rfl,Kept.refl _ _⟩
 case round=>
  obtain ⟨k,hk,rfl,rfl,hs⟩:=hrel
  by_cases hlt:k<q.length
  ·obtain ⟨g,goff,rfl,hg,hgc⟩:=(HC.out wr hs).resolve_left (fun e=>by rw [e] at hlt;simp at hlt)
   obtain ⟨ao,ac,d0,d1, -, -⟩:=hgc k hlt
   have hst:=wtG_step hlt
   have hle:=wtG_le (q.take k)
   rw [List.length_take] at hle
   have hle2:wtG (q.take k)≤k:=by omega
   have j1:(0:Int)≤(k:Int):=by omega
   have j2:(k:Int)<(q.length:Int):=by omega
   clear hgc
   generalize q[k].1=x at *
   generalize q[k].2.length=xl at *
   generalize wtG (q.take k)=m at *
   by_cases hx:0≤x
   ·rw [if_pos hx] at hst
    go_wp2_with fail
    go_roundw
    case rel=>exact ⟨k+1,by omega,by rw [hst];go_num,by go_num,hs.trans' (Kept.alloc (Kept.refl _ _) _)⟩
    case measure=>simp [intOf];omega
   ·rw [if_neg hx] at hst
    go_wp2_with fail
    go_roundw
    case rel=>exact ⟨k+1,by omega,by rw [hst];go_num,by go_num,hs.trans' (Kept.alloc (Kept.refl _ _) _)⟩
    case measure=>simp [intOf];omega
  ·obtain rfl:k=q.length:=by omega
   rw [List.take_length]
   go_wp2_with fail
   go_ret2
   exact ⟨rfl,ka.trans' hs⟩
def revO (xs:List Int) (off k:Nat) (cur:Array Value) (o:Nat):Option Value:=
 if off≤o∧o<off+xs.length∧(o<off+k∨off+xs.length≤o+k) then (xs[xs.length-1-(o-off)]?).map (Value.int .i64) else cur[o]?
theorem rev_none (ao:Option Addr) (cap:Nat) (w:World):Calls Tryz.prog 76 #[.slice ao 0 cap] w fun e w' => e=.returned (.tuple #[])∧w' = w:=by
 go_enter Tryz.func76,Tryz.ntmps76
 go_wp2
 go_loopw [2,3] (fun i j wr=>i=.int .i64 0∧j=.int .i64 (-1)∧wr=w) (fun _ _ _=>0)
 case atStart=>exact ⟨rfl,rfl,rfl⟩
 case round=>
  obtain ⟨rfl,rfl,rfl⟩:=hrel
  go_wp2
  first | go_end0 | (refine bodyPost_ret (results_none rfl _ _ _) rfl ?_)
  exact ⟨rfl,rfl⟩
theorem rev_step {xs:List Int} {off k m:Nat} {cur cu:Array Value} (hm:m+k+1=xs.length) (hkm:k<m) (hc:off+xs.length≤cu.size) (hk:k<xs.length) (hmx:m<xs.length) (h:∀ o,cu[o]? = revO xs off k cur o) (o:Nat) :
  ((cu.setIfInBounds (off+k) (.int .i64 xs[m])).setIfInBounds (off+m) (.int .i64 xs[k]))[o]? = revO xs off (k+1) cur o:=by
 rw [Array.getElem?_setIfInBounds,Array.getElem?_setIfInBounds]
 have ho:=h o
 unfold revO at ho ⊢
 by_cases e1:off+m=o
 ·rw [if_pos e1,if_pos (by simp;omega),if_pos (by omega)]
  have:xs.length-1-(o-off)=k:=by omega
  rw [this,List.getElem?_eq_getElem hk];rfl
 ·rw [if_neg e1]
  by_cases e2:off+k=o
  ·rw [if_pos e2,if_pos (by omega),if_pos (by omega)]
   have:xs.length-1-(o-off)=m:=by omega
   rw [this,List.getElem?_eq_getElem hmx];rfl
  ·rw [if_neg e2,ho]
   by_cases q:off≤o∧o<off+xs.length∧(o<off+k∨off+xs.length≤o+k)
   ·rw [if_pos q,if_pos (by omega)]
   ·rw [if_neg q,if_neg (by omega)]
theorem rev_end {xs:List Int} {off k:Nat} {cur:Array Value} (hx:∀ k (h:k<xs.length),cur[off+k]? = some (.int .i64 xs[k])) (hk:xs.length≤k+k+1) (j:Nat) (hj:j<xs.length):revO xs off k cur (off+j)=some (.int .i64 (xs[xs.length-1-j]'(by omega))):=by
 unfold revO
 by_cases q:off≤off+j∧off+j<off+xs.length∧(off+j<off+k∨off+xs.length≤off+j+k)
 ·rw [if_pos q]
  have e:xs.length-1-(off+j-off)=xs.length-1-j:=by omega
  rw [e,List.getElem?_eq_getElem (by omega)];rfl
 ·rw [if_neg q,hx j hj]
  have e:xs.length-1-j=j:=by omega
  simp only [e]
theorem rev_far {xs:List Int} {off k:Nat} {cur:Array Value} {o:Nat} (h:o<off∨off+xs.length≤o):revO xs off k cur o=cur[o]? := by
 unfold revO;rw [if_neg (by omega)]
set_option maxHeartbeats 2000000 in
theorem rev_any {w:World} {b off:Nat} {cur:Array Value} {xs:List Int} (hb:w.heap[b]? = some (.cells cur 3 (0,0))) (hc:off+xs.length≤cur.size) (hx:∀ k (h:k<xs.length),cur[off+k]? = some (.int .i64 xs[k])) (hm:xs.length≤6) (cap:Nat) :
  Calls Tryz.prog 76 #[.slice (some ⟨b,off,none⟩) xs.length cap] w fun e w' => e=.returned (.tuple #[])∧(∃ cu,w'.heap[b]? = some (.cells cu 3 (0,0))∧cu.size=cur.size∧(∀ j (h:j<xs.length),cu[off+j]? = some (.int .i64 (xs[xs.length-1-j]'(by omega))))∧∀ o,(o<off∨off+xs.length≤o)→cu[o]? = cur[o]?)∧Kept (fun k=>k=b) w w' := by
 have HX:Hid (∀ k (h:k<xs.length),cur[off+k]? = some (.int .i64 xs[k])):=hx
 go_enter Tryz.func76,Tryz.ntmps76
 go_wp2
 go_loopw [2,3] (fun i j wr=>∃ k:Nat,k≤xs.length∧i=.int .i64 (k:Int)∧j=.int .i64 ((xs.length:Int)-1-(k:Int))∧Hid (k+k≤xs.length+1)∧Hid (∃ cu,wr.heap[b]? = some (.cells cu 3 (0,0))∧cu.size=cur.size∧∀ o,cu[o]? = revO xs off k cur o)∧Kept (fun q=>q=b) w wr) (fun i _ _=>xs.length-(intOf i).toNat)
 case atStart=>exact ⟨0,Nat.zero_le _,rfl,by simp,by simp [Hid],⟨cur,hb,rfl,fun o=>by unfold revO;rw [if_neg (by omega)]⟩,Kept.refl _ _⟩
 case round=>
  obtain ⟨k,hk,rfl,rfl,h2,⟨cu,c1,c2,c3⟩,hs⟩:=hrel
  by_cases hlt:k+k+1<xs.length
  ·obtain ⟨m,hm'⟩:∃ m,m+k+1=xs.length:=⟨xs.length-1-k,by omega⟩
   have em:(xs.length:Int)-1-(k:Int)=(m:Int):=by omega
   rw [em]
   have hkx:k<xs.length:=by omega
   have hmx:m<xs.length:=by omega
   have hkm:k<m:=by omega
   have i1:(0:Int)≤(k:Int):=by omega
   have i2:(k:Int)<(xs.length:Int):=by omega
   have i3:(0:Int)≤(m:Int):=by omega
   have i4:(m:Int)<(xs.length:Int):=by omega
   have i5:(k:Int)<(m:Int):=by omega
   have d1:wr.cell? ⟨b,off+k,none⟩=some (.int .i64 xs[k]):=by
    rw [cellAt c1,c3];unfold revO;rw [if_neg (by omega)];exact HX.out k hkx
   have d2:wr.cell? ⟨b,off+m,none⟩=some (.int .i64 xs[m]):=by
    rw [cellAt c1,c3];unfold revO;rw [if_neg (by omega)];exact HX.out m hmx
   have f1:=frozenAt c1 (off+k)
   have f2:=frozenAt c1 (off+m)
   have FIN:Hid (∀ wd:World,Same0 ((wr.setCell ⟨b,off+k,none⟩ (.int .i64 xs[m])).setCell ⟨b,off+m,none⟩ (.int .i64 xs[k])) wd→(∃ cu,wd.heap[b]? = some (.cells cu 3 (0,0))∧cu.size=cur.size∧∀ o,cu[o]? = revO xs off (k+1) cur o)∧Kept (fun q=>q=b) w wd):=fun wd hk=>by
    refine ⟨⟨_,hk.at0 (setAt (setAt c1 _ _) _ _),by simp [c2],fun o=>rev_step hm' hkm (by omega) hkx hmx c3 o⟩,?_⟩
    exact (Kept.setCell (S:=fun q=>q=b) (Kept.setCell (S:=fun q=>q=b) hs (p:=⟨b,off+k,none⟩) (fun _=>rfl) _) (p:=⟨b,off+m,none⟩) (fun _=>rfl) _).trans hk (fun _ _ f=>f.elim)
   clear c1 c2 c3 hb hx HX hc
   go_wp2
   go_region
   all_goals (go_wp2;first | (refine ⟨⟨k+1,by omega,by go_num,by go_num,show k+1+(k+1)≤xs.length+1 by omega,(FIN.out _ (by first | exact Kept.refl _ _ | exact (Kept.refl _ _).drew | exact (Kept.refl _ _).drewN _)).1,(FIN.out _ (by first | exact Kept.refl _ _ | exact (Kept.refl _ _).drew | exact (Kept.refl _ _).drewN _)).2⟩,by simp [intOf];omega⟩))
  ·have hle:xs.length≤k+k+1:=by omega
   have i5:¬ ((k:Int)<(xs.length:Int)-1-(k:Int)):=by omega
   have FIN:Hid ((∃ cu,wr.heap[b]? = some (.cells cu 3 (0,0))∧cu.size=cur.size∧(∀ j (h:j<xs.length),cu[off+j]? = some (.int .i64 (xs[xs.length-1-j]'(by omega))))∧∀ o,(o<off∨off+xs.length≤o)→cu[o]? = cur[o]?)∧Kept (fun k=>k=b) w wr):=⟨⟨cu,c1,c2,fun j hj=>by rw [c3];exact rev_end HX.out hle j hj,fun o ho=>by rw [c3];exact rev_far ho⟩,hs⟩
   clear c1 c2 c3 hb hx HX hc
   go_wp2
   first | go_end0 | (refine bodyPost_ret (results_none rfl _ _ _) rfl ?_)
   exact ⟨rfl,FIN.out⟩
end Go.Proofs.YtpimndkhoalaeaaGreat
namespace Go.Proofs.YtpimndkhoalaeaaGreat
set_option maxRecDepth 100000
set_option linter.unusedVariables false
open Go.RowKit
theorem Row.own_int {base:Nat} {X:World} {v:Value} {xs:List Int} (r:Row base X v xs) {q:Nat} (e:v.ownBlock=some q):base≤q∧∃ cur,X.heap[q]? = some (.cells cur 3 (0,0)):=by
 rcases r.2 with ⟨e1,_⟩ | ⟨g', cap', cur', e1,hb,hg', _⟩
 ·rw [e1] at e;cases e
 ·rw [e1] at e
  have e2:g' = q:=Option.some.inj e
  exact ⟨e2 ▸ hb,cur', e2 ▸ hg'⟩
theorem rev_row {base:Nat} {X:World} {vo:Option Addr} {vc:Nat} {xs:List Int} (hr:Row base X (.slice vo xs.length vc) xs) (m a:Nat) (hm:xs.length=m+a) (ha:a≤6) (ao:Option Addr) (hao:ao=if vc=m then vo else vo.map (·.add m)) :
  Calls Tryz.prog 76 #[.slice ao a (vc-m)] X fun e w1=>e=.returned (.tuple #[])∧Arg w1 ao (xs.drop m).reverse (vc-m)∧Row base w1 (.slice vo m vc) (xs.take m)∧Kept (fun k=>(Value.slice vo xs.length vc).ownBlock=some k) X w1:=by
 unfold Row at hr
 rcases hr.2 with ⟨e2,h0⟩ | ⟨g,cap,cur,e2,hb,hg,hle,hml,hsz,ht⟩
 ·simp only [Value.slice.injEq] at e2
  obtain ⟨rfl,e3,rfl⟩:=e2
  have hx:xs=[]:=List.length_eq_zero_iff.1 h0
  subst hx
  obtain ⟨rfl,rfl⟩:m=0∧a=0:=by simp at hm;omega
  simp only [if_true] at hao
  subst hao
  refine (rev_none none _ X).mono ?_
  rintro e w1 ⟨rfl,rfl⟩
  exact ⟨rfl,⟨.inl rfl,by simp,fun _=>⟨rfl,rfl⟩,by simp⟩,hr,Kept.refl _ _⟩
 ·simp only [Value.slice.injEq] at e2
  obtain ⟨rfl,e3,rfl⟩:=e2
  have hcap:xs.length≤vc:=by simpa using hle
  have cs:cur.size=vc:=by simpa using hsz
  have hci:∀ k (h:k<xs.length),cur[k]? = some (.int .i64 xs[k]):=fun k hk=>by
   have e5:(iv xs)[k]? = some (.int .i64 xs[k]):=iv_get hk
   rw [← ht,List.getElem?_take] at e5
   split at e5
   ·simpa using e5
   ·cases e5
  have rowOf:∀ {w1:World} {cu:Array Value},w1.heap[g]? = some (.cells cu 3 (0,0))→cu.size=vc→(∀ o,o<m→cu[o]? = cur[o]?)→Row base w1 (.slice (some ⟨g,0,none⟩) m vc) (xs.take m):=by
   intro w1 cu q1 q2 q3
   have hlm:(xs.take m).length=m:=by simp;omega
   unfold Row
   rw [hlm]
   refine ⟨by simp [iv_length];omega,.inr ⟨g,vc,cu,rfl,hb,q1,by omega,hml,by omega,?_⟩⟩
   apply List.ext_getElem?
   intro i
   by_cases hi:i<m
   ·rw [List.getElem?_take,if_pos (by omega),iv_get (by simp;omega)]
    have:=(q3 i hi).trans (hci i (by omega))
    simpa using this
   ·rw [List.getElem?_take,if_neg (by omega)]
    simp [iv]
    omega
  by_cases h0:a=0
  ·subst h0
   have hd:xs.drop m=[]:=List.drop_of_length_le (by omega)
   rw [hd]
   refine (rev_none ao _ X).mono ?_
   rintro e w1 ⟨rfl,rfl⟩
   refine ⟨rfl,⟨.inl rfl,by simp,fun q=>?_,by simp⟩,rowOf hg cs (fun _ _=>rfl),Kept.refl _ _⟩
   rw [hao] at q
   split at q <;> cases q
  ·have e1:ao=some ⟨g,m,none⟩:=by rw [hao,if_neg (by omega)];show some (Addr.add ⟨g,0,none⟩ m)=_;simp [Addr.add];exact fun e=>e.symm
   subst e1
   have hdl:(xs.drop m).length=a:=by simp;omega
   have C:=rev_any (b:=g) (off:=m) (xs:=xs.drop m) hg (by omega) (fun k hk=>by rw [hci (m+k) (by omega)];simp) (by omega) (vc-m)
   rw [← hdl]
   refine C.mono ?_
   rintro e w1 ⟨rfl,⟨cu,c1,c2,c3,c4⟩,k1⟩
   refine ⟨rfl,⟨.inr ⟨g,m,rfl,lt_of_at c1,fun i hi=>?_⟩,by simp;omega,fun q=>(by cases q),by simp;omega⟩,rowOf c1 (by omega) (fun o ho=>c4 o (by omega)),k1.mono (fun i _ e=>by rw [e];rfl)⟩
   have hi' : i<(xs.drop m).length:=by simpa using hi
   rw [cellAt c1,c3 i hi']
   congr 2
   rw [List.getElem_reverse]
structure LyJ (B:Nat→Prop) (w:World) (h g room:Nat) (N:List Nd) (l:List Tg) (C:Nat→Prop) (k:Nat) (X:World):Prop where
 ex:∃ v,X.heap[w.heap.size+1]? = some (.cells #[v] 33 (0,0))∧Row (w.heap.size+3) X v (layF N (l.drop (l.length-k))).2.reverse∧(∀ q,v.ownBlock=some q→¬ C q)∧HpB (fun b=>(B b∧b<w.heap.size)∨(w.heap.size≤b∧v.ownBlock≠some b)) X h g room (layF N (l.drop (l.length-k))).1
 bx:X.heap[w.heap.size]? = some (.cells #[.pointer (some ⟨h,0,none⟩)] 29 (0,0))
 kp:Kept (fun k=>k=h∨k=g) w X
 no:¬ C (w.heap.size+1)∧¬ C h∧¬ C g
 lt:h<w.heap.size∧g<w.heap.size
theorem LyJ.same {B:Nat→Prop} {w:World} {h g room:Nat} {N:List Nd} {l:List Tg} {C:Nat→Prop} {k:Nat} {X Y:World} (j:LyJ B w h g room N l C k X) (hk:Same0 X Y):LyJ B w h g room N l C k Y:=by
 obtain ⟨v,h1,h2,h3,h4⟩:=j.ex
 exact ⟨⟨v,hk.at0 h1,hk.row h2 (fun _ _ f=>f),h3,h4.same hk⟩,hk.at0 j.bx,j.kp.trans hk (fun _ _ f=>f.elim),j.no,j.lt⟩
theorem rec_not {X:World} {r:Nat} {o:Obj} (hl:X.heap[r]? = some o) (ho:o.isCells=false) {cs:Array Value} {t:TypeId} {fr:Nat × Nat} {q:Nat} (hq:X.heap[q]? = some (.cells cs t fr)):q≠r:=fun e=>by
 rw [e,hl] at hq;cases hq;cases ho
theorem LyJ.put {B:Nat→Prop} {w:World} {h g room:Nat} {N:List Nd} {l:List Tg} {C:Nat→Prop} {k:Nat} {X:World} {r:Nat} {o o' : Obj} (j:LyJ B w h g room N l C k X) (hl:X.heap[r]? = some o) (ho:o.isCells=false) (hw:w.heap.size≤r):LyJ B w h g room N l C k (X.putObj r o'):=by
 obtain ⟨v,h1,h2,h3,h4⟩:=j.ex
 have kk:Kept (fun k=>k=r) X (X.putObj r o'):=kept_putH
 obtain ⟨cs,q1,q2⟩:=h4.blk
 refine ⟨⟨v,putObj_at hl ho h1 rfl,kk.row h2 (fun q e s=>?_),h3,h4.kept kk (fun e=>rec_not hl ho h4.box e) (fun e=>rec_not hl ho q1 e) (fun q _ s cur hc=>rec_not hl ho hc s)⟩,putObj_at hl ho j.bx rfl,j.kp.trans kk (fun i hi e=>by have e' : i=r:=e;omega),j.no,j.lt⟩
 obtain ⟨_,cur,hc⟩:=h2.own_int e
 exact rec_not hl ho hc s
theorem LyJ.next {B:Nat→Prop} {w:World} {h g room:Nat} {N:List Nd} {l:List Tg} {C:Nat→Prop} {k:Nat} {X w3:World} {v v' : Value} (j:LyJ B w h g room N l C k X) (hC:CellsOf C X) (hv:X.heap[w.heap.size+1]? = some (.cells #[v] 33 (0,0))) (h2:Row (w.heap.size+3) X v (layF N (l.drop (l.length-k))).2.reverse) (h3:∀ q,v.ownBlock=some q→¬ C q)
  (hr:Row (w.heap.size+3) w3 v' (layF N (l.drop (l.length-(k+1)))).2.reverse) (hp:HpB (fun b=>(B b∧b<w.heap.size)∨(w.heap.size≤b∧v'.ownBlock≠some b)) w3 h g room (layF N (l.drop (l.length-(k+1)))).1) (kp:Kept (fun q=>v.ownBlock=some q∨q=h∨q=g) X w3) (hat:∀ q,v'.ownBlock=some q→v.ownBlock=some q∨X.heap.size≤q) :
  w3.heap[w.heap.size+1]? = some (.cells #[v] 33 (0,0))∧LyJ B w h g room N l C (k+1) (w3.setCell ⟨w.heap.size+1,0,none⟩ v')∧∀ D,RndC D C X (w3.setCell ⟨w.heap.size+1,0,none⟩ v'):=by
 obtain ⟨lh,lg⟩:=j.lt
 have ob:∀ q,v.ownBlock=some q→w.heap.size+3≤q:=fun q e=>(h2.own_int e).1
 have n1:∀ i,w.heap.size≤i→i<w.heap.size+3→¬ (v.ownBlock=some i∨i=h∨i=g):=fun i h1 hi e=>by
  rcases e with e | e | e
  ·have:=ob i e;omega
  ·omega
  ·omega
 have q2:=kp.at hv (n1 _ (by omega) (by omega))
 have ks:Kept (fun q=>q=w.heap.size+1) w3 (w3.setCell ⟨w.heap.size+1,0,none⟩ v'):=Kept.setCell (S:=fun q=>q=w.heap.size+1) (Kept.refl _ _) (p:=⟨w.heap.size+1,0,none⟩) (fun _=>rfl) _
 have ni:∀ q,q=w.heap.size+1→NotI w3 q:=fun q e cur hc=>by rw [e,q2] at hc;cases hc
 refine ⟨q2,⟨⟨v', ?_,ks.row hr (fun q e s=>?_),fun q e hc=>?_,hp.kept ks (by omega) (by omega) (fun q _ s=>ni q s)⟩,ks.at (kp.at j.bx (n1 _ (by omega) (by omega))) (by omega),?_,j.no,j.lt⟩,fun D=>⟨⟨?_,fun i o hD hi ho=>?_⟩,?_⟩⟩
 ·have:=setAt q2 0 v'
  simpa using this
 ·have:=(hr.own_int e).1;omega
 ·rcases hat q e with q1 | q1
  ·exact h3 q q1 hc
  ·obtain ⟨cs,t,fr,q2⟩:=hC q hc
   have:=lt_of_at q2
   omega
 ·exact (j.kp.trans kp (fun i hi e=>by
   rcases e with e | e
   ·have:=ob i e;omega
   ·exact e)).trans ks (fun i hi e=>by omega)
 ·exact Nat.le_trans kp.size ks.size
 ·obtain ⟨_,_,_,_,h4⟩:=j.ex
  obtain ⟨cs,q1,_⟩:=h4.blk
  have hn1:¬ (v.ownBlock=some i∨i=h∨i=g):=fun e=>by
   rcases e with e | e | e
   ·obtain ⟨_,cur,hc⟩:=h2.own_int e
    rw [hi] at hc;cases hc;cases ho
   ·rw [e,h4.box] at hi;cases hi;cases ho
   ·rw [e,q1] at hi;cases hi;cases ho
  have hn2:i≠w.heap.size+1:=fun e=>by rw [e,hv] at hi;cases hi;cases ho
  exact ks.at (kp.at hi hn1) hn2
 ·exact (kp.mono (fun i _ e=>by
   rcases e with e | e | e
   ·exact h3 i e
   ·rw [e];exact j.no.2.1
   ·rw [e];exact j.no.2.2)).trans ks (fun i _ e hc=>by have e' : i=w.heap.size+1:=e;rw [e'] at hc;exact j.no.1 hc)
theorem drop_last {l:List Tg} {k:Nat} (hk:k<l.length):l.drop (l.length-(k+1))=l[l.length-1-k] :: l.drop (l.length-k):=by
 have e:l.length-(k+1)=l.length-1-k:=by omega
 have e2:l.length-k=l.length-1-k+1:=by omega
 rw [e,e2]
 exact List.drop_eq_getElem_cons (by omega)
end Go.Proofs.YtpimndkhoalaeaaGreat
namespace Go.Proofs.YtpimndkhoalaeaaGreat
set_option maxRecDepth 100000
set_option linter.unusedVariables false
open Go.RowKit Go.Shelf
attribute [local go_sem] Oper.semAt_some
theorem rev_snoc {S:List Int} {m a:Nat} (h:S.length=m+a):S.reverse.take m=(S.drop a).reverse:=by
 rw [List.take_reverse]
 congr 2
 omega
theorem rev_args {S:List Int} {m a:Nat} (h:S.length=m+a):(S.reverse.drop m).reverse=S.take a:=by
 rw [List.drop_reverse,List.reverse_reverse]
 congr 1
 omega
theorem TgB.ne {B:Nat→Prop} {w:World} {h g room b:Nat} {N:List Nd} {l:List Tg} (pt:TgB w b l) (p:HpB B w h g room N):b≠h∧b≠g:=by
 obtain ⟨cs,q1,_⟩:=pt
 obtain ⟨cs', q2,_⟩:=p.blk
 refine ⟨fun e=>?_,fun e=>?_⟩
 ·rw [e,p.box] at q1;cases q1
 ·rw [e,q2] at q1;cases q1
theorem TgB.lt {w:World} {b:Nat} {l:List Tg} (pt:TgB w b l):b<w.heap.size:=by
 obtain ⟨cs,q1,_⟩:=pt
 exact lt_of_at q1
set_option maxHeartbeats 4000000 in
theorem lay_any {B:Nat→Prop} {w:World} {h g room:Nat} {N:List Nd} {l:List Tg} (p:HpB B w h g room N) {b:Nat} (cap:Nat) (pt:TgB w b l) (h1:oneT 1 l=true) (ho:∀ x∈l,TgOk N.length x) (hrm:N.length+newN l≤room) (hl:l.length≤10000000000000) :
  Calls Tryz.prog 42 #[.pointer (some ⟨h,0,none⟩),.slice (some ⟨b,0,none⟩) l.length cap] w fun e w' => ∃ a:Nat,e=.returned (.int .i64 (a:Int))∧(layF N l).2=[(a:Int)]∧HpB (fun b=>B b∨w.heap.size≤b) w' h g room (layF N l).1∧Kept (fun k=>k=h∨k=g) w w' := by
 have hFn:∀ k,Fence.wide.fn k:=fun _=>trivial
 obtain ⟨nb1,nb2⟩:=pt.ne p
 have hbl:=pt.lt
 have lth:=p.ltH
 have ltg:=p.ltG
 obtain ⟨W0,hW0⟩:∃ W0,W0=((w.alloc (.cells #[.pointer (some ⟨h,0,none⟩)] 29)).alloc (.cells #[.slice none 0 0] 33)).alloc (.cells #[.slice (some ⟨b,0,none⟩) l.length cap] 105):=⟨_,rfl⟩
 have K0:Same0 w W0:=by rw [hW0];exact (((Kept.refl _ w).alloc _).alloc _).alloc _
 have z0:W0.heap.size=w.heap.size+3:=by rw [hW0];simp
 have b2:W0.heap[w.heap.size+1+1]? = some (.cells #[.slice (some ⟨b,0,none⟩) l.length cap] 105 (0,0)):=by
  rw [hW0]
  have:=heap_alloc_new ((w.alloc (.cells #[.pointer (some ⟨h,0,none⟩)] 29)).alloc (.cells #[.slice none 0 0] 33)) (.cells #[.slice (some ⟨b,0,none⟩) l.length cap] 105)
  simpa using this
 have b0:W0.heap[w.heap.size]? = some (.cells #[.pointer (some ⟨h,0,none⟩)] 29 (0,0)):=by
  rw [hW0,heap_alloc_old _ _ (by simp;omega),heap_alloc_old _ _ (by simp)];exact heap_alloc_new w _
 have b1:W0.heap[w.heap.size+1]? = some (.cells #[.slice none 0 0] 33 (0,0)):=by
  rw [hW0,heap_alloc_old _ _ (by simp)]
  have:=heap_alloc_new (w.alloc (.cells #[.pointer (some ⟨h,0,none⟩)] 29)) (.cells #[.slice none 0 0] 33)
  simpa using this
 have p0:HpB (fun b=>(B b∧b<w.heap.size)∨(w.heap.size≤b∧(Value.slice none 0 0).ownBlock≠some b)) W0 h g room N:=(p.mono (B' := fun b=>(B b∧b<w.heap.size)∨(w.heap.size≤b∧(Value.slice none 0 0).ownBlock≠some b)) (fun k hk _ hb=>.inl ⟨hb,hk⟩)).same K0
 have pt0:=pt.same K0
 refine (callsIn_wide (n:=9)).1 ?_
 refine callsIn_of_wp_marks Tryz.func42 rfl trivial ?_ rfl
 simp only [Tryz.ntmps42,List.size_toArray,List.length_cons,List.length_nil,Nat.reduceAdd,Nat.reduceSub,Array.replicate_succ,Array.replicate_zero,List.push_toArray,List.append_toArray,List.nil_append,List.cons_append]
 gi_wp2_with (gi_at_call 75;refine (back_in Fence.wide _ trivial rfl _ _ _ _).mono ?_;rintro e w' ⟨rfl,rfl⟩)
 rw [← hW0]
 clear hW0
 have START:∀ C X,Same0 W0 X→CellsOf C X→(∀ i,C i→W0.heap.size≤i∨i=w.heap.size+1+1∨i=b)→LyJ B w h g room N l C 0 X:=fun C X hk _ hc=>
  ⟨⟨.slice none 0 0,hk.at0 b1,by simp [layF];exact World.ownsRow_nil _ _ _ _,(fun q e=>by cases e),by simpa [layF] using p0.same hk⟩,hk.at0 b0,(K0.trans' hk).mono (fun _ _ f=>f.elim),⟨fun q=>by have:=hc _ q;omega,fun q=>by have:=hc _ q;omega,fun q=>by have:=hc _ q;omega⟩,lth,ltg⟩
 refine wp_handsC rfl (by omega) (gf:=97) (lb:=#[.pointer (some ⟨w.heap.size+1+1,0,none⟩)]) rfl trivial (enters_of Tryz.func97 (by kernel_rfl) rfl) (hands_back pt0 b2 (by omega) (by omega)) (fun k vs W h=>by obtain ⟨_,rfl⟩:=h;rfl)
  (LyJ B w h g room N l) (fun C k X Y h hk=>h.same hk) (fun C k X r o o' h hl ho hw=>h.put hl ho (by omega)) START (fun _=>False) (fun _ _ h=>h.elim) (fun _ _ _ _ h=>h.elim) ?round ?done ?stop
 case stop=>exact fun _ _ _ h=>h.elim
 case done=>
  rintro D W hD ⟨C,hj⟩ hD2
  obtain ⟨v,q1,q2,q3,q4⟩:=hj.ex
  rw [Nat.sub_self,List.drop_zero] at q2 q4
  obtain ⟨a,ea,ha⟩:=lay_one h1 ho
  have q2' : Row (w.heap.size+3) W v [(a:Int)]:=by rw [ea] at q2;exact q2
  obtain ⟨vo,vc,hv,vi,vl,_⟩:=q2'.ints
  subst hv
  obtain ⟨vb,voff,rfl,hvb,hvc⟩:=vi.get (i:=0) (by simp)
  have v2:=cellAt q1 0
  simp only [List.getElem?_toArray,List.getElem?_cons_zero,List.length_cons,List.length_nil,Nat.zero_add] at v2
  simp only [List.getElem_cons_zero,Nat.add_zero] at hvc
  have FIN:Hid (HpB (fun b=>B b∨w.heap.size≤b) (W.putObj D (.deferred none)) h g room (layF N l).1∧Kept (fun k=>k=h∨k=g) w (W.putObj D (.deferred none))):=by
   have kk:Kept (fun k=>k=D) W (W.putObj D (.deferred none)):=kept_putH
   have hpk:=q4.kept kk (by omega) (by omega) (fun q _ s cur hc=>rec_not hD2 rfl hc s)
   exact ⟨hpk.mono (fun k _ _ e=>e.elim (fun e=>.inl e.1) (fun e=>.inr e.1)),hj.kp.trans kk (fun i hi e=>by have e' : i=D:=e;omega)⟩
  clear q1 q2 q3 q4 q2' hj START
  gi_wp2_with fail
  refine ⟨by simp,.inl ⟨_,_,rfl,run_takeDeferred hD2,?_⟩⟩
  refine ⟨.int .i64 (a:Int),by simp [results,Tryz.results42,go_sem],a,rfl,ea,FIN.out.1,FIN.out.2⟩
 case round=>
  rintro r C k vs W hk hr' hrW hcc hj ⟨hkl,rfl⟩
  have hxm:=List.getElem_mem hkl
  have hxo:=ho _ hxm
  have ED:=drop_last hk
  have hsub:∀ y∈l.drop (l.length-(k+1)),TgOk N.length y:=fun y hy=>ho y (List.mem_of_mem_drop hy)
  obtain ⟨k', hone⟩:=one_drop h1 (l.length-(k+1))
  have hroom:N.length+newN (l.drop (l.length-(k+1)))≤room:=Nat.le_trans (Nat.add_le_add_left (newN_drop l _) _) hrm
  have hshort:(layF N (l.drop (l.length-k))).2.length≤l.length:=by have:=lay_short N (l.drop (l.length-k));simp at this;omega
  rw [ED] at hsub hone hroom
  generalize l[l.length-1-k]=x at *
  simp only [tgV]
  obtain ⟨Wa,hWa⟩:∃ Wa,Wa=W.alloc (.cells #[.bool x.1,.int .i64 x.2.1,.int .i64 x.2.2.1,.int .i64 x.2.2.2] 148):=⟨_,rfl⟩
  have ka:Same0 W Wa:=by rw [hWa];exact (Kept.refl _ _).alloc _
  have bx:Wa.heap[W.heap.size]? = some (.cells #[.bool x.1,.int .i64 x.2.1,.int .i64 x.2.2.1,.int .i64 x.2.2.2] 148 (0,0)):=by rw [hWa];exact heap_alloc_new _ _
  gi_wp2_with fail
  rw [← hWa]
  clear hWa
  refine ⟨RndC.same ka,fun o o' ho' hoc hoc' => ?_⟩
  have hjb:=(hj.same ka).put (o' := o') ho' hoc (by omega)
  have hccb:=(hcc.same ka).kept ((hcc.same ka).put (o' := o') ho' hoc)
  have bxb:=putObj_at (o' := o') ho' hoc bx rfl
  obtain ⟨Wb,hWb⟩:∃ Wb,Wb=Wa.putObj r o' := ⟨_,rfl⟩
  rw [← hWb] at hjb hccb bxb ⊢
  have hzb:W0.heap.size≤Wb.heap.size:=by have h1:=ka.size;rw [hWb];simp;omega
  clear hWb ho' bx hj ka hcc hxm
  have x0:=cellAt bxb 0
  have x1:=cellAt bxb 1
  have x2:=cellAt bxb 2
  have x3:=cellAt bxb 3
  obtain ⟨v,v1,v2,v3,v4⟩:=hjb.ex
  have c2:=cellAt v1 0
  simp only [List.getElem?_toArray,List.getElem?_cons_zero,List.getElem?_cons_succ] at c2 x0 x1 x2 x3
  obtain ⟨vo,vc,rfl⟩:=row_shape v2
  obtain ⟨i0,hi0,hz0,hz1,hz2⟩:=info_parts info_intT
  cases hx:x.1
  ·rw [hx] at x0 bxb
   have EL:layF N (l.drop (l.length-(k+1)))=((layF N (l.drop (l.length-k))).1,x.2.2.2 :: (layF N (l.drop (l.length-k))).2):=by rw [ED];exact lay_old N _ hx
   have MORE:Hid (∀ w2 v', w2.ownsRow (w.heap.size+3) 3 1 v' ((layF N (l.drop (l.length-k))).2.reverse.length+1) (iv (layF N (l.drop (l.length-k))).2.reverse ++ [.int .i64 x.2.2.2])→Kept (fun q=>(Value.slice vo (layF N (l.drop (l.length-k))).2.reverse.length vc).ownBlock=some q) Wb w2→(∀ q,v'.ownBlock=some q→(Value.slice vo (layF N (l.drop (l.length-k))).2.reverse.length vc).ownBlock=some q∨Wb.heap.size≤q)→(w2.cell? ⟨w.heap.size+1,0,none⟩=some (.slice vo (layF N (l.drop (l.length-k))).2.reverse.length vc)∧w2.frozen? ⟨w.heap.size+1,0,none⟩=false)∧LyJ B w h g room N l C (k+1) (w2.setCell ⟨w.heap.size+1,0,none⟩ v')∧RndC W0.heap.size C Wb (w2.setCell ⟨w.heap.size+1,0,none⟩ v')):=fun w2 v' hr hkp hat=>by
    have hr2:Row (w.heap.size+3) w2 v' (layF N (l.drop (l.length-(k+1)))).2.reverse:=by
     rw [EL]
     unfold Row
     rw [List.reverse_cons,iv_append,List.length_append]
     exact hr
    have hob:∀ q,(Value.slice vo (layF N (l.drop (l.length-k))).2.reverse.length vc).ownBlock=some q→w.heap.size+3≤q:=fun q e=>(v2.own_int e).1
    have p1:=v4.mono (B' := fun b=>((B b∧b<w.heap.size)∨(w.heap.size≤b∧(Value.slice vo (layF N (l.drop (l.length-k))).2.reverse.length vc).ownBlock≠some b))∧b<Wb.heap.size) (fun q hq _ e=>⟨e,hq⟩)
    have p2:=p1.kept hkp (fun e=>by have:=hob _ e;omega) (fun e=>by have:=hob _ e;omega) (fun q e s=>by
     rcases e.1 with e1 | e1
     ·have:=hob _ s;omega
     ·exact absurd s e1.2)
    have p3:HpB (fun b=>(B b∧b<w.heap.size)∨(w.heap.size≤b∧v'.ownBlock≠some b)) w2 h g room (layF N (l.drop (l.length-(k+1)))).1:=by
     rw [EL]
     refine p2.mono (fun q _ _ e=>?_)
     rcases e.1 with e1 | e1
     ·exact .inl e1
     ·refine .inr ⟨e1.1,fun s=>?_⟩
      rcases hat q s with t | t
      ·exact e1.2 t
      ·omega
    obtain ⟨t1,t2,t3⟩:=hjb.next hccb v1 v2 v3 hr2 p3 (hkp.mono (fun _ _ e=>.inl e)) hat
    exact ⟨⟨cellAt t1 0,frozenAt t1 0⟩,t2,t3 _⟩
   have HOW:Hid (Wb.ownsRow (w.heap.size+3) 3 1 (.slice vo (layF N (l.drop (l.length-k))).2.reverse.length vc) (layF N (l.drop (l.length-k))).2.reverse.length (iv (layF N (l.drop (l.length-k))).2.reverse)):=v2
   have hlr:(layF N (l.drop (l.length-k))).2.reverse.length≤10000000000000:=by simp;omega
   clear EL hjb hccb bxb v1 v2 v3 v4 START ED
   generalize (layF N (l.drop (l.length-k))).2.reverse=xs at *
   have bb1:xs.length+1≤maxLen:=by unfold maxLen;omega
   have bb2:(xs.length+1) * 8≤140737488355328:=by omega
   have bb3:w.heap.size+3≤(Wb.alloc (.cells #[.int .i64 x.2.2.2] 3)).heap.size:=by simp;omega
   have HNW:Hid (∀ j u,[Value.int .i64 x.2.2.2][j]? = some u→(Wb.alloc (.cells #[.int .i64 x.2.2.2] 3)).cell? ((⟨Wb.heap.size,0,none⟩:Addr).add j)=some u):=World.news_of_block (cs:=#[.int .i64 x.2.2.2]) (t:=3) (fr:=(0,0)) (heap_alloc_new Wb _)
   have HON:Hid (∀ u∈[Value.int .i64 x.2.2.2],u.oneCell' = true):=by (show ∀ u∈_,_);intro u hu;simp at hu;rcases hu with rfl;rfl
   gi_wp2_with (gi_at_builtin;refine wpListIn_append_own_at _ rfl _ _ 33 rfl (w.heap.size+3) 3 i0 _ 1 8 Tryz.underlying33 hi0 hz0 hz1 hz2 rfl (by decide) (.slice vo xs.length vc) xs.length _ rfl (World.ownsRow.alloc HOW.out _) ⟨Wb.heap.size,0,none⟩ 1 1 _ rfl rfl HNW.out HON.out bb1 bb2 bb3 ?_;intro v' w2 hown' hgrow _ hat;obtain ⟨o9,c9,rfl⟩:=row_shape hown'; obtain ⟨⟨m1,m2⟩,m3,m4⟩:=MORE.out w2 _ hown' (Kept.grown (Kept.alloc (Kept.refl _ Wb) _) hgrow (fun _ e _=>e)) (fun q e=>by rcases hat with t | t; (rw [t] at e;exact .inl e); (rw [t] at e;right;have:=Option.some.inj e;simp at this;omega)))
   first | exact m4 | (rw [← z0];exact m4) | (rw [z0] at m4;exact m4)
  ·rw [hx] at x0 bxb
   obtain ⟨f1,f2,f3⟩:=lay_fits hone hsub hroom hx
   have EL:layF N (l.drop (l.length-(k+1)))=((layF N (l.drop (l.length-k))).1 ++ [(x.2.1,(layF N (l.drop (l.length-k))).2.take (arT x),0,false,0)],((layF N (l.drop (l.length-k))).1.length:Int) :: (layF N (l.drop (l.length-k))).2.drop (arT x)):=by rw [ED];exact lay_new N _ hx
   have ea:x.2.2.1=((arT x:Nat):Int):=by unfold arT;have:=hxo.1;omega
   rw [ea] at x2 bxb
   generalize arT x=a at *
   generalize EN:layF N (l.drop (l.length-k))=NS at *
   obtain ⟨N1,S1⟩:=NS
   simp only at *
   obtain ⟨m,hm⟩:∃ m,S1.length=m+a:=⟨S1.length-a,by omega⟩
   have hn:S1.reverse.length=m+a:=by simp [hm]
   have hargs:=rev_args hm
   have htop:=rev_snoc hm
   have CR0:=rev_row v2 m a hn f2 _ rfl
   rw [hargs,htop] at CR0
   rw [hn] at CR0 c2 v1 v2 v3 v4
   have hob:∀ q,(Value.slice vo (m+a) vc).ownBlock=some q→w.heap.size+3≤q∧q<Wb.heap.size∧∃ cur,Wb.heap[q]? = some (.cells cur 3 (0,0)):=fun q e=>by
    obtain ⟨t1,cur,t2⟩:=v2.own_int e
    exact ⟨t1,lt_of_at t2,cur,t2⟩
   have hownE:∀ n' q,(Value.slice vo n' vc).ownBlock=some q→(Value.slice vo (m+a) vc).ownBlock=some q:=fun n' q e=>by
    cases vo <;> exact e
   have hml:(S1.take a).length=a:=by simp;omega
   have hla:(List.reverse (S1.drop a)).length=m:=by simp;omega
   have STG1:Hid (∀ w1,Kept (fun k=>(Value.slice vo (m+a) vc).ownBlock=some k) Wb w1→w1.cell? ⟨w.heap.size,0,none⟩=some (.pointer (some ⟨h,0,none⟩))∧w1.cell? ⟨W.heap.size,1,none⟩=some (.int .i64 x.2.1)∧w1.cell? ⟨w.heap.size+1,0,none⟩=some (.slice vo (m+a) vc)∧HpB (fun b=>((B b∧b<w.heap.size)∨(w.heap.size≤b∧(Value.slice vo (m+a) vc).ownBlock≠some b))∧b<Wb.heap.size) w1 h g room N1):=fun w1 k1=>by
    have p1:=v4.mono (B' := fun b=>((B b∧b<w.heap.size)∨(w.heap.size≤b∧(Value.slice vo (m+a) vc).ownBlock≠some b))∧b<Wb.heap.size) (fun q hq _ e=>⟨e,hq⟩)
    refine ⟨cellAt (k1.at hjb.bx (fun e=>by have:=hob _ e;omega)) 0,cellAt (k1.at bxb (fun e=>?_)) 1,cellAt (k1.at v1 (fun e=>by have:=hob _ e;omega)) 0,p1.kept k1 (fun e=>by have:=hob _ e;omega) (fun e=>by have:=hob _ e;omega) (fun q e s=>?_)⟩
    ·obtain ⟨_,_,cur,t⟩:=hob _ e
     rw [bxb] at t;cases t
    ·rcases e.1 with e1 | e1
     ·have:=hob _ s;omega
     ·exact absurd s e1.2
   have STG2:Hid (∀ w1 w2,Kept (fun k=>(Value.slice vo (m+a) vc).ownBlock=some k) Wb w1→Row (w.heap.size+3) w1 (.slice vo m vc) (S1.drop a).reverse→Kept (fun k=>k=h∨k=g) w1 w2→w2.cell? ⟨w.heap.size+1,0,none⟩=some (.slice vo (m+a) vc)∧w2.ownsRow (w.heap.size+3) 3 1 (.slice vo m vc) m (iv (S1.drop a).reverse)∧w.heap.size+3≤w2.heap.size):=fun w1 w2 k1 r1 k2=>by
    have z1:=k1.size
    have z2:=k2.size
    refine ⟨cellAt (k2.at (k1.at v1 (fun e=>by have:=hob _ e;omega)) (by omega)) 0,?_,by omega⟩
    have:=k2.row r1 (fun q e s=>by have:=(hob q (hownE _ _ e)).1;omega)
    rw [hla] at this
    exact this
   have STG3:Hid (∀ w1 w2 w3 v', Kept (fun k=>(Value.slice vo (m+a) vc).ownBlock=some k) Wb w1→HpB (fun b=>(((B b∧b<w.heap.size)∨(w.heap.size≤b∧(Value.slice vo (m+a) vc).ownBlock≠some b))∧b<Wb.heap.size)∨w1.heap.size≤b) w2 h g room (N1 ++ [(x.2.1,S1.take a,0,false,0)])→Kept (fun k=>k=h∨k=g) w1 w2→w3.ownsRow (w.heap.size+3) 3 1 v' (m+1) (iv (S1.drop a).reverse ++ [.int .i64 (N1.length:Int)])→Kept (fun q=>(Value.slice vo m vc).ownBlock=some q) w2 w3→(∀ q,v'.ownBlock=some q→(Value.slice vo m vc).ownBlock=some q∨w2.heap.size≤q)→(w3.cell? ⟨w.heap.size+1,0,none⟩=some (.slice vo (m+a) vc)∧w3.frozen? ⟨w.heap.size+1,0,none⟩=false)∧LyJ B w h g room N l C (k+1) (w3.setCell ⟨w.heap.size+1,0,none⟩ v')∧RndC W0.heap.size C Wb (w3.setCell ⟨w.heap.size+1,0,none⟩ v')):=fun w1 w2 w3 v' k1 p2 k2 hr k3 hat=>by
    have z1:=k1.size
    have z2:=k2.size
    have z3:=k3.size
    have hr2:Row (w.heap.size+3) w3 v' (layF N (l.drop (l.length-(k+1)))).2.reverse:=by
     rw [EL]
     unfold Row
     rw [List.reverse_cons,iv_append,List.length_append,hla]
     exact hr
    have p3:=(p2.mono (B' := fun b=>((((B b∧b<w.heap.size)∨(w.heap.size≤b∧(Value.slice vo (m+a) vc).ownBlock≠some b))∧b<Wb.heap.size)∨w1.heap.size≤b)∧b<w2.heap.size) (fun q hq _ e=>⟨e,hq⟩)).kept k3 (fun e=>by have:=hob _ (hownE _ _ e);omega) (fun e=>by have:=hob _ (hownE _ _ e);omega) (fun q e s=>by
     have s' := hob _ (hownE _ _ s)
     rcases e.1 with e1 | e1
     ·rcases e1.1 with e2 | e2
      ·omega
      ·exact absurd (hownE _ _ s) e2.2
     ·omega)
    have p4:HpB (fun b=>(B b∧b<w.heap.size)∨(w.heap.size≤b∧v'.ownBlock≠some b)) w3 h g room (layF N (l.drop (l.length-(k+1)))).1:=by
     rw [EL]
     refine p3.mono (fun q _ _ e=>?_)
     rcases e.1 with e1 | e1
     ·rcases e1.1 with e2 | e2
      ·exact .inl e2
      ·refine .inr ⟨e2.1,fun s=>?_⟩
       rcases hat q s with t | t
       ·exact e2.2 (hownE _ _ t)
       ·omega
     ·refine .inr ⟨by omega,fun s=>?_⟩
      rcases hat q s with t | t
      ·have:=hob _ (hownE _ _ t);omega
      ·omega
    have v2' : Row (w.heap.size+3) Wb (.slice vo (m+a) vc) (layF N (l.drop (l.length-k))).2.reverse:=by rw [EN];exact v2
    obtain ⟨t1,t2,t3⟩:=hjb.next hccb v1 v2' v3 hr2 p4 (((k1.mono (fun _ _ e=>.inl e)).trans (k2.mono (fun _ _ e=>.inr e)) (fun _ _ e=>e)).trans (S' := fun q=>(Value.slice vo m vc).ownBlock=some q) k3 (fun q _ e=>.inl (hownE _ _ e))) (fun q e=>(hat q e).imp (fun t=>hownE _ _ t) (fun t=>by omega))
    exact ⟨⟨cellAt t1 0,frozenAt t1 0⟩,t2,t3 _⟩
   have hS1:S1.length≤10000000000000:=by omega
   have i1:(0:Int)≤(m:Int):=by omega
   have i2:(m:Int)≤((m+a:Nat):Int):=by omega
   have hvc:m+a≤vc:=by
    rcases v2.2 with ⟨e2,h0⟩ | ⟨g', cap', cur', e2,hb', hg', hle', _⟩
    ·simp only [Value.slice.injEq] at e2;omega
    ·simp only [Value.slice.injEq] at e2;obtain ⟨_,e3,e4⟩:=e2;omega
   have i3:(m:Int)≤(vc:Int):=by omega
   have bb1:m+1≤maxLen:=by unfold maxLen;omega
   have bb2:(m+1) * 8≤140737488355328:=by omega
   have HML:Hid ((S1.take a).length=a):=hml
   have HF3:Hid (mkE N1 room x.2.1 (S1.take a)=0):=f3
   clear EL hjb hccb bxb v1 v2 v3 v4 START ED hownE hob EN hm hn hargs htop hml hla f1 f3 hone hsub hroom hshort hxo ea hx h1 ho hrm hl
   have HON:Hid (∀ u∈[Value.int .i64 (N1.length:Int)],u.oneCell' = true):=by (show ∀ u∈_,_);intro u hu;simp at hu;rcases hu with rfl;rfl
   by_cases hvm:vc=m
   ·rw [if_pos hvm] at CR0
    have hvm2:=hvm.symm
    clear hvc
    subst hvm2
    clear hvm
    rw [Nat.sub_self] at CR0
    gi_wp2_with (first
     | (gi_at_call 76;refine (CallsIn.inRound r (callsIn_wide.2 CR0)).mono ?_;rintro e w1 ⟨rfl,ha1,hr1,k1⟩;obtain ⟨d1,d2,d3,hp1⟩:=STG1.out w1 k1;have CM:=make_yes hp1 x.2.1 ha1 HF3.out;rw [HML.out] at CM;clear c2 x0 x1 x2 x3 CR0)
     | (gi_at_call 30;refine (CallsIn.inRound r (callsIn_wide.2 CM)).mono ?_;rintro e w2 ⟨rfl,hp2,k2⟩;obtain ⟨e1,e2,e3⟩:=STG2.out w1 w2 k1 hr1 k2;have HNW:Hid (∀ j u,[Value.int .i64 (N1.length:Int)][j]? = some u→(w2.alloc (.cells #[.int .i64 (N1.length:Int)] 3)).cell? ((⟨w2.heap.size,0,none⟩:Addr).add j)=some u):=World.news_of_block (cs:=#[.int .i64 (N1.length:Int)]) (t:=3) (fr:=(0,0)) (heap_alloc_new w2 _);have bb3:w.heap.size+3≤(w2.alloc (.cells #[.int .i64 (N1.length:Int)] 3)).heap.size:=(by simp;omega);clear d1 d2 d3 CM)
     | (gi_at_builtin;refine wpListIn_append_own_at _ rfl _ _ 33 rfl (w.heap.size+3) 3 i0 _ 1 8 Tryz.underlying33 hi0 hz0 hz1 hz2 rfl (by decide) (.slice vo m m) m _ rfl (World.ownsRow.alloc e2 _) ⟨w2.heap.size,0,none⟩ 1 1 _ rfl rfl HNW.out HON.out bb1 bb2 bb3 ?_;intro v' w3 hown' hgrow _ hat;obtain ⟨o9,c9,rfl⟩:=row_shape hown'; obtain ⟨⟨m1,m2⟩,m3,m4⟩:=STG3.out w1 w2 w3 _ k1 hp2 k2 hown' (Kept.grown (Kept.alloc (Kept.refl _ w2) _) hgrow (fun _ e _=>e)) (fun q e=>by rcases hat with t | t; (rw [t] at e;exact .inl e); (rw [t] at e;right;have:=Option.some.inj e;simp at this;omega))))
    first | exact m4 | (rw [← z0];exact m4) | (rw [z0] at m4;exact m4)
   ·rw [if_neg hvm] at CR0
    gi_wp2_with (first
     | (gi_at_call 76;refine (CallsIn.inRound r (callsIn_wide.2 CR0)).mono ?_;rintro e w1 ⟨rfl,ha1,hr1,k1⟩;obtain ⟨d1,d2,d3,hp1⟩:=STG1.out w1 k1;have CM:=make_yes hp1 x.2.1 ha1 HF3.out;rw [HML.out] at CM;clear c2 x0 x1 x2 x3 CR0)
     | (gi_at_call 30;refine (CallsIn.inRound r (callsIn_wide.2 CM)).mono ?_;rintro e w2 ⟨rfl,hp2,k2⟩;obtain ⟨e1,e2,e3⟩:=STG2.out w1 w2 k1 hr1 k2;have HNW:Hid (∀ j u,[Value.int .i64 (N1.length:Int)][j]? = some u→(w2.alloc (.cells #[.int .i64 (N1.length:Int)] 3)).cell? ((⟨w2.heap.size,0,none⟩:Addr).add j)=some u):=World.news_of_block (cs:=#[.int .i64 (N1.length:Int)]) (t:=3) (fr:=(0,0)) (heap_alloc_new w2 _);have bb3:w.heap.size+3≤(w2.alloc (.cells #[.int .i64 (N1.length:Int)] 3)).heap.size:=(by simp;omega);clear d1 d2 d3 CM)
     | (gi_at_builtin;refine wpListIn_append_own_at _ rfl _ _ 33 rfl (w.heap.size+3) 3 i0 _ 1 8 Tryz.underlying33 hi0 hz0 hz1 hz2 rfl (by decide) (.slice vo m vc) m _ rfl (World.ownsRow.alloc e2 _) ⟨w2.heap.size,0,none⟩ 1 1 _ rfl rfl HNW.out HON.out bb1 bb2 bb3 ?_;intro v' w3 hown' hgrow _ hat;obtain ⟨o9,c9,rfl⟩:=row_shape hown'; obtain ⟨⟨m1,m2⟩,m3,m4⟩:=STG3.out w1 w2 w3 _ k1 hp2 k2 hown' (Kept.grown (Kept.alloc (Kept.refl _ w2) _) hgrow (fun _ e _=>e)) (fun q e=>by rcases hat with t | t; (rw [t] at e;exact .inl e); (rw [t] at e;right;have:=Option.some.inj e;simp at this;omega))))
    first | exact m4 | (rw [← z0];exact m4) | (rw [z0] at m4;exact m4)
end Go.Proofs.YtpimndkhoalaeaaGreat
namespace Go.Proofs.YtpimndkhoalaeaaGreat
set_option linter.unusedVariables false
def vstep (o:List Int) (x:Int):List Int:=if isV x=true∧¬ (-x)∈o then o ++ [-x] else o
def vs (o:List Int) (t:List Int):List Int:=t.foldl vstep o
def varsL (t:List Int):List Int:=vs [] t
theorem vs_snoc (o a:List Int) (x:Int):vs o (a ++ [x])=vstep (vs o a) x:=by simp [vs]
theorem vs_take {o t:List Int} {k:Nat} (h:k<t.length):vs o (t.take (k+1))=vstep (vs o (t.take k)) t[k]:=by
 rw [List.take_add_one,List.getElem?_eq_getElem h];exact vs_snoc _ _ _
theorem isV_iff {x:Int}:isV x=true ↔ -99≤x∧x ≤ -1:=by simp [isV]
theorem vs_len (o t:List Int):(vs o t).length≤o.length+t.length:=by
 induction t generalizing o with
 | nil=>simp [vs]
 | cons x r ih=>
  have:=ih (vstep o x)
  have h2:(vstep o x).length≤o.length+1:=by unfold vstep;split <;> simp
  simp only [vs,List.foldl_cons,List.length_cons] at *
  omega
def pl (o:List Int) (x:Int):Int:=if isV x=true then -((o.idxOf (-x):Int)+1) else x
end Go.Proofs.YtpimndkhoalaeaaGreat
namespace Go.Proofs.YtpimndkhoalaeaaGreat
set_option linter.unusedVariables false
open Go.RowKit
attribute [local go_sem ↓] Go.wp_at_zero Go.wp_at_succ
def inB (l:List Int) (n:Int):Bool:=decide (n∈l)
theorem vstep_yes {o:List Int} {x:Int} (h1:isV x=true) (h2:inB o (-x)=false):vstep o x=o ++ [-x]:=by
 rw [vstep,if_pos ⟨h1,by simpa [inB] using h2⟩]
theorem vstep_in {o:List Int} {x:Int} (h2:inB o (-x)=true):vstep o x=o:=by
 rw [vstep,if_neg (by simp [inB] at h2;simp [h2])]
theorem vstep_no {o:List Int} {x:Int} (h1:isV x=false):vstep o x=o:=by
 rw [vstep,if_neg (by simp [h1])]
theorem zeros_bool:Tryz.zeroCells143=Array.replicate 100 (.bool false):=by kernel_rfl
def MetAt (w:World) (A:Nat) (o:List Int):Prop:=∃ cs,w.heap[A]? = some (.cells cs 143 (0,0))∧cs.size=100∧∀ v:Nat,1≤v→v≤99→cs[v]? = some (.bool (inB o (v:Int)))
theorem met_new (w:World):MetAt (w.alloc (.cells Tryz.zeroCells143 143)) w.heap.size []:=by
 refine ⟨_,heap_alloc_new w _,by rw [zeros_bool];simp,fun v h1 h2=>?_⟩
 rw [zeros_bool,Array.getElem?_replicate,if_pos (by omega)]
 simp [inB]
theorem MetAt.kept {w w' : World} {A:Nat} {o:List Int} {S:Nat→Prop} (h:MetAt w A o) (hk:Kept S w w') (hn:¬ S A):MetAt w' A o:=by
 obtain ⟨cs,h1,h2⟩:=h
 exact ⟨cs,hk.at h1 hn,h2⟩
theorem MetAt.cell {w:World} {A:Nat} {o:List Int} (h:MetAt w A o) {v:Nat} (h1:1≤v) (h2:v≤99):w.cell? ⟨A,v,none⟩=some (.bool (inB o (v:Int)))∧w.frozen? ⟨A,v,none⟩=false:=by
 obtain ⟨cs,q1,q2,q3⟩:=h
 exact ⟨(cellAt q1 v).trans (q3 v h1 h2),frozenAt q1 v⟩
theorem MetAt.set {w:World} {A:Nat} {o:List Int} (h:MetAt w A o) {v:Nat} (h1:1≤v) (h2:v≤99):MetAt (w.setCell ⟨A,v,none⟩ (.bool true)) A (o ++ [(v:Int)]):=by
 obtain ⟨cs,q1,q2,q3⟩:=h
 refine ⟨_,setAt q1 v _,by simpa using q2,fun u g1 g2=>?_⟩
 rw [Array.getElem?_setIfInBounds]
 by_cases e:v=u
 ·subst e;rw [if_pos rfl,if_pos (by omega)];simp [inB]
 ·rw [if_neg e,q3 u g1 g2]
  congr 2
  simp [inB];omega
set_option maxHeartbeats 4000000 in
theorem tvars_any {w:World} {ao:Option Addr} {cap:Nat} {t:List Int} (ht:IntsAt w ao t) (hm:t.length * 8≤140737488351232) :
  Calls Tryz.prog 39 #[.slice ao t.length cap] w fun e w' => ∃ v,e=.returned v∧Row w.heap.size w' v (varsL t)∧Same0 w w' := by
 have M0:=met_new w
 have K0:Same0 w (w.alloc (.cells Tryz.zeroCells143 143)):=(Kept.refl _ w).alloc _
 go_enter Tryz.func39,Tryz.ntmps39
 go_wp2
 go_loopw [4,9] (fun ov i wr=>∃ k:Nat,k≤t.length∧i=.int .i64 (k:Int)∧Row w.heap.size wr ov (varsL (t.take k))∧MetAt wr w.heap.size (varsL (t.take k))∧ov.ownBlock≠some w.heap.size∧Same0 w wr) (fun _ i _=>t.length-(intOf i).toNat)
 case atStart=>exact ⟨0,Nat.zero_le _,rfl,World.ownsRow_nil _ _ _ _,M0,by simp [Value.ownBlock],K0⟩
 case round=>
  clear M0 K0
  obtain ⟨k,hk,rfl,hr,hM,hne,hs⟩:=hrel
  obtain ⟨oo,ocap,rfl⟩:=row_shape hr
  by_cases hlt:k<t.length
  ·obtain ⟨b,off,rfl,_,hc⟩:=(ht.same hs).get hlt
   have i1:(0:Int)≤(k:Int):=by omega
   have i2:(k:Int)<(t.length:Int):=by omega
   have E:Hid (varsL (t.take (k+1))=vstep (varsL (t.take k)) t[k]):=vs_take hlt
   have hl:=vs_len [] (t.take k)
   have hl2:(varsL (t.take k)).length≤t.length:=by simp at hl;unfold varsL;omega
   have cV:=fun w' => isVariable_any t[k] w'
   clear hl
   generalize hO:varsL (t.take k)=O at *
   generalize hX:t[k]=x at *
   cases hv:isV x with
   | false=>
    have E1:Hid (varsL (t.take (k+1))=O):=by rw [E.out];exact vstep_no hv
    simp only [hv] at cV
    go_wp2_with (first | (go_at_call 73;refine (cV _).mono ?_;rintro e wr ⟨rfl,rfl⟩))
    have hrE:Row w.heap.size wr (.slice oo O.length ocap) (varsL (t.take (k+1))):=by rw [E1.out];exact hr
    have hME:MetAt wr w.heap.size (varsL (t.take (k+1))):=by rw [E1.out];exact hM
    exact ⟨⟨k+1,by omega,by go_num,hrE,hME,hne,hs⟩,by simp [intOf];omega⟩
   | true=>
    simp only [hv] at cV
    have hx:=isV_iff.1 hv
    obtain ⟨v,rfl⟩:∃ v:Nat,x = -(v:Int):=⟨(-x).toNat,by omega⟩
    have hv1:1≤v:=by omega
    have hv2:v≤99:=by omega
    obtain ⟨q1,q2⟩:=hM.cell hv1 hv2
    have j1:(0:Int)≤(v:Int):=by omega
    have j2:(v:Int)<100:=by omega
    cases hin:inB O (v:Int) with
    | true=>
     have E1:Hid (varsL (t.take (k+1))=O):=by rw [E.out];exact vstep_in (by simpa using hin)
     rw [hin] at q1
     go_wp2_with (first | (go_at_call 73;refine (cV _).mono ?_;rintro e wr ⟨rfl,rfl⟩))
     have hrE:Row w.heap.size wr (.slice oo O.length ocap) (varsL (t.take (k+1))):=by rw [E1.out];exact hr
     have hME:MetAt wr w.heap.size (varsL (t.take (k+1))):=by rw [E1.out];exact hM
     exact ⟨⟨k+1,by omega,by go_num,hrE,hME,hne,hs⟩,by simp [intOf];omega⟩
    | false=>
     have E1:Hid (varsL (t.take (k+1))=O ++ [(v:Int)]):=by show _=_;rw [E.out,vstep_yes hv (by simpa using hin)];simp
     rw [hin] at q1
     have hb8:(O.length+1) * 8≤140737488355328:=by omega
     have hMs:=hM.set hv1 hv2
     have ks:Kept (fun k=>k=w.heap.size) wr (wr.setCell ⟨w.heap.size,v,none⟩ (.bool true)):=Kept.setCell (S:=fun k=>k=w.heap.size) (p:=⟨w.heap.size,v,none⟩) (Kept.refl _ _) (fun _=>rfl) _
     have hrs:Row w.heap.size (wr.setCell ⟨w.heap.size,v,none⟩ (.bool true)) (.slice oo O.length ocap) O:=ks.row hr (fun k e e' => hne (by rw [e,e']))
     have hss:Same0 w (wr.setCell ⟨w.heap.size,v,none⟩ (.bool true)):=hs.own (Nat.le_refl _) _
     have hsz:=hss.size
     have hAl:w.heap.size<wr.heap.size:=by obtain ⟨cs,q,_⟩:=hM;exact lt_of_at q
     have E3:Hid ((wr.setCell ⟨w.heap.size,v,none⟩ (.bool true)).heap.size=wr.heap.size):=by show _=_;simp [World.setCell]
     clear hM hr
     go_wp2_with (first | (go_at_call 73;refine (cV _).mono ?_;rintro e wr ⟨rfl,rfl⟩) | (at_builtin;refine wpList_push rfl _ _ 33 rfl Tryz.underlying33 w.heap.size O (.slice oo O.length ocap) rfl hrs (v:Int) (by rw [E3.out];rfl) hsz hb8 ?_;intro g gcap w4 hr4 hk4 hat4;have hs4:=hss.onto hrs hk4))
     have hM4:MetAt w4 w.heap.size (O ++ [(v:Int)]):=hMs.kept hk4 hne
     have hne4:Value.ownBlock (.slice (some ⟨g,0,none⟩) (O.length+1) gcap)≠some w.heap.size:=by
      simp only [Value.ownBlock,ne_eq,Option.some.injEq]
      rcases hat4 with e | e
      ·intro e'; exact hne (by rw [e,e'])
      ·have e3:=E3.out
       omega
     rw [← E1.out] at hr4 hM4
     go_roundw
     case rel=>first | exact ⟨k+1,by omega,by go_num,hr4,hM4,hne4,hs4⟩ | ((repeat apply Exists.intro);exact ⟨⟨k+1,by omega,by go_num,hr4,hM4,hne4,hs4⟩,rfl⟩)
     case measure=>simp [intOf];omega
  ·obtain rfl:k=t.length:=by omega
   rw [List.take_length] at hr
   go_wp2
   go_ret
   refine ⟨_,rfl,?_,hs⟩
   simpa using hr
end Go.Proofs.YtpimndkhoalaeaaGreat
