import Derived.Test.YtmjgnfkbnofjoaaGreatDoorSW24
import Derived.Test.YtmjgnfkbnofjoaaGreatDoorSW14
import Derived.Test.YtmjgnfkbnofjoaaGreatDoorSW23
import Derived.Deep.AppendLies
import Derived.Deep.RegionHeld3
namespace Go.Proofs.YtmjgnfkbnofjoaaGreatDoor
set_option maxRecDepth 100000
set_option linter.unusedVariables false
open Go.RowKit
attribute [local go_sem ↓] Go.wp_at_zero Go.wp_at_succ
set_option maxHeartbeats 16000000 in
theorem node_branch {L:List Sym} {R:List Ru} {n:Nat} (IH:NodeIH L R n) {w:World} {rv:Value} {mo tn so:Option Addr} {tc:Nat} {t:List Int} {rows:List Rw} (h:NdD w L R (n+1) rv mo tn so tc t rows) (h0:¬ rows.length=0) {c:Nat} (hpart:partN rows (vpS L [] t).length=some c) (mc sc:Nat) :
  Calls Tryz.prog 98 #[rv,.slice mo R.length mc,.slice tn t.length tc,.slice so rows.length sc] w (NodeOut w (BrF L n (vpS L [] t) rows c)):=by
 have hne:rows≠[]:=fun e=>by rw [e] at h0;simp at h0
 have hm:t.length≤2000:=h.dn.small h.nk hne
 have hL64:=h.rl.2.2.2
 have hArs:=h.rl.2.2.1
 have hle:=h.nk.le
 have hRle:=h.le
 have hcP:=(partN_some hpart).1
 have ka:Same0 w (w.alloc zeroCs):=(Kept.refl _ w).alloc _
 obtain ⟨ro,rcap,hrv⟩:=row_shape h.rl.1
 have CP:Calls Tryz.prog 140 #[rv,.slice mo R.length mc,.slice tn t.length tc,.slice so rows.length sc] (w.alloc zeroCs) fun e w' => ∃ p:Nat,e=.returned (.int .i64 (p:Int))∧Hid (∃ hp:p<t.length,t[p]<0∧colN L t p=c)∧Same0 (w.alloc zeroCs) w' := by
  refine (place8_any (h.same ka) hm mc sc).mono ?_
  rintro e w' ⟨z,rfl,hz,hk⟩
  rcases hz.out with ⟨_,hq⟩ | ⟨p,rfl,hp,hv,hq⟩
  ·rw [hpart] at hq;cases hq
  ·rw [hpart] at hq
   cases hq
   exact ⟨p,rfl,⟨hp,hv,rfl⟩,hk⟩
 have HH:Hid (∀ ww,Same0 (w.alloc zeroCs) ww→NdD ww L R (n+1) rv mo tn so tc t rows):=fun ww hk=>h.same (ka.trans' hk)
 have PA:Hid (∀ ww (p:Nat) (hp:p<t.length),t[p]<0→colN L t p=c→Same0 (w.alloc zeroCs) ww→Calls Tryz.prog 141 #[rv,.slice tn t.length tc,.int .i64 (p:Int)] ww fun e w' => ∃ po pc,e=.returned (.slice po ((vpS L [] t).getD c []).length pc)∧Hid (Arg w' po ((vpS L [] t).getD c []) pc∧∀ a,po=some a→ww.heap.size≤a.block)∧Same0 ww w'):=fun ww p hp hv hc hk=>by
  have hg:(vpS L [] t).getD c []=firsts (way L t p):=by rw [← hc,List.getD,col_get hp hv];rfl
  have hl:(firsts (way L t p)).length≤2000:=by rw [firsts_length];have:=way_length L t p (by omega);omega
  rw [hg]
  refine (rpath_any (cap:=tc) (HH.out ww hk).rl (HH.out ww hk).ti hm h.dn.isT p hp).mono ?_
  rintro e w' ⟨v,rfl,r,k⟩
  obtain ⟨ao,ac,rfl,a1,a2⟩:=r.arg (by omega)
  exact ⟨ao,ac,rfl,⟨a1.1,a2⟩,k⟩
 have HA:Hid (∀ ww,Same0 (w.alloc zeroCs) ww→∀ (m:Nat) (hm:m<rows.length),∃ sb soff mb moff,so=some ⟨sb,soff,none⟩∧mo=some ⟨mb,moff,none⟩∧∃ j:Nat,j<R.length∧rows[m].1=(j:Int)∧(∀ w6,Same0 ww w6→w6.cell? ⟨sb,soff+m,none⟩=some (.int .i64 (j:Int)))∧∃ ao al ac,ww.cell? ⟨mb,moff+j * 2,none⟩=some (.slice ao al ac)∧∀ po pc,IntsAt ww po ((vpS L [] t).getD c [])→Calls Tryz.prog 142 #[rv,.slice ao al ac,.slice po ((vpS L [] t).getD c []).length pc] ww fun e w' => e=.returned (.int .i64 (numR rows[m] c))∧Same0 ww w'):=fun ww hk2 m hm2=>by
  obtain ⟨sb,soff,mb,moff,e1,e2,j,hj,e3,HF⟩:=(HH.out ww hk2).at' hm2 hcP
  obtain ⟨f1,ao,al,ac,f2,CA⟩:=HF ww (Kept.refl _ _)
  rw [getD_lt hcP]
  exact ⟨sb,soff,mb,moff,e1,e2,j,hj,e3,fun w6 hk6=>(HF w6 hk6).1,ao,al,ac,f2,CA⟩
 have FR:Hid (∀ ww (k:Nat),k<L.length→Same0 (w.alloc zeroCs) ww→Calls Tryz.prog 99 #[rv,.int .i64 (k:Int)] ww fun e w' => ∃ fo fc,e=.returned (.slice fo (freshN L k).length fc)∧Hid (IntsAt w' fo (freshN L k))∧Same0 ww w'):=fun ww k hk hs=>(fresh8_any (HH.out ww hs).rl hk).mono (fun e w' ⟨v,e1,r,k9⟩=>by
  obtain ⟨ao,cap,rfl,ia,_,_⟩:=r.ints
  exact ⟨ao,cap,e1,ia,k9⟩)
 have PU:Hid (∀ ww fo fc (k p:Nat),p<t.length→Same0 (w.alloc zeroCs) ww→IntsAt ww fo (freshN L k)→Calls Tryz.prog 143 #[rv,.slice tn t.length tc,.int .i64 (p:Int),.slice fo (freshN L k).length fc] ww fun e w' => ∃ qo qc,e=.returned (.slice qo (putN L t p (freshN L k)).length qc)∧Hid (IntsAt w' qo (putN L t p (freshN L k))∧(putN L t p (freshN L k)).length≤qc)∧Same0 ww w'):=fun ww fo fc k p hp hs hf=>by
  have h6:=arN_le hArs (k:Int)
  have hfl:=fresh_len L k
  refine (rput_any (cap:=tc) (ucap:=fc) (HH.out ww hs).rl (HH.out ww hs).ti hm h.cap h.dn.isT p hp hf (by omega) (by omega)).mono ?_
  rintro e w' ⟨v,rfl,r,k9⟩
  obtain ⟨ao,cap,rfl,ia,ic,_⟩:=r.ints
  exact ⟨ao,cap,rfl,⟨ia,ic⟩,k9⟩
 have NO:Hid (∀ ww qo qc wo wc (k p:Nat) (hp:p<t.length),t[p]<0→colN L t p=c→k<L.length→0<(havR rows c (k:Int)).length→Same0 (w.alloc zeroCs) ww→IntsAt ww qo (putN L t p (freshN L k))→(putN L t p (freshN L k)).length≤qc→IntsAt ww wo ((havR rows c (k:Int)).map (·.1))→Calls Tryz.prog 98 #[rv,.slice mo R.length mc,.slice qo (putN L t p (freshN L k)).length qc,.slice wo (havR rows c (k:Int)).length wc] ww (NodeOut ww (growF L n (kidP L (vpS L [] t) c k) ((havR rows c (k:Int)).map (kidX L c))))):=fun ww qo qc wo wc k p hp hv hc hk hh hs hq hqc hw=>by
  have hd:=h.dn.kid h.nk hp hv k
  have hn:=h.nk.kid (s:=k) hcP hk (arN_le hArs _) (fun e=>by rw [e] at hh;simp at hh)
  rw [hc] at hd
  have e1:=vp_kid (L:=L) hp hv k
  rw [hc] at e1
  rw [← e1] at hn ⊢
  have:=IH ww rv mo qo wo qc (putN L t p (freshN L k)) ((havR rows c (k:Int)).map (kidX L c)) ⟨(HH.out ww hs).rl,(HH.out ww hs).rs,h.le,hq,hqc,by rw [kidX_fst];exact hw,hd,hn⟩ mc wc
  rw [List.length_map] at this
  exact this
 obtain ⟨P,hPe⟩:∃ P,P=vpS L [] t:=⟨_,rfl⟩
 rw [← hPe] at PA HA NO ⊢
 have b0:((rows.length:Int) == 0)=false:=by simp;omega
 obtain ⟨W1,hW1⟩:∃ W1,W1=w.alloc zeroCs:=⟨_,rfl⟩
 have HW:Hid (W1=w.alloc zeroCs):=hW1
 have KW:Same0 w W1:=by rw [hW1];exact ka
 have ezW:W1.heap.size=w.heap.size+1:=by rw [hW1];simp
 have EZW:Hid (W1.heap.size=w.heap.size+1):=ezW
 rw [← hW1] at CP HH PA HA FR PU NO
 subst hrv
 clear h h0 hpart hne ka hPe IH hcP hm hArs ezW
 obtain ⟨Q,hQ⟩:∃ Q,Q=P.getD c []:=⟨_,rfl⟩
 have HQE:Hid (Q=P.getD c []):=hQ
 rw [← hQ] at PA HA
 clear hQ HH
 go_enter Tryz.func98,Tryz.ntmps98
 go_upto_region 3 with fail
 rw [← hW1]
 clear hW1
 go_upto_region 8 with (first | (go_at_call 140;refine CP.mono ?_;rintro e w1 ⟨p,rfl,hpp,k1⟩))
 obtain ⟨hp,hv,hcol⟩:=hpp.out
 have PA1:=PA.out w1 p hp hv hcol k1
 have HP3:Hid (∃ hp:p<t.length,t[p]<0∧colN L t p=c):=hpp
 clear CP hpp PA hp hv hcol
 go_upto_region 9 with (first | (go_at_call 141;refine PA1.mono ?_;rintro e w2 ⟨qo,qc,rfl,hq2,k2⟩))
 have K2:Same0 W1 w2:=k1.trans' k2
 have hz12:=k1.size
 have HQ:Hid (∀ ww,Same0 w2 ww→Arg ww qo Q qc):=fun ww hk=>hq2.out.1.same hk
 have HQB:Hid (∀ a,qo=some a→W1.heap.size≤a.block):=fun a e=>Nat.le_trans hz12 (hq2.out.2 a e)
 obtain ⟨kb,hkb⟩:∃ kb,kb=w2.heap.size:=⟨_,rfl⟩
 have HKB:Hid (kb=w2.heap.size):=hkb
 have hN0:Hid ((w2.alloc (.cells #[.int .i64 2,.int .i64 0,.slice qo Q.length qc,.slice none 0 0] 63)).heap[kb]? = some (.cells #[.int .i64 2,.int .i64 0,.slice qo Q.length qc,.slice none 0 0] 63 (0,0))):=by rw [hkb];exact heap_alloc_new w2 _
 have K3:Same0 w2 (w2.alloc (.cells #[.int .i64 2,.int .i64 0,.slice qo Q.length qc,.slice none 0 0] 63)):=(Kept.refl _ _).alloc _
 have hkW:W1.heap.size≤kb:=by rw [hkb];exact K2.size
 clear PA1 hq2 k1 k2 hz12
 go_upto_region 11 with fail
 rw [← hkb]
 clear hkb
 go_loopw [13] (fun i wr=>∃ (k:Nat) (lv:Value) (us:List Value) (l:List (Int × Tr n)),k≤L.length∧i=.int .i64 (k:Int)∧Hid (KidsF L n P rows c k=.ok l)∧Hid (wr.heap[kb]? = some (.cells #[.int .i64 2,.int .i64 0,.slice qo Q.length qc,lv] 63 (0,0)))∧Hid (wr.ownsRow (kb+1) 161 5 lv l.length us)∧Hid (KCells (fun b=>kb<b∧lv.ownBlock≠some b) wr n us l)∧Same0 w2 wr) (fun i _=>L.length-(intOf i).toNat)
 case atStart=>exact ⟨0,.slice none 0 0,[],[],Nat.zero_le _,rfl,rfl,hN0,World.ownsRow_nil _ _ _ _,KCells.nil _ _ _,K3⟩
 case round=>
  clear hN0 K3
  obtain ⟨k,lv,us,l,hk,rfl,hK,hN,hr,hus,hw⟩:=hrel
  obtain ⟨lo,lc,rfl⟩:=row_shape hr.out
  have hw1:Same0 W1 wr:=K2.trans' hw
  have hll:=KidsF_len hK.out
  by_cases hlt:k<L.length
  ·have i1:(0:Int)≤(k:Int):=by omega
   have i2:(k:Int)<(L.length:Int):=by omega
   have R0:Hid (Row wr.heap.size wr (.slice none 0 0) ((havR (rows.take 0) c (k:Int)).map (·.1))):=World.ownsRow_nil _ _ _ _
   have EZ2:Hid (w2.heap.size≤kb):=by show _≤_;rw [HKB.out];exact Nat.le_refl _
   have HN' : Hid (∀ w4,Same0 wr w4→w4.cell? ⟨kb,3,none⟩=some (.slice lo l.length lc)):=fun w4 hk4=>cellAt (hk4.at0 hN.out) 3
   go_upto_region 15 with fail
   obtain ⟨wo,rfl⟩:∃ wo:World,wo=wr:=⟨_,rfl⟩
   go_loopw [14,15] (fun wv kv wr=>∃ m:Nat,m≤rows.length∧kv=.int .i64 (m:Int)∧Hid (Row wo.heap.size wr wv ((havR (rows.take m) c (k:Int)).map (·.1)))∧Same0 wo wr) (fun _ kv _=>rows.length-(intOf kv).toNat)
   case atStart=>exact ⟨0,Nat.zero_le _,rfl,R0,Kept.refl _ _⟩
   case round=>
    obtain ⟨m,hml,rfl,hrow,hwi⟩:=hrel
    obtain ⟨vo,vc,rfl⟩:=row_shape hrow.out
    have hwo1:Same0 W1 wo:=hw1
    by_cases hmlt:m<rows.length
    ·obtain ⟨sb,soff,mb,moff,rfl,rfl,j,hj,ej,f1,ao,al,ac,f2,CA⟩:=HA.out wr (hwo1.trans' hwi) m hmlt
     have HPQ:IntsAt wr qo Q:=(HQ.out wr (hw.trans' hwi)).at'
     have C2:=CA qo qc HPQ
     have f0:=f1 wr (Kept.refl _ _)
     have F1:Hid (∀ w6,Same0 wr w6→w6.cell? ⟨sb,soff+m,none⟩=some (.int .i64 (j:Int))):=f1
     have HT:=havR_take (c:=c) (s:=(k:Int)) hmlt
     have hl2:=havR_len (rows.take m) c (k:Int)
     have hl3:(rows.take m).length=m:=by simp;omega
     have hl4:((havR (rows.take m) c (k:Int)).map (·.1)).length=(havR (rows.take m) c (k:Int)).length:=List.length_map _
     have hl5:((havR (rows.take m) c (k:Int)).map (·.1)).length≤100:=by omega
     have hb8:(((havR (rows.take m) c (k:Int)).map (·.1)).length+1) * 8≤140737488355328:=by omega
     have j1:(0:Int)≤(m:Int):=by omega
     have j2:(m:Int)<(rows.length:Int):=by omega
     have j3:(0:Int)≤(j:Int):=by omega
     have j4:(j:Int)<(R.length:Int):=by omega
     have zA:=hwi.size
     by_cases hq:numR rows[m] c=(k:Int)
     ·rw [if_pos hq] at HT
      have HT2:Hid ((havR (rows.take (m+1)) c (k:Int)).map (·.1)=(havR (rows.take m) c (k:Int)).map (·.1) ++ [(j:Int)]):=by
       show _=_
       rw [HT,List.map_append,List.map_cons,List.map_nil,ej]
      have hqe:(numR rows[m] c == (k:Int))=true:=by simpa using hq
      have HRW:Hid (∀ w6,Same0 wr w6→Row wo.heap.size w6 (.slice vo ((havR (rows.take m) c (k:Int)).map (·.1)).length vc) ((havR (rows.take m) c (k:Int)).map (·.1))∧wo.heap.size≤w6.heap.size):=fun w6 hk6=>⟨hk6.row hrow.out (fun _ _ f=>f),by have:=hk6.size;omega⟩
      clear HT hl2 hl3 hl4 hq hrow f1 CA HPQ R0 hN hr hus hK HA
      generalize numR rows[m] c=z at *
      generalize (havR (rows.take m) c (k:Int)).map (·.1)=xs at *
      go_wp2_with (first | (go_at_call 142;refine C2.mono ?_;rintro e w5 ⟨rfl,k5⟩;have f5:=F1.out w5 k5;obtain ⟨hr5,z5⟩:=HRW.out w5 k5) | (at_builtin;refine wpList_push rfl _ _ 51 rfl Tryz.underlying51 wo.heap.size xs _ rfl hr5 (j:Int) rfl z5 hb8 ?_;intro g cap w7 hr7 hk7 hat7))
      go_roundw
      case rel=>exact ⟨m+1,by omega,by go_num,by rw [HT2.out];exact hr7,Kept.trans (hwi.trans' k5) hk7 (fun i hi e=>by have:=(hr5.lt i e).1;omega)⟩
      case measure=>simp [intOf];omega
     ·rw [if_neg hq,List.append_nil] at HT
      have HT2:Hid ((havR (rows.take (m+1)) c (k:Int)).map (·.1)=(havR (rows.take m) c (k:Int)).map (·.1)):=by show _=_;rw [HT]
      have hqe:(numR rows[m] c == (k:Int))=false:=by simpa using hq
      have HRW:Hid (∀ w6,Same0 wr w6→Row wo.heap.size w6 (.slice vo ((havR (rows.take m) c (k:Int)).map (·.1)).length vc) ((havR (rows.take m) c (k:Int)).map (·.1))):=fun w6 hk6=>hk6.row hrow.out (fun _ _ f=>f)
      clear HT hl2 hl3 hl4 hq hrow f1 CA HPQ R0 hN hr hus hK HA
      generalize numR rows[m] c=z at *
      generalize (havR (rows.take m) c (k:Int)).map (·.1)=xs at *
      go_wp2_with (first | (go_at_call 142;refine C2.mono ?_;rintro e w5 ⟨rfl,k5⟩))
      go_roundw
      case rel=>exact ⟨m+1,by omega,by go_num,by rw [HT2.out];exact HRW.out w5 k5,hwi.trans' k5⟩
      case measure=>simp [intOf];omega
    ·obtain rfl:m=rows.length:=by omega
     have HL:=map_fst_len (rows:=havR rows c (k:Int))
     rw [List.take_length,HL] at hrow ⊢
     clear HA R0
     have hwr:Same0 wo wr:=hwi
     have hw2:Same0 w2 wr:=hw.trans' hwr
     by_cases hhas:0<(havR rows c (k:Int)).length
     ·have hb:(((havR rows c (k:Int)).length:Int) == 0)=false:=by rw [beq_eq_false_iff_ne];omega
      obtain ⟨hp,hv,hcol⟩:=HP3.out
      have FR1:=FR.out wr k hlt (hw1.trans' hwr)
      have HSK:=havR_some hhas hK.out
      have NO1:Hid (∀ ww qo qc,Same0 wr ww→IntsAt ww qo (putN L t p (freshN L k))→(putN L t p (freshN L k)).length≤qc→Calls Tryz.prog 98 #[.slice ro L.length rcap,.slice mo R.length mc,.slice qo (putN L t p (freshN L k)).length qc,.slice vo (havR rows c (k:Int)).length vc] ww (NodeOut ww (growF L n (kidP L P c k) ((havR rows c (k:Int)).map (kidX L c))))):=fun ww qo qc hs hq hqc=>NO.out ww qo qc vo vc k p hp hv hcol hlt hhas ((hw1.trans' hwr).trans' hs) hq hqc (by
       have hrw:Row wo.heap.size ww (.slice vo (havR rows c (k:Int)).length vc) ((havR rows c (k:Int)).map (·.1)):=hs.row hrow.out (fun _ _ f=>f)
       obtain ⟨ao,cap,e1,ia,_,_⟩:=hrw.ints
       rw [HL] at e1
       simp only [Value.slice.injEq] at e1
       obtain ⟨rfl,_,rfl⟩:=e1
       exact ia)
      have PU1:Hid (∀ ww fo fc,Same0 wr ww→IntsAt ww fo (freshN L k)→Calls Tryz.prog 143 #[.slice ro L.length rcap,.slice tn t.length tc,.int .i64 (p:Int),.slice fo (freshN L k).length fc] ww fun e w' => ∃ qo qc,e=.returned (.slice qo (putN L t p (freshN L k)).length qc)∧Hid (IntsAt w' qo (putN L t p (freshN L k))∧(putN L t p (freshN L k)).length≤qc)∧Same0 ww w'):=fun ww fo fc hs hf=>PU.out ww fo fc k p hp ((hw1.trans' hwr).trans' hs) hf
      clear NO PU FR hp hv hcol HP3 hrow HL
      generalize freshN L k=fn at *
      generalize putN L t p fn=pn at *
      have HWR:Hid (∀ ww,Same0 wr ww→Same0 (w.alloc zeroCs) ww):=fun ww hk=>by rw [← HW.out];exact (hw1.trans' hwr).trans' hk
      cases hg:growF L n (kidP L P c k) ((havR rows c (k:Int)).map (kidX L c)) with
      | error z=>
       rw [hg] at HSK NO1
       have HE:Hid (BrF L n P rows c=.error z):=by
        show _=_
        unfold BrF;rw [KidsF_err HSK (show k+1≤L.length by omega)]
       have NE:Hid (∀ ww qo qc,Same0 wr ww→IntsAt ww qo pn→pn.length≤qc→Calls Tryz.prog 98 #[.slice ro L.length rcap,.slice mo R.length mc,.slice qo pn.length qc,.slice vo (havR rows c (k:Int)).length vc] ww fun e w' => e=.returned (.tuple #[zeroC,.int .i64 z])∧Hid (0≤z)∧Same0 ww w'):=fun ww qo qc h1 h2 h3=>NO1.out ww qo qc h1 h2 h3
       clear NO1 HSK hg hN hr hus hK hhas HN' hw2 hll
       generalize (havR rows c (k:Int)).length=N at *
       go_upto_region 21 with (first
        | (go_at_call 99;refine FR1.mono ?_;rintro e w5 ⟨fo,fc,rfl,hf5,k5⟩;have PU2:=PU1.out w5 fo fc k5 hf5.out)
        | (go_at_call 143;refine PU2.mono ?_;rintro e w6 ⟨po2,pc2,rfl,hq6,k6⟩;have NO2:=NE.out w6 po2 pc2 (k5.trans' k6) hq6.out.1 hq6.out.2)
        | (go_at_call 98;refine NO2.mono ?_;rintro e w7 ⟨rfl,hz7,k7⟩))
       have hz8:=hz7.out
       obtain ⟨w8,hw8⟩:∃ w8,w8=w7.alloc zeroCs:=⟨_,rfl⟩
       have k8:Same0 (w.alloc zeroCs) w8:=by rw [hw8];exact Kept.alloc (HWR.out w7 ((k5.trans' k6).trans' k7)) _
       rw [← hw8]
       obtain ⟨⟨r0,r1,r2,r3⟩,f0,f1,f2,f3⟩:=res_get w8 k8
       obtain ⟨⟨g0,g1,g2,g3⟩,kk,ks⟩:=res_put (w:=w) (x0:=.int .i64 0) (x1:=.int .i64 0) (x2:=.slice none 0 0) (x3:=.slice none 0 0) w8 k8
       have GG:Hid (_∧_∧_∧_):=⟨g0,g1,g2,g3⟩
       have KS:Hid (Same0 w _):=ks
       clear hw8 k8 g0 g1 g2 g3 kk ks FR1 PU2 NO2
       go_wp2
       obtain ⟨g0,g1,g2,g3⟩:=GG.out
       exact bodyPost_ret (v:=.tuple #[zeroC,.int .i64 z]) (by simp [results,Tryz.results98,go_sem,g0,g1,g2,g3]) rfl (by rw [HE.out];exact ⟨rfl,hz8,KS.out⟩)
      | ok tt=>
       rw [hg] at HSK NO1
       have HS' : Hid (KidsF L n P rows c (k+1)=.ok (l ++ [((k:Int),tt)])):=HSK
       have NE:Hid (∀ ww qo qc,Same0 wr ww→IntsAt ww qo pn→pn.length≤qc→Calls Tryz.prog 98 #[.slice ro L.length rcap,.slice mo R.length mc,.slice qo pn.length qc,.slice vo (havR rows c (k:Int)).length vc] ww fun e w' => ∃ tk tr tpo tpl tpc tko tkl tkc,e=.returned (.tuple #[.agg #[.int .i64 tk,.int .i64 tr,.slice tpo tpl tpc,.slice tko tkl tkc],.int .i64 (-1)])∧Hid (CsB (fun b=>ww.heap.size≤b) w' n (.agg #[.int .i64 tk,.int .i64 tr,.slice tpo tpl tpc,.slice tko tkl tkc]) tt)∧Same0 ww w'):=fun ww qo qc h1 h2 h3=>by
        refine (NO1.out ww qo qc h1 h2 h3).mono ?_
        rintro e w' ⟨v,rfl,g1,g2⟩
        obtain ⟨tk,tr,tpo,tpl,tpc,tko,tkl,tkc,rfl⟩:=g1.shape
        exact ⟨tk,tr,tpo,tpl,tpc,tko,tkl,tkc,rfl,g1,g2⟩
       have FIN:Hid (∀ w4 w5 c0 c1 c2 c3 g cap w11,Same0 wr w4→Same0 w4 w5→CsB (fun b=>w4.heap.size≤b) w5 n (.agg #[c0,c1,c2,c3]) tt→w11.ownsRow (kb+1) 161 5 (.slice (some ⟨g,0,none⟩) (l.length+1) cap) (l.length+1) (us ++ [.int .i64 (k:Int),c0,c1,c2,c3])→Kept (fun q=>(Value.slice lo l.length lc).ownBlock=some q) w5 w11→((Value.slice lo l.length lc).ownBlock=some g∨w5.heap.size≤g)→(w11.cell? ⟨kb,3,none⟩=some (.slice lo l.length lc)∧w11.frozen? ⟨kb,3,none⟩=false)∧Hid (∃ us' l', Hid (KidsF L n P rows c (k+1)=.ok l')∧Hid ((w11.setCell ⟨kb,3,none⟩ (.slice (some ⟨g,0,none⟩) (l.length+1) cap)).heap[kb]? = some (.cells #[.int .i64 2,.int .i64 0,.slice qo Q.length qc,.slice (some ⟨g,0,none⟩) (l.length+1) cap] 63 (0,0)))∧Hid ((w11.setCell ⟨kb,3,none⟩ (.slice (some ⟨g,0,none⟩) (l.length+1) cap)).ownsRow (kb+1) 161 5 (.slice (some ⟨g,0,none⟩) (l.length+1) cap) l'.length us')∧Hid (KCells (fun b=>kb<b∧(Value.slice (some ⟨g,0,none⟩) (l.length+1) cap).ownBlock≠some b) (w11.setCell ⟨kb,3,none⟩ (.slice (some ⟨g,0,none⟩) (l.length+1) cap)) n us' l')∧Same0 w2 (w11.setCell ⟨kb,3,none⟩ (.slice (some ⟨g,0,none⟩) (l.length+1) cap)))):=by
        intro w4 w5 c0 c1 c2 c3 g cap w11 k4 k5 hcs r11 k11 hat
        obtain ⟨q1,q2,q3,q4,q5⟩:=kid_more hN.out hr.out hus.out hw EZ2.out (hwr.trans' k4) k5 hcs r11 k11 hat
        exact ⟨q1,_,_,HS'.out,q2,q3,q4,q5⟩
       have HRW:Hid (∀ ww,Same0 wr ww→ww.ownsRow (kb+1) 161 5 (.slice lo l.length lc) l.length us∧kb+1≤ww.heap.size∧ww.cell? ⟨kb,3,none⟩=some (.slice lo l.length lc)):=fun ww hk=>by
        have h9:=hwr.trans' hk
        have:=h9.size
        have h10:=lt_of_at hN.out
        exact ⟨h9.row hr.out (fun _ _ f=>f),by omega,HN'.out ww h9⟩
       have hl1000:l.length≤1000:=by omega
       clear NO1 HSK hg hN hr hus hK hhas HN' hll HS'
       generalize (havR rows c (k:Int)).length=N at *
       go_upto_region 21 with (first
        | (go_at_call 99;refine FR1.mono ?_;rintro e w5 ⟨fo,fc,rfl,hf5,k5⟩;have PU2:=PU1.out w5 fo fc k5 hf5.out)
        | (go_at_call 143;refine PU2.mono ?_;rintro e w6 ⟨po2,pc2,rfl,hq6,k6⟩;have NO2:=NE.out w6 po2 pc2 (k5.trans' k6) hq6.out.1 hq6.out.2)
        | (go_at_call 98;refine NO2.mono ?_;rintro e w7 ⟨tk,tr,tpo,tpl,tpc,tko,tkl,tkc,rfl,hcs,k7⟩))
       obtain ⟨w8,hw8⟩:∃ w8,w8=w7.alloc (.cells #[.int .i64 tk,.int .i64 tr,.slice tpo tpl tpc,.slice tko tkl tkc] 63):=⟨_,rfl⟩
       have k78:Same0 w7 w8:=by rw [hw8];exact (Kept.refl _ _).alloc _
       have k8:Same0 wr w8:=((k5.trans' k6).trans' k7).trans' k78
       have b8:w8.heap[w7.heap.size]? = some (.cells #[.int .i64 tk,.int .i64 tr,.slice tpo tpl tpc,.slice tko tkl tkc] 63 (0,0)):=by rw [hw8];exact heap_alloc_new _ _
       rw [← hw8]
       have c0:=cellAt b8 0
       have c1:=cellAt b8 1
       have c2:=cellAt b8 2
       have c3:=cellAt b8 3
       simp only [List.getElem?_toArray,List.getElem?_cons_zero,List.getElem?_cons_succ] at c0 c1 c2 c3
       obtain ⟨hr8,hz8,hn8⟩:=HRW.out w8 k8
       have HR8:Hid (w8.ownsRow (kb+1) 161 5 (.slice lo l.length lc) l.length us):=hr8
       have HC8:Hid (CsB (fun b=>w6.heap.size≤b) w8 n (.agg #[.int .i64 tk,.int .i64 tr,.slice tpo tpl tpc,.slice tko tkl tkc]) tt):=hcs.out.same k78
       have K46:Hid (Same0 wr w6):=k5.trans' k6
       have K68:Hid (Same0 w6 w8):=k7.trans' k78
       clear hw8 b8 hr8 hcs FR1 PU2 NO2 k78
       go_wp2_with (first | (at_builtin;refine wpList_kid (w0:=w8) rfl _ _ rfl (kb+1) l.length us (.slice lo l.length lc) rfl ((Kept.refl _ w8).alloc _) HR8.out (.int .i64 (k:Int)) (.int .i64 tk) (.int .i64 tr) (.slice tpo tpl tpc) (.slice tko tkl tkc) w8.heap.size rfl (heap_alloc_new w8 _) rfl rfl rfl rfl rfl hz8 hl1000 ?_;intro g cap w11 r11 k11 hat;obtain ⟨⟨y1,y2⟩,FF⟩:=FIN.out w6 w8 _ _ _ _ g cap w11 K46.out K68.out HC8.out r11 k11 hat))
       go_roundw
       case rel=>
        obtain ⟨us', l', z1,z2,z3,z4,z5⟩:=FF.out
        exact ⟨k+1,_,us', l', by omega,by go_num,z1,z2,z3,z4,z5⟩
       case measure=>simp [intOf];omega
     ·have h0:(havR rows c (k:Int)).length=0:=by omega
      have HK2:Hid (KidsF L n P rows c (k+1)=.ok l):=havR_none hhas hK.out
      have hN2:Hid (wr.heap[kb]? = some (.cells #[.int .i64 2,.int .i64 0,.slice qo Q.length qc,.slice lo l.length lc] 63 (0,0))):=hwr.at0 hN.out
      have hr2:Hid (wr.ownsRow (kb+1) 161 5 (.slice lo l.length lc) l.length us):=hwr.row hr.out (fun _ _ f=>f)
      have hu2:Hid (KCells (fun b=>kb<b∧(Value.slice lo l.length lc).ownBlock≠some b) wr n us l):=hus.out.kept hwr (fun _ _ f=>f)
      rw [h0]
      clear hN hr hus hK hhas hrow HL h0
      go_wp2_with fail
      go_roundw
      case rel=>exact ⟨k+1,_,us,l,by omega,by go_num,HK2,hN2,hr2,hu2,hw2⟩
      case measure=>simp [intOf];omega
  ·obtain rfl:k=L.length:=by omega
   have hwW:Same0 (w.alloc zeroCs) wr:=by rw [← HW.out];exact hw1
   obtain ⟨⟨r0,r1,r2,r3⟩,f0,f1,f2,f3⟩:=res_get wr hwW
   obtain ⟨⟨g0,g1,g2,g3⟩,kk,ks⟩:=res_put (w:=w) (x0:=.int .i64 2) (x1:=.int .i64 0) (x2:=.slice qo Q.length qc) (x3:=.slice lo l.length lc) wr hwW
   have GG:Hid (_∧_∧_∧_):=⟨g0,g1,g2,g3⟩
   have n0:=cellAt hN.out 0
   have n1:=cellAt hN.out 1
   have n2:=cellAt hN.out 2
   have n3:=cellAt hN.out 3
   simp only [List.getElem?_toArray,List.getElem?_cons_zero,List.getElem?_cons_succ] at n0 n1 n2 n3
   have FIN:Hid (NodeOut w (BrF L n P rows c) (.returned (.tuple #[.agg #[.int .i64 2,.int .i64 0,.slice qo Q.length qc,.slice lo l.length lc],.int .i64 (-1)])) ((((wr.setCell ⟨w.heap.size,0,none⟩ (.int .i64 2)).setCell ⟨w.heap.size,1,none⟩ (.int .i64 0)).setCell ⟨w.heap.size,2,none⟩ (.slice qo Q.length qc)).setCell ⟨w.heap.size,3,none⟩ (.slice lo l.length lc))):=by
    have hB:BrF L n P rows c=.ok (2,0,Q,l):=by
     have:=hK.out
     unfold BrF;rw [this,HQE.out]
    rw [hB]
    have hz1:=EZW.out
    have hcs:=branch_cs (B:=fun b=>W1.heap.size≤b) hr.out (hus.out.mono (fun b hb q=>by have:=q.1;omega)) (fun b e=>by have:=(hr.out.lt b e).1;omega) (HQ.out wr hw) HQB.out 2 0
    exact ⟨_,rfl,CsB.mono (fun b hb q=>by have q' : W1.heap.size≤b:=q;show w.heap.size≤b;omega) (CsB.kept kk (fun b q e=>by have q' : W1.heap.size≤b:=q;have e' : b=w.heap.size:=e;omega) hcs),ks⟩
   clear hN hr hus hK g0 g1 g2 g3 kk ks HA NO PU FR
   go_wp2
   obtain ⟨g0,g1,g2,g3⟩:=GG.out
   exact bodyPost_ret (v:=.tuple #[.agg #[.int .i64 2,.int .i64 0,.slice qo Q.length qc,.slice lo l.length lc],.int .i64 (-1)]) (by simp [results,Tryz.results98,go_sem,g0,g1,g2,g3]) rfl FIN.out
theorem node_any (L:List Sym) (R:List Ru):∀ n,NodeIH L R n
 | 0=>fun w rv mo tn so tc t rows h=>absurd h.nk.pos (Nat.lt_irrefl 0)
 | n+1=>fun w rv mo tn so tc t rows h mc sc=>by
  by_cases h0:rows.length=0
  ·rw [growF_zero h0,h0]
   exact node_zero mc sc (row_shape h.rl.1)
  ·cases hp:partN rows (vpS L [] t).length with
   | some c=>
    rw [growF_branch h0 hp]
    exact node_branch (node_any L R n) h h0 hp mc sc
   | none=>
    by_cases h1:rows.length=1
    ·rw [growF_leaf h1 hp]
     exact node_leaf h h1 hp mc sc
    ·rw [growF_fork h0 h1 hp]
     exact node_fork h h0 h1 hp mc sc
def FarW (w:World) (v:Value):Prop:=∀ a l c,v=.slice (some a) l c→w.heap.size≤a.block
def RBldPost (L:List Sym) (R:List Ru) (n:Int) (w:World) (e:Ending) (w' : World):Prop:=
 Same0 w w' ∧ if defB L n=true then
  (match treeF L R n.toNat with
  | .ok t=>∃ v,e=.returned (.tuple #[v,.slice none 0 0])∧CsB (fun b=>w.heap.size≤b) w' 2001 v t
  | .error z=>∃ v,e=.returned (.tuple #[zeroC,v])∧WrsAt w' v [(81,n),(82,z)]∧FarW w v)
 else ∃ v,e=.returned (.tuple #[zeroC,v])∧WrsAt w' v [(80,0)]∧FarW w v
theorem def_lt8 {L:List Sym} {f:Int} (h:defB L f=true):∃ s:Nat,f=(s:Int)∧s<L.length:=by
 unfold defB at h
 by_cases h0:f<0
 ·simp [h0] at h
 ·rw [if_neg h0] at h
  cases hs:L[f.toNat]? with
  | none=>rw [hs] at h;cases h
  | some x=>exact ⟨f.toNat,by omega,(List.getElem?_eq_some_iff.1 hs).1⟩
theorem root_fst (L:List Sym) (R:List Ru) (s:Nat):(rootR L R s).map (·.1)=ofF (s:Int) 0 R:=by
 unfold rootR
 rw [kidX_fst]
 unfold rowsOf
 rw [List.map_map]
 simp [Function.comp_def]
theorem wrs_one (w:World) (a b:Int) (T:TypeId):WrsAt (w.alloc (.cells #[.int .i64 a,.int .i64 b] T)) (.slice (some ⟨w.heap.size,0,none⟩) 1 1) [(a,b)]:=
 wrs_new w [(a,b)] _ T rfl (fun i hi=>by
  have hi' : i<1:=hi
  match i,hi' with
  | 0,_=>exact ⟨rfl,rfl⟩) 1 rfl
theorem WrsAt.kept8 {S:Nat→Prop} {w w' : World} {lv:Value} {ws:List (Int × Int)} (h:WrsAt w lv ws) (hk:Kept S w w') (hs:∀ b,(∃ l c,lv=.slice (some ⟨b,0,none⟩) l c)→¬ S b):WrsAt w' lv ws:=by
 obtain ⟨lo,lc,e,h⟩:=h
 refine ⟨lo,lc,e,h.imp id ?_⟩
 rintro ⟨b,e2,hb,hc⟩
 subst e2
 have nb:=hs b ⟨_,_,e⟩
 exact ⟨b,rfl,Nat.lt_of_lt_of_le hb hk.size,fun i hi=>⟨(hk.cell (p:=⟨b,i * 2,none⟩) hb nb).trans (hc i hi).1,(hk.cell (p:=⟨b,i * 2+1,none⟩) hb nb).trans (hc i hi).2⟩⟩
set_option maxHeartbeats 8000000 in
theorem rbuild8_any {w:World} {rv:Value} {L:List Sym} {R:List Ru} {mo:Option Addr} (h:Rl w.heap.size w rv L) (hR:RsAt w mo R) (hle:R.length≤100) (hok:∀ x∈R,checkE L x.1=0∧checkE L x.2=0) (mc:Nat) (f:Int) :
  Calls Tryz.prog 55 #[rv,.slice mo R.length mc,.int .i64 f] w (RBldPost L R f w):=by
 have ka:Same0 w (w.alloc zeroCs):=(Kept.refl _ w).alloc _
 obtain ⟨ro,rcap,hrv⟩:=row_shape h.1
 have CD:=rdef_any (h.same ka) f
 obtain ⟨W1,hW1⟩:∃ W1,W1=w.alloc zeroCs:=⟨_,rfl⟩
 have HW:Hid (W1=w.alloc zeroCs):=hW1
 have HEZ:Hid (W1.heap.size=w.heap.size+1):=by rw [hW1];simp [Hid]
 cases hd:defB L f with
 | false=>
  rw [hd] at CD
  rw [← hW1] at CD
  have HP:Hid (∀ v w', Same0 w w' → WrsAt w' v [(80,0)]→FarW w v→RBldPost L R f w (.returned (.tuple #[zeroC,v])) w'):=fun v w' h1 h2 h3=>⟨h1,by rw [if_neg (by rw [hd];simp)];exact ⟨v,rfl,h2,h3⟩⟩
  subst hrv
  clear h hR hok hle ka hd
  have k2:Same0 (w.alloc zeroCs) (W1.alloc (.cells #[.int .i64 80,.int .i64 0] 72)):=by rw [hW1];exact (Kept.refl _ _).alloc _
  obtain ⟨⟨r0,r1,r2,r3⟩,f0,f1,f2,f3⟩:=res_get _ k2
  obtain ⟨⟨g0,g1,g2,g3⟩,kk,ks⟩:=res_put (w:=w) (x0:=.int .i64 0) (x1:=.int .i64 0) (x2:=.slice none 0 0) (x3:=.slice none 0 0) _ k2
  have HF:=HP.out _ _ ks ((wrs_one W1 80 0 72).kept8 kk (fun b ⟨l,c,e⟩ e2=>by
   simp only [Value.slice.injEq,Option.some.injEq,Addr.mk.injEq] at e
   have e' : b=w.heap.size:=e2
   have:=HEZ.out
   omega)) (fun a l c e=>by
   simp only [Value.slice.injEq,Option.some.injEq] at e
   obtain ⟨rfl,_⟩:=e
   have:=HEZ.out
   show w.heap.size≤W1.heap.size
   omega)
  have GG:Hid (_∧_∧_∧_):=⟨g0,g1,g2,g3⟩
  have HF2:Hid (RBldPost _ _ _ _ _ _):=HF
  clear g0 g1 g2 g3 kk ks HF k2
  go_enter Tryz.func55,Tryz.ntmps55
  go_upto_region 1 with fail
  rw [← hW1]
  clear hW1
  go_wp2_with (first | (go_at_call 97;refine CD.mono ?_;rintro e w1 ⟨rfl,rfl⟩))
  obtain ⟨g0,g1,g2,g3⟩:=GG.out
  exact bodyPost_ret (v:=.tuple #[zeroC,.slice (some ⟨w1.heap.size,0,none⟩) 1 1]) (by simp [results,Tryz.results55,go_sem,g0,g1,g2,g3]) rfl HF2.out
 | true=>
  obtain ⟨s,rfl,hs⟩:=def_lt8 hd
  have hArs:=h.2.2.1
  have CF:Hid (∀ ww,Same0 w ww→Calls Tryz.prog 99 #[rv,.int .i64 (s:Int)] ww fun e w' => ∃ fo fc,e=.returned (.slice fo (freshN L s).length fc)∧Hid (IntsAt w' fo (freshN L s)∧(freshN L s).length≤fc)∧Same0 ww w'):=fun ww hk=>(fresh8_any (h.same hk) hs).mono (fun e w' ⟨v,e1,r,k9⟩=>by
   obtain ⟨ao,cap,rfl,ia,ic,_⟩:=r.ints
   exact ⟨ao,cap,e1,⟨ia,ic⟩,k9⟩)
  have CO:Hid (∀ ww,Same0 w ww→Calls Tryz.prog 100 #[.slice mo R.length mc,.int .i64 (s:Int)] ww fun e w' => ∃ oo oc,e=.returned (.slice oo (rootR L R s).length oc)∧Hid (IntsAt w' oo ((rootR L R s).map (·.1)))∧Same0 ww w'):=fun ww hk=>(rof_any (mc:=mc) (hR.same hk) hle (fun x hx=>(ok_len (hok x hx)).1.1) (s:Int)).mono (fun e w' ⟨v,e1,r,k9⟩=>by
   obtain ⟨ao,cap,rfl,ia,_,_⟩:=r.ints
   have hl:(ofF (s:Int) 0 R).length=(rootR L R s).length:=by rw [← root_fst L R s,List.length_map]
   exact ⟨ao,cap,by rw [e1,hl],by rw [root_fst];exact ia,k9⟩)
  have CN:Hid (∀ ww fo fc oo oc,Same0 w ww→IntsAt ww fo (freshN L s)→(freshN L s).length≤fc→IntsAt ww oo ((rootR L R s).map (·.1))→Calls Tryz.prog 98 #[rv,.slice mo R.length mc,.slice fo (freshN L s).length fc,.slice oo (rootR L R s).length oc] ww (NodeOut ww (treeF L R s))):=fun ww fo fc oo oc hk hf hfc ho=>by
   have hd0:=doc_root hok s
   have hn0:=root_ok hArs hle hok hs
   rw [← vp_root] at hn0
   have:=node_any L R 2001 ww rv mo fo oo fc (freshN L s) (rootR L R s) ⟨rl_up (h.same hk) hk.size,hR.same hk,hle,hf,hfc,ho,hd0,hn0⟩ mc oc
   rw [vp_root] at this
   exact this
  rw [hd,← hW1] at CD
  have KW:Same0 w W1:=by rw [hW1];exact ka
  subst hrv
  clear h hR ka hArs hok
  have HD:Hid (defB L (s:Int)=true):=hd
  cases hg:treeF L R s with
  | error z=>
   rw [hg] at CN
   have CE:Hid (∀ ww fo fc oo oc,Same0 w ww→IntsAt ww fo (freshN L s)→(freshN L s).length≤fc→IntsAt ww oo ((rootR L R s).map (·.1))→Calls Tryz.prog 98 #[.slice ro L.length rcap,.slice mo R.length mc,.slice fo (freshN L s).length fc,.slice oo (rootR L R s).length oc] ww fun e w' => e=.returned (.tuple #[zeroC,.int .i64 z])∧Hid (0≤z)∧Same0 ww w'):=fun ww fo fc oo oc h1 h2 h3 h4=>CN.out ww fo fc oo oc h1 h2 h3 h4
   have HP:Hid (∀ v w', Same0 w w' → WrsAt w' v [(81,(s:Int)),(82,z)]→FarW w v→RBldPost L R (s:Int) w (.returned (.tuple #[zeroC,v])) w'):=fun v w' h1 h2 h3=>⟨h1,by rw [if_pos HD.out,Int.toNat_natCast,hg];exact ⟨v,rfl,h2,h3⟩⟩
   clear CN hg hd hle
   generalize freshN L s=fs at *
   generalize rootR L R s=rr at *
   go_enter Tryz.func55,Tryz.ntmps55
   go_upto_region 1 with fail
   rw [← hW1]
   clear hW1
   go_upto_region 4 with (first | (go_at_call 97;refine CD.mono ?_;rintro e w1 ⟨rfl,rfl⟩))
   have C1:=CF.out w1 KW
   go_upto_region 5 with (first
    | (go_at_call 99;refine C1.mono ?_;rintro e w2 ⟨fo,fc,rfl,hf2,k2⟩;have C2:=CO.out w2 (KW.trans' k2))
    | (go_at_call 100;refine C2.mono ?_;rintro e w3 ⟨oo,oc,rfl,ho3,k3⟩;have C3:=CE.out w3 fo fc oo oc ((KW.trans' k2).trans' k3) (hf2.out.1.same k3) hf2.out.2 ho3.out)
    | (go_at_call 98;refine C3.mono ?_;rintro e w4 ⟨rfl,hz4,k4⟩))
   have hz5:=hz4.out
   obtain ⟨w5,hw5⟩:∃ w5,w5=w4.alloc zeroCs:=⟨_,rfl⟩
   have k5:Same0 (w.alloc zeroCs) w5:=by rw [hw5,← HW.out];exact Kept.alloc ((k2.trans' k3).trans' k4) _
   rw [← hw5]
   clear hw5 C1 C2 C3 CE CF CO CD hf2 ho3
   have k6:Same0 (w.alloc zeroCs) (w5.alloc (.cells #[.int .i64 81,.int .i64 (s:Int),.int .i64 82,.int .i64 z] 72)):=Kept.alloc k5 _
   obtain ⟨⟨r0,r1,r2,r3⟩,f0,f1,f2,f3⟩:=res_get _ k6
   obtain ⟨⟨g0,g1,g2,g3⟩,kk,ks⟩:=res_put (w:=w) (x0:=.int .i64 0) (x1:=.int .i64 0) (x2:=.slice none 0 0) (x3:=.slice none 0 0) _ k6
   have z5:=k5.size
   have z6:w.heap.size<w5.heap.size:=by simp at z5;omega
   have HF:=HP.out _ _ ks ((wrs_two w5 81 (s:Int) 82 z rfl).kept8 kk (fun b ⟨l,c,e⟩ e2=>by
    simp only [Value.slice.injEq,Option.some.injEq,Addr.mk.injEq] at e
    have e' : b=w.heap.size:=e2
    omega)) (fun a l c e=>by
    simp only [Value.slice.injEq,Option.some.injEq] at e
    obtain ⟨rfl,_⟩:=e
    show w.heap.size≤w5.heap.size
    omega)
   have GG:Hid (_∧_∧_∧_):=⟨g0,g1,g2,g3⟩
   have HF2:Hid (RBldPost _ _ _ _ _ _):=HF
   clear g0 g1 g2 g3 kk ks HF k5 k6 z5 z6
   go_wp2
   obtain ⟨g0,g1,g2,g3⟩:=GG.out
   exact bodyPost_ret (v:=.tuple #[zeroC,.slice (some ⟨w5.heap.size,0,none⟩) 2 2]) (by simp [results,Tryz.results55,go_sem,g0,g1,g2,g3]) rfl HF2.out
  | ok tt=>
   rw [hg] at CN
   have CE:Hid (∀ ww fo fc oo oc,Same0 w ww→IntsAt ww fo (freshN L s)→(freshN L s).length≤fc→IntsAt ww oo ((rootR L R s).map (·.1))→Calls Tryz.prog 98 #[.slice ro L.length rcap,.slice mo R.length mc,.slice fo (freshN L s).length fc,.slice oo (rootR L R s).length oc] ww fun e w' => ∃ tk tr tpo tpl tpc tko tkl tkc,e=.returned (.tuple #[.agg #[.int .i64 tk,.int .i64 tr,.slice tpo tpl tpc,.slice tko tkl tkc],.int .i64 (-1)])∧Hid (CsB (fun b=>ww.heap.size≤b) w' 2001 (.agg #[.int .i64 tk,.int .i64 tr,.slice tpo tpl tpc,.slice tko tkl tkc]) tt)∧Same0 ww w'):=fun ww fo fc oo oc h1 h2 h3 h4=>by
    refine (CN.out ww fo fc oo oc h1 h2 h3 h4).mono ?_
    rintro e w' ⟨v,rfl,g1,g2⟩
    obtain ⟨tk,tr,tpo,tpl,tpc,tko,tkl,tkc,rfl⟩:=g1.shape
    exact ⟨tk,tr,tpo,tpl,tpc,tko,tkl,tkc,rfl,g1,g2⟩
   have HP:Hid (∀ v w', Same0 w w' → CsB (fun b=>w.heap.size≤b) w' 2001 v tt→RBldPost L R (s:Int) w (.returned (.tuple #[v,.slice none 0 0])) w'):=fun v w' h1 h2=>⟨h1,by rw [if_pos HD.out,Int.toNat_natCast,hg];exact ⟨v,rfl,h2⟩⟩
   clear CN hg hd hle
   generalize freshN L s=fs at *
   generalize rootR L R s=rr at *
   go_enter Tryz.func55,Tryz.ntmps55
   go_upto_region 1 with fail
   rw [← hW1]
   clear hW1
   go_upto_region 4 with (first | (go_at_call 97;refine CD.mono ?_;rintro e w1 ⟨rfl,rfl⟩))
   have C1:=CF.out w1 KW
   go_upto_region 5 with (first
    | (go_at_call 99;refine C1.mono ?_;rintro e w2 ⟨fo,fc,rfl,hf2,k2⟩;have C2:=CO.out w2 (KW.trans' k2))
    | (go_at_call 100;refine C2.mono ?_;rintro e w3 ⟨oo,oc,rfl,ho3,k3⟩;have C3:=CE.out w3 fo fc oo oc ((KW.trans' k2).trans' k3) (hf2.out.1.same k3) hf2.out.2 ho3.out)
    | (go_at_call 98;refine C3.mono ?_;rintro e w4 ⟨tk,tr,tpo,tpl,tpc,tko,tkl,tkc,rfl,hcs,k4⟩))
   obtain ⟨w5,hw5⟩:∃ w5,w5=w4.alloc (.cells #[.int .i64 tk,.int .i64 tr,.slice tpo tpl tpc,.slice tko tkl tkc] 63):=⟨_,rfl⟩
   have k45:Same0 w4 w5:=by rw [hw5];exact (Kept.refl _ _).alloc _
   have k5:Same0 (w.alloc zeroCs) w5:=by rw [← HW.out];exact ((k2.trans' k3).trans' k4).trans' k45
   have b5:w5.heap[w4.heap.size]? = some (.cells #[.int .i64 tk,.int .i64 tr,.slice tpo tpl tpc,.slice tko tkl tkc] 63 (0,0)):=by rw [hw5];exact heap_alloc_new _ _
   rw [← hw5]
   have c0:=cellAt b5 0
   have c1:=cellAt b5 1
   have c2:=cellAt b5 2
   have c3:=cellAt b5 3
   simp only [List.getElem?_toArray,List.getElem?_cons_zero,List.getElem?_cons_succ] at c0 c1 c2 c3
   have hcs5:=hcs.out.same k45
   have z1:=HEZ.out
   have z3:w.heap.size<w3.heap.size:=by have:=k2.size;have:=k3.size;omega
   clear hw5 C1 C2 C3 CE CF CO CD hf2 ho3 hcs b5
   obtain ⟨⟨r0,r1,r2,r3⟩,f0,f1,f2,f3⟩:=res_get _ k5
   obtain ⟨⟨g0,g1,g2,g3⟩,kk,ks⟩:=res_put (w:=w) (x0:=.int .i64 tk) (x1:=.int .i64 tr) (x2:=.slice tpo tpl tpc) (x3:=.slice tko tkl tkc) _ k5
   have HF:=HP.out _ _ ks (CsB.mono (fun b hb q=>by have q' : w3.heap.size≤b:=q;show w.heap.size≤b;omega) (CsB.kept kk (fun b q e=>by have q' : w3.heap.size≤b:=q;have e' : b=w.heap.size:=e;omega) hcs5))
   have GG:Hid (_∧_∧_∧_):=⟨g0,g1,g2,g3⟩
   have HF2:Hid (RBldPost _ _ _ _ _ _):=HF
   clear g0 g1 g2 g3 kk ks HF k5 hcs5 z1 z3
   go_wp2
   obtain ⟨g0,g1,g2,g3⟩:=GG.out
   exact bodyPost_ret (v:=.tuple #[.agg #[.int .i64 tk,.int .i64 tr,.slice tpo tpl tpc,.slice tko tkl tkc],.slice none 0 0]) (by simp [results,Tryz.results55,go_sem,g0,g1,g2,g3]) rfl HF2.out
structure RyAt (w:World) (m:Nat) (so:Option Addr) (sc:Nat) (V:Nat) (L:List Sym) (R:List Ru) (lv:Value) (vs:List Value):Prop where
 blk:w.heap[m]? = some (.cells #[.slice so L.length sc,lv,.int .i64 (V:Int)] 31 (0,0))
 rl:Rl w.heap.size w (.slice so L.length sc) L
 row:w.ownsRow 0 90 2 lv R.length vs
 own:OCells w vs R
 le:R.length≤100
 ok:∀ x∈R,checkE L x.1=0∧checkE L x.2=0
theorem RyAt.same {w w' : World} {m:Nat} {so:Option Addr} {sc V:Nat} {L:List Sym} {R:List Ru} {lv:Value} {vs:List Value} (h:RyAt w m so sc V L R lv vs) (hk:Same0 w w'):RyAt w' m so sc V L R lv vs:=
 ⟨hk.at0 h.blk,rl_up (h.rl.same hk) hk.size,hk.row h.row (fun _ _ f=>f),h.own.same hk,h.le,h.ok⟩
theorem info_wrong:(Tryz.prog.info? 72).map (fun i=>(i.zero,i.size,i.bytes))=some (some (.agg #[.int .i64 0,.int .i64 0]),2,16):=by kernel_rfl
def wcells (ws:List (Int × Int)):List Value:=ws.flatMap (fun x=>[.int .i64 x.1,.int .i64 x.2])
theorem wcells_len (ws:List (Int × Int)):(wcells ws).length=ws.length * 2:=by
 induction ws with
 | nil=>rfl
 | cons x r ih=>simp [wcells] at ih ⊢;omega
theorem wcells_one (ws:List (Int × Int)):∀ u∈wcells ws,u.oneCell' = true:=by
 intro u hu
 simp [wcells] at hu
 obtain ⟨a,b,_,rfl | rfl⟩:=hu <;> rfl
theorem wcells_at {ws:List (Int × Int)}:∀ {i:Nat} (h:i<ws.length),(wcells ws)[i * 2]? = some (.int .i64 ws[i].1)∧(wcells ws)[i * 2+1]? = some (.int .i64 ws[i].2):=by
 induction ws with
 | nil=>intro i h;simp at h
 | cons x r ih=>
  intro i h
  cases i with
  | zero=>exact ⟨rfl,rfl⟩
  | succ i=>
   obtain ⟨a,b⟩:=ih (i:=i) (by simpa using h)
   have e:wcells (x :: r)=.int .i64 x.1 :: .int .i64 x.2 :: wcells r:=rfl
   rw [e,show (i+1) * 2=i * 2+1+1 by omega]
   exact ⟨by simpa using a,by simpa using b⟩
theorem wcells_cells {w:World} {b:Nat} {ws:List (Int × Int)} (hc:∀ i (h:i<ws.length),w.cell? ⟨b,i * 2,none⟩=some (.int .i64 ws[i].1)∧w.cell? ⟨b,i * 2+1,none⟩=some (.int .i64 ws[i].2)):∀ j u,(wcells ws)[j]? = some u→w.cell? ((⟨b,0,none⟩:Addr).add j)=some u:=by
 intro j u hj
 have hl:j<(wcells ws).length:=(List.getElem?_eq_some_iff.1 hj).1
 rw [wcells_len] at hl
 have hi:j / 2<ws.length:=by omega
 obtain ⟨a1,a2⟩:=wcells_at hi
 obtain ⟨c1,c2⟩:=hc _ hi
 have e0:((⟨b,0,none⟩:Addr).add j)=⟨b,j,none⟩:=by rw [addr_add,Nat.zero_add]
 rw [e0]
 rcases Nat.mod_two_eq_zero_or_one j with h | h
 ·have:j=j / 2 * 2:=by omega
  rw [this] at hj ⊢
  rw [a1] at hj
  rw [c1,← hj]
 ·have:j=j / 2 * 2+1:=by omega
  rw [this] at hj ⊢
  rw [a2] at hj
  rw [c2,← hj]
theorem wcells_wrs {w:World} {base:Nat} {v:Value} {ws:List (Int × Int)} (h:w.ownsRow base 72 2 v ws.length (wcells ws)):WrsAt w v ws:=by
 rcases h.2 with ⟨e,h0⟩ | ⟨g,cap,cur,e,hb,hg,_⟩
 ·exact ⟨none,0,by rw [e,h0],.inl (List.eq_nil_of_length_eq_zero h0)⟩
 ·subst e
  refine ⟨_,_,rfl,.inr ⟨g,rfl,lt_of_at hg,fun i hi=>?_⟩⟩
  have hc:=h.cells rfl
  obtain ⟨a1,a2⟩:=wcells_at hi
  have c1:=hc _ _ a1
  have c2:=hc _ _ a2
  rw [addr_add] at c1 c2
  exact ⟨by simpa using c1,by simpa using c2⟩
theorem wpList_wrong {w0:World} {ops:Array Oper} {rest:List Oper} {o:Oper} {a:Act} {Q:Exit→Act→World→Prop} (hgd:o.guard=none) (s x:Operand) (t:TypeId)
  (ho:o.op=.call { callee:=.builtin .append,args:=#[s,x],argTypes:=#[t,t] }) (ht:Tryz.prog.underlying t=some (.slice 72))
  (c p:Int) (n:Nat) (hn:w0.heap.size=n) (hs:a.eval s=.slice (some ⟨n,0,none⟩) 1 1) (ws:List (Int × Int)) (v:Value) (hx:a.eval x=v) (hw:WrsAt w0 v ws) (hpos:0<ws.length) (hl:ws.length≤100)
  (h:∀ g cap w', WrsAt w' (.slice (some ⟨g,0,none⟩) (1+ws.length) cap) ((c,p) :: ws)→Same0 w0 w' → wpList Tryz.prog ops Q rest (a.put o.dst (.slice (some ⟨g,0,none⟩) (1+ws.length) cap)) w') :
  wpList Tryz.prog ops Q (o :: rest) a (w0.alloc (.cells #[.int .i64 c,.int .i64 p] 72)):=by
 subst hn
 obtain ⟨i,hi,hz0,hz1,hz2⟩:=info_parts info_wrong
 have ka:Same0 w0 (w0.alloc (.cells #[.int .i64 c,.int .i64 p] 72)):=(Kept.refl _ _).alloc _
 obtain ⟨lo,lc,rfl,hl2⟩:=hw.same ka
 obtain ⟨b,rfl,_,hc⟩:=hl2.resolve_left (fun e=>by rw [e] at hpos;simp at hpos)
 have hown:(w0.alloc (.cells #[.int .i64 c,.int .i64 p] 72)).ownsRow w0.heap.size 72 2 (.slice (some ⟨w0.heap.size,0,none⟩) 1 1) 1 [.int .i64 c,.int .i64 p]:=⟨rfl,.inr ⟨w0.heap.size,1,_,rfl,Nat.le_refl _,heap_alloc_new _ _,Nat.le_refl _,by unfold maxLen;omega,rfl,rfl⟩⟩
 refine wpList_append_lies _ hgd s x t ho w0.heap.size 72 i _ 2 16 ht hi hz0 hz1 hz2 rfl (by decide) _ 1 [.int .i64 c,.int .i64 p] hs hown ⟨b,0,none⟩ ws.length lc (wcells ws) hx (wcells_len ws) (wcells_cells hc) (wcells_one ws) hpos (by unfold maxLen;omega) (by omega) (by simp) _ rfl ?_
 intro g cap w' hr hg _ _
 refine h g cap w' ?_ (Kept.trans ka (Kept.grown (Kept.refl _ _) hg (fun _ e _=>e)) (fun j hj e=>?_))
 ·have e:wcells ((c,p) :: ws)=[.int .i64 c,.int .i64 p]++wcells ws:=rfl
  have e2:((c,p) :: ws).length=1+ws.length:=by simp;omega
  have:=wcells_wrs (w:=w') (base:=w0.heap.size) (v:=.slice (some ⟨g,0,none⟩) (1+ws.length) cap) (ws:=(c,p) :: ws) (by rw [e,e2];exact hr)
  exact this
 ·have e' : (Value.slice (some ⟨w0.heap.size,0,none⟩) 1 1).ownBlock=some j:=e
  simp only [Value.ownBlock,Option.some.injEq] at e'
  omega
theorem ans_ex (L:List Sym) (own l:List Ru):∃ ws,Ans L own l ws:=by
 have row:∀ j,Upto L own l j 0→∀ n,n≤l.length→Upto L own l j n∨∃ m,m<l.length∧Upto L own l j m∧ckB L own l j m=false:=by
  intro j h n
  induction n with
  | zero=>exact fun _=>.inl h
  | succ n ih=>
   intro hn
   rcases ih (by omega) with h1 | h1
   ·cases hc:ckB L own l j n with
    | true=>exact .inl (h1.step hc)
    | false=>exact .inr ⟨n,by omega,h1,hc⟩
   ·exact .inr h1
 have all:∀ j,j≤8→Upto L own l j 0∨∃ i m,i<8∧m<l.length∧Upto L own l i m∧ckB L own l i m=false:=by
  intro j
  induction j with
  | zero=>exact fun _=>.inl (Upto.nil L own l)
  | succ j ih=>
   intro hj
   rcases ih (by omega) with h1 | h1
   ·rcases row j h1 l.length (Nat.le_refl _) with h2 | ⟨m,h2,h3,h4⟩
    ·exact .inl (h2.next (Nat.le_refl _))
    ·exact .inr ⟨j,m,by omega,h2,h3,h4⟩
   ·exact .inr h1
 rcases all 8 (Nat.le_refl _) with h | ⟨i,m,h1,h2,h3,h4⟩
 ·exact ⟨[],.inl ⟨rfl,h⟩⟩
 ·exact ⟨_,.inr ⟨i,m,h1,h2,h3,h4,rfl⟩⟩
theorem ans_head {L:List Sym} {R l:List Ru} {ws:List (Int × Int)} (h:Ans L R l ws) (hne:ws≠[]):∃ c p r,ws=(c,p) :: r∧p ≠ -1∧r.length≤1:=by
 rcases h with ⟨e,_⟩ | ⟨j,n,_,_,_,_,rfl⟩
 ·exact absurd e hne
 ·unfold wrongL
  split
  ·exact ⟨_,_,_,rfl,by omega,by simp⟩
  ·split
   ·exact ⟨_,_,_,rfl,by omega,by simp⟩
   ·exact ⟨_,_,_,rfl,by omega,by simp⟩
theorem Rl.flag {n:Nat} {w:World} {so:Option Addr} {sc:Nat} {L:List Sym} (h:Rl n w (.slice so L.length sc) L) {i:Nat} (hi:i<L.length):∃ g,so=some ⟨g,0,none⟩∧w.cell? ⟨g,i * 3+2,none⟩=some (.bool (defB L (i:Int))):=by
 rw [defB_at hi]
 rcases h.1.2 with ⟨_,h0⟩ | ⟨g,cap,cur,e,_,hg,_⟩
 ·omega
 ·have hc:=h.1.cells (g:=g) (by cases e;rfl) _ _ (symCells_at hi).2.2
  rw [addr_add,Nat.zero_add] at hc
  simp only [Value.slice.injEq] at e
  exact ⟨g,e.1,hc⟩
theorem RyAt.put {w:World} {m:Nat} {so:Option Addr} {sc V:Nat} {L:List Sym} {R:List Ru} {lv:Value} {vs:List Value} (h:RyAt w m so sc V L R lv vs) {R2:List Ru} {lv2:Value} {vs2:List Value} (r2:w.ownsRow 0 90 2 lv2 R2.length vs2) (o2:OCells w vs2 R2) (le2:R2.length≤100) (ok2:∀ x∈R2,checkE L x.1=0∧checkE L x.2=0) (V2:Nat) :
  (RyAt (w.setCell ⟨m,1,none⟩ lv2) m so sc V L R2 lv2 vs2∧Kept (fun q=>q=m) w (w.setCell ⟨m,1,none⟩ lv2))∧RyAt ((w.setCell ⟨m,1,none⟩ lv2).setCell ⟨m,2,none⟩ (.int .i64 (V2:Int))) m so sc V2 L R2 lv2 vs2∧Kept (fun q=>q=m) w ((w.setCell ⟨m,1,none⟩ lv2).setCell ⟨m,2,none⟩ (.int .i64 (V2:Int))):=by
 have k1:=kept_at w m 1 lv2
 have k2:=Kept.setCell (p:=⟨m,2,none⟩) k1 (fun _=>rfl) (.int .i64 (V2:Int))
 have s1:=setAt h.blk 1 lv2
 have s2:=setAt s1 2 (.int .i64 (V2:Int))
 have no:∀ (T:TypeId) (c:Array Value),T≠31→w.heap[m]? ≠ some (.cells c T (0,0)):=fun T c hT e=>by rw [h.blk] at e;cases e;exact hT rfl
 have fin:∀ ww,Kept (fun q=>q=m) w ww→Rl ww.heap.size ww (.slice so L.length sc) L∧ww.ownsRow 0 90 2 lv2 R2.length vs2∧OCells ww vs2 R2:=fun ww hk=>by
  refine ⟨⟨hk.row h.rl.1 (fun q e s=>?_),fun q e=>Nat.lt_of_lt_of_le (h.rl.2.1 q e) hk.size,h.rl.2.2⟩,hk.row r2 (fun q e s=>?_),o2.kept hk (fun q s c e=>?_)⟩
  ·obtain ⟨c,hc⟩:=own_blk h.rl.1 e
   have s' : q=m:=s
   rw [s'] at hc
   exact no _ _ (by decide) hc
  ·obtain ⟨c,hc⟩:=own_blk r2 e
   have s' : q=m:=s
   rw [s'] at hc
   exact no _ _ (by decide) hc
  ·have s' : q=m:=s
   rw [s'] at e
   exact no _ _ (by decide) e
 obtain ⟨a1,a2,a3⟩:=fin _ k1
 obtain ⟨b1,b2,b3⟩:=fin _ k2
 exact ⟨⟨⟨s1,a1,a2,a3,le2,ok2⟩,k1⟩,⟨s2,b1,b2,b3,le2,ok2⟩,k2⟩
def RyPost (m:Nat) (so:Option Addr) (sc V:Nat) (L:List Sym) (R l:List Ru) (w:World) (e:Ending) (w' : World):Prop:=
 ∃ ws v,e=.returned v∧AnsY L R l ws∧WrsAt w' v ws∧Kept (fun q=>q=m) w w' ∧ ∃ V' R' lv' vs', RyAt w' m so sc V' L R' lv' vs' ∧ (ws=[]→R' = R++l∧V' = V+(if l.length=0 then 0 else 1))∧(ws≠[]→R' = R∧V' = V∧Same0 w w')
set_option maxHeartbeats 32000000 in
theorem radd10_any {w:World} {m:Nat} {so:Option Addr} {sc V:Nat} {L:List Sym} {R:List Ru} {lv:Value} {vs:List Value} (h:RyAt w m so sc V L R lv vs) (hV:V≤1000) {lo:Option Addr} {lc:Nat} {l:List Ru} (hl:RsAt w lo l) (hll:l.length≤140737488355328) (hln:lo=none→lc=0) :
  Calls Tryz.prog 26 #[.pointer (some ⟨m,0,none⟩),.slice lo l.length lc] w (RyPost m so sc V L R l w):=by
 obtain ⟨ro,rc,hlv,_⟩:=row_rules h.row (h.own.rcells (fun x hx=>⟨(ok_len (h.ok x hx)).1.2,(ok_len (h.ok x hx)).2.2⟩))
 have hL64:L.length≤64:=h.rl.2.2.2
 have hle:=h.le
 have hok:=h.ok
 have HRY:Hid (∀ ww,Same0 w ww→RyAt ww m so sc V L R lv vs):=fun ww hk=>h.same hk
 have HS:Hid (∀ ww,Same0 w ww→ww.cell? ⟨m,0,none⟩=some (.slice so L.length sc)∧ww.cell? ⟨m,1,none⟩=some lv):=fun ww hk=>⟨cellAt (hk.at0 h.blk) 0,cellAt (hk.at0 h.blk) 1⟩
 have CC0:=HS.out w (Kept.refl _ _)
 have r2:=h.row
 have o2:∀ u∈vs,u.oneCell' = true:=(h.own.rcells (fun x hx=>⟨(ok_len (h.ok x hx)).1.2,(ok_len (h.ok x hx)).2.2⟩)).one
 have n2:=h.le
 obtain ⟨i2,hi2,hz02,hz12,hz22⟩:=info_parts info_rule
 have HO:Hid (OCells w vs R):=h.own
 have HRL:Hid (Rl w.heap.size w (.slice so L.length sc) L):=h.rl
 have hmw:=lt_of_at h.blk
 have FIN:Hid (∀ w2 rv,Same0 w w2→w2.ownsRow w.heap.size 90 2 rv R.length vs→Hid (MO (w2.alloc (.cells #[.slice so L.length sc,rv] 131)) w2.heap.size so sc L R rv vs∧w.heap.size≤w2.heap.size∧∀ q,rv.ownBlock=some q→w.heap.size≤q)∧Same0 w (w2.alloc (.cells #[.slice so L.length sc,rv] 131))):=by
  intro w2 rv s2 q2
  have ka:Same0 w2 (w2.alloc (.cells #[.slice so L.length sc,rv] 131)):=(Kept.refl _ _).alloc _
  have K:=s2.trans' ka
  exact ⟨⟨⟨heap_alloc_new _ _,rl_up (HRL.out.same K) K.size,row_mono (ka.row q2 (fun _ _ f=>f)) (Nat.zero_le _),HO.out.same K,hle,hok⟩,s2.size,fun q e=>(q2.lt q e).1⟩,K⟩
 clear h
 subst hlv
 go_enter Tryz.func26,Tryz.ntmps26
 go_upto_region 1 with fail
 go_cut [5] from 8 to 20 (fun s5 wc=>∃ r rv,s5=.pointer (some ⟨r,0,none⟩)∧Hid (MO wc r so sc L R rv vs∧w.heap.size≤r∧∀ q,rv.ownBlock=some q→w.heap.size≤q)∧Same0 w wc)
 case first=>
  go_region_held3 (fun w' => w'.cell? ⟨m,0,none⟩=some (.slice so L.length sc)∧w'.cell? ⟨m,1,none⟩=some (.slice ro R.length rc)) (first | exact CC0 | exact HS.out _ (by first | assumption | exact Kept.alloc (by assumption) _ | exact Kept.drew (Kept.refl _ _) | exact Kept.alloc (Kept.drew (Kept.refl _ _)) _ | exact Kept.drew (Kept.alloc (Kept.refl _ _) _))) (first
   | (refine step_onto (wb:=w) (by rfl) _ _ 29 90 (by rfl) i2 _ 2 48 Tryz.underlying29 hi2 hz02 hz12 hz22 rfl (by decide) _ (by rfl) R.length vs (.slice ro R.length rc) (by rfl) r2 (by first | exact (Kept.refl _ w).drew.alloc _ | exact ((Kept.refl _ w).alloc _).drew) (by first | exact heap_alloc_new _ _ | exact heap_alloc_new w _) (by omega) (by omega) (by omega) o2 ?_;intro rv w2 q2 s2 KQ;obtain ⟨vo,vc,rfl⟩:=row_shape q2;clear KQ))
  all_goals
   go_wp2_with fail
   go_meet
   case rel=>
    first
     | exact ⟨_,_,rfl,FIN.out _ _ s2 q2⟩
     | ((repeat apply Exists.intro);exact ⟨⟨_,_,rfl,FIN.out _ _ s2 q2⟩,rfl⟩)
 case rest=>
  obtain ⟨r,rv,rfl,hMO,kc⟩:=hcut
  obtain ⟨W2,rfl⟩:∃ W2,W2=wc:=⟨_,rfl⟩
  obtain ⟨h2,hwr,hrv⟩:=hMO.out
  have hl2:=hl.same kc
  clear hMO CC0 r2 o2 n2 hi2 hz02 hz12 hz22 FIN
  by_cases hA:Ans L R l []
  ·have hfit:=hA.fit hle
   have CAD:=radd_yes (lc:=lc) h2 hl2 hll hln hA hfit.2 hfit.1 (fun ww hk=>hl.same (Kept.trans kc hk (fun i hi e=>by rcases e with e | e; (omega); (have:=hrv i e;omega))))
   have HAN:Hid (Ans L R l []):=hA
   have hrle:(R++l).length≤100:=by rw [List.length_append];exact hfit.1
   have hrok:∀ x∈R++l,checkE L x.1=0∧checkE L x.2=0:=fun x hx=>by
    rcases List.mem_append.1 hx with q | q
    ·exact hok x q
    ·exact hfit.2 x q
   have hkw:=hwr
   clear h2 hl2 hA hfit
   go_upto_region 6 with (first | (go_at_call 54;refine CAD.mono ?_;rintro e w3 ⟨lv3,vs3,rfl,hm3,_,k3⟩))
   have K3:Same0 w w3:=Kept.trans kc k3 (fun i hi e=>by rcases e with e | e; (omega); (have:=hrv i e;omega))
   obtain ⟨mo3,mc3,hlv3,hmr3⟩:=hm3.read
   subst hlv3
   have HM3:Hid (∀ ww,Same0 w3 ww→MO ww r so sc L (R++l) (.slice mo3 (R++l).length mc3) vs3∧ww.cell? ⟨r,1,none⟩=some (.slice mo3 (R++l).length mc3)∧RsAt ww mo3 (R++l)∧Rl ww.heap.size ww (.slice so L.length sc) L):=fun ww hk=>by
    have h9:=hm3.same hk
    exact ⟨h9,cellAt h9.blk 1,hmr3.rs.same hk,h9.rl⟩
   have HS3:Hid (∀ ww,Same0 w3 ww→ww.cell? ⟨m,0,none⟩=some (.slice so L.length sc)):=fun ww hk=>(HS.out ww (K3.trans' hk)).1
   have HBD:Hid (∀ ww (n:Int),Same0 w3 ww→Calls Tryz.prog 55 #[.slice so L.length sc,.slice mo3 (R++l).length mc3,.int .i64 n] ww (RBldPost L (R++l) n ww)):=fun ww n hk=>rbuild8_any (HM3.out ww hk).2.2.2 (HM3.out ww hk).2.2.1 hrle hrok mc3 n
   clear CAD hm3 hmr3 k3
   go_loopw [7] (fun s wr=>∃ n:Nat,n≤L.length∧s=.int .i64 (n:Int)∧Same0 w3 wr∧Hid (NoFork L (R++l) n)) (fun s _=>L.length-(intOf s).toNat)
   case atStart=>exact ⟨0,Nat.zero_le _,rfl,Kept.refl _ _,fun k hk=>absurd hk (by omega)⟩
   case round=>
    obtain ⟨n,hn,rfl,hw,hnf⟩:=hrel
    obtain ⟨wz,rfl⟩:∃ wz,wz=wr:=⟨_,rfl⟩
    have m0:=HS3.out wz hw
    by_cases hlt:n<L.length
    ·have i1:(0:Int)≤(n:Int):=by omega
     have i2:(n:Int)<(L.length:Int):=by omega
     have hl3:IntKind.i64.wrap ((n:Int)+1)=(n:Int)+1:=iwrap (by omega) (by omega)
     obtain ⟨g,hso,hfl⟩:=(HM3.out wz hw).2.2.2.flag hlt
     subst hso
     cases hd:defB L (n:Int) with
     | false=>
      rw [hd] at hfl
      have HN1:Hid (NoFork L (R++l) (n+1)):=fun k hk hdk=>by
       by_cases e:k=n
       ·subst e;rw [hd] at hdk;cases hdk
       ·exact hnf.out k (by omega) hdk
      clear HBD HM3 HRY
      go_wp2_with fail
      first | exact ⟨⟨n+1,by omega,by go_num,hw,HN1⟩,by simp [intOf];omega⟩ | (go_roundw;case rel=>first | exact ⟨n+1,by omega,by go_num,hw,HN1⟩ | ((repeat apply Exists.intro);exact ⟨⟨n+1,by omega,by go_num,hw,HN1⟩,rfl⟩);case measure=>first | (simp [intOf];done) | (simp [intOf];omega))
     | true=>
      rw [hd] at hfl
      have CB:Hid (∀ ww,Same0 wz ww→Calls Tryz.prog 55 #[.slice (some ⟨g,0,none⟩) L.length sc,.slice mo3 (R++l).length mc3,.int .i64 (n:Int)] ww fun e w' => ∃ v wo wn wc,e=.returned (.tuple #[v,.slice wo wn wc])∧Hid ((wn=0∧∃ t,treeF L (R++l) n=.ok t)∨∃ z,treeF L (R++l) n=.error z∧wn=2∧WrsAt w' (.slice wo wn wc) [(81,(n:Int)),(82,z)])∧Same0 ww w'):=fun ww hk=>by
       refine (HBD.out ww (n:Int) (hw.trans' hk)).mono ?_
       rintro e w' ⟨k9,h9⟩
       rw [if_pos hd,Int.toNat_natCast] at h9
       cases ht:treeF L (R++l) n with
       | ok t=>
        rw [ht] at h9
        obtain ⟨v,rfl,_⟩:=h9
        exact ⟨v,none,0,0,rfl,.inl ⟨rfl,t,rfl⟩,k9⟩
       | error z=>
        rw [ht] at h9
        obtain ⟨v,rfl,hw9,_⟩:=h9
        obtain ⟨wo,wc9,rfl,_⟩:=id hw9
        exact ⟨_,wo,2,wc9,rfl,.inr ⟨z,rfl,rfl,hw9⟩,k9⟩
      have HC9:Hid (∀ ww,Same0 wz ww→ww.cell? ⟨m,0,none⟩=some (.slice (some ⟨g,0,none⟩) L.length sc)∧ww.cell? ⟨r,1,none⟩=some (.slice mo3 (R++l).length mc3)):=fun ww hk=>⟨HS3.out ww (hw.trans' hk),(HM3.out ww (hw.trans' hk)).2.1⟩
      have D0:=HC9.out wz (Kept.refl _ _)
      go_upto_region 9 with fail
      clear hfl m0
      go_cut [6] from 34 to 72 (fun s6 wc=>∃ wo wn wk,s6=.slice wo wn wk∧Hid ((wn=0∧∃ t,treeF L (R++l) n=.ok t)∨∃ z,treeF L (R++l) n=.error z∧wn=2∧WrsAt wc (.slice wo wn wk) [(81,(n:Int)),(82,z)])∧Same0 wz wc)
      case first=>
       have kd:Same0 wz wz.drew:=Kept.drew (Kept.refl _ _)
       have C9:=CB.out wz.drew kd
       obtain ⟨d0,d1⟩:=D0
       clear CB HBD HRY HM3 hd hlt hn hnf hok hrok hrle HS HRL HO HS3 hV hL64 hle hkw hrv hll hln hw hl3 i1 i2 K3 HAN HC9
       generalize (R++l).length=NL at *
       go_region_with (first
        | (go_at_call 55;refine C9.mono ?_;rintro e w10 ⟨v9,wo,wn,wk,rfl,h10,k10⟩;have k910:=kd.trans' k10))
       all_goals
        go_wp2_with fail
        go_meet
        case rel=>first | exact ⟨wo,wn,wk,rfl,h10,k910⟩ | ((repeat apply Exists.intro);exact ⟨⟨wo,wn,wk,rfl,h10,k910⟩,rfl⟩)
      case rest=>
       obtain ⟨wo,wn,wk,rfl,h10,kc10⟩:=hcut
       obtain ⟨wx,rfl⟩:∃ wx,wx=wc:=⟨_,rfl⟩
       have KX:Same0 w3 wx:=hw.trans' kc10
       rcases h10.out with ⟨rfl,t,ht⟩ | ⟨z,hz,rfl,hW⟩
       ·have HN1:Hid (NoFork L (R++l) (n+1)):=fun k hk hdk=>by
         by_cases e:k=n
         ·subst e;exact ⟨t,ht⟩
         ·exact hnf.out k (by omega) hdk
        clear HBD HM3 HRY CB HC9 h10 D0
        go_wp2_with fail
        first | exact ⟨⟨n+1,by omega,by go_num,KX,HN1⟩,by simp [intOf];omega⟩ | (go_roundw;case rel=>first | exact ⟨n+1,by omega,by go_num,KX,HN1⟩ | ((repeat apply Exists.intro);exact ⟨⟨n+1,by omega,by go_num,KX,HN1⟩,rfl⟩);case measure=>first | (simp [intOf];done) | (simp [intOf];omega))
       ·have HA:Hid (AnsY L R l [(102,(n:Int)),(81,(n:Int)),(82,z)]):=.inr (.inl ⟨HAN.out,n,z,⟨hlt,hd,hz,hnf.out⟩,rfl⟩)
        clear HBD HM3 CB HC9 h10 D0
        go_wp2_with (first | (at_builtin;refine wpList_wrong rfl _ _ 66 rfl Tryz.underlying66 102 (n:Int) _ rfl rfl [(81,(n:Int)),(82,z)] (.slice wo 2 wk) rfl hW (by simp) (by simp) ?_;intro g9 cap9 w4 hw4 k4))
        go_ret
        have K4:Same0 w w4:=(K3.trans' KX).trans' k4
        exact ⟨_,_,rfl,HA.out,hw4,K4.mono (fun _ _ f=>f.elim),V,R,_,vs,HRY.out _ K4,⟨(fun e=>by cases e),fun _=>⟨rfl,rfl,K4⟩⟩⟩
    ·have en:n=L.length:=by omega
     subst en
     have i2:¬ (L.length:Int)<(L.length:Int):=by omega
     have KZ:Same0 w wz:=K3.trans' hw
     have hR9:=HRY.out wz KZ
     obtain ⟨hm9,c9,_,_⟩:=HM3.out wz hw
     obtain ⟨⟨p1,q1⟩,p2,q2⟩:=hR9.put hm9.row hm9.own hrle hrok (V+1)
     have y1:=cellAt hR9.blk 1
     have f1:=frozenAt hR9.blk 1
     have s1:=setAt hR9.blk 1 (.slice mo3 (R++l).length mc3)
     have y2:(wz.setCell ⟨m,1,none⟩ (.slice mo3 (R++l).length mc3)).cell? ⟨m,2,none⟩=some (.int .i64 (V:Int)):=cellAt s1 2
     have f2:=frozenAt s1 2
     simp only [List.getElem?_toArray,List.getElem?_cons_zero,List.getElem?_cons_succ] at y1
     have HA:Hid (AnsY L R l []):=.inr (.inr ⟨HAN.out,hnf.out,rfl⟩)
     have HP1:Hid (_∧_):=And.intro p1 (Kept.trans (KZ.mono (S' := fun q=>q=m) (fun _ _ f=>f.elim)) q1 (fun _ _ e=>e))
     have HP2:Hid (_∧_):=And.intro p2 (Kept.trans (KZ.mono (S' := fun q=>q=m) (fun _ _ f=>f.elim)) q2 (fun _ _ e=>e))
     clear p1 q1 p2 q2 s1 HBD HM3 HRY hm9 hR9 hnf HAN
     generalize (R++l).length=NL at *
     by_cases h0:l.length=0
     ·have h0' : ¬ (0:Int)<(l.length:Int):=by omega
      have HV0:Hid (V=V+(if l.length=0 then 0 else 1)):=by show _=_;rw [if_pos h0];omega
      go_wp2
      go_ret
      exact ⟨[],_,rfl,HA.out,⟨none,0,rfl,.inl rfl⟩,HP1.out.2,V,_,_,_,HP1.out.1,fun _=>⟨rfl,HV0.out⟩,fun e=>absurd rfl e⟩
     ·have h0' : (0:Int)<(l.length:Int):=by omega
      have hVw:IntKind.i64.wrap ((V:Int)+1)=((V+1:Nat):Int):=by rw [iwrap (by omega) (by omega)];omega
      have HV0:Hid (V+1=V+(if l.length=0 then 0 else 1)):=by show _=_;rw [if_neg h0]
      clear h0
      go_wp2
      go_ret
      exact ⟨[],_,rfl,HA.out,⟨none,0,rfl,.inl rfl⟩,HP2.out.2,V+1,_,_,_,HP2.out.1,fun _=>⟨rfl,HV0.out⟩,fun e=>absurd rfl e⟩
  ·obtain ⟨ws,hws⟩:=ans_ex L R l
   have hne:ws≠[]:=fun e=>hA (by rw [e] at hws;exact hws)
   obtain ⟨c,p,rr,rfl,hp,hr1⟩:=ans_head hws hne
   have CAD:=radd7_no (lc:=lc) h2 hl2 hll hln hws hne
   have HA:Hid (AnsY L R l ((101,p) :: (c,p) :: rr)):=.inl ⟨c,p,rr,hws,hp,hr1,rfl⟩
   have hlen:((c,p) :: rr).length≤100:=by simp;omega
   clear hws hne h2 hl2 hA
   go_upto_region 3 with (first | (go_at_call 54;refine CAD.mono ?_;rintro e w3 ⟨v,rfl,hW,k3⟩))
   obtain ⟨wo,wc3,rfl,hW2⟩:=id hW
   obtain ⟨b,rfl,_,hc⟩:=hW2.resolve_left (by simp)
   obtain ⟨g0,g1⟩:=hc 0 (by simp)
   simp only [List.getElem_cons_zero,Nat.zero_mul,Nat.zero_add] at g0 g1
   have K3:Same0 w w3:=kc.trans' k3
   have hpos:(0:Int)<(((c,p) :: rr).length:Int):=by simp
   clear CAD hW2 hc
   go_wp2_with (first | (at_builtin;refine wpList_wrong rfl _ _ 66 rfl Tryz.underlying66 101 p _ rfl rfl ((c,p) :: rr) (.slice (some ⟨b,0,none⟩) _ wc3) rfl hW (by simp) hlen ?_;intro g9 cap9 w4 hw4 k4))
   go_ret
   have K4:Same0 w w4:=K3.trans' k4
   exact ⟨_,_,rfl,HA.out,by simpa [Nat.add_comm] using hw4,K4.mono (fun _ _ f=>f.elim),V,R,_,vs,HRY.out _ K4,⟨(fun e=>by cases e),fun _=>⟨rfl,rfl,K4⟩⟩⟩
end Go.Proofs.YtmjgnfkbnofjoaaGreatDoor
