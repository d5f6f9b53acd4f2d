import Derived.WalkKit
import Derived.Test.YtjahpnbijefncaaGreatCC23
namespace Go.Proofs.YtjahpnbijefncaaGreat
set_option maxRecDepth 100000
set_option linter.unusedVariables false
set_option maxHeartbeats 32000000
section
open Go.RowKit
attribute [local go_sem ↓] Go.wp_at_zero Go.wp_at_succ
theorem Vt {w0:World} {ops:Array Oper} {rest:List Oper} {o:Oper} {a:Act} {Q:Exit->Act->World->Prop} (hgd:o.guard=none) (s x:Operand)
  (ho:o.op=.call { callee:=.builtin .append,args:=#[s,x],argTypes:=#[47,47] }) (B:Nat->Prop) (vi vp:Value) (st:St9) (hs:a.eval s=vi) (hL:Lay B w0 vi vp st) (hB:∀ b,B b->b<w0.heap.size) (hsz:st.1.length<=1000000000000) (x0 y0 z0:Int) (N:Nat) (hN:w0.heap.size=N) (hx:a.eval x=.slice (some ⟨N,0,none⟩) 1 1) (M:Nat) (hM:M=st.1.length+1)
  (h:∀ g cap w', Lay B w' (.slice (some ⟨g,0,none⟩) M cap) vp (st.1 ++ [(x0,y0,z0)],st.2)->Zc (λ k=>¬ B k) w0 w' -> wpList Tryz.prog ops Q rest (a.put o.dst (.slice (some ⟨g,0,none⟩) M cap)) w') :
  wpList Tryz.prog ops Q (o :: rest) a (w0.alloc (.cells #[.int .i64 x0,.int .i64 y0,.int .i64 z0] 117)):=by
 subst hN hM;obtain ⟨i,hi,hz0,hz1,hz2⟩:=info_parts Zll;refine wpList_append_lies _ hgd s x 47 ho 0 117 i _ 3 24 Tryz.underlying47 hi hz0 hz1 hz2 rfl (by decide) vi st.1.length (Zhd st.1) hs (hL.ri.alloc _) ⟨w0.heap.size,0,none⟩ 1 1 [.int .i64 x0,.int .i64 y0,.int .i64 z0] hx rfl (World.news_of_block (cs:=#[.int .i64 x0,.int .i64 y0,.int .i64 z0]) (t:=117) (fr:=(0,0)) (heap_alloc_new w0 _)) (by simp [Value.oneCell']) (by omega) (by unfold maxLen;omega) (by omega) (by omega) (w0.heap.size+1) (by simp) ?_;intro g cap w' hown hgrow hat hlt;have kg:Zc (λ k=>vi.ownBlock=some k) w0 w' := Zc.grown (Zc.alloc (Zc.refl _ w0) _) hgrow (λ _ e _=>e);refine h g cap w' (hL.ins (x0,y0,z0) hown kg (λ k e=>?_) hB) (kg.mono (λ k _ e=>hL.ib k e));simp only [Value.ownBlock,Option.some.injEq] at e;subst e;exact hat.imp id (λ q=>by omega)
theorem Zju {w0:World} {ops:Array Oper} {rest:List Oper} {o:Oper} {a:Act} {Q:Exit->Act->World->Prop} (hgd:o.guard=none) (s x:Operand)
  (ho:o.op=.call { callee:=.builtin .append,args:=#[s,x],argTypes:=#[48,48] }) (B:Nat->Prop) (vi vp:Value) (st:St9) (hs:a.eval s=vp) (hL:Lay B w0 vi vp st) (hB:∀ b,B b->b<w0.heap.size) (hsz:st.2.length<=1000000000000) (ao:Option Addr) (ac:Nat) (p:List Int) (ha:Xx w0 ao p ac) (hab:∀ a,ao=some a->¬ B a.block) (N:Nat) (hN:w0.heap.size=N) (hx:a.eval x=.slice (some ⟨N,0,none⟩) 1 1) (M:Nat) (hM:M=st.2.length+1)
  (h:∀ g cap w', Lay B w' vi (.slice (some ⟨g,0,none⟩) M cap) (st.1,st.2 ++ [p])->Zc (λ k=>¬ B k) w0 w' -> wpList Tryz.prog ops Q rest (a.put o.dst (.slice (some ⟨g,0,none⟩) M cap)) w') :
  wpList Tryz.prog ops Q (o :: rest) a (w0.alloc (.cells #[.slice ao p.length ac] 32)):=by
 subst hN hM;obtain ⟨i,hi,hz0,hz1,hz2⟩:=info_parts Zhs;obtain ⟨vs,r1,r2⟩:=hL.rp;refine wpList_append_lies _ hgd s x 48 ho 0 32 i _ 1 24 Tryz.underlying48 hi hz0 hz1 hz2 rfl (by decide) vp st.2.length vs hs (r1.alloc _) ⟨w0.heap.size,0,none⟩ 1 1 [.slice ao p.length ac] hx rfl (World.news_of_block (cs:=#[.slice ao p.length ac]) (t:=32) (fr:=(0,0)) (heap_alloc_new w0 _)) (by simp [Value.oneCell']) (by omega) (by unfold maxLen;omega) (by omega) (by omega) (w0.heap.size+1) (by simp) ?_;intro g cap w' hown hgrow hat hlt;have kg:Zc (λ k=>vp.ownBlock=some k) w0 w' := Zc.grown (Zc.alloc (Zc.refl _ w0) _) hgrow (λ _ e _=>e);refine h g cap w' (hL.path ⟨r1,r2⟩ ha hab hown kg (λ k e=>?_) hB) (kg.mono (λ k _ e=>hL.pb k e));simp only [Value.ownBlock,Option.some.injEq] at e;subst e;exact hat.imp id (λ q=>by omega)
def Zpk (n:Nat):Prop:=∀ (B:Nat->Prop) (w:World) (v vi vp:Value) (t:Tr n) (s:St9),Lay B w vi vp s->(∀ b,B b->b<w.heap.size)->CsB B w n v t->s.1.length+s.2.length+Za6 n t<=1000000000000 ->
 Calls Tryz.prog 52 #[v,vi,vp] w λ e w' => ∃ vi' vp', e=.returned (.tuple #[vi', vp'])∧Lay B w' vi' vp' (Jc n t s)∧Zc (λ k=>¬ B k) w w'
theorem Kv {B:Nat->Prop} {w:World} {vi vp:Value} {s:St9} (h:Lay B w vi vp s):∃ io ic vo vc,vi=.slice io s.1.length ic∧vp=.slice vo s.2.length vc:=by
 obtain ⟨io,ic,rfl⟩:=Zf h.ri;obtain ⟨vs,t4,t5⟩:=h.rp;obtain ⟨vo,vc,rfl⟩:=Zf t4;exact ⟨io,ic,vo,vc,rfl,rfl⟩
theorem Zpr {n:Nat} (IH:Zpk n):Zpk (n+1):=by
 intro B w v vi vp t s hT hB hC hs;obtain ⟨k,r,p,l⟩:=t;obtain ⟨po,pc,ko,kc,rfl,hA,hrest⟩:=hC;have hC:CsB B w (n+1) (.agg #[.int .i64 k,.int .i64 r,.slice po p.length pc,.slice ko l.length kc]) (k,r,p,l):=⟨po,pc,ko,kc,rfl,hA,hrest⟩;clear hrest;obtain ⟨io,ic,vo,vc,rfl,rfl⟩:=Kv hT;obtain ⟨W1,hW1⟩:∃ W1,W1=w.alloc (.cells #[.int .i64 k,.int .i64 r,.slice po p.length pc,.slice ko l.length kc] 35):=⟨_,rfl⟩;have KW:Za w W1:=by rw [hW1];exact (Zc.refl _ w).alloc _
 have hbx:W1.heap[w.heap.size]? = some (.cells #[.int .i64 k,.int .i64 r,.slice po p.length pc,.slice ko l.length kc] 35 (0,0)):=by rw [hW1];exact heap_alloc_new w _
 obtain ⟨B1,hB1⟩:∃ B1:Nat->Prop,B1=λ b=>B b∨b=w.heap.size:=⟨_,rfl⟩
 have LT:Hid (∀ ww:World,W1.heap.size<=ww.heap.size->∀ b,B1 b->b<ww.heap.size):=λ ww hz b q=>by
  rw [hB1] at q;refine Nat.lt_of_lt_of_le ?_ hz
  rcases q with q | q
  ·exact Nat.lt_of_lt_of_le (hB b q) KW.size
  ·rw [q];exact Zi hbx
 have UP:Hid (∀ b,B b->B1 b):=λ b q=>by rw [hB1];exact .inl q
 have L1:Lay B1 W1 (.slice io s.1.length ic) (.slice vo s.2.length vc) s:=(hT.mono (B' := B1) (λ b hb q=>by
  rw [hB1] at q
  rcases q with q | q
  ·exact q
  ·omega)).same KW
 have BX:Hid (∀ ww,Zc (λ k=>¬ B1 k) W1 ww->ww.cell? ⟨w.heap.size,0,none⟩=some (.int .i64 k)∧ww.cell? ⟨w.heap.size,1,none⟩=some (.int .i64 r)∧ww.cell? ⟨w.heap.size,2,none⟩=some (.slice po p.length pc)∧ww.cell? ⟨w.heap.size,3,none⟩=some (.slice ko l.length kc)):=λ ww hk=>by
  have:=hk.at hbx (λ q=>q (by rw [hB1];exact .inr rfl));exact ⟨Zb this 0,Zb this 1,Zb this 2,Zb this 3⟩
 have FINAL:Hid (∀ ww vi' vp' s', Lay B1 ww vi' vp' s' -> Zc (λ k=>¬ B1 k) W1 ww->Lay B ww vi' vp' s' ∧ Zc (λ k=>¬ B k) w ww):=λ ww vi' vp' s' h1 h2=>⟨h1.mono (λ b _ q=>UP.out b q),KeptB.trans (KeptB.of KW) (h2.mono (λ b _ q r=>q (UP.out b r)))⟩;have HC:Hid (∀ ww,Zc (λ k=>¬ B1 k) W1 ww->CsB B ww (n+1) (.agg #[.int .i64 k,.int .i64 r,.slice po p.length pc,.slice ko l.length kc]) (k,r,p,l)):=λ ww hk=>KeptB.cs hk UP.out (hC.same KW);have FLAT:Hid (∀ ww v' vi' vp' t' s', Lay B1 ww vi' vp' s' -> W1.heap.size<=ww.heap.size->CsB B ww n v' t' -> s'.1.length+s'.2.length+Za6 n t' <= 1000000000000->Calls Tryz.prog 52 #[v', vi', vp'] ww λ e w' => ∃ vi2 vp2,e=.returned (.tuple #[vi2,vp2])∧Lay B1 w' vi2 vp2 (Jc n t' s')∧Zc (λ k=>¬ B1 k) ww w'):=λ ww v' vi' vp' t' s' h1 h2 h3 h4=>IH B1 ww v' vi' vp' t' s' h1 (LT.out ww h2) (h3.mono (λ b _ q=>UP.out b q)) h4;obtain ⟨x0,x1,x2,x3⟩:=BX.out W1 (Zc.refl _ _);have lt1:=LT.out W1 (Nat.le_refl _);rw [Zgw] at hs;clear hC hB hT IH hB1 hbx
 by_cases h1:k=1
 ·subst h1
  rw [Zij rfl];have hz1:s.1.length<=1000000000000:=by omega
  clear hs HC FLAT hA LT UP
  go_enter Tryz.func52,Tryz.ntmps52
  go_upto_region 1 with fail
  rw [<- hW1];clear hW1
  go_wp2_with (first | (at_builtin;refine Vt rfl _ _ rfl B1 (.slice io s.1.length ic) (.slice vo s.2.length vc) s rfl L1 lt1 hz1 4 r 0 W1.heap.size rfl rfl (s.1.length+1) rfl ?_;intro g cap w2 L2 k2))
  exact bodyPost_ret (v:=.tuple #[.slice (some ⟨g,0,none⟩) (s.1.length+1) cap,.slice vo s.2.length vc]) (by simp [results,Tryz.results52,go_sem]) rfl ⟨_,_,rfl,FINAL.out _ _ _ _ L2 k2⟩
 ·have e1:(k == 1)=false:=by simpa using h1
  by_cases h2:k=2
  ·subst h2
   rw [Zdw rfl];rw [if_pos rfl] at hs;have hl:l.length<=1000000000000:=by omega
   have HS:Hid (s.1.length+s.2.length+(3+l.length+Zbs (l.map (λ x=>Za6 n x.2)))<=1000000000000):=hs;have hz1:s.1.length<=1000000000000:=by omega
   have AX:Hid (∀ ww,Zc (λ k=>¬ B1 k) W1 ww->Arg ww po p pc):=λ ww hk=>by
    obtain ⟨po', pc', ko', kc', e,h1,h2,_⟩:=HC.out ww hk;simp only [Value.agg.injEq,Array.mk.injEq,List.cons.injEq,Value.slice.injEq,true_and,and_true] at e;obtain ⟨⟨rfl,rfl⟩,_⟩:=e;exact h1
   obtain ⟨P,hP⟩:∃ P,P=s.2.length:=⟨_,rfl⟩;have HP:Hid (P=s.2.length):=hP;obtain ⟨N1,hN1⟩:∃ N1,N1=s.1.length+1:=⟨_,rfl⟩;have HN1:Hid (N1=s.1.length+1):=hN1;have hN1b:N1+l.length<=1000000000001:=by omega
   have hPb:P<=1000000000000:=by omega
   have L1' : Lay B1 W1 (.slice io s.1.length ic) (.slice vo P vc) s:=by rw [hP];exact L1
   rw [<- hN1,<- hP];clear hs L1 hP h1 e1 hN1
   go_enter Tryz.func52,Tryz.ntmps52
   go_upto_region 1 with fail
   rw [<- hW1];clear hW1
   go_upto_region 6 with (first | (at_builtin;refine Vt rfl _ _ rfl B1 (.slice io s.1.length ic) (.slice vo P vc) s rfl L1' lt1 hz1 1 (P:Int) 0 W1.heap.size rfl rfl N1 HN1.out ?_;intro g2 c2 w2 L2 k2))
   clear x0 x1 x2 x3 L1' lt1 hz1;have z2:=k2.size;have lt2:=LT.out w2 z2;have kA:Za w2 (w2.alloc (.cells #[] 3)):=(Zc.refl _ w2).alloc _;have a2:=AX.out w2 k2;have iA:=a2.at'.same kA;have nA:=a2.nil;have sA:=a2.size;obtain ⟨x0,x1,x2,x3⟩:=BX.out _ (KeptB.trans k2 (KeptB.of kA));have rA:Row w2.heap.size (w2.alloc (.cells #[] 3)) (.slice (some ⟨w2.heap.size,0,none⟩) 0 0) []:=Zbb w2 w2.heap.size (Nat.le_refl _) rfl;have zA:w2.heap.size<=(w2.alloc (.cells #[] 3)).heap.size:=kA.size;have y1:(([]:List Int).length+p.length) * 8<=140737488355328:=by simp;omega
   have P1L:Hid (P+1=(s.1 ++ [((1,(P:Int),0):I3)],s.2).2.length+1):=by show _=_;rw [HP.out]
   have MID:Hid (∀ v3 w3,Row w2.heap.size w3 v3 p->Zc (λ k=>(Value.slice (some ⟨w2.heap.size,0,none⟩) 0 0).ownBlock=some k) (w2.alloc (.cells #[] 3)) w3->∃ qo qc,v3=.slice qo p.length qc∧Hid (Xx w3 qo p qc∧(∀ a,qo=some a->¬ B1 a.block)∧Za w2 w3∧Lay B1 w3 (.slice (some ⟨g2,0,none⟩) N1 c2) (.slice vo P vc) (s.1 ++ [(1,(P:Int),0)],s.2)∧(∀ b,B1 b->b<w3.heap.size)∧s.2.length<=1000000000000)):=λ v3 w3 h1 h2=>by
    have k3:Za w2 w3:=kA.onto rA h2;obtain ⟨qo,qc,rfl,g1,g3⟩:=h1.arg8 sA;exact ⟨qo,qc,rfl,g1,λ a e q=>by have:=g3 a e;have:=lt2 _ q;omega,k3,L2.same k3,λ b q=>Nat.lt_of_lt_of_le (lt2 b q) k3.size,by rw [<- HP.out];exact hPb⟩
   clear L2 a2
   go_upto_region 7 with (first | (at_builtin;refine Zhw rfl _ _ 32 rfl Tryz.underlying32 w2.heap.size [] (.slice (some ⟨w2.heap.size,0,none⟩) 0 0) rfl rA p po p.length pc rfl rfl iA nA zA y1 ?_;intro v3 w3 r3 k3;rw [List.nil_append] at r3;obtain ⟨qo,qc,rfl,H3⟩:=MID.out v3 w3 r3 k3) | (at_builtin;refine Zju rfl _ _ rfl B1 (.slice (some ⟨g2,0,none⟩) N1 c2) (.slice vo P vc) (s.1 ++ [(1,(P:Int),0)],s.2) rfl H3.out.2.2.2.1 H3.out.2.2.2.2.1 H3.out.2.2.2.2.2 qo qc p H3.out.1 H3.out.2.1 w3.heap.size rfl rfl (P+1) P1L.out ?_;intro g4 c4 w4 L4 k4))
   have K4:Zc (λ k=>¬ B1 k) W1 w4:=KeptB.trans (KeptB.trans k2 (KeptB.of H3.out.2.2.1)) k4
   have L4' : Lay B1 w4 (.slice (some ⟨g2,0,none⟩) N1 c2) (.slice (some ⟨g4,0,none⟩) (P+1) c4) (Xa p (([]:List (Int × Tr n)).map (λ x=>x.1)) s):=by
    have e5:Xa p (([]:List (Int × Tr n)).map (λ x=>x.1)) s=(s.1 ++ [(1,(P:Int),0)],s.2 ++ [p]):=by rw [HP.out];simp [Xa]
    rw [e5];exact L4
   obtain ⟨P1,hP1⟩:∃ P1,P1=P+1:=⟨_,rfl⟩;rw [<- hP1] at L4' ⊢;clear hP1 L4 k4 H3 MID P1L r3 k3 kA iA nA sA rA zA y1 x0 x1 x2 x3 lt2 z2 k2;have H0:Hid (Lay B1 w4 (.slice (some ⟨g2,0,none⟩) N1 c2) (.slice (some ⟨g4,0,none⟩) P1 c4) (Xa p ((l.take 0).map (λ x=>x.1)) s)∧Zc (λ k=>¬ B1 k) W1 w4):=⟨L4', K4⟩;clear L4' K4
   go_wp2_with fail
   go_loopw [1,9] (λ s1 s9 wr=>∃ (j M:Nat) (qo:Option Addr) (qc:Nat),j<=l.length∧Hid (M=N1+j)∧s9=.int .i64 (j:Int)∧s1=.slice qo M qc∧Hid (Lay B1 wr (.slice qo M qc) (.slice (some ⟨g4,0,none⟩) P1 c4) (Xa p ((l.take j).map (λ x=>x.1)) s)∧Zc (λ k=>¬ B1 k) W1 wr)) (λ _ s9 _=>l.length-(intOf s9).toNat)
   case atStart=>exact ⟨0,N1,_,_,Nat.zero_le _,rfl,rfl,rfl,H0⟩
   case round=>
    clear H0;obtain ⟨j,M,qo,qc,hj,hM,rfl,rfl,hR⟩:=hrel;obtain ⟨hL,hK⟩:=hR.out;have zr:=hK.size;have ltr:=LT.out wr zr;obtain ⟨x0,x1,x2,x3⟩:=BX.out wr hK;have hst:(Xa p ((l.take j).map (λ x=>x.1)) s).1.length=M:=by rw [(Zek _ _ _).1,hM.out,HN1.out];simp only [List.length_map,List.length_take];omega
    have hMb:M<=1000000000000:=by have:=hM.out;have:=HN1.out;have:=HS.out;omega
    have hsz:(Xa p ((l.take j).map (λ x=>x.1)) s).1.length<=1000000000000:=by omega
    have hM1:Hid (M+1=(Xa p ((l.take j).map (λ x=>x.1)) s).1.length+1):=by show _=_;omega
    by_cases hlt:j<l.length
    ·obtain ⟨kb,koff,tk,tr,tpo,tpl,tpc,tko,tkl,tkc,rfl,q0,q1,q2,q3,q4, -⟩:=Zlw (HC.out wr hK) hlt
     have MORE:Hid (∀ w' g' c', Lay B1 w' (.slice (some ⟨g', 0,none⟩) (M+1) c') (.slice (some ⟨g4,0,none⟩) P1 c4) ((Xa p ((l.take j).map (λ x=>x.1)) s).1 ++ [(2,l[j].1,0)],(Xa p ((l.take j).map (λ x=>x.1)) s).2)->Zc (λ k=>¬ B1 k) wr w' -> Lay B1 w' (.slice (some ⟨g', 0,none⟩) (M+1) c') (.slice (some ⟨g4,0,none⟩) P1 c4) (Xa p ((l.take (j+1)).map (λ x=>x.1)) s)∧Zc (λ k=>¬ B1 k) W1 w'):=λ w' g' c' h1 h2=>by
      refine ⟨?_,KeptB.trans hK h2⟩;rw [List.take_add_one,List.getElem?_eq_getElem hlt,List.map_append];simp only [Option.toList_some,List.map_cons,List.map_nil];rw [Ze8];exact h1
     have HMM:Hid (M+1=N1+(j+1)):=by show _=_;rw [hM.out];omega
     have i1:(0:Int)<=(j:Int):=by omega
     have i2:(j:Int)<(l.length:Int):=by omega
     generalize l[j].1=z at *;clear hR hM hK FINAL HC BX FLAT hst
     go_wp2_with (first | (at_builtin;refine Vt rfl _ _ rfl B1 (.slice qo M qc) (.slice (some ⟨g4,0,none⟩) P1 c4) _ rfl hL ltr hsz 2 z 0 wr.heap.size rfl rfl (M+1) hM1.out ?_;intro g5 c5 w5 L5 k5))
     have MM:Hid _:=MORE.out w5 g5 c5 L5 k5;go_roundw
     case rel=>first | exact ⟨j+1,M+1,_,_,by omega,HMM,by go_num,rfl,MM⟩ | ((repeat apply Exists.intro);exact ⟨⟨j+1,M+1,_,_,by omega,HMM,by go_num,rfl,MM⟩,rfl⟩)
     case measure=>simp [intOf];omega
    ·obtain rfl:j=l.length:=by omega
     clear hst;rw [List.take_of_length_le (Nat.le_refl _)] at hL hsz hM1
     have SHD:Hid (∀ w' g' c', Lay B1 w' (.slice (some ⟨g', 0,none⟩) (M+1) c') (.slice (some ⟨g4,0,none⟩) P1 c4) ((Xa p (l.map (λ x=>x.1)) s).1 ++ [(3,0,0)],(Xa p (l.map (λ x=>x.1)) s).2)->Zc (λ k=>¬ B1 k) wr w' -> Lay B1 w' (.slice (some ⟨g', 0,none⟩) (M+1) c') (.slice (some ⟨g4,0,none⟩) P1 c4) (Ke (Jc n) (l.take 0) N1 (Xc p (l.map (λ x=>x.1)) s))∧Zc (λ k=>¬ B1 k) W1 w'):=λ w' g' c' h1 h2=>by
      refine ⟨?_,KeptB.trans hK h2⟩;rw [List.take_zero,Ke,Zif];exact h1
     clear hR hM hlt hj hK
     go_upto_region 13 with (first | (at_builtin;refine Vt rfl _ _ rfl B1 (.slice qo M qc) (.slice (some ⟨g4,0,none⟩) P1 c4) _ rfl hL ltr hsz 3 0 0 wr.heap.size rfl rfl (M+1) hM1.out ?_;intro g5 c5 w5 L5 k5))
     have H0:Hid _:=SHD.out w5 g5 c5 L5 k5;obtain ⟨M5,hM5⟩:∃ M5,M5=M+1:=⟨_,rfl⟩;rw [<- hM5] at H0 ⊢;clear hM5 L5 k5 SHD hL ltr hsz hM1 zr x0 x1 x2 x3
     go_wp2_with fail
     go_loopw [1,2,10] (λ s1 s2 s10 wr=>∃ (j M:Nat) (qo:Option Addr) (qc:Nat) (N:Nat) (ro:Option Addr) (rc:Nat),j<=l.length∧s10=.int .i64 (j:Int)∧s1=.slice qo M qc∧s2=.slice ro N rc∧Hid (Lay B1 wr (.slice qo M qc) (.slice ro N rc) (Ke (Jc n) (l.take j) N1 (Xc p (l.map (λ x=>x.1)) s))∧Zc (λ k=>¬ B1 k) W1 wr)) (λ _ _ s10 _=>l.length-(intOf s10).toNat)
     case atStart=>exact ⟨0,_,_,_,_,_,_,Nat.zero_le _,rfl,rfl,rfl,H0⟩
     case round=>
      clear H0;obtain ⟨j,M,qo,qc,N,ro,rc,hj,rfl,rfl,rfl,hR⟩:=hrel;obtain ⟨hL,hK⟩:=hR.out;have zr:=hK.size;obtain ⟨x0,x1,x2,x3⟩:=BX.out wr hK
      by_cases hlt:j<l.length
      ·have hle:=Zpm (l.take j) N1 (Xc p (l.map (λ x=>x.1)) s)
       have hst:=Zi7 (n:=n) hlt;have e1:(Xc p (l.map (λ x=>x.1)) s).1.length=N1+l.length+1:=by rw [HN1.out];simp [Xc];omega
       have e2:(Xc p (l.map (λ x=>x.1)) s).2.length=s.2.length+1:=by simp [Xc]
       rw [e1,e2] at hle;have NX:=Zil hlt N1 (Xc p (l.map (λ x=>x.1)) s);have HNX:Hid _:=NX;obtain ⟨SJ,hSJ⟩:∃ SJ,SJ=Ke (Jc n) (l.take j) N1 (Xc p (l.map (λ x=>x.1)) s):=⟨_,rfl⟩;rw [<- hSJ] at hle hL HNX;clear hSJ NX e1 e2 hR;have hsj:SJ.1.length+SJ.2.length+Za6 n l[j].2<=1000000000000:=by have:=HS.out;have:=HN1.out;omega
       obtain ⟨Q,hQ⟩:∃ Q,Q=N1+j:=⟨_,rfl⟩
       have hMl:M=SJ.1.length:=by
        obtain ⟨io', ic', e⟩:=Zf hL.ri;simp only [Value.slice.injEq] at e;exact e.2.1
       have hQn:Q<M:=by omega
       obtain ⟨g,rfl⟩:∃ g,qo=some ⟨g,0,none⟩:=by
        rcases hL.ri.2 with ⟨e,e0⟩ | ⟨g,cap,_,e0,_⟩
        ·omega
        ·simp only [Value.slice.injEq] at e0;exact ⟨g,e0.1⟩
       obtain ⟨L4,⟨old,o1⟩,o2,ks⟩:=hL.setB hMl hQn (M:Int);have hg:¬ B1 g:=hL.ib g rfl;have K6:Zc (λ k=>¬ B1 k) W1 (wr.setCell ⟨g,Q * 3+2,none⟩ (.int .i64 (M:Int))):=KeptB.trans hK (ks.mono (λ k _ e=>by rw [e];exact hg));obtain ⟨y0,y1,y2,y3⟩:=BX.out _ K6;obtain ⟨kb,koff,tk,tr,tpo,tpl,tpc,tko,tkl,tkc,rfl,p0,p1,p2,p3,p4,p5⟩:=Zlw (HC.out _ K6) hlt;have C6:=FLAT.out _ _ _ _ _ _ L4 K6.size p5 (by simp only [Vu];exact hsj)
       have MORE:Hid (∀ w' vi2 vp2,Lay B1 w' vi2 vp2 (Jc n l[j].2 (setB SJ.1 Q (M:Int),SJ.2))->Zc (λ k=>¬ B1 k) (wr.setCell ⟨g,Q * 3+2,none⟩ (.int .i64 (M:Int))) w' -> ∃ M' qo' qc' N' ro' rc', vi2=.slice qo' M' qc' ∧ vp2=.slice ro' N' rc' ∧ Hid (Lay B1 w' (.slice qo' M' qc') (.slice ro' N' rc') (Ke (Jc n) (l.take (j+1)) N1 (Xc p (l.map (λ x=>x.1)) s))∧Zc (λ k=>¬ B1 k) W1 w')):=λ w' vi2 vp2 h1 h2=>by
        obtain ⟨io', ic', vo', vc', rfl,rfl⟩:=Kv h1;refine ⟨_,_,_,_,_,_,rfl,rfl,?_,KeptB.trans K6 h2⟩;rw [HNX.out,<- hQ,<- hMl];exact h1
       have hMb:M<=1000000000000:=by omega
       have i1:(0:Int)<=(j:Int):=by omega
       have i2:(j:Int)<(l.length:Int):=by omega
       have hQi:(N1:Int)+(j:Int)=(Q:Int):=by omega
       have i3:(Q:Int)<(M:Int):=by omega
       have i4:(0:Int)<=(Q:Int):=by omega
       have j1:(N1:Int)<=1000000000001:=by omega
       have j2:(j:Int)<=1000000000001:=by omega
       clear hK K6 L4 hL ks FLAT FINAL HC BX LT UP AX p5 hle hst hsj hQn hMl hQ HNX HS zr
       go_wp2_with (first | (go_at_call 52;refine C6.mono ?_;rintro e w7 ⟨vi2,vp2,rfl,L7,k7⟩;obtain ⟨M', qo', qc', N', ro', rc', rfl,rfl,MM⟩:=MORE.out w7 vi2 vp2 L7 k7))
       go_roundw
       case rel=>first | exact ⟨j+1,_,_,_,_,_,_,by omega,by go_num,rfl,rfl,MM⟩ | ((repeat apply Exists.intro);exact ⟨⟨j+1,_,_,_,_,_,_,by omega,by go_num,rfl,rfl,MM⟩,rfl⟩)
       case measure=>simp [intOf];omega
      ·obtain rfl:j=l.length:=by omega
       rw [List.take_of_length_le (Nat.le_refl _)] at hL;have F:=FINAL.out _ _ _ _ hL hK;clear hL hK hR FLAT FINAL HC BX LT UP AX HS zr
       go_wp2_with fail
       exact bodyPost_ret (v:=.tuple #[.slice qo M qc,.slice ro N rc]) (by simp [results,Tryz.results52,go_sem]) rfl ⟨_,_,rfl,F⟩
  ·have e2:(k == 2)=false:=by simpa using h2
   rw [Zhf h1 h2]
   have hz1:s.1.length<=1000000000000:=by
    rw [if_neg h2] at hs;omega
   clear hs HC FLAT hA LT UP h1 h2
   go_enter Tryz.func52,Tryz.ntmps52
   go_upto_region 1 with fail
   rw [<- hW1];clear hW1
   go_wp2_with (first | (at_builtin;refine Vt rfl _ _ rfl B1 (.slice io s.1.length ic) (.slice vo s.2.length vc) s rfl L1 lt1 hz1 3 0 0 W1.heap.size rfl rfl (s.1.length+1) rfl ?_;intro g cap w2 L2 k2))
   exact bodyPost_ret (v:=.tuple #[.slice (some ⟨g,0,none⟩) (s.1.length+1) cap,.slice vo s.2.length vc]) (by simp [results,Tryz.results52,go_sem]) rfl ⟨_,_,rfl,FINAL.out _ _ _ _ L2 k2⟩
theorem Zh1:∀ n,Zpk n
 | 0=>λ B w v vi vp t s hT hB hC hs=>hC.elim
 | n+1=>Zpr (Zh1 n)
end
section
open Go.RowKit
section
variable {L : List Sym} {T : List Int} {a : Nat}
end
end
def Zcx (L:List Sym) (U:List Int):List (List Int)->List Nat->Prop
 | [],[]=>True
 | p :: ps,q :: qs=>leads L U 0 p=some q∧Zcx L U ps qs
 | _,_=>False
theorem Zcx.append {L:List Sym} {U:List Int}:∀ {a:List (List Int)} {b:List Nat} {c:List (List Int)} {d:List Nat},Zcx L U a b->Zcx L U c d->Zcx L U (a++c) (b++d)
 | [],[],_,_,_,h=>h
 | _ :: _,_ :: _,_,_,h,k=>⟨h.1,h.2.append k⟩
 | [],_ :: _,_,_,h,_=>h.elim
 | _ :: _,[],_,_,h,_=>h.elim
theorem Zcx.take {L:List Sym} {U:List Int}:∀ {a:List (List Int)} {b:List Nat} (c:Nat),Zcx L U a b->Zcx L U (a.take c) (b.take c)
 | _,_,0,_=>by simp [Zcx]
 | [],[],c+1,_=>by simp [Zcx]
 | _ :: _,_ :: _,c+1,h=>⟨h.1,Zcx.take c h.2⟩
 | [],_ :: _,_+1,h=>h.elim
 | _ :: _,[],_+1,h=>h.elim
theorem Zcx.drop {L:List Sym} {U:List Int}:∀ {a:List (List Int)} {b:List Nat} (c:Nat),Zcx L U a b->Zcx L U (a.drop c) (b.drop c)
 | _,_,0,h=>h
 | [],[],c+1,_=>by simp [Zcx]
 | _ :: _,_ :: _,c+1,h=>Zcx.drop c h.2
 | [],_ :: _,_+1,h=>h.elim
 | _ :: _,[],_+1,h=>h.elim
theorem Zcx.at {L:List Sym} {U:List Int}:∀ {a:List (List Int)} {b:List Nat} {c:Nat},Zcx L U a b->∀ (h1:c<a.length) (h2:c<b.length),leads L U 0 a[c]=some b[c]
 | _ :: _,_ :: _,0,h,_,_=>h.1
 | _ :: _,_ :: _,c+1,h,h1,h2=>Zcx.at h.2 (by simpa using h1) (by simpa using h2)
 | [],_,_,_,h1,_=>by simp at h1
 | _ :: _,[],_,h,_,_=>h.elim
theorem Zg7 {L:List Sym} {U:List Int} {p:List Int} {q:Nat} (h:leads L U 0 p=some q):∀ (m:List Nat) (k:Nat),(∀ i (hi:i<m.length),(Zz L U q)[k+i]? = some m[i])->Zcx L U ((List.range' k m.length).map (λ (i:Nat)=>p ++ [(i:Int)])) m
 | [],_,_=>by simp [Zcx]
 | x :: m,k,hm=>by
  rw [List.length_cons,List.range'_succ,List.map_cons];refine ⟨?_,Zg7 h m (k+1) (λ i hi=>?_)⟩
  ·rw [Zix h,leads,if_neg (by omega),Int.toNat_natCast]
   have:=hm 0 (by simp);simp only [Nat.add_zero,List.getElem_cons_zero] at this;rw [this];rfl
  ·have:=hm (i+1) (by simpa using hi)
   simpa [Nat.add_assoc,Nat.add_comm 1 i] using this
structure FitN (L:List Sym) (U:List Int) (paths:List (List Int)) (rows:List Rw) (qs:List Nat):Prop where
 led:Zcx L U paths qs
 lt:∀ q∈qs,q<U.length
 row:∀ x∈rows,IsT L x.2.1∧x.2.2.length=paths.length∧∀ i∈x.2.2,i<x.2.1.length
 low:∀ x∈rows,∀ k (h:k<x.2.1.length),0<k->Y7 L x.2.1[k]=false
 inj:∀ x∈rows,∀ y∈rows,x.1=y.1->x=y
section
variable {L : List Sym} {U : List Int} {paths : List (List Int)} {rows : List Rw} {qs : List Nat}
end
def vpS (L:List Sym):List (Nat × Nat)->List Int->List (List Int)
 | _,[]=>[]
 | st,x :: r=>(if x<0 then [Zx st] else [])++vpS L (pass st (arN L x)) r
theorem Jl (L:List Sym):∀ (a b:List Int) (st:List (Nat × Nat)),vpS L st (a++b)=vpS L st a++vpS L (run L st a) b
 | [],b,st=>rfl
 | x :: a,b,st=>by
  rw [List.cons_append,vpS,vpS,Jl L a b,List.append_assoc];rfl
def Zw (L:List Sym) (c:Nat):List Int:=(c:Int) :: List.replicate (arN L (c:Int)) (-1)
theorem Zea (i a:Nat) (st:List (Nat × Nat)):Zx ((i,a) :: st)=Zx st ++ [(i:Int)]:=by simp [Zx,ofN]
theorem Zdl (L:List Sym):arN L (-1)=0:=Zjr (by omega)
theorem Zk7 (L:List Sym):∀ (k j a:Nat) (st:List (Nat × Nat)),j+(k+1)=a ->
  vpS L ((j,a) :: st) (List.replicate (k+1) (-1))=(List.range' j (k+1)).map (λ (i:Nat)=>Zx st ++ [(i:Int)])∧run L ((j,a) :: st) (List.replicate (k+1) (-1))=Zah st
 | 0,j,a,st,h=>by
  have e:Zah ((j,a) :: st)=Zah st:=by rw [Zah,if_neg (by omega)]
  refine ⟨?_,?_⟩
  ·simp [vpS,Zea]
  ·show pass ((j,a) :: st) (arN L (-1))=_
   rw [Zdl,pass,if_neg (by omega),e]
 | k+1,j,a,st,h=>by
  have e:pass ((j,a) :: st) (arN L (-1))=(j+1,a) :: st:=by rw [Zdl,pass,if_neg (by omega),Zah,if_pos (by omega)]
  obtain ⟨h1,h2⟩:=Zk7 L k (j+1) a st (by omega);refine ⟨?_,?_⟩
  ·rw [List.replicate_succ,vpS,e,h1,if_pos (by omega),Zea,List.range'_succ,List.map_cons]
   rfl
  ·rw [List.replicate_succ]
   show run L (pass ((j,a) :: st) (arN L (-1))) _=_;rw [e,h2]
theorem Zc4 (L:List Sym) (c:Nat) (st:List (Nat × Nat)):vpS L st (Zw L c)=(List.range (arN L (c:Int))).map (λ (i:Nat)=>Zx st ++ [(i:Int)])∧run L st (Zw L c)=Zah st:=by
 have e0:vpS L st (Zw L c)=vpS L (pass st (arN L (c:Int))) (List.replicate (arN L (c:Int)) (-1)):=by
  rw [Zw,vpS,if_neg (by omega),List.nil_append]
 have e1:run L st (Zw L c)=run L (pass st (arN L (c:Int))) (List.replicate (arN L (c:Int)) (-1)):=rfl;rw [e0,e1];generalize arN L (c:Int)=k;cases k with
 | zero=>exact ⟨rfl,rfl⟩
 | succ k=>
  have e:pass st (k+1)=(0,k+1) :: st:=by rw [pass,if_pos (by omega)]
  rw [e,List.range_eq_range'];exact Zk7 L k 0 (k+1) st (by omega)
theorem Zfa (L:List Sym) (c:Nat):IsT L (Zw L c):=by
 unfold IsT Zw;rw [Xb,Nat.zero_add];generalize arN L (c:Int)=k
 induction k with
 | zero=>rfl
 | succ k ih=>rw [List.replicate_succ,Xb,Zdl,Nat.add_zero];exact ih
theorem Zd4 (L:List Sym) (c:Nat):(Zw L c).length=arN L (c:Int)+1:=by simp [Zw]
theorem Zqi {L:List Sym} {t:List Int} {p:Nat} (hp:p<t.length) (hv:t[p]<0):Zq L t p=p+1:=by
 refine Y9 ?_;rw [List.drop_eq_getElem_cons hp,V0,Zjr (by omega),Nat.zero_add,Ve];rfl
def Vp (L:List Sym) (t:List Int) (p:Nat):Nat:=(vpS L [] (t.take p)).length
theorem Zg6 {L:List Sym} {t:List Int} {p:Nat} (hp:p<t.length) (hv:t[p]<0):vpS L [] t=vpS L [] (t.take p) ++ [Zx (way L t p)]++vpS L (Zah (way L t p)) (t.drop (p+1)):=by
 have e:t=t.take p++(t[p] :: t.drop (p+1)):=by rw [List.getElem_cons_drop,List.take_append_drop]
 have e2:vpS L [] t=vpS L [] (t.take p++(t[p] :: t.drop (p+1))):=by rw [<- e]
 rw [e2,Jl,vpS,if_pos hv,Zjr (by omega),pass,if_neg (by omega),List.append_assoc];rfl
theorem Zuj {L:List Sym} {t:List Int} {p:Nat} (hp:p<t.length) (hv:t[p]<0):Vp L t p<(vpS L [] t).length:=by
 rw [Zg6 hp hv];unfold Vp;simp
theorem Zji {L:List Sym} {t:List Int} {p:Nat} (hp:p<t.length) (hv:t[p]<0):(vpS L [] t)[Vp L t p]? = some (Zx (way L t p)):=by
 rw [Zg6 hp hv];unfold Vp;simp
theorem Zla {L:List Sym} {t:List Int} {p:Nat} (hp:p<t.length):Vp L t (p+1)=Vp L t p+(if t[p]<0 then 1 else 0):=by
 unfold Vp;rw [List.take_add_one,List.getElem?_eq_getElem hp,Jl,List.length_append];congr 1;show (vpS L _ [t[p]]).length=_;rw [vpS];split <;> simp [vpS]
theorem Zv8 {L:List Sym} {t:List Int}:Vp L t t.length=(vpS L [] t).length:=by unfold Vp;rw [List.take_length]
theorem Zpl {L:List Sym} {t:List Int} {p:Nat} (hp:p<t.length) (hv:t[p]<0) (c:Nat):vpS L [] (Zco L t p (Zw L c))=Yu L (vpS L [] t) (Vp L t p) c:=by
 obtain ⟨f1,f2⟩:=Zc4 L c (way L t p);have hg:(vpS L [] t).getD (Vp L t p) []=Zx (way L t p):=by rw [List.getD,Zji hp hv];rfl
 unfold Zco Yu Zhe;rw [hg,Zqi hp hv,Jl,Jl];have e1:run L [] (t.take p)=way L t p:=rfl;have e2:run L [] (t.take p++Zw L c)=Zah (way L t p):=by rw [Zfw,e1,f2]
 rw [e1,e2,f1];have hs:=Zg6 (L:=L) hp hv;have t1:(vpS L [] t).take (Vp L t p)=vpS L [] (t.take p):=by rw [hs];unfold Vp;simp
 have t2:(vpS L [] t).drop (Vp L t p+1)=vpS L (Zah (way L t p)) (t.drop (p+1)):=by
  rw [hs];unfold Vp;rw [List.append_assoc,List.drop_append,List.drop_eq_nil_of_le (by omega),Nat.add_sub_cancel_left];simp
 rw [t1,t2]
theorem Zv3 {L:List Sym} {t:List Int} {p:Nat} (hp:p<t.length) (hv:t[p]<0) (c:Nat):(Zco L t p (Zw L c)).length=t.length+arN L (c:Int):=by
 unfold Zco;rw [Zqi hp hv];simp [Zd4];omega
structure Zvk (L:List Sym) (R:List Ru) (t:List Int) (rows:List Rw):Prop where
 isT:IsT L t
 row:∀ x∈rows,∃ j,∃ h:j<R.length,x.1=(j:Int)∧x.2.1=R[j].1
 led:∀ x∈rows,Zcx L x.2.1 (vpS L [] t) x.2.2
 len:∀ x∈rows,t.length+wtL L x.2.1 x.2.2=x.2.1.length+(vpS L [] t).length
theorem Zmh {L:List Sym} {t:List Int} (hT:IsT L t):∀ (ps:List Nat),(∀ p∈ps,p<t.length)->ps.length<=wtL L t ps
 | [],_=>by simp [wtL,Zbs]
 | p :: r,hp=>by
  have:=Zmh hT r (λ q hq=>hp q (List.mem_cons_of_mem _ hq));have e:=Zax hT (hp p (List.mem_cons_self ..));show r.length+1<=(Zq L t p-p)+wtL L t r;omega
theorem Zvk.small {L:List Sym} {R:List Ru} {t:List Int} {rows:List Rw} {n:Nat} (h:Zvk L R t rows) (hn:Zob L n (vpS L [] t) rows) (hne:rows≠[]):t.length<=2000:=by
 obtain ⟨x,hx⟩:=List.exists_mem_of_ne_nil _ hne;obtain ⟨k1,k2,k3,k4⟩:=hn.ok x hx;have hz:=Zg.1 k1;have:=Zmh hz.2.2 _ k3;have:=h.len x hx;have:=hz.1;omega
theorem Zvk.kid {L:List Sym} {R:List Ru} {t:List Int} {rows:List Rw} {n:Nat} (h:Zvk L R t rows) (hn:Zob L n (vpS L [] t) rows) {p:Nat} (hp:p<t.length) (hv:t[p]<0) (c:Nat):Zvk L R (Zco L t p (Zw L c)) ((Yc rows (Vp L t p) (c:Int)).map (Vj L (Vp L t p))):=by
 have hc:=Zuj (L:=L) hp hv
 have key:∀ x∈Yc rows (Vp L t p) (c:Int),x∈rows∧∃ h1:Vp L t p<x.2.2.length,∃ h2:x.2.2[Vp L t p]<x.2.1.length,x.2.1[x.2.2[Vp L t p]]=(c:Int)∧(Zz L x.2.1 x.2.2[Vp L t p]).length=arN L (c:Int):=λ x hx=>by
  obtain ⟨a,b⟩:=Zc3 hx;obtain ⟨_,r2,r3,_⟩:=hn.ok x a;have h1:Vp L t p<x.2.2.length:=by omega
  have h2:=r3 _ (List.getElem_mem h1);rw [Za2 h1 h2] at b;exact ⟨a,h1,h2,b,by rw [Ya h2,Zl,b]⟩
 refine ⟨Ztw h.isT hp (Zfa L c),?_,?_,?_⟩
 ·intro y hy
  obtain ⟨x,hx,rfl⟩:=List.mem_map.1 hy;exact h.row x (key x hx).1
 ·intro y hy
  obtain ⟨x,hx,rfl⟩:=List.mem_map.1 hy;obtain ⟨a,h1,h2,b,d⟩:=key x hx;rw [Zpl hp hv];have hled:=h.led x a;show Zcx L x.2.1 (Yu L (vpS L [] t) (Vp L t p) c) (Zhe x.2.2 (Vp L t p) (Zz L x.2.1 (x.2.2.getD (Vp L t p) 0)));rw [Y8 h1];unfold Yu Zhe;refine (Zcx.append (hled.take _) ?_).append (hled.drop _);rw [Y8 hc,<- d,List.range_eq_range'];exact Zg7 (hled.at hc h1) _ 0 (λ i hi=>by rw [Nat.zero_add];exact List.getElem?_eq_getElem hi)
 ·intro y hy
  obtain ⟨x,hx,rfl⟩:=List.mem_map.1 hy;obtain ⟨a,h1,h2,b,d⟩:=key x hx;obtain ⟨k1,_,k3,_⟩:=hn.ok x a;have hT:=(Zg.1 k1).2.2;obtain ⟨a1,_⟩:=Zgd hT h2;have hl:=h.len x a;have hw:=Zlm (L:=L) (t:=x.2.1) h1 (Zz L x.2.1 x.2.2[Vp L t p]);rw [Zpl hp hv,Zv3 hp hv];show _+wtL L x.2.1 (Zhe x.2.2 (Vp L t p) (Zz L x.2.1 (x.2.2.getD (Vp L t p) 0)))=x.2.1.length+(Yu L (vpS L [] t) (Vp L t p) c).length;rw [Y8 h1]
  have e:(Yu L (vpS L [] t) (Vp L t p) c).length=(vpS L [] t).length-1+arN L (c:Int):=by
   unfold Yu;rw [Zam hc];simp
  rw [e];omega
theorem Zqy (L:List Sym) (s:Nat):vpS L [] (Zw L s)=V1 L s:=by
 rw [(Zc4 L s []).1];simp [V1,Yu,Zhe,Zx,ofN]
theorem Zsl {L:List Sym} {R:List Ru} (hok:∀ x∈R,Ze L x.1=0∧Ze L x.2=0) (s:Nat):Zvk L R (Zw L s) (Yq L R s):=by
 have key:∀ y∈Yq L R s,∃ j,∃ h:j<R.length,y=((j:Int),R[j].1,Zz L R[j].1 0)∧Ze L R[j].1=0∧0<R[j].1.length∧R[j].1.getD 0 0=(s:Int):=by
  intro y hy;obtain ⟨x,hx,rfl⟩:=List.mem_map.1 hy;obtain ⟨j,hj,rfl,h0,hp,hn⟩:=Zbi hok hx;refine ⟨j,hj,by simp [Vj,Zhe],h0,hp,?_⟩;rw [Za2 (by simp) (by simpa using hp)] at hn;rw [Y8 hp]
  simpa using hn
 refine ⟨Zfa L s,?_,?_,?_⟩
 ·intro y hy
  obtain ⟨j,hj,rfl,_⟩:=key y hy;exact ⟨j,hj,rfl,rfl⟩
 ·intro y hy
  obtain ⟨j,hj,rfl,h0,hp,hs⟩:=key y hy;rw [(Zc4 L s []).1];have hl:(Zz L R[j].1 0).length=arN L (s:Int):=by rw [Ya hp,Zl];rw [Y8 hp] at hs;rw [hs]
  rw [<- hl,List.range_eq_range'];exact Zg7 (q:=0) (p:=Zx []) rfl _ 0 (λ i hi=>by rw [Nat.zero_add];exact List.getElem?_eq_getElem hi)
 ·intro y hy
  obtain ⟨j,hj,rfl,h0,hp,hs⟩:=key y hy;have hT:=(Zg.1 h0).2.2;obtain ⟨a1,_⟩:=Zgd hT hp;have e0:=Zdo hT;rw [(Zc4 L s []).1,Zd4];simp only [List.length_map,List.length_range];show _+wtL L R[j].1 (Zz L R[j].1 0)=_;omega
section
open Go.RowKit
attribute [local go_sem ↓] Go.wp_at_zero Go.wp_at_succ
def Zf7 (L:List Sym) (t path:List Int):Int:=match leads L t 0 path with | some q=>(q:Int) | none=>-1
theorem Row.get {base:Nat} {w:World} {v:Value} {xs:List Int} (h:Row base w v xs) {i:Nat} (hi:i<xs.length):∃ g cap,v=.slice (some ⟨g,0,none⟩) xs.length cap∧g<w.heap.size∧w.cell? ⟨g,i,none⟩=some (.int .i64 xs[i]):=by
 obtain ⟨g,cap,hv,_,hlt⟩:=h.form (by omega);subst hv;exact ⟨g,cap,rfl,hlt,(h.cellAt i (by omega)).trans (Kj hi)⟩
theorem Zof {n:Nat} {w:World} {rv:Value} {L:List Sym} (h:Rl n w rv L) {ao po:Option Addr} {cap pcap:Nat} {t path:List Int} (ht:Zh w ao t) (hm:t.length<=2000) (hT:IsT L t) (hp:Zh w po path) (hpm:path.length<=maxLen) :
  Calls Tryz.prog 25 #[rv,.slice ao t.length cap,.int .i64 0,.slice po path.length pcap] w λ e w' => e=.returned (.int .i64 (Zf7 L t path))∧Za w w' := by
 unfold maxLen at hpm;have c1:∀ w1 q,Za w w1->q<t.length->Calls Tryz.prog 66 #[rv,.slice ao t.length cap,.int .i64 (q:Int)] w1 λ e w' => ∃ v,e=.returned v∧Row w1.heap.size w' v (ofN (Zz L t q))∧Za w1 w' := λ w1 q hk hq=>Zbn (cap:=cap) (h.same hk) (ht.same hk) hm hT q hq
 obtain ⟨ro,rcap,rfl⟩:=Zf h.1
 go_enter Tryz.func25,Tryz.ntmps25
 go_wp2
 go_loopw [2,9] (λ at' i wr=>∃ k q:Nat,k<=path.length∧i=.int .i64 (k:Int)∧at' = .int .i64 (q:Int)∧q<t.length∧Hid (leads L t 0 path=leads L t q (path.drop k))∧Za w wr) (λ _ i _=>path.length-(intOf i).toNat)
 case atStart=>exact ⟨0,0,Nat.zero_le _,rfl,rfl,Z6 hT,by simp [Hid],Zc.refl _ _⟩
 case round=>
  obtain ⟨k,q,hk,rfl,rfl,hq,HL,hs⟩:=hrel
  by_cases hlt:k<path.length
  ·have cA:=c1 _ _ hs hq
   obtain ⟨pb,poff,rfl,hpb,hpc⟩:=(hp.same hs).get hlt;have i1:(0:Int)<=(k:Int):=by omega
   have i2:(k:Int)<(path.length:Int):=by omega
   have hlen:(ofN (Zz L t q)).length=arN L t[q]:=by rw [Ya hq];simp [ofN,Zl]
   clear c1
   go_wp2_with fail
   refine cA.mono ?_;rintro e w2 ⟨v,rfl,hr,hk2⟩;have hpc2:w2.cell? ⟨pb,poff+k,none⟩=some (.int .i64 path[k]):=(hk2.cell (p:=⟨pb,poff+k,none⟩) hpb (λ f=>f)).trans hpc;have hs2:=hs.trans' hk2;clear cA hpc
   by_cases hn0:path[k]<0
   ·have H:Hid (Zf7 L t path = -1):=by
     have:=Zi4 HL.out hlt hq (.inl hn0);simp [Zf7,this,Hid]
    obtain ⟨vo,vcap,rfl⟩:=Zf hr;go_wp2;go_ret;exact ⟨Z7 H.out.symm,hs2⟩
   ·by_cases hna:(arN L t[q]:Int)<=path[k]
    ·have H:Hid (Zf7 L t path = -1):=by
      have:=Zi4 HL.out hlt hq (.inr hna);simp [Zf7,this,Hid]
     obtain ⟨vo,vcap,rfl⟩:=Zf hr;have hna' : ((ofN (Zz L t q)).length:Int)<=path[k]:=by omega
     go_wp2;go_ret;exact ⟨Z7 H.out.symm,hs2⟩
    ·obtain ⟨i,hi⟩:∃ i:Nat,path[k]=(i:Int):=⟨path[k].toNat,by omega⟩
     have hia:i<arN L t[q]:=by omega
     have HN:Hid (leads L t 0 path=leads L t (past L t i (q+1)) (path.drop (k+1))):=Zm5 HL.out hlt hq hi hia;have hpl:=Zoy hT hq hia;obtain ⟨g,vcap,rfl,hg,hgc⟩:=hr.get (i:=i) (by omega)
     have hge:(ofN (Zz L t q))[i]'(by omega)=((past L t i (q+1):Nat):Int):=by
      have e1:=Za9 (L:=L) (t:=t) (p:=q+1) hia;rw [<- Ya hq] at e1;have e2:=(List.getElem?_eq_some_iff.1 e1).2;simp [ofN,e2]
     rw [hge] at hgc;rw [hi] at hpc2;have j1:(0:Int)<=(i:Int):=by omega
     have j2:(i:Int)<((ofN (Zz L t q)).length:Int):=by omega
     have j3:¬ (ofN (Zz L t q)).length<=i:=by omega
     have j4:decide ((ofN (Zz L t q)).length<=i)=false:=by simp;omega
     clear hge hn0 hna HL hi;generalize (ofN (Zz L t q)).length=N at *;generalize past L t i (q+1)=P at *;go_wp2;exact ⟨⟨k+1,P,by omega,by go_num,rfl,hpl,HN,hs2⟩,by simp [intOf];omega⟩
  ·have H:Hid (Zf7 L t path=(q:Int)):=by
    have:=HL.out;rw [List.drop_eq_nil_of_le (by omega)] at this;simp [Zf7,this,leads,Hid]
   clear c1;go_wp2;go_ret;exact ⟨Z7 H.out.symm,hs⟩
theorem Zrx (w:World) (base:Nat) (hb:base<=w.heap.size) (z:Int):Row base (w.alloc (.cells #[.int .i64 z] 3)) (.slice (some ⟨w.heap.size,0,none⟩) 1 1) [z]:=
 ⟨rfl,.inr ⟨w.heap.size,1, #[.int .i64 z],rfl,hb,heap_alloc_new w _,Nat.le_refl _,by unfold maxLen;omega,rfl,rfl⟩⟩
theorem Zvc {n:Nat} {w:World} {rv:Value} {L:List Sym} (h:Rl n w rv L) {ao po:Option Addr} {cap pcap:Nat} {t path:List Int} (ht:Zh w ao t) (hm:t.length<=2000) (hT:IsT L t) (hp:Zh w po path) (hpm:path.length<=maxLen) {q:Nat} (hq:leads L t 0 path=some q) (hlt:q<t.length) :
  Calls Tryz.prog 88 #[rv,.slice ao t.length cap,.slice po path.length pcap] w λ e w' => e=.returned (.int .i64 t[q])∧Za w w' := by
 have C:=Zof (cap:=cap) (pcap:=pcap) h ht hm hT hp hpm;have e0:Zf7 L t path=(q:Int):=by simp [Zf7,hq]
 rw [e0] at C;obtain ⟨ro,rcap,rfl⟩:=Zf h.1;obtain ⟨tb,off,rfl,htb,hc⟩:=ht.get hlt;have HC:Hid (∀ ww,Za w ww->ww.cell? ⟨tb,off+q,none⟩=some (.int .i64 t[q])):=λ ww hk=>(hk.cell (p:=⟨tb,off+q,none⟩) htb (λ f=>f)).trans hc;have i1:(0:Int)<=(q:Int):=by omega
 have i2:(q:Int)<(t.length:Int):=by omega
 have i3:¬ (q:Int)<0:=by omega
 clear h ht hp hq hc e0 hT;generalize t[q]=x at *
 go_enter Tryz.func88,Tryz.ntmps88
 go_wp2_with (first | (go_at_call 25;refine C.mono ?_;rintro e w1 ⟨rfl,k1⟩;have hc1:=HC.out w1 k1))
 go_ret;exact ⟨rfl,k1⟩
theorem Zfq {n:Nat} {w:World} {rv:Value} {L:List Sym} (h:Rl n w rv L) {c:Nat} (hc:c<L.length) :
  Calls Tryz.prog 43 #[rv,.int .i64 (c:Int)] w λ e w' => ∃ v,e=.returned v∧Row w.heap.size w' v (Zw L c)∧Za w w' := by
 have h6:=Xp h.2.2.1 (c:Int)
 have CA:∀ ww,Za w ww->Calls Tryz.prog 90 #[rv,.int .i64 (c:Int)] ww λ e w' => e=.returned (.int .i64 (arN L (c:Int):Int))∧w' = ww:=λ ww hk=>by
  have:=Zfj (h.same hk) (c:Int);rw [if_neg (by omega)] at this;exact this
 have CAH:Hid (∀ ww,Za w ww->Calls Tryz.prog 90 #[rv,.int .i64 (c:Int)] ww λ e w' => e=.returned (.int .i64 (arN L (c:Int):Int))∧w' = ww):=CA
 have FR:Hid (∀ k,k<=arN L (c:Int)->((c:Int) :: List.replicate k (-1)) ++ [-1]=(c:Int) :: List.replicate (k+1) (-1)):=λ k _=>by
  rw [List.replicate_succ'];rfl
 have FE:Hid (Zw L c=(c:Int) :: List.replicate (arN L (c:Int)) (-1)):=rfl;obtain ⟨ro,rcap,rfl⟩:=Zf h.1;obtain ⟨A,hA⟩:∃ A,A=arN L (c:Int):=⟨_,rfl⟩;rw [<- hA] at CAH FR FE h6;clear CA hA h;have S0:Za w (w.alloc (.cells #[.int .i64 (c:Int)] 3)):=(Zc.refl _ w).alloc _;have R0:Row w.heap.size (w.alloc (.cells #[.int .i64 (c:Int)] 3)) (.slice (some ⟨w.heap.size,0,none⟩) 1 1) [(c:Int)]:=Zrx w w.heap.size (Nat.le_refl _) (c:Int)
 go_enter Tryz.func43,Tryz.ntmps43
 go_wp2
 go_loopw [5,6] (λ v i wr=>∃ k:Nat,k<=A∧i=.int .i64 (k:Int)∧Row w.heap.size wr v ((c:Int) :: List.replicate k (-1))∧Za w wr) (λ _ i _=>A-(intOf i).toNat)
 case atStart=>exact ⟨0,Nat.zero_le _,rfl,R0,S0⟩
 case round=>
  clear R0 S0;obtain ⟨k,hk,rfl,hr,hs⟩:=hrel;obtain ⟨vo,vc,rfl⟩:=Zf hr;have C1:=CAH.out wr hs
  by_cases hlt:k<A
  ·have i2:(k:Int)<(A:Int):=by omega
   have E:=FR.out k (by omega);have HE:Hid (((c:Int) :: List.replicate k (-1)) ++ [-1]=(c:Int) :: List.replicate (k+1) (-1)):=E;have zA:=hs.size;have hlen:((c:Int) :: List.replicate k (-1)).length=k+1:=by simp
   have hb8:(((c:Int) :: List.replicate k (-1)).length+1) * 8<=140737488355328:=by omega
   clear E hlen;generalize ((c:Int) :: List.replicate k (-1))=xs at *
   go_wp2_with (first | (go_at_call 90;refine C1.mono ?_;rintro e w1 ⟨rfl,rfl⟩) | (at_builtin;refine Yo rfl _ _ 64 rfl Tryz.underlying64 w.heap.size xs _ rfl hr (-1) rfl zA hb8 ?_;intro g cap w4 hr4 hk4 hat4))
   refine ⟨⟨k+1,by omega,by go_num,?_,Zc.trans hs hk4 (λ i hi e=>by have:=(hr.lt i e).1;omega)⟩,by simp [intOf];omega⟩;rw [<- HE.out];exact hr4
  ·obtain rfl:k=A:=by omega
   have hlen:((c:Int) :: List.replicate k (-1)).length=k+1:=by simp
   rw [hlen] at hr;clear hlen
   go_wp2_with (first | (go_at_call 90;refine C1.mono ?_;rintro e w1 ⟨rfl,rfl⟩))
   go_ret;exact ⟨_,rfl,by rw [FE.out];exact hr,hs⟩
def PlcZ (L:List Sym) (t:List Int) (rows:List Rw) (z:Int):Prop:=
 (z = -1∧Yw rows (vpS L [] t).length=none)∨∃ p:Nat,z=(p:Int)∧∃ hp:p<t.length,t[p]<0∧Yw rows (vpS L [] t).length=some (Vp L t p)
structure NdD (w:World) (L:List Sym) (R:List Ru) (n:Nat) (rv:Value) (mo tn so:Option Addr) (tc:Nat) (t:List Int) (rows:List Rw):Prop where
 rl:Rl w.heap.size w rv L
 rs:V7 w mo R
 le:R.length<=100
 ti:Zh w tn t
 cap:t.length<=tc
 si:Zh w so (rows.map (·.1))
 dn:Zvk L R t rows
 nk:Zob L n (vpS L [] t) rows
theorem NdD.same {w w' : World} {L:List Sym} {R:List Ru} {n:Nat} {rv:Value} {mo tn so:Option Addr} {tc:Nat} {t:List Int} {rows:List Rw} (h:NdD w L R n rv mo tn so tc t rows) (hk:Za w w'):NdD w' L R n rv mo tn so tc t rows:=
 ⟨Ze4 (h.rl.same hk) hk.size,h.rs.same hk,h.le,h.ti.same hk,h.cap,h.si.same hk,h.dn,h.nk⟩
theorem Zfl {rows:List Rw} {c:Nat} (h:Yw rows c=none):(Zet rows c=true->∀ k,c<k->Yw rows k=some c)∧(Zet rows c=false->Yw rows (c+1)=none):=by
 refine ⟨λ hc k hk=>?_,λ hc=>?_⟩
 ·induction k with
  | zero=>omega
  | succ k ih=>
   unfold Yw
   by_cases e:c=k
   ·subst e;rw [h,hc];rfl
   ·rw [ih (by omega)]
 ·unfold Yw;rw [h,hc];rfl
theorem Zo4 {rows:List Rw} {c k:Nat} (h:k<rows.length):Zet (rows.take (k+1)) c=(Zet (rows.take k) c && decide (0<=Xo rows[k] c)):=by
 unfold Zet;rw [List.take_add_one,List.getElem?_eq_getElem h,List.all_append];simp
theorem NdD.at' {w:World} {L:List Sym} {R:List Ru} {n:Nat} {rv:Value} {mo tn so:Option Addr} {tc:Nat} {t:List Int} {rows:List Rw} (h:NdD w L R n rv mo tn so tc t rows) {k:Nat} (hk:k<rows.length) {c:Nat} (hc:c<(vpS L [] t).length) :
  ∃ sb soff mb moff,so=some ⟨sb,soff,none⟩∧mo=some ⟨mb,moff,none⟩∧∃ j:Nat,j<R.length∧rows[k].1=(j:Int)∧∀ ww,Za w ww->ww.cell? ⟨sb,soff+k,none⟩=some (.int .i64 (j:Int))∧∃ ao al ac,ww.cell? ⟨mb,moff+j * 2,none⟩=some (.slice ao al ac) ∧
   ∀ po pc,Zh ww po (vpS L [] t)[c]->Calls Tryz.prog 88 #[rv,.slice ao al ac,.slice po (vpS L [] t)[c].length pc] ww λ e w' => e=.returned (.int .i64 (Xo rows[k] c))∧Za ww w' := by
 obtain ⟨j,hj,e1,e2⟩:=h.dn.row _ (List.getElem_mem hk);obtain ⟨k1,k2,k3,_⟩:=h.nk.ok _ (List.getElem_mem hk);have hz:=Zg.1 k1;have hc' : c<rows[k].2.2.length:=by omega
 have hq:=k3 _ (List.getElem_mem hc');have hl:=(h.dn.led _ (List.getElem_mem hk)).at hc hc';have hn:=Za2 hc' hq;have hpl:=(h.nk.len _ (List.getElem_mem hc)).2;have hsk:k<(rows.map (·.1)).length:=by simpa using hk
 obtain ⟨sb,soff,rfl,hsb,hsc⟩:=h.si.get hsk;obtain ⟨mb,moff,rfl,hmb,ao,ac,bo,bc,r0,r1,A1,_⟩:=h.rs.get hj;refine ⟨sb,soff,mb,moff,rfl,rfl,j,hj,e1,λ ww hw=>⟨?_,ao,rows[k].2.1.length,ac,(by rw [e2];exact (hw.cell (p:=⟨mb,moff+j * 2,none⟩) hmb (λ f=>f)).trans r0),λ po pc hp=>?_⟩⟩
 ·have:=(hw.cell (p:=⟨sb,soff+k,none⟩) hsb (λ f=>f)).trans hsc
  rw [this,List.getElem_map,e1]
 ·rw [hn]
  have A2:Zh ww ao rows[k].2.1:=by rw [e2];exact (A1.same hw).at'
  exact Zvc (cap:=ac) (pcap:=pc) (h.same hw).rl A2 hz.1 hz.2.2 hp (by unfold maxLen;omega) hl hq
theorem Zfn {w:World} {L:List Sym} {R:List Ru} {n:Nat} {rv:Value} {mo tn so:Option Addr} {tc:Nat} {t:List Int} {rows:List Rw} (h:NdD w L R n rv mo tn so tc t rows) (hm:t.length<=2000) (mc sc:Nat) :
  Calls Tryz.prog 86 #[rv,.slice mo R.length mc,.slice tn t.length tc,.slice so rows.length sc] w λ e w' => ∃ z,e=.returned (.int .i64 z)∧Hid (PlcZ L t rows z)∧Za w w' := by
 have hrl:=h.nk.le;have hRl:=h.le
 have CP:Hid (∀ ww i,Za w ww->i<t.length->Calls Tryz.prog 87 #[rv,.slice tn t.length tc,.int .i64 (i:Int)] ww λ e w' => ∃ po pc,e=.returned (.slice po (Zx (way L t i)).length pc)∧Hid (Zh w' po (Zx (way L t i)))∧Za ww w'):=λ ww i hk hi=>(Zde (cap:=tc) (h.same hk).rl (h.ti.same hk) hm h.dn.isT i hi).mono (λ e w' ⟨v,e1,r,k⟩=>by
  obtain ⟨ao,cap,rfl,ia,_,_⟩:=r.ints
  exact ⟨ao,cap,e1,ia,k⟩)
 have HH:Hid (∀ ww,Za w ww->NdD ww L R n rv mo tn so tc t rows):=λ ww hk=>h.same hk;obtain ⟨ro,rcap,rfl⟩:=Zf h.rl.1;clear h
 go_enter Tryz.func86,Tryz.ntmps86
 go_wp2
 go_loopw [9] (λ i wr=>∃ k:Nat,k<=t.length∧i=.int .i64 (k:Int)∧Hid (Yw rows (Vp L t k)=none)∧Za w wr) (λ i _=>t.length-(intOf i).toNat)
 case atStart=>exact ⟨0,Nat.zero_le _,rfl,rfl,Zc.refl _ _⟩
 case round=>
  obtain ⟨k,hk,rfl,hN,hs⟩:=hrel
  by_cases hlt:k<t.length
  ·obtain ⟨tb,toff,rfl,htb,htc⟩:=(HH.out wr hs).ti.get hlt
   have i1:(0:Int)<=(k:Int):=by omega
   have i2:(k:Int)<(t.length:Int):=by omega
   by_cases hv:t[k]<0
   ·have hv2:¬ (0:Int)<=t[k]:=by omega
    have hcl:=Zuj (L:=L) hlt hv;have hcn:=Zla (L:=L) hlt;rw [if_pos hv] at hcn;have HCN:Hid (Vp L t (k+1)=Vp L t k+1):=hcn
    have hpc:(vpS L [] t)[Vp L t k]=Zx (way L t k):=by
     have:=Zji (L:=L) hlt hv;rw [List.getElem?_eq_getElem hcl] at this
     simpa using this
    have C1:=CP.out wr k hs hlt;have PZ:Hid (Zet rows (Vp L t k)=true->PlcZ L t rows (k:Int)):=λ hc=>.inr ⟨k,rfl,hlt,hv,(Zfl hN.out).1 hc _ hcl⟩;have NZ:Hid (Zet rows (Vp L t k)=false->Yw rows (Vp L t (k+1))=none):=λ hc=>by rw [HCN.out];exact (Zfl hN.out).2 hc
    have HA:Hid (∀ ww,Za w ww->∀ (m:Nat) (hm:m<rows.length),∃ sb soff mb moff,so=some ⟨sb,soff,none⟩∧mo=some ⟨mb,moff,none⟩∧∃ j:Nat,j<R.length∧ww.cell? ⟨sb,soff+m,none⟩=some (.int .i64 (j:Int))∧∃ ao al ac,ww.cell? ⟨mb,moff+j * 2,none⟩=some (.slice ao al ac)∧∀ po pc,Zh ww po (Zx (way L t k))->Calls Tryz.prog 88 #[.slice ro L.length rcap,.slice ao al ac,.slice po (Zx (way L t k)).length pc] ww λ e w' => e=.returned (.int .i64 (Xo rows[m] (Vp L t k)))∧Za ww w'):=λ ww hk2 m hm2=>by
     obtain ⟨sb,soff,mb,moff,e1,e2,j,hj,e3,HF⟩:=(HH.out ww hk2).at' hm2 hcl;obtain ⟨f1,ao,al,ac,f2,CA⟩:=HF ww (Zc.refl _ _);rw [hpc] at CA;exact ⟨sb,soff,mb,moff,e1,e2,j,hj,f1,ao,al,ac,f2,CA⟩
    have C0:Zet (rows.take 0) (Vp L t k)=true:=rfl;clear hcl hcn hpc hv HCN HH CP hN;generalize Vp L t k=c at *;generalize Zx (way L t k)=P at *
    go_wp2_with (first | (go_at_call 87;refine C1.mono ?_;rintro e w2 ⟨po,pc,rfl,hpi,k2⟩))
    have hs2:Za w w2:=hs.trans' k2;have HPI:Hid (∀ ww,Za w2 ww->Zh ww po P):=λ ww hk=>hpi.out.same hk;clear C1 hpi;obtain ⟨wo,rfl⟩:∃ wo:World,wo=wr:=⟨_,rfl⟩
    go_loopw [11,12] (λ av kv wi=>∃ m:Nat,m<=rows.length∧kv=.int .i64 (m:Int)∧av=.bool (Zet (rows.take m) c)∧Za w2 wi) (λ _ kv _=>rows.length-(intOf kv).toNat)
    case atStart=>exact ⟨0,Nat.zero_le _,rfl,rfl,Zc.refl _ _⟩
    case round=>
     obtain ⟨m,hml,rfl,rfl,hsi⟩:=hrel
     by_cases hmlt:m<rows.length
     ·obtain ⟨sb,soff,mb,moff,rfl,rfl,j,hj,f1,ao,al,ac,f2,CA⟩:=HA.out _ (hs2.trans' hsi) m hmlt
      have C2:=CA po pc (HPI.out _ hsi);have CT:Hid (Zet (rows.take (m+1)) c=(Zet (rows.take m) c && decide (0<=Xo rows[m] c))):=Zo4 hmlt;have j1:(0:Int)<=(m:Int):=by omega
      have j2:(m:Int)<(rows.length:Int):=by omega
      have j3:(0:Int)<=(j:Int):=by omega
      have j4:(j:Int)<(R.length:Int):=by omega
      clear CA HA hj PZ NZ
      by_cases hz:Xo rows[m] c<0
      ·have CF:Hid (Zet (rows.take (m+1)) c=false):=by show _=_;rw [CT.out];simp;omega
       clear CT;generalize Xo rows[m] c=z at *
       go_wp2_with (first | (go_at_call 88;refine C2.mono ?_;rintro e w5 ⟨rfl,k5⟩))
       go_roundw
       case rel=>exact ⟨m+1,by omega,by go_num,by rw [CF.out],hsi.trans' k5⟩
       case measure=>simp [intOf];omega
      ·have CF:Hid (Zet (rows.take (m+1)) c=Zet (rows.take m) c):=by
        show _=_;have e0:decide (0<=Xo rows[m] c)=true:=by simp;omega
        rw [CT.out,e0,Bool.and_true]
       clear CT;generalize Xo rows[m] c=z at *;generalize Zet (rows.take m) c=bb at *
       go_wp2_with (first | (go_at_call 88;refine C2.mono ?_;rintro e w5 ⟨rfl,k5⟩))
       go_roundw
       case rel=>exact ⟨m+1,by omega,by go_num,by rw [CF.out],hsi.trans' k5⟩
       case measure=>simp [intOf];omega
     ·obtain rfl:m=rows.length:=by omega
      rw [List.take_length];clear HA;cases hb:Zet rows c with
      | true=>
       have P1:Hid (PlcZ L t rows (k:Int)):=PZ.out hb;clear PZ NZ hb C0
       go_wp2_with fail
       go_ret;exact ⟨_,rfl,P1,hs2.trans' hsi⟩
      | false=>
       have P1:Hid (Yw rows (Vp L t (k+1))=none):=NZ.out hb;clear PZ NZ hb C0
       go_wp2_with fail
       go_roundw
       case rel=>exact ⟨k+1,by omega,by go_num,P1,hs2.trans' hsi⟩
       case measure=>simp [intOf];omega
   ·have hv2:(0:Int)<=t[k]:=by omega
    have hcn:=Zla (L:=L) hlt;rw [if_neg hv] at hcn;have P1:Hid (Yw rows (Vp L t (k+1))=none):=by show _=_;rw [hcn];exact hN.out
    clear hcn hN
    go_wp2_with fail
    go_roundw
    case rel=>exact ⟨k+1,by omega,by go_num,P1,hs⟩
    case measure=>simp [intOf];omega
  ·obtain rfl:k=t.length:=by omega
   have P1:Hid (PlcZ L t rows (-1)):=.inl ⟨rfl,by rw [<- Zv8 (L:=L)];exact hN.out⟩;clear hN
   go_wp2_with fail
   go_ret;exact ⟨_,rfl,P1,hs⟩
end
end Go.Proofs.YtjahpnbijefncaaGreat
