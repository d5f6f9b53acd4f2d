import Derived.Test.YtdhiiicppcgkbaaGreatGB05
import Derived.Laws.AppendOwnNone
import Derived.Test.YtdhiiicppcgkbaaGreatGB26
import Derived.Test.YtdhiiicppcgkbaaGreatGB29
import Derived.Deep.RegionHeld3
import Derived.Test.YtdhiiicppcgkbaaGreatGB19
import Derived.Test.YtdhiiicppcgkbaaGreatGB03
import Derived.Test.YtdhiiicppcgkbaaGreatGB08
import Derived.SizedLaws
namespace Go.Proofs.YtdhiiicppcgkbaaGreat
set_option linter.unusedVariables false
open Go.RowKit
theorem wpList_more9 {w0:World} {ops:Array Oper} {rest:List Oper} {o:Oper} {a:Act} {Q:Exit→Act→World→Prop} (hgd:o.guard=none) (s x:Operand) (t:TypeId)
  (ho:o.op=.call { callee:=.builtin .append,args:=#[s,x],argTypes:=#[t,t] }) (ht:Tryz.prog.underlying t=some (.slice 3))
  (base:Nat) (xs:List Int) (v:Value) (hs:a.eval s=v) (hr:Row base w0 v xs) (ys:List Int) (ao:Option Addr) (m c:Nat) (hx:a.eval x=.slice ao m c) (hm:m=ys.length) (hy:IntsAt w0 ao ys) (hnil:ao=none→ys.length=0∧c=0) (hb:base≤w0.heap.size) (hsz:(xs.length+ys.length) * 8≤140737488355328)
  (h:∀ v' w', Row base w' v' (xs++ys)→Kept (fun k=>v.ownBlock=some k) w0 w' → wpList Tryz.prog ops Q rest (a.put o.dst v') w') :
  wpList Tryz.prog ops Q (o :: rest) a w0:=by
 cases ao with
 | none=>
  obtain ⟨h1,rfl⟩:=hnil rfl
  have:ys=[]:=List.eq_nil_of_length_eq_zero h1
  subst this
  subst hm
  obtain ⟨i,hi,hz0,hz1,hz2⟩:=info_parts info_intT
  exact wpList_append_own_none hgd s x t ho base 3 i 1 ht hi v xs.length (iv xs) hs hr hx (h v w0 (by simpa using hr) (Kept.refl _ _))
 | some ad=>exact wpList_more hgd s x t ho ht base xs v hs hr ys ad m c hx hm hy hb hsz h
end Go.Proofs.YtdhiiicppcgkbaaGreat
namespace Go.Proofs.YtdhiiicppcgkbaaGreat
set_option maxRecDepth 100000
set_option linter.unusedVariables false
open Go.RowKit
attribute [local go_sem ↓] Go.wp_at_zero Go.wp_at_succ
theorem wpList_ins9 {w0:World} {ops:Array Oper} {rest:List Oper} {o:Oper} {a:Act} {Q:Exit→Act→World→Prop} (hgd:o.guard=none) (s x:Operand)
  (ho:o.op=.call { callee:=.builtin .append,args:=#[s,x],argTypes:=#[27,27] }) (B:Nat→Prop) (vi vp:Value) (st:St9) (hs:a.eval s=vi) (hL:Lay B w0 vi vp st) (hB:∀ b,B b→b<w0.heap.size) (hsz:st.1.length≤1000000000000) (x0 y0 z0:Int) (N:Nat) (hN:w0.heap.size=N) (hx:a.eval x=.slice (some ⟨N,0,none⟩) 1 1) (M:Nat) (hM:M=st.1.length+1)
  (h:∀ g cap w', Lay B w' (.slice (some ⟨g,0,none⟩) M cap) vp (st.1 ++ [(x0,y0,z0)],st.2)→Kept (fun k=>¬ B k) w0 w' → wpList Tryz.prog ops Q rest (a.put o.dst (.slice (some ⟨g,0,none⟩) M cap)) w') :
  wpList Tryz.prog ops Q (o :: rest) a (w0.alloc (.cells #[.int .i64 x0,.int .i64 y0,.int .i64 z0] 34)):=by
 subst hN hM
 obtain ⟨i,hi,hz0,hz1,hz2⟩:=info_parts info_ins
 refine wpList_append_lies _ hgd s x 27 ho 0 34 i _ 3 24 Tryz.underlying27 hi hz0 hz1 hz2 rfl (by decide) vi st.1.length (insV st.1) hs (hL.ri.alloc _) ⟨w0.heap.size,0,none⟩ 1 1 [.int .i64 x0,.int .i64 y0,.int .i64 z0] hx rfl (World.news_of_block (cs:=#[.int .i64 x0,.int .i64 y0,.int .i64 z0]) (t:=34) (fr:=(0,0)) (heap_alloc_new w0 _)) (by simp [Value.oneCell']) (by omega) (by unfold maxLen;omega) (by omega) (by omega) (w0.heap.size+1) (by simp) ?_
 intro g cap w' hown hgrow hat hlt
 have kg:Kept (fun k=>vi.ownBlock=some k) w0 w' := Kept.grown (Kept.alloc (Kept.refl _ w0) _) hgrow (fun _ e _=>e)
 refine h g cap w' (hL.ins (x0,y0,z0) hown kg (fun k e=>?_) hB) (kg.mono (fun k _ e=>hL.ib k e))
 simp only [Value.ownBlock,Option.some.injEq] at e
 subst e
 exact hat.imp id (fun q=>by omega)
theorem wpList_pth9 {w0:World} {ops:Array Oper} {rest:List Oper} {o:Oper} {a:Act} {Q:Exit→Act→World→Prop} (hgd:o.guard=none) (s x:Operand)
  (ho:o.op=.call { callee:=.builtin .append,args:=#[s,x],argTypes:=#[28,28] }) (B:Nat→Prop) (vi vp:Value) (st:St9) (hs:a.eval s=vp) (hL:Lay B w0 vi vp st) (hB:∀ b,B b→b<w0.heap.size) (hsz:st.2.length≤1000000000000) (ao:Option Addr) (ac:Nat) (p:List Int) (ha:ArgT w0 ao p ac) (hab:∀ a,ao=some a→¬ B a.block) (N:Nat) (hN:w0.heap.size=N) (hx:a.eval x=.slice (some ⟨N,0,none⟩) 1 1) (M:Nat) (hM:M=st.2.length+1)
  (h:∀ g cap w', Lay B w' vi (.slice (some ⟨g,0,none⟩) M cap) (st.1,st.2 ++ [p])→Kept (fun k=>¬ B k) w0 w' → wpList Tryz.prog ops Q rest (a.put o.dst (.slice (some ⟨g,0,none⟩) M cap)) w') :
  wpList Tryz.prog ops Q (o :: rest) a (w0.alloc (.cells #[.slice ao p.length ac] 22)):=by
 subst hN hM
 obtain ⟨i,hi,hz0,hz1,hz2⟩:=info_parts info_path
 obtain ⟨vs,r1,r2⟩:=hL.rp
 refine wpList_append_lies _ hgd s x 28 ho 0 22 i _ 1 24 Tryz.underlying28 hi hz0 hz1 hz2 rfl (by decide) vp st.2.length vs hs (r1.alloc _) ⟨w0.heap.size,0,none⟩ 1 1 [.slice ao p.length ac] hx rfl (World.news_of_block (cs:=#[.slice ao p.length ac]) (t:=22) (fr:=(0,0)) (heap_alloc_new w0 _)) (by simp [Value.oneCell']) (by omega) (by unfold maxLen;omega) (by omega) (by omega) (w0.heap.size+1) (by simp) ?_
 intro g cap w' hown hgrow hat hlt
 have kg:Kept (fun k=>vp.ownBlock=some k) w0 w' := Kept.grown (Kept.alloc (Kept.refl _ w0) _) hgrow (fun _ e _=>e)
 refine h g cap w' (hL.path ⟨r1,r2⟩ ha hab hown kg (fun k e=>?_) hB) (kg.mono (fun k _ e=>hL.pb k e))
 simp only [Value.ownBlock,Option.some.injEq] at e
 subst e
 exact hat.imp id (fun q=>by omega)
def FlatIH (n:Nat):Prop:=∀ (B:Nat→Prop) (w:World) (v vi vp:Value) (t:Tr n) (s:St9),Lay B w vi vp s→(∀ b,B b→b<w.heap.size)→CsB B w n v t→s.1.length+s.2.length+insN n t≤1000000000000 →
 Calls Tryz.prog 46 #[v,vi,vp] w fun e w' => ∃ vi' vp', e=.returned (.tuple #[vi', vp'])∧Lay B w' vi' vp' (layS n t s)∧Kept (fun k=>¬ B k) w w'
theorem lay_shapes {B:Nat→Prop} {w:World} {vi vp:Value} {s:St9} (h:Lay B w vi vp s):∃ io ic vo vc,vi=.slice io s.1.length ic∧vp=.slice vo s.2.length vc:=by
 obtain ⟨io,ic,rfl⟩:=row_shape h.ri
 obtain ⟨vs,t4,t5⟩:=h.rp
 obtain ⟨vo,vc,rfl⟩:=row_shape t4
 exact ⟨io,ic,vo,vc,rfl,rfl⟩
set_option maxHeartbeats 32000000 in
theorem flat_step {n:Nat} (IH:FlatIH n):FlatIH (n+1):=by
 intro B w v vi vp t s hT hB hC hs
 obtain ⟨k,r,p,l⟩:=t
 obtain ⟨po,pc,ko,kc,rfl,hA,hrest⟩:=hC
 have hC:CsB B w (n+1) (.agg #[.int .i64 k,.int .i64 r,.slice po p.length pc,.slice ko l.length kc]) (k,r,p,l):=⟨po,pc,ko,kc,rfl,hA,hrest⟩
 clear hrest
 obtain ⟨io,ic,vo,vc,rfl,rfl⟩:=lay_shapes hT
 obtain ⟨W1,hW1⟩:∃ W1,W1=w.alloc (.cells #[.int .i64 k,.int .i64 r,.slice po p.length pc,.slice ko l.length kc] 25):=⟨_,rfl⟩
 have KW:Same0 w W1:=by rw [hW1];exact (Kept.refl _ w).alloc _
 have hbx:W1.heap[w.heap.size]? = some (.cells #[.int .i64 k,.int .i64 r,.slice po p.length pc,.slice ko l.length kc] 25 (0,0)):=by rw [hW1];exact heap_alloc_new w _
 obtain ⟨B1,hB1⟩:∃ B1:Nat→Prop,B1=fun b=>B b∨b=w.heap.size:=⟨_,rfl⟩
 have LT:Hid (∀ ww:World,W1.heap.size≤ww.heap.size→∀ b,B1 b→b<ww.heap.size):=fun ww hz b q=>by
  rw [hB1] at q
  refine Nat.lt_of_lt_of_le ?_ hz
  rcases q with q | q
  ·exact Nat.lt_of_lt_of_le (hB b q) KW.size
  ·rw [q];exact lt_of_at hbx
 have UP:Hid (∀ b,B b→B1 b):=fun b q=>by rw [hB1];exact .inl q
 have L1:Lay B1 W1 (.slice io s.1.length ic) (.slice vo s.2.length vc) s:=(hT.mono (B' := B1) (fun b hb q=>by
  rw [hB1] at q
  rcases q with q | q
  ·exact q
  ·omega)).same KW
 have BX:Hid (∀ ww,Kept (fun k=>¬ B1 k) W1 ww→ww.cell? ⟨w.heap.size,0,none⟩=some (.int .i64 k)∧ww.cell? ⟨w.heap.size,1,none⟩=some (.int .i64 r)∧ww.cell? ⟨w.heap.size,2,none⟩=some (.slice po p.length pc)∧ww.cell? ⟨w.heap.size,3,none⟩=some (.slice ko l.length kc)):=fun ww hk=>by
  have:=hk.at hbx (fun q=>q (by rw [hB1];exact .inr rfl))
  exact ⟨cellAt this 0,cellAt this 1,cellAt this 2,cellAt this 3⟩
 have FINAL:Hid (∀ ww vi' vp' s', Lay B1 ww vi' vp' s' → Kept (fun k=>¬ B1 k) W1 ww→Lay B ww vi' vp' s' ∧ Kept (fun k=>¬ B k) w ww):=fun ww vi' vp' s' h1 h2=>⟨h1.mono (fun b _ q=>UP.out b q),KeptB.trans (KeptB.of KW) (h2.mono (fun b _ q r=>q (UP.out b r)))⟩
 have HC:Hid (∀ ww,Kept (fun k=>¬ B1 k) W1 ww→CsB B ww (n+1) (.agg #[.int .i64 k,.int .i64 r,.slice po p.length pc,.slice ko l.length kc]) (k,r,p,l)):=fun ww hk=>KeptB.cs hk UP.out (hC.same KW)
 have FLAT:Hid (∀ ww v' vi' vp' t' s', Lay B1 ww vi' vp' s' → W1.heap.size≤ww.heap.size→CsB B ww n v' t' → s'.1.length+s'.2.length+insN n t' ≤ 1000000000000→Calls Tryz.prog 46 #[v', vi', vp'] ww fun e w' => ∃ vi2 vp2,e=.returned (.tuple #[vi2,vp2])∧Lay B1 w' vi2 vp2 (layS n t' s')∧Kept (fun k=>¬ B1 k) ww w'):=fun ww v' vi' vp' t' s' h1 h2 h3 h4=>IH B1 ww v' vi' vp' t' s' h1 (LT.out ww h2) (h3.mono (fun b _ q=>UP.out b q)) h4
 obtain ⟨x0,x1,x2,x3⟩:=BX.out W1 (Kept.refl _ _)
 have lt1:=LT.out W1 (Nat.le_refl _)
 rw [insN_eq] at hs
 clear hC hB hT IH hB1 hbx
 by_cases h1:k=1
 ·subst h1
  rw [layS_leaf rfl]
  have hz1:s.1.length≤1000000000000:=by omega
  clear hs HC FLAT hA LT UP
  go_enter Tryz.func46,Tryz.ntmps46
  go_upto_region 1 with fail
  rw [← hW1]
  clear hW1
  go_wp2_with (first | (at_builtin;refine wpList_ins9 rfl _ _ rfl B1 (.slice io s.1.length ic) (.slice vo s.2.length vc) s rfl L1 lt1 hz1 4 r 0 W1.heap.size rfl rfl (s.1.length+1) rfl ?_;intro g cap w2 L2 k2))
  exact bodyPost_ret (v:=.tuple #[.slice (some ⟨g,0,none⟩) (s.1.length+1) cap,.slice vo s.2.length vc]) (by simp [results,Tryz.results46,go_sem]) rfl ⟨_,_,rfl,FINAL.out _ _ _ _ L2 k2⟩
 ·have e1:(k == 1)=false:=by simpa using h1
  by_cases h2:k=2
  ·subst h2
   rw [layS_branch rfl]
   rw [if_pos rfl] at hs
   have hl:l.length≤1000000000000:=by omega
   have HS:Hid (s.1.length+s.2.length+(3+l.length+sumN (l.map (fun x=>insN n x.2)))≤1000000000000):=hs
   have hz1:s.1.length≤1000000000000:=by omega
   have AX:Hid (∀ ww,Kept (fun k=>¬ B1 k) W1 ww→Arg ww po p pc):=fun ww hk=>by
    obtain ⟨po', pc', ko', kc', e,h1,h2,_⟩:=HC.out ww hk
    simp only [Value.agg.injEq,Array.mk.injEq,List.cons.injEq,Value.slice.injEq,true_and,and_true] at e
    obtain ⟨⟨rfl,rfl⟩,_⟩:=e
    exact h1
   obtain ⟨P,hP⟩:∃ P,P=s.2.length:=⟨_,rfl⟩
   have HP:Hid (P=s.2.length):=hP
   obtain ⟨N1,hN1⟩:∃ N1,N1=s.1.length+1:=⟨_,rfl⟩
   have HN1:Hid (N1=s.1.length+1):=hN1
   have hN1b:N1+l.length≤1000000000001:=by omega
   have hPb:P≤1000000000000:=by omega
   have L1' : Lay B1 W1 (.slice io s.1.length ic) (.slice vo P vc) s:=by rw [hP];exact L1
   rw [← hN1,← hP]
   clear hs L1 hP h1 e1 hN1
   go_enter Tryz.func46,Tryz.ntmps46
   go_upto_region 1 with fail
   rw [← hW1]
   clear hW1
   go_upto_region 6 with (first | (at_builtin;refine wpList_ins9 rfl _ _ rfl B1 (.slice io s.1.length ic) (.slice vo P vc) s rfl L1' lt1 hz1 1 (P:Int) 0 W1.heap.size rfl rfl N1 HN1.out ?_;intro g2 c2 w2 L2 k2))
   clear x0 x1 x2 x3 L1' lt1 hz1
   have z2:=k2.size
   have lt2:=LT.out w2 z2
   have kA:Same0 w2 (w2.alloc (.cells #[] 3)):=(Kept.refl _ w2).alloc _
   have a2:=AX.out w2 k2
   have iA:=a2.at'.same kA
   have nA:=a2.nil
   have sA:=a2.size
   obtain ⟨x0,x1,x2,x3⟩:=BX.out _ (KeptB.trans k2 (KeptB.of kA))
   have rA:Row w2.heap.size (w2.alloc (.cells #[] 3)) (.slice (some ⟨w2.heap.size,0,none⟩) 0 0) []:=row_empty w2 w2.heap.size (Nat.le_refl _) rfl
   have zA:w2.heap.size≤(w2.alloc (.cells #[] 3)).heap.size:=kA.size
   have y1:(([]:List Int).length+p.length) * 8≤140737488355328:=by simp;omega
   have P1L:Hid (P+1=(s.1 ++ [((1,(P:Int),0):I3)],s.2).2.length+1):=by show _=_;rw [HP.out]
   have MID:Hid (∀ v3 w3,Row w2.heap.size w3 v3 p→Kept (fun k=>(Value.slice (some ⟨w2.heap.size,0,none⟩) 0 0).ownBlock=some k) (w2.alloc (.cells #[] 3)) w3→∃ qo qc,v3=.slice qo p.length qc∧Hid (ArgT w3 qo p qc∧(∀ a,qo=some a→¬ B1 a.block)∧Same0 w2 w3∧Lay B1 w3 (.slice (some ⟨g2,0,none⟩) N1 c2) (.slice vo P vc) (s.1 ++ [(1,(P:Int),0)],s.2)∧(∀ b,B1 b→b<w3.heap.size)∧s.2.length≤1000000000000)):=fun v3 w3 h1 h2=>by
    have k3:Same0 w2 w3:=kA.onto rA h2
    obtain ⟨qo,qc,rfl,g1,g3⟩:=h1.arg8 sA
    exact ⟨qo,qc,rfl,g1,fun a e q=>by have:=g3 a e;have:=lt2 _ q;omega,k3,L2.same k3,fun b q=>Nat.lt_of_lt_of_le (lt2 b q) k3.size,by rw [← HP.out];exact hPb⟩
   clear L2 a2
   go_upto_region 7 with (first | (at_builtin;refine wpList_more9 rfl _ _ 22 rfl Tryz.underlying22 w2.heap.size [] (.slice (some ⟨w2.heap.size,0,none⟩) 0 0) rfl rA p po p.length pc rfl rfl iA nA zA y1 ?_;intro v3 w3 r3 k3;rw [List.nil_append] at r3;obtain ⟨qo,qc,rfl,H3⟩:=MID.out v3 w3 r3 k3) | (at_builtin;refine wpList_pth9 rfl _ _ rfl B1 (.slice (some ⟨g2,0,none⟩) N1 c2) (.slice vo P vc) (s.1 ++ [(1,(P:Int),0)],s.2) rfl H3.out.2.2.2.1 H3.out.2.2.2.2.1 H3.out.2.2.2.2.2 qo qc p H3.out.1 H3.out.2.1 w3.heap.size rfl rfl (P+1) P1L.out ?_;intro g4 c4 w4 L4 k4))
   have K4:Kept (fun k=>¬ B1 k) W1 w4:=KeptB.trans (KeptB.trans k2 (KeptB.of H3.out.2.2.1)) k4
   have L4' : Lay B1 w4 (.slice (some ⟨g2,0,none⟩) N1 c2) (.slice (some ⟨g4,0,none⟩) (P+1) c4) (headK p (([]:List (Int × Tr n)).map (fun x=>x.1)) s):=by
    have e5:headK p (([]:List (Int × Tr n)).map (fun x=>x.1)) s=(s.1 ++ [(1,(P:Int),0)],s.2 ++ [p]):=by rw [HP.out];simp [headK]
    rw [e5];exact L4
   obtain ⟨P1,hP1⟩:∃ P1,P1=P+1:=⟨_,rfl⟩
   rw [← hP1] at L4' ⊢
   clear hP1 L4 k4 H3 MID P1L r3 k3 kA iA nA sA rA zA y1 x0 x1 x2 x3 lt2 z2 k2
   have H0:Hid (Lay B1 w4 (.slice (some ⟨g2,0,none⟩) N1 c2) (.slice (some ⟨g4,0,none⟩) P1 c4) (headK p ((l.take 0).map (fun x=>x.1)) s)∧Kept (fun k=>¬ B1 k) W1 w4):=⟨L4', K4⟩
   clear L4' K4
   go_wp2_with fail
   go_loopw [1,9] (fun s1 s9 wr=>∃ (j M:Nat) (qo:Option Addr) (qc:Nat),j≤l.length∧Hid (M=N1+j)∧s9=.int .i64 (j:Int)∧s1=.slice qo M qc∧Hid (Lay B1 wr (.slice qo M qc) (.slice (some ⟨g4,0,none⟩) P1 c4) (headK p ((l.take j).map (fun x=>x.1)) s)∧Kept (fun k=>¬ B1 k) W1 wr)) (fun _ s9 _=>l.length-(intOf s9).toNat)
   case atStart=>exact ⟨0,N1,_,_,Nat.zero_le _,rfl,rfl,rfl,H0⟩
   case round=>
    clear H0
    obtain ⟨j,M,qo,qc,hj,hM,rfl,rfl,hR⟩:=hrel
    obtain ⟨hL,hK⟩:=hR.out
    have zr:=hK.size
    have ltr:=LT.out wr zr
    obtain ⟨x0,x1,x2,x3⟩:=BX.out wr hK
    have hst:(headK p ((l.take j).map (fun x=>x.1)) s).1.length=M:=by rw [(headK_len _ _ _).1,hM.out,HN1.out];simp only [List.length_map,List.length_take];omega
    have hMb:M≤1000000000000:=by have:=hM.out;have:=HN1.out;have:=HS.out;omega
    have hsz:(headK p ((l.take j).map (fun x=>x.1)) s).1.length≤1000000000000:=by omega
    have hM1:Hid (M+1=(headK p ((l.take j).map (fun x=>x.1)) s).1.length+1):=by show _=_;omega
    by_cases hlt:j<l.length
    ·obtain ⟨kb,koff,tk,tr,tpo,tpl,tpc,tko,tkl,tkc,rfl,q0,q1,q2,q3,q4, -⟩:=kid_at (HC.out wr hK) hlt
     have MORE:Hid (∀ w' g' c', Lay B1 w' (.slice (some ⟨g', 0,none⟩) (M+1) c') (.slice (some ⟨g4,0,none⟩) P1 c4) ((headK p ((l.take j).map (fun x=>x.1)) s).1 ++ [(2,l[j].1,0)],(headK p ((l.take j).map (fun x=>x.1)) s).2)→Kept (fun k=>¬ B1 k) wr w' → Lay B1 w' (.slice (some ⟨g', 0,none⟩) (M+1) c') (.slice (some ⟨g4,0,none⟩) P1 c4) (headK p ((l.take (j+1)).map (fun x=>x.1)) s)∧Kept (fun k=>¬ B1 k) W1 w'):=fun w' g' c' h1 h2=>by
      refine ⟨?_,KeptB.trans hK h2⟩
      rw [List.take_add_one,List.getElem?_eq_getElem hlt,List.map_append]
      simp only [Option.toList_some,List.map_cons,List.map_nil]
      rw [headK_snoc]
      exact h1
     have HMM:Hid (M+1=N1+(j+1)):=by show _=_;rw [hM.out];omega
     have i1:(0:Int)≤(j:Int):=by omega
     have i2:(j:Int)<(l.length:Int):=by omega
     generalize l[j].1=z at *
     clear hR hM hK FINAL HC BX FLAT hst
     go_wp2_with (first | (at_builtin;refine wpList_ins9 rfl _ _ rfl B1 (.slice qo M qc) (.slice (some ⟨g4,0,none⟩) P1 c4) _ rfl hL ltr hsz 2 z 0 wr.heap.size rfl rfl (M+1) hM1.out ?_;intro g5 c5 w5 L5 k5))
     have MM:Hid _:=MORE.out w5 g5 c5 L5 k5
     go_roundw
     case rel=>first | exact ⟨j+1,M+1,_,_,by omega,HMM,by go_num,rfl,MM⟩ | ((repeat apply Exists.intro);exact ⟨⟨j+1,M+1,_,_,by omega,HMM,by go_num,rfl,MM⟩,rfl⟩)
     case measure=>simp [intOf];omega
    ·obtain rfl:j=l.length:=by omega
     clear hst
     rw [List.take_of_length_le (Nat.le_refl _)] at hL hsz hM1
     have SHD:Hid (∀ w' g' c', Lay B1 w' (.slice (some ⟨g', 0,none⟩) (M+1) c') (.slice (some ⟨g4,0,none⟩) P1 c4) ((headK p (l.map (fun x=>x.1)) s).1 ++ [(3,0,0)],(headK p (l.map (fun x=>x.1)) s).2)→Kept (fun k=>¬ B1 k) wr w' → Lay B1 w' (.slice (some ⟨g', 0,none⟩) (M+1) c') (.slice (some ⟨g4,0,none⟩) P1 c4) (layK (layS n) (l.take 0) N1 (headS p (l.map (fun x=>x.1)) s))∧Kept (fun k=>¬ B1 k) W1 w'):=fun w' g' c' h1 h2=>by
      refine ⟨?_,KeptB.trans hK h2⟩
      rw [List.take_zero,layK,headK_end]
      exact h1
     clear hR hM hlt hj hK
     go_upto_region 13 with (first | (at_builtin;refine wpList_ins9 rfl _ _ rfl B1 (.slice qo M qc) (.slice (some ⟨g4,0,none⟩) P1 c4) _ rfl hL ltr hsz 3 0 0 wr.heap.size rfl rfl (M+1) hM1.out ?_;intro g5 c5 w5 L5 k5))
     have H0:Hid _:=SHD.out w5 g5 c5 L5 k5
     obtain ⟨M5,hM5⟩:∃ M5,M5=M+1:=⟨_,rfl⟩
     rw [← hM5] at H0 ⊢
     clear hM5 L5 k5 SHD hL ltr hsz hM1 zr x0 x1 x2 x3
     go_wp2_with fail
     go_loopw [1,2,10] (fun s1 s2 s10 wr=>∃ (j M:Nat) (qo:Option Addr) (qc:Nat) (N:Nat) (ro:Option Addr) (rc:Nat),j≤l.length∧s10=.int .i64 (j:Int)∧s1=.slice qo M qc∧s2=.slice ro N rc∧Hid (Lay B1 wr (.slice qo M qc) (.slice ro N rc) (layK (layS n) (l.take j) N1 (headS p (l.map (fun x=>x.1)) s))∧Kept (fun k=>¬ B1 k) W1 wr)) (fun _ _ s10 _=>l.length-(intOf s10).toNat)
     case atStart=>exact ⟨0,_,_,_,_,_,_,Nat.zero_le _,rfl,rfl,rfl,H0⟩
     case round=>
      clear H0
      obtain ⟨j,M,qo,qc,N,ro,rc,hj,rfl,rfl,rfl,hR⟩:=hrel
      obtain ⟨hL,hK⟩:=hR.out
      have zr:=hK.size
      obtain ⟨x0,x1,x2,x3⟩:=BX.out wr hK
      by_cases hlt:j<l.length
      ·have hle:=layK_le (l.take j) N1 (headS p (l.map (fun x=>x.1)) s)
       have hst:=sumN_take (n:=n) hlt
       have e1:(headS p (l.map (fun x=>x.1)) s).1.length=N1+l.length+1:=by rw [HN1.out];simp [headS];omega
       have e2:(headS p (l.map (fun x=>x.1)) s).2.length=s.2.length+1:=by simp [headS]
       rw [e1,e2] at hle
       have NX:=layK_take hlt N1 (headS p (l.map (fun x=>x.1)) s)
       have HNX:Hid _:=NX
       obtain ⟨SJ,hSJ⟩:∃ SJ,SJ=layK (layS n) (l.take j) N1 (headS p (l.map (fun x=>x.1)) s):=⟨_,rfl⟩
       rw [← hSJ] at hle hL HNX
       clear hSJ NX e1 e2 hR
       have hsj:SJ.1.length+SJ.2.length+insN n l[j].2≤1000000000000:=by have:=HS.out;have:=HN1.out;omega
       obtain ⟨Q,hQ⟩:∃ Q,Q=N1+j:=⟨_,rfl⟩
       have hMl:M=SJ.1.length:=by
        obtain ⟨io', ic', e⟩:=row_shape hL.ri
        simp only [Value.slice.injEq] at e
        exact e.2.1
       have hQn:Q<M:=by omega
       obtain ⟨g,rfl⟩:∃ g,qo=some ⟨g,0,none⟩:=by
        rcases hL.ri.2 with ⟨e,e0⟩ | ⟨g,cap,_,e0,_⟩
        ·omega
        ·simp only [Value.slice.injEq] at e0;exact ⟨g,e0.1⟩
       obtain ⟨L4,⟨old,o1⟩,o2,ks⟩:=hL.setB hMl hQn (M:Int)
       have hg:¬ B1 g:=hL.ib g rfl
       have K6:Kept (fun k=>¬ B1 k) W1 (wr.setCell ⟨g,Q * 3+2,none⟩ (.int .i64 (M:Int))):=KeptB.trans hK (ks.mono (fun k _ e=>by rw [e];exact hg))
       obtain ⟨y0,y1,y2,y3⟩:=BX.out _ K6
       obtain ⟨kb,koff,tk,tr,tpo,tpl,tpc,tko,tkl,tkc,rfl,p0,p1,p2,p3,p4,p5⟩:=kid_at (HC.out _ K6) hlt
       have C6:=FLAT.out _ _ _ _ _ _ L4 K6.size p5 (by simp only [setB_length];exact hsj)
       have MORE:Hid (∀ w' vi2 vp2,Lay B1 w' vi2 vp2 (layS n l[j].2 (setB SJ.1 Q (M:Int),SJ.2))→Kept (fun k=>¬ B1 k) (wr.setCell ⟨g,Q * 3+2,none⟩ (.int .i64 (M:Int))) w' → ∃ M' qo' qc' N' ro' rc', vi2=.slice qo' M' qc' ∧ vp2=.slice ro' N' rc' ∧ Hid (Lay B1 w' (.slice qo' M' qc') (.slice ro' N' rc') (layK (layS n) (l.take (j+1)) N1 (headS p (l.map (fun x=>x.1)) s))∧Kept (fun k=>¬ B1 k) W1 w')):=fun w' vi2 vp2 h1 h2=>by
        obtain ⟨io', ic', vo', vc', rfl,rfl⟩:=lay_shapes h1
        refine ⟨_,_,_,_,_,_,rfl,rfl,?_,KeptB.trans K6 h2⟩
        rw [HNX.out,← hQ,← hMl]
        exact h1
       have hMb:M≤1000000000000:=by omega
       have i1:(0:Int)≤(j:Int):=by omega
       have i2:(j:Int)<(l.length:Int):=by omega
       have hQi:(N1:Int)+(j:Int)=(Q:Int):=by omega
       have i3:(Q:Int)<(M:Int):=by omega
       have i4:(0:Int)≤(Q:Int):=by omega
       have j1:(N1:Int)≤1000000000001:=by omega
       have j2:(j:Int)≤1000000000001:=by omega
       clear hK K6 L4 hL ks FLAT FINAL HC BX LT UP AX p5 hle hst hsj hQn hMl hQ HNX HS zr
       go_wp2_with (first | (go_at_call 46;refine C6.mono ?_;rintro e w7 ⟨vi2,vp2,rfl,L7,k7⟩;obtain ⟨M', qo', qc', N', ro', rc', rfl,rfl,MM⟩:=MORE.out w7 vi2 vp2 L7 k7))
       go_roundw
       case rel=>first | exact ⟨j+1,_,_,_,_,_,_,by omega,by go_num,rfl,rfl,MM⟩ | ((repeat apply Exists.intro);exact ⟨⟨j+1,_,_,_,_,_,_,by omega,by go_num,rfl,rfl,MM⟩,rfl⟩)
       case measure=>simp [intOf];omega
      ·obtain rfl:j=l.length:=by omega
       rw [List.take_of_length_le (Nat.le_refl _)] at hL
       have F:=FINAL.out _ _ _ _ hL hK
       clear hL hK hR FLAT FINAL HC BX LT UP AX HS zr
       go_wp2_with fail
       exact bodyPost_ret (v:=.tuple #[.slice qo M qc,.slice ro N rc]) (by simp [results,Tryz.results46,go_sem]) rfl ⟨_,_,rfl,F⟩
  ·have e2:(k == 2)=false:=by simpa using h2
   rw [layS_fail h1 h2]
   have hz1:s.1.length≤1000000000000:=by
    rw [if_neg h2] at hs
    omega
   clear hs HC FLAT hA LT UP h1 h2
   go_enter Tryz.func46,Tryz.ntmps46
   go_upto_region 1 with fail
   rw [← hW1]
   clear hW1
   go_wp2_with (first | (at_builtin;refine wpList_ins9 rfl _ _ rfl B1 (.slice io s.1.length ic) (.slice vo s.2.length vc) s rfl L1 lt1 hz1 3 0 0 W1.heap.size rfl rfl (s.1.length+1) rfl ?_;intro g cap w2 L2 k2))
   exact bodyPost_ret (v:=.tuple #[.slice (some ⟨g,0,none⟩) (s.1.length+1) cap,.slice vo s.2.length vc]) (by simp [results,Tryz.results46,go_sem]) rfl ⟨_,_,rfl,FINAL.out _ _ _ _ L2 k2⟩
theorem rflat_any:∀ n,FlatIH n
 | 0=>fun B w v vi vp t s hT hB hC hs=>hC.elim
 | n+1=>flat_step (rflat_any n)
set_option maxHeartbeats 4000000 in
theorem flat_any9 {w:World} {n:Nat} {v:Value} {t:Tr n} (hC:CsB (fun b=>b<w.heap.size) w n v t) (hs:insN n t≤1000000000000) :
  Calls Tryz.prog 11 #[v] w fun e w' => ∃ io ic po pc,e=.returned (.tuple #[.slice io (layS n t ([],[])).1.length ic,.slice po (layS n t ([],[])).2.length pc])∧Hid (Lay (fun b=>b<w.heap.size) w' (.slice io (layS n t ([],[])).1.length ic) (.slice po (layS n t ([],[])).2.length pc) (layS n t ([],[])))∧Same0 w w' := by
 obtain ⟨k,r,qo,ql,qc,ko,kl,kc,rfl⟩:=hC.shape
 obtain ⟨W1,hW1⟩:∃ W1,W1=w.alloc (.cells #[.int .i64 k,.int .i64 r,.slice qo ql qc,.slice ko kl kc] 25):=⟨_,rfl⟩
 have KW:Same0 w W1:=by rw [hW1];exact (Kept.refl _ w).alloc _
 have hbx:W1.heap[w.heap.size]? = some (.cells #[.int .i64 k,.int .i64 r,.slice qo ql qc,.slice ko kl kc] 25 (0,0)):=by rw [hW1];exact heap_alloc_new w _
 obtain ⟨W2,hW2⟩:∃ W2,W2=W1.alloc (.cells #[.slice none 0 0,.slice none 0 0] 117):=⟨_,rfl⟩
 have K2:Same0 W1 W2:=by rw [hW2];exact (Kept.refl _ W1).alloc _
 have hb2:W2.heap[W1.heap.size]? = some (.cells #[.slice none 0 0,.slice none 0 0] 117 (0,0)):=by rw [hW2];exact heap_alloc_new W1 _
 have z1:=KW.size
 have T2:CtAt (fun b=>b<w.heap.size) W2 W1.heap.size ([],[]):=⟨_,_,hb2,by omega,Lay.nil _ _⟩
 have C2:=lay_any n (fun b=>b<w.heap.size) W2 W1.heap.size _ t ([],[]) T2 (fun b q=>by have:=K2.size;omega) (hC.same (KW.trans' K2)) (by simpa using hs)
 have x0:=cellAt (K2.at0 hbx) 0
 have x1:=cellAt (K2.at0 hbx) 1
 have x2:=cellAt (K2.at0 hbx) 2
 have x3:=cellAt (K2.at0 hbx) 3
 simp only [List.getElem?_toArray,List.getElem?_cons_zero,List.getElem?_cons_succ] at x0 x1 x2 x3
 generalize layS n t ([],[])=S at *
 clear hC hs hbx hb2 T2
 have FIN:Hid (∀ w3,Kept (fun k=>¬ k<w.heap.size) W2 w3→Same0 w w3):=fun w3 hk=>Kept.trans (KW.trans' K2) hk (fun i hi e=>absurd hi e)
 go_enter Tryz.func11,Tryz.ntmps11
 go_upto_region 1 with fail
 rw [← hW1]
 clear hW1
 go_upto_region 2 with fail
 rw [← hW2]
 clear hW2
 go_upto_region 3 with (first | (go_at_call 45;refine C2.mono ?_;rintro e w3 ⟨⟨u,rfl⟩,T3,k3⟩))
 obtain ⟨vi,vp,b3,nb,L3⟩:=T3
 obtain ⟨io,ic,po,pc,rfl,rfl⟩:=lay_shapes L3
 have y0:=cellAt b3 0
 have y1:=cellAt b3 1
 simp only [List.getElem?_toArray,List.getElem?_cons_zero,List.getElem?_cons_succ] at y0 y1
 have HL:Hid _:=L3
 have f3:=FIN.out w3 k3
 clear L3 b3
 go_quiet (fail)
 go_wp2_with fail
 exact bodyPost_ret (v:=.tuple #[.slice io S.1.length ic,.slice po S.2.length pc]) (by simp [results,Tryz.results11,go_sem]) rfl ⟨io,ic,po,pc,rfl,HL.out.same (Kept.drewN (Kept.refl _ _) _),Kept.drewN f3 _⟩
set_option maxHeartbeats 4000000 in
theorem rflat_any9 {w:World} {n:Nat} {v:Value} {t:Tr n} (hC:CsB (fun b=>b<w.heap.size) w n v t) (hs:insN n t≤1000000000000) :
  Calls Tryz.prog 12 #[v] w fun e w' => ∃ io ic po pc,e=.returned (.tuple #[.slice io (layS n t ([],[])).1.length ic,.slice po (layS n t ([],[])).2.length pc])∧Hid (Lay (fun b=>b<w.heap.size) w' (.slice io (layS n t ([],[])).1.length ic) (.slice po (layS n t ([],[])).2.length pc) (layS n t ([],[])))∧Same0 w w' := by
 obtain ⟨k,r,qo,ql,qc,ko,kl,kc,rfl⟩:=hC.shape
 obtain ⟨W1,hW1⟩:∃ W1,W1=w.alloc (.cells #[.int .i64 k,.int .i64 r,.slice qo ql qc,.slice ko kl kc] 25):=⟨_,rfl⟩
 have KW:Same0 w W1:=by rw [hW1];exact (Kept.refl _ w).alloc _
 have hbx:W1.heap[w.heap.size]? = some (.cells #[.int .i64 k,.int .i64 r,.slice qo ql qc,.slice ko kl kc] 25 (0,0)):=by rw [hW1];exact heap_alloc_new w _
 have z1:=KW.size
 have C2:=rflat_any n (fun b=>b<w.heap.size) W1 _ _ _ t ([],[]) (Lay.nil _ _) (fun b q=>by omega) (hC.same KW) (by simpa using hs)
 have x0:=cellAt hbx 0
 have x1:=cellAt hbx 1
 have x2:=cellAt hbx 2
 have x3:=cellAt hbx 3
 simp only [List.getElem?_toArray,List.getElem?_cons_zero,List.getElem?_cons_succ] at x0 x1 x2 x3
 generalize layS n t ([],[])=S at *
 clear hC hs hbx
 have FIN:Hid (∀ w3,Kept (fun k=>¬ k<w.heap.size) W1 w3→Same0 w w3):=fun w3 hk=>Kept.trans KW hk (fun i hi e=>absurd hi e)
 go_enter Tryz.func12,Tryz.ntmps12
 go_upto_region 1 with fail
 rw [← hW1]
 clear hW1
 go_wp2_with (first | (go_at_call 46;refine C2.mono ?_;rintro e w3 ⟨vi,vp,rfl,L3,k3⟩;obtain ⟨io,ic,po,pc,rfl,rfl⟩:=lay_shapes L3))
 exact bodyPost_ret (v:=.tuple #[.slice io S.1.length ic,.slice po S.2.length pc]) (by simp [results,Tryz.results12,go_sem]) rfl ⟨io,ic,po,pc,rfl,L3,FIN.out w3 k3⟩
theorem PthAt.get9 {w:World} {po:Option Addr} {P:List (List Int)} (h:PthAt w po P) {i:Nat} (hi:i<P.length):∃ b off ao ac,po=some ⟨b,off,none⟩∧w.cell? ⟨b,off+i,none⟩=some (.slice ao P[i].length ac)∧Arg w ao P[i] ac:=by
 rcases h with rfl | ⟨b,off,e,hb,hc⟩
 ·simp at hi
 ·obtain ⟨ao,ac,c0,c1⟩:=hc i hi
  exact ⟨b,off,ao,ac,e,c0,c1⟩
set_option maxHeartbeats 4000000 in
theorem lists_any9 {w:World} {po qo:Option Addr} {P:List (List Int)} (hP:PthAt w po P) (hQ:PthAt w qo P) (hl:P.length≤140737488355328) (pc qc:Nat) :
  Calls Tryz.prog 14 #[.slice po P.length pc,.slice qo P.length qc] w fun e w' => e=.returned (.bool true)∧Same0 w w' := by
 go_enter Tryz.func14,Tryz.ntmps14
 go_upto_region 4 with fail
 go_loopw [5] (fun s5 wr=>∃ k:Nat,k≤P.length∧s5=.int .i64 (k:Int)∧Same0 w wr) (fun s5 _=>P.length-(intOf s5).toNat)
 case atStart=>exact ⟨0,Nat.zero_le _,rfl,Kept.refl _ _⟩
 case round=>
  obtain ⟨k,hk,rfl,hs⟩:=hrel
  by_cases hlt:k<P.length
  ·obtain ⟨b,off,ao,ac,rfl,c0,a0⟩:=(hP.same hs).get9 hlt
   obtain ⟨b', off', bo,bc,rfl,d0,d1⟩:=(hQ.same hs).get9 hlt
   have hn:P[k].length≤maxLen:=by have:=a0.size;unfold maxLen;omega
   have CS:Hid (∀ ww,Same0 wr ww→Calls Tryz.prog 43 #[.slice ao P[k].length ac,.slice bo P[k].length bc] ww fun e w' => e=.returned (.bool true)∧Same0 ww w'):=fun ww hk=>by
    refine (same_any (acap:=ac) (bcap:=bc) (a0.at'.same hk) (d1.at'.same hk) hn).mono ?_
    rintro e w' ⟨rfl,hk'⟩
    exact ⟨by simp [sameB],hk'⟩
   have HS:Hid (∀ ww,Same0 wr ww→ww.cell? ⟨b,off+k,none⟩=some (.slice ao P[k].length ac)∧ww.cell? ⟨b', off' + k,none⟩=some (.slice bo P[k].length bc)):=fun ww hk=>⟨(hk.cell (p:=⟨b,off+k,none⟩) (World.block_lt_of_cell? _ _ c0) (fun f=>f)).trans c0,(hk.cell (p:=⟨b', off' + k,none⟩) (World.block_lt_of_cell? _ _ d0) (fun f=>f)).trans d0⟩
   have C0:=HS.out wr (Kept.refl _ _)
   have kd:Same0 wr wr.drew:=Kept.drew (Kept.refl _ _)
   have i1:(0:Int)≤(k:Int):=by omega
   have i2:(k:Int)<(P.length:Int):=by omega
   generalize P[k].length=N at *
   clear a0 d1 hP hQ hn
   go_upto_region 6 with fail
   go_region_held3 (fun w' => w'.cell? ⟨b,off+k,none⟩=some (.slice ao N ac)∧w'.cell? ⟨b', off' + k,none⟩=some (.slice bo N bc)) (first | exact C0 | exact cc1) (first
    | (go_at_call 43;refine (CS.out _ kd).mono ?_;rintro e w2 ⟨rfl,k2⟩;have k3:=kd.trans' k2;have cc1:=HS.out w2 k3))
   all_goals
    go_wp2_with fail
    go_roundw
    case rel=>first | exact ⟨k+1,by omega,by go_num,hs.trans' k3⟩ | ((repeat apply Exists.intro);exact ⟨⟨k+1,by omega,by go_num,hs.trans' k3⟩,rfl⟩)
    case measure=>simp [intOf];omega
  ·go_wp2_with fail
   go_ret
   exact ⟨rfl,hs⟩
theorem Lay.far {B S:Nat→Prop} {w w' : World} {vi vp:Value} {s:St9} (h:Lay B w vi vp s) (hk:Kept S w w') (hS:∀ k,S k→B k):Lay B w' vi vp s:=by
 obtain ⟨h1,h2,⟨vs,h3,h4⟩,h5⟩:=h
 refine ⟨hk.row h1 (fun k e q=>h2 k e (hS k q)),h2,⟨vs,hk.row h3 (fun k e q=>h5 k e (hS k q)),h4.1,fun i hi=>?_⟩,h5⟩
 obtain ⟨ao,ac,g1,g2,g3⟩:=h4.2 i hi
 have ne:∀ a,ao=some a→¬ S a.block:=fun a e q=>g3 a e (hS _ q)
 refine ⟨ao,ac,g1,⟨⟨g2.1.at'.kept hk ne,g2.1.cap', g2.1.nil,g2.1.size⟩,fun a e=>?_⟩,g3⟩
 obtain ⟨cur,hc⟩:=g2.2 a e
 exact ⟨cur,hk.at hc (ne a e)⟩
def SpI (S:Nat→Prop) (w:World) (io:Option Addr) (n:Nat):Prop:=
 n=0∨∃ g cur,io=some ⟨g,0,none⟩∧S g∧w.heap[g]? = some (.cells cur 34 (0,0))∧n * 3≤cur.size
def SpP (S:Nat→Prop) (w:World) (po:Option Addr) (P:List (List Int)):Prop:=
 P=[]∨∃ g cur,po=some ⟨g,0,none⟩∧S g∧w.heap[g]? = some (.cells cur 22 (0,0))∧∀ i (h:i<P.length),∃ ao ac,cur[i]? = some (.slice ao P[i].length ac)∧P[i].length * 8≤140737488351232∧(P[i]=[]∨∃ b off c,ao=some ⟨b,off,none⟩∧S b∧w.heap[b]? = some (.cells c 3 (0,0))∧off+P[i].length≤c.size)
structure Spt (S:Nat→Prop) (w0 w:World) (io:Option Addr) (n:Nat) (po:Option Addr) (P:List (List Int)):Prop where
 i:SpI S w io n
 p:SpP S w po P
 k:Kept S w0 w
theorem ints_room {w:World} {ao:Option Addr} {xs:List Int} {ac:Nat} (h:ArgT w ao xs ac):xs=[]∨∃ b off c,ao=some ⟨b,off,none⟩∧w.heap[b]? = some (.cells c 3 (0,0))∧off+xs.length≤c.size:=by
 rcases h.1.at' with e | ⟨b,off,e,hb,hc⟩
 ·exact .inl e
 ·obtain ⟨c,h2⟩:=h.2 _ e
  simp only at h2
  by_cases h0:xs.length=0
  ·exact .inl (List.eq_nil_of_length_eq_zero h0)
  ·refine .inr ⟨b,off,c,e,h2,?_⟩
   have h3:=hc (xs.length-1) (by omega)
   rw [cellAt h2] at h3
   obtain ⟨h4,_⟩:=Array.getElem?_eq_some_iff.1 h3
   omega
theorem Lay.spt {B:Nat→Prop} {w:World} {io po:Option Addr} {n m ic pc:Nat} {s:St9} (h:Lay B w (.slice io n ic) (.slice po m pc) s) {S:Nat→Prop} (hS:∀ b,¬ B b→b<w.heap.size→S b):SpI S w io s.1.length∧SpP S w po s.2:=by
 constructor
 ·rcases h.ri.2 with ⟨e,h0⟩ | ⟨g,cap,cur,e,hb,hg,h1,h2,h3,h4⟩
  ·exact .inl h0
  ·simp only [Value.slice.injEq] at e
   obtain ⟨rfl,_,rfl⟩:=e
   exact .inr ⟨g,cur,rfl,hS g (h.ib g rfl) (lt_of_at hg),hg,by rw [h3];exact Nat.mul_le_mul_right _ h1⟩
 ·obtain ⟨vs,hr,hp⟩:=h.rp
  rcases hr.2 with ⟨e,h0⟩ | ⟨g,cap,cur,e,hb,hg,h1,h2,h3,h4⟩
  ·exact .inl (List.eq_nil_of_length_eq_zero h0)
  ·simp only [Value.slice.injEq] at e
   obtain ⟨rfl,rfl,rfl⟩:=e
   refine .inr ⟨g,cur,rfl,hS g (h.pb g rfl) (lt_of_at hg),hg,fun i hi=>?_⟩
   obtain ⟨ao,ac,a,b,c⟩:=hp.2 i hi
   refine ⟨ao,ac,?_,b.1.size,?_⟩
   ·have:=hr.cellAt i (by omega)
    rw [cellAt hg] at this
    rw [this,a]
   ·rcases ints_room b with e | ⟨q,off,d,e,hd,hl⟩
    ·exact .inl e
    ·exact .inr ⟨q,off,d,e,hS q (c _ e) (lt_of_at hd),hd,hl⟩
theorem SpI.same {S:Nat→Prop} {w w' : World} {io:Option Addr} {n:Nat} (h:SpI S w io n) (hk:Same0 w w'):SpI S w' io n:=
 h.imp id (fun ⟨g,cur,e,hs,hg,hl⟩=>⟨g,cur,e,hs,hk.at0 hg,hl⟩)
theorem SpP.same {S:Nat→Prop} {w w' : World} {po:Option Addr} {P:List (List Int)} (h:SpP S w po P) (hk:Same0 w w'):SpP S w' po P:=
 h.imp id (fun ⟨g,cur,e,hs,hg,hl⟩=>⟨g,cur,e,hs,hk.at0 hg,fun i hi=>by
  obtain ⟨ao,ac,a,b,c⟩:=hl i hi
  exact ⟨ao,ac,a,b,c.imp id (fun ⟨q,off,d,e,hq,hd,hl⟩=>⟨q,off,d,e,hq,hk.at0 hd,hl⟩)⟩⟩)
theorem at_other {w:World} {b q k:Nat} {o:Obj} {u:Value} (h:w.heap[q]? = some o) (ne:¬ q=b):(w.setCell ⟨b,k,none⟩ u).heap[q]? = some o:=
 (kept_at w b k u).at h ne
theorem Spt.int {S:Nat→Prop} {w0 w:World} {io po:Option Addr} {n:Nat} {P:List (List Int)} (h:Spt S w0 w io n po P) {b k:Nat} {c:Array Value} (hs:S b) (hb:w.heap[b]? = some (.cells c 3 (0,0))) (u:Value):Spt S w0 (w.setCell ⟨b,k,none⟩ u) io n po P:=by
 obtain ⟨h1,h2,h3⟩:=h
 refine ⟨h1.imp id ?_,h2.imp id ?_,h3.setCell (p:=⟨b,k,none⟩) (fun _=>hs) _⟩
 ·rintro ⟨g,cur,e,hg,hh,hl⟩
  exact ⟨g,cur,e,hg,at_other hh (fun e=>by rw [e,hb] at hh;cases hh),hl⟩
 ·rintro ⟨g,cur,e,hg,hh,hl⟩
  refine ⟨g,cur,e,hg,at_other hh (fun e=>by rw [e,hb] at hh;cases hh),fun i hi=>?_⟩
  obtain ⟨ao,ac,a,b', d⟩:=hl i hi
  refine ⟨ao,ac,a,b', d.imp id ?_⟩
  rintro ⟨q,off,cq,e,hq,hd,hl⟩
  by_cases eq:q=b
  ·subst eq
   rw [hb] at hd
   simp only [Option.some.injEq,Obj.cells.injEq] at hd
   obtain ⟨rfl,_⟩:=hd
   exact ⟨q,off,_,e,hq,setAt hb k u,by simpa using hl⟩
  ·exact ⟨q,off,cq,e,hq,at_other hd eq,hl⟩
theorem Spt.ins {S:Nat→Prop} {w0 w:World} {io po:Option Addr} {n:Nat} {P:List (List Int)} (h:Spt S w0 w io n po P) {b k:Nat} {c:Array Value} (hs:S b) (hb:w.heap[b]? = some (.cells c 34 (0,0))) (u:Value):Spt S w0 (w.setCell ⟨b,k,none⟩ u) io n po P:=by
 obtain ⟨h1,h2,h3⟩:=h
 refine ⟨h1.imp id ?_,h2.imp id ?_,h3.setCell (p:=⟨b,k,none⟩) (fun _=>hs) _⟩
 ·rintro ⟨g,cur,e,hg,hh,hl⟩
  by_cases eq:g=b
  ·subst eq
   rw [hb] at hh
   simp only [Option.some.injEq,Obj.cells.injEq] at hh
   obtain ⟨rfl,_⟩:=hh
   exact ⟨g,_,e,hg,setAt hb k u,by simpa using hl⟩
  ·exact ⟨g,cur,e,hg,at_other hh eq,hl⟩
 ·rintro ⟨g,cur,e,hg,hh,hl⟩
  refine ⟨g,cur,e,hg,at_other hh (fun e=>by rw [e,hb] at hh;cases hh),fun i hi=>?_⟩
  obtain ⟨ao,ac,a,b', d⟩:=hl i hi
  refine ⟨ao,ac,a,b', d.imp id ?_⟩
  rintro ⟨q,off,cq,e,hq,hd,hl⟩
  exact ⟨q,off,cq,e,hq,at_other hd (fun e=>by rw [e,hb] at hd;cases hd),hl⟩
theorem Spt.path {S:Nat→Prop} {w0 w:World} {io po:Option Addr} {n:Nat} {P:List (List Int)} (h:Spt S w0 w io n po P) {i:Nat} (hi:i<P.length):∃ g ao ac,po=some ⟨g,0,none⟩∧w.cell? ⟨g,i,none⟩=some (.slice ao P[i].length ac)∧P[i].length * 8≤140737488351232∧∀ k,k<P[i].length→∃ b off old,ao=some ⟨b,off,none⟩∧w.cell? ⟨b,off+k,none⟩=some old∧w.frozen? ⟨b,off+k,none⟩=false∧∀ u,Spt S w0 (w.setCell ⟨b,off+k,none⟩ u) io n po P:=by
 rcases h.p with rfl | ⟨g,cur,e,hg,hh,hl⟩
 ·simp at hi
 ·obtain ⟨ao,ac,a,b', d⟩:=hl i hi
  refine ⟨g,ao,ac,e,by rw [cellAt hh];exact a,b', fun k hk=>?_⟩
  rcases d with d | ⟨q,off,cq,e,hq,hd,hl⟩
  ·rw [d] at hk;simp at hk
  ·have hlt:off+k<cq.size:=by omega
   exact ⟨q,off,cq[off+k],e,by rw [cellAt hd];exact Array.getElem?_eq_getElem hlt,frozenAt hd _,fun u=>h.int hq hd u⟩
theorem Spt.put {S:Nat→Prop} {w0 w:World} {io po:Option Addr} {n:Nat} {P:List (List Int)} (h:Spt S w0 w io n po P) {i:Nat} (hi:i<n):∃ g o0 o1 o2,io=some ⟨g,0,none⟩∧(w.cell? ⟨g,i * 3,none⟩=some o0∧w.cell? ⟨g,i * 3+1,none⟩=some o1∧w.cell? ⟨g,i * 3+2,none⟩=some o2)∧(w.frozen? ⟨g,i * 3,none⟩=false∧w.frozen? ⟨g,i * 3+1,none⟩=false∧w.frozen? ⟨g,i * 3+2,none⟩=false)∧∀ u0 u1 u2,Spt S w0 (((w.setCell ⟨g,i * 3,none⟩ u0).setCell ⟨g,i * 3+1,none⟩ u1).setCell ⟨g,i * 3+2,none⟩ u2) io n po P:=by
 rcases h.i with h0 | ⟨g,cur,e,hg,hh,hl⟩
 ·omega
 ·have l0:i * 3<cur.size:=by omega
  have l1:i * 3+1<cur.size:=by omega
  have l2:i * 3+2<cur.size:=by omega
  refine ⟨g,cur[i * 3],cur[i * 3+1],cur[i * 3+2],e,⟨by rw [cellAt hh];exact Array.getElem?_eq_getElem l0,by rw [cellAt hh];exact Array.getElem?_eq_getElem l1,by rw [cellAt hh];exact Array.getElem?_eq_getElem l2⟩,⟨frozenAt hh _,frozenAt hh _,frozenAt hh _⟩,fun u0 u1 u2=>?_⟩
  have h1:=h.ins (k:=i * 3) hg hh u0
  have h2:=h1.ins (k:=i * 3+1) hg (setAt hh _ u0) u1
  exact h2.ins (k:=i * 3+2) hg (setAt (setAt hh _ u0) _ u1) u2
set_option maxHeartbeats 16000000 in
theorem flats_walk {w:World} {n:Nat} {v:Value} {t:Tr n} (h:CsB (fun b=>b<w.heap.size) w n v t) (hs:insN n t≤1000000000) :
  Calls Tryz.prog 3 #[v] w fun e w' => e=.returned (.bool true)∧Below w.heap.size w w' := by
 obtain ⟨k,r,qo,ql,qc,ko,kl,kc,rfl⟩:=h.shape
 obtain ⟨W1,hW1⟩:∃ W1,W1=w.alloc (.cells #[.int .i64 k,.int .i64 r,.slice qo ql qc,.slice ko kl kc] 25):=⟨_,rfl⟩
 have KW:Same0 w W1:=by rw [hW1];exact (Kept.refl _ w).alloc _
 have h0:W1.heap[w.heap.size]? = some (.cells #[.int .i64 k,.int .i64 r,.slice qo ql qc,.slice ko kl kc] 25 (0,0)):=by rw [hW1];exact heap_alloc_new w _
 have BX:Hid (∀ ww,Same0 W1 ww→ww.cell? ⟨w.heap.size,0,none⟩=some (.int .i64 k)∧ww.cell? ⟨w.heap.size,1,none⟩=some (.int .i64 r)∧ww.cell? ⟨w.heap.size,2,none⟩=some (.slice qo ql qc)∧ww.cell? ⟨w.heap.size,3,none⟩=some (.slice ko kl kc)):=fun ww hk=>by
  have h1:=hk.at0 h0
  exact ⟨cellAt h1 0,cellAt h1 1,cellAt h1 2,cellAt h1 3⟩
 have CS:∀ ww,Same0 W1 ww→CsB (fun b=>b<ww.heap.size) ww n (.agg #[.int .i64 k,.int .i64 r,.slice qo ql qc,.slice ko kl kc]) t:=fun ww hk=>by
  have k2:Same0 w ww:=KW.trans' hk
  have z2:=k2.size
  exact CsB.mono (fun b _ q=>Nat.lt_of_lt_of_le q z2) (h.same k2)
 have hlen:=layS_len n t ([],[])
 have FL:∀ ww,Same0 W1 ww→_:=fun ww hk=>flat_any9 (CS ww hk) (by omega)
 have RF:∀ ww,Same0 W1 ww→_:=fun ww hk=>rflat_any9 (CS ww hk) (by omega)
 generalize layS n t ([],[])=SS at *
 obtain ⟨I,P⟩:=SS
 simp only [List.length_nil,Nat.zero_add] at hlen FL RF
 have hI:I.length≤1000000000:=by omega
 have hP:P.length≤1000000000:=by omega
 have FLH:Hid (∀ ww,Same0 W1 ww→Calls Tryz.prog 11 #[.agg #[.int .i64 k,.int .i64 r,.slice qo ql qc,.slice ko kl kc]] ww fun e w' => ∃ io ic po pc,e=.returned (.tuple #[.slice io I.length ic,.slice po P.length pc])∧Hid (Lay (fun b=>b<ww.heap.size) w' (.slice io I.length ic) (.slice po P.length pc) (I,P))∧Same0 ww w'):=FL
 have RFH:Hid (∀ ww,Same0 W1 ww→Calls Tryz.prog 12 #[.agg #[.int .i64 k,.int .i64 r,.slice qo ql qc,.slice ko kl kc]] ww fun e w' => ∃ io ic po pc,e=.returned (.tuple #[.slice io I.length ic,.slice po P.length pc])∧Hid (Lay (fun b=>b<ww.heap.size) w' (.slice io I.length ic) (.slice po P.length pc) (I,P))∧Same0 ww w'):=RF
 have SI:Hid (∀ ww io ic jo jc,InsAt ww io I→InsAt ww jo I→Calls Tryz.prog 13 #[.slice io I.length ic,.slice jo I.length jc] ww fun e w' => e=.returned (.bool true)∧Same0 ww w'):=fun ww io ic jo jc h1 h2=>sameIns_any h1 h2 (by omega) ic jc
 have SL:Hid (∀ ww io ic jo jc,PthAt ww io P→PthAt ww jo P→Calls Tryz.prog 14 #[.slice io P.length ic,.slice jo P.length jc] ww fun e w' => e=.returned (.bool true)∧Same0 ww w'):=fun ww io ic jo jc h1 h2=>lists_any9 h1 h2 (by omega) ic jc
 have CA:=awake9_any W1
 clear CS h h0 FL RF hlen hs
 go_enter Tryz.func3,Tryz.ntmps3
 go_upto_region 1 with fail
 rw [← hW1]
 clear hW1
 go_upto_region 2 with (first | (go_at_call 10;refine CA.mono ?_;rintro e w2 ⟨rfl,k2⟩))
 obtain ⟨x0,x1,x2,x3⟩:=BX.out w2 k2
 have C1:=FLH.out w2 k2
 go_upto_region 3 with (first | (go_at_call 11;refine C1.mono ?_;rintro e w3 ⟨io1,ic1,po1,pc1,rfl,L1,k3⟩))
 clear x0 x1 x2 x3 C1 CA
 have s3:=k2.trans' k3
 obtain ⟨x0,x1,x2,x3⟩:=BX.out w3 s3
 have C1:=FLH.out w3 s3
 go_upto_region 4 with (first | (go_at_call 11;refine C1.mono ?_;rintro e w4 ⟨io2,ic2,po2,pc2,rfl,L2,k4⟩))
 clear x0 x1 x2 x3 C1
 have s4:=s3.trans' k4
 obtain ⟨x0,x1,x2,x3⟩:=BX.out w4 s4
 have C1:=RFH.out w4 s4
 go_upto_region 5 with (first | (go_at_call 12;refine C1.mono ?_;rintro e w5 ⟨io3,ic3,po3,pc3,rfl,L3,k5⟩))
 clear x0 x1 x2 x3 C1
 have s5:=s4.trans' k5
 have e1:=SI.out w5 io1 ic1 io3 ic3 (L1.out.same (k4.trans' k5)).insAt L3.out.insAt
 go_upto_region 6 with (first | (go_at_call 13;refine e1.mono ?_;rintro e w6 ⟨rfl,k6⟩))
 clear e1
 have s6:=s5.trans' k6
 have e1:=SL.out w6 po1 pc1 po3 pc3 (L1.out.same ((k4.trans' k5).trans' k6)).pthAt (L3.out.same k6).pthAt
 go_upto_region 7 with (first | (go_at_call 14;refine e1.mono ?_;rintro e w7 ⟨rfl,k7⟩))
 clear e1
 have s7:=s6.trans' k7
 have k57:=k6.trans' k7
 have k37:=(k4.trans' k5).trans' k57
 obtain ⟨S,hS⟩:∃ S:Nat→Prop,S=fun b=>w2.heap.size≤b∧b<w3.heap.size:=⟨_,rfl⟩
 have HS:Hid (∀ b,S b→w2.heap.size≤b∧b<w3.heap.size):=fun b e=>by rw [hS] at e;exact e
 obtain ⟨p1,p2⟩:=L1.out.spt (S:=S) (fun b h1 h2=>by rw [hS];exact ⟨by omega,h2⟩)
 have R0:Hid (Spt S w7 w7 io1 I.length po1 P):=⟨p1.same k37,p2.same k37,Kept.refl _ _⟩
 have z2:=k2.size
 have z4:=k4.size
 have FIN:Hid (∀ wr,Spt S w7 wr io1 I.length po1 P→Same0 W1 wr∧Lay (fun b=>b<w3.heap.size) wr (.slice io2 I.length ic2) (.slice po2 P.length pc2) (I,P)∧Lay (fun b=>b<w4.heap.size) wr (.slice io3 I.length ic3) (.slice po3 P.length pc3) (I,P)):=fun wr hr=>⟨Kept.trans s7 hr.k (fun i hi e=>by have:=HS.out i e;omega),(L2.out.same (k5.trans' k57)).far hr.k (fun b e=>(HS.out b e).2),(L3.out.same k57).far hr.k (fun b e=>by have:=(HS.out b e).2;omega)⟩
 clear hS p1 p2 L1 L2 L3 k2 k3 k4 k5 k6 k7 k57 k37 s3 s4 s5 s6 s7 z2 z4 HS FLH
 go_wp2_with fail
 go_loopw [12] (fun s12 wr=>∃ i:Nat,i≤P.length∧s12=.int .i64 (i:Int)∧Hid (Spt S w7 wr io1 I.length po1 P)) (fun s12 _=>P.length-(intOf s12).toNat)
 case atStart=>exact ⟨0,Nat.zero_le _,rfl,R0⟩
 case round=>
  clear R0
  obtain ⟨i,hi,rfl,hR⟩:=hrel
  by_cases hlt:i<P.length
  ·have i1:(0:Int)≤(i:Int):=by omega
   have i2:(i:Int)<(P.length:Int):=by omega
   go_wp2_with fail
   obtain ⟨wo,rfl⟩:∃ wo,wo=wr:=⟨_,rfl⟩
   go_loopw [13] (fun s13 wr=>∃ j:Nat,j≤P[i].length∧s13=.int .i64 (j:Int)∧Hid (Spt S w7 wr io1 I.length po1 P)) (fun s13 _=>P[i].length-(intOf s13).toNat)
   case atStart=>exact ⟨0,Nat.zero_le _,rfl,hR⟩
   case round=>
    clear hR
    obtain ⟨j,hj,rfl,hR⟩:=hrel
    obtain ⟨g,ao,ac,rfl,c0,hz,hall⟩:=hR.out.path hlt
    have hl3:IntKind.i64.wrap ((i:Int)+1)=(i:Int)+1:=iwrap (by omega) (by omega)
    have hl4:IntKind.i64.wrap ((j:Int)+1)=(j:Int)+1:=iwrap (by omega) (by omega)
    by_cases hlt2:j<P[i].length
    ·obtain ⟨b,off,old,rfl,c1,c2,hn⟩:=hall j hlt2
     have NX:Hid (Spt S w7 (wr.setCell ⟨b,off+j,none⟩ (.int .i64 (1000+(i:Int)))) io1 I.length (some ⟨g,0,none⟩) P):=hn _
     have j1:(0:Int)≤(j:Int):=by omega
     have j2:(j:Int)<(P[i].length:Int):=by omega
     have hl5:IntKind.i64.wrap (1000+(i:Int))=1000+(i:Int):=iwrap (by omega) (by omega)
     clear hR hall hn FIN
     generalize P[i].length=N at *
     go_wp2_with fail
     go_roundw
     case rel=>first | exact ⟨j+1,by omega,by go_num,NX⟩ | ((repeat apply Exists.intro);exact ⟨⟨j+1,by omega,by go_num,NX⟩,rfl⟩)
     case measure=>simp [intOf];omega
    ·have j2:¬ (j:Int)<(P[i].length:Int):=by omega
     clear hall FIN
     generalize P[i].length=N at *
     go_wp2_with fail
     go_roundw
     case rel=>first | exact ⟨i+1,by omega,by go_num,hR⟩ | ((repeat apply Exists.intro);exact ⟨⟨i+1,by omega,by go_num,hR⟩,rfl⟩)
     case measure=>simp [intOf];omega
  ·have i2:¬ (i:Int)<(P.length:Int):=by omega
   have R1:Hid (Spt S w7 wr io1 I.length po1 P):=hR
   clear hR
   go_wp2_with fail
   obtain ⟨wo,rfl⟩:∃ wo,wo=wr:=⟨_,rfl⟩
   go_loopw [14] (fun s14 wr=>∃ j:Nat,j≤I.length∧s14=.int .i64 (j:Int)∧Hid (Spt S w7 wr io1 I.length po1 P)) (fun s14 _=>I.length-(intOf s14).toNat)
   case atStart=>exact ⟨0,Nat.zero_le _,rfl,R1⟩
   case round=>
    clear R1
    obtain ⟨j,hj,rfl,hR⟩:=hrel
    by_cases hlt2:j<I.length
    ·obtain ⟨g,o0,o1,o2,rfl,⟨c0,c1,c2⟩,⟨f0,f1,f2⟩,hn⟩:=hR.out.put hlt2
     have NX:Hid _:=hn (.int .i64 9) (.int .i64 0) (.int .i64 0)
     have j1:(0:Int)≤(j:Int):=by omega
     have j2:(j:Int)<(I.length:Int):=by omega
     have hl4:IntKind.i64.wrap ((j:Int)+1)=(j:Int)+1:=iwrap (by omega) (by omega)
     clear hR hn FIN
     go_wp2_with fail
     go_roundw
     case rel=>first | exact ⟨j+1,by omega,by go_num,NX⟩ | ((repeat apply Exists.intro);exact ⟨⟨j+1,by omega,by go_num,NX⟩,rfl⟩)
     case measure=>simp [intOf];omega
    ·obtain ⟨kr,M2,M3⟩:=FIN.out wr hR.out
     have j2:¬ (j:Int)<(I.length:Int):=by omega
     have H3:Hid _:=M3
     have e1:=SI.out wr io2 ic2 io3 ic3 M2.insAt M3.insAt
     have H2:Hid _:=M2
     clear hR FIN M2 M3
     go_upto_region 19 with (first | (go_at_call 13;refine e1.mono ?_;rintro e w8 ⟨rfl,k8⟩))
     clear e1
     have e1:=SL.out w8 po2 pc2 po3 pc3 (H2.out.same k8).pthAt (H3.out.same k8).pthAt
     go_upto_region 20 with (first | (go_at_call 14;refine e1.mono ?_;rintro e w9 ⟨rfl,k9⟩))
     clear e1 SL
     have k89:=k8.trans' k9
     have s9:=kr.trans' k89
     obtain ⟨x0,x1,x2,x3⟩:=BX.out w9 s9
     have e1:=RFH.out w9 s9
     go_upto_region 21 with (first | (go_at_call 12;refine e1.mono ?_;rintro e w10 ⟨io4,ic4,po4,pc4,rfl,L4,k10⟩))
     clear e1 x0 x1 x2 x3
     have e1:=SI.out w10 io4 ic4 io3 ic3 L4.out.insAt (H3.out.same (k89.trans' k10)).insAt
     have FI:Hid (Same0 w w10):=KW.trans' (s9.trans' k10)
     clear H2 H3 L4 SI RFH BX s9 k89 k8 k9 k10 kr
     go_wp2_with (first | (go_at_call 13;refine e1.mono ?_;rintro e w11 ⟨rfl,k11⟩))
     go_ret
     exact ⟨rfl,(FI.out.trans' k11).below⟩
end Go.Proofs.YtdhiiicppcgkbaaGreat
namespace Go.Proofs.YtdhiiicppcgkbaaGreat
set_option maxRecDepth 100000
set_option linter.unusedVariables false
open Go.RowKit Go.Deep
section
variable {H : Type} {enc : TypeId × Value → H} {w : World} {spare : Nat → Bool} {held : Bool}
theorem trod_struct4 {P:Program} {base:Nat} {t:TypeId} {f0 f1 f2 f3:Field} {fuel:Nat} {cs:List Value} {x:DataW H × List MemPlace} (ht:P.underlying t=some (.struct #[f0,f1,f2,f3])) (h:DataW.trod enc P w base spare held fuel t cs=some x) :
  ∃ y0 y1 y2 y3 n,n<fuel∧x.1=.agg [y0.1,y1.1,y2.1,y3.1]∧cs.length=P.cellsOf t∧DataW.trod enc P w base spare held n f0.type ((cs.drop f0.offset).take (P.cellsOf f0.type))=some y0 ∧
   DataW.trod enc P w base spare held n f1.type ((cs.drop f1.offset).take (P.cellsOf f1.type))=some y1∧DataW.trod enc P w base spare held n f2.type ((cs.drop f2.offset).take (P.cellsOf f2.type))=some y2 ∧
   DataW.trod enc P w base spare held n f3.type ((cs.drop f3.offset).take (P.cellsOf f3.type))=some y3:=by
 obtain ⟨xs,n,hn,rfl,hl,hlen,hf⟩:=DataW.trod_struct ht h
 match xs,hlen with
 | [y0,y1,y2,y3],_=>exact ⟨y0,y1,y2,y3,n,by omega,by simp,hl,by simpa using hf 0 f0 rfl,by simpa using hf 1 f1 rfl,by simpa using hf 2 f2 rfl,by simpa using hf 3 f3 rfl⟩
theorem cells_Cs:Tryz.prog.cellsOf 25=4:=by kernel_rfl
theorem cells_kids:Tryz.prog.cellsOf 23=1:=by kernel_rfl
end
end Go.Proofs.YtdhiiicppcgkbaaGreat
