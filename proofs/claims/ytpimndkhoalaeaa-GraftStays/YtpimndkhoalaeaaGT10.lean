import Derived.Test.YtpimndkhoalaeaaGT09
import Derived.Test.YtpimndkhoalaeaaGT08
namespace Go.Proofs.Ytpimndkhoalaeaa
set_option maxRecDepth 100000
set_option linter.unusedVariables false
open Go.RowKit
attribute [local go_sem ↓] Go.wp_at_zero Go.wp_at_succ
def Plus (l N:List Nd):Prop:=∃ M,N=l++M∧∀ y∈M,y.2.2.1=0∧y.2.2.2.1=false
theorem Plus.refl (l:List Nd):Plus l l:=⟨[],by simp,by simp⟩
theorem Plus.lay {l N:List Nd} (h:Plus l N) (x:List Tg):Plus l (layF N x).1:=by
 obtain ⟨M,rfl,h1⟩:=h
 obtain ⟨M', e,_,h2⟩:=lay_nodes (l++M) x
 refine ⟨M++M', by rw [e,List.append_assoc],fun y hy=>?_⟩
 rcases List.mem_append.1 hy with q | q
 ·exact h1 y q
 ·exact ⟨(h2 y q).1,(h2 y q).2.1⟩
theorem GH.load_any {n sb:Nat} {L:List Sym} {h g room:Nat} {N l:List Nd} {w:World} (q:GH n sb L h g room N w) (hp:Plus l N) {ao:Option Addr} {cap:Nat} {t:List Int} (ht:IntsAt w ao t) (hm:t.length * 8≤140737488351232) :
  Calls Try.prog 16 #[.pointer (some ⟨sb,0,none⟩),.pointer (some ⟨h,0,none⟩),.slice ao t.length cap] w fun e w' => ∃ v1 v2 N', e=.returned (.tuple #[v1,v2])∧GH n sb L h g room N' w' ∧ Plus l N' ∧ Kept (fun k=>k=h∨k=g) w w' := by
 by_cases h0:checkE L t=0
 ·by_cases hv:∀ x∈t,0≤x
  ·by_cases hf:N.length+t.length≤room
   ·exact (q.load_yes ht h0 hv hf).mono (fun e w' ⟨a,e1,_,e3,e4⟩=>⟨_,_,_,e1,e3,hp.lay _,e4⟩)
   ·exact (load_full q.sg q.hp ht hm h0 hv hf).mono (fun e w' ⟨v,e1,_,e3⟩=>⟨_,_,N,e1,q.same e3,hp,e3.mono (fun _ _ f=>f.elim)⟩)
  ·exact (load_var q.sg ⟨h,0,none⟩ ht hm h0 hv).mono (fun e w' ⟨v,e1,_,e3⟩=>⟨_,_,N,e1,q.same e3,hp,e3.mono (fun _ _ f=>f.elim)⟩)
 ·exact (load_bad q.sg ⟨h,0,none⟩ ht hm h0).mono (fun e w' ⟨v,e1,_,e3⟩=>⟨_,_,N,e1,q.same e3,hp,e3.mono (fun _ _ f=>f.elim)⟩)
def BlW (n sb:Nat) (L:List Sym) (h g room:Nat) (l:List Nd) (w:World) (v1 v2:Value) (w' : World):Prop:=
 ∃ N', GH n sb L h g room N' w' ∧ Plus l N' ∧ Kept (fun k=>k=h∨k=g) w w' ∧ ((v1=.int .i64 0∧∃ fb,v2=.iface 119 (.pointer (some ⟨fb,0,none⟩)))∨∃ a:Nat,v1=.int .i64 (a:Int)∧v2=.nilIface∧a<N'.length)
theorem GH.build_any {n sb:Nat} {L:List Sym} {h g room:Nat} {N l:List Nd} {w:World} (q:GH n sb L h g room N w) (hp:Plus l N) {ro:Option Addr} {rc:Nat} {R:List (List (Int × List Int))} (hR:RtAt w ro R) (io po eo:Option Addr) (il ic pl pc el ec:Nat) (rule node:Int) :
  Calls Try.prog 22 #[.pointer (some ⟨sb,0,none⟩),.agg #[.slice io il ic,.slice po pl pc,.slice eo el ec,.slice ro R.length rc],.pointer (some ⟨h,0,none⟩),.int .i64 rule,.int .i64 node] w fun e w' => ∃ v1 v2,e=.returned (.tuple #[v1,v2])∧BlW n sb L h g room l w v1 v2 w' :=
 (Go.Proofs.Ytpimndkhoalaeaa.build_any q.sg q.hp hR io po eo il ic pl pc el ec rule node).mono (fun e w' hb=>by
  rcases hb with ⟨v,c,a,y,e1,⟨fb,e2,_,_⟩,_,e3⟩ | ⟨x,a,e1,⟨i,j,top,hi,_,_,b3,b4,b5,b6⟩,e3,e4,e5⟩
  ·exact ⟨_,_,e1,N,q.same e3,hp,e3.mono (fun _ _ f=>f.elim),.inl ⟨rfl,fb,e2⟩⟩
  ·refine ⟨_,_,e1,_,q.next e5 e4,hp.lay x,e5,.inr ⟨a,rfl,rfl,?_⟩⟩
   have hok:=AllP.ok q.sg.2 (by have:=b3.lt.2;omega) b4
   obtain ⟨a', e6,e7⟩:=lay_one b5 hok
   rw [e6] at e3
   simp at e3
   omega)
theorem NsW.take {w:World} {ao:Option Addr} {l M:List Nd} (h:NsW w ao (l++M)):NsW w ao l:=by
 rcases h with h | ⟨nb,noff,e,hb,hc⟩
 ·exact .inl (List.append_eq_nil_iff.1 h).1
 ·refine .inr ⟨nb,noff,e,hb,fun j hj=>?_⟩
  have:=hc j (by simp;omega)
  simpa [List.getElem_append_left hj] using this
set_option maxHeartbeats 4000000 in
theorem gstays_walk {w:World} {ao:Option Addr} {len cap:Nat} {xs:List Sym} (hx:SymsAt w ao len xs) (hm:len≤maxLen) {lo:Option Addr} {lc:Nat} {l:List Nd} (hl:NsW w lo l) (hls:l.length * 56≤140737488351232) {ro:Option Addr} {rc:Nat} {R:List (List (Int × List Int))} (hR:RtAt w ro R)
  {qo:Option Addr} {qc:Nat} {T:List (Int × Int)} (hT:TrAt w qo T) (hTm:T.length≤maxLen) {po:Option Addr} {t:List Int} {pc:Nat} (ht:Arg w po t pc) :
  Calls Try.prog 5 #[.slice ao len cap,.slice lo l.length lc,.slice ro R.length rc,.slice qo T.length qc,.slice po t.length pc] w fun e w' => e=.returned (.bool true)∧Below w.heap.size w w' := by
 have CA:=awake13_any w
 have HB:Hid (∀ w', Same0 w w' → Below w.heap.size w w'):=fun w' hk=>hk.below
 have CS:Hid (∀ ww,Same0 w ww→Calls Try.prog 13 #[.slice ao len cap] ww fun e w' => ∃ b rv,e=.returned (.tuple #[.pointer (some ⟨b,0,none⟩),rv])∧Sg w'.heap.size w' b (madeL xs)∧Rl w'.heap.size w' rv (madeL xs)∧Same0 ww w'):=fun ww hk=>sign_any ao len cap xs ww (hx.kept hk.below) hm
 have HT:Hid (∀ ww,Same0 w ww→IntsAt ww po t):=fun ww hk=>ht.at'.same hk
 have HL:Hid (∀ ww,Same0 w ww→NsW ww lo l):=fun ww hk=>hl.same hk
 have HR:Hid (∀ ww,Same0 w ww→RtAt ww ro R):=fun ww hk=>hR.same hk
 have HQ:Hid (∀ ww,Same0 w ww→TrAt ww qo T):=fun ww hk=>hT.same hk
 have hsz:=ht.size
 generalize madeL xs=L at *
 unfold maxLen at hTm
 clear hx ht hl hR hT
 go_enter Try.func5,Try.ntmps5
 go_upto_region 3 with (first
  | (go_at_call 12;refine CA.mono ?_;rintro e w1 ⟨rfl,k1⟩)
  | (go_at_call 13;refine (CS.out w1 k1).mono ?_;rintro e w2 ⟨sb,rv,rfl,hs, -,k2⟩))
 have K2:Hid (Same0 w w2):=k1.trans' k2
 have SG:Hid (Sg w2.heap.size w2 sb L):=hs
 have CM:Calls Try.prog 24 #[.int .i64 4000,.slice lo l.length lc] w2 fun e w' => ∃ v1 v2,e=.returned (.tuple #[v1,v2])∧MgQ l w2 (.returned (.tuple #[v1,v2])) w' := (made13_any (HL.out w2 K2.out) (by unfold maxLen;omega)).mono (fun e w' hq=>by
  rcases hq with ⟨rfl,k⟩ | ⟨h,g,r,v,rfl,q⟩
  ·exact ⟨_,_,rfl,.inl ⟨rfl,k⟩⟩
  ·exact ⟨_,_,rfl,.inr ⟨h,g,r,v,rfl,q⟩⟩)
 clear CA CS hs k1 k2
 go_upto_region 4 with (first | (go_at_call 24;refine CM.mono ?_;rintro e w3 ⟨v1,v2,rfl,hq⟩))
 rcases hq with ⟨e,k3⟩ | ⟨h,g,r,v,e,md⟩
 ·simp only [Ending.returned.injEq,Value.tuple.injEq,Array.mk.injEq,List.cons.injEq,and_true] at e
  obtain ⟨rfl,rfl⟩:=e
  clear CM
  go_wp2
  go_ret
  exact ⟨rfl,HB.out _ (K2.out.trans' k3)⟩
 ·simp only [Ending.returned.injEq,Value.tuple.injEq,Array.mk.injEq,List.cons.injEq,and_true] at e
  obtain ⟨rfl,rfl⟩:=e
  have Q3:Hid (GH w2.heap.size sb L h g 4000 l w3):=⟨SG.out.same md.same,md.hp.mono (fun _ _ _ _=>trivial),md.lh,md.lg⟩
  have K3:Hid (Same0 w w3):=K2.out.trans' md.same
  have hz2:w.heap.size≤w2.heap.size:=K2.out.size
  have hgh:w2.heap.size≤h∧w2.heap.size≤g:=⟨md.lh,md.lg⟩
  have KH:Hid (∀ a b,Kept (fun k=>k=h∨k=g) a b→Same0 w a→Same0 w b):=fun a b hk h1=>h1.trans hk (fun i hi e=>by omega)
  have hhl:h<w3.heap.size∧g<w3.heap.size:=⟨md.hp.ltH,md.hp.ltG⟩
  obtain ⟨X,hX⟩:∃ X,X=w3.alloc (.cells #[.slice none 0 0,.slice none 0 0,.slice none 0 0,.slice ro R.length rc] 58):=⟨_,rfl⟩
  have jX:Same0 w3 X:=by rw [hX];exact (Kept.refl _ _).alloc _
  have nX:X.heap[w3.heap.size]? = some (.cells #[.slice none 0 0,.slice none 0 0,.slice none 0 0,.slice ro R.length rc] 58 (0,0)):=by rw [hX];exact heap_alloc_new _ _
  have QX:Hid (GH w2.heap.size sb L h g 4000 l X):=Q3.out.same jX
  have KX:Hid (Same0 w X):=K3.out.trans' jX
  have NX0:Hid (X.heap[w3.heap.size]? = some (.cells #[.slice none 0 0,.slice none 0 0,.slice none 0 0,.slice ro R.length rc] 58 (0,0))):=nX
  clear CM md SG Q3 K3 jX nX
  go_upto_region 7 with fail
  rw [← hX]
  clear hX
  generalize w3.heap.size=cb at *
  go_wp2_with fail
  go_loopw [17] (fun s17 wr=>∃ (i:Nat) (N:List Nd),i≤30∧i≤T.length∧s17=.int .i64 (i:Int)∧Hid (GH w2.heap.size sb L h g 4000 N wr)∧Hid (Plus l N)∧Hid (Same0 w wr)∧Hid (wr.heap[cb]? = some (.cells #[.slice none 0 0,.slice none 0 0,.slice none 0 0,.slice ro R.length rc] 58 (0,0)))) (fun s17 _=>30-(intOf s17).toNat)
  case atStart=>exact ⟨0,l,by omega,Nat.zero_le _,rfl,QX,Plus.refl l,KX,NX0⟩
  case round=>
   clear QX KX NX0
   obtain ⟨i,N,hi30,hiT,rfl,QI,PI,KI,NI⟩:=hrel
   by_cases hlt:i<T.length∧i<30
   ·obtain ⟨hi1,hi2⟩:=hlt
    obtain ⟨tb,toff,rfl,htb,htc⟩:=(HQ.out wr KI.out).resolve_left (fun e=>by rw [e] at hi1;simp at hi1)
    obtain ⟨t0,t1⟩:=htc i hi1
    have i1:(0:Int)≤(i:Int):=by omega
    have i2:(i:Int)<(T.length:Int):=by omega
    have i3:(i:Int)<30:=by omega
    obtain ⟨y0,y1,y2,y3⟩:=boxT4 NI.out
    have QD:Hid (GH w2.heap.size sb L h g 4000 N wr.drew):=QI.out.same ((Kept.refl _ _).drew)
    have KD:Hid (Same0 w wr.drew):=KI.out.trans' ((Kept.refl _ _).drew)
    have CB:=QD.out.build_any PI.out (rc:=rc) (HR.out wr.drew KD.out) none none none 0 0 0 0 0 0 T[i].1 T[i].2
    have FC:Hid (∀ ww,Kept (fun k=>k=h∨k=g) wr.drew ww→(ww.cell? ⟨cb,0,none⟩=some (.slice none 0 0)∧ww.cell? ⟨cb,1,none⟩=some (.slice none 0 0)∧ww.cell? ⟨cb,2,none⟩=some (.slice none 0 0)∧ww.cell? ⟨cb,3,none⟩=some (.slice ro R.length rc)∧ww.cell? ⟨tb,toff+i * 2,none⟩=some (.int .i64 T[i].1)∧ww.cell? ⟨tb,toff+i * 2+1,none⟩=some (.int .i64 T[i].2))∧ww.heap[cb]? = some (.cells #[.slice none 0 0,.slice none 0 0,.slice none 0 0,.slice ro R.length rc] 58 (0,0))):=fun ww hk=>by
     have e0:ww.heap[cb]? = _:=hk.at (w:=wr.drew) NI.out (fun e=>by
      obtain ⟨cs,hq,_⟩:=QI.out.hp.blk
      have nn:=NI.out
      rcases e with e | e
      ·rw [e,QI.out.hp.box] at nn;cases nn
      ·rw [e,hq] at nn;cases nn)
     have htw:tb<w2.heap.size:=by
      obtain ⟨tb', toff', ee,htb', _⟩:=(HQ.out w (Kept.refl _ _)).resolve_left (fun e=>by rw [e] at hi1;simp at hi1)
      simp only [Option.some.injEq,Addr.mk.injEq,and_true] at ee
      omega
     obtain ⟨z0,z1,z2,z3⟩:=boxT4 e0
     exact ⟨⟨z0,z1,z2,z3,(hk.cell (p:=⟨tb,toff+i * 2,none⟩) htb (fun e=>by have e' : tb=h∨tb=g:=e;omega)).trans t0,(hk.cell (p:=⟨tb,toff+i * 2+1,none⟩) htb (fun e=>by have e' : tb=h∨tb=g:=e;omega)).trans t1⟩,e0⟩
    have S0:=(FC.out wr.drew (Kept.refl _ _)).1
    have HCU:Hid (∀ ww N', GH w2.heap.size sb L h g 4000 N' ww→Calls Try.prog 17 #[.pointer (some ⟨h,0,none⟩)] ww fun e w' => e=.returned (.int .i64 (N'.length:Int))∧w' = ww):=fun ww N' q=>used_any q.hp
    clear t0 t1 y0 y1 y2 y3 htc QI PI KI NI
    generalize T[i].1=ru at *
    generalize T[i].2=nd at *
    go_upto_region 10 with fail
    go_region_held3 (fun ww=>ww.cell? ⟨cb,0,none⟩=some (.slice none 0 0)∧ww.cell? ⟨cb,1,none⟩=some (.slice none 0 0)∧ww.cell? ⟨cb,2,none⟩=some (.slice none 0 0)∧ww.cell? ⟨cb,3,none⟩=some (.slice ro R.length rc)∧ww.cell? ⟨tb,toff+i * 2,none⟩=some (.int .i64 ru)∧ww.cell? ⟨tb,toff+i * 2+1,none⟩=some (.int .i64 nd)) (with_reducible first | exact S0 | exact cc1) (first | (go_at_call 22;refine CB.mono ?_;rintro e w5 ⟨u1,u2,rfl,⟨N', q5,p5,k5,o5⟩⟩;obtain ⟨cc1,e5⟩:=FC.out w5 k5))
    have K5:Hid (Same0 w w5):=KH.out _ _ k5 KD.out
    have Q5:Hid (GH w2.heap.size sb L h g 4000 N' w5):=q5
    have P5:Hid (Plus l N'):=p5
    have N5:Hid (w5.heap[cb]? = some (.cells #[.slice none 0 0,.slice none 0 0,.slice none 0 0,.slice ro R.length rc] 58 (0,0))):=e5
    have CU:=HCU.out w5 N' q5
    clear S0 cc1 CB FC k5 q5 p5 e5 HCU QD KD
    rcases o5 with ⟨rfl,fb,rfl⟩ | ⟨a,rfl,rfl,ha⟩
    ·have n1:=eq_efault
     go_wp2
     refine ⟨⟨i+1,N', by omega,by omega,by go_num,Q5,P5,K5,N5⟩,by simp [intOf];omega⟩
    ·have n1:=eq_enil
     have a1:¬ ((a:Int)<0):=by omega
     have a2:¬ ((N'.length:Int)≤(a:Int)):=by omega
     go_wp2_with (first | (go_at_call 17;refine CU.mono ?_;rintro e w6 ⟨rfl,h6⟩;have h6:=h6.symm;subst h6))
     refine ⟨⟨i+1,N', by omega,by omega,by go_num,Q5,P5,K5,N5⟩,by simp [intOf];omega⟩
   ·obtain ⟨M,hNM,hMM⟩:=PI.out
    have hN4:N.length≤4000:=QI.out.hp.le
    have pN:=QI.out.hp
    have CL:=QI.out.load_any PI.out (cap:=pc) (HT.out wr KI.out) hsz
    clear NI hNM hMM hN4 pN
    have HCT:Hid (∀ ww N', GH w2.heap.size sb L h g 4000 N' ww→Calls Try.prog 18 #[.pointer (some ⟨h,0,none⟩)] ww fun e w' => ∃ v,e=.returned (.tuple #[v,.bool true])∧NRow (fun b=>ww.heap.size≤b) ww.heap.size w' v N' ∧ Same0 ww w'):=fun ww N' q=>told13_any q.hp
    by_cases hq1:i<T.length
    ·have i2:(i:Int)<(T.length:Int):=by omega
     have i3:¬ ((i:Int)<30):=by omega
     go_upto_region 15 with (first
      | (go_at_call 16;refine CL.mono ?_;rintro e w5 ⟨u1,u2,N', rfl,q5,p5,k5⟩;have K5:Same0 w w5:=KH.out _ _ k5 KI.out;have CT:=HCT.out w5 N' q5)
      | (go_at_call 18;refine CT.mono ?_;rintro e w6 ⟨v6,rfl,hrow,k6⟩;obtain ⟨vo,vc,rfl⟩:=hrow.shape))
     obtain ⟨M,rfl,hMM⟩:=p5
     have pN:=q5.hp
     have K6:Hid (Same0 w w6):=K5.trans' k6
     have NW:Hid (NsW w6 vo (l++M)):=hrow.mem.weak
     have hcap:(l++M).length≤vc:=by
      obtain ⟨vs,q1,_⟩:=hrow
      rcases q1.2 with ⟨e1,h0⟩ | ⟨g', cap', cur', e1,_,_,hle', _⟩
      ·simp only [Value.slice.injEq] at e1;omega
      ·simp only [Value.slice.injEq] at e1;obtain ⟨_,_,rfl⟩:=e1;exact hle'
     have hlen4:(l++M).length≤4000:=pN.le
     have hll:(l++M).length=l.length+M.length:=by simp
     have CN:Calls Try.prog 25 #[.slice vo l.length vc,.slice lo l.length lc] w6 fun e w' => e=.returned (.bool true)∧Same0 w6 w' := by
      have:=sameNodes_any (ac:=vc) (bc:=lc) NW.out.take (HL.out w6 K6.out) (by unfold maxLen;omega)
      rw [eqL_self] at this
      exact this
     have CR:Hid (∀ ww,Same0 w6 ww→Calls Try.prog 26 #[.slice vo (l++M).length vc] ww fun e w' => e=.returned (.bool false)∧Same0 ww w'):=fun ww hk=>(ring_any (ac:=vc) (NW.out.same hk) pN.inl (fun x hx=>(may_facts (pN.may x hx)).2.1) hlen4).mono (fun e w' ⟨b,e1,e2,e3⟩=>by
      cases b with
      | false=>exact ⟨e1,e3⟩
      | true=>exact absurd pN.ac (e2.1 rfl))
     have HM:Hid (∀ a (ha:a<(l++M).length),l.length≤a→(l++M)[a].2.2.1=0∧(l++M)[a].2.2.2.1=false):=fun a ha hla=>by
      have hmem:(l++M)[a]∈M:=by rw [List.getElem_append_right hla];exact List.getElem_mem _
      exact hMM _ hmem
     have j1:¬ (((l++M).length:Int)<(l.length:Int)):=by omega
     have j2:(0:Int)≤(l.length:Int):=by omega
     have j3:(l.length:Int)≤(vc:Int):=by omega
     have hle:l.length≤(l++M).length:=by omega
     clear hrow k6 K5 q5 k5 pN CT CL HCT hMM hll hcap
     generalize (l++M)=N' at *
     go_upto_region 20 with (first
      | (go_at_call 25;refine CN.mono ?_;rintro e w7 ⟨rfl,k7⟩)
      | (go_at_call 26;refine (CR.out w7 k7).mono ?_;rintro e w8 ⟨rfl,k8⟩))
     have K8:Hid (Same0 w w8∧Same0 w6 w8):=⟨(K6.out.trans' k7).trans' k8,Same0.trans' k7 k8⟩
     clear CN CR k7 k8
     go_loopw [24] (fun s24 wr=>∃ a:Nat,l.length≤a∧a≤N'.length∧s24=.int .i64 (a:Int)∧Hid (Same0 w wr)∧Hid (Same0 w6 wr)) (fun s24 _=>N'.length-(intOf s24).toNat)
     case atStart=>exact ⟨l.length,Nat.le_refl _,hle,rfl,K8.out.1,K8.out.2⟩
     case round=>
      clear K8
      obtain ⟨a,ha1,ha2,rfl,KA,KB⟩:=hrel
      by_cases hal:a<N'.length
      ·obtain ⟨nb,noff,rfl,hnb,hnc⟩:=(NW.out.same KB.out).resolve_left (fun e=>by rw [e] at hal;simp at hal)
       obtain ⟨xo,xc,d0,d1,d2,d3,d4, -⟩:=hnc a hal
       obtain ⟨m1,m2⟩:=HM.out a hal ha1
       rw [m1] at d2
       rw [m2] at d3
       have l1:(0:Int)≤(a:Int):=by omega
       have l2:(a:Int)<(N'.length:Int):=by omega
       clear m1 m2 hnc
       go_wp2
       refine ⟨⟨a+1,by omega,by omega,by go_num,KA,KB⟩,by simp [intOf];omega⟩
      ·go_wp2
       go_ret
       exact ⟨rfl,HB.out _ KA.out⟩
    ·have i2:¬ ((i:Int)<(T.length:Int)):=by omega
     go_upto_region 15 with (first
      | (go_at_call 16;refine CL.mono ?_;rintro e w5 ⟨u1,u2,N', rfl,q5,p5,k5⟩;have K5:Same0 w w5:=KH.out _ _ k5 KI.out;have CT:=HCT.out w5 N' q5)
      | (go_at_call 18;refine CT.mono ?_;rintro e w6 ⟨v6,rfl,hrow,k6⟩;obtain ⟨vo,vc,rfl⟩:=hrow.shape))
     obtain ⟨M,rfl,hMM⟩:=p5
     have pN:=q5.hp
     have K6:Hid (Same0 w w6):=K5.trans' k6
     have NW:Hid (NsW w6 vo (l++M)):=hrow.mem.weak
     have hcap:(l++M).length≤vc:=by
      obtain ⟨vs,q1,_⟩:=hrow
      rcases q1.2 with ⟨e1,h0⟩ | ⟨g', cap', cur', e1,_,_,hle', _⟩
      ·simp only [Value.slice.injEq] at e1;omega
      ·simp only [Value.slice.injEq] at e1;obtain ⟨_,_,rfl⟩:=e1;exact hle'
     have hlen4:(l++M).length≤4000:=pN.le
     have hll:(l++M).length=l.length+M.length:=by simp
     have CN:Calls Try.prog 25 #[.slice vo l.length vc,.slice lo l.length lc] w6 fun e w' => e=.returned (.bool true)∧Same0 w6 w' := by
      have:=sameNodes_any (ac:=vc) (bc:=lc) NW.out.take (HL.out w6 K6.out) (by unfold maxLen;omega)
      rw [eqL_self] at this
      exact this
     have CR:Hid (∀ ww,Same0 w6 ww→Calls Try.prog 26 #[.slice vo (l++M).length vc] ww fun e w' => e=.returned (.bool false)∧Same0 ww w'):=fun ww hk=>(ring_any (ac:=vc) (NW.out.same hk) pN.inl (fun x hx=>(may_facts (pN.may x hx)).2.1) hlen4).mono (fun e w' ⟨b,e1,e2,e3⟩=>by
      cases b with
      | false=>exact ⟨e1,e3⟩
      | true=>exact absurd pN.ac (e2.1 rfl))
     have HM:Hid (∀ a (ha:a<(l++M).length),l.length≤a→(l++M)[a].2.2.1=0∧(l++M)[a].2.2.2.1=false):=fun a ha hla=>by
      have hmem:(l++M)[a]∈M:=by rw [List.getElem_append_right hla];exact List.getElem_mem _
      exact hMM _ hmem
     have j1:¬ (((l++M).length:Int)<(l.length:Int)):=by omega
     have j2:(0:Int)≤(l.length:Int):=by omega
     have j3:(l.length:Int)≤(vc:Int):=by omega
     have hle:l.length≤(l++M).length:=by omega
     clear hrow k6 K5 q5 k5 pN CT CL HCT hMM hll hcap
     generalize (l++M)=N' at *
     go_upto_region 20 with (first
      | (go_at_call 25;refine CN.mono ?_;rintro e w7 ⟨rfl,k7⟩)
      | (go_at_call 26;refine (CR.out w7 k7).mono ?_;rintro e w8 ⟨rfl,k8⟩))
     have K8:Hid (Same0 w w8∧Same0 w6 w8):=⟨(K6.out.trans' k7).trans' k8,Same0.trans' k7 k8⟩
     clear CN CR k7 k8
     go_loopw [24] (fun s24 wr=>∃ a:Nat,l.length≤a∧a≤N'.length∧s24=.int .i64 (a:Int)∧Hid (Same0 w wr)∧Hid (Same0 w6 wr)) (fun s24 _=>N'.length-(intOf s24).toNat)
     case atStart=>exact ⟨l.length,Nat.le_refl _,hle,rfl,K8.out.1,K8.out.2⟩
     case round=>
      clear K8
      obtain ⟨a,ha1,ha2,rfl,KA,KB⟩:=hrel
      by_cases hal:a<N'.length
      ·obtain ⟨nb,noff,rfl,hnb,hnc⟩:=(NW.out.same KB.out).resolve_left (fun e=>by rw [e] at hal;simp at hal)
       obtain ⟨xo,xc,d0,d1,d2,d3,d4, -⟩:=hnc a hal
       obtain ⟨m1,m2⟩:=HM.out a hal ha1
       rw [m1] at d2
       rw [m2] at d3
       have l1:(0:Int)≤(a:Int):=by omega
       have l2:(a:Int)<(N'.length:Int):=by omega
       clear m1 m2 hnc
       go_wp2
       refine ⟨⟨a+1,by omega,by omega,by go_num,KA,KB⟩,by simp [intOf];omega⟩
      ·go_wp2
       go_ret
       exact ⟨rfl,HB.out _ KA.out⟩
end Go.Proofs.Ytpimndkhoalaeaa
