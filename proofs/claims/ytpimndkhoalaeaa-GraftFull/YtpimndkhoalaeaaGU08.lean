import Derived.Test.YtpimndkhoalaeaaGU07
namespace Go.Proofs.Ytpimndkhoalaeaa
set_option maxRecDepth 100000
set_option linter.unusedVariables false
open Go.RowKit
attribute [local go_sem ↓] Go.wp_at_zero Go.wp_at_succ
theorem ahead_neg {a:Int} (h:a<0) (h2 : -9223372036854775808≤a):∃ k:Nat,(-(a+1)).tmod 50+1=((k+1:Nat):Int)∧k<50:=by
 refine ⟨((-(a+1)).tmod 50).toNat,?_,?_⟩
 ·have:=Int.tmod_nonneg 50 (show 0 ≤ -(a+1) by omega);omega
 ·have:=Int.tmod_nonneg 50 (show 0 ≤ -(a+1) by omega)
  have:=Int.tmod_lt_of_pos (-(a+1)) (show (0:Int)<50 by decide);omega
theorem neq_flt (w:World):(binOp .neq 60 (.agg #[.int .i64 131,.int .i64 0,.int .i64 111,.bool false,.int .i64 0,.int .i64 0]) (.agg #[.int .i64 131,.int .i64 0,.int .i64 111,.bool false,.int .i64 0,.int .i64 0])).run Try.prog w=.ok (.bool false) w:=by kernel_rfl
theorem eql_flt (w:World):(binOp .eql 60 (.agg #[.int .i64 131,.int .i64 0,.int .i64 111,.bool false,.int .i64 0,.int .i64 0]) (.agg #[.int .i64 131,.int .i64 0,.int .i64 111,.bool false,.int .i64 0,.int .i64 0])).run Try.prog w=.ok (.bool true) w:=by kernel_rfl
theorem GH.parts {n sb:Nat} {L:List Sym} {h g room:Nat} {N:List Nd} {w w' : World} {base:Nat} {v:Value} {t:List Int} (q:GH n sb L h g room N w) (r:PRw base w v t) (hb:n≤base∧h<base∧g<base) (hk:Kept (fun k=>v.ownBlock=some k) w w'):GH n sb L h g room N w' := by
 have ob:∀ k,v.ownBlock=some k→base≤k∧NotI w k:=fun k e=>by
  rcases r.2 with ⟨e1,_⟩ | ⟨g', cap', cur', e1,hb', hg', _⟩
  ·rw [e1] at e;cases e
  ·rw [e1] at e
   have e2:g' = k:=Option.some.inj e
   subst e2
   exact ⟨hb', fun c hc=>by rw [hg'] at hc;cases hc⟩
 exact ⟨q.sg.kept hk (fun k hk' e=>by have:=(ob k e).1;omega),q.hp.kept hk (fun e=>by have:=(ob _ e).1;omega) (fun e=>by have:=(ob _ e).1;omega) (fun k _ e=>(ob k e).2),q.gh⟩
theorem PRw.own {base:Nat} {w:World} {v:Value} {t:List Int} (r:PRw base w v t) {k:Nat} (e:v.ownBlock=some k):base≤k:=by
 rcases r.2 with ⟨e1,_⟩ | ⟨g', cap', cur', e1,hb', hg', _⟩
 ·rw [e1] at e;cases e
 ·rw [e1] at e
  have e2:g' = k:=Option.some.inj e
  subst e2
  exact hb'
theorem GH.fault {n sb:Nat} {L:List Sym} {h g room:Nat} {N:List Nd} {w w' : World} {b:Nat} {cs:Array Value} (q:GH n sb L h g room N w) (hb:w.heap[b]? = some (.cells cs 121 (0,0))) (hn:n≤b) (hk:Kept (fun k=>k=b) w w'):GH n sb L h g room N w' := by
 obtain ⟨c2,hq,_⟩:=q.hp.blk
 refine ⟨q.sg.kept hk (fun k hk' e=>by omega),q.hp.kept hk (fun e=>?_) (fun e=>?_) (fun k _ e c hc=>?_),q.gh⟩
 ·rw [← e,q.hp.box] at hb;cases hb
 ·rw [← e,hq] at hb;cases hb
 ·rw [e,hb] at hc;cases hc
theorem PRw.noflt {base:Nat} {w:World} {v:Value} {t:List Int} (r:PRw base w v t) {k b:Nat} {cs:Array Value} (e:v.ownBlock=some k) (hb:w.heap[b]? = some (.cells cs 121 (0,0))) (hk:k=b):False:=by
 rcases r.2 with ⟨e1,_⟩ | ⟨g', cap', cur', e1,hb', hg', _⟩
 ·rw [e1] at e;cases e
 ·rw [e1] at e
  have e2:g' = k:=Option.some.inj e
  rw [e2,hk,hb] at hg'
  cases hg'
set_option maxHeartbeats 4000000 in
theorem gfull_walk {w:World} {ao:Option Addr} {len cap:Nat} {xs:List Sym} (hx:SymsAt w ao len xs) (hm:len≤maxLen) {po:Option Addr} {t:List Int} {pc:Nat} (ht:Arg w po t pc) (ah:Int) (ha1 : -9223372036854775808≤ah) (ha2:ah≤9223372036854775807) (less:Bool) :
  Calls Try.prog 4 #[.slice ao len cap,.slice po t.length pc,.int .i64 ah,.bool less] w fun e w' => e=.returned (.bool true)∧Below w.heap.size w w' := by
 have CA:=awake13_any w
 have HB:Hid (∀ w', Same0 w w' → Below w.heap.size w w'):=fun w' hk=>hk.below
 have CS:Hid (∀ ww,Same0 w ww→Calls Try.prog 13 #[.slice ao len cap] ww fun e w' => ∃ b rv,e=.returned (.tuple #[.pointer (some ⟨b,0,none⟩),rv])∧Sg w'.heap.size w' b (madeL xs)∧Rl w'.heap.size w' rv (madeL xs)∧Same0 ww w'):=fun ww hk=>sign_any ao len cap xs ww (hx.kept hk.below) hm
 have HT:Hid (∀ ww,Same0 w ww→IntsAt ww po t):=fun ww hk=>ht.at'.same hk
 have hsz:=ht.size
 generalize madeL xs=L at *
 clear hx ht
 go_enter Try.func4,Try.ntmps4
 go_upto_region 3 with (first
  | (go_at_call 12;refine CA.mono ?_;rintro e w1 ⟨rfl,k1⟩)
  | (go_at_call 13;refine (CS.out w1 k1).mono ?_;rintro e w2 ⟨sb,rv,rfl,hs,hr,k2⟩))
 have K2:Hid (Same0 w w2):=k1.trans' k2
 have CC:=gclosed_any (cap:=pc) hr (HT.out w2 K2.out) (by unfold maxLen;omega)
 have SG:Hid (Sg w2.heap.size w2 sb L):=hs
 clear CA CS hs k1 k2 hr
 cases hc:clG L t with
 | false=>
  rw [hc] at CC
  clear hc
  go_wp2_with (first | (go_at_call 15;refine CC.mono ?_;rintro e w4 ⟨rfl,h4⟩;have h4:=h4.symm;subst h4))
  go_ret
  exact ⟨rfl,HB.out _ K2.out⟩
 | true=>
  rw [hc] at CC
  obtain ⟨h0,hv⟩:=clG_pos hc
  obtain ⟨l1,l2,l3⟩:=check_zero h0
  have ht0:0<t.length:=isT_pos l3
  have FT:Hid (checkE L t=0∧(∀ x∈t,0≤x)∧(∀ x∈t,0≤x∧x<(L.length:Int))∧need L 1 t=some 0):=⟨h0,hv,fun x hx=>⟨hv x hx,(l2 x hx).1⟩,l3⟩
  clear hc h0 hv l1 l2 l3
  by_cases hl:1000<t.length
  ·have hl' : (1000:Int)<(t.length:Int):=by omega
   go_wp2_with (first | (go_at_call 15;refine CC.mono ?_;rintro e w4 ⟨rfl,h4⟩;have h4:=h4.symm;subst h4))
   go_ret
   exact ⟨rfl,HB.out _ K2.out⟩
  ·have hl' : ¬ (1000:Int)<(t.length:Int):=by omega
   by_cases hneg:ah<0
   ·obtain ⟨n,ek,hk1,hk2⟩:∃ n:Nat,wrap64 (-(ah+1).tmod 50+1)=(n:Int)∧1≤n∧n≤50:=by
     obtain ⟨k,e,hk⟩:=ahead_neg hneg ha1
     rw [Int.neg_tmod] at e
     exact ⟨k+1,by rw [e];unfold wrap64;omega,by omega,by omega⟩
    have EK:Hid (wrap64 (-(ah+1).tmod 50+1)=(n:Int)):=ek
    clear ek
    go_upto_region 9 with (first | (go_at_call 15;refine CC.mono ?_;rintro e w4 ⟨rfl,h4⟩;have h4:=h4.symm;subst h4))
    rw [EK.out]
    clear EK CC
    cases less with
    | false=>
     obtain ⟨RM,hRM'⟩:∃ RM:Nat,RM=n+t.length:=⟨_,rfl⟩
     have eRM:Hid ((n:Int)+(t.length:Int)=(RM:Int)):=by show _=_;omega
     have hR1:1≤RM:=by omega
     have hR2:RM≤4000:=by omega
     have hRn:n≤RM:=by omega
     have hRM:Hid (RM=n+t.length):=hRM'
     clear hRM'
     have CN:=hnew_yes RM w2 hR1 hR2
     go_upto_region 12 with fail
     rw [eRM.out]
     clear eRM
     go_upto_region 15 with (first | (go_at_call 14;refine CN.mono ?_;rintro e w3 ⟨h,g,rfl,p3,k3,hh,hg⟩))
     have Q3:Hid (GH w2.heap.size sb L h g RM [] w3):=⟨SG.out.same k3,p3.mono (fun _ _ _ _=>trivial),hh,hg⟩
     have K3:Hid (Same0 w w3):=K2.out.trans' k3
     have hz2:w.heap.size≤w2.heap.size:=K2.out.size
     have KH:Hid (∀ a b,Kept (fun k=>k=h∨k=g) a b→Same0 w a→Same0 w b):=fun a b hk h1=>h1.trans hk (fun i hi e=>by omega)
     clear CN p3 k3 SG
     go_wp2_with fail
     go_loopw [17] (fun s17 wr=>∃ j:Nat,j≤n∧s17=.int .i64 (j:Int)∧Hid (GH w2.heap.size sb L h g RM (fullN j) wr)∧Hid (Same0 w wr)) (fun s17 _=>n-(intOf s17).toNat)
     case atStart=>exact ⟨0,Nat.zero_le _,rfl,Q3,K3⟩
     case round=>
      clear Q3 K3
      obtain ⟨j,hj,rfl,QJ,KJ⟩:=hrel
      by_cases hlt:j<n
      ·have CM:=QJ.out.made (j:Int) (ao:=none) (xs:=[]) (cap:=0) ⟨.inl rfl,Nat.le_refl _,fun _=>⟨rfl,rfl⟩,by simp⟩ (fullN_mk (by omega))
       have j1:(j:Int)<(n:Int):=by omega
       go_wp2_with (first | (go_at_call 21;refine CM.mono ?_;rintro e w4 ⟨rfl,Q4,k4⟩))
       refine ⟨⟨j+1,by omega,by go_num,by rw [fullN_succ];exact Q4,KH.out _ _ k4 KJ.out⟩,by simp [intOf];omega⟩
      ·obtain rfl:j=n:=by omega
       have hb0:w2.heap.size≤wr.heap.size∧h<wr.heap.size∧g<wr.heap.size:=⟨by have:=QJ.out.hp.ltH;omega,QJ.out.hp.ltH,QJ.out.hp.ltG⟩
       have PR0:Hid (PRw wr.heap.size wr (.slice none 0 0) ([]:List Int)):=World.ownsRow_nil _ _ _ _
       have hbw:w.heap.size≤wr.heap.size:=KJ.out.size
       generalize hb0e:wr.heap.size=b0 at *
       have hbb:b0≤wr.heap.size:=by omega
       clear hb0e
       go_wp2_with fail
       go_loopw [18,19] (fun v18 s19 wr=>∃ i:Nat,i≤t.length∧s19=.int .i64 (i:Int)∧PRw b0 wr v18 (t.take i)∧Hid (GH w2.heap.size sb L h g RM (fullN j) wr)∧Hid (Same0 w wr)∧b0≤wr.heap.size) (fun _ s19 _=>t.length-(intOf s19).toNat)
       case atStart=>exact ⟨0,Nat.zero_le _,rfl,PR0.out,QJ,KJ,hbb⟩
       case round=>
        clear PR0 QJ KJ hbb
        obtain ⟨i,hi,rfl,hpr,QI,KI,hbi⟩:=hrel
        obtain ⟨go,gc,rfl⟩:=hpr.shape
        have hti:(t.take i).length=i:=by simp;omega
        by_cases hlt2:i<t.length
        ·obtain ⟨xb,off,rfl,hxb,hxc⟩:=(HT.out wr KI.out).get hlt2
         have j1:(0:Int)≤(i:Int):=by omega
         have j2:(i:Int)<(t.length:Int):=by omega
         have hst:t.take (i+1)=t.take i ++ [t[i]]:=List.take_succ_eq_append_getElem hlt2
         have NX:Hid (∀ w4 gg cap4,PRw b0 w4 (.slice (some ⟨gg,0,none⟩) ((t.take i).length+1) cap4) (t.take i ++ [t[i]])→Kept (fun k=>(Value.slice go (t.take i).length gc).ownBlock=some k) wr w4→PRw b0 w4 (.slice (some ⟨gg,0,none⟩) ((t.take i).length+1) cap4) (t.take (i+1))∧GH w2.heap.size sb L h g RM (fullN j) w4∧Same0 w w4∧b0≤w4.heap.size):=fun w4 gg cap4 h4 k4=>⟨by rw [hst];exact h4,QI.out.parts hpr hb0 k4,KI.out.trans k4 (fun q hq e=>by have:=hpr.own e;omega),Nat.le_trans hbi k4.size⟩
         have bb:((t.take i).length+1) * 32≤140737488355328:=by omega
         clear hst hti
         generalize t[i]=z at *
         generalize t.take i=ti at *
         go_wp2_with (first | (at_builtin;refine wpList_pt rfl _ _ rfl b0 ti _ rfl hpr z rfl hbi bb ?_;intro gg cap4 w4 hr4 hk4;obtain ⟨m1,m2,m3,m4⟩:=NX.out w4 gg cap4 hr4 hk4))
         refine ⟨⟨i+1,by omega,by go_num,m1,m2,m3,m4⟩,by simp [intOf];omega⟩
        ·obtain rfl:i=t.length:=by omega
         rw [List.take_length] at hpr ⊢
         clear hti
         obtain ⟨m,rfl⟩:∃ m,j=m+1:=⟨j-1,by omega⟩
         obtain ⟨X1,hX1⟩:∃ X1,X1=wr.alloc (.cells #[.int .i64 (-1),.slice none 0 0] 52):=⟨_,rfl⟩
         obtain ⟨X2,hX2⟩:∃ X2,X2=X1.alloc (.cells #[.slice go t.length gc,.slice (some ⟨wr.heap.size,0,none⟩) 1 1] 50):=⟨_,rfl⟩
         have j1:Same0 wr X1:=by rw [hX1];exact (Kept.refl _ _).alloc _
         have j2:Same0 X1 X2:=by rw [hX2];exact (Kept.refl _ _).alloc _
         have z1:X1.heap.size=wr.heap.size+1:=by rw [hX1];simp
         have z2:X2.heap.size=wr.heap.size+1+1:=by rw [hX2];simp [z1]
         have q1:X1.heap[wr.heap.size]? = some (.cells #[.int .i64 (-1),.slice none 0 0] 52 (0,0)):=by rw [hX1];exact heap_alloc_new _ _
         have q2:X2.heap[wr.heap.size+1]? = some (.cells #[.slice go t.length gc,.slice (some ⟨wr.heap.size,0,none⟩) 1 1] 50 (0,0)):=by rw [hX2,← z1];exact heap_alloc_new _ _
         have RT:=rt_two (hpr.pa.same (j1.trans' j2)) (by omega) (j2.at0 q1) q2
         have QX:=(QI.out.same j1).same j2
         have FP:=fullN_len (m+1)
         have CB:=QX.build_yes (rc:=2) RT none none none 0 0 0 0 0 0 (bd_parts (by omega) (fullN_app _) FT.out.2.2.1 FT.out.2.2.2 (by rw [FP,hRM.out];exact Nat.le_refl _))
         have LN:Hid ((layF (fullN (m+1)) (t.map (tgT L))).1.length=RM):=by show _=_;rw [lay_size,new_term,FP,hRM.out]
         have LA:Hid (∀ i (h:i<(layF (fullN (m+1)) (t.map (tgT L))).1.length),(layF (fullN (m+1)) (t.map (tgT L))).1[i].2.2.2.1=false):=fun i h=>by
          obtain ⟨M,e1,_,e3⟩:=lay_nodes (fullN (m+1)) (t.map (tgT L))
          have hmem:=List.getElem_mem h
          generalize (layF (fullN (m+1)) (t.map (tgT L))).1[i]=y at *
          rw [e1] at hmem
          rcases List.mem_append.1 hmem with q | q
          ·obtain ⟨x,_,rfl⟩:=List.mem_map.1 q;rfl
          ·exact (e3 y q).2.1
         generalize (layF (fullN (m+1)) (t.map (tgT L))).1=N at *
         have hprX:PRw b0 X2 (.slice go t.length gc) t:=(j1.trans' j2).row hpr (fun _ _ f=>f)
         have KX:Hid (Same0 w X2):=(KI.out.trans' j1).trans' j2
         have hbX:b0≤X2.heap.size:=by omega
         clear FP q1 q2 RT z2 j1 j2 hpr
         go_upto_region 24 with fail
         go_upto_region 25 with (first | (go_at_call 22;rw [← hX1,← hX2];refine CB.mono ?_;rintro e w5 ⟨a5,rfl, -,Q5,k5⟩))
         clear CB hX1 hX2 z1
         have hpr5:PRw b0 w5 (.slice go t.length gc) t:=k5.row hprX (fun q e s=>by have:=hprX.own e;omega)
         have K5:Hid (Same0 w w5):=KH.out _ _ k5 KX.out
         have hb5:b0≤w5.heap.size:=Nat.le_trans hbX k5.size
         have CF:=fault_none w5
         go_upto_region 26 with (first | (go_at_call 23;refine CF.mono ?_;rintro e w6 ⟨rfl,k6⟩;simp only [fltV]))
         have Q6:=Q5.same k6
         have hpr6:PRw b0 w6 (.slice go t.length gc) t:=k6.row hpr5 (fun _ _ f=>f)
         have K6:Hid (Same0 w w6):=K5.out.trans' k6
         have hb6:b0≤w6.heap.size:=Nat.le_trans hb5 k6.size
         obtain ⟨X6,hX6⟩:∃ X6,X6=w6.alloc (.cells #[.int .i64 0,.int .i64 0,.int .i64 0,.bool false,.int .i64 0,.int .i64 0] 60):=⟨_,rfl⟩
         rw [← hX6]
         have j6:Same0 w6 X6:=by rw [hX6];exact (Kept.refl _ _).alloc _
         have n6:X6.heap[w6.heap.size]? = some (.cells #[.int .i64 0,.int .i64 0,.int .i64 0,.bool false,.int .i64 0,.int .i64 0] 60 (0,0)):=by rw [hX6];exact heap_alloc_new _ _
         have z6:X6.heap.size=w6.heap.size+1:=by rw [hX6];simp
         generalize hbx6:w6.heap.size=b6 at *
         have Q6X:=Q6.same j6
         have hpr6X:PRw b0 X6 (.slice go t.length gc) t:=j6.row hpr6 (fun _ _ f=>f)
         have K6X:Hid (Same0 w X6):=K6.out.trans' j6
         clear hX6 CF k6 j6 hpr6 hpr5 Q6 Q5 K5 K6 hprX QX k5 KX hbx6
         obtain ⟨X7,hX7⟩:∃ X7,X7=X6.alloc (.cells #[.int .i64 (-1),.slice none 0 0] 52):=⟨_,rfl⟩
         obtain ⟨X8,hX8⟩:∃ X8,X8=X7.alloc (.cells #[.slice go t.length gc,.slice (some ⟨X6.heap.size,0,none⟩) 1 1] 50):=⟨_,rfl⟩
         have j7:Same0 X6 X7:=by rw [hX7];exact (Kept.refl _ _).alloc _
         have j8:Same0 X7 X8:=by rw [hX8];exact (Kept.refl _ _).alloc _
         have z7:X7.heap.size=X6.heap.size+1:=by rw [hX7];simp
         have q7:X7.heap[X6.heap.size]? = some (.cells #[.int .i64 (-1),.slice none 0 0] 52 (0,0)):=by rw [hX7];exact heap_alloc_new _ _
         have q8:X8.heap[X6.heap.size+1]? = some (.cells #[.slice go t.length gc,.slice (some ⟨X6.heap.size,0,none⟩) 1 1] 50 (0,0)):=by rw [hX8,← z7];exact heap_alloc_new _ _
         have RT:=rt_two (hpr6X.pa.same (j7.trans' j8)) (by omega) (j8.at0 q7) q8
         have Q8:=(Q6X.same j7).same j8
         have hmN:m<N.length:=by have:=LN.out;omega
         have hNR:=Q8.hp.le
         have CB:=Q8.build_yes (rc:=2) RT none none none 0 0 0 0 0 0 (bd_self hmN (LA.out m hmN) hNR)
         rw [lay_self] at CB
         have K8:Hid (Same0 w X8):=(K6X.out.trans' j7).trans' j8
         have n8:=j8.at0 (j7.at0 n6)
         have hb68:b6<X8.heap.size:=lt_of_at n8
         have hz8:b0≤X8.heap.size:=by have h1:=j7.size;have h2:=j8.size;omega
         have em:((m:Int)+1)-1=(m:Int):=by omega
         have NF:Hid (¬ N.length+t.length≤RM):=by show ¬ _;rw [LN.out];omega
         clear q7 q8 RT Q6X hpr6X K6X j7 j8 n6 z6 hNR hmN
         go_upto_region 27 with (first | (go_at_call 22;rw [← hX7,← hX8];refine CB.mono ?_;rintro e w9 ⟨a9,rfl,ea9,Q9,k9⟩))
         obtain rfl:a9=m:=by simp at ea9;omega
         clear CB hX7 hX8 z7 ea9
         have K9:Hid (Same0 w w9):=KH.out _ _ k9 K8.out
         have hgh:=Q9.gh
         have h6h:b6≠h∧b6≠g:=by
          obtain ⟨cs,hq,_⟩:=Q8.hp.blk
          refine ⟨fun e=>?_,fun e=>?_⟩
          ·rw [e,Q8.hp.box] at n8;cases n8
          ·rw [e,hq] at n8;cases n8
         have n9:=k9.at n8 (by omega)
         have CL:=load_full (cap:=pc) Q9.sg Q9.hp (HT.out w9 K9.out) hsz FT.out.1 FT.out.2.1 NF.out
         go_upto_region 28 with (first | (go_at_call 16;refine CL.mono ?_;rintro e w10 ⟨v10,rfl,⟨f10,rfl,l10,q10⟩,k10⟩))
         simp only [whyV] at q10
         rw [if_neg (by decide)] at q10
         have CF:=fault_why q10
         go_upto_region 29 with (first | (go_at_call 23;refine CF.mono ?_;rintro e w11 ⟨rfl,k11⟩;simp only [fltV]))
         have m9:=lt_of_at n9
         have s10:=k10.size
         have s11:=k11.size
         have u11:=k11.at (k10.at0 n9) (by omega)
         have hgl:h<w9.heap.size∧g<w9.heap.size:=⟨Q9.hp.ltH,Q9.hp.ltG⟩
         have Q11:=(Q9.same k10).fault q10 (by omega) k11
         have K11:Hid (Same0 w w11):=(K9.out.trans' k10).trans k11 (fun i hi e=>by have:=K9.out.size;omega)
         obtain ⟨X11,hX11⟩:∃ X11,X11=w11.alloc (.cells #[.int .i64 131,.int .i64 0,.int .i64 111,.bool false,.int .i64 0,.int .i64 0] 60):=⟨_,rfl⟩
         rw [← hX11]
         have j11:Same0 w11 X11:=by rw [hX11];exact (Kept.refl _ _).alloc _
         have n11:X11.heap[w11.heap.size]? = some (.cells #[.int .i64 131,.int .i64 0,.int .i64 111,.bool false,.int .i64 0,.int .i64 0] 60 (0,0)):=by rw [hX11];exact heap_alloc_new _ _
         obtain ⟨X12,hX12⟩:∃ X12,X12=X11.alloc (.cells #[.int .i64 131,.int .i64 0,.int .i64 111,.bool false,.int .i64 0,.int .i64 0] 60):=⟨_,rfl⟩
         have j12:Same0 X11 X12:=by rw [hX12];exact (Kept.refl _ _).alloc _
         have n12:X12.heap[X11.heap.size]? = some (.cells #[.int .i64 131,.int .i64 0,.int .i64 111,.bool false,.int .i64 0,.int .i64 0] 60 (0,0)):=by rw [hX12];exact heap_alloc_new _ _
         have p12:=j12.at0 n11
         have p6:=j12.at0 (j11.at0 u11)
         have K12:Hid (Same0 w X12):=(K11.out.trans' j11).trans' j12
         have CU:=used_any ((Q11.same j11).same j12).hp
         rw [LN.out] at CU
         clear hX11 CF CL Q8 Q9 k9 k10 k11 n8 n9 q10 u11 m9 s10 s11 hgl l10 Q11 j11 n11 K8 K9 K11 h6h hgh
         go_upto_region 30 with fail
         rw [← hX12]
         clear hX12 j12
         have ca0:X12.cell? ⟨w11.heap.size,0,none⟩=some (.int .i64 131):=cellAt p12 0
         have ca1:X12.cell? ⟨w11.heap.size,1,none⟩=some (.int .i64 0):=cellAt p12 1
         have ca2:X12.cell? ⟨w11.heap.size,2,none⟩=some (.int .i64 111):=cellAt p12 2
         have ca3:X12.cell? ⟨w11.heap.size,3,none⟩=some (.bool false):=cellAt p12 3
         have ca4:X12.cell? ⟨w11.heap.size,4,none⟩=some (.int .i64 0):=cellAt p12 4
         have ca5:X12.cell? ⟨w11.heap.size,5,none⟩=some (.int .i64 0):=cellAt p12 5
         have cb0:X12.cell? ⟨X11.heap.size,0,none⟩=some (.int .i64 131):=cellAt n12 0
         have cb1:X12.cell? ⟨X11.heap.size,1,none⟩=some (.int .i64 0):=cellAt n12 1
         have cb2:X12.cell? ⟨X11.heap.size,2,none⟩=some (.int .i64 111):=cellAt n12 2
         have cb3:X12.cell? ⟨X11.heap.size,3,none⟩=some (.bool false):=cellAt n12 3
         have cb4:X12.cell? ⟨X11.heap.size,4,none⟩=some (.int .i64 0):=cellAt n12 4
         have cb5:X12.cell? ⟨X11.heap.size,5,none⟩=some (.int .i64 0):=cellAt n12 5
         have cc0:X12.cell? ⟨b6,0,none⟩=some (.int .i64 0):=cellAt p6 0
         have cc1:X12.cell? ⟨b6,1,none⟩=some (.int .i64 0):=cellAt p6 1
         have cc2:X12.cell? ⟨b6,2,none⟩=some (.int .i64 0):=cellAt p6 2
         have cc3:X12.cell? ⟨b6,3,none⟩=some (.bool false):=cellAt p6 3
         have cc4:X12.cell? ⟨b6,4,none⟩=some (.int .i64 0):=cellAt p6 4
         have cc5:X12.cell? ⟨b6,5,none⟩=some (.int .i64 0):=cellAt p6 5
         have e1:=neq_flt
         have e2:=eql_flt
         have e3:=neq_enil
         have e4:=eq_enil
         clear p12 n12 p6 NF LA LN
         go_wp2_with (first | (go_at_call 17;refine CU.mono ?_;rintro e w13 ⟨rfl,h13⟩;have h13:=h13.symm;subst h13))
         go_ret
         exact ⟨rfl,HB.out _ K12.out⟩
    | true=>
     obtain ⟨RM,hRM'⟩:∃ RM:Nat,RM=n+t.length-1:=⟨_,rfl⟩
     have eRM:Hid ((n:Int)+(t.length:Int)-1=(RM:Int)):=by show _=_;omega
     have hR1:1≤RM:=by omega
     have hR2:RM≤4000:=by omega
     have hRn:n≤RM:=by omega
     have hRM:Hid (RM=n+t.length-1):=hRM'
     clear hRM'
     have CN:=hnew_yes RM w2 hR1 hR2
     go_upto_region 12 with fail
     rw [eRM.out]
     clear eRM
     go_upto_region 15 with (first | (go_at_call 14;refine CN.mono ?_;rintro e w3 ⟨h,g,rfl,p3,k3,hh,hg⟩))
     have Q3:Hid (GH w2.heap.size sb L h g RM [] w3):=⟨SG.out.same k3,p3.mono (fun _ _ _ _=>trivial),hh,hg⟩
     have K3:Hid (Same0 w w3):=K2.out.trans' k3
     have hz2:w.heap.size≤w2.heap.size:=K2.out.size
     have KH:Hid (∀ a b,Kept (fun k=>k=h∨k=g) a b→Same0 w a→Same0 w b):=fun a b hk h1=>h1.trans hk (fun i hi e=>by omega)
     clear CN p3 k3 SG
     go_wp2_with fail
     go_loopw [17] (fun s17 wr=>∃ j:Nat,j≤n∧s17=.int .i64 (j:Int)∧Hid (GH w2.heap.size sb L h g RM (fullN j) wr)∧Hid (Same0 w wr)) (fun s17 _=>n-(intOf s17).toNat)
     case atStart=>exact ⟨0,Nat.zero_le _,rfl,Q3,K3⟩
     case round=>
      clear Q3 K3
      obtain ⟨j,hj,rfl,QJ,KJ⟩:=hrel
      by_cases hlt:j<n
      ·have CM:=QJ.out.made (j:Int) (ao:=none) (xs:=[]) (cap:=0) ⟨.inl rfl,Nat.le_refl _,fun _=>⟨rfl,rfl⟩,by simp⟩ (fullN_mk (by omega))
       have j1:(j:Int)<(n:Int):=by omega
       go_wp2_with (first | (go_at_call 21;refine CM.mono ?_;rintro e w4 ⟨rfl,Q4,k4⟩))
       refine ⟨⟨j+1,by omega,by go_num,by rw [fullN_succ];exact Q4,KH.out _ _ k4 KJ.out⟩,by simp [intOf];omega⟩
      ·obtain rfl:j=n:=by omega
       have hb0:w2.heap.size≤wr.heap.size∧h<wr.heap.size∧g<wr.heap.size:=⟨by have:=QJ.out.hp.ltH;omega,QJ.out.hp.ltH,QJ.out.hp.ltG⟩
       have PR0:Hid (PRw wr.heap.size wr (.slice none 0 0) ([]:List Int)):=World.ownsRow_nil _ _ _ _
       have hbw:w.heap.size≤wr.heap.size:=KJ.out.size
       generalize hb0e:wr.heap.size=b0 at *
       have hbb:b0≤wr.heap.size:=by omega
       clear hb0e
       go_wp2_with fail
       go_loopw [18,19] (fun v18 s19 wr=>∃ i:Nat,i≤t.length∧s19=.int .i64 (i:Int)∧PRw b0 wr v18 (t.take i)∧Hid (GH w2.heap.size sb L h g RM (fullN j) wr)∧Hid (Same0 w wr)∧b0≤wr.heap.size) (fun _ s19 _=>t.length-(intOf s19).toNat)
       case atStart=>exact ⟨0,Nat.zero_le _,rfl,PR0.out,QJ,KJ,hbb⟩
       case round=>
        clear PR0 QJ KJ hbb
        obtain ⟨i,hi,rfl,hpr,QI,KI,hbi⟩:=hrel
        obtain ⟨go,gc,rfl⟩:=hpr.shape
        have hti:(t.take i).length=i:=by simp;omega
        by_cases hlt2:i<t.length
        ·obtain ⟨xb,off,rfl,hxb,hxc⟩:=(HT.out wr KI.out).get hlt2
         have j1:(0:Int)≤(i:Int):=by omega
         have j2:(i:Int)<(t.length:Int):=by omega
         have hst:t.take (i+1)=t.take i ++ [t[i]]:=List.take_succ_eq_append_getElem hlt2
         have NX:Hid (∀ w4 gg cap4,PRw b0 w4 (.slice (some ⟨gg,0,none⟩) ((t.take i).length+1) cap4) (t.take i ++ [t[i]])→Kept (fun k=>(Value.slice go (t.take i).length gc).ownBlock=some k) wr w4→PRw b0 w4 (.slice (some ⟨gg,0,none⟩) ((t.take i).length+1) cap4) (t.take (i+1))∧GH w2.heap.size sb L h g RM (fullN j) w4∧Same0 w w4∧b0≤w4.heap.size):=fun w4 gg cap4 h4 k4=>⟨by rw [hst];exact h4,QI.out.parts hpr hb0 k4,KI.out.trans k4 (fun q hq e=>by have:=hpr.own e;omega),Nat.le_trans hbi k4.size⟩
         have bb:((t.take i).length+1) * 32≤140737488355328:=by omega
         clear hst hti
         generalize t[i]=z at *
         generalize t.take i=ti at *
         go_wp2_with (first | (at_builtin;refine wpList_pt rfl _ _ rfl b0 ti _ rfl hpr z rfl hbi bb ?_;intro gg cap4 w4 hr4 hk4;obtain ⟨m1,m2,m3,m4⟩:=NX.out w4 gg cap4 hr4 hk4))
         refine ⟨⟨i+1,by omega,by go_num,m1,m2,m3,m4⟩,by simp [intOf];omega⟩
        ·obtain rfl:i=t.length:=by omega
         rw [List.take_length] at hpr ⊢
         clear hti
         obtain ⟨m,rfl⟩:∃ m,j=m+1:=⟨j-1,by omega⟩
         obtain ⟨X1,hX1⟩:∃ X1,X1=wr.alloc (.cells #[.int .i64 (-1),.slice none 0 0] 52):=⟨_,rfl⟩
         obtain ⟨X2,hX2⟩:∃ X2,X2=X1.alloc (.cells #[.slice go t.length gc,.slice (some ⟨wr.heap.size,0,none⟩) 1 1] 50):=⟨_,rfl⟩
         have j1:Same0 wr X1:=by rw [hX1];exact (Kept.refl _ _).alloc _
         have j2:Same0 X1 X2:=by rw [hX2];exact (Kept.refl _ _).alloc _
         have z1:X1.heap.size=wr.heap.size+1:=by rw [hX1];simp
         have z2:X2.heap.size=wr.heap.size+1+1:=by rw [hX2];simp [z1]
         have q1:X1.heap[wr.heap.size]? = some (.cells #[.int .i64 (-1),.slice none 0 0] 52 (0,0)):=by rw [hX1];exact heap_alloc_new _ _
         have q2:X2.heap[wr.heap.size+1]? = some (.cells #[.slice go t.length gc,.slice (some ⟨wr.heap.size,0,none⟩) 1 1] 50 (0,0)):=by rw [hX2,← z1];exact heap_alloc_new _ _
         have RT:=rt_two (hpr.pa.same (j1.trans' j2)) (by omega) (j2.at0 q1) q2
         have QX:=(QI.out.same j1).same j2
         have FP:=fullN_len (m+1)
         have CB:=(build_any (rc:=2) QX.sg QX.hp RT none none none 0 0 0 0 0 0 0 0).mono (fun e w' hb=>hb.err (bd_full (by omega) (fullN_app _) FT.out.2.2.1 FT.out.2.2.2 (by rw [FP,hRM.out];omega)))
         have LN:Hid ((fullN (m+1)).length=m+1):=FP
         have LA:Hid (∀ i (h:i<(fullN (m+1)).length),(fullN (m+1))[i].2.2.2.1=false):=fun i h=>fullN_app h
         generalize fullN (m+1)=N at *
         have hprX:PRw b0 X2 (.slice go t.length gc) t:=(j1.trans' j2).row hpr (fun _ _ f=>f)
         have KX:Hid (Same0 w X2):=(KI.out.trans' j1).trans' j2
         have hbX:b0≤X2.heap.size:=by omega
         clear FP q1 q2 RT z2 j1 j2 hpr
         go_upto_region 24 with fail
         go_upto_region 25 with (first | (go_at_call 22;rw [← hX1,← hX2];refine CB.mono ?_;rintro e w5 ⟨v5,rfl,⟨fb,rfl,lfb,qfb⟩,k5'⟩))
         clear CB hX1 hX2 z1
         have k5:Kept (fun k=>k=h∨k=g) X2 w5:=k5'.mono (fun _ _ f=>f.elim)
         have Q5:GH w2.heap.size sb L h g RM N w5:=QX.same k5'
         have hpr5:PRw b0 w5 (.slice go t.length gc) t:=k5.row hprX (fun q e s=>by have:=hprX.own e;omega)
         have K5:Hid (Same0 w w5):=KH.out _ _ k5 KX.out
         have hb5:b0≤w5.heap.size:=Nat.le_trans hbX k5.size
         simp only [whyV] at qfb
         rw [if_neg (by decide)] at qfb
         have CF:=fault_why qfb
         go_upto_region 26 with (first | (go_at_call 23;refine CF.mono ?_;rintro e w6 ⟨rfl,k6⟩;simp only [fltV]))
         have Q6:=Q5.fault qfb (by omega) k6
         have hpr6:PRw b0 w6 (.slice go t.length gc) t:=k6.row hpr5 (fun q e s=>hpr5.noflt e qfb s)
         have K6:Hid (Same0 w w6):=K5.out.trans k6 (fun i hi e=>by omega)
         have hb6:b0≤w6.heap.size:=Nat.le_trans hb5 k6.size
         obtain ⟨X6,hX6⟩:∃ X6,X6=w6.alloc (.cells #[.int .i64 131,.int .i64 0,.int .i64 111,.bool false,.int .i64 0,.int .i64 0] 60):=⟨_,rfl⟩
         rw [← hX6]
         have j6:Same0 w6 X6:=by rw [hX6];exact (Kept.refl _ _).alloc _
         have n6:X6.heap[w6.heap.size]? = some (.cells #[.int .i64 131,.int .i64 0,.int .i64 111,.bool false,.int .i64 0,.int .i64 0] 60 (0,0)):=by rw [hX6];exact heap_alloc_new _ _
         have z6:X6.heap.size=w6.heap.size+1:=by rw [hX6];simp
         generalize hbx6:w6.heap.size=b6 at *
         have Q6X:=Q6.same j6
         have hpr6X:PRw b0 X6 (.slice go t.length gc) t:=j6.row hpr6 (fun _ _ f=>f)
         have K6X:Hid (Same0 w X6):=K6.out.trans' j6
         clear hX6 CF k6 j6 hpr6 hpr5 Q6 Q5 K5 K6 hprX QX k5 KX hbx6
         obtain ⟨X7,hX7⟩:∃ X7,X7=X6.alloc (.cells #[.int .i64 (-1),.slice none 0 0] 52):=⟨_,rfl⟩
         obtain ⟨X8,hX8⟩:∃ X8,X8=X7.alloc (.cells #[.slice go t.length gc,.slice (some ⟨X6.heap.size,0,none⟩) 1 1] 50):=⟨_,rfl⟩
         have j7:Same0 X6 X7:=by rw [hX7];exact (Kept.refl _ _).alloc _
         have j8:Same0 X7 X8:=by rw [hX8];exact (Kept.refl _ _).alloc _
         have z7:X7.heap.size=X6.heap.size+1:=by rw [hX7];simp
         have q7:X7.heap[X6.heap.size]? = some (.cells #[.int .i64 (-1),.slice none 0 0] 52 (0,0)):=by rw [hX7];exact heap_alloc_new _ _
         have q8:X8.heap[X6.heap.size+1]? = some (.cells #[.slice go t.length gc,.slice (some ⟨X6.heap.size,0,none⟩) 1 1] 50 (0,0)):=by rw [hX8,← z7];exact heap_alloc_new _ _
         have RT:=rt_two (hpr6X.pa.same (j7.trans' j8)) (by omega) (j8.at0 q7) q8
         have Q8:=(Q6X.same j7).same j8
         have hmN:m<N.length:=by have:=LN.out;omega
         have hNR:=Q8.hp.le
         have CB:=Q8.build_yes (rc:=2) RT none none none 0 0 0 0 0 0 (bd_self hmN (LA.out m hmN) hNR)
         rw [lay_self] at CB
         have K8:Hid (Same0 w X8):=(K6X.out.trans' j7).trans' j8
         have n8:=j8.at0 (j7.at0 n6)
         have hb68:b6<X8.heap.size:=lt_of_at n8
         have hz8:b0≤X8.heap.size:=by have h1:=j7.size;have h2:=j8.size;omega
         have em:((m:Int)+1)-1=(m:Int):=by omega
         have NF:Hid (¬ N.length+t.length≤RM):=by show ¬ _;rw [LN.out];have:=hRM.out;omega
         clear q7 q8 RT Q6X hpr6X K6X j7 j8 n6 z6 hNR hmN
         go_upto_region 27 with (first | (go_at_call 22;rw [← hX7,← hX8];refine CB.mono ?_;rintro e w9 ⟨a9,rfl,ea9,Q9,k9⟩))
         obtain rfl:a9=m:=by simp at ea9;omega
         clear CB hX7 hX8 z7 ea9
         have K9:Hid (Same0 w w9):=KH.out _ _ k9 K8.out
         have hgh:=Q9.gh
         have h6h:b6≠h∧b6≠g:=by
          obtain ⟨cs,hq,_⟩:=Q8.hp.blk
          refine ⟨fun e=>?_,fun e=>?_⟩
          ·rw [e,Q8.hp.box] at n8;cases n8
          ·rw [e,hq] at n8;cases n8
         have n9:=k9.at n8 (by omega)
         have CL:=load_full (cap:=pc) Q9.sg Q9.hp (HT.out w9 K9.out) hsz FT.out.1 FT.out.2.1 NF.out
         go_upto_region 28 with (first | (go_at_call 16;refine CL.mono ?_;rintro e w10 ⟨v10,rfl,⟨f10,rfl,l10,q10⟩,k10⟩))
         simp only [whyV] at q10
         rw [if_neg (by decide)] at q10
         have CF:=fault_why q10
         go_upto_region 29 with (first | (go_at_call 23;refine CF.mono ?_;rintro e w11 ⟨rfl,k11⟩;simp only [fltV]))
         have m9:=lt_of_at n9
         have s10:=k10.size
         have s11:=k11.size
         have u11:=k11.at (k10.at0 n9) (by omega)
         have hgl:h<w9.heap.size∧g<w9.heap.size:=⟨Q9.hp.ltH,Q9.hp.ltG⟩
         have Q11:=(Q9.same k10).fault q10 (by omega) k11
         have K11:Hid (Same0 w w11):=(K9.out.trans' k10).trans k11 (fun i hi e=>by have:=K9.out.size;omega)
         obtain ⟨X11,hX11⟩:∃ X11,X11=w11.alloc (.cells #[.int .i64 131,.int .i64 0,.int .i64 111,.bool false,.int .i64 0,.int .i64 0] 60):=⟨_,rfl⟩
         rw [← hX11]
         have j11:Same0 w11 X11:=by rw [hX11];exact (Kept.refl _ _).alloc _
         have n11:X11.heap[w11.heap.size]? = some (.cells #[.int .i64 131,.int .i64 0,.int .i64 111,.bool false,.int .i64 0,.int .i64 0] 60 (0,0)):=by rw [hX11];exact heap_alloc_new _ _
         obtain ⟨X12,hX12⟩:∃ X12,X12=X11.alloc (.cells #[.int .i64 131,.int .i64 0,.int .i64 111,.bool false,.int .i64 0,.int .i64 0] 60):=⟨_,rfl⟩
         have j12:Same0 X11 X12:=by rw [hX12];exact (Kept.refl _ _).alloc _
         have n12:X12.heap[X11.heap.size]? = some (.cells #[.int .i64 131,.int .i64 0,.int .i64 111,.bool false,.int .i64 0,.int .i64 0] 60 (0,0)):=by rw [hX12];exact heap_alloc_new _ _
         have p12:=j12.at0 n11
         have p6:=j12.at0 (j11.at0 u11)
         have K12:Hid (Same0 w X12):=(K11.out.trans' j11).trans' j12
         have CU:=used_any ((Q11.same j11).same j12).hp
         rw [LN.out] at CU
         clear hX11 CF CL Q8 Q9 k9 k10 k11 n8 n9 q10 u11 m9 s10 s11 hgl l10 Q11 j11 n11 K8 K9 K11 h6h hgh
         go_upto_region 30 with fail
         rw [← hX12]
         clear hX12 j12
         have ca0:X12.cell? ⟨w11.heap.size,0,none⟩=some (.int .i64 131):=cellAt p12 0
         have ca1:X12.cell? ⟨w11.heap.size,1,none⟩=some (.int .i64 0):=cellAt p12 1
         have ca2:X12.cell? ⟨w11.heap.size,2,none⟩=some (.int .i64 111):=cellAt p12 2
         have ca3:X12.cell? ⟨w11.heap.size,3,none⟩=some (.bool false):=cellAt p12 3
         have ca4:X12.cell? ⟨w11.heap.size,4,none⟩=some (.int .i64 0):=cellAt p12 4
         have ca5:X12.cell? ⟨w11.heap.size,5,none⟩=some (.int .i64 0):=cellAt p12 5
         have cb0:X12.cell? ⟨X11.heap.size,0,none⟩=some (.int .i64 131):=cellAt n12 0
         have cb1:X12.cell? ⟨X11.heap.size,1,none⟩=some (.int .i64 0):=cellAt n12 1
         have cb2:X12.cell? ⟨X11.heap.size,2,none⟩=some (.int .i64 111):=cellAt n12 2
         have cb3:X12.cell? ⟨X11.heap.size,3,none⟩=some (.bool false):=cellAt n12 3
         have cb4:X12.cell? ⟨X11.heap.size,4,none⟩=some (.int .i64 0):=cellAt n12 4
         have cb5:X12.cell? ⟨X11.heap.size,5,none⟩=some (.int .i64 0):=cellAt n12 5
         have cc0:X12.cell? ⟨b6,0,none⟩=some (.int .i64 131):=cellAt p6 0
         have cc1:X12.cell? ⟨b6,1,none⟩=some (.int .i64 0):=cellAt p6 1
         have cc2:X12.cell? ⟨b6,2,none⟩=some (.int .i64 111):=cellAt p6 2
         have cc3:X12.cell? ⟨b6,3,none⟩=some (.bool false):=cellAt p6 3
         have cc4:X12.cell? ⟨b6,4,none⟩=some (.int .i64 0):=cellAt p6 4
         have cc5:X12.cell? ⟨b6,5,none⟩=some (.int .i64 0):=cellAt p6 5
         have e1:=neq_flt
         have e2:=eql_flt
         have e3:=neq_enil
         have e4:=eq_enil
         clear p12 n12 p6 NF LA LN
         go_wp2_with (first | (go_at_call 17;refine CU.mono ?_;rintro e w13 ⟨rfl,h13⟩;have h13:=h13.symm;subst h13))
         go_ret
         exact ⟨rfl,HB.out _ K12.out⟩
   ·obtain ⟨n,ek,hk1,hk2⟩:∃ n:Nat,ah % 50+1=(n:Int)∧1≤n∧n≤50:=⟨(ah % 50+1).toNat,by omega,by omega,by omega⟩
    have EK:Hid (ah % 50+1=(n:Int)):=ek
    clear ek
    go_upto_region 9 with (first | (go_at_call 15;refine CC.mono ?_;rintro e w4 ⟨rfl,h4⟩;have h4:=h4.symm;subst h4))
    rw [EK.out]
    clear EK CC
    cases less with
    | false=>
     obtain ⟨RM,hRM'⟩:∃ RM:Nat,RM=n+t.length:=⟨_,rfl⟩
     have eRM:Hid ((n:Int)+(t.length:Int)=(RM:Int)):=by show _=_;omega
     have hR1:1≤RM:=by omega
     have hR2:RM≤4000:=by omega
     have hRn:n≤RM:=by omega
     have hRM:Hid (RM=n+t.length):=hRM'
     clear hRM'
     have CN:=hnew_yes RM w2 hR1 hR2
     go_upto_region 12 with fail
     rw [eRM.out]
     clear eRM
     go_upto_region 15 with (first | (go_at_call 14;refine CN.mono ?_;rintro e w3 ⟨h,g,rfl,p3,k3,hh,hg⟩))
     have Q3:Hid (GH w2.heap.size sb L h g RM [] w3):=⟨SG.out.same k3,p3.mono (fun _ _ _ _=>trivial),hh,hg⟩
     have K3:Hid (Same0 w w3):=K2.out.trans' k3
     have hz2:w.heap.size≤w2.heap.size:=K2.out.size
     have KH:Hid (∀ a b,Kept (fun k=>k=h∨k=g) a b→Same0 w a→Same0 w b):=fun a b hk h1=>h1.trans hk (fun i hi e=>by omega)
     clear CN p3 k3 SG
     go_wp2_with fail
     go_loopw [17] (fun s17 wr=>∃ j:Nat,j≤n∧s17=.int .i64 (j:Int)∧Hid (GH w2.heap.size sb L h g RM (fullN j) wr)∧Hid (Same0 w wr)) (fun s17 _=>n-(intOf s17).toNat)
     case atStart=>exact ⟨0,Nat.zero_le _,rfl,Q3,K3⟩
     case round=>
      clear Q3 K3
      obtain ⟨j,hj,rfl,QJ,KJ⟩:=hrel
      by_cases hlt:j<n
      ·have CM:=QJ.out.made (j:Int) (ao:=none) (xs:=[]) (cap:=0) ⟨.inl rfl,Nat.le_refl _,fun _=>⟨rfl,rfl⟩,by simp⟩ (fullN_mk (by omega))
       have j1:(j:Int)<(n:Int):=by omega
       go_wp2_with (first | (go_at_call 21;refine CM.mono ?_;rintro e w4 ⟨rfl,Q4,k4⟩))
       refine ⟨⟨j+1,by omega,by go_num,by rw [fullN_succ];exact Q4,KH.out _ _ k4 KJ.out⟩,by simp [intOf];omega⟩
      ·obtain rfl:j=n:=by omega
       have hb0:w2.heap.size≤wr.heap.size∧h<wr.heap.size∧g<wr.heap.size:=⟨by have:=QJ.out.hp.ltH;omega,QJ.out.hp.ltH,QJ.out.hp.ltG⟩
       have PR0:Hid (PRw wr.heap.size wr (.slice none 0 0) ([]:List Int)):=World.ownsRow_nil _ _ _ _
       have hbw:w.heap.size≤wr.heap.size:=KJ.out.size
       generalize hb0e:wr.heap.size=b0 at *
       have hbb:b0≤wr.heap.size:=by omega
       clear hb0e
       go_wp2_with fail
       go_loopw [18,19] (fun v18 s19 wr=>∃ i:Nat,i≤t.length∧s19=.int .i64 (i:Int)∧PRw b0 wr v18 (t.take i)∧Hid (GH w2.heap.size sb L h g RM (fullN j) wr)∧Hid (Same0 w wr)∧b0≤wr.heap.size) (fun _ s19 _=>t.length-(intOf s19).toNat)
       case atStart=>exact ⟨0,Nat.zero_le _,rfl,PR0.out,QJ,KJ,hbb⟩
       case round=>
        clear PR0 QJ KJ hbb
        obtain ⟨i,hi,rfl,hpr,QI,KI,hbi⟩:=hrel
        obtain ⟨go,gc,rfl⟩:=hpr.shape
        have hti:(t.take i).length=i:=by simp;omega
        by_cases hlt2:i<t.length
        ·obtain ⟨xb,off,rfl,hxb,hxc⟩:=(HT.out wr KI.out).get hlt2
         have j1:(0:Int)≤(i:Int):=by omega
         have j2:(i:Int)<(t.length:Int):=by omega
         have hst:t.take (i+1)=t.take i ++ [t[i]]:=List.take_succ_eq_append_getElem hlt2
         have NX:Hid (∀ w4 gg cap4,PRw b0 w4 (.slice (some ⟨gg,0,none⟩) ((t.take i).length+1) cap4) (t.take i ++ [t[i]])→Kept (fun k=>(Value.slice go (t.take i).length gc).ownBlock=some k) wr w4→PRw b0 w4 (.slice (some ⟨gg,0,none⟩) ((t.take i).length+1) cap4) (t.take (i+1))∧GH w2.heap.size sb L h g RM (fullN j) w4∧Same0 w w4∧b0≤w4.heap.size):=fun w4 gg cap4 h4 k4=>⟨by rw [hst];exact h4,QI.out.parts hpr hb0 k4,KI.out.trans k4 (fun q hq e=>by have:=hpr.own e;omega),Nat.le_trans hbi k4.size⟩
         have bb:((t.take i).length+1) * 32≤140737488355328:=by omega
         clear hst hti
         generalize t[i]=z at *
         generalize t.take i=ti at *
         go_wp2_with (first | (at_builtin;refine wpList_pt rfl _ _ rfl b0 ti _ rfl hpr z rfl hbi bb ?_;intro gg cap4 w4 hr4 hk4;obtain ⟨m1,m2,m3,m4⟩:=NX.out w4 gg cap4 hr4 hk4))
         refine ⟨⟨i+1,by omega,by go_num,m1,m2,m3,m4⟩,by simp [intOf];omega⟩
        ·obtain rfl:i=t.length:=by omega
         rw [List.take_length] at hpr ⊢
         clear hti
         obtain ⟨m,rfl⟩:∃ m,j=m+1:=⟨j-1,by omega⟩
         obtain ⟨X1,hX1⟩:∃ X1,X1=wr.alloc (.cells #[.int .i64 (-1),.slice none 0 0] 52):=⟨_,rfl⟩
         obtain ⟨X2,hX2⟩:∃ X2,X2=X1.alloc (.cells #[.slice go t.length gc,.slice (some ⟨wr.heap.size,0,none⟩) 1 1] 50):=⟨_,rfl⟩
         have j1:Same0 wr X1:=by rw [hX1];exact (Kept.refl _ _).alloc _
         have j2:Same0 X1 X2:=by rw [hX2];exact (Kept.refl _ _).alloc _
         have z1:X1.heap.size=wr.heap.size+1:=by rw [hX1];simp
         have z2:X2.heap.size=wr.heap.size+1+1:=by rw [hX2];simp [z1]
         have q1:X1.heap[wr.heap.size]? = some (.cells #[.int .i64 (-1),.slice none 0 0] 52 (0,0)):=by rw [hX1];exact heap_alloc_new _ _
         have q2:X2.heap[wr.heap.size+1]? = some (.cells #[.slice go t.length gc,.slice (some ⟨wr.heap.size,0,none⟩) 1 1] 50 (0,0)):=by rw [hX2,← z1];exact heap_alloc_new _ _
         have RT:=rt_two (hpr.pa.same (j1.trans' j2)) (by omega) (j2.at0 q1) q2
         have QX:=(QI.out.same j1).same j2
         have FP:=fullN_len (m+1)
         have CB:=QX.build_yes (rc:=2) RT none none none 0 0 0 0 0 0 (bd_parts (by omega) (fullN_app _) FT.out.2.2.1 FT.out.2.2.2 (by rw [FP,hRM.out];exact Nat.le_refl _))
         have LN:Hid ((layF (fullN (m+1)) (t.map (tgT L))).1.length=RM):=by show _=_;rw [lay_size,new_term,FP,hRM.out]
         have LA:Hid (∀ i (h:i<(layF (fullN (m+1)) (t.map (tgT L))).1.length),(layF (fullN (m+1)) (t.map (tgT L))).1[i].2.2.2.1=false):=fun i h=>by
          obtain ⟨M,e1,_,e3⟩:=lay_nodes (fullN (m+1)) (t.map (tgT L))
          have hmem:=List.getElem_mem h
          generalize (layF (fullN (m+1)) (t.map (tgT L))).1[i]=y at *
          rw [e1] at hmem
          rcases List.mem_append.1 hmem with q | q
          ·obtain ⟨x,_,rfl⟩:=List.mem_map.1 q;rfl
          ·exact (e3 y q).2.1
         generalize (layF (fullN (m+1)) (t.map (tgT L))).1=N at *
         have hprX:PRw b0 X2 (.slice go t.length gc) t:=(j1.trans' j2).row hpr (fun _ _ f=>f)
         have KX:Hid (Same0 w X2):=(KI.out.trans' j1).trans' j2
         have hbX:b0≤X2.heap.size:=by omega
         clear FP q1 q2 RT z2 j1 j2 hpr
         go_upto_region 24 with fail
         go_upto_region 25 with (first | (go_at_call 22;rw [← hX1,← hX2];refine CB.mono ?_;rintro e w5 ⟨a5,rfl, -,Q5,k5⟩))
         clear CB hX1 hX2 z1
         have hpr5:PRw b0 w5 (.slice go t.length gc) t:=k5.row hprX (fun q e s=>by have:=hprX.own e;omega)
         have K5:Hid (Same0 w w5):=KH.out _ _ k5 KX.out
         have hb5:b0≤w5.heap.size:=Nat.le_trans hbX k5.size
         have CF:=fault_none w5
         go_upto_region 26 with (first | (go_at_call 23;refine CF.mono ?_;rintro e w6 ⟨rfl,k6⟩;simp only [fltV]))
         have Q6:=Q5.same k6
         have hpr6:PRw b0 w6 (.slice go t.length gc) t:=k6.row hpr5 (fun _ _ f=>f)
         have K6:Hid (Same0 w w6):=K5.out.trans' k6
         have hb6:b0≤w6.heap.size:=Nat.le_trans hb5 k6.size
         obtain ⟨X6,hX6⟩:∃ X6,X6=w6.alloc (.cells #[.int .i64 0,.int .i64 0,.int .i64 0,.bool false,.int .i64 0,.int .i64 0] 60):=⟨_,rfl⟩
         rw [← hX6]
         have j6:Same0 w6 X6:=by rw [hX6];exact (Kept.refl _ _).alloc _
         have n6:X6.heap[w6.heap.size]? = some (.cells #[.int .i64 0,.int .i64 0,.int .i64 0,.bool false,.int .i64 0,.int .i64 0] 60 (0,0)):=by rw [hX6];exact heap_alloc_new _ _
         have z6:X6.heap.size=w6.heap.size+1:=by rw [hX6];simp
         generalize hbx6:w6.heap.size=b6 at *
         have Q6X:=Q6.same j6
         have hpr6X:PRw b0 X6 (.slice go t.length gc) t:=j6.row hpr6 (fun _ _ f=>f)
         have K6X:Hid (Same0 w X6):=K6.out.trans' j6
         clear hX6 CF k6 j6 hpr6 hpr5 Q6 Q5 K5 K6 hprX QX k5 KX hbx6
         obtain ⟨X7,hX7⟩:∃ X7,X7=X6.alloc (.cells #[.int .i64 (-1),.slice none 0 0] 52):=⟨_,rfl⟩
         obtain ⟨X8,hX8⟩:∃ X8,X8=X7.alloc (.cells #[.slice go t.length gc,.slice (some ⟨X6.heap.size,0,none⟩) 1 1] 50):=⟨_,rfl⟩
         have j7:Same0 X6 X7:=by rw [hX7];exact (Kept.refl _ _).alloc _
         have j8:Same0 X7 X8:=by rw [hX8];exact (Kept.refl _ _).alloc _
         have z7:X7.heap.size=X6.heap.size+1:=by rw [hX7];simp
         have q7:X7.heap[X6.heap.size]? = some (.cells #[.int .i64 (-1),.slice none 0 0] 52 (0,0)):=by rw [hX7];exact heap_alloc_new _ _
         have q8:X8.heap[X6.heap.size+1]? = some (.cells #[.slice go t.length gc,.slice (some ⟨X6.heap.size,0,none⟩) 1 1] 50 (0,0)):=by rw [hX8,← z7];exact heap_alloc_new _ _
         have RT:=rt_two (hpr6X.pa.same (j7.trans' j8)) (by omega) (j8.at0 q7) q8
         have Q8:=(Q6X.same j7).same j8
         have hmN:m<N.length:=by have:=LN.out;omega
         have hNR:=Q8.hp.le
         have CB:=Q8.build_yes (rc:=2) RT none none none 0 0 0 0 0 0 (bd_self hmN (LA.out m hmN) hNR)
         rw [lay_self] at CB
         have K8:Hid (Same0 w X8):=(K6X.out.trans' j7).trans' j8
         have n8:=j8.at0 (j7.at0 n6)
         have hb68:b6<X8.heap.size:=lt_of_at n8
         have hz8:b0≤X8.heap.size:=by have h1:=j7.size;have h2:=j8.size;omega
         have em:((m:Int)+1)-1=(m:Int):=by omega
         have NF:Hid (¬ N.length+t.length≤RM):=by show ¬ _;rw [LN.out];omega
         clear q7 q8 RT Q6X hpr6X K6X j7 j8 n6 z6 hNR hmN
         go_upto_region 27 with (first | (go_at_call 22;rw [← hX7,← hX8];refine CB.mono ?_;rintro e w9 ⟨a9,rfl,ea9,Q9,k9⟩))
         obtain rfl:a9=m:=by simp at ea9;omega
         clear CB hX7 hX8 z7 ea9
         have K9:Hid (Same0 w w9):=KH.out _ _ k9 K8.out
         have hgh:=Q9.gh
         have h6h:b6≠h∧b6≠g:=by
          obtain ⟨cs,hq,_⟩:=Q8.hp.blk
          refine ⟨fun e=>?_,fun e=>?_⟩
          ·rw [e,Q8.hp.box] at n8;cases n8
          ·rw [e,hq] at n8;cases n8
         have n9:=k9.at n8 (by omega)
         have CL:=load_full (cap:=pc) Q9.sg Q9.hp (HT.out w9 K9.out) hsz FT.out.1 FT.out.2.1 NF.out
         go_upto_region 28 with (first | (go_at_call 16;refine CL.mono ?_;rintro e w10 ⟨v10,rfl,⟨f10,rfl,l10,q10⟩,k10⟩))
         simp only [whyV] at q10
         rw [if_neg (by decide)] at q10
         have CF:=fault_why q10
         go_upto_region 29 with (first | (go_at_call 23;refine CF.mono ?_;rintro e w11 ⟨rfl,k11⟩;simp only [fltV]))
         have m9:=lt_of_at n9
         have s10:=k10.size
         have s11:=k11.size
         have u11:=k11.at (k10.at0 n9) (by omega)
         have hgl:h<w9.heap.size∧g<w9.heap.size:=⟨Q9.hp.ltH,Q9.hp.ltG⟩
         have Q11:=(Q9.same k10).fault q10 (by omega) k11
         have K11:Hid (Same0 w w11):=(K9.out.trans' k10).trans k11 (fun i hi e=>by have:=K9.out.size;omega)
         obtain ⟨X11,hX11⟩:∃ X11,X11=w11.alloc (.cells #[.int .i64 131,.int .i64 0,.int .i64 111,.bool false,.int .i64 0,.int .i64 0] 60):=⟨_,rfl⟩
         rw [← hX11]
         have j11:Same0 w11 X11:=by rw [hX11];exact (Kept.refl _ _).alloc _
         have n11:X11.heap[w11.heap.size]? = some (.cells #[.int .i64 131,.int .i64 0,.int .i64 111,.bool false,.int .i64 0,.int .i64 0] 60 (0,0)):=by rw [hX11];exact heap_alloc_new _ _
         obtain ⟨X12,hX12⟩:∃ X12,X12=X11.alloc (.cells #[.int .i64 131,.int .i64 0,.int .i64 111,.bool false,.int .i64 0,.int .i64 0] 60):=⟨_,rfl⟩
         have j12:Same0 X11 X12:=by rw [hX12];exact (Kept.refl _ _).alloc _
         have n12:X12.heap[X11.heap.size]? = some (.cells #[.int .i64 131,.int .i64 0,.int .i64 111,.bool false,.int .i64 0,.int .i64 0] 60 (0,0)):=by rw [hX12];exact heap_alloc_new _ _
         have p12:=j12.at0 n11
         have p6:=j12.at0 (j11.at0 u11)
         have K12:Hid (Same0 w X12):=(K11.out.trans' j11).trans' j12
         have CU:=used_any ((Q11.same j11).same j12).hp
         rw [LN.out] at CU
         clear hX11 CF CL Q8 Q9 k9 k10 k11 n8 n9 q10 u11 m9 s10 s11 hgl l10 Q11 j11 n11 K8 K9 K11 h6h hgh
         go_upto_region 30 with fail
         rw [← hX12]
         clear hX12 j12
         have ca0:X12.cell? ⟨w11.heap.size,0,none⟩=some (.int .i64 131):=cellAt p12 0
         have ca1:X12.cell? ⟨w11.heap.size,1,none⟩=some (.int .i64 0):=cellAt p12 1
         have ca2:X12.cell? ⟨w11.heap.size,2,none⟩=some (.int .i64 111):=cellAt p12 2
         have ca3:X12.cell? ⟨w11.heap.size,3,none⟩=some (.bool false):=cellAt p12 3
         have ca4:X12.cell? ⟨w11.heap.size,4,none⟩=some (.int .i64 0):=cellAt p12 4
         have ca5:X12.cell? ⟨w11.heap.size,5,none⟩=some (.int .i64 0):=cellAt p12 5
         have cb0:X12.cell? ⟨X11.heap.size,0,none⟩=some (.int .i64 131):=cellAt n12 0
         have cb1:X12.cell? ⟨X11.heap.size,1,none⟩=some (.int .i64 0):=cellAt n12 1
         have cb2:X12.cell? ⟨X11.heap.size,2,none⟩=some (.int .i64 111):=cellAt n12 2
         have cb3:X12.cell? ⟨X11.heap.size,3,none⟩=some (.bool false):=cellAt n12 3
         have cb4:X12.cell? ⟨X11.heap.size,4,none⟩=some (.int .i64 0):=cellAt n12 4
         have cb5:X12.cell? ⟨X11.heap.size,5,none⟩=some (.int .i64 0):=cellAt n12 5
         have cc0:X12.cell? ⟨b6,0,none⟩=some (.int .i64 0):=cellAt p6 0
         have cc1:X12.cell? ⟨b6,1,none⟩=some (.int .i64 0):=cellAt p6 1
         have cc2:X12.cell? ⟨b6,2,none⟩=some (.int .i64 0):=cellAt p6 2
         have cc3:X12.cell? ⟨b6,3,none⟩=some (.bool false):=cellAt p6 3
         have cc4:X12.cell? ⟨b6,4,none⟩=some (.int .i64 0):=cellAt p6 4
         have cc5:X12.cell? ⟨b6,5,none⟩=some (.int .i64 0):=cellAt p6 5
         have e1:=neq_flt
         have e2:=eql_flt
         have e3:=neq_enil
         have e4:=eq_enil
         clear p12 n12 p6 NF LA LN
         go_wp2_with (first | (go_at_call 17;refine CU.mono ?_;rintro e w13 ⟨rfl,h13⟩;have h13:=h13.symm;subst h13))
         go_ret
         exact ⟨rfl,HB.out _ K12.out⟩
    | true=>
     obtain ⟨RM,hRM'⟩:∃ RM:Nat,RM=n+t.length-1:=⟨_,rfl⟩
     have eRM:Hid ((n:Int)+(t.length:Int)-1=(RM:Int)):=by show _=_;omega
     have hR1:1≤RM:=by omega
     have hR2:RM≤4000:=by omega
     have hRn:n≤RM:=by omega
     have hRM:Hid (RM=n+t.length-1):=hRM'
     clear hRM'
     have CN:=hnew_yes RM w2 hR1 hR2
     go_upto_region 12 with fail
     rw [eRM.out]
     clear eRM
     go_upto_region 15 with (first | (go_at_call 14;refine CN.mono ?_;rintro e w3 ⟨h,g,rfl,p3,k3,hh,hg⟩))
     have Q3:Hid (GH w2.heap.size sb L h g RM [] w3):=⟨SG.out.same k3,p3.mono (fun _ _ _ _=>trivial),hh,hg⟩
     have K3:Hid (Same0 w w3):=K2.out.trans' k3
     have hz2:w.heap.size≤w2.heap.size:=K2.out.size
     have KH:Hid (∀ a b,Kept (fun k=>k=h∨k=g) a b→Same0 w a→Same0 w b):=fun a b hk h1=>h1.trans hk (fun i hi e=>by omega)
     clear CN p3 k3 SG
     go_wp2_with fail
     go_loopw [17] (fun s17 wr=>∃ j:Nat,j≤n∧s17=.int .i64 (j:Int)∧Hid (GH w2.heap.size sb L h g RM (fullN j) wr)∧Hid (Same0 w wr)) (fun s17 _=>n-(intOf s17).toNat)
     case atStart=>exact ⟨0,Nat.zero_le _,rfl,Q3,K3⟩
     case round=>
      clear Q3 K3
      obtain ⟨j,hj,rfl,QJ,KJ⟩:=hrel
      by_cases hlt:j<n
      ·have CM:=QJ.out.made (j:Int) (ao:=none) (xs:=[]) (cap:=0) ⟨.inl rfl,Nat.le_refl _,fun _=>⟨rfl,rfl⟩,by simp⟩ (fullN_mk (by omega))
       have j1:(j:Int)<(n:Int):=by omega
       go_wp2_with (first | (go_at_call 21;refine CM.mono ?_;rintro e w4 ⟨rfl,Q4,k4⟩))
       refine ⟨⟨j+1,by omega,by go_num,by rw [fullN_succ];exact Q4,KH.out _ _ k4 KJ.out⟩,by simp [intOf];omega⟩
      ·obtain rfl:j=n:=by omega
       have hb0:w2.heap.size≤wr.heap.size∧h<wr.heap.size∧g<wr.heap.size:=⟨by have:=QJ.out.hp.ltH;omega,QJ.out.hp.ltH,QJ.out.hp.ltG⟩
       have PR0:Hid (PRw wr.heap.size wr (.slice none 0 0) ([]:List Int)):=World.ownsRow_nil _ _ _ _
       have hbw:w.heap.size≤wr.heap.size:=KJ.out.size
       generalize hb0e:wr.heap.size=b0 at *
       have hbb:b0≤wr.heap.size:=by omega
       clear hb0e
       go_wp2_with fail
       go_loopw [18,19] (fun v18 s19 wr=>∃ i:Nat,i≤t.length∧s19=.int .i64 (i:Int)∧PRw b0 wr v18 (t.take i)∧Hid (GH w2.heap.size sb L h g RM (fullN j) wr)∧Hid (Same0 w wr)∧b0≤wr.heap.size) (fun _ s19 _=>t.length-(intOf s19).toNat)
       case atStart=>exact ⟨0,Nat.zero_le _,rfl,PR0.out,QJ,KJ,hbb⟩
       case round=>
        clear PR0 QJ KJ hbb
        obtain ⟨i,hi,rfl,hpr,QI,KI,hbi⟩:=hrel
        obtain ⟨go,gc,rfl⟩:=hpr.shape
        have hti:(t.take i).length=i:=by simp;omega
        by_cases hlt2:i<t.length
        ·obtain ⟨xb,off,rfl,hxb,hxc⟩:=(HT.out wr KI.out).get hlt2
         have j1:(0:Int)≤(i:Int):=by omega
         have j2:(i:Int)<(t.length:Int):=by omega
         have hst:t.take (i+1)=t.take i ++ [t[i]]:=List.take_succ_eq_append_getElem hlt2
         have NX:Hid (∀ w4 gg cap4,PRw b0 w4 (.slice (some ⟨gg,0,none⟩) ((t.take i).length+1) cap4) (t.take i ++ [t[i]])→Kept (fun k=>(Value.slice go (t.take i).length gc).ownBlock=some k) wr w4→PRw b0 w4 (.slice (some ⟨gg,0,none⟩) ((t.take i).length+1) cap4) (t.take (i+1))∧GH w2.heap.size sb L h g RM (fullN j) w4∧Same0 w w4∧b0≤w4.heap.size):=fun w4 gg cap4 h4 k4=>⟨by rw [hst];exact h4,QI.out.parts hpr hb0 k4,KI.out.trans k4 (fun q hq e=>by have:=hpr.own e;omega),Nat.le_trans hbi k4.size⟩
         have bb:((t.take i).length+1) * 32≤140737488355328:=by omega
         clear hst hti
         generalize t[i]=z at *
         generalize t.take i=ti at *
         go_wp2_with (first | (at_builtin;refine wpList_pt rfl _ _ rfl b0 ti _ rfl hpr z rfl hbi bb ?_;intro gg cap4 w4 hr4 hk4;obtain ⟨m1,m2,m3,m4⟩:=NX.out w4 gg cap4 hr4 hk4))
         refine ⟨⟨i+1,by omega,by go_num,m1,m2,m3,m4⟩,by simp [intOf];omega⟩
        ·obtain rfl:i=t.length:=by omega
         rw [List.take_length] at hpr ⊢
         clear hti
         obtain ⟨m,rfl⟩:∃ m,j=m+1:=⟨j-1,by omega⟩
         obtain ⟨X1,hX1⟩:∃ X1,X1=wr.alloc (.cells #[.int .i64 (-1),.slice none 0 0] 52):=⟨_,rfl⟩
         obtain ⟨X2,hX2⟩:∃ X2,X2=X1.alloc (.cells #[.slice go t.length gc,.slice (some ⟨wr.heap.size,0,none⟩) 1 1] 50):=⟨_,rfl⟩
         have j1:Same0 wr X1:=by rw [hX1];exact (Kept.refl _ _).alloc _
         have j2:Same0 X1 X2:=by rw [hX2];exact (Kept.refl _ _).alloc _
         have z1:X1.heap.size=wr.heap.size+1:=by rw [hX1];simp
         have z2:X2.heap.size=wr.heap.size+1+1:=by rw [hX2];simp [z1]
         have q1:X1.heap[wr.heap.size]? = some (.cells #[.int .i64 (-1),.slice none 0 0] 52 (0,0)):=by rw [hX1];exact heap_alloc_new _ _
         have q2:X2.heap[wr.heap.size+1]? = some (.cells #[.slice go t.length gc,.slice (some ⟨wr.heap.size,0,none⟩) 1 1] 50 (0,0)):=by rw [hX2,← z1];exact heap_alloc_new _ _
         have RT:=rt_two (hpr.pa.same (j1.trans' j2)) (by omega) (j2.at0 q1) q2
         have QX:=(QI.out.same j1).same j2
         have FP:=fullN_len (m+1)
         have CB:=(build_any (rc:=2) QX.sg QX.hp RT none none none 0 0 0 0 0 0 0 0).mono (fun e w' hb=>hb.err (bd_full (by omega) (fullN_app _) FT.out.2.2.1 FT.out.2.2.2 (by rw [FP,hRM.out];omega)))
         have LN:Hid ((fullN (m+1)).length=m+1):=FP
         have LA:Hid (∀ i (h:i<(fullN (m+1)).length),(fullN (m+1))[i].2.2.2.1=false):=fun i h=>fullN_app h
         generalize fullN (m+1)=N at *
         have hprX:PRw b0 X2 (.slice go t.length gc) t:=(j1.trans' j2).row hpr (fun _ _ f=>f)
         have KX:Hid (Same0 w X2):=(KI.out.trans' j1).trans' j2
         have hbX:b0≤X2.heap.size:=by omega
         clear FP q1 q2 RT z2 j1 j2 hpr
         go_upto_region 24 with fail
         go_upto_region 25 with (first | (go_at_call 22;rw [← hX1,← hX2];refine CB.mono ?_;rintro e w5 ⟨v5,rfl,⟨fb,rfl,lfb,qfb⟩,k5'⟩))
         clear CB hX1 hX2 z1
         have k5:Kept (fun k=>k=h∨k=g) X2 w5:=k5'.mono (fun _ _ f=>f.elim)
         have Q5:GH w2.heap.size sb L h g RM N w5:=QX.same k5'
         have hpr5:PRw b0 w5 (.slice go t.length gc) t:=k5.row hprX (fun q e s=>by have:=hprX.own e;omega)
         have K5:Hid (Same0 w w5):=KH.out _ _ k5 KX.out
         have hb5:b0≤w5.heap.size:=Nat.le_trans hbX k5.size
         simp only [whyV] at qfb
         rw [if_neg (by decide)] at qfb
         have CF:=fault_why qfb
         go_upto_region 26 with (first | (go_at_call 23;refine CF.mono ?_;rintro e w6 ⟨rfl,k6⟩;simp only [fltV]))
         have Q6:=Q5.fault qfb (by omega) k6
         have hpr6:PRw b0 w6 (.slice go t.length gc) t:=k6.row hpr5 (fun q e s=>hpr5.noflt e qfb s)
         have K6:Hid (Same0 w w6):=K5.out.trans k6 (fun i hi e=>by omega)
         have hb6:b0≤w6.heap.size:=Nat.le_trans hb5 k6.size
         obtain ⟨X6,hX6⟩:∃ X6,X6=w6.alloc (.cells #[.int .i64 131,.int .i64 0,.int .i64 111,.bool false,.int .i64 0,.int .i64 0] 60):=⟨_,rfl⟩
         rw [← hX6]
         have j6:Same0 w6 X6:=by rw [hX6];exact (Kept.refl _ _).alloc _
         have n6:X6.heap[w6.heap.size]? = some (.cells #[.int .i64 131,.int .i64 0,.int .i64 111,.bool false,.int .i64 0,.int .i64 0] 60 (0,0)):=by rw [hX6];exact heap_alloc_new _ _
         have z6:X6.heap.size=w6.heap.size+1:=by rw [hX6];simp
         generalize hbx6:w6.heap.size=b6 at *
         have Q6X:=Q6.same j6
         have hpr6X:PRw b0 X6 (.slice go t.length gc) t:=j6.row hpr6 (fun _ _ f=>f)
         have K6X:Hid (Same0 w X6):=K6.out.trans' j6
         clear hX6 CF k6 j6 hpr6 hpr5 Q6 Q5 K5 K6 hprX QX k5 KX hbx6
         obtain ⟨X7,hX7⟩:∃ X7,X7=X6.alloc (.cells #[.int .i64 (-1),.slice none 0 0] 52):=⟨_,rfl⟩
         obtain ⟨X8,hX8⟩:∃ X8,X8=X7.alloc (.cells #[.slice go t.length gc,.slice (some ⟨X6.heap.size,0,none⟩) 1 1] 50):=⟨_,rfl⟩
         have j7:Same0 X6 X7:=by rw [hX7];exact (Kept.refl _ _).alloc _
         have j8:Same0 X7 X8:=by rw [hX8];exact (Kept.refl _ _).alloc _
         have z7:X7.heap.size=X6.heap.size+1:=by rw [hX7];simp
         have q7:X7.heap[X6.heap.size]? = some (.cells #[.int .i64 (-1),.slice none 0 0] 52 (0,0)):=by rw [hX7];exact heap_alloc_new _ _
         have q8:X8.heap[X6.heap.size+1]? = some (.cells #[.slice go t.length gc,.slice (some ⟨X6.heap.size,0,none⟩) 1 1] 50 (0,0)):=by rw [hX8,← z7];exact heap_alloc_new _ _
         have RT:=rt_two (hpr6X.pa.same (j7.trans' j8)) (by omega) (j8.at0 q7) q8
         have Q8:=(Q6X.same j7).same j8
         have hmN:m<N.length:=by have:=LN.out;omega
         have hNR:=Q8.hp.le
         have CB:=Q8.build_yes (rc:=2) RT none none none 0 0 0 0 0 0 (bd_self hmN (LA.out m hmN) hNR)
         rw [lay_self] at CB
         have K8:Hid (Same0 w X8):=(K6X.out.trans' j7).trans' j8
         have n8:=j8.at0 (j7.at0 n6)
         have hb68:b6<X8.heap.size:=lt_of_at n8
         have hz8:b0≤X8.heap.size:=by have h1:=j7.size;have h2:=j8.size;omega
         have em:((m:Int)+1)-1=(m:Int):=by omega
         have NF:Hid (¬ N.length+t.length≤RM):=by show ¬ _;rw [LN.out];have:=hRM.out;omega
         clear q7 q8 RT Q6X hpr6X K6X j7 j8 n6 z6 hNR hmN
         go_upto_region 27 with (first | (go_at_call 22;rw [← hX7,← hX8];refine CB.mono ?_;rintro e w9 ⟨a9,rfl,ea9,Q9,k9⟩))
         obtain rfl:a9=m:=by simp at ea9;omega
         clear CB hX7 hX8 z7 ea9
         have K9:Hid (Same0 w w9):=KH.out _ _ k9 K8.out
         have hgh:=Q9.gh
         have h6h:b6≠h∧b6≠g:=by
          obtain ⟨cs,hq,_⟩:=Q8.hp.blk
          refine ⟨fun e=>?_,fun e=>?_⟩
          ·rw [e,Q8.hp.box] at n8;cases n8
          ·rw [e,hq] at n8;cases n8
         have n9:=k9.at n8 (by omega)
         have CL:=load_full (cap:=pc) Q9.sg Q9.hp (HT.out w9 K9.out) hsz FT.out.1 FT.out.2.1 NF.out
         go_upto_region 28 with (first | (go_at_call 16;refine CL.mono ?_;rintro e w10 ⟨v10,rfl,⟨f10,rfl,l10,q10⟩,k10⟩))
         simp only [whyV] at q10
         rw [if_neg (by decide)] at q10
         have CF:=fault_why q10
         go_upto_region 29 with (first | (go_at_call 23;refine CF.mono ?_;rintro e w11 ⟨rfl,k11⟩;simp only [fltV]))
         have m9:=lt_of_at n9
         have s10:=k10.size
         have s11:=k11.size
         have u11:=k11.at (k10.at0 n9) (by omega)
         have hgl:h<w9.heap.size∧g<w9.heap.size:=⟨Q9.hp.ltH,Q9.hp.ltG⟩
         have Q11:=(Q9.same k10).fault q10 (by omega) k11
         have K11:Hid (Same0 w w11):=(K9.out.trans' k10).trans k11 (fun i hi e=>by have:=K9.out.size;omega)
         obtain ⟨X11,hX11⟩:∃ X11,X11=w11.alloc (.cells #[.int .i64 131,.int .i64 0,.int .i64 111,.bool false,.int .i64 0,.int .i64 0] 60):=⟨_,rfl⟩
         rw [← hX11]
         have j11:Same0 w11 X11:=by rw [hX11];exact (Kept.refl _ _).alloc _
         have n11:X11.heap[w11.heap.size]? = some (.cells #[.int .i64 131,.int .i64 0,.int .i64 111,.bool false,.int .i64 0,.int .i64 0] 60 (0,0)):=by rw [hX11];exact heap_alloc_new _ _
         obtain ⟨X12,hX12⟩:∃ X12,X12=X11.alloc (.cells #[.int .i64 131,.int .i64 0,.int .i64 111,.bool false,.int .i64 0,.int .i64 0] 60):=⟨_,rfl⟩
         have j12:Same0 X11 X12:=by rw [hX12];exact (Kept.refl _ _).alloc _
         have n12:X12.heap[X11.heap.size]? = some (.cells #[.int .i64 131,.int .i64 0,.int .i64 111,.bool false,.int .i64 0,.int .i64 0] 60 (0,0)):=by rw [hX12];exact heap_alloc_new _ _
         have p12:=j12.at0 n11
         have p6:=j12.at0 (j11.at0 u11)
         have K12:Hid (Same0 w X12):=(K11.out.trans' j11).trans' j12
         have CU:=used_any ((Q11.same j11).same j12).hp
         rw [LN.out] at CU
         clear hX11 CF CL Q8 Q9 k9 k10 k11 n8 n9 q10 u11 m9 s10 s11 hgl l10 Q11 j11 n11 K8 K9 K11 h6h hgh
         go_upto_region 30 with fail
         rw [← hX12]
         clear hX12 j12
         have ca0:X12.cell? ⟨w11.heap.size,0,none⟩=some (.int .i64 131):=cellAt p12 0
         have ca1:X12.cell? ⟨w11.heap.size,1,none⟩=some (.int .i64 0):=cellAt p12 1
         have ca2:X12.cell? ⟨w11.heap.size,2,none⟩=some (.int .i64 111):=cellAt p12 2
         have ca3:X12.cell? ⟨w11.heap.size,3,none⟩=some (.bool false):=cellAt p12 3
         have ca4:X12.cell? ⟨w11.heap.size,4,none⟩=some (.int .i64 0):=cellAt p12 4
         have ca5:X12.cell? ⟨w11.heap.size,5,none⟩=some (.int .i64 0):=cellAt p12 5
         have cb0:X12.cell? ⟨X11.heap.size,0,none⟩=some (.int .i64 131):=cellAt n12 0
         have cb1:X12.cell? ⟨X11.heap.size,1,none⟩=some (.int .i64 0):=cellAt n12 1
         have cb2:X12.cell? ⟨X11.heap.size,2,none⟩=some (.int .i64 111):=cellAt n12 2
         have cb3:X12.cell? ⟨X11.heap.size,3,none⟩=some (.bool false):=cellAt n12 3
         have cb4:X12.cell? ⟨X11.heap.size,4,none⟩=some (.int .i64 0):=cellAt n12 4
         have cb5:X12.cell? ⟨X11.heap.size,5,none⟩=some (.int .i64 0):=cellAt n12 5
         have cc0:X12.cell? ⟨b6,0,none⟩=some (.int .i64 131):=cellAt p6 0
         have cc1:X12.cell? ⟨b6,1,none⟩=some (.int .i64 0):=cellAt p6 1
         have cc2:X12.cell? ⟨b6,2,none⟩=some (.int .i64 111):=cellAt p6 2
         have cc3:X12.cell? ⟨b6,3,none⟩=some (.bool false):=cellAt p6 3
         have cc4:X12.cell? ⟨b6,4,none⟩=some (.int .i64 0):=cellAt p6 4
         have cc5:X12.cell? ⟨b6,5,none⟩=some (.int .i64 0):=cellAt p6 5
         have e1:=neq_flt
         have e2:=eql_flt
         have e3:=neq_enil
         have e4:=eq_enil
         clear p12 n12 p6 NF LA LN
         go_wp2_with (first | (go_at_call 17;refine CU.mono ?_;rintro e w13 ⟨rfl,h13⟩;have h13:=h13.symm;subst h13))
         go_ret
         exact ⟨rfl,HB.out _ K12.out⟩
end Go.Proofs.Ytpimndkhoalaeaa
