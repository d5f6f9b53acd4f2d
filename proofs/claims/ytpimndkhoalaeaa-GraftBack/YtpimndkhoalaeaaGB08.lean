import Derived.Test.YtpimndkhoalaeaaGB07
import Derived.Test.YtpimndkhoalaeaaGB05
namespace Go.Proofs.Ytpimndkhoalaeaa
set_option maxRecDepth 100000
set_option linter.unusedVariables false
open Go.RowKit
attribute [local go_sem ↓] Go.wp_at_zero Go.wp_at_succ
def lenV:Value→Nat
 | .slice _ n _=>n
 | _=>0
theorem Row.popT {base:Nat} {w:World} {vo:Option Addr} {vc:Nat} {T:List Int} {z:Int} (h:Row base w (.slice vo (T.length+1) vc) (T ++ [z])) :
  ∃ g,vo=some ⟨g,0,none⟩∧base≤g∧g<w.heap.size∧w.cell? ⟨g,T.length,none⟩=some (.int .i64 z)∧Row base w (.slice (some ⟨g,0,none⟩) T.length vc) T∧T.length+1≤vc:=by
 have hi:=h.ints
 obtain ⟨ao,ac,e,h1,h2,h3⟩:=hi
 simp only [Value.slice.injEq] at e
 obtain ⟨rfl,_,rfl⟩:=e
 obtain ⟨b,off,e1,hlt,hc⟩:=h1.get (i:=T.length) (by simp)
 subst e1
 unfold Row at h
 rcases h.2 with ⟨e2,h0⟩ | ⟨g,cap,cur,e2,hb,hg,hle,hm,hsz,ht⟩
 ·cases e2
 ·simp only [Value.slice.injEq,Option.some.injEq,Addr.mk.injEq,and_true] at e2
  obtain ⟨⟨rfl,rfl⟩,e3,rfl⟩:=e2
  refine ⟨b,rfl,hb,hlt,by simpa using hc,?_,by simpa using hle⟩
  unfold Row
  refine ⟨by simp [iv_length],.inr ⟨b,vc,cur,rfl,hb,hg,by simp at hle;omega,hm,hsz,?_⟩⟩
  have:=congrArg (List.take T.length) ht
  rw [List.take_take] at this
  simp [iv] at this
  simpa [iv,Nat.min_eq_left (Nat.le_succ _)] using this
theorem Rdn.bound {N:List Nd} {S out:List Int} (h:Rdn N S out):S.length≤out.length:=by
 induction h with
 | nil=>simp
 | cons _ _ ih=>simp at ih ⊢;omega
set_option maxHeartbeats 8000000 in
theorem term13_any {w:World} {r cap:Nat} {ao:Option Addr} {N:List Nd} (c1:w.cell? ⟨r,1,none⟩=some (.slice ao N.length cap)) (hs:NsW w ao N) (hn:N.length≤4000) (hin:InL N) (hac:Ac N) (h6:∀ x∈N,x.2.1.length≤6) {a:Int} {t:List Int} (ha:Rdn N [a] t) (ht:t.length≤2000) :
  Calls Try.prog 19 #[.pointer (some ⟨r,0,none⟩),.int .i64 a,.int .i64 2000] w fun e w' => ∃ v,e=.returned (.tuple #[v,.bool true])∧Row w.heap.size w' v t∧Same0 w w' := by
 have hrl:r<w.heap.size:=World.block_lt_of_cell? _ _ c1
 have HC:Hid (∀ wr,Same0 w wr→wr.cell? ⟨r,1,none⟩=some (.slice ao N.length cap)∧NsW wr ao N):=fun wr hk=>⟨(hk.cell (p:=⟨r,1,none⟩) hrl (fun f=>f)).trans c1,hs.same hk⟩
 have HR:Hid (∀ wr (i:Nat),Same0 w wr→(hi:i<N.length)→N[i].2.2.2.1=false→Calls Try.prog 57 #[.pointer (some ⟨r,0,none⟩),.int .i64 (i:Int)] wr fun e w' => e=.returned (.tuple #[.int .i64 (i:Int),.int .i64 0])∧w' = wr):=fun wr i hk hi hp=>(rres_yes (HC.out wr hk).1 (HC.out wr hk).2 (by unfold maxLen;omega) hin hac i hi).mono (fun e w' ⟨b,e1,e2,e3⟩=>by
  obtain rfl:=e2.uniq (Res.self hi hp)
  exact ⟨e1,e3⟩)
 have H6:Hid (∀ x∈N,x.2.1.length≤6):=h6
 have HN:Hid (∀ n (hn:n<N.length),∃ nb noff xo xc,ao=some ⟨nb,noff,none⟩∧∀ ww,Same0 w ww→(ww.cell? ⟨nb,noff+n * 5,none⟩=some (.int .i64 N[n].1)∧ww.cell? ⟨nb,noff+n * 5+1,none⟩=some (.slice xo N[n].2.1.length xc)∧ww.cell? ⟨nb,noff+n * 5+2,none⟩=some (.int .i64 N[n].2.2.1)∧ww.cell? ⟨nb,noff+n * 5+3,none⟩=some (.bool N[n].2.2.2.1)∧ww.cell? ⟨nb,noff+n * 5+4,none⟩=some (.int .i64 N[n].2.2.2.2))∧IntsAt ww xo N[n].2.1):=fun n hn=>by
  obtain ⟨nb,noff,e,hnb,hc⟩:=hs.resolve_left (fun e=>by rw [e] at hn;simp at hn)
  obtain ⟨xo,xc,d0,d1,d2,d3,d4,d5⟩:=hc n hn
  have t:∀ ww,Same0 w ww→∀ o,ww.cell? ⟨nb,o,none⟩=w.cell? ⟨nb,o,none⟩:=fun ww hk o=>hk.cell (p:=⟨nb,o,none⟩) hnb (fun f=>f)
  exact ⟨nb,noff,xo,xc,e,fun ww hk=>⟨⟨(t ww hk _).trans d0,(t ww hk _).trans d1,(t ww hk _).trans d2,(t ww hk _).trans d3,(t ww hk _).trans d4⟩,d5.at'.same hk⟩⟩
 have HA:Hid (Rdn N [a] t):=ha
 have kz:Same0 w (w.alloc (.cells #[.int .i64 a] 3)):=(Kept.refl _ _).alloc _
 have r0:Row w.heap.size (w.alloc (.cells #[.int .i64 a] 3)) (.slice (some ⟨w.heap.size,0,none⟩) 1 1) [a]:=by
  unfold Row
  exact ⟨rfl,.inr ⟨w.heap.size,1, #[.int .i64 a],rfl,Nat.le_refl _,heap_alloc_new w _,by simp,by unfold maxLen;omega,rfl,rfl⟩⟩
 clear c1 hs hin hac h6 ha hrl
 go_enter Try.func19,Try.ntmps19
 go_wp2
 go_loopw [8,9] (fun v8 v9 wr=>∃ (o S rest:List Int),Row w.heap.size wr v8 o∧Row w.heap.size wr v9 S.reverse∧Hid (Rdn N S rest∧o++rest=t)∧(∀ q,v8.ownBlock=some q→v9.ownBlock≠some q)∧Same0 w wr) (fun v8 _ _=>t.length-lenV v8)
 case atStart=>exact ⟨[],[a],t,World.ownsRow_nil _ _ _ _,r0,⟨HA.out,rfl⟩,(fun q e=>by cases e),kz⟩
 case round=>
  clear r0 kz HA
  obtain ⟨o,S,rest,r8,r9,hH,hne,hw⟩:=hrel
  obtain ⟨vo,vc,rfl⟩:=row_shape r8
  obtain ⟨uo,uc,rfl⟩:=row_shape r9
  cases S with
  | nil=>
   have e0:rest=[]:=by cases hH.out.1;rfl
   have e1:o=t:=by have:=hH.out.2;rw [e0] at this;simpa using this
   subst e1
   clear hH
   go_wp2
   go_ret2
   exact ⟨_,rfl,r8,hw⟩
  | cons a' S' =>
   obtain ⟨n,hnl,o', rfl,hp,e2,hrd⟩:=hH.out.1.top
   have e3:o++(N[n].1 :: o')=t:=by have:=hH.out.2;rw [e2] at this;exact this
   have hlen:o.length+o'.length+1=t.length:=by rw [← e3];simp;omega
   have hbd:=hrd.bound
   rw [List.length_append] at hbd
   have r9' : Row w.heap.size wr (.slice uo (S'.reverse.length+1) uc) (S'.reverse ++ [(n:Int)]):=by simpa using r9
   obtain ⟨g,rfl,hbg,hgl,hgc,rT,hcap⟩:=r9'.popT
   obtain ⟨nb,noff,xo,xc,rfl,hcell⟩:=HN.out n hnl
   obtain ⟨⟨d0,d1,d2,d3,d4⟩,dI⟩:=hcell wr hw
   obtain ⟨q1, -⟩:=HC.out wr hw
   have CR:=HR.out wr n hw hnl hp
   have h6:=H6.out _ (List.getElem_mem hnl)
   have hSl:S'.length≤2000:=by omega
   have hol:o.length<2000:=by omega
   have er:(((n:Int) :: S').reverse.length)=S'.reverse.length+1:=by simp
   have HRD:Hid (Rdn N (N[n].2.1++S') o' ∧ (o ++ [N[n].1])++o' = t):=⟨hrd,by rw [List.append_assoc];exact e3⟩
   have HLEN:Hid (o.length+o'.length+1=t.length):=hlen
   have ow8:∀ q,(Value.slice vo o.length vc).ownBlock=some q→w.heap.size≤q∧q<wr.heap.size:=fun q e=>by
    obtain ⟨m1,cur,m2⟩:=r8.own_int e
    exact ⟨m1,lt_of_at m2⟩
   have hne' : ∀ q,(Value.slice vo o.length vc).ownBlock=some q→q≠g:=fun q e e' => hne q e (by rw [e'];rfl)
   rw [er]
   clear hH hrd e2 e3 hlen hbd r9 r9' hne er
   generalize N[n].1=sy at *
   generalize N[n].2.2.1=mk at *
   generalize N[n].2.2.2.2=tt at *
   generalize N[n].2.2.2.1=pt at *
   generalize N[n].2.1=args at *
   generalize hT:S'.reverse=T at *
   have hTl:T.length≤2000:=by rw [← hT];simpa using hSl
   have HT:Hid (S'.reverse=T):=hT
   clear hT hSl
   have i1:(0:Int)<(T.length:Int)+1:=by omega
   have i2:¬ ((2000:Int)≤(o.length:Int)):=by omega
   have i3:(0:Int)≤(n:Int):=by omega
   have i4:(n:Int)<(N.length:Int):=by omega
   subst hp
   go_upto_region 9 with (first | (go_at_call 57;refine CR.mono ?_;rintro e w3 ⟨rfl,h3⟩;have h3:=h3.symm;subst h3))
   obtain ⟨X1,hX1⟩:∃ X1,X1=wr.alloc (.cells #[.int .i64 sy,.slice xo args.length xc,.int .i64 mk,.bool false,.int .i64 tt] 71):=⟨_,rfl⟩
   rw [← hX1]
   have kx:Same0 wr X1:=by rw [hX1];exact (Kept.refl _ _).alloc _
   have hbx:X1.heap[wr.heap.size]? = some (.cells #[.int .i64 sy,.slice xo args.length xc,.int .i64 mk,.bool false,.int .i64 tt] 71 (0,0)):=by rw [hX1];exact heap_alloc_new _ _
   have zx:X1.heap.size=wr.heap.size+1:=by rw [hX1];simp
   have x0:X1.cell? ⟨wr.heap.size,0,none⟩=some (.int .i64 sy):=cellAt hbx 0
   have r8x:Row w.heap.size X1 (.slice vo o.length vc) o:=kx.row r8 (fun _ _ f=>f)
   have MORE:Hid (∀ w2 g8 cap8,Row w.heap.size w2 (.slice (some ⟨g8,0,none⟩) (o.length+1) cap8) (o ++ [sy])→Kept (fun q=>(Value.slice vo o.length vc).ownBlock=some q) X1 w2→((Value.slice vo o.length vc).ownBlock=some g8∨X1.heap.size≤g8)→Row w.heap.size w2 (.slice (some ⟨g,0,none⟩) T.length uc) T∧g8≠g∧w2.heap[wr.heap.size]? = some (.cells #[.int .i64 sy,.slice xo args.length xc,.int .i64 mk,.bool false,.int .i64 tt] 71 (0,0))∧Same0 w w2):=fun w2 g8 cap8 hr hk hor=>by
    refine ⟨hk.row (kx.row rT (fun _ _ f=>f)) (fun q e s=>?_),?_,hk.at hbx (fun e=>by have:=ow8 _ e;omega),(hw.trans' kx).trans hk (fun i hi e=>by have:=(ow8 i e).1;omega)⟩
    ·have e' : g=q:=Option.some.inj e
     exact hne' q s e'.symm
    ·rcases hor with e | e
     ·exact hne' g8 e
     ·omega
   have hbs:w.heap.size≤X1.heap.size:=(hw.trans' kx).size
   have HAR:Hid (∀ ww,Same0 w ww→IntsAt ww xo args):=fun ww hk=>(hcell ww hk).2
   clear hX1 CR d0 d1 d2 d3 d4 dI q1 hcell r8 rT hgc hne' ow8 zx
   have bb1:(o.length+1) * 8≤140737488355328:=by omega
   go_upto_region 10 with (first | (at_builtin;refine wpList_push rfl _ _ 24 rfl Try.underlying24 w.heap.size o _ rfl r8x sy rfl hbs bb1 ?_;intro g8 cap8 w2 hr8 hk8 hor;obtain ⟨rT2,hg8,hbx2,hw2⟩:=MORE.out w2 g8 cap8 hr8 hk8 hor))
   clear MORE hbx kx x0 r8x hk8 hor hbs
   have y1:w2.cell? ⟨wr.heap.size,1,none⟩=some (.slice xo args.length xc):=cellAt hbx2 1
   have RT2:Hid (Row w.heap.size w2 (.slice (some ⟨g,0,none⟩) T.length uc) T):=rT2
   have R82:Hid (Row w.heap.size w2 (.slice (some ⟨g8,0,none⟩) (o.length+1) cap8) (o ++ [sy])):=hr8
   clear rT2 hr8
   have ga:g<w2.heap.size:=(RT2.out.own_int (q:=g) rfl).2.elim (fun c hc=>lt_of_at hc)
   generalize wr.heap.size=bx at *
   go_wp2
   go_loopw [9,13] (fun v9 s13 wr=>∃ i:Nat,i≤args.length∧s13=.int .i64 ((i:Int)-1)∧Row w.heap.size wr v9 (T++(args.drop i).reverse)∧(∀ q,v9.ownBlock=some q→q≠g8)∧Hid (Row w.heap.size wr (.slice (some ⟨g8,0,none⟩) (o.length+1) cap8) (o ++ [sy]))∧Hid (wr.heap[bx]? = some (.cells #[.int .i64 sy,.slice xo args.length xc,.int .i64 mk,.bool false,.int .i64 tt] 71 (0,0)))∧Same0 w wr) (fun _ s13 _=>(intOf s13+1).toNat)
   case atStart=>exact ⟨args.length,Nat.le_refl _,rfl,by simpa using RT2.out,(fun q e=>by have e' : g=q:=Option.some.inj e;omega),R82,hbx2,hw2⟩
   case round=>
    clear RT2 R82 hbx2 hw2 y1 ga
    obtain ⟨i,hi,rfl,hr9,hn9,H8,HBX,hwr⟩:=hrel
    obtain ⟨zo,zc,rfl⟩:=row_shape hr9
    cases i with
    | zero=>
     have e0:((0:Nat):Int)-1 = -1:=by decide
     rw [e0]
     have hr9' : Row w.heap.size wr (.slice zo (T++(args.drop 0).reverse).length zc) (args++S').reverse:=by rw [List.reverse_append,HT.out];simpa using hr9
     clear hr9
     go_wp2
     refine ⟨⟨o ++ [sy],args++S', o', by simpa using H8.out,hr9', HRD,(fun q e e' => hn9 q e' (Option.some.inj e).symm),hwr⟩,?_⟩
     have:=HLEN.out
     simp [lenV];omega
    | succ k=>
     have ek:((k+1:Nat):Int)-1=(k:Int):=by omega
     rw [ek]
     have y1:wr.cell? ⟨bx,1,none⟩=some (.slice xo args.length xc):=cellAt HBX.out 1
     obtain ⟨xb,xoff,rfl,hxb,hxc⟩:=(HAR.out wr hwr).get (i:=k) (by omega)
     have j1:(0:Int)≤(k:Int):=by omega
     have j2:(k:Int)<(args.length:Int):=by omega
     have hkl:k<args.length:=by omega
     have hbq:w.heap.size≤wr.heap.size:=hwr.size
     have bb2:((T++(args.drop (k+1)).reverse).length+1) * 8≤140737488355328:=by simp;omega
     have ob:∀ q,(Value.slice zo (T++(args.drop (k+1)).reverse).length zc).ownBlock=some q→w.heap.size≤q∧q<wr.heap.size∧NotI wr q=(NotI wr q)∧∃ cur,wr.heap[q]? = some (.cells cur 3 (0,0)):=fun q e=>by
      obtain ⟨m1,cur,m2⟩:=hr9.own_int e
      exact ⟨m1,lt_of_at m2,rfl,cur,m2⟩
     have hel:(T++(args.drop (k+1)).reverse) ++ [args[k]]=T++(args.drop k).reverse:=by
      rw [List.append_assoc]
      congr 1
      rw [← List.reverse_cons,← List.drop_eq_getElem_cons hkl]
     have MORE:Hid (∀ w4 g4 cap4,Row w.heap.size w4 (.slice (some ⟨g4,0,none⟩) ((T++(args.drop (k+1)).reverse).length+1) cap4) ((T++(args.drop (k+1)).reverse) ++ [args[k]])→Kept (fun q=>(Value.slice zo (T++(args.drop (k+1)).reverse).length zc).ownBlock=some q) wr w4→((Value.slice zo (T++(args.drop (k+1)).reverse).length zc).ownBlock=some g4∨wr.heap.size≤g4)→Row w.heap.size w4 (.slice (some ⟨g4,0,none⟩) ((T++(args.drop (k+1)).reverse).length+1) cap4) (T++(args.drop k).reverse)∧(∀ q,(Value.slice (some ⟨g4,0,none⟩) ((T++(args.drop (k+1)).reverse).length+1) cap4).ownBlock=some q→q≠g8)∧Row w.heap.size w4 (.slice (some ⟨g8,0,none⟩) (o.length+1) cap8) (o ++ [sy])∧w4.heap[bx]? = some (.cells #[.int .i64 sy,.slice (some ⟨xb,xoff,none⟩) args.length xc,.int .i64 mk,.bool false,.int .i64 tt] 71 (0,0))∧Same0 w w4):=fun w4 g4 cap4 h4 hk4 hor=>by
      have g8l:g8<wr.heap.size:=(H8.out.own_int (q:=g8) rfl).2.elim (fun c hc=>lt_of_at hc)
      refine ⟨by rw [hel] at h4;exact h4,fun q e=>?_,hk4.row H8.out (fun q e s=>?_),hk4.at HBX.out (fun e=>?_),hwr.trans hk4 (fun i hi e=>by have:=(ob i e).1;omega)⟩
      ·have e' : g4=q:=Option.some.inj e
       subst e'
       rcases hor with t | t
       ·exact hn9 _ t
       ·omega
      ·have e' : g8=q:=Option.some.inj e
       exact hn9 q s e'.symm
      ·obtain ⟨_,_,_,cur,m2⟩:=ob _ e
       rw [HBX.out] at m2;cases m2
     clear hel ob
     generalize args[k]=z at *
     generalize (T++(args.drop (k+1)).reverse)=Z at *
     go_wp2_with (first | (at_builtin;refine wpList_push rfl _ _ 23 rfl Try.underlying23 w.heap.size Z _ rfl hr9 z rfl hbq bb2 ?_;intro g4 cap4 w4 hr4 hk4 hor;obtain ⟨m1,m2,m3,m4,m5⟩:=MORE.out w4 g4 cap4 hr4 hk4 hor))
     refine ⟨⟨k,by omega,by go_num,m1,m2,m3,m4,m5⟩,by simp [intOf]⟩
theorem eq_efault (v:Value) (w:World):(binOp .eql 35 (.iface 119 v) .nilIface).run Try.prog w=.ok (.bool false) w:=by kernel_rfl
set_option maxHeartbeats 4000000 in
theorem gback_walk {w:World} {ao:Option Addr} {len cap:Nat} {xs:List Sym} (hx:SymsAt w ao len xs) (hm:len≤maxLen) {po:Option Addr} {t:List Int} {pc:Nat} (ht:Arg w po t pc) :
  Calls Try.prog 3 #[.slice ao len cap,.slice po t.length pc] w fun e w' => e=.returned (.bool true)∧Below w.heap.size w w' := by
 have CA:=awake13_any w
 have HB:Hid (∀ w', Same0 w w' → Below w.heap.size w w'):=fun w' hk=>hk.below
 have CS:Hid (∀ ww,Same0 w ww→Calls Try.prog 13 #[.slice ao len cap] ww fun e w' => ∃ b rv,e=.returned (.tuple #[.pointer (some ⟨b,0,none⟩),rv])∧Sg w'.heap.size w' b (madeL xs)∧Rl w'.heap.size w' rv (madeL xs)∧Same0 ww w'):=fun ww hk=>sign_any ao len cap xs ww (hx.kept hk.below) hm
 have HT:Hid (∀ ww,Same0 w ww→IntsAt ww po t):=fun ww hk=>ht.at'.same hk
 have hsz:=ht.size
 generalize madeL xs=L at *
 clear hx ht
 go_enter Try.func3,Try.ntmps3
 go_upto_region 6 with (first
  | (go_at_call 12;refine CA.mono ?_;rintro e w1 ⟨rfl,k1⟩)
  | (go_at_call 13;refine (CS.out w1 k1).mono ?_;rintro e w2 ⟨sb,rv,rfl,hs,hr,k2⟩)
  | (go_at_call 14;refine (hnew_yes 4000 w2 (by omega) (by omega)).mono ?_;rintro e w3 ⟨h,g,rfl,p3,k3,hh,hg⟩))
 have K3:Hid (Same0 w w3):=(k1.trans' k2).trans' k3
 have Q3:Hid (GH w2.heap.size sb L h g 4000 [] w3):=⟨hs.same k3,p3.mono (fun _ _ _ _=>trivial),hh,hg⟩
 have hz2:w.heap.size≤w2.heap.size:=(k1.trans' k2).size
 have KH:Hid (∀ a b,Kept (fun k=>k=h∨k=g) a b→Same0 w a→Same0 w b):=fun a b hk h1=>h1.trans hk (fun i hi e=>by omega)
 have CC:=gclosed_any (cap:=pc) (hr.same k3) (HT.out w3 K3.out) (by unfold maxLen;omega)
 clear CA CS hs p3 k1 k2 k3 hr
 cases hc:clG L t with
 | false=>
  rw [hc] at CC
  have CL:Calls Try.prog 16 #[.pointer (some ⟨sb,0,none⟩),.pointer (some ⟨h,0,none⟩),.slice po t.length pc] w3 fun e w' => ∃ fb,e=.returned (.tuple #[.int .i64 0,.iface 119 (.pointer (some ⟨fb,0,none⟩))])∧Same0 w3 w' := by
   by_cases h0:checkE L t=0
   ·have hv:¬ (∀ x∈t,0≤x):=fun q=>by rw [clG_none q,h0] at hc;simp at hc
    exact (load_var Q3.out.sg ⟨h,0,none⟩ (HT.out w3 K3.out) hsz h0 hv).mono (fun e w' ⟨v,e1,⟨fb,e2,_,_⟩,e3⟩=>⟨fb,by rw [e1,e2],e3⟩)
   ·exact (load_bad Q3.out.sg ⟨h,0,none⟩ (HT.out w3 K3.out) hsz h0).mono (fun e w' ⟨v,e1,⟨fb,e2,_,_⟩,e3⟩=>⟨fb,by rw [e1,e2],e3⟩)
  have CU:Hid (∀ ww,Same0 w3 ww→Calls Try.prog 17 #[.pointer (some ⟨h,0,none⟩)] ww fun e w' => e=.returned (.int .i64 0)∧w' = ww):=fun ww hk=>used_any (Q3.out.same hk).hp
  have n1:=neq_efault
  have n2:=eq_efault
  clear hc Q3
  go_wp2_with (first
   | (go_at_call 15;refine CC.mono ?_;rintro e w4 ⟨rfl,h4⟩;have h4:=h4.symm;subst h4)
   | (go_at_call 16;refine CL.mono ?_;rintro e w5 ⟨fb,rfl,k5⟩)
   | (go_at_call 17;refine (CU.out w5 k5).mono ?_;rintro e w6 ⟨rfl,h6⟩;have h6:=h6.symm;subst h6))
  go_ret
  exact ⟨rfl,HB.out _ (K3.out.trans' k5)⟩
 | true=>
  rw [hc] at CC
  obtain ⟨h0,hv⟩:=clG_pos hc
  obtain ⟨l1,l2,l3⟩:=check_zero h0
  have CL:=Q3.out.load_yes (cap:=pc) (HT.out w3 K3.out) h0 hv (by simp;omega)
  have RD:Hid (Rdn (layF [] (t.map (tgT L))).1 (layF [] (t.map (tgT L))).2 t):=by
   have:=lay_read (N:=[]) (l:=t.map (tgT L)) (fun x hx=>by obtain ⟨y,_,rfl⟩:=List.mem_map.1 hx;rfl)
   rw [List.map_map] at this
   have e:((fun x=>x.2.1) ∘ tgT L)=fun x:Int=>x:=by funext x;rfl
   rw [e,List.map_id'] at this
   exact this
  have LN:Hid ((layF [] (t.map (tgT L))).1.length=t.length):=by
   show _=_
   rw [lay_size,new_term];simp
  generalize layF [] (t.map (tgT L))=NS at *
  obtain ⟨N,S⟩:=NS
  simp only at CL RD LN
  have n1:=neq_enil
  clear hc h0 hv l2 l3
  go_upto_region 10 with (first
   | (go_at_call 15;refine CC.mono ?_;rintro e w4 ⟨rfl,h4⟩;have h4:=h4.symm;subst h4)
   | (go_at_call 16;refine CL.mono ?_;rintro e w5 ⟨a,rfl,ea,Q5,k5⟩))
  subst ea
  have K5:Hid (Same0 w w5):=KH.out _ _ k5 K3.out
  have HQ5:Hid (GH w2.heap.size sb L h g 4000 N w5):=Q5
  clear CC CL Q3 K3 k5 Q5
  have CT:=told13_any HQ5.out.hp
  have LNN:=LN.out
  go_upto_region 11 with (first | (go_at_call 18;refine CT.mono ?_;rintro e w6 ⟨v6,rfl,hrow,k6⟩;obtain ⟨vo,vc,rfl⟩:=hrow.shape))
  have hw6:=hrow.mem.weak
  obtain ⟨X,hX⟩:∃ X,X=w6.alloc (.cells #[.int .i64 0,.slice vo N.length vc] 46):=⟨_,rfl⟩
  have kX:Same0 w6 X:=by rw [hX];exact (Kept.refl _ _).alloc _
  have x1:X.cell? ⟨w6.heap.size,1,none⟩=some (.slice vo N.length vc):=by rw [hX];exact cellAt (heap_alloc_new _ _) 1
  have pN:=HQ5.out.hp
  have CR:=term13_any x1 (hw6.same kX) (by omega) pN.inl pN.ac (fun x hx=>(may_facts (pN.may x hx)).2.1) RD.out l1
  have K6:Hid (Same0 w X):=(K5.out.trans' k6).trans' kX
  clear hrow hw6 k6 kX x1 pN CT RD HQ5 K5 KH
  have CI:Hid (∀ ww uo uc,Same0 w ww→IntsAt ww uo t→Calls Try.prog 20 #[.slice po t.length pc,.slice uo t.length uc] ww fun e w' => e=.returned (.bool true)∧Same0 ww w'):=fun ww uo uc hk hu=>by
   have:=sameInts_any pc uc (HT.out ww hk) hu (by unfold maxLen;omega)
   rw [show eqI t t=true by simp [eqI]] at this
   exact this
  rw [LNN] at *
  go_upto_region 12 with (first | (go_at_call 19;rw [← hX];refine CR.mono ?_;rintro e w7 ⟨v7,rfl,r7,k7⟩;obtain ⟨uo,uc,hu,iu, -, -⟩:=r7.ints;subst hu))
  have C12:=CI.out w7 uo uc (K6.out.trans' k7) iu
  go_wp2_with (first | (go_at_call 20;refine C12.mono ?_;rintro e w8 ⟨rfl,k8⟩))
  go_ret
  exact ⟨rfl,HB.out _ ((K6.out.trans' k7).trans' k8)⟩
end Go.Proofs.Ytpimndkhoalaeaa
