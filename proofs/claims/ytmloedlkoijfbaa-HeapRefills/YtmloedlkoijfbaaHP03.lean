import Derived.Test.YtmloedlkoijfbaaHP02
import Derived.Laws.OwnMore
import Derived.SizedLaws
import Derived.Deep.AppendLies
import Derived.Test.YtmloedlkoijfbaaHP01
import Derived.Shelf.Abstract
import Derived.OwnWalkIn
import Derived.TacticsInMore
import Derived.LoopNIn
import Derived.LoopIn
import Derived.Sort.CutIn
import Derived.Deep.RegionHeld3
import Derived.Maps.OwnIn
namespace Go.Proofs.Ytmloedlkoijfbaa
set_option maxRecDepth 100000
set_option linter.unusedVariables false
open Go.RowKit
attribute [local go_sem ↓] Go.wp_at_zero Go.wp_at_succ
set_option maxHeartbeats 1000000 in
theorem next_any {w:World} {x:Nd} {ao:Option Addr} {ac:Nat} (hx:Arg w ao x.2.1 ac) :
  Calls Try.prog 65 #[nodeV x ao ac] w fun e w' => ∃ bo bc,e=.returned (.slice bo (downL x).length bc)∧IntsAt w' bo (downL x)∧(∀ a,bo=some a→(ao=some a∧downL x=x.2.1)∨(w.heap.size≤a.block∧a.block<w'.heap.size))∧Same0 w w' := by
 obtain ⟨W0,hW0⟩:∃ W0,W0=w.alloc (.cells #[.int .i64 x.1,.slice ao x.2.1.length ac,.int .i64 x.2.2.1,.bool x.2.2.2.1,.int .i64 x.2.2.2.2] 47):=⟨_,rfl⟩
 have k0:Same0 w W0:=by rw [hW0];exact (Kept.refl _ w).alloc _
 have hb:W0.heap[w.heap.size]? = some (.cells #[.int .i64 x.1,.slice ao x.2.1.length ac,.int .i64 x.2.2.1,.bool x.2.2.2.1,.int .i64 x.2.2.2.2] 47 (0,0)):=by rw [hW0];exact heap_alloc_new w _
 obtain ⟨b0,b1,b2,b3,b4⟩:=box5 hb
 have hz:=k0.size
 obtain ⟨pb,hp⟩:∃ pb,x.2.2.2.1=pb:=⟨_,rfl⟩
 cases pb
 ·have hd:downL x=x.2.1:=by unfold downL;rw [hp];rfl
  have H:Hid (IntsAt W0 ao x.2.1∧Same0 w W0):=⟨hx.at'.same k0,k0⟩
  rw [hd]
  rw [hp] at b3
  clear hd hx k0 hb hz hp
  go_enter Try.func65,Try.ntmps65
  go_upto_region 1 with fail
  rw [← hW0]
  clear hW0
  go_wp2
  go_ret
  exact ⟨ao,ac,rfl,H.out.1,fun a e=>.inl ⟨e,by first | trivial | rfl⟩,H.out.2⟩
 ·have hd:downL x=[x.2.2.2.2]:=by unfold downL;rw [hp];rfl
  have H:Hid (IntsAt (W0.alloc (.cells #[.int .i64 x.2.2.2.2] 3)) (some ⟨W0.heap.size,0,none⟩) [x.2.2.2.2]∧(∀ a,some (⟨W0.heap.size,0,none⟩:Addr)=some a→(ao=some a∧[x.2.2.2.2]=x.2.1)∨(w.heap.size≤a.block∧a.block<(W0.alloc (.cells #[.int .i64 x.2.2.2.2] 3)).heap.size))∧Same0 w (W0.alloc (.cells #[.int .i64 x.2.2.2.2] 3))):=⟨ints_one _ _,fun a e=>by cases e;exact .inr ⟨hz,by simp⟩,k0.alloc _⟩
  rw [hd]
  rw [hp] at b3
  clear hd hx k0 hb hz hp
  go_enter Try.func65,Try.ntmps65
  go_upto_region 1 with fail
  rw [← hW0]
  clear hW0
  go_wp2
  go_ret
  exact ⟨_,1,rfl,H.out.1,H.out.2.1,H.out.2.2⟩
theorem info_boolT:(Try.prog.info? 4).map (fun i=>(i.zero,i.size,i.bytes))=some (some (.bool false),1,1):=by kernel_rfl
def bv (m:List Bool):List Value:=m.map Value.bool
theorem bv_set (m:List Bool) (k:Nat) (b:Bool):bv (m.set k b)=(bv m).set k (.bool b):=by simp [bv,List.map_set]
theorem made_bools (n:Nat):(madeCells (Value.bool false).cells (n * 1)).toList=bv (List.replicate n false):=by
 rw [Nat.mul_one,show (Value.bool false).cells = #[Value.bool false] from rfl,toList_madeCells_one]
 simp [bv]
theorem row_bool {w:World} {base g N:Nat} {m:List Bool} (h:w.ownsRow base 4 1 (.slice (some ⟨g,0,none⟩) N N) N (bv m)) {k:Nat} (hk:k<N):∃ b,m[k]? = some b∧w.cell? ⟨g,k,none⟩=some (.bool b)∧w.frozen? ⟨g,k,none⟩=false:=by
 have hl:m.length=N:=by have:=h.1;simp [bv] at this;omega
 refine ⟨m[k]'(by omega),by simp [hl,hk],?_,h.frozenAt k⟩
 rw [h.cellAt k (by omega)]
 simp [bv,hl,hk]
theorem ofN_snoc (F:List Nat) (b:Nat):ofN (F ++ [b])=ofN F ++ [(b:Int)]:=by simp [ofN]
theorem ofN_len' (F:List Nat):(ofN F).length=F.length:=by simp [ofN]
theorem ofN_at {F:List Nat} {i:Nat} (h:i<(ofN F).length):(ofN F)[i]=((F[i]'(by simpa [ofN] using h):Nat):Int):=by simp [ofN]
structure NsAt (w:World) (g N:Nat) (l:List Nd):Prop where
 lt:g<w.heap.size
 le:l.length≤N
 big:N≤4000
 each:∀ i (hi:i<l.length),NdC (fun b=>b<w.heap.size) w g (i * 5) l[i]
 inl:InL l
 few:∀ x∈l,x.2.1.length≤6
theorem NsAt.same {w w' : World} {g N:Nat} {l:List Nd} (h:NsAt w g N l) (hk:Same0 w w'):NsAt w' g N l:=
 ⟨Nat.lt_of_lt_of_le h.lt hk.size,h.le,h.big,fun i hi=>((h.each i hi).kept h.lt hk (fun f=>f) (fun _ _ f=>f.elim)).mono (fun k _ _ e=>Nat.lt_of_lt_of_le e hk.size),h.inl,h.few⟩
theorem HpB.ns {B:Nat→Prop} {w:World} {h g room:Nat} {l:List Nd} (p:HpB B w h g room l):NsAt w g room l:=
 ⟨p.ltG,p.le,p.rm2,fun i hi=>(p.each i hi).mono (fun k hk _ _=>hk),p.inl,fun x hx=>(may_facts (p.may x hx)).2.1⟩
structure StAt' (w wr:World) (mb N:Nat) (met:List Bool) (F:List Nat) (v:Value):Prop where
 mt:wr.ownsRow w.heap.size 4 1 (.slice (some ⟨mb,0,none⟩) N N) N (bv met)
 fd:Row (mb+1) wr v (ofN F)
 kp:Same0 w wr
 lo:w.heap.size≤mb
theorem StAt'.same {w wr w' : World} {mb N:Nat} {met:List Bool} {F:List Nat} {v:Value} (h:StAt' w wr mb N met F v) (hk:Same0 wr w'):StAt' w w' mb N met F v:=
 ⟨hk.row h.mt (fun _ _ f=>f),hk.row h.fd (fun _ _ f=>f),h.kp.trans' hk,h.lo⟩
theorem wpList_pushN {w0:World} {ops:Array Oper} {rest:List Oper} {o:Oper} {a:Act} {Q:Exit→Act→World→Prop} (hgd:o.guard=none) (s x:Operand) (t:TypeId)
  (ho:o.op=.call { callee:=.builtin .append,args:=#[s,x],argTypes:=#[t,t] }) (ht:Try.prog.underlying t=some (.slice 3))
  (base:Nat) (xs:List Int) (v:Value) (hs:a.eval s=v) (hr:Row base w0 v xs) (y:Int) (n:Nat) (hn:w0.heap.size=n) (hx:a.eval x=.slice (some ⟨n,0,none⟩) 1 1) (hb:base≤w0.heap.size) (hsz:(xs.length+1) * 8≤140737488355328)
  (h:∀ g cap w', Row base w' (.slice (some ⟨g,0,none⟩) (xs.length+1) cap) (xs ++ [y])→Kept (fun k=>v.ownBlock=some k) w0 w' → (v.ownBlock=some g∨w0.heap.size≤g)→wpList Try.prog ops Q rest (a.put o.dst (.slice (some ⟨g,0,none⟩) (xs.length+1) cap)) w') :
  wpList Try.prog ops Q (o :: rest) a (w0.alloc (.cells #[.int .i64 y] 3)):=by
 subst hn
 exact wpList_push hgd s x t ho ht base xs v hs hr y hx hb hsz h
theorem row_one (w:World) (base:Nat) (hb:base≤w.heap.size) (z:Int):Row base (w.alloc (.cells #[.int .i64 z] 3)) (.slice (some ⟨w.heap.size,0,none⟩) 1 1) [z]:=
 ⟨rfl,.inr ⟨w.heap.size,1, #[.int .i64 z],rfl,hb,heap_alloc_new w _,Nat.le_refl _,by unfold maxLen;omega,rfl,rfl⟩⟩
theorem StAt'.put {w wr:World} {mb N:Nat} {met:List Bool} {F:List Nat} {v:Value} (h:StAt' w wr mb N met F v) (b:Nat):StAt' w (wr.setCell ⟨mb,b,none⟩ (.bool true)) mb N (met.set b true) F v∧Kept (fun k=>k=mb) wr (wr.setCell ⟨mb,b,none⟩ (.bool true)):=by
 have K:Kept (fun k=>k=mb) wr (wr.setCell ⟨mb,b,none⟩ (.bool true)):=Kept.setCell (S:=fun k=>k=mb) (Kept.refl _ _) (p:=⟨mb,b,none⟩) (fun _=>rfl) _
 refine ⟨⟨by rw [bv_set];exact (h.mt.stored b _).1,K.row h.fd (fun k e q=>?_),h.kp.own h.lo _,h.lo⟩,K⟩
 have:=(h.fd.lt k e).1
 omega
theorem StAt'.push {w wr w4:World} {mb N:Nat} {met:List Bool} {F:List Nat} {v v' : Value} {b:Nat} (h:StAt' w wr mb N met F v) (hr:Row (mb+1) w4 v' (ofN F ++ [(b:Int)])) (hk:Kept (fun k=>v.ownBlock=some k) wr w4):StAt' w w4 mb N met (F ++ [b]) v' := by
 have lo:=h.lo
 refine ⟨hk.row h.mt (fun k e q=>?_),by rw [ofN_snoc];exact hr,h.kp.trans hk (fun i hi e=>?_),h.lo⟩
 ·have:=(h.fd.lt k q).1
  have e' : mb=k:=Option.some.inj e
  omega
 ·have:=(h.fd.lt i e).1
  omega
set_option maxHeartbeats 4000000 in
theorem stands_any {w:World} {g N cap:Nat} {l:List Nd} (h:NsAt w g N l) (a top:Nat) (ha:a<l.length) (ht:top<l.length) :
  Calls Try.prog 51 #[.slice (some ⟨g,0,none⟩) N cap,.int .i64 (a:Int),.int .i64 (top:Int)] w fun e w' => ∃ b:Bool,e=.returned (.bool b)∧(b=true ↔ Rc l top a)∧Same0 w w' := by
 obtain ⟨i,hi,hz0,hz1,hz2⟩:=info_parts info_boolT
 have hle:=h.le
 have hbig:=h.big
 have i1:(0:Int)≤(top:Int):=by omega
 have i2:(top:Int)<(N:Int):=by omega
 have i3:(0:Int)≤(a:Int):=by omega
 have i4:(a:Int)<(N:Int):=by omega
 have i5:(0:Int)≤(N:Int):=by omega
 go_enter Try.func51,Try.ntmps51
 go_upto_region 2 with (first | (at_make;refine wpList_make_full _ rfl _ _ 92 rfl w.heap.size 4 i _ 1 Try.underlying92 hi hz0 hz1 _ _ _ _ N rfl rfl rfl rfl (by rw [hz2];omega) (by unfold maxLen;omega) (Nat.le_refl _) ?_;intro w1 hown hgrow))
 rw [made_bools] at hown
 have K1:Same0 w w1:=Same0.grown (Kept.refl _ w) hgrow
 obtain ⟨mb,hmb⟩:∃ mb,mb=w.heap.size:=⟨_,rfl⟩
 have Hmb:Hid (mb=w.heap.size):=hmb
 have s1:=(hown.stored top (.bool true)).1
 rw [← bv_set] at s1
 have hg1:mb<w1.heap.size:=by have:=(hown.lt w.heap.size rfl).2;omega
 have K2:Same0 w (w1.setCell ⟨w.heap.size,top,none⟩ (.bool true)):=K1.own (Nat.le_refl _) _
 obtain ⟨_, -,m1,m2⟩:=row_bool hown (show top<N by omega)
 have S0:Hid (StAt' w ((w1.setCell ⟨mb,top,none⟩ (.bool true)).alloc (.cells #[.int .i64 (top:Int)] 3)) mb N ((List.replicate N false).set top true) [top] (.slice (some ⟨w1.heap.size,0,none⟩) 1 1)):=by
  have k9:Same0 (w1.setCell ⟨mb,top,none⟩ (.bool true)) ((w1.setCell ⟨mb,top,none⟩ (.bool true)).alloc (.cells #[.int .i64 (top:Int)] 3)):=(Kept.refl _ _).alloc _
  have e9:(w1.setCell ⟨mb,top,none⟩ (.bool true)).heap.size=w1.heap.size:=by simp [World.setCell]
  subst hmb
  refine ⟨k9.row s1 (fun _ _ f=>f),?_,K2.trans' k9,Nat.le_refl _⟩
  have:=row_one (w1.setCell ⟨w.heap.size,top,none⟩ (.bool true)) (w.heap.size+1) (by rw [e9];omega) (top:Int)
  rw [e9] at this
  exact this
 have HB0:Hid (Bf l top N ((List.replicate N false).set top true) [top]):=Bf.start ht (by omega)
 have HN:Hid (∀ ww,Same0 w ww→NsAt ww g N l):=fun ww hk=>h.same hk
 have HL:Hid (∀ ww,Same0 w ww→∀ j (hj:j<l.length),∃ ao ac,ww.cell? ⟨g,j * 5,none⟩=some (.int .i64 l[j].1)∧ww.cell? ⟨g,j * 5+1,none⟩=some (.slice ao l[j].2.1.length ac)∧ww.cell? ⟨g,j * 5+2,none⟩=some (.int .i64 l[j].2.2.1)∧ww.cell? ⟨g,j * 5+3,none⟩=some (.bool l[j].2.2.2.1)∧ww.cell? ⟨g,j * 5+4,none⟩=some (.int .i64 l[j].2.2.2.2)∧ArgT ww ao l[j].2.1 ac∧∀ x,ao=some x→x.block<w.heap.size):=fun ww hk j hj=>by
  obtain ⟨ao,ac,n0,n1,n2,n3,n4,n5,n6⟩:=(h.each j hj).kept h.lt hk (fun f=>f) (fun _ _ f=>f.elim)
  exact ⟨ao,ac,n0,n1,n2,n3,n4,n5,n6⟩
 have HI:Hid (InL l):=h.inl
 have HW:Hid (∀ x∈l,x.2.1.length≤6):=h.few
 rw [← hmb] at m1 m2 ⊢
 clear hmb hown hgrow s1 K1 K2 hz0 hz1 hz2 hi h
 go_upto_region 4 with fail
 go_wp2
 clear m1 m2
 go_loopw [8,9] (fun f i wr=>∃ (k:Nat) (met:List Bool) (F:List Nat),i=.int .i64 (k:Int)∧k≤(ofN F).length∧Hid (StAt' w wr mb N met F f)∧Hid (Bf l top N met F)∧Hid (Cl l F k)) (fun _ i _=>N+1-(intOf i).toNat)
 case atStart=>exact ⟨0,_,_,rfl,Nat.zero_le _,S0,HB0,fun k hk h0=>absurd h0 (Nat.not_lt_zero _)⟩
 case round=>
  clear S0 HB0
  obtain ⟨k,met,F,rfl,hk,HS,HB,HC⟩:=hrel
  have hFN:(ofN F).length≤N:=by rw [ofN_len'];exact HB.out.le
  obtain ⟨fo,fc,rfl⟩:=row_shape HS.out.fd
  obtain ⟨b,hb1,hb2,hb3⟩:=row_bool HS.out.mt (show a<N by omega)
  have HB1:Hid (met[a]? = some b):=hb1
  clear hb1 hb3
  by_cases hlt:k<(ofN F).length
  ·cases b
   ·have j1:(k:Int)<((ofN F).length:Int):=by omega
    have j0:(0:Int)≤(k:Int):=by omega
    have hkF:k<F.length:=by rwa [ofN_len'] at hlt
    obtain ⟨fk,hfk⟩:∃ fk,fk=F[k]:=⟨_,rfl⟩
    have hfl:fk<l.length:=by rw [hfk];exact (HB.out.each _ (List.getElem_mem hkF)).1
    have j2:(0:Int)≤(fk:Int):=by omega
    have j3:(fk:Int)<(N:Int):=by omega
    obtain ⟨fo', ac', e,hfi, -, -⟩:=HS.out.fd.ints
    cases e
    obtain ⟨fb,foff,rfl, -,cF⟩:=hfi.get hlt
    rw [ofN_at hlt,← hfk] at cF
    obtain ⟨ao,ac,n0,n1,n2,n3,n4,n5,n6⟩:=HL.out wr HS.out.kp fk hfl
    have CN:=next_any n5.1
    have HFK:Hid (F[k]? = some fk):=by show _=_;rw [hfk];simp [hkF]
    have HRC:Hid (Rc l top fk):=by show Rc _ _ _;rw [hfk];exact (HB.out.each _ (List.getElem_mem hkF)).2
    have HD:Hid (∀ z∈downL l[fk],0≤z∧z<(l.length:Int)):=HI.out fk hfl
    have HDE:Hid (∀ z:Nat,(z:Int)∈downL l[fk]→Ed l fk z):=fun z hz=>⟨hfl,hz⟩
    have HDL:Hid ((if h:fk<l.length then downL l[fk] else [])=downL l[fk]):=by show _=_;rw [dif_pos hfl]
    have HAO:Hid (∀ x,ao=some x→x.block<w.heap.size):=n6
    have dl:(downL l[fk]).length≤1000:=by have:=HW.out _ (List.getElem_mem hfl);unfold downL;split <;> (simp;try omega)
    generalize downL l[fk]=D at *
    clear n5 n6 hfi hfk
    go_upto_region 8 with (first | (go_at_call 65;refine CN.mono ?_;rintro e w3 ⟨bo,bc,rfl,hD,hbo,hk3⟩))
    have HS3:Hid (StAt' w w3 mb N met F (.slice (some ⟨fb,foff,none⟩) (ofN F).length fc)):=HS.out.same hk3
    have HBO:Hid (IntsAt w3 bo D∧∀ x,bo=some x→x.block<w3.heap.size∧(Value.slice (some ⟨fb,foff,none⟩) (ofN F).length fc).ownBlock≠some x.block∧x.block≠mb):=by
     have hkp:=HS.out.kp
     have hlo:=HS.out.lo
     refine ⟨hD,fun x e=>?_⟩
     have hfb:=HS.out.fd.lt fb rfl
     have hmb:=HS.out.mt.lt mb rfl
     have hne:(Value.slice (some ⟨fb,foff,none⟩) (ofN F).length fc).ownBlock=some fb:=rfl
     rcases hbo x e with ⟨q, -⟩ | q
     ·have q1:=HAO.out x q
      have:=hk3.size
      have:=hkp.size
      exact ⟨by omega,fun t=>by rw [hne] at t;cases t;omega,by omega⟩
     ·exact ⟨q.2,fun t=>by rw [hne] at t;cases t;omega,by omega⟩
    clear hbo hk3 hD CN n0 n1 n2 n3 n4 cF hb2
    go_loopw [8,42] (fun f c wr2=>∃ (q:Nat) (met' : List Bool) (F' : List Nat),c=.int .i64 (q:Int)∧q≤D.length∧Hid (StAt' w wr2 mb N met' F' f)∧Hid (Bf l top N met' F')∧Hid (Cl l F' k∧F'[k]? = some fk)∧Hid (∀ z∈D.take q,z.toNat∈F')∧Hid (IntsAt wr2 bo D∧∀ x,bo=some x→x.block<wr2.heap.size∧f.ownBlock≠some x.block∧x.block≠mb)) (fun _ c _=>D.length-(intOf c).toNat)
    case atStart=>exact ⟨0,met,F,rfl,Nat.zero_le _,HS3,HB,⟨HC.out,HFK.out⟩,fun z hz=>by simp at hz,HBO⟩
    case round=>
     clear HS3 HBO
     obtain ⟨q,met', F', rfl,hq,HS', HB', HC', HT', HO'⟩:=hrel
     obtain ⟨fo2,fc2,rfl⟩:=row_shape HS'.out.fd
     by_cases hql:q<D.length
     ·have q0:(0:Int)≤(q:Int):=by omega
      have q1:(q:Int)<(D.length:Int):=by omega
      obtain ⟨db,doff,rfl, -,cD⟩:=HO'.out.1.get hql
      have hz:=HD.out _ (List.getElem_mem hql)
      obtain ⟨b,hb⟩:∃ b:Nat,D[q]=(b:Int):=⟨D[q].toNat,by omega⟩
      rw [hb] at cD hz
      have HE:Hid (Ed l fk b):=HDE.out b (hb ▸ List.getElem_mem hql)
      have HTQ:Hid (∀ F2:List Nat,(∀ z∈D.take q,z.toNat∈F2)→b∈F2→∀ z∈D.take (q+1),z.toNat∈F2):=fun F2 h1 h2 z hz=>by
       rw [List.take_succ_eq_append_getElem hql,List.mem_append] at hz
       rcases hz with hz | hz
       ·exact h1 z hz
       ·simp at hz;rw [hz,hb];simpa using h2
      have q2:(0:Int)≤(b:Int):=by omega
      have q3:(b:Int)<(N:Int):=by omega
      obtain ⟨vb,m0,m1,m2⟩:=row_bool HS'.out.mt (show b<N by omega)
      have HM:Hid (met'[b]? = some vb):=m0
      have hFN' : (ofN F').length≤N:=by rw [ofN_len'];exact HB'.out.le
      have hbl:b<l.length:=by omega
      clear hb m0
      cases vb
      ·obtain ⟨P1,PK⟩:=HS'.out.put b
       have HP1:Hid (StAt' w (wr.setCell ⟨mb,b,none⟩ (.bool true)) mb N (met'.set b true) F' (.slice fo2 (ofN F').length fc2)):=P1
       have HPK:Hid (Kept (fun k=>k=mb) wr (wr.setCell ⟨mb,b,none⟩ (.bool true))):=PK
       have RW:=P1.fd
       have hbs:mb+1≤(wr.setCell ⟨mb,b,none⟩ (.bool true)).heap.size:=by have:=(P1.mt.lt mb rfl).2;omega
       have esz:(wr.setCell ⟨mb,b,none⟩ (.bool true)).heap.size=wr.heap.size:=by simp [World.setCell]
       clear P1 PK
       go_wp2_with (first | (at_builtin;refine wpList_pushN rfl _ _ 31 rfl Try.underlying31 (mb+1) (ofN F') _ rfl RW (b:Int) _ esz rfl hbs (by omega) ?_;intro g4 cap4 w4 hr4 hk4 hor))
       have P4:StAt' w w4 mb N (met'.set b true) (F' ++ [b]) (.slice (some ⟨g4,0,none⟩) ((ofN F').length+1) cap4):=HP1.out.push hr4 hk4
       have P5:Hid (StAt' w w4 mb N (met'.set b true) (F' ++ [b]) (.slice (some ⟨g4,0,none⟩) ((ofN F').length+1) cap4)):=P4
       have B5:Hid (Bf l top N (met'.set b true) (F' ++ [b])):=HB'.out.push HM.out hbl (HRC.out.snoc HE.out)
       have C5:Hid (Cl l (F' ++ [b]) k∧(F' ++ [b])[k]? = some fk):=by
        obtain ⟨c1,c2⟩:=HC'.out
        have hk' := (List.getElem?_eq_some_iff.1 c2).1
        exact ⟨c1.push (by omega) b,by rw [List.getElem?_append_left hk'];exact c2⟩
       have T5:Hid (∀ z∈D.take (q+1),z.toNat∈F' ++ [b]):=HTQ.out _ (fun z hz=>List.mem_append.2 (.inl (HT'.out z hz))) (by simp)
       have O5:Hid (IntsAt w4 (some ⟨db,doff,none⟩) D∧∀ x,some (⟨db,doff,none⟩:Addr)=some x→x.block<w4.heap.size∧(Value.slice (some ⟨g4,0,none⟩) ((ofN F').length+1) cap4).ownBlock≠some x.block∧x.block≠mb):=by
        obtain ⟨o1,o2⟩:=HO'.out
        have ox:=o2 ⟨db,doff,none⟩ rfl
        have hsz:(wr.setCell ⟨mb,b,none⟩ (.bool true)).heap.size=wr.heap.size:=by simp [World.setCell]
        refine ⟨(o1.kept HPK.out (fun x e t=>by cases e;exact ox.2.2 t)).kept hk4 (fun x e t=>by cases e;exact ox.2.1 t),fun x e=>?_⟩
        cases e
        refine ⟨Nat.lt_of_lt_of_le (by rw [hsz];exact ox.1) hk4.size,fun t=>?_,ox.2.2⟩
        have t' : g4=db:=by simpa [Value.ownBlock] using t
        rcases hor with q | q
        ·rw [t'] at q;exact ox.2.1 q
        ·rw [hsz] at q;have:=ox.1;simp at this;omega
       clear P4 HP1 hr4 hk4 hor RW HTQ
       go_roundw
       case rel=>exact ⟨q+1,_,_,by go_num,by omega,P5,B5,C5,T5,O5⟩
       case measure=>simp [intOf];omega
      ·have HBF:Hid (b∈F'):=(HB'.out.iff b).1 HM.out
       go_wp2
       go_roundw
       case rel=>exact ⟨q+1,met', F', by go_num,by omega,HS', HB', HC', HTQ.out F' HT'.out HBF.out,HO'⟩
       case measure=>simp [intOf];omega
     ·obtain rfl:q=D.length:=by omega
      have hFN' : (ofN F').length≤N:=by rw [ofN_len'];exact HB'.out.le
      go_wp2
      go_roundw
      case rel=>exact ⟨k+1,met', F', by go_num,by
        have:=(List.getElem?_eq_some_iff.1 HC'.out.2).1
        rw [ofN_len'];omega,HS', HB', by
        obtain ⟨c1,c2⟩:=HC'.out
        obtain ⟨c3,c4⟩:=List.getElem?_eq_some_iff.1 c2
        refine c1.next c3 (fun z hz=>HT'.out z ?_)
        rw [List.take_length]
        rw [c4] at hz
        exact HDL.out ▸ hz⟩
      case measure=>simp [intOf];omega
   ·have j1:(k:Int)<((ofN F).length:Int):=by omega
    go_wp2
    go_ret
    exact ⟨true,rfl,⟨fun _=>HB.out.has HB1.out,fun _=>rfl⟩,HS.out.kp⟩
  ·obtain rfl:k=(ofN F).length:=by omega
   clear hlt
   go_wp2
   go_ret
   refine ⟨b,rfl,?_,HS.out.kp⟩
   rw [← HB.out.done (by have:=HC.out;rwa [ofN_len'] at this) a,HB1.out]
   simp
def isMk (n:Int):Bool:=decide (0≤n) && decide (n≤2)
set_option maxHeartbeats 1000000 in
theorem isMark_any (n:Int) (w:World):Calls Try.prog 59 #[.int .i64 n] w fun e w' => e=.returned (.bool (isMk n))∧w' = w:=by
 by_cases h1:0≤n
 ·by_cases h2:n≤2
  ·have H:Hid (isMk n=true):=by show _=_;simp [isMk,h1,h2]
   go_enter Try.func59,Try.ntmps59
   go_wp2
   go_ret
   exact ⟨ret_bool H.out.symm,rfl⟩
  ·have H:Hid (isMk n=false):=by show _=_;simp [isMk,h1,h2]
   go_enter Try.func59,Try.ntmps59
   go_wp2
   go_ret
   exact ⟨ret_bool H.out.symm,rfl⟩
 ·have H:Hid (isMk n=false):=by show _=_;simp [isMk,h1]
  go_enter Try.func59,Try.ntmps59
  go_wp2
  go_ret
  exact ⟨ret_bool H.out.symm,rfl⟩
def marked (x:Nd) (m:Int):Nd:=(x.1,x.2.1,m,x.2.2.2.1,x.2.2.2.2)
theorem may_marked {n:Nat} {x:Nd} (h:mayB n x=true) {m:Int} (hm:0≤m∧m≤2) (hp:x.2.2.2.1=true→m=0):mayB n (marked x m)=true:=by
 unfold mayB at h ⊢
 unfold marked
 cases hq:x.2.2.2.1
 ·simp [hq] at h ⊢
  exact ⟨⟨⟨⟨h.1.1.1.1,hm.1⟩,hm.2⟩,h.1.2⟩,h.2⟩
 ·simp [hq] at h ⊢
  have:=hp hq
  subst this
  exact ⟨⟨⟨⟨h.1.1.1.1,hm.1⟩,hm.2⟩,h.1.2⟩,⟨⟨⟨h.2.1.1.1,h.2.1.1.2⟩,rfl⟩,h.2.2⟩⟩
theorem ac_same {l l' : List Nd} (h:Ac l) (hl:l'.length=l.length) (he:∀ i (h1:i<l'.length) (h2:i<l.length),downL l'[i]=downL l[i]):Ac l' := by
 obtain ⟨r,hr⟩:=h
 refine ⟨r,fun i j e=>hr i j ?_⟩
 obtain ⟨h1,h2⟩:=e
 exact ⟨by omega,by rw [he i h1 (by omega)] at h2;exact h2⟩
theorem HpB.marked {B:Nat→Prop} {w:World} {h g room:Nat} {l:List Nd} (p:HpB B w h g room l) {i:Nat} (hi:i<l.length) {m:Int} (hm:0≤m∧m≤2) (hp:l[i].2.2.2.1=true→m=0) :
  HpB B (w.setCell ⟨g,i * 5+2,none⟩ (.int .i64 m)) h g room (l.set i (Ytmloedlkoijfbaa.marked l[i] m))∧Kept (fun k=>k=g) w (w.setCell ⟨g,i * 5+2,none⟩ (.int .i64 m)):=by
 have K:Kept (fun k=>k=g) w (w.setCell ⟨g,i * 5+2,none⟩ (.int .i64 m)):=Kept.setCell (S:=fun k=>k=g) (Kept.refl _ _) (p:=⟨g,i * 5+2,none⟩) (fun _=>rfl) _
 obtain ⟨cs,h1,h2⟩:=p.blk
 have q:=setAt h1 (i * 5+2) (.int .i64 m)
 have hle:=p.le
 have gi:∀ k,k=g→NotI w k:=fun k e cur h=>by rw [e,h1] at h;cases h
 have old:∀ o,o≠i * 5+2→(w.setCell ⟨g,i * 5+2,none⟩ (.int .i64 m)).cell? ⟨g,o,none⟩=w.cell? ⟨g,o,none⟩:=fun o ho=>by
  rw [cellAt q,cellAt h1,Array.getElem?_setIfInBounds,if_neg (by omega)]
 have new:(w.setCell ⟨g,i * 5+2,none⟩ (.int .i64 m)).cell? ⟨g,i * 5+2,none⟩=some (.int .i64 m):=by
  rw [cellAt q,Array.getElem?_setIfInBounds,if_pos rfl,if_pos (by omega)]
 refine ⟨⟨by rw [List.length_set];exact K.at p.box p.ne,⟨_,q,by simpa using h2⟩,p.rm1,p.rm2,by simpa using hle,fun j hj=>?_,?_,?_⟩,K⟩
 ·have hj' : j<l.length:=by simpa using hj
  obtain ⟨ao,ac,n0,n1,n2,n3,n4,n5,n6⟩:=p.each j hj'
  by_cases e:j=i
  ·subst e
   rw [List.getElem_set_self]
   exact ⟨ao,ac,(old _ (by omega)).trans n0,(old _ (by omega)).trans n1,new,(old _ (by omega)).trans n3,(old _ (by omega)).trans n4,n5.kept K gi,n6⟩
  ·rw [List.getElem_set_ne (by omega)]
   exact ⟨ao,ac,(old _ (by omega)).trans n0,(old _ (by omega)).trans n1,(old _ (by omega)).trans n2,(old _ (by omega)).trans n3,(old _ (by omega)).trans n4,n5.kept K gi,n6⟩
 ·intro x hx
  rw [List.length_set]
  rcases List.mem_or_eq_of_mem_set hx with e | e
  ·exact p.may x e
  ·subst e;exact may_marked (p.may _ (List.getElem_mem hi)) hm hp
 ·refine ac_same p.ac (by simp) (fun j h3 h4=>?_)
  by_cases e:j=i
  ·subst e;rw [List.getElem_set_self];rfl
  ·rw [List.getElem_set_ne (by omega)]
def markE (l:List Nd) (a m:Int):Int:=if ¬ (0≤a∧a<(l.length:Int)) then 112 else if (l.getD a.toNat (0,[],0,false,0)).2.2.2.1=true then 112 else if 0≤m∧m≤2 then 0 else 1
set_option maxHeartbeats 1000000 in
theorem mark_out {B:Nat→Prop} {w:World} {h g room:Nat} {l:List Nd} (p:HpB B w h g room l) (a m:Int) (ha:¬ (0≤a∧a<(l.length:Int))):Calls Try.prog 35 #[.pointer (some ⟨h,0,none⟩),.int .i64 a,.int .i64 m] w fun e w' => e=.returned (.int .i64 112)∧Same0 w w' := by
 have k1:Same0 w (w.alloc (.cells #[.int .i64 a] 3)):=(Kept.refl _ _).alloc _
 have C:=refusal_hp (p.same k1) 1 (ints_one w a) (by simp)
 rw [refE_no ha] at C
 clear p ha
 go_enter Try.func35,Try.ntmps35
 go_wp2_with (first | (go_at_call 50;refine C.mono ?_;rintro e w' ⟨rfl,rfl⟩))
 go_ret
 exact ⟨rfl,k1⟩
set_option maxHeartbeats 2000000 in
theorem mark_in {B:Nat→Prop} {w:World} {h g room:Nat} {l:List Nd} (p:HpB B w h g room l) (i:Nat) (hi:i<l.length) (m:Int):Calls Try.prog 35 #[.pointer (some ⟨h,0,none⟩),.int .i64 (i:Int),.int .i64 m] w fun e w' =>
  (markE l (i:Int) m≠0∧e=.returned (.int .i64 (markE l (i:Int) m))∧Same0 w w')∨(markE l (i:Int) m=0∧l[i].2.2.2.1=false∧0≤m∧m≤2∧e=.returned (.int .i64 0)∧HpB B w' h g room (l.set i (marked l[i] m))∧Kept (fun k=>k=g) w w'):=by
 have k1:Same0 w (w.alloc (.cells #[.int .i64 (i:Int)] 3)):=(Kept.refl _ _).alloc _
 have p1:=p.same k1
 have C:=refusal_hp p1 1 (ints_one w (i:Int)) (by simp)
 rw [refE_one (by omega)] at C
 have C2:=isMark_any m
 obtain ⟨c0,c1⟩:=p1.cells
 have hle:=p.le
 obtain ⟨ao,ac,n0,n1,n2,n3,n4, -, -⟩:=p1.each i hi
 have i1:(0:Int)≤(i:Int):=by omega
 have i2:(i:Int)<(room:Int):=by omega
 have f2:=p1.free.2 (i * 5+2)
 have hge:l.getD i (0,[],0,false,0)=l[i]:=by simp [hi]
 obtain ⟨pb,hp⟩:∃ pb,l[i].2.2.2.1=pb:=⟨_,rfl⟩
 cases pb
 ·rw [hp] at n3
  by_cases hm:0≤m∧m≤2
  ·have e1:isMk m=true:=by simp [isMk,hm]
   rw [e1] at C2
   have M:=p1.marked hi hm (by rw [hp];intro h;cases h)
   have H:Hid (markE l (i:Int) m=0∧l[i].2.2.2.1=false∧0≤m∧m≤2∧HpB B ((w.alloc (.cells #[.int .i64 (i:Int)] 3)).setCell ⟨g,i * 5+2,none⟩ (.int .i64 m)) h g room (l.set i (marked l[i] m))∧Kept (fun k=>k=g) w ((w.alloc (.cells #[.int .i64 (i:Int)] 3)).setCell ⟨g,i * 5+2,none⟩ (.int .i64 m))):=⟨by rw [markE,if_neg (by omega)];simp [hi,hp,hm],hp,hm.1,hm.2,M.1,(k1.mono (fun _ _ f=>f.elim)).trans M.2 (fun _ _ e=>e)⟩
   clear p p1 k1 hp M e1 hge hm n0 n1 n4
   go_enter Try.func35,Try.ntmps35
   go_wp2_with (first | (go_at_call 50;refine C.mono ?_;rintro e w' ⟨rfl,rfl⟩) | (go_at_call 59;refine (C2 _).mono ?_;rintro e w' ⟨rfl,rfl⟩))
   go_ret
   obtain ⟨q1,q2,q3,q4,q5,q6⟩:=H.out
   exact .inr ⟨q1,q2,q3,q4,rfl,q5,q6⟩
  ·have e1:isMk m=false:=by simp [isMk];omega
   rw [e1] at C2
   have H:Hid (markE l (i:Int) m=1∧Same0 w (w.alloc (.cells #[.int .i64 (i:Int)] 3))):=⟨by rw [markE,if_neg (by omega)];simp [hi,hp,hm],k1⟩
   clear p p1 k1 hp e1 hge hm n0 n1 n2 n4
   go_enter Try.func35,Try.ntmps35
   go_wp2_with (first | (go_at_call 50;refine C.mono ?_;rintro e w' ⟨rfl,rfl⟩) | (go_at_call 59;refine (C2 _).mono ?_;rintro e w' ⟨rfl,rfl⟩))
   go_ret
   obtain ⟨q1,q2⟩:=H.out
   exact .inl ⟨by rw [q1];decide,ret_int q1.symm,q2⟩
 ·rw [hp] at n3
  have H:Hid (markE l (i:Int) m=112∧Same0 w (w.alloc (.cells #[.int .i64 (i:Int)] 3))):=⟨by rw [markE,if_neg (by omega)];simp [hi,hp],k1⟩
  clear p p1 k1 hp hge n0 n1 n2 n4
  go_enter Try.func35,Try.ntmps35
  go_wp2_with (first | (go_at_call 50;refine C.mono ?_;rintro e w' ⟨rfl,rfl⟩))
  go_ret
  obtain ⟨q1,q2⟩:=H.out
  exact .inl ⟨by rw [q1];decide,ret_int q1.symm,q2⟩
theorem ArgT.nil (w:World):ArgT w none [] 0:=⟨⟨.inl rfl,Nat.le_refl _,fun _=>⟨rfl,rfl⟩,by simp⟩,fun a e=>(by cases e),fun a e=>(by cases e)⟩
abbrev indN (t:Nat):Nd:=(0,[],0,true,(t:Int))
theorem may_ind {n t:Nat} (h:t<n):mayB n (indN t)=true:=by
 unfold mayB
 simp;omega
theorem HpB.pointed {B:Nat→Prop} {w:World} {h g room:Nat} {l:List Nd} (p:HpB B w h g room l) {i t:Nat} (hi:i<l.length) (ht:t<l.length) (hn:¬ Rc l t i) :
  HpB B (put5 w g (i * 5) (.int .i64 0) (.slice none 0 0) (.int .i64 0) (.bool true) (.int .i64 (t:Int))) h g room (l.set i (indN t))∧Kept (fun k=>k=g) w (put5 w g (i * 5) (.int .i64 0) (.slice none 0 0) (.int .i64 0) (.bool true) (.int .i64 (t:Int))):=by
 have hle:=p.le
 obtain ⟨q1,q2,q3⟩:=put5_nodes (B' := B) (i:=i) (x:=indN t) (ao:=none) (ac:=0) p.blk p.each (by omega) (ArgT.nil w) (fun a e=>by cases e) (fun k e=>e)
 have K:=put5_kept w g (i * 5) (.int .i64 0) (.slice none 0 0) (.int .i64 0) (.bool true) (.int .i64 (t:Int))
 refine ⟨⟨by rw [List.length_set];exact K.at p.box p.ne,q2,p.rm1,p.rm2,by simpa using hle,fun j hj=>?_,?_,?_⟩,K⟩
 ·have hj' : j<l.length:=by simpa using hj
  by_cases e:j=i
  ·subst e;rw [List.getElem_set_self];exact q1
  ·rw [List.getElem_set_ne (by omega)];exact q3 j hj' e
 ·intro x hx
  rw [List.length_set]
  rcases List.mem_or_eq_of_mem_set hx with e | e
  ·exact p.may x e
  ·subst e;exact may_ind ht
 ·refine p.ac.point hn _ (fun j hj=>?_)
  unfold downL at hj
  simp at hj
  omega
theorem refE_two {n:Nat} {a b:Int} (h:(0≤a∧a<(n:Int))∧0≤b∧b<(n:Int)):refE (n:Int) [a,b]=0:=by
 unfold refE;rw [if_pos (insB_iff.2 (by simpa using h))]
theorem refE_no2 {n:Nat} {a b:Int} (h:¬ ((0≤a∧a<(n:Int))∧0≤b∧b<(n:Int))):refE (n:Int) [a,b]=112:=by
 unfold refE;rw [if_neg (fun e=>h (by simpa using insB_iff.1 e))]
set_option maxHeartbeats 1000000 in
theorem point_out {B:Nat→Prop} {w:World} {h g room:Nat} {l:List Nd} (p:HpB B w h g room l) (a t:Int) (ha:¬ ((0≤a∧a<(l.length:Int))∧0≤t∧t<(l.length:Int))):Calls Try.prog 22 #[.pointer (some ⟨h,0,none⟩),.int .i64 a,.int .i64 t] w fun e w' => e=.returned (.int .i64 112)∧Same0 w w' := by
 have k1:Same0 w (w.alloc (.cells #[.int .i64 a,.int .i64 t] 3)):=(Kept.refl _ _).alloc _
 have C:=refusal_hp (p.same k1) 2 (ints_two w a t) (by simp)
 rw [refE_no2 ha] at C
 clear p ha
 go_enter Try.func22,Try.ntmps22
 go_wp2_with (first | (go_at_call 50;refine C.mono ?_;rintro e w' ⟨rfl,rfl⟩))
 go_ret
 exact ⟨rfl,k1⟩
set_option maxHeartbeats 2000000 in
theorem point_in {B:Nat→Prop} {w:World} {h g room:Nat} {l:List Nd} (p:HpB B w h g room l) (i t:Nat) (hi:i<l.length) (ht:t<l.length):Calls Try.prog 22 #[.pointer (some ⟨h,0,none⟩),.int .i64 (i:Int),.int .i64 (t:Int)] w fun e w' =>
  (Rc l t i∧e=.returned (.int .i64 113)∧Same0 w w')∨(¬ Rc l t i∧e=.returned (.int .i64 0)∧HpB B w' h g room (l.set i (indN t))∧Kept (fun k=>k=g) w w'):=by
 have k1:Same0 w (w.alloc (.cells #[.int .i64 (i:Int),.int .i64 (t:Int)] 3)):=(Kept.refl _ _).alloc _
 have p1:=p.same k1
 have C:=refusal_hp p1 2 (ints_two w (i:Int) (t:Int)) (by simp)
 rw [refE_two (by omega)] at C
 have CS:=stands_any (cap:=room) p1.ns i t hi ht
 obtain ⟨c0,c1⟩:=p1.cells
 have hle:=p.le
 have i1:(0:Int)≤(i:Int):=by omega
 have i2:(i:Int)<(room:Int):=by omega
 have HP:Hid (∀ ww,Same0 (w.alloc (.cells #[.int .i64 (i:Int),.int .i64 (t:Int)] 3)) ww→HpB B ww h g room l):=fun ww hk=>p1.same hk
 have HK:Hid (∀ ww,Same0 (w.alloc (.cells #[.int .i64 (i:Int),.int .i64 (t:Int)] 3)) ww→Same0 w ww):=fun ww hk=>k1.trans' hk
 clear p p1 k1
 go_enter Try.func22,Try.ntmps22
 go_upto_region 4 with (first | (go_at_call 50;refine C.mono ?_;rintro e w' ⟨rfl,rfl⟩))
 clear C
 go_upto_if 22 with (first | (go_at_call 51;refine CS.mono ?_;rintro e w2 ⟨b,rfl,hb,hk2⟩))
 clear CS c0 c1
 have HBR:Hid (b=true ↔ Rc l t i):=hb
 cases b
 ·have hn:¬ Rc l t i:=fun q=>by have:=HBR.out.2 q;cases this
  have P2:=HP.out w2 hk2
  obtain ⟨d0,d1⟩:=P2.cells
  obtain ⟨u0,u1,u2,u3,u4,t0,t1,t2,t3,t4⟩:=P2.there (show i<room by omega)
  have f0:=P2.free.2 (i * 5)
  have f1:=P2.free.2 (i * 5+1)
  have f2:=P2.free.2 (i * 5+2)
  have f3:=P2.free.2 (i * 5+3)
  have f4:=P2.free.2 (i * 5+4)
  obtain ⟨M1,M2⟩:=P2.pointed hi ht hn
  have FF:Hid (¬ Rc l t i∧HpB B (put5 w2 g (i * 5) (.int .i64 0) (.slice none 0 0) (.int .i64 0) (.bool true) (.int .i64 (t:Int))) h g room (l.set i (indN t))∧Kept (fun k=>k=g) w (put5 w2 g (i * 5) (.int .i64 0) (.slice none 0 0) (.int .i64 0) (.bool true) (.int .i64 (t:Int)))):=⟨hn,M1,((HK.out w2 hk2).mono (fun _ _ f=>f.elim)).trans M2 (fun _ _ e=>e)⟩
  clear P2 M1 M2 hn hb HBR HP HK
  go_wp2
  go_ret
  obtain ⟨q1,q2,q3⟩:=FF.out
  exact .inr ⟨q1,rfl,q2,q3⟩
 ·have FF:Hid (Rc l t i∧Same0 w w2):=⟨HBR.out.1 rfl,HK.out w2 hk2⟩
  clear hb HBR HP HK
  go_wp2
  go_ret
  exact .inl ⟨FF.out.1,rfl,FF.out.2⟩
abbrev I64 (c:Int):Prop:=-9223372036854775808≤c∧c<9223372036854775808
abbrev Hp (w:World) (h g room:Nat) (l:List Nd):Prop:=HpB (fun _=>True) w h g room l
theorem HpB.any {B:Nat→Prop} {w:World} {h g room:Nat} {l:List Nd} (p:HpB B w h g room l):Hp w h g room l:=p.mono (fun _ _ _ _=>trivial)
theorem arg_nil (w:World):Arg w none [] 0:=(ArgT.nil w).1
theorem arg_one (w:World) (z:Int):Arg (w.alloc (.cells #[.int .i64 z] 3)) (some ⟨w.heap.size,0,none⟩) [z] 1:=⟨ints_one w z,Nat.le_refl _,(fun e=>by cases e),by simp⟩
theorem arg_two (w:World) (z y:Int):Arg (w.alloc (.cells #[.int .i64 z,.int .i64 y] 3)) (some ⟨w.heap.size,0,none⟩) [z,y] 2:=⟨ints_two w z y,Nat.le_refl _,(fun e=>by cases e),by simp⟩
theorem Same0.heap {w w1 w2:World} (k:Same0 w w1) {h g:Nat} (hh:w.heap.size≤h) (hg:w.heap.size≤g) (k2:Kept (fun k=>k=h∨k=g) w1 w2):Same0 w w2:=k.trans k2 (fun i hi e=>by omega)
theorem make_err {B:Nat→Prop} {w:World} {h g room:Nat} {l:List Nd} (p:HpB B w h g room l) (s:Int) {ao:Option Addr} {xs:List Int} {cap:Nat} (hx:Arg w ao xs cap) {E:Int} (hE:mkE l room s xs=E) (he:E≠0) :
  Calls Try.prog 20 #[.pointer (some ⟨h,0,none⟩),.int .i64 s,.slice ao xs.length cap] w fun e w' => e=.returned (.tuple #[.int .i64 0,.int .i64 E])∧Same0 w w' := by
 subst hE;exact make_no p s hx he
set_option maxHeartbeats 4000000 in
theorem awake11_any (w:World):Calls Try.prog 7 #[] w fun e w' => e=.returned (.bool true)∧Same0 w w' := by
 have C0:=hnew_yes 3 w (by decide) (by decide)
 go_enter Try.func7,Try.ntmps7
 go_upto_region 4 with (first | (go_at_call 8;refine C0.mono ?_;rintro e w1 ⟨h,g,rfl,p1,k1,hh,hg⟩))
 have C1:=make_yes p1 5 (arg_nil w1) (by decide)
 clear C0
 go_upto_region 5 with (first | (go_at_call 20;refine C1.mono ?_;rintro e w2 ⟨rfl,p2,k2⟩))
 have K2:Same0 w w2:=k1.heap hh hg k2
 have p2' := p2.any.same (show Same0 w2 (w2.alloc (.cells #[.int .i64 0,.int .i64 0] 3)) from (Kept.refl _ _).alloc _)
 have C2:=make_yes p2' 7 (arg_two w2 0 0) (by decide)
 clear C1 p2
 go_upto_region 6 with (first | (go_at_call 20;refine C2.mono ?_;rintro e w3 ⟨rfl,p3,k3⟩))
 have K3:Same0 w w3:=Same0.heap (Kept.alloc K2 _) hh hg k3
 have p3' := p3.any.same (show Same0 w3 (w3.alloc (.cells #[.int .i64 2] 3)) from (Kept.refl _ _).alloc _)
 have C3:=make_err p3' 8 (arg_one w3 2) (E:=112) (by decide) (by decide)
 clear C2 p3 p2'
 go_upto_region 7 with (first | (go_at_call 20;refine C3.mono ?_;rintro e w4 ⟨rfl,k4⟩))
 have p4:=p3'.same k4
 have K4:Same0 w w4:=Same0.trans' (Kept.alloc K3 _) k4
 have C4:=hat_yes p4 1 (by decide)
 clear C3 p3'
 have HP:Hid (∀ ww,Same0 w4 ww→Hp ww h g 3 ([] ++ [(5,[],0,false,0)] ++ [(7,[0,0],0,false,0)])):=fun ww hk=>p4.same hk
 go_upto_region 8 with (first | (go_at_call 26;refine C4.mono ?_;rintro e w5 ⟨bo,bc,rfl,ha,hbb,k5⟩))
 have p6:=HP.out _ (Kept.alloc k5 (.cells #[.int .i64 7,.slice bo 2 bc,.int .i64 0,.bool false,.int .i64 0] 47))
 have C6:=room_any p6
 have C7:=used_any p6
 have K6:Hid (Same0 w (w5.alloc (.cells #[.int .i64 7,.slice bo 2 bc,.int .i64 0,.bool false,.int .i64 0] 47))):=Same0.trans' K4 (Kept.alloc k5 _)
 clear C4 HP p6 p4 p1 ha hbb
 go_wp2_with (first | (go_at_call 27;refine C6.mono ?_;rintro e w7 ⟨rfl,rfl⟩) | (go_at_call 17;refine C7.mono ?_;rintro e w7 ⟨rfl,rfl⟩))
 go_ret
 exact ⟨rfl,K6.out⟩
end Go.Proofs.Ytmloedlkoijfbaa
namespace Go.Proofs.Ytmloedlkoijfbaa
set_option maxRecDepth 100000
set_option linter.unusedVariables false
open Go.RowKit Go.Deep
theorem i64_wf {n:Int} (h:(Lit.int .i64 n).wf=true):I64 n:=by
 have h1:(IntKind.i64.min≤n)∧n≤IntKind.i64.max:=by simpa [Lit.wf] using h
 have e1:IntKind.i64.min = -9223372036854775808:=by decide
 have e2:IntKind.i64.max=9223372036854775807:=by decide
 omega
abbrev Raw4:=Int × Int × Int × Int
def Raw4.ok (x:Raw4):Prop:=I64 x.1∧I64 x.2.1∧I64 x.2.2.1∧I64 x.2.2.2
def RawsAt (w:World) (ro:Option Addr) (rs:List Raw4):Prop:=
 rs=[]∨∃ b off,ro=some ⟨b,off,none⟩∧b<w.heap.size∧∀ i (h:i<rs.length),w.cell? ⟨b,off+i * 4,none⟩=some (.int .i64 rs[i].1)∧w.cell? ⟨b,off+i * 4+1,none⟩=some (.int .i64 rs[i].2.1)∧w.cell? ⟨b,off+i * 4+2,none⟩=some (.int .i64 rs[i].2.2.1)∧w.cell? ⟨b,off+i * 4+3,none⟩=some (.int .i64 rs[i].2.2.2)
theorem RawsAt.same {w w' : World} {ro:Option Addr} {rs:List Raw4} (h:RawsAt w ro rs) (hk:Same0 w w'):RawsAt w' ro rs:=by
 refine h.imp id ?_
 rintro ⟨b,off,rfl,hlt,hc⟩
 refine ⟨b,off,rfl,Nat.lt_of_lt_of_le hlt hk.size,fun i hi=>?_⟩
 obtain ⟨h0,h1,h2,h3⟩:=hc i hi
 exact ⟨(hk.cell (p:=⟨b,off+i * 4,none⟩) hlt (fun f=>f)).trans h0,(hk.cell (p:=⟨b,off+i * 4+1,none⟩) hlt (fun f=>f)).trans h1,(hk.cell (p:=⟨b,off+i * 4+2,none⟩) hlt (fun f=>f)).trans h2,(hk.cell (p:=⟨b,off+i * 4+3,none⟩) hlt (fun f=>f)).trans h3⟩
theorem RawsAt.get {w:World} {ro:Option Addr} {rs:List Raw4} (h:RawsAt w ro rs) {i:Nat} (hi:i<rs.length):∃ b off,ro=some ⟨b,off,none⟩∧w.cell? ⟨b,off+i * 4,none⟩=some (.int .i64 rs[i].1)∧w.cell? ⟨b,off+i * 4+1,none⟩=some (.int .i64 rs[i].2.1)∧w.cell? ⟨b,off+i * 4+2,none⟩=some (.int .i64 rs[i].2.2.1)∧w.cell? ⟨b,off+i * 4+3,none⟩=some (.int .i64 rs[i].2.2.2):=by
 rcases h with rfl | ⟨b,off,e,hlt,hc⟩
 ·simp at hi
 ·exact ⟨b,off,e,hc i hi⟩
section
variable {H : Type} {enc : TypeId × Value → H} {w : World} {spare : Nat → Bool} {held : Bool}
theorem open_ints64 {t fuel:Nat} {ao:Option Addr} {len cap:Nat} {x:DataW H × List MemPlace} (ht:Try.prog.underlying t=some (.slice 3)) (h:DataW.trod enc Try.prog w 0 spare held fuel t [.slice ao len cap]=some x) (hw:∀ n∈x.1.weights Try.prog t,n≤reachBytes) :
  ∃ xs:List Int,xs.length=len∧Arg w ao xs cap∧∀ z∈xs,I64 z:=by
 obtain ⟨ao', cap', xs,e,ha⟩:=open_ints ht h hw
 simp only [List.cons.injEq,Value.slice.injEq,and_true] at e
 obtain ⟨rfl,rfl,rfl⟩:=e
 refine ⟨xs,rfl,ha,fun z hz=>?_⟩
 obtain ⟨i,hi,rfl⟩:=List.mem_iff_getElem.1 hz
 obtain ⟨b,off,e,hlt,hc⟩:=ha.at'.get hi
 rcases open_elems ht cells_int (by omega) h with ⟨e1,_,_⟩ | ⟨a', e1,hl1,hl2,hall⟩
 ·rw [e] at e1;cases e1
 ·rw [e] at e1
  cases e1
  obtain ⟨_,_,cs,n,y,hl,hcell,hy⟩:=hall i hi
  obtain ⟨z,e2,_,wf⟩:=DataW.trod_int Try.underlying3 hy
  subst e2
  have q:=hcell 0 (by omega)
  simp at q
  rw [hc] at q
  simp at q
  rw [q]
  exact i64_wf wf
end
end Go.Proofs.Ytmloedlkoijfbaa
namespace Go.Proofs.Ytmloedlkoijfbaa
set_option maxRecDepth 100000
set_option linter.unusedVariables false
open Go.RowKit
attribute [local go_sem ↓] Go.wp_at_zero Go.wp_at_succ
def FullL (l:List Nd):Prop:=∀ j (h:j<l.length),l[j].2.2.2.1=false∧(1≤j→∃ t,l[j].2.1=[(j:Int)-1,t])
theorem FullL.snoc {l:List Nd} (h:FullL l) {s:Int} {xs:List Int} (hx:1≤l.length→∃ t,xs=[(l.length:Int)-1,t]):FullL (l ++ [(s,xs,0,false,0)]):=by
 intro j hj
 by_cases e:j<l.length
 ·rw [List.getElem_append_left e];exact h j e
 ·obtain rfl:j=l.length:=by simp at hj;omega
  simp
  exact hx
def NCl (B:Nat→Prop) (w:World) (vs:List Value) (l:List Nd):Prop:=
 vs.length=l.length * 5∧∀ i (h:i<l.length),∃ ao ac,vs[i * 5]? = some (.int .i64 l[i].1)∧vs[i * 5+1]? = some (.slice ao l[i].2.1.length ac)∧vs[i * 5+2]? = some (.int .i64 l[i].2.2.1)∧vs[i * 5+3]? = some (.bool l[i].2.2.2.1)∧vs[i * 5+4]? = some (.int .i64 l[i].2.2.2.2)∧ArgT w ao l[i].2.1 ac∧∀ a,ao=some a→B a.block
theorem NCl.nil (B:Nat→Prop) (w:World):NCl B w [] []:=⟨rfl,fun i h=>absurd h (Nat.not_lt_zero _)⟩
theorem NCl.kept {B S:Nat→Prop} {w w' : World} {vs:List Value} {l:List Nd} (h:NCl B w vs l) (hk:Kept S w w') (hS:∀ k,B k→S k→NotI w k):NCl B w' vs l:=by
 refine ⟨h.1,fun i hi=>?_⟩
 obtain ⟨ao,ac,h0,h1,h2,h3,h4,h5,h6⟩:=h.2 i hi
 refine ⟨ao,ac,h0,h1,h2,h3,h4,h5.kept' hk (fun a e s=>?_),h6⟩
 obtain ⟨cur,hc⟩:=h5.2 a e
 exact hS _ (h6 a e) s cur hc
theorem NCl.mono {B B' : Nat→Prop} {w:World} {vs:List Value} {l:List Nd} (h:NCl B w vs l) (hB:∀ k,k<w.heap.size→B k→B' k):NCl B' w vs l:=by
 refine ⟨h.1,fun i hi=>?_⟩
 obtain ⟨ao,ac,h0,h1,h2,h3,h4,h5,h6⟩:=h.2 i hi
 exact ⟨ao,ac,h0,h1,h2,h3,h4,h5,fun a e=>hB _ (h5.lt e) (h6 a e)⟩
theorem NCl.same {B:Nat→Prop} {w w' : World} {vs:List Value} {l:List Nd} (h:NCl B w vs l) (hk:Same0 w w'):NCl B w' vs l:=h.kept hk (fun _ _ f=>f.elim)
theorem NCl.snoc {B:Nat→Prop} {w:World} {vs:List Value} {l:List Nd} (h:NCl B w vs l) {x:Nd} {ao:Option Addr} {ac:Nat} (ha:ArgT w ao x.2.1 ac) (hb:∀ a,ao=some a→B a.block):NCl B w (vs ++ [.int .i64 x.1,.slice ao x.2.1.length ac,.int .i64 x.2.2.1,.bool x.2.2.2.1,.int .i64 x.2.2.2.2]) (l ++ [x]):=by
 refine ⟨by simp [h.1];omega,fun i hi=>?_⟩
 by_cases e:i<l.length
 ·rw [List.getElem_append_left e]
  obtain ⟨ao,ac,h0,h1,h2,h3,h4,h5,h6⟩:=h.2 i e
  have hl:=h.1
  exact ⟨ao,ac,by rw [List.getElem?_append_left (by omega)];exact h0,by rw [List.getElem?_append_left (by omega)];exact h1,by rw [List.getElem?_append_left (by omega)];exact h2,by rw [List.getElem?_append_left (by omega)];exact h3,by rw [List.getElem?_append_left (by omega)];exact h4,h5,h6⟩
 ·obtain rfl:i=l.length:=by simp at hi;omega
  have hl:=h.1
  have t:∀ j,(vs ++ [.int .i64 x.1,.slice ao x.2.1.length ac,.int .i64 x.2.2.1,.bool x.2.2.2.1,.int .i64 x.2.2.2.2])[l.length * 5+j]? = [Value.int .i64 x.1,.slice ao x.2.1.length ac,.int .i64 x.2.2.1,.bool x.2.2.2.1,.int .i64 x.2.2.2.2][j]? := fun j=>by
   rw [List.getElem?_append_right (by omega),hl,Nat.add_sub_cancel_left]
  simp only [List.getElem_append_right (Nat.le_refl _),Nat.sub_self,List.getElem_cons_zero]
  exact ⟨ao,ac,t 0,t 1,t 2,t 3,t 4,ha,hb⟩
def NRow (B:Nat→Prop) (base:Nat) (w:World) (v:Value) (l:List Nd):Prop:=∃ vs,w.ownsRow base 47 5 v l.length vs∧NCl B w vs l
theorem NRow.nil (B:Nat→Prop) (base:Nat) (w:World):NRow B base w (.slice none 0 0) []:=⟨[],World.ownsRow_nil _ _ _ _,NCl.nil B w⟩
theorem NRow.kept {B S:Nat→Prop} {base:Nat} {w w' : World} {v:Value} {l:List Nd} (h:NRow B base w v l) (hk:Kept S w w') (hn:∀ k,v.ownBlock=some k→¬ S k) (hS:∀ k,B k→S k→NotI w k):NRow B base w' v l:=by
 obtain ⟨vs,h1,h2⟩:=h
 exact ⟨vs,hk.row h1 hn,h2.kept hk hS⟩
theorem NRow.same {B:Nat→Prop} {base:Nat} {w w' : World} {v:Value} {l:List Nd} (h:NRow B base w v l) (hk:Same0 w w'):NRow B base w' v l:=h.kept hk (fun _ _ f=>f) (fun _ _ f=>f.elim)
theorem NRow.shape {B:Nat→Prop} {base:Nat} {w:World} {v:Value} {l:List Nd} (h:NRow B base w v l):∃ ao cap,v=.slice ao l.length cap:=by
 obtain ⟨vs,h1,_⟩:=h
 exact row_shape h1
theorem NRow.block {B:Nat→Prop} {base:Nat} {w:World} {v:Value} {l:List Nd} (h:NRow B base w v l) {k:Nat} (e:v.ownBlock=some k):base≤k∧k<w.heap.size∧NotI w k:=by
 obtain ⟨vs,h1,_⟩:=h
 rcases h1.2 with ⟨rfl,_⟩ | ⟨g,cap,cur,rfl,hb,hg,_⟩
 ·cases e
 ·obtain rfl:g=k:=Option.some.inj e
  exact ⟨hb,lt_of_at hg,fun c hc=>by rw [hg] at hc;cases hc⟩
def NsM (B:Nat→Prop) (w:World) (ao:Option Addr) (l:List Nd):Prop:=l=[]∨∃ b off,ao=some ⟨b,off,none⟩∧b<w.heap.size∧∀ i (hi:i<l.length),NdC B w b (off+i * 5) l[i]
theorem NsM.same {B:Nat→Prop} {w w' : World} {ao:Option Addr} {l:List Nd} (h:NsM B w ao l) (hk:Same0 w w'):NsM B w' ao l:=by
 refine h.imp id ?_
 rintro ⟨b,off,rfl,hlt,hc⟩
 exact ⟨b,off,rfl,Nat.lt_of_lt_of_le hlt hk.size,fun i hi=>(hc i hi).kept hlt hk (fun f=>f) (fun _ _ f=>f.elim)⟩
theorem NRow.mem {B:Nat→Prop} {base:Nat} {w:World} {ao:Option Addr} {cap:Nat} {l:List Nd} (h:NRow B base w (.slice ao l.length cap) l):NsM B w ao l:=by
 obtain ⟨vs,h1,h2⟩:=h
 by_cases e:l=[]
 ·exact .inl e
 ·have h1' := h1
  rcases h1.2 with ⟨q,h0⟩ | ⟨g,cap', cur,q,hb,hg,_⟩
  ·exact absurd (List.eq_nil_of_length_eq_zero h0) e
  ·cases q
   refine .inr ⟨g,0,rfl,lt_of_at hg,fun i hi=>?_⟩
   obtain ⟨ao,ac,g0,g1,g2,g3,g4,g5,g6⟩:=h2.2 i hi
   have t:∀ j u,vs[j]? = some u→w.cell? ⟨g,j,none⟩=some u:=fun j u hj=>by
    have:=h1'.cells (g:=g) rfl j u hj
    by_cases q:j=0
    ·subst q;simpa [Addr.add] using this
    ·simpa [Addr.add,q] using this
   rw [Nat.zero_add]
   exact ⟨ao,ac,t _ _ g0,t _ _ g1,t _ _ g2,t _ _ g3,t _ _ g4,g5,g6⟩
theorem wpList_nd {w0 W:World} {ops:Array Oper} {rest:List Oper} {o:Oper} {a:Act} {Q:Exit→Act→World→Prop} (hgd:o.guard=none) (s x:Operand)
  (ho:o.op=.call { callee:=.builtin .append,args:=#[s,x],argTypes:=#[32,32] })
  {B:Nat→Prop} (base:Nat) (l:List Nd) (v:Value) (hs:a.eval s=v) (hW:Same0 w0 W) (hr:NRow B base w0 v l) (y:Nd) (ao:Option Addr) (ac:Nat) (q:Nat) (hx:a.eval x=.slice (some ⟨q,0,none⟩) 1 1) (hq:W.heap[q]? = some (.cells #[.int .i64 y.1,.slice ao y.2.1.length ac,.int .i64 y.2.2.1,.bool y.2.2.2.1,.int .i64 y.2.2.2.2] 47 (0,0))) (ha:ArgT w0 ao y.2.1 ac) (hba:∀ b,ao=some b→B b.block) (hb:base≤w0.heap.size) (hsz:(l.length+1) * 56≤140737488355328)
  (h:∀ g cap w', NRow B base w' (.slice (some ⟨g,0,none⟩) (l.length+1) cap) (l ++ [y])→Kept (fun k=>v.ownBlock=some k) w0 w' → (v.ownBlock=some g∨W.heap.size≤g)→wpList Try.prog ops Q rest (a.put o.dst (.slice (some ⟨g,0,none⟩) (l.length+1) cap)) w') :
  wpList Try.prog ops Q (o :: rest) a W:=by
 obtain ⟨i,hi,hz0,hz1,hz2⟩:=info_parts info_node
 obtain ⟨vs,h1,h2⟩:=hr
 have nb:∀ k,v.ownBlock=some k→NotI w0 k:=fun k e=>(NRow.block ⟨vs,h1,h2⟩ e).2.2
 refine wpList_append_lies _ hgd s x 32 ho base 47 i _ 5 56 Try.underlying32 hi hz0 hz1 hz2 rfl (by decide) v l.length vs hs (hW.row h1 (fun _ _ f=>f)) ⟨q,0,none⟩ 1 1 [.int .i64 y.1,.slice ao y.2.1.length ac,.int .i64 y.2.2.1,.bool y.2.2.2.1,.int .i64 y.2.2.2.2] hx rfl (World.news_of_block (cs:=#[.int .i64 y.1,.slice ao y.2.1.length ac,.int .i64 y.2.2.1,.bool y.2.2.2.1,.int .i64 y.2.2.2.2]) (t:=47) (fr:=(0,0)) hq) (by intro u hu;simp at hu;rcases hu with rfl | rfl | rfl | rfl | rfl <;> rfl) (by omega) (by unfold maxLen;omega) (by omega) (Nat.le_trans hb hW.size) W.heap.size rfl ?_
 intro g cap w' hown hgrow hat hlt
 have K:Kept (fun k=>v.ownBlock=some k) w0 w' := Kept.grown (Kept.mono hW (fun _ _ f=>f.elim)) hgrow (fun _ e _=>e)
 refine h g cap w' ⟨_,by rw [List.length_append];exact hown,?_⟩ K (hat.imp id (fun e=>by omega))
 exact (h2.kept K (fun k _ e=>nb k e)).snoc (ha.kept K (fun k e=>nb k e)) hba
theorem box_node' (w:World) (x:Nd) (ao:Option Addr) (ac:Nat) {ww:World} (hk:Same0 (w.alloc (.cells #[.int .i64 x.1,.slice ao x.2.1.length ac,.int .i64 x.2.2.1,.bool x.2.2.2.1,.int .i64 x.2.2.2.2] 47)) ww) :
  ww.cell? ⟨w.heap.size,0,none⟩=some (.int .i64 x.1)∧ww.cell? ⟨w.heap.size,1,none⟩=some (.slice ao x.2.1.length ac)∧ww.cell? ⟨w.heap.size,2,none⟩=some (.int .i64 x.2.2.1)∧ww.cell? ⟨w.heap.size,3,none⟩=some (.bool x.2.2.2.1)∧ww.cell? ⟨w.heap.size,4,none⟩=some (.int .i64 x.2.2.2.2):=
 box5 (hk.at0 (heap_alloc_new w _))
theorem heap_at_node (w:World) (x:Nd) (ao:Option Addr) (ac:Nat):(w.alloc (.cells #[.int .i64 x.1,.slice ao x.2.1.length ac,.int .i64 x.2.2.1,.bool x.2.2.2.1,.int .i64 x.2.2.2.2] 47)).heap[w.heap.size]? = some (.cells #[.int .i64 x.1,.slice ao x.2.1.length ac,.int .i64 x.2.2.1,.bool x.2.2.2.1,.int .i64 x.2.2.2.2] 47 (0,0)):=heap_alloc_new w _
theorem NRow.onto {B:Nat→Prop} {w w0 w' : World} {v:Value} {l:List Nd} (h:Same0 w w0) (hr:NRow B w.heap.size w0 v l) (hk:Kept (fun k=>v.ownBlock=some k) w0 w'):Same0 w w' :=
 h.trans hk (fun i hi e=>by have:=(hr.block e).1;omega)
end Go.Proofs.Ytmloedlkoijfbaa
namespace Go.Proofs.Ytmloedlkoijfbaa
set_option maxRecDepth 100000
set_option linter.unusedVariables false
open Go.RowKit Go.Shelf
attribute [local go_sem] Oper.semAt_some
theorem hall_in (F:Fence) (n:Nat) (h22:F.fn 13) (hro:F.round=none) (p0:Option Addr) (w:World) :
  CallsIn F n Try.prog 13 #[.pointer p0] w fun e w' => e=.returned (.func (.func 44) #[] #[.pointer (some ⟨w.heap.size,0,none⟩)])∧w' = w.alloc (.cells #[.pointer p0] 24):=by
 refine callsIn_of_wp Try.func13 rfl h22 ?_ hro
 simp only [Try.ntmps13,List.size_toArray,List.length_cons,List.length_nil,Nat.reduceAdd,Nat.reduceSub,Array.replicate_succ,Array.replicate_zero,List.push_toArray,List.append_toArray,List.nil_append,List.cons_append]
 gi_wp2
 go_ret
 exact ⟨rfl,rfl⟩
end Go.Proofs.Ytmloedlkoijfbaa
namespace Go.Proofs.Ytmloedlkoijfbaa
set_option maxRecDepth 100000
set_option linter.unusedVariables false
open Go.RowKit
attribute [local go_sem ↓] Go.wp_at_zero Go.wp_at_succ
theorem HpB.news {B:Nat→Prop} {w:World} {h g room:Nat} {l:List Nd} (p:HpB B w h g room l):∃ vs:List Value,NCl B w vs l∧(∀ j u,vs[j]? = some u→w.cell? ((⟨g,0,none⟩:Addr).add j)=some u)∧∀ u∈vs,u.oneCell' = true:=by
 obtain ⟨cs,h1,h2⟩:=p.blk
 have hle:=p.le
 have at' : ∀ o,o<l.length * 5→(cs.toList.take (l.length * 5))[o]? = w.cell? ⟨g,o,none⟩:=fun o ho=>by
  rw [List.getElem?_take,if_pos ho,cellAt h1]
  simp
 have hN:NCl B w (cs.toList.take (l.length * 5)) l:=by
  refine ⟨by simp [h2];omega,fun i hi=>?_⟩
  obtain ⟨ao,ac,n0,n1,n2,n3,n4,n5,n6⟩:=p.each i hi
  exact ⟨ao,ac,(at' _ (by omega)).trans n0,(at' _ (by omega)).trans n1,(at' _ (by omega)).trans n2,(at' _ (by omega)).trans n3,(at' _ (by omega)).trans n4,n5,n6⟩
 refine ⟨_,hN,fun j u hj=>?_,fun u hu=>?_⟩
 ·have hlt:j<l.length * 5:=by have:=(List.getElem?_eq_some_iff.1 hj).1;simp at this;omega
  rw [at' j hlt] at hj
  by_cases q:j=0
  ·subst q;simpa [Addr.add] using hj
  ·simpa [Addr.add,q] using hj
 ·obtain ⟨j,hj,rfl⟩:=List.mem_iff_getElem.1 hu
  have hjl:j<l.length * 5:=by rw [hN.1] at hj;exact hj
  obtain ⟨ao,ac,n0,n1,n2,n3,n4,_⟩:=hN.2 (j / 5) (by omega)
  have e:j=j / 5 * 5+j % 5:=by omega
  have hm:j % 5<5:=Nat.mod_lt _ (by decide)
  have q:∀ (o:Nat) (u:Value),(cs.toList.take (l.length * 5))[o]? = some u→o=j→u.oneCell' = true→((cs.toList.take (l.length * 5))[j]).oneCell' = true:=fun o u ho hoj hu1=>by
   subst hoj
   rw [List.getElem?_eq_getElem hj] at ho
   simp only [Option.some.injEq] at ho
   rw [ho];exact hu1
  match hq:j % 5,hm with
  | 0,_=>exact q _ _ n0 (by omega) rfl
  | 1,_=>exact q _ _ n1 (by omega) rfl
  | 2,_=>exact q _ _ n2 (by omega) rfl
  | 3,_=>exact q _ _ n3 (by omega) rfl
  | 4,_=>exact q _ _ n4 (by omega) rfl
theorem eqnilN (w:World) (a:Option Addr) (n c n' c' : Nat):(binOp .eql 32 (.slice a n c) (.slice none n' c')).run Try.prog w=.ok (.bool a.isNone) w:=Lib.run_eql_slice_nil w _ _ a n c n' c' Try.underlying32
set_option maxHeartbeats 1000000 in
theorem cloneN_any {B:Nat→Prop} {w:World} {h g room:Nat} {l:List Nd} (p:HpB B w h g room l) :
  Calls Try.prog 45 #[.slice (some ⟨g,0,none⟩) l.length room] w fun e w' => ∃ v,e=.returned v∧NRow B w.heap.size w' v l∧Same0 w w' := by
 have hnil:=eqnilN
 have k0:Same0 w (w.alloc (.cells #[] 47)):=(Kept.refl _ w).alloc _
 have r0:(w.alloc (.cells #[] 47)).ownsRow w.heap.size 47 5 (.slice (some ⟨w.heap.size,0,none⟩) 0 0) 0 []:=
  ⟨rfl,.inr ⟨w.heap.size,0, #[],rfl,Nat.le_refl _,heap_alloc_new w _,Nat.le_refl _,by unfold maxLen;omega,rfl,rfl⟩⟩
 obtain ⟨vs,hN,hc,hone⟩:=(p.same k0).news
 have hle:=p.le
 have hr2:=p.rm2
 obtain ⟨i,hi,hz0,hz1,hz2⟩:=info_parts info_node
 have HN:Hid (NCl B (w.alloc (.cells #[] 47)) vs l):=hN
 have HK0:Hid (Same0 w (w.alloc (.cells #[] 47))):=k0
 have z0:=k0.size
 have hvl:vs.length=l.length * 5:=hN.1
 have HVL:Hid (vs.length=l.length * 5):=hvl
 have HR0:Hid ((w.alloc (.cells #[] 47)).ownsRow w.heap.size 47 5 (.slice (some ⟨w.heap.size,0,none⟩) 0 0) 0 []):=r0
 clear p k0 hN hvl
 go_enter Try.func45,Try.ntmps45
 go_wp2_with (first | (at_builtin;refine wpList_append_own _ rfl _ _ 32 rfl w.heap.size 47 i _ 5 56 Try.underlying32 hi hz0 hz1 hz2 rfl (by decide) _ 0 [] rfl HR0.out ⟨g,0,none⟩ l.length room vs rfl (by rw [HVL.out]) hc hone (by unfold maxLen;omega) (by omega) z0 ?_;intro v' w4 hown hgrow hx4))
 go_ret
 have K:Kept (fun k=>(Value.slice (some ⟨w.heap.size,0,none⟩) 0 0).ownBlock=some k) (w.alloc (.cells #[] 47)) w4:=Kept.grown (Kept.refl _ _) hgrow (fun _ e _=>e)
 refine ⟨_,rfl,⟨vs,by simpa using hown,HN.out.kept K (fun k _ e=>?_)⟩,HK0.out.trans K (fun i hi e=>by have:=(HR0.out.lt i e).1;omega)⟩
 have e' : w.heap.size=k:=Option.some.inj e
 intro cur hcur
 rw [← e', heap_alloc_new w] at hcur
 cases hcur
end Go.Proofs.Ytmloedlkoijfbaa
namespace Go.Proofs.Ytmloedlkoijfbaa
set_option maxRecDepth 100000
set_option linter.unusedVariables false
open Go.RowKit Go.Shelf
attribute [local go_sem] Oper.semAt_some
def NdLk (n0:Nat) (l:List Nd) (k:Nat) (vs:Array Value) (W:World):Prop:=
 ∃ (h:k<l.length) (bo:Option Addr) (bc:Nat),vs = #[.int .i64 (k:Int),nodeV l[k] bo bc]∧ArgT W bo l[k].2.1 bc∧∀ a,bo=some a→n0≤a.block
set_option maxHeartbeats 2000000 in
theorem hands_heap {B:Nat→Prop} {n:Nat} {w wx:World} {h g room:Nat} {l:List Nd} (p:HpB B w h g room l) (hwx:Same0 w wx) {Bn:Nat} (hbx:wx.cell? ⟨Bn,0,none⟩=some (.pointer (some ⟨h,0,none⟩))) (hn:1≤n) :
  HandsC Fence.wide n Try.prog 44 #[.pointer (some ⟨Bn,0,none⟩)] B l.length (NdLk wx.heap.size l) wx:=by
 intro l' J Z W hW hJ hZ hY h0
 have hFn:∀ k,Fence.wide.fn k:=fun _=>trivial
 have s1:W.cell? ⟨Bn,0,none⟩=some (.pointer (some ⟨h,0,none⟩)):=(hW.cell (p:=⟨Bn,0,none⟩) (World.block_lt_of_cell? _ _ hbx) (fun f=>f)).trans hbx
 have pW0:=p.same (hwx.trans' hW)
 have pW:=pW0.mono (B' := fun i=>B i∧∃ cur,W.heap[i]? = some (.cells cur 3 (0,0))) (fun k _ ht hb=>⟨hb,ht⟩)
 have hpn:∀ ww:World,(binOp .eql 24 (.pointer (some ⟨h,0,none⟩)) (.pointer none)).run Try.prog ww=.ok (.bool false) ww:=fun ww=>by kernel_rfl
 obtain ⟨c0,c1⟩:=pW.cells
 have hle:=p.le
 have hr2:=p.rm2
 have hfew:Hid (∀ x∈l,x.2.1.length≤6):=fun x hx=>(may_facts (p.may x hx)).2.1
 have kd:Same0 W W.drew:=(Kept.refl _ _).drew
 have CC:=(callsIn_wide (n:=n-1)).2 (cloneN_any (pW.same kd))
 have l0:(0:Int)≤(l.length:Int):=by omega
 have l1:(l.length:Int)≤(room:Int):=by omega
 have hWz:=hW.size
 clear pW0 p hbx
 refine callsIn_of_wp Try.func44 rfl trivial ?_ rfl
 simp only [Try.ntmps44,List.size_toArray,List.length_cons,List.length_nil,Nat.reduceAdd,Nat.reduceSub,Array.replicate_succ,Array.replicate_zero,List.push_toArray,List.append_toArray,List.nil_append,List.cons_append]
 have CN:=cloneN_any (pW.same kd)
 obtain ⟨c0d,c1d⟩:=(pW.same kd).cells
 have s1d:W.drew.cell? ⟨Bn,0,none⟩=some (.pointer (some ⟨h,0,none⟩)):=s1
 clear CC
 gi_upto_region 1 with fail
 refine wpIn_wide.2 ?_
 refine Code.wp_mono (Q:=Exit.then _ (fun _ _ _=>False)) (fun e a w h=>by cases e <;> first | exact h | exact h.elim) ?_
 have S0:W.drew.cell? ⟨Bn,0,none⟩=some (.pointer (some ⟨h,0,none⟩))∧W.drew.cell? ⟨h,0,none⟩=some (.slice (some ⟨g,0,none⟩) room room)∧W.drew.cell? ⟨h,1,none⟩=some (.int .i64 (l.length:Int)):=⟨s1d,c0d,c1d⟩
 have HSK:Hid (∀ ww,Same0 W.drew ww→ww.cell? ⟨Bn,0,none⟩=some (.pointer (some ⟨h,0,none⟩))∧ww.cell? ⟨h,0,none⟩=some (.slice (some ⟨g,0,none⟩) room room)∧ww.cell? ⟨h,1,none⟩=some (.int .i64 (l.length:Int))):=fun ww hk=>⟨(hk.cell (p:=⟨Bn,0,none⟩) (World.block_lt_of_cell? _ _ s1d) (fun f=>f)).trans s1d,((pW.same kd).same hk).cells.1,((pW.same kd).same hk).cells.2⟩
 clear s1 s1d c0 c1 c0d c1d
 go_region_held3 (fun ww=>ww.cell? ⟨Bn,0,none⟩=some (.pointer (some ⟨h,0,none⟩))∧ww.cell? ⟨h,0,none⟩=some (.slice (some ⟨g,0,none⟩) room room)∧ww.cell? ⟨h,1,none⟩=some (.int .i64 (l.length:Int))) (first | exact S0 | exact cc1) (first | (go_at_call 45;refine CN.mono ?_;rintro e w2 ⟨v,rfl,hrow,k2⟩;obtain ⟨vo,vc,rfl⟩:=hrow.shape;have cc1:=HSK.out w2 k2))
 obtain ⟨C,hC⟩:∃ C:Nat→Prop,C=fun i=>(Value.slice vo l.length vc).ownBlock=some i∨(B i∧∃ cur,W.heap[i]? = some (.cells cur 3 (0,0))):=⟨_,rfl⟩
 have HC1:Hid (∀ i,(Value.slice vo l.length vc).ownBlock=some i→C i):=fun i e=>by rw [hC];exact .inl e
 have HC2:Hid (∀ i,(B i∧∃ cur,W.heap[i]? = some (.cells cur 3 (0,0)))→C i):=fun i e=>by rw [hC];exact .inr e
 have kW2:Same0 W w2:=kd.trans' k2
 have HCC:Hid (CellsOf C w2):=fun i hi=>by
  rw [hC] at hi
  rcases hi with e | ⟨_,cur,e⟩
  ·obtain ⟨vs,h1,_⟩:=hrow
   rcases h1.2 with ⟨e1,_⟩ | ⟨g', cap', cur', e1,_,hg', _⟩
   ·rw [e1] at e;cases e
   ·rw [e1] at e
    have e2:g' = i:=Option.some.inj e
    exact ⟨cur', _,_,e2 ▸ hg'⟩
  ·exact ⟨cur,_,_,kW2.at0 e⟩
 have HJ0:Hid (J C 0 w2):=h0 C w2 kW2 HCC.out (fun i hi=>by
  rw [hC] at hi
  rcases hi with e | ⟨e,_⟩
  ·exact .inl (hrow.block e).1
  ·exact .inr e)
 have HROW:Hid (NRow (fun i=>B i∧∃ cur,W.heap[i]? = some (.cells cur 3 (0,0))) W.heap.size w2 (.slice vo l.length vc) l):=hrow
 have hz2:wx.heap.size≤w2.heap.size:=by have:=kW2.size;omega
 clear hC hrow cc1 S0 HSK CN pW kd k2 kW2 h0 hpn
 gi_wp2_with fail
 gi_loopw [18] (fun i wr=>∃ k:Nat,k≤l.length∧i=.int .i64 k∧Hid (NRow (fun i=>B i∧∃ cur,W.heap[i]? = some (.cells cur 3 (0,0))) W.heap.size wr (.slice vo l.length vc) l)∧Hid (CellsOf C wr)∧Hid (J C k wr)∧wx.heap.size≤wr.heap.size) (fun i _=>l.length-(intOf i).toNat)
 case atStart=>exact ⟨0,Nat.zero_le _,rfl,HROW,HCC,HJ0,hz2⟩
 case round=>
  clear HROW HCC HJ0 hz2
  obtain ⟨k,hk,rfl,HROW,HCC,HJ,hz⟩:=hrel
  by_cases hlt:k<l.length
  ·have i1:(0:Int)≤(k:Int):=by omega
   have i2:(k:Int)<(l.length:Int):=by omega
   have h6:=hfew.out _ (List.getElem_mem hlt)
   rcases HROW.out.mem with e | ⟨nb,noff,e,hnb,hnn⟩
   ·rw [e] at hlt;simp at hlt
   subst e
   obtain ⟨xo,xc,n0,n1,n2,n3,n4,n5, -⟩:=hnn k hlt
   obtain ⟨wa,hwa⟩:∃ wa,wa=wr.alloc (.cells #[.int .i64 l[k].1,.slice xo l[k].2.1.length xc,.int .i64 l[k].2.2.1,.bool l[k].2.2.2.1,.int .i64 l[k].2.2.2.2] 47):=⟨_,rfl⟩
   have ka:Same0 wr wa:=by rw [hwa];exact (Kept.refl _ _).alloc _
   obtain ⟨x0,x1,x2,x3,x4⟩:=box_node' wr l[k] xo xc (show Same0 _ wa by rw [hwa];exact Kept.refl _ _)
   have CC:=(callsIn_wide (n:=n-1)).2 (copied_any (x:=l[k]) (ac:=xc) (n5.same ka).1 (by omega))
   have HYY:Hid (∀ X vs,CellsOf C X→J C k X→NdLk wx.heap.size l k vs X→YieldAt Fence.wide (n-1) Try.prog l' vs X fun e Y=>(e=.returned (.bool true)∧J C (k+1) Y∧Kept (fun i=>¬ C i) X Y)∨(e=.returned (.bool false)∧Z Y)):=fun X vs h1 h2 h3=>hY C k vs X hlt h1 h2 h3
   have HJJ:Hid (∀ X,Same0 wr X→J C k X∧CellsOf C X∧NRow (fun i=>B i∧∃ cur,W.heap[i]? = some (.cells cur 3 (0,0))) W.heap.size X (.slice (some ⟨nb,noff,none⟩) l.length vc) l):=fun X h1=>⟨hJ C k wr X HJ.out h1,HCC.out.same h1,HROW.out.same h1⟩
   have hza:wx.heap.size≤wa.heap.size:=Nat.le_trans hz ka.size
   clear n5 hnn
   gi_wp2_with (gi_at_call 46;rw [← hwa];refine CC.mono ?_;rintro e w3 ⟨bo,bc,rfl,t1,t2,k3⟩;obtain ⟨jj,jc,jr⟩:=HJJ.out w3 (ka.trans' k3);obtain ⟨fn,tmps,asg,bdy,hy,hR⟩:=HYY.out w3 _ jc jj ⟨hlt,bo,bc,rfl,t1,fun a e=>Nat.le_trans hza (t2 a e)⟩)
   refine hR.mono ?_
   rintro e w4 (⟨rfl,hj4,hk4⟩ | ⟨rfl,hz4⟩)
   rotate_left
   ·clear hR hy CC HYY HJJ
    gi_wp2_with fail
    go_returns
    exact ⟨⟨_,rfl⟩,.inr hz4⟩
   have HR4:Hid (NRow (fun i=>B i∧∃ cur,W.heap[i]? = some (.cells cur 3 (0,0))) W.heap.size w4 (.slice (some ⟨nb,noff,none⟩) l.length vc) l):=jr.kept hk4 (fun i e q=>q (HC1.out i e)) (fun i e q=>absurd (HC2.out i e) q)
   have HC4:Hid (CellsOf C w4):=jc.kept hk4
   have HJ4:Hid (J C (k+1) w4):=hj4
   have hz4:wx.heap.size≤w4.heap.size:=by have h1:=k3.size;have h2:=hk4.size;omega
   clear hR hy HYY HJJ CC x0 x1 x2 x3 x4 n0 n1 n2 n3 n4 t1 t2 jj jc jr hj4 hk4
   gi_wp2_with fail
   go_roundw
   case rel=>exact ⟨k+1,by omega,by go_num,HR4,HC4,HJ4,hz4⟩
   case measure=>simp [intOf];omega
  ·obtain rfl:k=l.length:=by omega
   gi_wp2_with fail
   go_end0
   exact ⟨⟨_,rfl⟩,.inl ⟨C,HJ.out⟩⟩
end Go.Proofs.Ytmloedlkoijfbaa
