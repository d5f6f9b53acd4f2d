import Derived.Test.YtflcpepjmonlpaaGreatDoorSL11
import Derived.Test.YtflcpepjmonlpaaGreatDoorSL15
import Derived.Test.YtflcpepjmonlpaaGreatDoorSL02
import Derived.Test.YtflcpepjmonlpaaGreatDoorSL03
import Derived.Test.YtflcpepjmonlpaaGreatDoorSL14
import Derived.Test.YtflcpepjmonlpaaGreatDoorSL09
import Derived.Test.YtflcpepjmonlpaaGreatDoorSL12
import Derived.Test.YtflcpepjmonlpaaGreatDoorSL05
import Derived.Laws.StructEq
import Derived.Test.YtflcpepjmonlpaaGreatDoorSL06
import Derived.Test.YtflcpepjmonlpaaGreatDoorSL10
namespace Go.Proofs.YtflcpepjmonlpaaGreatDoor
set_option linter.unusedVariables false
def Agr (L L' : List Sym) (J:List Int):Prop:=∀ x∈J,arN L' x=arN L x
theorem scan_agr {L L' : List Sym}:∀ (ts:List Int) (k:Nat),Agr L L' ts→scan L' k ts=scan L k ts
 | ts,0,h=>by rw [scan_zero,scan_zero]
 | [],k+1,h=>rfl
 | x :: r,k+1,h=>by rw [scan,scan,h x (List.mem_cons_self ..),scan_agr r _ (fun y hy=>h y (List.mem_cons_of_mem _ hy))]
theorem need_agr {L L' : List Sym}:∀ (ts:List Int) (k:Nat),Agr L L' ts→need L' k ts=need L k ts
 | [],k,h=>by cases k <;> rfl
 | x :: r,0,h=>rfl
 | x :: r,k+1,h=>by rw [need,need,h x (List.mem_cons_self ..),need_agr r _ (fun y hy=>h y (List.mem_cons_of_mem _ hy))]
section
variable {L L' : List Sym} {J : List Int}
theorem endN_agr (h:Agr L L' J) (p:Nat):endN L' J p=endN L J p:=by
 unfold endN endO
 rw [scan_agr _ _ (fun x hx=>h x (List.mem_of_mem_drop hx))]
theorem starts_agr (h:Agr L L' J):∀ k p:Nat,starts L' J k p=starts L J k p
 | 0,p=>rfl
 | k+1,p=>by rw [starts,starts,endN_agr h,starts_agr h k]
theorem at_agr (h:Agr L L' J) (h0:arN L' 0=arN L 0) (x:Int):arN L' (at' J x)=arN L (at' J x):=by
 unfold at'
 by_cases hx:x.toNat<J.length
 ·rw [List.getD_eq_getElem?_getD,List.getElem?_eq_getElem hx]
  exact h _ (List.getElem_mem hx)
 ·rw [List.getD_eq_getElem?_getD,List.getElem?_eq_none (by omega)]
  exact h0
theorem uniF_agr (h:Agr L L' J):∀ (n:Nat) (ld:Int→Int) (rs:List (Nat × Nat × Nat)),uniF L' J n ld rs=uniF L J n ld rs
 | 0,_,_=>rfl
 | n+1,ld,[]=>rfl
 | n+1,ld,(x,y,o) :: r=>by simp only [uniF,endN_agr h,uniF_agr h n]
theorem sizF_agr (h:Agr L L' J) (h0:arN L' 0=arN L 0) (ld:Int→Int):∀ n:Nat,sizF L' J ld n=sizF L J ld n
 | 0=>rfl
 | n+1=>by
  funext sz x
  simp only [sizF,kidsL,starts_agr h,at_agr h h0,sizF_agr h h0 ld n]
theorem solF_agr (h:Agr L L' J) (h0:arN L' 0=arN L 0) (m:Nat):solF L' J m=solF L J m:=by
 unfold solF
 rw [uniF_agr h,endN_agr h]
 simp only [sizF_agr h h0]
end
theorem defB_grow {L X:List Sym} {x:Int} (h:x<(L.length:Int)):defB (L++X) x=defB L x:=by
 unfold defB
 by_cases hx:x<0
 ·rw [if_pos hx,if_pos hx]
 ·rw [if_neg hx,if_neg hx,List.getElem?_append_left (by omega)]
theorem agr_grow {L X:List Sym} {t:List Int} (h:∀ x∈t,x<(L.length:Int)):Agr L (L++X) t:=fun x hx=>arN_grow (h x hx) X
theorem check_lt {L:List Sym} {t:List Int} (h:checkE L t=0):∀ x∈t,x<(L.length:Int):=fun x hx=>((badE_zero.1 (checkE_zero.1 h).2.1) x hx).1
theorem checkE_grow {L X:List Sym} {t:List Int} (h:checkE L t=0):checkE (L++X) t=0:=by
 obtain ⟨h1,h2,h3⟩:=checkE_zero.1 h
 refine checkE_zero.2 ⟨h1,badE_zero.2 (fun x hx=>?_),?_⟩
 ·obtain ⟨a,b⟩:=badE_zero.1 h2 x hx
  exact ⟨by rw [List.length_append];omega,b⟩
 ·show need _ 1 t=some 0
  rw [need_agr _ _ (agr_grow (check_lt h))]
  exact h3
theorem meetB_grow {L X:List Sym} {a b:List Int} (hL:0<L.length) (ha:checkE L a=0) (hb:checkE L b=0):meetB (L++X) a b=meetB L a b:=by
 have e1:claE L a b=0:=by unfold claE;rw [if_neg (by simp [ha])];exact hb
 have e2:claE (L++X) a b=0:=by unfold claE;rw [if_neg (by simp [checkE_grow ha])];exact checkE_grow hb
 have hag:Agr L (L++X) (jl a b 99):=agr_grow (fun x hx=>by
  unfold jl at hx
  rcases List.mem_append.1 hx with h | h
  ·exact check_lt ha x h
  ·obtain ⟨y,hy,rfl⟩:=List.mem_map.1 h
   have:=check_lt hb y hy
   unfold shF
   split <;> omega)
 have h0:arN (L++X) 0=arN L 0:=arN_grow (by omega) X
 unfold meetB claB
 rw [e1,e2,solF_agr hag h0]
theorem ask_grow {L X:List Sym} (hL:0<L.length) {A:List Ru} {x:Ru} (hx:checkE L x.1=0∧checkE L x.2=0) (hA:∀ a∈A,checkE L a.1=0) {N M:Nat}:∀ j:Nat,askB L N A x (j+1)=true→askB (L++X) M A x (j+1)=true
 | 0,h=>by simp [askB,checkE_grow hx.1,checkE_grow hx.2]
 | 1,h=>h
 | 2,h=>by
  have h' : defB L (x.1.headD (-1))=true:=h
  have hlt:x.1.headD (-1)<(L.length:Int):=by
   by_cases e:x.1.headD (-1)<(L.length:Int)
   ·exact e
   ·rw [defB_no (.inr (by omega))] at h'; cases h'
  show defB (L++X) (x.1.headD (-1))=true
  rw [defB_grow hlt];exact h'
 | 3,h=>h
 | 4,h=>by
  have h' : x.1.tail.all (fun n=>!defB L n)=true:=h
  show x.1.tail.all (fun n=>!defB (L++X) n)=true
  rw [List.all_eq_true] at h' ⊢
  intro n hn
  rw [defB_grow (check_lt hx.1 n (List.mem_of_mem_tail hn))]
  exact h' n hn
 | 5,h=>h
 | j+6,h=>by
  have h' : A.all (fun a=>!meetB L a.1 x.1)=true:=by
   cases j <;> exact h
  have g:A.all (fun a=>!meetB (L++X) a.1 x.1)=true:=by
   rw [List.all_eq_true] at h' ⊢
   intro a ha
   rw [meetB_grow hL (hA a ha) hx.1]
   exact h' a ha
  cases j <;> exact g
theorem GoodR.grow {L:List Sym} {R:List Ru} (h:GoodR L R) (X:List Sym):GoodR (L++X) R:=by
 refine ⟨h.1,fun i hi j hj=>?_⟩
 have hck:∀ m (hm:m<R.length),checkE L R[m].1=0∧checkE L R[m].2=0:=fun m hm=>by
  have:=h.2 m hm 0 (by omega)
  simpa [askB] using this
 have hL:0<L.length:=by
  have h3:defB L (R[i].1.headD (-1))=true:=h.2 i hi 2 (by omega)
  by_cases e:0<L.length
  ·exact e
  ·have:L=[]:=List.eq_nil_of_length_eq_zero (by omega)
   subst this
   unfold defB at h3
   split at h3
   ·cases h3
   ·simp at h3
 refine ask_grow hL (hck i hi) (fun a ha=>?_) j (h.2 i hi j hj)
 obtain ⟨m,hm,rfl⟩:=List.getElem_of_mem ha
 rw [List.getElem_take]
 exact (hck _ _).1
theorem GoodR.ans {L:List Sym} {R:List Ru} (h:GoodR L R):Ans L [] R []:=by
 refine .inl ⟨rfl,fun i hi m hm=>?_,fun m hm=>absurd hm (by omega)⟩
 unfold ckB
 have e:R.getD m ([],[])=R[m]:=by simp [hm]
 rw [e]
 cases i with
 | zero=>
  have:=h.1
  simp [askB,this]
 | succ i=>
  have:=h.2 m hm i (by omega)
  rw [ask_any L _ 0]
  simpa using this
end Go.Proofs.YtflcpepjmonlpaaGreatDoor
namespace Go.Proofs.YtflcpepjmonlpaaGreatDoor
set_option maxRecDepth 100000
set_option linter.unusedVariables false
open Go.RowKit
attribute [local go_sem ↓] Go.wp_at_zero Go.wp_at_succ
structure SyAt (w:World) (y:Nat) (sp:Option Addr) (V:Nat) (L:List Sym) (R:List Ru):Prop where
 blk:w.heap[y]? = some (.cells #[.pointer sp,.int .i64 (V:Int)] 123 (0,0))
 g:SyG w sp L R
theorem SyAt.same {w w' : World} {y:Nat} {sp:Option Addr} {V:Nat} {L:List Sym} {R:List Ru} (h:SyAt w y sp V L R) (hk:Same0 w w'):SyAt w' y sp V L R:=⟨hk.at0 h.blk,h.g.same hk⟩
theorem yy_nil (b:Nat) (w:World):(binOp .eql 24 (.pointer (some ⟨b,0,none⟩)) (.pointer none)).run Tryz.prog w=.ok (.bool false) w:=by kernel_rfl
theorem SyAt.put {w:World} {y:Nat} {sp sp' : Option Addr} {V V' : Nat} {L L' : List Sym} {R R' : List Ru} (h:SyAt w y sp V L R) (hg:SyG w sp' L' R'):SyAt (w.setCell ⟨y,0,none⟩ (.pointer sp')) y sp' V L' R' ∧ SyAt ((w.setCell ⟨y,0,none⟩ (.pointer sp')).setCell ⟨y,1,none⟩ (.int .i64 (V' : Int))) y sp' V' L' R' ∧ Kept (fun k=>k=y) w (w.setCell ⟨y,0,none⟩ (.pointer sp'))∧Kept (fun k=>k=y) w ((w.setCell ⟨y,0,none⟩ (.pointer sp')).setCell ⟨y,1,none⟩ (.int .i64 (V' : Int))):=by
 have k1:=kept_at w y 0 (.pointer sp')
 have k2:=Kept.setCell (p:=⟨y,1,none⟩) k1 (fun _=>rfl) (.int .i64 (V' : Int))
 have s1:=setAt h.blk 0 (.pointer sp')
 have s2:=setAt s1 1 (.int .i64 (V' : Int))
 have far:∀ k,k=y→FarY w k:=fun k e=>by subst e;exact .inr (.inl ⟨_,h.blk⟩)
 exact ⟨⟨s1,hg.keptY k1 far⟩,⟨s2,hg.keptY k2 far⟩,k1,k2⟩
def YRPost (L:List Sym) (R l:List Ru) (V y:Nat) (w:World) (ws:List (Int × Int)) (v:Value) (w' : World):Prop:=
 AnsY L R l ws∧FltAt w' ws v∧(∃ sp' V' R', SyAt w' y sp' V' L R' ∧ (ws=[]→v=.nilIface∧R' = R++l∧V' = V+(if l.length=0 then 0 else 1))∧(ws≠[]→(∃ k,v=.iface 141 (.pointer (some ⟨k,0,none⟩)))∧R' = R∧V' = V∧Same0 w w'))∧Kept (fun k=>k=y) w w'
set_option maxHeartbeats 8000000 in
theorem yAddRules_any {w:World} (hE:ErrT w) {y:Nat} {sp:Option Addr} {V:Nat} {L:List Sym} {R:List Ru} (h:SyAt w y sp V L R) (hV:V≤1000) {lo:Option Addr} {l:List Ru} {lc:Nat} (hl:RsAt w lo l) (hll:l.length≤140737488355328) (hlc:l.length≤lc) :
  Calls Tryz.prog 31 #[.pointer (some ⟨y,0,none⟩),.slice lo l.length lc] w fun e w' => ∃ ws v,e=.returned v∧YRPost L R l V y w ws v w' := by
 have hpn:=yy_nil
 have hn1:=yerr_ne
 have hn0:=yerr_nn
 have c0:=cellAt h.blk 0
 simp only [List.getElem?_toArray,List.getElem?_cons_zero] at c0
 have CW:Calls Tryz.prog 71 #[.agg #[.pointer sp],.slice lo l.length lc] w fun e w' => ∃ ws v sp', e=.returned (.tuple #[.agg #[.pointer sp'],v])∧Hid (AnsY L R l ws∧FltAt w' ws v∧(ws=[]→v=.nilIface∧∃ p bs lv vs,sp' = some ⟨p,0,none⟩∧StAt w' p bs L (R++l) lv vs)∧(ws≠[]→∃ k,v=.iface 141 (.pointer (some ⟨k,0,none⟩))))∧Same0 w w' := (withRules_any hE h.g hl hll hlc).mono (fun e w' ⟨ws,v,sp', e1,a1,a2,a3,a4,a5⟩=>⟨ws,v,sp', e1,⟨a1,a2,a4,a5⟩,a3⟩)
 have HS:Hid (∀ ww,Same0 w ww→SyAt ww y sp V L R):=fun ww hk=>h.same hk
 clear h hE hl
 go_enter Tryz.func31,Tryz.ntmps31
 go_upto_region 4 with (first | (go_at_call 71;refine CW.mono ?_;rintro e w2 ⟨ws,v,sp', rfl,h2,k2⟩))
 obtain ⟨a1,a2,a3,a4⟩:=h2.out
 obtain ⟨w3,hw3⟩:∃ w3,w3=w2.alloc (.cells #[.pointer sp'] 121):=⟨_,rfl⟩
 have k3:Same0 w2 w3:=by rw [hw3];exact (Kept.refl _ _).alloc _
 have g3:w3.cell? ⟨w2.heap.size,0,none⟩=some (.pointer sp'):=by rw [hw3];exact cellAt (heap_alloc_new _ _) 0
 have K3:Same0 w w3:=k2.trans' k3
 rw [← hw3]
 have hS3:=HS.out w3 K3
 have y0:=cellAt hS3.blk 0
 have y1:=cellAt hS3.blk 1
 have f0:=frozenAt hS3.blk 0
 have f1:=frozenAt hS3.blk 1
 simp only [List.getElem?_toArray,List.getElem?_cons_zero,List.getElem?_cons_succ] at y0 y1
 clear hw3 h2 CW c0 k2
 by_cases hws:ws=[]
 ·obtain ⟨rfl,p,bs,lv,vs,rfl,hst⟩:=a3 hws
  subst hws
  have hg:SyG w3 (some ⟨p,0,none⟩) L (R++l):=.inr ⟨p,bs,lv,vs,rfl,hst.same k3⟩
  obtain ⟨q1,q2,q3,q4⟩:=hS3.put (V' := V+1) hg
  have HA:Hid (AnsY L R l []):=a1
  by_cases h0:l.length=0
  ·have HQ:Hid (SyAt (w3.setCell ⟨y,0,none⟩ (.pointer (some ⟨p,0,none⟩))) y (some ⟨p,0,none⟩) V L (R++l)∧Kept (fun k=>k=y) w (w3.setCell ⟨y,0,none⟩ (.pointer (some ⟨p,0,none⟩)))):=⟨q1,Kept.trans (K3.mono (fun _ _ f=>f.elim)) q3 (fun _ _ e=>e)⟩
   clear a1 a2 a3 a4 hst hg q1 q2 q3 q4 hS3 K3 k3
   have h0' : ¬ (0:Int)<(l.length:Int):=by omega
   have HV0:Hid (V=V+(if l.length=0 then 0 else 1)):=by show _=_;rw [if_pos h0];omega
   go_wp2
   go_ret
   exact ⟨[],_,rfl,HA.out,rfl,⟨_,V,_,HQ.out.1,fun _=>⟨rfl,rfl,HV0.out⟩,fun e=>absurd rfl e⟩,HQ.out.2⟩
  ·have HQ:Hid (SyAt ((w3.setCell ⟨y,0,none⟩ (.pointer (some ⟨p,0,none⟩))).setCell ⟨y,1,none⟩ (.int .i64 ((V+1:Nat):Int))) y (some ⟨p,0,none⟩) (V+1) L (R++l)∧Kept (fun k=>k=y) w ((w3.setCell ⟨y,0,none⟩ (.pointer (some ⟨p,0,none⟩))).setCell ⟨y,1,none⟩ (.int .i64 ((V+1:Nat):Int)))):=⟨q2,Kept.trans (K3.mono (fun _ _ f=>f.elim)) q4 (fun _ _ e=>e)⟩
   have s1:=setAt hS3.blk 0 (.pointer (some ⟨p,0,none⟩))
   have y2:(w3.setCell ⟨y,0,none⟩ (.pointer (some ⟨p,0,none⟩))).cell? ⟨y,1,none⟩=some (.int .i64 (V:Int)):=cellAt s1 1
   have f2:=frozenAt s1 1
   have hVw:IntKind.i64.wrap ((V:Int)+1)=((V+1:Nat):Int):=by rw [iwrap (by omega) (by omega)];omega
   clear a1 a2 a3 a4 hst hg q1 q2 q3 q4 hS3 K3 k3 s1
   have h0' : (0:Int)<(l.length:Int):=by omega
   have HV0:Hid (V+1=V+(if l.length=0 then 0 else 1)):=by show _=_;rw [if_neg h0]
   clear h0
   go_wp2
   go_ret
   exact ⟨[],_,rfl,HA.out,rfl,⟨_,V+1,_,HQ.out.1,fun _=>⟨rfl,rfl,HV0.out⟩,fun e=>absurd rfl e⟩,HQ.out.2⟩
 ·obtain ⟨k,rfl⟩:=a4 hws
  have HF:Hid (AnsY L R l ws∧FltAt w3 ws (.iface 141 (.pointer (some ⟨k,0,none⟩)))∧SyAt w3 y sp V L R∧Same0 w w3∧ws≠[]):=⟨a1,FltAt.same k3 a2,hS3,K3,hws⟩
  clear a1 a2 a3 a4 hS3 K3 k3 hws
  go_wp2
  go_ret
  obtain ⟨z1,z2,z3,z4,z5⟩:=HF.out
  exact ⟨ws,_,rfl,z1,z2,⟨sp,V,R,z3,fun e=>absurd e z5,fun _=>⟨⟨k,rfl⟩,rfl,rfl,z4⟩⟩,z4.mono (fun _ _ f=>f.elim)⟩
def UpS (L xs:List Sym) (n:Nat):Prop:=∀ i (h:i<xs.length),i<n→addErr (L++xs.take i) xs[i]=0
def AnsS (L xs:List Sym) (ws:List (Int × Int)):Prop:=
 (ws=[]∧UpS L xs xs.length)∨∃ n,∃ h:n<xs.length,UpS L xs n∧addErr (L++xs.take n) xs[n]≠0∧ws=[(100,(n:Int)),(addErr (L++xs.take n) xs[n], -1)]
theorem AnsS.uniq {L xs:List Sym} {ws ws' : List (Int × Int)} (h:AnsS L xs ws) (h' : AnsS L xs ws'):ws=ws' := by
 rcases h with ⟨e,u⟩ | ⟨n,hn,u,b,e⟩ <;> rcases h' with ⟨e', u'⟩ | ⟨n', hn', u', b', e'⟩
 ·rw [e,e']
 ·exact absurd (u n' hn' hn') b'
 ·exact absurd (u' n hn hn) b
 ·have:n=n' := by
   rcases Nat.lt_trichotomy n n' with q | q | q
   ·exact absurd (u' n hn q) b
   ·exact q
   ·exact absurd (u n' hn' q) b'
  subst this
  rw [e,e']
theorem add_ar10 {L:List Sym} {x:Sym} (h:addErr L x=0):0≤x.ar∧x.ar≤6:=by
 unfold addErr at h
 split at h
 ·cases h
 ·split at h
  ·cases h
  ·omega
theorem UpS.ars {L xs:List Sym} (h:UpS L xs xs.length) (hL:Ars L):Ars (L++xs):=by
 intro x hx
 rcases List.mem_append.1 hx with hx | hx
 ·exact hL x hx
 ·obtain ⟨i,hi,rfl⟩:=List.getElem_of_mem hx
  exact add_ar10 (h i hi hi)
theorem Own.sg {n b:Nat} {w:World} {L:List Sym} (h:Own n w b L) (hL:Ars L):Sg w.heap.size w b L:=by
 obtain ⟨sv,mr,h1,h2⟩:=h
 exact ⟨⟨sv,mr,h1,sig_foot_lt h1⟩,hL⟩
theorem SyG.ars {w:World} {sp:Option Addr} {L:List Sym} {R:List Ru} (h:SyG w sp L R):Ars L:=by
 rcases h with ⟨_,rfl,_⟩ | ⟨p,bs,lv,vs,_,hs⟩
 ·exact ars_nil
 ·exact hs.sig.2
theorem SyG.le {w:World} {sp:Option Addr} {L:List Sym} {R:List Ru} (h:SyG w sp L R):R.length≤100:=by
 rcases h with ⟨_,_,rfl⟩ | ⟨p,bs,lv,vs,_,hs⟩
 ·simp
 ·exact hs.le
theorem SymsAt.cells {w:World} {ao:Option Addr} {xs:List Sym} (h:SymsAt w ao xs.length xs) {i:Nat} (hi:i<xs.length):∃ b off,ao=some ⟨b,off,none⟩∧b<w.heap.size∧w.cell? ⟨b,off+i * 3,none⟩=some (.string xs[i].name)∧w.cell? ⟨b,off+i * 3+1,none⟩=some (.int .i64 xs[i].ar)∧w.cell? ⟨b,off+i * 3+2,none⟩=some (.bool xs[i].df):=by
 obtain ⟨_,h2,_⟩:=h
 obtain ⟨b,off,e,hb,hc⟩:=h2.resolve_left (by omega)
 exact ⟨b,off,e,hb,hc i hi⟩
set_option maxHeartbeats 16000000 in
theorem withSymbols_any {w:World} {sp:Option Addr} {L:List Sym} {R:List Ru} (h:SyG w sp L R) (hg:GoodR L R) {ao:Option Addr} {xs:List Sym} {cap:Nat} (hx:SymsAt w ao xs.length xs) (hm:xs.length≤maxLen) :
  Calls Tryz.prog 70 #[.agg #[.pointer sp],.slice ao xs.length cap] w fun e w' => ∃ ws v sp', e=.returned (.tuple #[.agg #[.pointer sp'],v])∧AnsS L xs ws∧FltAt w' ws v∧Same0 w w' ∧ (ws=[]→v=.nilIface∧∃ p bs lv vs,sp' = some ⟨p,0,none⟩∧StAt w' p bs (L++xs) R lv vs)∧(ws≠[]→∃ k,v=.iface 141 (.pointer (some ⟨k,0,none⟩))):=by
 have hLa:=h.ars
 have hRl:=h.le
 unfold maxLen at hm
 obtain ⟨W1,hW1⟩:∃ W1,W1=(w.alloc (.cells #[.pointer sp] 121)).alloc (.cells #[.pointer none] 121):=⟨_,rfl⟩
 have KW:Same0 w W1:=by rw [hW1];exact ((Kept.refl _ w).alloc _).alloc _
 have b0:W1.heap[w.heap.size]? = some (.cells #[.pointer sp] 121 (0,0)):=by rw [hW1];exact heap_alloc2_old _ _ _
 have b1:W1.heap[w.heap.size+1]? = some (.cells #[.pointer none] 121 (0,0)):=by rw [hW1];exact heap_al_al _ _ _
 have HG0:Hid (∀ ww,Same0 W1 ww→ww.cell? ⟨w.heap.size,0,none⟩=some (.pointer sp)∧SyG ww sp L R):=fun ww hk=>⟨cellAt (hk.at0 b0) 0,h.same (KW.trans' hk)⟩
 have HB:Hid (∀ ww,Same0 W1 ww→ww.cell? ⟨w.heap.size+1,0,none⟩=some (.pointer none)∧ww.frozen? ⟨w.heap.size+1,0,none⟩=false∧FarY ww (w.heap.size+1)∧∀ u,(ww.setCell ⟨w.heap.size+1,0,none⟩ u).cell? ⟨w.heap.size+1,0,none⟩=some u∧Same0 w (ww.setCell ⟨w.heap.size+1,0,none⟩ u)∧Kept (fun q=>q=w.heap.size+1) ww (ww.setCell ⟨w.heap.size+1,0,none⟩ u)):=fun ww hk=>by
  have h2:=hk.at0 b1
  refine ⟨cellAt h2 0,frozenAt h2 0,(.inl ⟨_,h2⟩),fun u=>?_⟩
  have k3:=kept_at ww (w.heap.size+1) 0 u
  exact ⟨cellAt (setAt h2 0 u) 0,Kept.trans (KW.trans' hk) k3 (fun i hi e=>by have e' : i=w.heap.size+1:=e;omega),k3⟩
 have C1:=laid_any10 (h.same KW)
 have HX:Hid (∀ ww,Same0 W1 ww→SymsAt ww ao xs.length xs):=fun ww hk=>hx.kept (KW.trans' hk).below
 have HNM:Hid (∀ x∈xs,x.name.size≤maxLen):=fun x h=>(hx.2.2 x h).1
 have HGD:Hid (GoodR L R):=hg
 obtain ⟨g0, -⟩:=HG0.out W1 (Kept.refl _ _)
 clear h hx b0 b1 hg
 go_enter Tryz.func70,Tryz.ntmps70
 go_upto_region 1 with fail
 rw [← hW1]
 clear hW1
 go_upto_region 2 with (first
  | (go_at_call 64;refine C1.mono ?_;rintro e w2 ⟨p,bs,lv,vs,rfl,hst,k2⟩;have C3:=ssig_any hst)
  | (go_at_call 69;refine C3.mono ?_;rintro e w3 ⟨b', rfl,hb', sv,mr,hsa,hfoot,k3'⟩))
 have k3:Same0 w2 w3:=k3'
 have K3:Same0 W1 w3:=k2.trans' k3
 have z23:=k3.size
 have OW3:Own w2.heap.size w3 b' L:=⟨sv,mr,hsa,hfoot⟩
 clear C1 C3 g0 hst hsa hfoot k3'
 go_wp2_with fail
 go_loopw [17] (fun i wr=>∃ n:Nat,n≤xs.length∧i=.int .i64 (n:Int)∧Same0 w2 wr∧Hid (Own w2.heap.size wr b' (L++xs.take n)∧UpS L xs n)) (fun i _=>xs.length-(intOf i).toNat)
 case atStart=>exact ⟨0,Nat.zero_le _,rfl,k3,by show _∧_;rw [List.take_zero,List.append_nil];exact ⟨OW3,fun i _ hi=>absurd hi (by omega)⟩⟩
 case round=>
  obtain ⟨n,hn,rfl,hs,ho⟩:=hrel
  obtain ⟨wz,rfl⟩:∃ wz,wz=wr:=⟨_,rfl⟩
  have KZ:Same0 W1 wz:=k2.trans' hs
  by_cases hlt:n<xs.length
  ·have i1:(0:Int)≤(n:Int):=by omega
   have i2:(n:Int)<(xs.length:Int):=by omega
   have hl3:IntKind.i64.wrap ((n:Int)+1)=(n:Int)+1:=iwrap (by omega) (by omega)
   obtain ⟨xb,off,rfl,hxb,x0,x1,x2⟩:=(HX.out wz KZ).cells hlt
   obtain ⟨WA,hWA⟩:∃ WA,WA=wz.alloc (.cells #[.string xs[n].name,.int .i64 xs[n].ar,.bool xs[n].df] 60):=⟨_,rfl⟩
   have ka:Same0 wz WA:=by rw [hWA];exact (Kept.refl _ _).alloc _
   have bx:WA.heap[wz.heap.size]? = some (.cells #[.string xs[n].name,.int .i64 xs[n].ar,.bool xs[n].df] 60 (0,0)):=by rw [hWA];exact heap_alloc_new _ _
   have c0:=cellAt bx 0
   have c1:=cellAt bx 1
   have c2:=cellAt bx 2
   simp only [List.getElem?_toArray,List.getElem?_cons_zero,List.getElem?_cons_succ] at c0 c1 c2
   have hsz:w2.heap.size≤WA.heap.size:=(hs.trans' ka).size
   have OA:Own w2.heap.size WA b' (L++xs.take n):=ho.out.1.kept ka (fun _ _ f=>f.elim)
   have CA:=OA.add hsz xs[n] (HNM.out _ (List.getElem_mem hlt))
   have hsA:=hs.trans' ka
   have HUP:Hid (UpS L xs n):=ho.out.2
   have HKA:Hid (Same0 w2 WA):=hsA
   clear bx OA ho
   by_cases he:addErr (L++xs.take n) xs[n]=0
   ·have CA2:Calls Tryz.prog 117 #[.pointer (some ⟨b', 0,none⟩),.agg #[.string xs[n].name,.int .i64 xs[n].ar,.bool xs[n].df]] WA fun e w' => ∃ q:Int,e=.returned (.tuple #[.int .i64 q,.int .i64 0])∧Same0 w2 w' ∧ Hid (Own w2.heap.size w' b' (L++xs.take (n+1))∧UpS L xs (n+1)):=by
     refine CA.mono ?_
     rintro e w' ⟨rfl,h1,h2⟩
     have e1:addL (L++xs.take n) xs[n]=L++xs.take (n+1):=by
      rw [addL,if_pos he,List.append_assoc,List.take_add_one,List.getElem?_eq_getElem hlt];rfl
     rw [e1] at h1
     refine ⟨_,by rw [he],Kept.trans HKA.out h2 (fun i hi e=>by have e' : w2.heap.size≤i:=e;omega),h1,fun i hi hi2=>?_⟩
     by_cases q:i=n
     ·subst q;exact he
     ·exact HUP.out i hi (by omega)
    clear CA he HUP HKA hsA
    generalize xs[n].name=nm at *
    generalize xs[n].ar=nar at *
    generalize xs[n].df=ndf at *
    go_upto_region 5 with fail
    rw [← hWA]
    clear hWA x0 x1 x2
    go_wp2_with (first | (go_at_call 117;refine CA2.mono ?_;rintro e w4 ⟨q,rfl,h4,h5⟩))
    first | exact ⟨⟨n+1,by omega,by go_num,h4,h5⟩,by simp [intOf];omega⟩ | (go_roundw;case rel=>first | exact ⟨n+1,by omega,by go_num,h4,h5⟩ | ((repeat apply Exists.intro);exact ⟨⟨n+1,by omega,by go_num,h4,h5⟩,rfl⟩);case measure=>first | (simp [intOf];done) | (simp [intOf];omega))
   ·obtain ⟨E,hE⟩:∃ E,E=addErr (L++xs.take n) xs[n]:=⟨_,rfl⟩
    have hE0:E≠0:=by rw [hE];exact he
    have CA2:Calls Tryz.prog 117 #[.pointer (some ⟨b', 0,none⟩),.agg #[.string xs[n].name,.int .i64 xs[n].ar,.bool xs[n].df]] WA fun e w' => ∃ q:Int,e=.returned (.tuple #[.int .i64 q,.int .i64 E])∧Same0 w2 w' := by
     refine CA.mono ?_
     rintro e w' ⟨rfl,h1,h2⟩
     exact ⟨_,by rw [hE],Kept.trans HKA.out h2 (fun i hi e=>by have e' : w2.heap.size≤i:=e;omega)⟩
    have HA:Hid (AnsS L xs [(100,(n:Int)),(E, -1)]):=.inr ⟨n,hlt,HUP.out,by rw [← hE];exact hE0,by rw [hE]⟩
    clear CA he HUP HKA hsA hE
    generalize xs[n].name=nm at *
    generalize xs[n].ar=nar at *
    generalize xs[n].df=ndf at *
    go_upto_region 5 with fail
    rw [← hWA]
    clear hWA x0 x1 x2
    go_upto_region 7 with (first | (go_at_call 117;refine CA2.mono ?_;rintro e w4 ⟨q,rfl,k4⟩))
    have K4:Same0 W1 w4:=k2.trans' k4
    obtain ⟨w5,hw5⟩:∃ w5,w5=w4.alloc (.cells #[.int .i64 100,.int .i64 (n:Int),.iface 70 (.int .i64 E)] 143):=⟨_,rfl⟩
    have k5:Same0 w4 w5:=by rw [hw5];exact (Kept.refl _ _).alloc _
    have b5:w5.heap[w4.heap.size]? = some (.cells #[.int .i64 100,.int .i64 (n:Int),.iface 70 (.int .i64 E)] 143 (0,0)):=by rw [hw5];exact heap_alloc_new _ _
    obtain ⟨y0,y1,y3,y2⟩:=HB.out w5 (K4.trans' k5)
    obtain ⟨q0,q1,q2⟩:=y2 (.pointer none)
    have hz2:=lt_of_at b5
    have FL:FltAt w5 [(100,(n:Int)),(E, -1)] (.iface 141 (.pointer (some ⟨w4.heap.size,0,none⟩))):=.inr ⟨by omega,w4.heap.size,_,rfl,b5,.inl ⟨rfl,rfl,rfl⟩⟩
    have HQ:Hid (_∧_∧FltAt _ _ _):=⟨q0,q1,FltAt.keptN q2 y3.no.2.2.2.2.1 FL⟩
    rw [hw5] at y0 y1
    clear q0 q1 q2 y2 y3 b5 FL CA2
    go_wp2_with fail
    rw [← hw5]
    exact bodyPost_ret (v:=.tuple #[.agg #[.pointer none],.iface 141 (.pointer (some ⟨w4.heap.size,0,none⟩))]) (by simp [results,Tryz.results70,go_sem,HQ.out.1]) rfl ⟨_,_,none,rfl,HA.out,HQ.out.2.2,HQ.out.2.1,(fun e=>by cases e),fun _=>⟨_,rfl⟩⟩
  ·have en:n=xs.length:=by omega
   subst en
   have i2:¬ (xs.length:Int)<(xs.length:Int):=by omega
   have hO:=ho.out.1
   rw [List.take_length] at hO
   have HUP:Hid (UpS L xs xs.length):=ho.out.2
   have C5:=snew_any (hO.sg (HUP.out.ars hLa))
   have HLI:Hid (∀ ww,Same0 wz ww→Calls Tryz.prog 125 #[.agg #[.pointer sp]] ww fun e w' => ∃ lo lc,e=.returned (.slice lo R.length lc)∧Hid (RsAt w' lo R∧R.length≤lc)∧Same0 ww w'):=fun ww hk=>(ylist_any (HG0.out ww (KZ.trans' hk)).2).mono (fun e w' ⟨lo,lc,e1,a,a2,a3⟩=>⟨lo,lc,e1,⟨a,a2⟩,a3⟩)
   clear ho hO OW3
   go_upto_region 10 with (first | (go_at_call 118;refine C5.mono ?_;rintro e w4 ⟨rfl,hst4,k4⟩))
   obtain ⟨g0, -⟩:=HG0.out w4 (KZ.trans' k4)
   have C6:=HLI.out w4 k4
   have HS4:Hid (∀ ww,Same0 w4 ww→StAt ww wz.heap.size b' (L++xs) [] (.slice none 0 0) []):=fun ww hk=>hst4.same hk
   have hz4:=k4.size
   have hzz:=hs.size
   have CAD:Hid (∀ ww lo lc,Same0 w4 ww→RsAt ww lo R→R.length≤lc→Calls Tryz.prog 68 #[.pointer (some ⟨wz.heap.size,0,none⟩),.slice lo R.length lc] ww fun e w' => ∃ v,e=.returned v∧Hid (∃ lv2 vs2,StAt w' wz.heap.size b' (L++xs) R lv2 vs2)∧Same0 w2 w'):=fun ww lo lc hk hr hlc=>by
    refine (add_rules (lc:=lc) (HS4.out ww hk) hr (by omega) hlc).mono ?_
    rintro e w' ⟨ws,v,e1,a1,a2,a3,a4,a5⟩
    have hws:ws=[]:=a1.uniq (HGD.out.grow xs).ans
    obtain ⟨lv2,vs2,q1,q2,q3⟩:=a5 hws
    rw [List.nil_append] at q1
    refine ⟨v,e1,⟨lv2,vs2,q1⟩,Kept.trans ((hs.trans' k4).trans' hk) q2 (fun i hi e=>?_)⟩
    rcases e with e | e
    ·omega
    ·simp [Value.ownBlock] at e
   clear C5 hst4 HLI
   go_upto_region 11 with (first
    | (go_at_call 125;refine C6.mono ?_;rintro e w5 ⟨lo,lc,rfl,h5,k5⟩;have C7:=CAD.out w5 lo lc k5 h5.out.1 h5.out.2)
    | (go_at_call 68;refine C7.mono ?_;rintro e w6 ⟨v6,rfl,h6,k6⟩))
   obtain ⟨lv2,vs2,hst6⟩:=h6.out
   obtain ⟨y0,y1,y3,y2⟩:=HB.out w6 (k2.trans' k6)
   obtain ⟨q0,q1,q2⟩:=y2 (.pointer (some ⟨wz.heap.size,0,none⟩))
   have FIN:Hid (StAt (w6.setCell ⟨w.heap.size+1,0,none⟩ (.pointer (some ⟨wz.heap.size,0,none⟩))) wz.heap.size b' (L++xs) R lv2 vs2):=hst6.keptY q2 (fun i e=>by have e' : i=w.heap.size+1:=e;rw [e'];exact y3)
   have HQ:Hid (_∧_):=⟨q0,q1⟩
   clear q0 q1 q2 y2 y3 hst6 h6 C6 C7 CAD
   go_wp2
   exact bodyPost_ret (v:=.tuple #[.agg #[.pointer (some ⟨wz.heap.size,0,none⟩)],.nilIface]) (by simp [results,Tryz.results70,go_sem,HQ.out.1]) rfl ⟨[],.nilIface,_,rfl,.inl ⟨rfl,HUP.out⟩,rfl,HQ.out.2,fun _=>⟨rfl,_,_,lv2,vs2,rfl,FIN.out⟩,fun e=>absurd rfl e⟩
def YSPost (L xs:List Sym) (R:List Ru) (V y:Nat) (w:World) (ws:List (Int × Int)) (v:Value) (w' : World):Prop:=
 AnsS L xs ws∧FltAt w' ws v∧(∃ sp' L', SyAt w' y sp' V L' R∧(ws=[]→v=.nilIface∧L' = L++xs)∧(ws≠[]→(∃ k,v=.iface 141 (.pointer (some ⟨k,0,none⟩)))∧L' = L∧Same0 w w'))∧Kept (fun k=>k=y) w w'
set_option maxHeartbeats 8000000 in
theorem yAddSymbols_any {w:World} {y:Nat} {sp:Option Addr} {V:Nat} {L:List Sym} {R:List Ru} (h:SyAt w y sp V L R) (hg:GoodR L R) {ao:Option Addr} {xs:List Sym} {cap:Nat} (hx:SymsAt w ao xs.length xs) (hm:xs.length≤maxLen) :
  Calls Tryz.prog 30 #[.pointer (some ⟨y,0,none⟩),.slice ao xs.length cap] w fun e w' => ∃ ws v,e=.returned v∧YSPost L xs R V y w ws v w' := by
 have hpn:=yy_nil
 have hn1:=yerr_ne
 have hn0:=yerr_nn
 have c0:=cellAt h.blk 0
 simp only [List.getElem?_toArray,List.getElem?_cons_zero] at c0
 have CW:Calls Tryz.prog 70 #[.agg #[.pointer sp],.slice ao xs.length cap] w fun e w' => ∃ ws v sp', e=.returned (.tuple #[.agg #[.pointer sp'],v])∧Hid (AnsS L xs ws∧FltAt w' ws v∧(ws=[]→v=.nilIface∧∃ p bs lv vs,sp' = some ⟨p,0,none⟩∧StAt w' p bs (L++xs) R lv vs)∧(ws≠[]→∃ k,v=.iface 141 (.pointer (some ⟨k,0,none⟩))))∧Same0 w w' := (withSymbols_any h.g hg hx hm).mono (fun e w' ⟨ws,v,sp', e1,a1,a2,a3,a4,a5⟩=>⟨ws,v,sp', e1,⟨a1,a2,a4,a5⟩,a3⟩)
 have HS:Hid (∀ ww,Same0 w ww→SyAt ww y sp V L R):=fun ww hk=>h.same hk
 clear h hx
 go_enter Tryz.func30,Tryz.ntmps30
 go_upto_region 4 with (first | (go_at_call 70;refine CW.mono ?_;rintro e w2 ⟨ws,v,sp', rfl,h2,k2⟩))
 obtain ⟨a1,a2,a3,a4⟩:=h2.out
 obtain ⟨w3,hw3⟩:∃ w3,w3=w2.alloc (.cells #[.pointer sp'] 121):=⟨_,rfl⟩
 have k3:Same0 w2 w3:=by rw [hw3];exact (Kept.refl _ _).alloc _
 have g3:w3.cell? ⟨w2.heap.size,0,none⟩=some (.pointer sp'):=by rw [hw3];exact cellAt (heap_alloc_new _ _) 0
 have K3:Same0 w w3:=k2.trans' k3
 rw [← hw3]
 have hS3:=HS.out w3 K3
 have y0:=cellAt hS3.blk 0
 have f0:=frozenAt hS3.blk 0
 simp only [List.getElem?_toArray,List.getElem?_cons_zero] at y0
 clear hw3 h2 CW c0 k2
 by_cases hws:ws=[]
 ·obtain ⟨rfl,p,bs,lv,vs,rfl,hst⟩:=a3 hws
  subst hws
  have hg3:SyG w3 (some ⟨p,0,none⟩) (L++xs) R:=.inr ⟨p,bs,lv,vs,rfl,hst.same k3⟩
  obtain ⟨q1,q2,q3,q4⟩:=hS3.put (V' := V) hg3
  have HA:Hid (AnsS L xs []):=a1
  have HQ:Hid (SyAt (w3.setCell ⟨y,0,none⟩ (.pointer (some ⟨p,0,none⟩))) y (some ⟨p,0,none⟩) V (L++xs) R∧Kept (fun k=>k=y) w (w3.setCell ⟨y,0,none⟩ (.pointer (some ⟨p,0,none⟩)))):=⟨q1,Kept.trans (K3.mono (fun _ _ f=>f.elim)) q3 (fun _ _ e=>e)⟩
  clear a1 a2 a3 a4 hst hg3 q1 q2 q3 q4 hS3 K3 k3
  go_wp2
  go_ret
  exact ⟨[],_,rfl,HA.out,rfl,⟨_,_,HQ.out.1,fun _=>⟨rfl,rfl⟩,fun e=>absurd rfl e⟩,HQ.out.2⟩
 ·obtain ⟨k,rfl⟩:=a4 hws
  have HF:Hid (AnsS L xs ws∧FltAt w3 ws (.iface 141 (.pointer (some ⟨k,0,none⟩)))∧SyAt w3 y sp V L R∧Same0 w w3∧ws≠[]):=⟨a1,FltAt.same k3 a2,hS3,K3,hws⟩
  clear a1 a2 a3 a4 hS3 K3 k3 hws
  go_wp2
  go_ret
  exact ⟨ws,_,rfl,HF.out.1,HF.out.2.1,⟨sp,L,HF.out.2.2.1,fun e=>absurd e HF.out.2.2.2.2,fun _=>⟨⟨k,rfl⟩,rfl,HF.out.2.2.2.1⟩⟩,HF.out.2.2.2.1.mono (fun _ _ f=>f.elim)⟩
abbrev L10:List Sym:=[⟨⟨#[122]⟩,0,false⟩,⟨⟨#[115]⟩,1,false⟩,⟨⟨#[97,100,100]⟩,2,true⟩]
abbrev qz10:List Sym:=[⟨⟨#[113]⟩,0,false⟩,⟨⟨#[122]⟩,0,false⟩]
abbrev R10:List Ru:=[([2,0, -1],[-1]),([2,1, -1, -2],[1,2, -1, -2])]
abbrev D10:List Ru:=[([2, -1,0],[0])]
theorem nm10_z:nameB ⟨#[122]⟩=true:=by decide +kernel
theorem nm10_s:nameB ⟨#[115]⟩=true:=by decide +kernel
theorem nm10_q:nameB ⟨#[113]⟩=true:=by decide +kernel
theorem nm10_add:nameB ⟨#[97,100,100]⟩=true:=by decide +kernel
theorem up10:UpS [] L10 3:=by
 intro i hi h3
 match i,h3 with
 | 0,_=>simp [addErr,nm10_z,findI]
 | 1,_=>simp [addErr,nm10_s,findI]
 | 2,_=>simp [addErr,nm10_add,findI]
theorem syms10:AnsS [] L10 []:=.inl ⟨rfl,up10⟩
theorem twice10:AnsS L10 qz10 [(100,1),(12, -1)]:=by
 refine .inr ⟨1,by decide,fun i hi h1=>?_,?_,?_⟩
 ·obtain rfl:i=0:=by omega
  simp [addErr,nm10_q,findI]
 ·simp [addErr,nm10_z,findI]
 ·simp [addErr,nm10_z,findI]
theorem a10_a:Ans L10 [] R10 []:=Ans.of_all (by decide +kernel)
theorem a10_d:Ans L10 R10 D10 [(77,0),(78,0)]:=.inr ⟨7,0,by omega,by decide,⟨by decide +kernel,by decide +kernel⟩,by decide +kernel,by decide +kernel⟩
def tree10 (n:Nat):Tr (n+1+1):=(2,0,[0],[(0,((1,0,[],[]):Int × Int × List Int × List (Int × Tr n))),(1,((1,1,[],[]):Int × Int × List Int × List (Int × Tr n)))])
theorem aw10_grow (n:Nat):growF L10 (n+1+1) (rootP L10 2) (rootR L10 R10 2)=.ok (tree10 n):=by rfl
theorem aw10_tree:treeF L10 R10 2=.ok (tree10 1999):=aw10_grow 1999
theorem aw10_all:∀ k:Nat,k<L10.length→defB L10 (k:Int)=true→∃ t,treeF L10 R10 k=.ok t:=by
 intro k hk hd
 have hk' : k<3:=hk
 match k,hk' with
 | 0,_=>exact absurd hd (by decide)
 | 1,_=>exact absurd hd (by decide)
 | 2,_=>exact ⟨_,aw10_tree⟩
theorem aw10_lay (n:Nat):layS (n+1+1) (tree10 n) ([],[])=([(1,0,0),(2,0,4),(2,1,5),(3,0,0),(4,0,0),(4,1,0)],[[0]]):=by rfl
theorem aw10_cmp:(cmpS L10 R10 3).1.1.length=6:=by
 rw [cmpS_yes (k:=2) (by decide) aw10_tree,cmpS_no (k:=1) (by decide),cmpS_no (k:=0) (by decide)]
 have e1:layS 2001 (tree10 1999) (cmpS L10 R10 0).1=_:=aw10_lay 1999
 rw [e1]
 rfl
theorem y10_a:AnsY L10 [] R10 []:=.inr (.inr ⟨a10_a,fun k hk hd=>aw10_all k hk hd,rfl⟩)
theorem y10_d:AnsY L10 R10 D10 [(101,0),(77,0),(78,0)]:=.inl ⟨77,0,[(78,0)],a10_d,by omega,by simp,rfl⟩
theorem syms10_at (w:World) (T:TypeId):SymsAt (w.alloc (.cells #[.string ⟨#[122]⟩,.int .i64 0,.bool false,.string ⟨#[115]⟩,.int .i64 1,.bool false,.string ⟨#[97,100,100]⟩,.int .i64 2,.bool true] T)) (some ⟨w.heap.size,0,none⟩) L10.length L10:=by
 refine ⟨rfl,.inr ⟨_,_,rfl,by simp,fun i hi=>?_⟩,?_⟩
 ·have hi' : i<3:=by simpa using hi
  rw [cellAt (heap_alloc_new w _),cellAt (heap_alloc_new w _),cellAt (heap_alloc_new w _)]
  match i,hi' with
  | 0,_=>exact ⟨rfl,rfl,rfl⟩
  | 1,_=>exact ⟨rfl,rfl,rfl⟩
  | 2,_=>exact ⟨rfl,rfl,rfl⟩
 ·intro x hx
  simp at hx
  rcases hx with rfl | rfl | rfl <;> exact ⟨by decide +kernel,by decide +kernel⟩
theorem qz10_at (w:World) (T:TypeId):SymsAt (w.alloc (.cells #[.string ⟨#[113]⟩,.int .i64 0,.bool false,.string ⟨#[122]⟩,.int .i64 0,.bool false] T)) (some ⟨w.heap.size,0,none⟩) qz10.length qz10:=by
 refine ⟨rfl,.inr ⟨_,_,rfl,by simp,fun i hi=>?_⟩,?_⟩
 ·have hi' : i<2:=by simpa using hi
  rw [cellAt (heap_alloc_new w _),cellAt (heap_alloc_new w _),cellAt (heap_alloc_new w _)]
  match i,hi' with
  | 0,_=>exact ⟨rfl,rfl,rfl⟩
  | 1,_=>exact ⟨rfl,rfl,rfl⟩
 ·intro x hx
  simp at hx
  rcases hx with rfl | rfl <;> exact ⟨by decide +kernel,by decide +kernel⟩
theorem rs_one (w:World) (x1 x2:List Int) (T1 T2 T5:TypeId) (b1:x1.length≤2000) (b2:x2.length≤2000) {o1 o2 o5:Obj} (h1:o1=.cells (iv x1).toArray T1 (0,0)) (h2:o2=.cells (iv x2).toArray T2 (0,0))
  (h5:o5=.cells #[.slice (some ⟨w.heap.size,0,none⟩) x1.length x1.length,.slice (some ⟨w.heap.size+1,0,none⟩) x2.length x2.length] T5 (0,0)) :
  RsAt (((w.alloc o1).alloc o2).alloc o5) (some ⟨w.heap.size+1+1,0,none⟩) [(x1,x2)]∧Same0 w (((w.alloc o1).alloc o2).alloc o5):=by
 have k1:Same0 w (w.alloc o1):=(Kept.refl _ w).alloc _
 have k2:Same0 (w.alloc o1) ((w.alloc o1).alloc o2):=(Kept.refl _ _).alloc _
 have k5:Same0 ((w.alloc o1).alloc o2) (((w.alloc o1).alloc o2).alloc o5):=(Kept.refl _ _).alloc _
 have a1:=((ints_arg w x1 T1 b1 h1).same k2).same k5
 have a2:=(ints_arg (w.alloc o1) x2 T2 b2 h2).same k5
 have hb:=heap_alloc_new ((w.alloc o1).alloc o2) o5
 simp only [World.size_alloc] at a2 hb
 rw [h5] at hb
 refine ⟨.inr ⟨_,0,rfl,by simp,fun i hi=>?_⟩,(k1.trans' k2).trans' k5⟩
 rw [h5] at *
 have hi' : i<1:=by simpa using hi
 match i,hi' with
 | 0,_=>exact ⟨_,_,_,_,cellAt hb 0,cellAt hb 1,a1,a2⟩
theorem yversion_any {w:World} {y:Nat} {sp:Option Addr} {V:Nat} {L:List Sym} {R:List Ru} (h:SyAt w y sp V L R) :
  Calls Tryz.prog 25 #[.pointer (some ⟨y,0,none⟩)] w fun e w' => e=.returned (.int .i64 (V:Int))∧w' = w:=by
 have hpn:=yy_nil
 have c1:=cellAt h.blk 1
 simp only [List.getElem?_toArray,List.getElem?_cons_zero,List.getElem?_cons_succ] at c1
 clear h
 go_enter Tryz.func25,Tryz.ntmps25
 go_wp2
 go_ret
 exact ⟨rfl,rfl⟩
set_option maxHeartbeats 8000000 in
theorem ycode_any {w:World} {y:Nat} {sp:Option Addr} {V:Nat} {L:List Sym} {R:List Ru} (h:SyAt w y sp V L R) (hall:∀ k:Nat,k<L.length→defB L (k:Int)=true→∃ t,treeF L R k=.ok t) :
  Calls Tryz.prog 32 #[.pointer (some ⟨y,0,none⟩)] w fun e w' => ∃ io ic po P pc eo E ec ro rc,e=.returned (.agg #[.slice io (cmpS L R L.length).1.1.length ic,.slice po P pc,.slice eo E ec,.slice ro R.length rc])∧Same0 w w' := by
 have hpn:=yy_nil
 obtain ⟨W1,hW1⟩:∃ W1,W1=w.alloc (.cells #[.slice none 0 0,.slice none 0 0,.slice none 0 0,.slice none 0 0] 54):=⟨_,rfl⟩
 have KW:Same0 w W1:=by rw [hW1];exact (Kept.refl _ _).alloc _
 have b0:W1.heap[w.heap.size]? = some (.cells #[.slice none 0 0,.slice none 0 0,.slice none 0 0,.slice none 0 0] 54 (0,0)):=by rw [hW1];exact heap_alloc_new _ _
 have c0:=cellAt (KW.at0 h.blk) 0
 simp only [List.getElem?_toArray,List.getElem?_cons_zero] at c0
 have C1:=laid_any10 (h.g.same KW)
 have HZ:Hid (∀ ww a b c d,Same0 W1 ww→(ww.cell? ⟨w.heap.size,0,none⟩=some (.slice none 0 0)∧ww.cell? ⟨w.heap.size,1,none⟩=some (.slice none 0 0)∧ww.cell? ⟨w.heap.size,2,none⟩=some (.slice none 0 0)∧ww.cell? ⟨w.heap.size,3,none⟩=some (.slice none 0 0))∧(ww.frozen? ⟨w.heap.size,0,none⟩=false∧ww.frozen? ⟨w.heap.size,1,none⟩=false∧ww.frozen? ⟨w.heap.size,2,none⟩=false∧ww.frozen? ⟨w.heap.size,3,none⟩=false)∧∃ Z,Hid (Z=(((ww.setCell ⟨w.heap.size,0,none⟩ a).setCell ⟨w.heap.size,1,none⟩ b).setCell ⟨w.heap.size,2,none⟩ c).setCell ⟨w.heap.size,3,none⟩ d)∧Hid (Z.cell? ⟨w.heap.size,0,none⟩=some a∧Z.cell? ⟨w.heap.size,1,none⟩=some b∧Z.cell? ⟨w.heap.size,2,none⟩=some c∧Z.cell? ⟨w.heap.size,3,none⟩=some d)∧Same0 w Z):=fun ww a b c d hk=>by
  have h2:=hk.at0 b0
  obtain ⟨p1,p2⟩:=put4_raw h2 a b c d
  exact ⟨⟨cellAt h2 0,cellAt h2 1,cellAt h2 2,cellAt h2 3⟩,⟨frozenAt h2 0,frozenAt h2 1,frozenAt h2 2,frozenAt h2 3⟩,_,rfl,⟨cellAt p1 0,cellAt p1 1,cellAt p1 2,cellAt p1 3⟩,Kept.trans (KW.trans' hk) p2 (fun i hi e=>by have e' : i=w.heap.size:=e;omega)⟩
 have HCM:Hid (∀ ww p bs lv vs,StAt ww p bs L R lv vs→Calls Tryz.prog 72 #[.pointer (some ⟨p,0,none⟩)] ww fun e w' => ∃ io ic po P pc eo E ec ro rc,e=.returned (.tuple #[.agg #[.slice io (cmpS L R L.length).1.1.length ic,.slice po P pc,.slice eo E ec,.slice ro R.length rc],.nilIface])∧Same0 ww w'):=fun ww p bs lv vs hst=>(compile_ok hst hall).mono (fun e w' hc=>by
  obtain ⟨io,ic,po,pc,eo,ec,ro,rc,cs,e1,_,_,_,_,hk⟩:=hc
  exact ⟨io,ic,po,_,pc,eo,_,ec,ro,rc,e1,hk⟩)
 clear h b0
 go_enter Tryz.func32,Tryz.ntmps32
 go_upto_region 1 with fail
 rw [← hW1]
 clear hW1
 go_upto_region 4 with (first
  | (go_at_call 64;refine C1.mono ?_;rintro e w2 ⟨p,bs,lv,vs,rfl,hst,k2⟩;have C3:=HCM.out w2 p bs lv vs hst)
  | (go_at_call 72;refine C3.mono ?_;rintro e w3 ⟨io,ic,po,P,pc,eo,E,ec,ro,rc,rfl,k3⟩))
 obtain ⟨w4,hw4⟩:∃ w4,w4=w3.alloc (.cells #[.slice io (cmpS L R L.length).1.1.length ic,.slice po P pc,.slice eo E ec,.slice ro R.length rc] 54):=⟨_,rfl⟩
 have k4:Same0 w3 w4:=by rw [hw4];exact (Kept.refl _ _).alloc _
 have b4:w4.heap[w3.heap.size]? = some (.cells #[.slice io (cmpS L R L.length).1.1.length ic,.slice po P pc,.slice eo E ec,.slice ro R.length rc] 54 (0,0)):=by rw [hw4];exact heap_alloc_new _ _
 have d0:=cellAt b4 0
 have d1:=cellAt b4 1
 have d2:=cellAt b4 2
 have d3:=cellAt b4 3
 simp only [List.getElem?_toArray,List.getElem?_cons_zero,List.getElem?_cons_succ] at d0 d1 d2 d3
 obtain ⟨⟨y0,y1,y2,y3⟩,⟨f0,f1,f2,f3⟩,Z,hZ,hZ2,hZ3⟩:=HZ.out w4 (.slice io (cmpS L R L.length).1.1.length ic) (.slice po P pc) (.slice eo E ec) (.slice ro R.length rc) ((k2.trans' k3).trans' k4)
 have HZ3:Hid (Same0 w Z):=hZ3
 rw [← hw4]
 clear hw4 b4 C1 C3 c0 hZ3 hst k2 k3 k4
 go_wp2
 rw [← hZ.out]
 exact bodyPost_ret (v:=.agg #[.slice io (cmpS L R L.length).1.1.length ic,.slice po P pc,.slice eo E ec,.slice ro R.length rc]) (by simp [results,Tryz.results32,go_sem,hZ2.out.1,hZ2.out.2.1,hZ2.out.2.2.1,hZ2.out.2.2.2]) rfl ⟨io,ic,po,P,pc,eo,E,ec,ro,rc,rfl,HZ3.out⟩
theorem yeq0 (w:World):(binOp .eql 46 .nilIface .nilIface).run Tryz.prog w=.ok (.bool true) w:=by kernel_rfl
theorem field_ins10 (a a2 a3 a4:Option Addr) (b c b2 c2 b3 c3 b4 c4:Nat) (w:World):(Instr.field 54 (.agg #[.slice a b c,.slice a2 b2 c2,.slice a3 b3 c3,.slice a4 b4 c4]) 0).run Tryz.prog w=.ok (.slice a b c) w:=by kernel_rfl
set_option maxHeartbeats 16000000 in
theorem awake10_any {w:World} (hE:ErrT w):Calls Tryz.prog 17 #[] w fun e w' => e=.returned (.bool true)∧Same0 w w' := by
 have hpn:=yy_nil
 have hq:=yeq0
 have hfi:=field_ins10
 go_enter Tryz.func17,Tryz.ntmps17
 go_upto_region 2 with (first | (go_at_call 18;refine (ynew_any w).mono ?_;rintro e w1 ⟨rfl,rfl⟩))
 obtain ⟨w1,hw1⟩:∃ w1,w1=w.alloc (.cells #[.pointer none,.int .i64 0] 123):=⟨_,rfl⟩
 have K1:Same0 w w1:=by rw [hw1];exact (Kept.refl _ _).alloc _
 have H1:SyAt w1 w.heap.size none 0 [] []:=⟨by rw [hw1];exact heap_alloc_new _ _,.inl ⟨rfl,rfl,rfl⟩⟩
 have hyw:w.heap.size<w1.heap.size:=lt_of_at H1.blk
 rw [← hw1]
 clear hw1
 have sx:=syms10_at w1 60
 have kx:Same0 w1 (w1.alloc (.cells #[.string ⟨#[122]⟩,.int .i64 0,.bool false,.string ⟨#[115]⟩,.int .i64 1,.bool false,.string ⟨#[97,100,100]⟩,.int .i64 2,.bool true] 60)):=(Kept.refl _ _).alloc _
 have CA:=yAddSymbols_any (cap:=3) (H1.same kx) (GoodR.nil []) sx (by decide)
 go_upto_region 5 with (first | (go_at_call 30;refine CA.mono ?_;rintro e w2 ⟨ws,v,rfl,hA,hF,⟨sp2,L2,hS2,hy2, -⟩,hk2⟩))
 obtain rfl:=hA.uniq syms10
 obtain ⟨rfl,rfl⟩:=hy2 rfl
 rw [List.nil_append] at hS2
 have K2:Same0 w w2:=Kept.trans (K1.trans' kx) hk2 (fun i hi e=>by omega)
 clear CA hA hF hy2 hk2 sx kx H1
 have sx:=qz10_at w2 60
 have kx:Same0 w2 (w2.alloc (.cells #[.string ⟨#[113]⟩,.int .i64 0,.bool false,.string ⟨#[122]⟩,.int .i64 0,.bool false] 60)):=(Kept.refl _ _).alloc _
 have CA:=yAddSymbols_any (cap:=2) (hS2.same kx) (GoodR.nil L10) sx (by decide)
 go_upto_region 6 with (first | (go_at_call 30;refine CA.mono ?_;rintro e w3 ⟨ws,v,rfl,hA,hF,⟨sp3,L3', hS3, -,hy3⟩,hk3⟩))
 obtain rfl:=hA.uniq twice10
 obtain ⟨⟨kb,rfl⟩,rfl,hs3⟩:=hy3 (by simp)
 have K3:Same0 w w3:=(K2.trans' kx).trans' hs3
 clear CA hA hy3 hk3 sx kx hS2 hs3
 obtain ⟨ra,ka⟩:=rs_two w3 [2,0, -1] [-1] [2,1, -1, -2] [1,2, -1, -2] 3 3 3 3 102 (by decide) (by decide) (by decide) (by decide) rfl rfl rfl rfl rfl
 have CA:=yAddRules_any (hE.same (K3.trans' ka)) (hS3.same ka) (by omega) (l:=R10) (lc:=2) ra (by decide) (by decide)
 have hF3:=FltAt.same ka hF
 go_upto_region 7 with (first | (go_at_call 31;refine CA.mono ?_;rintro e w4 ⟨ws,v,rfl,hA,hF4,⟨sp4,V4,R4,hS4,hy4, -⟩,hk4⟩))
 obtain rfl:=hA.uniq y10_a
 obtain ⟨rfl,rfl,rfl⟩:=hy4 rfl
 rw [List.nil_append] at hS4
 have HF4:FltAt w4 [(100,1),(12, -1)] (.iface 141 (.pointer (some ⟨kb,0,none⟩))):=FltAt.keptN hk4 (fun c hc=>by rw [(hS3.same ka).blk] at hc;cases hc) hF3
 have K4:Same0 w w4:=Kept.trans (K3.trans' ka) hk4 (fun i hi e=>by omega)
 clear CA hA hF4 hy4 hk4 hF3 hF hS3 ra ka
 obtain ⟨ra,ka⟩:=rs_one w4 [2, -1,0] [0] 3 3 102 (by decide) (by decide) rfl rfl rfl
 have CA:=yAddRules_any (hE.same (K4.trans' ka)) (hS4.same ka) (by simp) (l:=D10) (lc:=1) ra (by decide) (by decide)
 have HFB:=FltAt.same ka HF4
 go_upto_region 8 with (first | (go_at_call 31;refine CA.mono ?_;rintro e w5 ⟨ws,v,rfl,hA,hF5,⟨sp5,V5,R5,hS5, -,hy5⟩,hk5⟩))
 obtain rfl:=hA.uniq y10_d
 obtain ⟨⟨kd,rfl⟩,rfl,rfl,hs5⟩:=hy5 (by simp)
 have K5:Same0 w w5:=(K4.trans' ka).trans' hs5
 have HFB5:Hid (FltAt w5 [(100,1),(12, -1)] (.iface 141 (.pointer (some ⟨kb,0,none⟩)))):=FltAt.same hs5 HFB
 have HFD5:Hid (FltAt w5 [(101,0),(77,0),(78,0)] (.iface 141 (.pointer (some ⟨kd,0,none⟩)))):=hF5
 have HS5:Hid (∀ ww,Same0 w5 ww→SyAt ww w.heap.size sp5 _ L10 R10):=fun ww hk=>hS5.same hk
 clear CA hA hF5 hy5 hk5 HF4 HFB hS4 hS5 hs5 ra ka
 have W8:=wrs_new w5 [(100,1),(12, -1)] #[.int .i64 100,.int .i64 1,.int .i64 12,.int .i64 (-1)] 72 rfl (fun i hi=>by have hi' : i<2:=hi;match i,hi' with | 0,_=>exact ⟨rfl,rfl⟩ | 1,_=>exact ⟨rfl,rfl⟩) 2 rfl
 have k8:Same0 w5 (w5.alloc (.cells #[.int .i64 100,.int .i64 1,.int .i64 12,.int .i64 (-1)] 72)):=(Kept.refl _ _).alloc _
 have C8:=same_fltN (HFB5.out.same k8) W8 (by decide)
 go_upto_region 9 with (first | (go_at_call 38;refine C8.mono ?_;rintro e w6 ⟨rfl,k6⟩))
 have K56:Same0 w5 w6:=k8.trans' k6
 clear C8 W8 k8 k6
 have W9:=wrs_new w6 [(101,0),(77,0),(78,0)] #[.int .i64 101,.int .i64 0,.int .i64 77,.int .i64 0,.int .i64 78,.int .i64 0] 72 rfl (fun i hi=>by have hi' : i<3:=hi;match i,hi' with | 0,_=>exact ⟨rfl,rfl⟩ | 1,_=>exact ⟨rfl,rfl⟩ | 2,_=>exact ⟨rfl,rfl⟩) 3 rfl
 have k9:Same0 w6 (w6.alloc (.cells #[.int .i64 101,.int .i64 0,.int .i64 77,.int .i64 0,.int .i64 78,.int .i64 0] 72)):=(Kept.refl _ _).alloc _
 have C9:=same_fltN (HFD5.out.same (K56.trans' k9)) W9 (by decide)
 go_upto_region 10 with (first | (go_at_call 38;refine C9.mono ?_;rintro e w7 ⟨rfl,k7⟩))
 have K57:Same0 w5 w7:=(K56.trans' k9).trans' k7
 have C10:=yversion_any (HS5.out w7 K57)
 have C11:=ycode_any (HS5.out w7 K57) aw10_all
 rw [show (cmpS L10 R10 L10.length).1.1.length=6 from aw10_cmp] at C11
 have FIN:Hid (Same0 w w7):=K5.trans' K57
 clear C9 W9 k9 k7 HFB5 HFD5 HS5
 go_wp2_with (first | (go_at_call 25;refine C10.mono ?_;rintro e w8 ⟨rfl,e8⟩;have e9:=e8.symm;subst e9) | (go_at_call 32;refine C11.mono ?_;rintro e w9 ⟨io,ic,po,P,pc,eo,E,ec,ro,rc,rfl,k9⟩))
 go_ret
 exact ⟨by first | rfl | simp,FIN.out.trans' k9⟩
abbrev R5:=Int × Int × List Int × Int × Int
def InsAt (w:World) (io:Option Addr) (I:List I3):Prop:=
 I=[]∨∃ b off,io=some ⟨b,off,none⟩∧b<w.heap.size∧∀ i (h:i<I.length),w.cell? ⟨b,off+i * 3,none⟩=some (.int .i64 I[i].1)∧w.cell? ⟨b,off+i * 3+1,none⟩=some (.int .i64 I[i].2.1)∧w.cell? ⟨b,off+i * 3+2,none⟩=some (.int .i64 I[i].2.2)
theorem InsAt.same {w w' : World} {io:Option Addr} {I:List I3} (h:InsAt w io I) (hk:Same0 w w'):InsAt w' io I:=by
 refine h.imp id ?_
 rintro ⟨b,off,e,hb,hc⟩
 refine ⟨b,off,e,Nat.lt_of_lt_of_le hb hk.size,fun i hi=>?_⟩
 obtain ⟨c0,c1,c2⟩:=hc i hi
 exact ⟨(hk.cell (p:=⟨b,off+i * 3,none⟩) hb (fun f=>f)).trans c0,(hk.cell (p:=⟨b,off+i * 3+1,none⟩) hb (fun f=>f)).trans c1,(hk.cell (p:=⟨b,off+i * 3+2,none⟩) hb (fun f=>f)).trans c2⟩
theorem InsAt.get {w:World} {io:Option Addr} {I:List I3} (h:InsAt w io I) {i:Nat} (hi:i<I.length):∃ b off,io=some ⟨b,off,none⟩∧b<w.heap.size∧w.cell? ⟨b,off+i * 3,none⟩=some (.int .i64 I[i].1)∧w.cell? ⟨b,off+i * 3+1,none⟩=some (.int .i64 I[i].2.1)∧w.cell? ⟨b,off+i * 3+2,none⟩=some (.int .i64 I[i].2.2):=by
 rcases h with rfl | ⟨b,off,e,hb,hc⟩
 ·simp at hi
 ·exact ⟨b,off,e,hb,hc i hi⟩
def PthAt (w:World) (po:Option Addr) (P:List (List Int)):Prop:=
 P=[]∨∃ b off,po=some ⟨b,off,none⟩∧b<w.heap.size∧∀ i (h:i<P.length),∃ ao ac,w.cell? ⟨b,off+i,none⟩=some (.slice ao P[i].length ac)∧Arg w ao P[i] ac
theorem PthAt.same {w w' : World} {po:Option Addr} {P:List (List Int)} (h:PthAt w po P) (hk:Same0 w w'):PthAt w' po P:=by
 refine h.imp id ?_
 rintro ⟨b,off,e,hb,hc⟩
 refine ⟨b,off,e,Nat.lt_of_lt_of_le hb hk.size,fun i hi=>?_⟩
 obtain ⟨ao,ac,c0,c1⟩:=hc i hi
 exact ⟨ao,ac,(hk.cell (p:=⟨b,off+i,none⟩) hb (fun f=>f)).trans c0,c1.same hk⟩
set_option maxHeartbeats 4000000 in
theorem sameIns_any {w:World} {io jo:Option Addr} {I:List I3} (hI:InsAt w io I) (hJ:InsAt w jo I) (hl:I.length≤140737488355328) (ic jc:Nat) :
  Calls Tryz.prog 81 #[.slice io I.length ic,.slice jo I.length jc] w fun e w' => e=.returned (.bool true)∧Same0 w w' := by
 go_enter Tryz.func81,Tryz.ntmps81
 go_upto_region 4 with fail
 go_loopw [5] (fun s5 wr=>∃ k:Nat,k≤I.length∧s5=.int .i64 (k:Int)∧Same0 w wr) (fun s5 _=>I.length-(intOf s5).toNat)
 case atStart=>exact ⟨0,Nat.zero_le _,rfl,Kept.refl _ _⟩
 case round=>
  obtain ⟨k,hk,rfl,hs⟩:=hrel
  by_cases hlt:k<I.length
  ·obtain ⟨b,off,rfl,hb,c0,c1,c2⟩:=(hI.same hs).get hlt
   obtain ⟨b', off', rfl,hb', d0,d1,d2⟩:=(hJ.same hs).get hlt
   have i1:(0:Int)≤(k:Int):=by omega
   have i2:(k:Int)<(I.length:Int):=by omega
   generalize I[k].1=x at *
   generalize I[k].2.1=y at *
   generalize I[k].2.2=z at *
   go_upto_region 6 with fail
   go_quiet (fail)
   go_wp2_with fail
   go_roundw
   case rel=>first | exact ⟨k+1,by omega,by go_num,Kept.drewN hs _⟩ | ((repeat apply Exists.intro);exact ⟨⟨k+1,by omega,by go_num,Kept.drewN hs _⟩,rfl⟩)
   case measure=>simp [intOf];omega
  ·go_wp2_with fail
   go_ret
   exact ⟨rfl,hs⟩
theorem PthAt.get9 {w:World} {po:Option Addr} {P:List (List Int)} (h:PthAt w po P) {i:Nat} (hi:i<P.length):∃ b off ao ac,po=some ⟨b,off,none⟩∧w.cell? ⟨b,off+i,none⟩=some (.slice ao P[i].length ac)∧Arg w ao P[i] ac:=by
 rcases h with rfl | ⟨b,off,e,hb,hc⟩
 ·simp at hi
 ·obtain ⟨ao,ac,c0,c1⟩:=hc i hi
  exact ⟨b,off,ao,ac,e,c0,c1⟩
set_option maxHeartbeats 4000000 in
theorem lists_any9 {w:World} {po qo:Option Addr} {P:List (List Int)} (hP:PthAt w po P) (hQ:PthAt w qo P) (hl:P.length≤140737488355328) (pc qc:Nat) :
  Calls Tryz.prog 82 #[.slice po P.length pc,.slice qo P.length qc] w fun e w' => e=.returned (.bool true)∧Same0 w w' := by
 go_enter Tryz.func82,Tryz.ntmps82
 go_upto_region 4 with fail
 go_loopw [5] (fun s5 wr=>∃ k:Nat,k≤P.length∧s5=.int .i64 (k:Int)∧Same0 w wr) (fun s5 _=>P.length-(intOf s5).toNat)
 case atStart=>exact ⟨0,Nat.zero_le _,rfl,Kept.refl _ _⟩
 case round=>
  obtain ⟨k,hk,rfl,hs⟩:=hrel
  by_cases hlt:k<P.length
  ·obtain ⟨b,off,ao,ac,rfl,c0,a0⟩:=(hP.same hs).get9 hlt
   obtain ⟨b', off', bo,bc,rfl,d0,d1⟩:=(hQ.same hs).get9 hlt
   have hn:P[k].length≤maxLen:=by have:=a0.size;unfold maxLen;omega
   have CS:Hid (∀ ww,Same0 wr ww→Calls Tryz.prog 80 #[.slice ao P[k].length ac,.slice bo P[k].length bc] ww fun e w' => e=.returned (.bool true)∧Same0 ww w'):=fun ww hk=>by
    refine (same_any (acap:=ac) (bcap:=bc) (a0.at'.same hk) (d1.at'.same hk) hn).mono ?_
    rintro e w' ⟨rfl,hk'⟩
    exact ⟨by simp [sameB],hk'⟩
   have HS:Hid (∀ ww,Same0 wr ww→ww.cell? ⟨b,off+k,none⟩=some (.slice ao P[k].length ac)∧ww.cell? ⟨b', off' + k,none⟩=some (.slice bo P[k].length bc)):=fun ww hk=>⟨(hk.cell (p:=⟨b,off+k,none⟩) (World.block_lt_of_cell? _ _ c0) (fun f=>f)).trans c0,(hk.cell (p:=⟨b', off' + k,none⟩) (World.block_lt_of_cell? _ _ d0) (fun f=>f)).trans d0⟩
   have C0:=HS.out wr (Kept.refl _ _)
   have kd:Same0 wr wr.drew:=Kept.drew (Kept.refl _ _)
   have i1:(0:Int)≤(k:Int):=by omega
   have i2:(k:Int)<(P.length:Int):=by omega
   generalize P[k].length=N at *
   clear a0 d1 hP hQ hn
   go_upto_region 6 with fail
   go_region_held3 (fun w' => w'.cell? ⟨b,off+k,none⟩=some (.slice ao N ac)∧w'.cell? ⟨b', off' + k,none⟩=some (.slice bo N bc)) (first | exact C0 | exact cc1) (first
    | (go_at_call 80;refine (CS.out _ kd).mono ?_;rintro e w2 ⟨rfl,k2⟩;have k3:=kd.trans' k2;have cc1:=HS.out w2 k3))
   all_goals
    go_wp2_with fail
    go_roundw
    case rel=>first | exact ⟨k+1,by omega,by go_num,hs.trans' k3⟩ | ((repeat apply Exists.intro);exact ⟨⟨k+1,by omega,by go_num,hs.trans' k3⟩,rfl⟩)
    case measure=>simp [intOf];omega
  ·go_wp2_with fail
   go_ret
   exact ⟨rfl,hs⟩
def PaA (w:World) (ao:Option Addr) (Q:List (Int × List Int)):Prop:=
 Q=[]∨∃ b off,ao=some ⟨b,off,none⟩∧b<w.heap.size∧∀ i (h:i<Q.length),∃ po pc,w.cell? ⟨b,off+i * 2,none⟩=some (.int .i64 Q[i].1)∧w.cell? ⟨b,off+i * 2+1,none⟩=some (.slice po Q[i].2.length pc)∧IntsAt w po Q[i].2
theorem PaA.same {w w' : World} {ao:Option Addr} {Q:List (Int × List Int)} (h:PaA w ao Q) (hk:Same0 w w'):PaA w' ao Q:=by
 refine h.imp id ?_
 rintro ⟨b,off,e,hb,hc⟩
 refine ⟨b,off,e,Nat.lt_of_lt_of_le hb hk.size,fun i hi=>?_⟩
 obtain ⟨po,pc,c0,c1,c2⟩:=hc i hi
 exact ⟨po,pc,(hk.cell (p:=⟨b,off+i * 2,none⟩) hb (fun f=>f)).trans c0,(hk.cell (p:=⟨b,off+i * 2+1,none⟩) hb (fun f=>f)).trans c1,c2.same hk⟩
theorem PaA.get {w:World} {ao:Option Addr} {Q:List (Int × List Int)} (h:PaA w ao Q) {i:Nat} (hi:i<Q.length):∃ b off po pc,ao=some ⟨b,off,none⟩∧w.cell? ⟨b,off+i * 2,none⟩=some (.int .i64 Q[i].1)∧w.cell? ⟨b,off+i * 2+1,none⟩=some (.slice po Q[i].2.length pc)∧IntsAt w po Q[i].2:=by
 rcases h with rfl | ⟨b,off,e,hb,hc⟩
 ·simp at hi
 ·obtain ⟨po,pc,c0,c1,c2⟩:=hc i hi
  exact ⟨b,off,po,pc,e,c0,c1,c2⟩
def RgP (w:World) (ro:Option Addr) (Q:List (List (Int × List Int))):Prop:=
 Q=[]∨∃ b off,ro=some ⟨b,off,none⟩∧b<w.heap.size∧∀ i (h:i<Q.length),∃ po pc,w.cell? ⟨b,off+i,none⟩=some (.slice po Q[i].length pc)∧PaA w po Q[i]
theorem RgP.same {w w' : World} {ro:Option Addr} {Q:List (List (Int × List Int))} (h:RgP w ro Q) (hk:Same0 w w'):RgP w' ro Q:=by
 refine h.imp id ?_
 rintro ⟨b,off,e,hb,hc⟩
 refine ⟨b,off,e,Nat.lt_of_lt_of_le hb hk.size,fun i hi=>?_⟩
 obtain ⟨po,pc,c0,c1⟩:=hc i hi
 exact ⟨po,pc,(hk.cell (p:=⟨b,off+i,none⟩) hb (fun f=>f)).trans c0,c1.same hk⟩
theorem RgP.get {w:World} {ro:Option Addr} {Q:List (List (Int × List Int))} (h:RgP w ro Q) {i:Nat} (hi:i<Q.length):∃ b off po pc,ro=some ⟨b,off,none⟩∧w.cell? ⟨b,off+i,none⟩=some (.slice po Q[i].length pc)∧PaA w po Q[i]:=by
 rcases h with rfl | ⟨b,off,e,hb,hc⟩
 ·simp at hi
 ·obtain ⟨po,pc,c0,c1⟩:=hc i hi
  exact ⟨b,off,po,pc,e,c0,c1⟩
set_option maxHeartbeats 4000000 in
theorem sameparts_any {w:World} {po qo:Option Addr} {P:List (Int × List Int)} (hP:PaA w po P) (hQ:PaA w qo P) (hl:P.length≤140737488355328) (hm:∀ x∈P,x.2.length≤100000) (pc qc:Nat) :
  Calls Tryz.prog 83 #[.slice po P.length pc,.slice qo P.length qc] w fun e w' => e=.returned (.bool true)∧Same0 w w' := by
 go_enter Tryz.func83,Tryz.ntmps83
 go_upto_region 4 with fail
 go_loopw [5] (fun s5 wr=>∃ k:Nat,k≤P.length∧s5=.int .i64 (k:Int)∧Same0 w wr) (fun s5 _=>P.length-(intOf s5).toNat)
 case atStart=>exact ⟨0,Nat.zero_le _,rfl,Kept.refl _ _⟩
 case round=>
  obtain ⟨k,hk,rfl,hs⟩:=hrel
  by_cases hlt:k<P.length
  ·obtain ⟨b,off,ao,ac,rfl,c0,c1,a0⟩:=(hP.same hs).get hlt
   obtain ⟨b', off', bo,bc,rfl,d0,d1,b0⟩:=(hQ.same hs).get hlt
   have hn:P[k].2.length≤maxLen:=by have:=hm _ (List.getElem_mem hlt);unfold maxLen;omega
   have CS:Hid (∀ ww,Same0 wr ww→Calls Tryz.prog 80 #[.slice ao P[k].2.length ac,.slice bo P[k].2.length bc] ww fun e w' => e=.returned (.bool true)∧Same0 ww w'):=fun ww hk=>by
    refine (same_any (acap:=ac) (bcap:=bc) (a0.same hk) (b0.same hk) hn).mono ?_
    rintro e w' ⟨rfl,hk'⟩
    exact ⟨by simp [sameB],hk'⟩
   have HS:Hid (∀ ww,Same0 wr ww→ww.cell? ⟨b,off+k * 2+1,none⟩=some (.slice ao P[k].2.length ac)∧ww.cell? ⟨b', off' + k * 2+1,none⟩=some (.slice bo P[k].2.length bc)):=fun ww hk=>⟨(hk.cell (p:=⟨b,off+k * 2+1,none⟩) (World.block_lt_of_cell? _ _ c1) (fun f=>f)).trans c1,(hk.cell (p:=⟨b', off' + k * 2+1,none⟩) (World.block_lt_of_cell? _ _ d1) (fun f=>f)).trans d1⟩
   have HI:Hid (∀ ww,Same0 wr ww→ww.cell? ⟨b,off+k * 2,none⟩=some (.int .i64 P[k].1)∧ww.cell? ⟨b', off' + k * 2,none⟩=some (.int .i64 P[k].1)):=fun ww hk=>⟨(hk.cell (p:=⟨b,off+k * 2,none⟩) (World.block_lt_of_cell? _ _ c0) (fun f=>f)).trans c0,(hk.cell (p:=⟨b', off' + k * 2,none⟩) (World.block_lt_of_cell? _ _ d0) (fun f=>f)).trans d0⟩
   have C0:=HS.out wr (Kept.refl _ _)
   have kd:Same0 wr wr.drew:=Kept.drew (Kept.refl _ _)
   have i1:(0:Int)≤(k:Int):=by omega
   have i2:(k:Int)<(P.length:Int):=by omega
   generalize P[k].2.length=N at *
   generalize P[k].1=z at *
   clear a0 b0 c0 c1 d0 d1 hP hQ hn hm
   go_upto_region 6 with fail
   go_region_held3 (fun w' => w'.cell? ⟨b,off+k * 2+1,none⟩=some (.slice ao N ac)∧w'.cell? ⟨b', off' + k * 2+1,none⟩=some (.slice bo N bc)) (first | exact C0 | exact cc1) (first
    | (go_at_call 80;refine (CS.out _ kd).mono ?_;rintro e w2 ⟨rfl,k2⟩;have k3:=kd.trans' k2;have cc1:=HS.out w2 k3))
   all_goals
    obtain ⟨x0,x1⟩:=HI.out w2 k3
    have k4:Same0 wr w2.drew:=k3.trans' ((Kept.refl _ _).drew)
    have zz:(z == z)=true:=by simp
    go_upto_region 7 with fail
    go_region
    go_wp2_with fail
    go_roundw
    case rel=>first | exact ⟨k+1,by omega,by go_num,hs.trans' k4⟩ | ((repeat apply Exists.intro);exact ⟨⟨k+1,by omega,by go_num,hs.trans' k4⟩,rfl⟩)
    case measure=>simp [intOf];omega
  ·go_wp2_with fail
   go_ret
   exact ⟨rfl,hs⟩
end Go.Proofs.YtflcpepjmonlpaaGreatDoor
