import Derived.WalkKit
import Derived.Test.YtmjgnfkbnofjoaaGreatDoorRN15
namespace Go.Proofs.YtmjgnfkbnofjoaaGreatDoor
open Go.Proofs.Tryz
set_option maxRecDepth 100000
set_option linter.unusedVariables false
set_option maxHeartbeats 32000000
variable {a:Act} {ops:Array Oper} {Q:Exit->Act->World->Prop} {ws:List (Int × Int)} {t:List Int} {rest:List Oper} {R l:List Ru} {L L' X xs:List Sym} {N V b base cap i k lc m n sc y:Nat} {o:Oper} {ao lo so sp:Option Addr} {x:Sym} {lv v:Value} {W w w':World}
section
open Go.RowKit
attribute [local go_sem ↓] Go.wp_at_zero Go.wp_at_succ
structure Zcs (w:World) (m:Nat) (so:Option Addr) (sc:Nat) (V:Nat) (L:List Sym) (R:List Ru) (lv:Value) (vs:List Value):Prop where
 blk:w.heap[m]? = some (.cells #[.slice so L.length sc,lv,.int .i64 (V:Int)] 31 (0,0))
 rl:Rl w.heap.size w (.slice so L.length sc) L
 row:w.ownsRow 0 90 2 lv R.length vs
 own:Z7 w vs R
 le:R.length<=100
 ok:∀ x∈R,Zd L x.1=0∧Zd L x.2=0
theorem Zcs.same {vs:List Value} (h:Zcs w m so sc V L R lv vs) (hk:Za w w'):Zcs w' m so sc V L R lv vs:=
 ⟨hk.at0 h.blk,Zod (h.rl.same hk) hk.size,hk.row h.row (λ _ _ f=>f),h.own.same hk,h.le,h.ok⟩
theorem Zpl:(prog.info? 72).map (λ i=>(i.zero,i.size,i.bytes))=some (some (.agg #[.int .i64 0,.int .i64 0]),2,16):=by kernel_rfl
def Jg (ws:List (Int × Int)):List Value:=ws.flatMap (λ x=>[.int .i64 x.1,.int .i64 x.2])
theorem Zgm (ws:List (Int × Int)):(Jg ws).length=ws.length * 2:=by
 induction ws with
 | nil=>rfl
 | cons x r ih=>simp [Jg] at ih ⊢;omega
theorem Zo9 (ws:List (Int × Int)):∀ u∈Jg ws,u.oneCell' = true:=by
 intro u hu;simp [Jg] at hu;obtain ⟨a,b,_,rfl | rfl⟩:=hu <;> rfl
theorem Zir:∀ {i:Nat} (h:i<ws.length),(Jg ws)[i * 2]? = some (.int .i64 ws[i].1)∧(Jg ws)[i * 2+1]? = some (.int .i64 ws[i].2):=by
 induction ws with
 | nil=>intro i h;simp at h
 | cons x r ih=>
  intro i h;cases i with
  | zero=>exact ⟨rfl,rfl⟩
  | succ i=>
   obtain ⟨a,b⟩:=ih (i:=i) (by simpa using h);have e:Jg (x :: r)=.int .i64 x.1 :: .int .i64 x.2 :: Jg r:=rfl;rw [e,show (i+1) * 2=i * 2+1+1 by omega];exact ⟨by simpa using a,by simpa using b⟩
theorem Zj4 (hc:∀ i (h:i<ws.length),w.cell? ⟨b,i * 2,none⟩=some (.int .i64 ws[i].1)∧w.cell? ⟨b,i * 2+1,none⟩=some (.int .i64 ws[i].2)):∀ j u,(Jg ws)[j]? = some u->w.cell? ((⟨b,0,none⟩:Addr).add j)=some u:=by
 intro j u hj;have hl:j<(Jg ws).length:=(List.getElem?_eq_some_iff.1 hj).1;rw [Zgm] at hl;have hi:j / 2<ws.length:=by omega
 obtain ⟨a1,a2⟩:=Zir hi;obtain ⟨c1,c2⟩:=hc _ hi;have e0:((⟨b,0,none⟩:Addr).add j)=⟨b,j,none⟩:=by rw [Xb,Nat.zero_add]
 rw [e0]
 rcases Nat.mod_two_eq_zero_or_one j with h | h
 ·have:j=j / 2 * 2:=by omega
  rw [this] at hj ⊢;rw [a1] at hj;rw [c1,<- hj]
 ·have:j=j / 2 * 2+1:=by omega
  rw [this] at hj ⊢;rw [a2] at hj;rw [c2,<- hj]
theorem Zqa (h:w.ownsRow base 72 2 v ws.length (Jg ws)):Xh w v ws:=by
 rcases h.2 with ⟨e,h0⟩ | ⟨g,cap,cur,e,hb,hg,_⟩
 ·exact ⟨none,0,by rw [e,h0],.inl (List.eq_nil_of_length_eq_zero h0)⟩
 ·subst e
  refine ⟨_,_,rfl,.inr ⟨g,rfl,Zi hg,λ i hi=>?_⟩⟩;have hc:=h.cells rfl;obtain ⟨a1,a2⟩:=Zir hi;have c1:=hc _ _ a1;have c2:=hc _ _ a2;rw [Xb] at c1 c2;exact ⟨by simpa using c1,by simpa using c2⟩
theorem Zcm {w0:World} (hgd:o.guard=none) (s x:Operand) (t:TypeId)
  (ho:o.op=.call { callee:=.builtin .append,args:=#[s,x],argTypes:=#[t,t] }) (ht:prog.underlying t=some (.slice 72))
  (c p:Int) (n:Nat) (hn:w0.heap.size=n) (hs:a.eval s=.slice (some ⟨n,0,none⟩) 1 1) (ws:List (Int × Int)) (v:Value) (hx:a.eval x=v) (hw:Xh w0 v ws) (hpos:0<ws.length) (hl:ws.length<=100)
  (h:∀ g cap w', Xh w' (.slice (some ⟨g,0,none⟩) (1+ws.length) cap) ((c,p) :: ws)->Za w0 w' -> wpList prog ops Q rest (a.put o.dst (.slice (some ⟨g,0,none⟩) (1+ws.length) cap)) w') :
  wpList prog ops Q (o :: rest) a (w0.alloc (.cells #[.int .i64 c,.int .i64 p] 72)):=by
 subst hn;obtain ⟨i,hi,hz0,hz1,hz2⟩:=info_parts Zpl;have ka:Za w0 (w0.alloc (.cells #[.int .i64 c,.int .i64 p] 72)):=Zal9;obtain ⟨lo,lc,rfl,hl2⟩:=hw.same ka;obtain ⟨b,rfl,_,hc⟩:=hl2.resolve_left (λ e=>by rw [e] at hpos;simp at hpos);have hown:(w0.alloc (.cells #[.int .i64 c,.int .i64 p] 72)).ownsRow w0.heap.size 72 2 (.slice (some ⟨w0.heap.size,0,none⟩) 1 1) 1 [.int .i64 c,.int .i64 p]:=⟨rfl,.inr ⟨w0.heap.size,1,_,rfl,Nat.le_refl _,heap_alloc_new _ _,Nat.le_refl _,by unfold maxLen;omega,rfl,rfl⟩⟩;refine wpList_append_lies _ hgd s x t ho w0.heap.size 72 i _ 2 16 ht hi hz0 hz1 hz2 rfl (by decide) _ 1 [.int .i64 c,.int .i64 p] hs hown ⟨b,0,none⟩ ws.length lc (Jg ws) hx (Zgm ws) (Zj4 hc) (Zo9 ws) hpos (by unfold maxLen;omega) (by omega) (by simp) _ rfl ?_;intro g cap w' hr hg _ _;refine h g cap w' ?_ (Zc.trans ka (Zc.grown (Zc.refl _ _) hg (λ _ e _=>e)) (λ j hj e=>?_))
 ·have e:Jg ((c,p) :: ws)=[.int .i64 c,.int .i64 p]++Jg ws:=rfl
  have e2:((c,p) :: ws).length=1+ws.length:=by simp;omega
  have:=Zqa (w:=w') (base:=w0.heap.size) (v:=.slice (some ⟨g,0,none⟩) (1+ws.length) cap) (ws:=(c,p) :: ws) (by rw [e,e2];exact hr);exact this
 ·have e' : (Value.slice (some ⟨w0.heap.size,0,none⟩) 1 1).ownBlock=some j:=e
  simp only [Value.ownBlock,Option.some.injEq] at e';omega
theorem ans_ex (L:List Sym) (own l:List Ru):∃ ws,Ans L own l ws:=by
 have row:∀ j,Yv L own l j 0->∀ n,n<=l.length->Yv L own l j n∨∃ m,m<l.length∧Yv L own l j m∧ckB L own l j m=false:=by
  intro j h n
  induction n with
  | zero=>exact λ _=>.inl h
  | succ n ih=>
   intro hn
   rcases ih (by omega) with h1 | h1
   ·cases hc:ckB L own l j n with
    | true=>exact .inl (h1.step hc)
    | false=>exact .inr ⟨n,by omega,h1,hc⟩
   ·exact .inr h1
 have all:∀ j,j<=8->Yv L own l j 0∨∃ i m,i<8∧m<l.length∧Yv L own l i m∧ckB L own l i m=false:=by
  intro j
  induction j with
  | zero=>exact λ _=>.inl (Yv.nil L own l)
  | succ j ih=>
   intro hj
   rcases ih (by omega) with h1 | h1
   ·rcases row j h1 l.length (Nat.le_refl _) with h2 | ⟨m,h2,h3,h4⟩
    ·exact .inl (h2.next (Nat.le_refl _))
    ·exact .inr ⟨j,m,by omega,h2,h3,h4⟩
   ·exact .inr h1
 rcases all 8 (Nat.le_refl _) with h | ⟨i,m,h1,h2,h3,h4⟩
 ·exact ⟨[],.inl ⟨rfl,h⟩⟩
 ·exact ⟨_,.inr ⟨i,m,h1,h2,h3,h4,rfl⟩⟩
theorem Zv0 (h:Ans L R l ws) (hne:ws≠[]):∃ c p r,ws=(c,p) :: r∧p ≠ -1∧r.length<=1:=by
 rcases h with ⟨e,_⟩ | ⟨j,n,_,_,_,_,rfl⟩
 ·exact absurd e hne
 ·unfold Xm
  split
  ·exact ⟨_,_,_,rfl,by omega,by simp⟩
  ·split
   ·exact ⟨_,_,_,rfl,by omega,by simp⟩
   ·exact ⟨_,_,_,rfl,by omega,by simp⟩
theorem Rl.flag (h:Rl n w (.slice so L.length sc) L) (hi:i<L.length):∃ g,so=some ⟨g,0,none⟩∧w.cell? ⟨g,i * 3+2,none⟩=some (.bool (Xe L (i:Int))):=by
 rw [Zg1 hi]
 rcases h.1.2 with ⟨_,h0⟩ | ⟨g,cap,cur,e,_,hg,_⟩
 ·omega
 ·have hc:=h.1.cells (g:=g) (by cases e;rfl) _ _ (Kf hi).2.2
  rw [Xb,Nat.zero_add] at hc;simp only [Value.slice.injEq] at e;exact ⟨g,e.1,hc⟩
theorem Zcs.put {vs:List Value} (h:Zcs w m so sc V L R lv vs) {R2:List Ru} {lv2:Value} {vs2:List Value} (r2:w.ownsRow 0 90 2 lv2 R2.length vs2) (o2:Z7 w vs2 R2) (le2:R2.length<=100) (ok2:∀ x∈R2,Zd L x.1=0∧Zd L x.2=0) (V2:Nat) :
  (Zcs (w.setCell ⟨m,1,none⟩ lv2) m so sc V L R2 lv2 vs2∧Zc (λ q=>q=m) w (w.setCell ⟨m,1,none⟩ lv2))∧Zcs ((w.setCell ⟨m,1,none⟩ lv2).setCell ⟨m,2,none⟩ (.int .i64 (V2:Int))) m so sc V2 L R2 lv2 vs2∧Zc (λ q=>q=m) w ((w.setCell ⟨m,1,none⟩ lv2).setCell ⟨m,2,none⟩ (.int .i64 (V2:Int))):=by
 have k1:=Yh w m 1 lv2;have k2:=Zc.setCell (p:=⟨m,2,none⟩) k1 (λ _=>rfl) (.int .i64 (V2:Int));have s1:=Zt h.blk 1 lv2;have s2:=Zt s1 2 (.int .i64 (V2:Int));have no:∀ (T:TypeId) (c:Array Value),T≠31->w.heap[m]? ≠ some (.cells c T (0,0)):=λ T c hT e=>by rw [h.blk] at e;cases e;exact hT rfl
 have fin:∀ ww,Zc (λ q=>q=m) w ww->Rl ww.heap.size ww (.slice so L.length sc) L∧ww.ownsRow 0 90 2 lv2 R2.length vs2∧Z7 ww vs2 R2:=λ ww hk=>by
  refine ⟨⟨hk.row h.rl.1 (λ q e s=>?_),λ q e=>Nat.lt_of_lt_of_le (h.rl.2.1 q e) hk.size,h.rl.2.2⟩,hk.row r2 (λ q e s=>?_),o2.kept hk (λ q s c e=>?_)⟩
  ·obtain ⟨c,hc⟩:=Yb h.rl.1 e
   have s' : q=m:=s;rw [s'] at hc;exact no _ _ (by decide) hc
  ·obtain ⟨c,hc⟩:=Yb r2 e
   have s' : q=m:=s;rw [s'] at hc;exact no _ _ (by decide) hc
  ·have s' : q=m:=s
   rw [s'] at e;exact no _ _ (by decide) e
 obtain ⟨a1,a2,a3⟩:=fin _ k1;obtain ⟨b1,b2,b3⟩:=fin _ k2;exact ⟨⟨⟨s1,a1,a2,a3,le2,ok2⟩,k1⟩,⟨s2,b1,b2,b3,le2,ok2⟩,k2⟩
def Zsk (m:Nat) (so:Option Addr) (sc V:Nat) (L:List Sym) (R l:List Ru) (w:World) (e:Ending) (w' : World):Prop:=
 ∃ ws v,e=.returned v∧Zcw L R l ws∧Xh w' v ws∧Zc (λ q=>q=m) w w' ∧ ∃ V' R' lv' vs', Zcs w' m so sc V' L R' lv' vs' ∧ (ws=[]->R' = R++l∧V' = V+(if l.length=0 then 0 else 1))∧(ws≠[]->R' = R∧V' = V∧Za w w')
theorem Zp4 {vs:List Value} (h:Zcs w m so sc V L R lv vs) (hV:V<=1000) (hl:Vh w lo l) (hll:l.length<=140737488355328) (hln:lo=none->lc=0) :
  Calls prog 26 #[.pointer (some ⟨m,0,none⟩),.slice lo l.length lc] w (Zsk m so sc V L R l w):=by
 obtain ⟨ro,rc,hlv,_⟩:=J9 h.row (h.own.rcells (λ x hx=>⟨(Yr (h.ok x hx)).1.2,(Yr (h.ok x hx)).2.2⟩));have hL64:L.length<=64:=h.rl.2.2.2;have hle:=h.le;have hok:=h.ok;have HRY:Hid (∀ ww,Za w ww->Zcs ww m so sc V L R lv vs):=λ ww hk=>h.same hk;have HS:Hid (∀ ww,Za w ww->ww.cell? ⟨m,0,none⟩=some (.slice so L.length sc)∧ww.cell? ⟨m,1,none⟩=some lv):=λ ww hk=>⟨Zb (hk.at0 h.blk) 0,Zb (hk.at0 h.blk) 1⟩;have CC0:=HS.out w (Zc.refl _ _);have r2:=h.row;have o2:∀ u∈vs,u.oneCell' = true:=(h.own.rcells (λ x hx=>⟨(Yr (h.ok x hx)).1.2,(Yr (h.ok x hx)).2.2⟩)).one;have n2:=h.le;obtain ⟨i2,hi2,hz02,hz12,hz22⟩:=info_parts V5;have HO:Hid (Z7 w vs R):=h.own;have HRL:Hid (Rl w.heap.size w (.slice so L.length sc) L):=h.rl;have hmw:=Zi h.blk
 have FIN:Hid (∀ w2 rv,Za w w2->w2.ownsRow w.heap.size 90 2 rv R.length vs->Hid (MO (w2.alloc (.cells #[.slice so L.length sc,rv] 131)) w2.heap.size so sc L R rv vs∧w.heap.size<=w2.heap.size∧∀ q,rv.ownBlock=some q->w.heap.size<=q)∧Za w (w2.alloc (.cells #[.slice so L.length sc,rv] 131))):=by
  intro w2 rv s2 q2;have ka:Za w2 (w2.alloc (.cells #[.slice so L.length sc,rv] 131)):=Zal9;have K:=s2.trans' ka;exact ⟨⟨⟨heap_alloc_new _ _,Zod (HRL.out.same K) K.size,Yy (ka.row q2 (λ _ _ f=>f)) (Nat.zero_le _),HO.out.same K,hle,hok⟩,s2.size,λ q e=>(q2.lt q e).1⟩,K⟩
 clear h;subst hlv
 go_enter func26,ntmps26
 go_upto_region 1 with fail
 go_cut [5] from 8 to 20 (λ s5 wc=>∃ r rv,s5=.pointer (some ⟨r,0,none⟩)∧Hid (MO wc r so sc L R rv vs∧w.heap.size<=r∧∀ q,rv.ownBlock=some q->w.heap.size<=q)∧Za w wc)
 case first=>
  go_region_held3 (λ w' => w'.cell? ⟨m,0,none⟩=some (.slice so L.length sc)∧w'.cell? ⟨m,1,none⟩=some (.slice ro R.length rc)) (first | exact CC0 | exact HS.out _ (by first | assumption | exact Zc.alloc (by assumption) _ | exact Zc.drew (Zc.refl _ _) | exact Zc.alloc (Zc.drew (Zc.refl _ _)) _ | exact Zc.drew (Zc.alloc (Zc.refl _ _) _))) (first
   | (refine Zqp (wb:=w) (by rfl) _ _ 29 90 (by rfl) i2 _ 2 48 underlying29 hi2 hz02 hz12 hz22 rfl (by decide) _ (by rfl) R.length vs (.slice ro R.length rc) (by rfl) r2 (by first | exact (Zc.refl _ w).drew.alloc _ | exact ((Zc.refl _ w).alloc _).drew) (by first | exact heap_alloc_new _ _ | exact heap_alloc_new w _) (by omega) (by omega) (by omega) o2 ?_;intro rv w2 q2 s2 KQ;obtain ⟨vo,vc,rfl⟩:=Zf q2;clear KQ))
  all_goals
   go_wp2_with fail
   go_meet
   case rel=>
    first
     | exact ⟨_,_,rfl,FIN.out _ _ s2 q2⟩
     | ((repeat apply Exists.intro);exact ⟨⟨_,_,rfl,FIN.out _ _ s2 q2⟩,rfl⟩)
 case rest=>
  obtain ⟨r,rv,rfl,hMO,kc⟩:=hcut;obtain ⟨W2,rfl⟩:∃ W2,W2=wc:=⟨_,rfl⟩;obtain ⟨h2,hwr,hrv⟩:=hMO.out;have hl2:=hl.same kc;clear hMO CC0 r2 o2 n2 hi2 hz02 hz12 hz22 FIN
  by_cases hA:Ans L R l []
  ·have hfit:=hA.fit hle
   have CAD:=Zu9 (lc:=lc) h2 hl2 hll hln hA hfit.2 hfit.1 (λ ww hk=>hl.same (Zc.trans kc hk (λ i hi e=>by rcases e with e | e; (omega); (have:=hrv i e;omega))));have HAN:Hid (Ans L R l []):=hA;have hrle:(R++l).length<=100:=by rw [List.length_append];exact hfit.1
   have hrok:∀ x∈R++l,Zd L x.1=0∧Zd L x.2=0:=λ x hx=>by
    rcases List.mem_append.1 hx with q | q
    ·exact hok x q
    ·exact hfit.2 x q
   have hkw:=hwr;clear h2 hl2 hA hfit
   go_upto_region 6 with ((go_at_call 54;refine CAD.mono ?_;rintro e w3 ⟨lv3,vs3,rfl,hm3,_,k3⟩))
   have K3:Za w w3:=Zc.trans kc k3 (λ i hi e=>by rcases e with e | e; (omega); (have:=hrv i e;omega));obtain ⟨mo3,mc3,hlv3,hmr3⟩:=hm3.read;subst hlv3
   have HM3:Hid (∀ ww,Za w3 ww->MO ww r so sc L (R++l) (.slice mo3 (R++l).length mc3) vs3∧ww.cell? ⟨r,1,none⟩=some (.slice mo3 (R++l).length mc3)∧Vh ww mo3 (R++l)∧Rl ww.heap.size ww (.slice so L.length sc) L):=λ ww hk=>by
    have h9:=hm3.same hk;exact ⟨h9,Zb h9.blk 1,hmr3.rs.same hk,h9.rl⟩
   have HS3:Hid (∀ ww,Za w3 ww->ww.cell? ⟨m,0,none⟩=some (.slice so L.length sc)):=λ ww hk=>(HS.out ww (K3.trans' hk)).1;have HBD:Hid (∀ ww (n:Int),Za w3 ww->Calls prog 55 #[.slice so L.length sc,.slice mo3 (R++l).length mc3,.int .i64 n] ww (Jm L (R++l) n ww)):=λ ww n hk=>Zkr (HM3.out ww hk).2.2.2 (HM3.out ww hk).2.2.1 hrle hrok mc3 n;clear CAD hm3 hmr3 k3
   go_loopw [7] (λ s wr=>∃ n:Nat,n<=L.length∧s=.int .i64 (n:Int)∧Za w3 wr∧Hid (Jy L (R++l) n)) (λ s _=>L.length-(intOf s).toNat)
   case atStart=>exact ⟨0,Nat.zero_le _,rfl,Zc.refl _ _,λ k hk=>absurd hk (by omega)⟩
   case round=>
    obtain ⟨n,hn,rfl,hw,hnf⟩:=hrel;obtain ⟨wz,rfl⟩:∃ wz,wz=wr:=⟨_,rfl⟩;have m0:=HS3.out wz hw
    by_cases hlt:n<L.length
    ·have i1:(0:Int)<=(n:Int):=by omega
     have i2:(n:Int)<(L.length:Int):=by omega
     have hl3:IntKind.i64.wrap ((n:Int)+1)=(n:Int)+1:=Zcv (by omega) (by omega);obtain ⟨g,hso,hfl⟩:=(HM3.out wz hw).2.2.2.flag hlt;subst hso;cases hd:Xe L (n:Int) with
     | false=>
      rw [hd] at hfl
      have HN1:Hid (Jy L (R++l) (n+1)):=λ k hk hdk=>by
       by_cases e:k=n
       ·subst e;rw [hd] at hdk;cases hdk
       ·exact hnf.out k (by omega) hdk
      clear HBD HM3 HRY
      go_wp2_with fail
      first | exact ⟨⟨n+1,by omega,by go_num,hw,HN1⟩,by simp [intOf];omega⟩ | (go_roundw;case rel=>first | exact ⟨n+1,by omega,by go_num,hw,HN1⟩ | ((repeat apply Exists.intro);exact ⟨⟨n+1,by omega,by go_num,hw,HN1⟩,rfl⟩);case measure=>first | (simp [intOf];done) | (simp [intOf];omega))
     | true=>
      rw [hd] at hfl
      have CB:Hid (∀ ww,Za wz ww->Calls prog 55 #[.slice (some ⟨g,0,none⟩) L.length sc,.slice mo3 (R++l).length mc3,.int .i64 (n:Int)] ww λ e w' => ∃ v wo wn wc,e=.returned (.tuple #[v,.slice wo wn wc])∧Hid ((wn=0∧∃ t,J4 L (R++l) n=.ok t)∨∃ z,J4 L (R++l) n=.error z∧wn=2∧Xh w' (.slice wo wn wc) [(81,(n:Int)),(82,z)])∧Za ww w'):=λ ww hk=>by
       refine (HBD.out ww (n:Int) (hw.trans' hk)).mono ?_;rintro e w' ⟨k9,h9⟩;rw [if_pos hd,Int.toNat_natCast] at h9;cases ht:J4 L (R++l) n with
       | ok t=>
        rw [ht] at h9;obtain ⟨v,rfl,_⟩:=h9;exact ⟨v,none,0,0,rfl,.inl ⟨rfl,t,rfl⟩,k9⟩
       | error z=>
        rw [ht] at h9;obtain ⟨v,rfl,hw9,_⟩:=h9;obtain ⟨wo,wc9,rfl,_⟩:=id hw9;exact ⟨_,wo,2,wc9,rfl,.inr ⟨z,rfl,rfl,hw9⟩,k9⟩
      have HC9:Hid (∀ ww,Za wz ww->ww.cell? ⟨m,0,none⟩=some (.slice (some ⟨g,0,none⟩) L.length sc)∧ww.cell? ⟨r,1,none⟩=some (.slice mo3 (R++l).length mc3)):=λ ww hk=>⟨HS3.out ww (hw.trans' hk),(HM3.out ww (hw.trans' hk)).2.1⟩;have D0:=HC9.out wz (Zc.refl _ _)
      go_upto_region 9 with fail
      clear hfl m0
      go_cut [6] from 34 to 72 (λ s6 wc=>∃ wo wn wk,s6=.slice wo wn wk∧Hid ((wn=0∧∃ t,J4 L (R++l) n=.ok t)∨∃ z,J4 L (R++l) n=.error z∧wn=2∧Xh wc (.slice wo wn wk) [(81,(n:Int)),(82,z)])∧Za wz wc)
      case first=>
       have kd:Za wz wz.drew:=Zc.drew (Zc.refl _ _);have C9:=CB.out wz.drew kd;obtain ⟨d0,d1⟩:=D0;clear CB HBD HRY HM3 hd hlt hn hnf hok hrok hrle HS HRL HO HS3 hV hL64 hle hkw hrv hll hln hw hl3 i1 i2 K3 HAN HC9;generalize (R++l).length=NL at *
       go_region_with (first
        | (go_at_call 55;refine C9.mono ?_;rintro e w10 ⟨v9,wo,wn,wk,rfl,h10,k10⟩;have k910:=kd.trans' k10))
       all_goals
        go_wp2_with fail
        go_meet
        case rel=>first | exact ⟨wo,wn,wk,rfl,h10,k910⟩ | ((repeat apply Exists.intro);exact ⟨⟨wo,wn,wk,rfl,h10,k910⟩,rfl⟩)
      case rest=>
       obtain ⟨wo,wn,wk,rfl,h10,kc10⟩:=hcut;obtain ⟨wx,rfl⟩:∃ wx,wx=wc:=⟨_,rfl⟩;have KX:Za w3 wx:=hw.trans' kc10
       rcases h10.out with ⟨rfl,t,ht⟩ | ⟨z,hz,rfl,hW⟩
       ·have HN1:Hid (Jy L (R++l) (n+1)):=λ k hk hdk=>by
         by_cases e:k=n
         ·subst e;exact ⟨t,ht⟩
         ·exact hnf.out k (by omega) hdk
        clear HBD HM3 HRY CB HC9 h10 D0
        go_wp2_with fail
        first | exact ⟨⟨n+1,by omega,by go_num,KX,HN1⟩,by simp [intOf];omega⟩ | (go_roundw;case rel=>first | exact ⟨n+1,by omega,by go_num,KX,HN1⟩ | ((repeat apply Exists.intro);exact ⟨⟨n+1,by omega,by go_num,KX,HN1⟩,rfl⟩);case measure=>first | (simp [intOf];done) | (simp [intOf];omega))
       ·have HA:Hid (Zcw L R l [(102,(n:Int)),(81,(n:Int)),(82,z)]):=.inr (.inl ⟨HAN.out,n,z,⟨hlt,hd,hz,hnf.out⟩,rfl⟩)
        clear HBD HM3 CB HC9 h10 D0
        go_wp2_with ((at_builtin;refine Zcm rfl _ _ 66 rfl underlying66 102 (n:Int) _ rfl rfl [(81,(n:Int)),(82,z)] (.slice wo 2 wk) rfl hW (by simp) (by simp) ?_;intro g9 cap9 w4 hw4 k4))
        go_ret;have K4:Za w w4:=(K3.trans' KX).trans' k4;exact ⟨_,_,rfl,HA.out,hw4,K4.mono (λ _ _ f=>f.elim),V,R,_,vs,HRY.out _ K4,⟨(λ e=>by cases e),λ _=>⟨rfl,rfl,K4⟩⟩⟩
    ·have en:n=L.length:=by omega
     subst en;have i2:¬ (L.length:Int)<(L.length:Int):=by omega
     have KZ:Za w wz:=K3.trans' hw;have hR9:=HRY.out wz KZ;obtain ⟨hm9,c9,_,_⟩:=HM3.out wz hw;obtain ⟨⟨p1,q1⟩,p2,q2⟩:=hR9.put hm9.row hm9.own hrle hrok (V+1);have y1:=Zb hR9.blk 1;have f1:=Zg hR9.blk 1;have s1:=Zt hR9.blk 1 (.slice mo3 (R++l).length mc3);have y2:(wz.setCell ⟨m,1,none⟩ (.slice mo3 (R++l).length mc3)).cell? ⟨m,2,none⟩=some (.int .i64 (V:Int)):=Zb s1 2;have f2:=Zg s1 2;simp only [List.getElem?_toArray,List.getElem?_cons_zero,List.getElem?_cons_succ] at y1;have HA:Hid (Zcw L R l []):=.inr (.inr ⟨HAN.out,hnf.out,rfl⟩);have HP1:Hid (_∧_):=And.intro p1 (Zc.trans (KZ.mono (S' := λ q=>q=m) (λ _ _ f=>f.elim)) q1 (λ _ _ e=>e));have HP2:Hid (_∧_):=And.intro p2 (Zc.trans (KZ.mono (S' := λ q=>q=m) (λ _ _ f=>f.elim)) q2 (λ _ _ e=>e));clear p1 q1 p2 q2 s1 HBD HM3 HRY hm9 hR9 hnf HAN;generalize (R++l).length=NL at *
     by_cases h0:l.length=0
     ·have h0' : ¬ (0:Int)<(l.length:Int):=by omega
      have HV0:Hid (V=V+(if l.length=0 then 0 else 1)):=by show _=_;rw [if_pos h0];omega
      go_wp2;go_ret;exact ⟨[],_,rfl,HA.out,⟨none,0,rfl,.inl rfl⟩,HP1.out.2,V,_,_,_,HP1.out.1,λ _=>⟨rfl,HV0.out⟩,λ e=>absurd rfl e⟩
     ·have h0' : (0:Int)<(l.length:Int):=by omega
      have hVw:IntKind.i64.wrap ((V:Int)+1)=((V+1:Nat):Int):=by rw [Zcv (by omega) (by omega)];omega
      have HV0:Hid (V+1=V+(if l.length=0 then 0 else 1)):=by show _=_;rw [if_neg h0]
      clear h0;go_wp2;go_ret;exact ⟨[],_,rfl,HA.out,⟨none,0,rfl,.inl rfl⟩,HP2.out.2,V+1,_,_,_,HP2.out.1,λ _=>⟨rfl,HV0.out⟩,λ e=>absurd rfl e⟩
  ·obtain ⟨ws,hws⟩:=ans_ex L R l
   have hne:ws≠[]:=λ e=>hA (by rw [e] at hws;exact hws);obtain ⟨c,p,rr,rfl,hp,hr1⟩:=Zv0 hws hne;have CAD:=Zuj (lc:=lc) h2 hl2 hll hln hws hne;have HA:Hid (Zcw L R l ((101,p) :: (c,p) :: rr)):=.inl ⟨c,p,rr,hws,hp,hr1,rfl⟩;have hlen:((c,p) :: rr).length<=100:=by simp;omega
   clear hws hne h2 hl2 hA
   go_upto_region 3 with ((go_at_call 54;refine CAD.mono ?_;rintro e w3 ⟨v,rfl,hW,k3⟩))
   obtain ⟨wo,wc3,rfl,hW2⟩:=id hW;obtain ⟨b,rfl,_,hc⟩:=hW2.resolve_left (by simp);obtain ⟨g0,g1⟩:=hc 0 (by simp);simp only [List.getElem_cons_zero,Nat.zero_mul,Nat.zero_add] at g0 g1;have K3:Za w w3:=kc.trans' k3;have hpos:(0:Int)<(((c,p) :: rr).length:Int):=by simp
   clear CAD hW2 hc
   go_wp2_with ((at_builtin;refine Zcm rfl _ _ 66 rfl underlying66 101 p _ rfl rfl ((c,p) :: rr) (.slice (some ⟨b,0,none⟩) _ wc3) rfl hW (by simp) hlen ?_;intro g9 cap9 w4 hw4 k4))
   go_ret;have K4:Za w w4:=K3.trans' k4;exact ⟨_,_,rfl,HA.out,by simpa [Nat.add_comm] using hw4,K4.mono (λ _ _ f=>f.elim),V,R,_,vs,HRY.out _ K4,⟨(λ e=>by cases e),λ _=>⟨rfl,rfl,K4⟩⟩⟩
end
section
open Go.RowKit Go.Shelf
attribute [local go_sem] Oper.semAt_some
structure LsJ (R:List Ru) (w:World) (k:Nat) (W:World):Prop where
 same:Za w W
 row:∃ v cs,W.heap[w.heap.size+1]? = some (.cells #[v] 29 (0,0))∧W.ownsRow w.heap.size 90 2 v k cs∧Z7 W cs (R.take k)
theorem LsJ.up {W':World} (h:LsJ R w k W) (hk:Za W W'):LsJ R w k W' := by
 obtain ⟨h1,v,cs,h3,h4,h5⟩:=h;exact ⟨h1.trans' hk,v,cs,hk.at0 h3,hk.row h4 (λ _ _ f=>f),h5.same hk⟩
theorem LsJ.put {X:World} {l:Nat} {o o' : Obj} (h:LsJ R w k X) (hl:X.heap[l]? = some o) (ho:o.isCells=false) (hw:w.heap.size<=l):LsJ R w k (X.putObj l o'):=by
 obtain ⟨h1,v,cs,h3,h4,h5⟩:=h;have kk:Zc (λ k=>k=l) X (X.putObj l o'):=Xd;have no:∀ cur t fr,X.heap[l]? ≠ some (.cells cur t fr):=λ cur t fr e=>by rw [hl] at e;cases e;cases ho
 refine ⟨Zc.trans h1 kk (λ i hi e=>by have e' : i=l:=e;omega),v,cs,Yg hl ho h3 rfl,kk.row h4 (λ q e e2=>?_),h5.kept kk (λ q e=>?_)⟩
 ·obtain ⟨cur,hc⟩:=Zu h4 e
  have e3:q=l:=e2;rw [e3] at hc;exact no _ _ _ hc
 ·have e3:q=l:=e
  rw [e3];exact λ cur=>no _ _ _
theorem LsJ.more {w1:World} (j1:Za w W) {v':Value} {cs:List Value} (j3:W.heap[w.heap.size+1]? = some (.cells #[v] 29 (0,0))) (j4:W.ownsRow w.heap.size 90 2 v k cs) (j5:Z7 W cs (R.take k)) (hk:k<R.length) {g c g' c' : Nat} (t1:Yu W g c R[k].1) (t2:Yu W g' c' R[k].2)
  (hr:w1.ownsRow w.heap.size 90 2 v' (k+1) (cs ++ [.slice (some ⟨g,0,none⟩) R[k].1.length c,.slice (some ⟨g', 0,none⟩) R[k].2.length c'])) (hkp:Zc (λ q=>v.ownBlock=some q) W w1) {D:Nat} :
  w1.heap[w.heap.size+1]? = some (.cells #[v] 29 (0,0))∧LsJ R w (k+1) (w1.setCell ⟨w.heap.size+1,0,none⟩ v')∧Rnd D w.heap.size W (w1.setCell ⟨w.heap.size+1,0,none⟩ v'):=by
 have ty:∀ q,v.ownBlock=some q->∃ cur,W.heap[q]? = some (.cells cur 90 (0,0)):=λ q e=>Zu j4 e;have n3:¬ v.ownBlock=some (w.heap.size+1):=λ e=>by obtain ⟨cur,hc⟩:=ty _ e;rw [j3] at hc;cases hc
 have b3:=hkp.at j3 n3;have ks:=Yh w1 (w.heap.size+1) 0 v';have kk:Zc (λ q=>v.ownBlock=some q∨q=w.heap.size+1) W (w1.setCell ⟨w.heap.size+1,0,none⟩ v'):=Zc.trans (hkp.mono (λ _ _ e=>.inl e)) ks (λ _ _ e=>.inr e)
 have e1:R.take (k+1)=R.take k ++ [R[k]]:=by
  rw [List.take_add_one,List.getElem?_eq_getElem hk];rfl
 refine ⟨b3,⟨Zc.trans j1 kk (λ i hi e=>?_),v', _,by rw [Zt b3];rfl,ks.row hr (λ q e e2=>?_),?_⟩,Rnd.of kk (λ q e=>?_) (λ q hq e=>?_) j1.size⟩
 ·rcases e with e | e
  ·have:=Jq j4 e;omega
  ·omega
 ·have e3:q=w.heap.size+1:=e2
  rw [e3] at e;obtain ⟨cur,hc⟩:=Zu hr e;rw [b3] at hc;cases hc
 ·rw [e1]
  refine (j5.append (Z7.one t1 t2)).kept kk (λ q e=>?_)
  rcases e with e | e
  ·obtain ⟨cur,hc⟩:=ty q e
   exact λ cur' h=>(by rw [hc] at h;cases h)
  ·rw [e]
   exact λ cur' h=>(by rw [j3] at h;cases h)
 ·rcases e with e | e
  ·obtain ⟨cur,hc⟩:=ty q e
   exact ⟨_,_,_,hc⟩
  ·rw [e];exact ⟨_,_,_,j3⟩
 ·rcases e with e | e
  ·have:=Jq j4 e;omega
  ·omega
theorem Zqy {p bs:Nat} {vs:List Value} (h:X6 w p bs L R lv vs) :
  Calls prog 41 #[.agg #[.pointer (some ⟨p,0,none⟩)]] w λ e w' => e=.returned (.pointer (some ⟨p,0,none⟩))∧Za w w' := by
 have hn2:=Zs6;have ka:Za w (w.alloc (.cells #[.pointer (some ⟨p,0,none⟩)] 92)):=(Zc.refl _ w).alloc _;clear h
 go_enter func41,ntmps41
 go_wp2;go_ret;exact ⟨rfl,ka⟩
theorem Z7.rs {cs:List Value} (hr:w.ownsRow base 90 2 v N cs) (hc:Z7 w cs R) (hl:∀ x∈R,x.1.length<=2000∧x.2.length<=2000):∃ lo lc,v=.slice lo R.length lc∧Vh w lo R∧R.length<=lc:=by
 obtain ⟨ao,cap,e,h1,h2,h3⟩:=J9 hr (hc.rcells hl);refine ⟨ao,cap,e,h1,?_⟩;subst h3
 rcases hr.2 with ⟨e2,h0⟩ | ⟨g,cap', cur,e2,_,_,_,h4,_⟩
 ·omega
 ·rw [e] at e2
  simp only [Value.slice.injEq] at e2;omega
theorem Zrb (h:SyG w sp L R) :
  Calls prog 83 #[.agg #[.pointer sp]] w λ e w' => ∃ lo lc,e=.returned (.slice lo R.length lc)∧Vh w' lo R∧R.length<=lc∧Za w w' := by
 have hFn:∀ k,Fence.wide.fn k:=λ _=>trivial;obtain ⟨W1,hW1⟩:∃ W1,W1=(w.alloc (.cells #[.pointer sp] 92)).alloc (.cells #[.slice none 0 0] 29):=⟨_,rfl⟩;have KW:Za w W1:=by rw [hW1];exact ((Zc.refl _ w).alloc _).alloc _
 have g0:W1.cell? ⟨w.heap.size,0,none⟩=some (.pointer sp):=by rw [hW1];exact Zb (heap_alloc2_old _ _ _) 0
 have g1:W1.heap[w.heap.size+1]? = some (.cells #[.slice none 0 0] 29 (0,0)):=by rw [hW1];exact Zo _ _ _
 rcases h with ⟨rfl,rfl,rfl⟩ | ⟨p,bs,lv,vs,rfl,hst⟩
 ·have CL:=(callsIn_wide (n:=8)).2 (J6 (w:=W1) (sp:=none) (L:=[]) (R:=[]) (.inl ⟨rfl,rfl,rfl⟩))
  refine (callsIn_wide (n:=9)).1 ?_;refine callsIn_of_wp_marks func83 rfl trivial ?_ rfl;simp only [ntmps83,List.size_toArray,List.length_cons,List.length_nil,Nat.reduceAdd,Nat.reduceSub,Array.replicate_succ,Array.replicate_zero,List.push_toArray,List.append_toArray,List.nil_append,List.cons_append]
  gi_upto_region 2 with fail
  rw [<- hW1];clear hW1
  gi_wp2_with (first
   | (gi_at_call 41;refine CL.mono ?_;rintro e w2 ⟨p,bs,lv,vs,rfl,hst,k2'⟩;have k2:Za W1 w2:=k2')
   | (gi_at_call 45;refine (Zhu Fence.wide _ trivial rfl _ _).mono ?_;rintro e w' ⟨rfl,rfl⟩))
  obtain ⟨W0,hW0⟩:∃ W0,W0=w2.alloc (.cells #[.pointer (some ⟨p,0,none⟩)] 43):=⟨_,rfl⟩;have K0:Za w2 W0:=by rw [hW0];exact Zal9
  have b2:W0.cell? ⟨w2.heap.size,0,none⟩=some (.pointer (some ⟨p,0,none⟩)):=by rw [hW0];exact Zb (heap_alloc_new _ _) 0
  have z0:w2.heap.size<=W0.heap.size:=K0.size;have z1:w.heap.size<=w2.heap.size:=(KW.trans' k2).size;have gl:=(k2.trans' K0).at0 g1;have HSM:Za w W0:=(KW.trans' k2).trans' K0;rw [<- hW0];clear hW0
  refine Zn5 rfl (by omega) (gf:=80) (lb:=#[.pointer (some ⟨w2.heap.size,0,none⟩)]) rfl trivial (enters_of func80 (by kernel_rfl) rfl) (B:=w2.heap.size) z0 (Zd8 hst K0 b2 (by omega)) (λ k vs W h=>by obtain ⟨_,_,_,_,_,rfl,_⟩:=h;rfl)
   (λ k W=>Za w W∧W.heap[w.heap.size+1]? = some (.cells #[.slice none 0 0] 29 (0,0))) (λ k X Y h hk=>⟨h.1.trans' hk,hk.at0 h.2⟩) (λ k X l o o' h hl ho hw=>⟨Zc.trans h.1 (Xd (l:=l) (o' := o')) (λ i hi e=>by have e' : i=l:=e;omega),Yg hl ho h.2 rfl⟩) ⟨HSM,gl⟩ ?round ?done
  case done=>
   rintro D W hD ⟨j1,j3⟩ hK;have c3:W.cell? ⟨w.heap.size+1,0,none⟩=some (.slice none 0 0):=Zb j3 0;have hz3:=Zi j3;have HF:Za w (W.putObj D (.deferred none)):=Zc.trans j1 (Xd (l:=D) (o' := .deferred none)) (λ i hi e=>by have e' : i=D:=e;omega);have HFH:Hid (Za w (W.putObj D (.deferred none))):=HF;clear j1 j3 HF
   gi_wp2_with fail
   refine ⟨by simp,.inl ⟨_,_,rfl,run_takeDeferred hK,?_⟩⟩;exact ⟨_,results_tmp rfl _ _ _,none,0,rfl,.inl rfl,by simp,HFH.out⟩
  case round=>
   rintro l k vs W hk;simp at hk
 ·have hle:=hst.le
  have hok:=hst.ok;have CL:=(callsIn_wide (n:=8)).2 (Zqy (hst.same KW));refine (callsIn_wide (n:=9)).1 ?_;refine callsIn_of_wp_marks func83 rfl trivial ?_ rfl;simp only [ntmps83,List.size_toArray,List.length_cons,List.length_nil,Nat.reduceAdd,Nat.reduceSub,Array.replicate_succ,Array.replicate_zero,List.push_toArray,List.append_toArray,List.nil_append,List.cons_append]
  gi_upto_region 2 with fail
  rw [<- hW1];clear hW1
  gi_wp2_with (first
   | (gi_at_call 41;refine CL.mono ?_;rintro e w2 ⟨rfl,k2'⟩;have k2:Za W1 w2:=k2')
   | (gi_at_call 45;refine (Zhu Fence.wide _ trivial rfl _ _).mono ?_;rintro e w' ⟨rfl,rfl⟩))
  obtain ⟨W0,hW0⟩:∃ W0,W0=w2.alloc (.cells #[.pointer (some ⟨p,0,none⟩)] 43):=⟨_,rfl⟩;have K0:Za w2 W0:=by rw [hW0];exact Zal9
  have b2:W0.cell? ⟨w2.heap.size,0,none⟩=some (.pointer (some ⟨p,0,none⟩)):=by rw [hW0];exact Zb (heap_alloc_new _ _) 0
  have HSM:Za w W0:=(KW.trans' k2).trans' K0;have z0:w.heap.size<=W0.heap.size:=HSM.size;have gl:=(k2.trans' K0).at0 g1;have hz1:=Zi gl;have START:LsJ R w 0 W0:=⟨HSM,.slice none 0 0,[],gl,World.ownsRow_nil _ _ _ _,⟨rfl,λ i hi=>absurd hi (by simp)⟩⟩;have hlen:∀ x∈R,x.1.length<=2000∧x.2.length<=2000:=λ x hx=>⟨(Yr (hok x hx)).1.2,(Yr (hok x hx)).2.2⟩;rw [<- hW0];clear hW0
  refine Zn5 rfl (by omega) (gf:=80) (lb:=#[.pointer (some ⟨w2.heap.size,0,none⟩)]) rfl trivial (enters_of func80 (by kernel_rfl) rfl) (B:=w.heap.size) z0 (Zd8 hst HSM b2 (by omega)) (λ k vs W h=>by obtain ⟨_,_,_,_,_,rfl,_⟩:=h;rfl)
   (λ k W=>LsJ R w k W) (λ k X Y h hk=>h.up hk) (λ k X l o o' h hl ho hw=>h.put hl ho (by omega)) START ?round ?done
  case done=>
   rintro D W hD hj hK;obtain ⟨j1,v,cs,j3,j4,j5⟩:=hj;have hz3:=Zi j3;have kk:Zc (λ k=>k=D) W (W.putObj D (.deferred none)):=Xd;have c3:=Zb j3 0;obtain ⟨j1', v', cs', j3', j4', j5'⟩:=LsJ.put (o' := .deferred none) (⟨j1,v,cs,j3,j4,j5⟩:LsJ R w R.length W) hK rfl (by omega);have c3' := Yg (o' := .deferred none) hK rfl j3 rfl;rw [c3'] at j3';cases j3';rw [List.take_of_length_le (Nat.le_refl _)] at j5';obtain ⟨lo,lc,rfl,r1,r2⟩:=Z7.rs j4' j5' hlen;simp only [List.getElem?_toArray,List.getElem?_cons_zero] at c3;have HF:Hid (Vh (W.putObj D (.deferred none)) lo R∧R.length<=lc∧Za w (W.putObj D (.deferred none))):=⟨r1,r2,j1'⟩;clear j1 j3 j4 j5 j1' j4' j5' c3' r1 r2 kk START
   gi_wp2_with fail
   refine ⟨by simp,.inl ⟨_,_,rfl,run_takeDeferred hK,?_⟩⟩;exact ⟨_,results_tmp rfl _ _ _,lo,lc,rfl,HF.out⟩
  case round=>
   rintro l k vs W hk hl hlW hj ⟨hk', g,c,g', c', rfl,t1,t2⟩;obtain ⟨Wa,hWa⟩:∃ Wa,Wa=W.alloc (.cells #[.slice (some ⟨g,0,none⟩) R[k].1.length c,.slice (some ⟨g', 0,none⟩) R[k].2.length c'] 90):=⟨_,rfl⟩;have ka:Za W Wa:=by rw [hWa];exact Zal9
   have bx:Wa.heap[W.heap.size]? = some (.cells #[.slice (some ⟨g,0,none⟩) R[k].1.length c,.slice (some ⟨g', 0,none⟩) R[k].2.length c'] 90 (0,0)):=by rw [hWa];exact heap_alloc_new _ _
   gi_wp2_with fail
   rw [<- hWa];clear hWa START;refine ⟨Rnd.same ka (by omega),λ o o' ho hoc hoc' => ?_⟩;have hpk:Zc (λ q=>q=l) Wa (Wa.putObj l o'):=Xd
   have no:∀ q,(λ q=>q=l) q->∀ cur,Wa.heap[q]? ≠ some (.cells cur 3 (0,0)):=λ q e cur hc=>by
    have e' : q=l:=e;rw [e', ho] at hc;cases hc;cases hoc
   have hjb:=(hj.up ka).put (o' := o') ho hoc (by omega);have t1b:=(t1.same ka).kept hpk no;have t2b:=(t2.same ka).kept hpk no;have bxb:=Yg (o' := o') ho hoc bx rfl;have lob:(Wa.putObj l o').heap[l]? = some o' := World.putObj_heap_same (Zi ho);obtain ⟨Wb,hWb⟩:∃ Wb,Wb=Wa.putObj l o' := ⟨_,rfl⟩;rw [<- hWb] at hjb t1b t2b bxb lob ⊢;have hzb:W0.heap.size<=Wb.heap.size:=by have:=Zi lob;omega
   clear hWb hpk no ho t1 t2 bx hj;have y0:=Zb bxb 0;have y1:=Zb bxb 1;simp only [List.getElem?_toArray,List.getElem?_cons_zero,List.getElem?_cons_succ] at y0 y1;obtain ⟨j1,v,cs,j3,j4,j5⟩:=hjb;have c3:=Zb j3 0;simp only [List.getElem?_toArray,List.getElem?_cons_zero] at c3;obtain ⟨ro,rc,rfl⟩:=Zf j4;obtain ⟨i0,hi0,hz0,hz1,hz2⟩:=info_parts V5;have b1:k+1<=maxLen:=by unfold maxLen;omega
   have b2:(k+1) * 48<=140737488355328:=by omega
   have b3:w.heap.size<=(Wb.alloc (.cells #[.slice (some ⟨g,0,none⟩) R[k].1.length c,.slice (some ⟨g', 0,none⟩) R[k].2.length c'] 90)).heap.size:=by simp;omega
   have MORE:Hid (∀ w1 v', w1.ownsRow w.heap.size 90 2 v' (k+1) (cs ++ [.slice (some ⟨g,0,none⟩) R[k].1.length c,.slice (some ⟨g', 0,none⟩) R[k].2.length c'])->Zc (λ q=>(Value.slice ro k rc).ownBlock=some q) Wb w1->(w1.cell? ⟨w.heap.size+1,0,none⟩=some (.slice ro k rc)∧w1.frozen? ⟨w.heap.size+1,0,none⟩=false)∧LsJ R w (k+1) (w1.setCell ⟨w.heap.size+1,0,none⟩ v')∧Rnd W0.heap.size w.heap.size Wb (w1.setCell ⟨w.heap.size+1,0,none⟩ v')):=λ w1 v' h1 h2=>by
    obtain ⟨q1,q2,q3⟩:=LsJ.more (D:=W0.heap.size) j1 j3 j4 j5 hk' t1b t2b h1 h2;exact ⟨⟨Zb q1 0,Zg q1 0⟩,q2,q3⟩
   have HOW:Hid (Wb.ownsRow w.heap.size 90 2 (.slice ro k rc) k cs):=j4;have HNW:Hid (∀ j u,[Value.slice (some ⟨g,0,none⟩) R[k].1.length c,.slice (some ⟨g', 0,none⟩) R[k].2.length c'][j]? = some u->(Wb.alloc (.cells #[.slice (some ⟨g,0,none⟩) R[k].1.length c,.slice (some ⟨g', 0,none⟩) R[k].2.length c'] 90)).cell? ((⟨Wb.heap.size,0,none⟩:Addr).add j)=some u):=World.news_of_block (cs:=#[.slice (some ⟨g,0,none⟩) R[k].1.length c,.slice (some ⟨g', 0,none⟩) R[k].2.length c']) (t:=90) (fr:=(0,0)) (heap_alloc_new Wb _);have HON:Hid (∀ u∈[Value.slice (some ⟨g,0,none⟩) R[k].1.length c,.slice (some ⟨g', 0,none⟩) R[k].2.length c'],u.oneCell' = true):=by (show ∀ u∈_,_);intro u hu;simp at hu;rcases hu with rfl | rfl <;> rfl
   clear j1 j3 j4 j5 t1b t2b bxb lob;generalize R[k].1.length=n1 at *;generalize R[k].2.length=n2 at *
   gi_wp2_with (gi_at_builtin;refine wpListIn_append_own _ rfl _ _ 29 rfl w.heap.size 90 i0 _ 2 48 underlying29 hi0 hz0 hz1 hz2 rfl (by decide) (.slice ro k rc) k cs rfl (World.ownsRow.alloc HOW.out _) ⟨Wb.heap.size,0,none⟩ 1 1 _ rfl rfl HNW.out HON.out b1 b2 b3 ?_;intro v' w1 hown' hgrow _;obtain ⟨g9,cap9,rfl⟩:=ownsRow_succ hown'; obtain ⟨⟨m1', m2'⟩,m3,m4⟩:=MORE.out w1 _ hown' (Zc.grown (Zc.alloc (Zc.refl _ Wb) _) hgrow (λ _ e _=>e)))
   all_goals first | exact m4 | (rw [<- z0];exact m4)
end
def Agr (L L' : List Sym) (J:List Int):Prop:=∀ x∈J,arN L' x=arN L x
theorem Zni:∀ (ts:List Int) (k:Nat),Agr L L' ts->Xv L' k ts=Xv L k ts
 | ts,0,h=>by rw [Xa,Xa]
 | [],k+1,h=>rfl
 | x :: r,k+1,h=>by rw [Xv,Xv,h x (List.mem_cons_self ..),Zni r _ (λ y hy=>h y (List.mem_cons_of_mem _ hy))]
theorem Zn3:∀ (ts:List Int) (k:Nat),Agr L L' ts->Yk L' k ts=Yk L k ts
 | [],k,h=>by cases k <;> rfl
 | x :: r,0,h=>rfl
 | x :: r,k+1,h=>by rw [Yk,Yk,h x (List.mem_cons_self ..),Zn3 r _ (λ y hy=>h y (List.mem_cons_of_mem _ hy))]
section
variable {L L' : List Sym} {J : List Int}
theorem Zhj (h:Agr L L' J) (p:Nat):Zj L' J p=Zj L J p:=by
 unfold Zj Zie;rw [Zni _ _ (λ x hx=>h x (List.mem_of_mem_drop hx))]
theorem Zfn (h:Agr L L' J):∀ k p:Nat,Zq L' J k p=Zq L J k p
 | 0,p=>rfl
 | k+1,p=>by rw [Zq,Zq,Zhj h,Zfn h k]
theorem at_agr (h:Agr L L' J) (h0:arN L' 0=arN L 0) (x:Int):arN L' (at' J x)=arN L (at' J x):=by
 unfold at'
 by_cases hx:x.toNat<J.length
 ·rw [List.getD_eq_getElem?_getD,List.getElem?_eq_getElem hx]
  exact h _ (List.getElem_mem hx)
 ·rw [List.getD_eq_getElem?_getD,List.getElem?_eq_none (by omega)]
  exact h0
theorem Zmx (h:Agr L L' J):∀ (n:Nat) (ld:Int->Int) (rs:List (Nat × Nat × Nat)),Ze9 L' J n ld rs=Ze9 L J n ld rs
 | 0,_,_=>rfl
 | n+1,ld,[]=>rfl
 | n+1,ld,(x,y,o) :: r=>by simp only [Ze9,Zhj h,Zmx h n]
theorem Znl (h:Agr L L' J) (h0:arN L' 0=arN L 0) (ld:Int->Int):∀ n:Nat,Vw L' J ld n=Vw L J ld n
 | 0=>rfl
 | n+1=>by
  funext sz x
  simp only [Vw,Zl,Zfn h,at_agr h h0,Znl h h0 ld n]
theorem Zvj (h:Agr L L' J) (h0:arN L' 0=arN L 0) (m:Nat):Zc0 L' J m=Zc0 L J m:=by
 unfold Zc0;rw [Zmx h,Zhj h];simp only [Znl h h0]
end
theorem Zjy {x:Int} (h:x<(L.length:Int)):Xe (L++X) x=Xe L x:=by
 unfold Xe
 by_cases hx:x<0
 ·rw [if_pos hx,if_pos hx]
 ·rw [if_neg hx,if_neg hx,List.getElem?_append_left (by omega)]
theorem Zny (h:∀ x∈t,x<(L.length:Int)):Agr L (L++X) t:=λ x hx=>Zhw (h x hx) X
theorem Zda (h:Zd L t=0):∀ x∈t,x<(L.length:Int):=λ x hx=>((Zr.1 (Ze.1 h).2.1) x hx).1
theorem Km (h:Zd L t=0):Zd (L++X) t=0:=by
 obtain ⟨h1,h2,h3⟩:=Ze.1 h;refine Ze.2 ⟨h1,Zr.2 (λ x hx=>?_),?_⟩
 ·obtain ⟨a,b⟩:=Zr.1 h2 x hx
  exact ⟨by rw [List.length_append];omega,b⟩
 ·show Yk _ 1 t=some 0
  rw [Zn3 _ _ (Zny (Zda h))];exact h3
theorem Zok {a b:List Int} (hL:0<L.length) (ha:Zd L a=0) (hb:Zd L b=0):Vb (L++X) a b=Vb L a b:=by
 have e1:Zco L a b=0:=by unfold Zco;rw [if_neg (by simp [ha])];exact hb
 have e2:Zco (L++X) a b=0:=by unfold Zco;rw [if_neg (by simp [Km ha])];exact Km hb
 have hag:Agr L (L++X) (jl a b 99):=Zny (λ x hx=>by
  unfold jl at hx
  rcases List.mem_append.1 hx with h | h
  ·exact Zda ha x h
  ·obtain ⟨y,hy,rfl⟩:=List.mem_map.1 h
   have:=Zda hb y hy;unfold shF
   split <;> omega)
 have h0:arN (L++X) 0=arN L 0:=Zhw (by omega) X;unfold Vb Zbc;rw [e1,e2,Zvj hag h0]
theorem Zuq (hL:0<L.length) {A:List Ru} {x:Ru} (hx:Zd L x.1=0∧Zd L x.2=0) (hA:∀ a∈A,Zd L a.1=0) {M:Nat}:∀ j:Nat,Kw L N A x (j+1)=true->Kw (L++X) M A x (j+1)=true
 | 0,h=>by simp [Kw,Km hx.1,Km hx.2]
 | 1,h=>h
 | 2,h=>by
  have h' : Xe L (x.1.headD (-1))=true:=h
  have hlt:x.1.headD (-1)<(L.length:Int):=by
   by_cases e:x.1.headD (-1)<(L.length:Int)
   ·exact e
   ·rw [Zd4 (.inr (by omega))] at h'; cases h'
  show Xe (L++X) (x.1.headD (-1))=true;rw [Zjy hlt];exact h'
 | 3,h=>h
 | 4,h=>by
  have h' : x.1.tail.all (λ n=>!Xe L n)=true:=h;show x.1.tail.all (λ n=>!Xe (L++X) n)=true;rw [List.all_eq_true] at h' ⊢;intro n hn;rw [Zjy (Zda hx.1 n (List.mem_of_mem_tail hn))];exact h' n hn
 | 5,h=>h
 | j+6,h=>by
  have h' : A.all (λ a=>!Vb L a.1 x.1)=true:=by
   cases j <;> exact h
  have g:A.all (λ a=>!Vb (L++X) a.1 x.1)=true:=by
   rw [List.all_eq_true] at h' ⊢;intro a ha;rw [Zok hL (hA a ha) hx.1];exact h' a ha
  cases j <;> exact g
theorem GoodR.grow (h:GoodR L R) (X:List Sym):GoodR (L++X) R:=by
 refine ⟨h.1,λ i hi j hj=>?_⟩
 have hck:∀ m (hm:m<R.length),Zd L R[m].1=0∧Zd L R[m].2=0:=λ m hm=>by
  have:=h.2 m hm 0 (by omega)
  simpa [Kw] using this
 have hL:0<L.length:=by
  have h3:Xe L (R[i].1.headD (-1))=true:=h.2 i hi 2 (by omega)
  by_cases e:0<L.length
  ·exact e
  ·have:L=[]:=List.eq_nil_of_length_eq_zero (by omega)
   subst this;unfold Xe at h3;split at h3
   ·cases h3
   ·simp at h3
 refine Zuq hL (hck i hi) (λ a ha=>?_) j (h.2 i hi j hj);obtain ⟨m,hm,rfl⟩:=List.getElem_of_mem ha;rw [List.getElem_take];exact (hck _ _).1
theorem GoodR.ans (h:GoodR L R):Ans L [] R []:=by
 refine .inl ⟨rfl,λ i hi m hm=>?_,λ m hm=>absurd hm (by omega)⟩;unfold ckB;have e:R.getD m ([],[])=R[m]:=by simp [hm]
 rw [e];cases i with
 | zero=>
  have:=h.1;simp [Kw,this]
 | succ i=>
  have:=h.2 m hm i (by omega);rw [Zrz L _ 0]
  simpa using this
section
open Go.RowKit
attribute [local go_sem ↓] Go.wp_at_zero Go.wp_at_succ
structure Zaq (w:World) (y:Nat) (sp:Option Addr) (V:Nat) (L:List Sym) (R:List Ru):Prop where
 blk:w.heap[y]? = some (.cells #[.pointer sp,.int .i64 (V:Int)] 94 (0,0))
 g:SyG w sp L R
theorem Zaq.same (h:Zaq w y sp V L R) (hk:Za w w'):Zaq w' y sp V L R:=⟨hk.at0 h.blk,h.g.same hk⟩
theorem Zis (b:Nat) (w:World):(binOp .eql 24 (.pointer (some ⟨b,0,none⟩)) (.pointer none)).run prog w=.ok (.bool false) w:=by kernel_rfl
theorem Zaq.put {sp':Option Addr} {V':Nat} {R':List Ru} (h:Zaq w y sp V L R) (hg:SyG w sp' L' R'):Zaq (w.setCell ⟨y,0,none⟩ (.pointer sp')) y sp' V L' R' ∧ Zaq ((w.setCell ⟨y,0,none⟩ (.pointer sp')).setCell ⟨y,1,none⟩ (.int .i64 (V' : Int))) y sp' V' L' R' ∧ Zc (λ k=>k=y) w (w.setCell ⟨y,0,none⟩ (.pointer sp'))∧Zc (λ k=>k=y) w ((w.setCell ⟨y,0,none⟩ (.pointer sp')).setCell ⟨y,1,none⟩ (.int .i64 (V' : Int))):=by
 have k1:=Yh w y 0 (.pointer sp');have k2:=Zc.setCell (p:=⟨y,1,none⟩) k1 (λ _=>rfl) (.int .i64 (V' : Int));have s1:=Zt h.blk 0 (.pointer sp');have s2:=Zt s1 1 (.int .i64 (V' : Int));have far:∀ k,k=y->Zki w k:=λ k e=>by subst e;exact .inr (.inl ⟨_,h.blk⟩)
 exact ⟨⟨s1,hg.keptY k1 far⟩,⟨s2,hg.keptY k2 far⟩,k1,k2⟩
def Zmk (L:List Sym) (R l:List Ru) (V y:Nat) (w:World) (ws:List (Int × Int)) (v:Value) (w' : World):Prop:=
 Zcw L R l ws∧Zn w' ws v∧(∃ sp' V' R', Zaq w' y sp' V' L R' ∧ (ws=[]->v=.nilIface∧R' = R++l∧V' = V+(if l.length=0 then 0 else 1))∧(ws≠[]->(∃ k,v=.iface 114 (.pointer (some ⟨k,0,none⟩)))∧R' = R∧V' = V∧Za w w'))∧Zc (λ k=>k=y) w w'
theorem Zgu (hE:ErrT w) (h:Zaq w y sp V L R) (hV:V<=1000) (hl:Vh w lo l) (hll:l.length<=140737488355328) (hlc:l.length<=lc) :
  Calls prog 21 #[.pointer (some ⟨y,0,none⟩),.slice lo l.length lc] w λ e w' => ∃ ws v,e=.returned v∧Zmk L R l V y w ws v w' := by
 have hpn:=Zis;have hn1:=Zl3;have hn0:=Za6;have c0:=Zb h.blk 0;simp only [List.getElem?_toArray,List.getElem?_cons_zero] at c0;have CW:Calls prog 49 #[.agg #[.pointer sp],.slice lo l.length lc] w λ e w' => ∃ ws v sp', e=.returned (.tuple #[.agg #[.pointer sp'],v])∧Hid (Zcw L R l ws∧Zn w' ws v∧(ws=[]->v=.nilIface∧∃ p bs lv vs,sp' = some ⟨p,0,none⟩∧X6 w' p bs L (R++l) lv vs)∧(ws≠[]->∃ k,v=.iface 114 (.pointer (some ⟨k,0,none⟩))))∧Za w w' := (Zg8 hE h.g hl hll hlc).mono (λ e w' ⟨ws,v,sp', e1,a1,a2,a3,a4,a5⟩=>⟨ws,v,sp', e1,⟨a1,a2,a4,a5⟩,a3⟩)
 have HS:Hid (∀ ww,Za w ww->Zaq ww y sp V L R):=λ ww hk=>h.same hk;clear h hE hl
 go_enter func21,ntmps21
 go_upto_region 4 with ((go_at_call 49;refine CW.mono ?_;rintro e w2 ⟨ws,v,sp', rfl,h2,k2⟩))
 obtain ⟨a1,a2,a3,a4⟩:=h2.out;obtain ⟨w3,hw3⟩:∃ w3,w3=w2.alloc (.cells #[.pointer sp'] 92):=⟨_,rfl⟩;have k3:Za w2 w3:=by rw [hw3];exact Zal9
 have g3:w3.cell? ⟨w2.heap.size,0,none⟩=some (.pointer sp'):=by rw [hw3];exact Zb (heap_alloc_new _ _) 0
 have K3:Za w w3:=k2.trans' k3;rw [<- hw3];have hS3:=HS.out w3 K3;have y0:=Zb hS3.blk 0;have y1:=Zb hS3.blk 1;have f0:=Zg hS3.blk 0;have f1:=Zg hS3.blk 1;simp only [List.getElem?_toArray,List.getElem?_cons_zero,List.getElem?_cons_succ] at y0 y1;clear hw3 h2 CW c0 k2
 by_cases hws:ws=[]
 ·obtain ⟨rfl,p,bs,lv,vs,rfl,hst⟩:=a3 hws
  subst hws;have hg:SyG w3 (some ⟨p,0,none⟩) L (R++l):=.inr ⟨p,bs,lv,vs,rfl,hst.same k3⟩;obtain ⟨q1,q2,q3,q4⟩:=hS3.put (V' := V+1) hg;have HA:Hid (Zcw L R l []):=a1
  by_cases h0:l.length=0
  ·have HQ:Hid (Zaq (w3.setCell ⟨y,0,none⟩ (.pointer (some ⟨p,0,none⟩))) y (some ⟨p,0,none⟩) V L (R++l)∧Zc (λ k=>k=y) w (w3.setCell ⟨y,0,none⟩ (.pointer (some ⟨p,0,none⟩)))):=⟨q1,Zc.trans (K3.mono (λ _ _ f=>f.elim)) q3 (λ _ _ e=>e)⟩
   clear a1 a2 a3 a4 hst hg q1 q2 q3 q4 hS3 K3 k3;have h0' : ¬ (0:Int)<(l.length:Int):=by omega
   have HV0:Hid (V=V+(if l.length=0 then 0 else 1)):=by show _=_;rw [if_pos h0];omega
   go_wp2;go_ret;exact ⟨[],_,rfl,HA.out,rfl,⟨_,V,_,HQ.out.1,λ _=>⟨rfl,rfl,HV0.out⟩,λ e=>absurd rfl e⟩,HQ.out.2⟩
  ·have HQ:Hid (Zaq ((w3.setCell ⟨y,0,none⟩ (.pointer (some ⟨p,0,none⟩))).setCell ⟨y,1,none⟩ (.int .i64 ((V+1:Nat):Int))) y (some ⟨p,0,none⟩) (V+1) L (R++l)∧Zc (λ k=>k=y) w ((w3.setCell ⟨y,0,none⟩ (.pointer (some ⟨p,0,none⟩))).setCell ⟨y,1,none⟩ (.int .i64 ((V+1:Nat):Int)))):=⟨q2,Zc.trans (K3.mono (λ _ _ f=>f.elim)) q4 (λ _ _ e=>e)⟩
   have s1:=Zt hS3.blk 0 (.pointer (some ⟨p,0,none⟩));have y2:(w3.setCell ⟨y,0,none⟩ (.pointer (some ⟨p,0,none⟩))).cell? ⟨y,1,none⟩=some (.int .i64 (V:Int)):=Zb s1 1;have f2:=Zg s1 1;have hVw:IntKind.i64.wrap ((V:Int)+1)=((V+1:Nat):Int):=by rw [Zcv (by omega) (by omega)];omega
   clear a1 a2 a3 a4 hst hg q1 q2 q3 q4 hS3 K3 k3 s1;have h0' : (0:Int)<(l.length:Int):=by omega
   have HV0:Hid (V+1=V+(if l.length=0 then 0 else 1)):=by show _=_;rw [if_neg h0]
   clear h0;go_wp2;go_ret;exact ⟨[],_,rfl,HA.out,rfl,⟨_,V+1,_,HQ.out.1,λ _=>⟨rfl,rfl,HV0.out⟩,λ e=>absurd rfl e⟩,HQ.out.2⟩
 ·obtain ⟨k,rfl⟩:=a4 hws
  have HF:Hid (Zcw L R l ws∧Zn w3 ws (.iface 114 (.pointer (some ⟨k,0,none⟩)))∧Zaq w3 y sp V L R∧Za w w3∧ws≠[]):=⟨a1,Zn.same k3 a2,hS3,K3,hws⟩;clear a1 a2 a3 a4 hS3 K3 k3 hws;go_wp2;go_ret;obtain ⟨z1,z2,z3,z4,z5⟩:=HF.out;exact ⟨ws,_,rfl,z1,z2,⟨sp,V,R,z3,λ e=>absurd e z5,λ _=>⟨⟨k,rfl⟩,rfl,rfl,z4⟩⟩,z4.mono (λ _ _ f=>f.elim)⟩
def UpS (L xs:List Sym) (n:Nat):Prop:=∀ i (h:i<xs.length),i<n->Zp (L++xs.take i) xs[i]=0
def Ze4 (L xs:List Sym) (ws:List (Int × Int)):Prop:=
 (ws=[]∧UpS L xs xs.length)∨∃ n,∃ h:n<xs.length,UpS L xs n∧Zp (L++xs.take n) xs[n]≠0∧ws=[(100,(n:Int)),(Zp (L++xs.take n) xs[n], -1)]
theorem Ze4.uniq {ws':List (Int × Int)} (h:Ze4 L xs ws) (h' : Ze4 L xs ws'):ws=ws' := by
 rcases h with ⟨e,u⟩ | ⟨n,hn,u,b,e⟩ <;> rcases h' with ⟨e', u'⟩ | ⟨n', hn', u', b', e'⟩
 ·rw [e,e']
 ·exact absurd (u n' hn' hn') b'
 ·exact absurd (u' n hn hn) b
 ·have:n=n' := by
   rcases Nat.lt_trichotomy n n' with q | q | q
   ·exact absurd (u' n hn q) b
   ·exact q
   ·exact absurd (u n' hn' q) b'
  subst this;rw [e,e']
theorem Ze4.len (h:Ze4 L xs ws):ws.length<=2:=by
 rcases h with ⟨e,_⟩ | ⟨n,hn,_,_,e⟩ <;> rw [e] <;> simp
theorem Zus (h:Zp L x=0):0<=x.ar∧x.ar<=6:=by
 unfold Zp at h;split at h
 ·cases h
 ·split at h
  ·cases h
  ·omega
theorem UpS.ars (h:UpS L xs xs.length) (hL:Ars L):Ars (L++xs):=by
 intro x hx
 rcases List.mem_append.1 hx with hx | hx
 ·exact hL x hx
 ·obtain ⟨i,hi,rfl⟩:=List.getElem_of_mem hx
  exact Zus (h i hi hi)
theorem Own.sg (h:Own n w b L) (hL:Ars L):Sg w.heap.size w b L:=by
 obtain ⟨sv,mr,h1,h2⟩:=h;exact ⟨⟨sv,mr,h1,Ja h1⟩,hL⟩
theorem SyG.ars (h:SyG w sp L R):Ars L:=by
 rcases h with ⟨_,rfl,_⟩ | ⟨p,bs,lv,vs,_,hs⟩
 ·exact Zlt
 ·exact hs.sig.2
theorem SyG.le (h:SyG w sp L R):R.length<=100:=by
 rcases h with ⟨_,_,rfl⟩ | ⟨p,bs,lv,vs,_,hs⟩
 ·simp
 ·exact hs.le
theorem Xw.cells (h:Xw w ao xs.length xs) (hi:i<xs.length):∃ b off,ao=some ⟨b,off,none⟩∧b<w.heap.size∧w.cell? ⟨b,off+i * 3,none⟩=some (.string xs[i].name)∧w.cell? ⟨b,off+i * 3+1,none⟩=some (.int .i64 xs[i].ar)∧w.cell? ⟨b,off+i * 3+2,none⟩=some (.bool xs[i].df):=by
 obtain ⟨_,h2,_⟩:=h;obtain ⟨b,off,e,hb,hc⟩:=h2.resolve_left (by omega);exact ⟨b,off,e,hb,hc i hi⟩
theorem Zee (h:SyG w sp L R) (hg:GoodR L R) (hx:Xw w ao xs.length xs) (hm:xs.length<=maxLen) :
  Calls prog 48 #[.agg #[.pointer sp],.slice ao xs.length cap] w λ e w' => ∃ ws v sp', e=.returned (.tuple #[.agg #[.pointer sp'],v])∧Ze4 L xs ws∧Zn w' ws v∧Za w w' ∧ (ws=[]->v=.nilIface∧∃ p bs lv vs,sp' = some ⟨p,0,none⟩∧X6 w' p bs (L++xs) R lv vs)∧(ws≠[]->∃ k,v=.iface 114 (.pointer (some ⟨k,0,none⟩))):=by
 have hLa:=h.ars;have hRl:=h.le;unfold maxLen at hm;obtain ⟨W1,hW1⟩:∃ W1,W1=(w.alloc (.cells #[.pointer sp] 92)).alloc (.cells #[.pointer none] 92):=⟨_,rfl⟩;have KW:Za w W1:=by rw [hW1];exact ((Zc.refl _ w).alloc _).alloc _
 have b0:W1.heap[w.heap.size]? = some (.cells #[.pointer sp] 92 (0,0)):=by rw [hW1];exact heap_alloc2_old _ _ _
 have b1:W1.heap[w.heap.size+1]? = some (.cells #[.pointer none] 92 (0,0)):=by rw [hW1];exact Zo _ _ _
 have HG0:Hid (∀ ww,Za W1 ww->ww.cell? ⟨w.heap.size,0,none⟩=some (.pointer sp)∧SyG ww sp L R):=λ ww hk=>⟨Zb (hk.at0 b0) 0,h.same (KW.trans' hk)⟩
 have HB:Hid (∀ ww,Za W1 ww->ww.cell? ⟨w.heap.size+1,0,none⟩=some (.pointer none)∧ww.frozen? ⟨w.heap.size+1,0,none⟩=false∧Zki ww (w.heap.size+1)∧∀ u,(ww.setCell ⟨w.heap.size+1,0,none⟩ u).cell? ⟨w.heap.size+1,0,none⟩=some u∧Za w (ww.setCell ⟨w.heap.size+1,0,none⟩ u)∧Zc (λ q=>q=w.heap.size+1) ww (ww.setCell ⟨w.heap.size+1,0,none⟩ u)):=λ ww hk=>by
  have h2:=hk.at0 b1;refine ⟨Zb h2 0,Zg h2 0,(.inl ⟨_,h2⟩),λ u=>?_⟩;have k3:=Yh ww (w.heap.size+1) 0 u;exact ⟨Zb (Zt h2 0 u) 0,Zc.trans (KW.trans' hk) k3 (λ i hi e=>by have e' : i=w.heap.size+1:=e;omega),k3⟩
 have C1:=J6 (h.same KW);have HX:Hid (∀ ww,Za W1 ww->Xw ww ao xs.length xs):=λ ww hk=>hx.kept (KW.trans' hk).below;have HNM:Hid (∀ x∈xs,x.name.size<=maxLen):=λ x h=>(hx.2.2 x h).1;have HGD:Hid (GoodR L R):=hg;obtain ⟨g0, -⟩:=HG0.out W1 (Zc.refl _ _);clear h hx b0 b1 hg
 go_enter func48,ntmps48
 go_upto_region 1 with fail
 rw [<- hW1];clear hW1
 go_upto_region 2 with (first
  | (go_at_call 41;refine C1.mono ?_;rintro e w2 ⟨p,bs,lv,vs,rfl,hst,k2⟩;have C3:=Zbp hst)
  | (go_at_call 47;refine C3.mono ?_;rintro e w3 ⟨b', rfl,hb', sv,mr,hsa,hfoot,k3'⟩))
 have k3:Za w2 w3:=k3';have K3:Za W1 w3:=k2.trans' k3;have z23:=k3.size;have OW3:Own w2.heap.size w3 b' L:=⟨sv,mr,hsa,hfoot⟩;clear C1 C3 g0 hst hsa hfoot k3'
 go_wp2_with fail
 go_loopw [17] (λ i wr=>∃ n:Nat,n<=xs.length∧i=.int .i64 (n:Int)∧Za w2 wr∧Hid (Own w2.heap.size wr b' (L++xs.take n)∧UpS L xs n)) (λ i _=>xs.length-(intOf i).toNat)
 case atStart=>exact ⟨0,Nat.zero_le _,rfl,k3,by show _∧_;rw [List.take_zero,List.append_nil];exact ⟨OW3,λ i _ hi=>absurd hi (by omega)⟩⟩
 case round=>
  obtain ⟨n,hn,rfl,hs,ho⟩:=hrel;obtain ⟨wz,rfl⟩:∃ wz,wz=wr:=⟨_,rfl⟩;have KZ:Za W1 wz:=k2.trans' hs
  by_cases hlt:n<xs.length
  ·have i1:(0:Int)<=(n:Int):=by omega
   have i2:(n:Int)<(xs.length:Int):=by omega
   have hl3:IntKind.i64.wrap ((n:Int)+1)=(n:Int)+1:=Zcv (by omega) (by omega);obtain ⟨xb,off,rfl,hxb,x0,x1,x2⟩:=(HX.out wz KZ).cells hlt;obtain ⟨WA,hWA⟩:∃ WA,WA=wz.alloc (.cells #[.string xs[n].name,.int .i64 xs[n].ar,.bool xs[n].df] 60):=⟨_,rfl⟩;have ka:Za wz WA:=by rw [hWA];exact Zal9
   have bx:WA.heap[wz.heap.size]? = some (.cells #[.string xs[n].name,.int .i64 xs[n].ar,.bool xs[n].df] 60 (0,0)):=by rw [hWA];exact heap_alloc_new _ _
   have c0:=Zb bx 0;have c1:=Zb bx 1;have c2:=Zb bx 2;simp only [List.getElem?_toArray,List.getElem?_cons_zero,List.getElem?_cons_succ] at c0 c1 c2;have hsz:w2.heap.size<=WA.heap.size:=(hs.trans' ka).size;have OA:Own w2.heap.size WA b' (L++xs.take n):=ho.out.1.kept ka (λ _ _ f=>f.elim);have CA:=OA.add hsz xs[n] (HNM.out _ (List.getElem_mem hlt));have hsA:=hs.trans' ka;have HUP:Hid (UpS L xs n):=ho.out.2;have HKA:Hid (Za w2 WA):=hsA;clear bx OA ho
   by_cases he:Zp (L++xs.take n) xs[n]=0
   ·have CA2:Calls prog 71 #[.pointer (some ⟨b', 0,none⟩),.agg #[.string xs[n].name,.int .i64 xs[n].ar,.bool xs[n].df]] WA λ e w' => ∃ q:Int,e=.returned (.tuple #[.int .i64 q,.int .i64 0])∧Za w2 w' ∧ Hid (Own w2.heap.size w' b' (L++xs.take (n+1))∧UpS L xs (n+1)):=by
     refine CA.mono ?_;rintro e w' ⟨rfl,h1,h2⟩
     have e1:Ztx (L++xs.take n) xs[n]=L++xs.take (n+1):=by
      rw [Ztx,if_pos he,List.append_assoc,List.take_add_one,List.getElem?_eq_getElem hlt];rfl
     rw [e1] at h1;refine ⟨_,by rw [he],Zc.trans HKA.out h2 (λ i hi e=>by have e' : w2.heap.size<=i:=e;omega),h1,λ i hi hi2=>?_⟩
     by_cases q:i=n
     ·subst q;exact he
     ·exact HUP.out i hi (by omega)
    clear CA he HUP HKA hsA;generalize xs[n].name=nm at *;generalize xs[n].ar=nar at *;generalize xs[n].df=ndf at *
    go_upto_region 5 with fail
    rw [<- hWA];clear hWA x0 x1 x2
    go_wp2_with ((go_at_call 71;refine CA2.mono ?_;rintro e w4 ⟨q,rfl,h4,h5⟩))
    first | exact ⟨⟨n+1,by omega,by go_num,h4,h5⟩,by simp [intOf];omega⟩ | (go_roundw;case rel=>first | exact ⟨n+1,by omega,by go_num,h4,h5⟩ | ((repeat apply Exists.intro);exact ⟨⟨n+1,by omega,by go_num,h4,h5⟩,rfl⟩);case measure=>first | (simp [intOf];done) | (simp [intOf];omega))
   ·obtain ⟨E,hE⟩:∃ E,E=Zp (L++xs.take n) xs[n]:=⟨_,rfl⟩
    have hE0:E≠0:=by rw [hE];exact he
    have CA2:Calls prog 71 #[.pointer (some ⟨b', 0,none⟩),.agg #[.string xs[n].name,.int .i64 xs[n].ar,.bool xs[n].df]] WA λ e w' => ∃ q:Int,e=.returned (.tuple #[.int .i64 q,.int .i64 E])∧Za w2 w' := by
     refine CA.mono ?_;rintro e w' ⟨rfl,h1,h2⟩;exact ⟨_,by rw [hE],Zc.trans HKA.out h2 (λ i hi e=>by have e' : w2.heap.size<=i:=e;omega)⟩
    have HA:Hid (Ze4 L xs [(100,(n:Int)),(E, -1)]):=.inr ⟨n,hlt,HUP.out,by rw [<- hE];exact hE0,by rw [hE]⟩;clear CA he HUP HKA hsA hE;generalize xs[n].name=nm at *;generalize xs[n].ar=nar at *;generalize xs[n].df=ndf at *
    go_upto_region 5 with fail
    rw [<- hWA];clear hWA x0 x1 x2
    go_upto_region 7 with ((go_at_call 71;refine CA2.mono ?_;rintro e w4 ⟨q,rfl,k4⟩))
    have K4:Za W1 w4:=k2.trans' k4;obtain ⟨w5,hw5⟩:∃ w5,w5=w4.alloc (.cells #[.int .i64 100,.int .i64 (n:Int),.iface 70 (.int .i64 E)] 116):=⟨_,rfl⟩;have k5:Za w4 w5:=by rw [hw5];exact Zal9
    have b5:w5.heap[w4.heap.size]? = some (.cells #[.int .i64 100,.int .i64 (n:Int),.iface 70 (.int .i64 E)] 116 (0,0)):=by rw [hw5];exact heap_alloc_new _ _
    obtain ⟨y0,y1,y3,y2⟩:=HB.out w5 (K4.trans' k5);obtain ⟨q0,q1,q2⟩:=y2 (.pointer none);have hz2:=Zi b5;have FL:Zn w5 [(100,(n:Int)),(E, -1)] (.iface 114 (.pointer (some ⟨w4.heap.size,0,none⟩))):=.inr ⟨by omega,w4.heap.size,_,rfl,b5,.inl ⟨rfl,rfl,rfl⟩⟩;have HQ:Hid (_∧_∧Zn _ _ _):=⟨q0,q1,Zn.keptN q2 y3.no.2.2.2.2.1 FL⟩;rw [hw5] at y0 y1;clear q0 q1 q2 y2 y3 b5 FL CA2
    go_wp2_with fail
    rw [<- hw5];exact bodyPost_ret (v:=.tuple #[.agg #[.pointer none],.iface 114 (.pointer (some ⟨w4.heap.size,0,none⟩))]) (by simp [results,results48,go_sem,HQ.out.1]) rfl ⟨_,_,none,rfl,HA.out,HQ.out.2.2,HQ.out.2.1,(λ e=>by cases e),λ _=>⟨_,rfl⟩⟩
  ·have en:n=xs.length:=by omega
   subst en;have i2:¬ (xs.length:Int)<(xs.length:Int):=by omega
   have hO:=ho.out.1;rw [List.take_length] at hO;have HUP:Hid (UpS L xs xs.length):=ho.out.2;have C5:=Zno (hO.sg (HUP.out.ars hLa));have HLI:Hid (∀ ww,Za wz ww->Calls prog 83 #[.agg #[.pointer sp]] ww λ e w' => ∃ lo lc,e=.returned (.slice lo R.length lc)∧Hid (Vh w' lo R∧R.length<=lc)∧Za ww w'):=λ ww hk=>(Zrb (HG0.out ww (KZ.trans' hk)).2).mono (λ e w' ⟨lo,lc,e1,a,a2,a3⟩=>⟨lo,lc,e1,⟨a,a2⟩,a3⟩);clear ho hO OW3
   go_upto_region 10 with ((go_at_call 72;refine C5.mono ?_;rintro e w4 ⟨rfl,hst4,k4⟩))
   obtain ⟨g0, -⟩:=HG0.out w4 (KZ.trans' k4);have C6:=HLI.out w4 k4;have HS4:Hid (∀ ww,Za w4 ww->X6 ww wz.heap.size b' (L++xs) [] (.slice none 0 0) []):=λ ww hk=>hst4.same hk;have hz4:=k4.size;have hzz:=hs.size
   have CAD:Hid (∀ ww lo lc,Za w4 ww->Vh ww lo R->R.length<=lc->Calls prog 46 #[.pointer (some ⟨wz.heap.size,0,none⟩),.slice lo R.length lc] ww λ e w' => ∃ v,e=.returned v∧Hid (∃ lv2 vs2,X6 w' wz.heap.size b' (L++xs) R lv2 vs2)∧Za w2 w'):=λ ww lo lc hk hr hlc=>by
    refine (Zj7 (lc:=lc) (HS4.out ww hk) hr (by omega) hlc).mono ?_;rintro e w' ⟨ws,v,e1,a1,a2,a3,a4,a5⟩;have hws:ws=[]:=a1.uniq (HGD.out.grow xs).ans;obtain ⟨lv2,vs2,q1,q2,q3⟩:=a5 hws;rw [List.nil_append] at q1;refine ⟨v,e1,⟨lv2,vs2,q1⟩,Zc.trans ((hs.trans' k4).trans' hk) q2 (λ i hi e=>?_)⟩
    rcases e with e | e
    ·omega
    ·simp [Value.ownBlock] at e
   clear C5 hst4 HLI
   go_upto_region 11 with (first
    | (go_at_call 83;refine C6.mono ?_;rintro e w5 ⟨lo,lc,rfl,h5,k5⟩;have C7:=CAD.out w5 lo lc k5 h5.out.1 h5.out.2)
    | (go_at_call 46;refine C7.mono ?_;rintro e w6 ⟨v6,rfl,h6,k6⟩))
   obtain ⟨lv2,vs2,hst6⟩:=h6.out;obtain ⟨y0,y1,y3,y2⟩:=HB.out w6 (k2.trans' k6);obtain ⟨q0,q1,q2⟩:=y2 (.pointer (some ⟨wz.heap.size,0,none⟩));have FIN:Hid (X6 (w6.setCell ⟨w.heap.size+1,0,none⟩ (.pointer (some ⟨wz.heap.size,0,none⟩))) wz.heap.size b' (L++xs) R lv2 vs2):=hst6.keptY q2 (λ i e=>by have e' : i=w.heap.size+1:=e;rw [e'];exact y3);have HQ:Hid (_∧_):=⟨q0,q1⟩;clear q0 q1 q2 y2 y3 hst6 h6 C6 C7 CAD;go_wp2;exact bodyPost_ret (v:=.tuple #[.agg #[.pointer (some ⟨wz.heap.size,0,none⟩)],.nilIface]) (by simp [results,results48,go_sem,HQ.out.1]) rfl ⟨[],.nilIface,_,rfl,.inl ⟨rfl,HUP.out⟩,rfl,HQ.out.2,λ _=>⟨rfl,_,_,lv2,vs2,rfl,FIN.out⟩,λ e=>absurd rfl e⟩
def Zmu (L xs:List Sym) (R:List Ru) (V y:Nat) (w:World) (ws:List (Int × Int)) (v:Value) (w' : World):Prop:=
 Ze4 L xs ws∧Zn w' ws v∧(∃ sp' L', Zaq w' y sp' V L' R∧(ws=[]->v=.nilIface∧L' = L++xs)∧(ws≠[]->(∃ k,v=.iface 114 (.pointer (some ⟨k,0,none⟩)))∧L' = L∧Za w w'))∧Zc (λ k=>k=y) w w'
theorem Zdi (h:Zaq w y sp V L R) (hg:GoodR L R) (hx:Xw w ao xs.length xs) (hm:xs.length<=maxLen) :
  Calls prog 20 #[.pointer (some ⟨y,0,none⟩),.slice ao xs.length cap] w λ e w' => ∃ ws v,e=.returned v∧Zmu L xs R V y w ws v w' := by
 have hpn:=Zis;have hn1:=Zl3;have hn0:=Za6;have c0:=Zb h.blk 0;simp only [List.getElem?_toArray,List.getElem?_cons_zero] at c0;have CW:Calls prog 48 #[.agg #[.pointer sp],.slice ao xs.length cap] w λ e w' => ∃ ws v sp', e=.returned (.tuple #[.agg #[.pointer sp'],v])∧Hid (Ze4 L xs ws∧Zn w' ws v∧(ws=[]->v=.nilIface∧∃ p bs lv vs,sp' = some ⟨p,0,none⟩∧X6 w' p bs (L++xs) R lv vs)∧(ws≠[]->∃ k,v=.iface 114 (.pointer (some ⟨k,0,none⟩))))∧Za w w' := (Zee h.g hg hx hm).mono (λ e w' ⟨ws,v,sp', e1,a1,a2,a3,a4,a5⟩=>⟨ws,v,sp', e1,⟨a1,a2,a4,a5⟩,a3⟩)
 have HS:Hid (∀ ww,Za w ww->Zaq ww y sp V L R):=λ ww hk=>h.same hk;clear h hx
 go_enter func20,ntmps20
 go_upto_region 4 with ((go_at_call 48;refine CW.mono ?_;rintro e w2 ⟨ws,v,sp', rfl,h2,k2⟩))
 obtain ⟨a1,a2,a3,a4⟩:=h2.out;obtain ⟨w3,hw3⟩:∃ w3,w3=w2.alloc (.cells #[.pointer sp'] 92):=⟨_,rfl⟩;have k3:Za w2 w3:=by rw [hw3];exact Zal9
 have g3:w3.cell? ⟨w2.heap.size,0,none⟩=some (.pointer sp'):=by rw [hw3];exact Zb (heap_alloc_new _ _) 0
 have K3:Za w w3:=k2.trans' k3;rw [<- hw3];have hS3:=HS.out w3 K3;have y0:=Zb hS3.blk 0;have f0:=Zg hS3.blk 0;simp only [List.getElem?_toArray,List.getElem?_cons_zero] at y0;clear hw3 h2 CW c0 k2
 by_cases hws:ws=[]
 ·obtain ⟨rfl,p,bs,lv,vs,rfl,hst⟩:=a3 hws
  subst hws;have hg3:SyG w3 (some ⟨p,0,none⟩) (L++xs) R:=.inr ⟨p,bs,lv,vs,rfl,hst.same k3⟩;obtain ⟨q1,q2,q3,q4⟩:=hS3.put (V' := V) hg3;have HA:Hid (Ze4 L xs []):=a1;have HQ:Hid (Zaq (w3.setCell ⟨y,0,none⟩ (.pointer (some ⟨p,0,none⟩))) y (some ⟨p,0,none⟩) V (L++xs) R∧Zc (λ k=>k=y) w (w3.setCell ⟨y,0,none⟩ (.pointer (some ⟨p,0,none⟩)))):=⟨q1,Zc.trans (K3.mono (λ _ _ f=>f.elim)) q3 (λ _ _ e=>e)⟩;clear a1 a2 a3 a4 hst hg3 q1 q2 q3 q4 hS3 K3 k3;go_wp2;go_ret;exact ⟨[],_,rfl,HA.out,rfl,⟨_,_,HQ.out.1,λ _=>⟨rfl,rfl⟩,λ e=>absurd rfl e⟩,HQ.out.2⟩
 ·obtain ⟨k,rfl⟩:=a4 hws
  have HF:Hid (Ze4 L xs ws∧Zn w3 ws (.iface 114 (.pointer (some ⟨k,0,none⟩)))∧Zaq w3 y sp V L R∧Za w w3∧ws≠[]):=⟨a1,Zn.same k3 a2,hS3,K3,hws⟩;clear a1 a2 a3 a4 hS3 K3 k3 hws;go_wp2;go_ret;exact ⟨ws,_,rfl,HF.out.1,HF.out.2.1,⟨sp,L,HF.out.2.2.1,λ e=>absurd e HF.out.2.2.2.2,λ _=>⟨⟨k,rfl⟩,rfl,HF.out.2.2.2.1⟩⟩,HF.out.2.2.2.1.mono (λ _ _ f=>f.elim)⟩
theorem Zrh:(prog.info? 60).map (λ i=>(i.zero,i.size,i.bytes))=some (some (.agg #[.string ByteArray.empty,.int .i64 0,.bool false]),3,32):=by kernel_rfl
theorem Zhl (L:List Sym):∀ u∈Zw L,u.oneCell' = true:=by
 intro u hu;simp [Zw] at hu;obtain ⟨a,_,rfl | rfl | rfl⟩:=hu <;> rfl
theorem Zyr (h:Zp L x=0):L.length<64:=by
 unfold Zp at h;split at h
 ·cases h
 ·split at h
  ·cases h
  ·split at h
   ·cases h
   ·split at h
    ·cases h
    ·omega
theorem UpS.len (h:UpS L xs n) (hL:L.length<=64) (hn:n<=xs.length):(L++xs.take n).length<=64:=by
 cases n with
 | zero=>simpa using hL
 | succ k=>
  have:=Zyr (h k (by omega) (by omega));rw [List.length_append,List.length_take] at this ⊢;omega
theorem Zkp {wb:World} (hgd:o.guard=none) (s x:Operand) (t e:TypeId)
  (ho:o.op=.call { callee:=.builtin .append,args:=#[s,x],argTypes:=#[t,t] })
  (i:TypeInfo) (z:Value) (size bytes:Nat) (ht:prog.underlying t=some (.slice e)) (hi:prog.info? e=some i) (hz0:i.zero=some z) (hz1:i.size=size) (hz2:i.bytes=bytes) (hz3:z.cells.size=size) (hz4:0<size)
  (B:Nat) (hs:a.eval s=.slice (some ⟨B,0,none⟩) 0 0) (n:Nat) (news:List Value) (v:Value) (hx:a.eval x=v) (hrow:wb.ownsRow 0 e size v n news) (hW:Za wb W) (hB:W.heap[B]? = some (.cells #[] e (0,0))) (hb:wb.heap.size<=B) (hn:n<=1000) (hby:n * bytes<=140737488355328) (h1:∀ u∈news,u.oneCell' = true)
  (h:∀ v' w', w'.ownsRow wb.heap.size e size v' n news->Za wb w' -> wpList prog ops Q rest (a.put o.dst v') w') :
  wpList prog ops Q (o :: rest) a W:=by
 have hE:W.ownsRow wb.heap.size e size (.slice (some ⟨B,0,none⟩) 0 0) 0 []:=⟨by simp,.inr ⟨B,0, #[],rfl,hb,hB,Nat.le_refl _,by unfold maxLen;omega,by simp,by simp⟩⟩;have hR:=hW.row hrow (λ _ _ f=>f)
 rcases hR.2 with ⟨e0,n0⟩ | ⟨g,cap,cur,e0,hg⟩
 ·subst e0
  have hn0:n=0:=n0;subst hn0;have hnews:news=[]:=List.eq_nil_of_length_eq_zero (by simpa using hR.1);subst hnews;exact wpList_append_own_none hgd s x t ho wb.heap.size e i size ht hi _ 0 [] hs hE hx (h _ W hE hW)
 ·subst e0
  refine wpList_append_own _ hgd s x t ho wb.heap.size e i z size bytes ht hi hz0 hz1 hz2 hz3 hz4 _ 0 [] hs hE ⟨g,0,none⟩ n cap news hx hR.1 (hR.cells rfl) h1 (by unfold maxLen;omega) (by simpa using hby) hW.size ?_;intro v' w' hr hgw _;simp only [Nat.zero_add,List.nil_append] at hr;refine h v' w' hr (hW.trans (Zc.grown (Zc.refl _ W) hgw (λ _ e _=>e)) (λ j hj e=>?_));have e' : (Value.slice (some ⟨B,0,none⟩) 0 0).ownBlock=some j:=e;simp only [Value.ownBlock,Option.some.injEq] at e';omega
theorem Zcs.putS {so2:Option Addr} {sc2:Nat} {L2:List Sym} {vs:List Value} (h:Zcs w m so sc V L R lv vs) (r2:w.ownsRow 0 60 3 (.slice so2 L2.length sc2) L2.length (Zw L2)) (ha:Ars L2) (hl:L2.length<=64) (hok:∀ x∈R,Zd L2 x.1=0∧Zd L2 x.2=0) :
  Zcs (w.setCell ⟨m,0,none⟩ (.slice so2 L2.length sc2)) m so2 sc2 V L2 R lv vs∧Zc (λ q=>q=m) w (w.setCell ⟨m,0,none⟩ (.slice so2 L2.length sc2)):=by
 have k1:=Yh w m 0 (.slice so2 L2.length sc2);have s1:=Zt h.blk 0 (.slice so2 L2.length sc2);have no:∀ (T:TypeId) (c:Array Value),T≠31->w.heap[m]? ≠ some (.cells c T (0,0)):=λ T c hT e=>by rw [h.blk] at e;cases e;exact hT rfl
 have q2:=k1.row r2 (λ q e s=>by obtain ⟨c,hc⟩:=Yb r2 e;have s' : q=m:=s;rw [s'] at hc;exact no _ _ (by decide) hc);refine ⟨⟨s1,⟨q2,λ q e=>(q2.lt q e).2,ha,hl⟩,k1.row h.row (λ q e s=>?_),h.own.kept k1 (λ q s c e=>?_),h.le,hok⟩,k1⟩
 ·obtain ⟨c,hc⟩:=Yb h.row e
  have s' : q=m:=s;rw [s'] at hc;exact no _ _ (by decide) hc
 ·have s' : q=m:=s
  rw [s'] at e;exact no _ _ (by decide) e
def Zl6 (m:Nat) (V:Nat) (L xs:List Sym) (R:List Ru) (lv:Value) (vs:List Value) (w:World) (e:Ending) (w' : World):Prop:=
 ∃ ws v,e=.returned v∧Ze4 L xs ws∧Xh w' v ws∧Zc (λ q=>q=m) w w' ∧ ∃ so' sc' L', Zcs w' m so' sc' V L' R lv vs∧(ws=[]->L' = L++xs)∧(ws≠[]->L' = L∧Za w w')
theorem Zkt {vs:List Value} (h:Zcs w m so sc V L R lv vs) (hx:Xw w ao xs.length xs) (hm:xs.length<=maxLen) :
  Calls prog 25 #[.pointer (some ⟨m,0,none⟩),.slice ao xs.length cap] w (Zl6 m V L xs R lv vs w):=by
 unfold maxLen at hm;have hL64:L.length<=64:=h.rl.2.2.2;have hLa:Ars L:=h.rl.2.2.1;have hok:=h.ok;have HRY:Hid (∀ ww,Za w ww->Zcs ww m so sc V L R lv vs):=λ ww hk=>h.same hk;have c0:=Zb h.blk 0;simp only [List.getElem?_toArray,List.getElem?_cons_zero] at c0;have r1:=h.rl.1;have o1:=Zhl L;have hmw:=Zi h.blk;obtain ⟨i1,hi1,hz01,hz11,hz21⟩:=info_parts Zrh;have k0:Za w (w.alloc (.cells #[] 60)):=Zal9;have b0:(w.alloc (.cells #[] 60)).heap[w.heap.size]? = some (.cells #[] 60 (0,0)):=heap_alloc_new _ _;have c0a:(w.alloc (.cells #[] 60)).cell? ⟨m,0,none⟩=some (.slice so L.length sc):=Vc c0 _;have HX:Hid (∀ ww,Za w ww->Xw ww ao xs.length xs):=λ ww hk=>hx.kept hk.below;have HNM:Hid (∀ x∈xs,x.name.size<=maxLen):=λ x h=>(hx.2.2 x h).1;clear h hx
 go_enter func25,ntmps25
 go_upto_region 2 with ((at_builtin;refine Zkp (wb:=w) rfl _ _ 28 60 rfl i1 _ 3 32 underlying28 hi1 hz01 hz11 hz21 rfl (by decide) w.heap.size rfl L.length (Zw L) (.slice so L.length sc) rfl r1 k0 b0 (Nat.le_refl _) (by omega) (by omega) o1 ?_;intro sv w1 q1 s1;obtain ⟨so1,sc1,rfl⟩:=Zf q1))
 obtain ⟨w2,hw2⟩:∃ w2,w2=w1.alloc (.cells #[.slice so1 L.length sc1] 126):=⟨_,rfl⟩;have k2:Za w1 w2:=by rw [hw2];exact Zal9
 have K2:Za w w2:=s1.trans' k2;have hz1:=s1.size;have RF2:Ju w2 w1.heap.size L (.slice so1 L.length sc1):=⟨by rw [hw2];exact heap_alloc_new _ _,Yy (k2.row q1 (λ _ _ f=>f)) (Nat.zero_le _),λ e=>by have:=(q1.lt _ e).2;omega⟩
 have FT2:∀ q,Zd2 w1.heap.size (.slice so1 L.length sc1) q->w.heap.size<=q:=λ q e=>by
  rcases e with e | e
  ·omega
  ·exact (q1.lt q e).1
 rw [<- hw2];clear hw2 q1 r1 o1 k0 b0 c0a c0;generalize hrb:w1.heap.size=rb at *;clear hrb
 go_upto_region 3 with fail
 go_loopw [6] (λ i wr=>∃ n:Nat,n<=xs.length∧i=.int .i64 (n:Int)∧Za w wr∧Hid (UpS L xs n∧∃ rv,Ju wr rb (L++xs.take n) rv∧∀ q,Zd2 rb rv q->w.heap.size<=q)) (λ i _=>xs.length-(intOf i).toNat)
 case atStart=>exact ⟨0,Nat.zero_le _,rfl,K2,λ i _ hi=>absurd hi (by omega),_,by rw [List.take_zero,List.append_nil];exact RF2,FT2⟩
 case round=>
  obtain ⟨n,hn,rfl,hs,ho⟩:=hrel;obtain ⟨wz,rfl⟩:∃ wz,wz=wr:=⟨_,rfl⟩;obtain ⟨hup,rv,hrf,hft⟩:=ho.out;have hl64:=hup.len hL64 hn
  by_cases hlt:n<xs.length
  ·have j1:(0:Int)<=(n:Int):=by omega
   have j2:(n:Int)<(xs.length:Int):=by omega
   have hl3:IntKind.i64.wrap ((n:Int)+1)=(n:Int)+1:=Zcv (by omega) (by omega);obtain ⟨xb,off,rfl,hxb,x0,x1,x2⟩:=(HX.out wz hs).cells hlt;have CA:=Zwd hrf hl64 xs[n] (HNM.out _ (List.getElem_mem hlt));have HUP:Hid (UpS L xs n):=hup;clear ho RF2 FT2
   by_cases he:Zp (L++xs.take n) xs[n]=0
   ·have CA2:Calls prog 53 #[.pointer (some ⟨rb,0,none⟩),.agg #[.string xs[n].name,.int .i64 xs[n].ar,.bool xs[n].df]] wz λ e w' => ∃ q:Int,e=.returned (.tuple #[.int .i64 q,.int .i64 0])∧Za w w' ∧ Hid (UpS L xs (n+1)∧∃ rv,Ju w' rb (L++xs.take (n+1)) rv∧∀ q,Zd2 rb rv q->w.heap.size<=q):=by
     refine CA.mono ?_;rintro e w' ⟨rfl,rv2,h1,h2,h3⟩
     have e1:Ztx (L++xs.take n) xs[n]=L++xs.take (n+1):=by
      rw [Ztx,if_pos he,List.append_assoc,List.take_add_one,List.getElem?_eq_getElem hlt];rfl
     rw [e1] at h1;have hsz:=hs.size;refine ⟨_,by rw [he],Zc.trans hs h2 (λ i hi e=>by have:=hft i e;omega),λ i hi hi2=>?_,rv2,h1,λ q e=>?_⟩
     ·by_cases q:i=n
      ·subst q;exact he
      ·exact HUP.out i hi (by omega)
     ·rcases h3 q e with e2 | e2
      ·exact hft q e2
      ·omega
    clear CA he HUP hrf hft;generalize xs[n].name=nm at *;generalize xs[n].ar=nar at *;generalize xs[n].df=ndf at *
    go_wp2_with ((go_at_call 53;refine CA2.mono ?_;rintro e w4 ⟨q,rfl,h4,h5⟩))
    first | exact ⟨⟨n+1,by omega,by go_num,h4,h5⟩,by simp [intOf];omega⟩ | (go_roundw;case rel=>first | exact ⟨n+1,by omega,by go_num,h4,h5⟩ | ((repeat apply Exists.intro);exact ⟨⟨n+1,by omega,by go_num,h4,h5⟩,rfl⟩);case measure=>first | (simp [intOf];done) | (simp [intOf];omega))
   ·obtain ⟨E,hE⟩:∃ E,E=Zp (L++xs.take n) xs[n]:=⟨_,rfl⟩
    have hE0:E≠0:=by rw [hE];exact he
    have hEb:(E != 0)=true:=by simpa using hE0
    have CA2:Calls prog 53 #[.pointer (some ⟨rb,0,none⟩),.agg #[.string xs[n].name,.int .i64 xs[n].ar,.bool xs[n].df]] wz λ e w' => ∃ q:Int,e=.returned (.tuple #[.int .i64 q,.int .i64 E])∧Za w w' := by
     refine CA.mono ?_;rintro e w' ⟨rfl,rv2,h1,h2,h3⟩;have hsz:=hs.size;exact ⟨_,by rw [hE],Zc.trans hs h2 (λ i hi e=>by have:=hft i e;omega)⟩
    have HA:Hid (Ze4 L xs [(100,(n:Int)),(E, -1)]):=.inr ⟨n,hlt,HUP.out,by rw [<- hE];exact hE0,by rw [hE]⟩;clear CA he HUP hE hrf hft;generalize xs[n].name=nm at *;generalize xs[n].ar=nar at *;generalize xs[n].df=ndf at *
    go_upto_region 7 with ((go_at_call 53;refine CA2.mono ?_;rintro e w4 ⟨q,rfl,k4⟩))
    have kw:Za w4 (w4.alloc (.cells #[.int .i64 100,.int .i64 (n:Int),.int .i64 E,.int .i64 (-1)] 72)):=Zal9;have W4:=Ze7 w4 [(100,(n:Int)),(E, -1)] #[.int .i64 100,.int .i64 (n:Int),.int .i64 E,.int .i64 (-1)] 72 rfl (λ i hi=>by have hi' : i<2:=hi;match i,hi' with | 0,_=>exact ⟨rfl,rfl⟩ | 1,_=>exact ⟨rfl,rfl⟩) 2 rfl
    have HW4:Hid (Xh _ _ _):=W4;have K4:=k4.trans' kw;have HR4:Hid (Zcs _ _ _ _ _ _ _ _ _):=HRY.out _ K4;have HK4:Hid (Za _ _):=K4;clear W4 K4 kw CA2
    go_wp2_with fail
    go_ret;exact ⟨_,_,rfl,HA.out,HW4.out,HK4.out.mono (λ _ _ f=>f.elim),so,sc,L,HR4.out,(λ e=>by cases e),λ _=>⟨rfl,HK4.out⟩⟩
  ·have en:n=xs.length:=by omega
   subst en;have j2:¬ (xs.length:Int)<(xs.length:Int):=by omega
   rw [List.take_length] at hrf hl64;have hra:=hup.ars hLa;obtain ⟨so2,sc2,rfl⟩:=Zf hrf.row;have hRz:=HRY.out wz hs;obtain ⟨p1,p2⟩:=hRz.putS hrf.row hra hl64 (λ x hx=>⟨Zgj (hok x hx).1 xs,Zgj (hok x hx).2 xs⟩);have y0:=Zb hRz.blk 0;have f0:=Zg hRz.blk 0;have z0:=Zb hrf.blk 0;simp only [List.getElem?_toArray,List.getElem?_cons_zero] at y0 z0;have HUP:Hid (Ze4 L xs []):=.inl ⟨rfl,hup⟩;have HP:Hid (_∧_):=And.intro p1 (Zc.trans (hs.mono (S' := λ q=>q=m) (λ _ _ f=>f.elim)) p2 (λ _ _ e=>e));clear ho hup hrf hft hRz p1 p2 hra HRY RF2 FT2;generalize (L++xs).length=NL at *;go_wp2;go_ret;exact ⟨[],_,rfl,HUP.out,⟨none,0,rfl,.inl rfl⟩,HP.out.2,_,_,_,HP.out.1,λ _=>rfl,λ e=>absurd rfl e⟩
end
end Go.Proofs.YtmjgnfkbnofjoaaGreatDoor
