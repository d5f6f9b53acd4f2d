import Derived.WalkKit
import Derived.Test.YtmjgnfkbnofjoaaGreatDoorRN04
namespace Go.Proofs.YtmjgnfkbnofjoaaGreatDoor
open Go.Proofs.Tryz
set_option maxRecDepth 100000
set_option linter.unusedVariables false
set_option maxHeartbeats 8000000
variable {Z:Array Value} {x:Int} {f f' nx:Int->Int} {g:Int->List Int} {rs:List (Nat × Nat × Nat)} {bs:List Bd} {a b p t ts u v xs:List Int} {L:List Sym} {M N ap base cap n o y:Nat} {en sa:Nat->Int} {ao:Option Addr} {w w' w0:World}
section
open Go.RowKit
attribute [local go_sem ↓] Go.wp_at_zero Go.wp_at_succ
def Yq (L:List Sym) (t:List Int) (bs:List Bd):Int:=if Zd L t≠0 then Zd L t else match Zak L bs noT with | .error x=>x | .ok σ=>if 2000<(Vo σ t).length then 20 else 0
def Xo (L:List Sym) (t:List Int) (bs:List Bd):List Int:=if Yq L t bs=0 then (match Zak L bs noT with | .ok σ=>Vo σ t | .error _=>[]) else []
theorem Zge {σ:Tb} (h:Zak L bs σ=.error x):x≠0:=by
 induction bs generalizing σ with
 | nil=>simp [Zak] at h
 | cons b r ih=>
  rw [Zak] at h;split at h
  ·cases h;decide
  ·split at h
   ·cases h;assumption
   ·exact ih h
theorem Zl7 (h:Zd L t≠0):Yq L t bs=Zd L t∧Xo L t bs=[]:=by
 have e:Yq L t bs=Zd L t:=by rw [Yq,if_pos h]
 exact ⟨e,by rw [Xo,e,if_neg h]⟩
theorem Zq2 (h:Zd L t=0) (h2:Zak L bs noT=.error x):Yq L t bs=x∧Xo L t bs=[]:=by
 have e:Yq L t bs=x:=by rw [Yq,if_neg (by rw [h];simp),h2]
 exact ⟨e,by rw [Xo,e,if_neg (Zge h2)]⟩
theorem Zpb {σ:Tb} (h:Zd L t=0) (h2:Zak L bs noT=.ok σ) (h3:2000<(Vo σ t).length):Yq L t bs=20∧Xo L t bs=[]:=by
 have e:Yq L t bs=20:=by rw [Yq,if_neg (by rw [h];simp),h2];simp [h3]
 exact ⟨e,by rw [Xo,e,if_neg (by decide)]⟩
theorem Zvy {σ:Tb} (h:Zd L t=0) (h2:Zak L bs noT=.ok σ) (h3:¬ 2000<(Vo σ t).length):Yq L t bs=0∧Xo L t bs=Vo σ t:=by
 have e:Yq L t bs=0:=by rw [Yq,if_neg (by rw [h];simp),h2];simp [h3]
 exact ⟨e,by rw [Xo,e,if_pos rfl,h2]⟩
theorem Zqd (σ:Tb) (t:List Int) (k:Nat):(Vo σ (t.take k)).length<=(Vo σ t).length:=by
 have:Vo σ t=Vo σ (t.take k)++Vo σ (t.drop k):=by rw [<- Zf9,List.take_append_drop]
 rw [this,List.length_append];omega
theorem Zsz {σ:Tb} {n:Int} (h:Vt σ n=[]):Zuf σ n=[n]:=by
 unfold Vt at h;unfold Zuf
 by_cases h0:0<=n
 ·simp [h0]
 ·rw [if_neg h0] at h;simp [h]
theorem Zsl {σ:Tb} {n:Int} (h:Vt σ n≠[]):Zuf σ n=Vt σ n:=by
 unfold Vt at h ⊢;unfold Zuf
 by_cases h0:0<=n
 ·rw [if_pos h0] at h;exact absurd rfl h
 ·rw [if_neg h0] at h ⊢;simp [h0,h]
theorem Zqv {b:Nat} (h:Sg n w b L) {lo:Option Addr} {lcap:Nat} (ht:Zh w ao t) (hm:t.length<=maxLen) (hl:Jd w lo bs) (hlm:bs.length<=maxLen) (hbm:∀ x∈bs,x.2.length<=maxLen) :
  Calls prog 111 #[.pointer (some ⟨b,0,none⟩),.slice ao t.length cap,.slice lo bs.length lcap] w λ e w' => ∃ v,e=.returned (.tuple #[v,.int .i64 (Yq L t bs)])∧Row w.heap.size w' v (Xo L t bs)∧Za w w' := by
 have cp:=Xn (cap:=cap) h ht hm;have hnil:=Zrg
 by_cases hz:Zd L t=0
 ·obtain ⟨t1,t2,t3⟩:=Ze.1 hz
  have tv:∀ x∈t, -99<=x:=λ x hx=>((Zr.1 t2) x hx).2;rw [hz] at cp;obtain ⟨Z,hZ⟩:∃ Z:Array Value,Z=Array.replicate 100 (.slice none 0 0):=⟨_,rfl⟩;have hzz:Tryz.zeroCells279=Z:=Kh.trans hZ.symm;have hZs:Z.size=100:=by rw [hZ];simp
  have HST:Hid (∀ (w' : World) (cs:Array Value),cs.size=100->Znd cs->(storeCells ⟨w'.heap.size,0,none⟩ cs.toList 0).run prog (w'.alloc (.cells Z 279))=.ok () (w'.alloc (.cells cs 279))):=λ w' cs h1 h2=>run_storeCells_new w' _ Z cs (by rw [h1];exact Ve) (by omega) h2;have CT:Hid (∀ w1,Za w w1->Calls prog 159 #[.pointer (some ⟨b,0,none⟩),.slice lo bs.length lcap] w1 λ e w' => ∃ cs c,e=.returned (.tuple #[.agg cs,.int .i64 c])∧cs.size=100∧Znd cs∧Za w1 w' ∧ (∀ σ,Zak L bs noT=.ok σ->c=0∧Zf5 w1.heap.size w' cs σ∧Bnd σ)∧(∀ x,Zak L bs noT=.error x->c=x)):=λ w1 hk=>Zkx (lcap:=lcap) (h.same hk) (hl.same hk) hlm hbm;clear hZ;cases hT:Zak L bs noT with
  | error x=>
   have HX:Hid (Yq L t bs=x∧Xo L t bs=[]):=Zq2 hz hT;have hx0:(x == 0)=false:=by simpa using Zge hT
   rw [hT] at CT;clear hT hz
   go_enter func111,ntmps111
   go_wp2_with (first | (go_at_call 104;refine cp.mono ?_;rintro e w1 ⟨rfl,hk1⟩) | (go_at_call 159;refine (CT.out _ hk1).mono ?_;rintro e w2 ⟨cs,c,rfl,hcs,hone,hk2, -,hc⟩;obtain rfl:=hc x rfl;clear hc;have hst:=HST.out w2 cs hcs hone))
   go_ret2
   refine ⟨.slice none 0 0,by rw [HX.out.1];rfl,?_,(hk1.trans' hk2).alloc _⟩;rw [HX.out.2];exact World.ownsRow_nil _ _ _ _
  | ok σ=>
   rw [hT] at CT
   have CS:Hid (∀ (w2:World) (cs:Array Value) (N:Nat),Za w w2->Zf5 N w2 cs σ->Bnd σ->Calls prog 160 #[.pointer (some ⟨w2.heap.size,0,none⟩),.slice ao t.length cap] (w2.alloc (.cells cs 279)) λ e w' => e=.returned (.int .i64 ((Vo σ t).length:Int))∧w' = w2.alloc (.cells cs 279)):=λ w2 cs N hk2 ht2 hb2=>by
    have k4:Za w2 (w2.alloc (.cells cs 279)):=(Zc.refl _ w2).alloc _;exact Zuy (N:=N) (cap:=cap) ⟨cs,heap_alloc_new w2 _,ht2.same k4⟩ hb2 (ht.same (hk2.trans' k4)) t1 tv
   by_cases hlong:2000<(Vo σ t).length
   ·have HX:Hid (Yq L t bs=20∧Xo L t bs=[]):=Zpb hz hT hlong
    have hl2:(2000:Int)<((Vo σ t).length:Int):=by omega
    clear hT hz
    go_enter func111,ntmps111
    go_wp2_with (first | (go_at_call 104;refine cp.mono ?_;rintro e w1 ⟨rfl,hk1⟩) | (go_at_call 159;refine (CT.out _ hk1).mono ?_;rintro e w2 ⟨cs,c,rfl,hcs,hone,hk2,hc, -⟩;obtain ⟨rfl,htb,hbn⟩:=hc σ rfl;clear hc;have hst:=HST.out w2 cs hcs hone;have csz:=CS.out w2 cs _ (hk1.trans' hk2) htb hbn) | (go_at_call 160;refine csz.mono ?_;rintro e w3 ⟨rfl,rfl⟩))
    go_ret2
    refine ⟨.slice none 0 0,by rw [HX.out.1];rfl,?_,(hk1.trans' hk2).alloc _⟩;rw [HX.out.2];exact World.ownsRow_nil _ _ _ _
   ·have HX:Hid (Yq L t bs=0∧Xo L t bs=Vo σ t):=Zvy hz hT hlong
    have hl2:¬ (2000:Int)<((Vo σ t).length:Int):=by omega
    have HL:Hid ((Vo σ t).length<=2000):=by show _<=_;omega
    obtain ⟨i,hi,hz0,hz1,hz2⟩:=info_parts V7;obtain ⟨M,hM⟩:∃ M,M=(Vo σ t).length:=⟨_,rfl⟩;have hM2:M<=2000:=by omega
    rw [<- hM] at hl2 CS;have HM:Hid (M=(Vo σ t).length):=hM;have hl3:decide ((2000:Int)<(M:Int))=false:=by simp;omega
    clear hT hz hM hlong
    go_enter func111,ntmps111
    go_wp2_with (first | (go_at_call 104;refine cp.mono ?_;rintro e w1 ⟨rfl,hk1⟩) | (go_at_call 159;refine (CT.out _ hk1).mono ?_;rintro e w2 ⟨cs,c,rfl,hcs,hone,hk2,hc, -⟩;obtain ⟨rfl,htb,hbn⟩:=hc σ rfl;clear hc;have hst:=HST.out w2 cs hcs hone;have csz:=CS.out w2 cs _ (hk1.trans' hk2) htb hbn) | (go_at_call 160;refine csz.mono ?_;rintro e w3 ⟨rfl,rfl⟩) | (at_make;refine wpList_make_own _ rfl _ _ 74 rfl (w2.alloc (.cells cs 279)).heap.size 3 i _ 1 underlying74 hi hz0 hz1 _ _ _ M rfl rfl (by omega) (by rw [hz2];omega) (by unfold maxLen;omega) (Nat.le_refl _) ?_;intro w4 hown hgrow))
    have K3:Za w (w2.alloc (.cells cs 279)):=(hk1.trans' hk2).alloc _;have T3:Ky w1.heap.size (w2.alloc (.cells cs 279)) w2.heap.size σ:=⟨cs,heap_alloc_new w2 _,htb.same ((Zc.refl _ w2).alloc _)⟩;have K4:=Za.grown (Zc.refl _ _) hgrow;have ez:(w2.alloc (.cells cs 279)).heap.size=w2.heap.size+1:=World.size_alloc _ _;obtain ⟨W3,hW3⟩:∃ W3,W3=w2.alloc (.cells cs 279):=⟨_,rfl⟩;rw [<- hW3] at K3 T3 K4 hown ez;have hown' : Row W3.heap.size w4 (.slice (some ⟨w2.heap.size+1,0,none⟩) 0 M) []:=by rw [<- ez];exact hown
    have TV:Hid (∀ x∈t, -99<=x):=tv;have HBN:Hid (Bnd σ):=hbn;clear hgrow hown htb hst csz CS CT HST hW3 ez cp tv hbn hk1 hk2 hone
    go_loopw [12,39] (λ uv iv wr=>∃ k:Nat,k<=t.length∧iv=.int .i64 (k:Int)∧Row W3.heap.size wr uv (Vo σ (t.take k))∧Za W3 wr) (λ _ iv _=>t.length-(intOf iv).toNat)
    case atStart=>exact ⟨0,Nat.zero_le _,rfl,hown', K4⟩
    case round=>
     clear hown' K4;obtain ⟨k,hk,rfl,hr,hs⟩:=hrel;obtain ⟨uo,uc,rfl⟩:=Zf hr
     by_cases hlt:k<t.length
     ·obtain ⟨tb,off,rfl,htb,hc⟩:=(ht.same (K3.trans' hs)).get hlt
      have i1:(0:Int)<=(k:Int):=by omega
      have i2:(k:Int)<(t.length:Int):=by omega
      have c:=Zng (T3.same hs) t[k] (TV.out _ (List.getElem_mem hlt));have hpl:=Zg2 HBN.out t[k];have hle:(Vo σ (t.take k)).length<=2000:=Nat.le_trans (Zqd σ t k) HL.out;have hs0:=hs.size
      by_cases hp:Vt σ t[k]=[]
      ·have E1:Hid (Vo σ (t.take (k+1))=Vo σ (t.take k) ++ [t[k]]):=by show _=_;rw [Zht hlt,Zsz hp]
       have cc:Calls prog 161 #[.pointer (some ⟨w2.heap.size,0,none⟩),.int .i64 t[k]] wr λ e w' => e=.returned (.slice none 0 0)∧w' = wr:=by
        refine c.mono ?_;rintro e w' ⟨xo,xc,rfl,_,_,x3,rfl⟩;obtain ⟨rfl,rfl⟩:=x3 hp;exact ⟨by rw [hp];rfl,rfl⟩
       clear c hp;generalize Vo σ (t.take k)=X at *
       go_wp2_with (first | (go_at_call 161;refine cc.mono ?_;rintro e w' ⟨rfl,rfl⟩) | (at_builtin;refine Yz rfl _ _ 74 rfl underlying74 W3.heap.size X _ rfl hr t[k] rfl hs0 (by omega) ?_;intro g gcap w5 hr5 hk5 _;have hs5:=hs.onto hr hk5))
       rw [<- E1.out] at hr5;go_roundw
       case rel=>first | exact ⟨k+1,by omega,by go_num,hr5,hs5⟩ | ((repeat apply Exists.intro);exact ⟨⟨k+1,by omega,by go_num,hr5,hs5⟩,rfl⟩)
       case measure=>simp [intOf];omega
      ·have E1:Hid (Vo σ (t.take (k+1))=Vo σ (t.take k)++Vt σ t[k]):=by show _=_;rw [Zht hlt,Zsl hp]
       have cc:Calls prog 161 #[.pointer (some ⟨w2.heap.size,0,none⟩),.int .i64 t[k]] wr λ e w' => ∃ pb po pc,e=.returned (.slice (some ⟨pb,po,none⟩) (Vt σ t[k]).length pc)∧Zh wr (some ⟨pb,po,none⟩) (Vt σ t[k])∧w' = wr:=by
        refine c.mono ?_;rintro e w' ⟨xo,xc,rfl,x1,_,_,rfl⟩;obtain ⟨pb,po,rfl,_,_⟩:=x1.get (i:=0) (List.length_pos_iff.2 hp);exact ⟨pb,po,xc,rfl,x1,rfl⟩
       clear c hp;generalize Vo σ (t.take k)=X at *;generalize Vt σ t[k]=Y at *
       go_wp2_with (first | (go_at_call 161;refine cc.mono ?_;rintro e w' ⟨pb,po,pc,rfl,hy,rfl⟩) | (at_builtin;refine Y7 rfl _ _ 74 rfl underlying74 W3.heap.size X _ rfl hr Y _ _ _ rfl rfl hy hs0 (by omega) ?_;intro v5 w5 hr5 hk5;have hs5:=hs.onto hr hk5))
       rw [<- E1.out] at hr5;obtain ⟨vo,vc,rfl⟩:=Zf hr5;go_roundw
       case rel=>first | exact ⟨k+1,by omega,by go_num,hr5,hs5⟩ | ((repeat apply Exists.intro);exact ⟨⟨k+1,by omega,by go_num,hr5,hs5⟩,rfl⟩)
       case measure=>simp [intOf];omega
     ·have E1:Hid (Vo σ t=Vo σ (t.take k)):=by show _=_;rw [List.take_of_length_le (by omega)]
      have hr2:=Yy hr K3.size;clear hr;go_wp2
      go_ret2
      refine ⟨_,by rw [HX.out.1];rfl,?_,K3.trans' hs⟩;rw [HX.out.2,E1.out];exact hr2
 ·have hz' : (Zd L t == 0)=false:=by simpa using hz
  have HX:Hid (Yq L t bs=Zd L t∧Xo L t bs=[]):=Zl7 hz
  go_enter func111,ntmps111
  go_wp2_with (go_at_call 104;refine cp.mono ?_;rintro e w1 ⟨rfl,hk1⟩)
  go_ret2
  refine ⟨.slice none 0 0,by rw [HX.out.1];rfl,?_,hk1⟩;rw [HX.out.2];exact World.ownsRow_nil _ _ _ _
def V4 (L:List Sym) (p t:List Int) (a:Int):Int:=if Zd L p≠0 then Zd L p else Zz L t a
def X9 (L:List Sym) (p t:List Int) (a:Int):Option Tb:=if V4 L p t a=0 then mw L p (Jr L t a.toNat) noT else none
def Yw (L:List Sym) (p t:List Int) (a:Int):List Bd:=match X9 L p t a with | some σ=>blN σ 100 | none=>[]
theorem Zih {a:Int} (h:V4 L p t a≠0):X9 L p t a=none∧Yw L p t a=[]:=by
 have h1:X9 L p t a=none:=by rw [X9,if_neg h]
 exact ⟨h1,by rw [Yw,h1]⟩
theorem Zro {b:Nat} (h:Sg n w b L) (hn:n<=w.heap.size) {po:Option Addr} {pcap:Nat} (hp:Zh w po p) (hpm:p.length<=maxLen) (ht:Zh w ao t) (hm:t.length<=maxLen) (hcap:t.length<=cap) (a:Int) :
  Calls prog 110 #[.pointer (some ⟨b,0,none⟩),.slice po p.length pcap,.slice ao t.length cap,.int .i64 a] w λ e w' => ∃ v l,e=.returned (.tuple #[v,.bool (X9 L p t a).isSome,.int .i64 (V4 L p t a)])∧Zff w.heap.size w' v l (Yw L p t a)∧Za w w' := by
 have cp:=Xn (cap:=pcap) h hp hpm
 by_cases hz:Zd L p=0
 ·have cs1:Hid (∀ w1,Za w w1->Calls prog 156 #[.pointer (some ⟨b,0,none⟩),.slice ao t.length cap,.int .i64 a] w1 λ e w' => ∃ v,e=.returned (.tuple #[v,.int .i64 (Zz L t a)])∧Row w1.heap.size w' v (Zxb L t a)∧Za w1 w'):=λ w1 hk=>Zyp (cap:=cap) (h.same hk) (ht.same hk) hm hcap a
  have HE:V4 L p t a=Zz L t a:=by simp [V4,hz]
  rw [hz] at cp
  by_cases hq:Zz L t a=0
  ·obtain ⟨q,rfl,hql,h0,h1,h2⟩:=Jw hq
   obtain ⟨p1,p2,p3⟩:=Ze.1 hz;have pv:∀ x∈p, -99<=x:=λ x hx=>((Zr.1 p2) x hx).2;have HS:X9 L p t q=mw L p (Jr L t q) noT:=by rw [X9,HE,if_pos hq];rfl
   have HA:Zxb L t q=Jr L t q:=by rw [Zxb,if_pos hq];rfl
   have hsl:=Zap h2 hql;have hle:=Xs h2 hql;have hst:=Zao h2 hql
   have c2:Hid (∀ w1,Za w w1->Calls prog 156 #[.pointer (some ⟨b,0,none⟩),.slice ao t.length cap,.int .i64 (q:Int)] w1 λ e w' => ∃ uo uc,e=.returned (.tuple #[.slice uo (Jr L t q).length uc,.int .i64 0])∧Za w w' ∧ Calls prog 157 #[.pointer (some ⟨b,0,none⟩),.slice po p.length pcap,.slice uo (Jr L t q).length uc] w' λ e w'' => ∃ cs f,e=.returned (.tuple #[.agg cs,.bool f])∧cs.size=100∧Za w w'' ∧ f=(X9 L p t q).isSome∧cs.all (·.oneCell')=true∧∀ σ,X9 L p t q=some σ->Zf5 w''.heap.size w'' cs σ∧Bnd σ):=λ w1 hk=>by
    refine (cs1.out w1 hk).mono ?_;rintro e w2 ⟨v,rfl,hr,hk2⟩;rw [HA] at hr;obtain ⟨uo,uc,rfl,u1,u2,u3⟩:=hr.ints;have K2:=hk.trans' hk2;have hn2:n<=w2.heap.size:=Nat.le_trans hn K2.size;refine ⟨uo,uc,by rw [hq],K2,?_⟩
    have sg2:Sg w2.heap.size w2 b L:=by
     obtain ⟨⟨sv,mr,x1,x2⟩,x3⟩:=h.same K2;exact ⟨⟨sv,mr,x1,λ k e=>by have:=x2 k e;omega⟩,x3⟩
    refine (Zwe (pcap:=pcap) sg2 (hp.same K2) u1 p1 (by omega) u2 pv (Zjm p3 hst) (Z2 hst)).mono ?_;rintro e w3 ⟨cs,f,rfl,hk3,y1,y2⟩;have z3:=hk3.size;have K3:=K2.trans' hk3;rw [HS];cases hm:mw L p (Jr L t q) noT with
    | none=>
     obtain ⟨rfl,ty⟩:=y2 hm;exact ⟨cs,false,rfl,ty.1,K3,rfl,ty.one,λ σ e=>by cases e⟩
    | some σ=>
     obtain ⟨rfl,ty,tb⟩:=y1 σ hm;refine ⟨cs,true,rfl,ty.1,K3,rfl,ty.one,λ σ' e=>?_⟩;cases e;refine ⟨⟨ty.1,λ v hv=>?_⟩,tb⟩;obtain ⟨xo,xc,g1,g2,g3,g4,g5⟩:=ty.2 v hv;exact ⟨xo,xc,g1,g2,g3,g4,λ a e=>by have:=g5 a e;omega⟩
   have HE' : Hid (V4 L p t q=0):=by show _=_;rw [HE];exact hq
   obtain ⟨Z,hZ⟩:∃ Z:Array Value,Z=Array.replicate 100 (.slice none 0 0):=⟨_,rfl⟩;have hzz:Tryz.zeroCells279=Z:=Kh.trans hZ.symm;have hZs:Z.size=100:=by rw [hZ];simp
   have HST:Hid (∀ (w' : World) (cs:Array Value),cs.size=100->cs.all (·.oneCell')=true->(storeCells ⟨w'.heap.size,0,none⟩ cs.toList 0).run prog (w'.alloc (.cells Z 279))=.ok () (w'.alloc (.cells cs 279))):=λ w' cs h1 h2=>run_storeCells_new w' _ Z cs (by rw [h1];exact Ve) (by omega) h2;clear hZ cs1 hq HE HS HA hsl hle hst h2 h1 h0 hz p1 p2 p3 pv;cases hS:X9 L p t q with
   | none=>
    have HB:Hid (Yw L p t q=[]):=by show _=_;rw [Yw,hS]
    rw [hS] at c2
    go_enter func110,ntmps110
    go_wp2_with (first | (go_at_call 104;refine cp.mono ?_;rintro e w1 ⟨rfl,hk1⟩) | (go_at_call 156;refine (c2.out _ hk1).mono ?_;rintro e w2 ⟨uo,uc,rfl,hk2,cw⟩) | (go_at_call 157;refine cw.mono ?_;rintro e w3 ⟨cs,f,rfl,hcs,hk3,rfl,hone,_⟩;have hst:=HST.out w3 cs hcs hone))
    go_ret3
    refine ⟨.slice none 0 0,[],by rw [HE'.out];rfl,?_,hk3.alloc _⟩;rw [HB.out];exact Zff.nil _ _
   | some σ=>
    have HB:Hid (Yw L p t q=blN σ 100):=by show _=_;rw [Yw,hS]
    rw [hS] at c2
    have cB:Hid (∀ (w3:World) (cs:Array Value),Za w w3->Zf5 w3.heap.size w3 cs σ->Bnd σ->Calls prog 158 #[.pointer (some ⟨w3.heap.size,0,none⟩)] (w3.alloc (.cells cs 279)) λ e w' => ∃ v l,e=.returned v∧Zff w.heap.size w' v l (blN σ 100)∧Za w w'):=λ w3 cs hk3 ht3 hb3=>by
     have k4:Za w3 (w3.alloc (.cells cs 279)):=(Zc.refl _ w3).alloc _;refine (Ztt (N:=w3.heap.size) (A:=w3.heap.size) (w:=w3.alloc (.cells cs 279)) ⟨cs,heap_alloc_new w3 _,ht3.same k4⟩ hb3).mono ?_;rintro e w5 ⟨v,l,rfl,hB,hk5⟩;have K5:=(hk3.trans' k4);have z5:=K5.size;exact ⟨v,l,rfl,⟨Yy hB.row z5,hB.len,λ i x y=>⟨(hB.each i x y).1,Yy (hB.each i x y).2.1 z5,(hB.each i x y).2.2⟩,hB.apart⟩,K5.trans' hk5⟩
    go_enter func110,ntmps110
    go_wp2_with (first | (go_at_call 104;refine cp.mono ?_;rintro e w1 ⟨rfl,hk1⟩) | (go_at_call 156;refine (c2.out _ hk1).mono ?_;rintro e w2 ⟨uo,uc,rfl,hk2,cw⟩) | (go_at_call 157;refine cw.mono ?_;rintro e w3 ⟨cs,f,rfl,hcs,hk3,rfl,hone,htt⟩;have hst:=HST.out w3 cs hcs hone;have cbb:=cB.out w3 cs hk3 (htt σ rfl).1 (htt σ rfl).2;clear htt) | (go_at_call 158;refine cbb.mono ?_;rintro e w5 ⟨v,l,rfl,hB,hk5⟩))
    go_ret3
    refine ⟨v,l,by rw [HE'.out];rfl,?_,hk5⟩;rw [HB.out];exact hB
  ·have hq' : (Zz L t a == 0)=false:=by simpa using hq
   have HE' : Hid (V4 L p t a=Zz L t a∧X9 L p t a=none∧Yw L p t a=[]):=⟨HE,Zih (by rw [HE];exact hq)⟩;clear HE hz
   go_enter func110,ntmps110
   go_wp2_with (first | (go_at_call 104;refine cp.mono ?_;rintro e w1 ⟨rfl,hk1⟩) | (go_at_call 156;refine (cs1.out _ hk1).mono ?_;rintro e w2 ⟨v,rfl,hr,hk2⟩))
   go_ret3
   refine ⟨.slice none 0 0,[],by rw [HE'.out.1,HE'.out.2.1];rfl,?_,hk1.trans' hk2⟩;rw [HE'.out.2.2];exact Zff.nil _ _
 ·have hz' : (Zd L p == 0)=false:=by simpa using hz
  have HE' : Hid (V4 L p t a=Zd L p∧X9 L p t a=none∧Yw L p t a=[]):=by
   have e:V4 L p t a=Zd L p:=by simp [V4,hz]
   exact ⟨e,Zih (by rw [e];exact hz)⟩
  go_enter func110,ntmps110
  go_wp2_with (go_at_call 104;refine cp.mono ?_;rintro e w1 ⟨rfl,hk1⟩)
  go_ret3
  refine ⟨.slice none 0 0,[],by rw [HE'.out.1,HE'.out.2.1];rfl,?_,hk1⟩;rw [HE'.out.2.2];exact Zff.nil _ _
end
def vn (n:Int):Nat:=(-n).toNat
theorem Zzp {σ σ' : Tb} (he:Zon L p ts) (h:mw L p ts σ=some σ') (v:Nat):σ' v≠[] ↔ (σ v≠[]∨∃ n∈p,n<0∧(-n).toNat=v):=by
 induction p generalizing ts σ with
 | nil=>simp [mw] at h;subst h;simp
 | cons n r ih=>
  obtain ⟨x,ts', rfl,h1,h2⟩:=he.cons
  by_cases hn:0<=n
  ·rw [Zi0 hn] at h
   by_cases e:x=n
   ·rw [if_pos e] at h
    rw [ih (h1 hn e) h];constructor
    ·rintro (q | ⟨y,q1,q2⟩)
     ·exact .inl q
     ·exact .inr ⟨y,List.mem_cons_of_mem _ q1,q2⟩
    ·rintro (q | ⟨y,q1,q2,q3⟩)
     ·exact .inl q
     ·rcases List.mem_cons.1 q1 with q | q
      ·subst q;omega
      ·exact .inr ⟨y,q,q2,q3⟩
   ·rw [if_neg e] at h;cases h
  ·obtain ⟨m,g1,g2,g3,g4,g5,g6⟩:=h2 hn
   have hne:Jc L (x :: ts')≠[]:=λ e=>by rw [e] at g5;simp at g5;omega
   have key:∀ τ:Tb,(∀ u,τ u≠[] ↔ (σ u≠[]∨u=(-n).toNat))->(σ' v≠[] ↔ (τ v≠[]∨∃ n∈r,n<0∧(-n).toNat=v))->(σ' v≠[] ↔ (σ v≠[]∨∃ y∈n :: r,y<0∧(-y).toNat=v)):=λ τ q1 q2=>by
    rw [q2,q1];constructor
    ·rintro ((q | q) | ⟨y,q3,q4⟩)
     ·exact .inl q
     ·exact .inr ⟨n,by simp,by omega,q.symm⟩
     ·exact .inr ⟨y,List.mem_cons_of_mem _ q3,q4⟩
    ·rintro (q | ⟨y,q3,q4,q5⟩)
     ·exact .inl (.inl q)
     ·rcases List.mem_cons.1 q3 with q | q
      ·subst q;exact .inl (.inr q5.symm)
      ·exact .inr ⟨y,q,q4,q5⟩
   by_cases hs:σ (-n).toNat=[]
   ·rw [Znk hn hs,g5] at h
    refine key _ (λ u=>?_) (ih g6 h)
    by_cases e:u=(-n).toNat
    ·subst e;rw [Zhi];simp [hne]
    ·rw [Zc9 e];simp [e]
   ·rw [Znt hn hs,g5] at h
    split at h
    ·refine key σ (λ u=>?_) (ih g6 h)
     constructor
     ·exact .inl
     ·rintro (q | q)
      ·exact q
      ·rw [q];exact hs
    ·cases h
theorem Zrn {m:Nat} (hb:Ks L ts=0) (hl:ts.length<=2000) (h:Xv L 1 ts=some m):Zd L (ts.take m)=0:=by
 obtain ⟨h1,h2⟩:=Vn h;refine Ze.2 ⟨by rw [List.length_take];omega,?_,h2⟩;rw [Zr] at hb ⊢;exact λ x hx=>hb x (List.mem_of_mem_take hx)
theorem Ztw {σ σ' : Tb} (he:Zon L p ts) (hb:Ks L ts=0) (hl:ts.length<=2000) (h:mw L p ts σ=some σ') (hσ:∀ v,σ v≠[]->Zd L (σ v)=0):∀ v,σ' v≠[]->Zd L (σ' v)=0:=by
 induction p generalizing ts σ with
 | nil=>simp [mw] at h;subst h;exact hσ
 | cons n r ih=>
  obtain ⟨x,ts', rfl,h1,h2⟩:=he.cons
  have hbd:∀ m,Ks L ((x :: ts').drop m)=0:=λ m=>by
   rw [Zr] at hb ⊢;exact λ y hy=>hb y (List.mem_of_mem_drop hy)
  by_cases hn:0<=n
  ·rw [Zi0 hn] at h
   by_cases e:x=n
   ·rw [if_pos e] at h
    exact ih (h1 hn e) (hbd 1) (by simp at hl;omega) h hσ
   ·rw [if_neg e] at h;cases h
  ·obtain ⟨m,g1,g2,g3,g4,g5,g6⟩:=h2 hn
   have hdl:((x :: ts').drop m).length<=2000:=by rw [List.length_drop];omega
   by_cases hs:σ (-n).toNat=[]
   ·rw [Znk hn hs,g5] at h
    refine ih g6 (hbd m) hdl h (λ v hv=>?_)
    by_cases e:v=(-n).toNat
    ·subst e;rw [Zhi,g4];exact Zrn hb hl g1
    ·rw [Zc9 e] at hv ⊢;exact hσ v hv
   ·rw [Znt hn hs,g5] at h
    split at h
    ·exact ih g6 (hbd m) hdl h hσ
    ·cases h
def Zw8 (σ:Tb) (n:Nat):Tb:=λ v=>if v<n then σ v else []
theorem tab_bl {σ:Tb} (h0:σ 0=[]) (hg:∀ v,σ v≠[]->Zd L (σ v)=0) (n:Nat) (hn:n<=100) (rest:List Bd):Zak L (blN σ n++rest) noT=Zak L rest (Zw8 σ n):=by
 induction n generalizing rest with
 | zero=>rw [Zu0];congr 1
 | succ n ih=>
  have hc:∀ u,Zw8 σ (n+1) u=if u=n then σ n else Zw8 σ n u:=λ u=>by
   unfold Zw8
   by_cases e:u=n
   ·subst e;simp
   ·by_cases e2:u<n
    ·rw [if_pos (by omega),if_neg e,if_pos e2]
    ·rw [if_neg (by omega),if_neg e,if_neg e2]
  by_cases hs:σ n=[]
  ·rw [Zw1 hs,ih (by omega)]
   congr 1
   funext u
   rw [hc u];split
   ·rename_i e;rw [e,hs];simp [Zw8]
   ·rfl
  ·have h1:n≠0:=λ e=>hs (by rw [e];exact h0)
   rw [Zrp hs,List.append_assoc,ih (by omega)];rw [List.cons_append,List.nil_append,Zw7 (by simp [Zw8];omega) (hg n hs)];congr 1
   funext u
   rw [hc u];simp [Zjt]
theorem Zu2 {σ:Tb} (hp:∀ x∈p, -99<=x) (he:Zon L p ts) (hb:Ks L ts=0) (hl:ts.length<=2000) (h:mw L p ts noT=some σ):Zak L (blN σ 100) noT=.ok σ∧(∀ v,σ v≠[] ↔ ∃ n∈p,n<0∧(-n).toNat=v):=by
 have hv:∀ v,σ v≠[] ↔ ∃ n∈p,n<0∧(-n).toNat=v:=λ v=>by
  rw [Zzp he h v];simp [noT]
 have hg:=Ztw he hb hl h (λ v q=>by simp [noT] at q)
 have hz:∀ v,100<=v∨v=0->σ v=[]:=λ v q=>Classical.byContradiction λ hne=>by
  obtain ⟨n,hn,hn0,rfl⟩:=(hv v).1 hne;have:=hp n hn;omega
 refine ⟨?_,hv⟩;have:=tab_bl (hz 0 (.inr rfl)) hg 100 (Nat.le_refl _) [];rw [List.append_nil] at this;rw [this];show Except.ok (Zw8 σ 100)=_;congr 1
 funext v
 unfold Zw8;split
 ·rfl
 ·exact (hz v (.inl (by omega))).symm
section
open Go.RowKit
attribute [local go_sem ↓] Go.wp_at_zero Go.wp_at_succ
end
structure Ren (f f' : Int->Int) (n:Int):Prop where
 back:f' (f n)=n
 neg:n<0->f n<0
 pos:0<=n->f n=n
theorem Zsx {o:List Int} (ho:∀ n∈o,Ren f f' n) (hx:Ren f f' x):f x∈o.map f ↔ x∈o:=by
 rw [List.mem_map];constructor
 ·rintro ⟨y,hy,e⟩
  have:=congrArg f' e;rw [(ho y hy).back,hx.back] at this;rw [<- this];exact hy
 ·intro h;exact ⟨x,h,rfl⟩
theorem Zsj:∀ {o:List Int} {x:Int},(∀ n∈o,Ren f f' n)->Ren f f' x->(o.map f).idxOf (f x)=o.idxOf x
 | [],x,_,_=>rfl
 | y :: r,x,ho,hx=>by
  rw [List.map_cons,List.idxOf_cons,List.idxOf_cons,Zsj (λ n hn=>ho n (by simp [hn])) hx]
  by_cases e:y=x
  ·subst e;simp
  ·have:¬ f y=f x:=λ g=>e (by have:=congrArg f' g;rwa [(ho y (by simp)).back,hx.back] at this)
   have h1:(y == x)=false:=by simpa using e
   have h2:(f y == f x)=false:=by simpa using this
   rw [h1,h2]
theorem Zyj (u:List Int):∀ (o:List Int),(∀ n∈o,Ren f f' n)->(∀ n∈u,Ren f f' n)->wrF (o.map f) (u.map f)=wrF o u:=by
 induction u with
 | nil=>intro o _ _;rfl
 | cons x r ih=>
  intro o ho hu;have hx:=hu x (by simp)
  have ev:vzs (o.map f) (f x)=(vzs o x).map f:=by
   unfold vzs
   by_cases h:x<0∧¬ x∈o
   ·rw [if_pos h,if_pos ⟨hx.neg h.1,λ g=>h.2 ((Zsx ho hx).1 g)⟩];simp
   ·rw [if_neg h,if_neg (λ g=>h ⟨by
     by_cases q:x<0
     ·exact q
     ·have:=hx.pos (by omega);omega,λ q=>g.2 ((Zsx ho hx).2 q)⟩)]
  have hv:∀ n∈vzs o x,Ren f f' n:=by
   intro n hn;unfold vzs at hn;split at hn
   ·rcases List.mem_append.1 hn with q | q
    ·exact ho n q
    ·simp only [List.mem_cons,List.not_mem_nil,or_false] at q;subst q;exact hx
   ·exact ho n hn
  rw [List.map_cons,wrF,wrF,ev,ih _ hv (λ n hn=>hu n (by simp [hn]))];congr 1;unfold rn
  by_cases h:x<0
  ·rw [if_pos h,if_pos (hx.neg h),Zsj hv hx]
  ·rw [if_neg h,if_neg (by rw [hx.pos (by omega)];exact h),hx.pos (by omega)]
theorem Zhg:∀ (u:List Int),(∀ n∈u,n<0->IsT L (g n))->(Vq g u).length=u.length->Vq g u=u.map (λ n=>if n<0 then (g n).headD 0 else n)
 | [],_,_=>rfl
 | n :: r,h,e=>by
  have h1:=Zc8 r (λ m hm=>h m (by simp [hm]));rw [Yp,List.length_append,List.length_cons] at e;rw [Yp,List.map_cons]
  by_cases hn:n<0
  ·have h2:=Z2 (h n (by simp) hn)
   rw [if_pos hn] at e ⊢;rw [if_pos hn];have h3:(g n).length=1:=by omega
   obtain ⟨y,hy⟩:=List.length_eq_one_iff.1 h3;rw [Zhg r (λ m hm=>h m (by simp [hm])) (by omega),hy];rfl
  ·rw [if_neg hn] at e ⊢
   rw [if_neg hn];simp only [List.length_cons,List.length_nil] at e;rw [Zhg r (λ m hm=>h m (by simp [hm])) (by omega)];rfl
theorem Zjp {g':Int->List Int} (h1:∀ n∈u,n<0->IsT L (g n)) (h2:∀ n∈v,n<0->IsT L (g' n)) (e1:v=Vq g u) (e2:u=Vq g' v):wrF [] v=wrF [] u:=by
 have l1:=Zc8 u h1;have l2:=Zc8 v h2;rw [<- e1] at l1;rw [<- e2] at l2;have m1:=Zhg u h1 (by rw [<- e1];omega);have m2:=Zhg v h2 (by rw [<- e2];omega);rw [<- e1] at m1;rw [<- e2] at m2;obtain ⟨f,hf⟩:∃ f:Int->Int,f=λ n=>if n<0 then (g n).headD 0 else n:=⟨_,rfl⟩
 obtain ⟨f', hf'⟩:∃ f:Int->Int,f=λ n=>if n<0 then (g' n).headD 0 else n:=⟨_,rfl⟩
 rw [<- hf] at m1;rw [<- hf'] at m2
 have hb:∀ n∈u,f' (f n)=n:=by
  have:u=u.map (λ n=>f' (f n)):=by rw [m1,List.map_map] at m2;exact m2
  intro n hn;obtain ⟨i,hi,rfl⟩:=List.getElem_of_mem hn;have h3:=congrArg (λ l=>l[i]?) this;simp only [List.getElem?_map,List.getElem?_eq_getElem hi,Option.map_some,Option.some.injEq] at h3;exact h3.symm
 have hpos:∀ n,0<=n->f n=n:=λ n hn=>by rw [hf];simp only;rw [if_neg (by omega)]
 have hpos' : ∀ n,0<=n->f' n=n:=λ n hn=>by rw [hf'];simp only;rw [if_neg (by omega)]
 have hr:∀ n∈u,Ren f f' n:=λ n hn=>⟨hb n hn,λ hn0=>by
  by_cases q:f n<0
  ·exact q
  ·have:=hb n hn;rw [hpos' _ (by omega)] at this;omega,hpos n⟩
 have:=Zyj u [] (by simp) hr;rw [m1];exact this
theorem Zim {α:Type} (f:Int->List Int) (g:α->List Int) (l:List α):Vq f (l.flatMap g)=l.flatMap (λ k=>Vq f (g k)):=by
 induction l with
 | nil=>rfl
 | cons x r ih=>rw [List.flatMap_cons,List.flatMap_cons,Za7,ih]
theorem Zte (f:Int->List Int) {ap:Int} (h:0<=ap) (b:List Int):Vq f (b.map (shF ap))=Vq (λ n=>f (n-ap)) b:=by
 induction b with
 | nil=>rfl
 | cons n r ih=>
  rw [List.map_cons,Yp,Yp,ih];congr 1;unfold shF
  by_cases hn:n<0
  ·rw [if_pos hn,if_pos (by omega),if_pos hn]
  ·rw [if_neg hn,if_neg hn,if_neg hn]
def Zqt (L:List Sym) (a b:List Int) (ap:Int) (u:List Int):Prop:=∃ ld k,Zc0 L (jl a b ap) a.length=some (ld,k)∧J3 L (jl a b ap) a.length ld∧Val L (jl a b ap) ld 0 u∧k=min (u.length:Int) 2001
theorem Zqt.uniq {ap:Int} (h:Zqt L a b ap u) (k:Zqt L a b ap v):u=v:=by
 obtain ⟨ld,k1,h1,_,h2,_⟩:=h;obtain ⟨ld', k2,g1,_,g2,_⟩:=k;rw [h1] at g1;simp only [Option.some.injEq,Prod.mk.injEq] at g1;obtain ⟨rfl,rfl⟩:=g1;exact h2.uniq g2
theorem com_u (hap:ap<=99) (ha:Zd L a=0) (hb:Zd L b=0):Zc0 L (jl a b ap) a.length=none∨∃ u,Zqt L a b ap u:=by
 obtain ⟨x1,x2,x3⟩:=Ze.1 ha;obtain ⟨y1,y2,y3⟩:=Ze.1 hb;have hT:=Zcq (apart:=(ap:Int)) (by omega) x3 y3
 have hv:∀ x∈jl a b ap, -198<=x:=by
  intro x hx;unfold jl at hx
  rcases List.mem_append.1 hx with e | e
  ·have:=(Zr.1 x2 x e).2;omega
  ·obtain ⟨y,hy,rfl⟩:=List.mem_map.1 e
   have:=(Zr.1 y2 y hy).2;unfold shF;split <;> omega
 have p1:=Z2 x3;have p2:=Z2 y3;have hl:(jl a b ap).length=a.length+b.length:=by simp [jl]
 cases hs:Zc0 L (jl a b ap) a.length with
 | none=>exact .inl rfl
 | some v=>
  obtain ⟨ld,k⟩:=v;right;obtain ⟨res,hU,hR1,hR2⟩:=(Zlw hT hv (m:=a.length) (by omega) (by omega)).uni;cases res with
  | none=>rw [hR1 rfl] at hs;cases hs
  | some ld' =>
   obtain ⟨g1,k', sz', g2,g3,g4⟩:=hR2 ld' rfl
   by_cases e:k' = -1
   ·rw [g3 e] at hs;cases hs
   ·obtain ⟨f1,u,f2,f3⟩:=g4 e
    rw [f1] at hs;simp only [Option.some.injEq,Prod.mk.injEq] at hs;obtain ⟨rfl,rfl⟩:=hs;exact ⟨u,ld', k', f1,Zja hv (by omega) (by omega) hU,f2,f3⟩
theorem Zi8 (ha:Zd L a=0) (hb:Zd L b=0) (hap:ap<=99):∀ x∈jl a b ap, -198<=x:=by
 intro x hx;unfold jl at hx
 rcases List.mem_append.1 hx with e | e
 ·have:=(Zr.1 (Ze.1 ha).2.1 x e).2;omega
 ·obtain ⟨y,hy,rfl⟩:=List.mem_map.1 e
  have:=(Zr.1 (Ze.1 hb).2.1 y hy).2;unfold shF;split <;> omega
theorem Zu8 (ha:Zd L a=0) (hb:Zd L b=0) {fa fb:Int->List Int} (ta:∀ n∈a,n<0->IsT L (fa n)) (tb:∀ n∈b,n<0->IsT L (fb n)) {T:List Int} (e1:Vq fa a=T) (e2:Vq fb b=T) :
  ∃ u g,Zqt L a b 99 u∧T=Vq g u∧(∀ n∈u,n<0->IsT L (g n)):=by
 obtain ⟨x1,x2,x3⟩:=Ze.1 ha;obtain ⟨y1,y2,y3⟩:=Ze.1 hb;have hT:=Zcq (apart:=(99:Int)) (by omega) x3 y3;have hv:∀ x∈jl a b 99, -198<=x:=Zi8 ha hb (ap:=99) (by omega);have p1:=Z2 x3;have p2:=Z2 y3;have hl:(jl a b 99).length=a.length+b.length:=by simp [jl]
 obtain ⟨vv,hvv⟩:∃ vv:Int->List Int,vv=λ n=>if -99<=n then (if n∈a then fa n else [n]) else (if n+99∈b then fb (n+99) else [n]):=⟨_,rfl⟩
 have vT:∀ n,n<0->IsT L (vv n):=by
  intro n hn;rw [hvv];simp only
  by_cases h : -99<=n
  ·rw [if_pos h]
   by_cases q:n∈a
   ·rw [if_pos q];exact ta n q hn
   ·rw [if_neg q];exact Ze1 L hn
  ·rw [if_neg h]
   by_cases q:n+99∈b
   ·rw [if_pos q];exact tb _ q (by omega)
   ·rw [if_neg q];exact Ze1 L hn
 have va:Vq vv a=T:=by
  rw [<- e1];refine Jx a (λ n hn h0=>?_);rw [hvv];simp only;rw [if_pos ((Zr.1 x2 n hn).2),if_pos hn]
 have vb:Vq vv (b.map (shF 99))=T:=by
  rw [Zte vv (by omega),<- e2];refine Jx b (λ n hn h0=>?_);rw [hvv];simp only;rw [if_neg (by omega),if_pos (by rw [Int.sub_add_cancel];exact hn),Int.sub_add_cancel]
 obtain ⟨val,hval⟩:∃ val:Int->List Int,val=λ x=>if x<0 then vv x else Vq vv (Zkq L (jl a b 99) x.toNat):=⟨_,rfl⟩
 have vn:∀ n,n<0->val n=vv n:=λ n hn=>by rw [hval];simp only;rw [if_pos hn]
 have vp:∀ p:Nat,val p=Vq vv (Zkq L (jl a b 99) p):=λ p=>by rw [hval];simp only;rw [if_neg (by omega),Int.toNat_natCast]
 have hg:Good L (jl a b 99) val:=by
  refine ⟨λ p hp hs=>?_,λ p hp hs=>?_,λ x hx=>?_⟩
  ·rw [vp,Zhy hT hp,Yp,if_neg (by omega),Zim]
   simp only [vp];rfl
  ·rw [vp,Zhy hT hp,Yp,if_pos hs,vn _ hs]
   have:Zl L (jl a b 99) p=[]:=by unfold Zl;rw [show arN L (at' (jl a b 99) p)=0 by unfold arN;rw [if_pos hs]];rfl
   rw [this];simp [Vq]
  ·by_cases h:x<0
   ·rw [vn x h];exact vT x h
   ·obtain ⟨p,rfl⟩:=Int.eq_ofNat_of_zero_le (Int.not_lt.1 h)
    have:=vp p;show IsT L (val (p:Int));rw [this];unfold IsT;rw [Zey _ (λ n _ hn=>vT n hn)];exact Zrt hT (by have:=hx.2;omega)
 have c0:val 0=T:=by
  have:=vp 0;rw [show ((0:Nat):Int)=0 from rfl] at this;rw [this,<- va];congr 1;unfold Zkq;rw [show Zj L (jl a b 99) 0=a.length from Zeu (b:=b.map (shF 99)) x3];unfold jl;rw [List.drop_zero,Nat.sub_zero,List.take_left]
 have cm:val (a.length:Nat)=T:=by
  rw [vp,<- vb];congr 1;unfold Zkq;rw [show Zj L (jl a b 99) a.length=a.length+(b.map (shF 99)).length from Zca (a:=a) (Zmv (by omega) y3)];unfold jl;rw [List.drop_left,Nat.add_sub_cancel_left,List.take_length]
 obtain ⟨ld,k,u,hs,hcl,hu,hk,he,_⟩:=Zmb hT hv (m:=a.length) (by omega) (by omega) hg (by rw [c0,cm]);refine ⟨u,val,⟨ld,k,hs,hcl,hu,hk⟩,by rw [<- c0];exact he,λ n hn h0=>?_⟩;rw [vn n h0];exact vT n h0
theorem Zuz (ha:Zd L a=0) (hb:Zd L b=0) (hap:ap<=99) (h:Zqt L a b ap u):∃ f:Int->List Int,(∀ n,n<0 -> -198<=n->IsT L (f n))∧u=Vq f a∧u=Vq (λ n=>f (n-ap)) b∧IsT L u∧(∀ n∈u,0<=n->n<(L.length:Int)):=by
 obtain ⟨x1,x2,x3⟩:=Ze.1 ha;obtain ⟨y1,y2,y3⟩:=Ze.1 hb;obtain ⟨ld,k,h1,hc,hu,h3⟩:=h;have p1:=Z2 x3;have hl:(jl a b ap).length=a.length+b.length:=by simp [jl]
 obtain ⟨f,hf⟩:=Zi1 L (jl a b ap) ld;obtain ⟨e1,e2⟩:=Zml (by omega) x3 y3 hc hf hu;have p0:Z0 (jl a b ap) 0:=Zm (p:=0) (by omega);refine ⟨f,λ n hn h=>hf.isT hc.trs hc.ok hn ⟨h,by omega⟩,e1,by rw [<- Zte f (by omega)];exact e2,hu.isT hc.trs hc.ok p0,λ n hn h0=>?_⟩
 rcases hu.in hc.trs hc.ok p0 n hn with ⟨q,_⟩ | ⟨_,q⟩
 ·omega
 ·unfold jl at q
  rcases List.mem_append.1 q with e | e
  ·exact (Zr.1 x2 n e).1
  ·obtain ⟨y,hy,hy2⟩:=List.mem_map.1 e
   have:=(Zr.1 y2 y hy).1;unfold shF at hy2;split at hy2 <;> omega
theorem Zui (ha:Zd L a=0) (hb:Zd L b=0) (h:Zqt L b a 99 u):∃ v,Zqt L a b 99 v∧v.length=u.length∧wrF [] u=wrF [] v:=by
 have step:∀ (a b:List Int),Zd L a=0->Zd L b=0->∀ u,Zqt L b a 99 u->∃ v g,Zqt L a b 99 v∧u=Vq g v∧(∀ n∈v,n<0->IsT L (g n)):=by
  intro a b ha hb u h;obtain ⟨f,h1,h2,h3,_⟩:=Zuz hb ha (ap:=99) (by omega) h;have la:=λ n hn=>(Zr.1 (Ze.1 ha).2.1 n hn).2;have lb:=λ n hn=>(Zr.1 (Ze.1 hb).2.1 n hn).2;exact Zu8 ha hb (fa:=λ n=>f (n-((99:Nat):Int))) (fb:=f) (λ n hn h0=>h1 _ (by omega) (by have:=la n hn;omega)) (λ n hn h0=>h1 n h0 (by have:=lb n hn;omega)) h3.symm h2.symm
 obtain ⟨v,g,h1,h2,h3⟩:=step a b ha hb u h;obtain ⟨u', g', k1,k2,k3⟩:=step b a hb ha v h1;have:=k1.uniq h;subst this;have e:=Zjp h3 k3 h2 k2;have hl:=congrArg List.length e;rw [Zas,Zas] at hl;exact ⟨v,h1,hl.symm,e⟩
section
open Go.RowKit
theorem Zkm:Tryz.zeroCells359 = #[.slice none 0 0,.slice none 0 0]++Array.replicate 199 (.int .i64 0) ++ #[.slice none 0 0,.slice none 0 0]:=by kernel_rfl
structure ZOk (Z:Array Value):Prop where
 size:Z.size=203
 var:∀ v,1<=v->v<199->Z[2+v]? = some (.int .i64 0)
theorem Zrv:ZOk Tryz.zeroCells359:=by
 rw [Zkm];refine ⟨by simp,λ v h1 h2=>?_⟩;rw [Array.getElem?_append_left (by simp;omega),Array.getElem?_append_right (by simp),Array.getElem?_eq_getElem (by simp;omega)];simp
def JZ (Z:Array Value) (l e s z:Value):Array Value:=(((Z.setIfInBounds 0 l).setIfInBounds 1 e).setIfInBounds 201 s).setIfInBounds 202 z
theorem Zdt (hZ:ZOk Z) (l e s z:Value):(JZ Z l e s z).size=203:=by simp [JZ,hZ.size]
theorem JZ_0 (hZ:ZOk Z) (l e s z:Value):(JZ Z l e s z)[0]? = some l:=by
 have:=Zdt hZ l e s z;simp only [JZ,Array.size_setIfInBounds] at this;simp only [JZ];rw [Array.getElem?_setIfInBounds,if_neg (by omega),Array.getElem?_setIfInBounds,if_neg (by omega),Array.getElem?_setIfInBounds,if_neg (by omega),Array.getElem?_setIfInBounds,if_pos rfl,if_pos (by omega)]
theorem JZ_1 (hZ:ZOk Z) (l e s z:Value):(JZ Z l e s z)[1]? = some e:=by
 have:=Zdt hZ l e s z;simp only [JZ,Array.size_setIfInBounds] at this;simp only [JZ];rw [Array.getElem?_setIfInBounds,if_neg (by omega),Array.getElem?_setIfInBounds,if_neg (by omega),Array.getElem?_setIfInBounds,if_pos rfl,if_pos (by simp;omega)]
theorem JZ_201 (hZ:ZOk Z) (l e s z:Value):(JZ Z l e s z)[201]? = some s:=by
 have:=Zdt hZ l e s z;simp only [JZ,Array.size_setIfInBounds] at this;simp only [JZ];rw [Array.getElem?_setIfInBounds,if_neg (by omega),Array.getElem?_setIfInBounds,if_pos rfl,if_pos (by simp;omega)]
theorem JZ_202 (hZ:ZOk Z) (l e s z:Value):(JZ Z l e s z)[202]? = some z:=by
 have:=Zdt hZ l e s z;simp only [JZ,Array.size_setIfInBounds] at this;simp only [JZ];rw [Array.getElem?_setIfInBounds,if_pos rfl,if_pos (by simp;omega)]
theorem JZ_v (hZ:ZOk Z) (l e s z:Value) {v:Nat} (h1:1<=v) (h2:v<199):(JZ Z l e s z)[2+v]? = some (.int .i64 0):=by
 simp only [JZ];rw [Array.getElem?_setIfInBounds,if_neg (by omega),Array.getElem?_setIfInBounds,if_neg (by omega),Array.getElem?_setIfInBounds,if_neg (by omega),Array.getElem?_setIfInBounds,if_neg (by omega)];exact hZ.var v h1 h2
theorem Zr2:(prog.info? 3).map (λ i=>(i.zero,i.size,i.bytes))=some (some (.int .i64 0),1,8):=by kernel_rfl
theorem Zfi (n i:Nat) (h:i<n):(madeCells #[Value.int .i64 0] n)[i]? = some (.int .i64 0):=by
 simp [madeCells,h,Nat.mod_one]
theorem at_ar {b:Nat} (h:Sg n w b L) (x:Int):Calls prog 128 #[.pointer (some ⟨b,0,none⟩),.int .i64 x] w λ e w' => ∃ s d c,e=.returned (.tuple #[.agg #[.string s,.int .i64 ((arN L x:Nat):Int),.bool d],.int .i64 c])∧Za w w' := by
 obtain ⟨⟨sv,mr,h1,_⟩,ha⟩:=h
 by_cases hx:x<0∨(L.length:Int)<=x
 ·refine (Zu3 h1 x hx).mono ?_
  rintro e w' ⟨rfl,hk⟩;exact ⟨_,_,_,by rw [Zwk hx];rfl,hk⟩
 ·obtain ⟨i,rfl⟩:∃ i:Nat,x=(i:Int):=⟨x.toNat,by omega⟩
  have hi:i<L.length:=by omega
  refine (Zn4 h1 i hi).mono ?_;rintro e w' ⟨rfl,hk⟩;exact ⟨_,_,_,by rw [Zrs ha hi],hk⟩
structure JJ (w0:World) (B:JB) (w:World) (xs:List Int) (M:Nat) (nx:Int->Int) (en sa:Nat->Int):Prop where
 head:Zep w B xs.length M nx
 row:w.ownsRow w0.heap.size 3 1 (.slice (some ⟨B.lb,0,none⟩) xs.length M) xs.length (iv xs)
 cap:B.lcap=M
 ends:Kd w B.eb M en
 same:Kd w B.sb M sa
 sizes:Kd w B.zb M (λ _=>0)
 ap:B.Apart
 ap2:B.eb≠B.lb
 new:∀ k,B.Foot k->w0.heap.size<=k
 kept:Za w0 w
theorem JJ.same0 {B:JB} (h:JJ w0 B w xs M nx en sa) (hk:Za w w'):JJ w0 B w' xs M nx en sa:=
 ⟨h.head.kept hk (λ f=>f),hk.row h.row (λ _ _ f=>f),h.cap,h.ends.kept hk (λ f=>f),h.same.kept hk (λ f=>f),h.sizes.kept hk (λ f=>f),h.ap,h.ap2,h.new,h.kept.trans' hk⟩
theorem Zep.set0 {B:JB} (h:Zep w B N M nx) (N' : Nat):Zep (w.setCell ⟨B.jb,0,none⟩ (.slice (some ⟨B.lb,0,none⟩) N' B.lcap)) B N' M nx:=by
 obtain ⟨cs,g1,g2,g3,g4,g5,g6,g7⟩:=h;refine ⟨_,Zt g1 _ _,by simpa using g2,?_,?_,?_,?_,?_⟩
 ·rw [Array.getElem?_setIfInBounds,if_pos rfl,if_pos (by omega)]
 ·rw [Array.getElem?_setIfInBounds,if_neg (by omega)];exact g4
 ·intro k hk1 hk2
  rw [Array.getElem?_setIfInBounds,if_neg (by omega)];exact g5 k hk1 hk2
 ·rw [Array.getElem?_setIfInBounds,if_neg (by omega)];exact g6
 ·rw [Array.getElem?_setIfInBounds,if_neg (by omega)];exact g7
theorem Zep.setNo {B:JB} (h:Zep w B N M nx) (x:Value):Zep (w.setCell ⟨B.jb,2,none⟩ x) B N M nx:=by
 obtain ⟨cs,g1,g2,g3,g4,g5,g6,g7⟩:=h;refine ⟨_,Zt g1 _ _,by simpa using g2,?_,?_,?_,?_,?_⟩
 ·rw [Array.getElem?_setIfInBounds,if_neg (by omega)];exact g3
 ·rw [Array.getElem?_setIfInBounds,if_neg (by omega)];exact g4
 ·intro k hk1 hk2
  rw [Array.getElem?_setIfInBounds,if_neg (by omega)];exact g5 k hk1 hk2
 ·rw [Array.getElem?_setIfInBounds,if_neg (by omega)];exact g6
 ·rw [Array.getElem?_setIfInBounds,if_neg (by omega)];exact g7
theorem Zv6 (hZ:ZOk Z) (w:World) (B:JB) (M:Nat) (hj:B.jb=w.heap.size) (hc:B.lcap=M):Zep (w.alloc (.cells (JZ Z (.slice (some ⟨B.lb,0,none⟩) 0 M) (.slice (some ⟨B.eb,0,none⟩) M M) (.slice (some ⟨B.sb,0,none⟩) M M) (.slice (some ⟨B.zb,0,none⟩) M M)) 359)) B 0 M (λ _=>0):=by
 refine ⟨_,by rw [hj];exact heap_alloc_new _ _,Zdt hZ _ _ _ _,?_,?_,?_,?_,?_⟩
 ·rw [hc];exact JZ_0 hZ _ _ _ _
 ·exact JZ_1 hZ _ _ _ _
 ·exact λ v h1 h2=>JZ_v hZ _ _ _ _ h1 h2
 ·exact JZ_201 hZ _ _ _ _
 ·exact JZ_202 hZ _ _ _ _
theorem JJ.grow {B:JB} {w1:World} {ys:List Int} (h:JJ w0 B w xs M nx en sa) (hk:Zc (λ k=>k=B.lb) w w1) (hr:w1.ownsRow w0.heap.size 3 1 (.slice (some ⟨B.lb,0,none⟩) (xs++ys).length M) (xs++ys).length (iv (xs++ys))):JJ w0 B (w1.setCell ⟨B.jb,0,none⟩ (.slice (some ⟨B.lb,0,none⟩) (xs++ys).length M)) (xs++ys) M nx en sa:=by
 have hk2:Zc (λ k=>k=B.jb) w1 (w1.setCell ⟨B.jb,0,none⟩ (.slice (some ⟨B.lb,0,none⟩) (xs++ys).length M)):=Zc.setCell (S:=λ k=>k=B.jb) (p:=⟨B.jb,0,none⟩) (Zc.refl _ _) (λ _=>rfl) _;have ap:=h.ap;have hh:=(h.head.kept hk ap.a1).set0 (xs++ys).length;rw [h.cap] at hh;refine ⟨hh,hk2.row hr (λ k e f=>by simp [Value.ownBlock] at e;exact ap.a1 (by omega)),h.cap,(h.ends.kept hk h.ap2).kept hk2 (λ e=>ap.a2 e.symm),(h.same.kept hk ap.a5).kept hk2 (λ e=>ap.a3 e.symm),(h.sizes.kept hk ap.a8).kept hk2 (λ e=>ap.a4 e.symm),ap,h.ap2,h.new,?_⟩;have k1:Za w0 w1:=h.kept.trans hk (λ i hi e=>by have:=h.new B.lb (.inr (.inl rfl));omega);exact k1.trans hk2 (λ i hi e=>by have:=h.new B.jb (.inl rfl);omega)
theorem JJ.stand {B:JB} (h:JJ w0 B w xs M nx en sa) {v:Nat} (hv:v<199) (x:Int):JJ w0 B (w.setCell ⟨B.jb,2+v,none⟩ (.int .i64 x)) xs M (λ y=>if y = -(v:Int) then x else nx y) en sa:=by
 have hk2:Zc (λ k=>k=B.jb) w (w.setCell ⟨B.jb,2+v,none⟩ (.int .i64 x)):=Zc.setCell (S:=λ k=>k=B.jb) (p:=⟨B.jb,2+v,none⟩) (Zc.refl _ _) (λ _=>rfl) _;have ap:=h.ap
 have hh:Zep (w.setCell ⟨B.jb,2+v,none⟩ (.int .i64 x)) B xs.length M (λ y=>if y = -(v:Int) then x else nx y):=by
  by_cases h0:v=0
  ·subst h0
   exact (h.head.setNo _).congr (λ u h1 h2=>by rw [if_neg (by omega)])
  ·exact h.head.set (by omega) hv x
 exact ⟨hh,hk2.row h.row (λ k e f=>by simp [Value.ownBlock] at e;exact ap.a1 (by omega)),h.cap,h.ends.kept hk2 (λ e=>ap.a2 e.symm),h.same.kept hk2 (λ e=>ap.a3 e.symm),h.sizes.kept hk2 (λ e=>ap.a4 e.symm),ap,h.ap2,h.new,h.kept.trans hk2 (λ i hi e=>by have:=h.new B.jb (.inl rfl);omega)⟩
theorem JJ.setSame {B:JB} (h:JJ w0 B w xs M nx en sa) (i:Nat) (x:Int):JJ w0 B (w.setCell ⟨B.sb,i,none⟩ (.int .i64 x)) xs M nx en (λ k=>if k=i then x else sa k):=by
 have hk2:Zc (λ k=>k=B.sb) w (w.setCell ⟨B.sb,i,none⟩ (.int .i64 x)):=Zc.setCell (S:=λ k=>k=B.sb) (p:=⟨B.sb,i,none⟩) (Zc.refl _ _) (λ _=>rfl) _;have ap:=h.ap;exact ⟨h.head.kept hk2 ap.a3,hk2.row h.row (λ k e f=>by simp [Value.ownBlock] at e;exact ap.a5 (by omega)),h.cap,h.ends.kept hk2 (λ e=>ap.a6 e.symm),h.same.set i x,h.sizes.kept hk2 (λ e=>ap.a7 e.symm),ap,h.ap2,h.new,h.kept.trans hk2 (λ i hi e=>by have:=h.new B.sb (.inr (.inr (.inr (.inl rfl))));omega)⟩
theorem JJ.setEnd {B:JB} (h:JJ w0 B w xs M nx en sa) (i:Nat) (x:Int):JJ w0 B (w.setCell ⟨B.eb,i,none⟩ (.int .i64 x)) xs M nx (λ k=>if k=i then x else en k) sa:=by
 have hk2:Zc (λ k=>k=B.eb) w (w.setCell ⟨B.eb,i,none⟩ (.int .i64 x)):=Zc.setCell (S:=λ k=>k=B.eb) (p:=⟨B.eb,i,none⟩) (Zc.refl _ _) (λ _=>rfl) _;have ap:=h.ap;exact ⟨h.head.kept hk2 ap.a2,hk2.row h.row (λ k e f=>by simp [Value.ownBlock] at e;exact h.ap2 (by omega)),h.cap,h.ends.set i x,h.same.kept hk2 ap.a6,h.sizes.kept hk2 ap.a9,ap,h.ap2,h.new,h.kept.trans hk2 (λ i hi e=>by have:=h.new B.eb (.inr (.inr (.inl rfl)));omega)⟩
theorem JJ.congr {B:JB} {ny:Int->Int} {en' sa':Nat->Int} (h:JJ w0 B w xs M nx en sa) (e1:∀ v:Nat,1<=v->v<199->nx (-(v:Int))=ny (-(v:Int))) (e2:∀ i,i<M->en i=en' i) (e3:∀ i,i<M->sa i=sa' i):JJ w0 B w xs M ny en' sa' :=
 ⟨h.head.congr e1,h.row,h.cap,h.ends.congr e2,h.same.congr e3,h.sizes,h.ap,h.ap2,h.new,h.kept⟩
theorem Zwr (w:World) (n:Nat):Kd (w.alloc (.cells (madeCells #[.int .i64 0] n) 3)) w.heap.size n (λ _=>0):=
 ⟨_,_,heap_alloc_new _ _,by rw [size_madeCells];exact Nat.le_refl _,λ i hi=>Zfi n i hi⟩
theorem jj_new (hZ:ZOk Z) (M h p1 p2 p3 p4:Nat) (hh:h=w0.heap.size) (hM:M<=maxLen) (q1:h<=p1∧p1<=h+3) (q2:h<=p2∧p2<=h+3) (q3:h<=p3∧p3<=h+3) (q4:h<=p4∧p4<=h+3) (d:p1≠p2∧p1≠p3∧p1≠p4∧p2≠p3∧p2≠p4∧p3≠p4) (n:Nat) :
  JJ w0 ⟨h+4,p1,p2,p3,p4,M⟩ ((((((w0.alloc (.cells (madeCells #[.int .i64 0] M) 3)).alloc (.cells (madeCells #[.int .i64 0] M) 3)).alloc (.cells (madeCells #[.int .i64 0] M) 3)).alloc (.cells (madeCells #[.int .i64 0] M) 3)).alloc (.cells (JZ Z (.slice (some ⟨p1,0,none⟩) 0 M) (.slice (some ⟨p2,0,none⟩) M M) (.slice (some ⟨p3,0,none⟩) M M) (.slice (some ⟨p4,0,none⟩) M M)) 359)).drewN n) [] M (λ _=>0) (λ _=>0) (λ _=>0):=by
 subst hh;obtain ⟨w1,e1⟩:∃ w1,w1=w0.alloc (.cells (madeCells #[.int .i64 0] M) 3):=⟨_,rfl⟩;obtain ⟨w2,e2⟩:∃ w2,w2=w1.alloc (.cells (madeCells #[.int .i64 0] M) 3):=⟨_,rfl⟩;obtain ⟨w3,e3⟩:∃ w3,w3=w2.alloc (.cells (madeCells #[.int .i64 0] M) 3):=⟨_,rfl⟩;obtain ⟨w4,e4⟩:∃ w4,w4=w3.alloc (.cells (madeCells #[.int .i64 0] M) 3):=⟨_,rfl⟩;rw [<- e1,<- e2,<- e3,<- e4];have z1:w1.heap.size=w0.heap.size+1:=by rw [e1,World.size_alloc]
 have z2:w2.heap.size=w0.heap.size+2:=by rw [e2,World.size_alloc,z1]
 have z3:w3.heap.size=w0.heap.size+3:=by rw [e3,World.size_alloc,z2]
 have z4:w4.heap.size=w0.heap.size+4:=by rw [e4,World.size_alloc,z3]
 have k1:Za w0 w1:=by rw [e1];exact (Zc.refl _ w0).alloc _
 have k2:Za w1 w2:=by rw [e2];exact (Zc.refl _ w1).alloc _
 have k3:Za w2 w3:=by rw [e3];exact (Zc.refl _ w2).alloc _
 have k4:Za w3 w4:=by rw [e4];exact (Zc.refl _ w3).alloc _
 have b1:w4.heap[w0.heap.size]? = some (.cells (madeCells #[.int .i64 0] M) 3 (0,0)):=((k2.trans' k3).trans' k4).at0 (by rw [e1];exact heap_alloc_new _ _);have b2:w4.heap[w0.heap.size+1]? = some (.cells (madeCells #[.int .i64 0] M) 3 (0,0)):=(k3.trans' k4).at0 (by rw [<- z1,e2];exact heap_alloc_new _ _);have b3:w4.heap[w0.heap.size+2]? = some (.cells (madeCells #[.int .i64 0] M) 3 (0,0)):=k4.at0 (by rw [<- z2,e3];exact heap_alloc_new _ _);have b4:w4.heap[w0.heap.size+3]? = some (.cells (madeCells #[.int .i64 0] M) 3 (0,0)):=by rw [<- z3,e4];exact heap_alloc_new _ _
 have ball:∀ p,w0.heap.size<=p->p<=w0.heap.size+3->w4.heap[p]? = some (.cells (madeCells #[.int .i64 0] M) 3 (0,0)):=by
  intro p h1 h2
  rcases (show p=w0.heap.size∨p=w0.heap.size+1∨p=w0.heap.size+2∨p=w0.heap.size+3 by omega) with e | e | e | e <;> rw [e] <;> assumption
 have hd:=Zv6 hZ w4 ⟨w0.heap.size+4,p1,p2,p3,p4,M⟩ M z4.symm rfl;obtain ⟨w5,e5⟩:∃ w5,w5=w4.alloc (.cells (JZ Z (.slice (some ⟨p1,0,none⟩) 0 M) (.slice (some ⟨p2,0,none⟩) M M) (.slice (some ⟨p3,0,none⟩) M M) (.slice (some ⟨p4,0,none⟩) M M)) 359):=⟨_,rfl⟩;simp only at hd;rw [<- e5] at hd ⊢;have k5:Za w4 w5:=by rw [e5];exact (Zc.refl _ w4).alloc _
 have K:Za w0 w5:=(((k1.trans' k2).trans' k3).trans' k4).trans' k5;have ball5:∀ p,w0.heap.size<=p->p<=w0.heap.size+3->Kd w5 p M (λ _=>0):=λ p h1 h2=>⟨_,_,k5.at0 (ball p h1 h2),by rw [size_madeCells];exact Nat.le_refl _,λ i hi=>Zfi M i hi⟩
 have J5:JJ w0 ⟨w0.heap.size+4,p1,p2,p3,p4,M⟩ w5 [] M (λ _=>0) (λ _=>0) (λ _=>0):=by
  refine ⟨hd,⟨rfl,.inr ⟨p1,M,_,rfl,q1.1,k5.at0 (ball p1 q1.1 q1.2),Nat.zero_le _,hM,by rw [size_madeCells];omega,rfl⟩⟩,rfl,ball5 p2 q2.1 q2.2,ball5 p3 q3.1 q3.2,ball5 p4 q4.1 q4.2,⟨?_,?_,?_,?_,?_,?_,?_,?_,?_⟩,?_,?_,K⟩
  all_goals try (simp only;omega)
  intro k hk;simp only [JB.Foot] at hk;omega
 exact J5.same0 ((Zc.refl _ w5).drewN n)
end
section
open Go.RowKit
attribute [local go_sem ↓] Go.wp_at_zero Go.wp_at_succ
def JMade (w:World) (L:List Sym) (J:List Int) (e:Ending) (w' : World):Prop:=∃ B,e=.returned (.pointer (some ⟨B.jb,0,none⟩))∧JJ w B w' J J.length (λ x=>x) (λ i=>(Zj L J i:Int)) (λ i=>ld0 J i)
theorem Zqr {k p q i:Nat} (h:Zs L t k p q) (hi:i<=k):p<=past L t i p:=by
 cases i with
 | zero=>exact Nat.le_refl _
 | succ i=>
  have h1:=Zbf h (i:=0) (j:=i+1) (by omega) hi;cases k with
  | zero=>omega
  | succ k=>
   have:=h.succ.2.1;simp only [past] at h1;exact Nat.le_trans (Nat.le_of_lt this) h1
theorem Zue {b:Nat} (h:Sg w.heap.size w b L) {xo yo:Option Addr} {xc yc:Nat} {x y:List Int} (hx:Zh w xo x) (hy:Zh w yo y) (tx:IsT L x) (ty:IsT L y) (hxl:x.length<=2000) (hyl:y.length<=2000) (hyv:∀ z∈y, -99<=z) (hap:ap<=99) :
  Calls prog 235 #[.pointer (some ⟨b,0,none⟩),.slice xo x.length xc,.slice yo y.length yc,.int .i64 (ap:Int)] w (JMade w L (jl x y ap)):=by
 obtain ⟨i0,hi0,hz0,hz1,hz2⟩:=info_parts Zr2;obtain ⟨n,hn⟩:∃ n,x.length+y.length=n:=⟨_,rfl⟩
 have hm0:∀ w:World,(Instr.makeSlice 74 (.int .i64 0) (.int .i64 (n:Int))).run prog w=.ok (.slice (some ⟨w.heap.size,0,none⟩) 0 n) (w.alloc (.cells (madeCells #[.int .i64 0] n) 3)):=λ w=>by
  have:=run_make w 74 3 i0 _ underlying74 hi0 hz0 .i64 .i64 0 (n:Int) (by omega) (by omega) (by rw [hz2];omega) (by omega)
  simpa [hz1,Value.cells] using this
 have hm1:∀ w:World,(Instr.makeSlice 51 (.int .i64 (n:Int)) (.int .i64 (n:Int))).run prog w=.ok (.slice (some ⟨w.heap.size,0,none⟩) n n) (w.alloc (.cells (madeCells #[.int .i64 0] n) 3)):=λ w=>by
  have:=run_make w 51 3 i0 _ underlying51 hi0 hz0 .i64 .i64 (n:Int) (n:Int) (by omega) (by omega) (by rw [hz2];omega) (by omega)
  simpa [hz1,Value.cells] using this
 have hn1:(x.length:Int)+(y.length:Int)=(n:Int):=by omega
 have hnM:n<=maxLen:=by unfold maxLen;omega
 have hxi:(x.length:Int)<=2000:=by omega
 have hyi:(y.length:Int)<=2000:=by omega
 have HX:Hid (x.length+y.length=n∧IsT L x∧IsT L y):=⟨hn,tx,ty⟩;clear hn tx ty;obtain ⟨Z,hz⟩:∃ Z,Tryz.zeroCells359=Z:=⟨_,rfl⟩;have hZ:ZOk Z:=hz ▸ Zrv;have hzs:Z.size=203:=hZ.size;have hzn:¬ Z = #[]:=λ e=>by rw [e] at hzs;simp at hzs
 go_enter func235,ntmps235
 go_upto_region 2 with fail
 go_cut [10] from 23 to 32 (λ s10 wc=>∃ B,s10=.pointer (some ⟨B.jb,0,none⟩)∧JJ w B wc [] n (λ _=>0) (λ _=>0) (λ _=>0))
 case first=>
  clear h hx hy hyv HX
  go_region
  all_goals
   go_wp2_with fail
   go_meet;refine ⟨_,?_,jj_new hZ n w.heap.size _ _ _ _ rfl hnM (by omega) (by omega) (by omega) (by omega) (by omega) 1⟩;rfl
 case rest=>
  obtain ⟨B,rfl,hJ⟩:=hcut;clear hm0 hm1 hz hZ hzs hzn;have hw:=hJ.row;obtain ⟨c0, -, -, -,c4⟩:=hJ.head.cells;rw [hJ.cap] at c0;have f0:wc.frozen? ⟨B.jb,0,none⟩=false:=by obtain ⟨cs,g1, -⟩:=hJ.head;exact Zg g1 _
  obtain ⟨bx,ox,rfl, -⟩:=(hx.same hJ.kept).get (i:=0) (Z2 HX.out.2.1)
  have hcx:Hid (∀ j u,(iv x)[j]? = some u->wc.cell? ((⟨bx,ox,none⟩:Addr).add j)=some u):=by
   intro j u hu
   have hj:j<x.length:=by
    have:=(List.getElem?_eq_some_iff.1 hu).1
    rwa [Ye] at this
   obtain ⟨b', off', e1,_,e3⟩:=(hx.same hJ.kept).get (i:=j) hj;simp only [Option.some.injEq,Addr.mk.injEq,and_true] at e1;obtain ⟨rfl,rfl⟩:=e1;rw [Zbt hj] at hu;cases hu;have hadd:(⟨bx,ox,none⟩:Addr).add j=⟨bx,ox+j,none⟩:=by unfold Addr.add;split <;> simp_all
   rw [hadd];exact e3
  have hJ1:Hid (∀ w1,w1.ownsRow w.heap.size 3 1 (.slice (some ⟨B.lb,0,none⟩) (0+x.length) n) (0+x.length) ([]++iv x)->wc.grownBy w1 (some B.lb)->JJ w B (w1.setCell ⟨B.jb,0,none⟩ (.slice (some ⟨B.lb,0,none⟩) x.length n)) x n (λ _=>0) (λ _=>0) (λ _=>0)∧w1.cell? ⟨B.jb,0,none⟩=some (.slice (some ⟨B.lb,0,none⟩) 0 n)∧w1.frozen? ⟨B.jb,0,none⟩=false):=by
   intro w1 h1 h2;have kg:Zc (λ k=>k=B.lb) wc w1:=Zc.grown (Zc.refl _ wc) h2 (λ k e _=>by simpa using e.symm);have:=hJ.grow (ys:=x) kg (by simpa using h1);have hh:=hJ.head.kept kg hJ.ap.a1;have h0:=hh.cells.1;rw [hJ.cap] at h0;refine ⟨by simpa using this,h0,?_⟩;obtain ⟨cs,g1, -⟩:=hh;exact Zg g1 _
  have hfit:0+x.length<=n:=by have:=HX.out.1;omega
  clear hJ
  go_upto_region 4 with (at_builtin;refine wpList_append_fits _ rfl _ _ 74 rfl w.heap.size 3 i0 1 underlying74 hi0 hz1 B.lb 0 n [] rfl hw ⟨bx,ox,none⟩ x.length xc (iv x) rfl (by rw [Ye];omega) hcx.out (λ u hu=>by simp [iv] at hu;obtain ⟨z,_,rfl⟩:=hu;rfl) hfit ?_;intro w1 hown hgrow;obtain ⟨hJ2,k0,k1⟩:=hJ1.out w1 hown hgrow)
  obtain ⟨w2,hw2⟩:∃ w2,w1.setCell ⟨B.jb,0,none⟩ (.slice (some ⟨B.lb,0,none⟩) x.length n)=w2:=⟨_,rfl⟩;rw [hw2] at hJ2 ⊢;clear hw2 hJ1 hcx hown hgrow k0 k1 c0 f0 c4 hw hfit hx
  go_wp2_with fail
  go_loopw [44] (λ s44 wr=>∃ k:Nat,s44=.int .i64 (k:Int)∧k<=y.length∧JJ w B wr (x++(y.take k).map (shF ap)) n (λ _=>0) (λ _=>0) (λ _=>0)) (λ s44 _=>y.length-(intOf s44).toNat)
  case atStart=>exact ⟨0,rfl,by omega,by simpa using hJ2⟩
  case round=>
   clear hJ2;obtain ⟨k,rfl,hk,hJ2⟩:=hrel
   by_cases hkl:k<y.length
   ·obtain ⟨b', off', rfl,hb1,hb2⟩:=(hy.same hJ2.kept).get (i:=k) hkl
    have k1:(0:Int)<=(k:Int):=by omega
    have k2:(k:Int)<(y.length:Int):=by omega
    obtain ⟨z,hz⟩:∃ z,y[k]=z:=⟨_,rfl⟩;have hzv : -99<=z:=by rw [<- hz];exact hyv _ (List.getElem_mem _)
    rw [hz] at hb2;have hapi:(ap:Int)<=99:=by omega
    have hap0:(0:Int)<=(ap:Int):=by omega
    have htk:(y.take (k+1)).map (shF ap)=(y.take k).map (shF ap) ++ [shF ap z]:=by
     rw [List.take_add_one,List.getElem?_eq_getElem hkl,hz];simp
    have hJ3:Hid (∀ w3,w3.ownsRow w.heap.size 3 1 (.slice (some ⟨B.lb,0,none⟩) ((x++(y.take k).map (shF ap)).length+1) n) ((x++(y.take k).map (shF ap)).length+1) (iv (x++(y.take k).map (shF ap)) ++ [.int .i64 (shF ap z)])->(wr.alloc (.cells #[.int .i64 (shF ap z)] 3)).grownBy w3 (some B.lb)->JJ w B (w3.setCell ⟨B.jb,0,none⟩ (.slice (some ⟨B.lb,0,none⟩) ((x++(y.take k).map (shF ap)).length+1) n)) (x++(y.take (k+1)).map (shF ap)) n (λ _=>0) (λ _=>0) (λ _=>0)∧w3.cell? ⟨B.jb,0,none⟩=some (.slice (some ⟨B.lb,0,none⟩) (x++(y.take k).map (shF ap)).length n)∧w3.frozen? ⟨B.jb,0,none⟩=false):=by
     intro w3 h1 h2;have kg:Zc (λ k=>k=B.lb) wr w3:=Zc.grown (Zc.alloc (Zc.refl _ wr) _) h2 (λ k e _=>by simpa using e.symm);have hh:=hJ2.head.kept kg hJ2.ap.a1;have h0:=hh.cells.1;rw [hJ2.cap] at h0;have e1:x++(y.take (k+1)).map (shF ap)=(x++(y.take k).map (shF ap)) ++ [shF ap z]:=by rw [htk,List.append_assoc]
     have e2:(x++(y.take (k+1)).map (shF ap)).length=(x++(y.take k).map (shF ap)).length+1:=by rw [e1,List.length_append];rfl
     have:=hJ2.grow (ys:=[shF ap z]) kg (by rw [<- e1,e2,e1,Xz];exact h1);rw [<- e1,e2] at this;refine ⟨this,h0,?_⟩;obtain ⟨cs,g1, -⟩:=hh;exact Zg g1 _
    have hw:=hJ2.row;obtain ⟨c0, -, -, -,c4⟩:=hJ2.head.cells;rw [hJ2.cap] at c0;have f0:wr.frozen? ⟨B.jb,0,none⟩=false:=by obtain ⟨cs,g1, -⟩:=hJ2.head;exact Zg g1 _
    obtain ⟨l,hl⟩:∃ l,(x++(y.take k).map (shF ap)).length=l:=⟨_,rfl⟩;have hl2:l=x.length+k:=by rw [<- hl];simp;omega
    have hfit:l+1<=n:=by have:=HX.out.1;omega
    have hli:(l:Int)<5000:=by omega
    rw [hl] at c0 hw hJ3;clear hJ2 hz htk hyv hl hl2
    by_cases hzn:z<0
    ·have hs:shF ap z=z-(ap:Int):=by unfold shF;rw [if_pos hzn]
     rw [hs] at hJ3
     go_wp2_with (at_builtin;refine wpList_append_fits _ rfl _ _ 74 rfl w.heap.size 3 i0 1 underlying74 hi0 hz1 B.lb l n (iv (x++(y.take k).map (shF ap))) rfl (hw.alloc _) ⟨wr.heap.size,0,none⟩ 1 1 [.int .i64 (z-(ap:Int))] rfl rfl (World.news_of_block (cs:=#[.int .i64 (z-(ap:Int))]) (t:=3) (fr:=(0,0)) (heap_alloc_new wr _)) (by simp [Value.oneCell']) hfit ?_;intro w3 hown hgrow;obtain ⟨hJ4,q0,q1⟩:=hJ3.out w3 hown hgrow)
     go_roundw
     case rel=>exact ⟨k+1,by go_num,by omega,hJ4⟩
     case measure=>simp [intOf];omega
    ·have hs:shF ap z=z:=by unfold shF;rw [if_neg hzn]
     rw [hs] at hJ3
     go_wp2_with (at_builtin;refine wpList_append_fits _ rfl _ _ 74 rfl w.heap.size 3 i0 1 underlying74 hi0 hz1 B.lb l n (iv (x++(y.take k).map (shF ap))) rfl (hw.alloc _) ⟨wr.heap.size,0,none⟩ 1 1 [.int .i64 z] rfl rfl (World.news_of_block (cs:=#[.int .i64 z]) (t:=3) (fr:=(0,0)) (heap_alloc_new wr _)) (by simp [Value.oneCell']) hfit ?_;intro w3 hown hgrow;obtain ⟨hJ4,q0,q1⟩:=hJ3.out w3 hown hgrow)
     go_roundw
     case rel=>exact ⟨k+1,by go_num,by omega,hJ4⟩
     case measure=>simp [intOf];omega
   ·obtain rfl:k=y.length:=by omega
    have k2:¬ (y.length:Int)<(y.length:Int):=by omega
    rw [List.take_length] at hJ2;clear hyv hkl
    go_wp2_with fail
    go_loopw [64] (λ s64 wr=>∃ k:Nat,s64=.int .i64 (k:Int)∧k<=199∧JJ w B wr (x++y.map (shF ap)) n (λ z=>if -(k:Int)<z then z else 0) (λ _=>0) (λ _=>0)) (λ s64 _=>199-(intOf s64).toNat)
    case atStart=>exact ⟨0,rfl,by omega,hJ2.congr (λ v h1 h2=>by rw [if_neg (by omega)]) (λ _ _=>rfl) (λ _ _=>rfl)⟩
    case round=>
     clear hJ2;obtain ⟨k,rfl,hk,hJ2⟩:=hrel
     by_cases hkl:k<199
     ·have k1:(0:Int)<=(k:Int):=by omega
      have k2:(k:Int)<199:=by omega
      have hJ3:=hJ2.stand hkl (-(k:Int))
      have hJ4:JJ w B (wr.setCell ⟨B.jb,2+k,none⟩ (.int .i64 (-(k:Int)))) (x++y.map (shF ap)) n (λ z=>if -((k+1:Nat):Int)<z then z else 0) (λ _=>0) (λ _=>0):=by
       refine hJ3.congr (λ v h1 h2=>?_) (λ _ _=>rfl) (λ _ _=>rfl)
       by_cases e:v=k
       ·subst e;rw [if_pos rfl,if_pos (by omega)]
       ·rw [if_neg (by omega)]
        by_cases e2:v<k
        ·rw [if_pos (by omega),if_pos (by omega)]
        ·rw [if_neg (by omega),if_neg (by omega)]
      obtain ⟨q1,q2⟩:(∃ u,wr.cell? ⟨B.jb,2+k,none⟩=some u)∧wr.frozen? ⟨B.jb,2+k,none⟩=false:=by
       obtain ⟨cs,g1,g2, -⟩:=hJ2.head;exact ⟨⟨cs[2+k]'(by omega),by rw [Zb g1];exact Array.getElem?_eq_getElem _⟩,Zg g1 _⟩
      obtain ⟨u,q1⟩:=q1;have c4:=hJ2.head.cells.2.2.2.2;clear hJ2 hJ3
      go_wp2_with fail
      go_roundw
      case rel=>exact ⟨k+1,by go_num,by omega,hJ4⟩
      case measure=>simp [intOf];omega
     ·obtain rfl:k=199:=by omega
      clear hkl hk;have hJ5:JJ w B wr (x++y.map (shF ap)) n (λ z=>z) (λ _=>0) (λ _=>0):=hJ2.congr (λ v h1 h2=>by rw [if_pos (by omega)]) (λ _ _=>rfl) (λ _ _=>rfl);clear hJ2;obtain ⟨J,hJJ⟩:∃ J,jl x y ap=J:=⟨_,rfl⟩;have hlen:J.length=n:=by rw [<- hJJ];simp [jl];exact HX.out.1
      have hTr:Hid (Trs L J):=by rw [<- hJJ];exact Zcq (by omega) HX.out.2.1 HX.out.2.2
      have hJ6:JJ w B wr J n (λ z=>z) (λ _=>0) (λ _=>0):=by rw [<- hJJ];exact hJ5
      have HJ:Hid (jl x y ap=J):=hJJ;have hni:(n:Int)<=4000:=by omega
      clear hJ5 hJJ HX hy hn1
      go_wp2_with fail
      go_loopw [14] (λ s14 wr=>∃ m:Nat,s14=.int .i64 ((m:Int)-1)∧m<=n∧JJ w B wr J n (λ z=>z) (λ i=>if m<=i then (Zj L J i:Int) else 0) (λ i=>if m<=i then ld0 J i else 0)) (λ s14 _=>(intOf s14+1).toNat)
      case atStart=>exact ⟨n,rfl,by omega,hJ6.congr (λ _ _ _=>rfl) (λ i hi=>by rw [if_neg (by omega)]) (λ i hi=>by rw [if_neg (by omega)])⟩
      case round=>
       clear hJ6;obtain ⟨m,rfl,hm,hJ6⟩:=hrel;cases m with
       | zero=>
        have fin:JMade w L (jl x y ap) (.returned (.pointer (some ⟨B.jb,0,none⟩))) wr:=by
         rw [HJ.out];refine ⟨B,rfl,?_⟩;rw [hlen];exact hJ6.congr (λ _ _ _=>rfl) (λ i hi=>by rw [if_pos (by omega)]) (λ i hi=>by rw [if_pos (by omega)])
        clear hJ6
        go_wp2_with fail
        go_returns
        exact fin
       | succ t=>
        have htl:t<n:=by omega
        have htJ:t<J.length:=by omega
        obtain ⟨z,hz⟩:∃ z,J[t]=z:=⟨_,rfl⟩;have ez:(((t+1:Nat):Int)-1)=(t:Int):=by omega
        rw [ez];have k1:(0:Int)<=(t:Int):=by omega
        have k2:(t:Int)<(n:Int):=by omega
        have k3:(t:Int)<4000:=by omega
        obtain ⟨c0,c1,c2,c3,c4⟩:=hJ6.head.cells;rw [hJ6.cap] at c0;obtain ⟨s0,s1⟩:=hJ6.same.cell htl;have hJ7:=hJ6.setSame t (t:Int);clear hJ6 ez
        go_upto_region 20 with fail
        obtain ⟨w3,hw3⟩:∃ w3,wr.setCell ⟨B.sb,t,none⟩ (.int .i64 (t:Int))=w3:=⟨_,rfl⟩;rw [hw3] at hJ7 ⊢;clear hw3 c0 c1 c2 c3 c4 s0 s1;obtain ⟨c0,c1,c2,c3,c4⟩:=hJ7.head.cells;rw [hJ7.cap] at c0
        have dl:w3.cell? ⟨B.lb,t,none⟩=some (.int .i64 z):=by
         rw [hJ7.row.cellAt t (by rw [hlen];omega),Zbt (by omega),<- hz]
        obtain ⟨s0,s1⟩:=hJ7.same.cell htl
        by_cases hzn:z<0
        ·have hJ8:=hJ7.setSame t z
         clear hJ7
         go_upto_region 23 with fail
         obtain ⟨w4,hw4⟩:∃ w4,w3.setCell ⟨B.sb,t,none⟩ (.int .i64 z)=w4:=⟨_,rfl⟩;rw [hw4] at hJ8 ⊢
         have hJ7:JJ w B w4 J n (λ z=>z) (λ i=>if t+1<=i then (Zj L J i:Int) else 0) (λ i=>if t<=i then ld0 J i else 0):=by
          refine hJ8.congr (λ _ _ _=>rfl) (λ _ _=>rfl) (λ i hi=>?_)
          by_cases e:i=t
          ·subst e
           rw [if_pos rfl,if_pos (Nat.le_refl _)];unfold ld0;rw [Yl J i htJ,hz,if_pos ⟨by omega,hzn⟩]
          ·rw [if_neg e,if_neg e]
           by_cases e2:t+1<=i
           ·rw [if_pos e2,if_pos (by omega)]
           ·rw [if_neg e2,if_neg (by omega)]
         clear hJ8 hw4 c0 c1 c2 c3 c4 s0 s1 dl;have ce0:=hJ7.head.cells;obtain ⟨d0,d1,d2,d3,d4⟩:=ce0;rw [hJ7.cap] at d0
         have dl:w4.cell? ⟨B.lb,t,none⟩=some (.int .i64 z):=by
          rw [hJ7.row.cellAt t (by rw [hlen];omega),Zbt (by omega),<- hz]
         have cA:=at_ar (h.same hJ7.kept) z;obtain ⟨A,hA⟩:∃ A,arN L z=A:=⟨_,rfl⟩;rw [hA] at cA;have hA6:A<=6:=by rw [<- hA];exact Vm h.2 z
         have HF:Hid (Zs L J A (t+1) (Zj L J t)):=by
          have:=hTr.out.kids (show t<J.length by omega);rw [hz,hA] at this;exact this
         go_upto_region 24 with (go_at_call 128;refine cA.mono ?_;rintro e w5 ⟨s,d,c,rfl,hk5⟩)
         have hJ8:=hJ7.same0 hk5;have hx16:=heap_alloc_new w5 (.cells #[.string s,.int .i64 (A:Int),.bool d] 60);have hJ9:=hJ8.same0 ((Zc.refl _ w5).alloc (.cells #[.string s,.int .i64 (A:Int),.bool d] 60));obtain ⟨w6,hw6⟩:∃ w6,w5.alloc (.cells #[.string s,.int .i64 (A:Int),.bool d] 60)=w6:=⟨_,rfl⟩;rw [hw6] at hJ9 hx16 ⊢;have hbe:B.eb<w5.heap.size:=hJ8.ends.lt;obtain ⟨xb,hxb⟩:∃ xb,w5.heap.size=xb:=⟨_,rfl⟩;rw [hxb] at hx16 hbe ⊢;clear hw6 hxb hJ8 hJ7 hk5 d0 d1 d2 d3 d4 dl;obtain ⟨d0,d1,d2,d3,d4⟩:=hJ9.head.cells;obtain ⟨s0,s1⟩:=hJ9.ends.cell htl;have hJ10:=hJ9.setEnd t ((t:Int)+1)
         have hx17:(w6.setCell ⟨B.eb,t,none⟩ (.int .i64 ((t:Int)+1))).heap[xb]? = some (.cells #[.string s,.int .i64 (A:Int),.bool d] 60 (0,0)):=by
          rw [Below.heap_setCell _ _ _ _ (by simp only;omega)];exact hx16
         clear hJ9 hx16
         go_upto_region 25 with fail
         obtain ⟨w7,hw7⟩:∃ w7,w6.setCell ⟨B.eb,t,none⟩ (.int .i64 ((t:Int)+1))=w7:=⟨_,rfl⟩;rw [hw7] at hJ10 hx17 ⊢;have hx18:=Zb hx17 1;simp only [List.getElem?_toArray,List.getElem?_cons_succ,List.getElem?_cons_zero] at hx18;clear hw7 d0 d1 d2 d3 d4 s0 s1 hx17;have hAi:(A:Int)<=6:=by omega
         go_wp2_with fail
         go_loopw [126] (λ s126 wr=>∃ j:Nat,s126=.int .i64 (j:Int)∧j<=A∧JJ w B wr J n (λ z=>z) (λ i=>if i=t then (past L J j (t+1):Int) else if t+1<=i then (Zj L J i:Int) else 0) (λ i=>if t<=i then ld0 J i else 0)) (λ s126 _=>A-(intOf s126).toNat)
         case atStart=>exact ⟨0,rfl,by omega,hJ10.congr (λ _ _ _=>rfl) (λ i hi=>by simp [past]) (λ _ _=>rfl)⟩
         case round=>
          clear hJ10;obtain ⟨j,rfl,hj,hJ10⟩:=hrel
          by_cases hjA:j<A
          ·have j1:(0:Int)<=(j:Int):=by omega
           have j2:(j:Int)<(A:Int):=by omega
           obtain ⟨q,hq⟩:∃ q,past L J j (t+1)=q:=⟨_,rfl⟩;have hq1:t+1<=q:=by rw [<- hq];exact Zqr HF.out hj
           have hq2:q<n:=by
            have hd:=HF.out.drop hj;obtain ⟨c,hc⟩:∃ c,A-j=c+1:=⟨A-j-1,by omega⟩;rw [hc,hq] at hd;have:=hd.pos;have:=hd.le;omega
           have hps:past L J (j+1) (t+1)=Zj L J q:=by rw [Zaf,hq]
           have e1:=(hJ10.ends.cell htl);have e2:=(hJ10.ends.cell hq2).1;rw [if_pos rfl,hq] at e1;rw [if_neg (by omega),if_pos hq1] at e2;obtain ⟨e1,e3⟩:=e1;have hJ11:=hJ10.setEnd t (Zj L J q:Int)
           have hJ12:JJ w B (wr.setCell ⟨B.eb,t,none⟩ (.int .i64 (Zj L J q:Int))) J n (λ z=>z) (λ i=>if i=t then (past L J (j+1) (t+1):Int) else if t+1<=i then (Zj L J i:Int) else 0) (λ i=>if t<=i then ld0 J i else 0):=by
            refine hJ11.congr (λ _ _ _=>rfl) (λ i hi=>?_) (λ _ _=>rfl)
            by_cases e:i=t
            ·subst e;rw [if_pos rfl,if_pos rfl,hps]
            ·rw [if_neg e,if_neg e,if_neg e]
           have hJ13:Hid (JJ w B (wr.setCell ⟨B.eb,t,none⟩ (.int .i64 (Zj L J q:Int))).drew J n (λ z=>z) (λ i=>if i=t then (past L J (j+1) (t+1):Int) else if t+1<=i then (Zj L J i:Int) else 0) (λ i=>if t<=i then ld0 J i else 0)):=hJ12.same0 ((Zc.refl _ _).drew);obtain ⟨d0,d1,d2,d3,d4⟩:=hJ10.head.cells;have q1:(0:Int)<=(q:Int):=by omega
           have q2:(q:Int)<(n:Int):=by omega
           clear hJ10 hJ11 hJ12 hq hps
           go_upto_region 27 with fail
           go_region
           all_goals
            go_wp2_with fail
            go_roundw
            case rel=>exact ⟨j+1,by go_num,by omega,hJ13.out⟩
            case measure=>simp [intOf];omega
          ·obtain rfl:j=A:=by omega
           have hfin:JJ w B wr J n (λ z=>z) (λ i=>if t<=i then (Zj L J i:Int) else 0) (λ i=>if t<=i then ld0 J i else 0):=by
            refine hJ10.congr (λ _ _ _=>rfl) (λ i hi=>?_) (λ _ _=>rfl)
            by_cases e:i=t
            ·subst e;rw [if_pos rfl,if_pos (Nat.le_refl _),HF.out.past]
            ·rw [if_neg e]
             by_cases e2:t+1<=i
             ·rw [if_pos e2,if_pos (by omega)]
             ·rw [if_neg e2,if_neg (by omega)]
           clear hJ10
           go_wp2_with fail
           go_roundw
           case rel=>exact ⟨t,by go_num,by omega,hfin⟩
           case measure=>simp [intOf]
        ·have hJ8:JJ w B w3 J n (λ z=>z) (λ i=>if t+1<=i then (Zj L J i:Int) else 0) (λ i=>if t<=i then ld0 J i else 0):=by
          refine hJ7.congr (λ _ _ _=>rfl) (λ _ _=>rfl) (λ i hi=>?_)
          by_cases e:i=t
          ·subst e
           rw [if_pos rfl,if_pos (Nat.le_refl _)];unfold ld0;rw [Yl J i htJ,hz,if_neg (by omega)]
          ·rw [if_neg e]
           by_cases e2:t+1<=i
           ·rw [if_pos e2,if_pos (by omega)]
           ·rw [if_neg e2,if_neg (by omega)]
         clear hJ7
         go_upto_region 23 with fail
         obtain ⟨w4,hw4⟩:∃ w4,w4=w3:=⟨_,rfl⟩;have hJ7:=hJ8;rw [<- hw4] at hJ7 ⊢;clear hJ8 c0 c1 c2 c3 c4 s0 s1 dl hw4;have ce0:=hJ7.head.cells;obtain ⟨d0,d1,d2,d3,d4⟩:=ce0;rw [hJ7.cap] at d0
         have dl:w4.cell? ⟨B.lb,t,none⟩=some (.int .i64 z):=by
          rw [hJ7.row.cellAt t (by rw [hlen];omega),Zbt (by omega),<- hz]
         have cA:=at_ar (h.same hJ7.kept) z;obtain ⟨A,hA⟩:∃ A,arN L z=A:=⟨_,rfl⟩;rw [hA] at cA;have hA6:A<=6:=by rw [<- hA];exact Vm h.2 z
         have HF:Hid (Zs L J A (t+1) (Zj L J t)):=by
          have:=hTr.out.kids (show t<J.length by omega);rw [hz,hA] at this;exact this
         go_upto_region 24 with (go_at_call 128;refine cA.mono ?_;rintro e w5 ⟨s,d,c,rfl,hk5⟩)
         have hJ8:=hJ7.same0 hk5;have hx16:=heap_alloc_new w5 (.cells #[.string s,.int .i64 (A:Int),.bool d] 60);have hJ9:=hJ8.same0 ((Zc.refl _ w5).alloc (.cells #[.string s,.int .i64 (A:Int),.bool d] 60));obtain ⟨w6,hw6⟩:∃ w6,w5.alloc (.cells #[.string s,.int .i64 (A:Int),.bool d] 60)=w6:=⟨_,rfl⟩;rw [hw6] at hJ9 hx16 ⊢;have hbe:B.eb<w5.heap.size:=hJ8.ends.lt;obtain ⟨xb,hxb⟩:∃ xb,w5.heap.size=xb:=⟨_,rfl⟩;rw [hxb] at hx16 hbe ⊢;clear hw6 hxb hJ8 hJ7 hk5 d0 d1 d2 d3 d4 dl;obtain ⟨d0,d1,d2,d3,d4⟩:=hJ9.head.cells;obtain ⟨s0,s1⟩:=hJ9.ends.cell htl;have hJ10:=hJ9.setEnd t ((t:Int)+1)
         have hx17:(w6.setCell ⟨B.eb,t,none⟩ (.int .i64 ((t:Int)+1))).heap[xb]? = some (.cells #[.string s,.int .i64 (A:Int),.bool d] 60 (0,0)):=by
          rw [Below.heap_setCell _ _ _ _ (by simp only;omega)];exact hx16
         clear hJ9 hx16
         go_upto_region 25 with fail
         obtain ⟨w7,hw7⟩:∃ w7,w6.setCell ⟨B.eb,t,none⟩ (.int .i64 ((t:Int)+1))=w7:=⟨_,rfl⟩;rw [hw7] at hJ10 hx17 ⊢;have hx18:=Zb hx17 1;simp only [List.getElem?_toArray,List.getElem?_cons_succ,List.getElem?_cons_zero] at hx18;clear hw7 d0 d1 d2 d3 d4 s0 s1 hx17;have hAi:(A:Int)<=6:=by omega
         go_wp2_with fail
         go_loopw [126] (λ s126 wr=>∃ j:Nat,s126=.int .i64 (j:Int)∧j<=A∧JJ w B wr J n (λ z=>z) (λ i=>if i=t then (past L J j (t+1):Int) else if t+1<=i then (Zj L J i:Int) else 0) (λ i=>if t<=i then ld0 J i else 0)) (λ s126 _=>A-(intOf s126).toNat)
         case atStart=>exact ⟨0,rfl,by omega,hJ10.congr (λ _ _ _=>rfl) (λ i hi=>by simp [past]) (λ _ _=>rfl)⟩
         case round=>
          clear hJ10;obtain ⟨j,rfl,hj,hJ10⟩:=hrel
          by_cases hjA:j<A
          ·have j1:(0:Int)<=(j:Int):=by omega
           have j2:(j:Int)<(A:Int):=by omega
           obtain ⟨q,hq⟩:∃ q,past L J j (t+1)=q:=⟨_,rfl⟩;have hq1:t+1<=q:=by rw [<- hq];exact Zqr HF.out hj
           have hq2:q<n:=by
            have hd:=HF.out.drop hj;obtain ⟨c,hc⟩:∃ c,A-j=c+1:=⟨A-j-1,by omega⟩;rw [hc,hq] at hd;have:=hd.pos;have:=hd.le;omega
           have hps:past L J (j+1) (t+1)=Zj L J q:=by rw [Zaf,hq]
           have e1:=(hJ10.ends.cell htl);have e2:=(hJ10.ends.cell hq2).1;rw [if_pos rfl,hq] at e1;rw [if_neg (by omega),if_pos hq1] at e2;obtain ⟨e1,e3⟩:=e1;have hJ11:=hJ10.setEnd t (Zj L J q:Int)
           have hJ12:JJ w B (wr.setCell ⟨B.eb,t,none⟩ (.int .i64 (Zj L J q:Int))) J n (λ z=>z) (λ i=>if i=t then (past L J (j+1) (t+1):Int) else if t+1<=i then (Zj L J i:Int) else 0) (λ i=>if t<=i then ld0 J i else 0):=by
            refine hJ11.congr (λ _ _ _=>rfl) (λ i hi=>?_) (λ _ _=>rfl)
            by_cases e:i=t
            ·subst e;rw [if_pos rfl,if_pos rfl,hps]
            ·rw [if_neg e,if_neg e,if_neg e]
           have hJ13:Hid (JJ w B (wr.setCell ⟨B.eb,t,none⟩ (.int .i64 (Zj L J q:Int))).drew J n (λ z=>z) (λ i=>if i=t then (past L J (j+1) (t+1):Int) else if t+1<=i then (Zj L J i:Int) else 0) (λ i=>if t<=i then ld0 J i else 0)):=hJ12.same0 ((Zc.refl _ _).drew);obtain ⟨d0,d1,d2,d3,d4⟩:=hJ10.head.cells;have q1:(0:Int)<=(q:Int):=by omega
           have q2:(q:Int)<(n:Int):=by omega
           clear hJ10 hJ11 hJ12 hq hps
           go_upto_region 27 with fail
           go_region
           all_goals
            go_wp2_with fail
            go_roundw
            case rel=>exact ⟨j+1,by go_num,by omega,hJ13.out⟩
            case measure=>simp [intOf];omega
          ·obtain rfl:j=A:=by omega
           have hfin:JJ w B wr J n (λ z=>z) (λ i=>if t<=i then (Zj L J i:Int) else 0) (λ i=>if t<=i then ld0 J i else 0):=by
            refine hJ10.congr (λ _ _ _=>rfl) (λ i hi=>?_) (λ _ _=>rfl)
            by_cases e:i=t
            ·subst e;rw [if_pos rfl,if_pos (Nat.le_refl _),HF.out.past]
            ·rw [if_neg e]
             by_cases e2:t+1<=i
             ·rw [if_pos e2,if_pos (by omega)]
             ·rw [if_neg e2,if_neg (by omega)]
           clear hJ10
           go_wp2_with fail
           go_roundw
           case rel=>exact ⟨t,by go_num,by omega,hfin⟩
           case measure=>simp [intOf]
def JB.Way (B:JB) (k:Nat):Prop:=k=B.jb∨k=B.sb
theorem JB.way (B:JB) (x:Int):B.Way (nxB B x):=by
 unfold nxB;split
 ·exact .inl rfl
 ·exact .inr rfl
theorem Zfz {B:JB} {J:List Int} {ld:Int->Int} {sz:Nat->Int} (h:JAt L B w J ld sz) (hx:Z0 J x) :
  Calls prog 238 #[.pointer (some ⟨B.jb,0,none⟩),.int .i64 x] w λ e w' => e=.returned (.int .i64 (ld x))∧JAt L B w' J ld sz∧Zc B.Way w w' := by
 obtain ⟨nx,ρ,hC,hL⟩:=h
 go_enter func238,ntmps238
 go_wp2_with fail
 go_loopw [1] (λ tp wr=>∃ y ny,tp=.int .i64 y∧Z0 J y∧ld y=ld x∧JC L B wr J ny sz∧Led J ny ld ρ∧Zc B.Way w wr) (λ tp _=>ρ (intOf tp))
 case atStart=>exact ⟨x,nx,rfl,hx,rfl,hC,hL,Zc.refl _ _⟩
 case round=>
  obtain ⟨y,ny,rfl,hy,hyx,hC', hL', hK⟩:=hrel;have c1:=Zke hC' hy;have py:=hL'.part y hy;have c2:=Zke hC' py;obtain ⟨a1,a2⟩:=hC'.next hy;obtain ⟨b1,b2⟩:=hC'.next py;have hlt:=hy.1;have hpt:=hC'.put hy (ny (ny y))
  by_cases hn:ny y=y
  ·have e1:ld x=y:=by rw [<- hyx];exact (hL'.stop y hy).1 hn
   have fin:JAt L B wr J ld sz:=⟨ny,ρ,hC', hL'⟩;rw [hn] at a1;clear hC hL hC' hL' hpt c2 b1 b2
   go_wp2_with (go_at_call 239;refine c1.mono ?_;rintro e w' ⟨rfl,rfl⟩)
   go_returns
   exact ⟨by rw [e1];rfl,fin,hK⟩
  ·obtain ⟨hL2,hd⟩:=hL'.halve hy hn
   obtain ⟨hC2,hK2⟩:=hpt;have hK3:Zc B.Way w (wr.setCell (nxA B y) (.int .i64 (ny (ny y)))):=hK.trans hK2 (λ i _ e=>by rw [e];exact B.way y);have pz:=hL'.part _ py;have lz:ld (ny (ny y))=ld x:=by rw [hL'.lead _ py,hL'.lead _ hy,hyx]
   have n3:=hC2.next hy;clear hC hL hC' hL'
   go_upto_region 4 with (go_at_call 239;refine c1.mono ?_;rintro e w' ⟨rfl,rfl⟩)
   go_wp2_with (go_at_call 239;refine c2.mono ?_;rintro e w' ⟨rfl,rfl⟩)
   go_roundw
   case rel=>exact ⟨_,_,rfl,pz,lz,hC2,hL2,hK3⟩
   case measure=>simpa [intOf] using hd
end
section
open Go.RowKit
def Z6 (l:List (Nat × Nat × Nat)):List Value:=l.flatMap λ r=>[.int .i64 (r.1:Int),.int .i64 (r.2.1:Int),.int .i64 (r.2.2:Int)]
theorem V0 (l:List (Nat × Nat × Nat)):(Z6 l).length=l.length * 3:=by
 induction l with
 | nil=>rfl
 | cons x r ih=>simp [Z6] at ih ⊢;omega
theorem Zd5 (a b:List (Nat × Nat × Nat)):Z6 (a++b)=Z6 a++Z6 b:=by simp [Z6]
theorem Vl (x y o:Nat) (rs:List (Nat × Nat × Nat)):Z6 ((x,y,o) :: rs).reverse=Z6 rs.reverse ++ [.int .i64 (x:Int),.int .i64 (y:Int),.int .i64 (o:Int)]:=by
 rw [List.reverse_cons,Zd5];simp [Z6]
theorem Zuk:(prog.info? 361).map (λ i=>(i.zero,i.size,i.bytes))=some (some (.agg #[.int .i64 0,.int .i64 0,.int .i64 0]),3,24):=by kernel_rfl
def Zh5 (base:Nat) (w:World) (v:Value) (rs:List (Nat × Nat × Nat)):Prop:=w.ownsRow base 361 3 v rs.length (Z6 rs.reverse)
theorem Zh5.top {v:Value} {x:Nat} (h:Zh5 base w v ((x,y,o) :: rs)) :
  ∃ g cap,v=.slice (some ⟨g,0,none⟩) (rs.length+1) cap∧base<=g∧g<w.heap.size∧rs.length+1<=cap∧w.cell? ⟨g,rs.length * 3,none⟩=some (.int .i64 (x:Int))∧w.cell? ⟨g,rs.length * 3+1,none⟩=some (.int .i64 (y:Int))∧w.cell? ⟨g,rs.length * 3+2,none⟩=some (.int .i64 (o:Int))∧w.frozen? ⟨g,rs.length * 3,none⟩=false∧w.frozen? ⟨g,rs.length * 3+2,none⟩=false:=by
 obtain ⟨g,cap,hv,hb,hlt⟩:=World.ownsRow.form h (by simp)
 have hcap:rs.length+1<=cap:=by
  rcases h.2 with ⟨e,_⟩ | ⟨g', cap', cur,hv', _,_,hle,_⟩
  ·rw [hv] at e;cases e
  ·rw [hv] at hv'
   simp only [Value.slice.injEq] at hv';have:=hv'.2.2;simp at hle;omega
 subst hv;have h' : w.ownsRow base 361 3 (.slice (some ⟨g,0,none⟩) (rs.length+1) cap) (rs.length+1) (Z6 rs.reverse ++ [.int .i64 (x:Int),.int .i64 (y:Int),.int .i64 (o:Int)]):=by rw [<- Vl];exact h
 have hl:(Z6 rs.reverse).length=rs.length * 3:=by rw [V0,List.length_reverse]
 refine ⟨g,cap,rfl,hb,hlt,hcap,?_,?_,?_,h'.frozenAt _,h'.frozenAt _⟩
 ·rw [h'.cellAt _ (by omega),List.getElem?_append_right (by omega),hl];simp
 ·rw [h'.cellAt _ (by omega),List.getElem?_append_right (by omega),hl];simp
 ·rw [h'.cellAt _ (by omega),List.getElem?_append_right (by omega),hl];simp
theorem Zh5.kept {S:Nat->Prop} {v:Value} (h:Zh5 base w v rs) (hk:Zc S w w') (hs:∀ k,base<=k->¬ S k):Zh5 base w' v rs:=by
 refine hk.row h (λ k e=>hs k ?_)
 rcases h.2 with ⟨e', _⟩ | ⟨g,cap,cur,hv,hb,_⟩
 ·rw [e'] at e;simp [Value.ownBlock] at e
 ·rw [hv] at e;simp [Value.ownBlock] at e;omega
theorem Zh5.on {g:Nat} {x:Nat} (h:Zh5 base w (.slice (some ⟨g,0,none⟩) (rs.length+1) cap) ((x,y,o) :: rs)) (x' o' : Nat) :
  Zh5 base ((w.setCell ⟨g,rs.length * 3,none⟩ (.int .i64 (x' : Int))).setCell ⟨g,rs.length * 3+2,none⟩ (.int .i64 (o' : Int))) (.slice (some ⟨g,0,none⟩) (rs.length+1) cap) ((x', y,o') :: rs):=by
 have h' : w.ownsRow base 361 3 (.slice (some ⟨g,0,none⟩) (rs.length+1) cap) (rs.length+1) (Z6 rs.reverse ++ [.int .i64 (x:Int),.int .i64 (y:Int),.int .i64 (o:Int)]):=by rw [<- Vl];exact h
 have hl:(Z6 rs.reverse).length=rs.length * 3:=by rw [V0,List.length_reverse]
 have h1:=(h'.stored (rs.length * 3) (.int .i64 (x' : Int))).1;have h2:=(h1.stored (rs.length * 3+2) (.int .i64 (o' : Int))).1
 have e:((Z6 rs.reverse ++ [Value.int .i64 (x:Int),.int .i64 (y:Int),.int .i64 (o:Int)]).set (rs.length * 3) (.int .i64 (x' : Int))).set (rs.length * 3+2) (.int .i64 (o' : Int))=Z6 rs.reverse ++ [.int .i64 (x' : Int),.int .i64 (y:Int),.int .i64 (o' : Int)]:=by
  rw [List.set_append_right _ _ (by omega),List.set_append_right _ _ (by omega),hl];simp [show rs.length * 3+2-rs.length * 3=2 by omega]
 rw [e] at h2;unfold Zh5;rw [Vl];exact h2
theorem Zh5.less {g:Nat} {x:Nat} (h:Zh5 base w (.slice (some ⟨g,0,none⟩) (rs.length+1) cap) ((x,y,o) :: rs)):Zh5 base w (.slice (some ⟨g,0,none⟩) rs.length cap) rs:=by
 have hl:(Z6 rs.reverse).length=rs.length * 3:=by rw [V0,List.length_reverse]
 have h' : w.ownsRow base 361 3 (.slice (some ⟨g,0,none⟩) (rs.length+1) cap) (rs.length+1) (Z6 rs.reverse ++ [.int .i64 (x:Int),.int .i64 (y:Int),.int .i64 (o:Int)]):=by rw [<- Vl];exact h
 have hmn:rs.length * 3<=(rs.length+1) * 3:=by omega
 refine ⟨by rw [hl],?_⟩
 rcases h'.2 with ⟨e1,_⟩ | ⟨g', cap', cur,hv,hb,hg,h1,h2,h3,h4⟩
 ·cases e1
 ·simp only [Value.slice.injEq,Option.some.injEq,Addr.mk.injEq,and_true,true_and] at hv
  obtain ⟨rfl,rfl⟩:=hv;refine .inr ⟨g,cap,cur,rfl,hb,hg,by omega,h2,h3,?_⟩;have:=congrArg (List.take (rs.length * 3)) h4;rw [List.take_take,Nat.min_eq_left hmn,List.take_left' hl] at this;exact this
end
end Go.Proofs.YtmjgnfkbnofjoaaGreatDoor
