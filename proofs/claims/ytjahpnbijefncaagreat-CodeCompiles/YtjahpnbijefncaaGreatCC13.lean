import Derived.Test.YtjahpnbijefncaaGreatCC12
namespace Go.Proofs.YtjahpnbijefncaaGreat
set_option maxRecDepth 100000
set_option linter.unusedVariables false
set_option maxHeartbeats 16000000
section
open Go.RowKit
attribute [local go_sem ↓] Go.wp_at_zero Go.wp_at_succ
theorem Zs0 {t:List Int}:∀ {o:List Int} {v:Int},v∈vs o t->v∈o∨∃ n∈t,isV n=true∧v = -n:=by
 induction t with
 | nil=>intro o v h;exact .inl h
 | cons x r ih=>
  intro o v h
  rcases ih (o:=V2 o x) h with q | ⟨n,h1,h2,h3⟩
  ·unfold V2 at q
   split at q
   ·rename_i hx
    rcases List.mem_append.1 q with q | q
    ·exact .inl q
    ·simp at q;exact .inr ⟨x,by simp,hx.1,q⟩
   ·exact .inl q
  ·exact .inr ⟨n,by simp [h1],h2,h3⟩
theorem Zc7 {t:List Int} (ht:∀ n∈t, -99<=n) {v:Int}:v∈Z3 t ↔ -v∈t∧0<v:=by
 constructor
 ·intro h
  rcases Zs0 h with q | ⟨n,h1,h2,h3⟩
  ·simp at q
  ·have:=Zg1.1 h2
   subst h3;exact ⟨by simpa using h1,by omega⟩
 ·rintro ⟨h1,h2⟩
  have h3:=ht _ h1;have:=vs_mem (o:=[]) h1 (Zg1.2 ⟨h3,by omega⟩)
  simpa [Z3] using this
theorem Zv9 {a b:List Int} (ha:∀ n∈a, -99<=n) (hb:∀ n∈b, -99<=n):(Z3 b).all (λ v=>inB (Z3 a) v)=b.all (λ n=>!Jm a n):=by
 rw [Bool.eq_iff_iff,List.all_eq_true,List.all_eq_true];constructor
 ·intro h n hn
  by_cases h0:n<0
  ·have:=h (-n) ((Zc7 hb).2 ⟨by simpa using hn,by omega⟩)
   simp only [inB,decide_eq_true_eq] at this;have:=(Zc7 ha).1 this;simp [Jm];exact .inr (by simpa using this.1)
  ·simp [Jm];exact .inl (by omega)
 ·intro h v hv
  obtain ⟨h1,h2⟩:=(Zc7 hb).1 hv;have:=h _ h1;simp [Jm] at this;simp only [inB,decide_eq_true_eq];refine (Zc7 ha).2 ⟨?_,h2⟩
  rcases this with q | q
  ·omega
  ·exact q
theorem Zgn {n:Nat} {w:World} {rv:Value} {L:List Sym} (h:Rl n w rv L) (x:Int):Calls Tryz.prog 41 #[rv,.int .i64 x] w λ e w' => e=.returned (.bool (Y7 L x))∧w' = w:=by
 have hlen:=h.2.2.2
 by_cases hx:x<0∨(L.length:Int)<=x
 ·have H:Hid (Y7 L x=false):=Zf9 hx
  obtain ⟨ro,rc,rfl⟩:=Zf h.1
  rcases hx with hx | hx
  ·have hx' : ¬ (0:Int)<=x:=by omega
   go_enter Tryz.func41,Tryz.ntmps41
   go_wp2;go_ret;exact ⟨by rw [H.out];rfl,rfl⟩
  ·have hx' : (0:Int)<=x:=by omega
   have hx'' : ¬ x<(L.length:Int):=by omega
   go_enter Tryz.func41,Tryz.ntmps41
   go_wp2;go_ret;exact ⟨by rw [H.out];rfl,rfl⟩
 ·obtain ⟨i,rfl⟩:∃ i:Nat,x=(i:Int):=⟨x.toNat,by omega⟩
  have hi:i<L.length:=by omega
  have H:Hid (Y7 L (i:Int)=L[i].df):=Zbv hi
  rcases h.1.2 with ⟨_,h0⟩ | ⟨g,cap,cur,rfl,_,hg,_⟩
  ·omega
  ·have hc:=h.1.cells (g:=g) rfl _ _ (Kc hi).2.2
   rw [Xq,Nat.zero_add] at hc;have i1:(0:Int)<=(i:Int):=by omega
   have i2:(i:Int)<(L.length:Int):=by omega
   clear h hg
   go_enter Tryz.func41,Tryz.ntmps41
   go_wp2;go_ret;exact ⟨by rw [H.out];rfl,rfl⟩
theorem Zjm {w:World} {ao:Option Addr} {ac:Nat} {t:List Int} (ht:Zh w ao t) (hm:t.length<=2000) :
  Calls Tryz.prog 150 #[.slice ao t.length ac] w λ e w' => e=.returned (.bool (decide (Zer t=(Z3 t).length)))∧Za w w' := by
 have CV:=Zdt (cap:=ac) ht (by omega);have hvl:(Z3 t).length<=t.length:=by have:=Ze9 [] t;simpa [Z3] using this
 have E:Hid (∀ q:Bool,(q=true ↔ Zer t=(Z3 t).length)->q=decide (Zer t=(Z3 t).length)):=λ q h=>by cases q <;> simp_all
 go_enter Tryz.func150,Tryz.ntmps150
 go_wp2
 go_loop [3,4] (λ s i=>∃ k:Nat,k<=t.length∧i=.int .i64 (k:Int)∧s=.int .i64 ((Zer (t.take k):Nat):Int)) (λ _ i=>t.length-(intOf i).toNat)
 case atStart=>exact ⟨0,Nat.zero_le _,rfl,rfl⟩
 case round=>
  obtain ⟨k,hk,rfl,rfl⟩:=hrel;have b0:=Zkm (t.take k);have b1:Zer (t.take k)<=2000:=by rw [List.length_take] at b0;omega
  clear b0
  by_cases hlt:k<t.length
  ·obtain ⟨tb,off', rfl,_,hcell⟩:=ht.get hlt
   have i1:(0:Int)<=(k:Int):=by omega
   have i2:(k:Int)<(t.length:Int):=by omega
   have N:Hid (Zer (t.take (k+1))=Zer (t.take k)+if t[k]<0 then 1 else 0):=Zhk hlt;generalize Zer (t.take k)=m at *
   by_cases hneg:t[k]<0
   ·go_wp2
    exact ⟨⟨k+1,by omega,by go_num,by rw [N.out,if_pos hneg];go_num⟩,by simp [intOf];omega⟩
   ·go_wp2
    exact ⟨⟨k+1,by omega,by go_num,by rw [N.out,if_neg hneg];rfl⟩,by simp [intOf];omega⟩
  ·obtain rfl:k=t.length:=by omega
   rw [List.take_length] at b1 ⊢
   go_wp2_with (first | (go_at_call 174;refine CV.mono ?_;rintro e w2 ⟨v,rfl,hr,hk2⟩;obtain ⟨vo,vc,rfl⟩:=Zf hr))
   go_ret;exact ⟨Ye (E.out _ (by simp;try omega)),hk2⟩
theorem Znu {n:Nat} {w:World} {rv:Value} {L:List Sym} (h:Rl n w rv L) {ao:Option Addr} {ac:Nat} {t:List Int} (ht:Zh w ao t) (hm:t.length<=2000) :
  Calls Tryz.prog 151 #[rv,.slice ao t.length ac] w λ e w' => e=.returned (.bool (t.tail.all (λ n=>!Y7 L n)))∧w' = w:=by
 have CD:=λ x=>Zgn h x;obtain ⟨ro,rc,rfl⟩:=Zf h.1
 go_enter Tryz.func151,Tryz.ntmps151
 go_wp2
 go_loop [5] (λ i=>∃ k:Nat,1<=k∧i=.int .i64 (k:Int)∧(k<=t.length∨k=1)∧Hid ((t.tail.take (k-1)).all (λ n=>!Y7 L n)=true)) (λ i=>t.length+1-(intOf i).toNat)
 case atStart=>exact ⟨1,by omega,rfl,.inr rfl,by show _=_;simp⟩
 case round=>
  obtain ⟨k,hk1,rfl,hk2,ha⟩:=hrel
  by_cases hlt:k<t.length
  ·obtain ⟨tb,off', rfl,_,hcell⟩:=ht.get hlt
   have i1:(0:Int)<=(k:Int):=by omega
   have i2:(k:Int)<(t.length:Int):=by omega
   have C:=CD t[k]
   have e0:t.tail[k-1]? = some t[k]:=by
    rw [List.getElem?_tail];have:k-1+1=k:=by omega
    rw [this,List.getElem?_eq_getElem hlt]
   cases hq:Y7 L t[k] with
   | true=>
    have H:Hid (t.tail.all (λ n=>!Y7 L n)=false):=by
     show _=_;rw [List.all_eq_false];exact ⟨t[k],List.mem_of_getElem? e0,by simp [hq]⟩
    rw [hq] at C;clear hq ha e0
    go_wp2_with (first | (go_at_call 41;refine C.mono ?_;rintro e w2 ⟨rfl,rfl⟩))
    go_ret;exact ⟨by rw [H.out];rfl,rfl⟩
   | false=>
    have H:Hid ((t.tail.take (k+1-1)).all (λ n=>!Y7 L n)=true):=by
     have:=ha.out;have e1:k+1-1=(k-1)+1:=by omega
     show _=_;rw [e1,List.take_add_one,e0,List.all_append,this];simp [hq]
    rw [hq] at C;clear hq ha e0
    go_wp2_with (first | (go_at_call 41;refine C.mono ?_;rintro e w2 ⟨rfl,rfl⟩))
    exact ⟨⟨k+1,by omega,by go_num,.inl (by omega),H⟩,by simp [intOf];omega⟩
  ·have H:Hid (t.tail.all (λ n=>!Y7 L n)=true):=by
    have:=ha.out;rw [List.take_of_length_le (by simp;omega)] at this;exact this
   have hlt' : ¬ (k:Int)<(t.length:Int):=by omega
   go_wp2;go_ret;exact ⟨by rw [H.out];rfl,rfl⟩
theorem J1 (w:World) (c p:Int):Calls Tryz.prog 116 #[.int .i64 c,.int .i64 p] w λ e w' => ∃ v,e=.returned v∧Y5 w' v [(c,p)]∧Za w w' := by
 go_enter Tryz.func116,Tryz.ntmps116
 go_wp2;go_ret;exact ⟨_,rfl,Zjq w [(c,p)] _ 92 rfl (λ i hi=>by have hi' : i<1:=hi;match i,hi' with | 0,_=>exact ⟨rfl,rfl⟩) 1 rfl,(Zc.refl _ w).alloc _⟩
structure MR (w:World) (m:Nat) (ro:Option Addr) (rc:Nat) (mo:Option Addr) (mc:Nat) (L:List Sym) (R:List Ru):Prop where
 blk:w.heap[m]? = some (.cells #[.slice ro L.length rc,.slice mo R.length mc] 31 (0,0))
 rl:Rl w.heap.size w (.slice ro L.length rc) L
 rs:V7 w mo R
 nil:mo=none->mc=0
 le:R.length<=100
 ok:∀ x∈R,Ze L x.1=0
theorem Ze4 {n m:Nat} {w:World} {rv:Value} {L:List Sym} (h:Rl n w rv L) (hn:n<=m):Rl m w rv L:=⟨h.1,λ k e=>Nat.lt_of_lt_of_le (h.2.1 k e) hn,h.2.2⟩
theorem MR.same {w w' : World} {m:Nat} {ro:Option Addr} {rc:Nat} {mo:Option Addr} {mc:Nat} {L:List Sym} {R:List Ru} (h:MR w m ro rc mo mc L R) (hk:Za w w'):MR w' m ro rc mo mc L R:=
 ⟨hk.at0 h.blk,Ze4 (h.rl.same hk) hk.size,h.rs.same hk,h.nil,h.le,h.ok⟩
def Zai (L:List Sym) (R l:List Ru) (j0 j1:Nat) (ws:List (Int × Int)):Prop:=
 (ws=[]∧Yv L R l j1 0)∨∃ j n,j0<=j∧j<j1∧n<l.length∧Yv L R l j n∧ckB L R l j n=false∧ws=Xm L R l j n
theorem Zuh {L:List Sym} {R l:List Ru} {n:Nat} {x:Ru} (hx:x=l.getD n ([],[])):ckB L R l 1 n=(decide (Ze L x.1=0) && decide (Ze L x.2=0)):=by subst hx;rfl
theorem Zuk {L:List Sym} {R l:List Ru} {n:Nat} {x:Ru} (hx:x=l.getD n ([],[])):ckB L R l 2 n=(decide (x.1.length<=200) && decide (x.2.length<=200)):=by subst hx;rfl
theorem wr1_eq {L:List Sym} {R l:List Ru} {n:Nat} {x:Ru} (hx:x=l.getD n ([],[])):Xm L R l 1 n=[(71,(n:Int)),(if Ze L x.1=0 then Ze L x.2 else Ze L x.1, -1)]:=by subst hx;rfl
theorem Zgy (w:World) (a b c d:Int) {o:Obj} (ho:o=.cells #[.int .i64 a,.int .i64 b,.int .i64 c,.int .i64 d] 92 (0,0)):Y5 (w.alloc o) (.slice (some ⟨w.heap.size,0,none⟩) 2 2) [(a,b),(c,d)]:=
 Zjq w [(a,b),(c,d)] _ 92 ho (λ i hi=>by have hi' : i<2:=hi;match i,hi' with | 0,_=>exact ⟨rfl,rfl⟩ | 1,_=>exact ⟨rfl,rfl⟩) 2 rfl
theorem Zkq (w:World):Y5 w (.slice none 0 0) []:=⟨none,0,rfl,.inl rfl⟩
theorem Znn {w:World} {m:Nat} {ro:Option Addr} {rc:Nat} {mo:Option Addr} {mc:Nat} {L:List Sym} {R:List Ru} (h:MR w m ro rc mo mc L R) {lo:Option Addr} {lc:Nat} {l:List Ru} (hl:V7 w lo l) (hn:l.length<=100) (hu:Yv L R l 1 0) :
  Calls Tryz.prog 117 #[.pointer (some ⟨m,0,none⟩),.slice lo l.length lc] w λ e w' => ∃ ws v,e=.returned v∧Zai L R l 1 3 ws∧Y5 w' v ws∧Za w w' := by
 have M0:Za w w:=Zc.refl _ _
 go_enter Tryz.func117,Tryz.ntmps117
 go_wp2
 go_loopw [5] (λ i wr=>∃ n:Nat,n<=l.length∧i=.int .i64 (n:Int)∧Hid (Yv L R l 1 n)∧Za w wr) (λ i _=>l.length-(intOf i).toNat)
 case atStart=>exact ⟨0,Nat.zero_le _,rfl,hu,M0⟩
 case round=>
  clear M0 hu;obtain ⟨n,hnl,rfl,hu,hs⟩:=hrel
  by_cases hlt:n<l.length
  ·obtain ⟨lb,off,rfl,hlb,hru⟩:=(hl.same hs).get hlt
   obtain ⟨x,hx0⟩:∃ x,x=l[n]:=⟨_,rfl⟩;rw [<- hx0] at hru;have hx:x=l.getD n ([],[]):=by rw [hx0];simp [List.getD,hlt]
   obtain ⟨ao,ac,bo,bc,r0,r1,A1,A2⟩:=hru;have i1:(0:Int)<=(n:Int):=by omega
   have i2:(n:Int)<(l.length:Int):=by omega
   have hm1:=h.same hs;have HS:Hid (∀ ww,Za wr ww->ww.cell? ⟨m,0,none⟩=some (.slice ro L.length rc)∧ww.cell? ⟨lb,off+n * 2,none⟩=some (.slice ao x.1.length ac)∧ww.cell? ⟨lb,off+n * 2+1,none⟩=some (.slice bo x.2.length bc)):=λ ww hk=>⟨Zb (hm1.same hk).blk 0,(hk.cell (p:=⟨lb,off+n * 2,none⟩) hlb (λ f=>f)).trans r0,(hk.cell (p:=⟨lb,off+n * 2+1,none⟩) hlb (λ f=>f)).trans r1⟩;have s1:=A1.size;have s2:=A2.size;have C1:Hid (∀ ww,Za wr ww->Calls Tryz.prog 57 #[.slice ro L.length rc,.slice ao x.1.length ac] ww λ e w' => e=.returned (.int .i64 (Ze L x.1))∧Za wr w'):=λ ww hk=>(Zfp (hm1.same hk).rl (A1.same hk).at' (by unfold maxLen;omega)).mono (λ e w' ⟨q1,q2⟩=>⟨q1,by rw [q2];exact hk⟩);have C2:Hid (∀ ww,Za wr ww->Calls Tryz.prog 57 #[.slice ro L.length rc,.slice bo x.2.length bc] ww λ e w' => e=.returned (.int .i64 (Ze L x.2))∧Za wr w'):=λ ww hk=>(Zfp (hm1.same hk).rl (A2.same hk).at' (by unfold maxLen;omega)).mono (λ e w' ⟨q1,q2⟩=>⟨q1,by rw [q2];exact hk⟩);have CC0:=HS.out wr (Zc.refl _ _);have W1:Za wr wr.drew:=Zc.drew (Zc.refl _ _);have P0:Hid (Ze L x.1=0->Ze L x.2=0->Yv L R l 1 (n+1)):=λ q1 q2=>hu.out.step (by rw [Zuh hx];simp [q1,q2]);have P1:Hid (¬ (Ze L x.1=0∧Ze L x.2=0)->Zai L R l 1 3 [(71,(n:Int)),(if Ze L x.1=0 then Ze L x.2 else Ze L x.1, -1)]):=λ q=>.inr ⟨1,n,by omega,by omega,hlt,hu.out,by rw [Zuh hx];simpa using q,(wr1_eq hx).symm⟩;clear r0 r1 A1 A2 hm1 hx hx0 hu h hl
   by_cases hz:Ze L x.1=0
   ·have zz:(Ze L x.1 == 0)=true:=by simpa using hz
    go_wp2
    go_region_held3 (λ w' => w'.cell? ⟨m,0,none⟩=some (.slice ro L.length rc)∧w'.cell? ⟨lb,off+n * 2,none⟩=some (.slice ao x.1.length ac)∧w'.cell? ⟨lb,off+n * 2+1,none⟩=some (.slice bo x.2.length bc)) (first | exact cc1 | exact CC0) (first | (go_at_call 57;refine (C1.out _ W1).mono ?_;rintro e w2 ⟨rfl,hw2⟩;have cc1:=HS.out _ hw2))
    all_goals
     have W2:Za wr w2.drew:=Zc.drew hw2
     by_cases hq:Ze L x.2=0
     ·have zq:(Ze L x.2 == 0)=true:=by simpa using hq
      go_wp2
      go_region_held3 (λ w' => w'.cell? ⟨m,0,none⟩=some (.slice ro L.length rc)∧w'.cell? ⟨lb,off+n * 2,none⟩=some (.slice ao x.1.length ac)∧w'.cell? ⟨lb,off+n * 2+1,none⟩=some (.slice bo x.2.length bc)) (first | exact cc2 | exact cc1) (first | (go_at_call 57;refine (C2.out _ W2).mono ?_;rintro e w3 ⟨rfl,hw3⟩;have cc2:=HS.out _ hw3))
      all_goals
       have P:=P0.out hz hq;clear P0 P1;go_wp2;exact ⟨⟨n+1,by omega,by go_num,P,hs.trans' hw3⟩,by simp [intOf];omega⟩
     ·have zq:(Ze L x.2 == 0)=false:=by simpa using hq
      go_wp2
      go_region_held3 (λ w' => w'.cell? ⟨m,0,none⟩=some (.slice ro L.length rc)∧w'.cell? ⟨lb,off+n * 2,none⟩=some (.slice ao x.1.length ac)∧w'.cell? ⟨lb,off+n * 2+1,none⟩=some (.slice bo x.2.length bc)) (first | exact cc2 | exact cc1) (first | (go_at_call 57;refine (C2.out _ W2).mono ?_;rintro e w3 ⟨rfl,hw3⟩;have cc2:=HS.out _ hw3))
      all_goals
       have P:Hid (Zai L R l 1 3 [(71,(n:Int)),(Ze L x.2, -1)]):=by
        have:=P1.out (λ q=>hq q.2)
        rwa [if_pos hz] at this
       clear P0 P1;go_wp2;go_ret;exact ⟨_,_,rfl,P.out,Zgy w3 _ _ _ _ rfl,hs.trans' (Zc.alloc hw3 _)⟩
   ·have zz:(Ze L x.1 == 0)=false:=by simpa using hz
    have P:Hid (Zai L R l 1 3 [(71,(n:Int)),(Ze L x.1, -1)]):=by
     have:=P1.out (λ q=>hz q.1)
     rwa [if_neg hz] at this
    clear P0 P1;go_wp2
    go_region_held3 (λ w' => w'.cell? ⟨m,0,none⟩=some (.slice ro L.length rc)∧w'.cell? ⟨lb,off+n * 2,none⟩=some (.slice ao x.1.length ac)∧w'.cell? ⟨lb,off+n * 2+1,none⟩=some (.slice bo x.2.length bc)) (first | exact cc1 | exact CC0) (first | (go_at_call 57;refine (C1.out _ W1).mono ?_;rintro e w2 ⟨rfl,hw2⟩;have cc1:=HS.out _ hw2))
    all_goals
     go_wp2;go_ret;exact ⟨_,_,rfl,P.out,Zgy w2 _ _ _ _ rfl,hs.trans' (Zc.alloc hw2 _)⟩
  ·have hu2:Hid (Yv L R l 2 0):=hu.out.next (by omega)
   have hlt' : ¬ (n:Int)<(l.length:Int):=by omega
   clear hu hlt;go_wp2
   go_loopw [7] (λ i wr=>∃ n:Nat,n<=l.length∧i=.int .i64 (n:Int)∧Hid (Yv L R l 2 n)∧Za w wr) (λ i _=>l.length-(intOf i).toNat)
   case atStart=>exact ⟨0,Nat.zero_le _,rfl,hu2,hs⟩
   case round=>
    clear hs hu2 hlt' hnl;obtain ⟨n,hnl,rfl,hu,hs⟩:=hrel
    by_cases hlt:n<l.length
    ·obtain ⟨lb,off,rfl,hlb,hru⟩:=(hl.same hs).get hlt
     obtain ⟨x,hx0⟩:∃ x,x=l[n]:=⟨_,rfl⟩;rw [<- hx0] at hru;have hx:x=l.getD n ([],[]):=by rw [hx0];simp [List.getD,hlt]
     obtain ⟨ao,ac,bo,bc,r0,r1,A1,A2⟩:=hru;have i1:(0:Int)<=(n:Int):=by omega
     have i2:(n:Int)<(l.length:Int):=by omega
     have P0:Hid (x.1.length<=200->x.2.length<=200->Yv L R l 2 (n+1)):=λ q1 q2=>hu.out.step (by rw [Zuk hx];simp [q1,q2]);have P1:Hid (¬ (x.1.length<=200∧x.2.length<=200)->Zai L R l 1 3 [(72,(n:Int))]):=λ q=>.inr ⟨2,n,by omega,by omega,hlt,hu.out,by rw [Zuk hx];simpa using q,rfl⟩;clear A1 A2 hx hx0 hu h hl
     by_cases h1:x.1.length<=200
     ·have g1:¬ (200:Int)<(x.1.length:Int):=by omega
      by_cases h2:x.2.length<=200
      ·have g2:¬ (200:Int)<(x.2.length:Int):=by omega
       have P:=P0.out h1 h2;clear P0 P1;go_wp2;exact ⟨⟨n+1,by omega,by go_num,P,hs⟩,by simp [intOf];omega⟩
      ·have g2:(200:Int)<(x.2.length:Int):=by omega
       have P:=P1.out (λ q=>h2 q.2);clear P0 P1
       go_wp2_with (first | (go_at_call 116;refine (J1 _ _ _).mono ?_;rintro e w2 ⟨v,rfl,hv,hk2⟩))
       go_ret;exact ⟨_,_,rfl,P,hv,hs.trans' hk2⟩
     ·have g1:(200:Int)<(x.1.length:Int):=by omega
      have P:=P1.out (λ q=>h1 q.1);clear P0 P1
      go_wp2_with (first | (go_at_call 116;refine (J1 _ _ _).mono ?_;rintro e w2 ⟨v,rfl,hv,hk2⟩))
      go_ret;exact ⟨_,_,rfl,P,hv,hs.trans' hk2⟩
    ·have P:Hid (Zai L R l 1 3 []):=.inl ⟨rfl,hu.out.next (by omega)⟩
     have hlt' : ¬ (n:Int)<(l.length:Int):=by omega
     clear hu hlt;go_wp2;go_ret;exact ⟨_,_,rfl,P.out,Zkq _,hs⟩
def ofF (s:Int):Nat->List Ru->List Int
 | _,[]=>[]
 | k,x :: r=>(if x.1.head? = some s then [(k:Int)] else [])++ofF s (k+1) r
theorem Zlj (s:Int) (x:Ru):∀ (l:List Ru) (k:Nat),ofF s k (l ++ [x])=ofF s k l++(if x.1.head? = some s then [((k+l.length:Nat):Int)] else [])
 | [],k=>by simp [ofF]
 | y :: r,k=>by
  simp only [List.cons_append,ofF,Zlj s x r (k+1),List.append_assoc];congr 3;simp;omega
theorem Zmi {s:Int} {R:List Ru} {k:Nat} (h:k<R.length):ofF s 0 (R.take (k+1))=ofF s 0 (R.take k)++(if R[k].1.head? = some s then [(k:Int)] else []):=by
 rw [List.take_add_one,List.getElem?_eq_getElem h];show ofF s 0 (R.take k ++ [R[k]])=_;rw [Zlj];have:(R.take k).length=k:=by simp;omega
 rw [this,Nat.zero_add]
theorem Zed (s:Int):∀ (l:List Ru) (k:Nat),(ofF s k l).length<=l.length
 | [],_=>by simp [ofF]
 | x :: r,k=>by
  have:=Zed s r (k+1);simp only [ofF,List.length_append,List.length_cons];split <;> simp <;> omega
theorem Zjf {xs:List Int} (h:0<xs.length) (s:Int):(xs.head? = some s) ↔ xs[0]=s:=by
 cases xs with
 | nil=>simp at h
 | cons x r=>simp
theorem Zvs {w:World} {b bs:Nat} {L:List Sym} {R:List Ru} {lv:Value} {vs:List Value} (h:Kd w b bs L R lv vs) (s:Int) :
  Calls Tryz.prog 82 #[.pointer (some ⟨b,0,none⟩),.int .i64 s] w λ e w' => ∃ v,e=.returned v∧Row w.heap.size w' v (ofF s 0 R)∧Za w w' := by
 have hok:=h.ok;have hle:=h.le;obtain ⟨ro,rc,rfl,hR⟩:=h.read;obtain ⟨c0,c1⟩:=hR.cells;have M0:Za w w:=Zc.refl _ _;clear h
 go_enter Tryz.func82,Tryz.ntmps82
 go_wp2
 go_loopw [5,15] (λ v i wr=>∃ k:Nat,k<=R.length∧i=.int .i64 (k:Int)∧Row w.heap.size wr v (ofF s 0 (R.take k))∧Za w wr) (λ _ i _=>R.length-(intOf i).toNat)
 case atStart=>exact ⟨0,Nat.zero_le _,rfl,World.ownsRow_nil _ _ _ _,M0⟩
 case round=>
  clear M0 c0 c1;obtain ⟨k,hk,rfl,hr,hs⟩:=hrel;obtain ⟨vo,vc,rfl⟩:=Zf hr
  by_cases hlt:k<R.length
  ·obtain ⟨gb,goff,rfl,hgb,ao,ac,bo,bc,r0,r1,A1,A2⟩:=(hR.rs.same hs).get hlt
   have hp:=(Xv (hok _ (List.getElem_mem hlt))).1.1;obtain ⟨ab,ao', rfl,hab,hcell⟩:=A1.at'.get hp;have KA:Za wr (wr.alloc (.cells #[.slice (some ⟨ab,ao', none⟩) R[k].1.length ac,.slice bo R[k].2.length bc] 68)):=(Zc.refl _ _).alloc _;have hcell' : (wr.alloc (.cells #[.slice (some ⟨ab,ao', none⟩) R[k].1.length ac,.slice bo R[k].2.length bc] 68)).cell? ⟨ab,ao', none⟩=some (.int .i64 R[k].1[0]):=(KA.cell (p:=⟨ab,ao' + 0,none⟩) hab (λ f=>f)).trans hcell;have i1:(0:Int)<=(k:Int):=by omega
   have i2:(k:Int)<(R.length:Int):=by omega
   have i3:(0:Int)<(R[k].1.length:Int):=by omega
   have hol:=Zed s (R.take k) 0;have hol2:(ofF s 0 (R.take k)).length<=100:=by rw [List.length_take] at hol;omega
   have E:Hid (ofF s 0 (R.take (k+1))=ofF s 0 (R.take k)++(if R[k].1[0]=s then [(k:Int)] else [])):=by
    show _=_;rw [Zmi hlt];simp only [Zjf hp]
   have hrA:Row w.heap.size (wr.alloc (.cells #[.slice (some ⟨ab,ao', none⟩) R[k].1.length ac,.slice bo R[k].2.length bc] 68)) (.slice vo (ofF s 0 (R.take k)).length vc) (ofF s 0 (R.take k)):=KA.row hr (λ _ _ f=>f);have zA:=(hs.trans' KA).size;clear hcell A1 A2 hol
   by_cases he:R[k].1[0]=s
   ·have he' : (R[k].1[0] == s)=true:=by simpa using he
    have E2:=E.out;rw [if_pos he] at E2;have E3:Hid (ofF s 0 (R.take (k+1))=ofF s 0 (R.take k) ++ [(k:Int)]):=E2;clear E E2 he
    go_upto_region 8 with fail
    obtain ⟨wa,hwa⟩:∃ wa,wa=wr.alloc (.cells #[.slice (some ⟨ab,ao', none⟩) R[k].1.length ac,.slice bo R[k].2.length bc] 68):=⟨_,rfl⟩;rw [<- hwa] at hrA zA KA hcell' ⊢;clear hwa
    go_wp2_with (first | (at_builtin;refine Yo rfl _ _ 32 rfl Tryz.underlying32 w.heap.size (ofF s 0 (R.take k)) _ rfl hrA (k:Int) rfl zA (by omega) ?_;intro g cap w4 hr4 hk4 hat4))
    refine ⟨⟨k+1,by omega,by go_num,?_,Zc.trans (hs.trans' KA) hk4 (λ i hi e=>by have:=(hr.lt i e).1;omega)⟩,by simp [intOf];omega⟩;rw [E3.out];exact hr4
   ·have he' : (R[k].1[0] == s)=false:=by simpa using he
    have E2:=E.out;rw [if_neg he,List.append_nil] at E2;have E3:Hid (ofF s 0 (R.take (k+1))=ofF s 0 (R.take k)):=E2;clear E E2 he;go_wp2;refine ⟨⟨k+1,by omega,by go_num,?_,hs.trans' KA⟩,by simp [intOf];omega⟩;rw [E3.out];exact hrA
  ·obtain rfl:k=R.length:=by omega
   rw [List.take_length] at hr;rw [List.take_length];go_wp2;go_ret;exact ⟨_,rfl,hr,hs⟩
theorem Zvv {w:World} {mo:Option Addr} {mc:Nat} {R:List Ru} (hR:V7 w mo R) (hle:R.length<=100) (hpos:∀ x∈R,0<x.1.length) (s:Int) :
  Calls Tryz.prog 44 #[.slice mo R.length mc,.int .i64 s] w λ e w' => ∃ v,e=.returned v∧Row w.heap.size w' v (ofF s 0 R)∧Za w w' := by
 have M0:Za w w:=Zc.refl _ _
 go_enter Tryz.func44,Tryz.ntmps44
 go_wp2
 go_loopw [5,6] (λ v i wr=>∃ k:Nat,k<=R.length∧i=.int .i64 (k:Int)∧Row w.heap.size wr v (ofF s 0 (R.take k))∧Za w wr) (λ _ i _=>R.length-(intOf i).toNat)
 case atStart=>exact ⟨0,Nat.zero_le _,rfl,World.ownsRow_nil _ _ _ _,M0⟩
 case round=>
  clear M0;obtain ⟨k,hk,rfl,hr,hs⟩:=hrel;obtain ⟨vo,vc,rfl⟩:=Zf hr
  by_cases hlt:k<R.length
  ·obtain ⟨gb,goff,rfl,hgb,ao,ac,bo,bc,r0,r1,A1,A2⟩:=(hR.same hs).get hlt
   have hp:=hpos _ (List.getElem_mem hlt);obtain ⟨ab,ao', rfl,hab,hcell⟩:=A1.at'.get hp;have hcell' : wr.cell? ⟨ab,ao', none⟩=some (.int .i64 R[k].1[0]):=hcell;have i1:(0:Int)<=(k:Int):=by omega
   have i2:(k:Int)<(R.length:Int):=by omega
   have i3:(0:Int)<(R[k].1.length:Int):=by omega
   have hol:=Zed s (R.take k) 0;have hol2:(ofF s 0 (R.take k)).length<=100:=by rw [List.length_take] at hol;omega
   have E:Hid (ofF s 0 (R.take (k+1))=ofF s 0 (R.take k)++(if R[k].1[0]=s then [(k:Int)] else [])):=by
    show _=_;rw [Zmi hlt];simp only [Zjf hp]
   have zA:=hs.size;clear hcell A1 A2 hol
   by_cases he:R[k].1[0]=s
   ·have he' : (R[k].1[0] == s)=true:=by simpa using he
    have E2:=E.out;rw [if_pos he] at E2;have E3:Hid (ofF s 0 (R.take (k+1))=ofF s 0 (R.take k) ++ [(k:Int)]):=E2;clear E E2 he
    go_wp2_with (first | (at_builtin;refine Yo rfl _ _ 32 rfl Tryz.underlying32 w.heap.size (ofF s 0 (R.take k)) _ rfl hr (k:Int) rfl zA (by omega) ?_;intro g cap w4 hr4 hk4 hat4))
    refine ⟨⟨k+1,by omega,by go_num,?_,Zc.trans hs hk4 (λ i hi e=>by have:=(hr.lt i e).1;omega)⟩,by simp [intOf];omega⟩;rw [E3.out];exact hr4
   ·have he' : (R[k].1[0] == s)=false:=by simpa using he
    have E2:=E.out;rw [if_neg he,List.append_nil] at E2;have E3:Hid (ofF s 0 (R.take (k+1))=ofF s 0 (R.take k)):=E2;clear E E2 he;go_wp2;refine ⟨⟨k+1,by omega,by go_num,?_,hs⟩,by simp [intOf];omega⟩;rw [E3.out];exact hr
  ·obtain rfl:k=R.length:=by omega
   rw [List.take_length] at hr;rw [List.take_length];go_wp2;go_ret;exact ⟨_,rfl,hr,hs⟩
theorem MR.cells {w:World} {m:Nat} {ro:Option Addr} {rc:Nat} {mo:Option Addr} {mc:Nat} {L:List Sym} {R:List Ru} (h:MR w m ro rc mo mc L R):w.cell? ⟨m,0,none⟩=some (.slice ro L.length rc)∧w.cell? ⟨m,1,none⟩=some (.slice mo R.length mc):=⟨Zb h.blk 0,Zb h.blk 1⟩
theorem Zh8 (ao:Option Addr) (n c:Nat) (w:World):(binOp .eql 22 (.slice ao n c) (.slice none 0 0)).run Tryz.prog w=.ok (.bool ao.isNone) w:=by
 cases ao <;> kernel_rfl
theorem Zrj (n c:Nat) (w:World):Calls Tryz.prog 120 #[.slice none n c] w λ e w' => e=.returned (.slice none 0 0)∧w' = w:=by
 have he:=Zh8
 go_enter Tryz.func120,Tryz.ntmps120
 go_wp2;go_ret;exact ⟨rfl,rfl⟩
theorem Zmm (a:Addr) (n c:Nat) (xs:List Value) (w:World) (hl:xs.length=n * 3) (hc:∀ j u,xs[j]? = some u->w.cell? (a.add j)=some u) (h1:∀ u∈xs,u.oneCell' = true) (hn:n<=64) :
  Calls Tryz.prog 120 #[.slice (some a) n c] w λ e w' => ∃ v,e=.returned v∧w'.ownsRow w.heap.size 129 3 v n xs∧Zc (λ _=>False) w w' := by
 have he:=Zh8;obtain ⟨i0,hi0,hz0,hz1,hz2⟩:=info_parts Zar
 go_enter Tryz.func120,Tryz.ntmps120
 have hown:(w.alloc (.cells #[] 129)).ownsRow w.heap.size 129 3 (.slice (some ⟨w.heap.size,0,none⟩) 0 0) 0 []:=World.ownsRow_made w #[] 0 (Nat.le_refl _) (by simp) (by simp)
 have hnews:∀ j u,xs[j]? = some u->(w.alloc (.cells #[] 129)).cell? (a.add j)=some u:=λ j u hu=>by
  have h:=hc j u hu;rw [Zc.cell ((Zc.refl (λ _=>False) w).alloc _) (World.block_lt_of_cell? w _ h) (λ f=>f)];exact h
 have b1:0+n<=maxLen:=by unfold maxLen;omega
 have b2:(0+n) * 32<=140737488355328:=by omega
 have b3:w.heap.size<=(w.alloc (.cells #[] 129)).heap.size:=by simp
 go_wp2_with (first | (at_builtin;refine wpList_append_own _ rfl _ _ 22 rfl w.heap.size 129 i0 _ 3 32 Tryz.underlying22 hi0 hz0 hz1 hz2 rfl (by omega) (.slice (some ⟨w.heap.size,0,none⟩) 0 0) 0 [] rfl hown a n c xs rfl hl hnews h1 b1 b2 b3 ?_;intro v' w1 hown1 hgrow _))
 go_ret;refine ⟨v', rfl,by simpa using hown1,?_⟩;exact Zc.grown (Zc.alloc (Zc.refl _ w) _) hgrow (λ k e hk=>by simp only [Value.ownBlock,Option.some.injEq] at e;omega)
theorem Zow {w:World} {v:Value} {L:List Sym} {base:Nat} (hr:w.ownsRow base 129 3 v L.length (Z0 L)) (hn:L.length<=64) :
  Calls Tryz.prog 120 #[v] w λ e w' => ∃ v', e=.returned v' ∧ w'.ownsRow w.heap.size 129 3 v' L.length (Z0 L)∧Zc (λ _=>False) w w' := by
 rcases hr.2 with ⟨rfl,h0⟩ | ⟨g,cap,cur,rfl,_⟩
 ·refine (Zrj 0 0 w).mono ?_
  rintro e w' ⟨rfl,rfl⟩;obtain rfl:L=[]:=List.eq_nil_of_length_eq_zero h0;exact ⟨_,rfl,World.ownsRow_nil _ _ _ _,Zc.refl _ _⟩
 ·exact Zmm _ _ _ _ w (Zen L) (hr.cells rfl) (by
   intro u hu;simp only [Z0,List.mem_flatMap] at hu;obtain ⟨x,_,hx⟩:=hu;simp at hx
   rcases hx with rfl | rfl | rfl <;> rfl) hn
theorem Zbc (t xT k e:TypeId) (v:Value) (w:World) (h:Tryz.prog.underlying t=some (.map k e)):(Instr.typeAssert (.iface t v) xT t false).run Tryz.prog w=.ok v w:=by
 simp [Instr.typeAssert,run_underlying h,go_sem,Result.andThen]
theorem Zm0 {r:Nat} {es:Array MapEntry} {clock:Nat} (t:TypeId) (w:World) (hb:w.heap[r]? = some (.map es clock)) :
  (Extern.MapsClone.clone #[.iface t (.map (some r))]).run Tryz.prog w=.ok (.iface t (.map (some w.heap.size))) (w.alloc (.map es clock)):=by
 refine (Sem.run_bind _ _ _ _).trans ?_;simp [MapKept.run_getObj_map hb,Result.andThen,go_sem]
theorem Zku (b:Nat) (es:Array MapEntry) (clock:Nat) (w:World) (hb:w.heap[b]? = some (.map es clock)) :
  Calls Tryz.prog 121 #[.map (some b)] w λ e w' => e=.returned (.map (some w.heap.size))∧w' = w.alloc (.map es clock):=by
 have hq:=λ w=>Zj5 (some b) w
 go_enter Tryz.func121,Tryz.ntmps121
 go_wp2;rw [run_callFunc_extern Tryz.func154 (by kernel_rfl) (by kernel_rfl) (by kernel_rfl) (e:=Extern.MapsClone.clone) (by kernel_rfl),Zm0 185 w hb];simp only [Result.andThen];rw [Oper.upon_value];go_wp2;rw [Zbc 185 _ _ _ _ _ Tryz.underlying185];simp only [Result.andThen];rw [Oper.upon_value];go_wp2;go_ret;exact ⟨rfl,rfl⟩
theorem Zmu (w:World):Calls Tryz.prog 121 #[.map none] w λ e w' => e=.returned (.map none)∧w' = w:=by
 have hq:=λ w=>Zj5 none w
 go_enter Tryz.func121,Tryz.ntmps121
 go_wp2;go_ret;exact ⟨rfl,rfl⟩
theorem Zmq {w:World} {mr:Option Nat} {L:List Sym} (h:Zcv w mr L) :
  Calls Tryz.prog 121 #[.map mr] w λ e w' => ∃ mr', e=.returned (.map mr')∧Zcv w' mr' L∧(∀ k,mr' = some k->k=w.heap.size∧w.heap.size<w'.heap.size)∧Zc (λ _=>False) w w' := by
 cases mr with
 | none=>
  refine (Zmu w).mono ?_;rintro e w' ⟨rfl,rfl⟩;exact ⟨none,rfl,h,by simp,Zc.refl _ _⟩
 | some bm=>
  obtain ⟨n,D,⟨es,clock,hb,hF⟩,hn,hall⟩:=h;refine (Zku bm es clock w hb).mono ?_;rintro e w' ⟨rfl,rfl⟩;exact ⟨some w.heap.size,rfl,⟨n,D,⟨es,clock,heap_alloc_new w _,hF⟩,hn,hall⟩,λ k e=>⟨by simpa using e.symm,by simp⟩,Zc.alloc (Zc.refl _ w) _⟩
theorem Yd.c0 {w:World} {b:Nat} {L:List Sym} {sv:Value} {mr:Option Nat} (h:Yd w b L sv mr):w.cell? ⟨b,0,none⟩=some sv:=Zb h.blk 0
theorem Yd.c1 {w:World} {b:Nat} {L:List Sym} {sv:Value} {mr:Option Nat} (h:Yd w b L sv mr):w.cell? ⟨b,1,none⟩=some (.map mr):=Zb h.blk 1
def Zo1 (w:World) (L:List Sym) (b' : Nat) (w' : World):Prop:=∃ sv mr,Yd w' b' L sv mr∧(∀ k,Foot b' sv mr k->w.heap.size<=k)∧Zc (λ _=>False) w w'
theorem Zra {w w1 w2:World} {L:List Sym} {v' : Value} {mr' : Option Nat} (hn:L.length<=64) (hnm:∀ x∈L,X6 x.name=true) (hr:w2.ownsRow w.heap.size 129 3 v' L.length (Z0 L)) (hm:Zcv w2 mr' L) (hmk:∀ k,mr' = some k->w.heap.size<=k∧k<w2.heap.size) (hk:Zc (λ _=>False) w w2) (_e:w1=w2) :
  Zo1 w L w2.heap.size (w2.alloc (.cells #[v', .map mr'] 187)):=by
 have ha:Zc (λ _=>False) w2 (w2.alloc (.cells #[v', .map mr'] 187)):=Zc.alloc (Zc.refl _ _) _;have hr' := ha.row hr (λ _ _ f=>f);refine ⟨v', mr', ⟨heap_alloc_new w2 _,Yi hr' (Nat.zero_le _),hm.kept ha (λ _ _ f=>f),λ e=>?_,hn,hnm⟩,λ k hk' => ?_,hk.trans ha (λ _ _ f=>f)⟩
 ·have:=(hr.lt _ e).2;omega
 ·rcases hk' with e | e | e
  ·have:=hk.size;omega
  ·exact (hr.lt k e).1
  ·exact (hmk k e).1
theorem Zsk {w:World} {b:Nat} {L:List Sym} {sv:Value} {mr:Option Nat} (hs:Yd w b L sv mr) :
  Calls Tryz.prog 80 #[.pointer (some ⟨b,0,none⟩)] w λ e w' => ∃ b', e=.returned (.pointer (some ⟨b', 0,none⟩))∧b' < w'.heap.size∧Zo1 w L b' w' := by
 have hsD:Yd w.drew b L sv mr:=hs.kept (Zc.drew (Zc.refl (λ _=>False) w)) (λ _ _ f=>f);have q0:=hs.c0;have q1:=hs.c1;have hlen:=hs.len
 go_enter Tryz.func80,Tryz.ntmps80
 go_wp2_with fail
 go_region_with (first
  | (go_at_call 120;refine (Zow (L:=L) (base:=0) (by first | exact hsD.row | exact hsB.row) hlen).mono ?_;rintro e w1 ⟨v', rfl,hv', hkv⟩;obtain ⟨ao,cp,rfl⟩:=Zf hv'; have hsA:Yd w1 b L sv mr:=(by first | exact hsB.kept hkv (λ _ _ f=>f) | exact hsD.kept hkv (λ _ _ f=>f));have qa:=hsA.c1)
  | (go_at_call 121;refine (Zmq (L:=L) (by first | exact hsD.map | exact hsA.map)).mono ?_;rintro e w2 ⟨mr', rfl,hm', hmk,hkm⟩;have hsB:Yd w2 b L sv mr:=(by first | exact hsA.kept hkm (λ _ _ f=>f) | exact hsD.kept hkm (λ _ _ f=>f));have qb:=hsB.c0))
 all_goals
  go_wp2;go_ret;exact ⟨_,rfl,by simp,Zra hlen hs.names (hkm.row hv' (λ _ _ f=>f)) hm' (λ k e=>⟨by have h1:=(hmk k e).1;have h2:=hkv.size;simp at h2;omega,by have h1:=hmk k e;omega⟩) ((Zc.drew (Zc.refl _ w)).trans (hkv.trans hkm (λ _ _ f=>f)) (λ _ _ f=>f)) rfl⟩
theorem Zg3 {w:World} {b bs:Nat} {L:List Sym} {R:List Ru} {lv:Value} {vs:List Value} (h:Kd w b bs L R lv vs) :
  Calls Tryz.prog 35 #[.pointer (some ⟨b,0,none⟩)] w λ e w' => ∃ b', e=.returned (.pointer (some ⟨b', 0,none⟩))∧b' < w'.heap.size∧Zo1 w L b' w' := by
 have c0:=Zb h.blk 0;obtain ⟨⟨sv,mr,hsg,_⟩,_⟩:=h.sig;have C:=Zsk hsg;simp only [List.getElem?_toArray,List.getElem?_cons_zero] at c0;clear h hsg
 go_enter Tryz.func35,Tryz.ntmps35
 go_wp2_with (first | (go_at_call 80;refine C.mono ?_;rintro e w1 ⟨b', rfl,hb,hc⟩))
 go_ret;exact ⟨b', rfl,hb,hc⟩
def Xy (R:List Ru) (l:List Int):List Rw:=l.map (λ i=>(i,(R.getD i.toNat ([],[])).1,[0]))
theorem Zrb {s:Int} {i:Int}:∀ {R:List Ru} {k:Nat},i∈ofF s k R->∃ j,∃ h:j<R.length,i=((k+j:Nat):Int)∧R[j].1.head? = some s
 | [],k,h=>by simp [ofF] at h
 | x :: r,k,h=>by
  rw [ofF] at h
  rcases List.mem_append.1 h with q | q
  ·split at q
   ·simp at q
    exact ⟨0,by simp,by simpa using q,by assumption⟩
   ·simp at q
  ·obtain ⟨j,hj,e1,e2⟩:=Zrb q
   exact ⟨j+1,by simp;omega,by rw [e1];congr 1;omega,by simpa using e2⟩
def V1 (L:List Sym) (s:Nat):List (List Int):=Yu L [[]] 0 s
def Yq (L:List Sym) (R:List Ru) (s:Nat):List Rw:=(Xy R (ofF (s:Int) 0 R)).map (Vj L 0)
theorem Zbi {L:List Sym} {R:List Ru} (hok:∀ x∈R,Ze L x.1=0∧Ze L x.2=0) {s:Nat} {x:Rw} (hx:x∈Xy R (ofF (s:Int) 0 R)):∃ j,∃ h:j<R.length,x=((j:Int),R[j].1,[0])∧Ze L R[j].1=0∧0<R[j].1.length∧Xo x 0=(s:Int):=by
 obtain ⟨i,hi,rfl⟩:=List.mem_map.1 hx;obtain ⟨j,hj,e1,e2⟩:=Zrb hi;have hz:=hok _ (List.getElem_mem hj);have hp:=(Xv hz).1.1;have e3:R.getD i.toNat ([],[])=R[j]:=by rw [e1];simp [List.getD,hj]
 refine ⟨j,hj,by rw [e3,e1];simp,hz.1,hp,?_⟩;rw [e3];unfold Xo;show R[j].1.getD 0 (-1)=_;rw [Y8 hp];exact (Zjf hp _).1 e2
theorem Zjt {L:List Sym} (ha:Ars L) {R:List Ru} (hle:R.length<=100) (hok:∀ x∈R,Ze L x.1=0∧Ze L x.2=0) {s:Nat} (hs:s<L.length):Zob L 2001 (V1 L s) (Yq L R s):=by
 have hP:(V1 L s).length=arN L (s:Int):=by simp [V1,Yu,Zhe]
 have h6:=Xp ha (s:Int);refine ⟨by omega,?_,by omega,?_,?_⟩
 ·simp only [Yq,Xy,List.length_map]
  exact Nat.le_trans (Zed _ _ _) hle
 ·intro p hp
  simp only [V1,Yu,Zhe,List.take_zero,List.nil_append,List.drop_succ_cons,List.drop_nil,List.append_nil] at hp;obtain ⟨i,_,rfl⟩:=List.mem_map.1 hp;simp
 ·intro y hy
  obtain ⟨x,hx,rfl⟩:=List.mem_map.1 hy;obtain ⟨j,hj,rfl,h0,hp,hn⟩:=Zbi hok hx;have hT:=Zg.1 h0;obtain ⟨a1,a2⟩:=Zgd hT.2.2 hp;have e1:(Vj L 0 ((j:Int),R[j].1,[0])).2.2=Zz L R[j].1 0:=by simp [Vj,Zhe]
  have e2:Xo ((j:Int),R[j].1,[0]) 0=R[j].1[0]:=Za2 (x:=((j:Int),R[j].1,[0])) (c:=0) (by simp) hp;rw [e2] at hn;refine ⟨h0,?_,?_,?_⟩
  ·rw [e1,Ya hp,Zl,hn,hP]
  ·rw [e1];exact a2
  ·rw [e1]
   have:=Zdo hT.2.2;show wtL L R[j].1 (Zz L R[j].1 0)<2001;omega
theorem Znt {w:World} {b bs bt:Nat} {L:List Sym} {R:List Ru} {lv:Value} {vs:List Value} (hg:Sg w.heap.size w bt L) (h:Kd w b bs L R lv vs) {s:Nat} (hs:s<L.length) :
  Calls Tryz.prog 39 #[.pointer (some ⟨bt,0,none⟩),.pointer (some ⟨b,0,none⟩),.int .i64 (s:Int)] w λ e w' => ∃ po pc ro rc,e=.returned (.agg #[.pointer (some ⟨bt,0,none⟩),.slice po (V1 L s).length pc,.slice ro (Yq L R s).length rc])∧Zg9 w' L 2001 bt po pc (V1 L s) ro (Yq L R s)∧Za w w' := by
 have hle:=h.le;have hok:=h.ok;have hol:=Zed (s:Int) R 0;obtain ⟨W3,hW3⟩:∃ W3,W3=((w.alloc Za7).alloc (.cells #[] 3)).alloc (.cells #[.slice (some ⟨w.heap.size+1,0,none⟩) 0 0] 32):=⟨_,rfl⟩;have KW:Za w W3:=by rw [hW3];exact (((Zc.refl _ w).alloc _).alloc _).alloc _
 have ez:W3.heap.size=w.heap.size+1+1+1:=by rw [hW3];simp
 have RS:Hid (∀ ww,Za W3 ww->ww.heap[w.heap.size]? = some (.cells #[.pointer none,.slice none 0 0,.slice none 0 0] 106 (0,0))):=λ ww hk=>hk.at0 (by
  have k2:Za (w.alloc Za7) W3:=by rw [hW3];exact ((Zc.refl _ _).alloc _).alloc _
  exact k2.at0 (heap_alloc_new w _))
 have PS:Hid (∀ ww,Za W3 ww->Zbt ww (some ⟨w.heap.size+1+1,0,none⟩) [[]]):=λ ww hk=>Zbt.same (by
  have h1:W3.heap[w.heap.size+1+1]? = some (.cells #[.slice (some ⟨w.heap.size+1,0,none⟩) 0 0] 32 (0,0)):=by
   have:=Zp (w.alloc Za7) (.cells #[] 3) (.cells #[.slice (some ⟨w.heap.size+1,0,none⟩) 0 0] 32);rw [World.size_alloc] at this;rw [hW3];exact this
  have h2:W3.heap[w.heap.size+1]? = some (.cells #[] 3 (0,0)):=by
   have k2:Za ((w.alloc Za7).alloc (.cells #[] 3)) W3:=by rw [hW3];exact (Zc.refl _ _).alloc _
   exact k2.at0 (Zp _ _ _)
  refine .inr ⟨_,0,rfl,⟨_,h1⟩,λ i hi=>?_⟩;obtain rfl:i=0:=by simp at hi;omega
  exact ⟨some ⟨w.heap.size+1,0,none⟩,0,Zb h1 0,⟨.inl rfl,Nat.le_refl _,(λ e=>by cases e),by simp⟩,λ a e=>(by cases e;exact ⟨_,h2⟩),λ a e=>(by cases e;exact ⟨_,_,rfl,h2,rfl,by unfold maxLen;omega⟩)⟩) hk
 have HST:Hid (∀ ww,Za w ww->Kd ww b bs L R lv vs):=λ ww hk=>h.same hk;have HSG:Hid (∀ ww,Za w ww->Sg ww.heap.size ww bt L):=λ ww hk=>Zcy (hg.same hk) hk.size;have NB:Hid (Zob L 2001 (V1 L s) (Yq L R s)):=Zjt hg.2 hle hok hs
 have HOF:Hid (∀ ww,Za W3 ww->Calls Tryz.prog 82 #[.pointer (some ⟨b,0,none⟩),.int .i64 (s:Int)] ww λ e w' => ∃ oo oc,e=.returned (.slice oo (ofF (s:Int) 0 R).length oc)∧Hid (Xx w' oo (ofF (s:Int) 0 R) oc)∧Za ww w'):=λ ww hk=>(Zvs (HST.out ww (KW.trans' hk)) (s:Int)).mono (λ e w' ⟨v,e1,e2,e3⟩=>by
  obtain ⟨oo,oc,rfl,i1,_⟩:=e2.arg (by omega)
  exact ⟨oo,oc,e1,i1,e3⟩)
 have HFA:Hid (∀ x∈Xy R (ofF (s:Int) 0 R),∃ j,∃ h:j<R.length,x=((j:Int),R[j].1,[0])∧Ze L R[j].1=0∧0<R[j].1.length∧Xo x 0=(s:Int)):=λ x hx=>Zbi hok hx;clear h hg;have K4:Za W3 (W3.alloc (.cells #[.pointer (some ⟨bt,0,none⟩),.slice (some ⟨w.heap.size+1+1,0,none⟩) 1 1,.slice none 0 0] 106)):=(Zc.refl _ _).alloc _;have C1:=HOF.out _ K4;generalize hof:ofF (s:Int) 0 R=O at *
 go_enter Tryz.func39,Tryz.ntmps39
 go_upto_region 2 with fail
 rw [<- hW3];have N0:Hid ((W3.alloc (.cells #[.pointer (some ⟨bt,0,none⟩),.slice (some ⟨w.heap.size+1+1,0,none⟩) 1 1,.slice none 0 0] 106)).heap[W3.heap.size]? = some (.cells #[.pointer (some ⟨bt,0,none⟩),.slice (some ⟨w.heap.size+1+1,0,none⟩) 1 1,.slice none 0 0] 106 (0,0))):=heap_alloc_new W3 _;obtain ⟨kb,hkb⟩:∃ kb,kb=W3.heap.size:=⟨_,rfl⟩;have HKB:Hid (kb=W3.heap.size):=hkb;have ez3:w.heap.size+1+1+1=kb:=by rw [hkb,ez]
 rw [ez3];rw [<- hkb] at N0;have hzk:(W3.alloc (.cells #[.pointer (some ⟨bt,0,none⟩),.slice (some ⟨w.heap.size+1+1,0,none⟩) 1 1,.slice none 0 0] 106)).heap.size=kb+1:=by rw [hkb];simp
 have HZK:Hid (kb+1=(W3.alloc (.cells #[.pointer (some ⟨bt,0,none⟩),.slice (some ⟨w.heap.size+1+1,0,none⟩) 1 1,.slice none 0 0] 106)).heap.size):=hzk.symm;clear hW3 hkb ez hzk
 go_upto_region 3 with (first | (go_at_call 82;refine C1.mono ?_;rintro e w5 ⟨oo,oc,rfl,hoi,k5⟩))
 have HOE:Hid (ofF (s:Int) 0 R=O):=hof;have K5:Za W3 w5:=K4.trans' k5;have N5:Hid (w5.heap[kb]? = some (.cells #[.pointer (some ⟨bt,0,none⟩),.slice (some ⟨w.heap.size+1+1,0,none⟩) 1 1,.slice none 0 0] 106 (0,0))):=k5.at0 N0.out;have hkb5:kb+1<=w5.heap.size:=by rw [HZK.out];exact k5.size
 have HOI:Hid (∀ ww,Za w5 ww->Xx ww oo O oc):=λ ww hk=>hoi.out.same hk;clear hof N0 C1 HOF hoi K4 k5 hok
 go_loopw [20] (λ i wr=>∃ (j:Nat) (lv:Value) (us:List Value),j<=O.length∧i=.int .i64 (j:Int)∧Hid (wr.heap[kb]? = some (.cells #[.pointer (some ⟨bt,0,none⟩),.slice (some ⟨w.heap.size+1+1,0,none⟩) 1 1,lv] 106 (0,0)))∧Hid (wr.ownsRow (kb+1) 168 3 lv j us)∧Hid (Yr wr us (Xy R (O.take j)))∧Za W3 wr∧Hid (Xx wr oo O oc)) (λ i _=>O.length-(intOf i).toNat)
 case atStart=>exact ⟨0,.slice none 0 0,[],Nat.zero_le _,rfl,N5,World.ownsRow_nil _ _ _ _,by simpa [Hid,Xy] using Yr.nil _,K5,HOI.out _ (Zc.refl _ _)⟩
 case round=>
  clear K5 N5 hkb5 HOI;obtain ⟨j,lv,us,hj,rfl,hN,hr,hus,hw,hoi⟩:=hrel;obtain ⟨lo,lc,rfl⟩:=Zf hr.out
  by_cases hlt:j<O.length
  ·obtain ⟨ob,ooff,rfl,hob,hoc⟩:=hoi.out.1.at'.get hlt
   have hmem:(O[j],(R.getD O[j].toNat ([],[])).1,[0])∈Xy R O:=List.mem_map.2 ⟨O[j],List.getElem_mem hlt,rfl⟩;obtain ⟨q,hq,hqe,hq0,hqp,hqn⟩:=HFA.out _ hmem;have hOq:O[j]=(q:Int):=congrArg Prod.fst hqe;have hkr:kb<wr.heap.size:=Zi hN.out;have hT:=Zg.1 hq0;have CA:=Zvp (HST.out wr (KW.trans' hw)) q hq
   have CK:Hid (∀ ww g c', Za wr ww->Vo ww g c' R[q].1->Calls Tryz.prog 59 #[.pointer (some ⟨bt,0,none⟩),.slice (some ⟨g,0,none⟩) R[q].1.length c'] ww λ e w' => e=.returned (.int .i64 0)∧Za ww w'):=λ ww g c' hk ht=>by
    have:=Jj (cap:=c') (HSG.out ww ((KW.trans' hw).trans' hk)) (Vo.arg ht hT.1).at' (by unfold maxLen;omega);rw [hq0] at this;exact this
   have i1:(0:Int)<=(j:Int):=by omega
   have i2:(j:Int)<(O.length:Int):=by omega
   rw [hOq] at hoc;have CAH:Hid (Calls Tryz.prog 22 #[.pointer (some ⟨b,0,none⟩),.int .i64 (q:Int)] wr λ e w' => ∃ g c g' c', e=.returned (.tuple #[.agg #[.slice (some ⟨g,0,none⟩) R[q].1.length c,.slice (some ⟨g', 0,none⟩) R[q].2.length c'],.int .i64 0])∧Hid (Vo w' g c R[q].1)∧Za wr w'):=CA.mono (λ e w' ⟨v,e1,⟨g,c,g', c', e2,t1,t2,_⟩,k⟩=>⟨g,c,g', c', by rw [e1,e2],t1,k⟩);have CA2:=CAH.out;have hBX:Hid (∀ ww,Za wr ww->ww.cell? ⟨kb,2,none⟩=some (.slice lo j lc)):=λ ww hk=>Zb (hk.at0 hN.out) 2;have HRW:Hid (∀ ww,Za wr ww->ww.ownsRow (kb+1) 168 3 (.slice lo j lc) j us):=λ ww hk=>hk.row hr.out (λ _ _ f=>f);have hzz:Hid (∀ ww,Za wr ww->kb+1<=ww.heap.size):=λ ww hk=>by have:=hk.size;omega
   have hj1000:j<=1000:=by omega
   have FIN:Hid (∀ w7 g c q0 gg cap w11,Za wr w7->Vo w7 g c R[q].1->Xx w7 (some ⟨q0,0,none⟩) (ofN [0]) 1->w11.ownsRow (kb+1) 168 3 (.slice (some ⟨gg,0,none⟩) (j+1) cap) (j+1) (us ++ [.int .i64 (q:Int),.slice (some ⟨g,0,none⟩) R[q].1.length c,.slice (some ⟨q0,0,none⟩) 1 1])->Zc (λ k=>(Value.slice lo j lc).ownBlock=some k) w7 w11->(w11.cell? ⟨kb,2,none⟩=some (.slice lo j lc)∧w11.frozen? ⟨kb,2,none⟩=false)∧Hid (∃ us', Hid ((w11.setCell ⟨kb,2,none⟩ (.slice (some ⟨gg,0,none⟩) (j+1) cap)).heap[kb]? = some (.cells #[.pointer (some ⟨bt,0,none⟩),.slice (some ⟨w.heap.size+1+1,0,none⟩) 1 1,.slice (some ⟨gg,0,none⟩) (j+1) cap] 106 (0,0)))∧Hid ((w11.setCell ⟨kb,2,none⟩ (.slice (some ⟨gg,0,none⟩) (j+1) cap)).ownsRow (kb+1) 168 3 (.slice (some ⟨gg,0,none⟩) (j+1) cap) (j+1) us')∧Hid (Yr (w11.setCell ⟨kb,2,none⟩ (.slice (some ⟨gg,0,none⟩) (j+1) cap)) us' (Xy R (O.take (j+1))))∧Za W3 (w11.setCell ⟨kb,2,none⟩ (.slice (some ⟨gg,0,none⟩) (j+1) cap))∧Hid (Xx (w11.setCell ⟨kb,2,none⟩ (.slice (some ⟨gg,0,none⟩) (j+1) cap)) (some ⟨ob,ooff,none⟩) O oc))):=by
    intro w7 g c q0 gg cap w11 k7 t7 a0 r11 k11;have hr7:=k7.row hr.out (λ _ _ f=>f);have n7:=k7.at0 hN.out
    have nk:¬ (Value.slice lo j lc).ownBlock=some kb:=λ e=>by
     obtain ⟨cu,h5⟩:=Yj hr7 e;rw [n7] at h5;cases h5
    have n11:=k11.at n7 nk;have ks:Zc (λ k=>k=kb) w11 (w11.setCell ⟨kb,2,none⟩ (.slice (some ⟨gg,0,none⟩) (j+1) cap)):=Zc.setCell (p:=⟨kb,2,none⟩) (Zc.refl (λ k=>k=kb) w11) (λ _=>rfl) _;obtain ⟨xo,xc,e1,a1,_⟩:=Row.arg t7 (by omega);simp only [Value.slice.injEq] at e1;obtain ⟨rfl,_,rfl⟩:=e1;refine ⟨⟨Zb n11 2,Zd n11 2⟩,us ++ [.int .i64 (q:Int),.slice (some ⟨g,0,none⟩) R[q].1.length c,.slice (some ⟨q0,0,none⟩) 1 1],Zs n11 2 _,?_,?_,?_,?_⟩
    ·exact ks.row r11 (λ k e f=>by
      obtain ⟨cu,h5⟩:=Yj r11 e;subst f
      rw [n11] at h5;cases h5)
    ·show Yr _ _ _
     have e5:Xy R (O.take (j+1))=Xy R (O.take j) ++ [((q:Int),R[q].1,[0])]:=by
      rw [List.take_add_one,List.getElem?_eq_getElem hlt];unfold Xy;rw [List.map_append];congr 1;rw [<- hqe];rfl
     rw [e5];have:=(hus.out.same k7).snoc (x:=((q:Int),R[q].1,[0])) a1 a0;exact (this.kept k11 (Zlq hr7)).kept ks (λ k e cur h5=>by subst e;rw [n11] at h5;cases h5)
    ·refine Zc.trans (Zc.trans (hw.trans' k7) k11 (λ i hi e=>?_)) ks (λ i hi e=>by have:=HKB.out;omega)
     have:=(hr7.lt i e).1;have:=HKB.out;omega
    ·exact (((hoi.out.same k7).kept k11 (Zlq hr7)).kept ks (λ k e cur h5=>by subst e;rw [n11] at h5;cases h5))
   have TA:Hid (∀ w8:World,Xx (w8.alloc (.cells #[.int .i64 0] 3)) (some ⟨w8.heap.size,0,none⟩) (ofN [0]) 1):=λ w8=>⟨Kx w8 [0] 3 (by simp) rfl,λ a e=>(by cases e;exact ⟨_,heap_alloc_new w8 _⟩),λ a e=>(by cases e;exact ⟨_,_,rfl,heap_alloc_new w8 _,rfl,by unfold maxLen;omega⟩)⟩;have XB:Hid (∀ w6 w8:World,∀ x y:Value,Za (w6.alloc (.cells #[x,y] 68)) w8->w8.cell? ⟨w6.heap.size,0,none⟩=some x):=λ w6 w8 x y hk=>Zb (hk.at0 (heap_alloc_new w6 _)) 0;clear CA CAH hN hr hus hoi hmem HFA hqe hq0 hqp hqn hOq hT hkr hw NB HOE PS RS HSG HST
   go_wp2_with (first
    | (go_at_call 22;refine CA2.mono ?_;rintro e w6 ⟨g,c', g', c'', rfl,ht,k6⟩;have ka:Za wr (w6.alloc (.cells #[.slice (some ⟨g,0,none⟩) R[q].1.length c', .slice (some ⟨g', 0,none⟩) R[q].2.length c''] 68)):=Zc.alloc k6 _;have kx:Za w6 (w6.alloc (.cells #[.slice (some ⟨g,0,none⟩) R[q].1.length c', .slice (some ⟨g', 0,none⟩) R[q].2.length c''] 68)):=(Zc.refl _ _).alloc _;have CK2:=CK.out _ g c' ka (ht.out.same kx))
    | (go_at_call 59;refine CK2.mono ?_;rintro e w8 ⟨rfl,k8⟩;have k18:=ka.trans' k8;have x0:=XB.out _ _ _ _ k8;have y0:=hBX.out _ k18;have t8:=(ht.out.same kx).same k8;have k7:Za wr (w8.alloc (.cells #[.int .i64 0] 3)):=Zc.alloc k18 _;have hz7:=hzz.out _ k7)
    | (at_builtin;refine Zhl (w0:=w8.alloc (.cells #[.int .i64 0] 3)) rfl _ _ rfl (kb+1) j us (.slice lo j lc) rfl ((Zc.refl _ _).alloc _) (HRW.out _ k7) (.int .i64 (q:Int)) (.slice (some ⟨g,0,none⟩) R[q].1.length c') (.slice (some ⟨w8.heap.size,0,none⟩) 1 1) (w8.heap.size+1) rfl (Zp _ _ _) rfl rfl rfl hz7 hj1000 ?_;intro gg cap w11 r11 k11;obtain ⟨⟨y1,y2⟩,FF⟩:=FIN.out _ g c' w8.heap.size gg cap w11 k7 (t8.same ((Zc.refl _ _).alloc _)) (TA.out w8) r11 k11))
   obtain ⟨us', z1,z2,z3,z4,z5⟩:=FF.out;exact ⟨⟨j+1,_,us', by omega,by go_num,z1,z2,z3,z4,z5⟩,by simp [intOf];omega⟩
  ·obtain rfl:j=O.length:=by omega
   have hN' := hN.out;have rs:=RS.out wr hw;have n0:=Zb hN' 0;have n1:=Zb hN' 1;have n2:=Zb hN' 2;simp only [List.getElem?_toArray,List.getElem?_cons_zero,List.getElem?_cons_succ] at n0 n1 n2;have hus' := hus.out;rw [List.take_length] at hus';obtain ⟨ro,rc,e1,r1,r2, -⟩:=Zg0 hr.out hus';have hol2:(Xy R O).length=O.length:=by simp [Xy]
   rw [hol2] at e1
   have KI:Ziq wr L bt (some ⟨w.heap.size+1+1,0,none⟩) 1 [[]] 0 s ro (Xy R O):=⟨HSG.out wr (KW.trans' hw),PS.out wr hw,(λ e=>by cases e),Nat.le_refl _,by simp,hs,r1,by omega,by simp,by simp,λ x hx=>by
    obtain ⟨q,hq,rfl,h0,hp,hn⟩:=HFA.out x hx
    exact ⟨h0,rfl,λ p hp' => by simp at hp'; subst hp'; exact hp,hn⟩⟩
   have CKD:=Zon KI (no:=ro) (nl:=O.length) (nc:=rc) (hcap:=rc);simp only [Value.slice.injEq] at e1;obtain ⟨rfl, -,rfl⟩:=e1;rw [hol2] at CKD
   have RC:Hid (∀ ww,Za W3 ww->(ww.cell? ⟨w.heap.size,0,none⟩=some (.pointer none)∧ww.cell? ⟨w.heap.size,1,none⟩=some (.slice none 0 0)∧ww.cell? ⟨w.heap.size,2,none⟩=some (.slice none 0 0))∧ww.frozen? ⟨w.heap.size,0,none⟩=false∧ww.frozen? ⟨w.heap.size,1,none⟩=false∧ww.frozen? ⟨w.heap.size,2,none⟩=false):=λ ww hk=>by
    have rs:=RS.out ww hk;exact ⟨⟨Zb rs 0,Zb rs 1,Zb rs 2⟩,Zd rs 0,Zd rs 1,Zd rs 2⟩
   have FIN:Hid (∀ w9 po pc xo xc,Za wr w9->Zbt w9 po (Yu L [[]] 0 s)->(po=none->pc=0)->(Yu L [[]] 0 s).length<=pc->Zes w9 xo ((Xy R O).map (Vj L 0))->((((w9.setCell ⟨w.heap.size,0,none⟩ (.pointer (some ⟨bt,0,none⟩))).setCell ⟨w.heap.size,1,none⟩ (.slice po (Yu L [[]] 0 s).length pc)).setCell ⟨w.heap.size,2,none⟩ (.slice xo O.length xc)).cell? ⟨w.heap.size,0,none⟩=some (.pointer (some ⟨bt,0,none⟩))∧(((w9.setCell ⟨w.heap.size,0,none⟩ (.pointer (some ⟨bt,0,none⟩))).setCell ⟨w.heap.size,1,none⟩ (.slice po (Yu L [[]] 0 s).length pc)).setCell ⟨w.heap.size,2,none⟩ (.slice xo O.length xc)).cell? ⟨w.heap.size,1,none⟩=some (.slice po (Yu L [[]] 0 s).length pc)∧(((w9.setCell ⟨w.heap.size,0,none⟩ (.pointer (some ⟨bt,0,none⟩))).setCell ⟨w.heap.size,1,none⟩ (.slice po (Yu L [[]] 0 s).length pc)).setCell ⟨w.heap.size,2,none⟩ (.slice xo O.length xc)).cell? ⟨w.heap.size,2,none⟩=some (.slice xo O.length xc))∧∃ po' pc' ro' rc', Ending.returned (Value.agg #[.pointer (some ⟨bt,0,none⟩),.slice po (Yu L [[]] 0 s).length pc,.slice xo O.length xc])=.returned (.agg #[.pointer (some ⟨bt,0,none⟩),.slice po' (V1 L s).length pc', .slice ro' (Yq L R s).length rc'])∧Zg9 (((w9.setCell ⟨w.heap.size,0,none⟩ (.pointer (some ⟨bt,0,none⟩))).setCell ⟨w.heap.size,1,none⟩ (.slice po (Yu L [[]] 0 s).length pc)).setCell ⟨w.heap.size,2,none⟩ (.slice xo O.length xc)) L 2001 bt po' pc' (V1 L s) ro' (Yq L R s)∧Za w (((w9.setCell ⟨w.heap.size,0,none⟩ (.pointer (some ⟨bt,0,none⟩))).setCell ⟨w.heap.size,1,none⟩ (.slice po (Yu L [[]] 0 s).length pc)).setCell ⟨w.heap.size,2,none⟩ (.slice xo O.length xc))):=by
    intro w9 po pc xo xc k9 p1 p2 p3 p4;have rs9:=RS.out w9 (hw.trans' k9);have s3:=Zs (Zs (Zs rs9 0 (.pointer (some ⟨bt,0,none⟩))) 1 (.slice po (Yu L [[]] 0 s).length pc)) 2 (.slice xo O.length xc);have k1:=Zc.setCell (p:=⟨w.heap.size,0,none⟩) (Zc.refl (λ q=>q=w.heap.size) w9) (λ _=>rfl) (.pointer (some ⟨bt,0,none⟩));have k2:=Zc.setCell (p:=⟨w.heap.size,1,none⟩) k1 (λ _=>rfl) (.slice po (Yu L [[]] 0 s).length pc);have kk:=Zc.setCell (p:=⟨w.heap.size,2,none⟩) k2 (λ _=>rfl) (.slice xo O.length xc);have kS:=Zc.trans ((KW.trans' hw).trans' k9) kk (λ i hi e=>by omega);have nb:∀ q,q=w.heap.size->NdB w9 q:=λ q e=>by subst e;exact ⟨_,rs9⟩
    refine ⟨⟨Zb s3 0,Zb s3 1,Zb s3 2⟩,po,pc,xo,xc,?_,⟨HSG.out _ kS,p1.keptN kk nb,p2,p3,?_,NB.out⟩,kS⟩
    ·have:(Yq L R s).length=O.length:=by unfold Yq;rw [HOE.out,List.length_map,hol2]
     rw [this];rfl
    ·have:Yq L R s=(Xy R O).map (Vj L 0):=by unfold Yq;rw [HOE.out]
     rw [this];exact p4.keptN kk nb
   have CKH:Hid (Calls Tryz.prog 83 #[.agg #[.pointer (some ⟨bt,0,none⟩),.slice (some ⟨w.heap.size+1+1,0,none⟩) 1 1,.slice lo O.length lc],.int .i64 0,.int .i64 (s:Int),.slice lo O.length lc] wr λ e w' => ∃ po pc xo xc,e=.returned (.agg #[.pointer (some ⟨bt,0,none⟩),.slice po (Yu L [[]] 0 s).length pc,.slice xo O.length xc])∧Hid (Zbt w' po (Yu L [[]] 0 s)∧(po=none->pc=0)∧(Yu L [[]] 0 s).length<=pc∧Zes w' xo ((Xy R O).map (Vj L 0)))∧Za wr w'):=CKD.mono (λ e w' ⟨po,pc,xo,xc,q1,q2,q3,q4,q5,q6,q7⟩=>⟨po,pc,xo,xc,by rw [q1,hol2],⟨q2,q3,q4,q5⟩,q7⟩);have CK3:=CKH.out;clear hN hr hus hN' rs hus' r1 r2 KI CKD CKH hol2 hoi HFA NB HOE PS RS HSG HST
   go_wp2_with (first | (go_at_call 83;refine CK3.mono ?_;rintro e w9 ⟨po,pc,xo,xc,rfl,hq,k9⟩;obtain ⟨⟨q0,q1,q2⟩,f0,f1,f2⟩:=RC.out w9 (hw.trans' k9)))
   obtain ⟨p1,p2,p3,p4⟩:=hq.out;obtain ⟨⟨g0,g1,g2⟩,FF⟩:=FIN.out w9 po pc xo xc k9 p1 p2 p3 p4;exact bodyPost_ret (v:=.agg #[.pointer (some ⟨bt,0,none⟩),.slice po (Yu L [[]] 0 s).length pc,.slice xo O.length xc]) (by simp [results,Tryz.results39,go_sem,g0,g1,g2]) rfl FF
theorem Zly {n b:Nat} {w:World} {L:List Sym} (h:Sg n w b L) (x:Int) :
  Calls Tryz.prog 36 #[.pointer (some ⟨b,0,none⟩),.int .i64 x] w λ e w' => e=.returned (.bool (Y7 L x))∧Za w w' := by
 by_cases hx:x<0∨(L.length:Int)<=x
 ·have H1:Hid (Y7 L x=false):=Zf9 hx
  have c:=Zl0 h hx;clear h
  go_enter Tryz.func36,Tryz.ntmps36
  go_wp2_with (first | (go_at_call 81;refine c.mono ?_;rintro e w' ⟨rfl,hk⟩))
  go_ret;exact ⟨by rw [H1.out];rfl,Zc.alloc hk _⟩
 ·obtain ⟨i,rfl⟩:∃ i:Nat,x=(i:Int):=⟨x.toNat,by omega⟩
  have hi:i<L.length:=by omega
  have H1:Hid (Y7 L (i:Int)=L[i].df):=Zbv hi;have c:=Zbk h hi;clear h
  go_enter Tryz.func36,Tryz.ntmps36
  go_wp2_with (first | (go_at_call 81;refine c.mono ?_;rintro e w' ⟨rfl,hk⟩))
  go_ret;exact ⟨by rw [H1.out];rfl,Zc.alloc hk _⟩
theorem Znl (v:Value) (w:World):(Instr.typeAssert (.iface 98 v) 20 98 true).run Tryz.prog w=.ok (.tuple #[v,.bool true]) w:=by kernel_rfl
theorem Zmz (k:Nat) (w:World):Calls Tryz.prog 38 #[.iface 98 (.pointer (some ⟨k,0,none⟩))] w λ e w' => e=.returned (.iface 98 (.pointer (some ⟨k,0,none⟩)))∧w' = w:=by
 have hta:=Znl (.pointer (some ⟨k,0,none⟩)) w
 go_enter Tryz.func38,Tryz.ntmps38
 go_wp2_with fail
 go_ret;exact ⟨rfl,rfl⟩
theorem any_ne (v:Value) (w:World):(binOp .neq 20 (.iface 98 v) .nilIface).run Tryz.prog w=.ok (.bool true) w:=by kernel_rfl
theorem Zoh (w:World):(binOp .neq 20 .nilIface .nilIface).run Tryz.prog w=.ok (.bool false) w:=by kernel_rfl
theorem Znp {ps pe:Nat} {s:Int} (k:Nat) (w:World) (hs:w.cell? ⟨ps,0,none⟩=some (.int .i64 s)) {x:Value} (he:w.heap[pe]? = some (.cells #[x] 37 (0,0))) (hpe:¬ ps=pe) :
  CallsD Tryz.prog 37 #[.pointer (some ⟨ps,0,none⟩),.pointer (some ⟨pe,0,none⟩)] (.panicking [{ v:=.iface 98 (.pointer (some ⟨k,0,none⟩)),recovered:=false }]) w λ e u' w' =>
   e=.returned (.tuple #[])∧u' = .panicking [{ v:=.iface 98 (.pointer (some ⟨k,0,none⟩)),recovered:=true }]∧∃ q,w'.heap[q]? = some (.cells #[.int .i64 81,.int .i64 s,.iface 98 (.pointer (some ⟨k,0,none⟩))] 100 (0,0))∧w'.heap[pe]? = some (.cells #[.iface 98 (.pointer (some ⟨q,0,none⟩))] 37 (0,0))∧Zc (λ i=>i=pe) w w' := by
 have hne:=any_ne;have hfk:=Zmz;have c0:=Zb he 0;have f0:=Zd he 0;simp only [List.getElem?_toArray,List.getElem?_cons_zero] at c0;refine callsD_of_wpS Tryz.func37 rfl λ c₀ cs hu=>?_;apply wpS_seq;apply wpS_region;simp [wpOpsS,go_sem,recoverD,hu,Tryz.ntmps37,Exit.thenS];apply wpS_of_wp;have d0:w.drew.cell? ⟨ps,0,none⟩=some (.int .i64 s):=hs;have fa:∀ o,(w.drew.alloc o).cell? ⟨pe,0,none⟩=some x:=λ o=>Xh (w:=w.drew) c0 o;have fz:∀ o,(w.drew.alloc o).frozen? ⟨pe,0,none⟩=false:=λ o=>Zd (Za.at0 (Zc.alloc (Zc.drew (Zc.refl (λ _=>False) w)) o) he) 0
 have FIN:Hid (∃ q,((w.drew.alloc (.cells #[.int .i64 81,.int .i64 s,.iface 98 (.pointer (some ⟨k,0,none⟩))] 100)).setCell ⟨pe,0,none⟩ (.iface 98 (.pointer (some ⟨w.heap.size,0,none⟩)))).heap[q]? = some (.cells #[.int .i64 81,.int .i64 s,.iface 98 (.pointer (some ⟨k,0,none⟩))] 100 (0,0))∧((w.drew.alloc (.cells #[.int .i64 81,.int .i64 s,.iface 98 (.pointer (some ⟨k,0,none⟩))] 100)).setCell ⟨pe,0,none⟩ (.iface 98 (.pointer (some ⟨w.heap.size,0,none⟩)))).heap[pe]? = some (.cells #[.iface 98 (.pointer (some ⟨q,0,none⟩))] 37 (0,0))∧Zc (λ i=>i=pe) w ((w.drew.alloc (.cells #[.int .i64 81,.int .i64 s,.iface 98 (.pointer (some ⟨k,0,none⟩))] 100)).setCell ⟨pe,0,none⟩ (.iface 98 (.pointer (some ⟨w.heap.size,0,none⟩))))):=by
  have ka:Za w (w.drew.alloc (.cells #[.int .i64 81,.int .i64 s,.iface 98 (.pointer (some ⟨k,0,none⟩))] 100)):=Zc.alloc (Zc.drew (Zc.refl _ w)) _;have ks:=Zc.setCell (p:=⟨pe,0,none⟩) (Zc.refl (λ i=>i=pe) (w.drew.alloc (.cells #[.int .i64 81,.int .i64 s,.iface 98 (.pointer (some ⟨k,0,none⟩))] 100))) (λ _=>rfl) (.iface 98 (.pointer (some ⟨w.heap.size,0,none⟩)));have hp:pe<w.heap.size:=Zi he;exact ⟨w.heap.size,ks.at (heap_alloc_new w.drew _) (λ e=>by omega),Zs (ka.at0 he) 0 _,Zc.trans ka.mono' ks (λ _ _ e=>e)⟩
 clear he
 go_wp2_with fail
 have fa1:=fa (.cells #[.int .i64 81,.int .i64 s,.iface 98 (.pointer (some ⟨k,0,none⟩))] 100);have fz1:=fz (.cells #[.int .i64 81,.int .i64 s,.iface 98 (.pointer (some ⟨k,0,none⟩))] 100);have fs1:(w.drew.alloc (.cells #[.int .i64 81,.int .i64 s,.iface 98 (.pointer (some ⟨k,0,none⟩))] 100)).cell? ⟨ps,0,none⟩=some (.int .i64 s):=Xh (w:=w.drew) hs _
 have fs2:((w.drew.alloc (.cells #[.int .i64 81,.int .i64 s,.iface 98 (.pointer (some ⟨k,0,none⟩))] 100)).setCell ⟨pe,0,none⟩ (.iface 98 (.pointer (some ⟨w.heap.size,0,none⟩)))).cell? ⟨ps,0,none⟩=some (.int .i64 s):=by
  have ks:=Zc.setCell (p:=⟨pe,0,none⟩) (Zc.refl (λ i=>i=pe) (w.drew.alloc (.cells #[.int .i64 81,.int .i64 s,.iface 98 (.pointer (some ⟨k,0,none⟩))] 100))) (λ _=>rfl) (.iface 98 (.pointer (some ⟨w.heap.size,0,none⟩)));exact (ks.cell (p:=⟨ps,0,none⟩) (World.block_lt_of_cell? _ _ fs1) hpe).trans fs1
 have fa2:(w.alloc (.cells #[.int .i64 81,.int .i64 s,.iface 98 (.pointer (some ⟨k,0,none⟩))] 100)).cell? ⟨pe,0,none⟩=some x:=fa1;have fz2:(w.alloc (.cells #[.int .i64 81,.int .i64 s,.iface 98 (.pointer (some ⟨k,0,none⟩))] 100)).frozen? ⟨pe,0,none⟩=false:=fz1;clear fa fz;refine wp_region_held_drew (S:=λ w' => w'.cell? ⟨ps,0,none⟩=some (.int .i64 s)) (by kernel_rfl) d0 (λ hHeld=>?_);refine wpAnyH_take (i:=0) (v:=.int .i64 s) rfl (by kernel_rfl) (by kernel_rfl) (by kernel_rfl) (λ _ _ _ h=>h) (.inl ⟨rfl,λ w' hS=>by simp [go_sem,hS]⟩) hHeld ?_;refine wpAnyH_take (i:=1) (v:=.iface 98 (.pointer (some ⟨k,0,none⟩))) rfl (by kernel_rfl) (by kernel_rfl) (by kernel_rfl) (λ _ _ _ h=>h) (.inl ⟨rfl,λ w' hS=>by simp [go_sem]⟩) hHeld ?_;refine wpAnyH_ready (rs:=[2]) (by kernel_rfl) (by simp) ?_;refine AllReadyH.cons rfl (λ K hK=>?_) AllReadyH.nil;refine Yb rfl (hfk k w.drew) (by simp [go_sem]) ?_;rintro e w2 ⟨rfl,rfl⟩;refine ⟨_,rfl,?_⟩;refine hK.out _ _ d0 (λ hHeld=>?_);clear hK K;refine wpAnyH_take (i:=3) (v:=.agg #[.int .i64 81,.int .i64 s,.iface 98 (.pointer (some ⟨k,0,none⟩))]) rfl (by kernel_rfl) (by kernel_rfl) (by kernel_rfl) (λ _ _ _ h=>h) (.inl ⟨rfl,λ w' hS=>by simp [go_sem]⟩) hHeld ?_;refine wpAnyH_ready (rs:=[4]) (by kernel_rfl) (by simp) ?_;refine AllReadyH.cons rfl (λ K hK=>?_) AllReadyH.nil
 go_simp
 refine hK.out _ _ fs1 (λ hHeld=>?_);clear hK K;refine wpAnyH_take (i:=5) (v:=.iface 98 (.pointer (some ⟨w.heap.size,0,none⟩))) rfl (by kernel_rfl) (by kernel_rfl) (by kernel_rfl) (λ _ _ _ h=>h) (.inl ⟨rfl,λ w' hS=>by simp [go_sem]⟩) hHeld ?_;refine wpAnyH_ready (rs:=[6]) (by kernel_rfl) (by simp) ?_;refine AllReadyH.cons rfl (λ K hK=>?_) AllReadyH.nil
 go_simp
 refine hK.out _ _ fs2 (λ hHeld=>?_);clear hK K;refine wpAnyH_done (by kernel_rfl) ?_ _
 go_wp2_with fail
 simp [go_sem,bodyPostS,results,Tryz.results37];exact FIN.out
theorem Znk {ps pe:Nat} (w:World) :
  CallsD Tryz.prog 37 #[.pointer (some ⟨ps,0,none⟩),.pointer (some ⟨pe,0,none⟩)] .returning w λ e u' w' => e=.returned (.tuple #[])∧u' = .returning∧w' = w:=by
 have hne:=Zoh;refine callsD_of_wpS Tryz.func37 rfl λ c₀ cs hu=>?_;apply wpS_seq;apply wpS_region;simp [wpOpsS,go_sem,recoverD,hu,Tryz.ntmps37,Exit.thenS];apply wpS_of_wp
 go_wp2_with fail
 simp [go_sem,bodyPostS,results,Tryz.results37];cases c₀;simp only at hu;subst hu;rfl
end
end Go.Proofs.YtjahpnbijefncaaGreat
