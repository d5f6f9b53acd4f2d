import Derived.WalkKit
import Derived.Test.YtmjgnfkbnofjoaaGreatDoorRN02
import Derived.Laws.CopyOwn
namespace Go.Proofs.YtmjgnfkbnofjoaaGreatDoor
open Go.Proofs.Tryz
set_option maxRecDepth 100000
set_option linter.unusedVariables false
set_option maxHeartbeats 4000000
variable {x:Int} {ld:Int->Int} {f val:Int->List Int} {J a path r t ts u xs:List Int} {L:List Sym} {ys:List Value} {A N P b base cap d g i k m n o p pb q:Nat} {ao:Option Addr} {T:TypeId} {rv v:Value} {w w' w0 w1 wr:World}
section
open Go.RowKit
attribute [local go_sem ↓] Go.wp_at_zero Go.wp_at_succ
def iv (xs:List Int):List Value:=xs.map (Value.int .i64)
theorem Ye (xs:List Int):(iv xs).length=xs.length:=by simp [iv]
theorem Xz (xs ys:List Int):iv (xs++ys)=iv xs++iv ys:=by simp [iv]
theorem Zbt (h:i<xs.length):(iv xs)[i]? = some (.int .i64 xs[i]):=by simp [iv,h]
theorem V7:(prog.info? 3).map (λ i=>(i.zero,i.size,i.bytes))=some (some (.int .i64 0),1,8):=by kernel_rfl
abbrev Row (base:Nat) (w:World) (v:Value) (xs:List Int):Prop:=w.ownsRow base 3 1 v xs.length (iv xs)
def Zx9 (L:List Sym) (t:List Int) (a:Int):Int:=if Zz L t a=0 then (Zj L t a.toNat:Int) else 0
def ofN (l:List Nat):List Int:=l.map (λ (x:Nat)=>(x:Int))
def Zop (L:List Sym) (t:List Int) (a:Int):List Int:=if Zz L t a=0 then ofN (Z8 L t a.toNat) else []
theorem Jw {a:Int} (h:Zz L t a=0):∃ p:Nat,a=(p:Int)∧p<t.length∧Zd L t=0∧t.length<=2000∧IsT L t:=by
 unfold Zz at h
 by_cases hz:Zd L t=0
 ·simp only [hz,ne_eq,not_true,if_false] at h
  have:¬ (a<0∨(t.length:Int)<=a):=by intro hh;simp [hh] at h
  obtain ⟨h1,_,h2⟩:=Ze.1 hz;exact ⟨a.toNat,by omega,by omega,hz,h1,h2⟩
 ·simp [hz] at h
theorem Zha (h:IsT L t) (hp:p<t.length):Zid L t p=(Zj L t p:Int):=by
 rw [Zid,Zs0 h hp]
theorem Zwq (h:Sg n w b L) (ht:Zh w ao t) (hm:t.length<=maxLen) (a:Int) :
  Calls prog 115 #[.pointer (some ⟨b,0,none⟩),.slice ao t.length cap,.int .i64 a] w λ e w' => e=.returned (.tuple #[.int .i64 (Zx9 L t a),.int .i64 (Zz L t a)])∧Za w w' := by
 have c:=Vf (cap:=cap) h ht hm a
 by_cases hz:Zz L t a=0
 ·obtain ⟨p,rfl,hp,h0,h1,h2⟩:=Jw hz
  have H:Hid (Zz L t p=0∧Zx9 L t p=Zid L t p):=by
   refine ⟨hz,?_⟩;rw [Zx9,if_pos hz,Zha h2 hp];rfl
  have c2:∀ w1,Za w w1->Calls prog 154 #[.pointer (some ⟨b,0,none⟩),.slice ao t.length cap,.int .i64 (p:Int)] w1 λ e w' => e=.returned (.int .i64 (Zid L t p))∧Za w1 w' := λ w1 hk=>Zeo (cap:=cap) (h.same hk) (ht.same hk) h1 p (by omega)
  rw [hz] at c
  go_enter func115,ntmps115
  go_wp2_with (first | (go_at_call 162;refine c.mono ?_;rintro e w1 ⟨rfl,hk1⟩) | (go_at_call 154;refine (c2 _ hk1).mono ?_;rintro e w2 ⟨rfl,hk2⟩))
  go_ret2
  exact ⟨by rw [H.out.1,H.out.2];rfl,hk1.trans' hk2⟩
 ·have H:Hid (Zx9 L t a=0):=by show _=_;rw [Zx9,if_neg hz]
  have hz' : (Zz L t a == 0)=false:=by simpa using hz
  go_enter func115,ntmps115
  go_wp2_with (go_at_call 162;refine c.mono ?_;rintro e w1 ⟨rfl,hk1⟩)
  go_ret2
  exact ⟨by rw [H.out];rfl,hk1⟩
theorem Zm7 {α:Type} {l:List α} (h:k<l.length) (u:α):(l.set k u).take (k+1)=l.take k ++ [u]:=by
 rw [List.take_add_one,List.take_set_of_le (Nat.le_refl _)];simp [h]
theorem Za.grown {w2:World} (h:Za w w1) (hg:w1.grownBy w2 none):Za w w2:=Zc.grown h hg (λ _ e _=>by cases e)
theorem Za.own (h:Za w w1) (hg:w.heap.size<=g) (u:Value):Za w (w1.setCell ⟨g,o,none⟩ u):=h.setCell (p:=⟨g,o,none⟩) (λ hlt=>by simp at hlt;omega) u
theorem Zt4 {e:TypeId} (h:w.ownsRow base e 1 (.slice (some ⟨g,0,none⟩) n cap) n ys) (hk:k<n):∃ old,w.cell? ⟨g,k,none⟩=some old∧w.frozen? ⟨g,k,none⟩=false:=by
 have hl:k<ys.length:=by have:=h.1;omega
 exact ⟨ys[k],(h.cellAt k (by omega)).trans (List.getElem?_eq_getElem hl),h.frozenAt k⟩
def Zug (base g A k:Nat) (xs:List Int) (w wr:World):Prop:=∃ ys:List Value,wr.ownsRow base 3 1 (.slice (some ⟨g,0,none⟩) A A) A ys∧ys.take k=iv xs∧Za w wr
theorem Zug.next (h:Zug base g A k xs w wr) (hk:k<A) (hg:w.heap.size<=g) (x:Int):Zug base g A (k+1) (xs ++ [x]) w (wr.setCell ⟨g,k,none⟩ (.int .i64 x)):=by
 obtain ⟨ys,h1,h2,h3⟩:=h;have hl:ys.length=A:=by have:=h1.1;omega
 refine ⟨ys.set k (.int .i64 x),(h1.stored k _).1,?_,h3.own hg _⟩;rw [Zm7 (by omega),h2,Xz];rfl
theorem Zug.same (h:Zug base g A k xs w wr) (hk:Za wr w1):Zug base g A k xs w w1:=by
 obtain ⟨ys,h1,h2,h3⟩:=h;exact ⟨ys,hk.row h1 (λ _ _ f=>f),h2,h3.trans' hk⟩
theorem Zug.row (h:Zug base g A A xs w wr):Row base wr (.slice (some ⟨g,0,none⟩) A A) xs∧xs.length=A:=by
 obtain ⟨ys,h1,h2,_⟩:=h;have hl:ys.length=A:=by have:=h1.1;omega
 rw [List.take_of_length_le (by omega)] at h2;subst h2;have:xs.length=A:=by rw [<- hl,Ye]
 unfold Row;rw [this];exact ⟨h1,rfl⟩
theorem Zww (h:Sg n w b L) (ht:Zh w ao t) (hm:t.length<=maxLen) (a:Int) :
  Calls prog 182 #[.pointer (some ⟨b,0,none⟩),.slice ao t.length cap,.int .i64 a] w λ e w' => ∃ v,e=.returned (.tuple #[v,.int .i64 (Zz L t a)])∧Row w.heap.size w' v (Zop L t a)∧Za w w' := by
 have c:=Vf (cap:=cap) h ht hm a
 by_cases hz:Zz L t a=0
 ·obtain ⟨p,rfl,hp,h0,h1,h2⟩:=Jw hz
  have H:Hid (Zz L t p=0∧Zop L t p=ofN (Zq L t (arN L t[p]) (p+1))):=by
   refine ⟨hz,?_⟩;rw [Zop,if_pos hz];simp only [Int.toNat_natCast];rw [Z9 hp]
  have hf:=(Zs.one h2 hp).kids.2;have har:=Vm h.2 t[p];have c1:∀ w1,Za w w1->Calls prog 201 #[.pointer (some ⟨b,0,none⟩),.int .i64 t[p]] w1 λ e w' => e=.returned (.int .i64 ((arN L t[p]:Nat):Int))∧Za w1 w' := λ w1 hk=>Zjc (h.same hk) t[p]
  have c2:∀ w1 q,Za w w1->q<t.length->Calls prog 154 #[.pointer (some ⟨b,0,none⟩),.slice ao t.length cap,.int .i64 (q:Int)] w1 λ e w' => e=.returned (.int .i64 (Zj L t q:Int))∧Za w1 w' := λ w1 q hk hq=>by
   have:=Zeo (cap:=cap) (h.same hk) (ht.same hk) h1 q (by omega)
   rwa [Zha h2 hq] at this
  have i1:(0:Int)<=(p:Int):=by omega
  have i2:(p:Int)<(t.length:Int):=by omega
  obtain ⟨i,hi,hz0,hz1,hz2⟩:=info_parts V7;obtain ⟨tb,off,rfl,htb,hc⟩:=ht.get hp;have hc' : ∀ w1,Za w w1->w1.cell? ⟨tb,off+p,none⟩=some (.int .i64 t[p]):=λ w1 hk=>(hk.cell (p:=⟨tb,off+p,none⟩) htb (λ f=>f)).trans hc;rw [hz] at c;generalize hA:arN L t[p]=A at *;have hA:Hid (arN L t[p]=A):=hA
  go_enter func182,ntmps182
  go_wp2_with (first | (go_at_call 162;refine c.mono ?_;rintro e w1 ⟨rfl,hk1⟩;have d1:=hc' _ hk1) | (go_at_call 201;refine (c1 _ hk1).mono ?_;rintro e w2 ⟨rfl,hk2⟩;have hk3:=hk1.trans' hk2) | (at_make;refine wpList_make_full _ rfl _ _ 51 rfl w.heap.size 3 i _ 1 underlying51 hi hz0 hz1 _ _ _ _ A rfl rfl rfl rfl (by rw [hz2];omega) (by unfold maxLen;omega) hk3.size ?_;intro w3 hown hgrow))
  have hg:w.heap.size<=w2.heap.size:=hk3.size;have L0:Zug w.heap.size w2.heap.size A 0 (ofN (Zq L t 0 (p+1))) w w3:=⟨_,hown,by simp [iv,ofN,Zq],hk3.grown hgrow⟩;clear hown;generalize w2.heap.size=g at *
  go_loopw [10,30] (λ nx i wr=>∃ k:Nat,k<=A∧i=.int .i64 (k:Int)∧nx=.int .i64 (past L t k (p+1):Int)∧Zug w.heap.size g A k (ofN (Zq L t k (p+1))) w wr) (λ _ i _=>A-(intOf i).toNat)
  case atStart=>exact ⟨0,Nat.zero_le _,rfl,rfl,L0⟩
  case round=>
   obtain ⟨k,hkA,rfl,rfl,hL⟩:=hrel
   by_cases hlt:k<A
   ·have hfk:=hf.drop (i:=k) (by omega)
    rw [show A-k=(A-k-1)+1 by omega] at hfk;have hq:past L t k (p+1)<t.length:=by have:=hfk.pos;have:=hfk.le;omega
    have e1:Hid (past L t (k+1) (p+1)=Zj L t (past L t k (p+1))):=Zaf L t k (p+1);have e2:Hid (ofN (Zq L t (k+1) (p+1))=ofN (Zq L t k (p+1)) ++ [((past L t k (p+1):Nat):Int)]):=by show _=_;rw [Zdp];simp [ofN]
    have hLn:=hL.next hlt hg ((past L t k (p+1):Nat):Int);have hsm:Za w (wr.setCell ⟨g,k,none⟩ (.int .i64 ((past L t k (p+1):Nat):Int))):=by obtain ⟨ys,_,_,h3⟩:=hLn;exact h3
    obtain ⟨old,f2,f1⟩:∃ old,wr.cell? ⟨g,k,none⟩=some old∧wr.frozen? ⟨g,k,none⟩=false:=by obtain ⟨ys,h1,_⟩:=hL;exact Zt4 h1 hlt
    have j1:(0:Int)<=(k:Int):=by omega
    have j2:(k:Int)<(A:Int):=by omega
    have c3:=c2 _ _ hsm hq;clear c1 c2 c hc' hfk hL;generalize hpk:past L t k (p+1)=P at *;generalize hpe:Zj L t P=E at *
    go_wp2_with (go_at_call 154;refine c3.mono ?_;rintro e w5 ⟨rfl,hk5⟩)
    refine ⟨⟨k+1,by omega,by go_num,?_,?_⟩,by simp [intOf];omega⟩
    ·rw [e1.out]
    ·rw [e2.out];exact hLn.same hk5
   ·obtain rfl:k=A:=by omega
    obtain ⟨hr,hl⟩:=hL.row;obtain ⟨_,_,_,hs⟩:=hL;clear c1 c2 c hc';go_wp2
    go_ret2
    refine ⟨.slice (some ⟨g,0,none⟩) k k,?_,?_,hs⟩
    ·rw [H.out.1];rfl
    ·rw [H.out.2];exact hr
 ·have H:Hid (Zop L t a=[]):=by show _=_;rw [Zop,if_neg hz]
  have hz' : (Zz L t a == 0)=false:=by simpa using hz
  go_enter func182,ntmps182
  go_wp2_with (go_at_call 162;refine c.mono ?_;rintro e w1 ⟨rfl,hk1⟩)
  go_ret2
  refine ⟨_,rfl,?_,hk1⟩;rw [H.out];exact World.ownsRow_nil _ _ _ _
def vzs (o:List Int) (x:Int):List Int:=if x<0∧¬ x∈o then o ++ [x] else o
def rn (o:List Int) (x:Int):Int:=if x<0 then -((o.idxOf x:Int)+1) else x
def wrF (o:List Int):List Int->List Int
 | []=>[]
 | x :: r=>rn (vzs o x) x :: wrF (vzs o x) r
theorem Zas (o a:List Int):(wrF o a).length=a.length:=by
 induction a generalizing o with
 | nil=>rfl
 | cons x r ih=>simp [wrF,ih]
end
def Zc0 (L:List Sym) (J:List Int) (m:Nat):Option ((Int->Int) × Int):=
 match Ze9 L J ((J.length+1) * J.length+J.length+3) (ld0 J) [(0,Zj L J 0,m)] with
 | some (some ld)=>
  match Vw L J ld (J.length+1) (λ _=>0) 0 with
  | some (k,_)=>if k = -1 then none else some (ld,k)
  | none=>none
 | _=>none
structure Sol (L:List Sym) (J:List Int) (m:Nat):Prop where
 uni:∃ res,UOk L J res ((J.length+1) * J.length+J.length+3) (ld0 J) [(0,Zj L J 0,m)]∧(res=none->Zc0 L J m=none)∧∀ ld,res=some ld->Zcl J ld∧∃ k sz', Vw L J ld (J.length+1) (λ _=>0) 0=some (k,sz')∧(k = -1->Zc0 L J m=none)∧(k ≠ -1->Zc0 L J m=some (ld,k)∧∃ u,Val L J ld 0 u∧k=min (u.length:Int) 2001)
theorem Zxf (N:Nat) (sz:Nat->Int):unk N sz<=N:=by
 have:=List.countP_le_length (p:=λ p:Nat=>decide (sz p=0)) (l:=List.range N)
 simpa [unk] using this
theorem Zlw (hT:Trs L J) (hv:∀ x∈J, -198<=x) (h0:0<J.length) (hm:m<J.length):Sol L J m:=by
 have hl:=Zuc hv;have hr:Zb8 L J (0,Zj L J 0,m):=⟨1,Zj L J m,hT 0 h0,hT m hm⟩;have hroot:=Zic J (ld0 J);have he:=hT.lt h0
 have hb:(J.length+1) * Zdu J (ld0 J)+Zhq [(0,Zj L J 0,m)]<(J.length+1) * J.length+J.length+3:=by
  have:=Nat.mul_le_mul_left (J.length+1) hroot;simp only [Zhq];omega
 obtain ⟨res,e1,e2⟩:=Zv7 hT _ _ _ hl (λ r hr' => by simp at hr'; rw [hr'];exact hr) hb;refine ⟨res,⟨hT,hl,λ r hr' => by simp at hr'; rw [hr'];exact hr,e1,by simp;omega⟩,?_,?_⟩
 ·intro e
  rw [e] at e1;unfold Zc0;rw [e1]
 ·intro ld e
  have hld:=e2 ld e;rw [e] at e1;have hz:Zbn (λ _=>0):=λ p=>.inr ⟨by simp,by simp⟩;have hk:Zh0 L J ld (λ _=>0):=λ p _ _ h=>by simp at h
  have p0:Z0 J 0:=Zm (p:=0) h0;obtain ⟨k,sz', g1,g2⟩:=Zjz hT hld (J.length+1) (λ _=>0) 0 p0 hz (by have:=Zxf J.length (λ _=>0);omega);obtain ⟨-,g4⟩:=Zgp hT hld _ _ _ _ _ p0 hz hk g1;refine ⟨hld,k,sz', g1,?_,?_⟩
  ·intro e
   unfold Zc0;rw [e1];simp only [g1];rw [if_pos e]
  ·intro e
   refine ⟨by unfold Zc0;rw [e1];simp only [g1];rw [if_neg e],g4 e⟩
def Zka (L:List Sym) (J:List Int) (φ:Int->Int) (r:Nat × Nat × Nat):Prop:=∀ k z,Zs L J k r.1 r.2.1->Zs L J k r.2.2 z->∀ i,i<k->φ (past L J i r.1:Nat)=φ (past L J i r.2.2:Nat)
def Zfx (J:List Int) (φ ld:Int->Int):Prop:=∀ x,Z0 J x->φ (ld x)=φ x
theorem Zt0 {φ:Int->Int} {x y:Nat} (hxy:x<y) (h1:φ x=φ o) (h:Zka L J φ (Zj L J x,y,Zj L J o)):Zka L J φ (x,y,o):=by
 intro k z f1 f2 i hi;cases k with
 | zero=>omega
 | succ k=>
  obtain ⟨_,_,a3⟩:=f1.succ;obtain ⟨_,_,b3⟩:=f2.succ;cases i with
  | zero=>exact h1
  | succ i=>exact h k z a3 b3 i (by omega)
def Inv (L:List Sym) (J:List Int) (m:Nat) (ld:Int->Int) (rs:List (Nat × Nat × Nat)):Prop:=∀ φ:Int->Int,Zfx J φ ld->(∀ r∈rs,Zka L J φ r)->φ 0=φ m∧∀ P:Nat,P<J.length->0<=at' J P->∀ i,i<arN L (at' J P)->φ (past L J i (P+1):Nat)=φ (past L J i ((ld P).toNat+1):Nat)
theorem Jv {φ ld:Int->Int} {p q:Int} (hl:Zcl J ld) (hp:Z0 J p) (lp:ld p=p) (h:Zfx J φ (un p q ld)):φ p=φ q∧Zfx J φ ld:=by
 have e:φ p=φ q:=by
  have:=h p hp;unfold un at this;rw [if_pos lp] at this;exact this.symm
 refine ⟨e,λ x hx=>?_⟩;have:=h x hx;unfold un at this
 by_cases f:ld x=p
 ·rw [if_pos f] at this;rw [f,e];exact this
 ·rw [if_neg f] at this;exact this
theorem Zx3:∀ (n:Nat) (ld:Int->Int) (rs:List (Nat × Nat × Nat)) (ldf:Int->Int),UOk L J (some ldf) n ld rs->Inv L J m ld rs->Inv L J m ldf []:=by
 intro n
 induction n with
 | zero=>intro ld rs ldf h _;have:=h.eq;simp [Ze9] at this
 | succ n ih=>
  intro ld rs ldf h hI;cases rs with
  | nil=>
   have:=h.nil;simp only [Option.some.injEq] at this;rw [this];exact hI
  | cons r rs=>
   obtain ⟨x,y,o⟩:=r
   by_cases hxy:x<y
   ·obtain ⟨k', hk', S1,S2,S3,S4,S5⟩:=h.step hxy
    obtain ⟨t1,t2,t3,t4,hpx,hpo,hlx,hlo,hr⟩:=h.top hxy;have px:=Zm (J:=J) (p:=x) t1;have po:=Zm (J:=J) (p:=o) t2;obtain rfl:k' = n:=by omega
    have rest:∀ (φ:Int->Int),Zfx J φ ld->φ (ld x)=φ (ld o)->(∀ r∈(Zj L J x,y,Zj L J o) :: rs,Zka L J φ r)->∀ r∈(x,y,o) :: rs,Zka L J φ r:=by
     intro φ hc he hp r hr
     rcases List.mem_cons.1 hr with e | e
     ·rw [e]
      refine Zt0 hxy ?_ (hp _ (by simp));rw [<- hc x px,<- hc o po,he]
     ·exact hp r (by simp [e])
    by_cases h1:ld x=ld o
    ·exact ih _ _ _ (S1 h1) (λ φ hc hp=>hI φ hc (rest φ hc (by rw [h1]) hp))
    ·by_cases h2:ld x<0
     ·refine ih _ _ _ (S2 h1 h2) (λ φ hc hp=>?_)
      obtain ⟨e,hc'⟩:=Jv h.ok hpx hlx hc;obtain ⟨a1,a2⟩:=hI φ hc' (rest φ hc' e hp);refine ⟨a1,λ P hP hs i hi=>?_⟩;have hl:=(h.ok.like P (Zm hP) (by omega) hs).1;have:un (ld x) (ld o) ld P=ld P:=by unfold un;rw [if_neg (by omega)]
      rw [this];exact a2 P hP hs i hi
     ·by_cases h3:ld o<0
      ·refine ih _ _ _ (S3 h1 h2 h3) (λ φ hc hp=>?_)
       obtain ⟨e,hc'⟩:=Jv h.ok hpo hlo hc;obtain ⟨a1,a2⟩:=hI φ hc' (rest φ hc' e.symm hp);refine ⟨a1,λ P hP hs i hi=>?_⟩;have hl:=(h.ok.like P (Zm hP) (by omega) hs).1;have:un (ld o) (ld x) ld P=ld P:=by unfold un;rw [if_neg (by omega)]
       rw [this];exact a2 P hP hs i hi
      ·by_cases h4:at' J (ld x)=at' J (ld o)
       ·refine ih _ _ _ (S5 h1 h2 h3 h4) (λ φ hc hp=>?_)
        obtain ⟨e,hc'⟩:=Jv h.ok hpx hlx hc;obtain ⟨a1,a2⟩:=hI φ hc' (rest φ hc' e (λ r hr=>hp r (by simp at hr ⊢;exact .inr hr)));refine ⟨a1,λ P hP hs i hi=>?_⟩
        by_cases f:ld P=ld x
        ·have e1:un (ld x) (ld o) ld P=ld o:=by unfold un;rw [if_pos f]
         have h5:=a2 P hP hs i hi;rw [f] at h5;rw [h5,e1];have hl:=(h.ok.like P (Zm hP) (by omega) hs);rw [f] at hl;have hpl:(ld x).toNat<J.length:=by have:=hpx.2;omega
         have hql:(ld o).toNat<J.length:=by have:=hpo.2;omega
         have f1:=Yd h.trs hpl;have f2:=Yd h.trs hql;have c1:(((ld x).toNat:Nat):Int)=ld x:=by omega
         have c2:(((ld o).toNat:Nat):Int)=ld o:=by omega
         rw [c1] at f1;rw [c2,<- h4] at f2;exact hp ((ld x).toNat+1,Zj L J (ld x).toNat,(ld o).toNat+1) (by simp) _ _ f1 f2 i (by rw [hl.2];exact hi)
        ·have e1:un (ld x) (ld o) ld P=ld P:=by unfold un;rw [if_neg f]
         rw [e1];exact a2 P hP hs i hi
       ·have:=S4 h1 h2 h3 h4;cases this
   ·obtain ⟨k', hk', hU⟩:=h.pop hxy
    obtain rfl:k' = n:=by omega
    refine ih _ _ _ hU (λ φ hc hp=>hI φ hc (λ r hr=>?_))
    rcases List.mem_cons.1 hr with e | e
    ·rw [e]
     intro k z f1 f2 i hi;have:=f1.le;cases k with
     | zero=>omega
     | succ k=>have:=f1.pos;simp only at this;omega
    ·exact hp r e
theorem Zty (hT:Trs L J) (h0:0<J.length) (hm:m<J.length):Inv L J m (ld0 J) [(0,Zj L J 0,m)]:=by
 intro φ hc hp;refine ⟨hp (0,Zj L J 0,m) (by simp) 1 _ (hT 0 h0) (hT m hm) 0 (by omega),λ P hP hs i hi=>?_⟩;have:ld0 J (P:Int)=P:=by unfold ld0;rw [if_neg (by omega)]
 rw [this,Int.toNat_natCast]
structure J3 (L:List Sym) (J:List Int) (m:Nat) (ld:Int->Int):Prop where
 trs:Trs L J
 ok:Zcl J ld
 both:ld 0=ld m
 args:∀ P:Nat,P<J.length->0<=at' J P->∀ i,i<arN L (at' J P)->ld (past L J i (P+1):Nat)=ld (past L J i ((ld P).toNat+1):Nat)
 var:∀ P:Nat,P<J.length->at' J P<0->ld P=ld (at' J P)
theorem Zxq (hP:P<J.length) (hv:Z0 J (at' J P)):∀ (n:Nat) (ld:Int->Int) (rs:List (Nat × Nat × Nat)) (ldf:Int->Int),UOk L J (some ldf) n ld rs->ld P=ld (at' J P)->ldf P=ldf (at' J P):=by
 have hun:∀ (p q:Int) (ld:Int->Int),ld P=ld (at' J P)->un p q ld P=un p q ld (at' J P):=λ p q ld e=>by unfold un;rw [e]
 intro n
 induction n with
 | zero=>intro ld rs ldf h _;have:=h.eq;simp [Ze9] at this
 | succ n ih=>
  intro ld rs ldf h hI;cases rs with
  | nil=>
   have:=h.nil;simp only [Option.some.injEq] at this;rw [this];exact hI
  | cons r rs=>
   obtain ⟨x,y,o⟩:=r
   by_cases hxy:x<y
   ·obtain ⟨k', hk', S1,S2,S3,S4,S5⟩:=h.step hxy
    obtain rfl:k' = n:=by omega
    by_cases h1:ld x=ld o
    ·exact ih _ _ _ (S1 h1) hI
    ·by_cases h2:ld x<0
     ·exact ih _ _ _ (S2 h1 h2) (hun _ _ _ hI)
     ·by_cases h3:ld o<0
      ·exact ih _ _ _ (S3 h1 h2 h3) (hun _ _ _ hI)
      ·by_cases h4:at' J (ld x)=at' J (ld o)
       ·exact ih _ _ _ (S5 h1 h2 h3 h4) (hun _ _ _ hI)
       ·have:=S4 h1 h2 h3 h4;cases this
   ·obtain ⟨k', hk', hU⟩:=h.pop hxy
    obtain rfl:k' = n:=by omega
    exact ih _ _ _ hU hI
theorem Ztr:∀ (n:Nat) (ld:Int->Int) (rs:List (Nat × Nat × Nat)) (ldf:Int->Int),UOk L J (some ldf) n ld rs->Zcl J ldf:=by
 intro n
 induction n with
 | zero=>intro ld rs ldf h;have:=h.eq;simp [Ze9] at this
 | succ n ih=>
  intro ld rs ldf h;cases rs with
  | nil=>
   have:=h.nil;simp only [Option.some.injEq] at this;rw [this];exact h.ok
  | cons r rs=>
   obtain ⟨x,y,o⟩:=r
   by_cases hxy:x<y
   ·obtain ⟨k', hk', S1,S2,S3,S4,S5⟩:=h.step hxy
    obtain rfl:k' = n:=by omega
    by_cases h1:ld x=ld o
    ·exact ih _ _ _ (S1 h1)
    ·by_cases h2:ld x<0
     ·exact ih _ _ _ (S2 h1 h2)
     ·by_cases h3:ld o<0
      ·exact ih _ _ _ (S3 h1 h2 h3)
      ·by_cases h4:at' J (ld x)=at' J (ld o)
       ·exact ih _ _ _ (S5 h1 h2 h3 h4)
       ·have:=S4 h1 h2 h3 h4;cases this
   ·obtain ⟨k', hk', hU⟩:=h.pop hxy
    obtain rfl:k' = n:=by omega
    exact ih _ _ _ hU
theorem Zja (hv:∀ x∈J, -198<=x) (h0:0<J.length) (hm:m<J.length) {ldf:Int->Int} (h:UOk L J (some ldf) n (ld0 J) [(0,Zj L J 0,m)]):J3 L J m ldf:=by
 have hl:=Ztr _ _ _ _ h;obtain ⟨a1,a2⟩:=Zx3 _ _ _ _ h (Zty h.trs h0 hm) ldf (λ x hx=>hl.idem x hx) (by simp);refine ⟨h.trs,hl,a1,a2,λ P hP hs=>?_⟩
 have hpt:Z0 J (at' J P):=by
  refine ⟨?_,by omega⟩;rw [Yl J P hP];exact hv _ (List.getElem_mem _)
 refine Zxq hP hpt _ _ _ _ h ?_;have e1:ld0 J (P:Int)=at' J P:=by unfold ld0;rw [if_pos ⟨by omega,hs⟩]
 have e2:ld0 J (at' J P)=at' J P:=by unfold ld0;rw [if_neg (by omega)]
 rw [e1,e2]
def Ztb {X:Type} (L:List Sym) (J:List Int) (val:Int->X) (r:Nat × Nat × Nat):Prop:=∃ k z,Zs L J k r.1 r.2.1∧Zs L J k r.2.2 z∧∀ i,i<k->val (past L J i r.1:Nat)=val (past L J i r.2.2:Nat)
def Inj {X:Type} (L:List Sym) (J:List Int) (val:Int->X):Prop:=∀ p q:Nat,p<J.length->q<J.length->0<=at' J p->0<=at' J q->val p=val q->at' J p=at' J q∧∀ i,i<arN L (at' J p)->val (past L J i (p+1):Nat)=val (past L J i (q+1):Nat)
theorem Zq9 {X:Type} {val:Int->X} (hin:Inj L J val):∀ (n:Nat) (ld:Int->Int) (rs:List (Nat × Nat × Nat)) (res:Option (Int->Int)),UOk L J res n ld rs->(∀ x,Z0 J x->val (ld x)=val x)->(∀ r∈rs,Ztb L J val r)->∃ ldf,res=some ldf∧∀ x,Z0 J x->val (ldf x)=val x:=by
 intro n
 induction n with
 | zero=>intro ld rs res h;have:=h.eq;simp [Ze9] at this
 | succ n ih=>
  intro ld rs res h hv hp;cases rs with
  | nil=>exact ⟨ld,h.nil,hv⟩
  | cons r rs=>
   obtain ⟨x,y,o⟩:=r;have hp2:∀ r∈rs,Ztb L J val r:=λ r hr=>hp r (by simp [hr])
   by_cases hxy:x<y
   ·obtain ⟨k', hk', S1,S2,S3,S4,S5⟩:=h.step hxy
    obtain ⟨t1,t2,t3,t4,hpx,hpo,hlx,hlo,hr⟩:=h.top hxy;have px:=Zm (J:=J) (p:=x) t1;have po:=Zm (J:=J) (p:=o) t2;obtain rfl:k' = n:=by omega
    obtain ⟨k,z,f1,f2,f3⟩:=hp (x,y,o) (by simp)
    obtain ⟨c,rfl⟩:∃ c,k=c+1:=by
     cases k with
     | zero=>have:=f1.zero;simp only at this;omega
     | succ c=>exact ⟨c,rfl⟩
    have hxo:val x=val o:=f3 0 (by omega);have hpp:val (ld x)=val (ld o):=by rw [hv x px,hv o po,hxo]
    have hp3:∀ r∈(Zj L J x,y,Zj L J o) :: rs,Ztb L J val r:=by
     intro r hr
     rcases List.mem_cons.1 hr with e | e
     ·rw [e]
      exact ⟨c,z,f1.succ.2.2,f2.succ.2.2,λ i hi=>f3 (i+1) (by omega)⟩
     ·exact hp2 r e
    have hun:∀ p q:Int,val p=val q->∀ x,Z0 J x->val (un p q ld x)=val x:=by
     intro p q e x hx;unfold un;split
     ·rename_i f;rw [<- e,<- f];exact hv x hx
     ·exact hv x hx
    by_cases h1:ld x=ld o
    ·exact ih _ _ _ (S1 h1) hv hp3
    ·by_cases h2:ld x<0
     ·exact ih _ _ _ (S2 h1 h2) (hun _ _ hpp) hp3
     ·by_cases h3:ld o<0
      ·exact ih _ _ _ (S3 h1 h2 h3) (hun _ _ hpp.symm) hp3
      ·have hpl:(ld x).toNat<J.length:=by have:=hpx.2;omega
       have hql:(ld o).toNat<J.length:=by have:=hpo.2;omega
       have c1:(((ld x).toNat:Nat):Int)=ld x:=by omega
       have c2:(((ld o).toNat:Nat):Int)=ld o:=by omega
       have hh:=hin (ld x).toNat (ld o).toNat hpl hql (by rw [c1];exact h.ok.sym x px (by omega)) (by rw [c2];exact h.ok.sym o po (by omega)) (by rw [c1,c2];exact hpp);rw [c1,c2] at hh;refine ih _ _ _ (S5 h1 h2 h3 hh.1) (hun _ _ hpp) (λ r hr=>?_)
       rcases List.mem_cons.1 hr with e | e
       ·rw [e]
        have g1:=Yd h.trs hpl;have g2:=Yd h.trs hql;rw [c1] at g1;rw [c2,<- hh.1] at g2;exact ⟨_,_,g1,g2,hh.2⟩
       ·exact hp3 r e
   ·obtain ⟨k', hk', hU⟩:=h.pop hxy
    obtain rfl:k' = n:=by omega
    exact ih _ _ _ hU hv hp2
def Vq (val:Int->List Int) (u:List Int):List Int:=u.flatMap (λ n=>if n<0 then val n else [n])
theorem Za7 (val:Int->List Int) (a b:List Int):Vq val (a++b)=Vq val a++Vq val b:=by simp [Vq]
theorem Yp (val:Int->List Int) (x:Int) (b:List Int):Vq val (x :: b)=(if x<0 then val x else [x])++Vq val b:=by simp [Vq]
theorem Zt1:∀ (l:List Nat),(∀ k∈l,∃ u,Val L J ld k u∧val k=Vq val u)->∃ u,Zl9 L J ld l u∧l.flatMap (λ k:Nat=>val (k:Int))=Vq val u
 | [],_=>⟨[],Zdf _ _ _,rfl⟩
 | x :: r,h=>by
  obtain ⟨u,h1,h2⟩:=h x (by simp);obtain ⟨v,h3,h4⟩:=Zt1 r (λ k hk=>h k (by simp [hk]));exact ⟨u++v,Zag h1 h3,by rw [List.flatMap_cons,h2,h4,Za7]⟩
theorem Zvk {α:Type} {f:α->List Int} {l:List α} {k:α} (h:k∈l):(f k).length<=(l.flatMap f).length:=by
 induction l with
 | nil=>cases h
 | cons x r ih=>
  rw [List.flatMap_cons,List.length_append]
  rcases List.mem_cons.1 h with e | e
  ·subst e;omega
  ·have:=ih e;omega
structure Good (L:List Sym) (J:List Int) (val:Int->List Int):Prop where
 sym:∀ p:Nat,p<J.length->0<=at' J p->val p=at' J p :: (Zl L J p).flatMap (λ k:Nat=>val (k:Int))
 var:∀ p:Nat,p<J.length->at' J p<0->val p=val (at' J p)
 isT:∀ x,Z0 J x->IsT L (val x)
theorem Zfr (hT:Trs L J) (hl:Zcl J ld) (hg:Good L J val) (hc:∀ x,Z0 J x->val (ld x)=val x):∀ (n:Nat) (x:Int),(val x).length<=n->Z0 J x->∃ u,Val L J ld x u∧val x=Vq val u:=by
 intro n
 induction n with
 | zero=>
  intro x hn hx;have:=Z2 (hg.isT x hx);omega
 | succ n ih=>
  intro x hn hx
  by_cases h1:ld x<0
  ·refine ⟨_,Ztf h1,?_⟩
   simp only [Vq,List.flatMap_cons,List.flatMap_nil,if_pos h1,List.append_nil];exact (hc x hx).symm
  ·obtain ⟨p,hp⟩:=Int.eq_ofNat_of_zero_le (Int.not_lt.1 h1)
   have hpl:p<J.length:=by have:=(hl.part x hx).2;omega
   have hs:0<=at' J (p:Int):=by have:=hl.sym x hx (by omega);rwa [hp] at this
   have e:=hg.sym p hpl hs;have ex:val x=val p:=by rw [<- hc x hx,hp]
   obtain ⟨us,h2,h3⟩:=Zt1 (L:=L) (J:=J) (ld:=ld) (val:=val) (Zl L J p) (λ k hk=>by
    refine ih k ?_ (Zm (Jb hT hpl k hk));have h4:=Zvk (f:=λ k:Nat=>val (k:Int)) hk;rw [ex,e,List.length_cons] at hn
    omega)
   have e1:(ld x).toNat=p:=by omega
   refine ⟨at' J (ld x) :: us,Zsb h1 (by rw [e1];exact h2),?_⟩;rw [ex,e,h3,Yp,hp];have:¬ at' J ((p:Nat):Int)<0:=by omega
   show _=(if at' J ((p:Nat):Int)<0 then _ else _)++_;rw [if_neg this];rfl
theorem Zzs {b s:List Int} (ha:IsT L a) (hb:IsT L b) (h:a++r=b++s):a=b∧r=s:=by
 have h1:=X1 (b:=r) ha;have h2:=X1 (b:=s) hb;rw [h,h2] at h1;simp only [Option.some.injEq] at h1;exact List.append_inj h h1.symm
theorem Zmy {f:Nat->List Int}:∀ (l m:List Nat),l.length=m.length->(∀ k∈l,IsT L (f k))->(∀ k∈m,IsT L (f k))->l.flatMap f=m.flatMap f->∀ i (h:i<l.length) (h' : i<m.length),f l[i]=f m[i]
 | [],m,_,_,_,_,i,h,_=>by simp at h
 | x :: l,[],hl,_,_,_,i,h,h' => by simp at h'
 | x :: l,y :: m,hl,h1,h2,e,i,h,h' => by
  rw [List.flatMap_cons,List.flatMap_cons] at e;obtain ⟨e1,e2⟩:=Zzs (h1 x (by simp)) (h2 y (by simp)) e;cases i with
  | zero=>exact e1
  | succ i=>exact Zmy l m (by simpa using hl) (λ k hk=>h1 k (by simp [hk])) (λ k hk=>h2 k (by simp [hk])) e2 i (by simpa using h) (by simpa using h')
theorem Zab (hi:i<arN L (at' J p)):(Zl L J p)[i]? = some (past L J i (p+1)):=Zbd hi
theorem Zn6 (hT:Trs L J) (hg:Good L J val):Inj L J val:=by
 intro p q hp hq sp sq e;rw [hg.sym p hp sp,hg.sym q hq sq] at e;simp only [List.cons.injEq] at e;refine ⟨e.1,λ i hi=>?_⟩;have l1:(Zl L J p).length=arN L (at' J p):=Zk _ _ _ _;have l2:(Zl L J q).length=arN L (at' J q):=Zk _ _ _ _;have hl:(Zl L J p).length=(Zl L J q).length:=by rw [l1,l2,e.1]
 have h1:i<(Zl L J p).length:=by omega
 have h2:i<(Zl L J q).length:=by omega
 have:=Zmy (L:=L) (f:=λ k:Nat=>val (k:Int)) _ _ hl (λ k hk=>hg.isT _ (Zm (Jb hT hp k hk))) (λ k hk=>hg.isT _ (Zm (Jb hT hq k hk))) e.2 i h1 h2;have g1:=Zab (L:=L) (J:=J) (p:=p) hi;have g2:=Zab (L:=L) (J:=J) (p:=q) (i:=i) (by rw [<- e.1];exact hi);rw [List.getElem?_eq_getElem h1,Option.some.injEq] at g1;rw [List.getElem?_eq_getElem h2,Option.some.injEq] at g2;rw [g1,g2] at this;exact this
theorem Zn9:∀ (l:List Nat) (u:List Int),Zl9 L J ld l u->∀ y∈l,∃ t', Val L J ld y t' ∧ t'.length<=u.length
 | [],u,_,y,hy=>by simp at hy
 | x :: r,u,h,y,hy=>by
  obtain ⟨a,b,h1,h2,h3⟩:=J7 h;subst h3
  rcases List.mem_cons.1 hy with e | e
  ·subst e;exact ⟨a,h1,by simp⟩
  ·obtain ⟨t', g1,g2⟩:=Zn9 r b h2 y e
   exact ⟨t', g1,by rw [List.length_append];omega⟩
def Zyw (L:List Sym) (J:List Int) (ld:Int->Int) (sz:Nat->Int) (x:Int):Prop:=∀ p:Nat,p<J.length->ld p=p->sz p = -1->∀ t,Val L J ld p t->∃ t', Val L J ld x t' ∧ t'.length<t.length
theorem Zjd (hf:∀ sz x k sz', Z0 J x->Zbn sz->Vw L J ld n sz x=some (k,sz')->(k ≠ -1->∀ p,sz' p = -1->sz p = -1)∧(k = -1->Zyw L J ld sz x->∀ u,¬ Val L J ld x u)):∀ (l:List Nat),(∀ x∈l,x<J.length)->∀ (s:Int) (sz:Nat->Int) (k:Int) (sz' : Nat->Int),1<=s->s<=2001->Zbn sz->Zaz (Vw L J ld n) l s sz=some (k,sz')->(k ≠ -1->∀ p,sz' p = -1->sz p = -1)∧(k = -1->(∀ x∈l,Zyw L J ld sz (x:Nat))->∀ u,¬ Zl9 L J ld l u)
 | [],_,s,sz,k,sz', h1,_,_,e=>by
  simp only [Zaz,Option.some.injEq,Prod.mk.injEq] at e;obtain ⟨rfl,rfl⟩:=e;exact ⟨λ _ _ h=>h,λ e=>by omega⟩
 | x :: r,hl,s,sz,k,sz', h1,h2,h3,e=>by
  unfold Zaz at e;cases hx:Vw L J ld n sz (x:Int) with
  | none=>simp [hx] at e
  | some v=>
   obtain ⟨k1,sz1⟩:=v;simp only [hx] at e;obtain ⟨g1,g2⟩:=hf _ _ _ _ (Zm (hl x (by simp))) h3 hx;have g3:=Za3 n _ _ _ _ h3 hx
   by_cases hk:k1 = -1
   ·rw [if_pos hk] at e
    simp only [Option.some.injEq,Prod.mk.injEq] at e;obtain ⟨rfl,rfl⟩:=e;refine ⟨λ f=>absurd rfl f,λ _ ha u hu=>?_⟩;obtain ⟨a,b,q1,q2,q3⟩:=J7 hu;exact g2 hk (ha x (by simp)) a q1
   ·rw [if_neg hk] at e
    obtain ⟨f1,f2⟩:=Zjd hf r (λ y hy=>hl y (by simp [hy])) _ _ _ _ (by omega) (by omega) g3.1 e;refine ⟨λ hk' p hp=>g1 hk p (f1 hk' p hp),λ hk' ha u hu=>?_⟩;obtain ⟨a,b,q1,q2,q3⟩:=J7 hu;exact f2 hk' (λ y hy p hp hpp hs=>ha y (by simp [hy]) p hp hpp (g1 hk p hs)) b q2
theorem Zjo (hT:Trs L J) (hl:Zcl J ld):∀ (n:Nat) (sz:Nat->Int) (x k:Int) (sz' : Nat->Int),Z0 J x->Zbn sz->Vw L J ld n sz x=some (k,sz')->(k ≠ -1->∀ p,sz' p = -1->sz p = -1)∧(k = -1->Zyw L J ld sz x->∀ u,¬ Val L J ld x u):=by
 intro n
 induction n with
 | zero=>intro sz x k sz' _ _ e;simp [Vw] at e
 | succ n ih=>
  intro sz x k sz' hx hs e;rw [Vw] at e
  by_cases h1:ld x<0
  ·rw [if_pos h1] at e
   simp only [Option.some.injEq,Prod.mk.injEq] at e;obtain ⟨rfl,rfl⟩:=e;exact ⟨λ _ _ h=>h,λ e=>by omega⟩
  ·rw [if_neg h1] at e
   obtain ⟨p,hp⟩:=Int.eq_ofNat_of_zero_le (Int.not_lt.1 h1);have hpl:p<J.length:=by have:=(hl.part x hx).2;omega
   have hpp:ld (p:Int)=p:=by
    have:=hl.idem x hx;rw [hp] at this;exact this
   have e1:(ld x).toNat=p:=by omega
   have exp:ld x=ld (p:Int):=by rw [hpp,hp]
   rw [e1] at e
   by_cases h2:sz p≠0
   ·rw [if_pos h2] at e
    simp only [Option.some.injEq,Prod.mk.injEq] at e;obtain ⟨rfl,rfl⟩:=e;refine ⟨λ _ _ h=>h,λ hk ha u hu=>?_⟩;obtain ⟨t', q1,q2⟩:=ha p hpl hpp hk u (Zea exp hu);rw [q1.uniq hu] at q2;omega
   ·rw [if_neg h2] at e
    have h0:sz p=0:=by simpa using h2
    cases h3:Zaz (Vw L J ld n) (Zl L J p) 1 (Ku sz p (-1)) with
    | none=>simp [h3] at e
    | some v=>
     obtain ⟨s,sz1⟩:=v;obtain ⟨g1,g2⟩:=Zjd ih _ (Jb hT hpl) 1 _ _ _ (by omega) (by omega) (hs.upd _ (.inl rfl)) h3;simp only [h3] at e
     by_cases hss:s = -1
     ·rw [if_pos hss] at e
      simp only [Option.some.injEq,Prod.mk.injEq] at e;obtain ⟨rfl,rfl⟩:=e;refine ⟨λ f=>absurd rfl f,λ _ ha u hu=>?_⟩;obtain ⟨v,q1,q2⟩:=Zg4 h1 hu;rw [e1] at q2
      have up:∀ (t:List Int),Val L J ld (p:Int) t->∀ y∈Zl L J p,∃ t', Val L J ld (y:Nat) t' ∧ t'.length<t.length:=by
       intro t ht y hy;obtain ⟨v', r1,r2⟩:=Zg4 (by rw [hpp];omega) ht;rw [hpp,Int.toNat_natCast] at r2;obtain ⟨t', r3,r4⟩:=Zn9 _ _ r2 y hy;exact ⟨t', r3,by rw [r1,List.length_cons];omega⟩
      refine g2 hss (λ y hy q hq hqq hsq t ht=>?_) v q2;unfold Ku at hsq
      by_cases eq:q=p
      ·subst eq;exact up t ht y hy
      ·rw [if_neg eq] at hsq
       obtain ⟨t2,r1,r2⟩:=ha q hq hqq hsq t ht;obtain ⟨t3,r3,r4⟩:=up t2 (Zea exp r1) y hy;exact ⟨t3,r3,by omega⟩
     ·rw [if_neg hss] at e
      simp only [Option.some.injEq,Prod.mk.injEq] at e;obtain ⟨rfl,rfl⟩:=e;refine ⟨λ _ q hq=>?_,λ f=>absurd f hss⟩;unfold Ku at hq
      by_cases eq:q=p
      ·rw [if_pos eq] at hq;exact absurd hq hss
      ·rw [if_neg eq] at hq
       have:=g1 hss q hq;unfold Ku at this
       rwa [if_neg eq] at this
theorem Zmb (hT:Trs L J) (hv:∀ x∈J, -198<=x) (h0:0<J.length) (hm:m<J.length) (hg:Good L J val) (he:val 0=val m) :
  ∃ ld k u,Zc0 L J m=some (ld,k)∧J3 L J m ld∧Val L J ld 0 u∧k=min (u.length:Int) 2001∧val 0=Vq val u∧∀ x,Z0 J x->val (ld x)=val x:=by
 obtain ⟨res,hU,hR1,hR2⟩:=(Zlw hT hv h0 hm).uni
 have hst:∀ x,Z0 J x->val (ld0 J x)=val x:=by
  intro x hx
  by_cases h:0<=x∧at' J x<0
  ·have e:ld0 J x=at' J x:=by unfold ld0;rw [if_pos h]
   obtain ⟨p,rfl⟩:=Int.eq_ofNat_of_zero_le h.1;rw [e];exact (hg.var p (by have:=hx.2;omega) h.2).symm
  ·have e:ld0 J x=x:=by unfold ld0;rw [if_neg h]
   rw [e]
 obtain ⟨ld,rfl,hc⟩:=Zq9 (Zn6 hT hg) _ _ _ _ hU hst (λ r hr=>by
  simp only [List.mem_cons,List.not_mem_nil,or_false] at hr;subst hr;refine ⟨1,Zj L J m,hT 0 h0,hT m hm,λ i hi=>?_⟩;obtain rfl:i=0:=by omega
  exact he)
 obtain ⟨hl,k,sz', hs,hk1,hk2⟩:=hR2 ld rfl;obtain ⟨u,hu,hvu⟩:=Zfr hT hl hg hc _ 0 (Nat.le_refl _) (Zm (p:=0) h0);have hk:k ≠ -1:=λ e=>(Zjo hT hl _ _ _ _ _ (Zm (p:=0) h0) (λ p=>.inr ⟨by simp,by simp⟩) hs).2 e (λ p _ _ f=>by simp at f) u hu;obtain ⟨e1,u', hu', hku⟩:=hk2 hk;have:=hu'.uniq hu;subst this;exact ⟨ld,k,u', e1,Zja hv h0 hm hU,hu,hku,hvu,hc⟩
def Y1 (o:List Int) (x:Int):List Int:=if isV x=true∧¬ (-x)∈o then o ++ [-x] else o
def vs (o:List Int) (t:List Int):List Int:=t.foldl Y1 o
def Zx (t:List Int):List Int:=vs [] t
theorem vs_nil (o:List Int):vs o []=o:=rfl
theorem Zy4 (o a:List Int) (x:Int):vs o (a ++ [x])=Y1 (vs o a) x:=by simp [vs]
theorem Zua {o:List Int} (h:k<t.length):vs o (t.take (k+1))=Y1 (vs o (t.take k)) t[k]:=by
 rw [List.take_add_one,List.getElem?_eq_getElem h];exact Zy4 _ _ _
theorem Zhc:isV x=true ↔ -99<=x∧x <= -1:=by simp [isV]
theorem Zts (o:List Int) (x:Int):o <+: Y1 o x:=by
 unfold Y1;split
 ·exact List.prefix_append _ _
 ·exact List.prefix_refl _
theorem vs_sub (o t:List Int):o <+: vs o t:=by
 induction t generalizing o with
 | nil=>exact List.prefix_refl _
 | cons x r ih=>exact (Zts o x).trans (ih (Y1 o x))
theorem vs_mem {o:List Int} (hx:x∈t) (hv:isV x=true) : -x∈vs o t:=by
 induction t generalizing o with
 | nil=>simp at hx
 | cons y r ih=>
  rcases List.mem_cons.1 hx with rfl | hx
  ·have h1 : -x∈Y1 o x:=by
    unfold Y1;split
    ·simp
    ·rename_i h;simp [hv] at h;exact h
   exact (vs_sub (Y1 o x) r).subset h1
  ·exact ih hx
theorem Zf7 (o t:List Int):(vs o t).length<=o.length+t.length:=by
 induction t generalizing o with
 | nil=>simp [vs]
 | cons x r ih=>
  have:=ih (Y1 o x);have h2:(Y1 o x).length<=o.length+1:=by unfold Y1;split <;> simp
  simp only [vs,List.foldl_cons,List.length_cons] at *;omega
def pl (o:List Int) (x:Int):Int:=if isV x=true then -((o.idxOf (-x):Int)+1) else x
def Zkq (L:List Sym) (J:List Int) (p:Nat):List Int:=(J.drop p).take (Zj L J p-p)
theorem Zfj:∀ (k p q:Nat),Zs L J k p q->(J.drop p).take (q-p)=(Zq L J k p).flatMap (Zkq L J)
 | 0,p,q,h=>by have:=h.zero;subst this;simp [Zq]
 | k+1,p,q,h=>by
  obtain ⟨h1,h2,h3⟩:=h.succ;have h4:=h3.le;rw [Zq,List.flatMap_cons,<- Zfj k _ q h3];unfold Zkq;rw [show q-p=(Zj L J p-p)+(q-Zj L J p) by omega,List.take_add,List.drop_drop,show p+(Zj L J p-p)=Zj L J p by omega]
theorem Zhy (hT:Trs L J) (hp:p<J.length):Zkq L J p=at' J p :: (Zl L J p).flatMap (Zkq L J):=by
 have hf:=Yd hT hp;have h2:=hT.lt hp;rw [Zl,<- Zfj _ _ _ hf,Yl J p hp];unfold Zkq;rw [List.drop_eq_getElem_cons hp,show Zj L J p-p=(Zj L J p-(p+1))+1 by omega,List.take_succ_cons]
theorem Zrt (hT:Trs L J) (hp:p<J.length):IsT L (Zkq L J p):=by
 obtain ⟨n,h1,h2,h3⟩:=hT p hp;unfold Zkq;rw [h2,show p+n-p=n by omega];exact (Vn h1).2
theorem Ze1 (L:List Sym) (h:x<0):IsT L [x]:=by
 unfold IsT;show Yk L (0+1) [x]=some 0;rw [Yk,Yk];unfold arN;rw [if_pos h]
theorem Zey:∀ (u:List Int),(∀ n∈u,n<0->IsT L (f n))->∀ k,Yk L k (Vq f u)=Yk L k u
 | [],_,k=>rfl
 | n :: r,h,k=>by
  have ih:=Zey r (λ m hm=>h m (by simp [hm]));rw [Yp]
  by_cases hn:n<0
  ·rw [if_pos hn,Y8]
   have hT:=h n (by simp) hn;cases k with
   | zero=>
    have:=Z2 hT;cases hd:f n with
    | nil=>rw [hd] at this;simp at this
    | cons x y=>simp [Yk]
   | succ k=>
    have:=Zdd hT k;rw [Nat.add_comm 1 k,Nat.zero_add] at this;rw [this,Option.bind_some,Yk,show arN L n=0 by unfold arN;rw [if_pos hn],Nat.add_zero];exact ih k
  ·rw [if_neg hn]
   cases k with
   | zero=>rfl
   | succ k=>simp only [List.cons_append,List.nil_append,Yk];exact ih _
theorem Zc8:∀ (u:List Int),(∀ n∈u,n<0->IsT L (f n))->u.length<=(Vq f u).length
 | [],_=>Nat.le_refl _
 | n :: r,h=>by
  have ih:=Zc8 r (λ m hm=>h m (by simp [hm]));rw [Yp,List.length_append,List.length_cons]
  by_cases hn:n<0
  ·rw [if_pos hn];have:=Z2 (h n (by simp) hn);omega
  ·rw [if_neg hn];simp;omega
theorem Jx {g:Int->List Int}:∀ (u:List Int),(∀ n∈u,n<0->f n=g n)->Vq f u=Vq g u
 | [],_=>rfl
 | n :: r,h=>by
  rw [Yp,Yp,Jx r (λ m hm=>h m (by simp [hm]))]
  by_cases hn:n<0
  ·rw [if_pos hn,if_pos hn,h n (by simp) hn]
  ·rw [if_neg hn,if_neg hn]
theorem Zmr (ih:∀ (x:Int) (u:List Int),Z0 J x->tmF L J ld d x=some u->IsT L u):∀ (l:List Nat) (u:List Int),(∀ x∈l,x<J.length)->Vs (tmF L J ld d) l=some u->Yk L l.length u=some 0
 | [],u,_,e=>by simp only [Vs,Option.some.injEq] at e;subst e;rfl
 | x :: r,u,hl,e=>by
  unfold Vs at e;cases h1:tmF L J ld d (x:Int) with
  | none=>simp [h1] at e
  | some a=>
   cases h2:Vs (tmF L J ld d) r with
   | none=>simp [h1,h2] at e
   | some b=>
    simp only [h1,h2,Option.some.injEq] at e;subst e;have g1:=ih x a (Zm (hl x (by simp))) h1;have g2:=Zmr ih r b (λ y hy=>hl y (by simp [hy])) h2;have:=Zdd g1 r.length;rw [Nat.add_comm 1,Nat.zero_add] at this;rw [List.length_cons,Y8,this,Option.bind_some,g2]
theorem tm_isT (hT:Trs L J) (hl:Zcl J ld):∀ (d:Nat) (x:Int) (u:List Int),Z0 J x->tmF L J ld d x=some u->IsT L u:=by
 intro d
 induction d with
 | zero=>intro x u _ h;simp [tmF] at h
 | succ d ih=>
  intro x u hx h;rw [tmF] at h
  by_cases h1:ld x<0
  ·rw [if_pos h1] at h
   simp only [Option.some.injEq] at h;subst h;exact Ze1 L h1
  ·rw [if_neg h1] at h
   have hp:(ld x).toNat<J.length:=by have:=(hl.part x hx).2;omega
   cases h2:Vs (tmF L J ld d) (Zl L J (ld x).toNat) with
   | none=>simp [h2] at h
   | some v=>
    simp only [h2,Option.some.injEq] at h;subst h;have:=Zmr ih _ _ (Jb hT hp) h2
    have e:(Zl L J (ld x).toNat).length=arN L (at' J (ld x)):=by
     rw [show (Zl L J (ld x).toNat).length=arN L (at' J ((ld x).toNat:Nat)) from Zk _ _ _ _,show (((ld x).toNat:Nat):Int)=ld x by omega]
    rw [e] at this;unfold IsT;show Yk L (0+1) _=some 0;rw [Yk,Nat.zero_add];exact this
theorem Val.isT (hT:Trs L J) (hl:Zcl J ld) (hx:Z0 J x) (h:Val L J ld x u):IsT L u:=by
 obtain ⟨d,hd⟩:=h;exact tm_isT hT hl d x u hx hd
theorem Zr8 {R:Int->Prop} (ih:∀ (x:Int) (u:List Int),Z0 J x->tmF L J ld d x=some u->∀ n∈u,R n):∀ (l:List Nat) (u:List Int),(∀ x∈l,x<J.length)->Vs (tmF L J ld d) l=some u->∀ n∈u,R n
 | [],u,_,e=>by simp only [Vs,Option.some.injEq] at e;subst e;simp
 | x :: r,u,hl,e=>by
  unfold Vs at e;cases h1:tmF L J ld d (x:Int) with
  | none=>simp [h1] at e
  | some a=>
   cases h2:Vs (tmF L J ld d) r with
   | none=>simp [h1,h2] at e
   | some b=>
    simp only [h1,h2,Option.some.injEq] at e;subst e;intro n hn
    rcases List.mem_append.1 hn with q | q
    ·exact ih x a (Zm (hl x (by simp))) h1 n q
    ·exact Zr8 ih r b (λ y hy=>hl y (by simp [hy])) h2 n q
theorem tm_in (hT:Trs L J) (hl:Zcl J ld):∀ (d:Nat) (x:Int) (u:List Int),Z0 J x->tmF L J ld d x=some u->∀ n∈u,(n<0∧Z0 J n)∨(0<=n∧n∈J):=by
 intro d
 induction d with
 | zero=>intro x u _ h;simp [tmF] at h
 | succ d ih=>
  intro x u hx h;rw [tmF] at h
  by_cases h1:ld x<0
  ·rw [if_pos h1] at h
   simp only [Option.some.injEq] at h;subst h;intro n hn;simp only [List.mem_cons,List.not_mem_nil,or_false] at hn;subst hn;exact .inl ⟨h1,hl.part x hx⟩
  ·rw [if_neg h1] at h
   have hp:(ld x).toNat<J.length:=by have:=(hl.part x hx).2;omega
   cases h2:Vs (tmF L J ld d) (Zl L J (ld x).toNat) with
   | none=>simp [h2] at h
   | some v=>
    simp only [h2,Option.some.injEq] at h;subst h;intro n hn
    rcases List.mem_cons.1 hn with q | q
    ·right
     have hs:=hl.sym x hx (by omega);refine ⟨by omega,?_⟩
     have:at' J (ld x)=J[(ld x).toNat]:=by
      have:=Yl J (ld x).toNat hp
      rwa [show (((ld x).toNat:Nat):Int)=ld x by omega] at this
     rw [q,this];exact List.getElem_mem _
    ·exact Zr8 ih _ _ (Jb hT hp) h2 n q
theorem Val.in (hT:Trs L J) (hl:Zcl J ld) (hx:Z0 J x) (h:Val L J ld x u):∀ n∈u,(n<0∧Z0 J n)∨(0<=n∧n∈J):=by
 obtain ⟨d,hd⟩:=h;exact tm_in hT hl d x u hx hd
theorem Ziu:∀ (l m:List Nat) (u:List Int),l.length=m.length->(∀ i (h:i<l.length) (h' : i<m.length),ld (l[i]:Nat)=ld (m[i]:Nat))->Zl9 L J ld l u->Zl9 L J ld m u
 | [],[],u,_,_,hv=>hv
 | [],y :: m,u,hl,_,_=>by simp at hl
 | x :: l,[],u,hl,_,_=>by simp at hl
 | x :: l,y :: m,u,hl,h,hv=>by
  obtain ⟨a,b,h1,h2,rfl⟩:=J7 hv;have e0:=h 0 (by simp) (by simp);exact Zag (Zea e0 h1) (Ziu l m b (by simpa using hl) (λ i p q=>by have:=h (i+1) (by simpa using p) (by simpa using q);simpa using this) h2)
theorem J3.own (hc:J3 L J m ld) (hP:P<J.length) (hs:0<=at' J P) (h:Val L J ld P u):∃ us,u=at' J P :: us∧Zl9 L J ld (Zl L J P) us:=by
 obtain ⟨g1,g2⟩:=hc.ok.like P (Zm hP) (by omega) hs;obtain ⟨v,h1,h2⟩:=Zg4 (by omega) h;refine ⟨v,by rw [h1,g2],Ziu _ _ v ?_ ?_ h2⟩
 ·have c1:(((ld P).toNat:Nat):Int)=ld P:=by omega
  rw [show (Zl L J (ld P).toNat).length=_ from Zk _ _ _ _,show (Zl L J P).length=_ from Zk _ _ _ _,c1,g2]
 ·intro i p q
  have c1:(((ld P).toNat:Nat):Int)=ld P:=by omega
  have hi:i<arN L (at' J P):=by
   rw [show (Zl L J P).length=arN L (at' J P) from Zk _ _ _ _] at q;exact q
  have k1:=Zab (L:=L) (J:=J) (p:=(ld P).toNat) (i:=i) (by rw [c1,g2];exact hi);have k2:=Zab (L:=L) (J:=J) (p:=P) (i:=i) hi;rw [List.getElem?_eq_getElem p,Option.some.injEq] at k1;rw [List.getElem?_eq_getElem q,Option.some.injEq] at k2;rw [k1,k2];exact (hc.args P hP hs i hi).symm
structure VarT (L:List Sym) (J:List Int) (ld:Int->Int) (f:Int->List Int):Prop where
 val:∀ n u,Val L J ld n u->f n=u
 none:∀ n,(¬ ∃ u,Val L J ld n u)->f n=[n]
theorem Zi1 (L:List Sym) (J:List Int) (ld:Int->Int):∃ f,VarT L J ld f:=by
 have each:∀ n:Int,∃ y:List Int,(∀ u,Val L J ld n u->y=u)∧((¬ ∃ u,Val L J ld n u)->y=[n]):=by
  intro n
  by_cases h:∃ u,Val L J ld n u
  ·obtain ⟨u,hu⟩:=h
   exact ⟨u,λ v hv=>hu.uniq hv,λ f=>absurd ⟨u,hu⟩ f⟩
  ·exact ⟨[n],λ v hv=>absurd ⟨v,hv⟩ h,λ _=>rfl⟩
 obtain ⟨f,hf⟩:=Classical.axiomOfChoice each;exact ⟨f,λ n=>(hf n).1,λ n=>(hf n).2⟩
theorem VarT.isT (h:VarT L J ld f) (hT:Trs L J) (hl:Zcl J ld) {n:Int} (hn:n<0) (hp:Z0 J n):IsT L (f n):=by
 by_cases e:∃ u,Val L J ld n u
 ·obtain ⟨u,hu⟩:=e
  rw [h.val n u hu];exact hu.isT hT hl hp
 ·rw [h.none n e];exact Ze1 L hn
theorem Zgc (hc:J3 L J m ld) (hv0:VarT L J ld f):∀ (n k p q:Nat) (u:List Int),q-p<=n->Zs L J k p q->Zl9 L J ld (Zq L J k p) u->u=Vq f ((J.drop p).take (q-p)):=by
 intro n
 induction n with
 | zero=>
  intro k p q u hn hf hv;cases k with
  | zero=>
   have:=hf.zero;subst this;obtain ⟨d,hd⟩:=hv;simp only [Zq,Vs,Option.some.injEq] at hd;subst hd;simp [Vq]
  | succ k=>have:=hf.pos;omega
 | succ n ih=>
  intro k p q u hn hf hv;cases k with
  | zero=>
   have:=hf.zero;subst this;obtain ⟨d,hd⟩:=hv;simp only [Zq,Vs,Option.some.injEq] at hd;subst hd;simp [Vq]
  | succ k=>
   obtain ⟨h1,h2,h3⟩:=hf.succ;have h4:=h3.le;have hpl:p<J.length:=by have:=h1.le;omega
   rw [Zq] at hv;obtain ⟨a,b,v1,v2,rfl⟩:=J7 hv;have e2:=ih k (Zj L J p) q b (by omega) h3 v2
   have e1:a=Vq f ((J.drop p).take (Zj L J p-p)):=by
    have hcut:(J.drop p).take (Zj L J p-p)=at' J p :: (J.drop (p+1)).take (Zj L J p-(p+1)):=by
     rw [List.drop_eq_getElem_cons hpl,show Zj L J p-p=(Zj L J p-(p+1))+1 by omega,List.take_succ_cons,Yl J p hpl]
    rw [hcut,Yp]
    by_cases hs:0<=at' J p
    ·obtain ⟨us,r1,r2⟩:=hc.own hpl hs v1
     have hk:=Yd hc.trs hpl;rw [r1,if_neg (by omega),ih _ _ _ us (by omega) hk r2];rfl
    ·have hk:=Yd hc.trs hpl
     rw [show arN L (at' J p)=0 by unfold arN;rw [if_pos (by omega)]] at hk;have:=hk.zero;rw [if_pos (by omega),this,show p+1-(p+1)=0 by omega,List.take_zero];have hv' := Zea (hc.var p hpl (by omega)) v1;rw [hv0.val _ _ hv'];simp [Vq]
   rw [e1,e2,<- Za7];congr 1;rw [show q-p=(Zj L J p-p)+(q-Zj L J p) by omega,List.take_add,List.drop_drop,show p+(Zj L J p-p)=Zj L J p by omega]
theorem Zeu {b:List Int} (ha:IsT L a):Zj L (a++b) 0=a.length:=by
 have s1:=Zd3 (X1 (b:=[]) ha) b;rw [List.append_nil] at s1;rw [Xg (n:=a.length) (by simpa using s1)];omega
theorem Zca {b:List Int} (hb:IsT L b):Zj L (a++b) a.length=a.length+b.length:=by
 have s1:=X1 (b:=[]) hb;rw [List.append_nil] at s1;exact Xg (n:=b.length) (by simpa using s1)
theorem Zml {b:List Int} {ap:Int} (h0:0<=ap) (ha:IsT L a) (hb:IsT L b) (hc:J3 L (jl a b ap) a.length ld) (hf:VarT L (jl a b ap) ld f) (hu:Val L (jl a b ap) ld 0 u):u=Vq f a∧u=Vq f (b.map (shF ap)):=by
 have hp:=Z2 ha;have hq:=Z2 hb;have hl:(jl a b ap).length=a.length+b.length:=by simp [jl]
 have hb' := Zmv h0 hb;have hm:Val L (jl a b ap) ld (a.length:Nat) u:=Zea hc.both hu;have e1:Zj L (jl a b ap) 0=a.length:=Zeu (b:=b.map (shF ap)) ha;have e2:Zj L (jl a b ap) a.length=a.length+(b.map (shF ap)).length:=Zca (a:=a) hb';constructor
 ·have:=Zgc hc hf _ 1 0 _ u (Nat.le_refl _) (hc.trs 0 (by omega)) (by
   have:=Zag hu (Zdf L (jl a b ap) ld);rw [List.append_nil] at this
   exact this)
  rw [e1] at this;rw [this];unfold jl;rw [List.drop_zero,Nat.sub_zero,List.take_left]
 ·have:=Zgc hc hf _ 1 a.length _ u (Nat.le_refl _) (hc.trs a.length (by omega)) (by
   have:=Zag hm (Zdf L (jl a b ap) ld);rw [List.append_nil] at this
   exact this)
  rw [e2] at this;rw [this];unfold jl;rw [List.drop_left,Nat.add_sub_cancel_left,List.take_length]
abbrev Tb:=Nat->List Int
def Zjt (σ:Tb) (v:Nat) (u:List Int):Tb:=λ x=>if x=v then u else σ x
def noT:Tb:=λ _=>[]
def Jc (L:List Sym) (ts:List Int):List Int:=ts.take ((Xv L 1 ts).getD 0)
def mw (L:List Sym):List Int->List Int->Tb->Option Tb
 | [],_,σ=>some σ
 | n :: r,ts,σ=>
  if 0<=n then (match ts with | []=>none | x :: ts' => if x=n then mw L r ts' σ else none)
  else if σ (-n).toNat=[] then mw L r (ts.drop (Jc L ts).length) (Zjt σ (-n).toNat (Jc L ts))
  else if σ (-n).toNat=Jc L ts then mw L r (ts.drop (Jc L ts).length) σ else none
theorem Zi0 {n:Int} {σ:Tb} (hn:0<=n):mw L (n :: r) (x :: ts) σ=if x=n then mw L r ts σ else none:=by
 rw [mw,if_pos hn]
theorem Znk {n:Int} {σ:Tb} (hn:¬ 0<=n) (h:σ (-n).toNat=[]):mw L (n :: r) ts σ=mw L r (ts.drop (Jc L ts).length) (Zjt σ (-n).toNat (Jc L ts)):=by
 rw [mw.eq_def];simp only [if_neg hn,if_pos h]
theorem Znt {n:Int} {σ:Tb} (hn:¬ 0<=n) (h:¬ σ (-n).toNat=[]):mw L (n :: r) ts σ=if σ (-n).toNat=Jc L ts then mw L r (ts.drop (Jc L ts).length) σ else none:=by
 rw [mw.eq_def];simp only [if_neg hn,if_neg h]
theorem Zdg {n:Int} (h:¬ 0<=n):arN L n=0:=by rw [arN,if_pos (by omega)]
def Zon (L:List Sym) (p ts:List Int):Prop:=∃ j,Yk L j p=some 0∧Yk L j ts=some 0
theorem Zjm {p:List Int} (h1:IsT L p) (h2:IsT L ts):Zon L p ts:=⟨1,h1,h2⟩
theorem Zon.cons {n:Int} (h:Zon L (n :: r) ts):∃ x ts', ts=x :: ts' ∧ (0<=n->x=n->Zon L r ts')∧(¬ 0<=n->∃ m,Xv L 1 ts=some m∧0<m∧m<=ts.length∧Jc L ts=ts.take m∧(Jc L ts).length=m∧Zon L r (ts.drop m)):=by
 obtain ⟨j,h1,h2⟩:=h;cases j with
 | zero=>simp [Yk] at h1
 | succ j=>
  cases ts with
  | nil=>simp [Yk] at h2
  | cons x ts' =>
   simp only [Yk] at h1;refine ⟨x,ts', rfl,λ hn e=>?_,λ hn=>?_⟩
   ·subst e
    simp only [Yk] at h2;exact ⟨_,h1,h2⟩
   ·rw [Zdg hn,Nat.add_zero] at h1
    rw [Nat.add_comm] at h2;obtain ⟨m,g1,g2,g3⟩:=Zat h2;have hh:Jc L (x :: ts')=(x :: ts').take m:=by rw [Jc,g1];rfl
    exact ⟨m,g1,Zbg (k:=0) g1,g2,hh,by rw [hh,List.length_take];omega,j,h1,g3⟩
abbrev Bd:=Int × List Int
def blN (σ:Tb) (n:Nat):List Bd:=((List.range n).filter (λ v=>decide (σ v≠[]))).map (λ (v:Nat)=>(((v:Nat):Int),σ v))
theorem Zu0 (σ:Tb):blN σ 0=[]:=rfl
theorem Zrp {σ:Tb} (h:σ n≠[]):blN σ (n+1)=blN σ n ++ [((n:Int),σ n)]:=by
 simp [blN,List.range_succ,h]
theorem Zw1 {σ:Tb} (h:σ n=[]):blN σ (n+1)=blN σ n:=by
 simp [blN,List.range_succ,h]
theorem Zyl {σ:Tb} {b:Bd} (h:b∈blN σ n):∃ v:Nat,v<n∧b=((v:Int),σ v)∧σ v≠[]:=by
 simp [blN] at h;obtain ⟨v,⟨h1,h2⟩,rfl⟩:=h;exact ⟨v,h1,rfl,h2⟩
theorem Zxx (σ:Tb) (n:Nat):(blN σ n).length<=n:=by
 rw [blN,List.length_map];exact Nat.le_trans (List.length_filter_le _ _) (by simp)
theorem Zhi {σ:Tb} {v:Nat}:Zjt σ v u v=u:=by simp [Zjt]
theorem Zc9 {σ:Tb} {v x:Nat} (h:x≠v):Zjt σ v u x=σ x:=by simp [Zjt,h]
def Zuf (σ:Tb) (n:Int):List Int:=if 0<=n∨σ (-n).toNat=[] then [n] else σ (-n).toNat
def Vo (σ:Tb) (t:List Int):List Int:=t.flatMap (Zuf σ)
theorem Zzh (σ:Tb):Vo σ []=[]:=rfl
theorem Znw (σ:Tb) (n:Int) (t:List Int):Vo σ (n :: t)=Zuf σ n++Vo σ t:=by simp [Vo]
theorem Zf9 (σ:Tb) (a b:List Int):Vo σ (a++b)=Vo σ a++Vo σ b:=by simp [Vo]
theorem Zwc (σ:Tb) (n:Int):(Zuf σ n).length=max 1 (if 0<=n then 0 else (σ (-n).toNat).length):=by
 unfold Zuf
 by_cases h:0<=n
 ·simp [h]
 ·by_cases hs:σ (-n).toNat=[]
  ·simp [h,hs]
  ·have:0<(σ (-n).toNat).length:=List.length_pos_iff.2 hs
   simp [h,hs];omega
section
open Go.RowKit
attribute [local go_sem ↓] Go.wp_at_zero Go.wp_at_succ
structure Zyz where
 ao:Option Addr
 cap:Nat
 xs:List Int
def Za8 (w:World) (pb:Nat) (ps:List Zyz):Prop:=pb<w.heap.size∧∀ i (h:i<ps.length),w.cell? ⟨pb,i,none⟩=some (.slice ps[i].ao ps[i].xs.length ps[i].cap)∧Zh w ps[i].ao ps[i].xs
def Xj (ps:List Zyz):List Int:=ps.flatMap Zyz.xs
theorem Za8.same {ps:List Zyz} (h:Za8 w pb ps) (hk:Za w w'):Za8 w' pb ps:=
 ⟨Nat.lt_of_lt_of_le h.1 hk.size,λ i hi=>⟨(hk.cell (p:=⟨pb,i,none⟩) h.1 (λ f=>f)).trans (h.2 i hi).1,(h.2 i hi).2.same hk⟩⟩
theorem Zcg {ps:List Zyz} (h:k<ps.length):Xj (ps.take (k+1))=Xj (ps.take k)++ps[k].xs:=by
 simp only [Xj];rw [List.take_add_one,List.getElem?_eq_getElem h,List.flatMap_append];simp
theorem Zmp (ps:List Zyz) (k:Nat):(Xj (ps.take k)).length<=(Xj ps).length:=by
 have e:Xj ps=Xj (ps.take k)++Xj (ps.drop k):=by rw [Xj,Xj,Xj,<- List.flatMap_append,List.take_append_drop]
 rw [e];simp
theorem Za.of (h:Below w.heap.size w w'):Za w w' := ⟨h.os,h.tape,h.output,h.size,λ k hk _=>h.block k hk⟩
def Zdx (g N m:Nat) (xs:List Int) (w wr:World):Prop:=∃ cur:List Value,wr.heap[g]? = some (.cells cur.toArray 3 (0,0))∧cur.length=N∧cur.take m=iv xs∧xs.length=m∧Za w wr
theorem Zdx.start (hv:v=.slice (some ⟨g,0,none⟩) N N) (h:wr.ownsRow w.heap.size 3 1 v N ys) (hs:Za w wr):Zdx g N 0 [] w wr:=by
 rcases h.2 with ⟨e,_⟩ | ⟨g', cap,cur,e,hb,hg,_,_,hsz,_⟩
 ·rw [hv] at e;cases e
 ·rw [hv] at e
  simp only [Value.slice.injEq,Option.some.injEq,Addr.mk.injEq,and_true,true_and] at e;obtain ⟨rfl,rfl⟩:=e;exact ⟨cur.toList,by simpa using hg,by simpa using hsz,by simp [iv],rfl,hs⟩
theorem Zkj {α:Type} (cur cs:List α) (m:Nat) (h:m+cs.length<=cur.length):(splice cur m cs).take (m+cs.length)=cur.take m++cs:=by
 unfold splice;rw [<- List.append_assoc,List.take_left' (by simp;omega)]
theorem Zdx.next {zs:List Int} {cur:List Value} (h1:cur.length=N) (h2:cur.take m=iv xs) (h3:xs.length=m) (hm:m+zs.length<=N)
  (hg:w'.heap[g]? = some (.cells (splice cur m (iv zs)).toArray 3 (0,0))) (hb:Below w.heap.size w w'):Zdx g N (m+zs.length) (xs++zs) w w' := by
 refine ⟨_,hg,?_,?_,by simp;omega,Za.of hb⟩
 ·rw [length_splice _ _ _ (by rw [Ye];omega)];exact h1
 ·have:=Zkj cur (iv zs) m (by rw [Ye];omega)
  rw [Ye] at this;rw [this,h2,Xz]
theorem Zdx.row (h:Zdx g N N xs w wr) (hg:w.heap.size<=g) (hN:N<=maxLen):Row w.heap.size wr (.slice (some ⟨g,0,none⟩) N N) xs:=by
 obtain ⟨cur,h1,h2,h3,h4,_⟩:=h;subst h4;exact ⟨by simp [iv],.inr ⟨g,xs.length,cur.toArray,rfl,hg,h1,Nat.le_refl _,hN,by simpa using h2,by simpa using h3⟩⟩
theorem Zan (xs:List Int):∀ v∈iv xs,v.oneCell' = true:=by
 intro v hv;simp only [iv,List.mem_map] at hv;obtain ⟨x,_,rfl⟩:=hv;rfl
theorem Zh.src (h:Zh w ao xs) (hn:0<(iv xs).length):∃ ad,ao=some ad∧∀ j v,(iv xs)[j]? = some v->w.cell? (ad.add j)=some v:=by
 rcases h with rfl | ⟨b,off,rfl,_,hc⟩
 ·simp [iv] at hn
 ·refine ⟨_,rfl,λ j v hj=>?_⟩
  have hlt:j<xs.length:=by
   have:=(List.getElem?_eq_some_iff.1 hj).1
   rwa [Ye] at this
  rw [Zbt hlt] at hj;cases hj;have:=hc j hlt;unfold Addr.add;split
  ·rename_i h0;subst h0;first | (simp;done) | (simpa using this)
  ·exact this
theorem iv_min (h:m+xs.length<=N) (hd:d=N-m):(iv xs).length=Nat.min xs.length d:=by rw [Ye];exact (Nat.min_eq_left (by omega)).symm
theorem Zv1:(prog.info? 3).map (·.size)=some 1:=by kernel_rfl
theorem Zmq {ps:List Zyz} (h:Za8 w pb ps) {pc:Nat} (hn:ps.length<=3) (hs:(Xj ps).length<=17592186044416) :
  Calls prog 163 #[.slice (some ⟨pb,0,none⟩) ps.length pc] w λ e w' => ∃ v,e=.returned v∧Row w.heap.size w' v (Xj ps)∧Za w w' := by
 go_enter func163,ntmps163
 go_wp2
 go_loop [3,12] (λ sz i=>∃ k:Nat,k<=ps.length∧i=.int .i64 (k:Int)∧sz=.int .i64 ((Xj (ps.take k)).length:Int)) (λ _ i=>ps.length-(intOf i).toNat)
 case atStart=>exact ⟨0,Nat.zero_le _,rfl,rfl⟩
 case round=>
  obtain ⟨k,hk,rfl,rfl⟩:=hrel
  by_cases hlt:k<ps.length
  ·have i1:(0:Int)<=(k:Int):=by omega
   have i2:(k:Int)<(ps.length:Int):=by omega
   obtain ⟨hc,_⟩:=h.2 k hlt;have hb:=h.1;have e1:=congrArg List.length (Zcg hlt);rw [List.length_append] at e1;have e2:=Zmp ps (k+1);have E1:Hid ((Xj (ps.take (k+1))).length=(Xj (ps.take k)).length+ps[k].xs.length):=e1;have b1:(Xj (ps.take k)).length+ps[k].xs.length<=17592186044416:=by omega
   clear e1 e2;generalize (Xj (ps.take k)).length=S at *;generalize ps[k].xs.length=X at *;go_wp2;refine ⟨⟨k+1,by omega,by go_num,?_⟩,by simp [intOf];omega⟩;rw [E1.out];go_num
  ·obtain rfl:k=ps.length:=by omega
   obtain ⟨i,hi,hz0,hz1,hz2⟩:=info_parts V7;have e0:ps.take ps.length=ps:=List.take_length;rw [e0];clear e0;obtain ⟨N,hN⟩:∃ N,N=(Xj ps).length:=⟨_,rfl⟩;have hN' : Hid (N=(Xj ps).length):=hN;have hs' : N<=17592186044416:=by omega
   rw [<- hN];clear hN hs
   go_wp2_with (at_make;refine wpList_make_full _ rfl _ _ 74 rfl w.heap.size 3 i _ 1 underlying74 hi hz0 hz1 _ _ _ _ N rfl rfl rfl rfl (by rw [hz2];omega) (by unfold maxLen;omega) (Nat.le_refl _) ?_;intro w3 hown hgrow)
   have J0:Zdx w.heap.size N 0 (Xj (ps.take 0)) w w3:=Zdx.start rfl hown (Za.grown (Zc.refl _ w) hgrow);clear hown hgrow
   go_loopw [7,25] (λ at' i wr=>∃ (k m:Nat),k<=ps.length∧i=.int .i64 (k:Int)∧at' = .int .i64 (m:Int)∧Zdx w.heap.size N m (Xj (ps.take k)) w wr) (λ _ i _=>ps.length-(intOf i).toNat)
   case atStart=>exact ⟨0,0,Nat.zero_le _,rfl,rfl,J0⟩
   case round=>
    obtain ⟨k,m,hk,rfl,rfl,cur,q1,q2,q3,q4,q5⟩:=hrel
    by_cases hlt:k<ps.length
    ·have i1:(0:Int)<=(k:Int):=by omega
     have i2:(k:Int)<(ps.length:Int):=by omega
     have h' := h.same q5;obtain ⟨hc,hx⟩:=h'.2 k hlt;have hb:=h'.1;have e1:=congrArg List.length (Zcg hlt);rw [List.length_append,q4] at e1;have e2:=Zmp ps (k+1);have hN2:=hN'.out;have b1:m+ps[k].xs.length<=N:=by omega
     have E2:Hid (Xj (ps.take (k+1))=Xj (ps.take k)++ps[k].xs):=Zcg hlt;have Q3:Hid (cur.take m=iv (Xj (ps.take k))):=q3;have Q4:Hid ((Xj (ps.take k)).length=m):=q4;have hbl:=q5.below;clear e1 e2 hN2 q3 q4 h';have m1:(m:Int)<=(N:Int):=by omega
     have m0:(0:Int)<=(m:Int):=by omega
     obtain ⟨pao,hpao⟩:∃ pao,pao=ps[k].ao:=⟨_,rfl⟩;obtain ⟨pcap,hpcap⟩:∃ pcap,pcap=ps[k].cap:=⟨_,rfl⟩;obtain ⟨pxs,hpxs⟩:∃ pxs,pxs=ps[k].xs:=⟨_,rfl⟩;rw [<- hpao,<- hpxs,<- hpcap] at hc;rw [<- hpao,<- hpxs] at hx;rw [<- hpxs] at b1 E2;clear hpao hpcap hpxs;have hfit:Hid (m+(iv pxs).length<=cur.length):=by show _<=_;rw [Ye];omega
     go_upto_region 12 with fail
     go_wp2_with (refine wpList_copy_splice rfl (.tmp 32) (.tmp 33) 74 74 rfl 3 underlying74 Zv1 _ _ _ _ _ _ rfl rfl w.heap.size m cur 3 q1 (iv pxs) (iv_min b1 (by omega)) (λ h0=>⟨by first | rfl | (exfalso;rw [Ye] at h0;omega) | (split <;> first | rfl | (exfalso;rw [Ye] at h0;omega)),hx.src h0⟩) hfit.out (Zan pxs) w.heap.size w hbl (Nat.le_refl _) ?_;intro w4 hg4 hb4)
     have ew:wrap64 ((m:Int)+((iv pxs).length:Int))=((m+pxs.length:Nat):Int):=by rw [Ye];unfold wrap64;omega
     refine ⟨⟨k+1,m+pxs.length,by omega,by go_num,by rw [ew],?_⟩,by simp [intOf];omega⟩;rw [E2.out];exact Zdx.next q2 Q3.out Q4.out b1 hg4.out hb4
    ·obtain rfl:k=ps.length:=by omega
     rw [List.take_length] at q3 q4;obtain rfl:N=m:=by rw [<- q4];exact hN'.out
     have hr:Row w.heap.size wr (.slice (some ⟨w.heap.size,0,none⟩) N N) (Xj ps):=Zdx.row ⟨cur,q1,q2,q3,q4,q5⟩ (Nat.le_refl _) (by unfold maxLen;omega);clear q1 q2 q3 q4;go_wp2;go_ret;exact ⟨_,rfl,hr,q5⟩
theorem Zh.cut {off:Nat} (h:Zh w (some ⟨b,off,none⟩) t) (lo hi:Nat):Zh w (some ⟨b,off+lo,none⟩) ((t.take hi).drop lo):=by
 rcases h with rfl | ⟨b', off', e,hlt,hc⟩
 ·left;simp
 ·simp only [Option.some.injEq,Addr.mk.injEq,and_true] at e
  obtain ⟨rfl,rfl⟩:=e;refine .inr ⟨b,off+lo,rfl,hlt,λ i hi' => ?_⟩;have h1:lo+i<t.length:=by simp at hi'; omega
  have:=hc (lo+i) h1;rw [Nat.add_assoc,this];simp
theorem Zh.nil (w:World) (ao:Option Addr):Zh w ao []:=.inl rfl
theorem Zta (h:Zh w ao xs) (hm:m=xs.length):Za8 (w.alloc (.cells #[.slice ao m cap] T)) w.heap.size [⟨ao,cap,xs⟩]:=by
 subst hm;refine ⟨by simp,λ i hi=>?_⟩;obtain rfl:i=0:=by simpa using hi
 exact ⟨Zb (heap_alloc_new w _) 0,h.same ((Zc.refl _ w).alloc _)⟩
theorem Zlc {a0 a1 a2:Option Addr} {c0 c1 c2 m0 m1 m2:Nat} {x0 x1 x2:List Int} (h0:Zh w a0 x0) (h1:Zh w a1 x1) (h2:Zh w a2 x2) (e0:m0=x0.length) (e1:m1=x1.length) (e2:m2=x2.length) :
  Za8 (w.alloc (.cells #[.slice a0 m0 c0,.slice a1 m1 c1,.slice a2 m2 c2] T)) w.heap.size [⟨a0,c0,x0⟩,⟨a1,c1,x1⟩,⟨a2,c2,x2⟩]:=by
 subst e0 e1 e2;have k:Za w (w.alloc (.cells #[.slice a0 x0.length c0,.slice a1 x1.length c1,.slice a2 x2.length c2] T)):=(Zc.refl _ w).alloc _;refine ⟨by simp,λ i hi=>?_⟩;have hi' : i<3:=by simpa using hi
 match i,hi' with
 | 0,_=>exact ⟨Zb (heap_alloc_new w _) 0,h0.same k⟩
 | 1,_=>exact ⟨Zb (heap_alloc_new w _) 1,h1.same k⟩
 | 2,_=>exact ⟨Zb (heap_alloc_new w _) 2,h2.same k⟩
def Zxb (L:List Sym) (t:List Int) (a:Int):List Int:=if Zz L t a=0 then Jr L t a.toNat else []
theorem Zyp (h:Sg n w b L) (ht:Zh w ao t) (hm:t.length<=maxLen) (hcap:t.length<=cap) (a:Int) :
  Calls prog 156 #[.pointer (some ⟨b,0,none⟩),.slice ao t.length cap,.int .i64 a] w λ e w' => ∃ v,e=.returned (.tuple #[v,.int .i64 (Zz L t a)])∧Row w.heap.size w' v (Zxb L t a)∧Za w w' := by
 have c:=Vf (cap:=cap) h ht hm a
 by_cases hz:Zz L t a=0
 ·obtain ⟨p,rfl,hp,h0,h1,h2⟩:=Jw hz
  have H:Hid (Zz L t p=0∧Zxb L t p=Jr L t p):=by
   refine ⟨hz,?_⟩;rw [Zxb,if_pos hz];rfl
  have c2:∀ w1 q,Za w w1->q<t.length->Calls prog 154 #[.pointer (some ⟨b,0,none⟩),.slice ao t.length cap,.int .i64 (q:Int)] w1 λ e w' => e=.returned (.int .i64 (Zj L t q:Int))∧Za w1 w' := λ w1 q hk hq=>by
   have:=Zeo (cap:=cap) (h.same hk) (ht.same hk) h1 q (by omega)
   rwa [Zha h2 hq] at this
  obtain ⟨hl1,hl2⟩:=Xs h2 hp;obtain ⟨tb,off,rfl,htb,hc⟩:=ht.get hp;rw [hz] at c;have i1:(0:Int)<=(p:Int):=by omega
  have i2:(p:Int)<=(Zj L t p:Int):=by omega
  have i3:(Zj L t p:Int)<=(cap:Int):=by omega
  have i4:¬ cap=p:=by omega
  go_enter func156,ntmps156
  go_wp2_with (first | (go_at_call 162;refine c.mono ?_;rintro e w1 ⟨rfl,hk1⟩) | (go_at_call 154;refine (c2 _ _ hk1 hp).mono ?_;rintro e w2 ⟨rfl,hk2⟩))
  have hk3:Za w w2:=hk1.trans' hk2;have hparts:Za8 (w2.alloc (.cells #[.slice (some ⟨tb,off+p,none⟩) (Zj L t p-p) (cap-p)] 74)) w2.heap.size [⟨some ⟨tb,off+p,none⟩,cap-p,Jr L t p⟩]:=Zta ((ht.same hk3).cut p (Zj L t p)) (Zap h2 hp).symm;have hlen:(Jr L t p).length<=2000:=by rw [Zap h2 hp];omega
  refine (Zmq hparts (pc:=1) (by simp) (by simp [Xj];omega)).mono ?_;rintro e w4 ⟨v,rfl,hr,hk4⟩;have e5:Xj [⟨some ⟨tb,off+p,none⟩,cap-p,Jr L t p⟩]=Jr L t p:=by simp [Xj]
  rw [e5] at hr;have hk5:Za w (w2.alloc (.cells #[.slice (some ⟨tb,off+p,none⟩) (Zj L t p-p) (cap-p)] 74)):=hk3.alloc _;have hr' := Yy hr hk5.size;have hk6:=hk5.trans' hk4;clear hr hparts hk4 hk5 c c2;go_wp2
  go_ret2
  refine ⟨v,?_,?_,hk6⟩
  ·rw [H.out.1];rfl
  ·rw [H.out.2];exact hr'
 ·have H:Hid (Zxb L t a=[]):=by show _=_;rw [Zxb,if_neg hz]
  have hz' : (Zz L t a == 0)=false:=by simpa using hz
  go_enter func156,ntmps156
  go_wp2_with (go_at_call 162;refine c.mono ?_;rintro e w1 ⟨rfl,hk1⟩)
  go_ret2
  refine ⟨_,rfl,?_,hk1⟩;rw [H.out];exact World.ownsRow_nil _ _ _ _
def Zfl (L:List Sym) (t:List Int) (a:Int) (u:List Int):Int:=if Zz L t a≠0 then Zz L t a else if Zd L u≠0 then Zd L u else if 2000<(Kx L t a.toNat u).length then 20 else 0
def Zqh (L:List Sym) (t:List Int) (a:Int) (u:List Int):List Int:=if Zfl L t a u=0 then Kx L t a.toNat u else []
theorem Zzu (h:Sg n w b L) {uo:Option Addr} {ucap:Nat} (ht:Zh w ao t) (hm:t.length<=maxLen) (hcap:t.length<=cap) (hu:Zh w uo u) (hum:u.length<=maxLen) (a:Int) :
  Calls prog 112 #[.pointer (some ⟨b,0,none⟩),.slice ao t.length cap,.int .i64 a,.slice uo u.length ucap] w λ e w' => ∃ v,e=.returned (.tuple #[v,.int .i64 (Zfl L t a u)])∧Row w.heap.size w' v (Zqh L t a u)∧Za w w' := by
 have c:=Vf (cap:=cap) h ht hm a;have cu:∀ w1,Za w w1->Calls prog 104 #[.pointer (some ⟨b,0,none⟩),.slice uo u.length ucap] w1 λ e w' => e=.returned (.int .i64 (Zd L u))∧Za w1 w' := λ w1 hk=>Xn (cap:=ucap) (h.same hk) (hu.same hk) hum
 by_cases hz:Zz L t a=0
 ·by_cases hzu:Zd L u=0
  ·obtain ⟨p,rfl,hp,h0,h1,h2⟩:=Jw hz
   obtain ⟨u1,_,u2⟩:=Ze.1 hzu
   have c2:∀ w1 q,Za w w1->q<t.length->Calls prog 154 #[.pointer (some ⟨b,0,none⟩),.slice ao t.length cap,.int .i64 (q:Int)] w1 λ e w' => e=.returned (.int .i64 (Zj L t q:Int))∧Za w1 w' := λ w1 q hk hq=>by
    have:=Zeo (cap:=cap) (h.same hk) (ht.same hk) h1 q (by omega)
    rwa [Zha h2 hq] at this
   obtain ⟨hl1,hl2⟩:=Xs h2 hp;have hpl:=Zoo h2 hp u;obtain ⟨tb,off,rfl,htb,hc⟩:=ht.get hp;rw [hz] at c;rw [hzu] at cu
   by_cases hlong:2000<(Kx L t p u).length
   ·have H:Hid (Zfl L t p u=20∧Zqh L t p u=[]):=by
     have e1:Zfl L t p u=20:=by simp [Zfl,hz,hzu,hlong]
     exact ⟨e1,by rw [Zqh,e1];rfl⟩
    have z1:2000<t.length-(Zj L t p-p)+u.length:=by omega
    have z2:(2000:Int)<(t.length:Int)-((Zj L t p:Int)-(p:Int))+(u.length:Int):=by omega
    clear hpl hlong
    go_enter func112,ntmps112
    go_wp2_with (first | (go_at_call 162;refine c.mono ?_;rintro e w1 ⟨rfl,hk1⟩) | (go_at_call 104;refine (cu _ hk1).mono ?_;rintro e w2 ⟨rfl,hk2⟩;have hk3:=hk1.trans' hk2) | (go_at_call 154;refine (c2 _ _ hk3 hp).mono ?_;rintro e w4 ⟨rfl,hk4⟩))
    go_ret2
    refine ⟨.slice none 0 0,?_,?_,hk3.trans' hk4⟩
    ·rw [H.out.1];rfl
    ·rw [H.out.2];exact World.ownsRow_nil _ _ _ _
   ·have H:Hid (Zfl L t p u=0∧Zqh L t p u=Kx L t p u):=by
     have e1:Zfl L t p u=0:=by simp [Zfl,hz,hzu,hlong]
     exact ⟨e1,by rw [Zqh,e1];rfl⟩
    have z2:¬ (2000:Int)<(t.length:Int)-((Zj L t p:Int)-(p:Int))+(u.length:Int):=by omega
    have i1:(0:Int)<=(p:Int):=by omega
    have i2:(p:Int)<=(cap:Int):=by omega
    have i3:(Zj L t p:Int)<=(t.length:Int):=by omega
    have i4:(0:Int)<=(Zj L t p:Int):=by omega
    clear hpl
    go_enter func112,ntmps112
    go_upto_region 10 with (first | (go_at_call 162;refine c.mono ?_;rintro e w1 ⟨rfl,hk1⟩) | (go_at_call 104;refine (cu _ hk1).mono ?_;rintro e w2 ⟨rfl,hk2⟩;have hk3:=hk1.trans' hk2) | (go_at_call 154;refine (c2 _ _ hk3 hp).mono ?_;rintro e w4 ⟨rfl,hk4⟩))
    have hk5:Za w w4:=hk3.trans' hk4
    have cj:∀ (a2:Option Addr) (c0 c2 m2:Nat),Zh w4 a2 (t.drop (Zj L t p))->m2=t.length-Zj L t p->Calls prog 163 #[.slice (some ⟨w4.heap.size,0,none⟩) 3 3] (w4.alloc (.cells #[.slice (some ⟨tb,off,none⟩) p c0,.slice uo u.length ucap,.slice a2 m2 c2] 74)).drew λ e w' => ∃ v,e=.returned v∧Row w.heap.size w' v (Kx L t p u)∧Za w w' := by
     intro a2 c0 c2 m2 h2' hm2;have hp1:Zh w4 (some ⟨tb,off,none⟩) (t.take p):=by simpa using (ht.same hk5).cut 0 p
     have hparts:=(Zlc (m0:=p) (m1:=u.length) (m2:=m2) (c0:=c0) (c1:=ucap) (c2:=c2) (T:=74) hp1 (hu.same hk5) h2' (by simp;omega) rfl (by simp;omega)).same ((Zc.refl _ _).drew);refine (Zmq hparts (pc:=3) (by simp) (by simp [Xj];omega)).mono ?_;rintro e w6 ⟨v,rfl,hr,hk6⟩;have e5:Xj [⟨some ⟨tb,off,none⟩,c0,t.take p⟩,⟨uo,ucap,u⟩,⟨a2,c2,t.drop (Zj L t p)⟩]=Kx L t p u:=by simp [Xj,Kx]
     rw [e5] at hr;have hk7:Za w (w4.alloc (.cells #[.slice (some ⟨tb,off,none⟩) p c0,.slice uo u.length ucap,.slice a2 m2 c2] 74)).drew:=(hk5.alloc _).drew;exact ⟨v,rfl,Yy hr hk7.size,hk7.trans' hk6⟩
    have A2:Zh w4 (some ⟨tb,off+Zj L t p,none⟩) (t.drop (Zj L t p)):=by simpa using (ht.same hk5).cut (Zj L t p) t.length
    have A1:cap=Zj L t p->Zh w4 (some ⟨tb,off,none⟩) (t.drop (Zj L t p)):=λ e=>by
     have:t.drop (Zj L t p)=[]:=List.drop_eq_nil_of_le (by omega);rw [this];exact Zh.nil _ _
    clear c c2 cu
    by_cases hcb:cap=Zj L t p
    ·have B1:=A1 hcb
     clear A1;subst hcb
     go_region_with (go_at_call 163;refine (cj _ _ _ _ B1 (by omega)).mono ?_;rintro e w6 ⟨v,rfl,hr,hk6⟩)
     all_goals
      go_wp2
      go_ret2
      refine ⟨v,?_,?_,hk6⟩
      ·rw [H.out.1];rfl
      ·rw [H.out.2];exact hr
    ·clear A1
     go_region_with (go_at_call 163;refine (cj _ _ _ _ A2 (by omega)).mono ?_;rintro e w6 ⟨v,rfl,hr,hk6⟩)
     all_goals
      go_wp2
      go_ret2
      refine ⟨v,?_,?_,hk6⟩
      ·rw [H.out.1];rfl
      ·rw [H.out.2];exact hr
  ·have H:Hid (Zfl L t a u=Zd L u∧Zqh L t a u=[]):=by
    have e1:Zfl L t a u=Zd L u:=by simp [Zfl,hz,hzu]
    exact ⟨e1,by rw [Zqh,e1,if_neg hzu]⟩
   have hz' : (Zd L u == 0)=false:=by simpa using hzu
   rw [hz] at c
   go_enter func112,ntmps112
   go_wp2_with (first | (go_at_call 162;refine c.mono ?_;rintro e w1 ⟨rfl,hk1⟩) | (go_at_call 104;refine (cu _ hk1).mono ?_;rintro e w2 ⟨rfl,hk2⟩;have hk3:=hk1.trans' hk2))
   go_ret2
   refine ⟨.slice none 0 0,?_,?_,hk3⟩
   ·rw [H.out.1];rfl
   ·rw [H.out.2];exact World.ownsRow_nil _ _ _ _
 ·have H:Hid (Zfl L t a u=Zz L t a∧Zqh L t a u=[]):=by
   have e1:Zfl L t a u=Zz L t a:=by simp [Zfl,hz]
   exact ⟨e1,by rw [Zqh,e1,if_neg hz]⟩
  have hz' : (Zz L t a == 0)=false:=by simpa using hz
  go_enter func112,ntmps112
  go_wp2_with (go_at_call 162;refine c.mono ?_;rintro e w1 ⟨rfl,hk1⟩)
  go_ret2
  refine ⟨.slice none 0 0,?_,?_,hk1⟩
  ·rw [H.out.1];rfl
  ·rw [H.out.2];exact World.ownsRow_nil _ _ _ _
theorem Zj2 (h:leads L t 0 path=leads L t q (path.drop k)) (hk:k<path.length) (hq:q<t.length) (hn:path[k]<0∨(arN L t[q]:Int)<=path[k]):leads L t 0 path=none:=by
 rw [h,List.drop_eq_getElem_cons hk,leads];split
 ·rfl
 ·rw [Z9 hq,List.getElem?_eq_none (by rw [Zk];omega)]
theorem Zp9 {i:Nat} (h:leads L t 0 path=leads L t q (path.drop k)) (hk:k<path.length) (hq:q<t.length) (hi:path[k]=(i:Int)) (hn:i<arN L t[q]):leads L t 0 path=leads L t (past L t i (q+1)) (path.drop (k+1)):=by
 rw [h,List.drop_eq_getElem_cons hk,leads,hi,if_neg (by omega),Z9 hq];simp only [Int.toNat_natCast];rw [Zbd hn]
theorem Zss (h:IsT L t) (hq:q<t.length) (hi:i<arN L t[q]):past L t i (q+1)<t.length:=by
 have hf:=(Zs.one h hq).kids.2;have hd:=hf.drop (i:=i) (by omega);rw [show arN L t[q]-i=(arN L t[q]-i-1)+1 by omega] at hd;have:=hd.pos;have:=hd.le;omega
def Zb5 (xs ys:List Int):Bool:=decide (xs=ys)
theorem Zwh {ys:List Int} (h:xs.length≠ys.length):Zb5 xs ys=false:=by
 simp [Zb5];intro e;exact h (by rw [e])
theorem Zii {ys:List Int} (h:xs.take k=ys.take k) (hx:k<xs.length) (hy:k<ys.length) (he:xs[k]=ys[k]):xs.take (k+1)=ys.take (k+1):=by
 rw [List.take_add_one,List.take_add_one,h,List.getElem?_eq_getElem hx,List.getElem?_eq_getElem hy,he]
structure Both (n0:Nat) (w0 w:World) (b rb:Nat) (L:List Sym) (sv:Value) (mr:Option Nat) (rv:Value):Prop where
 sg:Yc w b L sv mr
 rf:Ju w rb L rv
 f:∀ k,Foot b sv mr k->n0<=k
 g:∀ k,Zd2 rb rv k->n0<=k
 d:∀ k,Foot b sv mr k->¬ Zd2 rb rv k
 k:Zc (From n0) w0 w
 a:Ars L
theorem Zfo (h:Zc (From w.heap.size) w w'):Za w w' := ⟨h.os,h.tape,h.output,h.size,λ k hk _=>h.block k hk (λ e=>by omega)⟩
theorem Zvb (w:World) (xs:List Int) (T:TypeId) {o:Obj} (ho:o=.cells (iv xs).toArray T (0,0)):Zh (w.alloc o) (some ⟨w.heap.size,0,none⟩) xs:=by
 subst ho;refine .inr ⟨_,_,rfl,by simp,λ i hi=>?_⟩;rw [Nat.zero_add,Zb (heap_alloc_new w _)]
 simpa using Zbt hi
theorem Row.ints (h:Row base w v xs):∃ ao cap,v=.slice ao xs.length cap∧Zh w ao xs∧xs.length<=cap∧(∀ a,ao=some a->base<=a.block∧a.block<w.heap.size):=by
 rcases h.2 with ⟨rfl,h0⟩ | ⟨g,cap,cur,rfl,hb,hg,h1,h2,h3,h4⟩
 ·have:xs=[]:=List.eq_nil_of_length_eq_zero h0
  subst this;exact ⟨none,0,rfl,.inl rfl,Nat.le_refl _,λ a e=>by cases e⟩
 ·refine ⟨_,cap,rfl,.inr ⟨g,0,rfl,Zi hg,λ i hi=>?_⟩,h1,λ a e=>by cases e;exact ⟨hb,Zi hg⟩⟩
  rw [Nat.zero_add,h.cellAt i (by omega)];exact Zbt hi
abbrev zS:Sym:=⟨⟨#[122]⟩,0,false⟩
abbrev L3:List Sym:=[zS,aS,aAdd]
theorem Zfm (h:Rl n w rv L) (x:Int):Calls prog 144 #[rv,.int .i64 x] w λ e w' => e=.returned (.int .i64 (if x<0∨(L.length:Int)<=x then -1 else (arN L x:Int)))∧w' = w:=by
 obtain ⟨hr,_,ha,hlen⟩:=h;obtain ⟨ao,cap,rfl⟩:=Zf hr
 by_cases h0:x<0
 ·go_enter func144,ntmps144
  go_wp2;go_ret;exact ⟨rfl,rfl⟩
 ·by_cases h1:(L.length:Int)<=x
  ·go_enter func144,ntmps144
   go_wp2;go_ret;exact ⟨rfl,rfl⟩
  ·obtain ⟨i,rfl⟩:∃ i:Nat,x=(i:Int):=⟨x.toNat,by omega⟩
   have hi:i<L.length:=by omega
   have H:Hid (((arN L (i:Int):Nat):Int)=L[i].ar):=Zrs ha hi;obtain ⟨g,rfl,hg,x0,x1,x2⟩:=Zto hr hi;have i1:(0:Int)<=(i:Int):=by omega
   have i2:(i:Int)<(L.length:Int):=by omega
   go_enter func144,ntmps144
   go_wp2;go_ret;exact ⟨by rw [H.out];rfl,rfl⟩
theorem Zb1 (h:Rl n w rv L) (x:Int):Calls prog 222 #[rv,.int .i64 x] w λ e w' => e=.returned (.int .i64 (arN L x:Int))∧w' = w:=by
 have c:=Zfm h x
 by_cases hx:x<0∨(L.length:Int)<=x
 ·rw [if_pos hx] at c
  have H:Hid (arN L x=0):=Zwk hx
  go_enter func222,ntmps222
  go_wp2_with (go_at_call 144;refine c.mono ?_;rintro e w' ⟨rfl,rfl⟩)
  go_ret;exact ⟨by rw [H.out];rfl,rfl⟩
 ·rw [if_neg hx] at c
  go_enter func222,ntmps222
  go_wp2_with (go_at_call 144;refine c.mono ?_;rintro e w' ⟨rfl,rfl⟩)
  go_ret;exact ⟨rfl,rfl⟩
theorem Zhk (h:Rl n w rv L) (ht:Zh w ao t) (hm:t.length<=2000) (p0:Nat) (hp0:p0<=t.length) :
  Calls prog 195 #[rv,.slice ao t.length cap,.int .i64 (p0:Int)] w λ e w' => e=.returned (.int .i64 (Zj L t p0))∧w' = w:=by
 have ha:=h.2.2.1
 go_enter func195,ntmps195
 go_wp2
 go_loop [7,8] (λ la at' => ∃ p k:Nat,p0<=p∧p<=t.length∧at' = .int .i64 (p:Int)∧la=.int .i64 (k:Int)∧k<=1+6 * (p-p0)∧Hid (Zie L t p0=(Xv L k (t.drop p)).map (p + ·))) (λ _ at' => t.length-(intOf at').toNat)
 case atStart=>exact ⟨p0,1,Nat.le_refl _,hp0,rfl,rfl,by omega,rfl⟩
 case round=>
  obtain ⟨p,k,h1,h2,rfl,rfl,h3,h4⟩:=hrel
  by_cases hlt:p<t.length
  ·cases k with
   | zero=>
    have H6:Hid (Zj L t p0=p):=by
     have:=h4.out;simp [Xa] at this;show _=_;simp [Zj,this]
    go_wp2;go_ret;exact ⟨by rw [H6.out];rfl,rfl⟩
   | succ k=>
    obtain ⟨tb,off,rfl,htb,hc⟩:=ht.get hlt;have c:=Zb1 h t[p];have hle:=Vm ha t[p];have H5:Hid (Zie L t p0=(Xv L (k+arN L t[p]) (t.drop (p+1))).map (p+1 + ·)):=Zfq h4.out hlt;have i1:(0:Int)<=(p:Int):=by omega
    have i2:(p:Int)<(t.length:Int):=by omega
    clear h4;generalize arN L t[p]=a at *
    go_wp2_with (go_at_call 222;refine c.mono ?_;rintro e w' ⟨rfl,rfl⟩)
    refine ⟨⟨p+1,k+a,by omega,by omega,by go_num,by first | (congr 1;omega) | congr 1,by omega,H5⟩,by simp [intOf];omega⟩
  ·have H6:Hid (Zj L t p0=p):=by
    have h4:=h4.out;rw [List.drop_eq_nil_of_le (by omega)] at h4;show _=_;cases k with
    | zero=>simp [Xv] at h4;simp [Zj,h4]
    | succ k=>simp [Xv] at h4;simp [Zj,h4];omega
   go_wp2;go_ret;exact ⟨by rw [H6.out];rfl,rfl⟩
theorem Zsc (h:Yk L 1 (t.take p)=some k) (hp:p<t.length):(k=0->¬ Yk L 1 t=some 0)∧(∀ j,k=j+1->Yk L 1 (t.take (p+1))=some (j+arN L t[p])):=by
 have e:t=t.take p++(t[p] :: t.drop (p+1)):=by rw [<- List.drop_eq_getElem_cons hp,List.take_append_drop]
 constructor
 ·rintro rfl hn
  rw [e,Y8,h,Option.bind_some,Yk] at hn;cases hn
 ·rintro j rfl
  rw [List.take_add_one,Y8,h,List.getElem?_eq_getElem hp];simp [Yk]
theorem Zjv (h:¬ 2000<t.length) (hb:Ks L t=0):Zd L t=if Yk L 1 t=some 0 then 0 else 23:=by
 simp [Zd,h,hb]
theorem Zf3 (h:Rl n w rv L) (ht:Zh w ao t) (hm:t.length<=maxLen) :
  Calls prog 189 #[rv,.slice ao t.length cap] w λ e w' => e=.returned (.int .i64 (Zd L t))∧w' = w:=by
 unfold maxLen at hm;have ha:=h.2.2.1;have hL64:=h.2.2.2;obtain ⟨ro,rcap,rfl⟩:=Zf h.1
 by_cases hl:2000<t.length
 ·have H:Hid (Zd L t=20):=Zdk hl
  go_enter func189,ntmps189
  go_wp2;go_ret;exact ⟨Z3 H.out.symm,rfl⟩
 ·have hl' : t.length<=2000:=by omega
  go_enter func189,ntmps189
  go_wp2
  go_loop [5] (λ i=>∃ p:Nat,p<=t.length∧i=.int .i64 (p:Int)∧Hid (Ks L (t.take p)=0)) (λ i=>t.length-(intOf i).toNat)
  case atStart=>exact ⟨0,Nat.zero_le _,rfl,by simp [Ks,Hid]⟩
  case round=>
   obtain ⟨p,h1,rfl,h2⟩:=hrel
   by_cases hlt:p<t.length
   ·obtain ⟨tb,off,rfl,htb,hc⟩:=ht.get hlt
    have i1:(0:Int)<=(p:Int):=by omega
    have i2:(p:Int)<(t.length:Int):=by omega
    obtain ⟨s1,s2⟩:=Zi6 hlt h2.out
    by_cases q1:(L.length:Int)<=t[p]
    ·have e0:Zes L t[p]=21:=by simp [Zes,q1]
     have H:Hid (Zd L t=21):=by
      show _=_;have:=s1 (by omega);rw [Zb6 hl (by omega)];omega
     clear s1 s2 h2 e0;go_wp2;go_ret;exact ⟨Z3 H.out.symm,rfl⟩
    ·by_cases q2:t[p] < -99
     ·have e0:Zes L t[p]=22:=by simp [Zes,q1,q2]
      have H:Hid (Zd L t=22):=by
       show _=_;have:=s1 (by omega);rw [Zb6 hl (by omega)];omega
      clear s1 s2 h2 e0;go_wp2;go_ret;exact ⟨Z3 H.out.symm,rfl⟩
     ·have e0:Zes L t[p]=0:=by simp [Zes,q1,q2]
      have S2:Hid (Ks L (t.take (p+1))=0):=s2 e0;clear s1 s2 h2 e0;go_wp2;exact ⟨⟨p+1,by omega,by go_num,S2⟩,by simp [intOf];omega⟩
   ·obtain rfl:p=t.length:=by omega
    have hb:=h2.out;rw [List.take_length] at hb;have HC:Hid (Zd L t=if Yk L 1 t=some 0 then 0 else 23):=Zjv hl hb;clear h2 hb;go_wp2
    go_loop [6,7] (λ la i=>∃ p k:Nat,p<=t.length∧i=.int .i64 (p:Int)∧la=.int .i64 (k:Int)∧k<=1+6 * p∧Hid (Yk L 1 (t.take p)=some k)) (λ _ i=>t.length-(intOf i).toNat)
    case atStart=>exact ⟨0,1,Nat.zero_le _,rfl,rfl,by omega,by simp [Yk,Hid]⟩
    case round=>
     obtain ⟨p,k,g1,rfl,rfl,g2,g3⟩:=hrel
     by_cases hlt2:p<t.length
     ·obtain ⟨tb,off,rfl,htb,hc⟩:=ht.get hlt2
      have i1:(0:Int)<=(p:Int):=by omega
      have i2:(p:Int)<(t.length:Int):=by omega
      obtain ⟨s1,s2⟩:=Zsc g3.out hlt2;cases k with
      | zero=>
       have H:Hid (Zd L t=23):=by show _=_;rw [HC.out,if_neg (s1 rfl)]
       clear s1 s2 g3 HC;go_wp2;go_ret;exact ⟨Z3 H.out.symm,rfl⟩
      | succ k=>
       have S2:Hid (Yk L 1 (t.take (p+1))=some (k+arN L t[p])):=s2 k rfl;have c:=Zb1 h t[p];have hle:=Vm ha t[p];clear s1 s2 g3 HC;generalize arN L t[p]=a at *
       go_wp2_with (go_at_call 222;refine c.mono ?_;rintro e w' ⟨rfl,rfl⟩)
       refine ⟨⟨p+1,k+a,by omega,by go_num,by first | (congr 1;omega) | congr 1,by omega,S2⟩,by simp [intOf];omega⟩
     ·obtain rfl:p=t.length:=by omega
      have g4:=g3.out;rw [List.take_length] at g4
      by_cases hk0:k=0
      ·subst hk0
       have H:Hid (Zd L t=0):=by show _=_;rw [HC.out,if_pos g4]
       clear g3 g4 HC;go_wp2;go_ret;exact ⟨Z3 H.out.symm,rfl⟩
      ·have H:Hid (Zd L t=23):=by show _=_;rw [HC.out,if_neg (by rw [g4];simp;exact hk0)]
       clear g3 g4 HC;go_wp2;go_ret;exact ⟨Z3 H.out.symm,rfl⟩
theorem Yz {ops:Array Oper} {rest:List Oper} {o:Oper} {a:Act} {Q:Exit->Act->World->Prop} (hgd:o.guard=none) (s x:Operand) (t:TypeId)
  (ho:o.op=.call { callee:=.builtin .append,args:=#[s,x],argTypes:=#[t,t] }) (ht:prog.underlying t=some (.slice 3))
  (base:Nat) (xs:List Int) (v:Value) (hs:a.eval s=v) (hr:Row base w0 v xs) (y:Int) (hx:a.eval x=.slice (some ⟨w0.heap.size,0,none⟩) 1 1) (hb:base<=w0.heap.size) (hsz:(xs.length+1) * 8<=140737488355328)
  (h:∀ g cap w', Row base w' (.slice (some ⟨g,0,none⟩) (xs.length+1) cap) (xs ++ [y])->Zc (λ k=>v.ownBlock=some k) w0 w' -> (v.ownBlock=some g∨w0.heap.size<=g)->wpList prog ops Q rest (a.put o.dst (.slice (some ⟨g,0,none⟩) (xs.length+1) cap)) w') :
  wpList prog ops Q (o :: rest) a (w0.alloc (.cells #[.int .i64 y] 3)):=by
 obtain ⟨i,hi,hz0,hz1,hz2⟩:=info_parts V7;refine wpList_append_lies _ hgd s x t ho base 3 i (.int .i64 0) 1 8 ht hi hz0 hz1 hz2 rfl (by decide) v xs.length (iv xs) hs (hr.alloc _) ⟨w0.heap.size,0,none⟩ 1 1 [.int .i64 y] hx rfl (cell_one_new _ _ _) (by simp [Value.oneCell']) (by omega) (by unfold maxLen;omega) hsz (by simp;omega) (w0.heap.size+1) (by simp) ?_;intro g cap w' hown hgrow hat hlt;refine h g cap w' ?_ ?_ (hat.imp id (λ e=>by omega))
 ·unfold Row;rw [Xz,List.length_append];exact hown
 ·exact Zc.grown (Zc.alloc (Zc.refl _ w0) _) hgrow (λ _ e _=>e)
theorem Za.onto (h:Za w w0) (hr:Row w.heap.size w0 v xs) (hk:Zc (λ k=>v.ownBlock=some k) w0 w'):Za w w' :=
 h.trans hk (λ i hi e=>by have:=(hr.lt i e).1;omega)
theorem Zbu (h:Rl n w rv L) (ht:Zh w ao t) (hm:t.length<=2000) (hT:IsT L t) (p:Nat) (hp:p<t.length) :
  Calls prog 194 #[rv,.slice ao t.length cap,.int .i64 (p:Int)] w λ e w' => ∃ v,e=.returned v∧Row w.heap.size w' v (ofN (Z8 L t p))∧Za w w' := by
 have H:Hid (Z8 L t p=Zq L t (arN L t[p]) (p+1)):=Z9 hp;have hf:=(Zs.one hT hp).kids.2;have har:=Vm h.2.2.1 t[p];have c1:∀ w1,Za w w1->Calls prog 222 #[rv,.int .i64 t[p]] w1 λ e w' => e=.returned (.int .i64 (arN L t[p]:Int))∧w' = w1:=λ w1 hk=>Zb1 (h.same hk) t[p]
 have c2:∀ w1 q,Za w w1->q<t.length->Calls prog 195 #[rv,.slice ao t.length cap,.int .i64 (q:Int)] w1 λ e w' => e=.returned (.int .i64 (Zj L t q:Int))∧w' = w1:=λ w1 q hk hq=>Zhk (cap:=cap) (h.same hk) (ht.same hk) hm q (by omega)
 have i1:(0:Int)<=(p:Int):=by omega
 have i2:(p:Int)<(t.length:Int):=by omega
 have i0:¬ (p:Int)<0:=by omega
 have i0' : decide ((p:Int)<0)=false:=by simp
 obtain ⟨ro,rcap,rfl⟩:=Zf h.1;obtain ⟨tb,off,rfl,htb,hc⟩:=ht.get hp;have hc' : ∀ w1,Za w w1->w1.cell? ⟨tb,off+p,none⟩=some (.int .i64 t[p]):=λ w1 hk=>(hk.cell (p:=⟨tb,off+p,none⟩) htb (λ f=>f)).trans hc;generalize hA:arN L t[p]=A at *;have hA:Hid (arN L t[p]=A):=hA
 go_enter func194,ntmps194
 go_wp2
 go_loopw [7,8,9] (λ out nx i wr=>∃ k:Nat,k<=A∧i=.int .i64 (k:Int)∧nx=.int .i64 (past L t k (p+1):Int)∧Row w.heap.size wr out (ofN (Zq L t k (p+1)))∧Za w wr) (λ _ _ i _=>A-(intOf i).toNat)
 case atStart=>exact ⟨0,Nat.zero_le _,rfl,rfl,World.ownsRow_nil _ _ _ _,Zc.refl _ _⟩
 case round=>
  obtain ⟨k,hkA,rfl,rfl,hr,hs⟩:=hrel;have d0:=hc' _ hs;have cA:=c1 _ hs
  by_cases hlt:k<A
  ·have hfk:=hf.drop (i:=k) (by omega)
   rw [show A-k=(A-k-1)+1 by omega] at hfk;have hq:past L t k (p+1)<t.length:=by have:=hfk.pos;have:=hfk.le;omega
   have e1:Hid (past L t (k+1) (p+1)=Zj L t (past L t k (p+1))):=Zaf L t k (p+1);have e2:Hid (ofN (Zq L t (k+1) (p+1))=ofN (Zq L t k (p+1)) ++ [((past L t k (p+1):Nat):Int)]):=by show _=_;rw [Zdp];simp [ofN]
   have hlen:(ofN (Zq L t k (p+1))).length=k:=by simp [ofN,Zk]
   have hlt' : ¬ A<=k:=by omega
   clear hfk c1 hc';generalize past L t k (p+1)=P at *;generalize ofN (Zq L t k (p+1))=out at *;subst hlen;obtain ⟨oo,ocap,rfl⟩:=Zf hr
   go_wp2_with (first | (go_at_call 222;refine cA.mono ?_;rintro e w' ⟨rfl,rfl⟩) | (at_builtin;refine Yz rfl _ _ 51 rfl underlying51 w.heap.size out _ rfl hr (P:Int) rfl hs.size (by omega) ?_;intro g gcap w4 hr4 hk4 _;have hs4:=hs.onto hr hk4) | (go_at_call 195;refine (c2 _ _ hs4 hq).mono ?_;rintro e w' ⟨rfl,rfl⟩))
   rw [<- e2.out] at hr4;go_roundw
   case rel=>first | exact ⟨out.length+1,by omega,by go_num,by rw [e1.out],hr4,hs4⟩ | ((repeat apply Exists.intro);exact ⟨⟨out.length+1,by omega,by go_num,by rw [e1.out],hr4,hs4⟩,rfl⟩)
   case measure=>simp [intOf];omega
  ·obtain rfl:k=A:=by omega
   obtain ⟨oo,ocap,rfl⟩:=Zf hr;clear c1 c2 hc'
   go_wp2_with (go_at_call 222;refine cA.mono ?_;rintro e w' ⟨rfl,rfl⟩)
   go_ret;refine ⟨_,rfl,?_,hs⟩;rw [H.out];exact hr
end
end Go.Proofs.YtmjgnfkbnofjoaaGreatDoor
