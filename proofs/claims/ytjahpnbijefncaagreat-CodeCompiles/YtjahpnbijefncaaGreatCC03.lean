import Derived.Test.YtjahpnbijefncaaGreatCC02
namespace Go.Proofs.YtjahpnbijefncaaGreat
set_option maxRecDepth 100000
set_option linter.unusedVariables false
set_option maxHeartbeats 2000000
section
open Go.RowKit
attribute [local go_sem ↓] Go.wp_at_zero Go.wp_at_succ
def Jd (w:World) (b n:Nat) (f:Nat->Int):Prop:=∃ cs t,w.heap[b]? = some (.cells cs t (0,0))∧n<=cs.size∧∀ i,i<n->cs[i]? = some (.int .i64 (f i))
theorem Jd.kept {S:Nat->Prop} {w w' : World} {b n:Nat} {f:Nat->Int} (h:Jd w b n f) (hk:Zc S w w') (hs:¬ S b):Jd w' b n f:=by
 obtain ⟨cs,t,h1,h2⟩:=h;exact ⟨cs,t,hk.at h1 hs,h2⟩
theorem Jd.lt {w:World} {b n:Nat} {f:Nat->Int} (h:Jd w b n f):b<w.heap.size:=by
 obtain ⟨cs,t,h1,h2⟩:=h;exact Zi h1
theorem Jd.cell {w:World} {b n:Nat} {f:Nat->Int} (h:Jd w b n f) {i:Nat} (hi:i<n):w.cell? ⟨b,i,none⟩=some (.int .i64 (f i))∧w.frozen? ⟨b,i,none⟩=false:=by
 obtain ⟨cs,t,h1,_,h2⟩:=h;exact ⟨by rw [Zb h1];exact h2 i hi,Zd h1 i⟩
theorem Jd.set {w:World} {b n:Nat} {f:Nat->Int} (h:Jd w b n f) (i:Nat) (v:Int):Jd (w.setCell ⟨b,i,none⟩ (.int .i64 v)) b n (λ k=>if k=i then v else f k):=by
 obtain ⟨cs,t,h1,h0,h2⟩:=h;refine ⟨_,t,Zs h1 i _,by simpa using h0,λ k hk=>?_⟩;rw [Array.getElem?_setIfInBounds]
 by_cases e:k=i
 ·subst e;rw [if_pos rfl,if_pos (by omega)];simp
 ·rw [if_neg (λ f=>e f.symm)];simp only [e,if_false];exact h2 k hk
theorem Jd.congr {w:World} {b n:Nat} {f g:Nat->Int} (h:Jd w b n f) (e:∀ i,i<n->f i=g i):Jd w b n g:=by
 obtain ⟨cs,t,h1,h0,h2⟩:=h;exact ⟨cs,t,h1,h0,λ i hi=>by rw [h2 i hi,e i hi]⟩
structure JB where
 jb:Nat
 lb:Nat
 eb:Nat
 sb:Nat
 zb:Nat
 lcap:Nat
def JB.Foot (B:JB) (k:Nat):Prop:=k=B.jb∨k=B.lb∨k=B.eb∨k=B.sb∨k=B.zb
structure JB.Apart (B:JB):Prop where
 a1:B.jb≠B.lb
 a2:B.jb≠B.eb
 a3:B.jb≠B.sb
 a4:B.jb≠B.zb
 a5:B.sb≠B.lb
 a6:B.sb≠B.eb
 a7:B.sb≠B.zb
 a8:B.zb≠B.lb
 a9:B.zb≠B.eb
def Zdb (w:World) (B:JB) (N M:Nat) (nx:Int->Int):Prop:=∃ cs,w.heap[B.jb]? = some (.cells cs 295 (0,0))∧cs.size=203∧cs[0]? = some (.slice (some ⟨B.lb,0,none⟩) N B.lcap)∧cs[1]? = some (.slice (some ⟨B.eb,0,none⟩) M M)∧(∀ v,1<=v->v<199->cs[2+v]? = some (.int .i64 (nx (-(v:Int)))))∧cs[201]? = some (.slice (some ⟨B.sb,0,none⟩) M M)∧cs[202]? = some (.slice (some ⟨B.zb,0,none⟩) M M)
theorem Zdb.kept {S:Nat->Prop} {w w' : World} {B:JB} {N M:Nat} {nx:Int->Int} (h:Zdb w B N M nx) (hk:Zc S w w') (hs:¬ S B.jb):Zdb w' B N M nx:=by
 obtain ⟨cs,h1,h2⟩:=h;exact ⟨cs,hk.at h1 hs,h2⟩
theorem Zdb.cells {w:World} {B:JB} {N M:Nat} {nx:Int->Int} (h:Zdb w B N M nx):w.cell? ⟨B.jb,0,none⟩=some (.slice (some ⟨B.lb,0,none⟩) N B.lcap)∧w.cell? ⟨B.jb,1,none⟩=some (.slice (some ⟨B.eb,0,none⟩) M M)∧w.cell? ⟨B.jb,201,none⟩=some (.slice (some ⟨B.sb,0,none⟩) M M)∧w.cell? ⟨B.jb,202,none⟩=some (.slice (some ⟨B.zb,0,none⟩) M M)∧B.jb<w.heap.size:=by
 obtain ⟨cs,h1,h2,h3,h4,h5,h6,h7⟩:=h;exact ⟨by rw [Zb h1];exact h3,by rw [Zb h1];exact h4,by rw [Zb h1];exact h6,by rw [Zb h1];exact h7,Zi h1⟩
theorem Zdb.var {w:World} {B:JB} {N M:Nat} {nx:Int->Int} (h:Zdb w B N M nx) {v:Nat} (h1:1<=v) (h2:v<199):w.cell? ⟨B.jb,2+v,none⟩=some (.int .i64 (nx (-(v:Int))))∧w.frozen? ⟨B.jb,2+v,none⟩=false:=by
 obtain ⟨cs,g1,g2,g3,g4,g5,g6,g7⟩:=h;exact ⟨by rw [Zb g1];exact g5 v h1 h2,Zd g1 _⟩
theorem Zdb.set {w:World} {B:JB} {N M:Nat} {nx:Int->Int} (h:Zdb w B N M nx) {v:Nat} (h1:1<=v) (h2:v<199) (x:Int):Zdb (w.setCell ⟨B.jb,2+v,none⟩ (.int .i64 x)) B N M (λ y=>if y = -(v:Int) then x else nx y):=by
 obtain ⟨cs,g1,g2,g3,g4,g5,g6,g7⟩:=h;refine ⟨_,Zs g1 _ _,by simpa using g2,?_,?_,?_,?_,?_⟩
 ·rw [Array.getElem?_setIfInBounds,if_neg (by omega)];exact g3
 ·rw [Array.getElem?_setIfInBounds,if_neg (by omega)];exact g4
 ·intro k hk1 hk2
  rw [Array.getElem?_setIfInBounds]
  by_cases e:k=v
  ·subst e;rw [if_pos rfl,if_pos (by omega)];simp
  ·rw [if_neg (by omega)];simp only [show ¬ (-(k:Int) = -(v:Int)) by omega,if_false];exact g5 k hk1 hk2
 ·rw [Array.getElem?_setIfInBounds,if_neg (by omega)];exact g6
 ·rw [Array.getElem?_setIfInBounds,if_neg (by omega)];exact g7
theorem Zdb.congr {w:World} {B:JB} {N M:Nat} {nx ny:Int->Int} (h:Zdb w B N M nx) (e:∀ v:Nat,1<=v->v<199->nx (-(v:Int))=ny (-(v:Int))):Zdb w B N M ny:=by
 obtain ⟨cs,g1,g2,g3,g4,g5,g6,g7⟩:=h;exact ⟨cs,g1,g2,g3,g4,λ v a b=>by rw [g5 v a b,e v a b],g6,g7⟩
structure JC (L:List Sym) (B:JB) (w:World) (J:List Int) (nx:Int->Int) (sz:Nat->Int):Prop where
 head:Zdb w B J.length J.length nx
 list:Jd w B.lb J.length (λ i=>at' J i)
 ends:Jd w B.eb J.length (λ i=>(Zq L J i:Int))
 same:Jd w B.sb J.length (λ i=>nx i)
 sizes:Jd w B.zb J.length sz
 ap:B.Apart
theorem JC.kept {L:List Sym} {S:Nat->Prop} {w w' : World} {B:JB} {J:List Int} {nx:Int->Int} {sz:Nat->Int} (h:JC L B w J nx sz) (hk:Zc S w w') (hs:∀ k,B.Foot k->¬ S k):JC L B w' J nx sz:=
 ⟨h.head.kept hk (hs _ (.inl rfl)),h.list.kept hk (hs _ (.inr (.inl rfl))),h.ends.kept hk (hs _ (.inr (.inr (.inl rfl)))),h.same.kept hk (hs _ (.inr (.inr (.inr (.inl rfl))))),h.sizes.kept hk (hs _ (.inr (.inr (.inr (.inr rfl))))),h.ap⟩
theorem JC.lt {L:List Sym} {w:World} {B:JB} {J:List Int} {nx:Int->Int} {sz:Nat->Int} (h:JC L B w J nx sz) {k:Nat} (hk:B.Foot k):k<w.heap.size:=by
 rcases hk with e | e | e | e | e <;> subst e
 ·exact h.head.cells.2.2.2.2
 ·exact h.list.lt
 ·exact h.ends.lt
 ·exact h.same.lt
 ·exact h.sizes.lt
def nxA (B:JB) (x:Int):Addr:=if x<0 then ⟨B.jb,2+(-x).toNat,none⟩ else ⟨B.sb,x.toNat,none⟩
def nxB (B:JB) (x:Int):Nat:=if x<0 then B.jb else B.sb
theorem Zpv (B:JB) (x:Int):(nxA B x).block=nxB B x:=by unfold nxA nxB;split <;> rfl
theorem JC.next {L:List Sym} {w:World} {B:JB} {J:List Int} {nx:Int->Int} {sz:Nat->Int} (h:JC L B w J nx sz) {x:Int} (hx:Z2 J x):w.cell? (nxA B x)=some (.int .i64 (nx x))∧w.frozen? (nxA B x)=false:=by
 unfold nxA;split
 ·have:=h.head.var (v:=(-x).toNat) (by omega) (by have:=hx.1;omega)
  rw [show -(((-x).toNat:Nat):Int)=x by omega] at this;exact this
 ·have:=h.same.cell (i:=x.toNat) (by have:=hx.2;omega)
  rw [show ((x.toNat:Nat):Int)=x by omega] at this;exact this
theorem JC.put {L:List Sym} {w:World} {B:JB} {J:List Int} {nx:Int->Int} {sz:Nat->Int} (h:JC L B w J nx sz) {x:Int} (hx:Z2 J x) (v:Int):JC L B (w.setCell (nxA B x) (.int .i64 v)) J (λ y=>if y=x then v else nx y) sz∧Zc (λ k=>k=nxB B x) w (w.setCell (nxA B x) (.int .i64 v)):=by
 have hk:Zc (λ k=>k=nxB B x) w (w.setCell (nxA B x) (.int .i64 v)):=Zc.setCell (Zc.refl _ w) (λ _=>Zpv B x) _;refine ⟨?_,hk⟩;have ap:=h.ap
 by_cases hn:x<0
 ·have e1:nxB B x=B.jb:=by unfold nxB;rw [if_pos hn]
  have e2:nxA B x=⟨B.jb,2+(-x).toNat,none⟩:=by unfold nxA;rw [if_pos hn]
  have hh:=h.head.set (v:=(-x).toNat) (by omega) (by have:=hx.1;omega) v;rw [show -(((-x).toNat:Nat):Int)=x by omega] at hh;rw [e1] at hk;rw [e2] at hk ⊢;refine ⟨hh,h.list.kept hk (λ e=>ap.a1 e.symm),h.ends.kept hk (λ e=>ap.a2 e.symm),(h.same.kept hk (λ e=>ap.a3 e.symm)).congr ?_,h.sizes.kept hk (λ e=>ap.a4 e.symm),ap⟩;intro i _;rw [if_neg (by omega)]
 ·have e1:nxB B x=B.sb:=by unfold nxB;rw [if_neg hn]
  have e2:nxA B x=⟨B.sb,x.toNat,none⟩:=by unfold nxA;rw [if_neg hn]
  have hh:=h.same.set x.toNat v;rw [e1] at hk;rw [e2] at hk ⊢;refine ⟨(h.head.kept hk ap.a3).congr ?_,h.list.kept hk (λ e=>ap.a5 e.symm),h.ends.kept hk (λ e=>ap.a6 e.symm),hh.congr ?_,h.sizes.kept hk (λ e=>ap.a7 e.symm),ap⟩
  ·intro k h1 h2;rw [if_neg (by omega)]
  ·intro i _
   by_cases e:i=x.toNat
   ·rw [if_pos e,if_pos (by omega)]
   ·rw [if_neg e,if_neg (by omega)]
structure Led (J:List Int) (nx ld:Int->Int) (ρ:Int->Nat):Prop where
 part:∀ x,Z2 J x->Z2 J (nx x)
 lead:∀ x,Z2 J x->ld (nx x)=ld x
 stop:∀ x,Z2 J x->(nx x=x ↔ ld x=x)
 down:∀ x,Z2 J x->nx x≠x->ρ (nx x)<ρ x
theorem Led.halve {J:List Int} {nx ld:Int->Int} {ρ:Int->Nat} (h:Led J nx ld ρ) {x:Int} (hx:Z2 J x) (hn:nx x≠x):Led J (λ y=>if y=x then nx (nx x) else nx y) ld ρ∧ρ (nx (nx x))<ρ x:=by
 have p1:=h.part x hx;have d1:=h.down x hx hn
 have d2:ρ (nx (nx x))<=ρ (nx x):=by
  by_cases e:nx (nx x)=nx x
  ·rw [e];exact Nat.le_refl _
  ·exact Nat.le_of_lt (h.down _ p1 e)
 refine ⟨⟨?_,?_,?_,?_⟩,by omega⟩ <;> intro y hy <;> by_cases e:y=x
 ·simp only [e,if_true];exact h.part _ p1
 ·simp only [e,if_false];exact h.part _ hy
 ·simp only [e,if_true];rw [h.lead _ p1,h.lead _ hx]
 ·simp only [e,if_false];exact h.lead _ hy
 ·simp only [e,if_true]
  refine ⟨λ f=>?_,λ f=>absurd ((h.stop x hx).2 f) hn⟩;rw [f] at d2;omega
 ·simp only [e,if_false];exact h.stop _ hy
 ·simp only [e,if_true];intro _;omega
 ·simp only [e,if_false];exact h.down _ hy
theorem Led.join {J:List Int} {nx ld:Int->Int} {ρ:Int->Nat} (h:Led J nx ld ρ) {p q:Int} (hp:Z2 J p) (hq:Z2 J q) (lp:ld p=p) (lq:ld q=q) (hpq:p≠q):Led J (λ y=>if y=p then q else nx y) (un p q ld) (λ x=>ρ x+if ld x=p then ρ q+1 else 0):=by
 have u1:∀ x,ld x=p->un p q ld x=q:=λ x e=>by unfold un;rw [if_pos e]
 have u2:∀ x,ld x≠p->un p q ld x=ld x:=λ x e=>by unfold un;rw [if_neg e]
 have lqp:ld q≠p:=by rw [lq];exact λ f=>hpq f.symm
 refine ⟨?_,?_,?_,?_⟩ <;> intro y hy <;> by_cases e:y=p
 ·simp only [e,if_true];exact hq
 ·simp only [e,if_false];exact h.part _ hy
 ·simp only [e,if_true];rw [u2 q lqp,u1 p lp,lq]
 ·simp only [e,if_false]
  have:=h.lead y hy;unfold un;rw [this]
 ·simp only [e,if_true];rw [u1 p lp]
 ·simp only [e,if_false]
  by_cases f:ld y=p
  ·rw [u1 y f]
   refine ⟨λ g=>?_,λ g=>?_⟩
   ·have:=(h.stop y hy).1 g;rw [f] at this;exact absurd this.symm e
   ·rw [<- g,lq] at f;exact absurd f.symm hpq
  ·rw [u2 y f];exact h.stop y hy
 ·simp only [e,if_true];intro _;rw [if_neg lqp,if_pos lp];omega
 ·simp only [e,if_false]
  intro hn;have:=h.down y hy hn;rw [h.lead y hy];omega
def JAt (L:List Sym) (B:JB) (w:World) (J:List Int) (ld:Int->Int) (sz:Nat->Int):Prop:=∃ nx ρ,JC L B w J nx sz∧Led J nx ld ρ
theorem JAt.kept {L:List Sym} {S:Nat->Prop} {w w' : World} {B:JB} {J:List Int} {ld:Int->Int} {sz:Nat->Int} (h:JAt L B w J ld sz) (hk:Zc S w w') (hs:∀ k,B.Foot k->¬ S k):JAt L B w' J ld sz:=by
 obtain ⟨nx,ρ,h1,h2⟩:=h;exact ⟨nx,ρ,h1.kept hk hs,h2⟩
theorem Zir {L:List Sym} {w:World} {B:JB} {J:List Int} {nx:Int->Int} {sz:Nat->Int} (h:JC L B w J nx sz) {x:Int} (hx:Z2 J x) :
  Calls Tryz.prog 190 #[.pointer (some ⟨B.jb,0,none⟩),.int .i64 x] w λ e w' => e=.returned (.pointer (some (nxA B x)))∧w' = w:=by
 obtain ⟨c0,c1,c2,c3,c4⟩:=h.head.cells;have h1:=hx.1;have h2:=hx.2;clear h hx
 by_cases hn:x<0
 ·obtain ⟨v,hv⟩:∃ v:Nat,x = -(v:Int):=⟨(-x).toNat,by omega⟩
  subst hv;have e:nxA B (-(v:Int))=⟨B.jb,2+v,none⟩:=by unfold nxA;rw [if_pos hn];congr 2;omega
  rw [e];have i1:(0:Int)<=(v:Int):=by omega
  have i2:(v:Int)<199:=by omega
  go_enter Tryz.func190,Tryz.ntmps190
  go_wp2
  go_returns
  exact ⟨rfl,rfl⟩
 ·obtain ⟨v,hv⟩:∃ v:Nat,x=(v:Int):=⟨x.toNat,by omega⟩
  subst hv;have e:nxA B (v:Int)=⟨B.sb,v,none⟩:=by unfold nxA;rw [if_neg hn];congr 1
  rw [e];have i1:(0:Int)<=(v:Int):=by omega
  go_enter Tryz.func190,Tryz.ntmps190
  go_wp2
  go_returns
  exact ⟨rfl,rfl⟩
def Zkd (L:List Sym) (t:List Int) (p:Nat):Int:=match Zjc L t p with | some e=>(e:Int) | none=>-1
theorem Zf2 {L:List Sym} {t:List Int} {p0 p k:Nat} (h:Zjc L t p0=(V0 L (k+1) (t.drop p)).map (p + ·)) (hp:p<t.length):Zjc L t p0=(V0 L (k+arN L t[p]) (t.drop (p+1))).map (p+1 + ·):=by
 rw [h,List.drop_eq_getElem_cons hp,V0,Option.map_map];congr 1
 funext x
 simp;omega
theorem Zot {L:List Sym} {t:List Int} {p0 p:Nat} (h:Zjc L t p0=(V0 L 0 (t.drop p)).map (p + ·)):Zkd L t p0=(p:Int):=by
 simp [Zkd,h,Ve]
theorem Zq0 {L:List Sym} {t:List Int} {p0 p k:Nat} (h:Zjc L t p0=(V0 L (k+1) (t.drop p)).map (p + ·)) (hp:t.length<=p):Zkd L t p0 = -1:=by
 rw [List.drop_eq_nil_of_le hp] at h;simp [Zkd,h,V0]
theorem Zpc {n b:Nat} {w:World} {L:List Sym} (h:Sg n w b L) {ao:Option Addr} {cap:Nat} {t:List Int} (ht:Zh w ao t) (hm:t.length<=2000) (p0:Nat) (hp0:p0<=t.length) :
  Calls Tryz.prog 103 #[.pointer (some ⟨b,0,none⟩),.slice ao t.length cap,.int .i64 (p0:Int)] w λ e w' => e=.returned (.int .i64 (Zkd L t p0))∧Za w w' := by
 have ha:=h.2
 go_enter Tryz.func103,Tryz.ntmps103
 go_wp2
 go_loopw [2,7] (λ at' la wr=>∃ p k:Nat,p0<=p∧p<=t.length∧at' = .int .i64 (p:Int)∧la=.int .i64 ((k+1:Nat):Int)∧k<=6 * (p-p0)∧Zjc L t p0=(V0 L (k+1) (t.drop p)).map (p + ·)∧Za w wr) (λ at' _ _=>t.length-(intOf at').toNat)
 case atStart=>exact ⟨p0,0,Nat.le_refl _,hp0,rfl,rfl,by omega,rfl,Zc.refl _ _⟩
 case round=>
  obtain ⟨p,k,h1,h2,rfl,rfl,h3,h4,hk⟩:=hrel
  by_cases hlt:p<t.length
  ·obtain ⟨tb,off,rfl,htb,hc⟩:=(ht.same hk).get hlt
   have c:=Zec (h.same hk) t[p];have hle:=Xp ha t[p];have h5:=Zf2 h4 hlt;have H5:Hid (Zjc L t p0=(V0 L (k+arN L t[p]) (t.drop (p+1))).map (p+1 + ·)):=h5;clear h5 h4;have i1:(0:Int)<=(p:Int):=by omega
   have i2:(p:Int)<(t.length:Int):=by omega
   generalize arN L t[p]=a at *
   by_cases hz:k+a=0
   ·have z1:((k:Int)+1+((a:Int)-1) == 0)=true:=by simp;omega
    have H6:Hid (Zkd L t p0=(p:Int)+1):=by
     have H5:=H5.out;rw [hz] at H5;have:=Zot H5;show _=_;rw [this];simp
    go_wp2_with (first | (go_at_call 110;refine c.mono ?_;rintro e w' ⟨rfl,hk1⟩))
    go_ret;exact ⟨Z7 H6.out.symm,hk.trans' hk1⟩
   ·have z1:((k:Int)+1+((a:Int)-1) == 0)=false:=by simp;omega
    go_wp2_with (first | (go_at_call 110;refine c.mono ?_;rintro e w' ⟨rfl,hk1⟩))
    refine ⟨⟨p+1,k+a-1,by omega,by omega,by go_num,by congr 1;omega,by omega,?_,hk.trans' hk1⟩,by simp [intOf];omega⟩;rw [show k+a-1+1=k+a by omega];exact H5.out
  ·have H6:Hid (Zkd L t p0 = -1):=Zq0 h4 (by omega)
   go_wp2;go_ret;exact ⟨Z7 H6.out.symm,hk⟩
theorem Zjb {L:List Sym} {t:List Int} {p:Nat} (hp:p<t.length) (h:Za3 L (t.take p)=0):(Zei L t[p]≠0->Za3 L t=Zei L t[p])∧(Zei L t[p]=0->Za3 L (t.take (p+1))=0):=by
 have e:t=t.take p++(t[p] :: t.drop (p+1)):=by rw [<- List.drop_eq_getElem_cons hp,List.take_append_drop]
 constructor
 ·intro hn
  have h2:=Zdr L (t.take p) (t[p] :: t.drop (p+1)) h;rw [<- e] at h2;rw [h2,Za3];unfold Zei at hn ⊢
  by_cases q1:(L.length:Int)<=t[p]
  ·rw [if_pos q1,if_pos q1]
  ·rw [if_neg q1,if_neg q1]
   rw [if_neg q1] at hn
   by_cases q2:t[p] < -99
   ·rw [if_pos q2,if_pos q2]
   ·rw [if_neg q2] at hn;exact absurd rfl hn
 ·intro hn
  rw [List.take_add_one,Zdr _ _ _ h,List.getElem?_eq_getElem hp]
  simpa [Za3,Zei] using hn
theorem Zd3 {L:List Sym} {t:List Int} (h:2000<t.length):Ze L t=20:=by simp [Ze,h]
theorem Zb0 {L:List Sym} {t:List Int} (h:¬ 2000<t.length) (hb:Za3 L t≠0):Ze L t=Za3 L t:=by simp [Ze,h,hb]
theorem Znc {L:List Sym} {t:List Int} (h:¬ 2000<t.length) (hb:Za3 L t=0):Ze L t=if Zkd L t 0=(t.length:Int) then 0 else 23:=by
 have e:Zkd L t 0=(t.length:Int) ↔ Xb L 1 t=some 0:=by
  constructor
  ·intro h
   unfold Zkd Zjc at h;cases hs:V0 L 1 t with
   | none=>simp [hs] at h
   | some m=>
    simp [hs] at h;obtain rfl:m=t.length:=by omega
    have:=(Js hs).2
    simpa using this
  ·intro h
   have:=Xw (b:=[]) h;rw [List.append_nil] at this;simp [Zkd,Zjc,this]
 simp only [Ze,h,hb,if_false,ne_eq,not_true,e]
theorem Jj {n b:Nat} {w:World} {L:List Sym} (h:Sg n w b L) {ao:Option Addr} {cap:Nat} {t:List Int} (ht:Zh w ao t) (hm:t.length<=maxLen) :
  Calls Tryz.prog 59 #[.pointer (some ⟨b,0,none⟩),.slice ao t.length cap] w λ e w' => e=.returned (.int .i64 (Ze L t))∧Za w w' := by
 unfold maxLen at hm
 by_cases hl:2000<t.length
 ·have H:Hid (Ze L t=20):=Zd3 hl
  go_enter Tryz.func59,Tryz.ntmps59
  go_wp2;go_ret;exact ⟨Z7 H.out.symm,Zc.refl _ _⟩
 ·have hl' : t.length<=2000:=by omega
  go_enter Tryz.func59,Tryz.ntmps59
  go_wp2
  go_loop [15] (λ i=>∃ p:Nat,p<=t.length∧i=.int .i64 (p:Int)∧Za3 L (t.take p)=0) (λ i=>t.length-(intOf i).toNat)
  case atStart=>exact ⟨0,Nat.zero_le _,rfl,by simp [Za3]⟩
  case round=>
   obtain ⟨p,h1,rfl,h2⟩:=hrel
   by_cases hlt:p<t.length
   ·obtain ⟨tb,off,rfl,htb,hc⟩:=ht.get hlt
    have i1:(0:Int)<=(p:Int):=by omega
    have i2:(p:Int)<(t.length:Int):=by omega
    have c:=Zee h t[p];obtain ⟨s1,s2⟩:=Zjb hlt h2
    by_cases hz:Zei L t[p]=0
    ·have S2:Hid (Za3 L (t.take (p+1))=0):=s2 hz
     rw [hz] at c;clear s1 s2 h2
     go_wp2_with (first | (go_at_call 102;refine c.mono ?_;rintro e w' ⟨rfl,rfl⟩))
     exact ⟨⟨p+1,by omega,by go_num,S2.out⟩,by simp [intOf];omega⟩
    ·have hb:=s1 hz
     have H:Hid (Ze L t=Zei L t[p]):=by show _=_;rw [Zb0 hl (by rw [hb];exact hz),hb]
     have hz' : (Zei L t[p] == 0)=false:=by simpa using hz
     clear s1 s2 h2 hb
     go_wp2_with (first | (go_at_call 102;refine c.mono ?_;rintro e w' ⟨rfl,rfl⟩))
     go_ret;exact ⟨Z7 H.out.symm,Zc.refl _ _⟩
   ·obtain rfl:p=t.length:=by omega
    rw [List.take_length] at h2;have c:=Zpc (cap:=cap) h ht hl' 0 (Nat.zero_le _);have he:=Znc hl h2
    by_cases hz:Zkd L t 0=(t.length:Int)
    ·have H:Hid (Ze L t=0):=by show _=_;rw [he,if_pos hz]
     rw [hz] at c;clear he
     go_wp2_with (first | (go_at_call 103;refine c.mono ?_;rintro e w' ⟨rfl,hk1⟩))
     all_goals
      go_ret;exact ⟨Z7 H.out.symm,hk1⟩
    ·have H:Hid (Ze L t=23):=by show _=_;rw [he,if_neg hz]
     have hz' : (Zkd L t 0 == (t.length:Int))=false:=by simpa using hz
     clear he
     go_wp2_with (first | (go_at_call 103;refine c.mono ?_;rintro e w' ⟨rfl,hk1⟩))
     all_goals
      go_ret;exact ⟨Z7 H.out.symm,hk1⟩
theorem Zak {n b:Nat} {w:World} {L:List Sym} (h:Sg n w b L) {ao:Option Addr} {cap:Nat} {t:List Int} (ht:Zh w ao t) (hm:t.length<=maxLen) (a:Int) :
  Calls Tryz.prog 104 #[.pointer (some ⟨b,0,none⟩),.slice ao t.length cap,.int .i64 a] w λ e w' => e=.returned (.int .i64 (Yt L t a))∧Za w w' := by
 have c:=Jj (cap:=cap) h ht hm
 by_cases hz:Ze L t=0
 ·by_cases h1:a<0
  ·have H:Hid (Yt L t a=24):=by show _=_;simp [Yt,hz,h1]
   rw [hz] at c
   go_enter Tryz.func104,Tryz.ntmps104
   go_wp2_with (first | (go_at_call 59;refine c.mono ?_;rintro e w' ⟨rfl,hk1⟩))
   go_ret;exact ⟨Z7 H.out.symm,hk1⟩
  ·by_cases h2:(t.length:Int)<=a
   ·have H:Hid (Yt L t a=24):=by show _=_;simp [Yt,hz,h2]
    rw [hz] at c
    go_enter Tryz.func104,Tryz.ntmps104
    go_wp2_with (first | (go_at_call 59;refine c.mono ?_;rintro e w' ⟨rfl,hk1⟩))
    go_ret;exact ⟨Z7 H.out.symm,hk1⟩
   ·have H:Hid (Yt L t a=0):=by show _=_;simp [Yt,hz,h1,h2]
    rw [hz] at c
    go_enter Tryz.func104,Tryz.ntmps104
    go_wp2_with (first | (go_at_call 59;refine c.mono ?_;rintro e w' ⟨rfl,hk1⟩))
    go_ret;exact ⟨Z7 H.out.symm,hk1⟩
 ·have H:Hid (Yt L t a=Ze L t):=by show _=_;simp [Yt,hz]
  have hz' : (Ze L t == 0)=false:=by simpa using hz
  go_enter Tryz.func104,Tryz.ntmps104
  go_wp2_with (first | (go_at_call 59;refine c.mono ?_;rintro e w' ⟨rfl,hk1⟩))
  go_ret;exact ⟨Z7 H.out.symm,hk1⟩
def iv (xs:List Int):List Value:=xs.map (Value.int .i64)
theorem Vc (xs:List Int):(iv xs).length=xs.length:=by simp [iv]
theorem Vd (xs ys:List Int):iv (xs++ys)=iv xs++iv ys:=by simp [iv]
theorem Kj {xs:List Int} {i:Nat} (h:i<xs.length):(iv xs)[i]? = some (.int .i64 xs[i]):=by simp [iv,h]
theorem Xr:(Tryz.prog.info? 3).map (λ i=>(i.zero,i.size,i.bytes))=some (some (.int .i64 0),1,8):=by kernel_rfl
abbrev Row (base:Nat) (w:World) (v:Value) (xs:List Int):Prop:=w.ownsRow base 3 1 v xs.length (iv xs)
def ofN (l:List Nat):List Int:=l.map (λ (x:Nat)=>(x:Int))
def Zmo (L:List Sym) (t:List Int) (a:Int):List Int:=if Yt L t a=0 then ofN (Zz L t a.toNat) else []
theorem Zb3 {L:List Sym} {t:List Int} {a:Int} (h:Yt L t a=0):∃ p:Nat,a=(p:Int)∧p<t.length∧Ze L t=0∧t.length<=2000∧IsT L t:=by
 unfold Yt at h
 by_cases hz:Ze L t=0
 ·simp only [hz,ne_eq,not_true,if_false] at h
  have:¬ (a<0∨(t.length:Int)<=a):=by intro hh;simp [hh] at h
  obtain ⟨h1,_,h2⟩:=Zg.1 hz;exact ⟨a.toNat,by omega,by omega,hz,h1,h2⟩
 ·simp [hz] at h
theorem Zve {L:List Sym} {t:List Int} (h:IsT L t) {p:Nat} (hp:p<t.length):Zkd L t p=(Zq L t p:Int):=by
 rw [Zkd,Zq9 h hp]
theorem take_set {α:Type} {l:List α} {k:Nat} (h:k<l.length) (u:α):(l.set k u).take (k+1)=l.take k ++ [u]:=by
 rw [List.take_add_one,List.take_set_of_le (Nat.le_refl _)];simp [h]
theorem Za.grown {w w1 w2:World} (h:Za w w1) (hg:w1.grownBy w2 none):Za w w2:=Zc.grown h hg (λ _ e _=>by cases e)
theorem Za.own {w w1:World} (h:Za w w1) {g o:Nat} (hg:w.heap.size<=g) (u:Value):Za w (w1.setCell ⟨g,o,none⟩ u):=h.setCell (p:=⟨g,o,none⟩) (λ hlt=>by simp at hlt;omega) u
theorem Zjl {w:World} {base g cap n:Nat} {e:TypeId} {ys:List Value} (h:w.ownsRow base e 1 (.slice (some ⟨g,0,none⟩) n cap) n ys) {k:Nat} (hk:k<n):∃ old,w.cell? ⟨g,k,none⟩=some old∧w.frozen? ⟨g,k,none⟩=false:=by
 have hl:k<ys.length:=by have:=h.1;omega
 exact ⟨ys[k],(h.cellAt k (by omega)).trans (List.getElem?_eq_getElem hl),h.frozenAt k⟩
def Zn8 (base g A k:Nat) (xs:List Int) (w wr:World):Prop:=∃ ys:List Value,wr.ownsRow base 3 1 (.slice (some ⟨g,0,none⟩) A A) A ys∧ys.take k=iv xs∧Za w wr
theorem Zn8.next {base g A k:Nat} {xs:List Int} {w wr:World} (h:Zn8 base g A k xs w wr) (hk:k<A) (hg:w.heap.size<=g) (x:Int):Zn8 base g A (k+1) (xs ++ [x]) w (wr.setCell ⟨g,k,none⟩ (.int .i64 x)):=by
 obtain ⟨ys,h1,h2,h3⟩:=h;have hl:ys.length=A:=by have:=h1.1;omega
 refine ⟨ys.set k (.int .i64 x),(h1.stored k _).1,?_,h3.own hg _⟩;rw [take_set (by omega),h2,Vd];rfl
theorem Zn8.same {base g A k:Nat} {xs:List Int} {w wr w1:World} (h:Zn8 base g A k xs w wr) (hk:Za wr w1):Zn8 base g A k xs w w1:=by
 obtain ⟨ys,h1,h2,h3⟩:=h;exact ⟨ys,hk.row h1 (λ _ _ f=>f),h2,h3.trans' hk⟩
theorem Zn8.row {base g A:Nat} {xs:List Int} {w wr:World} (h:Zn8 base g A A xs w wr):Row base wr (.slice (some ⟨g,0,none⟩) A A) xs∧xs.length=A:=by
 obtain ⟨ys,h1,h2,_⟩:=h;have hl:ys.length=A:=by have:=h1.1;omega
 rw [List.take_of_length_le (by omega)] at h2;subst h2;have:xs.length=A:=by rw [<- hl,Vc]
 unfold Row;rw [this];exact ⟨h1,rfl⟩
theorem Zt8 {n b:Nat} {w:World} {L:List Sym} (h:Sg n w b L) {ao:Option Addr} {cap:Nat} {t:List Int} (ht:Zh w ao t) (hm:t.length<=maxLen) (a:Int) :
  Calls Tryz.prog 124 #[.pointer (some ⟨b,0,none⟩),.slice ao t.length cap,.int .i64 a] w λ e w' => ∃ v,e=.returned (.tuple #[v,.int .i64 (Yt L t a)])∧Row w.heap.size w' v (Zmo L t a)∧Za w w' := by
 have c:=Zak (cap:=cap) h ht hm a
 by_cases hz:Yt L t a=0
 ·obtain ⟨p,rfl,hp,h0,h1,h2⟩:=Zb3 hz
  have H:Hid (Yt L t p=0∧Zmo L t p=ofN (Zr L t (arN L t[p]) (p+1))):=by
   refine ⟨hz,?_⟩;rw [Zmo,if_pos hz];simp only [Int.toNat_natCast];rw [Ya hp]
  have hf:=(Zu.one h2 hp).kids.2;have har:=Xp h.2 t[p];have c1:∀ w1,Za w w1->Calls Tryz.prog 110 #[.pointer (some ⟨b,0,none⟩),.int .i64 t[p]] w1 λ e w' => e=.returned (.int .i64 ((arN L t[p]:Nat):Int))∧Za w1 w' := λ w1 hk=>Zec (h.same hk) t[p]
  have c2:∀ w1 q,Za w w1->q<t.length->Calls Tryz.prog 103 #[.pointer (some ⟨b,0,none⟩),.slice ao t.length cap,.int .i64 (q:Int)] w1 λ e w' => e=.returned (.int .i64 (Zq L t q:Int))∧Za w1 w' := λ w1 q hk hq=>by
   have:=Zpc (cap:=cap) (h.same hk) (ht.same hk) h1 q (by omega)
   rwa [Zve h2 hq] at this
  have i1:(0:Int)<=(p:Int):=by omega
  have i2:(p:Int)<(t.length:Int):=by omega
  obtain ⟨i,hi,hz0,hz1,hz2⟩:=info_parts Xr;obtain ⟨tb,off,rfl,htb,hc⟩:=ht.get hp;have hc' : ∀ w1,Za w w1->w1.cell? ⟨tb,off+p,none⟩=some (.int .i64 t[p]):=λ w1 hk=>(hk.cell (p:=⟨tb,off+p,none⟩) htb (λ f=>f)).trans hc;rw [hz] at c;generalize hA:arN L t[p]=A at *;have hA:Hid (arN L t[p]=A):=hA
  go_enter Tryz.func124,Tryz.ntmps124
  go_wp2_with (first | (go_at_call 104;refine c.mono ?_;rintro e w1 ⟨rfl,hk1⟩;have d1:=hc' _ hk1) | (go_at_call 110;refine (c1 _ hk1).mono ?_;rintro e w2 ⟨rfl,hk2⟩;have hk3:=hk1.trans' hk2) | (at_make;refine wpList_make_full _ rfl _ _ 32 rfl w.heap.size 3 i _ 1 Tryz.underlying32 hi hz0 hz1 _ _ _ _ A rfl rfl rfl rfl (by rw [hz2];omega) (by unfold maxLen;omega) hk3.size ?_;intro w3 hown hgrow))
  have hg:w.heap.size<=w2.heap.size:=hk3.size;have L0:Zn8 w.heap.size w2.heap.size A 0 (ofN (Zr L t 0 (p+1))) w w3:=⟨_,hown,by simp [iv,ofN,Zr],hk3.grown hgrow⟩;clear hown;generalize w2.heap.size=g at *
  go_loopw [10,30] (λ nx i wr=>∃ k:Nat,k<=A∧i=.int .i64 (k:Int)∧nx=.int .i64 (past L t k (p+1):Int)∧Zn8 w.heap.size g A k (ofN (Zr L t k (p+1))) w wr) (λ _ i _=>A-(intOf i).toNat)
  case atStart=>exact ⟨0,Nat.zero_le _,rfl,rfl,L0⟩
  case round=>
   obtain ⟨k,hkA,rfl,rfl,hL⟩:=hrel
   by_cases hlt:k<A
   ·have hfk:=hf.drop (i:=k) (by omega)
    rw [show A-k=(A-k-1)+1 by omega] at hfk;have hq:past L t k (p+1)<t.length:=by have:=hfk.pos;have:=hfk.le;omega
    have e1:Hid (past L t (k+1) (p+1)=Zq L t (past L t k (p+1))):=Jw L t k (p+1);have e2:Hid (ofN (Zr L t (k+1) (p+1))=ofN (Zr L t k (p+1)) ++ [((past L t k (p+1):Nat):Int)]):=by show _=_;rw [Za4];simp [ofN]
    have hLn:=hL.next hlt hg ((past L t k (p+1):Nat):Int);have hsm:Za w (wr.setCell ⟨g,k,none⟩ (.int .i64 ((past L t k (p+1):Nat):Int))):=by obtain ⟨ys,_,_,h3⟩:=hLn;exact h3
    obtain ⟨old,f2,f1⟩:∃ old,wr.cell? ⟨g,k,none⟩=some old∧wr.frozen? ⟨g,k,none⟩=false:=by obtain ⟨ys,h1,_⟩:=hL;exact Zjl h1 hlt
    have j1:(0:Int)<=(k:Int):=by omega
    have j2:(k:Int)<(A:Int):=by omega
    have c3:=c2 _ _ hsm hq;clear c1 c2 c hc' hfk hL;generalize hpk:past L t k (p+1)=P at *;generalize hpe:Zq L t P=E at *
    go_wp2_with (first | (go_at_call 103;refine c3.mono ?_;rintro e w5 ⟨rfl,hk5⟩))
    refine ⟨⟨k+1,by omega,by go_num,?_,?_⟩,by simp [intOf];omega⟩
    ·rw [e1.out]
    ·rw [e2.out];exact hLn.same hk5
   ·obtain rfl:k=A:=by omega
    obtain ⟨hr,hl⟩:=hL.row;obtain ⟨_,_,_,hs⟩:=hL;clear c1 c2 c hc';go_wp2
    go_ret2
    refine ⟨.slice (some ⟨g,0,none⟩) k k,?_,?_,hs⟩
    ·rw [H.out.1];rfl
    ·rw [H.out.2];exact hr
 ·have H:Hid (Zmo L t a=[]):=by show _=_;rw [Zmo,if_neg hz]
  have hz' : (Yt L t a == 0)=false:=by simpa using hz
  go_enter Tryz.func124,Tryz.ntmps124
  go_wp2_with (first | (go_at_call 104;refine c.mono ?_;rintro e w1 ⟨rfl,hk1⟩))
  go_ret2
  refine ⟨_,rfl,?_,hk1⟩;rw [H.out];exact World.ownsRow_nil _ _ _ _
def vzs (o:List Int) (x:Int):List Int:=if x<0∧¬ x∈o then o ++ [x] else o
def rn (o:List Int) (x:Int):Int:=if x<0 then -((o.idxOf x:Int)+1) else x
def wrF (o:List Int):List Int->List Int
 | []=>[]
 | x :: r=>rn (vzs o x) x :: wrF (vzs o x) r
theorem Zac (o a:List Int):(wrF o a).length=a.length:=by
 induction a generalizing o with
 | nil=>rfl
 | cons x r ih=>simp [wrF,ih]
end
def Zeu (L:List Sym) (J:List Int) (m:Nat):Option ((Int->Int) × Int):=
 match Zgu L J ((J.length+1) * J.length+J.length+3) (ld0 J) [(0,Zq L J 0,m)] with
 | some (some ld)=>
  match Vy L J ld (J.length+1) (λ _=>0) 0 with
  | some (k,_)=>if k = -1 then none else some (ld,k)
  | none=>none
 | _=>none
structure Sol (L:List Sym) (J:List Int) (m:Nat):Prop where
 uni:∃ res,UOk L J res ((J.length+1) * J.length+J.length+3) (ld0 J) [(0,Zq L J 0,m)]∧(res=none->Zeu L J m=none)∧∀ ld,res=some ld->Zcq J ld∧∃ k sz', Vy L J ld (J.length+1) (λ _=>0) 0=some (k,sz')∧(k = -1->Zeu L J m=none)∧(k ≠ -1->Zeu L J m=some (ld,k)∧∃ u,Val L J ld 0 u∧k=min (u.length:Int) 2001)
theorem Zum (N:Nat) (sz:Nat->Int):unk N sz<=N:=by
 have:=List.countP_le_length (p:=λ p:Nat=>decide (sz p=0)) (l:=List.range N)
 simpa [unk] using this
theorem Zjp {L:List Sym} {J:List Int} (hT:Trs L J) (hv:∀ x∈J, -198<=x) {m:Nat} (h0:0<J.length) (hm:m<J.length):Sol L J m:=by
 have hl:=Zpw hv;have hr:Zb6 L J (0,Zq L J 0,m):=⟨1,Zq L J m,hT 0 h0,hT m hm⟩;have hroot:=Zhv J (ld0 J);have he:=hT.lt h0
 have hb:(J.length+1) * Zeq J (ld0 J)+Zga [(0,Zq L J 0,m)]<(J.length+1) * J.length+J.length+3:=by
  have:=Nat.mul_le_mul_left (J.length+1) hroot;simp only [Zga];omega
 obtain ⟨res,e1,e2⟩:=Ztl hT _ _ _ hl (λ r hr' => by simp at hr'; rw [hr'];exact hr) hb;refine ⟨res,⟨hT,hl,λ r hr' => by simp at hr'; rw [hr'];exact hr,e1,by simp;omega⟩,?_,?_⟩
 ·intro e
  rw [e] at e1;unfold Zeu;rw [e1]
 ·intro ld e
  have hld:=e2 ld e;rw [e] at e1;have hz:Zbd (λ _=>0):=λ p=>.inr ⟨by simp,by simp⟩;have hk:Zgk L J ld (λ _=>0):=λ p _ _ h=>by simp at h
  have p0:Z2 J 0:=Zn (p:=0) h0;obtain ⟨k,sz', g1,g2⟩:=Ziv hT hld (J.length+1) (λ _=>0) 0 p0 hz (by have:=Zum J.length (λ _=>0);omega);obtain ⟨-,g4⟩:=Zfz hT hld _ _ _ _ _ p0 hz hk g1;refine ⟨hld,k,sz', g1,?_,?_⟩
  ·intro e
   unfold Zeu;rw [e1];simp only [g1];rw [if_pos e]
  ·intro e
   refine ⟨by unfold Zeu;rw [e1];simp only [g1];rw [if_neg e],g4 e⟩
def Zhh (L:List Sym) (J:List Int) (φ:Int->Int) (r:Nat × Nat × Nat):Prop:=∀ k z,Zu L J k r.1 r.2.1->Zu L J k r.2.2 z->∀ i,i<k->φ (past L J i r.1:Nat)=φ (past L J i r.2.2:Nat)
def Zf4 (J:List Int) (φ ld:Int->Int):Prop:=∀ x,Z2 J x->φ (ld x)=φ x
theorem Zrn {L:List Sym} {J:List Int} {φ:Int->Int} {x y o:Nat} (hxy:x<y) (h1:φ x=φ o) (h:Zhh L J φ (Zq L J x,y,Zq L J o)):Zhh L J φ (x,y,o):=by
 intro k z f1 f2 i hi;cases k with
 | zero=>omega
 | succ k=>
  obtain ⟨_,_,a3⟩:=f1.succ;obtain ⟨_,_,b3⟩:=f2.succ;cases i with
  | zero=>exact h1
  | succ i=>exact h k z a3 b3 i (by omega)
def Inv (L:List Sym) (J:List Int) (m:Nat) (ld:Int->Int) (rs:List (Nat × Nat × Nat)):Prop:=∀ φ:Int->Int,Zf4 J φ ld->(∀ r∈rs,Zhh L J φ r)->φ 0=φ m∧∀ P:Nat,P<J.length->0<=at' J P->∀ i,i<arN L (at' J P)->φ (past L J i (P+1):Nat)=φ (past L J i ((ld P).toNat+1):Nat)
theorem Jv {J:List Int} {φ ld:Int->Int} {p q:Int} (hl:Zcq J ld) (hp:Z2 J p) (lp:ld p=p) (h:Zf4 J φ (un p q ld)):φ p=φ q∧Zf4 J φ ld:=by
 have e:φ p=φ q:=by
  have:=h p hp;unfold un at this;rw [if_pos lp] at this;exact this.symm
 refine ⟨e,λ x hx=>?_⟩;have:=h x hx;unfold un at this
 by_cases f:ld x=p
 ·rw [if_pos f] at this;rw [f,e];exact this
 ·rw [if_neg f] at this;exact this
theorem Zwo {L:List Sym} {J:List Int} {m:Nat}:∀ (n:Nat) (ld:Int->Int) (rs:List (Nat × Nat × Nat)) (ldf:Int->Int),UOk L J (some ldf) n ld rs->Inv L J m ld rs->Inv L J m ldf []:=by
 intro n
 induction n with
 | zero=>intro ld rs ldf h _;have:=h.eq;simp [Zgu] at this
 | succ n ih=>
  intro ld rs ldf h hI;cases rs with
  | nil=>
   have:=h.nil;simp only [Option.some.injEq] at this;rw [this];exact hI
  | cons r rs=>
   obtain ⟨x,y,o⟩:=r
   by_cases hxy:x<y
   ·obtain ⟨k', hk', S1,S2,S3,S4,S5⟩:=h.step hxy
    obtain ⟨t1,t2,t3,t4,hpx,hpo,hlx,hlo,hr⟩:=h.top hxy;have px:=Zn (J:=J) (p:=x) t1;have po:=Zn (J:=J) (p:=o) t2;obtain rfl:k' = n:=by omega
    have rest:∀ (φ:Int->Int),Zf4 J φ ld->φ (ld x)=φ (ld o)->(∀ r∈(Zq L J x,y,Zq L J o) :: rs,Zhh L J φ r)->∀ r∈(x,y,o) :: rs,Zhh L J φ r:=by
     intro φ hc he hp r hr
     rcases List.mem_cons.1 hr with e | e
     ·rw [e]
      refine Zrn hxy ?_ (hp _ (by simp));rw [<- hc x px,<- hc o po,he]
     ·exact hp r (by simp [e])
    by_cases h1:ld x=ld o
    ·exact ih _ _ _ (S1 h1) (λ φ hc hp=>hI φ hc (rest φ hc (by rw [h1]) hp))
    ·by_cases h2:ld x<0
     ·refine ih _ _ _ (S2 h1 h2) (λ φ hc hp=>?_)
      obtain ⟨e,hc'⟩:=Jv h.ok hpx hlx hc;obtain ⟨a1,a2⟩:=hI φ hc' (rest φ hc' e hp);refine ⟨a1,λ P hP hs i hi=>?_⟩;have hl:=(h.ok.like P (Zn hP) (by omega) hs).1;have:un (ld x) (ld o) ld P=ld P:=by unfold un;rw [if_neg (by omega)]
      rw [this];exact a2 P hP hs i hi
     ·by_cases h3:ld o<0
      ·refine ih _ _ _ (S3 h1 h2 h3) (λ φ hc hp=>?_)
       obtain ⟨e,hc'⟩:=Jv h.ok hpo hlo hc;obtain ⟨a1,a2⟩:=hI φ hc' (rest φ hc' e.symm hp);refine ⟨a1,λ P hP hs i hi=>?_⟩;have hl:=(h.ok.like P (Zn hP) (by omega) hs).1;have:un (ld o) (ld x) ld P=ld P:=by unfold un;rw [if_neg (by omega)]
       rw [this];exact a2 P hP hs i hi
      ·by_cases h4:at' J (ld x)=at' J (ld o)
       ·refine ih _ _ _ (S5 h1 h2 h3 h4) (λ φ hc hp=>?_)
        obtain ⟨e,hc'⟩:=Jv h.ok hpx hlx hc;obtain ⟨a1,a2⟩:=hI φ hc' (rest φ hc' e (λ r hr=>hp r (by simp at hr ⊢;exact .inr hr)));refine ⟨a1,λ P hP hs i hi=>?_⟩
        by_cases f:ld P=ld x
        ·have e1:un (ld x) (ld o) ld P=ld o:=by unfold un;rw [if_pos f]
         have h5:=a2 P hP hs i hi;rw [f] at h5;rw [h5,e1];have hl:=(h.ok.like P (Zn hP) (by omega) hs);rw [f] at hl;have hpl:(ld x).toNat<J.length:=by have:=hpx.2;omega
         have hql:(ld o).toNat<J.length:=by have:=hpo.2;omega
         have f1:=Yh h.trs hpl;have f2:=Yh h.trs hql;have c1:(((ld x).toNat:Nat):Int)=ld x:=by omega
         have c2:(((ld o).toNat:Nat):Int)=ld o:=by omega
         rw [c1] at f1;rw [c2,<- h4] at f2;exact hp ((ld x).toNat+1,Zq L J (ld x).toNat,(ld o).toNat+1) (by simp) _ _ f1 f2 i (by rw [hl.2];exact hi)
        ·have e1:un (ld x) (ld o) ld P=ld P:=by unfold un;rw [if_neg f]
         rw [e1];exact a2 P hP hs i hi
       ·have:=S4 h1 h2 h3 h4;cases this
   ·obtain ⟨k', hk', hU⟩:=h.pop hxy
    obtain rfl:k' = n:=by omega
    refine ih _ _ _ hU (λ φ hc hp=>hI φ hc (λ r hr=>?_))
    rcases List.mem_cons.1 hr with e | e
    ·rw [e]
     intro k z f1 f2 i hi;have:=f1.le;cases k with
     | zero=>omega
     | succ k=>have:=f1.pos;simp only at this;omega
    ·exact hp r e
theorem Zp2 {L:List Sym} {J:List Int} (hT:Trs L J) {m:Nat} (h0:0<J.length) (hm:m<J.length):Inv L J m (ld0 J) [(0,Zq L J 0,m)]:=by
 intro φ hc hp;refine ⟨hp (0,Zq L J 0,m) (by simp) 1 _ (hT 0 h0) (hT m hm) 0 (by omega),λ P hP hs i hi=>?_⟩;have:ld0 J (P:Int)=P:=by unfold ld0;rw [if_neg (by omega)]
 rw [this,Int.toNat_natCast]
structure Jt (L:List Sym) (J:List Int) (m:Nat) (ld:Int->Int):Prop where
 trs:Trs L J
 ok:Zcq J ld
 both:ld 0=ld m
 args:∀ P:Nat,P<J.length->0<=at' J P->∀ i,i<arN L (at' J P)->ld (past L J i (P+1):Nat)=ld (past L J i ((ld P).toNat+1):Nat)
 var:∀ P:Nat,P<J.length->at' J P<0->ld P=ld (at' J P)
theorem Zvx {L:List Sym} {J:List Int} {P:Nat} (hP:P<J.length) (hv:Z2 J (at' J P)):∀ (n:Nat) (ld:Int->Int) (rs:List (Nat × Nat × Nat)) (ldf:Int->Int),UOk L J (some ldf) n ld rs->ld P=ld (at' J P)->ldf P=ldf (at' J P):=by
 have hun:∀ (p q:Int) (ld:Int->Int),ld P=ld (at' J P)->un p q ld P=un p q ld (at' J P):=λ p q ld e=>by unfold un;rw [e]
 intro n
 induction n with
 | zero=>intro ld rs ldf h _;have:=h.eq;simp [Zgu] at this
 | succ n ih=>
  intro ld rs ldf h hI;cases rs with
  | nil=>
   have:=h.nil;simp only [Option.some.injEq] at this;rw [this];exact hI
  | cons r rs=>
   obtain ⟨x,y,o⟩:=r
   by_cases hxy:x<y
   ·obtain ⟨k', hk', S1,S2,S3,S4,S5⟩:=h.step hxy
    obtain rfl:k' = n:=by omega
    by_cases h1:ld x=ld o
    ·exact ih _ _ _ (S1 h1) hI
    ·by_cases h2:ld x<0
     ·exact ih _ _ _ (S2 h1 h2) (hun _ _ _ hI)
     ·by_cases h3:ld o<0
      ·exact ih _ _ _ (S3 h1 h2 h3) (hun _ _ _ hI)
      ·by_cases h4:at' J (ld x)=at' J (ld o)
       ·exact ih _ _ _ (S5 h1 h2 h3 h4) (hun _ _ _ hI)
       ·have:=S4 h1 h2 h3 h4;cases this
   ·obtain ⟨k', hk', hU⟩:=h.pop hxy
    obtain rfl:k' = n:=by omega
    exact ih _ _ _ hU hI
theorem Zrd {L:List Sym} {J:List Int}:∀ (n:Nat) (ld:Int->Int) (rs:List (Nat × Nat × Nat)) (ldf:Int->Int),UOk L J (some ldf) n ld rs->Zcq J ldf:=by
 intro n
 induction n with
 | zero=>intro ld rs ldf h;have:=h.eq;simp [Zgu] at this
 | succ n ih=>
  intro ld rs ldf h;cases rs with
  | nil=>
   have:=h.nil;simp only [Option.some.injEq] at this;rw [this];exact h.ok
  | cons r rs=>
   obtain ⟨x,y,o⟩:=r
   by_cases hxy:x<y
   ·obtain ⟨k', hk', S1,S2,S3,S4,S5⟩:=h.step hxy
    obtain rfl:k' = n:=by omega
    by_cases h1:ld x=ld o
    ·exact ih _ _ _ (S1 h1)
    ·by_cases h2:ld x<0
     ·exact ih _ _ _ (S2 h1 h2)
     ·by_cases h3:ld o<0
      ·exact ih _ _ _ (S3 h1 h2 h3)
      ·by_cases h4:at' J (ld x)=at' J (ld o)
       ·exact ih _ _ _ (S5 h1 h2 h3 h4)
       ·have:=S4 h1 h2 h3 h4;cases this
   ·obtain ⟨k', hk', hU⟩:=h.pop hxy
    obtain rfl:k' = n:=by omega
    exact ih _ _ _ hU
theorem Zi6 {L:List Sym} {J:List Int} (hv:∀ x∈J, -198<=x) {m n:Nat} (h0:0<J.length) (hm:m<J.length) {ldf:Int->Int} (h:UOk L J (some ldf) n (ld0 J) [(0,Zq L J 0,m)]):Jt L J m ldf:=by
 have hl:=Zrd _ _ _ _ h;obtain ⟨a1,a2⟩:=Zwo _ _ _ _ h (Zp2 h.trs h0 hm) ldf (λ x hx=>hl.idem x hx) (by simp);refine ⟨h.trs,hl,a1,a2,λ P hP hs=>?_⟩
 have hpt:Z2 J (at' J P):=by
  refine ⟨?_,by omega⟩;rw [Yl J P hP];exact hv _ (List.getElem_mem _)
 refine Zvx hP hpt _ _ _ _ h ?_;have e1:ld0 J (P:Int)=at' J P:=by unfold ld0;rw [if_pos ⟨by omega,hs⟩]
 have e2:ld0 J (at' J P)=at' J P:=by unfold ld0;rw [if_neg (by omega)]
 rw [e1,e2]
def Zoj {X:Type} (L:List Sym) (J:List Int) (val:Int->X) (r:Nat × Nat × Nat):Prop:=∃ k z,Zu L J k r.1 r.2.1∧Zu L J k r.2.2 z∧∀ i,i<k->val (past L J i r.1:Nat)=val (past L J i r.2.2:Nat)
def Inj {X:Type} (L:List Sym) (J:List Int) (val:Int->X):Prop:=∀ p q:Nat,p<J.length->q<J.length->0<=at' J p->0<=at' J q->val p=val q->at' J p=at' J q∧∀ i,i<arN L (at' J p)->val (past L J i (p+1):Nat)=val (past L J i (q+1):Nat)
theorem Zor {X:Type} {L:List Sym} {J:List Int} {val:Int->X} (hin:Inj L J val):∀ (n:Nat) (ld:Int->Int) (rs:List (Nat × Nat × Nat)) (res:Option (Int->Int)),UOk L J res n ld rs->(∀ x,Z2 J x->val (ld x)=val x)->(∀ r∈rs,Zoj L J val r)->∃ ldf,res=some ldf∧∀ x,Z2 J x->val (ldf x)=val x:=by
 intro n
 induction n with
 | zero=>intro ld rs res h;have:=h.eq;simp [Zgu] at this
 | succ n ih=>
  intro ld rs res h hv hp;cases rs with
  | nil=>exact ⟨ld,h.nil,hv⟩
  | cons r rs=>
   obtain ⟨x,y,o⟩:=r;have hp2:∀ r∈rs,Zoj L J val r:=λ r hr=>hp r (by simp [hr])
   by_cases hxy:x<y
   ·obtain ⟨k', hk', S1,S2,S3,S4,S5⟩:=h.step hxy
    obtain ⟨t1,t2,t3,t4,hpx,hpo,hlx,hlo,hr⟩:=h.top hxy;have px:=Zn (J:=J) (p:=x) t1;have po:=Zn (J:=J) (p:=o) t2;obtain rfl:k' = n:=by omega
    obtain ⟨k,z,f1,f2,f3⟩:=hp (x,y,o) (by simp)
    obtain ⟨c,rfl⟩:∃ c,k=c+1:=by
     cases k with
     | zero=>have:=f1.zero;simp only at this;omega
     | succ c=>exact ⟨c,rfl⟩
    have hxo:val x=val o:=f3 0 (by omega);have hpp:val (ld x)=val (ld o):=by rw [hv x px,hv o po,hxo]
    have hp3:∀ r∈(Zq L J x,y,Zq L J o) :: rs,Zoj L J val r:=by
     intro r hr
     rcases List.mem_cons.1 hr with e | e
     ·rw [e]
      exact ⟨c,z,f1.succ.2.2,f2.succ.2.2,λ i hi=>f3 (i+1) (by omega)⟩
     ·exact hp2 r e
    have hun:∀ p q:Int,val p=val q->∀ x,Z2 J x->val (un p q ld x)=val x:=by
     intro p q e x hx;unfold un;split
     ·rename_i f;rw [<- e,<- f];exact hv x hx
     ·exact hv x hx
    by_cases h1:ld x=ld o
    ·exact ih _ _ _ (S1 h1) hv hp3
    ·by_cases h2:ld x<0
     ·exact ih _ _ _ (S2 h1 h2) (hun _ _ hpp) hp3
     ·by_cases h3:ld o<0
      ·exact ih _ _ _ (S3 h1 h2 h3) (hun _ _ hpp.symm) hp3
      ·have hpl:(ld x).toNat<J.length:=by have:=hpx.2;omega
       have hql:(ld o).toNat<J.length:=by have:=hpo.2;omega
       have c1:(((ld x).toNat:Nat):Int)=ld x:=by omega
       have c2:(((ld o).toNat:Nat):Int)=ld o:=by omega
       have hh:=hin (ld x).toNat (ld o).toNat hpl hql (by rw [c1];exact h.ok.sym x px (by omega)) (by rw [c2];exact h.ok.sym o po (by omega)) (by rw [c1,c2];exact hpp);rw [c1,c2] at hh;refine ih _ _ _ (S5 h1 h2 h3 hh.1) (hun _ _ hpp) (λ r hr=>?_)
       rcases List.mem_cons.1 hr with e | e
       ·rw [e]
        have g1:=Yh h.trs hpl;have g2:=Yh h.trs hql;rw [c1] at g1;rw [c2,<- hh.1] at g2;exact ⟨_,_,g1,g2,hh.2⟩
       ·exact hp3 r e
   ·obtain ⟨k', hk', hU⟩:=h.pop hxy
    obtain rfl:k' = n:=by omega
    exact ih _ _ _ hU hv hp2
def Vl (val:Int->List Int) (u:List Int):List Int:=u.flatMap (λ n=>if n<0 then val n else [n])
theorem Zan (val:Int->List Int) (a b:List Int):Vl val (a++b)=Vl val a++Vl val b:=by simp [Vl]
theorem Yn (val:Int->List Int) (x:Int) (b:List Int):Vl val (x :: b)=(if x<0 then val x else [x])++Vl val b:=by simp [Vl]
theorem Zpn {L:List Sym} {J:List Int} {ld:Int->Int} {val:Int->List Int}:∀ (l:List Nat),(∀ k∈l,∃ u,Val L J ld k u∧val k=Vl val u)->∃ u,Zkk L J ld l u∧l.flatMap (λ k:Nat=>val (k:Int))=Vl val u
 | [],_=>⟨[],Zda _ _ _,rfl⟩
 | x :: r,h=>by
  obtain ⟨u,h1,h2⟩:=h x (by simp);obtain ⟨v,h3,h4⟩:=Zpn r (λ k hk=>h k (by simp [hk]));exact ⟨u++v,Kh h1 h3,by rw [List.flatMap_cons,h2,h4,Zan]⟩
theorem Ztz {α:Type} {f:α->List Int} {l:List α} {k:α} (h:k∈l):(f k).length<=(l.flatMap f).length:=by
 induction l with
 | nil=>cases h
 | cons x r ih=>
  rw [List.flatMap_cons,List.length_append]
  rcases List.mem_cons.1 h with e | e
  ·subst e;omega
  ·have:=ih e;omega
structure Good (L:List Sym) (J:List Int) (val:Int->List Int):Prop where
 sym:∀ p:Nat,p<J.length->0<=at' J p->val p=at' J p :: (Zm L J p).flatMap (λ k:Nat=>val (k:Int))
 var:∀ p:Nat,p<J.length->at' J p<0->val p=val (at' J p)
 isT:∀ x,Z2 J x->IsT L (val x)
theorem Zfh {L:List Sym} {J:List Int} {ld:Int->Int} {val:Int->List Int} (hT:Trs L J) (hl:Zcq J ld) (hg:Good L J val) (hc:∀ x,Z2 J x->val (ld x)=val x):∀ (n:Nat) (x:Int),(val x).length<=n->Z2 J x->∃ u,Val L J ld x u∧val x=Vl val u:=by
 intro n
 induction n with
 | zero=>
  intro x hn hx;have:=Z6 (hg.isT x hx);omega
 | succ n ih=>
  intro x hn hx
  by_cases h1:ld x<0
  ·refine ⟨_,Zpu h1,?_⟩
   simp only [Vl,List.flatMap_cons,List.flatMap_nil,if_pos h1,List.append_nil];exact (hc x hx).symm
  ·obtain ⟨p,hp⟩:=Int.eq_ofNat_of_zero_le (Int.not_lt.1 h1)
   have hpl:p<J.length:=by have:=(hl.part x hx).2;omega
   have hs:0<=at' J (p:Int):=by have:=hl.sym x hx (by omega);rwa [hp] at this
   have e:=hg.sym p hpl hs;have ex:val x=val p:=by rw [<- hc x hx,hp]
   obtain ⟨us,h2,h3⟩:=Zpn (L:=L) (J:=J) (ld:=ld) (val:=val) (Zm L J p) (λ k hk=>by
    refine ih k ?_ (Zn (Vw hT hpl k hk));have h4:=Ztz (f:=λ k:Nat=>val (k:Int)) hk;rw [ex,e,List.length_cons] at hn
    omega)
   have e1:(ld x).toNat=p:=by omega
   refine ⟨at' J (ld x) :: us,Zrp h1 (by rw [e1];exact h2),?_⟩;rw [ex,e,h3,Yn,hp];have:¬ at' J ((p:Nat):Int)<0:=by omega
   show _=(if at' J ((p:Nat):Int)<0 then _ else _)++_;rw [if_neg this];rfl
theorem Zvd {L:List Sym} {a b r s:List Int} (ha:IsT L a) (hb:IsT L b) (h:a++r=b++s):a=b∧r=s:=by
 have h1:=Xw (b:=r) ha;have h2:=Xw (b:=s) hb;rw [h,h2] at h1;simp only [Option.some.injEq] at h1;exact List.append_inj h h1.symm
theorem Zl1 {L:List Sym} {f:Nat->List Int}:∀ (l m:List Nat),l.length=m.length->(∀ k∈l,IsT L (f k))->(∀ k∈m,IsT L (f k))->l.flatMap f=m.flatMap f->∀ i (h:i<l.length) (h' : i<m.length),f l[i]=f m[i]
 | [],m,_,_,_,_,i,h,_=>by simp at h
 | x :: l,[],hl,_,_,_,i,h,h' => by simp at h'
 | x :: l,y :: m,hl,h1,h2,e,i,h,h' => by
  rw [List.flatMap_cons,List.flatMap_cons] at e;obtain ⟨e1,e2⟩:=Zvd (h1 x (by simp)) (h2 y (by simp)) e;cases i with
  | zero=>exact e1
  | succ i=>exact Zl1 l m (by simpa using hl) (λ k hk=>h1 k (by simp [hk])) (λ k hk=>h2 k (by simp [hk])) e2 i (by simpa using h) (by simpa using h')
theorem Kl {L:List Sym} {J:List Int} {p i:Nat} (hi:i<arN L (at' J p)):(Zm L J p)[i]? = some (past L J i (p+1)):=Za9 hi
theorem Zl8 {L:List Sym} {J:List Int} {val:Int->List Int} (hT:Trs L J) (hg:Good L J val):Inj L J val:=by
 intro p q hp hq sp sq e;rw [hg.sym p hp sp,hg.sym q hq sq] at e;simp only [List.cons.injEq] at e;refine ⟨e.1,λ i hi=>?_⟩;have l1:(Zm L J p).length=arN L (at' J p):=Zl _ _ _ _;have l2:(Zm L J q).length=arN L (at' J q):=Zl _ _ _ _;have hl:(Zm L J p).length=(Zm L J q).length:=by rw [l1,l2,e.1]
 have h1:i<(Zm L J p).length:=by omega
 have h2:i<(Zm L J q).length:=by omega
 have:=Zl1 (L:=L) (f:=λ k:Nat=>val (k:Int)) _ _ hl (λ k hk=>hg.isT _ (Zn (Vw hT hp k hk))) (λ k hk=>hg.isT _ (Zn (Vw hT hq k hk))) e.2 i h1 h2;have g1:=Kl (L:=L) (J:=J) (p:=p) hi;have g2:=Kl (L:=L) (J:=J) (p:=q) (i:=i) (by rw [<- e.1];exact hi);rw [List.getElem?_eq_getElem h1,Option.some.injEq] at g1;rw [List.getElem?_eq_getElem h2,Option.some.injEq] at g2;rw [g1,g2] at this;exact this
theorem Zk2 {L:List Sym} {J:List Int} {ld:Int->Int}:∀ (l:List Nat) (u:List Int),Zkk L J ld l u->∀ y∈l,∃ t', Val L J ld y t' ∧ t'.length<=u.length
 | [],u,_,y,hy=>by simp at hy
 | x :: r,u,h,y,hy=>by
  obtain ⟨a,b,h1,h2,h3⟩:=Jp h;subst h3
  rcases List.mem_cons.1 hy with e | e
  ·subst e;exact ⟨a,h1,by simp⟩
  ·obtain ⟨t', g1,g2⟩:=Zk2 r b h2 y e
   exact ⟨t', g1,by rw [List.length_append];omega⟩
def Zvw (L:List Sym) (J:List Int) (ld:Int->Int) (sz:Nat->Int) (x:Int):Prop:=∀ p:Nat,p<J.length->ld p=p->sz p = -1->∀ t,Val L J ld p t->∃ t', Val L J ld x t' ∧ t'.length<t.length
theorem Zhq {L:List Sym} {J:List Int} {ld:Int->Int} {n:Nat} (hf:∀ sz x k sz', Z2 J x->Zbd sz->Vy L J ld n sz x=some (k,sz')->(k ≠ -1->∀ p,sz' p = -1->sz p = -1)∧(k = -1->Zvw L J ld sz x->∀ u,¬ Val L J ld x u)):∀ (l:List Nat),(∀ x∈l,x<J.length)->∀ (s:Int) (sz:Nat->Int) (k:Int) (sz' : Nat->Int),1<=s->s<=2001->Zbd sz->Zaz (Vy L J ld n) l s sz=some (k,sz')->(k ≠ -1->∀ p,sz' p = -1->sz p = -1)∧(k = -1->(∀ x∈l,Zvw L J ld sz (x:Nat))->∀ u,¬ Zkk L J ld l u)
 | [],_,s,sz,k,sz', h1,_,_,e=>by
  simp only [Zaz,Option.some.injEq,Prod.mk.injEq] at e;obtain ⟨rfl,rfl⟩:=e;exact ⟨λ _ _ h=>h,λ e=>by omega⟩
 | x :: r,hl,s,sz,k,sz', h1,h2,h3,e=>by
  unfold Zaz at e;cases hx:Vy L J ld n sz (x:Int) with
  | none=>simp [hx] at e
  | some v=>
   obtain ⟨k1,sz1⟩:=v;simp only [hx] at e;obtain ⟨g1,g2⟩:=hf _ _ _ _ (Zn (hl x (by simp))) h3 hx;have g3:=Za0 n _ _ _ _ h3 hx
   by_cases hk:k1 = -1
   ·rw [if_pos hk] at e
    simp only [Option.some.injEq,Prod.mk.injEq] at e;obtain ⟨rfl,rfl⟩:=e;refine ⟨λ f=>absurd rfl f,λ _ ha u hu=>?_⟩;obtain ⟨a,b,q1,q2,q3⟩:=Jp hu;exact g2 hk (ha x (by simp)) a q1
   ·rw [if_neg hk] at e
    obtain ⟨f1,f2⟩:=Zhq hf r (λ y hy=>hl y (by simp [hy])) _ _ _ _ (by omega) (by omega) g3.1 e;refine ⟨λ hk' p hp=>g1 hk p (f1 hk' p hp),λ hk' ha u hu=>?_⟩;obtain ⟨a,b,q1,q2,q3⟩:=Jp hu;exact f2 hk' (λ y hy p hp hpp hs=>ha y (by simp [hy]) p hp hpp (g1 hk p hs)) b q2
theorem Ziw {L:List Sym} {J:List Int} {ld:Int->Int} (hT:Trs L J) (hl:Zcq J ld):∀ (n:Nat) (sz:Nat->Int) (x k:Int) (sz' : Nat->Int),Z2 J x->Zbd sz->Vy L J ld n sz x=some (k,sz')->(k ≠ -1->∀ p,sz' p = -1->sz p = -1)∧(k = -1->Zvw L J ld sz x->∀ u,¬ Val L J ld x u):=by
 intro n
 induction n with
 | zero=>intro sz x k sz' _ _ e;simp [Vy] at e
 | succ n ih=>
  intro sz x k sz' hx hs e;rw [Vy] at e
  by_cases h1:ld x<0
  ·rw [if_pos h1] at e
   simp only [Option.some.injEq,Prod.mk.injEq] at e;obtain ⟨rfl,rfl⟩:=e;exact ⟨λ _ _ h=>h,λ e=>by omega⟩
  ·rw [if_neg h1] at e
   obtain ⟨p,hp⟩:=Int.eq_ofNat_of_zero_le (Int.not_lt.1 h1);have hpl:p<J.length:=by have:=(hl.part x hx).2;omega
   have hpp:ld (p:Int)=p:=by
    have:=hl.idem x hx;rw [hp] at this;exact this
   have e1:(ld x).toNat=p:=by omega
   have exp:ld x=ld (p:Int):=by rw [hpp,hp]
   rw [e1] at e
   by_cases h2:sz p≠0
   ·rw [if_pos h2] at e
    simp only [Option.some.injEq,Prod.mk.injEq] at e;obtain ⟨rfl,rfl⟩:=e;refine ⟨λ _ _ h=>h,λ hk ha u hu=>?_⟩;obtain ⟨t', q1,q2⟩:=ha p hpl hpp hk u (Zdc exp hu);rw [q1.uniq hu] at q2;omega
   ·rw [if_neg h2] at e
    have h0:sz p=0:=by simpa using h2
    cases h3:Zaz (Vy L J ld n) (Zm L J p) 1 (Kg sz p (-1)) with
    | none=>simp [h3] at e
    | some v=>
     obtain ⟨s,sz1⟩:=v;obtain ⟨g1,g2⟩:=Zhq ih _ (Vw hT hpl) 1 _ _ _ (by omega) (by omega) (hs.upd _ (.inl rfl)) h3;simp only [h3] at e
     by_cases hss:s = -1
     ·rw [if_pos hss] at e
      simp only [Option.some.injEq,Prod.mk.injEq] at e;obtain ⟨rfl,rfl⟩:=e;refine ⟨λ f=>absurd rfl f,λ _ ha u hu=>?_⟩;obtain ⟨v,q1,q2⟩:=Zg2 h1 hu;rw [e1] at q2
      have up:∀ (t:List Int),Val L J ld (p:Int) t->∀ y∈Zm L J p,∃ t', Val L J ld (y:Nat) t' ∧ t'.length<t.length:=by
       intro t ht y hy;obtain ⟨v', r1,r2⟩:=Zg2 (by rw [hpp];omega) ht;rw [hpp,Int.toNat_natCast] at r2;obtain ⟨t', r3,r4⟩:=Zk2 _ _ r2 y hy;exact ⟨t', r3,by rw [r1,List.length_cons];omega⟩
      refine g2 hss (λ y hy q hq hqq hsq t ht=>?_) v q2;unfold Kg at hsq
      by_cases eq:q=p
      ·subst eq;exact up t ht y hy
      ·rw [if_neg eq] at hsq
       obtain ⟨t2,r1,r2⟩:=ha q hq hqq hsq t ht;obtain ⟨t3,r3,r4⟩:=up t2 (Zdc exp r1) y hy;exact ⟨t3,r3,by omega⟩
     ·rw [if_neg hss] at e
      simp only [Option.some.injEq,Prod.mk.injEq] at e;obtain ⟨rfl,rfl⟩:=e;refine ⟨λ _ q hq=>?_,λ f=>absurd f hss⟩;unfold Kg at hq
      by_cases eq:q=p
      ·rw [if_pos eq] at hq;exact absurd hq hss
      ·rw [if_neg eq] at hq
       have:=g1 hss q hq;unfold Kg at this
       rwa [if_neg eq] at this
theorem Zl4 {L:List Sym} {J:List Int} (hT:Trs L J) (hv:∀ x∈J, -198<=x) {m:Nat} (h0:0<J.length) (hm:m<J.length) {val:Int->List Int} (hg:Good L J val) (he:val 0=val m) :
  ∃ ld k u,Zeu L J m=some (ld,k)∧Jt L J m ld∧Val L J ld 0 u∧k=min (u.length:Int) 2001∧val 0=Vl val u∧∀ x,Z2 J x->val (ld x)=val x:=by
 obtain ⟨res,hU,hR1,hR2⟩:=(Zjp hT hv h0 hm).uni
 have hst:∀ x,Z2 J x->val (ld0 J x)=val x:=by
  intro x hx
  by_cases h:0<=x∧at' J x<0
  ·have e:ld0 J x=at' J x:=by unfold ld0;rw [if_pos h]
   obtain ⟨p,rfl⟩:=Int.eq_ofNat_of_zero_le h.1;rw [e];exact (hg.var p (by have:=hx.2;omega) h.2).symm
  ·have e:ld0 J x=x:=by unfold ld0;rw [if_neg h]
   rw [e]
 obtain ⟨ld,rfl,hc⟩:=Zor (Zl8 hT hg) _ _ _ _ hU hst (λ r hr=>by
  simp only [List.mem_cons,List.not_mem_nil,or_false] at hr;subst hr;refine ⟨1,Zq L J m,hT 0 h0,hT m hm,λ i hi=>?_⟩;obtain rfl:i=0:=by omega
  exact he)
 obtain ⟨hl,k,sz', hs,hk1,hk2⟩:=hR2 ld rfl;obtain ⟨u,hu,hvu⟩:=Zfh hT hl hg hc _ 0 (Nat.le_refl _) (Zn (p:=0) h0);have hk:k ≠ -1:=λ e=>(Ziw hT hl _ _ _ _ _ (Zn (p:=0) h0) (λ p=>.inr ⟨by simp,by simp⟩) hs).2 e (λ p _ _ f=>by simp at f) u hu;obtain ⟨e1,u', hu', hku⟩:=hk2 hk;have:=hu'.uniq hu;subst this;exact ⟨ld,k,u', e1,Zi6 hv h0 hm hU,hu,hku,hvu,hc⟩
def V2 (o:List Int) (x:Int):List Int:=if isV x=true∧¬ (-x)∈o then o ++ [-x] else o
def vs (o:List Int) (t:List Int):List Int:=t.foldl V2 o
def Z3 (t:List Int):List Int:=vs [] t
theorem Zu1 (o a:List Int) (x:Int):vs o (a ++ [x])=V2 (vs o a) x:=by simp [vs]
theorem Zq7 {o t:List Int} {k:Nat} (h:k<t.length):vs o (t.take (k+1))=V2 (vs o (t.take k)) t[k]:=by
 rw [List.take_add_one,List.getElem?_eq_getElem h];exact Zu1 _ _ _
theorem Zg1 {x:Int}:isV x=true ↔ -99<=x∧x <= -1:=by simp [isV]
theorem Zos (o:List Int) (x:Int):o <+: V2 o x:=by
 unfold V2;split
 ·exact List.prefix_append _ _
 ·exact List.prefix_refl _
theorem vs_sub (o t:List Int):o <+: vs o t:=by
 induction t generalizing o with
 | nil=>exact List.prefix_refl _
 | cons x r ih=>exact (Zos o x).trans (ih (V2 o x))
theorem vs_mem {o t:List Int} {x:Int} (hx:x∈t) (hv:isV x=true) : -x∈vs o t:=by
 induction t generalizing o with
 | nil=>simp at hx
 | cons y r ih=>
  rcases List.mem_cons.1 hx with rfl | hx
  ·have h1 : -x∈V2 o x:=by
    unfold V2;split
    ·simp
    ·rename_i h;simp [hv] at h;exact h
   exact (vs_sub (V2 o x) r).subset h1
  ·exact ih hx
theorem Ze9 (o t:List Int):(vs o t).length<=o.length+t.length:=by
 induction t generalizing o with
 | nil=>simp [vs]
 | cons x r ih=>
  have:=ih (V2 o x);have h2:(V2 o x).length<=o.length+1:=by unfold V2;split <;> simp
  simp only [vs,List.foldl_cons,List.length_cons] at *;omega
def pl (o:List Int) (x:Int):Int:=if isV x=true then -((o.idxOf (-x):Int)+1) else x
def Zkx (L:List Sym) (J:List Int) (p:Nat):List Int:=(J.drop p).take (Zq L J p-p)
theorem Zf3 {L:List Sym} {J:List Int}:∀ (k p q:Nat),Zu L J k p q->(J.drop p).take (q-p)=(Zr L J k p).flatMap (Zkx L J)
 | 0,p,q,h=>by have:=h.zero;subst this;simp [Zr]
 | k+1,p,q,h=>by
  obtain ⟨h1,h2,h3⟩:=h.succ;have h4:=h3.le;rw [Zr,List.flatMap_cons,<- Zf3 k _ q h3];unfold Zkx;rw [show q-p=(Zq L J p-p)+(q-Zq L J p) by omega,List.take_add,List.drop_drop,show p+(Zq L J p-p)=Zq L J p by omega]
theorem Zgt {L:List Sym} {J:List Int} (hT:Trs L J) {p:Nat} (hp:p<J.length):Zkx L J p=at' J p :: (Zm L J p).flatMap (Zkx L J):=by
 have hf:=Yh hT hp;have h2:=hT.lt hp;rw [Zm,<- Zf3 _ _ _ hf,Yl J p hp];unfold Zkx;rw [List.drop_eq_getElem_cons hp,show Zq L J p-p=(Zq L J p-(p+1))+1 by omega,List.take_succ_cons]
theorem Zp6 {L:List Sym} {J:List Int} (hT:Trs L J) {p:Nat} (hp:p<J.length):IsT L (Zkx L J p):=by
 obtain ⟨n,h1,h2,h3⟩:=hT p hp;unfold Zkx;rw [h2,show p+n-p=n by omega];exact (Js h1).2
theorem Zd7 (L:List Sym) {x:Int} (h:x<0):IsT L [x]:=by
 unfold IsT;show Xb L (0+1) [x]=some 0;rw [Xb,Xb];unfold arN;rw [if_pos h]
end Go.Proofs.YtjahpnbijefncaaGreat
