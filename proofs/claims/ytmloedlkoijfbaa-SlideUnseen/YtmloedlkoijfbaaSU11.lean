import Derived.Test.YtmloedlkoijfbaaSU10
import Derived.Test.YtmloedlkoijfbaaSU04
import Derived.Test.YtmloedlkoijfbaaSU09
import Derived.Deep.DeepAppendWide
import Derived.Test.YtmloedlkoijfbaaSU06
import Derived.Test.YtmloedlkoijfbaaSU08
import Derived.Test.YtmloedlkoijfbaaSU05
import Derived.Lib.AppendZeros
import Derived.Deep.RegionLaw
import Derived.Deep.RegionWith
namespace Go.Proofs.Ytmloedlkoijfbaa
set_option linter.unusedVariables false
structure Unn (l m:List Nd) (X Y:List Int) (Q:Nat→Nat→Prop):Prop where
 wl:Wf l
 wm:Wf m
 bis:Bis l m Q
 fn:∀ c d d', Q c d→Q c d' → d=d'
 inj:∀ c c' d,Q c d→Q c' d→c=c'
 len:X.length=Y.length
 han:∀ (j:Nat) (x y:Int),X[j]? = some x→Y[j]? = some y→(0≤x∧x<(l.length:Int))∧(0≤y∧y<(m.length:Int))∧∀ c d,Res l x.toNat c→Res m y.toNat d→Q c d
theorem Bis.swap {l m:List Nd} {Q:Nat→Nat→Prop} (h:Bis l m Q):Bis m l (fun d c=>Q c d):=
 ⟨fun d c q=>⟨(h.app c d q).2,(h.app c d q).1⟩,fun d c hd hc q=>⟨(h.sym c d hc hd q).1.symm,(h.sym c d hc hd q).2.symm⟩,fun d c hd hc q k y z hy hz d' c' r1 r2=>h.arg c d hc hd q k z y hz hy c' d' r2 r1⟩
theorem Unn.start:Unn [] [] [] [] (fun _ _=>False):=
 ⟨⟨fun x hx=>(by cases hx),Ac.nil⟩,⟨fun x hx=>(by cases hx),Ac.nil⟩,⟨fun _ _ f=>f.elim,fun _ _ _ _ f=>f.elim,fun _ _ _ _ f=>f.elim⟩,fun _ _ _ f=>f.elim,fun _ _ _ f=>f.elim,rfl,fun j x y h=>by simp at h⟩
theorem bis_rc {l m:List Nd} (wl:Wf l) (wm:Wf m) {Q:Nat→Nat→Prop} (h:Bis l m Q) (fn:∀ c d d', Q c d→Q c d' → d=d') {x y:Nat} (hx:x<l.length) (hy:y<m.length) (hxy:∀ c d,Res l x c→Res m y d→Q c d) {c0 d0:Nat} (q0:Q c0 d0) (hr:Rc l x c0):Rc m y d0:=by
 have key:=Kpt.in wl (R:=[(x:Int)]) (by intro r hr;simp only [List.mem_singleton] at hr;subst hr;omega) (S:=fun a=>∃ d', Q a d' ∧ Rc m y d') ?_ ?_ (a:=c0) ⟨(h.app c0 d0 q0).1,(x:Int),by simp,by simpa using hr⟩
 ·obtain ⟨d', q,r⟩:=key
  rw [fn c0 d0 d' q0 q];exact r
 ·intro r hr b hb
  simp only [List.mem_singleton] at hr
  subst hr
  obtain ⟨d,hd⟩:=res_ex wm hy
  exact ⟨d,hxy b d (by simpa using hb) hd,hd.rc wm⟩
 ·rintro a ha ⟨d', q,r⟩ z hz b hb
  obtain ⟨hac,hdc⟩:=h.app a d' q
  obtain ⟨k,hk,e⟩:=List.mem_iff_getElem.1 hz
  have hk2:k<(m[d']'hdc.1).2.1.length:=by rw [← (h.sym a d' hac.1 hdc.1 q).2];exact hk
  have hy' : (m[d']'hdc.1).2.1[k]∈(m[d']'hdc.1).2.1:=List.getElem_mem hk2
  have rg:=args_rng wm hdc.1 hy'
  obtain ⟨d2,hd2⟩:=res_ex wm (a:=(m[d']'hdc.1).2.1[k].toNat) (by omega)
  refine ⟨d2,h.arg a d' hac.1 hdc.1 q k z _ (by rw [List.getElem?_eq_getElem hk,e]) (List.getElem?_eq_getElem hk2) b d2 hb hd2,(r.snoc ⟨hdc.1,?_⟩).trans (hd2.rc wm)⟩
  rw [hdc.down,Int.toNat_of_nonneg rg.1];exact hy'
theorem Unn.rc {l m:List Nd} {X Y:List Int} {Q:Nat→Nat→Prop} (h:Unn l m X Y Q) {j:Nat} {x y:Int} (hx:X[j]? = some x) (hy:Y[j]? = some y) {c0 d0:Nat} (q0:Q c0 d0):Rc l x.toNat c0 ↔ Rc m y.toNat d0:=by
 obtain ⟨r1,r2,r3⟩:=h.han j x y hx hy
 constructor
 ·exact bis_rc h.wl h.wm h.bis h.fn (by omega) (by omega) r3 q0
 ·exact bis_rc h.wm h.wl h.bis.swap (fun d c c' q q' => h.inj c c' d q q') (by omega) (by omega) (fun d c r1 r2=>r3 c d r2 r1) q0
theorem Unn.less {l m:List Nd} {X Y X' Y' : List Int} {Q:Nat→Nat→Prop} (h:Unn l m X Y Q) (hl:X'.length=Y'.length) (hh:∀ (j:Nat) (x y:Int),X'[j]? = some x→Y'[j]? = some y→∃ i:Nat,X[i]? = some x∧Y[i]? = some y):Unn l m X' Y' Q:=
 ⟨h.wl,h.wm,h.bis,h.fn,h.inj,hl,fun j x y hx hy=>by
  obtain ⟨i,h1,h2⟩:=hh j x y hx hy
  exact h.han i x y h1 h2⟩
theorem res_more {l:List Nd} {n:Nd} {z c:Nat} (hw:Wf l) (hz:z<l.length):Res (l ++ [n]) z c ↔ Res l z c:=by
 obtain ⟨b,hb⟩:=res_ex hw hz
 have up:∀ {z b},Res l z b→Res (l ++ [n]) z b:=by
  rintro z b ⟨⟨k,hk⟩,hb,hbp⟩
  have hi:∀ {k z b},Ind l k z b→Ind (l ++ [n]) k z b:=by
   intro k
   induction k with
   | zero=>intro z b h;exact h
   | succ k ih=>
    rintro z b ⟨h1,h2,h3⟩
    refine ⟨by simp;omega,by rw [List.getElem_append_left h1];exact h2,?_⟩
    rw [List.getElem_append_left h1]
    exact ih h3
  exact ⟨⟨k,hi hk⟩,by simp;omega,by rw [List.getElem_append_left hb];exact hbp⟩
 constructor
 ·intro h
  have:=Res.uniq h (up hb)
  subst this
  exact hb
 ·exact up
theorem Unn.make {l m:List Nd} {X Y:List Int} {Q:Nat→Nat→Prop} (h:Unn l m X Y Q) (s:Int) (hs:0≤s) {xs ys:List Int} (hl:xs.length=ys.length) (h6:xs.length≤6) (hh:∀ (j:Nat) (x y:Int),xs[j]? = some x→ys[j]? = some y→∃ i:Nat,X[i]? = some x∧Y[i]? = some y) :
  Unn (l ++ [(s,xs,0,false,0)]) (m ++ [(s,ys,0,false,0)]) (X ++ [(l.length:Int)]) (Y ++ [(m.length:Int)]) (fun c d=>Q c d∨(c=l.length∧d=m.length)):=by
 have xr:∀ z∈xs,0≤z∧z<(l.length:Int):=fun z hz=>by
  obtain ⟨k,hk,rfl⟩:=List.mem_iff_getElem.1 hz
  obtain ⟨i,h1,h2⟩:=hh k _ _ (List.getElem?_eq_getElem hk) (List.getElem?_eq_getElem (by omega))
  exact (h.han i _ _ h1 h2).1
 have yr:∀ z∈ys,0≤z∧z<(m.length:Int):=fun z hz=>by
  obtain ⟨k,hk,rfl⟩:=List.mem_iff_getElem.1 hz
  obtain ⟨i,h1,h2⟩:=hh k _ _ (List.getElem?_eq_getElem (by omega)) (List.getElem?_eq_getElem hk)
  exact (h.han i _ _ h1 h2).2.1
 have mk:∀ (l:List Nd) (xs:List Int),Wf l→(∀ z∈xs,0≤z∧z<(l.length:Int))→xs.length≤6→Wf (l ++ [(s,xs,0,false,0)]):=fun l xs wl xr h6=>by
  refine ⟨fun x hx=>?_,wl.2.make (inl_of_may wl.1) _ (fun z hz=>xr z (by simpa [downL] using hz))⟩
  rcases List.mem_append.1 hx with e | e
  ·exact may_more (wl.1 x e) (by simp)
  ·simp only [List.mem_singleton] at e
   subst e
   unfold mayB
   simp [hs,h6]
   intro z hz
   have:=xr z hz
   omega
 have wl' := mk l xs h.wl xr h6
 have wm' := mk m ys h.wm yr (by omega)
 have lt:∀ c d,Q c d→c<l.length∧d<m.length:=fun c d q=>⟨(h.bis.app c d q).1.1,(h.bis.app c d q).2.1⟩
 have nl:(l ++ [(s,xs,(0:Int),false,(0:Int))])[l.length]'(by simp)=(s,xs,0,false,0):=by simp
 have nm:(m ++ [(s,ys,(0:Int),false,(0:Int))])[m.length]'(by simp)=(s,ys,0,false,0):=by simp
 have sl:AppN (l ++ [(s,xs,(0:Int),false,(0:Int))]) l.length:=⟨by simp,by rw [nl]⟩
 have sm:AppN (m ++ [(s,ys,(0:Int),false,(0:Int))]) m.length:=⟨by simp,by rw [nm]⟩
 have old:∀ (x y:Int),(0≤x∧x<(l.length:Int))→(0≤y∧y<(m.length:Int))→(∀ c d,Res l x.toNat c→Res m y.toNat d→Q c d)→∀ c d,Res (l ++ [(s,xs,0,false,0)]) x.toNat c→Res (m ++ [(s,ys,0,false,0)]) y.toNat d→Q c d:=fun x y hx hy hq c d r1 r2=>hq c d ((res_more h.wl (by omega)).1 r1) ((res_more h.wm (by omega)).1 r2)
 refine ⟨wl', wm', ⟨fun c d q=>?_,fun c d hc hd q=>?_,fun c d hc hd q k z y hz hy c' d' r1 r2=>?_⟩,fun c d d' q q' => ?_,fun c c' d q q' => ?_,by simp [h.len],fun j x y hx hy=>?_⟩
 ·rcases q with q | ⟨rfl,rfl⟩
  ·obtain ⟨h1,h2⟩:=h.bis.app c d q
   exact ⟨⟨by have:=h1.1;simp;omega,by rw [List.getElem_append_left h1.1];exact h1.2⟩,by have:=h2.1;simp;omega,by rw [List.getElem_append_left h2.1];exact h2.2⟩
  ·exact ⟨sl,sm⟩
 ·rcases q with q | ⟨rfl,rfl⟩
  ·obtain ⟨h1,h2⟩:=lt c d q
   rw [List.getElem_append_left h1,List.getElem_append_left h2]
   exact h.bis.sym c d h1 h2 q
  ·rw [nl,nm]
   exact ⟨rfl,hl⟩
 ·rcases q with q | ⟨rfl,rfl⟩
  ·obtain ⟨h1,h2⟩:=lt c d q
   rw [List.getElem_append_left h1] at hz
   rw [List.getElem_append_left h2] at hy
   exact .inl (old z y (args_rng h.wl h1 (List.mem_of_getElem? hz)) (args_rng h.wm h2 (List.mem_of_getElem? hy)) (fun c' d' => h.bis.arg c d h1 h2 q k z y hz hy c' d') c' d' r1 r2)
  ·rw [nl] at hz
   rw [nm] at hy
   obtain ⟨i,h1,h2⟩:=hh k z y hz hy
   obtain ⟨a1,a2,a3⟩:=h.han i z y h1 h2
   exact .inl (old z y a1 a2 a3 c' d' r1 r2)
 ·rcases q with q | ⟨rfl,rfl⟩ <;> rcases q' with q' | ⟨e,rfl⟩
  ·exact h.fn c d d' q q'
  ·have:=(lt c d q).1;omega
  ·have:=(lt _ _ q').1;omega
  ·rfl
 ·rcases q with q | ⟨rfl,rfl⟩ <;> rcases q' with q' | ⟨rfl,e⟩
  ·exact h.inj c c' d q q'
  ·have:=(lt c d q).2;omega
  ·have:=(lt _ _ q').2;omega
  ·rfl
 ·by_cases e:j<X.length
  ·rw [List.getElem?_append_left e] at hx
   rw [List.getElem?_append_left (by rw [← h.len];exact e)] at hy
   obtain ⟨a1,a2,a3⟩:=h.han j x y hx hy
   refine ⟨by simp;omega,by simp;omega,fun c d r1 r2=>.inl (old x y a1 a2 a3 c d r1 r2)⟩
  ·have hj:j=X.length:=by have:=(List.getElem?_eq_some_iff.1 hx).1;simp at this;omega
   subst hj
   rw [List.getElem?_append_right (Nat.le_refl _),Nat.sub_self] at hx
   rw [List.getElem?_append_right (by rw [h.len];exact Nat.le_refl _),← h.len,Nat.sub_self] at hy
   simp at hx hy
   subst hx hy
   refine ⟨by simp;omega,by simp;omega,fun c d r1 r2=>.inr ⟨?_,?_⟩⟩
   ·exact Res.uniq (by simpa using r1) sl.res
   ·exact Res.uniq (by simpa using r2) sm.res
theorem res_point {l:List Nd} (hw:Wf l) {c t:Nat} (hc:AppN l c) (ht:t<l.length) (hn:¬ Rc l t c) {z b:Nat} (hz:Res l z b):(b≠c→Res (l.set c (indN t)) z b)∧(b=c→∀ e,Res l t e→Res (l.set c (indN t)) z e):=by
 have ind:∀ {k z b},Ind l k z b→Ind (l.set c (indN t)) k z b:=by
  intro k
  induction k with
  | zero=>intro z b h;exact h
  | succ k ih=>
   rintro z b ⟨h1,h2,h3⟩
   have hne:c≠z:=fun e=>by subst e;rw [hc.2] at h2;cases h2
   refine ⟨by simpa using h1,by rw [List.getElem_set_ne hne];exact h2,?_⟩
   rw [List.getElem_set_ne hne]
   exact ih h3
 have indcat:∀ {k z b k2 e},Ind (l.set c (indN t)) k z b→Ind (l.set c (indN t)) k2 b e→Ind (l.set c (indN t)) (k+k2) z e:=by
  intro k
  induction k with
  | zero=>intro z b k2 e h h2;cases h;simpa using h2
  | succ k ih=>
   rintro z b k2 e ⟨h1,h2,h3⟩ h4
   rw [show k+1+k2=(k+k2)+1 by omega]
   exact ⟨h1,h2,ih h3 h4⟩
 obtain ⟨⟨k,hk⟩,hb1,hb2⟩:=hz
 refine ⟨fun hne=>⟨⟨k,ind hk⟩,by simpa using hb1,by rw [List.getElem_set_ne (Ne.symm hne)];exact hb2⟩,fun e=>?_⟩
 subst e
 rintro e ⟨⟨k2,hk2⟩,he1,he2⟩
 have hne:e≠b:=fun q=>hn (by subst q;exact hk2.rc hw)
 have step:Ind (l.set b (indN t)) (k2+1) b e:=by
  refine ⟨by simpa using hb1,by rw [List.getElem_set_self],?_⟩
  rw [List.getElem_set_self]
  simpa using ind hk2
 exact ⟨⟨_,indcat (ind hk) step⟩,by simpa using he1,by rw [List.getElem_set_ne (Ne.symm hne)];exact he2⟩
theorem Unn.point {l m:List Nd} {X Y:List Int} {Q:Nat→Nat→Prop} (h:Unn l m X Y Q) {c d:Nat} (q0:Q c d) {j:Nat} {x y:Int} (hx:X[j]? = some x) (hy:Y[j]? = some y) (hn:¬ Rc l x.toNat c) (wl' : Wf (l.set c (indN x.toNat))) (wm' : Wf (m.set d (indN y.toNat))) :
  Unn (l.set c (indN x.toNat)) (m.set d (indN y.toNat)) X Y (fun c' d' => Q c' d' ∧ c' ≠ c):=by
 obtain ⟨r1,r2,r3⟩:=h.han j x y hx hy
 have hn2:¬ Rc m y.toNat d:=fun q=>hn ((h.rc hx hy q0).2 q)
 obtain ⟨hac,had⟩:=h.bis.app c d q0
 obtain ⟨c2,hc2⟩:=res_ex h.wl (a:=x.toNat) (by omega)
 obtain ⟨d2,hd2⟩:=res_ex h.wm (a:=y.toNat) (by omega)
 have q2:=r3 c2 d2 hc2 hd2
 have nc2:c2≠c:=fun e=>hn (by subst e;exact hc2.rc h.wl)
 have nd:∀ c' d', Q c' d' → c' ≠ c→d' ≠ d:=fun c' d' q e e2=>e (by subst e2;exact h.inj c' c d' q q0)
 -- what goes together goes together still
 have old:∀ (a b:Int),(0≤a∧a<(l.length:Int))→(0≤b∧b<(m.length:Int))→(∀ e f,Res l a.toNat e→Res m b.toNat f→Q e f)→∀ e f,Res (l.set c (indN x.toNat)) a.toNat e→Res (m.set d (indN y.toNat)) b.toNat f→Q e f∧e≠c:=fun a b ha hb hq e f s1 s2=>by
  obtain ⟨e0,he0⟩:=res_ex h.wl (a:=a.toNat) (by omega)
  obtain ⟨f0,hf0⟩:=res_ex h.wm (a:=b.toNat) (by omega)
  have q:=hq e0 f0 he0 hf0
  have p1:=res_point h.wl hac (by omega) hn he0
  have p2:=res_point h.wm had (by omega) hn2 hf0
  by_cases ec:e0=c
  ·have ef:f0=d:=by subst ec;exact h.fn e0 f0 d q q0
   have t1:=Res.uniq s1 (p1.2 ec c2 hc2)
   have t2:=Res.uniq s2 (p2.2 ef d2 hd2)
   subst t1 t2
   exact ⟨q2,nc2⟩
  ·have t1:=Res.uniq s1 (p1.1 ec)
   have t2:=Res.uniq s2 (p2.1 (nd e0 f0 q ec))
   subst t1 t2
   exact ⟨q,ec⟩
 have gl:∀ c' (hc' : c' < l.length),c' ≠ c→(l.set c (indN x.toNat))[c']'(by simpa using hc')=l[c']:=fun c' hc' e=>List.getElem_set_ne (Ne.symm e) _
 have gm:∀ d' (hd' : d' < m.length),d' ≠ d→(m.set d (indN y.toNat))[d']'(by simpa using hd')=m[d']:=fun d' hd' e=>List.getElem_set_ne (Ne.symm e) _
 refine ⟨wl', wm', ⟨fun c' d' q=>?_,fun c' d' hc' hd' q=>?_,fun c' d' hc' hd' q k z w hz hw e f s1 s2=>?_⟩,fun a b b' q q' => h.fn a b b' q.1 q'.1,fun a a' b q q' => h.inj a a' b q.1 q'.1,h.len,fun i a b ha hb=>?_⟩
 ·obtain ⟨h1,h2⟩:=h.bis.app c' d' q.1
  exact ⟨⟨by simpa using h1.1,by rw [gl c' h1.1 q.2];exact h1.2⟩,by simpa using h2.1,by rw [gm d' h2.1 (nd c' d' q.1 q.2)];exact h2.2⟩
 ·have h1:c' < l.length:=by simpa using hc'
  have h2:d' < m.length:=by simpa using hd'
  rw [gl c' h1 q.2,gm d' h2 (nd c' d' q.1 q.2)]
  exact h.bis.sym c' d' h1 h2 q.1
 ·have h1:c' < l.length:=by simpa using hc'
  have h2:d' < m.length:=by simpa using hd'
  rw [gl c' h1 q.2] at hz
  rw [gm d' h2 (nd c' d' q.1 q.2)] at hw
  exact old z w (args_rng h.wl h1 (List.mem_of_getElem? hz)) (args_rng h.wm h2 (List.mem_of_getElem? hw)) (fun e f=>h.bis.arg c' d' h1 h2 q.1 k z w hz hw e f) e f s1 s2
 ·obtain ⟨a1,a2,a3⟩:=h.han i a b ha hb
  exact ⟨by simpa using a1,by simpa using a2,fun e f s1 s2=>old a b a1 a2 a3 e f s1 s2⟩
theorem Unn.coll {l m:List Nd} {X Y:List Int} {Q:Nat→Nat→Prop} (h:Unn l m X Y Q) {L:List Nat} {l' : List Nd} {X' : List Int} (hk:KL l X L) (hs:Sld l L l') (hr:Rts l L X X'):Unn l' m X' Y (fun i d=>∃ c,L[i]? = some c∧Q c d):=by
 obtain ⟨wf', app⟩:=hs.wf h.wl hk
 have lt:∀ {i c:Nat},L[i]? = some c→i<l'.length:=fun q=>by rw [hs.1];exact (List.getElem?_eq_some_iff.1 q).1
 have one:∀ {i e:Nat},i<l'.length→Res l' i e→e=i:=fun hi r=>Res.uniq r (Res.self hi (app _ hi))
 refine ⟨wf', h.wm,⟨?_,?_,?_⟩,?_,?_,by rw [hr.1];exact h.len,fun j x y hx hy=>?_⟩
 ·rintro i d ⟨c,hc,q⟩
  exact ⟨⟨lt hc,app _ (lt hc)⟩,(h.bis.app c d q).2⟩
 ·rintro i d hi hd ⟨c,hc,q⟩
  obtain ⟨h1,h2,a1,a2,a3⟩:=hs.2 i c hc
  have:=h.bis.sym c d h1 hd q
  exact ⟨a1.trans this.1,a2.1.trans this.2⟩
 ·rintro i d hi hd ⟨c,hc,q⟩ k z y hz hy e f r1 r2
  obtain ⟨h1,h2,a1,a2,a3⟩:=hs.2 i c hc
  have hkl:k<l[c].2.1.length:=by rw [← a2.1];exact (List.getElem?_eq_some_iff.1 hz).1
  obtain ⟨b,i', _,m1,m2,rfl⟩:=a2.2 k _ z (List.getElem?_eq_getElem hkl) hz
  have e1:=one (lt m2) (by simpa using r1)
  subst e1
  exact ⟨b,m2,h.bis.arg c d h1 hd q k _ y (List.getElem?_eq_getElem hkl) hy b f m1 r2⟩
 ·rintro i d d' ⟨c,hc,q⟩ ⟨c', hc', q'⟩
  rw [hc] at hc'
  cases hc'
  exact h.fn c d d' q q'
 ·rintro i i' d ⟨c,hc,q⟩ ⟨c', hc', q'⟩
  have e:=h.inj c c' d q q'
  subst e
  exact rise_ne hk.1 hc hc'
 ·have hj:j<X.length:=by rw [← hr.1];exact (List.getElem?_eq_some_iff.1 hx).1
  obtain ⟨b,i,_,m1,m2,rfl⟩:=hr.2 j _ x (List.getElem?_eq_getElem hj) hx
  obtain ⟨a1,a2,a3⟩:=h.han j _ y (List.getElem?_eq_getElem hj) hy
  have hi:=lt m2
  refine ⟨by omega,a2,fun c d r1 r2=>?_⟩
  have e1:=one hi (by simpa using r1)
  subst e1
  exact ⟨b,m2,a3 b d m1 r2⟩
theorem Unn.alike {l m:List Nd} {X Y:List Int} {Q:Nat→Nat→Prop} (h:Unn l m X Y Q) {j:Nat} {x y:Int} (hx:X[j]? = some x) (hy:Y[j]? = some y):x.toNat<l.length∧y.toNat<m.length∧∀ c d,Res l x.toNat c→Res m y.toNat d→Q c d:=by
 obtain ⟨a1,a2,a3⟩:=h.han j x y hx hy
 exact ⟨by omega,by omega,a3⟩
end Go.Proofs.Ytmloedlkoijfbaa
namespace Go.Proofs.Ytmloedlkoijfbaa
set_option maxRecDepth 100000
set_option linter.unusedVariables false
open Go.RowKit
attribute [local go_sem ↓] Go.wp_at_zero Go.wp_at_succ
def LvA (l:List Nd) (R:List Int) (L:List Nat) (E:Int):Prop:=(¬ (∀ r∈R,0≤r∧r<(l.length:Int))∧L=[]∧E=120)∨((∀ r∈R,0≤r∧r<(l.length:Int))∧KL l R L∧E=0)
theorem LvA.uniq {l:List Nd} {R:List Int} {L L' : List Nat} {E E' : Int} (h:LvA l R L E) (h' : LvA l R L' E'):L=L' ∧ E=E' := by
 rcases h with ⟨a,rfl,rfl⟩ | ⟨a,b,rfl⟩ <;> rcases h' with ⟨a', rfl,rfl⟩ | ⟨a', b', rfl⟩
 ·exact ⟨rfl,rfl⟩
 ·exact absurd a' a
 ·exact absurd a a'
 ·exact ⟨b.uniq b', rfl⟩
theorem LvA.len {l:List Nd} {R:List Int} {L:List Nat} {E:Int} (h:LvA l R L E):L.length≤l.length:=by
 rcases h with ⟨a,rfl,rfl⟩ | ⟨a,b,rfl⟩
 ·simp
 ·have h1:L.Sublist (List.range l.length):=by
   have:L=(List.range l.length).filter (fun a=>decide (a∈L)):=by
    apply rise_uniq b.1 (List.Pairwise.filter _ List.pairwise_lt_range)
    intro a
    simp only [List.mem_filter,List.mem_range,decide_eq_true_eq]
    exact ⟨fun q=>⟨((b.2 a).1 q).1.1,q⟩,fun q=>q.2⟩
   rw [this]
   exact List.filter_sublist
  simpa using h1.length_le
def SldK (l:List Nd) (L:List Nat) (k:Nat) (ls:List Nd):Prop:=ls.length=k∧∀ (j a:Nat),j<k→L[j]? = some a→∃ (h:a<l.length) (h' : j<ls.length),ls[j].1=l[a].1∧Rts l L l[a].2.1 ls[j].2.1∧ls[j].2.2=l[a].2.2
theorem SldK.nil (l:List Nd) (L:List Nat):SldK l L 0 []:=⟨rfl,fun j a h=>absurd h (Nat.not_lt_zero _)⟩
theorem SldK.snoc {l:List Nd} {L:List Nat} {k a:Nat} {ls:List Nd} (h:SldK l L k ls) (ha:L[k]? = some a) (hl:a<l.length) {S:List Int} (hS:Rts l L l[a].2.1 S):SldK l L (k+1) (ls ++ [(l[a].1,S,l[a].2.2)]):=by
 refine ⟨by simp [h.1],fun j b hj hb=>?_⟩
 by_cases e:j<k
 ·obtain ⟨h1,h2,h3⟩:=h.2 j b e hb
  exact ⟨h1,by simp;omega,by rw [List.getElem_append_left h2];exact h3⟩
 ·obtain rfl:j=k:=by omega
  rw [ha] at hb
  cases hb
  have hlen:=h.1
  refine ⟨hl,by simp;omega,?_⟩
  have e1:(ls ++ [(l[a].1,S,l[a].2.2)])[j]'(by simp;omega)=(l[a].1,S,l[a].2.2):=by
   rw [List.getElem_append_right (by omega)]
   simp [hlen]
  rw [e1]
  exact ⟨rfl,hS,rfl⟩
theorem SldK.all {l:List Nd} {L:List Nat} {ls:List Nd} (h:SldK l L L.length ls):Sld l L ls:=⟨h.1,fun k a ha=>h.2 k a (List.getElem?_eq_some_iff.1 ha).1 ha⟩
theorem Rts.nil (l:List Nd) (L:List Nat):Rts l L [] []:=⟨rfl,fun j z y h=>by simp at h⟩
theorem Rts.snoc {l:List Nd} {L:List Nat} {R S:List Int} (h:Rts l L R S) {z y:Int} (hm:Mv l L z y):Rts l L (R ++ [z]) (S ++ [y]):=by
 refine ⟨by simp [h.1],fun j a b ha hb=>?_⟩
 have hl:=h.1
 by_cases e:j<R.length
 ·rw [List.getElem?_append_left e] at ha
  rw [List.getElem?_append_left (by omega)] at hb
  exact h.2 j a b ha hb
 ·have hj:j=R.length:=by have:=(List.getElem?_eq_some_iff.1 ha).1;simp at this;omega
  subst hj
  rw [List.getElem?_append_right (Nat.le_refl _),Nat.sub_self] at ha
  rw [List.getElem?_append_right (by omega),hl,Nat.sub_self] at hb
  simp at ha hb
  subst ha hb
  exact hm
theorem KL.at {l:List Nd} {R:List Int} {L:List Nat} (h:KL l R L) {b:Nat} (hb:Kpt l R b):∃ i:Nat,L[i]? = some b:=by
 obtain ⟨i,hi,e⟩:=List.mem_iff_getElem.1 ((h.2 b).2 hb)
 exact ⟨i,by rw [List.getElem?_eq_getElem hi,e]⟩
def CoA (l:List Nd) (R R' : List Int) (wn E:Int) (l' : List Nd):Prop:=(¬ (∀ r∈R,0≤r∧r<(l.length:Int))∧R' = []∧wn=0∧E=120∧l' = l)∨((∀ r∈R,0≤r∧r<(l.length:Int))∧∃ L,KL l R L∧Sld l L l' ∧ Rts l L R R' ∧ wn=(l.length:Int)-(L.length:Int)∧E=0)
theorem CoA.uniq {l:List Nd} {R R' R'' : List Int} {wn wn' E E' : Int} {l' l'' : List Nd} (h:CoA l R R' wn E l') (h' : CoA l R R'' wn' E' l''):R' = R'' ∧ wn=wn' ∧ E=E' ∧ l' = l'' := by
 rcases h with ⟨a,rfl,rfl,rfl,rfl⟩ | ⟨a,L,b1,b2,b3,rfl,rfl⟩ <;> rcases h' with ⟨a', rfl,rfl,rfl,rfl⟩ | ⟨a', L', c1,c2,c3,rfl,rfl⟩
 ·exact ⟨rfl,rfl,rfl,rfl⟩
 ·exact absurd a' a
 ·exact absurd a a'
 ·have e:=b1.uniq c1
  subst e
  exact ⟨b3.uniq b1 c3,rfl,rfl,b2.uniq b1 c2⟩
theorem CoA.len {l:List Nd} {R R' : List Int} {wn E:Int} {l' : List Nd} (h:CoA l R R' wn E l'):R'.length≤R.length:=by
 rcases h with ⟨a,rfl,rfl,rfl,rfl⟩ | ⟨a,L,b1,b2,b3,rfl,rfl⟩
 ·simp
 ·rw [b3.1];exact Nat.le_refl _
theorem HpB.noth {B:Nat→Prop} {w:World} {h g room:Nat} {l:List Nd} (p:HpB B w h g room l):NotI w h:=fun cur hc=>by rw [p.box] at hc;cases hc
structure TwoH (N:Nat) (w wr:World) (h g r:Nat) (v:Value) (l:List Nd):Prop where
 hp:Hp wr h g 4000 l
 rh:RhB (fun _=>True) wr r 4000 v l
 kept:Same0 w wr
 own:∀ k,v.ownBlock=some k→N≤k∧k≠g∧k≠h∧k≠r
 lh:N≤h
 lg:N≤g
 lr:N≤r
 ne:r≠h∧r≠g
end Go.Proofs.Ytmloedlkoijfbaa
namespace Go.Proofs.Ytmloedlkoijfbaa
set_option maxRecDepth 100000
set_option linter.unusedVariables false
open Go.RowKit
abbrev Off (vx vy:Value) (b:Nat):Prop:=vx.ownBlock≠some b∧vy.ownBlock≠some b
structure UnM (w wr:World) (h g p q:Nat) (vx vy:Value) (l m:List Nd) (X Y:List Int):Prop where
 hl:HpB (Off vx vy) wr h g 2000 l
 hm:HpB (Off vx vy) wr p q 2000 m
 rx:Row w.heap.size wr vx X
 ry:Row w.heap.size wr vy Y
 ap:∀ k,vx.ownBlock=some k→vy.ownBlock≠some k
 kept:Same0 w wr
 lh:w.heap.size≤h∧w.heap.size≤g∧w.heap.size≤p∧w.heap.size≤q
 ne:h≠p∧h≠q∧g≠p∧g≠q
section
variable {w wr w' : World} {h g p q : Nat} {vx vy : Value} {l m : List Nd} {X Y : List Int}
theorem UnM.same (s:UnM w wr h g p q vx vy l m X Y) (hk:Same0 wr w'):UnM w w' h g p q vx vy l m X Y:=
 ⟨s.hl.same hk,s.hm.same hk,hk.row s.rx (fun _ _ f=>f),hk.row s.ry (fun _ _ f=>f),s.ap,s.kept.trans' hk,s.lh,s.ne⟩
theorem row_noti {base:Nat} {v:Value} {xs:List Int} (r:Row base wr v xs) {k:Nat} (n:NotI wr k):v.ownBlock≠some k:=fun e=>by
 obtain ⟨e1,h0⟩ | ⟨b,cap,cur,e1,h0⟩:=r.2
 ·subst e1;simp [Value.ownBlock] at e
 ·subst e1
  simp only [Value.ownBlock,Option.some.injEq] at e
  subst e
  exact n _ h0.2.1
theorem UnM.off (s:UnM w wr h g p q vx vy l m X Y):Off vx vy h∧Off vx vy g∧Off vx vy p∧Off vx vy q:=
 ⟨⟨row_noti s.rx s.hl.noth,row_noti s.ry s.hl.noth⟩,⟨row_noti s.rx s.hl.notg,row_noti s.ry s.hl.notg⟩,⟨row_noti s.rx s.hm.noth,row_noti s.ry s.hm.noth⟩,⟨row_noti s.rx s.hm.notg,row_noti s.ry s.hm.notg⟩⟩
theorem UnM.lt (s:UnM w wr h g p q vx vy l m X Y) {k:Nat} (hk:wr.heap.size≤k):Off vx vy k:=
 ⟨fun e=>by have:=(s.rx.lt k e).2;omega,fun e=>by have:=(s.ry.lt k e).2;omega⟩
theorem UnM.one (s:UnM w wr h g p q vx vy l m X Y) {l' : List Nd} (hp:HpB (fun b=>Off vx vy b∨wr.heap.size≤b) w' h g 2000 l') (hk:Kept (fun k=>k=h∨k=g) wr w'):UnM w w' h g p q vx vy l' m X Y:=by
 obtain ⟨o1,o2,o3,o4⟩:=s.off
 obtain ⟨n1,n2,n3,n4⟩:=s.ne
 obtain ⟨a1,a2,a3,a4⟩:=s.lh
 refine ⟨hp.mono (fun k _ _ hb=>hb.elim id s.lt),s.hm.kept hk (by omega) (by omega) (fun k _ e=>by rcases e with rfl | rfl;exact s.hl.noth;exact s.hl.notg),hk.row s.rx (fun k e f=>by rcases f with rfl | rfl;exact o1.1 e;exact o2.1 e),hk.row s.ry (fun k e f=>by rcases f with rfl | rfl;exact o1.2 e;exact o2.2 e),s.ap,s.kept.trans hk (fun i hi e=>by omega),s.lh,s.ne⟩
theorem UnM.two (s:UnM w wr h g p q vx vy l m X Y) {m' : List Nd} (hp:HpB (fun b=>Off vx vy b∨wr.heap.size≤b) w' p q 2000 m') (hk:Kept (fun k=>k=p∨k=q) wr w'):UnM w w' h g p q vx vy l m' X Y:=by
 obtain ⟨o1,o2,o3,o4⟩:=s.off
 obtain ⟨n1,n2,n3,n4⟩:=s.ne
 obtain ⟨a1,a2,a3,a4⟩:=s.lh
 refine ⟨s.hl.kept hk (by omega) (by omega) (fun k _ e=>by rcases e with rfl | rfl;exact s.hm.noth;exact s.hm.notg),hp.mono (fun k _ _ hb=>hb.elim id s.lt),hk.row s.rx (fun k e f=>by rcases f with rfl | rfl;exact o3.1 e;exact o4.1 e),hk.row s.ry (fun k e f=>by rcases f with rfl | rfl;exact o3.2 e;exact o4.2 e),s.ap,s.kept.trans hk (fun i hi e=>by omega),s.lh,s.ne⟩
theorem UnM.setx (s:UnM w wr h g p q vx vy l m X Y) {v' : Value} {X' : List Int} (hk:Kept (fun k=>vx.ownBlock=some k) wr w') (r:Row w.heap.size w' v' X') (ho:∀ k,v'.ownBlock=some k→vx.ownBlock=some k∨wr.heap.size≤k):UnM w w' h g p q v' vy l m X' Y:=by
 obtain ⟨o1,o2,o3,o4⟩:=s.off
 have hB:∀ k,k<wr.heap.size→Off vx vy k→Off v' vy k:=fun k lt o=>⟨fun e=>by rcases ho k e with e1 | e1;exact o.1 e1;omega,o.2⟩
 have mv:∀ {a b:Nat} {n:List Nd},HpB (Off vx vy) wr a b 2000 n→Off vx vy a→Off vx vy b→HpB (Off v' vy) w' a b 2000 n:=fun P oa ob=>
  ((P.mono (B' := fun k=>Off vx vy k∧Off v' vy k) (fun k lt _ o=>⟨o,hB k lt o⟩)).kept hk (fun e=>oa.1 e) (fun e=>ob.1 e) (fun k o e=>absurd e o.1.1)).mono (fun k _ _ o=>o.2)
 exact ⟨mv s.hl o1 o2,mv s.hm o3 o4,r,hk.row s.ry (fun k e f=>s.ap k f e),fun k e=>by
  rcases ho k e with e1 | e1
  ·exact s.ap k e1
  ·exact (s.lt e1).2,s.kept.onto s.rx hk,s.lh,s.ne⟩
theorem UnM.sety (s:UnM w wr h g p q vx vy l m X Y) {v' : Value} {Y' : List Int} (hk:Kept (fun k=>vy.ownBlock=some k) wr w') (r:Row w.heap.size w' v' Y') (ho:∀ k,v'.ownBlock=some k→vy.ownBlock=some k∨wr.heap.size≤k):UnM w w' h g p q vx v' l m X Y' := by
 obtain ⟨o1,o2,o3,o4⟩:=s.off
 have hB:∀ k,k<wr.heap.size→Off vx vy k→Off vx v' k:=fun k lt o=>⟨o.1,fun e=>by rcases ho k e with e1 | e1;exact o.2 e1;omega⟩
 have mv:∀ {a b:Nat} {n:List Nd},HpB (Off vx vy) wr a b 2000 n→Off vx vy a→Off vx vy b→HpB (Off vx v') w' a b 2000 n:=fun P oa ob=>
  ((P.mono (B' := fun k=>Off vx vy k∧Off vx v' k) (fun k lt _ o=>⟨o,hB k lt o⟩)).kept hk (fun e=>oa.2 e) (fun e=>ob.2 e) (fun k o e=>absurd e o.1.2)).mono (fun k _ _ o=>o.2)
 exact ⟨mv s.hl o1 o2,mv s.hm o3 o4,hk.row s.rx (fun k e f=>s.ap k e f),r,fun k e e2=>by
  rcases ho k e2 with e1 | e1
  ·exact s.ap k e e1
  ·exact (s.lt e1).1 e,s.kept.onto s.ry hk,s.lh,s.ne⟩
theorem UnM.coll (s:UnM w wr h g p q vx vy l m X Y) {v' : Value} {X' : List Int} {l' : List Nd} (hk:Kept (fun k=>k=h∨k=g) wr w') (r:Row wr.heap.size w' v' X') (hp:HpB (fun b=>wr.heap.size≤b∧v'.ownBlock≠some b) w' h g 2000 l'):UnM w w' h g p q v' vy l' m X' Y:=by
 obtain ⟨o1,o2,o3,o4⟩:=s.off
 obtain ⟨n1,n2,n3,n4⟩:=s.ne
 obtain ⟨a1,a2,a3,a4⟩:=s.lh
 have sz:=s.kept.size
 refine ⟨hp.mono (fun k _ _ o=>⟨o.2,(s.lt o.1).2⟩),((s.hm.mono (B' := fun k=>Off v' vy k) (fun k lt _ o=>⟨fun e=>by have:=(r.lt k e).1;omega,o.2⟩)).kept hk (by omega) (by omega) (fun k _ e=>by rcases e with rfl | rfl;exact s.hl.noth;exact s.hl.notg)),row_mono r sz,hk.row s.ry (fun k e f=>by rcases f with rfl | rfl;exact o1.2 e;exact o2.2 e),fun k e=>(s.lt (r.lt k e).1).2,s.kept.trans hk (fun i hi e=>by omega),s.lh,s.ne⟩
theorem row_num {base:Nat} {v:Value} {xs:List Int} (r:Row base wr v xs) {j:Nat} (hj:j<xs.length):∃ b c,v=.slice (some ⟨b,0,none⟩) xs.length c∧wr.cell? ⟨b,j,none⟩=some (.int .i64 xs[j]):=by
 obtain ⟨e1,h0⟩ | ⟨b,cap,cur,e1,h0⟩:=r.2
 ·omega
 ·subst e1
  exact ⟨b,cap,rfl,(row_at r hj).1⟩
theorem UnM.get (s:UnM w wr h g p q vx vy l m X Y) (hl:X.length=Y.length) {j:Nat} (hj:j<X.length):∃ gx cx gy cy,vx=.slice (some ⟨gx,0,none⟩) X.length cx∧vy=.slice (some ⟨gy,0,none⟩) X.length cy∧wr.cell? ⟨gx,j,none⟩=some (.int .i64 X[j])∧wr.cell? ⟨gy,j,none⟩=some (.int .i64 (Y[j]'(by omega))):=by
 obtain ⟨gx,cx,e1,c1⟩:=row_num s.rx hj
 obtain ⟨gy,cy,e2,c2⟩:=row_num s.ry (j:=j) (by omega)
 exact ⟨gx,cx,gy,cy,e1,by rw [e2,hl],c1,c2⟩
end
theorem append_types {P:Program} {w:World} {t t2 ty e e2:TypeId} {i:TypeInfo} (ht:P.underlying t=some (.slice e)) (ht2:P.underlying t2=some (.slice e2)) (hi:P.info? e=some i) (b:Option Addr) (n c:Nat) (x:Value):(Builtin.append_ #[t,t2] ty #[.slice b n c,x]).run P w=(Builtin.append_ #[t,t] ty #[.slice b n c,x]).run P w:=by
 simp [Builtin.append_,run_underlying ht,run_underlying ht2,sizeOf,typeInfo,hi]
theorem step_ints {w0:World} {ops:Array Oper} {o:Oper} {a:Act} {K:Act→World→Prop} {Q:Exit→Act→World→Prop} {E:Prop} (hgd:o.guard=none) (s x:Operand) (t t2:TypeId)
  (ho:o.op=.call { callee:=.builtin .append,args:=#[s,x],argTypes:=#[t,t2] }) (ht:Try.prog.underlying t=some (.slice 3)) (ht2:Try.prog.underlying t2=some (.slice 3))
  (base:Nat) (xs:List Int) (v:Value) (hs:a.eval s=v) (hr:Row base w0 v xs) (ys:List Int) (ao:Option Addr) (m c:Nat) (hx:a.eval x=.slice ao m c) (hm:m=ys.length) (hy:IntsAt w0 ao ys) (hnil:ao=none→ys.length=0∧c=0) (hb:base≤w0.heap.size) (hsz:(xs.length+ys.length) * 8≤140737488355328)
  (h:∀ uo uc w', Row base w' (.slice uo (xs.length+ys.length) uc) (xs++ys)→Kept (fun k=>v.ownBlock=some k) w0 w' → K (a.put o.dst (.slice uo (xs.length+ys.length) uc)) w') :
  if Region.wanted o (yielded ops a.tmps)=true then Oper.wp Try.prog o a w0 K Q else E:=by
 obtain ⟨vo,vc,rfl⟩:=row_shape hr
 have hw:Region.wanted o (yielded ops a.tmps)=true:=by simp [Region.wanted,hgd]
 rw [if_pos hw]
 subst hm
 obtain ⟨i,hi,hz0,hz1,hz2⟩:=info_parts info_intT
 cases ao with
 | none=>
  obtain ⟨h1,rfl⟩:=hnil rfl
  have:ys=[]:=List.eq_nil_of_length_eq_zero h1
  subst this
  have hrun:=run_append_owned_none (P:=Try.prog) (w:=w0) base t o.type 3 i 1 ht hi _ xs.length (iv xs) hr
  rw [← append_types ht ht2 hi] at hrun
  exact Lib.wp_append_run w0 s x t t2 ho _ _ hs hx _ _ hrun (h _ _ w0 (by simpa using hr) (Kept.refl _ _))
 | some ad=>
  obtain ⟨v', w', hrun,hown,hgrow,_⟩:=run_append_own (P:=Try.prog) w0 base t o.type 3 i (.int .i64 0) 1 8 ht hi hz0 hz1 hz2 rfl (by decide) _ xs.length (iv xs) hr ad ys.length c (iv ys) (by rw [iv_length];omega) (fun j u hj=>by
   obtain ⟨ad', e,hc⟩:=hy.src (by have:=(List.getElem?_eq_some_iff.1 hj).1;omega)
   cases e
   exact hc j u hj) (iv_oneCell ys) (by unfold maxLen;omega) hsz hb
  rw [← append_types ht ht2 hi] at hrun
  obtain ⟨uo,uc,rfl⟩:=row_shape hown
  refine Lib.wp_append_run w0 s x t t2 ho _ _ hs hx _ _ hrun (h uo uc w' ?_ (Kept.grown (Kept.refl _ w0) hgrow (fun _ e _=>e)))
  unfold Row;rw [iv_append,List.length_append];exact hown
end Go.Proofs.Ytmloedlkoijfbaa
namespace Go.Proofs.Ytmloedlkoijfbaa
set_option maxRecDepth 100000
set_option linter.unusedVariables false
open Go.RowKit
attribute [local go_sem ↓] Go.wp_at_zero Go.wp_at_succ
def UnS (w wr:World) (h g p q:Nat) (vx vy:Value) (k:Nat):Prop:=∃ (l m:List Nd) (X Y:List Int) (Q:Nat→Nat→Prop),UnM w wr h g p q vx vy l m X Y∧Unn l m X Y Q∧l.length≤k∧m.length≤k∧X.length≤k
theorem rise_len' {N:Nat}:∀ {L:List Nat} (lo:Nat),L.Pairwise (· < ·)→(∀ a∈L,lo≤a∧a<N)→lo≤N→L.length+lo≤N
 | [],lo,_,_,h=>by simpa using h
 | a :: t,lo,hp,hb,h=>by
  have h1:=hb a (by simp)
  have hp' := List.pairwise_cons.1 hp
  have:=rise_len' (L:=t) (a+1) hp'.2 (fun b hb' => ⟨hp'.1 b hb', (hb b (by simp [hb'])).2⟩) (by omega)
  simp only [List.length_cons]
  omega
theorem KL.le {l:List Nd} {R:List Int} {L:List Nat} (h:KL l R L):L.length≤l.length:=by
 have:=rise_len' (N:=l.length) 0 h.1 (fun a ha=>⟨Nat.zero_le _,((h.2 a).1 ha).1.1⟩) (Nat.zero_le _)
 omega
def UnB (w:World) (bx:Nat) (x:Raw4) (h g p q:Nat) (vx vy:Value) (X Y:List Int) (ww:World) (l m:List Nd):Prop:=UnM w ww h g p q vx vy l m X Y∧ww.heap[bx]? = some (.cells #[.int .i64 x.1,.int .i64 x.2.1,.int .i64 x.2.2.1,.int .i64 x.2.2.2] 56 (0,0))
theorem pairs_snoc {X Y P R:List Int} {j:Nat} (hP:P.length=j) (hR:R.length=j) (h:∀ (i:Nat) (x y:Int),P[i]? = some x→R[i]? = some y→∃ i' : Nat,X[i']? = some x∧Y[i']? = some y) {t:Nat} {zx zy:Int} (ex:X[t]? = some zx) (ey:Y[t]? = some zy) :
  ∀ (i:Nat) (x y:Int),(P ++ [zx])[i]? = some x→(R ++ [zy])[i]? = some y→∃ i' : Nat,X[i']? = some x∧Y[i']? = some y:=fun i x y hx hy=>by
 by_cases e:i<j
 ·rw [List.getElem?_append_left (by omega)] at hx hy
  exact h i x y hx hy
 ·have hi:i=j:=by have:=(List.getElem?_eq_some_iff.1 hx).1;simp at this;omega
  subst hi
  rw [List.getElem?_append_right (by omega),hP,Nat.sub_self] at hx
  rw [List.getElem?_append_right (by omega),hR,Nat.sub_self] at hy
  simp at hx hy
  subst hx hy
  exact ⟨t,ex,ey⟩
theorem mk_okU {l:List Nd} {s:Int} {xs:List Int} (h0:0≤s) (h6:xs.length≤6) (hr:∀ z∈xs,0≤z∧z<(l.length:Int)) (hl:l.length<2000):mkE l 2000 s xs=0:=by
 unfold mkE
 rw [if_neg (by omega),if_neg (by rw [insB_iff.2 hr];simp),if_neg (by omega)]
theorem iwrapU {z:Int} (h1 : -9223372036854775808≤z) (h2:z<9223372036854775808):IntKind.i64.wrap z=z:=by
 simp [IntKind.wrap,IntKind.bits,IntKind.signed];omega
def uloop:Code→Option Code
 | .loop c=>some c
 | .seq a b=>match uloop a with
  | some c=>some c
  | none=>uloop b
 | .block _ c=>uloop c
 | .scope c=>uloop c
 | .cond _ a b=>match uloop a with
  | some c=>some c
  | none=>uloop b
 | _=>none
end Go.Proofs.Ytmloedlkoijfbaa
