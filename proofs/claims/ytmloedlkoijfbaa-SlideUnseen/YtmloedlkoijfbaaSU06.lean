import Derived.Test.YtmloedlkoijfbaaSU05
import Derived.Test.YtmloedlkoijfbaaSU01
namespace Go.Proofs.Ytmloedlkoijfbaa
set_option maxRecDepth 100000
set_option linter.unusedVariables false
open Go.RowKit
attribute [local go_sem ↓] Go.wp_at_zero Go.wp_at_succ
def mvL (s t xs:List Int):List Int:=xs.map (fun z=>t.getD (s.getD z.toNat 0).toNat 0)
def MvOk (s t xs:List Int):Prop:=∀ z∈xs,∃ b:Nat,0≤z∧s[z.toNat]? = some (b:Int)∧b<t.length
theorem getD_of {l:List Int} {i:Nat} {v:Int} (h:l[i]? = some v):l.getD i 0=v:=by rw [List.getD_eq_getElem?_getD,h];rfl
def mvC (s t xs:List Int) (k:Nat):List Int:=(mvL s t xs).take k++List.replicate (xs.length-k) 0
theorem mvC_zero (s t xs:List Int):mvC s t xs 0=List.replicate xs.length 0:=by simp [mvC]
theorem mvC_all (s t xs:List Int):mvC s t xs xs.length=mvL s t xs:=by
 unfold mvC
 rw [Nat.sub_self,List.take_of_length_le (by simp [mvL])]
 simp
theorem mvC_len (s t xs:List Int) {k:Nat} (h:k≤xs.length):(mvC s t xs k).length=xs.length:=by simp [mvC,mvL];omega
theorem mvC_next {s t xs:List Int} {k:Nat} (h:k<xs.length) {b:Nat} (hb:s[xs[k].toNat]? = some (b:Int)) (ht:b<t.length):(mvC s t xs k).set k t[b]=mvC s t xs (k+1):=by
 have e1:(mvL s t xs)[k]? = some t[b]:=by
  unfold mvL
  rw [List.getElem?_map,List.getElem?_eq_getElem h]
  simp only [Option.map_some,getD_of hb,Int.toNat_natCast]
  rw [getD_of (List.getElem?_eq_getElem ht)]
 have hl:k<(mvL s t xs).length:=by simpa [mvL] using h
 have e2:(mvL s t xs).take (k+1)=(mvL s t xs).take k ++ [t[b]]:=by
  rw [List.take_add_one,e1];rfl
 unfold mvC
 rw [e2]
 have hlt:((mvL s t xs).take k).length=k:=by simp;omega
 obtain ⟨m,hm⟩:∃ m,xs.length-k=m+1:=⟨xs.length-k-1,by omega⟩
 have hm2:xs.length-(k+1)=m:=by omega
 rw [hm,hm2,List.replicate_succ,List.set_append_right _ _ (by omega),hlt,Nat.sub_self]
 simp
set_option maxHeartbeats 2000000 in
theorem moved_any {w:World} {ao:Option Addr} {xs:List Int} {ac:Nat} (hx:Arg w ao xs ac) {bs ib si sc bt it ti tc:Nat} {s t:List Int} (hs:Row bs w (.slice (some ⟨ib,0,none⟩) si sc) s) (hsn:s.length=si) (ht:Row bt w (.slice (some ⟨it,0,none⟩) ti tc) t) (htn:t.length=ti) (hok:MvOk s t xs) :
  Calls Try.prog 55 #[.slice ao xs.length ac,.slice (some ⟨ib,0,none⟩) si sc,.slice (some ⟨it,0,none⟩) ti tc] w fun e w' => ∃ mb,e=.returned (.slice (some ⟨mb,0,none⟩) xs.length xs.length)∧w.heap.size≤mb∧Row w.heap.size w' (.slice (some ⟨mb,0,none⟩) xs.length xs.length) (mvL s t xs)∧Same0 w w' := by
 obtain ⟨i,hi,hz0,hz1,hz2⟩:=info_parts info_intT
 have HX:Hid (Arg w ao xs ac):=hx
 have HS:Hid (∀ ww,Same0 w ww→∀ a,(h:a<s.length)→ww.cell? ⟨ib,a,none⟩=some (.int .i64 s[a])):=fun ww hk a ha=>by
  obtain ⟨h1, -, -,h2⟩:=row_at hs ha
  exact (hk.cell (p:=⟨ib,a,none⟩) h2 (fun f=>f)).trans h1
 have HT:Hid (∀ ww,Same0 w ww→∀ a,(h:a<t.length)→ww.cell? ⟨it,a,none⟩=some (.int .i64 t[a])):=fun ww hk a ha=>by
  obtain ⟨h1, -, -,h2⟩:=row_at ht ha
  exact (hk.cell (p:=⟨it,a,none⟩) h2 (fun f=>f)).trans h1
 have HSN:Hid (s.length=si):=hsn
 have HTN:Hid (t.length=ti):=htn
 have HO:Hid (MvOk s t xs):=hok
 have hsz:=hx.size
 obtain ⟨n,hn⟩:∃ n,n=xs.length:=⟨_,rfl⟩
 have HNE:Hid (n=xs.length):=hn
 rw [← hn] at hsz ⊢
 have HZ:Hid (n * 8≤140737488351232):=hsz
 have i0:(0:Int)≤(n:Int):=by omega
 have i00:(n:Int)≤17592186043904:=by omega
 clear hx hs hsn ht htn hok hn hsz
 go_enter Try.func55,Try.ntmps55
 go_upto_region 3 with (first | (at_make;refine wpList_make_full _ rfl _ _ 31 rfl _ 3 i _ 1 Try.underlying31 hi hz0 hz1 _ _ _ _ n rfl rfl rfl rfl (by rw [hz2];have:=HZ.out;omega) (by unfold maxLen;have:=HZ.out;omega) (Nat.le_refl _) ?_;intro w1 hown hgrow))
 rw [made_nums] at hown
 have K1:Same0 w w1:=Same0.grown (Kept.refl _ w) hgrow
 obtain ⟨mb,hmb⟩:∃ mb,mb=w.heap.size:=⟨_,rfl⟩
 have hlo:w.heap.size≤mb:=by omega
 rw [← hmb]
 have R0:Hid (Row w.heap.size w1 (.slice (some ⟨mb,0,none⟩) n n) (mvC s t xs 0)):=by
  show Row _ _ _ _
  rw [mvC_zero,← HNE.out,hmb]
  unfold Row
  rw [List.length_replicate]
  exact hown
 clear hown hgrow hmb i00
 go_loopw [15] (fun v wr=>∃ k:Nat,k≤n∧v=.int .i64 (k:Int)∧Hid (Row w.heap.size wr (.slice (some ⟨mb,0,none⟩) n n) (mvC s t xs k))∧Same0 w wr) (fun v _=>n-(intOf v).toNat)
 case atStart=>exact ⟨0,Nat.zero_le _,rfl,R0,K1⟩
 case round=>
  clear K1 R0
  obtain ⟨k,hk,rfl,HR,hw⟩:=hrel
  by_cases hlt:k<n
  ·have hkx:k<xs.length:=by rw [← HNE.out];exact hlt
   obtain ⟨xb,xo,e,hxb,cx⟩:=((HX.out.at').same hw).get hkx
   subst e
   obtain ⟨b,b1,b2,b3⟩:=HO.out _ (List.getElem_mem hkx)
   obtain ⟨z,hz⟩:∃ z:Nat,xs[k]=(z:Int):=⟨xs[k].toNat,by omega⟩
   have HZE:Hid (xs[k]=(z:Int)):=hz
   rw [hz] at cx
   rw [hz,Int.toNat_natCast] at b2
   obtain ⟨hzs,hbe⟩:=List.getElem?_eq_some_iff.1 b2
   have cs:=HS.out wr hw z hzs
   rw [hbe] at cs
   have ct:=HT.out wr hw b b3
   have hl:=mvC_len s t xs (Nat.le_of_lt hkx)
   obtain ⟨ov,cm,fm⟩:∃ ov,wr.cell? ⟨mb,k,none⟩=some ov∧wr.frozen? ⟨mb,k,none⟩=false:=by
    obtain ⟨cm,fm, -, -⟩:=row_at HR.out (i:=k) (by rw [hl];exact hkx)
    exact ⟨_,cm,fm⟩
   have HR1:Hid (Row w.heap.size (wr.setCell ⟨mb,k,none⟩ (.int .i64 t[b])) (.slice (some ⟨mb,0,none⟩) n n) (mvC s t xs (k+1))):=by
    show Row _ _ _ _
    rw [← mvC_next hkx (by rw [hz,Int.toNat_natCast];exact b2) b3]
    exact rowI_put HR.out k _
   have hw1:Same0 w (wr.setCell ⟨mb,k,none⟩ (.int .i64 t[b])):=Kept.setCell (S:=fun _=>False) hw (p:=⟨mb,k,none⟩) (fun h=>by simp at h;omega) _
   have j1:(0:Int)≤(z:Int):=by omega
   have j2:(z:Int)<(si:Int):=by have:=HSN.out;omega
   have j3:(0:Int)≤(b:Int):=by omega
   have j4:(b:Int)<(ti:Int):=by have:=HTN.out;omega
   have j5:(0:Int)≤(k:Int):=by omega
   have j6:(k:Int)<(n:Int):=by omega
   have iw:IntKind.i64.wrap ((k:Int)+1)=(k:Int)+1:=by rw [IntKind.wrap_i64];have:=HZ.out;omega
   generalize t[b]=tv at *
   clear hbe b2 b1 hz hl HR
   go_wp2
   go_roundw
   case rel=>exact ⟨k+1,by omega,by go_num,HR1,hw1⟩
   case measure=>simp [intOf];omega
  ·obtain rfl:k=n:=by omega
   have R1:Row w.heap.size wr (.slice (some ⟨mb,0,none⟩) k k) (mvL s t xs):=by
    have:=HR.out
    rw [show k=xs.length from HNE.out,mvC_all] at this
    rw [show k=xs.length from HNE.out]
    exact this
   clear HR HNE
   go_wp2
   go_ret
   exact ⟨mb,rfl,hlo,R1,hw⟩
def KL (l:List Nd) (R:List Int) (L:List Nat):Prop:=L.Pairwise (· < ·)∧∀ a,a∈L ↔ Kpt l R a
theorem IsS.kl {l:List Nd} {R s:List Int} (h:IsS l R s):KL l R (keptL l.length s):=by
 refine ⟨keptL_lt _ _,fun a=>?_⟩
 rw [keptL_mem,← h.self a]
 refine ⟨fun q=>q.2,fun q=>⟨?_,q⟩⟩
 exact ((h.self a).1 q).1.1
theorem rise_uniq:∀ {L M:List Nat},L.Pairwise (· < ·)→M.Pairwise (· < ·)→(∀ a,a∈L ↔ a∈M)→L=M
 | [],[],_,_,_=>rfl
 | [],y :: M,_,_,h=>by have:=(h y).2 (by simp);cases this
 | x :: L,[],_,_,h=>by have:=(h x).1 (by simp);cases this
 | x :: L,y :: M,h1,h2,h=>by
  rw [List.pairwise_cons] at h1 h2
  have e:x=y:=by
   have a1:=(h x).1 (by simp)
   have a2:=(h y).2 (by simp)
   rcases List.mem_cons.1 a1 with q | q
   ·exact q
   ·rcases List.mem_cons.1 a2 with q2 | q2
    ·exact q2.symm
    ·have:=h2.1 _ q;have:=h1.1 _ q2;omega
  subst e
  rw [rise_uniq h1.2 h2.2 (fun a=>?_)]
  constructor
  ·intro q
   rcases List.mem_cons.1 ((h a).1 (by simp [q])) with e | e
   ·have:=h1.1 _ q;omega
   ·exact e
  ·intro q
   rcases List.mem_cons.1 ((h a).2 (by simp [q])) with e | e
   ·have:=h2.1 _ q;omega
   ·exact e
theorem KL.uniq {l:List Nd} {R:List Int} {L M:List Nat} (h:KL l R L) (k:KL l R M):L=M:=rise_uniq h.1 k.1 (fun a=>(h.2 a).trans (k.2 a).symm)
set_option maxHeartbeats 1000000 in
theorem liveL_yes {B:Nat→Prop} {w:World} {h g room:Nat} {l:List Nd} (p:HpB B w h g room l) {ao:Option Addr} {R:List Int} {ac:Nat} (hx:ArgL w ao R ac) (hR:∀ r∈R,0≤r∧r<(l.length:Int)) :
  Calls Try.prog 48 #[.pointer (some ⟨h,0,none⟩),.slice ao R.length ac] w fun e w' => ∃ v L,e=.returned (.tuple #[v,.int .i64 0])∧KL l R L∧Row w.heap.size w' v (ofN L)∧Same0 w w' := by
 have C:=srefusal_any p ac hx.at' (by have:=hx.size;omega)
 rw [sRef_yes hR] at C
 have CW:=whatIs_any p hx hR
 have HP:Hid (∀ ww,Same0 w ww→HpB B ww h g room l):=fun ww hk=>p.same hk
 have hle:=p.le
 clear p hx hR
 go_enter Try.func48,Try.ntmps48
 go_wp2_with (first | (go_at_call 52;refine C.mono ?_;rintro e w' ⟨rfl,hw⟩;have hw:=hw.symm;subst hw) | (go_at_call 53;refine CW.mono ?_;rintro e w1 ⟨ib,s,rfl,hib,hr,hsn,his,hk1⟩;have CK:=skept_any (HP.out w1 hk1) hr hsn hle) | (go_at_call 54;refine CK.mono ?_;rintro e w2 ⟨v,rfl,hv,hk2⟩))
 go_ret2
 exact ⟨v,_,rfl,his.kl,row_mono hv hk1.size,hk1.trans' hk2⟩
theorem live_yes {B:Nat→Prop} {w:World} {h g room:Nat} {l:List Nd} (p:HpB B w h g room l) {ao:Option Addr} {R:List Int} {ac:Nat} (hx:Arg w ao R ac) (hR:∀ r∈R,0≤r∧r<(l.length:Int)) :
  Calls Try.prog 48 #[.pointer (some ⟨h,0,none⟩),.slice ao R.length ac] w fun e w' => ∃ v L,e=.returned (.tuple #[v,.int .i64 0])∧KL l R L∧Row w.heap.size w' v (ofN L)∧Same0 w w' := liveL_yes p hx.l hR
end Go.Proofs.Ytmloedlkoijfbaa
namespace Go.Proofs.Ytmloedlkoijfbaa
set_option linter.unusedVariables false
def thC (room:Nat) (L:List Nat):Nat→List Int
 | 0=>List.replicate room 0
 | k+1=>(thC room L k).set (L.getD k 0) (k:Int)
theorem thC_len (room:Nat) (L:List Nat):∀ k,(thC room L k).length=room
 | 0=>by simp [thC]
 | k+1=>by simp [thC,thC_len room L k]
theorem rise_ne {L:List Nat} (h:L.Pairwise (· < ·)) {i j a:Nat} (hi:L[i]? = some a) (hj:L[j]? = some a):i=j:=by
 obtain ⟨h1,e1⟩:=List.getElem?_eq_some_iff.1 hi
 obtain ⟨h2,e2⟩:=List.getElem?_eq_some_iff.1 hj
 rw [List.pairwise_iff_getElem] at h
 rcases Nat.lt_trichotomy i j with q | q | q
 ·have:=h i j h1 h2 q;omega
 ·exact q
 ·have:=h j i h2 h1 q;omega
theorem thC_at {room:Nat} {L:List Nat} (h:L.Pairwise (· < ·)) (hr:∀ a∈L,a<room):∀ k,k≤L.length→∀ i a,i<k→L[i]? = some a→(thC room L k)[a]? = some (i:Int)
 | 0,_,i,a,hi,_=>absurd hi (Nat.not_lt_zero _)
 | k+1,hkl,i,a,hi,ha=>by
  have har:a<room:=hr a (List.mem_of_getElem? ha)
  by_cases e:i=k
  ·subst e
   have:L.getD i 0=a:=by rw [List.getD_eq_getElem?_getD,ha];rfl
   simp only [thC,this]
   rw [List.getElem?_set_self (by rw [thC_len];exact har)]
  ·have ih:=thC_at h hr k (by omega) i a (by omega) ha
   simp only [thC]
   rw [List.getElem?_set_ne]
   ·exact ih
   ·intro q
    have h2:L[k]? = some (L.getD k 0):=by rw [List.getD_eq_getElem?_getD,List.getElem?_eq_getElem (show k<L.length by omega)];rfl
    rw [q] at h2
    exact e (rise_ne h ha h2)
def Mv (l:List Nd) (L:List Nat) (z:Int) (y:Int):Prop:=∃ (b i:Nat),0≤z∧Res l z.toNat b∧L[i]? = some b∧y=(i:Int)
def Rts (l:List Nd) (L:List Nat) (R R' : List Int):Prop:=R'.length=R.length∧∀ (j:Nat) (z y:Int),R[j]? = some z→R'[j]? = some y→Mv l L z y
def Sld (l:List Nd) (L:List Nat) (l' : List Nd):Prop:=l'.length=L.length∧∀ (k a:Nat),L[k]? = some a→∃ (h:a<l.length) (h' : k<l'.length),l'[k].1=l[a].1∧Rts l L l[a].2.1 l'[k].2.1∧l'[k].2.2=l[a].2.2
theorem Mv.uniq {l:List Nd} {R:List Int} {L:List Nat} (hk:KL l R L) {z y y' : Int} (h:Mv l L z y) (h' : Mv l L z y'):y=y' := by
 obtain ⟨b,i,_,h1,h2,rfl⟩:=h
 obtain ⟨b', i', _,h3,h4,rfl⟩:=h'
 have:=Res.uniq h1 h3
 subst this
 rw [rise_ne hk.1 h2 h4]
theorem Mv.rng {l:List Nd} {L:List Nat} {z y:Int} (h:Mv l L z y):0≤y∧y<(L.length:Int):=by
 obtain ⟨b,i,_,h1,h2,rfl⟩:=h
 have:=(List.getElem?_eq_some_iff.1 h2).1
 omega
theorem Rts.each {l:List Nd} {L:List Nat} {R R' : List Int} (h:Rts l L R R') {y:Int} (hy:y∈R'):∃ z∈R,Mv l L z y:=by
 obtain ⟨j,hj,rfl⟩:=List.mem_iff_getElem.1 hy
 have hj2:j<R.length:=by rw [← h.1];exact hj
 exact ⟨R[j],List.getElem_mem hj2,h.2 j _ _ (List.getElem?_eq_getElem hj2) (List.getElem?_eq_getElem hj)⟩
theorem Rts.uniq {l:List Nd} {R0:List Int} {L:List Nat} (hk:KL l R0 L) {R R' R'' : List Int} (h:Rts l L R R') (h' : Rts l L R R''):R' = R'' := by
 apply List.ext_getElem (by rw [h.1,h'.1])
 intro j h1 h2
 have hj:j<R.length:=by rw [← h.1];exact h1
 exact Mv.uniq hk (h.2 j _ _ (List.getElem?_eq_getElem hj) (List.getElem?_eq_getElem h1)) (h'.2 j _ _ (List.getElem?_eq_getElem hj) (List.getElem?_eq_getElem h2))
theorem Sld.uniq {l:List Nd} {R:List Int} {L:List Nat} (hk:KL l R L) {l' l'' : List Nd} (h:Sld l L l') (h' : Sld l L l''):l' = l'' := by
 apply List.ext_getElem (by rw [h.1,h'.1])
 intro k h1 h2
 have hL:k<L.length:=by rw [← h.1];exact h1
 obtain ⟨p1,p2,a1,a2,a3⟩:=h.2 k _ (List.getElem?_eq_getElem hL)
 obtain ⟨q1,q2,b1,b2,b3⟩:=h'.2 k _ (List.getElem?_eq_getElem hL)
 have e:=Rts.uniq hk a2 b2
 exact Prod.ext (a1.trans b1.symm) (Prod.ext e (a3.trans b3.symm))
theorem Sld.wf {l:List Nd} (hw:Wf l) {R:List Int} {L:List Nat} (hk:KL l R L) {l' : List Nd} (h:Sld l L l'):Wf l' ∧ ∀ k (hk:k<l'.length),l'[k].2.2.2.1=false:=by
 have get:∀ k (hk:k<l'.length),∃ a,L[k]? = some a∧AppN l a:=fun k hkl=>by
  have hL:k<L.length:=by rw [← h.1];exact hkl
  exact ⟨L[k],List.getElem?_eq_getElem hL,((hk.2 _).1 (List.getElem_mem hL)).1⟩
 have app:∀ k (hk:k<l'.length),l'[k].2.2.2.1=false:=fun k hkl=>by
  obtain ⟨a,ha,hap⟩:=get k hkl
  obtain ⟨p1,p2,a1,a2,a3⟩:=h.2 k a ha
  rw [a3];exact hap.2
 refine ⟨⟨fun x hx=>?_,?_⟩,app⟩
 ·obtain ⟨k,hkl,rfl⟩:=List.mem_iff_getElem.1 hx
  obtain ⟨a,ha,hap⟩:=get k hkl
  obtain ⟨p1,p2,a1,a2,a3⟩:=h.2 k a ha
  obtain ⟨m1,m2,m3,m4,m5,m6,m7⟩:=may_facts (hw.1 _ (List.getElem_mem p1))
  have m8:=m7 hap.2
  unfold mayB
  have e1:l'[k].2.1.all (fun z=>decide (0≤z) && decide (z<(l'.length:Int)))=true:=by
   rw [List.all_eq_true]
   intro y hy
   obtain ⟨z,_,hz⟩:=a2.each hy
   have:=hz.rng
   have e:=h.1
   simp;omega
  have e2:=a2.1
  have e3:=app k hkl
  have e4:l'[k].2.2.1=l[a].2.2.1:=by rw [a3]
  have e5:l'[k].2.2.2.2=0:=by rw [a3];exact m8
  simp only [e1,e3,e4,e5,a1,e2]
  simp [m1,m2,m3,m4]
 ·obtain ⟨r,hr⟩:=hw.2
  refine ⟨fun k=>r (L.getD k 0),fun i j e=>?_⟩
  obtain ⟨hil,hm⟩:=e
  obtain ⟨a,ha,hap⟩:=get i hil
  obtain ⟨p1,p2,a1,a2,a3⟩:=h.2 i a ha
  unfold downL at hm
  rw [if_neg (by rw [app i hil];simp)] at hm
  obtain ⟨z,hz1,b,i', hz0,hz2,hz3,hz4⟩:=a2.each hm
  have e:j=i' := by omega
  subst e
  have g1:L.getD i 0=a:=by rw [List.getD_eq_getElem?_getD,ha];rfl
  have g2:L.getD j 0=b:=by rw [List.getD_eq_getElem?_getD,hz3];rfl
  show r (L.getD j 0)<r (L.getD i 0)
  rw [g1,g2]
  have s1:r z.toNat<r a:=hr a z.toNat ⟨p1,by rw [hap.down,Int.toNat_of_nonneg hz0];exact hz1⟩
  obtain ⟨n,hn⟩:=hz2.rc hw
  have:=Rk.rank hr hn
  omega
def newN (s t:List Int) (x:Nd):Nd:=(x.1,mvL s t x.2.1,x.2.2)
def newL (s t:List Int) (l:List Nd) (L:List Nat):List Nd:=L.map (fun a=>newN s t (l.getD a (0,[],0,false,0)))
theorem mv_ok {l:List Nd} {R s:List Int} (h:IsS l R s) {L:List Nat} (hk:KL l R L) {room:Nat} (hr:∀ a∈L,a<room) {xs:List Int} (h0:∀ z∈xs,0≤z) (hx:∀ z∈xs,∃ b:Nat,s[z.toNat]? = some (b:Int)∧Res l z.toNat b∧Kpt l R b):MvOk s (thC room L L.length) xs∧Rts l L xs (mvL s (thC room L L.length) xs):=by
 have key:∀ z∈xs,∃ b i:Nat,s[z.toNat]? = some (b:Int)∧Res l z.toNat b∧L[i]? = some b∧(thC room L L.length)[b]? = some (i:Int):=fun z hz=>by
  obtain ⟨b,b1,b2,b3⟩:=hx z hz
  obtain ⟨i,hi,e⟩:=List.mem_iff_getElem.1 ((hk.2 b).2 b3)
  have e2:L[i]? = some b:=by rw [List.getElem?_eq_getElem hi,e]
  exact ⟨b,i,b1,b2,e2,thC_at hk.1 hr L.length (Nat.le_refl _) i b hi e2⟩
 refine ⟨fun z hz=>?_,by simp [mvL],fun j z y hz hy=>?_⟩
 ·obtain ⟨b,i,b1,b2,b3,b4⟩:=key z hz
  exact ⟨b,h0 z hz,b1,(List.getElem?_eq_some_iff.1 b4).1⟩
 ·have hzm:=List.mem_of_getElem? hz
  obtain ⟨b,i,b1,b2,b3,b4⟩:=key z hzm
  refine ⟨b,i,h0 z hzm,b2,b3,?_⟩
  unfold mvL at hy
  rw [List.getElem?_map,hz] at hy
  simp only [Option.map_some,Option.some.injEq,getD_of b1,Int.toNat_natCast,getD_of b4] at hy
  exact hy.symm
theorem newL_at {s t:List Int} {l:List Nd} {L:List Nat} {k a:Nat} (hk:L[k]? = some a) (ha:a<l.length):(newL s t l L)[k]? = some (newN s t l[a]):=by
 unfold newL
 rw [List.getElem?_map,hk]
 simp [List.getD_eq_getElem?_getD,ha]
theorem newL_sld {l:List Nd} (hw:Wf l) {R s:List Int} (h:IsS l R s) {L:List Nat} (hk:KL l R L) {room:Nat} (hr:∀ a∈L,a<room):Sld l L (newL s (thC room L L.length) l L)∧∀ a (ha:a∈L),∃ hl:a<l.length,MvOk s (thC room L L.length) l[a].2.1:=by
 have key:∀ a∈L,∃ hl:a<l.length,MvOk s (thC room L L.length) l[a].2.1∧Rts l L l[a].2.1 (mvL s (thC room L L.length) l[a].2.1):=fun a ha=>by
  have kp:=(hk.2 a).1 ha
  exact ⟨kp.1.1,mv_ok h hk hr (fun z hz=>(args_rng hw kp.1.1 hz).1) (fun z hz=>h.args a kp z hz)⟩
 refine ⟨⟨by simp [newL],fun k a ha=>?_⟩,fun a ha=>?_⟩
 ·obtain ⟨h1,_,h3⟩:=key a (List.mem_of_getElem? ha)
  have e:=newL_at (s:=s) (t:=thC room L L.length) ha h1
  obtain ⟨h4,h5⟩:=List.getElem?_eq_some_iff.1 e
  refine ⟨h1,h4,?_,?_,?_⟩
  ·rw [h5];rfl
  ·rw [h5];exact h3
  ·rw [h5];rfl
 ·obtain ⟨h1,h2,_⟩:=key a ha
  exact ⟨h1,h2⟩
end Go.Proofs.Ytmloedlkoijfbaa
namespace Go.Proofs.Ytmloedlkoijfbaa
set_option maxRecDepth 100000
set_option linter.unusedVariables false
open Go.RowKit
attribute [local go_sem ↓] Go.wp_at_zero Go.wp_at_succ
def Mk (s:List Bool) (i:Nat):Prop:=s[i]? = some true
theorem Mk.set {s:List Bool} {k:Nat} (h:k<s.length) (i:Nat):Mk (s.set k true) i ↔ Mk s i∨i=k:=by
 unfold Mk
 rw [List.getElem?_set]
 by_cases e:k=i
 ·subst e;simp [h]
 ·rw [if_neg e];constructor
  ·exact .inl
  ·rintro (q | q)
   ·exact q
   ·exact absurd q.symm e
theorem count_set {s:List Bool} {k:Nat} (h:s[k]? = some false):(s.set k true).count false+1=s.count false:=by
 obtain ⟨hk,hv⟩:=List.getElem?_eq_some_iff.1 h
 have hc:0<s.count false:=List.count_pos_iff.2 (hv ▸ List.getElem_mem hk)
 rw [List.count_set hk]
 simp [hv]
 omega
def Pass (l:List Nd) (s0:List Bool) (C k:Nat) (again:Bool) (s:List Bool):Prop:=
 (again=false∧s=s0∧∀ j,j<k→(∀ m,Ed l j m→Mk s0 m)→Mk s0 j)∨(again=true∧s.count false<C)
theorem Pass.still {l:List Nd} {s0 s:List Bool} {C k:Nat} {ag:Bool} (h:Pass l s0 C k ag s) (hk:(∀ m,Ed l k m→Mk s m)→Mk s k):Pass l s0 C (k+1) ag s:=by
 rcases h with ⟨h1,h2,h3⟩ | h
 ·refine .inl ⟨h1,h2,fun j hj=>?_⟩
  by_cases e:j=k
  ·subst e;subst h2;exact hk
  ·exact h3 j (by omega)
 ·exact .inr h
theorem Pass.le {l:List Nd} {s0 s:List Bool} {C k:Nat} {ag:Bool} (h:Pass l s0 C k ag s) (hC:C=s0.count false):s.count false≤C:=by
 rcases h with ⟨_,h2,_⟩ | h
 ·rw [h2,hC];exact Nat.le_refl _
 ·omega
theorem Pass.set {l:List Nd} {s0 s:List Bool} {C k k' i:Nat} {ag:Bool} (h:Pass l s0 C k ag s) (hC:C=s0.count false) (hi:s[i]? = some false):Pass l s0 C k' true (s.set i true):=by
 have h1:=h.le hC
 have h2:=count_set hi
 exact .inr ⟨rfl,by omega⟩
def RingQ (l:List Nd) (w:World) (e:Ending) (w' : World):Prop:=∃ b:Bool,e=.returned (.bool b)∧(b=true ↔ ¬ Ac l)∧Same0 w w'
end Go.Proofs.Ytmloedlkoijfbaa
namespace Go.Proofs.Ytmloedlkoijfbaa
set_option linter.unusedVariables false
def dnL (l:List Nd) (a:Nat):List Int:=match l[a]? with
 | some x=>downL x
 | none=>[]
theorem dnL_at {l:List Nd} {a:Nat} (h:a<l.length):dnL l a=downL l[a]:=by simp [dnL,h]
theorem ed_iff {l:List Nd} {a b:Nat}:Ed l a b ↔ a<l.length∧(b:Int)∈dnL l a:=by
 constructor
 ·rintro ⟨h,hm⟩;exact ⟨h,by rw [dnL_at h];exact hm⟩
 ·rintro ⟨h,hm⟩;exact ⟨h,by rw [dnL_at h] at hm;exact hm⟩
def sumC (R:Nat→List Int) (b:Nat):Nat→Nat
 | 0=>0
 | n+1=>sumC R b n+(R n).count (b:Int)
theorem sumC_congr {R R' : Nat→List Int} {b:Nat}:∀ {n:Nat},(∀ a,a<n→(R a).count (b:Int)=(R' a).count (b:Int))→sumC R b n=sumC R' b n
 | 0,_=>rfl
 | n+1,h=>by
  unfold sumC
  rw [sumC_congr (fun a ha=>h a (by omega)),h n (by omega)]
theorem sumC_zero {R:Nat→List Int} {b:Nat}:∀ {n:Nat},sumC R b n=0→∀ a,a<n→(b:Int) ∉ R a
 | 0,_,a,ha=>absurd ha (Nat.not_lt_zero _)
 | n+1,h,a,ha=>by
  unfold sumC at h
  by_cases e:a=n
  ·subst e
   exact List.count_eq_zero.1 (by omega)
  ·exact sumC_zero (n:=n) (by omega) a (by omega)
theorem sumC_pos {R:Nat→List Int} {b:Nat}:∀ {n:Nat},sumC R b n≠0→∃ a,a<n∧(b:Int)∈R a
 | 0,h=>absurd rfl h
 | n+1,h=>by
  unfold sumC at h
  by_cases e:sumC R b n=0
  ·exact ⟨n,by omega,List.count_pos_iff.1 (by omega)⟩
  ·obtain ⟨a,h1,h2⟩:=sumC_pos (n:=n) e
   exact ⟨a,by omega,h2⟩
def lose (R:Nat→List Int) (c:Nat) (r:List Int):Nat→List Int:=fun a=>if a=c then r else R a
theorem sumC_lose {R:Nat→List Int} {c:Nat} {z:Int} {r:List Int} (hR:R c=z :: r) (b:Nat):∀ {n:Nat},c<n→sumC R b n=sumC (lose R c r) b n+(if z=(b:Int) then 1 else 0)
 | 0,h=>absurd h (Nat.not_lt_zero _)
 | n+1,h=>by
  unfold sumC
  by_cases e:c=n
  ·subst e
   rw [sumC_congr (R:=R) (R' := lose R c r) (fun a ha=>by unfold lose;rw [if_neg (by omega)])]
   have:lose R c r c=r:=by unfold lose;rw [if_pos rfl]
   rw [this,hR,List.count_cons]
   by_cases q:z=(b:Int)
   ·simp [q];omega
   ·simp [q]
  ·rw [sumC_lose hR b (n:=n) (by omega)]
   have:lose R c r n=R n:=by unfold lose;rw [if_neg (by omega)]
   rw [this]
   omega
theorem nd_snoc {T:List Nat} (h:∀ (p p' b:Nat),p<p' → T[p]? = some b→T[p']? = some b→False) {x:Nat} (hx:x ∉ T):∀ (p p' b:Nat),p<p' → (T ++ [x])[p]? = some b→(T ++ [x])[p']? = some b→False:=by
 intro p p' b hp h1 h2
 have hl:=(List.getElem?_eq_some_iff.1 h2).1
 simp at hl
 rw [List.getElem?_append_left (by omega)] at h1
 by_cases e:p' < T.length
 ·rw [List.getElem?_append_left e] at h2
  exact h p p' b hp h1 h2
 ·have:p' = T.length:=by omega
  subst this
  simp at h2
  subst h2
  exact hx (List.mem_of_getElem? h1)
structure Kh (l:List Nd) (P:Nat→Prop) (R:Nat→List Int) (lead:List Int) (T:List Nat):Prop where
 len:lead.length=l.length
 val:∀ b:Nat,b<l.length→lead[b]? = some ((sumC R b l.length:Nat):Int)
 mem:∀ b:Nat,b∈T ↔ lead[b]? = some 0
 cnt:T.length=lead.count 0
 ord:∀ (p b:Nat),T[p]? = some b→∀ a,Ed l a b→∃ p' : Nat,p' < p∧T[p']? = some a
 rest:∀ a,a<l.length→¬ P a→R a=dnL l a
 begun:∀ a,P a→a∈T
 nd:∀ (p p' b:Nat),p<p' → T[p]? = some b→T[p']? = some b→False
theorem Kh.le {l:List Nd} {P:Nat→Prop} {R:Nat→List Int} {lead:List Int} {T:List Nat} (h:Kh l P R lead T):T.length≤l.length:=by
 rw [h.cnt,← h.len];exact List.count_le_length
theorem Kh.lt {l:List Nd} {P:Nat→Prop} {R:Nat→List Int} {lead:List Int} {T:List Nat} (h:Kh l P R lead T) {b:Nat} (hb:b∈T):b<l.length:=by
 have:=(List.getElem?_eq_some_iff.1 ((h.mem b).1 hb)).1
 rw [h.len] at this;exact this
theorem Kh.more {l:List Nd} {P P' : Nat→Prop} {R:Nat→List Int} {lead:List Int} {T:List Nat} (h:Kh l P R lead T) (h1:∀ a,P a→P' a) (h2:∀ a,P' a→a∈T):Kh l P' R lead T:=
 ⟨h.len,h.val,h.mem,h.cnt,h.ord,fun a ha hn=>h.rest a ha (fun q=>hn (h1 a q)),h2,h.nd⟩
theorem Kh.strike {l:List Nd} {P:Nat→Prop} {R:Nat→List Int} {lead:List Int} {T:List Nat} (h:Kh l P R lead T) {c b:Nat} {r:List Int} (hP:P c) (hR:R c=(b:Int) :: r) (hb:b<l.length) :
  ∃ v:Int,lead[b]? = some v∧1≤v∧((v-1=0∧Kh l P (lose R c r) (lead.set b (v-1)) (T ++ [b]))∨(v-1≠0∧Kh l P (lose R c r) (lead.set b (v-1)) T)):=by
 have hc:c<l.length:=h.lt (h.begun c hP)
 have hv:=h.val b hb
 have hs:=sumC_lose hR b hc
 rw [if_pos rfl] at hs
 have hbl:b<lead.length:=by rw [h.len];exact hb
 have hset:∀ j,(lead.set b ((sumC R b l.length:Nat)-1:Int))[j]? = if j=b then some ((sumC R b l.length:Nat)-1:Int) else lead[j]? := fun j=>by
  rw [List.getElem?_set]
  by_cases e:b=j
  ·subst e;simp [hbl]
  ·rw [if_neg e,if_neg (Ne.symm e)]
 have hval:∀ j,j<l.length→(lead.set b ((sumC R b l.length:Nat)-1:Int))[j]? = some ((sumC (lose R c r) j l.length:Nat):Int):=fun j hj=>by
  rw [hset]
  by_cases e:j=b
  ·subst e;rw [if_pos rfl];congr 1;omega
  ·rw [if_neg e,h.val j hj]
   have:=sumC_lose hR j hc
   rw [if_neg (by omega)] at this
   rw [this];rfl
 have hrest:∀ a,a<l.length→¬ P a→lose R c r a=dnL l a:=fun a ha hn=>by
  have:a≠c:=fun e=>hn (e ▸ hP)
  unfold lose;rw [if_neg this];exact h.rest a ha hn
 have hvb:lead[b]=((sumC R b l.length:Nat):Int):=by
  have:=hv;rw [List.getElem?_eq_getElem hbl] at this;simpa using this
 refine ⟨((sumC R b l.length:Nat):Int),hv,by omega,?_⟩
 have hnT:b ∉ T:=fun q=>by
  have:=(h.mem b).1 q
  rw [hv] at this
  simp at this
  omega
 by_cases e:((sumC R b l.length:Nat):Int)-1=0
 ·refine .inl ⟨e,⟨by simp [h.len],hval,fun j=>?_,?_,?_,hrest,fun a ha=>List.mem_append.2 (.inl (h.begun a ha)),nd_snoc h.nd hnT⟩⟩
  ·rw [hset]
   by_cases q:j=b
   ·subst q;rw [if_pos rfl,e];simp
   ·rw [if_neg q,← h.mem];simp [q]
  ·rw [List.count_set hbl,List.length_append,h.cnt,hvb,e]
   have:((((sumC R b l.length:Nat):Int)) == 0)=false:=by simp;omega
   rw [this]
   simp
  ·intro p x hp a ea
   by_cases q:p<T.length
   ·rw [List.getElem?_append_left q] at hp
    obtain ⟨p', h1,h2⟩:=h.ord p x hp a ea
    exact ⟨p', h1,by rw [List.getElem?_append_left (by omega)];exact h2⟩
   ·have hpe:p=T.length:=by
     have:=(List.getElem?_eq_some_iff.1 hp).1
     simp at this;omega
    subst hpe
    simp at hp
    subst hp
    have hz:sumC (lose R c r) b l.length=0:=by omega
    obtain ⟨ha,hm⟩:=ed_iff.1 ea
    have hPa:P a:=by
     by_cases q:P a
     ·exact q
     ·exact absurd (by rw [hrest a ha q];exact hm) (sumC_zero hz a ha)
    obtain ⟨p', hp', hx⟩:=List.mem_iff_getElem.1 (h.begun a hPa)
    exact ⟨p', hp', by rw [List.getElem?_append_left hp', List.getElem?_eq_getElem hp', hx]⟩
 ·refine .inr ⟨e,⟨by simp [h.len],hval,fun j=>?_,?_,h.ord,hrest,h.begun,h.nd⟩⟩
  ·rw [hset]
   by_cases q:j=b
   ·subst q;rw [if_pos rfl];simp [hnT];omega
   ·rw [if_neg q,← h.mem]
  ·rw [List.count_set hbl,h.cnt,hvb]
   have h1:((((sumC R b l.length:Nat):Int)) == 0)=false:=by simp;omega
   have h2:((((sumC R b l.length:Nat):Int))-1 == 0)=false:=by simp;omega
   rw [h1,h2]
   simp
theorem idx_le:∀ (T:List Nat) (p a:Nat),T[p]? = some a→T.idxOf a≤p
 | [],p,a,h=>by simp at h
 | x :: T,0,a,h=>by
  simp at h
  subst h
  simp
 | x :: T,p+1,a,h=>by
  have:=idx_le T p a (by simpa using h)
  rw [List.idxOf_cons]
  cases x == a <;> simp <;> omega
theorem Kh.done {l:List Nd} {P:Nat→Prop} {R:Nat→List Int} {lead:List Int} {T:List Nat} (h:Kh l P R lead T) (hin:InL l) (hR:∀ a,a∈T→R a=[]):T.length<l.length ↔ ¬ Ac l:=by
 constructor
 ·intro hlt hac
  obtain ⟨r,hr⟩:=hac
  -- a node that is left has one above it that is left
  have up:∀ b,b<l.length→b ∉ T→∃ a,a<l.length∧a ∉ T∧r b<r a:=fun b hb hn=>by
   have h1:sumC R b l.length≠0:=fun e=>hn ((h.mem b).2 (by rw [h.val b hb,e];rfl))
   obtain ⟨a,ha,hm⟩:=sumC_pos h1
   have hna:a ∉ T:=fun q=>by rw [hR a q] at hm;cases hm
   refine ⟨a,ha,hna,hr a b (ed_iff.2 ⟨ha,?_⟩)⟩
   rw [← h.rest a ha (fun q=>hna (h.begun a q))];exact hm
  have top:∀ n,∃ M,∀ i,i<n→r i≤M:=fun n=>by
   induction n with
   | zero=>exact ⟨0,fun i h=>absurd h (Nat.not_lt_zero _)⟩
   | succ n ih=>
    obtain ⟨M,hM⟩:=ih
    refine ⟨max M (r n),fun i hi=>?_⟩
    by_cases e:i=n
    ·subst e;omega
    ·have:=hM i (by omega);omega
  obtain ⟨M,hM⟩:=top l.length
  have no:∀ n b,M-r b<n→b<l.length→b ∉ T→False:=fun n=>by
   induction n with
   | zero=>intro b h;omega
   | succ n ih=>
    intro b hb hl hn
    obtain ⟨a,ha,hna,hra⟩:=up b hl hn
    have:=hM a ha
    exact ih a (by omega) ha hna
  have:∃ b,b<l.length∧b ∉ T:=by
   by_cases q:∃ b,b<l.length∧b ∉ T
   ·exact q
   ·exfalso
    have hall:∀ x∈lead,x=0:=fun x hx=>by
     obtain ⟨b,hb,rfl⟩:=List.mem_iff_getElem.1 hx
     have hb' : b<l.length:=by rw [← h.len];exact hb
     have hm:b∈T:=by
      by_cases q' : b∈T
      ·exact q'
      ·exact absurd ⟨b,hb', q'⟩ q
     have:=(h.mem b).1 hm
     rw [List.getElem?_eq_getElem hb] at this
     simpa using this
    have:lead.count 0=lead.length:=List.count_eq_length.2 (fun b hb=>(hall b hb).symm)
    have h1:=h.cnt
    have h2:=h.len
    omega
  obtain ⟨b,hb,hn⟩:=this
  exact no (M-r b+1) b (by omega) hb hn
 ·intro hac
  by_cases e:T.length<l.length
  ·exact e
  ·exfalso
   apply hac
   have hle:=h.le
   have hcl:lead.count 0=lead.length:=by have h1:=h.cnt;have h2:=h.len;omega
   have hall:∀ b,b<l.length→b∈T:=fun b hb=>by
    have hb' : b<lead.length:=by rw [h.len];exact hb
    have:=List.count_eq_length.1 hcl lead[b] (List.getElem_mem hb')
    exact (h.mem b).2 (by rw [List.getElem?_eq_getElem hb', ← this])
   refine ⟨fun x=>T.length-T.idxOf x,fun a b ea=>?_⟩
   have hb:b<l.length:=by
    have:=(hin a ea.1 _ ea.2).2
    omega
   have hbT:=hall b hb
   have hi:=List.idxOf_lt_length_of_mem hbT
   have hT:T[T.idxOf b]? = some b:=by rw [List.getElem?_eq_getElem hi,List.getElem_idxOf hi]
   obtain ⟨p', h1,h2⟩:=h.ord _ b hT a ea
   have h3:T.idxOf a≤p' := idx_le T p' a h2
   show T.length-T.idxOf b<T.length-T.idxOf a
   omega
def Ld (l:List Nd) (k q:Nat) (lead:List Int):Prop:=lead.length=l.length∧∀ b:Nat,b<l.length→lead[b]? = some (((sumC (dnL l) b k+((dnL l k).take q).count (b:Int):Nat)):Int)
theorem Ld.start (l:List Nd):Ld l 0 0 (List.replicate l.length 0):=⟨by simp,fun b hb=>by simp [hb,sumC]⟩
theorem Ld.next {l:List Nd} {k:Nat} {lead:List Int} (h:Ld l k (dnL l k).length lead):Ld l (k+1) 0 lead:=⟨h.1,fun b hb=>by
 rw [h.2 b hb]
 simp [sumC]⟩
theorem Ld.one {l:List Nd} {k q b:Nat} {lead:List Int} (h:Ld l k q lead) (hq:q<(dnL l k).length) (hz:(dnL l k)[q]=(b:Int)) (hb:b<l.length):∃ v:Int,lead[b]? = some v∧0≤v∧Ld l k (q+1) (lead.set b (v+1)):=by
 refine ⟨_,h.2 b hb,by omega,by simp [h.1],fun j hj=>?_⟩
 have hl:b<lead.length:=by rw [h.1];exact hb
 rw [List.getElem?_set,List.take_succ_eq_append_getElem hq,List.count_append,hz]
 by_cases e:b=j
 ·subst e
  rw [if_pos rfl,if_pos hl]
  simp
  omega
 ·rw [if_neg e,h.2 j hj]
  have:(b:Int)≠(j:Int):=by omega
  simp [this]
theorem Ld.bound {l:List Nd} {k q:Nat} {lead:List Int} (h:Ld l k q lead) (few:∀ x∈l,x.2.1.length≤6) (hk:k≤l.length):∀ (b:Nat) (v:Int),lead[b]? = some v→v≤6 * (l.length:Int)+6:=by
 intro b v hv
 have hb:b<l.length:=by have:=(List.getElem?_eq_some_iff.1 hv).1;rw [h.1] at this;exact this
 rw [h.2 b hb] at hv
 have hd:∀ a,(dnL l a).length≤6:=fun a=>by
  unfold dnL
  split
  ·rename_i x hx
   have:=few x (List.mem_of_getElem? hx)
   unfold downL
   split
   ·simp
   ·exact this
  ·simp
 have hs:∀ n,sumC (dnL l) b n≤6 * n:=fun n=>by
  induction n with
  | zero=>simp [sumC]
  | succ n ih=>
   have h1:=List.count_le_length (a:=(b:Int)) (l:=dnL l n)
   have h2:=hd n
   unfold sumC
   omega
 have h1:=hs k
 have h2:=List.count_le_length (a:=(b:Int)) (l:=(dnL l k).take q)
 have h3:=hd k
 have h4:((dnL l k).take q).length≤6:=by simp;omega
 simp only [Option.some.injEq] at hv
 omega
def Zr (lead:List Int) (k:Nat) (T:List Nat):Prop:=(∀ b:Nat,b∈T ↔ b<k∧lead[b]? = some 0)∧T.length=(lead.take k).count 0∧∀ (p p' b:Nat),p<p' → T[p]? = some b→T[p']? = some b→False
theorem Zr.start (lead:List Int):Zr lead 0 []:=⟨fun b=>by simp,by simp,fun p p' b _ h=>by simp at h⟩
theorem Zr.yes {lead:List Int} {k:Nat} {T:List Nat} (h:Zr lead k T) (hk:lead[k]? = some 0):Zr lead (k+1) (T ++ [k]):=by
 obtain ⟨hl,hv⟩:=List.getElem?_eq_some_iff.1 hk
 refine ⟨fun b=>?_,?_,nd_snoc h.2.2 (fun q=>by have:=((h.1 k).1 q).1;omega)⟩
 ·rw [List.mem_append,h.1]
  simp
  constructor
  ·rintro (⟨q1,q2⟩ | rfl)
   ·exact ⟨by omega,q2⟩
   ·exact ⟨by omega,hk⟩
  ·rintro ⟨q1,q2⟩
   by_cases e:b=k
   ·exact .inr e
   ·exact .inl ⟨by omega,q2⟩
 ·rw [List.take_succ_eq_append_getElem hl,List.count_append,List.length_append,h.2.1,hv]
  simp
theorem Zr.no {lead:List Int} {k:Nat} {T:List Nat} (h:Zr lead k T) (hl:k<lead.length) (hk:lead[k]≠0):Zr lead (k+1) T:=by
 refine ⟨fun b=>?_,?_,h.2.2⟩
 ·rw [h.1]
  constructor
  ·rintro ⟨q1,q2⟩;exact ⟨by omega,q2⟩
  ·rintro ⟨q1,q2⟩
   refine ⟨?_,q2⟩
   by_cases e:b=k
   ·subst e;rw [List.getElem?_eq_getElem hl] at q2;simp at q2;exact absurd q2 hk
   ·omega
 ·rw [List.take_succ_eq_append_getElem hl,List.count_append,h.2.1]
  simp [hk]
theorem Zr.le {lead:List Int} {k:Nat} {T:List Nat} (h:Zr lead k T):T.length≤k:=by
 rw [h.2.1]
 have:=List.count_le_length (a:=(0:Int)) (l:=lead.take k)
 simp at this;omega
theorem Kh.start {l:List Nd} {lead:List Int} {T:List Nat} (h1:Ld l l.length 0 lead) (h2:Zr lead l.length T):Kh l (fun _=>False) (dnL l) lead T:=by
 have hv:∀ b,b<l.length→lead[b]? = some ((sumC (dnL l) b l.length:Nat):Int):=fun b hb=>by
  rw [h1.2 b hb];simp
 have hm:∀ b,b∈T ↔ lead[b]? = some 0:=fun b=>by
  rw [h2.1]
  exact ⟨fun q=>q.2,fun q=>⟨by have:=(List.getElem?_eq_some_iff.1 q).1;rw [h1.1] at this;exact this,q⟩⟩
 refine ⟨h1.1,hv,hm,?_,?_,fun a _ _=>rfl,fun a f=>f.elim,h2.2.2⟩
 ·rw [h2.2.1,List.take_of_length_le (by rw [h1.1];exact Nat.le_refl _)]
 ·intro p b hp a ea
  exfalso
  have hb:=(hm b).1 (List.mem_of_getElem? hp)
  have hbl:b<l.length:=by have:=(List.getElem?_eq_some_iff.1 hb).1;rw [h1.1] at this;exact this
  rw [hv b hbl] at hb
  have hz:sumC (dnL l) b l.length=0:=by simpa using hb
  obtain ⟨ha,hme⟩:=ed_iff.1 ea
  exact sumC_zero hz a ha hme
end Go.Proofs.Ytmloedlkoijfbaa
