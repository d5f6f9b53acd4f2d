import Derived.Test.YtjahpnbijefncaaGreatCR05
import Derived.Test.YtjahpnbijefncaaGreatCR04
namespace Go.Proofs.YtjahpnbijefncaaGreat
set_option maxRecDepth 100000
set_option linter.unusedVariables false
open Go.RowKit
attribute [local go_sem ↓] Go.wp_at_zero Go.wp_at_succ
theorem info_bind:(Tryz.prog.info? 201).map (fun i=>(i.zero,i.size,i.bytes))=some (some (.agg #[.int .i64 0,.slice none 0 0]),2,32):=by kernel_rfl
def bcells (l:List (Int × Value)):List Value:=l.flatMap (fun p=>[.int .i64 p.1,p.2])
theorem bcells_snoc (l:List (Int × Value)) (p:Int × Value):bcells (l ++ [p])=bcells l ++ [.int .i64 p.1,p.2]:=by simp [bcells]
theorem bcells_at {l:List (Int × Value)} {i:Nat} (h:i<l.length):(bcells l)[i * 2]? = some (.int .i64 l[i].1)∧(bcells l)[i * 2+1]? = some l[i].2:=by
 induction l generalizing i with
 | nil=>simp at h
 | cons x r ih=>
  have e:bcells (x :: r)=.int .i64 x.1 :: x.2 :: bcells r:=by simp [bcells]
  rw [e]
  cases i with
  | zero=>simp
  | succ j=>
   obtain ⟨a,b⟩:=ih (i:=j) (by simpa using h)
   have e1:(j+1) * 2=j * 2+1+1:=by omega
   rw [e1]
   exact ⟨by simpa using a,by simpa using b⟩
theorem wpList_bind {w0:World} {ops:Array Oper} {rest:List Oper} {o:Oper} {a:Act} {Q:Exit→Act→World→Prop} (hgd:o.guard=none) (s x:Operand)
  (ho:o.op=.call { callee:=.builtin .append,args:=#[s,x],argTypes:=#[71,71] })
  (base:Nat) (l:List (Int × Value)) (v:Value) (hs:a.eval s=v) (hr:w0.ownsRow base 201 2 v l.length (bcells l)) (n:Int) (tO:Option Addr) (tl tc:Nat) (hx:a.eval x=.slice (some ⟨w0.heap.size,0,none⟩) 1 1) (hb:base≤w0.heap.size) (hsz:l.length≤140737488000)
  (h:∀ g cap w', w'.ownsRow base 201 2 (.slice (some ⟨g,0,none⟩) (l.length+1) cap) (l.length+1) (bcells l ++ [.int .i64 n,.slice tO tl tc])→Kept (fun k=>v.ownBlock=some k) w0 w' → (v.ownBlock=some g∨w0.heap.size≤g)→wpList Tryz.prog ops Q rest (a.put o.dst (.slice (some ⟨g,0,none⟩) (l.length+1) cap)) w') :
  wpList Tryz.prog ops Q (o :: rest) a (w0.alloc (.cells #[.int .i64 n,.slice tO tl tc] 201)):=by
 obtain ⟨i,hi,hz0,hz1,hz2⟩:=info_parts info_bind
 refine wpList_append_lies _ hgd s x 71 ho base 201 i _ 2 32 Tryz.underlying71 hi hz0 hz1 hz2 rfl (by decide) v l.length (bcells l) hs (World.ownsRow.alloc hr _) ⟨w0.heap.size,0,none⟩ 1 1 [.int .i64 n,.slice tO tl tc] hx rfl (World.news_of_block (cs:=#[.int .i64 n,.slice tO tl tc]) (t:=201) (fr:=(0,0)) (heap_alloc_new w0 _)) (by simp [Value.oneCell']) (by omega) (by unfold maxLen;omega) (by omega) (by simp;omega) (w0.heap.size+1) (by simp) ?_
 intro g cap w' hown hgrow hat hlt
 refine h g cap w' hown ?_ (hat.imp id (fun e=>by omega))
 exact Kept.grown (Kept.alloc (Kept.refl _ w0) _) hgrow (fun _ e _=>e)
structure BOwn (base:Nat) (w:World) (v:Value) (l:List (Int × Value)) (bs:List Bd):Prop where
 row:w.ownsRow base 201 2 v l.length (bcells l)
 len:l.length=bs.length
 each:∀ i (h:i<l.length) (h' : i<bs.length),l[i].1=bs[i].1∧Row base w l[i].2 bs[i].2∧∀ k,l[i].2.ownBlock=some k→v.ownBlock≠some k
 apart:∀ i j (hi:i<l.length) (hj:j<l.length),i≠j→∀ k,l[i].2.ownBlock=some k→l[j].2.ownBlock≠some k
theorem BOwn.nil (base:Nat) (w:World):BOwn base w (.slice none 0 0) [] []:=⟨World.ownsRow_nil _ _ _ _,rfl,fun i h=>by simp at h,fun i j h=>by simp at h⟩
theorem BOwn.kept {base:Nat} {w w' : World} {v:Value} {l:List (Int × Value)} {bs:List Bd} {S:Nat→Prop} (h:BOwn base w v l bs) (hk:Kept S w w') (hs:∀ k,base≤k→k<w.heap.size→¬ S k):BOwn base w' v l bs:=
 ⟨hk.row h.row (fun k e=>hs k (h.row.lt k e).1 (h.row.lt k e).2),h.len,fun i h1 h2=>⟨(h.each i h1 h2).1,hk.row (h.each i h1 h2).2.1 (fun k e=>hs k ((h.each i h1 h2).2.1.lt k e).1 ((h.each i h1 h2).2.1.lt k e).2),(h.each i h1 h2).2.2⟩,h.apart⟩
theorem BOwn.same {base:Nat} {w w' : World} {v:Value} {l:List (Int × Value)} {bs:List Bd} (h:BOwn base w v l bs) (hk:Same0 w w'):BOwn base w' v l bs:=h.kept hk (fun _ _ _ f=>f)
theorem BOwn.more {base:Nat} {wr w1 w2:World} {lv tv:Value} {l:List (Int × Value)} {bs:List Bd} {n:Int} {xs:List Int} {g cap:Nat} (h:BOwn base wr lv l bs) (k1:Same0 wr w1) (hb:base≤wr.heap.size) (ht:Row wr.heap.size w1 tv xs)
  (hr:w2.ownsRow base 201 2 (.slice (some ⟨g,0,none⟩) (l.length+1) cap) (l.length+1) (bcells l ++ [.int .i64 n,tv])) (k2:Kept (fun k=>lv.ownBlock=some k) w1 w2) (hat:lv.ownBlock=some g∨w1.heap.size≤g) :
  BOwn base w2 (.slice (some ⟨g,0,none⟩) (l.length+1) cap) (l ++ [(n,tv)]) (bs ++ [(n,xs)]):=by
 have z1:=k1.size
 have hl:=h.len
 have own:∀ k,lv.ownBlock=some k→k<wr.heap.size:=fun k e=>(h.row.lt k e).2
 have tl:∀ k,tv.ownBlock=some k→wr.heap.size≤k∧k<w1.heap.size:=fun k e=>ht.lt k e
 have ol:∀ i (hi:i<l.length) k,l[i].2.ownBlock=some k→k<wr.heap.size:=fun i hi k e=>((h.each i hi (by omega)).2.1.lt k e).2
 refine ⟨?_,by simp [hl],fun i h1 h2=>?_,fun i j hi hj hij k e=>?_⟩
 ·rw [bcells_snoc,List.length_append];exact hr
 ·by_cases hi:i<l.length
  ·have hi' : i<bs.length:=by omega
   obtain ⟨e1,e2,e3⟩:=h.each i hi hi'
   rw [List.getElem_append_left hi,List.getElem_append_left hi']
   refine ⟨e1,k2.row (k1.row e2 (fun _ _ f=>f)) (fun k e=>e3 k e),fun k e=>?_⟩
   simp only [Value.ownBlock,ne_eq,Option.some.injEq]
   rintro rfl
   rcases hat with y | y
   ·exact e3 _ e y
   ·have:=ol i hi _ e;omega
  ·have hi2:i=l.length:=by simp at h1;omega
   subst hi2
   have e1:(l ++ [(n,tv)])[l.length]=(n,tv):=by simp
   have e2:(bs ++ [(n,xs)])[l.length]=(n,xs):=by simp [hl]
   rw [e1,e2]
   refine ⟨rfl,row_mono (k2.row ht (fun k e f=>by have:=own k f;have:=(tl k e).1;omega)) hb,fun k e=>?_⟩
   simp only [Value.ownBlock,ne_eq,Option.some.injEq]
   rintro rfl
   have:=tl _ e
   rcases hat with y | y
   ·have:=own _ y;omega
   ·omega
 ·by_cases hi1:i<l.length
  ·rw [List.getElem_append_left hi1] at e
   by_cases hj1:j<l.length
   ·rw [List.getElem_append_left hj1]
    exact h.apart i j hi1 hj1 hij k e
   ·have:j=l.length:=by simp at hj;omega
    subst this
    have e1:(l ++ [(n,tv)])[l.length]=(n,tv):=by simp
    rw [e1]
    intro y
    have:=(tl k y).1;have:=ol i hi1 k e;omega
  ·have hi2:i=l.length:=by simp at hi;omega
   subst hi2
   have e1:(l ++ [(n,tv)])[l.length]=(n,tv):=by simp
   rw [e1] at e
   have hj1:j<l.length:=by simp at hj;omega
   rw [List.getElem_append_left hj1]
   intro y
   have:=(tl k e).1;have:=ol j hj1 k y;omega
set_option maxHeartbeats 4000000 in
theorem binds_any {N:Nat} {w:World} {A:Nat} {σ:Tb} (h:TabAt N w A σ) (hb:Bnd σ) :
  Calls Tryz.prog 62 #[.pointer (some ⟨A,0,none⟩)] w fun e w' => ∃ v l,e=.returned v∧BOwn w.heap.size w' v l (blN σ 100)∧Same0 w w' := by
 have hnil:=neqnil
 go_enter Tryz.func62,Tryz.ntmps62
 go_wp2
 go_loopw [3,8] (fun lv iv wr=>∃ (i:Nat) (l:List (Int × Value)),i≤100∧iv=.int .i64 (i:Int)∧BOwn w.heap.size wr lv l (blN σ i)∧Same0 w wr) (fun _ iv _=>100-(intOf iv).toNat)
 case atStart=>exact ⟨0,[],by omega,rfl,BOwn.nil _ _,Kept.refl _ _⟩
 case round=>
  obtain ⟨i,l,hi,rfl,hB,hs⟩:=hrel
  obtain ⟨lo,lc,rfl⟩:=row_shape hB.row
  by_cases hlt:i<100
  ·obtain ⟨ao,cap,c1,c2,c3,c4,c5⟩:=(h.same hs).cell hlt
   have i1:(0:Int)≤(i:Int):=by omega
   have i2:(i:Int)<100:=by omega
   have d1:wr.drew.cell? ⟨A,i,none⟩=some (.slice ao (σ i).length cap):=c1
   by_cases hσ:σ i=[]
   ·obtain ⟨rfl,rfl⟩:=c5 hσ
    have HB:Hid (blN σ (i+1)=blN σ i):=blN_no hσ
    clear c5 hσ
    go_wp2
    go_quiet (fail)
    go_wp2
    refine ⟨⟨i+1,l,by omega,by go_num,?_,hs.drewN _⟩,by simp [intOf];omega⟩
    rw [HB.out];exact hB.same ((Kept.refl _ wr).drewN _)
   ·have hpos:0<(σ i).length:=List.length_pos_iff.2 hσ
    have HB:Hid (blN σ (i+1)=blN σ i ++ [((i:Int),σ i)]):=blN_yes hσ
    have hlen:l.length≤100:=by have:=hB.len;have:=blN_len σ i;omega
    obtain ⟨ab,off,rfl,_,_⟩:=c3.get hpos
    have cc:Hid (∀ m,Calls Tryz.prog 94 #[.slice (some ⟨ab,off,none⟩) (σ i).length cap] (wr.drewN m) fun e w' => ∃ tO tc,e=.returned (.slice tO (σ i).length tc)∧Row wr.heap.size w' (.slice tO (σ i).length tc) (σ i)∧Same0 wr w'):=fun m=>by
     have kd:Same0 wr (wr.drewN m):=(Kept.refl _ wr).drewN m
     refine (clone_term (cap:=cap) (c3.same kd) hpos (hb i)).mono ?_
     rintro e w' ⟨v,rfl,hr,hk⟩
     obtain ⟨tO,tc,rfl⟩:=row_shape hr
     exact ⟨tO,tc,rfl,hr,kd.trans' hk⟩
    have hbs:=hs.size
    clear c5 hσ
    go_wp2
    go_quiet (fail)
    go_wp2_with (first | (go_at_call 94;refine (cc.out _).mono ?_;rintro e w1 ⟨tO,tc,rfl,hr1,hk1⟩;have hrow1:=hk1.row hB.row (fun _ _ f=>f);have hb1:w.heap.size≤w1.heap.size:=Nat.le_trans hbs hk1.size) | (at_builtin;refine wpList_bind rfl _ _ rfl w.heap.size l _ rfl hrow1 (i:Int) tO (σ i).length tc rfl hb1 (by omega) ?_;intro g gcap w2 hr2 hk2 hat2))
    have hB2:=hB.more hk1 hbs hr1 hr2 hk2 hat2
    have hs2:Same0 w w2:=(hs.trans' hk1).trans hk2 (fun k hk e=>by have:=(hB.row.lt k e).1;omega)
    rw [← HB.out] at hB2
    go_roundw
    case rel=>first | exact ⟨i+1,l ++ [((i:Int),.slice tO (σ i).length tc)],by omega,by go_num,hB2,hs2⟩ | ((repeat apply Exists.intro);exact ⟨⟨i+1,l ++ [((i:Int),.slice tO (σ i).length tc)],by omega,by go_num,hB2,hs2⟩,rfl⟩)
    case measure=>simp [intOf];omega
  ·obtain rfl:i=100:=by omega
   go_wp2
   go_ret
   exact ⟨_,l,rfl,hB,hs⟩
def BindsAt (w:World) (lo:Option Addr) (bs:List Bd):Prop:=
 bs=[]∨∃ b off,lo=some ⟨b,off,none⟩∧b<w.heap.size∧∀ i (h:i<bs.length),w.cell? ⟨b,off+i * 2,none⟩=some (.int .i64 bs[i].1)∧∃ ao cap,w.cell? ⟨b,off+i * 2+1,none⟩=some (.slice ao bs[i].2.length cap)∧IntsAt w ao bs[i].2∧bs[i].2.length≤cap∧(ao=none→bs[i].2.length=0∧cap=0)
theorem BindsAt.same {w w' : World} {lo:Option Addr} {bs:List Bd} (h:BindsAt w lo bs) (hk:Same0 w w'):BindsAt w' lo bs:=by
 refine h.imp id ?_
 rintro ⟨b,off,rfl,hlt,hc⟩
 refine ⟨b,off,rfl,Nat.lt_of_lt_of_le hlt hk.size,fun i hi=>?_⟩
 obtain ⟨c1,ao,cap,c2,c3,c4,c5⟩:=hc i hi
 exact ⟨(hk.cell (p:=⟨b,off+i * 2,none⟩) hlt (fun f=>f)).trans c1,ao,cap,(hk.cell (p:=⟨b,off+i * 2+1,none⟩) hlt (fun f=>f)).trans c2,c3.same hk,c4,c5⟩
theorem BindsAt.get {w:World} {lo:Option Addr} {bs:List Bd} (h:BindsAt w lo bs) {i:Nat} (hi:i<bs.length):∃ b off ao cap,lo=some ⟨b,off,none⟩∧b<w.heap.size∧w.cell? ⟨b,off+i * 2,none⟩=some (.int .i64 bs[i].1)∧w.cell? ⟨b,off+i * 2+1,none⟩=some (.slice ao bs[i].2.length cap)∧IntsAt w ao bs[i].2∧bs[i].2.length≤cap∧(ao=none→bs[i].2.length=0∧cap=0):=by
 rcases h with rfl | ⟨b,off,e,hlt,hc⟩
 ·simp at hi
 ·obtain ⟨c1,ao,cap,c2,c3,c4,c5⟩:=hc i hi
  exact ⟨b,off,ao,cap,e,hlt,c1,c2,c3,c4,c5⟩
theorem BOwn.at' {base:Nat} {w:World} {v:Value} {l:List (Int × Value)} {bs:List Bd} (h:BOwn base w v l bs):∃ lo cap,v=.slice lo bs.length cap∧BindsAt w lo bs∧bs.length≤cap:=by
 have hl:=h.len
 rcases h.row.2 with ⟨rfl,h0⟩ | ⟨g,cap,cur,rfl,hb,hg,h1,h2,h3,h4⟩
 ·have:bs=[]:=List.eq_nil_of_length_eq_zero (by omega)
  subst this
  exact ⟨none,0,rfl,.inl rfl,Nat.le_refl _⟩
 ·refine ⟨some ⟨g,0,none⟩,cap,by rw [hl],.inr ⟨g,0,rfl,lt_of_at hg,fun i hi=>?_⟩,by omega⟩
  have hi' : i<l.length:=by omega
  obtain ⟨e1,e2,e3⟩:=h.each i hi' hi
  obtain ⟨x1,x2⟩:=bcells_at hi'
  obtain ⟨ao,c,y1,y2,y3,y4⟩:=e2.ints
  rw [Nat.zero_add]
  refine ⟨(h.row.cellAt (i * 2) (by omega)).trans (by rw [x1,e1]),ao,c,(h.row.cellAt (i * 2+1) (by omega)).trans (by rw [x2,y1]),y2,y3,fun e=>?_⟩
  subst e
  rcases e2.2 with ⟨z1,z2⟩ | ⟨g', c', cur', z1,_⟩
  ·rw [y1] at z1;simp only [Value.slice.injEq,true_and] at z1;exact z1
  ·rw [y1] at z1;simp at z1
def tabF (L:List Sym):List Bd→Tb→Except Int Tb
 | [],σ=>.ok σ
 | b :: r,σ=>if b.1<1∨99<b.1∨σ b.1.toNat≠[] then .error 50 else if checkE L b.2≠0 then .error (checkE L b.2) else tabF L r (updT σ b.1.toNat b.2)
theorem tab_bad {L:List Sym} {b:Bd} {r:List Bd} {σ:Tb} (h:b.1<1∨99<b.1∨σ b.1.toNat≠[]):tabF L (b :: r) σ=.error 50:=by rw [tabF,if_pos h]
theorem tab_check {L:List Sym} {b:Bd} {r:List Bd} {σ:Tb} (h:¬ (b.1<1∨99<b.1∨σ b.1.toNat≠[])) (h2:checkE L b.2≠0):tabF L (b :: r) σ=.error (checkE L b.2):=by rw [tabF,if_neg h,if_pos h2]
theorem tab_go {L:List Sym} {b:Bd} {r:List Bd} {σ:Tb} (h:¬ (b.1<1∨99<b.1∨σ b.1.toNat≠[])) (h2:checkE L b.2=0):tabF L (b :: r) σ=tabF L r (updT σ b.1.toNat b.2):=by rw [tabF,if_neg h,if_neg (by rw [h2];simp)]
def OneAll (cs:Array Value):Prop:=cs.all (·.oneCell')=true
structure TabW (Z:Array Value) (w wr:World) (L:List Sym) (bs:List Bd) (i:Nat) (σ:Tb):Prop where
 tab:TabAt w.heap.size wr (w.heap.size+1) σ
 res:wr.heap[w.heap.size]? = some (.cells Z 144 (0,0))
 eq:tabF L bs noT=tabF L (bs.drop i) σ
 bnd:Bnd σ
 kept:Same0 w wr
theorem tabw_start {Z:Array Value} (hZ:Z=Array.replicate 100 (.slice none 0 0)) (w:World) (L:List Sym) (bs:List Bd):TabW Z w ((w.alloc (.cells Z 144)).alloc (.cells Z 144)) L bs 0 noT:=by
 have k1:Same0 w (w.alloc (.cells Z 144)):=(Kept.refl _ w).alloc _
 have k2:Same0 (w.alloc (.cells Z 144)) ((w.alloc (.cells Z 144)).alloc (.cells Z 144)):=(Kept.refl _ _).alloc _
 refine ⟨⟨Z,?_,hZ ▸ tab_zero _ _⟩,k2.at0 (heap_alloc_new w _),rfl,fun v=>by simp [noT],k1.trans' k2⟩
 have:=heap_alloc_new (w.alloc (.cells Z 144)) (.cells Z 144)
 rwa [World.size_alloc] at this
set_option maxHeartbeats 4000000 in
theorem tableOf_any {n b:Nat} {w:World} {L:List Sym} (h:Sg n w b L) {lo:Option Addr} {lcap:Nat} {bs:List Bd} (hl:BindsAt w lo bs) (hm:bs.length≤maxLen) (hbm:∀ x∈bs,x.2.length≤maxLen) :
  Calls Tryz.prog 63 #[.pointer (some ⟨b,0,none⟩),.slice lo bs.length lcap] w fun e w' => ∃ cs c,e=.returned (.tuple #[.agg cs,.int .i64 c])∧cs.size=100∧OneAll cs∧Same0 w w' ∧ (∀ σ,tabF L bs noT=.ok σ→c=0∧TabV w.heap.size w' cs σ∧Bnd σ)∧(∀ x,tabF L bs noT=.error x→c=x):=by
 unfold maxLen at hm
 obtain ⟨Z,hZ⟩:∃ Z:Array Value,Z=Array.replicate 100 (.slice none 0 0):=⟨_,rfl⟩
 have hz:Tryz.zeroCells144=Z:=zeros_table.trans hZ.symm
 have hZs:Z.size=100:=by rw [hZ];simp
 have hZ1:Z.all (·.oneCell')=true:=by rw [hZ];exact (tab_zero 0 w).one
 have W0:=tabw_start hZ w L bs
 have HST:Hid (∀ w' : World,w'.heap[w.heap.size]? = some (.cells Z 144 (0,0))→(storeCells ⟨w.heap.size,0,none⟩ Z.toList 0).run Tryz.prog w' = .ok () (w'.setRow w.heap.size Z)):=fun w' hr=>run_storeCells_table hr hZs hZs hZ1
 have HZ1:Hid (Z.all (·.oneCell')=true):=hZ1
 have HBM:Hid (∀ x∈bs,x.2.length≤maxLen):=hbm
 have hnil:=neqnil
 clear hZ hZ1 hbm
 -- the end with an error
 have BAD:Hid (∀ (w' : World) (c x:Int),w'.heap[w.heap.size]? = some (.cells Z 144 (0,0))→Same0 w w' → tabF L bs noT=.error x→c=x→∀ tmps:Array Value,tmps.getD 4 undef=.pointer (some ⟨w.heap.size,0,none⟩)→tmps.getD 5 undef=.int .i64 c→bodyPost Tryz.prog Tryz.f63 (fun e w' => ∃ cs c,e=.returned (.tuple #[.agg cs,.int .i64 c])∧cs.size=100∧OneAll cs∧Same0 w w' ∧ (∀ σ,tabF L bs noT=.ok σ→c=0∧TabV w.heap.size w' cs σ∧Bnd σ)∧(∀ x,tabF L bs noT=.error x→c=x)) Exit.ret { tmps:=tmps,defers:=[] } (w'.setRow w.heap.size Z)):=fun w' c x hr hk hx hc tmps h4 h5=>by
  have k1:Same0 w (w'.setRow w.heap.size Z):=hk.setRow (fun e=>by omega) Z
  refine bodyPost_ret (v:=.tuple #[.agg Z,.int .i64 c]) ?_ rfl ⟨Z,c,rfl,hZs,HZ1.out,k1,fun σ e=>(by rw [hx] at e;cases e),fun y e=>(by rw [hx] at e;cases e;exact hc)⟩
  have h4' : tmps[4]?.getD undef=.pointer (some ⟨w.heap.size,0,none⟩):=by simpa using h4
  have h5' : tmps[5]?.getD undef=.int .i64 c:=by simpa using h5
  rw [results_cell_tmp rfl]
  simp [asAddr,Result.andThen,h4', h5', run_load_table (setRow_at hr) hZs]
 go_enter Tryz.func63,Tryz.ntmps63
 go_wp2
 go_loopw [12] (fun iv wr=>∃ (i:Nat) (σ:Tb),i≤bs.length∧iv=.int .i64 (i:Int)∧TabW Z w wr L bs i σ) (fun iv _=>bs.length-(intOf iv).toNat)
 case atStart=>exact ⟨0,noT,Nat.zero_le _,rfl,W0⟩
 case round=>
  clear W0
  obtain ⟨i,σ,hi,rfl,hW⟩:=hrel
  by_cases hlt:i<bs.length
  ·have hd:bs.drop i=bs[i] :: bs.drop (i+1):=List.drop_eq_getElem_cons hlt
   have heq:=hW.eq
   rw [hd] at heq
   obtain ⟨lb,off,ao,cap,rfl,hlb,c1,c2,c3w,c4,c5⟩:=hl.get hlt
   replace c1:=(hW.kept.cell (p:=⟨lb,off+i * 2,none⟩) hlb (fun f=>f)).trans c1
   replace c2:=(hW.kept.cell (p:=⟨lb,off+i * 2+1,none⟩) hlb (fun f=>f)).trans c2
   have c3:=c3w.same hW.kept
   have hbi:=HBM.out _ (List.getElem_mem hlt)
   obtain ⟨x,hx⟩:∃ x,x=bs[i].1:=⟨_,rfl⟩
   obtain ⟨u,hu⟩:∃ u,u=bs[i].2:=⟨_,rfl⟩
   have hp:bs[i]=(x,u):=by rw [hx,hu]
   rw [hp] at heq
   rw [← hx] at c1
   rw [← hu] at c2 c3 c3w c4 c5 hbi
   have i1:(0:Int)≤(i:Int):=by omega
   have i2:(i:Int)<(bs.length:Int):=by omega
   have k3:Same0 wr (wr.alloc (.cells #[.int .i64 x,.slice ao u.length cap] 201)):=(Kept.refl _ wr).alloc _
   have K3:=hW.kept.trans' k3
   have res3:=k3.at0 hW.res
   have hst:=HST.out _ res3
   clear hx hu hp hd
   by_cases h1:x<1
   ·have HX:Hid (tabF L bs noT=.error 50):=heq.trans (tab_bad (.inl h1))
    clear heq hW
    go_wp2
    refine BAD.out _ 50 50 res3 K3 HX.out rfl _ ?_ ?_ <;> rfl
   ·by_cases h2:99<x
    ·have HX:Hid (tabF L bs noT=.error 50):=heq.trans (tab_bad (.inr (.inl h2)))
     clear heq hW
     go_wp2
     refine BAD.out _ 50 50 res3 K3 HX.out rfl _ ?_ ?_ <;> rfl
    ·obtain ⟨v,rfl⟩:∃ v:Nat,x=(v:Int):=⟨x.toNat,by omega⟩
     have j1:(0:Int)≤(v:Int):=by omega
     have j2:(v:Int)<100:=by omega
     obtain ⟨so,scap,g1,g2,g3,g4,g5⟩:=(hW.tab.same k3).cell (v:=v) (by omega)
     by_cases h3:σ v=[]
     ·obtain ⟨rfl,rfl⟩:=g5 h3
      rw [h3] at g1
      have hno:¬ ((v:Int)<1∨99<(v:Int)∨σ (v:Int).toNat≠[]):=by simp only [Int.toNat_natCast,h3];simp;omega
      have cc:=check_any (cap:=cap) (h.same K3) (c3.same k3) hbi
      by_cases h4:checkE L u=0
      ·obtain ⟨u1,_,u2⟩:=checkE_zero.1 h4
       have hpos:=isT_pos u2
       obtain ⟨ub,uoff,rfl,hub, -⟩:=c3w.get hpos
       have Hn:Hid (∀ w' : World,Same0 (wr.alloc (.cells #[.int .i64 (v:Int),.slice (some ⟨ub,uoff,none⟩) u.length cap] 201)) w' → (w'.cell? ⟨wr.heap.size,0,none⟩=some (.int .i64 (v:Int))∧w'.cell? ⟨wr.heap.size,1,none⟩=some (.slice (some ⟨ub,uoff,none⟩) u.length cap)∧w'.cell? ⟨w.heap.size+1,v,none⟩=some (.slice none 0 0)∧w'.frozen? ⟨w.heap.size+1,v,none⟩=false)∧TabW Z w (w'.setCell ⟨w.heap.size+1,v,none⟩ (.slice (some ⟨ub,uoff,none⟩) u.length cap)) L bs (i+1) (updT σ v u)):=fun w' hk' => by
        have kk:=k3.trans' hk'
        have KK:=hW.kept.trans' kk
        have hb0:=hk'.at0 (heap_alloc_new wr (.cells #[.int .i64 (v:Int),.slice (some ⟨ub,uoff,none⟩) u.length cap] 201))
        have tt:=hW.tab.same kk
        obtain ⟨so', sc', y1,y2,_,_,y5⟩:=tt.cell (v:=v) (by omega)
        obtain ⟨rfl,rfl⟩:=y5 h3
        rw [h3] at y1
        refine ⟨⟨cellAt hb0 0,cellAt hb0 1,y1,y2⟩,?_⟩
        have ks:Kept (fun k=>k=w.heap.size+1) w' (w'.setCell ⟨w.heap.size+1,v,none⟩ (.slice (some ⟨ub,uoff,none⟩) u.length cap)):=Kept.setCell (p:=⟨w.heap.size+1,v,none⟩) (Kept.refl (fun k=>k=w.heap.size+1) w') (fun _=>rfl) _
        refine ⟨tt.put (by omega) (by omega) (c3.same kk) c4 (fun e=>by rw [e] at hpos;simp at hpos) hub,ks.at (kk.at0 hW.res) (by omega),?_,bnd_upd hW.bnd u1,KK.trans ks (fun k hk e=>by omega)⟩
        rw [heq,tab_go hno h4];rfl
       rw [h4] at cc
       clear hW heq hst res3 c3 c3w c4 c5 h3 g5 g3 g4 hno u2 u1 h4
       go_wp2_with (first | (go_at_call 59;refine cc.mono ?_;rintro e w5 ⟨rfl,hk5⟩;obtain ⟨⟨e1,e2,e3,e4⟩,hW5⟩:=Hn.out w5 hk5))
       exact ⟨⟨i+1,_,by omega,by go_num,hW5⟩,by simp [intOf];omega⟩
      ·have HX:Hid (tabF L bs noT=.error (checkE L u)):=heq.trans (tab_check hno h4)
       have h4' : (checkE L u == 0)=false:=by simpa using h4
       clear hW heq hst c3 c3w c4 c5 h3 g5 g3 g4 hno h4
       go_wp2_with (first | (go_at_call 59;refine cc.mono ?_;rintro e w5 ⟨rfl,hk5⟩;have res5:=hk5.at0 res3;have hst5:=HST.out _ res5))
       refine BAD.out _ (checkE L u) (checkE L u) res5 (K3.trans' hk5) HX.out rfl _ ?_ ?_ <;> rfl
     ·obtain ⟨sb,soff,rfl, -, -⟩:=g3.get (i:=0) (List.length_pos_iff.2 h3)
      have HX:Hid (tabF L bs noT=.error 50):=heq.trans (tab_bad (.inr (.inr (by simpa using h3))))
      clear heq hW g5 g3 g4
      go_wp2
      refine BAD.out _ 50 50 res3 K3 HX.out rfl _ ?_ ?_ <;> rfl
  ·have hn:bs.drop i=[]:=List.drop_eq_nil_of_le (by omega)
   have H:Hid (tabF L bs noT=.ok σ):=by
    have:=hW.eq
    rw [hn] at this
    exact this.trans rfl
   have hb:=hW.bnd
   have hr:=hW.res
   have hk:=hW.kept
   obtain ⟨cs,t1,t2⟩:=hW.tab
   have hcs:=t2.1
   have hst:=run_storeCells_table hr hZs hcs t2.one
   have T2:Hid (TabV w.heap.size wr cs σ):=t2
   clear hW hn t2
   go_wp2
   refine wp_load_row 144 (.tmp 6) rfl _ rfl _ cs (0,0) _ t1 Tryz.underlying144 rfl (by rw [hcs];exact info_table) ?_
   go_wp2
   have k1:Same0 w (wr.setRow w.heap.size cs):=hk.setRow (fun e=>by omega) cs
   refine bodyPost_ret (v:=.tuple #[.agg cs,.int .i64 0]) ?_ rfl ⟨cs,0,rfl,hcs,T2.out.one,k1,fun σ' e=>?_,fun x e=>?_⟩
   ·rw [results_cell_tmp rfl]
    simp [asAddr,Result.andThen,run_load_table (setRow_at hr) hcs]
   ·rw [H.out] at e
    cases e
    exact ⟨rfl,T2.out.kept ((Kept.refl (fun i=>i=w.heap.size) wr).setRow (fun _=>rfl) cs) (fun k hk e=>by omega),hb⟩
   ·rw [H.out] at e;cases e
def applyE (L:List Sym) (t:List Int) (bs:List Bd):Int:=if checkE L t≠0 then checkE L t else match tabF L bs noT with | .error x=>x | .ok σ=>if 2000<(appT σ t).length then 20 else 0
def applyA (L:List Sym) (t:List Int) (bs:List Bd):List Int:=if applyE L t bs=0 then (match tabF L bs noT with | .ok σ=>appT σ t | .error _=>[]) else []
theorem tab_err_ne {L:List Sym} {bs:List Bd} {σ:Tb} {x:Int} (h:tabF L bs σ=.error x):x≠0:=by
 induction bs generalizing σ with
 | nil=>simp [tabF] at h
 | cons b r ih=>
  rw [tabF] at h
  split at h
  ·cases h;decide
  ·split at h
   ·cases h;assumption
   ·exact ih h
theorem apply_check {L:List Sym} {t:List Int} {bs:List Bd} (h:checkE L t≠0):applyE L t bs=checkE L t∧applyA L t bs=[]:=by
 have e:applyE L t bs=checkE L t:=by rw [applyE,if_pos h]
 exact ⟨e,by rw [applyA,e,if_neg h]⟩
theorem apply_err {L:List Sym} {t:List Int} {bs:List Bd} {x:Int} (h:checkE L t=0) (h2:tabF L bs noT=.error x):applyE L t bs=x∧applyA L t bs=[]:=by
 have e:applyE L t bs=x:=by rw [applyE,if_neg (by rw [h];simp),h2]
 exact ⟨e,by rw [applyA,e,if_neg (tab_err_ne h2)]⟩
theorem apply_long {L:List Sym} {t:List Int} {bs:List Bd} {σ:Tb} (h:checkE L t=0) (h2:tabF L bs noT=.ok σ) (h3:2000<(appT σ t).length):applyE L t bs=20∧applyA L t bs=[]:=by
 have e:applyE L t bs=20:=by rw [applyE,if_neg (by rw [h];simp),h2];simp [h3]
 exact ⟨e,by rw [applyA,e,if_neg (by decide)]⟩
theorem apply_ok {L:List Sym} {t:List Int} {bs:List Bd} {σ:Tb} (h:checkE L t=0) (h2:tabF L bs noT=.ok σ) (h3:¬ 2000<(appT σ t).length):applyE L t bs=0∧applyA L t bs=appT σ t:=by
 have e:applyE L t bs=0:=by rw [applyE,if_neg (by rw [h];simp),h2];simp [h3]
 exact ⟨e,by rw [applyA,e,if_pos rfl,h2]⟩
theorem app_prefix (σ:Tb) (t:List Int) (k:Nat):(appT σ (t.take k)).length≤(appT σ t).length:=by
 have:appT σ t=appT σ (t.take k)++appT σ (t.drop k):=by rw [← app_append,List.take_append_drop]
 rw [this,List.length_append];omega
theorem inst_none {σ:Tb} {n:Int} (h:partL σ n=[]):inst σ n=[n]:=by
 unfold partL at h
 unfold inst
 by_cases h0:0≤n
 ·simp [h0]
 ·rw [if_neg h0] at h;simp [h]
theorem inst_some {σ:Tb} {n:Int} (h:partL σ n≠[]):inst σ n=partL σ n:=by
 unfold partL at h ⊢
 unfold inst
 by_cases h0:0≤n
 ·rw [if_pos h0] at h;exact absurd rfl h
 ·rw [if_neg h0] at h ⊢;simp [h0,h]
set_option maxHeartbeats 4000000 in
theorem apply_any {n b:Nat} {w:World} {L:List Sym} (h:Sg n w b L) {ao lo:Option Addr} {cap lcap:Nat} {t:List Int} {bs:List Bd} (ht:IntsAt w ao t) (hm:t.length≤maxLen) (hl:BindsAt w lo bs) (hlm:bs.length≤maxLen) (hbm:∀ x∈bs,x.2.length≤maxLen) :
  Calls Tryz.prog 24 #[.pointer (some ⟨b,0,none⟩),.slice ao t.length cap,.slice lo bs.length lcap] w fun e w' => ∃ v,e=.returned (.tuple #[v,.int .i64 (applyE L t bs)])∧Row w.heap.size w' v (applyA L t bs)∧Same0 w w' := by
 have cp:=check_any (cap:=cap) h ht hm
 have hnil:=neqnil
 by_cases hz:checkE L t=0
 ·obtain ⟨t1,t2,t3⟩:=checkE_zero.1 hz
  have tv:∀ x∈t, -99≤x:=fun x hx=>((badE_zero.1 t2) x hx).2
  rw [hz] at cp
  obtain ⟨Z,hZ⟩:∃ Z:Array Value,Z=Array.replicate 100 (.slice none 0 0):=⟨_,rfl⟩
  have hzz:Tryz.zeroCells144=Z:=zeros_table.trans hZ.symm
  have hZs:Z.size=100:=by rw [hZ];simp
  have HST:Hid (∀ (w' : World) (cs:Array Value),cs.size=100→OneAll cs→(storeCells ⟨w'.heap.size,0,none⟩ cs.toList 0).run Tryz.prog (w'.alloc (.cells Z 144))=.ok () (w'.alloc (.cells cs 144))):=fun w' cs h1 h2=>run_storeCells_new w' _ Z cs (by rw [h1];exact info_table) (by omega) h2
  have CT:Hid (∀ w1,Same0 w w1→Calls Tryz.prog 63 #[.pointer (some ⟨b,0,none⟩),.slice lo bs.length lcap] w1 fun e w' => ∃ cs c,e=.returned (.tuple #[.agg cs,.int .i64 c])∧cs.size=100∧OneAll cs∧Same0 w1 w' ∧ (∀ σ,tabF L bs noT=.ok σ→c=0∧TabV w1.heap.size w' cs σ∧Bnd σ)∧(∀ x,tabF L bs noT=.error x→c=x)):=fun w1 hk=>tableOf_any (lcap:=lcap) (h.same hk) (hl.same hk) hlm hbm
  clear hZ
  cases hT:tabF L bs noT with
  | error x=>
   have HX:Hid (applyE L t bs=x∧applyA L t bs=[]):=apply_err hz hT
   have hx0:(x == 0)=false:=by simpa using tab_err_ne hT
   rw [hT] at CT
   clear hT hz
   go_enter Tryz.func24,Tryz.ntmps24
   go_wp2_with (first | (go_at_call 59;refine cp.mono ?_;rintro e w1 ⟨rfl,hk1⟩) | (go_at_call 63;refine (CT.out _ hk1).mono ?_;rintro e w2 ⟨cs,c,rfl,hcs,hone,hk2, -,hc⟩;obtain rfl:=hc x rfl;clear hc;have hst:=HST.out w2 cs hcs hone))
   go_ret2
   refine ⟨.slice none 0 0,by rw [HX.out.1];rfl,?_,(hk1.trans' hk2).alloc _⟩
   rw [HX.out.2];exact World.ownsRow_nil _ _ _ _
  | ok σ=>
   rw [hT] at CT
   have CS:Hid (∀ (w2:World) (cs:Array Value) (N:Nat),Same0 w w2→TabV N w2 cs σ→Bnd σ→Calls Tryz.prog 64 #[.pointer (some ⟨w2.heap.size,0,none⟩),.slice ao t.length cap] (w2.alloc (.cells cs 144)) fun e w' => e=.returned (.int .i64 ((appT σ t).length:Int))∧w' = w2.alloc (.cells cs 144)):=fun w2 cs N hk2 ht2 hb2=>by
    have k4:Same0 w2 (w2.alloc (.cells cs 144)):=(Kept.refl _ w2).alloc _
    exact size_any (N:=N) (cap:=cap) ⟨cs,heap_alloc_new w2 _,ht2.same k4⟩ hb2 (ht.same (hk2.trans' k4)) t1 tv
   by_cases hlong:2000<(appT σ t).length
   ·have HX:Hid (applyE L t bs=20∧applyA L t bs=[]):=apply_long hz hT hlong
    have hl2:(2000:Int)<((appT σ t).length:Int):=by omega
    clear hT hz
    go_enter Tryz.func24,Tryz.ntmps24
    go_wp2_with (first | (go_at_call 59;refine cp.mono ?_;rintro e w1 ⟨rfl,hk1⟩) | (go_at_call 63;refine (CT.out _ hk1).mono ?_;rintro e w2 ⟨cs,c,rfl,hcs,hone,hk2,hc, -⟩;obtain ⟨rfl,htb,hbn⟩:=hc σ rfl;clear hc;have hst:=HST.out w2 cs hcs hone;have csz:=CS.out w2 cs _ (hk1.trans' hk2) htb hbn) | (go_at_call 64;refine csz.mono ?_;rintro e w3 ⟨rfl,rfl⟩))
    go_ret2
    refine ⟨.slice none 0 0,by rw [HX.out.1];rfl,?_,(hk1.trans' hk2).alloc _⟩
    rw [HX.out.2];exact World.ownsRow_nil _ _ _ _
   ·have HX:Hid (applyE L t bs=0∧applyA L t bs=appT σ t):=apply_ok hz hT hlong
    have hl2:¬ (2000:Int)<((appT σ t).length:Int):=by omega
    have HL:Hid ((appT σ t).length≤2000):=by show _≤_;omega
    obtain ⟨i,hi,hz0,hz1,hz2⟩:=info_parts info_intT
    obtain ⟨M,hM⟩:∃ M,M=(appT σ t).length:=⟨_,rfl⟩
    have hM2:M≤2000:=by omega
    rw [← hM] at hl2 CS
    have HM:Hid (M=(appT σ t).length):=hM
    have hl3:decide ((2000:Int)<(M:Int))=false:=by simp;omega
    clear hT hz hM hlong
    go_enter Tryz.func24,Tryz.ntmps24
    go_wp2_with (first | (go_at_call 59;refine cp.mono ?_;rintro e w1 ⟨rfl,hk1⟩) | (go_at_call 63;refine (CT.out _ hk1).mono ?_;rintro e w2 ⟨cs,c,rfl,hcs,hone,hk2,hc, -⟩;obtain ⟨rfl,htb,hbn⟩:=hc σ rfl;clear hc;have hst:=HST.out w2 cs hcs hone;have csz:=CS.out w2 cs _ (hk1.trans' hk2) htb hbn) | (go_at_call 64;refine csz.mono ?_;rintro e w3 ⟨rfl,rfl⟩) | (at_make;refine wpList_make_own _ rfl _ _ 64 rfl (w2.alloc (.cells cs 144)).heap.size 3 i _ 1 Tryz.underlying64 hi hz0 hz1 _ _ _ M rfl rfl (by omega) (by rw [hz2];omega) (by unfold maxLen;omega) (Nat.le_refl _) ?_;intro w4 hown hgrow))
    have K3:Same0 w (w2.alloc (.cells cs 144)):=(hk1.trans' hk2).alloc _
    have T3:TabAt w1.heap.size (w2.alloc (.cells cs 144)) w2.heap.size σ:=⟨cs,heap_alloc_new w2 _,htb.same ((Kept.refl _ w2).alloc _)⟩
    have K4:=Same0.grown (Kept.refl _ _) hgrow
    have ez:(w2.alloc (.cells cs 144)).heap.size=w2.heap.size+1:=World.size_alloc _ _
    obtain ⟨W3,hW3⟩:∃ W3,W3=w2.alloc (.cells cs 144):=⟨_,rfl⟩
    rw [← hW3] at K3 T3 K4 hown ez
    have hown' : Row W3.heap.size w4 (.slice (some ⟨w2.heap.size+1,0,none⟩) 0 M) []:=by rw [← ez];exact hown
    have TV:Hid (∀ x∈t, -99≤x):=tv
    have HBN:Hid (Bnd σ):=hbn
    clear hgrow hown htb hst csz CS CT HST hW3 ez cp tv hbn hk1 hk2 hone
    go_loopw [12,39] (fun uv iv wr=>∃ k:Nat,k≤t.length∧iv=.int .i64 (k:Int)∧Row W3.heap.size wr uv (appT σ (t.take k))∧Same0 W3 wr) (fun _ iv _=>t.length-(intOf iv).toNat)
    case atStart=>exact ⟨0,Nat.zero_le _,rfl,hown', K4⟩
    case round=>
     clear hown' K4
     obtain ⟨k,hk,rfl,hr,hs⟩:=hrel
     obtain ⟨uo,uc,rfl⟩:=row_shape hr
     by_cases hlt:k<t.length
     ·obtain ⟨tb,off,rfl,htb,hc⟩:=(ht.same (K3.trans' hs)).get hlt
      have i1:(0:Int)≤(k:Int):=by omega
      have i2:(k:Int)<(t.length:Int):=by omega
      have c:=part_any (T3.same hs) t[k] (TV.out _ (List.getElem_mem hlt))
      have hpl:=part_len HBN.out t[k]
      have hle:(appT σ (t.take k)).length≤2000:=Nat.le_trans (app_prefix σ t k) HL.out
      have hs0:=hs.size
      by_cases hp:partL σ t[k]=[]
      ·have E1:Hid (appT σ (t.take (k+1))=appT σ (t.take k) ++ [t[k]]):=by show _=_;rw [app_take hlt,inst_none hp]
       have cc:Calls Tryz.prog 65 #[.pointer (some ⟨w2.heap.size,0,none⟩),.int .i64 t[k]] wr fun e w' => e=.returned (.slice none 0 0)∧w' = wr:=by
        refine c.mono ?_
        rintro e w' ⟨xo,xc,rfl,_,_,x3,rfl⟩
        obtain ⟨rfl,rfl⟩:=x3 hp
        exact ⟨by rw [hp];rfl,rfl⟩
       clear c hp
       generalize appT σ (t.take k)=X at *
       go_wp2_with (first | (go_at_call 65;refine cc.mono ?_;rintro e w' ⟨rfl,rfl⟩) | (at_builtin;refine wpList_push rfl _ _ 64 rfl Tryz.underlying64 W3.heap.size X _ rfl hr t[k] rfl hs0 (by omega) ?_;intro g gcap w5 hr5 hk5 _;have hs5:=hs.onto hr hk5))
       rw [← E1.out] at hr5
       go_roundw
       case rel=>first | exact ⟨k+1,by omega,by go_num,hr5,hs5⟩ | ((repeat apply Exists.intro);exact ⟨⟨k+1,by omega,by go_num,hr5,hs5⟩,rfl⟩)
       case measure=>simp [intOf];omega
      ·have E1:Hid (appT σ (t.take (k+1))=appT σ (t.take k)++partL σ t[k]):=by show _=_;rw [app_take hlt,inst_some hp]
       have cc:Calls Tryz.prog 65 #[.pointer (some ⟨w2.heap.size,0,none⟩),.int .i64 t[k]] wr fun e w' => ∃ pb po pc,e=.returned (.slice (some ⟨pb,po,none⟩) (partL σ t[k]).length pc)∧IntsAt wr (some ⟨pb,po,none⟩) (partL σ t[k])∧w' = wr:=by
        refine c.mono ?_
        rintro e w' ⟨xo,xc,rfl,x1,_,_,rfl⟩
        obtain ⟨pb,po,rfl,_,_⟩:=x1.get (i:=0) (List.length_pos_iff.2 hp)
        exact ⟨pb,po,xc,rfl,x1,rfl⟩
       clear c hp
       generalize appT σ (t.take k)=X at *
       generalize partL σ t[k]=Y at *
       go_wp2_with (first | (go_at_call 65;refine cc.mono ?_;rintro e w' ⟨pb,po,pc,rfl,hy,rfl⟩) | (at_builtin;refine wpList_more rfl _ _ 64 rfl Tryz.underlying64 W3.heap.size X _ rfl hr Y _ _ _ rfl rfl hy hs0 (by omega) ?_;intro v5 w5 hr5 hk5;have hs5:=hs.onto hr hk5))
       rw [← E1.out] at hr5
       obtain ⟨vo,vc,rfl⟩:=row_shape hr5
       go_roundw
       case rel=>first | exact ⟨k+1,by omega,by go_num,hr5,hs5⟩ | ((repeat apply Exists.intro);exact ⟨⟨k+1,by omega,by go_num,hr5,hs5⟩,rfl⟩)
       case measure=>simp [intOf];omega
     ·have E1:Hid (appT σ t=appT σ (t.take k)):=by show _=_;rw [List.take_of_length_le (by omega)]
      have hr2:=row_mono hr K3.size
      clear hr
      go_wp2
      go_ret2
      refine ⟨_,by rw [HX.out.1];rfl,?_,K3.trans' hs⟩
      rw [HX.out.2,E1.out];exact hr2
 ·have hz' : (checkE L t == 0)=false:=by simpa using hz
  have HX:Hid (applyE L t bs=checkE L t∧applyA L t bs=[]):=apply_check hz
  go_enter Tryz.func24,Tryz.ntmps24
  go_wp2_with (first | (go_at_call 59;refine cp.mono ?_;rintro e w1 ⟨rfl,hk1⟩))
  go_ret2
  refine ⟨.slice none 0 0,by rw [HX.out.1];rfl,?_,hk1⟩
  rw [HX.out.2];exact World.ownsRow_nil _ _ _ _
def matchE (L:List Sym) (p t:List Int) (a:Int):Int:=if checkE L p≠0 then checkE L p else placeE L t a
def matchS (L:List Sym) (p t:List Int) (a:Int):Option Tb:=if matchE L p t a=0 then mw L p (subN L t a.toNat) noT else none
def matchB (L:List Sym) (p t:List Int) (a:Int):List Bd:=match matchS L p t a with | some σ=>blN σ 100 | none=>[]
theorem match_bad {L:List Sym} {p t:List Int} {a:Int} (h:matchE L p t a≠0):matchS L p t a=none∧matchB L p t a=[]:=by
 have h1:matchS L p t a=none:=by rw [matchS,if_neg h]
 exact ⟨h1,by rw [matchB,h1]⟩
set_option maxHeartbeats 4000000 in
theorem match_any {n b:Nat} {w:World} {L:List Sym} (h:Sg n w b L) (hn:n≤w.heap.size) {po ao:Option Addr} {pcap cap:Nat} {p t:List Int} (hp:IntsAt w po p) (hpm:p.length≤maxLen) (ht:IntsAt w ao t) (hm:t.length≤maxLen) (hcap:t.length≤cap) (a:Int) :
  Calls Tryz.prog 23 #[.pointer (some ⟨b,0,none⟩),.slice po p.length pcap,.slice ao t.length cap,.int .i64 a] w fun e w' => ∃ v l,e=.returned (.tuple #[v,.bool (matchS L p t a).isSome,.int .i64 (matchE L p t a)])∧BOwn w.heap.size w' v l (matchB L p t a)∧Same0 w w' := by
 have cp:=check_any (cap:=pcap) h hp hpm
 by_cases hz:checkE L p=0
 ·have cs1:Hid (∀ w1,Same0 w w1→Calls Tryz.prog 60 #[.pointer (some ⟨b,0,none⟩),.slice ao t.length cap,.int .i64 a] w1 fun e w' => ∃ v,e=.returned (.tuple #[v,.int .i64 (placeE L t a)])∧Row w1.heap.size w' v (subA L t a)∧Same0 w1 w'):=fun w1 hk=>sub_any (cap:=cap) (h.same hk) (ht.same hk) hm hcap a
  have HE:matchE L p t a=placeE L t a:=by simp [matchE,hz]
  rw [hz] at cp
  by_cases hq:placeE L t a=0
  ·obtain ⟨q,rfl,hql,h0,h1,h2⟩:=place_zero hq
   obtain ⟨p1,p2,p3⟩:=checkE_zero.1 hz
   have pv:∀ x∈p, -99≤x:=fun x hx=>((badE_zero.1 p2) x hx).2
   have HS:matchS L p t q=mw L p (subN L t q) noT:=by rw [matchS,HE,if_pos hq];rfl
   have HA:subA L t q=subN L t q:=by rw [subA,if_pos hq];rfl
   have hsl:=sub_length h2 hql
   have hle:=endN_le h2 hql
   have hst:=sub_need h2 hql
   have c2:Hid (∀ w1,Same0 w w1→Calls Tryz.prog 60 #[.pointer (some ⟨b,0,none⟩),.slice ao t.length cap,.int .i64 (q:Int)] w1 fun e w' => ∃ uo uc,e=.returned (.tuple #[.slice uo (subN L t q).length uc,.int .i64 0])∧Same0 w w' ∧ Calls Tryz.prog 61 #[.pointer (some ⟨b,0,none⟩),.slice po p.length pcap,.slice uo (subN L t q).length uc] w' fun e w'' => ∃ cs f,e=.returned (.tuple #[.agg cs,.bool f])∧cs.size=100∧Same0 w w'' ∧ f=(matchS L p t q).isSome∧cs.all (·.oneCell')=true∧∀ σ,matchS L p t q=some σ→TabV w''.heap.size w'' cs σ∧Bnd σ):=fun w1 hk=>by
    refine (cs1.out w1 hk).mono ?_
    rintro e w2 ⟨v,rfl,hr,hk2⟩
    rw [HA] at hr
    obtain ⟨uo,uc,rfl,u1,u2,u3⟩:=hr.ints
    have K2:=hk.trans' hk2
    have hn2:n≤w2.heap.size:=Nat.le_trans hn K2.size
    refine ⟨uo,uc,by rw [hq],K2,?_⟩
    have sg2:Sg w2.heap.size w2 b L:=by
     obtain ⟨⟨sv,mr,x1,x2⟩,x3⟩:=h.same K2
     exact ⟨⟨sv,mr,x1,fun k e=>by have:=x2 k e;omega⟩,x3⟩
    refine (walk_any (pcap:=pcap) sg2 (hp.same K2) u1 p1 (by omega) u2 pv (even_term p3 hst) (isT_pos hst)).mono ?_
    rintro e w3 ⟨cs,f,rfl,hk3,y1,y2⟩
    have z3:=hk3.size
    have K3:=K2.trans' hk3
    rw [HS]
    cases hm:mw L p (subN L t q) noT with
    | none=>
     obtain ⟨rfl,ty⟩:=y2 hm
     exact ⟨cs,false,rfl,ty.1,K3,rfl,ty.one,fun σ e=>by cases e⟩
    | some σ=>
     obtain ⟨rfl,ty,tb⟩:=y1 σ hm
     refine ⟨cs,true,rfl,ty.1,K3,rfl,ty.one,fun σ' e=>?_⟩
     cases e
     refine ⟨⟨ty.1,fun v hv=>?_⟩,tb⟩
     obtain ⟨xo,xc,g1,g2,g3,g4,g5⟩:=ty.2 v hv
     exact ⟨xo,xc,g1,g2,g3,g4,fun a e=>by have:=g5 a e;omega⟩
   have HE' : Hid (matchE L p t q=0):=by show _=_;rw [HE];exact hq
   obtain ⟨Z,hZ⟩:∃ Z:Array Value,Z=Array.replicate 100 (.slice none 0 0):=⟨_,rfl⟩
   have hzz:Tryz.zeroCells144=Z:=zeros_table.trans hZ.symm
   have hZs:Z.size=100:=by rw [hZ];simp
   have HST:Hid (∀ (w' : World) (cs:Array Value),cs.size=100→cs.all (·.oneCell')=true→(storeCells ⟨w'.heap.size,0,none⟩ cs.toList 0).run Tryz.prog (w'.alloc (.cells Z 144))=.ok () (w'.alloc (.cells cs 144))):=fun w' cs h1 h2=>run_storeCells_new w' _ Z cs (by rw [h1];exact info_table) (by omega) h2
   clear hZ cs1 hq HE HS HA hsl hle hst h2 h1 h0 hz p1 p2 p3 pv
   cases hS:matchS L p t q with
   | none=>
    have HB:Hid (matchB L p t q=[]):=by show _=_;rw [matchB,hS]
    rw [hS] at c2
    go_enter Tryz.func23,Tryz.ntmps23
    go_wp2_with (first | (go_at_call 59;refine cp.mono ?_;rintro e w1 ⟨rfl,hk1⟩) | (go_at_call 60;refine (c2.out _ hk1).mono ?_;rintro e w2 ⟨uo,uc,rfl,hk2,cw⟩) | (go_at_call 61;refine cw.mono ?_;rintro e w3 ⟨cs,f,rfl,hcs,hk3,rfl,hone,_⟩;have hst:=HST.out w3 cs hcs hone))
    go_ret3
    refine ⟨.slice none 0 0,[],by rw [HE'.out];rfl,?_,hk3.alloc _⟩
    rw [HB.out];exact BOwn.nil _ _
   | some σ=>
    have HB:Hid (matchB L p t q=blN σ 100):=by show _=_;rw [matchB,hS]
    rw [hS] at c2
    have cB:Hid (∀ (w3:World) (cs:Array Value),Same0 w w3→TabV w3.heap.size w3 cs σ→Bnd σ→Calls Tryz.prog 62 #[.pointer (some ⟨w3.heap.size,0,none⟩)] (w3.alloc (.cells cs 144)) fun e w' => ∃ v l,e=.returned v∧BOwn w.heap.size w' v l (blN σ 100)∧Same0 w w'):=fun w3 cs hk3 ht3 hb3=>by
     have k4:Same0 w3 (w3.alloc (.cells cs 144)):=(Kept.refl _ w3).alloc _
     refine (binds_any (N:=w3.heap.size) (A:=w3.heap.size) (w:=w3.alloc (.cells cs 144)) ⟨cs,heap_alloc_new w3 _,ht3.same k4⟩ hb3).mono ?_
     rintro e w5 ⟨v,l,rfl,hB,hk5⟩
     have K5:=(hk3.trans' k4)
     have z5:=K5.size
     exact ⟨v,l,rfl,⟨row_mono hB.row z5,hB.len,fun i x y=>⟨(hB.each i x y).1,row_mono (hB.each i x y).2.1 z5,(hB.each i x y).2.2⟩,hB.apart⟩,K5.trans' hk5⟩
    go_enter Tryz.func23,Tryz.ntmps23
    go_wp2_with (first | (go_at_call 59;refine cp.mono ?_;rintro e w1 ⟨rfl,hk1⟩) | (go_at_call 60;refine (c2.out _ hk1).mono ?_;rintro e w2 ⟨uo,uc,rfl,hk2,cw⟩) | (go_at_call 61;refine cw.mono ?_;rintro e w3 ⟨cs,f,rfl,hcs,hk3,rfl,hone,htt⟩;have hst:=HST.out w3 cs hcs hone;have cbb:=cB.out w3 cs hk3 (htt σ rfl).1 (htt σ rfl).2;clear htt) | (go_at_call 62;refine cbb.mono ?_;rintro e w5 ⟨v,l,rfl,hB,hk5⟩))
    go_ret3
    refine ⟨v,l,by rw [HE'.out];rfl,?_,hk5⟩
    rw [HB.out];exact hB
  ·have hq' : (placeE L t a == 0)=false:=by simpa using hq
   have HE' : Hid (matchE L p t a=placeE L t a∧matchS L p t a=none∧matchB L p t a=[]):=⟨HE,match_bad (by rw [HE];exact hq)⟩
   clear HE hz
   go_enter Tryz.func23,Tryz.ntmps23
   go_wp2_with (first | (go_at_call 59;refine cp.mono ?_;rintro e w1 ⟨rfl,hk1⟩) | (go_at_call 60;refine (cs1.out _ hk1).mono ?_;rintro e w2 ⟨v,rfl,hr,hk2⟩))
   go_ret3
   refine ⟨.slice none 0 0,[],by rw [HE'.out.1,HE'.out.2.1];rfl,?_,hk1.trans' hk2⟩
   rw [HE'.out.2.2];exact BOwn.nil _ _
 ·have hz' : (checkE L p == 0)=false:=by simpa using hz
  have HE' : Hid (matchE L p t a=checkE L p∧matchS L p t a=none∧matchB L p t a=[]):=by
   have e:matchE L p t a=checkE L p:=by simp [matchE,hz]
   exact ⟨e,match_bad (by rw [e];exact hz)⟩
  go_enter Tryz.func23,Tryz.ntmps23
  go_wp2_with (first | (go_at_call 59;refine cp.mono ?_;rintro e w1 ⟨rfl,hk1⟩))
  go_ret3
  refine ⟨.slice none 0 0,[],by rw [HE'.out.1,HE'.out.2.1];rfl,?_,hk1⟩
  rw [HE'.out.2.2];exact BOwn.nil _ _
end Go.Proofs.YtjahpnbijefncaaGreat
namespace Go.Proofs.YtjahpnbijefncaaGreat
set_option linter.unusedVariables false
def vn (n:Int):Nat:=(-n).toNat
theorem mw_ext {L:List Sym} {p ts:List Int} {σ σ' : Tb} (he:Even L p ts) (h:mw L p ts σ=some σ'):∀ v,σ v≠[]→σ' v=σ v:=by
 induction p generalizing ts σ with
 | nil=>simp [mw] at h;subst h;intros;rfl
 | cons n r ih=>
  obtain ⟨x,ts', rfl,h1,h2⟩:=he.cons
  intro v hv
  by_cases hn:0≤n
  ·rw [mw_sym hn] at h
   by_cases e:x=n
   ·rw [if_pos e] at h;exact ih (h1 hn e) h v hv
   ·rw [if_neg e] at h;cases h
  ·obtain ⟨m,g1,g2,g3,g4,g5,g6⟩:=h2 hn
   by_cases hs:σ (-n).toNat=[]
   ·rw [mw_new hn hs,g5] at h
    have hne:v≠(-n).toNat:=fun e=>hv (by rw [e];exact hs)
    have:=ih g6 h v (by rw [upd_else hne];exact hv)
    rw [this,upd_else hne]
   ·rw [mw_old hn hs,g5] at h
    split at h
    ·exact ih g6 h v hv
    ·cases h
theorem mw_made {L:List Sym} {p ts:List Int} {σ σ' : Tb} (he:Even L p ts) (h:mw L p ts σ=some σ'):appT σ' p=ts:=by
 induction p generalizing ts σ with
 | nil=>rw [he.nil];rfl
 | cons n r ih=>
  obtain ⟨x,ts', rfl,h1,h2⟩:=he.cons
  by_cases hn:0≤n
  ·rw [mw_sym hn] at h
   by_cases e:x=n
   ·rw [if_pos e] at h
    rw [app_cons,ih (h1 hn e) h,inst,if_pos (.inl hn),e];rfl
   ·rw [if_neg e] at h;cases h
  ·obtain ⟨m,g1,g2,g3,g4,g5,g6⟩:=h2 hn
   have hne:headT L (x :: ts')≠[]:=fun e=>by rw [e] at g5;simp at g5;omega
   have fin:σ' (-n).toNat=headT L (x :: ts')→appT σ' r=(x :: ts').drop m→appT σ' (n :: r)=x :: ts' := fun q1 q2=>by
    rw [app_cons,q2,inst,if_neg (by rw [q1];simp [hne,hn]),q1,g4,List.take_append_drop]
   by_cases hs:σ (-n).toNat=[]
   ·rw [mw_new hn hs,g5] at h
    refine fin ?_ (ih g6 h)
    have:=mw_ext g6 h (-n).toNat (by rw [upd_same];exact hne)
    rw [this,upd_same]
   ·rw [mw_old hn hs,g5] at h
    split at h
    ·rename_i hq
     exact fin (by rw [mw_ext g6 h _ hs,hq]) (ih g6 h)
    ·cases h
theorem mw_vars {L:List Sym} {p ts:List Int} {σ σ' : Tb} (he:Even L p ts) (h:mw L p ts σ=some σ') (v:Nat):σ' v≠[] ↔ (σ v≠[]∨∃ n∈p,n<0∧(-n).toNat=v):=by
 induction p generalizing ts σ with
 | nil=>simp [mw] at h;subst h;simp
 | cons n r ih=>
  obtain ⟨x,ts', rfl,h1,h2⟩:=he.cons
  by_cases hn:0≤n
  ·rw [mw_sym hn] at h
   by_cases e:x=n
   ·rw [if_pos e] at h
    rw [ih (h1 hn e) h]
    constructor
    ·rintro (q | ⟨y,q1,q2⟩)
     ·exact .inl q
     ·exact .inr ⟨y,List.mem_cons_of_mem _ q1,q2⟩
    ·rintro (q | ⟨y,q1,q2,q3⟩)
     ·exact .inl q
     ·rcases List.mem_cons.1 q1 with q | q
      ·subst q;omega
      ·exact .inr ⟨y,q,q2,q3⟩
   ·rw [if_neg e] at h;cases h
  ·obtain ⟨m,g1,g2,g3,g4,g5,g6⟩:=h2 hn
   have hne:headT L (x :: ts')≠[]:=fun e=>by rw [e] at g5;simp at g5;omega
   have key:∀ τ:Tb,(∀ u,τ u≠[] ↔ (σ u≠[]∨u=(-n).toNat))→(σ' v≠[] ↔ (τ v≠[]∨∃ n∈r,n<0∧(-n).toNat=v))→(σ' v≠[] ↔ (σ v≠[]∨∃ y∈n :: r,y<0∧(-y).toNat=v)):=fun τ q1 q2=>by
    rw [q2,q1]
    constructor
    ·rintro ((q | q) | ⟨y,q3,q4⟩)
     ·exact .inl q
     ·exact .inr ⟨n,by simp,by omega,q.symm⟩
     ·exact .inr ⟨y,List.mem_cons_of_mem _ q3,q4⟩
    ·rintro (q | ⟨y,q3,q4,q5⟩)
     ·exact .inl (.inl q)
     ·rcases List.mem_cons.1 q3 with q | q
      ·subst q;exact .inl (.inr q5.symm)
      ·exact .inr ⟨y,q,q4,q5⟩
   by_cases hs:σ (-n).toNat=[]
   ·rw [mw_new hn hs,g5] at h
    refine key _ (fun u=>?_) (ih g6 h)
    by_cases e:u=(-n).toNat
    ·subst e;rw [upd_same];simp [hne]
    ·rw [upd_else e];simp [e]
   ·rw [mw_old hn hs,g5] at h
    split at h
    ·refine key σ (fun u=>?_) (ih g6 h)
     constructor
     ·exact .inl
     ·rintro (q | q)
      ·exact q
      ·rw [q];exact hs
    ·cases h
theorem sub_check {L:List Sym} {ts:List Int} {m:Nat} (hb:badE L ts=0) (hl:ts.length≤2000) (h:scan L 1 ts=some m):checkE L (ts.take m)=0:=by
 obtain ⟨h1,h2⟩:=scan_need h
 refine checkE_zero.2 ⟨by rw [List.length_take];omega,?_,h2⟩
 rw [badE_zero] at hb ⊢
 exact fun x hx=>hb x (List.mem_of_mem_take hx)
theorem mw_good {L:List Sym} {p ts:List Int} {σ σ' : Tb} (he:Even L p ts) (hb:badE L ts=0) (hl:ts.length≤2000) (h:mw L p ts σ=some σ') (hσ:∀ v,σ v≠[]→checkE L (σ v)=0):∀ v,σ' v≠[]→checkE L (σ' v)=0:=by
 induction p generalizing ts σ with
 | nil=>simp [mw] at h;subst h;exact hσ
 | cons n r ih=>
  obtain ⟨x,ts', rfl,h1,h2⟩:=he.cons
  have hbd:∀ m,badE L ((x :: ts').drop m)=0:=fun m=>by
   rw [badE_zero] at hb ⊢
   exact fun y hy=>hb y (List.mem_of_mem_drop hy)
  by_cases hn:0≤n
  ·rw [mw_sym hn] at h
   by_cases e:x=n
   ·rw [if_pos e] at h
    exact ih (h1 hn e) (hbd 1) (by simp at hl;omega) h hσ
   ·rw [if_neg e] at h;cases h
  ·obtain ⟨m,g1,g2,g3,g4,g5,g6⟩:=h2 hn
   have hdl:((x :: ts').drop m).length≤2000:=by rw [List.length_drop];omega
   by_cases hs:σ (-n).toNat=[]
   ·rw [mw_new hn hs,g5] at h
    refine ih g6 (hbd m) hdl h (fun v hv=>?_)
    by_cases e:v=(-n).toNat
    ·subst e;rw [upd_same,g4];exact sub_check hb hl g1
    ·rw [upd_else e] at hv ⊢;exact hσ v hv
   ·rw [mw_old hn hs,g5] at h
    split at h
    ·exact ih g6 (hbd m) hdl h hσ
    ·cases h
def cutT (σ:Tb) (n:Nat):Tb:=fun v=>if v<n then σ v else []
theorem tab_bl {L:List Sym} {σ:Tb} (h0:σ 0=[]) (hg:∀ v,σ v≠[]→checkE L (σ v)=0) (n:Nat) (hn:n≤100) (rest:List Bd):tabF L (blN σ n++rest) noT=tabF L rest (cutT σ n):=by
 induction n generalizing rest with
 | zero=>rw [blN_zero];congr 1
 | succ n ih=>
  have hc:∀ u,cutT σ (n+1) u=if u=n then σ n else cutT σ n u:=fun u=>by
   unfold cutT
   by_cases e:u=n
   ·subst e;simp
   ·by_cases e2:u<n
    ·rw [if_pos (by omega),if_neg e,if_pos e2]
    ·rw [if_neg (by omega),if_neg e,if_neg e2]
  by_cases hs:σ n=[]
  ·rw [blN_no hs,ih (by omega)]
   congr 1
   funext u
   rw [hc u]
   split
   ·rename_i e;rw [e,hs];simp [cutT]
   ·rfl
  ·have h1:n≠0:=fun e=>hs (by rw [e];exact h0)
   rw [blN_yes hs,List.append_assoc,ih (by omega)]
   rw [List.cons_append,List.nil_append,tab_go (by simp [cutT];omega) (hg n hs)]
   congr 1
   funext u
   rw [hc u]
   simp [updT]
theorem fits_tab {L:List Sym} {p ts:List Int} {σ:Tb} (hp:∀ x∈p, -99≤x) (he:Even L p ts) (hb:badE L ts=0) (hl:ts.length≤2000) (h:mw L p ts noT=some σ):tabF L (blN σ 100) noT=.ok σ∧(∀ v,σ v≠[] ↔ ∃ n∈p,n<0∧(-n).toNat=v):=by
 have hv:∀ v,σ v≠[] ↔ ∃ n∈p,n<0∧(-n).toNat=v:=fun v=>by
  rw [mw_vars he h v];simp [noT]
 have hg:=mw_good he hb hl h (fun v q=>by simp [noT] at q)
 have hz:∀ v,100≤v∨v=0→σ v=[]:=fun v q=>Classical.byContradiction fun hne=>by
  obtain ⟨n,hn,hn0,rfl⟩:=(hv v).1 hne
  have:=hp n hn
  omega
 refine ⟨?_,hv⟩
 have:=tab_bl (hz 0 (.inr rfl)) hg 100 (Nat.le_refl _) []
 rw [List.append_nil] at this
 rw [this]
 show Except.ok (cutT σ 100)=_
 congr 1
 funext v
 unfold cutT
 split
 ·rfl
 ·exact (hz v (.inl (by omega))).symm
end Go.Proofs.YtjahpnbijefncaaGreat
namespace Go.Proofs.YtjahpnbijefncaaGreat
set_option maxRecDepth 100000
set_option linter.unusedVariables false
open Go.RowKit
attribute [local go_sem ↓] Go.wp_at_zero Go.wp_at_succ
end Go.Proofs.YtjahpnbijefncaaGreat
namespace Go.Proofs.YtjahpnbijefncaaGreat
set_option linter.unusedVariables false
structure Ren (f f' : Int→Int) (n:Int):Prop where
 back:f' (f n)=n
 neg:n<0→f n<0
 pos:0≤n→f n=n
theorem ren_mem {f f' : Int→Int} {o:List Int} {x:Int} (ho:∀ n∈o,Ren f f' n) (hx:Ren f f' x):f x∈o.map f ↔ x∈o:=by
 rw [List.mem_map]
 constructor
 ·rintro ⟨y,hy,e⟩
  have:=congrArg f' e
  rw [(ho y hy).back,hx.back] at this
  rw [← this];exact hy
 ·intro h;exact ⟨x,h,rfl⟩
theorem ren_idx {f f' : Int→Int}:∀ {o:List Int} {x:Int},(∀ n∈o,Ren f f' n)→Ren f f' x→(o.map f).idxOf (f x)=o.idxOf x
 | [],x,_,_=>rfl
 | y :: r,x,ho,hx=>by
  rw [List.map_cons,List.idxOf_cons,List.idxOf_cons,ren_idx (fun n hn=>ho n (by simp [hn])) hx]
  by_cases e:y=x
  ·subst e;simp
  ·have:¬ f y=f x:=fun g=>e (by have:=congrArg f' g;rwa [(ho y (by simp)).back,hx.back] at this)
   have h1:(y == x)=false:=by simpa using e
   have h2:(f y == f x)=false:=by simpa using this
   rw [h1,h2]
theorem wrF_ren {f f' : Int→Int} (u:List Int):∀ (o:List Int),(∀ n∈o,Ren f f' n)→(∀ n∈u,Ren f f' n)→wrF (o.map f) (u.map f)=wrF o u:=by
 induction u with
 | nil=>intro o _ _;rfl
 | cons x r ih=>
  intro o ho hu
  have hx:=hu x (by simp)
  have ev:vzs (o.map f) (f x)=(vzs o x).map f:=by
   unfold vzs
   by_cases h:x<0∧¬ x∈o
   ·rw [if_pos h,if_pos ⟨hx.neg h.1,fun g=>h.2 ((ren_mem ho hx).1 g)⟩];simp
   ·rw [if_neg h,if_neg (fun g=>h ⟨by
     by_cases q:x<0
     ·exact q
     ·have:=hx.pos (by omega);omega,fun q=>g.2 ((ren_mem ho hx).2 q)⟩)]
  have hv:∀ n∈vzs o x,Ren f f' n:=by
   intro n hn
   unfold vzs at hn
   split at hn
   ·rcases List.mem_append.1 hn with q | q
    ·exact ho n q
    ·simp only [List.mem_cons,List.not_mem_nil,or_false] at q;subst q;exact hx
   ·exact ho n hn
  rw [List.map_cons,wrF,wrF,ev,ih _ hv (fun n hn=>hu n (by simp [hn]))]
  congr 1
  unfold rn
  by_cases h:x<0
  ·rw [if_pos h,if_pos (hx.neg h),ren_idx hv hx]
  ·rw [if_neg h,if_neg (by rw [hx.pos (by omega)];exact h),hx.pos (by omega)]
theorem sub_one {L:List Sym} {g:Int→List Int}:∀ (u:List Int),(∀ n∈u,n<0→IsT L (g n))→(subV g u).length=u.length→subV g u=u.map (fun n=>if n<0 then (g n).headD 0 else n)
 | [],_,_=>rfl
 | n :: r,h,e=>by
  have h1:=subV_len r (fun m hm=>h m (by simp [hm]))
  rw [subV_cons,List.length_append,List.length_cons] at e
  rw [subV_cons,List.map_cons]
  by_cases hn:n<0
  ·have h2:=isT_pos (h n (by simp) hn)
   rw [if_pos hn] at e ⊢
   rw [if_pos hn]
   have h3:(g n).length=1:=by omega
   obtain ⟨y,hy⟩:=List.length_eq_one_iff.1 h3
   rw [sub_one r (fun m hm=>h m (by simp [hm])) (by omega),hy];rfl
  ·rw [if_neg hn] at e ⊢
   rw [if_neg hn]
   simp only [List.length_cons,List.length_nil] at e
   rw [sub_one r (fun m hm=>h m (by simp [hm])) (by omega)];rfl
theorem both_ways {L:List Sym} {u v:List Int} {g g' : Int→List Int} (h1:∀ n∈u,n<0→IsT L (g n)) (h2:∀ n∈v,n<0→IsT L (g' n)) (e1:v=subV g u) (e2:u=subV g' v):wrF [] v=wrF [] u:=by
 have l1:=subV_len u h1
 have l2:=subV_len v h2
 rw [← e1] at l1
 rw [← e2] at l2
 have m1:=sub_one u h1 (by rw [← e1];omega)
 have m2:=sub_one v h2 (by rw [← e2];omega)
 rw [← e1] at m1
 rw [← e2] at m2
 obtain ⟨f,hf⟩:∃ f:Int→Int,f=fun n=>if n<0 then (g n).headD 0 else n:=⟨_,rfl⟩
 obtain ⟨f', hf'⟩:∃ f:Int→Int,f=fun n=>if n<0 then (g' n).headD 0 else n:=⟨_,rfl⟩
 rw [← hf] at m1
 rw [← hf'] at m2
 have hb:∀ n∈u,f' (f n)=n:=by
  have:u=u.map (fun n=>f' (f n)):=by rw [m1,List.map_map] at m2;exact m2
  intro n hn
  obtain ⟨i,hi,rfl⟩:=List.getElem_of_mem hn
  have h3:=congrArg (fun l=>l[i]?) this
  simp only [List.getElem?_map,List.getElem?_eq_getElem hi,Option.map_some,Option.some.injEq] at h3
  exact h3.symm
 have hpos:∀ n,0≤n→f n=n:=fun n hn=>by rw [hf];simp only;rw [if_neg (by omega)]
 have hpos' : ∀ n,0≤n→f' n=n:=fun n hn=>by rw [hf'];simp only;rw [if_neg (by omega)]
 have hr:∀ n∈u,Ren f f' n:=fun n hn=>⟨hb n hn,fun hn0=>by
  by_cases q:f n<0
  ·exact q
  ·have:=hb n hn;rw [hpos' _ (by omega)] at this;omega,hpos n⟩
 have:=wrF_ren u [] (by simp) hr
 rw [m1];exact this
theorem subV_flat {α:Type} (f:Int→List Int) (g:α→List Int) (l:List α):subV f (l.flatMap g)=l.flatMap (fun k=>subV f (g k)):=by
 induction l with
 | nil=>rfl
 | cons x r ih=>rw [List.flatMap_cons,List.flatMap_cons,subV_append,ih]
theorem subV_sh (f:Int→List Int) {ap:Int} (h:0≤ap) (b:List Int):subV f (b.map (shF ap))=subV (fun n=>f (n-ap)) b:=by
 induction b with
 | nil=>rfl
 | cons n r ih=>
  rw [List.map_cons,subV_cons,subV_cons,ih]
  congr 1
  unfold shF
  by_cases hn:n<0
  ·rw [if_pos hn,if_pos (by omega),if_pos hn]
  ·rw [if_neg hn,if_neg hn,if_neg hn]
def ComU (L:List Sym) (a b:List Int) (ap:Int) (u:List Int):Prop:=∃ ld k,solF L (jl a b ap) a.length=some (ld,k)∧Closed L (jl a b ap) a.length ld∧Val L (jl a b ap) ld 0 u∧k=min (u.length:Int) 2001
theorem ComU.uniq {L:List Sym} {a b:List Int} {ap:Int} {u v:List Int} (h:ComU L a b ap u) (k:ComU L a b ap v):u=v:=by
 obtain ⟨ld,k1,h1,_,h2,_⟩:=h
 obtain ⟨ld', k2,g1,_,g2,_⟩:=k
 rw [h1] at g1
 simp only [Option.some.injEq,Prod.mk.injEq] at g1
 obtain ⟨rfl,rfl⟩:=g1
 exact h2.uniq g2
theorem com_u {L:List Sym} {a b:List Int} {ap:Nat} (hap:ap≤99) (ha:checkE L a=0) (hb:checkE L b=0):solF L (jl a b ap) a.length=none∨∃ u,ComU L a b ap u:=by
 obtain ⟨x1,x2,x3⟩:=checkE_zero.1 ha
 obtain ⟨y1,y2,y3⟩:=checkE_zero.1 hb
 have hT:=trs_jl (apart:=(ap:Int)) (by omega) x3 y3
 have hv:∀ x∈jl a b ap, -198≤x:=by
  intro x hx
  unfold jl at hx
  rcases List.mem_append.1 hx with e | e
  ·have:=(badE_zero.1 x2 x e).2;omega
  ·obtain ⟨y,hy,rfl⟩:=List.mem_map.1 e
   have:=(badE_zero.1 y2 y hy).2
   unfold shF;split <;> omega
 have p1:=isT_pos x3
 have p2:=isT_pos y3
 have hl:(jl a b ap).length=a.length+b.length:=by simp [jl]
 cases hs:solF L (jl a b ap) a.length with
 | none=>exact .inl rfl
 | some v=>
  obtain ⟨ld,k⟩:=v
  right
  obtain ⟨res,hU,hR1,hR2⟩:=(sol_any hT hv (m:=a.length) (by omega) (by omega)).uni
  cases res with
  | none=>rw [hR1 rfl] at hs;cases hs
  | some ld' =>
   obtain ⟨g1,k', sz', g2,g3,g4⟩:=hR2 ld' rfl
   by_cases e:k' = -1
   ·rw [g3 e] at hs;cases hs
   ·obtain ⟨f1,u,f2,f3⟩:=g4 e
    rw [f1] at hs
    simp only [Option.some.injEq,Prod.mk.injEq] at hs
    obtain ⟨rfl,rfl⟩:=hs
    exact ⟨u,ld', k', f1,closed_of hv (by omega) (by omega) hU,f2,f3⟩
theorem jl_low {L:List Sym} {a b:List Int} (ha:checkE L a=0) (hb:checkE L b=0) {ap:Nat} (hap:ap≤99):∀ x∈jl a b ap, -198≤x:=by
 intro x hx
 unfold jl at hx
 rcases List.mem_append.1 hx with e | e
 ·have:=(badE_zero.1 (checkE_zero.1 ha).2.1 x e).2;omega
 ·obtain ⟨y,hy,rfl⟩:=List.mem_map.1 e
  have:=(badE_zero.1 (checkE_zero.1 hb).2.1 y hy).2
  unfold shF;split <;> omega
theorem most_com {L:List Sym} {a b:List Int} (ha:checkE L a=0) (hb:checkE L b=0) {fa fb:Int→List Int} (ta:∀ n∈a,n<0→IsT L (fa n)) (tb:∀ n∈b,n<0→IsT L (fb n)) {T:List Int} (e1:subV fa a=T) (e2:subV fb b=T) :
  ∃ u g,ComU L a b 99 u∧T=subV g u∧(∀ n∈u,n<0→IsT L (g n)):=by
 obtain ⟨x1,x2,x3⟩:=checkE_zero.1 ha
 obtain ⟨y1,y2,y3⟩:=checkE_zero.1 hb
 have hT:=trs_jl (apart:=(99:Int)) (by omega) x3 y3
 have hv:∀ x∈jl a b 99, -198≤x:=jl_low ha hb (ap:=99) (by omega)
 have p1:=isT_pos x3
 have p2:=isT_pos y3
 have hl:(jl a b 99).length=a.length+b.length:=by simp [jl]
 obtain ⟨vv,hvv⟩:∃ vv:Int→List Int,vv=fun n=>if -99≤n then (if n∈a then fa n else [n]) else (if n+99∈b then fb (n+99) else [n]):=⟨_,rfl⟩
 have vT:∀ n,n<0→IsT L (vv n):=by
  intro n hn
  rw [hvv]
  simp only
  by_cases h : -99≤n
  ·rw [if_pos h]
   by_cases q:n∈a
   ·rw [if_pos q];exact ta n q hn
   ·rw [if_neg q];exact isT_var L hn
  ·rw [if_neg h]
   by_cases q:n+99∈b
   ·rw [if_pos q];exact tb _ q (by omega)
   ·rw [if_neg q];exact isT_var L hn
 have va:subV vv a=T:=by
  rw [← e1]
  refine subV_congr a (fun n hn h0=>?_)
  rw [hvv]
  simp only
  rw [if_pos ((badE_zero.1 x2 n hn).2),if_pos hn]
 have vb:subV vv (b.map (shF 99))=T:=by
  rw [subV_sh vv (by omega),← e2]
  refine subV_congr b (fun n hn h0=>?_)
  rw [hvv]
  simp only
  rw [if_neg (by omega),if_pos (by rw [Int.sub_add_cancel];exact hn),Int.sub_add_cancel]
 obtain ⟨val,hval⟩:∃ val:Int→List Int,val=fun x=>if x<0 then vv x else subV vv (cutJ L (jl a b 99) x.toNat):=⟨_,rfl⟩
 have vn:∀ n,n<0→val n=vv n:=fun n hn=>by rw [hval];simp only;rw [if_pos hn]
 have vp:∀ p:Nat,val p=subV vv (cutJ L (jl a b 99) p):=fun p=>by rw [hval];simp only;rw [if_neg (by omega),Int.toNat_natCast]
 have hg:Good L (jl a b 99) val:=by
  refine ⟨fun p hp hs=>?_,fun p hp hs=>?_,fun x hx=>?_⟩
  ·rw [vp,cut_sym hT hp,subV_cons,if_neg (by omega),subV_flat]
   simp only [vp];rfl
  ·rw [vp,cut_sym hT hp,subV_cons,if_pos hs,vn _ hs]
   have:kidsL L (jl a b 99) p=[]:=by unfold kidsL;rw [show arN L (at' (jl a b 99) p)=0 by unfold arN;rw [if_pos hs]];rfl
   rw [this];simp [subV]
  ·by_cases h:x<0
   ·rw [vn x h];exact vT x h
   ·obtain ⟨p,rfl⟩:=Int.eq_ofNat_of_zero_le (Int.not_lt.1 h)
    have:=vp p
    show IsT L (val (p:Int))
    rw [this]
    unfold IsT
    rw [need_subV _ (fun n _ hn=>vT n hn)]
    exact cut_isT hT (by have:=hx.2;omega)
 have c0:val 0=T:=by
  have:=vp 0
  rw [show ((0:Nat):Int)=0 from rfl] at this
  rw [this,← va]
  congr 1
  unfold cutJ
  rw [show endN L (jl a b 99) 0=a.length from end_first (b:=b.map (shF 99)) x3]
  unfold jl
  rw [List.drop_zero,Nat.sub_zero,List.take_left]
 have cm:val (a.length:Nat)=T:=by
  rw [vp,← vb]
  congr 1
  unfold cutJ
  rw [show endN L (jl a b 99) a.length=a.length+(b.map (shF 99)).length from end_second (a:=a) (isT_sh (by omega) y3)]
  unfold jl
  rw [List.drop_left,Nat.add_sub_cancel_left,List.take_length]
 obtain ⟨ld,k,u,hs,hcl,hu,hk,he,_⟩:=sol_good hT hv (m:=a.length) (by omega) (by omega) hg (by rw [c0,cm])
 refine ⟨u,val,⟨ld,k,hs,hcl,hu,hk⟩,by rw [← c0];exact he,fun n hn h0=>?_⟩
 rw [vn n h0];exact vT n h0
theorem inst_com {L:List Sym} {a b:List Int} (ha:checkE L a=0) (hb:checkE L b=0) {ap:Nat} (hap:ap≤99) {u:List Int} (h:ComU L a b ap u):∃ f:Int→List Int,(∀ n,n<0 → -198≤n→IsT L (f n))∧u=subV f a∧u=subV (fun n=>f (n-ap)) b∧IsT L u∧(∀ n∈u,0≤n→n<(L.length:Int)):=by
 obtain ⟨x1,x2,x3⟩:=checkE_zero.1 ha
 obtain ⟨y1,y2,y3⟩:=checkE_zero.1 hb
 obtain ⟨ld,k,h1,hc,hu,h3⟩:=h
 have p1:=isT_pos x3
 have hl:(jl a b ap).length=a.length+b.length:=by simp [jl]
 obtain ⟨f,hf⟩:=varT_some L (jl a b ap) ld
 obtain ⟨e1,e2⟩:=both_sub (by omega) x3 y3 hc hf hu
 have p0:UPart (jl a b ap) 0:=part_nat (p:=0) (by omega)
 refine ⟨f,fun n hn h=>hf.isT hc.trs hc.ok hn ⟨h,by omega⟩,e1,by rw [← subV_sh f (by omega)];exact e2,hu.isT hc.trs hc.ok p0,fun n hn h0=>?_⟩
 rcases hu.in hc.trs hc.ok p0 n hn with ⟨q,_⟩ | ⟨_,q⟩
 ·omega
 ·unfold jl at q
  rcases List.mem_append.1 q with e | e
  ·exact (badE_zero.1 x2 n e).1
  ·obtain ⟨y,hy,hy2⟩:=List.mem_map.1 e
   have:=(badE_zero.1 y2 y hy).1
   unfold shF at hy2
   split at hy2 <;> omega
theorem com_swap {L:List Sym} {a b:List Int} (ha:checkE L a=0) (hb:checkE L b=0) {u:List Int} (h:ComU L b a 99 u):∃ v,ComU L a b 99 v∧v.length=u.length∧wrF [] u=wrF [] v:=by
 have step:∀ (a b:List Int),checkE L a=0→checkE L b=0→∀ u,ComU L b a 99 u→∃ v g,ComU L a b 99 v∧u=subV g v∧(∀ n∈v,n<0→IsT L (g n)):=by
  intro a b ha hb u h
  obtain ⟨f,h1,h2,h3,_⟩:=inst_com hb ha (ap:=99) (by omega) h
  have la:=fun n hn=>(badE_zero.1 (checkE_zero.1 ha).2.1 n hn).2
  have lb:=fun n hn=>(badE_zero.1 (checkE_zero.1 hb).2.1 n hn).2
  exact most_com ha hb (fa:=fun n=>f (n-((99:Nat):Int))) (fb:=f) (fun n hn h0=>h1 _ (by omega) (by have:=la n hn;omega)) (fun n hn h0=>h1 n h0 (by have:=lb n hn;omega)) h3.symm h2.symm
 obtain ⟨v,g,h1,h2,h3⟩:=step a b ha hb u h
 obtain ⟨u', g', k1,k2,k3⟩:=step b a hb ha v h1
 have:=k1.uniq h
 subst this
 have e:=both_ways h3 k3 h2 k2
 have hl:=congrArg List.length e
 rw [wrF_length,wrF_length] at hl
 exact ⟨v,h1,hl.symm,e⟩
end Go.Proofs.YtjahpnbijefncaaGreat
