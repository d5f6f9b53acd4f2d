import Derived.Test.YtmloedlkoijfbaaSU03
import Derived.Laws.Bits64b
import Derived.Laws.CopyRow
import Derived.Test.YtmloedlkoijfbaaSU02
import Derived.SizedLaws
namespace Go.Proofs.Ytmloedlkoijfbaa
set_option maxRecDepth 100000
set_option linter.unusedVariables false
open Go.RowKit
attribute [local go_sem ↓] Go.wp_at_zero Go.wp_at_succ
theorem and32 (n:Nat) (hn:n≤4000):bits BinOp.and IntKind.u64 (n:Int) 4294967295=(n:Int):=by
 have h:=bits_and_u64_nat n 4294967295 (by omega) (by omega)
 have h2:n &&& 4294967295=n:=by
  have:=Nat.and_two_pow_sub_one_eq_mod n 32
  simp only [Nat.reducePow,Nat.reduceSub] at this
  rw [this];omega
 rw [h2] at h
 exact h
theorem u64_small {n:Int} (h0:0≤n) (h1:n≤4000):IntKind.u64.wrap n=n:=by
 rw [IntKind.wrap_u64];omega
set_option maxHeartbeats 1000000 in
theorem mul64_one (n:Nat) (hn:n≤4000) (w:World):Calls Try.prog 72 #[.int .u64 1,.int .u64 (n:Int)] w fun e w' => e=.returned (.tuple #[.int .u64 0,.int .u64 (n:Int)])∧w' = w:=by
 have b1:bits BinOp.and IntKind.u64 1 4294967295=1:=by decide
 have b2:=and32 n hn
 have b3:(n:Int) / 4294967296=0:=by omega
 have b4:bits BinOp.and IntKind.u64 0 4294967295=0:=by decide
 have b5:=u64_small (n:=(n:Int)) (by omega) (by omega)
 have b6:IntKind.u64.wrap 0=0:=by decide
 go_enter Try.func72,Try.ntmps72
 go_wp2
 go_ret2
 exact ⟨rfl,rfl⟩
set_option maxHeartbeats 1000000 in
theorem mul_one (n:Nat) (hn:n≤4000) (w:World):Calls Try.prog 70 #[.int .u64 1,.int .u64 (n:Int)] w fun e w' => e=.returned (.tuple #[.int .u64 0,.int .u64 (n:Int)])∧w' = w:=by
 have C:=mul64_one n hn w
 go_enter Try.func70,Try.ntmps70
 go_wp2_with (first | (go_at_call 72;refine C.mono ?_;rintro e w' ⟨rfl,rfl⟩))
 go_ret2
 exact ⟨rfl,rfl⟩
def repC (z:Int) (n m:Nat):List Value:=iv (List.replicate m z++List.replicate (n-m) 0)
theorem repC_len (z:Int) {n m:Nat} (h:m≤n):(repC z n m).length=n:=by simp [repC,iv];omega
theorem repC_cell {w:World} {q n m:Nat} {z:Int} (h:w.heap[q]? = some (.cells (repC z n m).toArray 3 (0,0))) {k j:Nat} (hk:k≤m) {v:Value} (hv:(iv (List.replicate k z))[j]? = some v):w.cell? ⟨q,j,none⟩=some v:=by
 have hj:j<k:=by have:=(List.getElem?_eq_some_iff.1 hv).1;simpa [iv] using this
 rw [cellAt h]
 simp [iv,hj] at hv
 simp [repC,iv,List.getElem?_append,Nat.lt_of_lt_of_le hj hk,hv]
theorem repC_more (z:Int) {n m k:Nat} (h1:m+k≤n):(repC z n m).take m++iv (List.replicate k z)++(repC z n m).drop (m+k)=repC z n (m+k):=by
 have e1:(repC z n m).take m=iv (List.replicate m z):=by simp [repC,iv]
 have e2:(repC z n m).drop (m+k)=iv (List.replicate (n-(m+k)) 0):=by
  simp [repC,iv,List.drop_append]
  omega
 rw [e1,e2]
 simp [repC,iv,List.replicate_append_replicate]
theorem made_nums (n:Nat):(madeCells (Value.int .i64 0).cells (n * 1)).toList=iv (List.replicate n 0):=by
 rw [Nat.mul_one,show (Value.int .i64 0).cells = #[Value.int .i64 0] from rfl,toList_madeCells_one]
 simp [iv]
theorem addAt (b o j:Nat):(⟨b,o,none⟩:Addr).add j=⟨b,o+j,none⟩:=by
 unfold Addr.add
 split
 ·rename_i e;subst e;rfl
 ·rfl
theorem full_block {w:World} {base g n:Nat} {t:TypeId} {xs:List Value} (h:w.ownsRow base t 1 (.slice (some ⟨g,0,none⟩) n n) n xs):w.heap[g]? = some (.cells xs.toArray t (0,0)):=by
 rcases h.2 with ⟨e,_⟩ | ⟨g', cap,cur,e,hb,hg,hle,hm,hsz,ht⟩
 ·cases e
 ·simp only [Value.slice.injEq,Option.some.injEq,Addr.mk.injEq,and_true,true_and] at e
  obtain ⟨rfl,rfl⟩:=e
  rw [List.take_of_length_le (by simp [hsz])] at ht
  rw [hg,← ht]
theorem row_full {w:World} {base g n:Nat} {xs:List Int} (hb:base≤g) (hn:xs.length=n) (hm:n≤maxLen) (h:w.heap[g]? = some (.cells (iv xs).toArray 3 (0,0))):Row base w (.slice (some ⟨g,0,none⟩) n n) xs:=by
 subst hn
 exact ⟨by simp [iv_length],.inr ⟨g,xs.length,_,rfl,hb,h,Nat.le_refl _,hm,by simp [iv_length],by rw [List.take_of_length_le (by simp [iv_length])]⟩⟩
theorem keptRow (w:World) (g:Nat) (cs:Array Value):Kept (fun k=>k=g) w (w.setRow g cs):=by
 refine ⟨rfl,rfl,rfl,by simp [World.setRow],fun k hk hn=>?_⟩
 simp [World.setRow,Array.getElem?_modify,Ne.symm hn]
set_option maxHeartbeats 2000000 in
theorem repeat_any (n:Nat) (h1:1≤n) (h2:n≤4000) {w:World} {b:Nat} {z:Int} (hb:w.heap[b]? = some (.cells #[.int .i64 z] 3 (0,0))) :
  Calls Try.prog 66 #[.slice (some ⟨b,0,none⟩) 1 1,.int .i64 (n:Int)] w fun e w' => ∃ g,e=.returned (.slice (some ⟨g,0,none⟩) n n)∧w.heap.size≤g∧Row w.heap.size w' (.slice (some ⟨g,0,none⟩) n n) (List.replicate n z)∧Same0 w w' := by
 obtain ⟨i,hi,hz0,hz1,hz2⟩:=info_parts info_intT
 have C:=mul_one n h2 w
 have i0:(0:Int)≤(n:Int):=by omega
 have i1:(n:Int)≤4000:=by omega
 have j0:IntKind.u64.wrap (n:Int)=(n:Int):=u64_small i0 i1
 have j1:IntKind.i64.wrap (n:Int)=(n:Int):=by rw [IntKind.wrap_i64];omega
 have hb0:Hid (w.heap[b]? = some (.cells #[.int .i64 z] 3 (0,0))):=hb
 have hbl:b<w.heap.size:=lt_of_at hb
 clear hb
 go_enter Try.func66,Try.ntmps66
 go_upto_region 7 with (first | (go_at_call 70;refine C.mono ?_;rintro e w' ⟨rfl,hw⟩;have hw:=hw.symm;subst hw) | (at_make;refine wpList_make_full _ rfl _ _ 31 rfl _ 3 i _ 1 Try.underlying31 hi hz0 hz1 _ _ _ _ n rfl rfl rfl rfl (by rw [hz2];omega) (by unfold maxLen;omega) (Nat.le_refl _) ?_;intro w1 hown hgrow))
 rw [made_nums] at hown
 have K1:Same0 w w1:=Same0.grown (Kept.refl _ w) hgrow
 obtain ⟨g,hg⟩:∃ g,g=w.heap.size:=⟨_,rfl⟩
 have B1:w1.heap[g]? = some (.cells (repC z n 0).toArray 3 (0,0)):=by rw [hg];simpa [repC] using full_block hown
 have hlo:w.heap.size≤g:=by omega
 rw [← hg]
 have hcb:w1.heap[b]? = some (.cells #[.int .i64 z] 3 (0,0)):=K1.at0 hb0.out
 have CP:=run_copy_row (P:=Try.prog) w1 31 31 3 3 g 0 n n ⟨b,0,none⟩ 1 1 (repC z n 0).toArray 3 (iv [z]) Try.underlying31 (by rw [hi];simp [hz1]) B1 (by show _=min _ _;simp [iv];omega) (fun j v hv=>by
  have hj:j<1:=by have:=(List.getElem?_eq_some_iff.1 hv).1;simpa [iv] using this
  obtain rfl:j=0:=by omega
  simp [iv] at hv
  rw [← hv]
  exact cellAt hcb 0) (by simp [iv,repC_len];omega) (by simp [iv,Value.oneCell'])
 obtain ⟨W2,hW2⟩:∃ W2,W2=w1.setRow g ((repC z n 0).toArray.toList.take 0++iv [z]++(repC z n 0).toArray.toList.drop (0+(iv [z]).length)).toArray:=⟨_,rfl⟩
 rw [← hW2] at CP
 have B2:W2.heap[g]? = some (.cells (repC z n 1).toArray 3 (0,0)):=by
  rw [hW2]
  have:=repC_more z (n:=n) (m:=0) (k:=1) (by omega)
  simp only [Nat.zero_add,List.replicate_one,iv_length,List.length_singleton] at this ⊢
  rw [this]
  exact setRow_heap w1 g _ _ 3 _ B1
 have K2:Same0 w W2:=by rw [hW2];exact K1.trans (keptRow w1 g _) (fun k hk e=>by omega)
 simp only [iv_length,List.length_singleton] at CP
 have HR:Hid (W2.heap[g]? = some (.cells (repC z n 1).toArray 3 (0,0))∧Same0 w W2):=⟨B2,K2⟩
 clear hown hgrow hW2 B1 B2 K1 K2 hcb hb0 C hg
 go_upto_region 8 with fail
 go_loopw [8] (fun v wr=>∃ m:Nat,1≤m∧m≤n∧v=.int .i64 (m:Int)∧Hid (wr.heap[g]? = some (.cells (repC z n m).toArray 3 (0,0))∧Same0 w wr)) (fun v _=>n-(intOf v).toNat)
 case atStart=>exact ⟨1,Nat.le_refl _,h1,rfl,HR⟩
 case round=>
  clear HR CP
  obtain ⟨m,hm1,hm2,rfl,HW⟩:=hrel
  by_cases hlt:m<n
  ·obtain ⟨k,hk⟩:∃ k,k=min m (n-m):=⟨_,rfl⟩
   have k1:m+k≤n:=by omega
   have k2:1≤k:=by omega
   have k3:k≤m:=by omega
   obtain ⟨D,hD⟩:∃ D:World→World,D=fun ww=>ww.setRow g ((repC z n m).toArray.toList.take m++iv (List.replicate k z)++(repC z n m).toArray.toList.drop (m+(iv (List.replicate k z)).length)).toArray:=⟨_,rfl⟩
   have CP:(Builtin.copy_ #[31,31] 3 #[.slice (some ⟨g,m,none⟩) (n-m) (n-m),.slice (some ⟨g,0,none⟩) m n]).run Try.prog wr.drew=.ok (goInt (k:Int)) (D wr.drew):=by
    have:=run_copy_row (P:=Try.prog) wr.drew 31 31 3 3 g m (n-m) (n-m) ⟨g,0,none⟩ m n (repC z n m).toArray 3 (iv (List.replicate k z)) Try.underlying31 (by rw [hi];simp [hz1]) HW.out.1 (by show _=min _ _;simp [iv];omega) (fun j v hv=>by
     rw [addAt,Nat.zero_add]
     exact repC_cell (w:=wr.drew) HW.out.1 k3 hv) (by simp [iv,repC_len z hm2];omega) (by simp [iv,Value.oneCell'])
    rw [this,hD]
    simp [iv]
   have HD:Hid ((D wr.drew).heap[g]? = some (.cells (repC z n (m+k)).toArray 3 (0,0))∧Same0 w (D wr.drew)):=by
    show _∧_
    rw [hD]
    have e:=repC_more z k1
    simp only [iv_length,List.length_replicate]
    rw [e]
    exact ⟨setRow_heap wr.drew g _ _ 3 _ HW.out.1,(Kept.drew HW.out.2).trans (keptRow _ g _) (fun k hk e=>by omega)⟩
   have m0:(0:Int)≤(m:Int):=by omega
   have m1:(m:Int)≤(n:Int):=by omega
   have m2:(m:Int)<(n:Int):=by omega
   have m3:(n:Int)-(m:Int)=((n-m:Nat):Int):=by omega
   clear hD hk HW
   go_wp2
   go_region
   go_roundw
   case rel=>
    refine ⟨.int .i64 ((m:Int)+(k:Int)),_,_,_,_,_,_,_,_,_,_,_,_,_,⟨m+k,by omega,by omega,congrArg (Value.int .i64) (Int.natCast_add m k).symm,HD⟩,rfl⟩
   case measure=>simp [intOf];omega
  ·obtain rfl:m=n:=by omega
   have R:Row w.heap.size wr (.slice (some ⟨g,0,none⟩) m m) (List.replicate m z):=row_full hlo (by simp) (by unfold maxLen;omega) (by have:=HW.out.1;simpa [repC] using this)
   have K:=HW.out.2
   go_wp2
   go_ret
   exact ⟨g,rfl,hlo,R,K⟩
end Go.Proofs.Ytmloedlkoijfbaa
namespace Go.Proofs.Ytmloedlkoijfbaa
set_option maxRecDepth 100000
set_option linter.unusedVariables false
open Go.RowKit
theorem info_ints:(Try.prog.info? 31).map (fun i=>(i.zero,i.size,i.bytes))=some (some (.slice none 0 0),1,24):=by kernel_rfl
def LsAt (N ib:Nat) (w:World) (ao:Option Addr) (xs:List Int):Prop:=IntsAt w ao xs∧(xs≠[]→∀ a,ao=some a→a.block<N∨ib<a.block∧∃ cur,w.heap[a.block]? = some (.cells cur 3 (0,0)))
theorem LsAt.kept {N ib:Nat} {w w' : World} {ao:Option Addr} {xs:List Int} {S:Nat→Prop} (h:LsAt N ib w ao xs) (hk:Kept S w w') (hS:∀ k,S k→N≤k∧(k≤ib∨NotI w k)):LsAt N ib w' ao xs:=by
 by_cases e:xs=[]
 ·exact ⟨.inl e,fun h=>absurd e h⟩
 ·have ns:∀ a,ao=some a→¬ S a.block:=fun a ea s=>by
   rcases h.2 e a ea with q | ⟨q1,cur,q2⟩
   ·have:=(hS _ s).1;omega
   ·rcases (hS _ s).2 with q | q
    ·omega
    ·exact q cur q2
  refine ⟨h.1.kept hk ns,fun _ a ea=>(h.2 e a ea).imp id (fun ⟨q1,cur,q2⟩=>⟨q1,cur,hk.at q2 (ns a ea)⟩)⟩
def StC (N ib:Nat) (w:World) (vs:List Value) (T:List (List Int)):Prop:=
 vs.length=T.length∧∀ i (h:i<T.length),∃ ao ac,vs[i]? = some (.slice ao T[i].length ac)∧LsAt N ib w ao T[i]∧T[i].length≤ac∧(ao=none→ac=0)
theorem StC.kept {N ib:Nat} {w w' : World} {vs:List Value} {T:List (List Int)} {S:Nat→Prop} (h:StC N ib w vs T) (hk:Kept S w w') (hS:∀ k,S k→N≤k∧(k≤ib∨NotI w k)):StC N ib w' vs T:=
 ⟨h.1,fun i hi=>by
  obtain ⟨ao,ac,h1,h2,h3,h4⟩:=h.2 i hi
  exact ⟨ao,ac,h1,h2.kept hk hS,h3,h4⟩⟩
theorem StC.snoc {N ib:Nat} {w:World} {vs:List Value} {T:List (List Int)} (h:StC N ib w vs T) {t:List Int} {ao:Option Addr} {ac:Nat} (h2:LsAt N ib w ao t) (h3:t.length≤ac) (h4:ao=none→ac=0):StC N ib w (vs ++ [.slice ao t.length ac]) (T ++ [t]):=by
 refine ⟨by simp [h.1],fun i hi=>?_⟩
 by_cases hl:i<T.length
 ·rw [List.getElem_append_left hl,List.getElem?_append_left (by rw [h.1];exact hl)]
  exact h.2 i hl
 ·obtain rfl:i=T.length:=by simp at hi;omega
  rw [List.getElem?_append_right (by rw [h.1];omega)]
  simp only [List.getElem_concat_length,h.1,Nat.sub_self,List.getElem?_cons_zero]
  exact ⟨ao,ac,rfl,h2,h3,h4⟩
theorem StC.init {N ib:Nat} {w:World} {vs:List Value} {T:List (List Int)} {t:List Int} (h:StC N ib w vs (T ++ [t])):StC N ib w (vs.take T.length) T:=by
 refine ⟨by simp [h.1],fun i hi=>?_⟩
 obtain ⟨ao,ac,h1,h2,h3,h4⟩:=h.2 i (by simp;omega)
 rw [List.getElem_append_left hi] at h1 h2 h3
 exact ⟨ao,ac,by rw [List.getElem?_take,if_pos hi];exact h1,h2,h3,h4⟩
def Stk (N ib:Nat) (w:World) (v:Value) (T:List (List Int)):Prop:=∃ vs,w.ownsRow (ib+1) 31 1 v T.length vs∧StC N ib w vs T
theorem Stk.shape {N ib:Nat} {w:World} {v:Value} {T:List (List Int)} (h:Stk N ib w v T):∃ ao cap,v=.slice ao T.length cap:=by
 obtain ⟨vs,h1,_⟩:=h
 exact row_shape h1
theorem Stk.block {N ib:Nat} {w:World} {v:Value} {T:List (List Int)} (h:Stk N ib w v T) {k:Nat} (e:v.ownBlock=some k):ib<k∧k<w.heap.size∧NotI w k:=by
 obtain ⟨vs,h1,_⟩:=h
 rcases h1.2 with ⟨q,_⟩ | ⟨g,cap,cur,q,hb,hg,_⟩
 ·rw [q] at e;cases e
 ·rw [q] at e
  simp only [Value.ownBlock,Option.some.injEq] at e
  subst e
  exact ⟨hb,lt_of_at hg,fun c hc=>by rw [hg] at hc;cases hc⟩
theorem Stk.kept {N ib:Nat} {w w' : World} {v:Value} {T:List (List Int)} {S:Nat→Prop} (h:Stk N ib w v T) (hk:Kept S w w') (hn:∀ k,v.ownBlock=some k→¬ S k) (hS:∀ k,S k→N≤k∧(k≤ib∨NotI w k)):Stk N ib w' v T:=by
 obtain ⟨vs,h1,h2⟩:=h
 exact ⟨vs,hk.row h1 hn,h2.kept hk hS⟩
theorem Stk.same {N ib:Nat} {w w' : World} {v:Value} {T:List (List Int)} (h:Stk N ib w v T) (hk:Same0 w w'):Stk N ib w' v T:=h.kept hk (fun _ _ f=>f) (fun _ f=>f.elim)
theorem Stk.top {N ib:Nat} {w:World} {vo:Option Addr} {vc n:Nat} {T:List (List Int)} {t:List Int} (h:Stk N ib w (.slice vo n vc) (T ++ [t])) (hn:n=T.length+1) :
  ∃ g ao ac,vo=some ⟨g,0,none⟩∧ib<g∧n≤vc∧w.cell? ⟨g,T.length,none⟩=some (.slice ao t.length ac)∧w.frozen? ⟨g,T.length,none⟩=false∧LsAt N ib w ao t∧t.length≤ac∧(ao=none→ac=0)∧Stk N ib w (.slice (some ⟨g,0,none⟩) T.length vc) T:=by
 obtain ⟨vs,h1,h2⟩:=h
 have h1' := h1
 rcases h1.2 with ⟨q,h0⟩ | ⟨g,cap,cur,q,hb,hg,hle,hm,hsz,ht⟩
 ·simp at h0
 ·simp only [Value.slice.injEq] at q
  obtain ⟨rfl,e2,rfl⟩:=q
  obtain ⟨ao,ac,c1,c2,c3,c4⟩:=h2.2 T.length (by simp)
  simp only [List.getElem_concat_length] at c1 c2 c3
  have cc:w.cell? ⟨g,T.length,none⟩=some (.slice ao t.length ac):=by
   have e3:cur[T.length]? = some (.slice ao t.length ac):=by
    rw [← ht,List.getElem?_take] at c1
    split at c1
    ·simpa using c1
    ·cases c1
   rw [cellAt hg,e3]
  refine ⟨g,ao,ac,rfl,hb,?_,cc,frozenAt hg _,c2,c3,c4,vs.take T.length,⟨?_,.inr ⟨g,vc,cur,rfl,hb,hg,?_,hm,hsz,?_⟩⟩,h2.init⟩
  ·simp at hle;omega
  ·have:=h2.1
   simp at this
   simp;omega
  ·simp at hle;omega
  ·rw [← ht,List.take_take]
   simp
theorem Stk.put {N ib:Nat} {w:World} {g vc n:Nat} {T:List (List Int)} {t u:List Int} (h:Stk N ib w (.slice (some ⟨g,0,none⟩) n vc) (T ++ [t])) (hn:n=T.length+1) (hN:N≤g) {ao:Option Addr} {ac:Nat} (hu:LsAt N ib w ao u) (h3:u.length≤ac) (h4:ao=none→ac=0) :
  Stk N ib (w.setCell ⟨g,T.length,none⟩ (.slice ao u.length ac)) (.slice (some ⟨g,0,none⟩) n vc) (T ++ [u])∧Kept (fun k=>k=g) w (w.setCell ⟨g,T.length,none⟩ (.slice ao u.length ac)):=by
 have K:Kept (fun k=>k=g) w (w.setCell ⟨g,T.length,none⟩ (.slice ao u.length ac)):=Kept.setCell (S:=fun k=>k=g) (Kept.refl _ _) (p:=⟨g,T.length,none⟩) (fun _=>rfl) _
 have nb:=(h.block (k:=g) rfl).2.2
 obtain ⟨vs,h1,h2⟩:=h
 have hS:∀ k,k=g→N≤k∧(k≤ib∨NotI w k):=fun k e=>by subst e;exact ⟨hN,.inr nb⟩
 have st:=(h2.init.kept K hS).snoc (hu.kept K hS) h3 h4
 have ev:vs.set T.length (.slice ao u.length ac)=vs.take T.length ++ [.slice ao u.length ac]:=by
  have hl:vs.length=T.length+1:=by have:=h2.1;simpa using this
  rw [List.set_eq_take_append_cons_drop,if_pos (by omega),List.drop_of_length_le (by omega)]
 refine ⟨⟨vs.set T.length (.slice ao u.length ac),?_,by rw [ev];exact st⟩,K⟩
 rcases h1.2 with ⟨q,_⟩ | ⟨g', cap,cur,q,hb,hg,hle,hm,hsz,ht⟩
 ·cases q
 ·simp only [Value.slice.injEq,Option.some.injEq,Addr.mk.injEq,and_true] at q
  obtain ⟨rfl,e2,rfl⟩:=q
  refine ⟨by simp [h1.1],.inr ⟨g,vc,cur.setIfInBounds T.length (.slice ao u.length ac),by simp [hn],hb,setAt hg _ _,by simpa using hle,hm,by simp [hsz],?_⟩⟩
  rw [Array.toList_setIfInBounds,List.take_set]
  have:(T ++ [u]).length=(T ++ [t]).length:=by simp
  rw [this,ht]
theorem wpList_stk {w0 W:World} {ops:Array Oper} {rest:List Oper} {o:Oper} {a:Act} {Q:Exit→Act→World→Prop} (hgd:o.guard=none) (s x:Operand)
  (ho:o.op=.call { callee:=.builtin .append,args:=#[s,x],argTypes:=#[98,98] })
  (N ib:Nat) (T:List (List Int)) (v:Value) (hs:a.eval s=v) (hW:Same0 w0 W) (hr:Stk N ib w0 v T) (hNv:∀ k,v.ownBlock=some k→N≤k) (t:List Int) (ao:Option Addr) (ac:Nat) (q:Nat) (hx:a.eval x=.slice (some ⟨q,0,none⟩) 1 1) (hq:W.heap[q]? = some (.cells #[.slice ao t.length ac] 31 (0,0))) (ha:LsAt N ib w0 ao t) (h3:t.length≤ac) (h4:ao=none→ac=0) (hb:ib+1≤w0.heap.size) (hsz:(T.length+1) * 24≤140737488355328)
  (h:∀ g cap w', Stk N ib w' (.slice (some ⟨g,0,none⟩) (T.length+1) cap) (T ++ [t])→Kept (fun k=>v.ownBlock=some k) w0 w' → (v.ownBlock=some g∨W.heap.size≤g)→wpList Try.prog ops Q rest (a.put o.dst (.slice (some ⟨g,0,none⟩) (T.length+1) cap)) w') :
  wpList Try.prog ops Q (o :: rest) a W:=by
 obtain ⟨i,hi,hz0,hz1,hz2⟩:=info_parts info_ints
 have nb:=fun k e=>(hr.block (k:=k) e).2.2
 obtain ⟨vs,h1,h2⟩:=hr
 refine wpList_append_lies _ hgd s x 98 ho (ib+1) 31 i _ 1 24 Try.underlying98 hi hz0 hz1 hz2 rfl (by decide) v T.length vs hs (hW.row h1 (fun _ _ f=>f)) ⟨q,0,none⟩ 1 1 [.slice ao t.length ac] hx rfl (World.news_of_block (cs:=#[.slice ao t.length ac]) (t:=31) (fr:=(0,0)) hq) (by simp [Value.oneCell']) (by omega) (by unfold maxLen;omega) (by omega) (Nat.le_trans hb hW.size) W.heap.size rfl ?_
 intro g cap w' hown hgrow hat hlt
 have K:Kept (fun k=>v.ownBlock=some k) w0 w' := Kept.grown (Kept.mono hW (fun _ _ f=>f.elim)) hgrow (fun _ e _=>e)
 have hS:∀ k,v.ownBlock=some k→N≤k∧(k≤ib∨NotI w0 k):=fun k e=>⟨hNv k e,.inr (nb k e)⟩
 exact h g cap w' ⟨_,by rw [List.length_append];exact hown,(h2.kept K hS).snoc (ha.kept K hS) h3 h4⟩ K (hat.imp id (fun e=>by omega))
end Go.Proofs.Ytmloedlkoijfbaa
namespace Go.Proofs.Ytmloedlkoijfbaa
set_option maxRecDepth 100000
set_option linter.unusedVariables false
open Go.RowKit
attribute [local go_sem ↓] Go.wp_at_zero Go.wp_at_succ
def mkE (l:List Nd) (room:Nat) (s:Int) (xs:List Int):Int:=if s<0∨6<xs.length then 1 else if insB (l.length:Int) xs=false then 112 else if l.length=room then 111 else 0
theorem may_make {l:List Nd} (h:∀ x∈l,mayB l.length x=true) {x:Nd} (hx:mayB l.length x=true):∀ y∈l ++ [x],mayB (l ++ [x]).length y=true:=by
 intro y hy
 have:l.length≤(l ++ [x]).length:=by simp
 rcases List.mem_append.1 hy with q | q
 ·exact may_more (h y q) this
 ·simp at q;subst q;exact may_more hx this
theorem mk_zero {l:List Nd} {room:Nat} {s:Int} {xs:List Int} (he:mkE l room s xs=0):0≤s∧xs.length≤6∧insB (l.length:Int) xs=true∧l.length≠room:=by
 unfold mkE at he
 split at he
 ·cases he
 ·split at he
  ·cases he
  ·split at he
   ·cases he
   ·rename_i a b c
    exact ⟨by omega,by omega,by simpa using b,c⟩
theorem mk_may {l:List Nd} {s:Int} {xs:List Int} (h0:0≤s) (h1:xs.length≤6) (h2:insB (l.length:Int) xs=true):mayB l.length (s,xs,0,false,0)=true:=by
 unfold mayB
 unfold insB at h2
 simp [h0,h1]
 simpa using h2
theorem HpB.made {B:Nat→Prop} {w w1:World} {h g room:Nat} {l:List Nd} (p:HpB B w h g room l) (k1:Same0 w w1) {s:Int} {xs:List Int} (he:mkE l room s xs=0) {bo:Option Addr} {bc:Nat} (ha:ArgT w1 bo xs bc) (hb:∀ a,bo=some a→w.heap.size≤a.block) :
  HpB (fun b=>B b∨w.heap.size≤b) ((put5 w1 g (l.length * 5) (.int .i64 s) (.slice bo xs.length bc) (.int .i64 0) (.bool false) (.int .i64 0)).setCell ⟨h,1,none⟩ (.int .i64 ((l.length:Int)+1))) h g room (l ++ [(s,xs,0,false,0)]):=by
 obtain ⟨h0,h1,h2,h3⟩:=mk_zero he
 have hle:=p.le
 have p1:=p.same k1
 have q:=put5_nodes (B' := fun b=>B b∨w.heap.size≤b) (i:=l.length) (x:=(s,xs,0,false,0)) (ao:=bo) (ac:=bc) p1.blk p1.each (by omega) ha (fun a e=>.inr (hb a e)) (fun k e=>.inl e)
 obtain ⟨q1,q2,q3⟩:=q
 have kp:=put5_kept w1 g (l.length * 5) (.int .i64 s) (.slice bo xs.length bc) (.int .i64 0) (.bool false) (.int .i64 0)
 have bx:=kp.at p1.box p.ne
 have ks:Kept (fun k=>k=h) (put5 w1 g (l.length * 5) (.int .i64 s) (.slice bo xs.length bc) (.int .i64 0) (.bool false) (.int .i64 0)) _:=Kept.setCell (S:=fun k=>k=h) (Kept.refl _ _) (p:=⟨h,1,none⟩) (fun _=>rfl) (.int .i64 ((l.length:Int)+1))
 have nh:∀ k,k=h→NotI (put5 w1 g (l.length * 5) (.int .i64 s) (.slice bo xs.length bc) (.int .i64 0) (.bool false) (.int .i64 0)) k:=fun k e cur hc=>by rw [e,bx] at hc;cases hc
 have gl:g<(put5 w1 g (l.length * 5) (.int .i64 s) (.slice bo xs.length bc) (.int .i64 0) (.bool false) (.int .i64 0)).heap.size:=Nat.lt_of_lt_of_le p1.ltG kp.size
 refine ⟨?_,?_,p.rm1,p.rm2,by simp;omega,fun i hi=>?_,may_make p.may (mk_may h0 h1 h2),p.ac.make p.inl _ (may_down (mk_may h0 h1 h2))⟩
 ·have:=setAt bx 1 (.int .i64 ((l.length:Int)+1))
  simpa using this
 ·obtain ⟨cs,q4,q5⟩:=q2
  exact ⟨cs,ks.at q4 (fun e=>p.ne e.symm),q5⟩
 ·by_cases e:i<l.length
  ·rw [List.getElem_append_left e]
   exact (q3 i e (by omega)).kept gl ks (fun e=>p.ne e.symm) (fun k _ e=>nh k e)
  ·obtain rfl:i=l.length:=by simp at hi;omega
   simp only [List.getElem_append_right (Nat.le_refl _),Nat.sub_self,List.getElem_cons_zero]
   exact q1.kept gl ks (fun e=>p.ne e.symm) (fun k _ e=>nh k e)
theorem made_kept {w w1:World} (k1:Same0 w w1) (h g off:Nat) (v0 v1 v2 v3 v4 v5:Value):Kept (fun k=>k=h∨k=g) w ((put5 w1 g off v0 v1 v2 v3 v4).setCell ⟨h,1,none⟩ v5):=by
 have a:Kept (fun k=>k=h∨k=g) w w1:=k1.mono (fun _ _ f=>f.elim)
 have b:=a.trans (S' := fun k=>k=g) (put5_kept w1 g off v0 v1 v2 v3 v4) (fun _ _ e=>.inr e)
 exact Kept.setCell (S:=fun k=>k=h∨k=g) b (p:=⟨h,1,none⟩) (fun _=>.inl rfl) v5
set_option maxHeartbeats 1000000 in
theorem make_yes {B:Nat→Prop} {w:World} {h g room:Nat} {l:List Nd} (p:HpB B w h g room l) (s:Int) {ao:Option Addr} {xs:List Int} {cap:Nat} (hx:Arg w ao xs cap) (he:mkE l room s xs=0) :
  Calls Try.prog 20 #[.pointer (some ⟨h,0,none⟩),.int .i64 s,.slice ao xs.length cap] w fun e w' => e=.returned (.tuple #[.int .i64 (l.length:Int),.int .i64 0])∧HpB (fun b=>B b∨w.heap.size≤b) w' h g room (l ++ [(s,xs,0,false,0)])∧Kept (fun k=>k=h∨k=g) w w' := by
 obtain ⟨h0,h1,h2,h3⟩:=mk_zero he
 obtain ⟨c0,c1⟩:=p.cells
 have hle:=p.le
 have hr2:=p.rm2
 have hne:=p.ne
 have C:=inside_any cap hx.at' (by omega) (l.length:Int)
 rw [h2] at C
 have i0:¬ s<0:=by omega
 have i1:(0:Int)≤(l.length:Int):=by omega
 have i2:(l.length:Int)<(room:Int):=by omega
 have i3:¬ ((l.length:Int)=(room:Int)):=by omega
 have HP:Hid (∀ ww,Same0 w ww→HpB B ww h g room l):=fun ww hk=>p.same hk
 have HC:Hid (∀ ww,Same0 w ww→Calls Try.prog 46 #[nodeV (s,xs,0,false,0) ao cap] ww fun e w' => ∃ bo bc,e=.returned (nodeV (s,xs,0,false,0) bo bc)∧ArgT w' bo xs bc∧(∀ a,bo=some a→ww.heap.size≤a.block)∧Same0 ww w'):=fun ww hk=>copied_any (x:=(s,xs,0,false,0)) (ac:=cap) ⟨hx.at'.same hk,hx.cap', hx.nil,hx.size⟩ (by simp;omega)
 have HF:Hid (∀ w1 bo bc,Same0 w w1→ArgT w1 bo xs bc→(∀ a,bo=some a→w.heap.size≤a.block)→HpB (fun b=>B b∨w.heap.size≤b) ((put5 w1 g (l.length * 5) (.int .i64 s) (.slice bo xs.length bc) (.int .i64 0) (.bool false) (.int .i64 0)).setCell ⟨h,1,none⟩ (.int .i64 ((l.length:Int)+1))) h g room (l ++ [(s,xs,0,false,0)])):=fun w1 bo bc k1 ha hb=>p.made k1 he ha hb
 have K0:Hid (∀ n,Same0 w (w.drewN n)):=fun n=>(Kept.refl _ _).drewN n
 clear he hx p h2 h3
 go_enter Try.func20,Try.ntmps20
 go_upto_region 5 with (first | (go_at_call 49;refine C.mono ?_;rintro e w' ⟨rfl,rfl⟩))
 clear C
 go_quiet (fail)
 go_upto_region 8 with fail
 obtain ⟨W2,hW2⟩:∃ W2,W2=w'.drewN nq:=⟨_,rfl⟩
 have K2:Same0 w' W2:=by rw [hW2];exact K0.out _
 rw [← hW2]
 clear hW2 c0 c1
 have K2d:Same0 w' W2.drew:=K2.drew
 have C0:=(HP.out _ K2d).cells.1
 have CCd:=HC.out _ K2d
 have hlr:l.length<room:=by omega
 have HT:Hid (l.length<room):=hlr
 have Hsz:Hid (w'.heap.size≤W2.drew.heap.size):=K2d.size
 go_region_with (first | (go_at_call 46;refine CCd.mono ?_;rintro e w3 ⟨bo,bc,rfl,ha,hbb,hk3⟩;have K3:=K2d.trans' hk3;have P3:=HP.out w3 K3;have cc1:=P3.cells.1;obtain ⟨u0,u1,u2,u3,u4,t0,t1,t2,t3,t4⟩:=P3.there HT.out;have f0:=P3.free.2 (l.length * 5);have f1:=P3.free.2 (l.length * 5+1);have f2:=P3.free.2 (l.length * 5+2);have f3:=P3.free.2 (l.length * 5+3);have f4:=P3.free.2 (l.length * 5+4)))
 all_goals
  obtain ⟨w5,hw5⟩:∃ w5,w5=put5 w3 g (l.length * 5) (.int .i64 s) (.slice bo xs.length bc) (.int .i64 0) (.bool false) (.int .i64 0):=⟨_,rfl⟩
  have K5:Kept (fun k=>k=g) w3 w5:=by rw [hw5];exact put5_kept _ _ _ _ _ _ _ _
  have b5:=K5.at P3.box hne
  have c5:w5.cell? ⟨h,1,none⟩=some (.int .i64 (l.length:Int)):=cellAt b5 1
  have e5:w5.frozen? ⟨h,1,none⟩=false:=frozenAt b5 1
  have F1:=HF.out w3 bo bc K3 ha (fun a e=>Nat.le_trans Hsz.out (hbb a e))
  have F2:=made_kept K3 h g (l.length * 5) (.int .i64 s) (.slice bo xs.length bc) (.int .i64 0) (.bool false) (.int .i64 0) (.int .i64 ((l.length:Int)+1))
  rw [← hw5] at F1 F2
  have FF:Hid (HpB (fun b=>B b∨w'.heap.size≤b) (w5.setCell ⟨h,1,none⟩ (.int .i64 ((l.length:Int)+1))) h g room (l ++ [(s,xs,0,false,0)])∧Kept (fun k=>k=h∨k=g) w' (w5.setCell ⟨h,1,none⟩ (.int .i64 ((l.length:Int)+1)))):=⟨F1,F2⟩
  change Exit.then _ _ Exit.normal _ (put5 w3 g (l.length * 5) (.int .i64 s) (.slice bo xs.length bc) (.int .i64 0) (.bool false) (.int .i64 0))
  rw [← hw5]
  clear hw5 F1 F2 b5 t0 t1 t2 t3 t4 f0 f1 f2 f3 f4 cc1 P3 C0 CCd ha hbb HF HC HP
  go_wp2
  go_ret2
  exact ⟨rfl,FF.out.1,FF.out.2⟩
def isMk (n:Int):Bool:=decide (0≤n) && decide (n≤2)
set_option maxHeartbeats 1000000 in
theorem isMark_any (n:Int) (w:World):Calls Try.prog 59 #[.int .i64 n] w fun e w' => e=.returned (.bool (isMk n))∧w' = w:=by
 by_cases h1:0≤n
 ·by_cases h2:n≤2
  ·have H:Hid (isMk n=true):=by show _=_;simp [isMk,h1,h2]
   go_enter Try.func59,Try.ntmps59
   go_wp2
   go_ret
   exact ⟨ret_bool H.out.symm,rfl⟩
  ·have H:Hid (isMk n=false):=by show _=_;simp [isMk,h1,h2]
   go_enter Try.func59,Try.ntmps59
   go_wp2
   go_ret
   exact ⟨ret_bool H.out.symm,rfl⟩
 ·have H:Hid (isMk n=false):=by show _=_;simp [isMk,h1]
  go_enter Try.func59,Try.ntmps59
  go_wp2
  go_ret
  exact ⟨ret_bool H.out.symm,rfl⟩
def marked (x:Nd) (m:Int):Nd:=(x.1,x.2.1,m,x.2.2.2.1,x.2.2.2.2)
theorem may_marked {n:Nat} {x:Nd} (h:mayB n x=true) {m:Int} (hm:0≤m∧m≤2) (hp:x.2.2.2.1=true→m=0):mayB n (marked x m)=true:=by
 unfold mayB at h ⊢
 unfold marked
 cases hq:x.2.2.2.1
 ·simp [hq] at h ⊢
  exact ⟨⟨⟨⟨h.1.1.1.1,hm.1⟩,hm.2⟩,h.1.2⟩,h.2⟩
 ·simp [hq] at h ⊢
  have:=hp hq
  subst this
  exact ⟨⟨⟨⟨h.1.1.1.1,hm.1⟩,hm.2⟩,h.1.2⟩,⟨⟨⟨h.2.1.1.1,h.2.1.1.2⟩,rfl⟩,h.2.2⟩⟩
theorem ac_same {l l' : List Nd} (h:Ac l) (hl:l'.length=l.length) (he:∀ i (h1:i<l'.length) (h2:i<l.length),downL l'[i]=downL l[i]):Ac l' := by
 obtain ⟨r,hr⟩:=h
 refine ⟨r,fun i j e=>hr i j ?_⟩
 obtain ⟨h1,h2⟩:=e
 exact ⟨by omega,by rw [he i h1 (by omega)] at h2;exact h2⟩
theorem HpB.marked {B:Nat→Prop} {w:World} {h g room:Nat} {l:List Nd} (p:HpB B w h g room l) {i:Nat} (hi:i<l.length) {m:Int} (hm:0≤m∧m≤2) (hp:l[i].2.2.2.1=true→m=0) :
  HpB B (w.setCell ⟨g,i * 5+2,none⟩ (.int .i64 m)) h g room (l.set i (Ytmloedlkoijfbaa.marked l[i] m))∧Kept (fun k=>k=g) w (w.setCell ⟨g,i * 5+2,none⟩ (.int .i64 m)):=by
 have K:Kept (fun k=>k=g) w (w.setCell ⟨g,i * 5+2,none⟩ (.int .i64 m)):=Kept.setCell (S:=fun k=>k=g) (Kept.refl _ _) (p:=⟨g,i * 5+2,none⟩) (fun _=>rfl) _
 obtain ⟨cs,h1,h2⟩:=p.blk
 have q:=setAt h1 (i * 5+2) (.int .i64 m)
 have hle:=p.le
 have gi:∀ k,k=g→NotI w k:=fun k e cur h=>by rw [e,h1] at h;cases h
 have old:∀ o,o≠i * 5+2→(w.setCell ⟨g,i * 5+2,none⟩ (.int .i64 m)).cell? ⟨g,o,none⟩=w.cell? ⟨g,o,none⟩:=fun o ho=>by
  rw [cellAt q,cellAt h1,Array.getElem?_setIfInBounds,if_neg (by omega)]
 have new:(w.setCell ⟨g,i * 5+2,none⟩ (.int .i64 m)).cell? ⟨g,i * 5+2,none⟩=some (.int .i64 m):=by
  rw [cellAt q,Array.getElem?_setIfInBounds,if_pos rfl,if_pos (by omega)]
 refine ⟨⟨by rw [List.length_set];exact K.at p.box p.ne,⟨_,q,by simpa using h2⟩,p.rm1,p.rm2,by simpa using hle,fun j hj=>?_,?_,?_⟩,K⟩
 ·have hj' : j<l.length:=by simpa using hj
  obtain ⟨ao,ac,n0,n1,n2,n3,n4,n5,n6⟩:=p.each j hj'
  by_cases e:j=i
  ·subst e
   rw [List.getElem_set_self]
   exact ⟨ao,ac,(old _ (by omega)).trans n0,(old _ (by omega)).trans n1,new,(old _ (by omega)).trans n3,(old _ (by omega)).trans n4,n5.kept K gi,n6⟩
  ·rw [List.getElem_set_ne (by omega)]
   exact ⟨ao,ac,(old _ (by omega)).trans n0,(old _ (by omega)).trans n1,(old _ (by omega)).trans n2,(old _ (by omega)).trans n3,(old _ (by omega)).trans n4,n5.kept K gi,n6⟩
 ·intro x hx
  rw [List.length_set]
  rcases List.mem_or_eq_of_mem_set hx with e | e
  ·exact p.may x e
  ·subst e;exact may_marked (p.may _ (List.getElem_mem hi)) hm hp
 ·refine ac_same p.ac (by simp) (fun j h3 h4=>?_)
  by_cases e:j=i
  ·subst e;rw [List.getElem_set_self];rfl
  ·rw [List.getElem_set_ne (by omega)]
theorem ArgT.nil (w:World):ArgT w none [] 0:=⟨⟨.inl rfl,Nat.le_refl _,fun _=>⟨rfl,rfl⟩,by simp⟩,fun a e=>by cases e⟩
abbrev indN (t:Nat):Nd:=(0,[],0,true,(t:Int))
theorem may_ind {n t:Nat} (h:t<n):mayB n (indN t)=true:=by
 unfold mayB
 simp;omega
theorem HpB.pointed {B:Nat→Prop} {w:World} {h g room:Nat} {l:List Nd} (p:HpB B w h g room l) {i t:Nat} (hi:i<l.length) (ht:t<l.length) (hn:¬ Rc l t i) :
  HpB B (put5 w g (i * 5) (.int .i64 0) (.slice none 0 0) (.int .i64 0) (.bool true) (.int .i64 (t:Int))) h g room (l.set i (indN t))∧Kept (fun k=>k=g) w (put5 w g (i * 5) (.int .i64 0) (.slice none 0 0) (.int .i64 0) (.bool true) (.int .i64 (t:Int))):=by
 have hle:=p.le
 obtain ⟨q1,q2,q3⟩:=put5_nodes (B' := B) (i:=i) (x:=indN t) (ao:=none) (ac:=0) p.blk p.each (by omega) (ArgT.nil w) (fun a e=>by cases e) (fun k e=>e)
 have K:=put5_kept w g (i * 5) (.int .i64 0) (.slice none 0 0) (.int .i64 0) (.bool true) (.int .i64 (t:Int))
 refine ⟨⟨by rw [List.length_set];exact K.at p.box p.ne,q2,p.rm1,p.rm2,by simpa using hle,fun j hj=>?_,?_,?_⟩,K⟩
 ·have hj' : j<l.length:=by simpa using hj
  by_cases e:j=i
  ·subst e;rw [List.getElem_set_self];exact q1
  ·rw [List.getElem_set_ne (by omega)];exact q3 j hj' e
 ·intro x hx
  rw [List.length_set]
  rcases List.mem_or_eq_of_mem_set hx with e | e
  ·exact p.may x e
  ·subst e;exact may_ind ht
 ·refine p.ac.point hn _ (fun j hj=>?_)
  unfold downL at hj
  simp at hj
  omega
theorem refE_two {n:Nat} {a b:Int} (h:(0≤a∧a<(n:Int))∧0≤b∧b<(n:Int)):refE (n:Int) [a,b]=0:=by
 unfold refE;rw [if_pos (insB_iff.2 (by simpa using h))]
set_option maxHeartbeats 2000000 in
theorem point_in {B:Nat→Prop} {w:World} {h g room:Nat} {l:List Nd} (p:HpB B w h g room l) (i t:Nat) (hi:i<l.length) (ht:t<l.length):Calls Try.prog 22 #[.pointer (some ⟨h,0,none⟩),.int .i64 (i:Int),.int .i64 (t:Int)] w fun e w' =>
  (Rc l t i∧e=.returned (.int .i64 113)∧Same0 w w')∨(¬ Rc l t i∧e=.returned (.int .i64 0)∧HpB B w' h g room (l.set i (indN t))∧Kept (fun k=>k=g) w w'):=by
 have k1:Same0 w (w.alloc (.cells #[.int .i64 (i:Int),.int .i64 (t:Int)] 3)):=(Kept.refl _ _).alloc _
 have p1:=p.same k1
 have C:=refusal_hp p1 2 (ints_two w (i:Int) (t:Int)) (by simp)
 rw [refE_two (by omega)] at C
 have CS:=stands_any (cap:=room) p1.ns i t hi ht
 obtain ⟨c0,c1⟩:=p1.cells
 have hle:=p.le
 have i1:(0:Int)≤(i:Int):=by omega
 have i2:(i:Int)<(room:Int):=by omega
 have HP:Hid (∀ ww,Same0 (w.alloc (.cells #[.int .i64 (i:Int),.int .i64 (t:Int)] 3)) ww→HpB B ww h g room l):=fun ww hk=>p1.same hk
 have HK:Hid (∀ ww,Same0 (w.alloc (.cells #[.int .i64 (i:Int),.int .i64 (t:Int)] 3)) ww→Same0 w ww):=fun ww hk=>k1.trans' hk
 clear p p1 k1
 go_enter Try.func22,Try.ntmps22
 go_upto_region 4 with (first | (go_at_call 50;refine C.mono ?_;rintro e w' ⟨rfl,rfl⟩))
 clear C
 go_upto_if 22 with (first | (go_at_call 51;refine CS.mono ?_;rintro e w2 ⟨b,rfl,hb,hk2⟩))
 clear CS c0 c1
 have HBR:Hid (b=true ↔ Rc l t i):=hb
 cases b
 ·have hn:¬ Rc l t i:=fun q=>by have:=HBR.out.2 q;cases this
  have P2:=HP.out w2 hk2
  obtain ⟨d0,d1⟩:=P2.cells
  obtain ⟨u0,u1,u2,u3,u4,t0,t1,t2,t3,t4⟩:=P2.there (show i<room by omega)
  have f0:=P2.free.2 (i * 5)
  have f1:=P2.free.2 (i * 5+1)
  have f2:=P2.free.2 (i * 5+2)
  have f3:=P2.free.2 (i * 5+3)
  have f4:=P2.free.2 (i * 5+4)
  obtain ⟨M1,M2⟩:=P2.pointed hi ht hn
  have FF:Hid (¬ Rc l t i∧HpB B (put5 w2 g (i * 5) (.int .i64 0) (.slice none 0 0) (.int .i64 0) (.bool true) (.int .i64 (t:Int))) h g room (l.set i (indN t))∧Kept (fun k=>k=g) w (put5 w2 g (i * 5) (.int .i64 0) (.slice none 0 0) (.int .i64 0) (.bool true) (.int .i64 (t:Int)))):=⟨hn,M1,((HK.out w2 hk2).mono (fun _ _ f=>f.elim)).trans M2 (fun _ _ e=>e)⟩
  clear P2 M1 M2 hn hb HBR HP HK
  go_wp2
  go_ret
  obtain ⟨q1,q2,q3⟩:=FF.out
  exact .inr ⟨q1,rfl,q2,q3⟩
 ·have FF:Hid (Rc l t i∧Same0 w w2):=⟨HBR.out.1 rfl,HK.out w2 hk2⟩
  clear hb HBR HP HK
  go_wp2
  go_ret
  exact .inl ⟨FF.out.1,rfl,FF.out.2⟩
abbrev I64 (c:Int):Prop:=-9223372036854775808≤c∧c<9223372036854775808
theorem hwrap {c:Int} (h1 : -9223372036854775808≤c) (h2:c<9223372036854775808):IntKind.i64.wrap c=c:=by
 simp [IntKind.wrap,IntKind.bits,IntKind.signed];omega
def pickF (c n:Int):Nat:=((if c<0 then -(c+1) else c) % n).toNat
theorem pick_lt (c:Int) {n:Int} (hn:0<n):(pickF c n:Int)<n:=by
 unfold pickF
 have h1:=Int.emod_nonneg (if c<0 then -(c+1) else c) (show n≠0 by omega)
 have h2:=Int.emod_lt_of_pos (if c<0 then -(c+1) else c) hn
 omega
abbrev Hp (w:World) (h g room:Nat) (l:List Nd):Prop:=HpB (fun _=>True) w h g room l
theorem HpB.any {B:Nat→Prop} {w:World} {h g room:Nat} {l:List Nd} (p:HpB B w h g room l):Hp w h g room l:=p.mono (fun _ _ _ _=>trivial)
theorem arg_nil (w:World):Arg w none [] 0:=(ArgT.nil w).1
theorem arg_one (w:World) (z:Int):Arg (w.alloc (.cells #[.int .i64 z] 3)) (some ⟨w.heap.size,0,none⟩) [z] 1:=⟨ints_one w z,Nat.le_refl _,(fun e=>by cases e),by simp⟩
theorem arg_two (w:World) (z y:Int):Arg (w.alloc (.cells #[.int .i64 z,.int .i64 y] 3)) (some ⟨w.heap.size,0,none⟩) [z,y] 2:=⟨ints_two w z y,Nat.le_refl _,(fun e=>by cases e),by simp⟩
theorem Same0.heap {w w1 w2:World} (k:Same0 w w1) {h g:Nat} (hh:w.heap.size≤h) (hg:w.heap.size≤g) (k2:Kept (fun k=>k=h∨k=g) w1 w2):Same0 w w2:=k.trans k2 (fun i hi e=>by omega)
end Go.Proofs.Ytmloedlkoijfbaa
namespace Go.Proofs.Ytmloedlkoijfbaa
set_option maxRecDepth 100000
set_option linter.unusedVariables false
open Go.RowKit Go.Deep
theorem i64_wf {n:Int} (h:(Lit.int .i64 n).wf=true):I64 n:=by
 have h1:(IntKind.i64.min≤n)∧n≤IntKind.i64.max:=by simpa [Lit.wf] using h
 have e1:IntKind.i64.min = -9223372036854775808:=by decide
 have e2:IntKind.i64.max=9223372036854775807:=by decide
 omega
abbrev Raw4:=Int × Int × Int × Int
def Raw4.ok (x:Raw4):Prop:=I64 x.1∧I64 x.2.1∧I64 x.2.2.1∧I64 x.2.2.2
def RawsAt (w:World) (ro:Option Addr) (rs:List Raw4):Prop:=
 rs=[]∨∃ b off,ro=some ⟨b,off,none⟩∧b<w.heap.size∧∀ i (h:i<rs.length),w.cell? ⟨b,off+i * 4,none⟩=some (.int .i64 rs[i].1)∧w.cell? ⟨b,off+i * 4+1,none⟩=some (.int .i64 rs[i].2.1)∧w.cell? ⟨b,off+i * 4+2,none⟩=some (.int .i64 rs[i].2.2.1)∧w.cell? ⟨b,off+i * 4+3,none⟩=some (.int .i64 rs[i].2.2.2)
theorem RawsAt.same {w w' : World} {ro:Option Addr} {rs:List Raw4} (h:RawsAt w ro rs) (hk:Same0 w w'):RawsAt w' ro rs:=by
 refine h.imp id ?_
 rintro ⟨b,off,rfl,hlt,hc⟩
 refine ⟨b,off,rfl,Nat.lt_of_lt_of_le hlt hk.size,fun i hi=>?_⟩
 obtain ⟨h0,h1,h2,h3⟩:=hc i hi
 exact ⟨(hk.cell (p:=⟨b,off+i * 4,none⟩) hlt (fun f=>f)).trans h0,(hk.cell (p:=⟨b,off+i * 4+1,none⟩) hlt (fun f=>f)).trans h1,(hk.cell (p:=⟨b,off+i * 4+2,none⟩) hlt (fun f=>f)).trans h2,(hk.cell (p:=⟨b,off+i * 4+3,none⟩) hlt (fun f=>f)).trans h3⟩
theorem RawsAt.get {w:World} {ro:Option Addr} {rs:List Raw4} (h:RawsAt w ro rs) {i:Nat} (hi:i<rs.length):∃ b off,ro=some ⟨b,off,none⟩∧w.cell? ⟨b,off+i * 4,none⟩=some (.int .i64 rs[i].1)∧w.cell? ⟨b,off+i * 4+1,none⟩=some (.int .i64 rs[i].2.1)∧w.cell? ⟨b,off+i * 4+2,none⟩=some (.int .i64 rs[i].2.2.1)∧w.cell? ⟨b,off+i * 4+3,none⟩=some (.int .i64 rs[i].2.2.2):=by
 rcases h with rfl | ⟨b,off,e,hlt,hc⟩
 ·simp at hi
 ·exact ⟨b,off,e,hc i hi⟩
section
variable {H : Type} {enc : TypeId × Value → H} {w : World} {spare : Nat → Bool} {held : Bool}
theorem trod_four {t:TypeId} {f0 f1 f2 f3:Field} {fuel:Nat} {cs:List Value} {x:DataW H × List MemPlace} (ht:Try.prog.underlying t=some (.struct #[f0,f1,f2,f3])) (h:DataW.trod enc Try.prog w 0 spare held fuel t cs=some x) :
  ∃ y0 y1 y2 y3 n,DataW.trod enc Try.prog w 0 spare held n f0.type ((cs.drop f0.offset).take (Try.prog.cellsOf f0.type))=some y0 ∧
   DataW.trod enc Try.prog w 0 spare held n f1.type ((cs.drop f1.offset).take (Try.prog.cellsOf f1.type))=some y1∧DataW.trod enc Try.prog w 0 spare held n f2.type ((cs.drop f2.offset).take (Try.prog.cellsOf f2.type))=some y2 ∧
   DataW.trod enc Try.prog w 0 spare held n f3.type ((cs.drop f3.offset).take (Try.prog.cellsOf f3.type))=some y3:=by
 obtain ⟨xs,n,hn,rfl,hl,hlen,hf⟩:=DataW.trod_struct ht h
 match xs,hlen with
 | [y0,y1,y2,y3],_=>exact ⟨y0,y1,y2,y3,n,by simpa using hf 0 f0 rfl,by simpa using hf 1 f1 rfl,by simpa using hf 2 f2 rfl,by simpa using hf 3 f3 rfl⟩
end
end Go.Proofs.Ytmloedlkoijfbaa
namespace Go.Proofs.Ytmloedlkoijfbaa
set_option maxRecDepth 100000
set_option linter.unusedVariables false
open Go.RowKit
attribute [local go_sem ↓] Go.wp_at_zero Go.wp_at_succ
def FullL (l:List Nd):Prop:=∀ j (h:j<l.length),l[j].2.2.2.1=false∧(1≤j→∃ t,l[j].2.1=[(j:Int)-1,t])
theorem FullL.snoc {l:List Nd} (h:FullL l) {s:Int} {xs:List Int} (hx:1≤l.length→∃ t,xs=[(l.length:Int)-1,t]):FullL (l ++ [(s,xs,0,false,0)]):=by
 intro j hj
 by_cases e:j<l.length
 ·rw [List.getElem_append_left e];exact h j e
 ·obtain rfl:j=l.length:=by simp at hj;omega
  simp
  exact hx
theorem box4 {w:World} {b:Nat} {v0 v1 v2 v3:Value} {t:TypeId} (h:w.heap[b]? = some (.cells #[v0,v1,v2,v3] t (0,0))):w.cell? ⟨b,0,none⟩=some v0∧w.cell? ⟨b,1,none⟩=some v1∧w.cell? ⟨b,2,none⟩=some v2∧w.cell? ⟨b,3,none⟩=some v3:=
 ⟨cellAt h 0,cellAt h 1,cellAt h 2,cellAt h 3⟩
theorem kept_two {w w' : World} {h g:Nat} (k:Kept (fun k=>k=g) w w'):Kept (fun k=>k=h∨k=g) w w' := k.mono (fun _ _ e=>.inr e)
theorem kept_none {w w' : World} {h g:Nat} (k:Same0 w w'):Kept (fun k=>k=h∨k=g) w w' := k.mono (fun _ _ f=>f.elim)
theorem kept_at {w w1 w2:World} {h g:Nat} (k:Same0 w w1) (k2:Kept (fun k=>k=h∨k=g) w1 w2):Kept (fun k=>k=h∨k=g) w w2:=(kept_none k).trans k2 (fun _ _ e=>e)
theorem wrap_i64 (z:Int):I64 (IntKind.i64.wrap z):=by
 simp [IntKind.wrap,IntKind.bits,IntKind.signed];omega
theorem wrap64_i64 (z:Int):I64 (wrap64 z):=by
 unfold wrap64;omega
end Go.Proofs.Ytmloedlkoijfbaa
