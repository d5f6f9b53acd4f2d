import Derived.Test.YtblgblgchkonhaaGreatGB01
import Derived.Deep.RegionLaw
import Derived.Deep.DrawnRows
import Derived.Deep.DeepCutAuto
import Derived.Deep.Slices
import Derived.Deep.Strs
import Derived.ProofKit
import Derived.Handy
import Derived.OwnWalk
import Derived.Laws.CopyOwn
import Derived.Laws.AppendOwnNone
import Derived.SizedLaws
namespace Go.Proofs.YtblgblgchkonhaaGreat
set_option maxRecDepth 100000
open Go.RowKit
theorem SigAt.sym {w:World} {b:Nat} {L:List Sym} {ao:Option Addr} {cap:Nat} {mr:Option Nat} (h:SigAt w b L (.slice ao L.length cap) mr) {i:Nat} (hi:i<L.length) :
  ∃ g,ao=some ⟨g,0,none⟩∧g<w.heap.size∧w.cell? ⟨g,i * 3,none⟩=some (.string L[i].name)∧w.cell? ⟨g,i * 3+1,none⟩=some (.int .i64 L[i].ar)∧w.cell? ⟨g,i * 3+2,none⟩=some (.bool L[i].df):=by
 obtain ⟨g,cap', hv,_,hlt⟩:=h.row.form (by omega)
 obtain ⟨rfl,_,rfl⟩:ao=some ⟨g,0,none⟩∧L.length=L.length∧cap=cap' := by simpa using hv
 have hc:=fun j hj=>h.row.cellAt j hj
 obtain ⟨a1,a2,a3⟩:=symCells_at hi
 refine ⟨g,rfl,hlt,?_,?_,?_⟩
 ·rw [hc _ (by omega),a1]
 ·rw [hc _ (by omega),a2]
 ·rw [hc _ (by omega),a3]
set_option maxHeartbeats 1000000 in
theorem at_yes {w:World} {b:Nat} {L:List Sym} {sv:Value} {mr:Option Nat} (h:SigAt w b L sv mr) (i:Nat) (hi:i<L.length) :
  Calls Tryz.prog 87 #[.pointer (some ⟨b,0,none⟩),.int .i64 (i:Int)] w fun e w' => e=.returned (.tuple #[.agg #[.string L[i].name,.int .i64 L[i].ar,.bool L[i].df],.int .i64 0])∧Kept (fun _=>False) w w' := by
 obtain ⟨ao,cap,rfl⟩:=h.sv
 have h1:∀ o,SigAt (w.alloc o) b L (.slice ao L.length cap) mr:=fun o=>h.kept (Kept.alloc (Kept.refl (fun _=>False) w) _) (fun _ _ f=>f)
 have c0:∀ o,(w.alloc o).cell? ⟨b,0,none⟩=some (.slice ao L.length cap):=fun o=>cellAt (h1 o).blk 0
 obtain ⟨g,rfl,hg,x0,x1,x2⟩:=h.sym hi
 have hlen:=h.len
 have i1:(0:Int)≤(i:Int):=by omega
 have i2:(i:Int)<(L.length:Int):=by omega
 go_enter Tryz.func87,Tryz.ntmps87
 go_wp2
 exact bodyPost_ret (v:=.tuple #[.agg #[.string L[i].name,.int .i64 L[i].ar,.bool L[i].df],.int .i64 0]) (by simp [results,Tryz.results87,go_sem]) rfl ⟨rfl,Kept.alloc (Kept.refl _ w) _⟩
set_option maxHeartbeats 1000000 in
theorem at_no {w:World} {b:Nat} {L:List Sym} {sv:Value} {mr:Option Nat} (h:SigAt w b L sv mr) (n:Int) (hn:n<0∨(L.length:Int)≤n) :
  Calls Tryz.prog 87 #[.pointer (some ⟨b,0,none⟩),.int .i64 n] w fun e w' => e=.returned (.tuple #[.agg #[.string ⟨#[]⟩,.int .i64 0,.bool false],.int .i64 14])∧Kept (fun _=>False) w w' := by
 obtain ⟨ao,cap,rfl⟩:=h.sv
 have h1:∀ o,SigAt (w.alloc o) b L (.slice ao L.length cap) mr:=fun o=>h.kept (Kept.alloc (Kept.refl (fun _=>False) w) _) (fun _ _ f=>f)
 have c0:∀ o,(w.alloc o).cell? ⟨b,0,none⟩=some (.slice ao L.length cap):=fun o=>cellAt (h1 o).blk 0
 by_cases h0:n<0
 ·go_enter Tryz.func87,Tryz.ntmps87
  go_wp2
  exact bodyPost_ret (v:=.tuple #[.agg #[.string ⟨#[]⟩,.int .i64 0,.bool false],.int .i64 14]) (by simp [results,Tryz.results87,go_sem]) rfl ⟨rfl,Kept.alloc (Kept.refl _ w) _⟩
 ·have h2:(L.length:Int)≤n:=by omega
  go_enter Tryz.func87,Tryz.ntmps87
  go_wp2
  exact bodyPost_ret (v:=.tuple #[.agg #[.string ⟨#[]⟩,.int .i64 0,.bool false],.int .i64 14]) (by simp [results,Tryz.results87,go_sem]) rfl ⟨rfl,Kept.alloc (Kept.refl _ w) _⟩
end Go.Proofs.YtblgblgchkonhaaGreat
namespace Go.Proofs.YtblgblgchkonhaaGreat
set_option maxRecDepth 100000
open Go.RowKit
attribute [local go_sem ↓] Go.wp_at_zero Go.wp_at_succ
def findR (L:List Sym) (s:ByteArray):Int:=match findI L s with | some i=>(i:Int) | none=>-1
theorem findI_first {L:List Sym} {s:ByteArray} {k:Nat} (hk:k<L.length) (h:L[k].name=s) (hb:∀ j (hj:j<L.length),j<k→L[j].name≠s):findI L s=some k:=by
 induction L generalizing k with
 | nil=>simp at hk
 | cons y r ih=>
  simp only [findI]
  cases k with
  | zero=>simp at h;simp [h]
  | succ j=>
   have h0:y.name≠s:=hb 0 (by simp) (by omega)
   rw [if_neg h0,ih (k:=j) (by simpa using hk) (by simpa using h) (fun i hi hij=>by have:=hb (i+1) (by simpa using hi) (by omega);simpa using this)]
   rfl
theorem findI_all {L:List Sym} {s:ByteArray} (hb:∀ j (hj:j<L.length),L[j].name≠s):findI L s=none:=by
 induction L with
 | nil=>rfl
 | cons y r ih=>
  simp only [findI]
  have h0:y.name≠s:=hb 0 (by simp)
  rw [if_neg h0,ih (fun j hj=>by have:=hb (j+1) (by simpa using hj);simpa using this)]
  rfl
theorem row_sym {w:World} {base:Nat} {L:List Sym} {ao:Option Addr} {cap:Nat} (h:w.ownsRow base 67 3 (.slice ao L.length cap) L.length (symCells L)) {i:Nat} (hi:i<L.length) :
  ∃ g,ao=some ⟨g,0,none⟩∧g<w.heap.size∧w.cell? ⟨g,i * 3,none⟩=some (.string L[i].name)∧w.cell? ⟨g,i * 3+1,none⟩=some (.int .i64 L[i].ar)∧w.cell? ⟨g,i * 3+2,none⟩=some (.bool L[i].df):=by
 obtain ⟨g,cap', hv,_,hlt⟩:=h.form (by omega)
 obtain ⟨rfl,_,rfl⟩:ao=some ⟨g,0,none⟩∧L.length=L.length∧cap=cap' := by simpa using hv
 have hc:=fun j hj=>h.cellAt j hj
 obtain ⟨a1,a2,a3⟩:=symCells_at hi
 refine ⟨g,rfl,hlt,?_,?_,?_⟩
 ·rw [hc _ (by omega),a1]
 ·rw [hc _ (by omega),a2]
 ·rw [hc _ (by omega),a3]
set_option maxHeartbeats 1000000 in
theorem rfind_any {w:World} {base:Nat} {L:List Sym} {v:Value} (hr:w.ownsRow base 67 3 v L.length (symCells L)) (hlen:L.length≤64) (s:ByteArray) :
  Calls Tryz.prog 53 #[v,.string s] w fun e w' => e=.returned (.int .i64 (findR L s))∧w' = w:=by
 obtain ⟨ao,cap,rfl⟩:=row_shape hr
 go_enter Tryz.func53,Tryz.ntmps53
 go_wp2
 go_loop [5] (fun i=>∃ k:Nat,k≤L.length∧i=.int .i64 k∧∀ j (hj:j<L.length),j<k→L[j].name≠s) (fun i=>L.length-(intOf i).toNat)
 case atStart=>exact ⟨0,Nat.zero_le _,rfl,fun j _ h=>by omega⟩
 case round=>
  obtain ⟨k,hk,rfl,hal⟩:=hrel
  by_cases hlt:k<L.length
  ·obtain ⟨g,rfl,hg,x0,x1,x2⟩:=row_sym hr hlt
   have i1:(0:Int)≤(k:Int):=by omega
   have i2:(k:Int)<(L.length:Int):=by omega
   by_cases he:L[k].name=s
   ·have hf:findR L s=(k:Int):=by rw [findR,findI_first hlt he hal]
    have HF:Hid (findR L s=(k:Int)):=hf
    clear hf
    go_wp2
    go_ret
    exact ⟨ret_int HF.out.symm,rfl⟩
   ·have hnx:∀ j (hj:j<L.length),j<k+1→L[j].name≠s:=by
     intro j hj h2
     by_cases e:j=k
     ·subst e;exact he
     ·exact hal j hj (by omega)
    have he' := str_ne he
    go_wp2
    go_round
    case rel=>exact ⟨k+1,by omega,by go_num,hnx⟩
    case measure=>simp [intOf];omega
  ·have hf:findR L s = -1:=by rw [findR,findI_all (fun j hj=>hal j hj (by omega))]
   have HF:Hid (findR L s = -1):=hf
   clear hf
   go_wp2
   go_ret
   exact ⟨ret_int HF.out.symm,rfl⟩
structure RefAt (w:World) (rb:Nat) (L:List Sym) (rv:Value):Prop where
 blk:w.heap[rb]? = some (.cells #[rv] 87 (0,0))
 row:w.ownsRow 0 67 3 rv L.length (symCells L)
 apart:rv.ownBlock≠some rb
def RFoot (rb:Nat) (rv:Value) (k:Nat):Prop:=k=rb∨rv.ownBlock=some k
theorem RefAt.kept {S:Nat→Prop} {w w' : World} {rb:Nat} {L:List Sym} {rv:Value} (h:RefAt w rb L rv) (hk:Kept S w w') (hn:∀ k,RFoot rb rv k→¬ S k):RefAt w' rb L rv:=
 ⟨hk.at h.blk (hn rb (.inl rfl)),hk.row h.row (fun k e=>hn k (.inr e)),h.apart⟩
theorem RefAt.lt {w:World} {rb:Nat} {L:List Sym} {rv:Value} (h:RefAt w rb L rv):∀ k,RFoot rb rv k→k<w.heap.size:=by
 intro k hk
 rcases hk with rfl | e
 ·exact lt_of_at h.blk
 ·exact (h.row.lt k e).2
theorem RefAt.c0 {w:World} {rb:Nat} {L:List Sym} {rv:Value} (h:RefAt w rb L rv):w.cell? ⟨rb,0,none⟩=some rv:=cellAt h.blk 0
theorem RefAt.f0 {w:World} {rb:Nat} {L:List Sym} {rv:Value} (h:RefAt w rb L rv):w.frozen? ⟨rb,0,none⟩=false:=frozenAt h.blk 0
def RMoved (w:World) (rb:Nat) (rv:Value) (L' : List Sym) (w' : World):Prop:=
 ∃ rv', RefAt w' rb L' rv' ∧ Kept (RFoot rb rv) w w' ∧ ∀ k,RFoot rb rv' k→RFoot rb rv k∨w.heap.size≤k
theorem findR_some {L:List Sym} {s:ByteArray} (h:(findI L s).isSome=true):0≤findR L s:=by
 unfold findR
 cases hf:findI L s with
 | none=>simp [hf] at h
 | some i=>simp
theorem findR_none {L:List Sym} {s:ByteArray} (h:(findI L s).isSome=false):findR L s = -1:=by
 unfold findR
 cases hf:findI L s with
 | none=>rfl
 | some i=>simp [hf] at h
set_option maxHeartbeats 2000000 in
theorem radd_no {w:World} {rb:Nat} {L:List Sym} {rv:Value} (h:RefAt w rb L rv) (hlen:L.length≤64) (x:Sym) (hs:x.name.size≤maxLen) (hz:addErr L x≠0) :
  Calls Tryz.prog 26 #[.pointer (some ⟨rb,0,none⟩),symV x] w fun e w' => e=.returned (.tuple #[.int .i64 0,.int .i64 (addErr L x)])∧Kept (fun _=>False) w w' := by
 have h1:RefAt (w.alloc (boxOf x)) rb L rv:=h.kept (Kept.alloc (Kept.refl (fun _=>False) w) _) (fun _ _ f=>f)
 have h2:∀ m,RefAt ((w.alloc (boxOf x)).drewN m) rb L rv:=fun m=>h1.kept (Kept.drewN (Kept.refl (fun _=>False) _) m) (fun _ _ f=>f)
 obtain ⟨ao,cap,rfl⟩:=row_shape h.row
 have c0:=h1.c0
 cases hn:nameB x.name with
 | false=>
  have he:addErr L x=10:=by simp [addErr,hn]
  have HE:Hid (addErr L x=10):=he
  clear he
  go_enter Tryz.func26,Tryz.ntmps26
  go_wp2_with (first | (go_at_call 52;refine (rIsName_any _ _ hs).mono ?_;rintro e w' ⟨rfl,rfl⟩))
  go_ret2
  exact ⟨by rw [HE.out];rfl,Kept.alloc (Kept.refl _ w) _⟩
 | true=>
  by_cases ha:x.ar<0
  ·have HE:Hid (addErr L x=11):=by show addErr L x=11;simp [addErr,hn,ha]
   go_enter Tryz.func26,Tryz.ntmps26
   go_wp2_with (first | (go_at_call 52;refine (rIsName_any _ _ hs).mono ?_;rintro e w' ⟨rfl,rfl⟩))
   go_ret2
   exact ⟨by rw [HE.out];rfl,Kept.alloc (Kept.refl _ w) _⟩
  ·by_cases hb:6<x.ar
   ·have HE:Hid (addErr L x=11):=by show addErr L x=11;simp [addErr,hn,hb]
    go_enter Tryz.func26,Tryz.ntmps26
    go_wp2_with (first | (go_at_call 52;refine (rIsName_any _ _ hs).mono ?_;rintro e w' ⟨rfl,rfl⟩))
    go_ret2
    exact ⟨by rw [HE.out];rfl,Kept.alloc (Kept.refl _ w) _⟩
   ·cases hf:(findI L x.name).isSome with
    | true=>
     have HE:Hid (addErr L x=12):=by show addErr L x=12;simp [addErr,hn,ha,hb,hf]
     have hfr:=findR_some hf
     go_enter Tryz.func26,Tryz.ntmps26
     go_wp2_with (first | (go_at_call 52;refine (rIsName_any _ _ hs).mono ?_;rintro e w' ⟨rfl,rfl⟩))
     go_quiet ((go_at_call 53;exact Calls.quiet_of_same (rfind_any (h2 _).row hlen x.name)))
     go_wp2
     go_ret2
     exact ⟨by rw [HE.out];rfl,Kept.drewN (Kept.alloc (Kept.refl _ w) _) _⟩
    | false=>
     have hm:64≤L.length:=by
      rcases Nat.lt_or_ge L.length 64 with h | h
      ·exact absurd (by simp [addErr,hn,ha,hb,hf];omega) hz
      ·exact h
     have HE:Hid (addErr L x=13):=by show addErr L x=13;simp [addErr,hn,ha,hb,hf,hm]
     have hfr:=findR_none hf
     go_enter Tryz.func26,Tryz.ntmps26
     go_wp2_with (first | (go_at_call 52;refine (rIsName_any _ _ hs).mono ?_;rintro e w' ⟨rfl,rfl⟩))
     go_quiet ((go_at_call 53;exact Calls.quiet_of_same (rfind_any (h2 _).row hlen x.name)))
     go_wp2
     go_ret2
     exact ⟨by rw [HE.out];rfl,Kept.drewN (Kept.alloc (Kept.refl _ w) _) _⟩
theorem radd_end {w wc w1:World} {rb:Nat} {L:List Sym} {rv:Value} {x:Sym} {gg cap:Nat} (h:RefAt w rb L rv) (hrc:RefAt wc rb L rv) (hkp:Kept (fun _=>False) w wc)
  (hown1:w1.ownsRow 0 67 3 (.slice (some ⟨gg,0,none⟩) (L.length+1) cap) (L.length+1) (symCells L ++ [.string x.name,.int .i64 x.ar,.bool x.df]))
  (hgrow:(wc.alloc (boxOf x)).drew.grownBy w1 rv.ownBlock) (hat:rv.ownBlock=some gg∨gg=wc.heap.size+1) :
  RMoved w rb rv (L ++ [x]) (w1.setCell ⟨rb,0,none⟩ (.slice (some ⟨gg,0,none⟩) (L.length+1) cap)):=by
 have lb:=lt_of_at h.blk
 have lbc:=lt_of_at hrc.blk
 have hb1:=blk_grown hgrow hrc.blk hrc.apart
 have hgb:gg≠rb:=by
  rcases hat with e | e
  ·intro e'; exact h.apart (by rw [e,e'])
  ·omega
 have hk1:Kept (RFoot rb rv) wc w1:=Kept.grown (Kept.drew (Kept.alloc (Kept.refl _ wc) _)) hgrow (fun _ e _=>.inr e)
 have hk2:Kept (RFoot rb rv) wc (w1.setCell ⟨rb,0,none⟩ (.slice (some ⟨gg,0,none⟩) (L.length+1) cap)):=Kept.setCell hk1 (fun _=>.inl rfl) _
 have hk3:Kept (fun k=>k=rb) w1 (w1.setCell ⟨rb,0,none⟩ (.slice (some ⟨gg,0,none⟩) (L.length+1) cap)):=Kept.setCell (S:=fun k=>k=rb) (p:=⟨rb,0,none⟩) (Kept.refl _ _) (fun _=>rfl) _
 refine ⟨_,⟨by rw [setAt hb1];rfl,?_,by simpa [Value.ownBlock] using hgb⟩,?_,?_⟩
 ·rw [symCells_snoc]
  have:=hk3.row hown1 (fun k e e' => by simp [Value.ownBlock] at e;omega)
  simpa using this
 ·exact (hkp.mono (fun _ _ f=>f.elim)).trans hk2 (fun _ _ e=>e)
 ·intro k hk
  rcases hk with e | e
  ·exact .inl (.inl e)
  ·simp [Value.ownBlock] at e
   subst e
   rcases hat with e | e
   ·exact .inl (.inr e)
   ·right;have:=hkp.size;omega
set_option maxHeartbeats 2000000 in
theorem radd_ok {w:World} {rb:Nat} {L:List Sym} {rv:Value} (h:RefAt w rb L rv) (x:Sym) (hs:x.name.size≤maxLen) (hz:addErr L x=0) :
  Calls Tryz.prog 26 #[.pointer (some ⟨rb,0,none⟩),symV x] w fun e w' => e=.returned (.tuple #[.int .i64 (L.length:Int),.int .i64 0])∧RMoved w rb rv (L ++ [x]) w' := by
 have h1:RefAt (w.alloc (boxOf x)) rb L rv:=h.kept (Kept.alloc (Kept.refl (fun _=>False) w) _) (fun _ _ f=>f)
 have h2:∀ m,RefAt ((w.alloc (boxOf x)).drewN m) rb L rv:=fun m=>h1.kept (Kept.drewN (Kept.refl (fun _=>False) _) m) (fun _ _ f=>f)
 obtain ⟨ao,cap,rfl⟩:=row_shape h.row
 have c0:=h1.c0
 obtain ⟨hf,hn,hm⟩:=add_zero hz
 have hlen:L.length≤64:=by omega
 have har:=add_ar hz
 have ha:¬ x.ar<0:=by omega
 have hb:¬ 6<x.ar:=by omega
 have hfr:findR L x.name = -1:=findR_none (by rw [hf];rfl)
 go_enter Tryz.func26,Tryz.ntmps26
 go_wp2_with (first | (go_at_call 52;refine (rIsName_any _ _ hs).mono ?_;rintro e w' ⟨rfl,rfl⟩))
 go_quiet ((go_at_call 53;exact Calls.quiet_of_same (rfind_any (h2 _).row hlen x.name)))
 have hrc:=h2 nq
 have hbx:((w.alloc (boxOf x)).drewN nq).heap[w.heap.size]? = some (boxOf x):=heap_alloc_new w _
 have hkp:Kept (fun _=>False) w ((w.alloc (boxOf x)).drewN nq):=Kept.drewN (Kept.alloc (Kept.refl _ w) _) nq
 obtain ⟨wc,hwc⟩:∃ wc,(w.alloc (boxOf x)).drewN nq=wc:=⟨_,rfl⟩
 rw [hwc] at hrc hbx hkp ⊢
 clear hwc c0
 have d0:=hrc.c0
 go_upto_region 10 with fail
 go_cut [] (fun w' => RMoved w rb (.slice ao L.length cap) (L ++ [x]) w')
 case first=>
  obtain ⟨i0,hi0,hz0,hz1,hz2⟩:=info_parts info_Symbol
  have hn1:L.length+1≤maxLen:=by unfold maxLen;omega
  have hn2:(L.length+1) * 32≤140737488355328:=by omega
  have g0:=hrc.f0
  have x0:wc.cell? ⟨w.heap.size,0,none⟩=some (.string x.name):=cellAt hbx 0
  have x1:wc.cell? ⟨w.heap.size,1,none⟩=some (.int .i64 x.ar):=cellAt hbx 1
  have x2:wc.cell? ⟨w.heap.size,2,none⟩=some (.bool x.df):=cellAt hbx 2
  have d0' : (wc.alloc (boxOf x)).cell? ⟨rb,0,none⟩=some (.slice ao L.length cap):=cellAt ((heap_alloc_old wc _ (lt_of_at hrc.blk)).trans hrc.blk) 0
  go_region_law ((refine step_append_lies _ (by rfl) _ _ _ (by rfl) 0 67 i0 _ 3 32 Tryz.underlying22 hi0 hz0 hz1 hz2 rfl (by omega) (.slice ao L.length cap) L.length (symCells L) (by rfl) ((hrc.row.alloc _).drew) ⟨wc.heap.size,0,none⟩ 1 1 [.string x.name,.int .i64 x.ar,.bool x.df] (by rfl) (by rfl) (World.news_of_block (cs:=#[.string x.name,.int .i64 x.ar,.bool x.df]) (t:=67) (fr:=(0,0)) (heap_alloc_new wc _)) (by simp [Value.oneCell']) (by omega) hn1 hn2 (by omega) (wc.heap.size+1) (by simp) ?_;intro gg cap w1 hown1 hgrow hat hlt;have hb1:=blk_grown hgrow hrc.blk hrc.apart;have k0:=cellAt hb1 0;have k1:=frozenAt hb1 0;simp only [List.getElem?_toArray,List.getElem?_cons_zero] at k0))
  all_goals
   go_wp2
   go_meet
   case rel=>exact radd_end h hrc hkp hown1 hgrow hat
 case rest=>
  obtain ⟨rv', hr', hk', hf'⟩:=hcut
  obtain ⟨ao', cap', rfl⟩:=row_shape hr'.row
  have r0:=hr'.c0
  simp only [List.length_append,List.length_cons,List.length_nil] at r0
  go_wp2
  go_ret2
  exact ⟨by simp,_,hr', hk', hf'⟩
theorem radd_any {w:World} {rb:Nat} {L:List Sym} {rv:Value} (h:RefAt w rb L rv) (hlen:L.length≤64) (x:Sym) (hs:x.name.size≤maxLen) :
  Calls Tryz.prog 26 #[.pointer (some ⟨rb,0,none⟩),symV x] w fun e w' => e=.returned (.tuple #[.int .i64 (addN L x),.int .i64 (addErr L x)])∧RMoved w rb rv (addL L x) w' := by
 by_cases hz:addErr L x=0
 ·rw [addN,addL,if_pos hz,if_pos hz,hz];exact radd_ok h x hs hz
 ·rw [addN,addL,if_neg hz,if_neg hz]
  refine (radd_no h hlen x hs hz).mono ?_
  rintro e w' ⟨rfl,hk⟩
  exact ⟨rfl,rv,h.kept hk (fun _ _ f=>f),hk.mono (fun _ _ f=>f.elim),fun k hk=>.inl hk⟩
end Go.Proofs.YtblgblgchkonhaaGreat
namespace Go.Proofs.YtblgblgchkonhaaGreat
open Go.RowKit Go.Deep
def SymsAt (w:World) (ao:Option Addr) (len:Nat) (xs:List Sym):Prop:=
 xs.length=len∧(len=0∨∃ b off,ao=some ⟨b,off,none⟩∧b<w.heap.size∧∀ i (h:i<xs.length),w.cell? ⟨b,off+i * 3,none⟩=some (.string xs[i].name)∧w.cell? ⟨b,off+i * 3+1,none⟩=some (.int .i64 xs[i].ar)∧w.cell? ⟨b,off+i * 3+2,none⟩=some (.bool xs[i].df)) ∧
 ∀ x∈xs,x.name.size≤maxLen∧(Lit.int .i64 x.ar).wf=true
theorem SymsAt.kept {w w' : World} {ao:Option Addr} {len:Nat} {xs:List Sym} (h:SymsAt w ao len xs) (hb:Below w.heap.size w w'):SymsAt w' ao len xs:=by
 obtain ⟨h1,h2,h3⟩:=h
 refine ⟨h1,h2.imp id ?_,h3⟩
 rintro ⟨b,off,e,hlt,hc⟩
 refine ⟨b,off,e,Nat.lt_of_lt_of_le hlt hb.size,fun i hi=>?_⟩
 obtain ⟨a1,a2,a3⟩:=hc i hi
 exact ⟨by rw [hb.cell hlt];exact a1,by rw [hb.cell hlt];exact a2,by rw [hb.cell hlt];exact a3⟩
section
variable {H : Type} {enc : TypeId × Value → H} {w : World} {spare : Nat → Bool} {held : Bool}
theorem cells_Symbol:Tryz.prog.cellsOf 67=3:=by kernel_rfl
theorem cells_string:Tryz.prog.cellsOf 9=1:=by kernel_rfl
theorem cells_int:Tryz.prog.cellsOf 3=1:=by kernel_rfl
theorem cells_bool:Tryz.prog.cellsOf 4=1:=by kernel_rfl
set_option maxRecDepth 100000 in
theorem open_sym {fuel:Nat} {cs:List Value} {x:DataW H × List MemPlace} (h:DataW.trod enc Tryz.prog w 0 spare held fuel 67 cs=some x) :
  ∃ s:Sym,cs=[.string s.name,.int .i64 s.ar,.bool s.df]∧s.name.size≤maxLen∧(Lit.int .i64 s.ar).wf=true:=by
 obtain ⟨y0,y1,y2,n,_,hl,h0,h1,h2⟩:=trod_struct3 Tryz.underlying67 h
 rw [cells_Symbol] at hl
 match cs,hl with
 | [c0,c1,c2],_=>
  simp only [cells_string,cells_int,cells_bool,List.drop_zero,List.take_succ_cons,List.take_zero,List.drop_succ_cons] at h0 h1 h2
  obtain ⟨s,e0,_,hs⟩:=DataW.trod_string Tryz.underlying9 h0
  obtain ⟨a,e1,_,ha⟩:=DataW.trod_int Tryz.underlying3 h1
  obtain ⟨d,e2,_⟩:=DataW.trod_bool Tryz.underlying4 h2
  simp only [List.cons.injEq,and_true] at e0 e1 e2
  exact ⟨⟨s,a,d⟩,by rw [e0,e1,e2],hs,ha⟩
set_option maxRecDepth 100000 in
theorem open_elems {t e c fuel:Nat} {ao:Option Addr} {len cap:Nat} {x:DataW H × List MemPlace} (ht:Tryz.prog.underlying t=some (.slice e)) (hc:Tryz.prog.cellsOf e=c) (h0:0<c) (h:DataW.trod enc Tryz.prog w 0 spare held fuel t [.slice ao len cap]=some x) :
  (ao=none∧len=0∧cap=0)∨∃ a,ao=some a∧len≤cap∧cap≤maxLen∧∀ i,i<len→a=⟨a.block,a.off,none⟩∧a.block<w.heap.size∧∃ cs n y,cs.length=c∧(∀ j,j<c→w.cell? ⟨a.block,a.off+i * c+j,none⟩=cs[j]?)∧DataW.trod enc Tryz.prog w 0 spare held n e cs=some y:=by
 rcases open_slice ht h with ⟨hcs,_⟩ | ⟨a,len', cap', m,n,D,Pl,hcs,_,hl,hm,hmm,rfl,hx⟩
 ·simp at hcs;exact .inl ⟨hcs.1,hcs.2.1,hcs.2.2⟩
 ·simp at hcs
  obtain ⟨rfl,rfl,rfl⟩:=hcs
  refine .inr ⟨a,rfl,hl,hm,fun i hi=>?_⟩
  have hmi:i<m:=by rw [hmm];split <;> omega
  have hm0:0<m:=by omega
  obtain ⟨cs0,g0,_⟩:=hx 0 hm0
  rw [hc] at g0
  obtain ⟨_,gl,gc⟩:=World.cells?_some g0
  have hsp:a.spot=none:=by
   have:=gc 0 h0
   have hv:cs0[0]? = some (cs0[0]'(by omega)):=List.getElem?_eq_getElem (by omega)
   rw [hv] at this
   simp [Addr.add] at this
   exact World.cell?_spot this
  have hlt:a.block<w.heap.size:=World.cells?_block (by simpa [Addr.add] using g0) h0
  have ea:a=⟨a.block,a.off,none⟩:=by cases a;simp_all
  obtain ⟨cs,g1,g2⟩:=hx i hmi
  rw [hc] at g1
  obtain ⟨_,gl1,gc1⟩:=World.cells?_some g1
  refine ⟨ea,hlt,cs,n,_,gl1,fun j hj=>?_,g2⟩
  rw [← gc1 j hj,add_add]
  congr 1
  unfold Addr.add
  split
  ·rw [ea];simp;omega
  ·simp
set_option maxRecDepth 100000 in
theorem open_syms {fuel:Nat} {ao:Option Addr} {len cap:Nat} {x:DataW H × List MemPlace} (h:DataW.trod enc Tryz.prog w 0 spare held fuel 22 [.slice ao len cap]=some x):∃ xs,SymsAt w ao len xs∧len≤maxLen:=by
 rcases open_elems Tryz.underlying22 cells_Symbol (by omega) h with ⟨rfl,rfl,rfl⟩ | ⟨a,rfl,hl1,hl2,hall⟩
 ·exact ⟨[],⟨rfl,.inl rfl,by simp⟩,by simp⟩
 ·have each:∀ i,i<len→∃ s:Sym,w.cell? ⟨a.block,a.off+i * 3,none⟩=some (.string s.name)∧w.cell? ⟨a.block,a.off+i * 3+1,none⟩=some (.int .i64 s.ar)∧w.cell? ⟨a.block,a.off+i * 3+2,none⟩=some (.bool s.df)∧s.name.size≤maxLen∧(Lit.int .i64 s.ar).wf=true:=by
   intro i hi
   obtain ⟨_,_,cs,n,y,hl,hcell,hy⟩:=hall i hi
   obtain ⟨s,rfl,hs,ha⟩:=open_sym hy
   exact ⟨s,by simpa using hcell 0 (by omega),by simpa using hcell 1 (by omega),by simpa using hcell 2 (by omega),hs,ha⟩
  obtain ⟨f,hf⟩:=Classical.axiomOfChoice (r:=fun (i:Fin len) (s:Sym)=>w.cell? ⟨a.block,a.off+i * 3,none⟩=some (.string s.name)∧w.cell? ⟨a.block,a.off+i * 3+1,none⟩=some (.int .i64 s.ar)∧w.cell? ⟨a.block,a.off+i * 3+2,none⟩=some (.bool s.df)∧s.name.size≤maxLen∧(Lit.int .i64 s.ar).wf=true) (fun i=>each i i.2)
  refine ⟨List.ofFn f,⟨by simp,?_,?_⟩,by omega⟩
  ·by_cases h0:len=0
   ·exact .inl h0
   ·obtain ⟨ea,hlt,_⟩:=hall 0 (by omega)
    refine .inr ⟨a.block,a.off,by rw [← ea],hlt,fun i hi=>?_⟩
    have hi' : i<len:=by simpa using hi
    have:=hf ⟨i,hi'⟩
    simp only [List.getElem_ofFn]
    exact ⟨this.1,this.2.1,this.2.2.1⟩
  ·intro x hx
   obtain ⟨i,rfl⟩:=(List.mem_ofFn.1 hx)
   exact ⟨(hf i).2.2.2.1,(hf i).2.2.2.2⟩
end
end Go.Proofs.YtblgblgchkonhaaGreat
namespace Go.Proofs.YtblgblgchkonhaaGreat
set_option maxRecDepth 100000
open Go.RowKit
attribute [local go_sem ↓] Go.wp_at_zero Go.wp_at_succ
def IntsAt (w:World) (ao:Option Addr) (xs:List Int):Prop:=
 xs=[]∨∃ b off,ao=some ⟨b,off,none⟩∧b<w.heap.size∧∀ i (h:i<xs.length),w.cell? ⟨b,off+i,none⟩=some (.int .i64 xs[i])
theorem IntsAt.kept {w w' : World} {S:Nat→Prop} {ao:Option Addr} {xs:List Int} (h:IntsAt w ao xs) (hk:Kept S w w') (hs:∀ a,ao=some a→¬ S a.block):IntsAt w' ao xs:=by
 refine h.imp id ?_
 rintro ⟨b,off,rfl,hlt,hc⟩
 exact ⟨b,off,rfl,Nat.lt_of_lt_of_le hlt hk.size,fun i hi=>(hk.cell (p:=⟨b,off+i,none⟩) hlt (hs ⟨b,off,none⟩ rfl)).trans (hc i hi)⟩
theorem IntsAt.same {w w' : World} {ao:Option Addr} {xs:List Int} (h:IntsAt w ao xs) (hk:Same0 w w'):IntsAt w' ao xs:=h.kept hk (fun _ _ f=>f)
theorem IntsAt.get {w:World} {ao:Option Addr} {xs:List Int} (h:IntsAt w ao xs) {i:Nat} (hi:i<xs.length):∃ b off,ao=some ⟨b,off,none⟩∧b<w.heap.size∧w.cell? ⟨b,off+i,none⟩=some (.int .i64 xs[i]):=by
 rcases h with rfl | ⟨b,off,e,hlt,hc⟩
 ·simp at hi
 ·exact ⟨b,off,e,hlt,hc i hi⟩
def Ars (L:List Sym):Prop:=∀ x∈L,0≤x.ar∧x.ar≤6
theorem arN_le {L:List Sym} (h:Ars L) (n:Int):arN L n≤6:=by
 unfold arN
 split
 ·omega
 ·split
  ·rename_i x hx
   have:=h x (List.mem_of_getElem? hx)
   omega
  ·omega
def Sg (n:Nat) (w:World) (b:Nat) (L:List Sym):Prop:=(∃ sv mr,SigAt w b L sv mr∧∀ k,Foot b sv mr k→k<n)∧Ars L
theorem Sg.kept {n b:Nat} {w w' : World} {L:List Sym} {S:Nat→Prop} (h:Sg n w b L) (hk:Kept S w w') (hs:∀ k,k<n→¬ S k):Sg n w' b L:=by
 obtain ⟨⟨sv,mr,h1,h2⟩,h3⟩:=h
 exact ⟨⟨sv,mr,h1.kept hk (fun k e=>hs k (h2 k e)),h2⟩,h3⟩
theorem Sg.same {n b:Nat} {w w' : World} {L:List Sym} (h:Sg n w b L) (hk:Same0 w w'):Sg n w' b L:=h.kept hk (fun _ _ f=>f)
def Rl (n:Nat) (w:World) (rv:Value) (L:List Sym):Prop:=w.ownsRow 0 67 3 rv L.length (symCells L)∧(∀ k,rv.ownBlock=some k→k<n)∧Ars L∧L.length≤64
theorem Rl.kept {n:Nat} {rv:Value} {w w' : World} {L:List Sym} {S:Nat→Prop} (h:Rl n w rv L) (hk:Kept S w w') (hs:∀ k,k<n→¬ S k):Rl n w' rv L:=
 ⟨hk.row h.1 (fun k e=>hs k (h.2.1 k e)),h.2⟩
theorem Rl.same {n:Nat} {rv:Value} {w w' : World} {L:List Sym} (h:Rl n w rv L) (hk:Same0 w w'):Rl n w' rv L:=h.kept hk (fun _ _ f=>f)
theorem Rl.drewN {n:Nat} {rv:Value} {w:World} {L:List Sym} (h:Rl n w rv L) (m:Nat):Rl n (w.drewN m) rv L:=h.same ((Kept.refl _ w).drewN m)
theorem ar_of {L:List Sym} (h:Ars L) {i:Nat} (hi:i<L.length):((arN L (i:Int):Nat):Int)=L[i].ar:=by
 have:=(h L[i] (List.getElem_mem hi)).1
 rw [arN,if_neg (by omega)];simp [hi];omega
theorem ar_no {L:List Sym} {n:Int} (hn:n<0∨(L.length:Int)≤n):arN L n=0:=by
 unfold arN
 rcases hn with h | h
 ·simp [h]
 ·rw [if_neg (by omega),List.getElem?_eq_none (by omega)]
set_option maxHeartbeats 1000000 in
theorem arity_any {n b:Nat} {w:World} {L:List Sym} (h:Sg n w b L) (x:Int):Calls Tryz.prog 85 #[.pointer (some ⟨b,0,none⟩),.int .i64 x] w fun e w' => e=.returned (.int .i64 ((arN L x:Nat):Int))∧Same0 w w' := by
 obtain ⟨⟨sv,mr,h1,_⟩,ha⟩:=h
 by_cases hx:x<0∨(L.length:Int)≤x
 ·have e1:=ar_no hx
  have H1:Hid (arN L x=0):=e1
  clear e1
  have c:=at_no h1 x hx
  go_enter Tryz.func85,Tryz.ntmps85
  go_wp2_with (first | (go_at_call 87;refine c.mono ?_;rintro e w' ⟨rfl,hk⟩))
  go_ret
  exact ⟨by rw [H1.out];rfl,hk.alloc _⟩
 ·obtain ⟨i,rfl⟩:∃ i:Nat,x=(i:Int):=⟨x.toNat,by omega⟩
  have hi:i<L.length:=by omega
  have H1:Hid (((arN L (i:Int):Nat):Int)=L[i].ar):=ar_of ha hi
  have c:=at_yes h1 i hi
  go_enter Tryz.func85,Tryz.ntmps85
  go_wp2_with (first | (go_at_call 87;refine c.mono ?_;rintro e w' ⟨rfl,hk⟩))
  go_ret
  exact ⟨by rw [H1.out];rfl,hk.alloc _⟩
set_option maxHeartbeats 1000000 in
theorem isVariable_any (x:Int) (w:World):Calls Tryz.prog 61 #[.int .i64 x] w fun e w' => e=.returned (.bool (isV x))∧w' = w:=by
 by_cases h1 : -99≤x
 ·by_cases h2:x ≤ -1
  ·have H:Hid (isV x=true):=by show _=_;simp [isV];omega
   go_enter Tryz.func61,Tryz.ntmps61
   go_wp2
   go_ret
   exact ⟨by rw [H.out];rfl,rfl⟩
  ·have H:Hid (isV x=false):=by show _=_;simp [isV];omega
   go_enter Tryz.func61,Tryz.ntmps61
   go_wp2
   go_ret
   exact ⟨by rw [H.out];rfl,rfl⟩
 ·have H:Hid (isV x=false):=by show _=_;simp [isV];omega
  go_enter Tryz.func61,Tryz.ntmps61
  go_wp2
  go_ret
  exact ⟨by rw [H.out];rfl,rfl⟩
def numE (L:List Sym) (x:Int):Int:=if (L.length:Int)≤x then 21 else if x < -99 then 22 else 0
theorem sg_len {n b:Nat} {w:World} {L:List Sym} (h:Sg n w b L):Calls Tryz.prog 77 #[.pointer (some ⟨b,0,none⟩)] w fun e w' => e=.returned (.int .i64 (L.length:Int))∧w' = w:=by
 obtain ⟨⟨sv,mr,h1,_⟩,ha⟩:=h
 exact len_any h1
set_option maxHeartbeats 1000000 in
theorem checkNumber_any {n b:Nat} {w:World} {L:List Sym} (h:Sg n w b L) (x:Int):Calls Tryz.prog 59 #[.pointer (some ⟨b,0,none⟩),.int .i64 x] w fun e w' => e=.returned (.int .i64 (numE L x))∧w' = w:=by
 have c:=sg_len h
 by_cases h1:(L.length:Int)≤x
 ·have H:Hid (numE L x=21):=by show _=_;simp [numE,h1]
  go_enter Tryz.func59,Tryz.ntmps59
  go_wp2_with (first | (go_at_call 77;refine c.mono ?_;rintro e w' ⟨rfl,rfl⟩))
  all_goals
   go_ret
   exact ⟨by rw [H.out];rfl,rfl⟩
 ·by_cases h2:x<0
  ·by_cases h3:x < -99
   ·have H:Hid (numE L x=22):=by show _=_;simp [numE,h1,h3]
    have h4:isV x=false:=by simp [isV];omega
    go_enter Tryz.func59,Tryz.ntmps59
    go_wp2_with (first | (go_at_call 77;refine c.mono ?_;rintro e w' ⟨rfl,rfl⟩) | (go_at_call 61;refine (isVariable_any _ _).mono ?_;rintro e w' ⟨rfl,rfl⟩))
    all_goals
     go_ret
     exact ⟨by rw [H.out];rfl,rfl⟩
   ·have H:Hid (numE L x=0):=by show _=_;simp [numE,h1,h3]
    have h4:isV x=true:=by simp [isV];omega
    go_enter Tryz.func59,Tryz.ntmps59
    go_wp2_with (first | (go_at_call 77;refine c.mono ?_;rintro e w' ⟨rfl,rfl⟩) | (go_at_call 61;refine (isVariable_any _ _).mono ?_;rintro e w' ⟨rfl,rfl⟩))
    all_goals
     go_ret
     exact ⟨by rw [H.out];rfl,rfl⟩
  ·have H:Hid (numE L x=0):=by show _=_;simp [numE,h1];omega
   go_enter Tryz.func59,Tryz.ntmps59
   go_wp2_with (first | (go_at_call 77;refine c.mono ?_;rintro e w' ⟨rfl,rfl⟩))
   all_goals
    go_ret
    exact ⟨by rw [H.out];rfl,rfl⟩
def endI (L:List Sym) (t:List Int) (p:Nat):Int:=match endO L t p with | some e=>(e:Int) | none=>-1
theorem endO_round {L:List Sym} {t:List Int} {p0 p k:Nat} (h:endO L t p0=(scan L (k+1) (t.drop p)).map (p + ·)) (hp:p<t.length):endO L t p0=(scan L (k+arN L t[p]) (t.drop (p+1))).map (p+1 + ·):=by
 rw [h,List.drop_eq_getElem_cons hp,scan,Option.map_map]
 congr 1
 funext x
 simp;omega
theorem endO_stop {L:List Sym} {t:List Int} {p0 p:Nat} (h:endO L t p0=(scan L 0 (t.drop p)).map (p + ·)):endI L t p0=(p:Int):=by
 simp [endI,h,scan_zero]
theorem endO_none {L:List Sym} {t:List Int} {p0 p k:Nat} (h:endO L t p0=(scan L (k+1) (t.drop p)).map (p + ·)) (hp:t.length≤p):endI L t p0 = -1:=by
 rw [List.drop_eq_nil_of_le hp] at h
 simp [endI,h,scan]
set_option maxHeartbeats 2000000 in
theorem end_any {n b:Nat} {w:World} {L:List Sym} (h:Sg n w b L) {ao:Option Addr} {cap:Nat} {t:List Int} (ht:IntsAt w ao t) (hm:t.length≤2000) (p0:Nat) (hp0:p0≤t.length) :
  Calls Tryz.prog 60 #[.pointer (some ⟨b,0,none⟩),.slice ao t.length cap,.int .i64 (p0:Int)] w fun e w' => e=.returned (.int .i64 (endI L t p0))∧Same0 w w' := by
 have ha:=h.2
 go_enter Tryz.func60,Tryz.ntmps60
 go_wp2
 go_loopw [2,7] (fun at' la wr=>∃ p k:Nat,p0≤p∧p≤t.length∧at' = .int .i64 (p:Int)∧la=.int .i64 ((k+1:Nat):Int)∧k≤6 * (p-p0)∧endO L t p0=(scan L (k+1) (t.drop p)).map (p + ·)∧Same0 w wr) (fun at' _ _=>t.length-(intOf at').toNat)
 case atStart=>exact ⟨p0,0,Nat.le_refl _,hp0,rfl,rfl,by omega,rfl,Kept.refl _ _⟩
 case round=>
  obtain ⟨p,k,h1,h2,rfl,rfl,h3,h4,hk⟩:=hrel
  by_cases hlt:p<t.length
  ·obtain ⟨tb,off,rfl,htb,hc⟩:=(ht.same hk).get hlt
   have c:=arity_any (h.same hk) t[p]
   have hle:=arN_le ha t[p]
   have h5:=endO_round h4 hlt
   have H5:Hid (endO L t p0=(scan L (k+arN L t[p]) (t.drop (p+1))).map (p+1 + ·)):=h5
   clear h5 h4
   have i1:(0:Int)≤(p:Int):=by omega
   have i2:(p:Int)<(t.length:Int):=by omega
   generalize arN L t[p]=a at *
   by_cases hz:k+a=0
   ·have z1:((k:Int)+1+((a:Int)-1) == 0)=true:=by simp;omega
    have H6:Hid (endI L t p0=(p:Int)+1):=by
     have H5:=H5.out
     rw [hz] at H5
     have:=endO_stop H5
     show _=_
     rw [this];simp
    go_wp2_with (first | (go_at_call 85;refine c.mono ?_;rintro e w' ⟨rfl,hk1⟩))
    go_ret
    exact ⟨ret_int H6.out.symm,hk.trans' hk1⟩
   ·have z1:((k:Int)+1+((a:Int)-1) == 0)=false:=by simp;omega
    go_wp2_with (first | (go_at_call 85;refine c.mono ?_;rintro e w' ⟨rfl,hk1⟩))
    refine ⟨⟨p+1,k+a-1,by omega,by omega,by go_num,by congr 1;omega,by omega,?_,hk.trans' hk1⟩,by simp [intOf];omega⟩
    rw [show k+a-1+1=k+a by omega]
    exact H5.out
  ·have H6:Hid (endI L t p0 = -1):=endO_none h4 (by omega)
   go_wp2
   go_ret
   exact ⟨ret_int H6.out.symm,hk⟩
theorem badE_step {L:List Sym} {t:List Int} {p:Nat} (hp:p<t.length) (h:badE L (t.take p)=0):(numE L t[p]≠0→badE L t=numE L t[p])∧(numE L t[p]=0→badE L (t.take (p+1))=0):=by
 have e:t=t.take p++(t[p] :: t.drop (p+1)):=by rw [← List.drop_eq_getElem_cons hp,List.take_append_drop]
 constructor
 ·intro hn
  have h2:=badE_append L (t.take p) (t[p] :: t.drop (p+1)) h
  rw [← e] at h2
  rw [h2,badE]
  unfold numE at hn ⊢
  by_cases q1:(L.length:Int)≤t[p]
  ·rw [if_pos q1,if_pos q1]
  ·rw [if_neg q1,if_neg q1]
   rw [if_neg q1] at hn
   by_cases q2:t[p] < -99
   ·rw [if_pos q2,if_pos q2]
   ·rw [if_neg q2] at hn;exact absurd rfl hn
 ·intro hn
  rw [List.take_add_one,badE_append _ _ _ h,List.getElem?_eq_getElem hp]
  simpa [badE,numE] using hn
theorem checkE_long {L:List Sym} {t:List Int} (h:2000<t.length):checkE L t=20:=by simp [checkE,h]
theorem checkE_bad {L:List Sym} {t:List Int} (h:¬ 2000<t.length) (hb:badE L t≠0):checkE L t=badE L t:=by simp [checkE,h,hb]
theorem checkE_end {L:List Sym} {t:List Int} (h:¬ 2000<t.length) (hb:badE L t=0):checkE L t=if endI L t 0=(t.length:Int) then 0 else 23:=by
 have e:endI L t 0=(t.length:Int) ↔ need L 1 t=some 0:=by
  constructor
  ·intro h
   unfold endI endO at h
   cases hs:scan L 1 t with
   | none=>simp [hs] at h
   | some m=>
    simp [hs] at h
    obtain rfl:m=t.length:=by omega
    have:=(scan_need hs).2
    simpa using this
  ·intro h
   have:=need_scan (b:=[]) h
   rw [List.append_nil] at this
   simp [endI,endO,this]
 simp only [checkE,h,hb,if_false,ne_eq,not_true,e]
set_option maxHeartbeats 2000000 in
theorem check_any {n b:Nat} {w:World} {L:List Sym} (h:Sg n w b L) {ao:Option Addr} {cap:Nat} {t:List Int} (ht:IntsAt w ao t) (hm:t.length≤maxLen) :
  Calls Tryz.prog 30 #[.pointer (some ⟨b,0,none⟩),.slice ao t.length cap] w fun e w' => e=.returned (.int .i64 (checkE L t))∧Same0 w w' := by
 unfold maxLen at hm
 by_cases hl:2000<t.length
 ·have H:Hid (checkE L t=20):=checkE_long hl
  go_enter Tryz.func30,Tryz.ntmps30
  go_wp2
  go_ret
  exact ⟨ret_int H.out.symm,Kept.refl _ _⟩
 ·have hl' : t.length≤2000:=by omega
  go_enter Tryz.func30,Tryz.ntmps30
  go_wp2
  go_loop [15] (fun i=>∃ p:Nat,p≤t.length∧i=.int .i64 (p:Int)∧badE L (t.take p)=0) (fun i=>t.length-(intOf i).toNat)
  case atStart=>exact ⟨0,Nat.zero_le _,rfl,by simp [badE]⟩
  case round=>
   obtain ⟨p,h1,rfl,h2⟩:=hrel
   by_cases hlt:p<t.length
   ·obtain ⟨tb,off,rfl,htb,hc⟩:=ht.get hlt
    have i1:(0:Int)≤(p:Int):=by omega
    have i2:(p:Int)<(t.length:Int):=by omega
    have c:=checkNumber_any h t[p]
    obtain ⟨s1,s2⟩:=badE_step hlt h2
    by_cases hz:numE L t[p]=0
    ·have S2:Hid (badE L (t.take (p+1))=0):=s2 hz
     rw [hz] at c
     clear s1 s2 h2
     go_wp2_with (first | (go_at_call 59;refine c.mono ?_;rintro e w' ⟨rfl,rfl⟩))
     exact ⟨⟨p+1,by omega,by go_num,S2.out⟩,by simp [intOf];omega⟩
    ·have hb:=s1 hz
     have H:Hid (checkE L t=numE L t[p]):=by show _=_;rw [checkE_bad hl (by rw [hb];exact hz),hb]
     have hz' : (numE L t[p] == 0)=false:=by simpa using hz
     clear s1 s2 h2 hb
     go_wp2_with (first | (go_at_call 59;refine c.mono ?_;rintro e w' ⟨rfl,rfl⟩))
     go_ret
     exact ⟨ret_int H.out.symm,Kept.refl _ _⟩
   ·obtain rfl:p=t.length:=by omega
    rw [List.take_length] at h2
    have c:=end_any (cap:=cap) h ht hl' 0 (Nat.zero_le _)
    have he:=checkE_end hl h2
    by_cases hz:endI L t 0=(t.length:Int)
    ·have H:Hid (checkE L t=0):=by show _=_;rw [he,if_pos hz]
     rw [hz] at c
     clear he
     go_wp2_with (first | (go_at_call 60;refine c.mono ?_;rintro e w' ⟨rfl,hk1⟩))
     all_goals
      go_ret
      exact ⟨ret_int H.out.symm,hk1⟩
    ·have H:Hid (checkE L t=23):=by show _=_;rw [he,if_neg hz]
     have hz' : (endI L t 0 == (t.length:Int))=false:=by simpa using hz
     clear he
     go_wp2_with (first | (go_at_call 60;refine c.mono ?_;rintro e w' ⟨rfl,hk1⟩))
     all_goals
      go_ret
      exact ⟨ret_int H.out.symm,hk1⟩
def iv (xs:List Int):List Value:=xs.map (Value.int .i64)
theorem iv_length (xs:List Int):(iv xs).length=xs.length:=by simp [iv]
theorem iv_append (xs ys:List Int):iv (xs++ys)=iv xs++iv ys:=by simp [iv]
theorem iv_get {xs:List Int} {i:Nat} (h:i<xs.length):(iv xs)[i]? = some (.int .i64 xs[i]):=by simp [iv,h]
theorem info_intT:(Tryz.prog.info? 3).map (fun i=>(i.zero,i.size,i.bytes))=some (some (.int .i64 0),1,8):=by kernel_rfl
abbrev Row (base:Nat) (w:World) (v:Value) (xs:List Int):Prop:=w.ownsRow base 3 1 v xs.length (iv xs)
def ofN (l:List Nat):List Int:=l.map (fun (x:Nat)=>(x:Int))
theorem take_set {α:Type} {l:List α} {k:Nat} (h:k<l.length) (u:α):(l.set k u).take (k+1)=l.take k ++ [u]:=by
 rw [List.take_add_one,List.take_set_of_le (Nat.le_refl _)]
 simp [h]
theorem Same0.grown {w w1 w2:World} (h:Same0 w w1) (hg:w1.grownBy w2 none):Same0 w w2:=Kept.grown h hg (fun _ e _=>by cases e)
theorem Same0.own {w w1:World} (h:Same0 w w1) {g o:Nat} (hg:w.heap.size≤g) (u:Value):Same0 w (w1.setCell ⟨g,o,none⟩ u):=h.setCell (p:=⟨g,o,none⟩) (fun hlt=>by simp at hlt;omega) u
theorem row_put {w:World} {base g cap n:Nat} {e:TypeId} {ys:List Value} (h:w.ownsRow base e 1 (.slice (some ⟨g,0,none⟩) n cap) n ys) {k:Nat} (hk:k<n):∃ old,w.cell? ⟨g,k,none⟩=some old∧w.frozen? ⟨g,k,none⟩=false:=by
 have hl:k<ys.length:=by have:=h.1;omega
 exact ⟨ys[k],(h.cellAt k (by omega)).trans (List.getElem?_eq_getElem hl),h.frozenAt k⟩
def Laid (base g A k:Nat) (xs:List Int) (w wr:World):Prop:=∃ ys:List Value,wr.ownsRow base 3 1 (.slice (some ⟨g,0,none⟩) A A) A ys∧ys.take k=iv xs∧Same0 w wr
theorem Laid.next {base g A k:Nat} {xs:List Int} {w wr:World} (h:Laid base g A k xs w wr) (hk:k<A) (hg:w.heap.size≤g) (x:Int):Laid base g A (k+1) (xs ++ [x]) w (wr.setCell ⟨g,k,none⟩ (.int .i64 x)):=by
 obtain ⟨ys,h1,h2,h3⟩:=h
 have hl:ys.length=A:=by have:=h1.1;omega
 refine ⟨ys.set k (.int .i64 x),(h1.stored k _).1,?_,h3.own hg _⟩
 rw [take_set (by omega),h2,iv_append];rfl
theorem Laid.same {base g A k:Nat} {xs:List Int} {w wr w1:World} (h:Laid base g A k xs w wr) (hk:Same0 wr w1):Laid base g A k xs w w1:=by
 obtain ⟨ys,h1,h2,h3⟩:=h
 exact ⟨ys,hk.row h1 (fun _ _ f=>f),h2,h3.trans' hk⟩
theorem Laid.row {base g A:Nat} {xs:List Int} {w wr:World} (h:Laid base g A A xs w wr):Row base wr (.slice (some ⟨g,0,none⟩) A A) xs∧xs.length=A:=by
 obtain ⟨ys,h1,h2,_⟩:=h
 have hl:ys.length=A:=by have:=h1.1;omega
 rw [List.take_of_length_le (by omega)] at h2
 subst h2
 have:xs.length=A:=by rw [← hl,iv_length]
 unfold Row
 rw [this]
 exact ⟨h1,rfl⟩
end Go.Proofs.YtblgblgchkonhaaGreat
namespace Go.Proofs.YtblgblgchkonhaaGreat
set_option maxRecDepth 100000
set_option linter.unusedVariables false
open Go.RowKit
attribute [local go_sem ↓] Go.wp_at_zero Go.wp_at_succ
structure Part where
 ao:Option Addr
 cap:Nat
 xs:List Int
def PartsAt (w:World) (pb:Nat) (ps:List Part):Prop:=pb<w.heap.size∧∀ i (h:i<ps.length),w.cell? ⟨pb,i,none⟩=some (.slice ps[i].ao ps[i].xs.length ps[i].cap)∧IntsAt w ps[i].ao ps[i].xs
theorem PartsAt.same {w w' : World} {pb:Nat} {ps:List Part} (h:PartsAt w pb ps) (hk:Same0 w w'):PartsAt w' pb ps:=
 ⟨Nat.lt_of_lt_of_le h.1 hk.size,fun i hi=>⟨(hk.cell (p:=⟨pb,i,none⟩) h.1 (fun f=>f)).trans (h.2 i hi).1,(h.2 i hi).2.same hk⟩⟩
theorem Same0.of {w w' : World} (h:Below w.heap.size w w'):Same0 w w' := ⟨h.os,h.tape,h.output,h.size,fun k hk _=>h.block k hk⟩
def Joins (g N m:Nat) (xs:List Int) (w wr:World):Prop:=∃ cur:List Value,wr.heap[g]? = some (.cells cur.toArray 3 (0,0))∧cur.length=N∧cur.take m=iv xs∧xs.length=m∧Same0 w wr
theorem Joins.start {g N:Nat} {v:Value} {ys:List Value} {w wr:World} (hv:v=.slice (some ⟨g,0,none⟩) N N) (h:wr.ownsRow w.heap.size 3 1 v N ys) (hs:Same0 w wr):Joins g N 0 [] w wr:=by
 rcases h.2 with ⟨e,_⟩ | ⟨g', cap,cur,e,hb,hg,_,_,hsz,_⟩
 ·rw [hv] at e;cases e
 ·rw [hv] at e
  simp only [Value.slice.injEq,Option.some.injEq,Addr.mk.injEq,and_true,true_and] at e
  obtain ⟨rfl,rfl⟩:=e
  exact ⟨cur.toList,by simpa using hg,by simpa using hsz,by simp [iv],rfl,hs⟩
theorem splice_take {α:Type} (cur cs:List α) (m:Nat) (h:m+cs.length≤cur.length):(splice cur m cs).take (m+cs.length)=cur.take m++cs:=by
 unfold splice
 rw [← List.append_assoc,List.take_left' (by simp;omega)]
theorem Joins.next {g N m:Nat} {xs zs:List Int} {cur:List Value} {w w' : World} (h1:cur.length=N) (h2:cur.take m=iv xs) (h3:xs.length=m) (hm:m+zs.length≤N)
  (hg:w'.heap[g]? = some (.cells (splice cur m (iv zs)).toArray 3 (0,0))) (hb:Below w.heap.size w w'):Joins g N (m+zs.length) (xs++zs) w w' := by
 refine ⟨_,hg,?_,?_,by simp;omega,Same0.of hb⟩
 ·rw [length_splice _ _ _ (by rw [iv_length];omega)];exact h1
 ·have:=splice_take cur (iv zs) m (by rw [iv_length];omega)
  rw [iv_length] at this
  rw [this,h2,iv_append]
theorem Joins.row {g N:Nat} {xs:List Int} {w wr:World} (h:Joins g N N xs w wr) (hg:w.heap.size≤g) (hN:N≤maxLen):Row w.heap.size wr (.slice (some ⟨g,0,none⟩) N N) xs:=by
 obtain ⟨cur,h1,h2,h3,h4,_⟩:=h
 subst h4
 exact ⟨by simp [iv],.inr ⟨g,xs.length,cur.toArray,rfl,hg,h1,Nat.le_refl _,hN,by simpa using h2,by simpa using h3⟩⟩
theorem iv_oneCell (xs:List Int):∀ v∈iv xs,v.oneCell' = true:=by
 intro v hv
 simp only [iv,List.mem_map] at hv
 obtain ⟨x,_,rfl⟩:=hv
 rfl
theorem IntsAt.src {w:World} {ao:Option Addr} {xs:List Int} (h:IntsAt w ao xs) (hn:0<(iv xs).length):∃ ad,ao=some ad∧∀ j v,(iv xs)[j]? = some v→w.cell? (ad.add j)=some v:=by
 rcases h with rfl | ⟨b,off,rfl,_,hc⟩
 ·simp [iv] at hn
 ·refine ⟨_,rfl,fun j v hj=>?_⟩
  have hlt:j<xs.length:=by
   have:=(List.getElem?_eq_some_iff.1 hj).1
   rwa [iv_length] at this
  rw [iv_get hlt] at hj
  cases hj
  have:=hc j hlt
  unfold Addr.add
  split
  ·rename_i h0;subst h0;first | (simp;done) | (simpa using this)
  ·exact this
theorem IntsAt.cut {w:World} {b off:Nat} {t:List Int} (h:IntsAt w (some ⟨b,off,none⟩) t) (lo hi:Nat):IntsAt w (some ⟨b,off+lo,none⟩) ((t.take hi).drop lo):=by
 rcases h with rfl | ⟨b', off', e,hlt,hc⟩
 ·left;simp
 ·simp only [Option.some.injEq,Addr.mk.injEq,and_true] at e
  obtain ⟨rfl,rfl⟩:=e
  refine .inr ⟨b,off+lo,rfl,hlt,fun i hi' => ?_⟩
  have h1:lo+i<t.length:=by simp at hi'; omega
  have:=hc (lo+i) h1
  rw [Nat.add_assoc,this]
  simp
theorem IntsAt.nil (w:World) (ao:Option Addr):IntsAt w ao []:=.inl rfl
structure Both (n0:Nat) (w0 w:World) (b rb:Nat) (L:List Sym) (sv:Value) (mr:Option Nat) (rv:Value):Prop where
 sg:SigAt w b L sv mr
 rf:RefAt w rb L rv
 f:∀ k,Foot b sv mr k→n0≤k
 g:∀ k,RFoot rb rv k→n0≤k
 d:∀ k,Foot b sv mr k→¬ RFoot rb rv k
 k:Kept (From n0) w0 w
 a:Ars L
theorem Both.start (w:World):Both w.heap.size w ((w.alloc (.cells #[.slice none 0 0,.map none] 125)).alloc (.cells #[.slice none 0 0] 87)) w.heap.size (w.heap.size+1) [] (.slice none 0 0) none (.slice none 0 0):=by
 have k1:Kept (fun _=>False) (w.alloc (.cells #[.slice none 0 0,.map none] 125)) ((w.alloc (.cells #[.slice none 0 0,.map none] 125)).alloc (.cells #[.slice none 0 0] 87)):=(Kept.refl _ _).alloc _
 have e1:(w.alloc (.cells #[.slice none 0 0,.map none] 125)).heap.size=w.heap.size+1:=by simp
 refine ⟨(sig_new w).kept k1 (fun _ _ f=>f),⟨?_,World.ownsRow_nil _ _ _ _,by simp [Value.ownBlock]⟩,?_,?_,?_,((Kept.refl _ w).alloc _).alloc _,fun x hx=>by simp at hx⟩
 ·rw [← e1];exact heap_alloc_new _ _
 ·rintro k (e | e | e)
  ·omega
  ·simp [Value.ownBlock] at e
  ·simp at e
 ·rintro k (e | e)
  ·omega
  ·simp [Value.ownBlock] at e
 ·rintro k (e | e | e) (e' | e')
  ·omega
  ·simp [Value.ownBlock] at e'
  ·simp [Value.ownBlock] at e
  ·simp [Value.ownBlock] at e
  ·simp at e
  ·simp at e
theorem addL_ars {L:List Sym} (h:Ars L) (x:Sym):Ars (addL L x):=by
 unfold addL
 split
 ·rename_i hz
  intro y hy
  rcases List.mem_append.1 hy with hy | hy
  ·exact h y hy
  ·simp at hy;subst hy;exact add_ar hz
 ·exact h
theorem Both.next {n0:Nat} {w0 w w1 w2:World} {b rb:Nat} {L:List Sym} {sv:Value} {mr:Option Nat} {rv:Value} (h:Both n0 w0 w b rb L sv mr rv) (x:Sym) (hn:n0≤w.heap.size) {sv1:Value} {mr1:Option Nat}
  (h1:SigAt w1 b (addL L x) sv1 mr1) (h2:Kept (Foot b sv mr) w w1) (h3:∀ k,Foot b sv1 mr1 k→Foot b sv mr k∨w.heap.size≤k) (hr:RMoved w1 rb rv (addL L x) w2):∃ rv2,Both n0 w0 w2 b rb (addL L x) sv1 mr1 rv2:=by
 obtain ⟨rv2,r1,r2,r3⟩:=hr
 have hrl:=h.rf.lt
 have dd:∀ k,Foot b sv1 mr1 k→¬ RFoot rb rv k:=fun k hk hk' => by
  rcases h3 k hk with e | e
  ·exact h.d k e hk'
  ·have:=hrl k hk'; omega
 have z1:=h2.size
 refine ⟨rv2,h1.kept r2 (fun k e=>dd k e),r1,?_,?_,?_,?_,addL_ars h.a x⟩
 ·intro k hk
  rcases h3 k hk with e | e
  ·exact h.f k e
  ·omega
 ·intro k hk
  rcases r3 k hk with e | e
  ·exact h.g k e
  ·omega
 ·intro k hk hk'
  rcases r3 k hk' with e | e
  ·exact dd k hk e
  ·have:=sig_foot_lt h1 k hk;omega
 ·exact (h.k.trans h2 (fun i _ e=>h.f i e)).trans r2 (fun i _ e=>h.g i e)
def madeL (xs:List Sym):List Sym:=xs.foldl addL []
theorem madeL_snoc {xs:List Sym} {k:Nat} (h:k<xs.length):madeL (xs.take (k+1))=addL (madeL (xs.take k)) xs[k]:=by
 rw [List.take_add_one,List.getElem?_eq_getElem h]
 unfold madeL
 rw [List.foldl_append]
 rfl
theorem from_below {w w' : World} (h:Kept (From w.heap.size) w w'):Same0 w w' := ⟨h.os,h.tape,h.output,h.size,fun k hk _=>h.block k hk (fun e=>by omega)⟩
theorem ints_new (w:World) (xs:List Int) (T:TypeId) {o:Obj} (ho:o=.cells (iv xs).toArray T (0,0)):IntsAt (w.alloc o) (some ⟨w.heap.size,0,none⟩) xs:=by
 subst ho
 refine .inr ⟨_,_,rfl,by simp,fun i hi=>?_⟩
 rw [Nat.zero_add,cellAt (heap_alloc_new w _)]
 simpa using iv_get hi
theorem Row.ints {base:Nat} {w:World} {v:Value} {xs:List Int} (h:Row base w v xs):∃ ao cap,v=.slice ao xs.length cap∧IntsAt w ao xs∧xs.length≤cap∧(∀ a,ao=some a→base≤a.block∧a.block<w.heap.size):=by
 rcases h.2 with ⟨rfl,h0⟩ | ⟨g,cap,cur,rfl,hb,hg,h1,h2,h3,h4⟩
 ·have:xs=[]:=List.eq_nil_of_length_eq_zero h0
  subst this
  exact ⟨none,0,rfl,.inl rfl,Nat.le_refl _,fun a e=>by cases e⟩
 ·refine ⟨_,cap,rfl,.inr ⟨g,0,rfl,lt_of_at hg,fun i hi=>?_⟩,h1,fun a e=>by cases e;exact ⟨hb,lt_of_at hg⟩⟩
  rw [Nat.zero_add,h.cellAt i (by omega)]
  exact iv_get hi
theorem Same0.new {w w' : World} {o:Obj} (h:Same0 (w.alloc o) w'):Same0 w w' := Same0.trans' ((Kept.refl _ w).alloc o) h
theorem wpList_push {w0:World} {ops:Array Oper} {rest:List Oper} {o:Oper} {a:Act} {Q:Exit→Act→World→Prop} (hgd:o.guard=none) (s x:Operand) (t:TypeId)
  (ho:o.op=.call { callee:=.builtin .append,args:=#[s,x],argTypes:=#[t,t] }) (ht:Tryz.prog.underlying t=some (.slice 3))
  (base:Nat) (xs:List Int) (v:Value) (hs:a.eval s=v) (hr:Row base w0 v xs) (y:Int) (hx:a.eval x=.slice (some ⟨w0.heap.size,0,none⟩) 1 1) (hb:base≤w0.heap.size) (hsz:(xs.length+1) * 8≤140737488355328)
  (h:∀ g cap w', Row base w' (.slice (some ⟨g,0,none⟩) (xs.length+1) cap) (xs ++ [y])→Kept (fun k=>v.ownBlock=some k) w0 w' → (v.ownBlock=some g∨w0.heap.size≤g)→wpList Tryz.prog ops Q rest (a.put o.dst (.slice (some ⟨g,0,none⟩) (xs.length+1) cap)) w') :
  wpList Tryz.prog ops Q (o :: rest) a (w0.alloc (.cells #[.int .i64 y] 3)):=by
 obtain ⟨i,hi,hz0,hz1,hz2⟩:=info_parts info_intT
 refine wpList_append_lies _ hgd s x t ho base 3 i (.int .i64 0) 1 8 ht hi hz0 hz1 hz2 rfl (by decide) v xs.length (iv xs) hs (hr.alloc _) ⟨w0.heap.size,0,none⟩ 1 1 [.int .i64 y] hx rfl (cell_one_new _ _ _) (by simp [Value.oneCell']) (by omega) (by unfold maxLen;omega) hsz (by simp;omega) (w0.heap.size+1) (by simp) ?_
 intro g cap w' hown hgrow hat hlt
 refine h g cap w' ?_ ?_ (hat.imp id (fun e=>by omega))
 ·unfold Row;rw [iv_append,List.length_append];exact hown
 ·exact Kept.grown (Kept.alloc (Kept.refl _ w0) _) hgrow (fun _ e _=>e)
theorem Same0.onto {w w0 w' : World} {v:Value} {xs:List Int} (h:Same0 w w0) (hr:Row w.heap.size w0 v xs) (hk:Kept (fun k=>v.ownBlock=some k) w0 w'):Same0 w w' :=
 h.trans hk (fun i hi e=>by have:=(hr.lt i e).1;omega)
end Go.Proofs.YtblgblgchkonhaaGreat
namespace Go.Proofs.YtblgblgchkonhaaGreat
set_option linter.unusedVariables false
open Go.RowKit
attribute [local go_sem ↓] Go.wp_at_zero Go.wp_at_succ
def Over (base g n:Nat) (w wr:World):Prop:=(∃ ys,wr.ownsRow base 3 1 (.slice (some ⟨g,0,none⟩) n n) n ys)∧Kept (fun k=>k=g) w wr
theorem Over.store {base g n:Nat} {w wr:World} (h:Over base g n w wr) (k:Nat) (u:Value):Over base g n w (wr.setCell ⟨g,k,none⟩ u):=by
 obtain ⟨⟨ys,h1⟩,h2⟩:=h
 exact ⟨⟨_,(h1.stored k u).1⟩,h2.setCell (p:=⟨g,k,none⟩) (fun _=>rfl) u⟩
theorem Same0.after {w w5 w6:World} {S:Nat→Prop} (h:Same0 w w5) (k:Kept S w5 w6) (hs:∀ i,i<w.heap.size→¬ S i):Same0 w w6:=
 Kept.trans h k (fun i hi e=>(hs i hi e).elim)
def OverA (base:Nat) (v:Value) (B:Nat→Prop) (n:Nat) (w wr:World):Prop:=∃ zs:List Int,zs.length=n∧Row base wr v zs∧(∀ k,v.ownBlock=some k→B k)∧Kept B w wr
theorem OverA.at {base:Nat} {ao:Option Addr} {cap n:Nat} {B:Nat→Prop} {w wr:World} (h:OverA base (.slice ao n cap) B n w wr) {k:Nat} (hk:k<n):∃ g,ao=some ⟨g,0,none⟩∧∃ old,wr.cell? ⟨g,k,none⟩=some old∧wr.frozen? ⟨g,k,none⟩=false:=by
 obtain ⟨zs,rfl,h1,_,_⟩:=h
 obtain ⟨g,cap', hv,_,_⟩:=h1.form (by omega)
 cases hv
 exact ⟨g,rfl,row_put h1 hk⟩
theorem OverA.store {base g:Nat} {cap n:Nat} {B:Nat→Prop} {w wr:World} (h:OverA base (.slice (some ⟨g,0,none⟩) n cap) B n w wr) (k:Nat) (x:Int):OverA base (.slice (some ⟨g,0,none⟩) n cap) B n w (wr.setCell ⟨g,k,none⟩ (.int .i64 x)):=by
 obtain ⟨zs,rfl,h1,hB,h2⟩:=h
 refine ⟨zs.set k x,by simp,?_,hB,h2.setCell (p:=⟨g,k,none⟩) (fun _=>hB g rfl) _⟩
 have:=(h1.stored k (.int .i64 x)).1
 unfold Row
 rw [List.length_set]
 have e:iv (zs.set k x)=(iv zs).set k (.int .i64 x):=by simp [iv,List.map_set]
 rw [e];exact this
end Go.Proofs.YtblgblgchkonhaaGreat
namespace Go.Proofs.YtblgblgchkonhaaGreat
set_option linter.unusedVariables false
open Go.RowKit Go.Deep
structure Arg (w:World) (ao:Option Addr) (xs:List Int) (cap:Nat):Prop where
 at' : IntsAt w ao xs
 cap' : xs.length≤cap
 nil:ao=none→xs.length=0∧cap=0
 size:xs.length * 8≤140737488351232
section
variable {H : Type} {enc : TypeId × Value → H} {w : World} {spare : Nat → Bool} {held : Bool}
theorem trod_struct5 {P:Program} {base:Nat} {t:TypeId} {f0 f1 f2 f3 f4:Field} {fuel:Nat} {cs:List Value} {x:DataW H × List MemPlace} (ht:P.underlying t=some (.struct #[f0,f1,f2,f3,f4])) (h:DataW.trod enc P w base spare held fuel t cs=some x) :
  ∃ y0 y1 y2 y3 y4 n,x.1=.agg [y0.1,y1.1,y2.1,y3.1,y4.1]∧cs.length=P.cellsOf t∧DataW.trod enc P w base spare held n f0.type ((cs.drop f0.offset).take (P.cellsOf f0.type))=some y0 ∧
   DataW.trod enc P w base spare held n f1.type ((cs.drop f1.offset).take (P.cellsOf f1.type))=some y1∧DataW.trod enc P w base spare held n f2.type ((cs.drop f2.offset).take (P.cellsOf f2.type))=some y2 ∧
   DataW.trod enc P w base spare held n f3.type ((cs.drop f3.offset).take (P.cellsOf f3.type))=some y3∧DataW.trod enc P w base spare held n f4.type ((cs.drop f4.offset).take (P.cellsOf f4.type))=some y4:=by
 obtain ⟨xs,n,_,rfl,hl,hlen,hf⟩:=DataW.trod_struct ht h
 match xs,hlen with
 | [y0,y1,y2,y3,y4],_=>exact ⟨y0,y1,y2,y3,y4,n,by simp,hl,by simpa using hf 0 f0 rfl,by simpa using hf 1 f1 rfl,by simpa using hf 2 f2 rfl,by simpa using hf 3 f3 rfl,by simpa using hf 4 f4 rfl⟩
theorem bytes_int:Tryz.prog.bytesOf 3=8:=by kernel_rfl
theorem open_ints {t fuel:Nat} {cs:List Value} {x:DataW H × List MemPlace} (ht:Tryz.prog.underlying t=some (.slice 3)) (h:DataW.trod enc Tryz.prog w 0 spare held fuel t cs=some x) (hw:∀ n∈x.1.weights Tryz.prog t,n≤reachBytes) :
  ∃ ao cap xs,cs=[.slice ao xs.length cap]∧Arg w ao xs cap:=by
 have h' := h
 rcases open_slice ht h with ⟨hcs,_⟩ | ⟨a,len,cap,m,n,D,Pl,hcs,_,hl,hm,hmm,rfl,hx⟩
 ·exact ⟨none,0,[],hcs,.inl rfl,Nat.le_refl _,fun _=>⟨rfl,rfl⟩,by simp⟩
 ·subst hcs
  have hsz:len * 8≤140737488351232:=by
   have:=hw ((((List.range len).map D).length+((List.range (m-len)).map fun j=>D (len+j)).length) * Tryz.prog.bytesOf 3) (by simp [DataW.weights,ht])
   rw [bytes_int] at this
   simp [reachBytes] at this
   omega
  rcases open_elems ht cells_int (by omega) h' with ⟨e,_,_⟩ | ⟨a', e,hl1,hl2,hall⟩
  ·cases e
  ·cases e
   have each:∀ i,i<len→∃ z:Int,w.cell? ⟨a.block,a.off+i,none⟩=some (.int .i64 z):=by
    intro i hi
    obtain ⟨_,_,cs,n,y,hl,hcell,hy⟩:=hall i hi
    obtain ⟨z,e1,_,_⟩:=DataW.trod_int Tryz.underlying3 hy
    subst e1
    exact ⟨z,by simpa using hcell 0 (by omega)⟩
   obtain ⟨f,hf⟩:=Classical.axiomOfChoice (fun i:Fin len=>each i i.2)
   refine ⟨some a,cap,List.ofFn f,by simp,?_,by simpa using hl,(fun e=>by cases e),by simpa using hsz⟩
   by_cases h0:len=0
   ·subst h0;exact .inl (by simp)
   ·obtain ⟨ea,hlt,_⟩:=hall 0 (by omega)
    refine .inr ⟨a.block,a.off,by rw [← ea],hlt,fun i hi=>?_⟩
    have hi' : i<len:=by simpa using hi
    simpa using hf ⟨i,hi'⟩
theorem slice_one {t e fuel:Nat} {c:Value} {x:DataW H × List MemPlace} (ht:Tryz.prog.underlying t=some (.slice e)) (h:DataW.trod enc Tryz.prog w 0 spare held fuel t [c]=some x):∃ ao len cap,c=.slice ao len cap:=by
 rcases open_slice ht h with ⟨hcs,_⟩ | ⟨a,len,cap,m,n,D,Pl,hcs,_⟩
 ·simp at hcs;exact ⟨_,_,_,hcs⟩
 ·simp at hcs;exact ⟨_,_,_,hcs⟩
structure CaseIs (w:World) (v:Value) (lo:Option Addr) (ll lc:Nat) (ls:List Sym) (so:Option Addr) (tc:Nat) (t:List Int) (at' : Int) (uo:Option Addr) (uc:Nat) (u:List Int) (po:Option Addr) (pc:Nat) (path:List Int):Prop where
 eq:v=.agg #[.slice lo ll lc,.slice so t.length tc,.int .i64 at', .slice uo u.length uc,.slice po path.length pc]
 syms:SymsAt w lo ll ls
 sl:ll≤maxLen
 t' : Arg w so t tc
 u' : Arg w uo u uc
 p' : Arg w po path pc
end
end Go.Proofs.YtblgblgchkonhaaGreat
namespace Go.Proofs.YtblgblgchkonhaaGreat
set_option linter.unusedVariables false
open Go.RowKit
attribute [local go_sem ↓] Go.wp_at_zero Go.wp_at_succ
theorem wpList_more {w0:World} {ops:Array Oper} {rest:List Oper} {o:Oper} {a:Act} {Q:Exit→Act→World→Prop} (hgd:o.guard=none) (s x:Operand) (t:TypeId)
  (ho:o.op=.call { callee:=.builtin .append,args:=#[s,x],argTypes:=#[t,t] }) (ht:Tryz.prog.underlying t=some (.slice 3))
  (base:Nat) (xs:List Int) (v:Value) (hs:a.eval s=v) (hr:Row base w0 v xs) (ys:List Int) (ad:Addr) (m c:Nat) (hx:a.eval x=.slice (some ad) m c) (hm:m=ys.length) (hy:IntsAt w0 (some ad) ys) (hb:base≤w0.heap.size) (hsz:(xs.length+ys.length) * 8≤140737488355328)
  (h:∀ v' w', Row base w' v' (xs++ys)→Kept (fun k=>v.ownBlock=some k) w0 w' → wpList Tryz.prog ops Q rest (a.put o.dst v') w') :
  wpList Tryz.prog ops Q (o :: rest) a w0:=by
 subst hm
 obtain ⟨i,hi,hz0,hz1,hz2⟩:=info_parts info_intT
 refine wpList_append_own _ hgd s x t ho base 3 i (.int .i64 0) 1 8 ht hi hz0 hz1 hz2 rfl (by decide) v xs.length (iv xs) hs hr ad ys.length c (iv ys) hx (by rw [iv_length];omega) (fun j u hj=>?_) (iv_oneCell ys) (by unfold maxLen;omega) hsz hb ?_
 ·obtain ⟨ad', e,hc⟩:=hy.src (by have:=(List.getElem?_eq_some_iff.1 hj).1;omega)
  cases e
  exact hc j u hj
 ·intro v' w' hown hgrow _
  refine h v' w' ?_ (Kept.grown (Kept.refl _ w0) hgrow (fun _ e _=>e))
  unfold Row;rw [iv_append,List.length_append];exact hown
theorem row_empty (w:World) (base:Nat) (hb:base≤w.heap.size) {o:Obj} (ho:o=.cells #[] 3 (0,0)):Row base (w.alloc o) (.slice (some ⟨w.heap.size,0,none⟩) 0 0) []:=by
 subst ho
 exact ⟨rfl,.inr ⟨w.heap.size,0, #[],rfl,hb,heap_alloc_new w _,Nat.le_refl _,by unfold maxLen;omega,rfl,rfl⟩⟩
end Go.Proofs.YtblgblgchkonhaaGreat
namespace Go.Proofs.YtblgblgchkonhaaGreat
set_option maxRecDepth 100000
set_option linter.unusedVariables false
open Go.RowKit
attribute [local go_sem ↓] Go.wp_at_zero Go.wp_at_succ
def ArgT (w:World) (ao:Option Addr) (xs:List Int) (cap:Nat):Prop:=Arg w ao xs cap∧∀ a,ao=some a→∃ cur,w.heap[a.block]? = some (.cells cur 3 (0,0))
theorem ArgT.kept {w w' : World} {ao:Option Addr} {xs:List Int} {cap:Nat} {S:Nat→Prop} (h:ArgT w ao xs cap) (hk:Kept S w w') (hS:∀ k,S k→∀ cur,w.heap[k]? ≠ some (.cells cur 3 (0,0))):ArgT w' ao xs cap:=by
 have ne:∀ a,ao=some a→¬ S a.block:=fun a e s=>by
  obtain ⟨cur,hc⟩:=h.2 a e
  exact hS _ s cur hc
 refine ⟨⟨h.1.at'.kept hk ne,h.1.cap', h.1.nil,h.1.size⟩,fun a e=>?_⟩
 obtain ⟨cur,hc⟩:=h.2 a e
 exact ⟨cur,hk.at hc (ne a e)⟩
theorem ArgT.same {w w' : World} {ao:Option Addr} {xs:List Int} {cap:Nat} (h:ArgT w ao xs cap) (hk:Same0 w w'):ArgT w' ao xs cap:=h.kept hk (fun _ f=>f.elim)
theorem Row.arg {base:Nat} {w:World} {v:Value} {xs:List Int} (h:Row base w v xs) (hl:xs.length≤100000):∃ ao ac,v=.slice ao xs.length ac∧ArgT w ao xs ac∧∀ a,ao=some a→base≤a.block:=by
 obtain ⟨ao,ac,e,h1,h2,h3⟩:=h.ints
 rcases h.2 with ⟨e2,h0⟩ | ⟨g,cap,cur,e2,hb,hg,hle,_⟩
 ·rw [e] at e2
  simp only [Value.slice.injEq] at e2
  obtain ⟨rfl,_,rfl⟩:=e2
  exact ⟨none,0,e,⟨⟨h1,by omega,fun _=>⟨h0,rfl⟩,by omega⟩,fun a e=>by cases e⟩,fun a e=>by cases e⟩
 ·rw [e] at e2
  simp only [Value.slice.injEq] at e2
  obtain ⟨rfl,_,rfl⟩:=e2
  exact ⟨_,ac,e,⟨⟨h1,hle,(fun e=>by cases e),by omega⟩,fun a e=>by cases e;exact ⟨cur,hg⟩⟩,fun a e=>by cases e;exact hb⟩
theorem eqnilI (w:World) (a:Option Addr) (n c n' c' : Nat):(binOp .eql 33 (.slice a n c) (.slice none n' c')).run Tryz.prog w=.ok (.bool a.isNone) w:=Lib.run_eql_slice_nil w _ _ a n c n' c' Tryz.underlying33
set_option maxHeartbeats 1000000 in
theorem cloneI_any {w:World} {ao:Option Addr} {cap:Nat} {xs:List Int} (hx:Arg w ao xs cap) :
  Calls Tryz.prog 74 #[.slice ao xs.length cap] w fun e w' => ∃ v,e=.returned v∧Row w.heap.size w' v xs∧Same0 w w' := by
 have hnil:=eqnilI
 have hsz:=hx.size
 cases ao with
 | none=>
  obtain ⟨h0,rfl⟩:=hx.nil rfl
  obtain rfl:xs=[]:=List.eq_nil_of_length_eq_zero h0
  go_enter Tryz.func74,Tryz.ntmps74
  go_wp2
  go_ret
  exact ⟨_,rfl,World.ownsRow_nil _ _ _ _,Kept.refl _ _⟩
 | some ad=>
  have k0:Same0 w (w.alloc (.cells #[] 3)):=(Kept.refl _ w).alloc _
  have r0:Row w.heap.size (w.alloc (.cells #[] 3)) (.slice (some ⟨w.heap.size,0,none⟩) 0 0) []:=row_empty w _ (Nat.le_refl _) rfl
  have cI:=hx.at'.same k0
  have z0:=k0.size
  clear hx
  go_enter Tryz.func74,Tryz.ntmps74
  go_wp2_with (first | (at_builtin;refine wpList_more rfl _ _ 33 rfl Tryz.underlying33 w.heap.size [] _ rfl r0 xs _ _ _ rfl rfl cI z0 (by simp;omega) ?_;intro v' w4 hr4 hk4))
  go_ret
  exact ⟨_,rfl,by simpa using hr4,k0.onto r0 hk4⟩
end Go.Proofs.YtblgblgchkonhaaGreat
