import Derived.Test.YtmjgnfkbnofjoaaGreatDoorSW02
import Derived.Deep.RegionLaw
import Derived.Deep.DeepCutAuto
import Derived.Deep.DrawnRows
import Derived.Test.YtmjgnfkbnofjoaaGreatDoorSW01
import Derived.Deep.Slices
import Derived.Deep.Strs
import Derived.ProofKit
import Derived.Handy
namespace Go.Proofs.YtmjgnfkbnofjoaaGreatDoor
set_option maxRecDepth 100000
open Go.RowKit
def addL (L:List Sym) (x:Sym):List Sym:=if addErr L x=0 then L ++ [x] else L
def addN (L:List Sym) (x:Sym):Int:=if addErr L x=0 then (L.length:Int) else 0
def Moved (w:World) (b:Nat) (sv:Value) (mr:Option Nat) (L' : List Sym) (w' : World):Prop:=
 ∃ sv' mr', SigAt w' b L' sv' mr' ∧ Kept (Foot b sv mr) w w' ∧ ∀ k,Foot b sv' mr' k→Foot b sv mr k∨w.heap.size≤k
abbrev boxOf (x:Sym):Obj:=.cells #[.string x.name,.int .i64 x.ar,.bool x.df] 60 (0,0)
theorem map_empty (w:World):MapIs (w.alloc (.map #[] 0)) (some w.heap.size) []:=
 ⟨0,_,World.ownsMap_made w Tryz.prog _ _,Nat.le_refl _,fun s=>⟨rfl,fun i h=>by simp [findI] at h⟩⟩
theorem eql_map (mr:Option Nat) (w:World):(binOp .eql 109 (.map mr) (.map none)).run Tryz.prog w=.ok (.bool mr.isNone) w:=by
 cases mr <;> kernel_rfl
theorem sig_mapped {W:World} {b:Nat} {L:List Sym} {sv:Value} (h:SigAt W b L sv none):SigAt ((W.alloc (.map #[] 0)).setCell ⟨b,1,none⟩ (.map (some W.heap.size))) b L sv (some W.heap.size):=by
 obtain rfl:L=[]:=h.map
 have hb:=lt_of_at h.blk
 have h3:SigAt (W.alloc (.map #[] 0)) b [] sv none:=h.kept (Kept.alloc (Kept.refl (fun _=>False) _) _) (fun _ _ f=>f)
 have hk:Kept (fun k=>k=b) (W.alloc (.map #[] 0)) ((W.alloc (.map #[] 0)).setCell ⟨b,1,none⟩ (.map (some W.heap.size))):=Kept.setCell (S:=fun k=>k=b) (p:=⟨b,1,none⟩) (Kept.refl _ _) (fun _=>rfl) _
 exact ⟨by rw [setAt h3.blk];rfl,hk.row h3.row (fun k e e' => h.apart (by rw [e,e'])),(map_empty W).kept hk (fun k e e' => by simp at e;omega),h.apart,h.len,h.names⟩
theorem add_zero {L:List Sym} {x:Sym} (h:addErr L x=0):findI L x.name=none∧nameB x.name=true∧L.length<64:=by
 unfold addErr at h
 by_cases h1:nameB x.name=false
 ·simp [h1] at h
 ·rw [if_neg h1] at h
  by_cases h2:x.ar<0∨6<x.ar
  ·simp [h2] at h
  ·rw [if_neg h2] at h
   by_cases h3:(findI L x.name).isSome
   ·simp [h3] at h
   ·rw [if_neg h3] at h
    by_cases h4:64≤L.length
    ·simp [h4] at h
    ·exact ⟨by simpa using h3,by simpa using h1,by omega⟩
theorem add_ar {L:List Sym} {x:Sym} (h:addErr L x=0):0≤x.ar∧x.ar≤6:=by
 unfold addErr at h
 by_cases h1:nameB x.name=false
 ·simp [h1] at h
 ·rw [if_neg h1] at h
  by_cases h2:x.ar<0∨6<x.ar
  ·simp [h2] at h
  ·omega
theorem blk_grown {w w1:World} {o ob:Obj} {b:Nat} {v:Value} (hg:(w.alloc o).drew.grownBy w1 v.ownBlock) (hb:w.heap[b]? = some ob) (hne:v.ownBlock≠some b):w1.heap[b]? = some ob:=by
 have hlt:=lt_of_at hb
 rw [hg.block b (by simp;omega) (Ne.symm hne)]
 exact (heap_alloc_old w o hlt).trans hb
def AddMid (w:World) (b:Nat) (L:List Sym) (sv:Value) (mr:Option Nat) (bm:Nat) (x:Sym) (w' : World):Prop:=
 ∃ sv', w'.heap[b]? = some (.cells #[sv', .map (some bm)] 111 (0,0))∧w'.ownsRow 0 60 3 sv' (L.length+1) (symCells (L ++ [x]))∧MapIs w' (some bm) L∧w'.heap[w.heap.size]? = some (boxOf x)∧Kept (Foot b sv mr) w w' ∧ ∀ k,sv'.ownBlock=some k→k≠b∧(sv.ownBlock=some k∨w.heap.size≤k)
theorem add_mid {w wc w1:World} {b:Nat} {L:List Sym} {sv:Value} {mr:Option Nat} {x:Sym} {bm gg cap:Nat} (h:SigAt w b L sv mr) (hsg:SigAt wc b L sv (some bm)) (hbx:wc.heap[w.heap.size]? = some (boxOf x)) (hkp:Kept (Foot b sv mr) w wc)
  (hown1:w1.ownsRow 0 60 3 (.slice (some ⟨gg,0,none⟩) (L.length+1) cap) (L.length+1) (symCells L ++ [.string x.name,.int .i64 x.ar,.bool x.df]))
  (hgrow:(wc.alloc (boxOf x)).drew.grownBy w1 sv.ownBlock) (hat:sv.ownBlock=some gg∨gg=wc.heap.size+1) (hb1:w1.heap[b]? = some (.cells #[sv,.map (some bm)] 111 (0,0))) :
  AddMid w b L sv mr bm x (w1.setCell ⟨b,0,none⟩ (.slice (some ⟨gg,0,none⟩) (L.length+1) cap)):=by
 have lb:=lt_of_at h.blk
 have lbc:=lt_of_at hsg.blk
 have lsv:=h.row.lt
 have hgb:gg≠b:=by
  rcases hat with e | e
  ·intro e'; exact hsg.apart (by rw [e,e'])
  ·omega
 obtain ⟨n,D,hm,hn,hall⟩:=hsg.map
 obtain ⟨es,clock,hbm,hrest⟩:=hm
 have hbmb:bm≠b:=fun e=>by subst e;rw [hsg.blk] at hbm;simp at hbm
 have hbms:sv.ownBlock≠some bm:=fun e=>by
  rcases hsg.row.2 with ⟨rfl,_⟩ | ⟨g,c,cur,rfl,_,hg,_⟩
  ·simp [Value.ownBlock] at e
  ·simp [Value.ownBlock] at e;subst e;rw [hg] at hbm;simp at hbm
 have hk1:Kept (fun k=>sv.ownBlock=some k) wc w1:=Kept.grown (Kept.drew (Kept.alloc (Kept.refl _ wc) _)) hgrow (fun _ e _=>e)
 have hk2:Kept (fun k=>sv.ownBlock=some k∨k=b) wc (w1.setCell ⟨b,0,none⟩ (.slice (some ⟨gg,0,none⟩) (L.length+1) cap)):=
  Kept.setCell (hk1.mono (fun _ _ e=>.inl e)) (fun _=>.inr rfl) _
 have hk3:Kept (fun k=>k=b) w1 (w1.setCell ⟨b,0,none⟩ (.slice (some ⟨gg,0,none⟩) (L.length+1) cap)):=Kept.setCell (S:=fun k=>k=b) (p:=⟨b,0,none⟩) (Kept.refl _ _) (fun _=>rfl) _
 refine ⟨_,by rw [setAt hb1];rfl,?_,?_,?_,?_,?_⟩
 ·rw [symCells_snoc];exact hk3.row hown1 (fun k e e' => by simp [Value.ownBlock] at e;omega)
 ·exact ⟨n,D,hk2.map ⟨es,clock,hbm,hrest⟩ (fun e=>e.elim hbms hbmb),hn,hall⟩
 ·exact hk2.at hbx (fun e=>by
   rcases e with e | e
   ·have:=lsv _ e;omega
   ·omega)
 ·exact hkp.trans hk2 (fun i _ e=>e.elim (fun e=>.inr (.inl e)) .inl)
 ·intro k e
  simp [Value.ownBlock] at e
  subst e
  refine ⟨hgb,hat.imp id (fun e=>?_)⟩
  have:=hkp.size
  omega
theorem map_put {w w' : World} {bm:Nat} {L:List Sym} {x:Sym} {n:Nat} {D:DataW Unit} (hf:findI L x.name=none) (hm:w.ownsMap Tryz.prog 9 (plainElem Tryz.prog 3) bm n D) (hn:n≤L.length)
  (hall:∀ s:ByteArray,Maps.has D (.string s.data.toList)=(findI L s).isSome∧∀ i,findI L s=some i→D.atKey (.string s.data.toList) (.lit (.int .i64 0))=.lit (.int .i64 (i:Int)))
  (hm' : w'.ownsMap Tryz.prog 9 (plainElem Tryz.prog 3) bm (n+1) (D.put (.string x.name.data.toList) (.lit (.int .i64 (L.length:Int))))):MapIs w' (some bm) (L ++ [x]):=by
 refine ⟨n+1,_,hm', by simp;omega,fun s=>?_⟩
 have hk:WideAt.IsKeyLit (.string x.name.data.toList):=trivial
 rw [findI_snoc]
 by_cases hs:x.name=s
 ·subst hs
  rw [hf,Maps.has_put_same hm.isMap hk,Maps.atKey_put_same hm.isMap hk]
  simp
 ·have hne:Lit.string s.data.toList≠Lit.string x.name.data.toList:=by
   intro e
   apply hs
   have e1:s.data.toList=x.name.data.toList:=by simpa using e
   have e2:s.data=x.name.data:=Array.toList_inj.1 e1
   cases s;cases hx:x.name;simp_all
  rw [Maps.has_put_other hne,Maps.atKey_put_other hne,(hall s).1]
  cases hfs:findI L s with
  | none=>simp [hs]
  | some i=>simpa using (hall s).2 i hfs
theorem row_not_map {w:World} {e:TypeId} {v:Value} {n:Nat} {xs:List Value} {bm:Nat} {es:Array MapEntry} {clock:Nat} (hr:w.ownsRow 0 e 3 v n xs) (hb:w.heap[bm]? = some (.map es clock)):v.ownBlock≠some bm:=fun e=>by
 rcases hr.2 with ⟨rfl,_⟩ | ⟨g,c,cur,rfl,_,hg,_⟩
 ·simp [Value.ownBlock] at e
 ·simp [Value.ownBlock] at e;subst e;rw [hg] at hb;simp at hb
theorem add_end {w wc w2:World} {b:Nat} {L:List Sym} {sv sv' : Value} {mr:Option Nat} {x:Sym} {bm n:Nat} {D:DataW Unit} (h:SigAt w b L sv mr) (hz:addErr L x=0) (hb:wc.heap[b]? = some (.cells #[sv', .map (some bm)] 111 (0,0)))
  (hrow:wc.ownsRow 0 60 3 sv' (L.length+1) (symCells (L ++ [x]))) (hkp:Kept (Foot b sv mr) w wc) (hft:∀ k,sv'.ownBlock=some k→k≠b∧(sv.ownBlock=some k∨w.heap.size≤k))
  (hm:wc.ownsMap Tryz.prog 9 (plainElem Tryz.prog 3) bm n D) (hn:n≤L.length)
  (hall:∀ s:ByteArray,Maps.has D (.string s.data.toList)=(findI L s).isSome∧∀ i,findI L s=some i→D.atKey (.string s.data.toList) (.lit (.int .i64 0))=.lit (.int .i64 (i:Int)))
  (hm2:w2.ownsMap Tryz.prog 9 (plainElem Tryz.prog 3) bm (n+1) (D.put (.string x.name.data.toList) (.lit (.int .i64 (L.length:Int)))))
  (hturn:wc.drew.mapTurned w2 bm) (hbm:mr=some bm∨w.heap.size≤bm):Moved w b sv mr (L ++ [x]) w2:=by
 obtain ⟨hf,hnm,hlen⟩:=add_zero hz
 have hk:Kept (fun k=>k=bm) wc w2:=Kept.grown (Kept.drew (Kept.refl _ wc)) hturn.grown (fun k e _=>by simpa using e.symm)
 have hbmb:b≠bm:=by
  obtain ⟨es,clock,hb', _⟩:=hm
  intro e;subst e;rw [hb] at hb'; simp at hb'
 have hsb:sv'.ownBlock≠some bm:=by
  obtain ⟨es,clock,hb', _⟩:=hm
  exact row_not_map hrow hb'
 refine ⟨sv', some bm,⟨hk.at hb hbmb,?_,map_put hf hm hn hall hm2,fun e=>(hft b e).1 rfl,by simp;omega,?_⟩,?_,?_⟩
 ·have:=hk.row hrow (fun k e e' => hsb (by rw [e,e']))
  simpa using this
 ·intro y hy
  rcases List.mem_append.1 hy with hy | hy
  ·exact h.names y hy
  ·simp at hy;subst hy;exact hnm
 ·refine hkp.trans hk (fun i hi e=>?_)
  subst e
  rcases hbm with e | e
  ·exact .inr (.inr e)
  ·omega
 ·intro k hk'
  rcases hk' with e | e | e
  ·exact .inl (.inl e)
  ·exact (hft k e).2.imp (fun e=>.inr (.inl e)) id
  ·simp at e;subst e;exact hbm.imp (fun e=>.inr (.inr e)) id
set_option maxHeartbeats 1000000 in
theorem add_ok {w:World} {b:Nat} {L:List Sym} {sv:Value} {mr:Option Nat} (h:SigAt w b L sv mr) (x:Sym) (hs:x.name.size≤maxLen) (hz:addErr L x=0) :
  Calls Tryz.prog 71 #[.pointer (some ⟨b,0,none⟩),.agg #[.string x.name,.int .i64 x.ar,.bool x.df]] w fun e w' => e=.returned (.tuple #[.int .i64 (L.length:Int),.int .i64 0])∧Moved w b sv mr (L ++ [x]) w' := by
 obtain ⟨ao,cap,rfl⟩:=h.sv
 have h1:SigAt (w.alloc (boxOf x)) b L (.slice ao L.length cap) mr:=h.kept (Kept.alloc (Kept.refl (fun _=>False) w) _) (fun _ _ f=>f)
 have h2:SigAt ((w.alloc (boxOf x)).alloc (boxOf x)) b L (.slice ao L.length cap) mr:=h1.kept (Kept.alloc (Kept.refl (fun _=>False) _) _) (fun _ _ f=>f)
 have c1:((w.alloc (boxOf x)).alloc (boxOf x)).cell? ⟨b,1,none⟩=some (.map mr):=cellAt h2.blk 1
 have f1:((w.alloc (boxOf x)).alloc (boxOf x)).frozen? ⟨b,1,none⟩=false:=frozenAt h2.blk 1
 have h2box:((w.alloc (boxOf x)).alloc (boxOf x)).heap[w.heap.size]? = some (boxOf x):=by rw [heap_alloc_old _ _ (by simp)];exact heap_alloc_new w _
 have h3:SigAt (((w.alloc (boxOf x)).alloc (boxOf x)).alloc (.map #[] 0)) b L (.slice ao L.length cap) mr:=h2.kept (Kept.alloc (Kept.refl (fun _=>False) _) _) (fun _ _ f=>f)
 have c3:(((w.alloc (boxOf x)).alloc (boxOf x)).alloc (.map #[] 0)).cell? ⟨b,1,none⟩=some (.map mr):=cellAt h3.blk 1
 have f3:(((w.alloc (boxOf x)).alloc (boxOf x)).alloc (.map #[] 0)).frozen? ⟨b,1,none⟩=false:=frozenAt h3.blk 1
 have hmm:=@run_makeMap Tryz.prog
 have hem:=eql_map
 go_enter Tryz.func71,Tryz.ntmps71
 go_upto_if 18 with (first | (go_at_call 118;refine (refusal_any h1 x hs).mono ?_;rintro e w' ⟨rfl,rfl⟩))
 go_cut [] (fun w' => ∃ bm,SigAt w' b L (.slice ao L.length cap) (some bm)∧w'.heap[w.heap.size]? = some (boxOf x)∧Kept (Foot b (.slice ao L.length cap) mr) w w' ∧ (mr=some bm∨w.heap.size≤bm))
 case first=>
  cases mr with
  | some bm=>
   go_wp2
   go_meet
   case rel=>exact ⟨bm,h2,h2box,Kept.alloc (Kept.alloc (Kept.refl _ w) _) _,.inl rfl⟩
  | none=>
   go_wp2
   go_meet
   case rel=>
    refine ⟨w.heap.size+1+1,?_,?_,?_,.inr (by omega)⟩
    ·simpa using sig_mapped h2
    ·rw [Below.heap_setCell _ _ _ _ (by have:=lt_of_at h.blk;simp;omega),heap_alloc_old _ _ (by simp;omega)];exact h2box
    ·exact Kept.setCell (Kept.alloc (Kept.alloc (Kept.alloc (Kept.refl _ w) _) _) _) (fun _=>.inl rfl) _
 case rest=>
  obtain ⟨bm,hsg,hbx,hkp,hbm⟩:=hcut
  have d0:wc.cell? ⟨b,0,none⟩=some (.slice ao L.length cap):=cellAt hsg.blk 0
  go_upto_region 7 with fail
  go_cut [] (fun w' => AddMid w b L (.slice ao L.length cap) mr bm x w')
  case first=>
   obtain ⟨i0,hi0,hz0,hz1,hz2⟩:=info_parts info_Symbol
   have hn1:L.length+1≤maxLen:=by have:=h.len;unfold maxLen;omega
   have hn2:(L.length+1) * 32≤140737488355328:=by have:=h.len;omega
   have g0:wc.frozen? ⟨b,0,none⟩=false:=frozenAt hsg.blk 0
   have x0:wc.cell? ⟨w.heap.size,0,none⟩=some (.string x.name):=cellAt hbx 0
   have x1:wc.cell? ⟨w.heap.size,1,none⟩=some (.int .i64 x.ar):=cellAt hbx 1
   have x2:wc.cell? ⟨w.heap.size,2,none⟩=some (.bool x.df):=cellAt hbx 2
   have d0' : (wc.alloc (boxOf x)).cell? ⟨b,0,none⟩=some (.slice ao L.length cap):=cellAt ((heap_alloc_old wc _ (lt_of_at hsg.blk)).trans hsg.blk) 0
   go_region_law ((refine step_append_lies _ (by rfl) _ _ _ (by rfl) 0 60 i0 _ 3 32 Tryz.underlying28 hi0 hz0 hz1 hz2 rfl (by omega) (.slice ao L.length cap) L.length (symCells L) (by rfl) ((hsg.row.alloc _).drew) ⟨wc.heap.size,0,none⟩ 1 1 [.string x.name,.int .i64 x.ar,.bool x.df] (by rfl) (by rfl) (World.news_of_block (cs:=#[.string x.name,.int .i64 x.ar,.bool x.df]) (t:=60) (fr:=(0,0)) (heap_alloc_new wc _)) (by simp [Value.oneCell']) (by omega) hn1 hn2 (by omega) (wc.heap.size+1) (by simp) ?_;intro gg cap w1 hown1 hgrow hat hlt;have hb1:=blk_grown hgrow hsg.blk hsg.apart;have k0:=cellAt hb1 0;have k1:=frozenAt hb1 0;simp only [List.getElem?_toArray,List.getElem?_cons_zero] at k0))
   all_goals
    go_wp2
    go_meet
    case rel=>exact add_mid h hsg hbx hkp hown1 hgrow hat hb1
  case rest=>
   obtain ⟨sv', hb,hrow,hmap,hbx,hkp,hft⟩:=hcut
   obtain ⟨n,D,hm,hn,hall⟩:=hmap
   have hsz:findI L x.name=none∧nameB x.name=true∧L.length<64:=add_zero hz
   obtain ⟨w2,hrun,hm2,hturn⟩:=World.ownsMap.store (w:=wc.drew) hm law_string Tryz.underlying109 (by have:=hsz.2.2;unfold maxLen;omega) (key_str hs) (plainElem_int Tryz.underlying3 (a:=(L.length:Int)) (WalkArith.wf_i64 (by have:=hsz.2.2;omega)))
   have y0:wc.cell? ⟨w.heap.size,0,none⟩=some (.string x.name):=cellAt hbx 0
   have y1:wc.cell? ⟨b,1,none⟩=some (.map (some bm)):=cellAt hb 1
   go_wp2_with fail
   go_region
   all_goals
    go_wp2
    go_ret2
    exact ⟨rfl,add_end h hz hb hrow hkp hft hm hn hall hm2 hturn hbm⟩
set_option maxHeartbeats 1000000 in
theorem add_no {w:World} {b:Nat} {L:List Sym} {sv:Value} {mr:Option Nat} (h:SigAt w b L sv mr) (x:Sym) (hs:x.name.size≤maxLen) (hz:addErr L x≠0) :
  Calls Tryz.prog 71 #[.pointer (some ⟨b,0,none⟩),.agg #[.string x.name,.int .i64 x.ar,.bool x.df]] w fun e w' => e=.returned (.tuple #[.int .i64 0,.int .i64 (addErr L x)])∧Moved w b sv mr L w' := by
 have h1:SigAt (w.alloc (boxOf x)) b L sv mr:=h.kept (Kept.alloc (Kept.refl (fun _=>False) w) _) (fun _ _ f=>f)
 have h2:SigAt ((w.alloc (boxOf x)).alloc (boxOf x)) b L sv mr:=h1.kept (Kept.alloc (Kept.refl (fun _=>False) _) _) (fun _ _ f=>f)
 have hz' : (addErr L x != 0)=true:=by simpa using hz
 go_enter Tryz.func71,Tryz.ntmps71
 go_wp2_with (first | (go_at_call 118;refine (refusal_any h1 x hs).mono ?_;rintro e w' ⟨rfl,rfl⟩))
 go_ret2
 exact ⟨rfl,sv,mr,h2,Kept.alloc (Kept.alloc (Kept.refl _ w) _) _,fun k hk=>.inl hk⟩
theorem add_any {w:World} {b:Nat} {L:List Sym} {sv:Value} {mr:Option Nat} (h:SigAt w b L sv mr) (x:Sym) (hs:x.name.size≤maxLen) :
  Calls Tryz.prog 71 #[.pointer (some ⟨b,0,none⟩),.agg #[.string x.name,.int .i64 x.ar,.bool x.df]] w fun e w' => e=.returned (.tuple #[.int .i64 (addN L x),.int .i64 (addErr L x)])∧Moved w b sv mr (addL L x) w' := by
 by_cases hz:addErr L x=0
 ·rw [addN,addL,if_pos hz,if_pos hz,hz];exact add_ok h x hs hz
 ·rw [addN,addL,if_neg hz,if_neg hz];exact add_no h x hs hz
def Own (n:Nat) (w:World) (b:Nat) (L:List Sym):Prop:=∃ sv mr,SigAt w b L sv mr∧∀ k,Foot b sv mr k→n≤k
abbrev From (n k:Nat):Prop:=n≤k
theorem Own.kept {n b:Nat} {w w' : World} {L:List Sym} {S:Nat→Prop} (h:Own n w b L) (hk:Kept S w w') (hs:∀ k,n≤k→¬ S k):Own n w' b L:=by
 obtain ⟨sv,mr,h1,h2⟩:=h
 exact ⟨sv,mr,h1.kept hk (fun k e=>hs k (h2 k e)),h2⟩
theorem Own.add {n b:Nat} {w:World} {L:List Sym} (h:Own n w b L) (hn:n≤w.heap.size) (x:Sym) (hs:x.name.size≤maxLen) :
  Calls Tryz.prog 71 #[.pointer (some ⟨b,0,none⟩),.agg #[.string x.name,.int .i64 x.ar,.bool x.df]] w fun e w' => e=.returned (.tuple #[.int .i64 (addN L x),.int .i64 (addErr L x)])∧Own n w' b (addL L x)∧Kept (From n) w w' := by
 obtain ⟨sv,mr,h1,h2⟩:=h
 refine (add_any h1 x hs).mono ?_
 rintro e w' ⟨rfl,sv', mr', h3,h4,h5⟩
 exact ⟨rfl,⟨sv', mr', h3,fun k hk=>(h5 k hk).elim (h2 k) (fun e=>by omega)⟩,h4.mono (fun k _ e=>h2 k e)⟩
abbrev aS:Sym:=⟨⟨#[115]⟩,1,false⟩
abbrev aAdd:Sym:=⟨⟨#[97,100,100]⟩,2,true⟩
theorem SigAt.sym {w:World} {b:Nat} {L:List Sym} {ao:Option Addr} {cap:Nat} {mr:Option Nat} (h:SigAt w b L (.slice ao L.length cap) mr) {i:Nat} (hi:i<L.length) :
  ∃ g,ao=some ⟨g,0,none⟩∧g<w.heap.size∧w.cell? ⟨g,i * 3,none⟩=some (.string L[i].name)∧w.cell? ⟨g,i * 3+1,none⟩=some (.int .i64 L[i].ar)∧w.cell? ⟨g,i * 3+2,none⟩=some (.bool L[i].df):=by
 obtain ⟨g,cap', hv,_,hlt⟩:=h.row.form (by omega)
 obtain ⟨rfl,_,rfl⟩:ao=some ⟨g,0,none⟩∧L.length=L.length∧cap=cap' := by simpa using hv
 have hc:=fun j hj=>h.row.cellAt j hj
 obtain ⟨a1,a2,a3⟩:=symCells_at hi
 refine ⟨g,rfl,hlt,?_,?_,?_⟩
 ·rw [hc _ (by omega),a1]
 ·rw [hc _ (by omega),a2]
 ·rw [hc _ (by omega),a3]
set_option maxHeartbeats 1000000 in
theorem at_yes {w:World} {b:Nat} {L:List Sym} {sv:Value} {mr:Option Nat} (h:SigAt w b L sv mr) (i:Nat) (hi:i<L.length) :
  Calls Tryz.prog 128 #[.pointer (some ⟨b,0,none⟩),.int .i64 (i:Int)] w fun e w' => e=.returned (.tuple #[.agg #[.string L[i].name,.int .i64 L[i].ar,.bool L[i].df],.int .i64 0])∧Kept (fun _=>False) w w' := by
 obtain ⟨ao,cap,rfl⟩:=h.sv
 have h1:∀ o,SigAt (w.alloc o) b L (.slice ao L.length cap) mr:=fun o=>h.kept (Kept.alloc (Kept.refl (fun _=>False) w) _) (fun _ _ f=>f)
 have c0:∀ o,(w.alloc o).cell? ⟨b,0,none⟩=some (.slice ao L.length cap):=fun o=>cellAt (h1 o).blk 0
 obtain ⟨g,rfl,hg,x0,x1,x2⟩:=h.sym hi
 have hlen:=h.len
 have i1:(0:Int)≤(i:Int):=by omega
 have i2:(i:Int)<(L.length:Int):=by omega
 go_enter Tryz.func128,Tryz.ntmps128
 go_wp2
 exact bodyPost_ret (v:=.tuple #[.agg #[.string L[i].name,.int .i64 L[i].ar,.bool L[i].df],.int .i64 0]) (by simp [results,Tryz.results128,go_sem]) rfl ⟨rfl,Kept.alloc (Kept.refl _ w) _⟩
set_option maxHeartbeats 1000000 in
theorem at_no {w:World} {b:Nat} {L:List Sym} {sv:Value} {mr:Option Nat} (h:SigAt w b L sv mr) (n:Int) (hn:n<0∨(L.length:Int)≤n) :
  Calls Tryz.prog 128 #[.pointer (some ⟨b,0,none⟩),.int .i64 n] w fun e w' => e=.returned (.tuple #[.agg #[.string ⟨#[]⟩,.int .i64 0,.bool false],.int .i64 14])∧Kept (fun _=>False) w w' := by
 obtain ⟨ao,cap,rfl⟩:=h.sv
 have h1:∀ o,SigAt (w.alloc o) b L (.slice ao L.length cap) mr:=fun o=>h.kept (Kept.alloc (Kept.refl (fun _=>False) w) _) (fun _ _ f=>f)
 have c0:∀ o,(w.alloc o).cell? ⟨b,0,none⟩=some (.slice ao L.length cap):=fun o=>cellAt (h1 o).blk 0
 by_cases h0:n<0
 ·go_enter Tryz.func128,Tryz.ntmps128
  go_wp2
  exact bodyPost_ret (v:=.tuple #[.agg #[.string ⟨#[]⟩,.int .i64 0,.bool false],.int .i64 14]) (by simp [results,Tryz.results128,go_sem]) rfl ⟨rfl,Kept.alloc (Kept.refl _ w) _⟩
 ·have h2:(L.length:Int)≤n:=by omega
  go_enter Tryz.func128,Tryz.ntmps128
  go_wp2
  exact bodyPost_ret (v:=.tuple #[.agg #[.string ⟨#[]⟩,.int .i64 0,.bool false],.int .i64 14]) (by simp [results,Tryz.results128,go_sem]) rfl ⟨rfl,Kept.alloc (Kept.refl _ w) _⟩
end Go.Proofs.YtmjgnfkbnofjoaaGreatDoor
namespace Go.Proofs.YtmjgnfkbnofjoaaGreatDoor
set_option maxRecDepth 100000
open Go.RowKit
attribute [local go_sem ↓] Go.wp_at_zero Go.wp_at_succ
def findR (L:List Sym) (s:ByteArray):Int:=match findI L s with | some i=>(i:Int) | none=>-1
theorem findI_first {L:List Sym} {s:ByteArray} {k:Nat} (hk:k<L.length) (h:L[k].name=s) (hb:∀ j (hj:j<L.length),j<k→L[j].name≠s):findI L s=some k:=by
 induction L generalizing k with
 | nil=>simp at hk
 | cons y r ih=>
  simp only [findI]
  cases k with
  | zero=>simp at h;simp [h]
  | succ j=>
   have h0:y.name≠s:=hb 0 (by simp) (by omega)
   rw [if_neg h0,ih (k:=j) (by simpa using hk) (by simpa using h) (fun i hi hij=>by have:=hb (i+1) (by simpa using hi) (by omega);simpa using this)]
   rfl
theorem findI_all {L:List Sym} {s:ByteArray} (hb:∀ j (hj:j<L.length),L[j].name≠s):findI L s=none:=by
 induction L with
 | nil=>rfl
 | cons y r ih=>
  simp only [findI]
  have h0:y.name≠s:=hb 0 (by simp)
  rw [if_neg h0,ih (fun j hj=>by have:=hb (j+1) (by simpa using hj);simpa using this)]
  rfl
theorem row_sym {w:World} {base:Nat} {L:List Sym} {ao:Option Addr} {cap:Nat} (h:w.ownsRow base 60 3 (.slice ao L.length cap) L.length (symCells L)) {i:Nat} (hi:i<L.length) :
  ∃ g,ao=some ⟨g,0,none⟩∧g<w.heap.size∧w.cell? ⟨g,i * 3,none⟩=some (.string L[i].name)∧w.cell? ⟨g,i * 3+1,none⟩=some (.int .i64 L[i].ar)∧w.cell? ⟨g,i * 3+2,none⟩=some (.bool L[i].df):=by
 obtain ⟨g,cap', hv,_,hlt⟩:=h.form (by omega)
 obtain ⟨rfl,_,rfl⟩:ao=some ⟨g,0,none⟩∧L.length=L.length∧cap=cap' := by simpa using hv
 have hc:=fun j hj=>h.cellAt j hj
 obtain ⟨a1,a2,a3⟩:=symCells_at hi
 refine ⟨g,rfl,hlt,?_,?_,?_⟩
 ·rw [hc _ (by omega),a1]
 ·rw [hc _ (by omega),a2]
 ·rw [hc _ (by omega),a3]
set_option maxHeartbeats 1000000 in
theorem rfind_any {w:World} {base:Nat} {L:List Sym} {v:Value} (hr:w.ownsRow base 60 3 v L.length (symCells L)) (hlen:L.length≤64) (s:ByteArray) :
  Calls Tryz.prog 94 #[v,.string s] w fun e w' => e=.returned (.int .i64 (findR L s))∧w' = w:=by
 obtain ⟨ao,cap,rfl⟩:=row_shape hr
 go_enter Tryz.func94,Tryz.ntmps94
 go_wp2
 go_loop [5] (fun i=>∃ k:Nat,k≤L.length∧i=.int .i64 k∧∀ j (hj:j<L.length),j<k→L[j].name≠s) (fun i=>L.length-(intOf i).toNat)
 case atStart=>exact ⟨0,Nat.zero_le _,rfl,fun j _ h=>by omega⟩
 case round=>
  obtain ⟨k,hk,rfl,hal⟩:=hrel
  by_cases hlt:k<L.length
  ·obtain ⟨g,rfl,hg,x0,x1,x2⟩:=row_sym hr hlt
   have i1:(0:Int)≤(k:Int):=by omega
   have i2:(k:Int)<(L.length:Int):=by omega
   by_cases he:L[k].name=s
   ·have hf:findR L s=(k:Int):=by rw [findR,findI_first hlt he hal]
    have HF:Hid (findR L s=(k:Int)):=hf
    clear hf
    go_wp2
    go_ret
    exact ⟨ret_int HF.out.symm,rfl⟩
   ·have hnx:∀ j (hj:j<L.length),j<k+1→L[j].name≠s:=by
     intro j hj h2
     by_cases e:j=k
     ·subst e;exact he
     ·exact hal j hj (by omega)
    have he' := str_ne he
    go_wp2
    go_round
    case rel=>exact ⟨k+1,by omega,by go_num,hnx⟩
    case measure=>simp [intOf];omega
  ·have hf:findR L s = -1:=by rw [findR,findI_all (fun j hj=>hal j hj (by omega))]
   have HF:Hid (findR L s = -1):=hf
   clear hf
   go_wp2
   go_ret
   exact ⟨ret_int HF.out.symm,rfl⟩
structure RefAt (w:World) (rb:Nat) (L:List Sym) (rv:Value):Prop where
 blk:w.heap[rb]? = some (.cells #[rv] 126 (0,0))
 row:w.ownsRow 0 60 3 rv L.length (symCells L)
 apart:rv.ownBlock≠some rb
def RFoot (rb:Nat) (rv:Value) (k:Nat):Prop:=k=rb∨rv.ownBlock=some k
theorem RefAt.kept {S:Nat→Prop} {w w' : World} {rb:Nat} {L:List Sym} {rv:Value} (h:RefAt w rb L rv) (hk:Kept S w w') (hn:∀ k,RFoot rb rv k→¬ S k):RefAt w' rb L rv:=
 ⟨hk.at h.blk (hn rb (.inl rfl)),hk.row h.row (fun k e=>hn k (.inr e)),h.apart⟩
theorem RefAt.c0 {w:World} {rb:Nat} {L:List Sym} {rv:Value} (h:RefAt w rb L rv):w.cell? ⟨rb,0,none⟩=some rv:=cellAt h.blk 0
theorem RefAt.f0 {w:World} {rb:Nat} {L:List Sym} {rv:Value} (h:RefAt w rb L rv):w.frozen? ⟨rb,0,none⟩=false:=frozenAt h.blk 0
def RMoved (w:World) (rb:Nat) (rv:Value) (L' : List Sym) (w' : World):Prop:=
 ∃ rv', RefAt w' rb L' rv' ∧ Kept (RFoot rb rv) w w' ∧ ∀ k,RFoot rb rv' k→RFoot rb rv k∨w.heap.size≤k
theorem findR_some {L:List Sym} {s:ByteArray} (h:(findI L s).isSome=true):0≤findR L s:=by
 unfold findR
 cases hf:findI L s with
 | none=>simp [hf] at h
 | some i=>simp
theorem findR_none {L:List Sym} {s:ByteArray} (h:(findI L s).isSome=false):findR L s = -1:=by
 unfold findR
 cases hf:findI L s with
 | none=>rfl
 | some i=>simp [hf] at h
set_option maxHeartbeats 2000000 in
theorem radd_no {w:World} {rb:Nat} {L:List Sym} {rv:Value} (h:RefAt w rb L rv) (hlen:L.length≤64) (x:Sym) (hs:x.name.size≤maxLen) (hz:addErr L x≠0) :
  Calls Tryz.prog 53 #[.pointer (some ⟨rb,0,none⟩),symV x] w fun e w' => e=.returned (.tuple #[.int .i64 0,.int .i64 (addErr L x)])∧Kept (fun _=>False) w w' := by
 have h1:RefAt (w.alloc (boxOf x)) rb L rv:=h.kept (Kept.alloc (Kept.refl (fun _=>False) w) _) (fun _ _ f=>f)
 have h2:∀ m,RefAt ((w.alloc (boxOf x)).drewN m) rb L rv:=fun m=>h1.kept (Kept.drewN (Kept.refl (fun _=>False) _) m) (fun _ _ f=>f)
 obtain ⟨ao,cap,rfl⟩:=row_shape h.row
 have c0:=h1.c0
 cases hn:nameB x.name with
 | false=>
  have he:addErr L x=10:=by simp [addErr,hn]
  have HE:Hid (addErr L x=10):=he
  clear he
  go_enter Tryz.func53,Tryz.ntmps53
  go_wp2_with (first | (go_at_call 93;refine (rIsName_any _ _ hs).mono ?_;rintro e w' ⟨rfl,rfl⟩))
  go_ret2
  exact ⟨by rw [HE.out];rfl,Kept.alloc (Kept.refl _ w) _⟩
 | true=>
  by_cases ha:x.ar<0
  ·have HE:Hid (addErr L x=11):=by show addErr L x=11;simp [addErr,hn,ha]
   go_enter Tryz.func53,Tryz.ntmps53
   go_wp2_with (first | (go_at_call 93;refine (rIsName_any _ _ hs).mono ?_;rintro e w' ⟨rfl,rfl⟩))
   go_ret2
   exact ⟨by rw [HE.out];rfl,Kept.alloc (Kept.refl _ w) _⟩
  ·by_cases hb:6<x.ar
   ·have HE:Hid (addErr L x=11):=by show addErr L x=11;simp [addErr,hn,hb]
    go_enter Tryz.func53,Tryz.ntmps53
    go_wp2_with (first | (go_at_call 93;refine (rIsName_any _ _ hs).mono ?_;rintro e w' ⟨rfl,rfl⟩))
    go_ret2
    exact ⟨by rw [HE.out];rfl,Kept.alloc (Kept.refl _ w) _⟩
   ·cases hf:(findI L x.name).isSome with
    | true=>
     have HE:Hid (addErr L x=12):=by show addErr L x=12;simp [addErr,hn,ha,hb,hf]
     have hfr:=findR_some hf
     go_enter Tryz.func53,Tryz.ntmps53
     go_wp2_with (first | (go_at_call 93;refine (rIsName_any _ _ hs).mono ?_;rintro e w' ⟨rfl,rfl⟩))
     go_quiet ((go_at_call 94;exact Calls.quiet_of_same (rfind_any (h2 _).row hlen x.name)))
     go_wp2
     go_ret2
     exact ⟨by rw [HE.out];rfl,Kept.drewN (Kept.alloc (Kept.refl _ w) _) _⟩
    | false=>
     have hm:64≤L.length:=by
      rcases Nat.lt_or_ge L.length 64 with h | h
      ·exact absurd (by simp [addErr,hn,ha,hb,hf];omega) hz
      ·exact h
     have HE:Hid (addErr L x=13):=by show addErr L x=13;simp [addErr,hn,ha,hb,hf,hm]
     have hfr:=findR_none hf
     go_enter Tryz.func53,Tryz.ntmps53
     go_wp2_with (first | (go_at_call 93;refine (rIsName_any _ _ hs).mono ?_;rintro e w' ⟨rfl,rfl⟩))
     go_quiet ((go_at_call 94;exact Calls.quiet_of_same (rfind_any (h2 _).row hlen x.name)))
     go_wp2
     go_ret2
     exact ⟨by rw [HE.out];rfl,Kept.drewN (Kept.alloc (Kept.refl _ w) _) _⟩
theorem radd_end {w wc w1:World} {rb:Nat} {L:List Sym} {rv:Value} {x:Sym} {gg cap:Nat} (h:RefAt w rb L rv) (hrc:RefAt wc rb L rv) (hkp:Kept (fun _=>False) w wc)
  (hown1:w1.ownsRow 0 60 3 (.slice (some ⟨gg,0,none⟩) (L.length+1) cap) (L.length+1) (symCells L ++ [.string x.name,.int .i64 x.ar,.bool x.df]))
  (hgrow:(wc.alloc (boxOf x)).drew.grownBy w1 rv.ownBlock) (hat:rv.ownBlock=some gg∨gg=wc.heap.size+1) :
  RMoved w rb rv (L ++ [x]) (w1.setCell ⟨rb,0,none⟩ (.slice (some ⟨gg,0,none⟩) (L.length+1) cap)):=by
 have lb:=lt_of_at h.blk
 have lbc:=lt_of_at hrc.blk
 have hb1:=blk_grown hgrow hrc.blk hrc.apart
 have hgb:gg≠rb:=by
  rcases hat with e | e
  ·intro e'; exact h.apart (by rw [e,e'])
  ·omega
 have hk1:Kept (RFoot rb rv) wc w1:=Kept.grown (Kept.drew (Kept.alloc (Kept.refl _ wc) _)) hgrow (fun _ e _=>.inr e)
 have hk2:Kept (RFoot rb rv) wc (w1.setCell ⟨rb,0,none⟩ (.slice (some ⟨gg,0,none⟩) (L.length+1) cap)):=Kept.setCell hk1 (fun _=>.inl rfl) _
 have hk3:Kept (fun k=>k=rb) w1 (w1.setCell ⟨rb,0,none⟩ (.slice (some ⟨gg,0,none⟩) (L.length+1) cap)):=Kept.setCell (S:=fun k=>k=rb) (p:=⟨rb,0,none⟩) (Kept.refl _ _) (fun _=>rfl) _
 refine ⟨_,⟨by rw [setAt hb1];rfl,?_,by simpa [Value.ownBlock] using hgb⟩,?_,?_⟩
 ·rw [symCells_snoc]
  have:=hk3.row hown1 (fun k e e' => by simp [Value.ownBlock] at e;omega)
  simpa using this
 ·exact (hkp.mono (fun _ _ f=>f.elim)).trans hk2 (fun _ _ e=>e)
 ·intro k hk
  rcases hk with e | e
  ·exact .inl (.inl e)
  ·simp [Value.ownBlock] at e
   subst e
   rcases hat with e | e
   ·exact .inl (.inr e)
   ·right;have:=hkp.size;omega
set_option maxHeartbeats 2000000 in
theorem radd_ok {w:World} {rb:Nat} {L:List Sym} {rv:Value} (h:RefAt w rb L rv) (x:Sym) (hs:x.name.size≤maxLen) (hz:addErr L x=0) :
  Calls Tryz.prog 53 #[.pointer (some ⟨rb,0,none⟩),symV x] w fun e w' => e=.returned (.tuple #[.int .i64 (L.length:Int),.int .i64 0])∧RMoved w rb rv (L ++ [x]) w' := by
 have h1:RefAt (w.alloc (boxOf x)) rb L rv:=h.kept (Kept.alloc (Kept.refl (fun _=>False) w) _) (fun _ _ f=>f)
 have h2:∀ m,RefAt ((w.alloc (boxOf x)).drewN m) rb L rv:=fun m=>h1.kept (Kept.drewN (Kept.refl (fun _=>False) _) m) (fun _ _ f=>f)
 obtain ⟨ao,cap,rfl⟩:=row_shape h.row
 have c0:=h1.c0
 obtain ⟨hf,hn,hm⟩:=add_zero hz
 have hlen:L.length≤64:=by omega
 have har:=add_ar hz
 have ha:¬ x.ar<0:=by omega
 have hb:¬ 6<x.ar:=by omega
 have hfr:findR L x.name = -1:=findR_none (by rw [hf];rfl)
 go_enter Tryz.func53,Tryz.ntmps53
 go_wp2_with (first | (go_at_call 93;refine (rIsName_any _ _ hs).mono ?_;rintro e w' ⟨rfl,rfl⟩))
 go_quiet ((go_at_call 94;exact Calls.quiet_of_same (rfind_any (h2 _).row hlen x.name)))
 have hrc:=h2 nq
 have hbx:((w.alloc (boxOf x)).drewN nq).heap[w.heap.size]? = some (boxOf x):=heap_alloc_new w _
 have hkp:Kept (fun _=>False) w ((w.alloc (boxOf x)).drewN nq):=Kept.drewN (Kept.alloc (Kept.refl _ w) _) nq
 obtain ⟨wc,hwc⟩:∃ wc,(w.alloc (boxOf x)).drewN nq=wc:=⟨_,rfl⟩
 rw [hwc] at hrc hbx hkp ⊢
 clear hwc c0
 have d0:=hrc.c0
 go_upto_region 10 with fail
 go_cut [] (fun w' => RMoved w rb (.slice ao L.length cap) (L ++ [x]) w')
 case first=>
  obtain ⟨i0,hi0,hz0,hz1,hz2⟩:=info_parts info_Symbol
  have hn1:L.length+1≤maxLen:=by unfold maxLen;omega
  have hn2:(L.length+1) * 32≤140737488355328:=by omega
  have g0:=hrc.f0
  have x0:wc.cell? ⟨w.heap.size,0,none⟩=some (.string x.name):=cellAt hbx 0
  have x1:wc.cell? ⟨w.heap.size,1,none⟩=some (.int .i64 x.ar):=cellAt hbx 1
  have x2:wc.cell? ⟨w.heap.size,2,none⟩=some (.bool x.df):=cellAt hbx 2
  have d0' : (wc.alloc (boxOf x)).cell? ⟨rb,0,none⟩=some (.slice ao L.length cap):=cellAt ((heap_alloc_old wc _ (lt_of_at hrc.blk)).trans hrc.blk) 0
  go_region_law ((refine step_append_lies _ (by rfl) _ _ _ (by rfl) 0 60 i0 _ 3 32 Tryz.underlying28 hi0 hz0 hz1 hz2 rfl (by omega) (.slice ao L.length cap) L.length (symCells L) (by rfl) ((hrc.row.alloc _).drew) ⟨wc.heap.size,0,none⟩ 1 1 [.string x.name,.int .i64 x.ar,.bool x.df] (by rfl) (by rfl) (World.news_of_block (cs:=#[.string x.name,.int .i64 x.ar,.bool x.df]) (t:=60) (fr:=(0,0)) (heap_alloc_new wc _)) (by simp [Value.oneCell']) (by omega) hn1 hn2 (by omega) (wc.heap.size+1) (by simp) ?_;intro gg cap w1 hown1 hgrow hat hlt;have hb1:=blk_grown hgrow hrc.blk hrc.apart;have k0:=cellAt hb1 0;have k1:=frozenAt hb1 0;simp only [List.getElem?_toArray,List.getElem?_cons_zero] at k0))
  all_goals
   go_wp2
   go_meet
   case rel=>exact radd_end h hrc hkp hown1 hgrow hat
 case rest=>
  obtain ⟨rv', hr', hk', hf'⟩:=hcut
  obtain ⟨ao', cap', rfl⟩:=row_shape hr'.row
  have r0:=hr'.c0
  simp only [List.length_append,List.length_cons,List.length_nil] at r0
  go_wp2
  go_ret2
  exact ⟨by simp,_,hr', hk', hf'⟩
theorem radd_any {w:World} {rb:Nat} {L:List Sym} {rv:Value} (h:RefAt w rb L rv) (hlen:L.length≤64) (x:Sym) (hs:x.name.size≤maxLen) :
  Calls Tryz.prog 53 #[.pointer (some ⟨rb,0,none⟩),symV x] w fun e w' => e=.returned (.tuple #[.int .i64 (addN L x),.int .i64 (addErr L x)])∧RMoved w rb rv (addL L x) w' := by
 by_cases hz:addErr L x=0
 ·rw [addN,addL,if_pos hz,if_pos hz,hz];exact radd_ok h x hs hz
 ·rw [addN,addL,if_neg hz,if_neg hz]
  refine (radd_no h hlen x hs hz).mono ?_
  rintro e w' ⟨rfl,hk⟩
  exact ⟨rfl,rv,h.kept hk (fun _ _ f=>f),hk.mono (fun _ _ f=>f.elim),fun k hk=>.inl hk⟩
end Go.Proofs.YtmjgnfkbnofjoaaGreatDoor
namespace Go.Proofs.YtmjgnfkbnofjoaaGreatDoor
open Go.RowKit Go.Deep
def SymsAt (w:World) (ao:Option Addr) (len:Nat) (xs:List Sym):Prop:=
 xs.length=len∧(len=0∨∃ b off,ao=some ⟨b,off,none⟩∧b<w.heap.size∧∀ i (h:i<xs.length),w.cell? ⟨b,off+i * 3,none⟩=some (.string xs[i].name)∧w.cell? ⟨b,off+i * 3+1,none⟩=some (.int .i64 xs[i].ar)∧w.cell? ⟨b,off+i * 3+2,none⟩=some (.bool xs[i].df)) ∧
 ∀ x∈xs,x.name.size≤maxLen∧(Lit.int .i64 x.ar).wf=true
theorem SymsAt.kept {w w' : World} {ao:Option Addr} {len:Nat} {xs:List Sym} (h:SymsAt w ao len xs) (hb:Below w.heap.size w w'):SymsAt w' ao len xs:=by
 obtain ⟨h1,h2,h3⟩:=h
 refine ⟨h1,h2.imp id ?_,h3⟩
 rintro ⟨b,off,e,hlt,hc⟩
 refine ⟨b,off,e,Nat.lt_of_lt_of_le hlt hb.size,fun i hi=>?_⟩
 obtain ⟨a1,a2,a3⟩:=hc i hi
 exact ⟨by rw [hb.cell hlt];exact a1,by rw [hb.cell hlt];exact a2,by rw [hb.cell hlt];exact a3⟩
section
variable {H : Type} {enc : TypeId × Value → H} {w : World} {spare : Nat → Bool} {held : Bool}
theorem cells_Symbol:Tryz.prog.cellsOf 60=3:=by kernel_rfl
theorem cells_string:Tryz.prog.cellsOf 9=1:=by kernel_rfl
theorem cells_int:Tryz.prog.cellsOf 3=1:=by kernel_rfl
theorem cells_bool:Tryz.prog.cellsOf 4=1:=by kernel_rfl
set_option maxRecDepth 100000 in
theorem open_sym {fuel:Nat} {cs:List Value} {x:DataW H × List MemPlace} (h:DataW.trod enc Tryz.prog w 0 spare held fuel 60 cs=some x) :
  ∃ s:Sym,cs=[.string s.name,.int .i64 s.ar,.bool s.df]∧s.name.size≤maxLen∧(Lit.int .i64 s.ar).wf=true:=by
 obtain ⟨y0,y1,y2,n,_,hl,h0,h1,h2⟩:=trod_struct3 Tryz.underlying60 h
 rw [cells_Symbol] at hl
 match cs,hl with
 | [c0,c1,c2],_=>
  simp only [cells_string,cells_int,cells_bool,List.drop_zero,List.take_succ_cons,List.take_zero,List.drop_succ_cons] at h0 h1 h2
  obtain ⟨s,e0,_,hs⟩:=DataW.trod_string Tryz.underlying9 h0
  obtain ⟨a,e1,_,ha⟩:=DataW.trod_int Tryz.underlying3 h1
  obtain ⟨d,e2,_⟩:=DataW.trod_bool Tryz.underlying4 h2
  simp only [List.cons.injEq,and_true] at e0 e1 e2
  exact ⟨⟨s,a,d⟩,by rw [e0,e1,e2],hs,ha⟩
set_option maxRecDepth 100000 in
theorem open_elems {t e c fuel:Nat} {ao:Option Addr} {len cap:Nat} {x:DataW H × List MemPlace} (ht:Tryz.prog.underlying t=some (.slice e)) (hc:Tryz.prog.cellsOf e=c) (h0:0<c) (h:DataW.trod enc Tryz.prog w 0 spare held fuel t [.slice ao len cap]=some x) :
  (ao=none∧len=0∧cap=0)∨∃ a,ao=some a∧len≤cap∧cap≤maxLen∧∀ i,i<len→a=⟨a.block,a.off,none⟩∧a.block<w.heap.size∧∃ cs n y,cs.length=c∧(∀ j,j<c→w.cell? ⟨a.block,a.off+i * c+j,none⟩=cs[j]?)∧DataW.trod enc Tryz.prog w 0 spare held n e cs=some y:=by
 rcases open_slice ht h with ⟨hcs,_⟩ | ⟨a,len', cap', m,n,D,Pl,hcs,_,hl,hm,hmm,rfl,hx⟩
 ·simp at hcs;exact .inl ⟨hcs.1,hcs.2.1,hcs.2.2⟩
 ·simp at hcs
  obtain ⟨rfl,rfl,rfl⟩:=hcs
  refine .inr ⟨a,rfl,hl,hm,fun i hi=>?_⟩
  have hmi:i<m:=by rw [hmm];split <;> omega
  have hm0:0<m:=by omega
  obtain ⟨cs0,g0,_⟩:=hx 0 hm0
  rw [hc] at g0
  obtain ⟨_,gl,gc⟩:=World.cells?_some g0
  have hsp:a.spot=none:=by
   have:=gc 0 h0
   have hv:cs0[0]? = some (cs0[0]'(by omega)):=List.getElem?_eq_getElem (by omega)
   rw [hv] at this
   simp [Addr.add] at this
   exact World.cell?_spot this
  have hlt:a.block<w.heap.size:=World.cells?_block (by simpa [Addr.add] using g0) h0
  have ea:a=⟨a.block,a.off,none⟩:=by cases a;simp_all
  obtain ⟨cs,g1,g2⟩:=hx i hmi
  rw [hc] at g1
  obtain ⟨_,gl1,gc1⟩:=World.cells?_some g1
  refine ⟨ea,hlt,cs,n,_,gl1,fun j hj=>?_,g2⟩
  rw [← gc1 j hj,add_add]
  congr 1
  unfold Addr.add
  split
  ·rw [ea];simp;omega
  ·simp
set_option maxRecDepth 100000 in
theorem open_syms {fuel:Nat} {ao:Option Addr} {len cap:Nat} {x:DataW H × List MemPlace} (h:DataW.trod enc Tryz.prog w 0 spare held fuel 28 [.slice ao len cap]=some x):∃ xs,SymsAt w ao len xs∧len≤maxLen:=by
 rcases open_elems Tryz.underlying28 cells_Symbol (by omega) h with ⟨rfl,rfl,rfl⟩ | ⟨a,rfl,hl1,hl2,hall⟩
 ·exact ⟨[],⟨rfl,.inl rfl,by simp⟩,by simp⟩
 ·have each:∀ i,i<len→∃ s:Sym,w.cell? ⟨a.block,a.off+i * 3,none⟩=some (.string s.name)∧w.cell? ⟨a.block,a.off+i * 3+1,none⟩=some (.int .i64 s.ar)∧w.cell? ⟨a.block,a.off+i * 3+2,none⟩=some (.bool s.df)∧s.name.size≤maxLen∧(Lit.int .i64 s.ar).wf=true:=by
   intro i hi
   obtain ⟨_,_,cs,n,y,hl,hcell,hy⟩:=hall i hi
   obtain ⟨s,rfl,hs,ha⟩:=open_sym hy
   exact ⟨s,by simpa using hcell 0 (by omega),by simpa using hcell 1 (by omega),by simpa using hcell 2 (by omega),hs,ha⟩
  obtain ⟨f,hf⟩:=Classical.axiomOfChoice (r:=fun (i:Fin len) (s:Sym)=>w.cell? ⟨a.block,a.off+i * 3,none⟩=some (.string s.name)∧w.cell? ⟨a.block,a.off+i * 3+1,none⟩=some (.int .i64 s.ar)∧w.cell? ⟨a.block,a.off+i * 3+2,none⟩=some (.bool s.df)∧s.name.size≤maxLen∧(Lit.int .i64 s.ar).wf=true) (fun i=>each i i.2)
  refine ⟨List.ofFn f,⟨by simp,?_,?_⟩,by omega⟩
  ·by_cases h0:len=0
   ·exact .inl h0
   ·obtain ⟨ea,hlt,_⟩:=hall 0 (by omega)
    refine .inr ⟨a.block,a.off,by rw [← ea],hlt,fun i hi=>?_⟩
    have hi' : i<len:=by simpa using hi
    have:=hf ⟨i,hi'⟩
    simp only [List.getElem_ofFn]
    exact ⟨this.1,this.2.1,this.2.2.1⟩
  ·intro x hx
   obtain ⟨i,rfl⟩:=(List.mem_ofFn.1 hx)
   exact ⟨(hf i).2.2.2.1,(hf i).2.2.2.2⟩
end
end Go.Proofs.YtmjgnfkbnofjoaaGreatDoor
namespace Go.Proofs.YtmjgnfkbnofjoaaGreatDoor
set_option maxRecDepth 100000
open Go.RowKit
attribute [local go_sem ↓] Go.wp_at_zero Go.wp_at_succ
def IntsAt (w:World) (ao:Option Addr) (xs:List Int):Prop:=
 xs=[]∨∃ b off,ao=some ⟨b,off,none⟩∧b<w.heap.size∧∀ i (h:i<xs.length),w.cell? ⟨b,off+i,none⟩=some (.int .i64 xs[i])
theorem IntsAt.kept {w w' : World} {S:Nat→Prop} {ao:Option Addr} {xs:List Int} (h:IntsAt w ao xs) (hk:Kept S w w') (hs:∀ a,ao=some a→¬ S a.block):IntsAt w' ao xs:=by
 refine h.imp id ?_
 rintro ⟨b,off,rfl,hlt,hc⟩
 exact ⟨b,off,rfl,Nat.lt_of_lt_of_le hlt hk.size,fun i hi=>(hk.cell (p:=⟨b,off+i,none⟩) hlt (hs ⟨b,off,none⟩ rfl)).trans (hc i hi)⟩
theorem IntsAt.same {w w' : World} {ao:Option Addr} {xs:List Int} (h:IntsAt w ao xs) (hk:Same0 w w'):IntsAt w' ao xs:=h.kept hk (fun _ _ f=>f)
theorem IntsAt.get {w:World} {ao:Option Addr} {xs:List Int} (h:IntsAt w ao xs) {i:Nat} (hi:i<xs.length):∃ b off,ao=some ⟨b,off,none⟩∧b<w.heap.size∧w.cell? ⟨b,off+i,none⟩=some (.int .i64 xs[i]):=by
 rcases h with rfl | ⟨b,off,e,hlt,hc⟩
 ·simp at hi
 ·exact ⟨b,off,e,hlt,hc i hi⟩
def Ars (L:List Sym):Prop:=∀ x∈L,0≤x.ar∧x.ar≤6
theorem arN_le {L:List Sym} (h:Ars L) (n:Int):arN L n≤6:=by
 unfold arN
 split
 ·omega
 ·split
  ·rename_i x hx
   have:=h x (List.mem_of_getElem? hx)
   omega
  ·omega
def Sg (n:Nat) (w:World) (b:Nat) (L:List Sym):Prop:=(∃ sv mr,SigAt w b L sv mr∧∀ k,Foot b sv mr k→k<n)∧Ars L
theorem Sg.kept {n b:Nat} {w w' : World} {L:List Sym} {S:Nat→Prop} (h:Sg n w b L) (hk:Kept S w w') (hs:∀ k,k<n→¬ S k):Sg n w' b L:=by
 obtain ⟨⟨sv,mr,h1,h2⟩,h3⟩:=h
 exact ⟨⟨sv,mr,h1.kept hk (fun k e=>hs k (h2 k e)),h2⟩,h3⟩
theorem Sg.same {n b:Nat} {w w' : World} {L:List Sym} (h:Sg n w b L) (hk:Same0 w w'):Sg n w' b L:=h.kept hk (fun _ _ f=>f)
def Rl (n:Nat) (w:World) (rv:Value) (L:List Sym):Prop:=w.ownsRow 0 60 3 rv L.length (symCells L)∧(∀ k,rv.ownBlock=some k→k<n)∧Ars L∧L.length≤64
theorem Rl.kept {n:Nat} {rv:Value} {w w' : World} {L:List Sym} {S:Nat→Prop} (h:Rl n w rv L) (hk:Kept S w w') (hs:∀ k,k<n→¬ S k):Rl n w' rv L:=
 ⟨hk.row h.1 (fun k e=>hs k (h.2.1 k e)),h.2⟩
theorem Rl.same {n:Nat} {rv:Value} {w w' : World} {L:List Sym} (h:Rl n w rv L) (hk:Same0 w w'):Rl n w' rv L:=h.kept hk (fun _ _ f=>f)
theorem ar_of {L:List Sym} (h:Ars L) {i:Nat} (hi:i<L.length):((arN L (i:Int):Nat):Int)=L[i].ar:=by
 have:=(h L[i] (List.getElem_mem hi)).1
 rw [arN,if_neg (by omega)];simp [hi];omega
theorem ar_no {L:List Sym} {n:Int} (hn:n<0∨(L.length:Int)≤n):arN L n=0:=by
 unfold arN
 rcases hn with h | h
 ·simp [h]
 ·rw [if_neg (by omega),List.getElem?_eq_none (by omega)]
set_option maxHeartbeats 1000000 in
theorem arity_any {n b:Nat} {w:World} {L:List Sym} (h:Sg n w b L) (x:Int):Calls Tryz.prog 201 #[.pointer (some ⟨b,0,none⟩),.int .i64 x] w fun e w' => e=.returned (.int .i64 ((arN L x:Nat):Int))∧Same0 w w' := by
 obtain ⟨⟨sv,mr,h1,_⟩,ha⟩:=h
 by_cases hx:x<0∨(L.length:Int)≤x
 ·have e1:=ar_no hx
  have H1:Hid (arN L x=0):=e1
  clear e1
  have c:=at_no h1 x hx
  go_enter Tryz.func201,Tryz.ntmps201
  go_wp2_with (first | (go_at_call 128;refine c.mono ?_;rintro e w' ⟨rfl,hk⟩))
  go_ret
  exact ⟨by rw [H1.out];rfl,hk.alloc _⟩
 ·obtain ⟨i,rfl⟩:∃ i:Nat,x=(i:Int):=⟨x.toNat,by omega⟩
  have hi:i<L.length:=by omega
  have H1:Hid (((arN L (i:Int):Nat):Int)=L[i].ar):=ar_of ha hi
  have c:=at_yes h1 i hi
  go_enter Tryz.func201,Tryz.ntmps201
  go_wp2_with (first | (go_at_call 128;refine c.mono ?_;rintro e w' ⟨rfl,hk⟩))
  go_ret
  exact ⟨by rw [H1.out];rfl,hk.alloc _⟩
set_option maxHeartbeats 1000000 in
theorem isVariable_any (x:Int) (w:World):Calls Tryz.prog 155 #[.int .i64 x] w fun e w' => e=.returned (.bool (isV x))∧w' = w:=by
 by_cases h1 : -99≤x
 ·by_cases h2:x ≤ -1
  ·have H:Hid (isV x=true):=by show _=_;simp [isV];omega
   go_enter Tryz.func155,Tryz.ntmps155
   go_wp2
   go_ret
   exact ⟨by rw [H.out];rfl,rfl⟩
  ·have H:Hid (isV x=false):=by show _=_;simp [isV];omega
   go_enter Tryz.func155,Tryz.ntmps155
   go_wp2
   go_ret
   exact ⟨by rw [H.out];rfl,rfl⟩
 ·have H:Hid (isV x=false):=by show _=_;simp [isV];omega
  go_enter Tryz.func155,Tryz.ntmps155
  go_wp2
  go_ret
  exact ⟨by rw [H.out];rfl,rfl⟩
def numE (L:List Sym) (x:Int):Int:=if (L.length:Int)≤x then 21 else if x < -99 then 22 else 0
theorem sg_len {n b:Nat} {w:World} {L:List Sym} (h:Sg n w b L):Calls Tryz.prog 17 #[.pointer (some ⟨b,0,none⟩)] w fun e w' => e=.returned (.int .i64 (L.length:Int))∧w' = w:=by
 obtain ⟨⟨sv,mr,h1,_⟩,ha⟩:=h
 exact len_any h1
set_option maxHeartbeats 1000000 in
theorem checkNumber_any {n b:Nat} {w:World} {L:List Sym} (h:Sg n w b L) (x:Int):Calls Tryz.prog 153 #[.pointer (some ⟨b,0,none⟩),.int .i64 x] w fun e w' => e=.returned (.int .i64 (numE L x))∧w' = w:=by
 have c:=sg_len h
 by_cases h1:(L.length:Int)≤x
 ·have H:Hid (numE L x=21):=by show _=_;simp [numE,h1]
  go_enter Tryz.func153,Tryz.ntmps153
  go_wp2_with (first | (go_at_call 17;refine c.mono ?_;rintro e w' ⟨rfl,rfl⟩))
  all_goals
   go_ret
   exact ⟨by rw [H.out];rfl,rfl⟩
 ·by_cases h2:x<0
  ·by_cases h3:x < -99
   ·have H:Hid (numE L x=22):=by show _=_;simp [numE,h1,h3]
    have h4:isV x=false:=by simp [isV];omega
    go_enter Tryz.func153,Tryz.ntmps153
    go_wp2_with (first | (go_at_call 17;refine c.mono ?_;rintro e w' ⟨rfl,rfl⟩) | (go_at_call 155;refine (isVariable_any _ _).mono ?_;rintro e w' ⟨rfl,rfl⟩))
    all_goals
     go_ret
     exact ⟨by rw [H.out];rfl,rfl⟩
   ·have H:Hid (numE L x=0):=by show _=_;simp [numE,h1,h3]
    have h4:isV x=true:=by simp [isV];omega
    go_enter Tryz.func153,Tryz.ntmps153
    go_wp2_with (first | (go_at_call 17;refine c.mono ?_;rintro e w' ⟨rfl,rfl⟩) | (go_at_call 155;refine (isVariable_any _ _).mono ?_;rintro e w' ⟨rfl,rfl⟩))
    all_goals
     go_ret
     exact ⟨by rw [H.out];rfl,rfl⟩
  ·have H:Hid (numE L x=0):=by show _=_;simp [numE,h1];omega
   go_enter Tryz.func153,Tryz.ntmps153
   go_wp2_with (first | (go_at_call 17;refine c.mono ?_;rintro e w' ⟨rfl,rfl⟩))
   all_goals
    go_ret
    exact ⟨by rw [H.out];rfl,rfl⟩
end Go.Proofs.YtmjgnfkbnofjoaaGreatDoor
namespace Go.Proofs.YtmjgnfkbnofjoaaGreatDoor
set_option maxRecDepth 100000
set_option linter.unusedVariables false
open Go.RowKit
attribute [local go_sem ↓] Go.wp_at_zero Go.wp_at_succ
def Nums (w:World) (b n:Nat) (f:Nat→Int):Prop:=∃ cs t,w.heap[b]? = some (.cells cs t (0,0))∧n≤cs.size∧∀ i,i<n→cs[i]? = some (.int .i64 (f i))
theorem Nums.kept {S:Nat→Prop} {w w' : World} {b n:Nat} {f:Nat→Int} (h:Nums w b n f) (hk:Kept S w w') (hs:¬ S b):Nums w' b n f:=by
 obtain ⟨cs,t,h1,h2⟩:=h
 exact ⟨cs,t,hk.at h1 hs,h2⟩
theorem Nums.lt {w:World} {b n:Nat} {f:Nat→Int} (h:Nums w b n f):b<w.heap.size:=by
 obtain ⟨cs,t,h1,h2⟩:=h
 exact lt_of_at h1
theorem Nums.cell {w:World} {b n:Nat} {f:Nat→Int} (h:Nums w b n f) {i:Nat} (hi:i<n):w.cell? ⟨b,i,none⟩=some (.int .i64 (f i))∧w.frozen? ⟨b,i,none⟩=false:=by
 obtain ⟨cs,t,h1,_,h2⟩:=h
 exact ⟨by rw [cellAt h1];exact h2 i hi,frozenAt h1 i⟩
theorem Nums.set {w:World} {b n:Nat} {f:Nat→Int} (h:Nums w b n f) (i:Nat) (v:Int):Nums (w.setCell ⟨b,i,none⟩ (.int .i64 v)) b n (fun k=>if k=i then v else f k):=by
 obtain ⟨cs,t,h1,h0,h2⟩:=h
 refine ⟨_,t,setAt h1 i _,by simpa using h0,fun k hk=>?_⟩
 rw [Array.getElem?_setIfInBounds]
 by_cases e:k=i
 ·subst e;rw [if_pos rfl,if_pos (by omega)];simp
 ·rw [if_neg (fun f=>e f.symm)];simp only [e,if_false];exact h2 k hk
theorem Nums.congr {w:World} {b n:Nat} {f g:Nat→Int} (h:Nums w b n f) (e:∀ i,i<n→f i=g i):Nums w b n g:=by
 obtain ⟨cs,t,h1,h0,h2⟩:=h
 exact ⟨cs,t,h1,h0,fun i hi=>by rw [h2 i hi,e i hi]⟩
structure JB where
 jb:Nat
 lb:Nat
 eb:Nat
 sb:Nat
 zb:Nat
 lcap:Nat
def JB.Foot (B:JB) (k:Nat):Prop:=k=B.jb∨k=B.lb∨k=B.eb∨k=B.sb∨k=B.zb
structure JB.Apart (B:JB):Prop where
 a1:B.jb≠B.lb
 a2:B.jb≠B.eb
 a3:B.jb≠B.sb
 a4:B.jb≠B.zb
 a5:B.sb≠B.lb
 a6:B.sb≠B.eb
 a7:B.sb≠B.zb
 a8:B.zb≠B.lb
 a9:B.zb≠B.eb
def Head (w:World) (B:JB) (N M:Nat) (nx:Int→Int):Prop:=∃ cs,w.heap[B.jb]? = some (.cells cs 359 (0,0))∧cs.size=203∧cs[0]? = some (.slice (some ⟨B.lb,0,none⟩) N B.lcap)∧cs[1]? = some (.slice (some ⟨B.eb,0,none⟩) M M)∧(∀ v,1≤v→v<199→cs[2+v]? = some (.int .i64 (nx (-(v:Int)))))∧cs[201]? = some (.slice (some ⟨B.sb,0,none⟩) M M)∧cs[202]? = some (.slice (some ⟨B.zb,0,none⟩) M M)
theorem Head.kept {S:Nat→Prop} {w w' : World} {B:JB} {N M:Nat} {nx:Int→Int} (h:Head w B N M nx) (hk:Kept S w w') (hs:¬ S B.jb):Head w' B N M nx:=by
 obtain ⟨cs,h1,h2⟩:=h
 exact ⟨cs,hk.at h1 hs,h2⟩
theorem Head.cells {w:World} {B:JB} {N M:Nat} {nx:Int→Int} (h:Head w B N M nx):w.cell? ⟨B.jb,0,none⟩=some (.slice (some ⟨B.lb,0,none⟩) N B.lcap)∧w.cell? ⟨B.jb,1,none⟩=some (.slice (some ⟨B.eb,0,none⟩) M M)∧w.cell? ⟨B.jb,201,none⟩=some (.slice (some ⟨B.sb,0,none⟩) M M)∧w.cell? ⟨B.jb,202,none⟩=some (.slice (some ⟨B.zb,0,none⟩) M M)∧B.jb<w.heap.size:=by
 obtain ⟨cs,h1,h2,h3,h4,h5,h6,h7⟩:=h
 exact ⟨by rw [cellAt h1];exact h3,by rw [cellAt h1];exact h4,by rw [cellAt h1];exact h6,by rw [cellAt h1];exact h7,lt_of_at h1⟩
theorem Head.var {w:World} {B:JB} {N M:Nat} {nx:Int→Int} (h:Head w B N M nx) {v:Nat} (h1:1≤v) (h2:v<199):w.cell? ⟨B.jb,2+v,none⟩=some (.int .i64 (nx (-(v:Int))))∧w.frozen? ⟨B.jb,2+v,none⟩=false:=by
 obtain ⟨cs,g1,g2,g3,g4,g5,g6,g7⟩:=h
 exact ⟨by rw [cellAt g1];exact g5 v h1 h2,frozenAt g1 _⟩
theorem Head.set {w:World} {B:JB} {N M:Nat} {nx:Int→Int} (h:Head w B N M nx) {v:Nat} (h1:1≤v) (h2:v<199) (x:Int):Head (w.setCell ⟨B.jb,2+v,none⟩ (.int .i64 x)) B N M (fun y=>if y = -(v:Int) then x else nx y):=by
 obtain ⟨cs,g1,g2,g3,g4,g5,g6,g7⟩:=h
 refine ⟨_,setAt g1 _ _,by simpa using g2,?_,?_,?_,?_,?_⟩
 ·rw [Array.getElem?_setIfInBounds,if_neg (by omega)];exact g3
 ·rw [Array.getElem?_setIfInBounds,if_neg (by omega)];exact g4
 ·intro k hk1 hk2
  rw [Array.getElem?_setIfInBounds]
  by_cases e:k=v
  ·subst e;rw [if_pos rfl,if_pos (by omega)];simp
  ·rw [if_neg (by omega)];simp only [show ¬ (-(k:Int) = -(v:Int)) by omega,if_false];exact g5 k hk1 hk2
 ·rw [Array.getElem?_setIfInBounds,if_neg (by omega)];exact g6
 ·rw [Array.getElem?_setIfInBounds,if_neg (by omega)];exact g7
theorem Head.congr {w:World} {B:JB} {N M:Nat} {nx ny:Int→Int} (h:Head w B N M nx) (e:∀ v:Nat,1≤v→v<199→nx (-(v:Int))=ny (-(v:Int))):Head w B N M ny:=by
 obtain ⟨cs,g1,g2,g3,g4,g5,g6,g7⟩:=h
 exact ⟨cs,g1,g2,g3,g4,fun v a b=>by rw [g5 v a b,e v a b],g6,g7⟩
structure JC (L:List Sym) (B:JB) (w:World) (J:List Int) (nx:Int→Int) (sz:Nat→Int):Prop where
 head:Head w B J.length J.length nx
 list:Nums w B.lb J.length (fun i=>at' J i)
 ends:Nums w B.eb J.length (fun i=>(endN L J i:Int))
 same:Nums w B.sb J.length (fun i=>nx i)
 sizes:Nums w B.zb J.length sz
 ap:B.Apart
theorem JC.kept {L:List Sym} {S:Nat→Prop} {w w' : World} {B:JB} {J:List Int} {nx:Int→Int} {sz:Nat→Int} (h:JC L B w J nx sz) (hk:Kept S w w') (hs:∀ k,B.Foot k→¬ S k):JC L B w' J nx sz:=
 ⟨h.head.kept hk (hs _ (.inl rfl)),h.list.kept hk (hs _ (.inr (.inl rfl))),h.ends.kept hk (hs _ (.inr (.inr (.inl rfl)))),h.same.kept hk (hs _ (.inr (.inr (.inr (.inl rfl))))),h.sizes.kept hk (hs _ (.inr (.inr (.inr (.inr rfl))))),h.ap⟩
theorem JC.lt {L:List Sym} {w:World} {B:JB} {J:List Int} {nx:Int→Int} {sz:Nat→Int} (h:JC L B w J nx sz) {k:Nat} (hk:B.Foot k):k<w.heap.size:=by
 rcases hk with e | e | e | e | e <;> subst e
 ·exact h.head.cells.2.2.2.2
 ·exact h.list.lt
 ·exact h.ends.lt
 ·exact h.same.lt
 ·exact h.sizes.lt
def nxA (B:JB) (x:Int):Addr:=if x<0 then ⟨B.jb,2+(-x).toNat,none⟩ else ⟨B.sb,x.toNat,none⟩
def nxB (B:JB) (x:Int):Nat:=if x<0 then B.jb else B.sb
theorem nxA_block (B:JB) (x:Int):(nxA B x).block=nxB B x:=by unfold nxA nxB;split <;> rfl
theorem JC.next {L:List Sym} {w:World} {B:JB} {J:List Int} {nx:Int→Int} {sz:Nat→Int} (h:JC L B w J nx sz) {x:Int} (hx:UPart J x):w.cell? (nxA B x)=some (.int .i64 (nx x))∧w.frozen? (nxA B x)=false:=by
 unfold nxA
 split
 ·have:=h.head.var (v:=(-x).toNat) (by omega) (by have:=hx.1;omega)
  rw [show -(((-x).toNat:Nat):Int)=x by omega] at this
  exact this
 ·have:=h.same.cell (i:=x.toNat) (by have:=hx.2;omega)
  rw [show ((x.toNat:Nat):Int)=x by omega] at this
  exact this
theorem JC.put {L:List Sym} {w:World} {B:JB} {J:List Int} {nx:Int→Int} {sz:Nat→Int} (h:JC L B w J nx sz) {x:Int} (hx:UPart J x) (v:Int):JC L B (w.setCell (nxA B x) (.int .i64 v)) J (fun y=>if y=x then v else nx y) sz∧Kept (fun k=>k=nxB B x) w (w.setCell (nxA B x) (.int .i64 v)):=by
 have hk:Kept (fun k=>k=nxB B x) w (w.setCell (nxA B x) (.int .i64 v)):=Kept.setCell (Kept.refl _ w) (fun _=>nxA_block B x) _
 refine ⟨?_,hk⟩
 have ap:=h.ap
 by_cases hn:x<0
 ·have e1:nxB B x=B.jb:=by unfold nxB;rw [if_pos hn]
  have e2:nxA B x=⟨B.jb,2+(-x).toNat,none⟩:=by unfold nxA;rw [if_pos hn]
  have hh:=h.head.set (v:=(-x).toNat) (by omega) (by have:=hx.1;omega) v
  rw [show -(((-x).toNat:Nat):Int)=x by omega] at hh
  rw [e1] at hk
  rw [e2] at hk ⊢
  refine ⟨hh,h.list.kept hk (fun e=>ap.a1 e.symm),h.ends.kept hk (fun e=>ap.a2 e.symm),(h.same.kept hk (fun e=>ap.a3 e.symm)).congr ?_,h.sizes.kept hk (fun e=>ap.a4 e.symm),ap⟩
  intro i _;rw [if_neg (by omega)]
 ·have e1:nxB B x=B.sb:=by unfold nxB;rw [if_neg hn]
  have e2:nxA B x=⟨B.sb,x.toNat,none⟩:=by unfold nxA;rw [if_neg hn]
  have hh:=h.same.set x.toNat v
  rw [e1] at hk
  rw [e2] at hk ⊢
  refine ⟨(h.head.kept hk ap.a3).congr ?_,h.list.kept hk (fun e=>ap.a5 e.symm),h.ends.kept hk (fun e=>ap.a6 e.symm),hh.congr ?_,h.sizes.kept hk (fun e=>ap.a7 e.symm),ap⟩
  ·intro k h1 h2;rw [if_neg (by omega)]
  ·intro i _
   by_cases e:i=x.toNat
   ·rw [if_pos e,if_pos (by omega)]
   ·rw [if_neg e,if_neg (by omega)]
structure Led (J:List Int) (nx ld:Int→Int) (ρ:Int→Nat):Prop where
 part:∀ x,UPart J x→UPart J (nx x)
 lead:∀ x,UPart J x→ld (nx x)=ld x
 stop:∀ x,UPart J x→(nx x=x ↔ ld x=x)
 down:∀ x,UPart J x→nx x≠x→ρ (nx x)<ρ x
theorem Led.halve {J:List Int} {nx ld:Int→Int} {ρ:Int→Nat} (h:Led J nx ld ρ) {x:Int} (hx:UPart J x) (hn:nx x≠x):Led J (fun y=>if y=x then nx (nx x) else nx y) ld ρ∧ρ (nx (nx x))<ρ x:=by
 have p1:=h.part x hx
 have d1:=h.down x hx hn
 have d2:ρ (nx (nx x))≤ρ (nx x):=by
  by_cases e:nx (nx x)=nx x
  ·rw [e];exact Nat.le_refl _
  ·exact Nat.le_of_lt (h.down _ p1 e)
 refine ⟨⟨?_,?_,?_,?_⟩,by omega⟩ <;> intro y hy <;> by_cases e:y=x
 ·simp only [e,if_true];exact h.part _ p1
 ·simp only [e,if_false];exact h.part _ hy
 ·simp only [e,if_true];rw [h.lead _ p1,h.lead _ hx]
 ·simp only [e,if_false];exact h.lead _ hy
 ·simp only [e,if_true]
  refine ⟨fun f=>?_,fun f=>absurd ((h.stop x hx).2 f) hn⟩
  rw [f] at d2;omega
 ·simp only [e,if_false];exact h.stop _ hy
 ·simp only [e,if_true];intro _;omega
 ·simp only [e,if_false];exact h.down _ hy
theorem Led.join {J:List Int} {nx ld:Int→Int} {ρ:Int→Nat} (h:Led J nx ld ρ) {p q:Int} (hp:UPart J p) (hq:UPart J q) (lp:ld p=p) (lq:ld q=q) (hpq:p≠q):Led J (fun y=>if y=p then q else nx y) (un p q ld) (fun x=>ρ x+if ld x=p then ρ q+1 else 0):=by
 have u1:∀ x,ld x=p→un p q ld x=q:=fun x e=>by unfold un;rw [if_pos e]
 have u2:∀ x,ld x≠p→un p q ld x=ld x:=fun x e=>by unfold un;rw [if_neg e]
 have lqp:ld q≠p:=by rw [lq];exact fun f=>hpq f.symm
 refine ⟨?_,?_,?_,?_⟩ <;> intro y hy <;> by_cases e:y=p
 ·simp only [e,if_true];exact hq
 ·simp only [e,if_false];exact h.part _ hy
 ·simp only [e,if_true];rw [u2 q lqp,u1 p lp,lq]
 ·simp only [e,if_false]
  have:=h.lead y hy
  unfold un;rw [this]
 ·simp only [e,if_true];rw [u1 p lp]
 ·simp only [e,if_false]
  by_cases f:ld y=p
  ·rw [u1 y f]
   refine ⟨fun g=>?_,fun g=>?_⟩
   ·have:=(h.stop y hy).1 g;rw [f] at this;exact absurd this.symm e
   ·rw [← g,lq] at f;exact absurd f.symm hpq
  ·rw [u2 y f];exact h.stop y hy
 ·simp only [e,if_true];intro _;rw [if_neg lqp,if_pos lp];omega
 ·simp only [e,if_false]
  intro hn
  have:=h.down y hy hn
  rw [h.lead y hy];omega
def JAt (L:List Sym) (B:JB) (w:World) (J:List Int) (ld:Int→Int) (sz:Nat→Int):Prop:=∃ nx ρ,JC L B w J nx sz∧Led J nx ld ρ
theorem JAt.kept {L:List Sym} {S:Nat→Prop} {w w' : World} {B:JB} {J:List Int} {ld:Int→Int} {sz:Nat→Int} (h:JAt L B w J ld sz) (hk:Kept S w w') (hs:∀ k,B.Foot k→¬ S k):JAt L B w' J ld sz:=by
 obtain ⟨nx,ρ,h1,h2⟩:=h
 exact ⟨nx,ρ,h1.kept hk hs,h2⟩
theorem unext_any {L:List Sym} {w:World} {B:JB} {J:List Int} {nx:Int→Int} {sz:Nat→Int} (h:JC L B w J nx sz) {x:Int} (hx:UPart J x) :
  Calls Tryz.prog 239 #[.pointer (some ⟨B.jb,0,none⟩),.int .i64 x] w fun e w' => e=.returned (.pointer (some (nxA B x)))∧w' = w:=by
 obtain ⟨c0,c1,c2,c3,c4⟩:=h.head.cells
 have h1:=hx.1
 have h2:=hx.2
 clear h hx
 by_cases hn:x<0
 ·obtain ⟨v,hv⟩:∃ v:Nat,x = -(v:Int):=⟨(-x).toNat,by omega⟩
  subst hv
  have e:nxA B (-(v:Int))=⟨B.jb,2+v,none⟩:=by unfold nxA;rw [if_pos hn];congr 2;omega
  rw [e]
  have i1:(0:Int)≤(v:Int):=by omega
  have i2:(v:Int)<199:=by omega
  go_enter Tryz.func239,Tryz.ntmps239
  go_wp2
  go_returns
  exact ⟨rfl,rfl⟩
 ·obtain ⟨v,hv⟩:∃ v:Nat,x=(v:Int):=⟨x.toNat,by omega⟩
  subst hv
  have e:nxA B (v:Int)=⟨B.sb,v,none⟩:=by unfold nxA;rw [if_neg hn];congr 1
  rw [e]
  have i1:(0:Int)≤(v:Int):=by omega
  go_enter Tryz.func239,Tryz.ntmps239
  go_wp2
  go_returns
  exact ⟨rfl,rfl⟩
end Go.Proofs.YtmjgnfkbnofjoaaGreatDoor
