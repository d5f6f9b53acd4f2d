import Derived.Test.YtmloedlkoijfbaaSU11
import Derived.Test.YtmloedlkoijfbaaSU12
import Derived.Test.YtmloedlkoijfbaaSU13
import Derived.Test.YtmloedlkoijfbaaSU04
namespace Go.Proofs.Ytmloedlkoijfbaa
set_option maxRecDepth 100000
set_option linter.unusedVariables false
open Go.RowKit
attribute [local go_sem ↓] Go.wp_at_zero Go.wp_at_succ
set_option maxHeartbeats 8000000 in
theorem un_less {w wr:World} {ro:Option Addr} {rs:List Raw4} {rc:Nat} {h g p q k:Nat} {vx vy:Value} {l m:List Nd} {X Y:List Int} {Q:Nat→Nat→Prop} (hl:rs.length≤2 ^ 63-1) (HX:Hid (∀ ww,Same0 w ww→RawsAt ww ro rs)) (HO:Hid (∀ r∈rs,r.ok)) (h1:k<rs.length) (h2:k<600) (hU:UnM w wr h g p q vx vy l m X Y) (hN:Unn l m X Y Q) (ll:l.length≤k) (lm:m.length≤k) (lX:X.length≤k)
  (hact:pickF (rs[k]'h1).1 7=5∧X.length≠0)
  {t1 t2 t3 t5 t7 t11 t12 t13 t14 t15 t16 t17 t18 t19 t20 t21 t22 t23 t24 t25 t26 t27 t28 t29 t30 t31 t32 t33 t34 t35 t36 t37 t38 t39 t40 t41 t42 t43 t44 t45 t46 t47 t48 t49 t50 t51 t52 t53 t54 t55 t56 t57 t58 t59 t60 t61 t62 t63 t64 t65 t66 t67 t68 t69 t70 t71 t72 t73 t74 t75 t76 t77 t78 t79 t80 t81 t82 t83 t84 t85 t86 t87 t88 t89 t90 t91 t92 t93 t94 t95 t96 t97 t98 t99 t100 t101 t102 t103 t104 t105 t106 t107 t108 t109 t110 t111 t112 t113 t114 t115 t116 t117 t118 t119 t120 t121 t122 t123 t124 t125 t126 t127 t128 t129 t130 t131 t132 t133 t134 t135 t136 t137 t138 t139 t140 t141 t142 t143 t144 t145 t146 t147 t148 t149 t150 t151 t152 t153 t154 t155 t156 t157 t158 t159 t160 t161 t162 t163 t164 t165 t166 t167 t168 t169 t170 t171 t172 t173 t174 t175 t176 t177 t178 t179 t180 t181 t182 t183 t184 t185 t186 t187 t188 t189 t190 t191 t192 t193 t194 t195 t196 t197 t198 t199 t200 t201 t202 t203 t204 t205 t206 t207 t208 t209 t210 t211 t212 t213 t214 t215 t216 t217 t218 t219 t220 t221 t222 t223 t224 t225 t226 t227 t228 t229 t230 t231 t232 t233 t234 t235 t236 t237 t238 t239 t240 t241 t242 t243 t244 t245 t246 t247 t248 t249 t250 t251 t252 t253 t254 t255 t256 t257 t258 t259 t260 t261 t262 t263 t264 t265 t266 t267 t268 t269 t270 t271 t272 t273 t274 t275 t276 t277 t278 t279 t280 t281 t282 t283 t284 t285 t286:Value} {cc:Code} (hcode:Try.f6.body.bind uloop=some cc) {R0:Act→World→Prop}
  (HR:Hid (∀ (s2 s11 s12 s13 s14 s15 s16 s17 s18 s19 s20 s21 s22 s23 s24 s25 s26 s27 s28 s62 s63 s64 s65 s66 s67 s68 s69 s70 s71 s72 s73 s74 s75 s76 s77 s78 s79 s80 s81 s82 s83 s84 s85 s86 s87 s88 s89 s90 s91 s92 s93 s94 s95 s96 s97 s98 s99 s100 s101 s102 s103 s104 s105 s106 s107 s108 s109 s110 s111 s112 s113 s114 s115 s116 s117 s118 s119 s120 s121 s122 s123 s124 s125 s126 s127 s128 s129 s130 s131 s132 s133 s134 s135 s136 s137 s138 s139 s140 s141 s142 s143 s144 s145 s146 s147 s148 s149 s150 s151 s152 s153 s154 s155 s156 s157 s158 s159 s160 s161 s162 s163 s164 s165 s166 s167 s168 s169 s170 s171 s172 s173 s174 s175 s176 s177 s178 s179 s180 s181 s182 s183 s184 s185 s186 s187 s188 s189 s190 s191 s192 s193 s194 s195 s196 s197 s198 s199 s200 s201 s202 s203 s204 s205 s206 s207 s208 s209 s210 s211 s212 s213 s214 s215 s216 s217 s218 s219 s220 s221 s222 s223 s224 s225 s226 s227 s228 s229 s230 s231 s232 s233 s234 s235 s236 s237 s238 s239 s240 s241 s242 s243 s244 s245 s246 s247 s248 s249 s250 s251 v8 v9 v10:Value) (wc:World),v10=.int .i64 ((k+1:Nat):Int)→Hid (UnS w wc h g p q v8 v9 (k+1))→R0 ⟨List.toArray ((.slice ro rs.length rc) :: t1 :: s2 :: t3 :: (.pointer (some ⟨h,0,none⟩)) :: t5 :: (.pointer (some ⟨p,0,none⟩)) :: t7 :: v8 :: v9 :: v10 :: s11 :: s12 :: s13 :: s14 :: s15 :: s16 :: s17 :: s18 :: s19 :: s20 :: s21 :: s22 :: s23 :: s24 :: s25 :: s26 :: s27 :: s28 :: t29 :: t30 :: t31 :: t32 :: t33 :: t34 :: t35 :: t36 :: t37 :: t38 :: t39 :: t40 :: t41 :: t42 :: t43 :: t44 :: t45 :: t46 :: t47 :: t48 :: t49 :: t50 :: t51 :: t52 :: t53 :: t54 :: t55 :: t56 :: t57 :: t58 :: t59 :: t60 :: t61 :: s62 :: s63 :: s64 :: s65 :: s66 :: s67 :: s68 :: s69 :: s70 :: s71 :: s72 :: s73 :: s74 :: s75 :: s76 :: s77 :: s78 :: s79 :: s80 :: s81 :: s82 :: s83 :: s84 :: s85 :: s86 :: s87 :: s88 :: s89 :: s90 :: s91 :: s92 :: s93 :: s94 :: s95 :: s96 :: s97 :: s98 :: s99 :: s100 :: s101 :: s102 :: s103 :: s104 :: s105 :: s106 :: s107 :: s108 :: s109 :: s110 :: s111 :: s112 :: s113 :: s114 :: s115 :: s116 :: s117 :: s118 :: s119 :: s120 :: s121 :: s122 :: s123 :: s124 :: s125 :: s126 :: s127 :: s128 :: s129 :: s130 :: s131 :: s132 :: s133 :: s134 :: s135 :: s136 :: s137 :: s138 :: s139 :: s140 :: s141 :: s142 :: s143 :: s144 :: s145 :: s146 :: s147 :: s148 :: s149 :: s150 :: s151 :: s152 :: s153 :: s154 :: s155 :: s156 :: s157 :: s158 :: s159 :: s160 :: s161 :: s162 :: s163 :: s164 :: s165 :: s166 :: s167 :: s168 :: s169 :: s170 :: s171 :: s172 :: s173 :: s174 :: s175 :: s176 :: s177 :: s178 :: s179 :: s180 :: s181 :: s182 :: s183 :: s184 :: s185 :: s186 :: s187 :: s188 :: s189 :: s190 :: s191 :: s192 :: s193 :: s194 :: s195 :: s196 :: s197 :: s198 :: s199 :: s200 :: s201 :: s202 :: s203 :: s204 :: s205 :: s206 :: s207 :: s208 :: s209 :: s210 :: s211 :: s212 :: s213 :: s214 :: s215 :: s216 :: s217 :: s218 :: s219 :: s220 :: s221 :: s222 :: s223 :: s224 :: s225 :: s226 :: s227 :: s228 :: s229 :: s230 :: s231 :: s232 :: s233 :: s234 :: s235 :: s236 :: s237 :: s238 :: s239 :: s240 :: s241 :: s242 :: s243 :: s244 :: s245 :: s246 :: s247 :: s248 :: s249 :: s250 :: s251 :: t252 :: t253 :: t254 :: t255 :: t256 :: t257 :: t258 :: t259 :: t260 :: t261 :: t262 :: t263 :: t264 :: t265 :: t266 :: t267 :: t268 :: t269 :: t270 :: t271 :: t272 :: t273 :: t274 :: t275 :: t276 :: t277 :: t278 :: t279 :: t280 :: t281 :: t282 :: t283 :: t284 :: t285 :: t286 :: []),[]⟩ wc)) :
  Code.wp Try.prog cc (Exit.then R0 (fun _ _ _=>False)) ⟨List.toArray ((.slice ro rs.length rc) :: t1 :: t2 :: t3 :: (.pointer (some ⟨h,0,none⟩)) :: t5 :: (.pointer (some ⟨p,0,none⟩)) :: t7 :: (vx) :: (vy) :: (.int .i64 (k:Int)) :: t11 :: t12 :: t13 :: t14 :: t15 :: t16 :: t17 :: t18 :: t19 :: t20 :: t21 :: t22 :: t23 :: t24 :: t25 :: t26 :: t27 :: t28 :: t29 :: t30 :: t31 :: t32 :: t33 :: t34 :: t35 :: t36 :: t37 :: t38 :: t39 :: t40 :: t41 :: t42 :: t43 :: t44 :: t45 :: t46 :: t47 :: t48 :: t49 :: t50 :: t51 :: t52 :: t53 :: t54 :: t55 :: t56 :: t57 :: t58 :: t59 :: t60 :: t61 :: t62 :: t63 :: t64 :: t65 :: t66 :: t67 :: t68 :: t69 :: t70 :: t71 :: t72 :: t73 :: t74 :: t75 :: t76 :: t77 :: t78 :: t79 :: t80 :: t81 :: t82 :: t83 :: t84 :: t85 :: t86 :: t87 :: t88 :: t89 :: t90 :: t91 :: t92 :: t93 :: t94 :: t95 :: t96 :: t97 :: t98 :: t99 :: t100 :: t101 :: t102 :: t103 :: t104 :: t105 :: t106 :: t107 :: t108 :: t109 :: t110 :: t111 :: t112 :: t113 :: t114 :: t115 :: t116 :: t117 :: t118 :: t119 :: t120 :: t121 :: t122 :: t123 :: t124 :: t125 :: t126 :: t127 :: t128 :: t129 :: t130 :: t131 :: t132 :: t133 :: t134 :: t135 :: t136 :: t137 :: t138 :: t139 :: t140 :: t141 :: t142 :: t143 :: t144 :: t145 :: t146 :: t147 :: t148 :: t149 :: t150 :: t151 :: t152 :: t153 :: t154 :: t155 :: t156 :: t157 :: t158 :: t159 :: t160 :: t161 :: t162 :: t163 :: t164 :: t165 :: t166 :: t167 :: t168 :: t169 :: t170 :: t171 :: t172 :: t173 :: t174 :: t175 :: t176 :: t177 :: t178 :: t179 :: t180 :: t181 :: t182 :: t183 :: t184 :: t185 :: t186 :: t187 :: t188 :: t189 :: t190 :: t191 :: t192 :: t193 :: t194 :: t195 :: t196 :: t197 :: t198 :: t199 :: t200 :: t201 :: t202 :: t203 :: t204 :: t205 :: t206 :: t207 :: t208 :: t209 :: t210 :: t211 :: t212 :: t213 :: t214 :: t215 :: t216 :: t217 :: t218 :: t219 :: t220 :: t221 :: t222 :: t223 :: t224 :: t225 :: t226 :: t227 :: t228 :: t229 :: t230 :: t231 :: t232 :: t233 :: t234 :: t235 :: t236 :: t237 :: t238 :: t239 :: t240 :: t241 :: t242 :: t243 :: t244 :: t245 :: t246 :: t247 :: t248 :: t249 :: t250 :: t251 :: t252 :: t253 :: t254 :: t255 :: t256 :: t257 :: t258 :: t259 :: t260 :: t261 :: t262 :: t263 :: t264 :: t265 :: t266 :: t267 :: t268 :: t269 :: t270 :: t271 :: t272 :: t273 :: t274 :: t275 :: t276 :: t277 :: t278 :: t279 :: t280 :: t281 :: t282 :: t283 :: t284 :: t285 :: t286 :: []),[]⟩ wr:=by
 obtain rfl:_=cc:=Option.some.inj hcode
 clear hcode
 have hk:k≤rs.length:=Nat.le_of_lt h1
 have hk6:k≤600:=Nat.le_of_lt h2
 obtain ⟨xo,xc,e⟩:=row_shape hU.rx
 subst e
 obtain ⟨yo,yc,e⟩:=row_shape hU.ry
 subst e
 have HL:Hid (X.length=Y.length):=hN.len
 obtain ⟨n,hn⟩:∃ n,n=X.length:=⟨_,rfl⟩
 have hn2:Y.length=n:=by rw [hn];exact HL.out.symm
 have HM:Hid (UnM w wr h g p q (.slice xo n xc) (.slice yo n yc) l m X Y∧Unn l m X Y Q∧l.length≤k∧m.length≤k):=by
  have e:=hU
  rw [← hn,hn2] at e
  exact ⟨e,hN,ll,lm⟩
 rw [← hn,hn2]
 have HNX:Hid (n=X.length∧n=Y.length∧n≤k):=⟨hn,hn2.symm,by omega⟩
 have hnk:n≤600:=by omega
 have hw:=hU.kept
 rw [← hn] at hact
 clear hU hN hn hn2 lX ll lm
 have j1:(k:Int)<(rs.length:Int):=by omega
 have j2:(k:Int)<600:=by omega
 have j3:(0:Int)≤(k:Int):=by omega
 obtain ⟨sb,so,rfl,c0,c1,c2,c3⟩:=(HX.out wr hw).get h1
 have hx:=HO.out _ (List.getElem_mem h1)
 generalize rs[k]=x at *
 obtain ⟨W0,hW0⟩:∃ W0,W0=wr.alloc (.cells #[.int .i64 x.1,.int .i64 x.2.1,.int .i64 x.2.2.1,.int .i64 x.2.2.2] 56):=⟨_,rfl⟩
 have k0:Same0 wr W0:=by rw [hW0];exact (Kept.refl _ wr).alloc _
 have hb:W0.heap[wr.heap.size]? = some (.cells #[.int .i64 x.1,.int .i64 x.2.1,.int .i64 x.2.2.1,.int .i64 x.2.2.2] 56 (0,0)):=by rw [hW0];exact heap_alloc_new wr _
 have HBB:Hid (W0.heap[wr.heap.size]? = some (.cells #[.int .i64 x.1,.int .i64 x.2.1,.int .i64 x.2.2.1,.int .i64 x.2.2.2] 56 (0,0))):=hb
 have HM0:Hid (UnM w W0 h g p q (.slice xo n xc) (.slice yo n yc) l m X Y):=HM.out.1.same k0
 have HBK:Hid (∀ ww,Kept (fun k=>k=h∨k=g) W0 ww→ww.cell? ⟨wr.heap.size,2,none⟩=some (.int .i64 x.2.2.1)):=fun ww hk=>(box4 (hk.at hb (fun e=>by have a1:=HM.out.1.hl.ltH;have a2:=HM.out.1.hl.ltG;omega))).2.2.1
 have HB:Hid (∀ ww,Same0 W0 ww→ww.cell? ⟨wr.heap.size,0,none⟩=some (.int .i64 x.1)∧ww.cell? ⟨wr.heap.size,1,none⟩=some (.int .i64 x.2.1)∧ww.cell? ⟨wr.heap.size,2,none⟩=some (.int .i64 x.2.2.1)∧ww.cell? ⟨wr.heap.size,3,none⟩=some (.int .i64 x.2.2.2)):=fun ww hk=>box4 (hk.at hb (fun f=>f))
 obtain ⟨b0,b1,b2,b3⟩:=HB.out W0 (Kept.refl _ _)
 obtain ⟨K,hK⟩:∃ K,K=pickF x.1 7:=⟨_,rfl⟩
 have C7:=pick12_any x.1 hx.1 7 (by decide) (by decide) W0
 have hK7:=pick_lt x.1 (show (0:Int)<7 by decide)
 rw [← hK] at C7 hK7 hact
 have HXO:Hid x.ok:=hx
 clear hx hK k0 hb
 go_upto_region 12 with fail
 rw [← hW0]
 clear hW0 c0 c1 c2 c3
 go_upto_region 18 with (first | (go_at_call 19;refine C7.mono ?_;rintro e w4 ⟨rfl,h4⟩;have h4:=h4.symm;subst h4))
 clear C7
 have CP:Hid (∀ c ww,I64 c→0<n→Calls Try.prog 19 #[.int .i64 c,.int .i64 (n:Int)] ww fun e w' => ∃ t:Nat,e=.returned (.int .i64 (t:Int))∧w' = ww∧t=pickF c (n:Int)∧(t:Int)<(n:Int)∧(0:Int)≤(t:Int)):=fun c ww hc h0=>(pick12_any c hc (n:Int) (by omega) (by omega) ww).mono (by rintro e w' ⟨rfl,rfl⟩;exact ⟨_,rfl,rfl,rfl,pick_lt c (by omega),by omega⟩)
 have CX:Hid (∀ ww,Same0 W0 ww→∀ t:Nat,(t:Int)<(n:Int)→∃ gx gy zx zy,xo=some ⟨gx,0,none⟩∧yo=some ⟨gy,0,none⟩∧ww.cell? ⟨gx,t,none⟩=some (.int .i64 zx)∧ww.cell? ⟨gy,t,none⟩=some (.int .i64 zy)∧X[t]? = some zx∧Y[t]? = some zy):=fun ww hk t ht=>by
  have e1:=HNX.out.1
  have e2:=HNX.out.2.1
  have U:=HM0.out.same hk
  obtain ⟨gx,cx,gy,cy,q1,q2,q3,q4⟩:=U.get HL.out (j:=t) (by omega)
  simp only [Value.slice.injEq] at q1 q2
  exact ⟨gx,gy,_,_,q1.1,q2.1,q3,q4,List.getElem?_eq_getElem (by omega),List.getElem?_eq_getElem (by omega)⟩
 have hmk:¬ (K≤3∨n=0):=by omega
 have hc:¬ K=6:=by omega
 have hn0:0<n:=by omega
 have n1:((n:Int) == 0)=false:=by simp;omega
 obtain ⟨gx,gy,z1,z2,rfl,rfl, -, -, -, -⟩:=CX.out W0 (Kept.refl _ _) 0 (by omega)
 have hbox:W0.heap[wr.heap.size]? = some (.cells #[.int .i64 x.1,.int .i64 x.2.1,.int .i64 x.2.2.1,.int .i64 x.2.2.2] 56 (0,0)):=HBB.out
 have h4:¬ K=4:=by omega
 obtain rfl:K=5:=hact.1
 clear hact
 have hxc:n≤xc:=by
  rcases HM0.out.rx.2 with ⟨e,_⟩ | ⟨g', cap', cur', e,_,_,hc,_⟩
  ·simp at e
  ·simp only [Value.slice.injEq] at e
   have:=HNX.out.1
   omega
 have hyc:n≤yc:=by
  rcases HM0.out.ry.2 with ⟨e,_⟩ | ⟨g', cap', cur', e,_,_,hc,_⟩
  ·simp at e
  ·simp only [Value.slice.injEq] at e
   have:=HNX.out.2.1
   omega
 have HIX:Hid (∀ ww,Same0 W0 ww→∀ d:Nat,d<n→IntsAt ww (some ⟨gx,0,none⟩) (X.take d)∧IntsAt ww (some ⟨gx,d+1,none⟩) (X.drop (d+1))∧IntsAt ww (some ⟨gy,0,none⟩) (Y.take d)∧IntsAt ww (some ⟨gy,d+1,none⟩) (Y.drop (d+1))∧(X.take d).length=d∧(X.drop (d+1)).length=n-(d+1)∧(Y.take d).length=d∧(Y.drop (d+1)).length=n-(d+1)):=fun ww hk d hd=>by
  have U:=HM0.out.same hk
  have e1:=HNX.out.1
  have e2:=HNX.out.2.1
  have cut:∀ {gg cc:Nat} {Z:List Int},n=Z.length→Row w.heap.size ww (.slice (some ⟨gg,0,none⟩) n cc) Z→IntsAt ww (some ⟨gg,0,none⟩) (Z.take d)∧IntsAt ww (some ⟨gg,d+1,none⟩) (Z.drop (d+1)):=fun {gg cc Z} e r=>by
   have hlt:gg<ww.heap.size:=(r.lt gg rfl).2
   have hc:∀ j (hj:j<Z.length),ww.cell? ⟨gg,j,none⟩=some (.int .i64 Z[j]):=fun j hj=>by
    obtain ⟨b,c,eb,q⟩:=row_num r hj
    simp only [Value.slice.injEq,Option.some.injEq,Addr.mk.injEq,and_true] at eb
    rw [eb.1];exact q
   refine ⟨.inr ⟨gg,0,rfl,hlt,fun j hj=>?_⟩,.inr ⟨gg,d+1,rfl,hlt,fun j hj=>?_⟩⟩
   ·have:j<Z.length:=by simp at hj;omega
    simpa using hc j this
   ·have hj' : d+1+j<Z.length:=by simp at hj;omega
    simpa using hc (d+1+j) hj'
  obtain ⟨q1,q2⟩:=cut e1 U.rx
  obtain ⟨q3,q4⟩:=cut e2 U.ry
  exact ⟨q1,q2,q3,q4,by simp;omega,by simp;omega,by simp;omega,by simp;omega⟩
 have FINX:Hid (∀ (d:Nat) w1 w2 v1 v2,d<n→Row W0.heap.size w1 v1 (X.take d++X.drop (d+1))→Same0 W0 w1→Row w1.heap.size w2 v2 (Y.take d++Y.drop (d+1))→Same0 w1 w2→Hid (UnS w w2 h g p q v1 v2 (k+1))):=fun d w1 w2 v1 v2 hd r1 k1 r2 k2=>by
  have e1:=HNX.out.1
  have e2:=HNX.out.2.1
  have hkw:=HM0.out.kept.size
  have U1:=HM0.out.setx (Kept.mono k1 (fun _ _ f=>f.elim)) (row_mono r1 hkw) (fun b e=>.inr (r1.lt b e).1)
  have U2:=U1.sety (Kept.mono k2 (fun _ _ f=>f.elim)) (row_mono r2 U1.kept.size) (fun b e=>.inr (r2.lt b e).1)
  have N2:=HM.out.2.1.less (X' := X.take d++X.drop (d+1)) (Y' := Y.take d++Y.drop (d+1)) (by simp;omega) (fun j a b hx hy=>by
   by_cases hj:j<d
   ·rw [List.getElem?_append_left (by simp;omega)] at hx hy
    rw [List.getElem?_take,if_pos hj] at hx hy
    exact ⟨j,hx,hy⟩
   ·rw [List.getElem?_append_right (by simp;omega)] at hx hy
    rw [List.getElem?_drop] at hx hy
    simp only [List.length_take] at hx hy
    rw [Nat.min_eq_left (by omega)] at hx hy
    exact ⟨_,hx,hy⟩)
  exact ⟨l,m,_,_,Q,U2,N2,by have:=HM.out.2.2.1;omega,by have:=HM.out.2.2.2;omega,by have:=HNX.out.2.2;simp;omega⟩
 go_upto_region 38 with fail
 go_upto_region 39 with (first | (go_at_call 19;refine (CP.out _ _ HXO.out.2.1 hn0).mono ?_;rintro e w4 ⟨d,rfl,h4, -,d1,d2⟩;have h4:=h4.symm;subst h4))
 have hdn:d<n:=by omega
 have HDN:Hid (d<n):=hdn
 have d3:(d:Int)≤(xc:Int):=by omega
 have d4:(d:Int)+1≤(n:Int):=by omega
 have d5:(0:Int)≤(d:Int)+1:=by omega
 have d6:(n:Int)≤(xc:Int):=by omega
 have d7:(d:Int)≤(yc:Int):=by omega
 have d8:(n:Int)≤(yc:Int):=by omega
 have HE0:Hid (∀ W:World,Row W.heap.size (W.alloc (.cells #[] 3)) (.slice (some ⟨W.heap.size,0,none⟩) 0 0) []):=fun W=>row_empty W _ (Nat.le_refl _) rfl
 have hdc:(d:Int)+1≤600:=by omega
 have hd8:Hid (d≤600∧n≤600):=by show _∧_;omega
 have dd1:d≤xc:=by omega
 have dd2:d+1≤n:=by omega
 have dd3:d≤yc:=by omega
 obtain ⟨-, -, -, -,eX1,eX2,eY1,eY2⟩:=HIX.out W0 (Kept.refl _ _) d hdn
 have HIA:Hid (∀ ww,Same0 W0 ww→IntsAt ww (some ⟨gx,0,none⟩) (X.take d)∧IntsAt ww (some ⟨gx,d+1,none⟩) (X.drop (d+1))∧IntsAt ww (some ⟨gy,0,none⟩) (Y.take d)∧IntsAt ww (some ⟨gy,d+1,none⟩) (Y.drop (d+1))):=fun ww hk=>⟨(HIX.out ww hk d HDN.out).1,(HIX.out ww hk d HDN.out).2.1,(HIX.out ww hk d HDN.out).2.2.1,(HIX.out ww hk d HDN.out).2.2.2.1⟩
 have FINY:Hid (∀ w1 w2 v1 v2,Row W0.heap.size w1 v1 (X.take d++X.drop (d+1))→Same0 W0 w1→Row w1.heap.size w2 v2 (Y.take d++Y.drop (d+1))→Same0 w1 w2→Hid (UnS w w2 h g p q v1 v2 (k+1))):=fun w1 w2 v1 v2=>FINX.out d w1 w2 v1 v2 HDN.out
 have hwr:IntKind.i64.wrap ((d:Int)+1)=(d:Int)+1:=iwrapU (by omega) (by omega)
 have htn:((d:Int)+1).toNat=d+1:=by omega
 generalize X.take d=XT at *
 generalize X.drop (d+1)=XD at *
 generalize Y.take d=YT at *
 generalize Y.drop (d+1)=YD at *
 have HLE:Hid ((d=XT.length∧n-(d+1)=XD.length)∧d=YT.length∧n-(d+1)=YD.length):=⟨⟨eX1.symm,eX2.symm⟩,eY1.symm,eY2.symm⟩
 clear eX1 eX2 eY1 eY2 HIX FINX hdn
 clear CP b0 b1 b2 b3 hbox HBB hw hn0 n1 h4
 have HYA:Hid (∀ ww,Same0 W0 ww→IntsAt ww (some ⟨gx,0,none⟩) XT):=fun ww hk=>(HIA.out ww hk).1
 have HYB:Hid (∀ ww,Same0 W0 ww→IntsAt ww (some ⟨gx,d+1,none⟩) XD):=fun ww hk=>(HIA.out ww hk).2.1
 have HXN:Hid (n≤xc):=hxc
 go_cut [8] from 62 to 251 (fun s8 wc=>Hid (Row W0.heap.size wc s8 (XT++XD)∧Same0 W0 wc))
 case first=>
  have k1:Same0 W0 (W0.alloc (.cells #[] 3)):=(Kept.refl _ W0).alloc _
  have y1:=HYA.out _ k1
  have rE:=HE0.out W0
  have HKK:Hid (∀ w1 uo uc,Row W0.heap.size w1 (.slice uo (([]:List Int).length+XT.length) uc) ([]++XT)→Kept (fun q=>(Value.slice (some ⟨W0.heap.size,0,none⟩) 0 0).ownBlock=some q) (W0.alloc (.cells #[] 3)).drew w1→Row W0.heap.size w1 (.slice uo XT.length uc) XT∧Same0 W0 w1∧W0.heap.size≤w1.heap.size∧IntsAt w1 (some ⟨gx,d+1,none⟩) XD):=fun w1 uo uc r kk=>by
   have s1:Same0 W0 w1:=(Kept.drew k1).trans kk (fun z hz e=>by have e:W0.heap.size=z:=Option.some.inj e;omega)
   exact ⟨by simpa using r,s1,s1.size,HYB.out w1 s1⟩
  have HK2:Hid (∀ w1 w2 v1 v2,Same0 W0 w1→Row W0.heap.size w1 v1 XT→Row W0.heap.size w2 v2 (XT++XD)→Kept (fun q=>v1.ownBlock=some q) w1 w2→Hid (Row W0.heap.size w2 v2 (XT++XD)∧Same0 W0 w2)):=fun w1 w2 v1 v2 s1 r1 r2 kk=>⟨r2,s1.trans kk (fun z hz e=>by have:=(r1.lt z e).1;omega)⟩
  have sz1:Hid ((([]:List Int).length+XT.length) * 8≤140737488355328):=by show _≤_;have:=hd8.out;have:=HLE.out;simp;omega
  have sz2:Hid ((XT.length+XD.length) * 8≤140737488355328):=by show _≤_;have:=hd8.out;have:=HLE.out;omega
  have HE1:Hid (d=XT.length∧n-(d+1)=XD.length):=HLE.out.1
  have sb1:W0.heap.size≤(W0.alloc (.cells #[] 3)).heap.size:=k1.size
  have HNN:Hid (∀ ww,xc=d+1→IntsAt ww (some ⟨gx,0,none⟩) XD):=fun ww e=>.inl (List.eq_nil_of_length_eq_zero (by have:=HE1.out.2;have:=HXN.out;omega))
  clear k1 HE0 HYA HYB HIA FINY
  by_cases hcd:xc=d+1
  ·have hcd2:(d:Int)≤(d:Int)+1:=by omega
   go_region_law (first
    | (have r3:=r2;refine step_ints (w0:=w1) (by rfl) _ _ 31 31 (by rfl) Try.underlying31 Try.underlying31 W0.heap.size XT _ (by rfl) r3 XD (some ⟨gx,0,none⟩) _ _ (by rfl) HE1.out.2 (HNN.out w1 (by first | exact hcd | rfl)) (fun e=>by cases e) sb2 sz2.out ?_;intro uo2 uc2 w2 rr2 kk2;have FF:=HK2.out w1 w2 _ _ s1 r3 rr2 kk2)
    | (refine step_ints (by rfl) _ _ 31 31 (by rfl) Try.underlying31 Try.underlying31 W0.heap.size [] _ (by rfl) rE XT (some ⟨gx,0,none⟩) _ _ (by rfl) HE1.out.1 y1 (fun e=>by cases e) sb1 sz1.out ?_;intro uo1 uc1 w1 rr1 kk1;obtain ⟨r2,s1,sb2,iy⟩:=HKK.out w1 uo1 uc1 rr1 kk1))
   all_goals
    go_wp2_with fail
    go_meet
    exact FF
  ·have hcd2:¬ ((xc:Int)=(d:Int)+1):=by omega
   go_region_law (first
    | (have r3:=r2;refine step_ints (w0:=w1) (by rfl) _ _ 31 31 (by rfl) Try.underlying31 Try.underlying31 W0.heap.size XT _ (by rfl) r3 XD (some ⟨gx,d+1,none⟩) _ _ (by rfl) HE1.out.2 iy (fun e=>by cases e) sb2 sz2.out ?_;intro uo2 uc2 w2 rr2 kk2;have FF:=HK2.out w1 w2 _ _ s1 r3 rr2 kk2)
    | (refine step_ints (by rfl) _ _ 31 31 (by rfl) Try.underlying31 Try.underlying31 W0.heap.size [] _ (by rfl) rE XT (some ⟨gx,0,none⟩) _ _ (by rfl) HE1.out.1 y1 (fun e=>by cases e) sb1 sz1.out ?_;intro uo1 uc1 w1 rr1 kk1;obtain ⟨r2,s1,sb2,iy⟩:=HKK.out w1 uo1 uc1 rr1 kk1))
   all_goals
    go_wp2_with fail
    go_meet
    exact FF
 case rest=>
  obtain ⟨W9,hW9⟩:∃ W9,W9=wc:=⟨_,rfl⟩
  rw [← hW9] at hcut
  rw [← hW9]
  clear hW9
  have HC8:=hcut
  clear hcut HYA HYB HXN
  have HYA:Hid (∀ ww,Same0 W9 ww→IntsAt ww (some ⟨gy,0,none⟩) YT):=fun ww hk=>(HIA.out ww (HC8.out.2.trans' hk)).2.2.1
  have HYB:Hid (∀ ww,Same0 W9 ww→IntsAt ww (some ⟨gy,d+1,none⟩) YD):=fun ww hk=>(HIA.out ww (HC8.out.2.trans' hk)).2.2.2
  have HXN:Hid (n≤yc):=hyc
  go_upto_region 40 with fail
  have k1:Same0 W9 (W9.alloc (.cells #[] 3)):=(Kept.refl _ W9).alloc _
  have y1:=HYA.out _ k1
  have rE:=HE0.out W9
  have HKK:Hid (∀ w1 uo uc,Row W9.heap.size w1 (.slice uo (([]:List Int).length+YT.length) uc) ([]++YT)→Kept (fun q=>(Value.slice (some ⟨W9.heap.size,0,none⟩) 0 0).ownBlock=some q) (W9.alloc (.cells #[] 3)).drew w1→Row W9.heap.size w1 (.slice uo YT.length uc) YT∧Same0 W9 w1∧W9.heap.size≤w1.heap.size∧IntsAt w1 (some ⟨gy,d+1,none⟩) YD):=fun w1 uo uc r kk=>by
   have s1:Same0 W9 w1:=(Kept.drew k1).trans kk (fun z hz e=>by have e:W9.heap.size=z:=Option.some.inj e;omega)
   exact ⟨by simpa using r,s1,s1.size,HYB.out w1 s1⟩
  have HK2:Hid (∀ w1 w2 v1 v2,Same0 W9 w1→Row W9.heap.size w1 v1 YT→Row W9.heap.size w2 v2 (YT++YD)→Kept (fun q=>v1.ownBlock=some q) w1 w2→Hid (Row W9.heap.size w2 v2 (YT++YD)∧Same0 W9 w2)):=fun w1 w2 v1 v2 s1 r1 r2 kk=>⟨r2,s1.trans kk (fun z hz e=>by have:=(r1.lt z e).1;omega)⟩
  have sz1:Hid ((([]:List Int).length+YT.length) * 8≤140737488355328):=by show _≤_;have:=hd8.out;have:=HLE.out;simp;omega
  have sz2:Hid ((YT.length+YD.length) * 8≤140737488355328):=by show _≤_;have:=hd8.out;have:=HLE.out;omega
  have HE1:Hid (d=YT.length∧n-(d+1)=YD.length):=HLE.out.2
  have sb1:W9.heap.size≤(W9.alloc (.cells #[] 3)).heap.size:=k1.size
  have HNN:Hid (∀ ww,yc=d+1→IntsAt ww (some ⟨gy,0,none⟩) YD):=fun ww e=>.inl (List.eq_nil_of_length_eq_zero (by have:=HE1.out.2;have:=HXN.out;omega))
  clear k1 HE0 HYA HYB HIA
  by_cases hcd:yc=d+1
  ·have hcd2:(d:Int)≤(d:Int)+1:=by omega
   go_region_law (first
    | (have r3:=r2;refine step_ints (w0:=w1) (by rfl) _ _ 31 31 (by rfl) Try.underlying31 Try.underlying31 W9.heap.size YT _ (by rfl) r3 YD (some ⟨gy,0,none⟩) _ _ (by rfl) HE1.out.2 (HNN.out w1 (by first | exact hcd | rfl)) (fun e=>by cases e) sb2 sz2.out ?_;intro uo2 uc2 w2 rr2 kk2;have FF:=HK2.out w1 w2 _ _ s1 r3 rr2 kk2)
    | (refine step_ints (by rfl) _ _ 31 31 (by rfl) Try.underlying31 Try.underlying31 W9.heap.size [] _ (by rfl) rE YT (some ⟨gy,0,none⟩) _ _ (by rfl) HE1.out.1 y1 (fun e=>by cases e) sb1 sz1.out ?_;intro uo1 uc1 w1 rr1 kk1;obtain ⟨r2,s1,sb2,iy⟩:=HKK.out w1 uo1 uc1 rr1 kk1))
   all_goals
    have GG:=FINY.out _ _ _ _ HC8.out.1 HC8.out.2 FF.out.1 FF.out.2
    clear FF rr2 kk2 rr1 kk1
    go_wp2_with fail
    exact HR.out _ _ _ _ _ _ _ _ _ _ _ _ _ _ _ _ _ _ _ _ _ _ _ _ _ _ _ _ _ _ _ _ _ _ _ _ _ _ _ _ _ _ _ _ _ _ _ _ _ _ _ _ _ _ _ _ _ _ _ _ _ _ _ _ _ _ _ _ _ _ _ _ _ _ _ _ _ _ _ _ _ _ _ _ _ _ _ _ _ _ _ _ _ _ _ _ _ _ _ _ _ _ _ _ _ _ _ _ _ _ _ _ _ _ _ _ _ _ _ _ _ _ _ _ _ _ _ _ _ _ _ _ _ _ _ _ _ _ _ _ _ _ _ _ _ _ _ _ _ _ _ _ _ _ _ _ _ _ _ _ _ _ _ _ _ _ _ _ _ _ _ _ _ _ _ _ _ _ _ _ _ _ _ _ _ _ _ _ _ _ _ _ _ _ _ _ _ _ _ _ _ _ _ _ _ _ _ _ _ _ _ _ _ (by go_num) GG
  ·have hcd2:¬ ((yc:Int)=(d:Int)+1):=by omega
   go_region_law (first
    | (have r3:=r2;refine step_ints (w0:=w1) (by rfl) _ _ 31 31 (by rfl) Try.underlying31 Try.underlying31 W9.heap.size YT _ (by rfl) r3 YD (some ⟨gy,d+1,none⟩) _ _ (by rfl) HE1.out.2 iy (fun e=>by cases e) sb2 sz2.out ?_;intro uo2 uc2 w2 rr2 kk2;have FF:=HK2.out w1 w2 _ _ s1 r3 rr2 kk2)
    | (refine step_ints (by rfl) _ _ 31 31 (by rfl) Try.underlying31 Try.underlying31 W9.heap.size [] _ (by rfl) rE YT (some ⟨gy,0,none⟩) _ _ (by rfl) HE1.out.1 y1 (fun e=>by cases e) sb1 sz1.out ?_;intro uo1 uc1 w1 rr1 kk1;obtain ⟨r2,s1,sb2,iy⟩:=HKK.out w1 uo1 uc1 rr1 kk1))
   all_goals
    have GG:=FINY.out _ _ _ _ HC8.out.1 HC8.out.2 FF.out.1 FF.out.2
    clear FF rr2 kk2 rr1 kk1
    go_wp2_with fail
    exact HR.out _ _ _ _ _ _ _ _ _ _ _ _ _ _ _ _ _ _ _ _ _ _ _ _ _ _ _ _ _ _ _ _ _ _ _ _ _ _ _ _ _ _ _ _ _ _ _ _ _ _ _ _ _ _ _ _ _ _ _ _ _ _ _ _ _ _ _ _ _ _ _ _ _ _ _ _ _ _ _ _ _ _ _ _ _ _ _ _ _ _ _ _ _ _ _ _ _ _ _ _ _ _ _ _ _ _ _ _ _ _ _ _ _ _ _ _ _ _ _ _ _ _ _ _ _ _ _ _ _ _ _ _ _ _ _ _ _ _ _ _ _ _ _ _ _ _ _ _ _ _ _ _ _ _ _ _ _ _ _ _ _ _ _ _ _ _ _ _ _ _ _ _ _ _ _ _ _ _ _ _ _ _ _ _ _ _ _ _ _ _ _ _ _ _ _ _ _ _ _ _ _ _ _ _ _ _ _ _ _ _ _ _ _ (by go_num) GG
set_option maxHeartbeats 8000000 in
theorem sunseen_walk {w:World} {ro:Option Addr} {rs:List Raw4} {rc:Nat} (hr:RawsAt w ro rs) (hl:rs.length≤maxLen) (hok:∀ r∈rs,r.ok) :
  Calls Try.prog 6 #[.slice ro rs.length rc] w fun e w' => e=.returned (.bool true)∧Below w.heap.size w w' := by
 unfold maxLen at hl
 have C0:=awake12_any w
 have HX:Hid (∀ ww,Same0 w ww→RawsAt ww ro rs):=fun ww hk=>hr.same hk
 have HO:Hid (∀ r∈rs,r.ok):=hok
 have CN:Hid (∀ ww,Calls Try.prog 8 #[.int .i64 2000] ww fun e w' => ∃ h g,e=.returned (.tuple #[.pointer (some ⟨h,0,none⟩),.int .i64 0])∧HpB (fun _=>False) w' h g 2000 []∧Same0 ww w' ∧ ww.heap.size≤h∧ww.heap.size≤g):=fun ww=>hnew_yes 2000 ww (by omega) (by omega)
 clear hr hok
 go_enter Try.func6,Try.ntmps6
 go_upto_region 3 with (first | (go_at_call 18;refine C0.mono ?_;rintro e w1 ⟨rfl,k1⟩) | (go_at_call 8;refine (CN.out _).mono ?_;rintro e w2 ⟨h,g,rfl,p2,k2,lh,lg⟩))
 go_upto_region 4 with (first | (go_at_call 8;refine (CN.out _).mono ?_;rintro e w3 ⟨p,q,rfl,p3,k3,lp,lq⟩))
 have HU:Hid (UnS w w3 h g p q (.slice none 0 0) (.slice none 0 0) 0):=by
  have a1:=p2.ltH
  have a2:=p2.ltG
  have s1:=k1.size
  have s2:=k2.size
  exact ⟨[],[],[],[],_,⟨(p2.same k3).mono (fun _ _ _ f=>f.elim),p3.mono (fun _ _ _ f=>f.elim),World.ownsRow_nil _ _ _ _,World.ownsRow_nil _ _ _ _,fun k e=>by simp [Value.ownBlock] at e,(k1.trans' k2).trans' k3,⟨by omega,by omega,by omega,by omega⟩,by omega,by omega,by omega,by omega⟩,Unn.start,Nat.le_refl _,Nat.le_refl _,Nat.le_refl _⟩
 clear C0 CN p2 p3 k1 k2 k3 lh lg lp lq
 go_wp2
 go_loopw [8,9,10] (fun vx vy i wr=>∃ k:Nat,i=.int .i64 (k:Int)∧k≤rs.length∧k≤600∧Hid (UnS w wr h g p q vx vy k)) (fun _ _ i _=>600-(intOf i).toNat)
 case atStart=>exact ⟨0,rfl,Nat.zero_le _,Nat.zero_le _,HU⟩
 case round=>
  clear HU
  obtain ⟨k,rfl,hk,hk6,HS⟩:=hrel
  obtain ⟨l,m,X,Y,Q,hU,hN,ll,lm,lX⟩:=HS.out
  by_cases hlt:k<rs.length∧k<600
  ·obtain ⟨h1,h2⟩:=hlt
   have hK7:=pick_lt (rs[k]'h1).1 (show (0:Int)<7 by decide)
   have cases5:(pickF (rs[k]'h1).1 7≤3∨X.length=0)∨(pickF (rs[k]'h1).1 7=6∧X.length≠0)∨(pickF (rs[k]'h1).1 7=4∧X.length≠0)∨(pickF (rs[k]'h1).1 7=5∧X.length≠0):=by omega
   rcases cases5 with ha | ha | ha | ha
   ·refine un_make hl HX HO h1 h2 hU hN ll lm lX ha rfl ?_
    exact fun _ _ _ _ _ _ _ _ _ _ _ _ _ _ _ _ _ _ _ _ _ _ _ _ _ _ _ _ _ _ _ _ _ _ _ _ _ _ _ _ _ _ _ _ _ _ _ _ _ _ _ _ _ _ _ _ _ _ _ _ _ _ _ _ _ _ _ _ _ _ _ _ _ _ _ _ _ _ _ _ _ _ _ _ _ _ _ _ _ _ _ _ _ _ _ _ _ _ _ _ _ _ _ _ _ _ _ _ _ _ _ _ _ _ _ _ _ _ _ _ _ _ _ _ _ _ _ _ _ _ _ _ _ _ _ _ _ _ _ _ _ _ _ _ _ _ _ _ _ _ _ _ _ _ _ _ _ _ _ _ _ _ _ _ _ _ _ _ _ _ _ _ _ _ _ _ _ _ _ _ _ _ _ _ _ _ _ _ _ _ _ _ _ _ _ _ _ _ _ _ _ _ _ _ _ _ _ _ _ _ _ _ _ e H=>⟨by (repeat apply Exists.intro);exact ⟨⟨k+1,e,by omega,by omega,H⟩,rfl⟩,by subst e;simp [intOf];omega⟩
   ·refine un_coll hl HX HO h1 h2 hU hN ll lm lX ha rfl ?_
    exact fun _ _ _ _ _ _ _ _ _ _ _ _ _ _ _ _ _ _ _ _ _ _ _ _ _ _ _ _ _ _ _ _ _ _ _ _ _ _ _ _ _ _ _ _ _ _ _ _ _ _ _ _ _ _ _ _ _ _ _ _ _ _ _ _ _ _ _ _ _ _ _ _ _ _ _ _ _ _ _ _ _ _ _ _ _ _ _ _ _ _ _ _ _ _ _ _ _ _ _ _ _ _ _ _ _ _ _ _ _ _ _ _ _ _ _ _ _ _ _ _ _ _ _ _ _ _ _ _ _ _ _ _ _ _ _ _ _ _ _ _ _ _ _ _ _ _ _ _ _ _ _ _ _ _ _ _ _ _ _ _ _ _ _ _ _ _ _ _ _ _ _ _ _ _ _ _ _ _ _ _ _ _ _ _ _ _ _ _ _ _ _ _ _ _ _ _ _ _ _ _ _ _ _ _ _ _ _ _ _ _ _ _ _ e H=>⟨by (repeat apply Exists.intro);exact ⟨⟨k+1,e,by omega,by omega,H⟩,rfl⟩,by subst e;simp [intOf];omega⟩
   ·refine un_point hl HX HO h1 h2 hU hN ll lm lX ha rfl ?_
    exact fun _ _ _ _ _ _ _ _ _ _ _ _ _ _ _ _ _ _ _ _ _ _ _ _ _ _ _ _ _ _ _ _ _ _ _ _ _ _ _ _ _ _ _ _ _ _ _ _ _ _ _ _ _ _ _ _ _ _ _ _ _ _ _ _ _ _ _ _ _ _ _ _ _ _ _ _ _ _ _ _ _ _ _ _ _ _ _ _ _ _ _ _ _ _ _ _ _ _ _ _ _ _ _ _ _ _ _ _ _ _ _ _ _ _ _ _ _ _ _ _ _ _ _ _ _ _ _ _ _ _ _ _ _ _ _ _ _ _ _ _ _ _ _ _ _ _ _ _ _ _ _ _ _ _ _ _ _ _ _ _ _ _ _ _ _ _ _ _ _ _ _ _ _ _ _ _ _ _ _ _ _ _ _ _ _ _ _ _ _ _ _ _ _ _ _ _ _ _ _ _ _ _ _ _ _ _ _ _ _ _ _ _ _ e H=>⟨by (repeat apply Exists.intro);exact ⟨⟨k+1,e,by omega,by omega,H⟩,rfl⟩,by subst e;simp [intOf];omega⟩
   ·refine wp_mono (un_less hl HX HO h1 h2 hU hN ll lm lX ha rfl ?_) (fun e a' w' hq=>by cases e with
     | normal=>exact hq
     | exit id=>exact hq.elim
     | goto l=>exact hq.elim
     | ret=>exact hq.elim
     | panic ch=>exact hq.elim
     | outgrown=>exact hq.elim)
    exact fun _ _ _ _ _ _ _ _ _ _ _ _ _ _ _ _ _ _ _ _ _ _ _ _ _ _ _ _ _ _ _ _ _ _ _ _ _ _ _ _ _ _ _ _ _ _ _ _ _ _ _ _ _ _ _ _ _ _ _ _ _ _ _ _ _ _ _ _ _ _ _ _ _ _ _ _ _ _ _ _ _ _ _ _ _ _ _ _ _ _ _ _ _ _ _ _ _ _ _ _ _ _ _ _ _ _ _ _ _ _ _ _ _ _ _ _ _ _ _ _ _ _ _ _ _ _ _ _ _ _ _ _ _ _ _ _ _ _ _ _ _ _ _ _ _ _ _ _ _ _ _ _ _ _ _ _ _ _ _ _ _ _ _ _ _ _ _ _ _ _ _ _ _ _ _ _ _ _ _ _ _ _ _ _ _ _ _ _ _ _ _ _ _ _ _ _ _ _ _ _ _ _ _ _ _ _ _ _ _ _ _ _ _ e H=>⟨by (repeat apply Exists.intro);exact ⟨⟨k+1,e,by omega,by omega,H⟩,rfl⟩,by subst e;simp [intOf];omega⟩
  ·have hlt' := hlt
   obtain ⟨xo,xc,e⟩:=row_shape hU.rx
   subst e
   obtain ⟨yo,yc,e⟩:=row_shape hU.ry
   subst e
   have HL:Hid (X.length=Y.length):=hN.len
   obtain ⟨n,hn⟩:∃ n,n=X.length:=⟨_,rfl⟩
   have hn2:Y.length=n:=by rw [hn];exact HL.out.symm
   have HM:Hid (UnM w wr h g p q (.slice xo n xc) (.slice yo n yc) l m X Y∧Unn l m X Y Q∧l.length≤k∧m.length≤k):=by
    have e:=hU
    rw [← hn,hn2] at e
    exact ⟨e,hN,ll,lm⟩
   rw [← hn,hn2]
   have HNX:Hid (n=X.length∧n=Y.length∧n≤k):=⟨hn,hn2.symm,by omega⟩
   have hnk:n≤600:=by omega
   have hw:=hU.kept
   clear hU hN hn hn2 HS lX ll lm
   have hend:((k:Int)<(rs.length:Int)∧¬ (k:Int)<600)∨¬ (k:Int)<(rs.length:Int):=by omega
   have HUK:Hid (∀ ww,Same0 wr ww→UnM w ww h g p q (.slice xo n xc) (.slice yo n yc) l m X Y):=fun ww hk=>HM.out.1.same hk
   have CT1:=told12_any HM.out.1.hl.any
   have CT2:Hid (∀ ww,Same0 wr ww→Calls Try.prog 24 #[.pointer (some ⟨p,0,none⟩)] ww fun e w' => ∃ v,e=.returned (.tuple #[v,.bool true])∧NRow (fun b=>ww.heap.size≤b) ww.heap.size w' v m∧Same0 ww w'):=fun ww hk=>told12_any (HUK.out ww hk).hm.any
   have ll:=HM.out.2.2.1
   have lm:=HM.out.2.2.2
   clear hlt
   rcases hend with ⟨d1,d2⟩ | d1
   all_goals
    go_upto_region 42 with (first | (go_at_call 24;refine CT1.mono ?_;rintro e w5 ⟨nv,rfl,hrow5,k5⟩))
    obtain ⟨no,nc,e⟩:=hrow5.shape
    subst e
    have H5:Hid (NsW w5 no l):=(NRow.mem hrow5).weak
    clear CT1 hrow5
    go_upto_region 43 with (first | (go_at_call 24;refine (CT2.out _ k5).mono ?_;rintro e w6 ⟨mv,rfl,hrow6,k6⟩))
    obtain ⟨mo,mc,e⟩:=hrow6.shape
    subst e
    have K6:Same0 wr w6:=k5.trans' k6
    have HK6:Hid (Same0 w w6):=hw.trans' K6
    have HC:Hid (∀ ww,Same0 w6 ww→∀ t:Nat,t<n→∃ gx gy,∃ (zx zy:Nat),xo=some ⟨gx,0,none⟩∧yo=some ⟨gy,0,none⟩∧ww.cell? ⟨gx,t,none⟩=some (.int .i64 (zx:Int))∧ww.cell? ⟨gy,t,none⟩=some (.int .i64 (zy:Int))∧Hid (∀ wy,Same0 w6 wy→Calls Try.prog 25 #[.slice no l.length nc,.int .i64 (zx:Int),.slice mo m.length mc,.int .i64 (zy:Int)] wy fun e w' => e=.returned (.bool true)∧Same0 wy w')):=fun ww hk t ht=>by
     have e1:=HNX.out.1
     have e2:=HNX.out.2.1
     have N6:=H5.out.same k6
     have M6:=(NRow.mem hrow6).weak
     have U:=HUK.out ww (K6.trans' hk)
     obtain ⟨gx,cx,gy,cy,q1,q2,q3,q4⟩:=U.get HL.out (j:=t) (by omega)
     simp only [Value.slice.injEq] at q1 q2
     have al:=HM.out.2.1.alike (j:=t) (List.getElem?_eq_getElem (by omega)) (List.getElem?_eq_getElem (by omega))
     have hn:=HM.out.2.1.han t _ _ (List.getElem?_eq_getElem (by omega)) (List.getElem?_eq_getElem (by omega))
     have c1:((X[t]'(by omega)).toNat:Int)=X[t]'(by omega):=by omega
     have c2:((Y[t]'(by omega)).toNat:Int)=Y[t]'(by omega):=by omega
     refine ⟨gx,gy,_,_,q1.1,q2.1,by rw [c1];exact q3,by rw [c2];exact q4,?_⟩
     intro wy hy
     exact alike_yes (N6.same hy) (M6.same hy) HM.out.2.1.wl HM.out.2.1.wm (by omega) (by omega) HM.out.2.1.bis al.1 al.2.1 al.2.2
    clear CT2 H5 hrow6 HUK k5 k6 K6
    go_upto_region 46 with fail
    go_loopw [33] (fun v33 wx=>∃ i:Nat,i≤n∧v33=.int .i64 (i:Int)∧Hid (Same0 w6 wx)) (fun v33 _=>n-(intOf v33).toNat)
    case atStart=>exact ⟨0,Nat.zero_le _,rfl,Kept.refl _ _⟩
    case round=>
     obtain ⟨i,hi,rfl,HK⟩:=hrel
     by_cases hlt:i<n
     ·obtain ⟨gx,gy,zx,zy,rfl,rfl,cx,cy,CA⟩:=HC.out wr HK.out i hlt
      have q5:(0:Int)≤(i:Int):=by omega
      have q6:(i:Int)<(n:Int):=by omega
      go_upto_region 48 with fail
      go_cut [34] from 268 to 286 (fun s34 wc=>s34=.bool true∧Hid (Same0 w6 wc))
      case first=>
       go_region_with (go_at_call 25;refine (CA.out _ (by repeat (first | exact HK.out | refine Kept.drew ?_ | refine Kept.drewN ?_ _))).mono ?_;rintro e w8 ⟨rfl,k8⟩)
       all_goals
        go_wp2_with fail
        go_meet
        case rel=>exact ⟨rfl,by first | exact (Kept.drew HK.out).trans' k8 | exact (show Same0 w6 _ from Kept.drew HK.out).trans' k8 | exact HK.out.trans' k8⟩
      case rest=>
      obtain ⟨rfl,HKc⟩:=hcut
      go_wp2
      go_roundw
      case rel=>exact ⟨i+1,by omega,by go_num,HKc⟩
      case measure=>simp [intOf];omega
     ·obtain rfl:i=n:=by omega
      go_wp2
      go_ret
      exact ⟨rfl,(HK6.out.trans' HK.out).below⟩
end Go.Proofs.Ytmloedlkoijfbaa
namespace Go.Proofs.Ytmloedlkoijfbaa
set_option maxRecDepth 100000
set_option linter.unusedVariables false
open Go.RowKit Go.Deep
theorem cells_act:Try.prog.cellsOf 56=4:=by kernel_rfl
section
variable {H : Type} {enc : TypeId × Value → H} {w : World} {spare : Nat → Bool} {held : Bool}
theorem trod_act {fuel:Nat} {cs:List Value} {x:DataW H × List MemPlace} (hl:cs.length=4) (h:DataW.trod enc Try.prog w 0 spare held fuel 56 cs=some x):∃ r:Raw4,r.ok∧cs=[.int .i64 r.1,.int .i64 r.2.1,.int .i64 r.2.2.1,.int .i64 r.2.2.2]:=by
 obtain ⟨y0,y1,y2,y3,n', g0,g1,g2,g3⟩:=trod_four Try.underlying56 h
 match cs,hl with
 | [c0,c1,c2,c3],_=>
  simp only [cells_int,List.drop_zero,List.take_succ_cons,List.take_zero,List.drop_succ_cons] at g0 g1 g2 g3
  obtain ⟨z0,e0,_,w0⟩:=DataW.trod_int Try.underlying3 g0
  obtain ⟨z1,e1,_,w1⟩:=DataW.trod_int Try.underlying3 g1
  obtain ⟨z2,e2,_,w2⟩:=DataW.trod_int Try.underlying3 g2
  obtain ⟨z3,e3,_,w3⟩:=DataW.trod_int Try.underlying3 g3
  simp only [List.cons.injEq,and_true] at e0 e1 e2 e3
  subst e0 e1 e2 e3
  exact ⟨(z0,z1,z2,z3),⟨i64_wf w0,i64_wf w1,i64_wf w2,i64_wf w3⟩,rfl⟩
theorem open_acts {fuel:Nat} {ao:Option Addr} {len cap:Nat} {x:DataW H × List MemPlace} (h:DataW.trod enc Try.prog w 0 spare held fuel 54 [.slice ao len cap]=some x) :
  ∃ rs:List Raw4,rs.length=len∧RawsAt w ao rs∧len≤maxLen∧∀ r∈rs,r.ok:=by
 rcases open_elems Try.underlying54 cells_act (by omega) h with ⟨rfl,rfl,rfl⟩ | ⟨a,rfl,hl1,hl2,hall⟩
 ·exact ⟨[],rfl,.inl rfl,Nat.zero_le _,by simp⟩
 ·have each:∀ i,i<len→∃ r:Raw4,r.ok∧w.cell? ⟨a.block,a.off+i * 4,none⟩=some (.int .i64 r.1)∧w.cell? ⟨a.block,a.off+i * 4+1,none⟩=some (.int .i64 r.2.1)∧w.cell? ⟨a.block,a.off+i * 4+2,none⟩=some (.int .i64 r.2.2.1)∧w.cell? ⟨a.block,a.off+i * 4+3,none⟩=some (.int .i64 r.2.2.2):=by
   intro i hi
   obtain ⟨_,_,cs,n,y,hl,hcell,hy⟩:=hall i hi
   obtain ⟨r,hr,rfl⟩:=trod_act hl hy
   exact ⟨r,hr,by simpa using hcell 0 (by omega),by simpa using hcell 1 (by omega),by simpa using hcell 2 (by omega),by simpa using hcell 3 (by omega)⟩
  obtain ⟨f,hf⟩:=Classical.axiomOfChoice (r:=fun (i:Fin len) (r:Raw4)=>r.ok∧w.cell? ⟨a.block,a.off+i * 4,none⟩=some (.int .i64 r.1)∧w.cell? ⟨a.block,a.off+i * 4+1,none⟩=some (.int .i64 r.2.1)∧w.cell? ⟨a.block,a.off+i * 4+2,none⟩=some (.int .i64 r.2.2.1)∧w.cell? ⟨a.block,a.off+i * 4+3,none⟩=some (.int .i64 r.2.2.2)) (fun i=>each i i.2)
  refine ⟨List.ofFn f,by simp,?_,by omega,fun r hr=>?_⟩
  ·by_cases h0:len=0
   ·subst h0;exact .inl (by simp)
   ·obtain ⟨ea,hlt,_⟩:=hall 0 (by omega)
    refine .inr ⟨a.block,a.off,by rw [← ea],hlt,fun i hi=>?_⟩
    have hi' : i<len:=by simpa using hi
    simpa using (hf ⟨i,hi'⟩).2
  ·obtain ⟨i,rfl⟩:=List.mem_ofFn.1 hr
   exact (hf i).1
end
end Go.Proofs.Ytmloedlkoijfbaa
