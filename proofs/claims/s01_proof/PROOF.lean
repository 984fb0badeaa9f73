import PyProof.Rows.All
import Wide.All
import OpenK.AllK
import Wide.FinOn
import PyProof.EqAt
import PyProof.EqKinds
import PyProof.TupleCall
import KE.BitLaws
import Open.SpecLaws
import KE.OsHead
import KE.OsGo
import KE.IntBitsLaws
import PySem.Challenge.RW_pilesblends_s01_answers
set_option linter.all false
set_option Elab.async false
set_option maxRecDepth 100000
open PySem.W renaming Frag->af,keepIn->eG,emptyDict->eV,fnOf->gn,findIn->gB,instObj->gK,codeIn->j2,mg_of->m8,length_le_weightAllW->nQ,callWith_K->oS,hasDictIn->pO,ktu_apart->pP,methodObj->pQ,plainGet->qE,cellsFrom_some->rH,makesIn->sJ,takerIn->sL,lookIn->tP,nsIn->wR,plainOver->wU,WRecords->yc,handedIn->ye,WalkOS->Bj,isFn->Fw
open List renaming length_map->ag,getElem?_eq_getElem->ah,getD_eq_getElem?_getD->ai,length_append->au,mem_of_getElem?->aw,range->ax,map_cons->az,mem_cons_of_mem->aA,mem_cons->aB,mem_append->aE,mem_cons_self->aH,map_map->aI,length_cons->aL,mem_singleton->aN,getElem?_eq_some_iff->aO,zip_cons_cons->aP,map_congr_left->aQ,zip_nil_right->aR,mem_map->aS,map_nil->aV,size_toArray->a_,map_append->bj,getElem?_map->bo,all_cons->bu,length_zip->bC,not_mem_nil->bJ,mem_range->bK,getElem_mem->bM,all_nil->bO,replicate->bT,mem_append_right->cf,getElem?_eq_none->cq,length_take->cu,getElem?_zip_eq_some->cw,of_mem_zip->cE,getElem?_set_self->cN,mem_append_left->cP,mem_iff_getElem->cQ,append_assoc->cV,getElem?_append_right->c_,getElem?_zipIdx->da,mem_of_mem_take->dc,length_drop->dg,foldl_cons->dm,length_nil->du,length_zipIdx->dv,getElem?_append_left->dw,replicate_succ->dF,getElem?_range->dQ,append_nil->dU,foldl_append->dZ,getElem_map->d7,take_length->d8,getElem?_set_ne->eD,take_succ->eE,flatten_cons->eR,length_range->eU,all_eq_true->fw,mem_of_mem_drop->fy,flatMap_cons->fH,take_zero->fI,drop_eq_getElem_cons->fX,mem_or_eq_of_mem_set->fY,getD_cons_succ->gM,map_drop->gW,lookup_cons->g9,mem_flatMap->g_,getElem_range->hZ,mem_iff_getElem?->ij,length_set->ik,nil_append->iq,range_succ->iu,cons_append->i4,ext_getElem->i5,getElem?_replicate->i6,getElem_zip->i7,range_succ_eq_map->jl,take_of_length_le->jm,map_take->jK,length_replicate->jN,take_append_drop->jO,forIn_nil->j0,lookup->j1,mem_of_find?_eq_some->kx,filterMap_cons->kD,flatMap_append->kE,find?_cons->kN,forIn_cons->kO,find?_eq_none->lj,getLastD_cons->lq,mem_replicate->lu,drop_zero->lT,ext_getElem?->lU,flatMap_map->mH,any_cons->mZ,nodup_cons->nP,drop_succ_cons->oi,getD_cons_zero->oj,map_eq_nil_iff->om,zip_map->oA,getLastD_eq_getLast?->pK,getElem?_set->pM,getElem?_take_of_lt->qe,sum_cons->qf,drop_length->qw,flatMap_def->qx,flatMap_nil->qy,map->qA,map_id'->rn,all_map->rp,drop_eq_nil_of_le->rq,drop_of_length_le->rA,map_id_fun->sH,take_eq_take_iff->sZ,drop_left->tL,take_left->tM,flatten_append->u_,getElem_zipIdx->vc,filterMap_map->vy,forIn_toArray->vz,getElem?_drop->vA,mem_filterMap->vB,any_map->wK,getElem_drop->wL,map_set->wM,isEmpty_iff->x6,zipIdx_cons->x8,drop_left'->zY,take_left'->zZ,find?_some->z9,mem_filter->z_,zipIdx_map->Aa,zipIdx_nil->Ab,drop_drop->Be,foldl->Bf,foldl_nil->Bg,getD_nil->Dm
open PySem.Heap renaming get?_push_of_some->aq,lt_size->aX,get?_push_size->aY,size_push->cg,get?_update_other->c7,SameBut->fe,get?_update_self->f7,ExtBut->zg,IsSliceOf->A_,Ns->MN
open Bool renaming and_eq_true->aC,and_true->bB,false_ne_true->bS,true_eq_false->cZ,noConfusion->dI,false_and->eY,false_eq_true->hJ,true_and->iR,and_false->jY,eq_iff_iff->kM,and_eq_true_iff->tJ,or_false->vg,or_eq_true->zU,not_false->A9
open Classical renaming byContradiction->aK,choose->qv,choose_spec->sY
open Nat renaming le_refl->aM,lt_of_lt_of_le->aT,lt_of_le_of_lt->bf,le_trans->bA,mul_le_mul_right->bQ,gcd->bR,pow_le_pow_right->bW,zero_le->cj,lt_irrefl->cM,ne_of_lt->cT,ne_of_gt->c8,add_le_add_right->de,div_le_self->dC,mul_lt_mul_of_lt_of_le->eF,pos_of_ne_zero->fk,mul_le_mul_left->fP,pow_add->fS,le_add_right->gh,dvd_trans->gk,pow_lt_pow_right->gA,le_of_lt->gP,two_pow_pos->iw,dvd_mul_right->iD,mul_le_mul->i8,gcd_dvd_right->jW,gcd_eq_zero_iff->kF,mul_ne_zero->kP,le_mul_of_pos_right->lJ,le_of_succ_le->lV,lt_succ_of_lt->lW,mul_comm->lX,add_mul->nj,add_comm->oB,add_sub_cancel->oQ,mul_lt_mul_of_le_of_lt->oR,mul_pos->pN,le_of_dvd->qg,add_sub_cancel_left->qB,lt_succ_self->qC,succ_ne_self->qD,dvd_refl->rB,gcd_comm->rC,le_of_eq->rD,pow_succ->rE,zero_add->rF,min_eq_left->sI,one_mul->tN,add_assoc->vh,div_dvd_of_dvd->vC,gcd_one_right->wO,mul_div_assoc->wQ,mod_eq_of_lt->x9,not_le_of_lt->x_,one_dvd->zh,mul_assoc->Dn,lcm->Fq
open PySem.Builtin.SmallTypes renaming ownedTupleIsFree->aW,nextOf->bD,ownedTupleHandOut->eO
open Option renaming getD_some->bF,some->bG,getD_none->bH,map_some->eI,map_eq_some_iff->lY,none->tO,map_none->Ac
open PySem.F renaming plainAttrs_list->bN,slot_list_append->dA,type_list_append->dB,slot_list_extend->dN,type_list_extend->dO,slot_dict_get->s_
open PySem renaming boot_len->bP,mem_of_lookup->cG,Within->rG
open Rat renaming mul_nonneg->bX,intCast_mul->dD,normalize_eq_mkRat->eJ,divInt_eq_div->eW,le_of_lt->fJ,div_def->fT,intCast_neg->fU,intCast_le_intCast->gQ,inv_pos->iE,divInt_ofNat->i9,mul_comm->jn,intCast_sub->jA,natCast_mul->jB,num_natCast->jC,mul_pos->j3,normalize_eq->ke,den_natCast->kQ,num_eq_zero->kR,num_divInt_den->oT,sub_eq_add_neg->oU,den_intCast->sM,intCast_add->sN,mul_eq_zero->sO,maybeNormalize_eq->tf,natCast_add->Ad,num_intCast->Ae,num_nonneg->Bo,add->Fx,mul->Fy
open PyProof.Rows renaming callWith_type1->cW
open Int renaming toNat_natCast->eQ,fdiv_eq_ediv_of_nonneg->hU,gcd->ig,mul_le_mul_of_nonneg_right->iZ,natAbs_natCast->jj,natCast_mul->jz,natAbs_mul->jZ,eq_of_mul_eq_mul_left->ku,fmod_lt_of_pos->oP,fmod_nonneg_of_pos->rh,mul_zero->rj,sign_eq_one_of_pos->rk,divExact_eq_ediv->tK,gcd_eq_zero_iff->u9,natCast_nonneg->vx,natAbs_add_le->wJ,natCast_ediv->x4,natCast_add->zX,mul_nonneg->Bb,natAbs_neg->Bc
open PySem.Str renaming ofString->gq
open Array renaming length_toList->kC,toList->wI
open PySem.W.Codec renaming encAll->lS,denoteAll->nO,app->uI,withinAll->zV
set_option hygiene false
local macro_rules
 | `(tactic|exists $e:term)=> `(tactic|(walk_at "run";refine $e))
 | `(tactic|exists $e:term,0)=> `(tactic|(have nd:=($e).nd;refine F.ok $e (λvs H Q E h=>?_) (λf nu A outer s H vs Q E hr h=>?_)))
local macro_rules
|`(~~~0)=>`(dR P w K mg base 42 "less" ["one","other"] (Zy K))
|`(~~~1)=>`(dR P w K mg base 42 "over" ["fraction","number"] (ack K (λn=>n≠0) λx n=>x/ (n:Rat)))
|`(~~~2)=>`(dR P w K mg base 41 "common_divisor" ["one","other"] aci)
|`(~~~3)=>`(dR P w K mg base 43 "product" ["one","other"] (ZA K λx y=>x*y))
|`(~~~4)=>`(dR P w K mg base 42 "lowest" ["above","below"] (acj K))
|`(~~~5)=>`(dR P w K mg base 42 "times" ["fraction","number"] (ack K (λ_=>True) λx n=>x*(n:Rat)))
|`(~~~6)=>`(dR P w K mg base 43 "minus" ["one","other"] (ZA K λx y=>x-y))
|`(~~~7)=>`(dR P w K mg base 42 "plus" ["one","other"] (ZA K λx y=>x+y))
local macro_rules
|`(~~~8)=>`(dR P w K mg base 43 "together" ["metal","more"] (Mr K))
|`(~~~9)=>`(dR P w K mg base 43 "metal_in" ["lot"] (P5 K d))
|`(~~~10)=>`(dR P w K mg base 43 "lot_with" ["kilograms","metal"] (P4 K d))
|`(~~~11)=>`(dR P w K mg base 43 "cut" ["lots","kilograms"] (ach K d))
|`(~~~12)=>`(dR P w K mg base 45 "mixed" ["lots"] (V_ K d))
|`(~~~13)=>`(dR P w K mg base 44 "metal_of" ["lots"] (P6 K d))
|`(~~~14)=>`(dR P w K mg base 41 "weight_of" ["lots"] (TJ K d))
|`(~~~15)=>`(dR P w K mg base 41 "turned" ["row","broken","column","divisor"] TH)
local macro_rules
|`(~~~16)=>`(dR P w K mg base 42 "cheapest_column" ["cost_rows","broken"] Tu)
|`(~~~17)=>`(dR P w K mg base 41 "is_cheaper" ["cost_rows","broken","one","other"] P0)
|`(~~~18)=>`(dR P w K mg base 41 "first_broken" ["table"] Ts)
|`(~~~19)=>`(dR P w K mg base 42 "first_table" ["costs","conditions"] V7)
|`(~~~20)=>`(dR P w K mg base 41 "alone" ["count","place","number"] V4)
|`(~~~21)=>`(dR P w K mg base 43 "cheapest" ["costs","conditions"] (Mn K))
|`(~~~22)=>`(dR P w K mg base 43 "in_fractions" ["row"] (Zw K))
|`(~~~23)=>`(dR P w K mg base 41 "in_a_row" ["parts"] (acm K))
local macro_rules
|`(~~~24)=>`(dR P w K mg base 43 "total" ["fractions"] (Wa K))
|`(~~~25)=>`(dR P w K mg base 41 "first_true" ["answers"] J8)
|`(~~~26)=>`(dR P w K mg base 44 "metal_in_all" ["sources","amounts","kind"] (Mo K d))
|`(~~~27)=>`(dR P w K mg base 44 "cost_of" ["sources","amounts"] (Zu K d))
|`(~~~28)=>`(dR P w K mg base 41 "pile_at" ["yard","number"] (Tz K d))
|`(~~~29)=>`(dR P w K mg base 45 "first_fault" ["yard","amounts"] (V6 K d))
|`(~~~30)=>`(dR P w K mg base 46 "none_is_worth_more" ["yard","prices","costs"] (Mp K d))
|`(~~~31)=>`(dR P w K mg base 45 "worth_of_source" ["yard","prices","place"] (Eh K d))
local macro_rules
|`(~~~32)=>`(dR P w K mg base 44 "worth_of_all" ["yard","prices"] (Ms K d))
|`(~~~33)=>`(dR P w K mg base 44 "worth_of_metal" ["yard","prices","source"] (Hl K d))
|`(~~~34)=>`(dR P w K mg base 43 "are_fair" ["prices"] (Zv K d))
|`(~~~35)=>`(dR P w K mg base 47 "proves_cheapest" ["yard","amounts","prices"] (TC K d))
|`(~~~36)=>`(dR P w K mg base 47 "proves_that_there_is_none" ["yard","prices"] (P1 K d))
|`(~~~37)=>`(dR P w K mg base 41 "leasts_and_mosts_met" ["parcels","leasts","mosts"] (afm K d))
|`(~~~38)=>`(dR P w K mg base 42 "no_more_than_there_is" ["sources","parcels"] (Tw K d))
|`(~~~39)=>`(dR P w K mg base 41 "just_together" ["parcels","amount"] (Zx d))
local macro_rules
|`(~~~40)=>`(dR P w K mg base 44 "parcels_of" ["sources"] (P7 K d))
|`(~~~41)=>`(dR P w K mg base 43 "parcel_of" ["source"] (Tx K d))
|`(~~~42)=>`(dR P w K mg base 45 "richest_blend" ["yard","kind"] (yZ K d true λm k=>Mi.sE m.want m.sources k))
|`(~~~43)=>`(dR P w K mg base 45 "poorest_blend" ["yard","kind"] (yZ K d true λm k=>Mi.sA m.want m.sources k))
|`(~~~44)=>`(dR P w K mg base 45 "cheapest_blend" ["yard"] (yZ K d false λm _=>Mi.gy m.want m.sources))
|`(~~~45)=>`(dR P w K mg base 44 "best_blend" ["yard","parcels","costs"] (Zt K d))
|`(~~~46)=>`(dR P w K mg base 45 "greatest_amount" ["yard"] (Zz K d))
|`(~~~47)=>`(dR P w K mg base 44 "all_as_told" ["call","rows","source_count"] PY)
local macro_rules
|`(~~~48)=>`(dR P w K mg base 43 "is_as_told" ["row","name","source_count"] (ZC K))
|`(~~~49)=>`(dR P w K mg base 42 "are_fractions" ["row","count"] V5)
|`(~~~50)=>`(dR P w K mg base 41 "all_between" ["numbers","first","last"] PZ)
|`(~~~51)=>`(dR P w K mg base 42 "all_within" ["call","numbers","pile_count"] J7)
|`(~~~52)=>`(dR P w K mg base 41 "within" ["number","bound","pile_count"] (TK K))
|`(~~~53)=>`(dR P w K mg base 41 "how_many_rows" ["call"] (Tv λp=>(Mi.rowsOf p).length))
|`(~~~54)=>`(dR P w K mg base 41 "how_many_numbers" ["call"] (Tv λp=>(Mi.cx p).length))
|`(~~~55)=>`(dR P w K mg base 41 "would_be_too_many" ["pile","coming"] (V9 K d))
local macro_rules
|`(~~~56)=>`(dR P w K mg base 42 "would_be_too_heavy" ["pile","kilograms"] (V8 K d))
|`(~~~57)=>`(dR P w K mg base 46 "put_on" ["pile","lot"] (V' K d))
|`(~~~58)=>`(dR P w K mg base 41 "add_source" ["yard","source"] (acg K d))
|`(~~~59)=>`(dR P w K mg base 41 "rows_at" ["calls","place","count"] (TF K))
|`(~~~60)=>`(dR P w K mg base 50 "answer_to" ["yard","call","numbers","rows"] (Tq K d))
|`(~~~61)=>`(hr.mono (by decide))
|`(~~~62)=>`(by omega)
|`(~~~63)=>`(by decide+kernel)
local macro_rules
|`(~~~64)=>`(cD (o9 K) (pv 1) aF (λ_ _=>rfl))
|`(~~~65)=>`(model X.prog X.w)
|`(~~~66)=>`(n.getD 0 0)
|`(~~~67)=>`(cut (aG m p).lots n.toNat)
|`(~~~68)=>`(X.yl s H scope (compEnvC scope cl C X.env) fp)
|`(~~~69)=>`(ae (fc K (pv 0)) aj)
|`(~~~70)=>`(model prog w)
|`(~~~71)=>`(λ_ _ _ _ _=>dj)
local macro_rules
|`(~~~72)=>`(s.heap.objs.size+1)
|`(~~~73)=>`(by decide)
|`(~~~74)=>`(λ_ _=>rfl)
|`(~~~75)=>`(.ListComp elt [⟨tg,iter,ifs,0⟩] scope pos)
|`(~~~76)=>`(jx (ha pos pins s σ H _ I h) λus s1 ⟨vs,H1,I1,r1,q1⟩=>?_)
|`(~~~77)=>`(cellsFrom (s3.heap.objs.size+1) scope.names (gz X.env.cells scope.names []))
|`(~~~78)=>`(λi z x H' hz s' rr Q' kk=>?_)
|`(~~~79)=>`(Builtin.«zip.__next__» ⟨[.ref z],[]⟩)
local macro_rules
|`(~~~80)=>`(λ(kv:Int×V) (e:DictEntry)=>(∃t,e.key=.int kv.1 t)/\e.hash=hashInt kv.1/\RelV kv.2 e.val)
|`(~~~81)=>`(l.map RS.sp)
|`(~~~82)=>`(λi z v' H' hz s' rr Q' kk=>?_)
|`(~~~83)=>`(cR (iH K) rfl T.len bP (~~~69))
|`(~~~84)=>`(b9 2 nd (a9 eL (~~~61) rfl (ae (pv 0) (ae (~~~64) aj))))
|`(~~~85)=>`(cD (rg K) (pv 1) aF (~~~74))
|`(~~~86)=>`(cD (rg K) (pv 0) aF (~~~74))
|`(~~~87)=>`(λ_ _ _ _ _=>(EZ K 2 (cJ (cK 3 nd) (cJ (cK 4 nd) gI))))
local macro_rules
|`(~~~88)=>`(by simp)
|`(~~~89)=>`(n.getD 1 0)
|`(~~~90)=>`(t.rows.getD i [])
|`(~~~91)=>`(Mi.aG m (~~~66))
|`(~~~92)=>`(rZ (h1.ext s1.extBut D.i1z) (vM.ext s1.extBut D.l1z) hx λg2 n1 s2=>wpAny_pure ?_)
|`(~~~93)=>`(x==("__debug__":Str))
|`(~~~94)=>`(List Int)
|`(~~~95)=>`(fc K (pv 0))
local macro_rules
|`(~~~96)=>`(λq'=>hc (by simp[q']))
|`(~~~97)=>`(λa x=>a+x.grades.getD k 0*(x.amount:Rat))
|`(~~~98)=>`(λj=>(if j=c then d*T i c else T i j*T r c-T i c*T r j)*Bm M (put b c r) j x)
|`(~~~99)=>`(s1.trans s2)
|`(~~~100)=>`(s.heap.push {cls:=.type "dict",data:=.dict #[]})
|`(~~~101)=>`(l.getD i gO)
|`(~~~102)=>`(λi σ H' _ p=>p.1)
|`(~~~103)=>`(Mi.cut pl.lots kn)
local macro_rules
|`(~~~104)=>`(Addr×Obj)
|`(~~~105)=>`(show false=true from hs)
|`(~~~106)=>`(by walk_at "u")
|`(~~~107)=>`(ae (pv 1) aj)
|`(~~~108)=>`(6+l.length+fx fixed)
|`(~~~109)=>`(.ref s.heap.objs.size)
|`(~~~110)=>`(show false=true from p)
|`(~~~111)=>`(Y.off _ (by unfold YA.own;simp))
local macro_rules
|`(~~~112)=>`(upd H s.heap.objs.size (.tup [x,y]))
|`(~~~113)=>`((~~~66).toNat -1)
|`(~~~114)=>`(eZ I q (~~~88))
|`(~~~115)=>`(backTo pos (starEach es X.env))
|`(~~~116)=>`(a9 cX (~~~61) rfl (ae (fc K (pv 2)) aj))
|`(~~~117)=>`(s2.trans (s3.trans s4))
|`(~~~118)=>`(ax l.length)
|`(~~~119)=>`(upd H s.heap.objs.size (.tup [xs[i]'(~~~62),ys[i]'(~~~62)]))
local macro_rules
|`(~~~120)=>`(ae (pv 2) aj)
|`(~~~121)=>`(.inl ⟨rfl,rfl⟩)
|`(~~~122)=>`(.Call (.Name x p) (e::es) [] pos)
|`(~~~123)=>`(cR (iH K) rfl T.len bP (ae (pv 0) aj))
|`(~~~124)=>`(s.heap.push {cls:=.type "range",data:=.fields #[.int lo t,.int hi u,.int 1 v]})
|`(~~~125)=>`(Mi.l0 m.want m.sources x)
|`(~~~126)=>`(A.under (.builtin "type.__call__" ⟨.ref C::us,kw⟩))
|`(~~~127)=>`(r.num*((s.den/bR r.den s.den:Nat):Int)+s.num*((r.den/bR r.den s.den:Nat):Int))
local macro_rules
|`(~~~128)=>`((m.want.least.zip m.want.most).flatMap λp=>[((p.1:Nat):Int),((p.2:Nat):Int)])
|`(~~~129)=>`(λj=>if j<l.length then y j/tq l j else s)
|`(~~~130)=>`([(((~~~101).there :Nat):Int)]++alone l.length i (-((f_ (~~~101):Nat):Int)))
|`(~~~131)=>`(s.heap.push (o7 tp l))
|`(~~~132)=>`(l.map λs=>pD l k*((f_ s:Nat):Int)- (cy s).getD k 0)
|`(~~~133)=>`(l.getD j gO)
|`(~~~134)=>`(envOfC qual scope s.heap.objs.size f cd)
|`(~~~135)=>`(7+m.sources.length)
local macro_rules
|`(~~~136)=>`((h2.ext s1.extBut D.i2z).ext s2.extBut D.i12.symm)
|`(~~~137)=>`(λq'=>hb (by simp[q']))
|`(~~~138)=>`(getD_get 0 (by unfold Mi.cy Mi.iS;rw[ag,ag,(S.src z zm).len];exact k3))
|`(~~~139)=>`(R7==NameKind.free&&sc.kind== .function &&sc.names.lookup n==some .cell)
|`(~~~140)=>`(λa b=>if b>a then b else a)
|`(~~~141)=>`(Mi.putOn (~~~91) (Mi.eX kn (Mi.d3 g)))
|`(~~~142)=>`(.lst ((bT m.sources.length (0:Int)).map V.int))
|`(~~~143)=>`(λe=>Y.fresh fl (by rw[e];unfold YA.own;simp))
local macro_rules
|`(~~~144)=>`(s1.heap.objs.size+4)
|`(~~~145)=>`((oI.ext s1.extBut D.l2z).ext s2.extBut D.l2i1)
|`(~~~146)=>`(λi z v H' hz s' rr Q' kk=>?_)
|`(~~~147)=>`(l.map λs=>1000*s.grades.getD k 0- ((w.least.getD k 0:Nat):Rat))
|`(~~~148)=>`(ha pins s σ H _ I h)
|`(~~~149)=>`(backToKw pos (keywordEach [⟨some "default",c,kpos⟩] X.env))
|`(~~~150)=>`(l.map λs=>((w.most.getD k 0:Nat):Rat)-1000*s.grades.getD k 0)
|`(~~~151)=>`(fF (j:=0) (~~~62))
local macro_rules
|`(~~~152)=>`(Po _ (by unfold YA.own;simp))
|`(~~~153)=>`(Pn _ (by unfold YA.own;simp))
|`(~~~154)=>`(wpAny_field hz rfl (x:=.bool false) rfl ?_)
|`(~~~155)=>`(backToKw pos (keywordEach [⟨some "start",c,kpos⟩] X.env))
|`(~~~156)=>`(backToKw pos (keywordEach R6 env))
|`(~~~157)=>`((p.sources.zip m.sources).map λq=>q.1*((q.2.there:Nat):Rat))
|`(~~~158)=>`(gn x qual (oG st) (kS st) (ay st) .none kV doc pm an nu ct)
|`(~~~159)=>`(ee costs conds)
local macro_rules
|`(~~~160)=>`(sliceBounds (some (n:Int)) none (some 2) its.toArray.size)
|`(~~~161)=>`(.ins C dx fs)
|`(~~~162)=>`(jx (he pins s σ H _ I h) λv s1 ⟨x,H1,I1,r1,q1⟩=>?_)
|`(~~~163)=>`(λj=>(1000*gr l k j- (lo:Rat))*eh l y j)
|`(~~~164)=>`(bZ (ae aF aj))
|`(~~~165)=>`(λj=>((hi:Rat)-1000*gr l k j)*eh l y j)
|`(~~~166)=>`(λj=> - ((T r (j+1):Int):Rat)*Du.worth n M (b (j+1)) y)
|`(~~~167)=>`(λH' p s _ hp=>q H' _ s ⟨p,rfl,?_⟩)
local macro_rules
|`(~~~168)=>`(wpAny_field hz rfl (x:=.ref TI) rfl ?_)
|`(~~~169)=>`(i+1+(l.getD i 0).toNat)
|`(~~~170)=>`([(0:Int)]++alone l.length i (-((f_ (~~~101):Nat):Int)))
|`(~~~171)=>`(X.yl s3 H3 scope ce fp)
|`(~~~172)=>`(S.g _ zm.1 _ (by rw[Mi.getD_in 0 (~~~62)];exact bM _))
|`(~~~173)=>`(l.map λs=>((cy s).getD k 0).fdiv ((f_ s:Nat):Int)+1)
|`(~~~174)=>`(λj _=>by grind)
|`(~~~175)=>`(Xw p1 p2 s.heap l1 l2)
local macro_rules
|`(~~~176)=>`(Mi.jQ m.want m.sources x)
|`(~~~177)=>`(FX CX P w K mg base N qual scope f nu A outer s H E)
|`(~~~178)=>`(EP X pins σ Q)
|`(~~~179)=>`(A.deeper (envOfC qual scope s.heap.objs.size f nu))
|`(~~~180)=>`((n.drop 2).take 3)
|`(~~~181)=>`(λk g=>k*(g.den/bR k g.den))
|`(~~~182)=>`(l.map λs=>s.cost*((f_ s:Nat):Int))
|`(~~~183)=>`(bA (Mi.sV S.pos (S.src s hs)) S.le)
local macro_rules
|`(~~~184)=>`(ae (pv 0) (~~~107))
|`(~~~185)=>`(aD (bw (bZ (ae (iU T.wY rfl) aj))))
|`(~~~186)=>`(Str×Addr)
|`(~~~187)=>`(6+l.length+1)
|`(~~~188)=>`(1+costs.length+conds.length)
|`(~~~189)=>`(s3.trans (s4.trans (s5.trans s6)))
|`(~~~190)=>`(λ_ _ _ _ _=>(cK 3 nd))
|`(~~~191)=>`(s2.trans s3)
local macro_rules
|`(~~~192)=>`(λj hj=>h j (~~~62))
|`(~~~193)=>`(jH (QM K) (pv 1) (fh aF) (fh aF))
|`(~~~194)=>`(b∈X.ex\/X.E7.heap.objs.size<=b)
|`(~~~195)=>`(ae (fc K (pv 2)) aj)
|`(~~~196)=>`((moved.take i).foldl Mi.putOn pr)
|`(~~~197)=>`(bZ (ae aF (ae aF aj)))
|`(~~~198)=>`(Du.cF c t k)
|`(~~~199)=>`(hs.2 b (cT (aT (aX e) (I.ok.Ft x c Ui hc))))
local macro_rules
|`(~~~200)=>`(λk _=>by grind)
|`(~~~201)=>`(jx (~~~148) λv s1 ⟨x,H1,I1,r1,q1⟩=>?_)
|`(~~~202)=>`(h'.push {cls:=.type "list",data:=.seq #[]})
|`(~~~203)=>`(bW (~~~73) (~~~73))
|`(~~~204)=>`(Shared.heap ⟨hp,g,d,tk,os⟩)
|`(~~~205)=>`((~~~67).1.foldl putOn (aG m r))
|`(~~~206)=>`((x.map ofRat).getD i (whole 0))
|`(~~~207)=>`(wpAny_pure ?_)
local macro_rules
|`(~~~208)=>`(l.map V.int)
|`(~~~209)=>`(jq L M A B cs)
|`(~~~210)=>`(Mi.c9 m.sources 1++Mi.nB m.sources m.want)
|`(~~~211)=>`(.tup [.int (i:Nat),.ref s.heap.objs.size])
|`(~~~212)=>`(wpAny_bind (wpAny_onRaise ?_))
|`(~~~213)=>`(wpAny_bind (wpAny_holding ?_))
|`(~~~214)=>`(upd (upd H dx (.own x)) x (.ins C dx []))
|`(~~~215)=>`(putOn (aG m p) (eX n.toNat (d3 [a,b,c])))
local macro_rules
|`(~~~216)=>`(if k=f then(k,v)::r else(k,x)::tE f v r)
|`(~~~217)=>`(fF (j:=1) (~~~62))
|`(~~~218)=>`(bE.refl _)
|`(~~~219)=>`(Mi.eu (Mi.qj Mi.firstM pre) p nums rows)
|`(~~~220)=>`(EZ K 2 (cJ (cK 5 nd) (cJ (cK 6 nd) gI)))
|`(~~~221)=>`(.Tuple elts kk wy)
|`(~~~222)=>`(s3.trans s4)
|`(~~~223)=>`(F.args_zip_next_1 _)
local macro_rules
|`(~~~224)=>`(λ_ _ _ _ _=>(cK 8 nd))
|`(~~~225)=>`(λ_ _ _ _ _=>(cK 4 nd))
|`(~~~226)=>`(s5.trans (s6.trans s7))
|`(~~~227)=>`(s3.trans (s4.trans s5))
|`(~~~228)=>`(cD (rg K) (pv 5) aF (~~~74))
|`(~~~229)=>`(cD (rg K) (pv 4) aF (~~~74))
|`(~~~230)=>`(cD (rg K) (pv 3) aF (~~~74))
|`(~~~231)=>`(Str×NameKind)
local macro_rules
|`(~~~232)=>`((cy s).getD k 0)
|`(~~~233)=>`((ax n).map λi=>ofRat (y i))
|`(~~~234)=>`(λi z x H' hz s r Q' k=>?_)
|`(~~~235)=>`(upd H4 D (.lst (acc++[y])))
|`(~~~236)=>`(upd H2 D (.lst []))
|`(~~~237)=>`(t.rows.zip t.inUse)
|`(~~~238)=>`(s.tab.take (n+1))
|`(~~~239)=>`(l.map λs=>(cy s).getD k 0)
local macro_rules
|`(~~~240)=>`(g*1000- ((w.least.getD i 0:Nat):Rat))
|`(~~~241)=>`(ae (pv 4) aj)
|`(~~~242)=>`(I1.iA.fresh (aM _))
|`(~~~243)=>`(2*m.sources.length)
|`(~~~244)=>`((~~~89).toNat -1)
|`(~~~245)=>`(Obj.mapSeq (λ_=>(#[]:Array Value)))
|`(~~~246)=>`(vs.toArray.toList.map toV)
|`(~~~247)=>`(a9 fg (~~~61) rfl (~~~69))
local macro_rules
|`(~~~248)=>`(.tup [.int ((i:Nat)+c),x])
|`(~~~249)=>`(hs.2 b (cT (aT (aX e) I.ok.above)))
|`(~~~250)=>`(aD (bw (bZ (ae (iU T.vD rfl) aj))))
|`(~~~251)=>`(aD (bw (bZ (ae (iU T.rL rfl) aj))))
|`(~~~252)=>`(Nat×(List Rat×Nat))
|`(~~~253)=>`((p:Int)::nums)
|`(~~~254)=>`(((w.most.getD i 0:Nat):Rat)-g*1000)
|`(~~~255)=>`(l.map bV.sp)
local macro_rules
|`(~~~256)=>`(fc K (pv 3))
|`(~~~257)=>`(by simpa using hu)
|`(~~~258)=>`(by simpa using hi)
|`(~~~259)=>`(.ref h'.objs.size)
|`(~~~260)=>`((Mi.iS sr).take i)
|`(~~~261)=>`(λx=>x/ (~~~90).getD j 0)
|`(~~~262)=>`(wpAny_seqItems rT rfl ?_)
|`(~~~263)=>`(show 1<=n.toNat by omega)
local macro_rules
|`(~~~264)=>`(l.take (i+1))
|`(~~~265)=>`(ha pos pins s σ H _ I h)
|`(~~~266)=>`(getD_mem (by rw[S.rows];exact hi))
|`(~~~267)=>`(ae (pv 2) (ae (pv 3) aj))
|`(~~~268)=>`(.ref y.ya)
|`(~~~269)=>`(tryCatch (pyNext (.ref I)) _>>=_)
|`(~~~270)=>`(l.getD (cz l i j) 0)
|`(~~~271)=>`(by grind)
local macro_rules
|`(~~~272)=>`(assignEach es X.env)
|`(~~~273)=>`(Mi.jX Mi.firstM pre)
|`(~~~274)=>`(Value.ref l==Value.none)
|`(~~~275)=>`(λb o hb e=>(sb.2 b hb).trans e)
|`(~~~276)=>`(l.take i)
|`(~~~277)=>`(cR (iH K) rfl T.len bP (~~~195))
|`(~~~278)=>`(cR (iH K) rfl T.len bP (~~~107))
|`(~~~279)=>`(cD (o9 K) (pv 1) (pv 3) (~~~74))
local macro_rules
|`(~~~280)=>`(λ_ _ _ _ _=>(cK 1 nd))
|`(~~~281)=>`(qX K (pv 0) (fh aF) aF)
|`(~~~282)=>`(cF c t k)
|`(~~~283)=>`(c.length+1)
|`(~~~284)=>`(ae (pv 0) (~~~120))
|`(~~~285)=>`(VbmiakNeutral.step s c)
|`(~~~286)=>`(Mi.jc m.want m.sources)
|`(~~~287)=>`(K w.params)
local macro_rules
|`(~~~288)=>`(.inl rfl)
|`(~~~289)=>`(λv H2=>v=.jL /\Q (.ref x) H2)
|`(~~~290)=>`(upd H1 h'.objs.size (.lst []))
|`(~~~291)=>`(gz X.env.cells scope.names [])
|`(~~~292)=>`(v9 K (pv 0))
|`(~~~293)=>`(gK C s.heap.objs.size)
|`(~~~294)=>`(.ins C dx (tE f y fs))
|`(~~~295)=>`(λk hk=>?_)
local macro_rules
|`(~~~296)=>`(t.wishes.map λw=>w.getD j 0)
|`(~~~297)=>`(mM (n:=1000) (~~~73) (~~~73))
|`(~~~298)=>`(Str×Value)
|`(~~~299)=>`(S.src s hs)
|`(~~~300)=>`(I.ok.hd hc)
|`(~~~301)=>`(λz=>hb (by simp[z]))
|`(~~~302)=>`(λH5 ys s5 U' pr=>?_)
|`(~~~303)=>`(λH2 ys s2 hL pr=>?_)
local macro_rules
|`(~~~304)=>`(wpAny_letGo (~~~207))
|`(~~~305)=>`(s2.extBut _ _ D.i1z.symm z1)
|`(~~~306)=>`(kk _ H' (~~~218) λ_ _=>rfl)
|`(~~~307)=>`(ho pins s σ H _ I h)
|`(~~~308)=>`(he pins s σ H _ I h)
|`(~~~309)=>`(field (.ref z) 3>>=_)
|`(~~~310)=>`(field (.ref z) 2>>=_)
|`(~~~311)=>`(ae (pv 0) aj)
local macro_rules
|`(~~~312)=>`(((p.kind:Nat):Int)=1)
|`(~~~313)=>`(((p.kind:Nat):Int)=0)
|`(~~~314)=>`(λq=>nomatch q)
|`(~~~315)=>`(s.heap.push eV)
|`(~~~316)=>`(fc K (pv 4))
|`(~~~317)=>`(by simpa using h)
|`(~~~318)=>`(bR x.den y.den)
|`(~~~319)=>`(a9 fL (~~~61) rfl (~~~107))
local macro_rules
|`(~~~320)=>`(.lst xs)
|`(~~~321)=>`(.Name x pos)
|`(~~~322)=>`(.Name "zip" p')
local macro_rules
|`(tactic|exists 0)=>`(tactic|(walk_at "run"))
|`(tactic|exists 1)=>`(tactic|(intro X hP hw hK hc i pins s σ H E I hf st hg;subst hP hw hK))
|`(tactic|exists 2)=>`(tactic|(exists ⟨rfl,?_⟩))
|`(tactic|exists 3)=>`(tactic|(exact Y.off b (by unfold YA.own;simp[e])))
|`(tactic|exists 4)=>`(tactic|(injection h with h;injection h with a b))
|`(tactic|exists 5)=>`(tactic|(show wpAny _ _ (~~~310) _ _ _;refine wpAny_bind (~~~154);show wpAny _ _ (~~~309) _ _ _;refine wpAny_bind (~~~168);refine wpAny_bind (~~~262);show wpAny _ _ (aW (.ref z)>>=_) _ _ _))
|`(tactic|exists 6)=>`(tactic|(simp only[Mi.cx,aP,aR,az,aV,bu,bO,id,Mi.d6,bF,bH,wi,ip,bB,aC] at w))
|`(tactic|exists 7)=>`(tactic|(unfold eu d9 gu;simp only[cx,rowsOf,aP,aR,az,aV,bu,bO,id,d6,bF,bH,wi,bB]))
local macro_rules
|`(tactic|exists 8)=>`(tactic|(obtain⟨O,y,m,u,n,rfl,_⟩:=h;rfl))
|`(tactic|exists 9)=>`(tactic|(refine codeAny_builtin F.entry_max_loop ?_;rw[Around.under_plainId F.plain_max_loop _];show wpAny _ A.in1 (seqItems? (.ref S)>>=_) _ _ s;refine wpAny_bind (wpAny_seqItems hS rfl ?_);show wpAny _ A.in1 (~~~269) _ _ s))
|`(tactic|exists 10)=>`(tactic|(intro pins s σ H Q I h))
|`(tactic|exists 11)=>`(tactic|(intro pins s σ H x y v u Q I rx ry h))
|`(tactic|exists 12)=>`(tactic|(injection e with e1 e2;injection e2 with e2 e3;subst e2))
|`(tactic|exists 13)=>`(tactic|(exists gY us (~~~151) ?_;exists ⟨O,y,m,_,a,rfl,Y,ip,ha,?_⟩))
|`(tactic|exists 14)=>`(tactic|(exists xF T rr λmv hm=>?_;exists l9 hm (k:=k) (x:=(Mi.cy z).getD k 0) (~~~138) λw1 e=>?_;have e:w1=.int ((Mi.cy z).getD k 0):=e;subst e))
|`(tactic|exists 15)=>`(tactic|(simp only[cx,aP,aR,az,aV,bu,bO,id,d6,bF,bH,wi,ip,bB,aC] at w))
local macro_rules
|`(tactic|exists 16)=>`(tactic|(obtain⟨its,rv,Xd,_⟩:=f6 I1 Kz;obtain⟨o8,NU,EX,_⟩:=f6 I1 KA;have la:a<s1.heap.objs.size:=Xd.lt;have lb:b<s1.heap.objs.size:=EX.lt))
|`(tactic|exists 17)=>`(tactic|(have e:(2:Nat)^64=18446744073709551616:=by decide))
|`(tactic|exists 18)=>`(tactic|(exists bY (by show 1<=sizeLine;decide) λH2 p2 s2 n2 h2=>q H2 y p2 (Y.up (~~~99)) rfl h2))
|`(tactic|exists 19)=>`(tactic|(simp only[bG.injEq,Prod.mk.injEq] at h;obtain⟨rfl,rfl,rfl⟩:=h))
|`(tactic|exists 20)=>`(tactic|(obtain⟨Tt,x1,x2,rfl,hT,r1,r2⟩:=rr))
|`(tactic|exists 21)=>`(tactic|(rw[if_neg (~~~62),if_neg (~~~62)]))
|`(tactic|exists 22)=>`(tactic|(obtain⟨f0,f1,f2,f3,f4,f5⟩:=hf it (~~~88)))
|`(tactic|exists 23)=>`(tactic|(obtain⟨ua,rfl,us⟩:=dH hu))
local macro_rules
|`(tactic|exists 24)=>`(tactic|(exists qP hT rfl ?_;exists 2))
|`(tactic|exists 25)=>`(tactic|(have hT:s.TypeIs (.ref z) "zip":=let⟨⟨_,_,hz,_⟩,_⟩:=st;⟨_,hz,rfl⟩))
|`(tactic|exists 26)=>`(tactic|(exists bY (by show 0<=sizeLine;exact cj _) λH1 ca s1 nc h1=>?_;exists ot ?_))
|`(tactic|exists 27)=>`(tactic|(exists bY (by show 1<=sizeLine;decide) λH4 p4 s4 n4 h4=>?_))
|`(tactic|exists 28)=>`(tactic|(exists bY (by show 1<=sizeLine;decide) λH1 p1 s1 n1 h1=>?_))
|`(tactic|exists 29)=>`(tactic|(rw[if_pos (~~~62)] at q;exists bY (by show 1<=sizeLine;decide) λH1 p1 s1 n1 h1=>q H1 y p1 (Y.up s1) rfl h1))
|`(tactic|exists 30)=>`(tactic|(apply bq;intro j hj;rw[jA,dD,lN (by rw[gl j hj];exact hk)];unfold eh tq gr))
|`(tactic|exists 31)=>`(tactic|(refine⟨?_,_,_,rfl,by decide⟩))
local macro_rules
|`(tactic|exists 32)=>`(tactic|(have e1:(aG m p).sp.lots =(aG m p).lots.map bV.sp:=rfl))
|`(tactic|exists 33)=>`(tactic|(unfold eu d9 gu;simp only[Fc,Ke,Kf,cx,rowsOf,aP,aR,az,aV,bu,bO,id,bB,if_true];rw[if_neg (~~~73)]))
|`(tactic|exists 34)=>`(tactic|(exists dJ T Y ?_;exists ⟨_,_,D,rfl,mD Y,S,λH1 pv s1 hp=>?_⟩;obtain⟨ga,yz,rfl,gs,gp⟩:=hp))
|`(tactic|exists 35)=>`(tactic|(obtain⟨s,hs,rfl⟩:=aS.mp hx))
|`(tactic|exists 36)=>`(tactic|(obtain⟨its,rv,p,_⟩:=f6 I Kz;obtain⟨o8,NU,EX,_⟩:=f6 I KA))
|`(tactic|exists 37)=>`(tactic|(exists bY (by show 1<=sizeLine;decide) λH2 p2 s2 n2 h2=>?_))
|`(tactic|exists 38)=>`(tactic|(exists ub (λc=>?_) λc=>?_))
|`(tactic|exists 39)=>`(tactic|(exact⟨[],trivial,λa m=>absurd m (~~~88)⟩))
local macro_rules
|`(tactic|exists 40)=>`(tactic|(intro pins s σ H D I h))
|`(tactic|exists 41)=>`(tactic|(have e:=Y0;have Xp:=Hu S.pos;have Xe:XB D=2^45*D:=rfl))
|`(tactic|exists 42)=>`(tactic|(exists 23;obtain⟨D,LO,yb,PO⟩:=Bv B ip;obtain⟨a,l,ha,hl,hp⟩:=wD Y ip))
|`(tactic|exists 43)=>`(tactic|(exists ⟨.inl ⟨rfl,_,dz.of nz⟩,?_⟩))
|`(tactic|exists 44)=>`(tactic|(exists qP hT rfl ?_;rw[rf.2,show((i:Nat):Int)+0=((i:Nat):Int) by omega]))
|`(tactic|exists 45)=>`(tactic|(obtain⟨hp,g,d,tk,os⟩:=s;obtain⟨hl,h⟩:=h;have Vi:=sub_enumerate))
|`(tactic|exists 46)=>`(tactic|(refine wpAny_bind ?_))
|`(tactic|exists 47)=>`(tactic|(exact⟨D,h.later⟩))
local macro_rules
|`(tactic|exists 48)=>`(tactic|(obtain⟨t,rfl⟩:=rx))
|`(tactic|exists 49)=>`(tactic|(have e:=Y0;have Xe:XB D=2^45*D:=rfl;refine⟨λx hx=>?_,λx hx=>?_⟩))
|`(tactic|exists 50)=>`(tactic|(have I2:Inv X pins σ H1 {s1 with heap:=h'}:=I1.kept (t':=s1.toks) hk))
|`(tactic|exists 51)=>`(tactic|(unfold within at this;rw[aC,decide_eq_true_iff] at this;exact this.1))
|`(tactic|exists 52)=>`(tactic|(have hz:z=.jL :=hz;subst hz;rw[rO];refine kG ?_))
|`(tactic|exists 53)=>`(tactic|(intro pins s σ H R I h))
|`(tactic|exists 54)=>`(tactic|(exists 7;rw[show within p 1 (m.piles.length:Int)=cC m p from rfl]))
|`(tactic|exists 55)=>`(tactic|(obtain⟨ga,yz,rfl,gs,gp⟩:=hl))
local macro_rules
|`(tactic|exists 56)=>`(tactic|(show(match gL (~~~282).tab with|none=>none|some br=>_)=_;rw[h1]))
|`(tactic|exists 57)=>`(tactic|(have e:b=s1.heap.objs.size:=by simpa using hb))
|`(tactic|exists 58)=>`(tactic|(subst e;exact I1.BS (aM _) (~~~242)))
|`(tactic|exists 59)=>`(tactic|(obtain⟨z,its,n,r,hl,e⟩:=I.Jh hH))
|`(tactic|exists 60)=>`(tactic|(obtain⟨n1,n2⟩:=(fu _ _ _).mp hn))
|`(tactic|exists 61)=>`(tactic|(exists 19;refine⟨⟨r0,aH,O4,rfl⟩,λi' r' b' hm hp=>?_⟩))
|`(tactic|exists 62)=>`(tactic|(exists kk _ H' (~~~218) λ_ _=>rfl))
|`(tactic|exists 63)=>`(tactic|(exists bY (by show 1<=sizeLine;decide) λH7 p7 s7 n7 h7=>?_))
local macro_rules
|`(tactic|exists 64)=>`(tactic|(exists bY (by show 1<=sizeLine;decide) λH3 p3 s3 n3 h3=>?_))
|`(tactic|exists 65)=>`(tactic|(rw[kT (~~~62) (~~~62) (~~~62)];unfold unit))
|`(tactic|exists 66)=>`(tactic|(exact l1 _ (~~~73)))
|`(tactic|exists 67)=>`(tactic|(rw[if_neg (~~~62)] at q))
|`(tactic|exists 68)=>`(tactic|(rw[if_neg (~~~62),if_pos (~~~62)]))
|`(tactic|exists 69)=>`(tactic|(obtain⟨t,D,OK,ht⟩:=id B;have PO:=OK.pile _ (Mi.eP ip)))
|`(tactic|exists 70)=>`(tactic|(exact⟨t,by omega,by omega,a3⟩))
|`(tactic|exists 71)=>`(tactic|(subst e e2;obtain⟨z1,h1,r1⟩:=lO pa (y1 xs (iY s ha))))
local macro_rules
|`(tactic|exists 72)=>`(tactic|(obtain⟨o',e1⟩:=I.base.there b o e hx))
|`(tactic|exists 73)=>`(tactic|(have QL:bE H2 H5:=s3.trans (s4.trans s5)))
|`(tactic|exists 74)=>`(tactic|(have hx:x∈[c,d,e]:=hx;simp only[aB,bJ,or_false] at hx))
|`(tactic|exists 75)=>`(tactic|(exact⟨rfl,R⟩))
|`(tactic|exists 76)=>`(tactic|(show wpAny _ _ (bD (.ref i2)>>=_) _ _ _))
|`(tactic|exists 77)=>`(tactic|(show wpAny _ _ (bD (.ref i1)>>=_) _ _ _))
|`(tactic|exists 78)=>`(tactic|(refine⟨⟨r,aA _ h1,h2,h3⟩,λi' r' b' hm hp=>?_⟩))
|`(tactic|exists 79)=>`(tactic|(exists 10;refine wpAny_Call_Name_kw (AQ I hg hm ?_ LG)))
local macro_rules
|`(tactic|exists 80)=>`(tactic|(obtain⟨tv,h1,p1⟩:=w.tk;obtain⟨lv,h2,p2⟩:=w.lf))
|`(tactic|exists 81)=>`(tactic|(obtain⟨t,rfl⟩:=r))
|`(tactic|exists 82)=>`(tactic|(intro pins s σ H vs us Q I r h))
|`(tactic|exists 83)=>`(tactic|(simp only[if_true];refine wpAny_bind (wpAny_rule ?_)))
|`(tactic|exists 84)=>`(tactic|(refine q H7 p7 (DV.trans s7) (DV.free n7) ?_;rw[h7]))
|`(tactic|exists 85)=>`(tactic|(refine lC ?_))
|`(tactic|exists 86)=>`(tactic|(obtain⟨u,hu,ru⟩:=rv.get hx))
|`(tactic|exists 87)=>`(tactic|(intro i h1 h2;have hi:i<l.length:=by simpa using h2))
local macro_rules
|`(tactic|exists 88)=>`(tactic|(apply aQ;intro k hk;have hk:=bK.mp hk))
|`(tactic|exists 89)=>`(tactic|(exists ⟨?_,_,_,by rw[ct,st];rfl⟩))
|`(tactic|exists 90)=>`(tactic|(have zm:=cE (aw hz);exists 24))
|`(tactic|exists 91)=>`(tactic|(exists 35;obtain⟨h0,h1⟩:=nF S.pos (~~~299) hk))
|`(tactic|exists 92)=>`(tactic|(exact Y.lp b (by simp[e])))
|`(tactic|exists 93)=>`(tactic|(obtain⟨its,rv,hl,_⟩:=I.list hs;rw[Vals.VQ r]))
|`(tactic|exists 94)=>`(tactic|(have wH:bE H1 H4:=s2.trans (~~~222)))
|`(tactic|exists 95)=>`(tactic|(obtain⟨z,hz,e⟩:=aS.mp hy))
local macro_rules
|`(tactic|exists 96)=>`(tactic|(intro x hx;obtain⟨s,hs,e⟩:=aS.mp hx;rw[<-e]))
|`(tactic|exists 97)=>`(tactic|(simp only[h,cZ,if_false]))
|`(tactic|exists 98)=>`(tactic|(obtain⟨dy,pm,tm,h,p1,p2⟩:=Y.yd))
|`(tactic|exists 99)=>`(tactic|(have e:kK.cells.lookup y=some c:=e))
|`(tactic|exists 100)=>`(tactic|(exists jR (K:=K) (mC _ _) (~~~167)))
|`(tactic|exists 101)=>`(tactic|(exists 12;subst e3;exact Or.inr ⟨rfl,aM _⟩))
|`(tactic|exists 102)=>`(tactic|(unfold Gg at e;simp only[aB,bJ,or_false] at e))
|`(tactic|exists 103)=>`(tactic|(refine kG ?_))
local macro_rules
|`(tactic|exists 104)=>`(tactic|(obtain⟨p,dx,us,rfl,hl,_⟩:=h;rw[aL,hl];rfl))
|`(tactic|exists 105)=>`(tactic|(exists ⟨_,rfl,?_⟩))
|`(tactic|exists 106)=>`(tactic|(exists 2;exists 0))
|`(tactic|exists 107)=>`(tactic|(exact Or.inl (~~~271)))
|`(tactic|exists 108)=>`(tactic|(rw[show tE f v ((k,x)::r)=(~~~216) from rfl]))
|`(tactic|exists 109)=>`(tactic|(obtain⟨sl,e1⟩:=I.base.slot b o e n hb hx))
|`(tactic|exists 110)=>`(tactic|(unfold unit;rw[if_pos rfl];grind))
|`(tactic|exists 111)=>`(tactic|(obtain⟨v,u,x,y,rfl,_⟩:=h;rfl))
local macro_rules
|`(tactic|exists 112)=>`(tactic|(obtain⟨l,b,xs,zs,rfl,rfl,hH,hB,hz,q⟩:=h))
|`(tactic|exists 113)=>`(tactic|(exists 48;obtain⟨t',rfl⟩:=ry))
|`(tactic|exists 114)=>`(tactic|(rw[if_neg (by rw[c2];simp)] at q;exists 85))
|`(tactic|exists 115)=>`(tactic|(rw[if_neg (by rw[c1];simp)] at q;exists 85))
|`(tactic|exists 116)=>`(tactic|(have:(d:Rat)≠0:=by grind))
|`(tactic|exists 117)=>`(tactic|(have kl:=sV S.pos (~~~299)))
|`(tactic|exists 118)=>`(tactic|(obtain⟨ga,yz,rfl,gs,gp⟩:=hv))
|`(tactic|exists 119)=>`(tactic|(intro pins s σ H xs us Q I r h))
local macro_rules
|`(tactic|exists 120)=>`(tactic|(apply aQ;intro j hj))
|`(tactic|exists 121)=>`(tactic|(simp only[au,aL,du];omega))
|`(tactic|exists 122)=>`(tactic|(rw[this];show(0:Rat)+_=_;grind))
|`(tactic|exists 123)=>`(tactic|(rw[rf.1] at this;exact(bG.inj this).symm))
|`(tactic|exists 124)=>`(tactic|(obtain⟨v,u,x,y,rfl,hx,hy,bx,QD,q⟩:=h))
|`(tactic|exists 125)=>`(tactic|(obtain⟨_,lvs,ls,lp⟩:=id hp))
|`(tactic|exists 126)=>`(tactic|(have e:b=it:=by simpa using hb))
|`(tactic|exists 127)=>`(tactic|(obtain⟨⟨dx2,F'⟩,W_,oI,_⟩:=id h3))
local macro_rules
|`(tactic|exists 128)=>`(tactic|(obtain⟨a2,l2,h1,h2,h3⟩:=Y.HI j q hq))
|`(tactic|exists 129)=>`(tactic|(intro pins s σ H x vs v us Q I rx rv h))
|`(tactic|exists 130)=>`(tactic|(have nz:=sx _ _ wF;have KG:=aU og pv sx))
|`(tactic|exists 131)=>`(tactic|(obtain⟨a,dx,g,rfl,h,_⟩:=r))
|`(tactic|exists 132)=>`(tactic|(rw[if_neg n0,az];unfold Vbmiak.takeOff))
|`(tactic|exists 133)=>`(tactic|(have rr:x=.int z:=rr;subst rr;exists 2))
|`(tactic|exists 134)=>`(tactic|(exists gY us (~~~217) ?_))
|`(tactic|exists 135)=>`(tactic|(exists e_ T hp ?_))
local macro_rules
|`(tactic|exists 136)=>`(tactic|(exists ⟨1,rfl,?_⟩))
|`(tactic|exists 137)=>`(tactic|(rw[Mi.getD_in Mi.VT pin];exact ah pin))
|`(tactic|exists 138)=>`(tactic|(obtain⟨va,rfl,MH⟩:=dH hv))
|`(tactic|exists 139)=>`(tactic|(obtain⟨v,l,rfl,_⟩:=h;rfl))
|`(tactic|exists 140)=>`(tactic|(obtain⟨D,S,W⟩:=B.sd;have n6:=S.n6))
|`(tactic|exists 141)=>`(tactic|(have l1:=rv.length;have l2:=NU.length))
|`(tactic|exists 142)=>`(tactic|(exists 0;have zm:=cE (aw hz)))
namespace Bl
def sumTo:Nat->(Nat->Rat)->Rat
 |0,_=>0
 |n+1,f=>sumTo n f+f n
theorem bq:∀{n:Nat} {f g:Nat->Rat},(∀j,j<n->f j=g j)->sumTo n f=sumTo n g
 |0,_,_,_=>rfl
 |n+1,f,g,h=>by
  show sumTo n f+f n=sumTo n g+g n;rw[bq (~~~192),h n (~~~62)]
theorem mX (f g:Nat->Rat):∀n:Nat,sumTo n (λj=>f j+g j)=sumTo n f+sumTo n g
 |0=>by simp only[sumTo];grind
 |n+1=>by simp only[sumTo];rw[mX f g n];grind
theorem dk (c:Rat) (f:Nat->Rat):∀n:Nat,sumTo n (λj=>c*f j)=c*sumTo n f
 |0=>by simp only[sumTo];grind
 |n+1=>by simp only[sumTo];rw[dk c f n];grind
theorem j9:∀{n:Nat} {f:Nat->Rat},(∀j,j<n->f j=0)->sumTo n f=0
 |0,_,_=>rfl
 |n+1,f,h=>by
  simp only[sumTo];rw[j9 (~~~192),h n (~~~62)];grind
theorem fR:∀{n:Nat} {f:Nat->Rat} {p:Nat},p<n->(∀j,j<n->j≠p->f j=0)->sumTo n f=f p
 |0,_,_,hp,_=>by omega
 |n+1,f,p,hp,h=>by
  simp only[sumTo];by_cases e:p=n
  .subst e;rw[j9 (λj hj=>h j (~~~62) (~~~62))];grind
  .rw[fR (p:=p) (~~~62) (λj hj jE=>h j (~~~62) jE),h n (~~~62) (~~~62)];grind
theorem Fb {n:Nat} {f:Nat->Rat} {p s:Nat} (hp:p<n) (hs:s<n) (jE:p≠s)
  (h:∀j,j<n->j≠p->j≠s->f j=0):sumTo n f=f p+f s:=by
 have e:sumTo n f=sumTo n (λj=>(if j=p then f p else 0)+(if j=p then 0 else f j)):=by
  apply bq;intro j hj;by_cases h1:j=p
  .subst h1;simp only[if_true];grind
  .simp only[h1,if_false];grind
 rw[e,mX,fR (p:=p) hp (by intro j hj hn;simp only[hn,if_false]),
  fR (p:=s) hs (by
   intro j hj hn;by_cases h1:j=p
   .simp only[h1,if_true]
   .simp only[h1,if_false];exact h j hj h1 hn)]
 simp only[if_true,Ne.symm jE,if_false]
theorem oM:∀{n:Nat} {f:Nat->Rat},(∀j,j<n->0<=f j)->0<=sumTo n f
 |0,_,_=>by simp only[sumTo];grind
 |n+1,f,h=>by
  simp only[sumTo];have:=oM (n:=n) (f:=f) (~~~192);have:=h n (~~~62);grind
def dM:Nat->(Nat->Rat)->Prop
 |0,_=>False
 |K+1,v=>v 0<0\/(v 0=0/\dM K (λk=>v (k+1)))
def fV (K:Nat) (v:Nat->Rat):Prop:=dM K v\/∀k,k<K->v k=0
theorem ei:∀{K:Nat} {u v:Nat->Rat},(∀k,k<K->u k=v k)->dM K u->dM K v
 |0,_,_,_,h=>h
 |K+1,u,v,e,h=>by
  have e0:=e 0 (~~~62);rcases h with h|⟨h0,h1⟩
  .exact Or.inl (e0▸h)
  .exact Or.inr ⟨e0▸h0,ei (λk hk=>e (k+1) (~~~62)) h1⟩
theorem d_ {K:Nat} {u v:Nat->Rat} (e:∀k,k<K->u k=v k) (h:fV K u):fV K v:=by
 rcases h with h|h
 .exact Or.inl (ei e h)
 .exact Or.inr λk hk=>(e k hk)▸h k hk
theorem fW:∀{K:Nat} {u:Nat->Rat},dM K u->¬(∀k,k<K->u k=0)
 |0,_,h,_=>h
 |K+1,u,h,z=>by
  have z0:=z 0 (~~~62);rcases h with h|⟨_,h1⟩
  .grind
  .exact fW h1 (λk hk=>z (k+1) (~~~62))
theorem pd:∀{K:Nat} {u v:Nat->Rat},dM K u->dM K v->dM K (λk=>u k+v k)
 |0,_,_,h,_=>h
 |K+1,u,v,h,h'=>by
  rcases h with h|⟨h0,h1⟩<;>rcases h' with h'|⟨h0',Ur⟩
  .exists 107
  .exists 107
  .exists 107
  .exact Or.inr ⟨by grind,pd h1 Ur⟩
theorem o_ {K:Nat} {u v:Nat->Rat} (h:dM K u) (h':fV K v):dM K (λk=>u k+v k):=by
 rcases h' with h'|h'
 .exact pd h h'
 .exact ei (λk hk=>by rw[h' k hk];grind) h
theorem yC {K:Nat} {u v:Nat->Rat} (h:fV K u) (h':fV K v):fV K (λk=>u k+v k):=by
 rcases h with h|h
 .exact Or.inl (o_ h h')
 .exact d_ (λk hk=>by rw[h k hk];grind) h'
theorem qR:∀{K:Nat} {v:Nat->Rat},¬dM K v->fV K (λk=> -v k)
 |0,_,_=>Or.inr (λk hk=>by omega)
 |K+1,v,h=>by
  have h0:¬v 0<0:=λz=>h (Or.inl z);by_cases z:v 0=0
  .have h1:¬dM K (λk=>v (k+1)):=λy=>h (Or.inr ⟨z,y⟩);rcases qR h1 with y|y
   .exact Or.inl (Or.inr ⟨by grind,y⟩)
   .refine Or.inr λk hk=>?_;cases k with
    |zero=>grind
    |succ k=>exact y k (~~~62)
  .exact Or.inl (Or.inl (~~~271))
theorem lex_asymm {K:Nat} {v:Nat->Rat} (h:dM K v):¬fV K (λk=> -v k):=by
 intro h';have:=o_ h h';exact fW this (λk hk=>by grind)
theorem iL:∀{K:Nat} {v:Nat->Rat} {d:Rat},0<d->dM K v->dM K (λk=>d*v k)
 |0,_,_,_,h=>h
 |K+1,v,d,hd,h=>by
  rcases h with h|⟨h0,h1⟩
  .refine Or.inl ?_;have:=Rat.mul_lt_mul_of_pos_left h hd;show d*v 0<0;grind
  .exact Or.inr ⟨by show d*v 0=0;rw[h0];grind,iL hd h1⟩
theorem AS {K:Nat} {f:Nat->Nat->Rat}:∀{n:Nat},(∀j,j<n->fV K (λk=> -f j k))->
  fV K (λk=> -sumTo n (λj=>f j k))
 |0,_=>Or.inr (λk hk=>by simp only[sumTo];grind)
 |n+1,h=>by
  have h1:=AS (n:=n) (~~~192);have h2:=h n (~~~62);exact d_ (λk hk=>by simp only[sumTo];grind) (yC h1 h2)
theorem Vo {K n:Nat} {f:Nat->Nat->Rat} (h:dM K (λk=>sumTo n (λj=>f j k))):
  ∃j,j<n/\dM K (f j):=by
 apply aK;intro hn;have:∀j,j<n->fV K (λk=> -f j k):=by
  intro j hj;exact qR (λy=>hn ⟨j,hj,y⟩)
 exact lex_asymm h (AS this)
structure Tab where
 a:Nat->Nat->Rat
 c:Nat->Nat->Rat
 be:Nat->Nat
def Dj (T:Tab) (r p:Nat):Tab where
 a:=λi j=>if i=r then T.a r j/T.a r p else T.a i j-T.a i p*(T.a r j/T.a r p)
 c:=λk j=>T.c k j-T.c k p*(T.a r j/T.a r p)
 be:=λi=>if i=r then p else T.be i
structure Canon (m n K:Nat) (T:Tab):Prop where
 lt:∀i,i<m->T.be i<n
 inj:∀i i',i<m->i'<m->T.be i=T.be i'->i=i'
 unit:∀i i',i<m->i'<m->T.a i (T.be i')=if i=i' then 1 else 0
 cost:∀k i,k<K->i<m->T.c k (T.be i)=0
 U8:∀i,i<m->0<=T.a i n
def kf (m:Nat) (T:Tab) (j:Nat):Prop:=∀i,i<m->T.be i≠j
structure Step (m n K:Nat) (T:Tab) (r p:Nat):Prop where
 rm:r<m
 pn:p<n
 pos:0<T.a r p
 neg:dM K (λk=>T.c k p)
 first:∀j,j<p->¬dM K (λk=>T.c k j)
 ratio:∀i,i<m->0<T.a i p->T.a r n/T.a r p<T.a i n/T.a i p\/
  (T.a r n/T.a r p=T.a i n/T.a i p/\T.be r<=T.be i)
variable {m n K:Nat} {T:Tab} {r p:Nat}
theorem Step.Vt (C:Canon m n K T) (S:Step m n K T r p):kf m T p:=by
 intro i hi e;exact fW S.neg (λk hk=>by rw[<-e];exact C.cost k i hk hi)
theorem ia {a b:Rat} (ha:0<=a) (hb:0<b):0<=a/b:=by
 rw[fT];exact bX ha (fJ (iE.mpr hb))
theorem Canon.Dj (C:Canon m n K T) (S:Step m n K T r p):Canon m n K (Dj T r p):=by
 have nb:=S.Vt C;have hp:=S.pos;have hr:=S.rm;have h0:T.a r p≠0:=by grind
 constructor
 .intro i hi;simp only[Bl.Dj];split
  .exact S.pn
  .exact C.lt i hi
 .intro i i' hi wG e;simp only[Bl.Dj] at e;split at e<;>split at e
  .omega
  .exact absurd e.symm (nb i' wG)
  .exact absurd e (nb i hi)
  .exact C.inj i i' hi wG e
 .intro i i' hi wG;simp only[Bl.Dj];by_cases e':i'=r
  .subst e';simp only[if_true];by_cases e:i=i'
   .simp only[e,if_true];grind
   .simp only[e,if_false];grind
  .simp only[e',if_false];have u:=C.unit r i' hr wG;rw[if_neg (λe=>e' e.symm)] at u;by_cases e:i=r
   .subst e;simp only[if_true];rw[u,if_neg (λz=>e' z.symm)];grind
   .simp only[e,if_false];rw[u,C.unit i i' hi wG];grind
 .intro k i hk hi;simp only[Bl.Dj];by_cases e:i=r
  .subst e;simp only[if_true];grind
  .simp only[e,if_false];have u:=C.unit r i hr hi;rw[if_neg (λz=>e z.symm)] at u;rw[u,C.cost k i hk hi];grind
 .intro i hi;simp only[Bl.Dj];have br:=C.U8 r hr;have bi:=C.U8 i hi;have th:=ia br hp;by_cases e:i=r
  .simp only[e,if_true];exact th
  .simp only[e,if_false];by_cases O4:0<T.a i p
   .have le:T.a r n/T.a r p<=T.a i n/T.a i p:=by
     rcases S.ratio i hi O4 with h|h
     .exact fJ h
     .exact h.1▸Rat.le_refl
    have:=Rat.mul_le_mul_of_nonneg_left le (fJ O4);have e2:T.a i p*(T.a i n/T.a i p)=T.a i n:=by grind
    grind
   .have:=Rat.mul_le_mul_of_nonneg_right (show T.a i p<=0 by grind) th;grind
def Ox (m n:Nat) (T:Tab) (X:Nat->Rat):Prop:=∀i,i<m->sumTo (n+1) (λj=>T.a i j*X j)=0
def obj (n:Nat) (T:Tab) (X:Nat->Rat) (k:Nat):Rat:=sumTo (n+1) (λj=>T.c k j*X j)
theorem uE (n:Nat) (f g:Nat->Rat) (s d:Rat) (X:Nat->Rat):
  sumTo n (λj=>(f j-s*(g j/d))*X j)=sumTo n (λj=>f j*X j)-s/d*sumTo n (λj=>g j*X j):=by
 have e:sumTo n (λj=>(f j-s*(g j/d))*X j)=sumTo n (λj=>f j*X j+(-(s/d))*(g j*X j)):=
  bq (~~~174)
 rw[e,mX,dk];grind
theorem NZ (n:Nat) (g:Nat->Rat) (d:Rat) (X:Nat->Rat):
  sumTo n (λj=>(g j/d)*X j)=1/d*sumTo n (λj=>g j*X j):=by
 rw[<-dk];exact bq (~~~174)
theorem V3 (hr:r<m) (h0:T.a r p≠0) {X:Nat->Rat}:Ox m n (Dj T r p) X↔Ox m n T X:=by
 constructor
 .intro h i hi;have h1:=h r hr;simp only[Dj,if_true] at h1;rw[NZ] at h1;have h2:sumTo (n+1) (λj=>T.a r j*X j)=0:=by grind
  by_cases e:i=r
  .rw[e];exact h2
  .have h3:=h i hi;simp only[Dj,e,if_false] at h3;rw[uE,h2] at h3;grind
 .intro h i hi;simp only[Dj];by_cases e:i=r
  .simp only[e,if_true];rw[NZ,h r hr];grind
  .simp only[e,if_false];rw[uE,h r hr,h i hi];grind
theorem Vv (hr:r<m) {X:Nat->Rat} (h:Ox m n T X) (k:Nat):obj n (Dj T r p) X k=obj n T X k:=by
 simp only[obj,Dj];rw[uE,h r hr];grind
structure Z0 (m n:Nat) (T:Tab) (X:Nat->Rat):Prop where
 last:X n= -1
 base:∀i,i<m->X (T.be i)=T.a i n
 rest:∀j,j<n->kf m T j->X j=0
theorem rY (m:Nat) (T:Tab) (j:Nat):kf m T j\/∃i,i<m/\T.be i=j:=by
 by_cases h:∃i,i<m/\T.be i=j
 .exact Or.inr h
 .exact Or.inl (λi hi e=>h ⟨i,hi,e⟩)
theorem Zj (C:Canon m n K T) {X:Nat->Rat} {i:Nat} (hi:i<m) (hX:∀j,j<n->kf m T j->X j=0):
  sumTo (n+1) (λj=>T.a i j*X j)=X (T.be i)+T.a i n*X n:=by
 have hb:=C.lt i hi;rw[Fb (p:=T.be i) (s:=n) (~~~62) (~~~62) (~~~62)]
 .rw[C.unit i i hi hi];simp only[if_true];grind
 .intro j hj h1 h2;rcases rY m T j with h|⟨i',wG,e⟩
  .rw[hX j (~~~62) h];grind
  .have:i≠i':=λz=>h1 (by rw[z,e]);rw[<-e,C.unit i i' hi wG,if_neg this];grind
theorem M' (C:Canon m n K T) {X:Nat->Rat} {k:Nat} (hk:k<K) (hX:∀j,j<n->kf m T j->X j=0):
  obj n T X k=T.c k n*X n:=by
 simp only[obj];rw[fR (p:=n) (~~~62)];intro j hj h1;rcases rY m T j with h|⟨i',wG,e⟩
 .rw[hX j (~~~62) h];grind
 .rw[<-e,C.cost k i' hk wG];grind
theorem Z0.sol (C:Canon m n K T) {X:Nat->Rat} (h:Z0 m n T X):Ox m n T X:=by
 intro i hi;rw[Zj C hi h.rest,h.last,h.base i hi];grind
theorem Z0.obj (C:Canon m n K T) {X:Nat->Rat} (h:Z0 m n T X) {k:Nat} (hk:k<K):obj n T X k= -T.c k n:=by
 rw[M' C hk h.rest,h.last];grind
def UB (m n:Nat) (T:Tab) (j:Nat):Rat:=if j=n then-1 else sumTo m (λi=>if T.be i=j then T.a i n else 0)
theorem zf (C:Canon m n K T):Z0 m n T (UB m n T):=by
 constructor
 .simp only[UB,if_true]
 .intro i hi;have:=C.lt i hi;simp only[UB];rw[if_neg (~~~62),fR (p:=i) hi]
  .simp only[if_true]
  .intro j hj jE;rw[if_neg];exact λe=>jE (C.inj j i hj hi e)
 .intro j hj h;simp only[UB];rw[if_neg (~~~62),j9];intro i hi;rw[if_neg (h i hi)]
end Bl
namespace Bl
structure Run (m n K N:Nat) (T:Nat->Tab) (r p:Nat->Nat):Prop where
 canon:Canon m n K (T 0)
 step:∀t,t<N->Step m n K (T t) (r t) (p t)
 next:∀t,t<N->T (t+1)=Dj (T t) (r t) (p t)
variable {m n K N:Nat} {T:Nat->Tab} {r p:Nat->Nat}
theorem Run.QE (R:Run m n K N T r p):∀t,t<=N->Canon m n K (T t)
 |0,_=>R.canon
 |t+1,h=>by
  rw[R.next t (~~~62)];exact(R.QE t (~~~62)).Dj (R.step t (~~~62))
theorem Run.Tp (R:Run m n K N T r p) (X:Nat->Rat):∀t,t<=N->(Ox m n (T t) X↔Ox m n (T 0) X)
 |0,_=>Iff.rfl
 |t+1,h=>by
  rw[R.next t (~~~62)];have S:=R.step t (~~~62);exact(V3 S.rm (by have:=S.pos;grind)).trans (R.Tp X t (~~~62))
theorem Run.Pj (R:Run m n K N T r p) {X:Nat->Rat} (hX:Ox m n (T 0) X) (k:Nat):∀t,t<=N->obj n (T t) X k=obj n (T 0) X k
 |0,_=>rfl
 |t+1,h=>by
  rw[R.next t (~~~62)];have S:=R.step t (~~~62);rw[Vv S.rm ((R.Tp X t (~~~62)).mpr hX)];exact R.Pj hX k t (~~~62)
theorem Run.Ph (R:Run m n K N T r p) {t j:Nat} (ht:t<N) (h:kf m (T t) j) (hj:j≠p t):kf m (T (t+1)) j:=by
 rw[R.next t ht];intro i hi;simp only[Dj];split
 .exact λe=>hj e.symm
 .exact h i hi
theorem Run.EU (R:Run m n K N T r p) {t j:Nat} (ht:t<N) (h:kf m (T (t+1)) j) (hj:j≠(T t).be (r t)):kf m (T t) j:=by
 rw[R.next t ht] at h;intro i hi e;have:=h i hi;simp only[Dj] at this;split at this
 .rename_i hr;rw[hr] at e;exact hj e.symm
 .exact this e
theorem Run.came (R:Run m n K N T r p) {j u:Nat} (hu:kf m (T u) j):∀(v:Nat),u<=v->v<=N->¬kf m (T v) j->∃t,u<=t/\t<v/\p t=j
 |0,h,_,hv=>by
  have:u=0:=by omega
  exact absurd (this▸hu) hv
 |v+1,h,hN,hv=>by
  by_cases e:u=v+1
  .exact absurd (e▸hu) hv
  .by_cases hb:kf m (T v) j
   .refine⟨v,by omega,by omega,?_⟩;apply aK;intro jE;exact hv (R.Ph (~~~62) hb (λz=>jE z.symm))
   .obtain⟨t,h1,h2,h3⟩:=R.came hu v (~~~62) (~~~62) hb;exact⟨t,h1,by omega,h3⟩
theorem Run.went (R:Run m n K N T r p) {j u:Nat} (hu:¬kf m (T u) j):∀(v:Nat),u<=v->v<=N->kf m (T v) j->∃t,u<=t/\t<v/\(T t).be (r t)=j
 |0,h,_,hv=>by
  have:u=0:=by omega
  exact absurd (this▸hv) hu
 |v+1,h,hN,hv=>by
  by_cases e:u=v+1
  .exact absurd (e▸hv) hu
  .by_cases hb:kf m (T v) j
   .obtain⟨t,h1,h2,h3⟩:=R.went hu v (~~~62) (~~~62) hb;exact⟨t,h1,by omega,h3⟩
   .refine⟨v,by omega,by omega,?_⟩;apply aK;intro jE;exact hb (R.EU (~~~62) hv (λz=>jE z.symm))
theorem Run.lower (R:Run m n K N T r p) {t:Nat} (ht:t<N) (k:Nat):
  (T (t+1)).c k n=(T t).c k n- (T t).c k (p t)*((T t).a (r t) n/ (T t).a (r t) (p t)):=by
 rw[R.next t ht];rfl
theorem Run.Xs (R:Run m n K N T r p) {t:Nat} (ht:t<N):0<=(T t).a (r t) n/ (T t).a (r t) (p t):=
 ia ((R.QE t (~~~62)).U8 _ (R.step t ht).rm) (R.step t ht).pos
theorem Run.turn (R:Run m n K N T r p) {t:Nat} (ht:t<N):fV K (λk=>(T t).c k n- (T (t+1)).c k n):=by
 have th:=R.Xs ht;by_cases z:(T t).a (r t) n/ (T t).a (r t) (p t)=0
 .refine Or.inr λk hk=>?_;show(T t).c k n- (T (t+1)).c k n=0;rw[R.lower ht,z];grind
 .refine Or.inl (ei (~~~295) (iL (d:=(T t).a (r t) n/ (T t).a (r t) (p t)) (~~~271) (R.step t ht).neg));show _=(T t).c k n- (T (t+1)).c k n;rw[R.lower ht];grind
theorem Run.turns (R:Run m n K N T r p) {u:Nat}:∀(v:Nat),u<=v->v<=N->fV K (λk=>(T u).c k n- (T v).c k n)
 |0,h,_=>by
  have:u=0:=by omega
  subst this;exact Or.inr (~~~200)
 |v+1,h,hN=>by
  by_cases e:u=v+1
  .subst e;exact Or.inr (~~~200)
  .exact d_ (~~~200) (yC (R.turns (u:=u) v (~~~62) (~~~62)) (R.turn (t:=v) (~~~62)))
def AH (m:Nat) (T U:Tab):Prop:=∀j,kf m T j↔kf m U j
theorem Run.PL (R:Run m n K N T r p) {s e:Nat} (hs:s<=N) (he:e<=N) (h:AH m (T s) (T e)):
  ∀k,k<K->(T s).c k n=(T e).c k n:=by
 intro k hk;have Cs:=R.QE s hs;have Ce:=R.QE e he;have I:=zf Cs;have sol:=(R.Tp _ s hs).mp (I.sol Cs);have abB:∀j,j<n->kf m (T e) j->UB m n (T s) j=0:=λj hj hb=>I.rest j hj ((h j).mpr hb);have o1:=I.obj Cs hk;have o2:=M' Ce hk abB;rw[I.last] at o2;rw[R.Pj sol k s hs] at o1;rw[R.Pj sol k e he] at o2;grind
theorem Run.flat (R:Run m n K N T r p) {s e:Nat} (hs:s<=N) (he:e<=N) (h:AH m (T s) (T e))
  {t:Nat} (h1:s<=t) (h2:t<e):(T t).a (r t) n=0:=by
 have hc:=R.PL hs he h;have S:=R.step t (~~~62);have hp:=S.pos;have th:=R.Xs (t:=t) (~~~62);apply aK;intro jE;have thp:0< (T t).a (r t) n/ (T t).a (r t) (p t):=by
  have:(T t).a (r t) n/ (T t).a (r t) (p t)≠0:=by
   intro z;apply jE;have:(T t).a (r t) n=(T t).a (r t) n/ (T t).a (r t) (p t)*(T t).a (r t) (p t):=by grind
   rw[this,z];grind
  grind
 have lt:dM K (λk=>(T t).c k n- (T (t+1)).c k n):=by
  refine ei (~~~295) (iL thp S.neg);rw[R.lower (~~~62)];grind
 have a1:=R.turns (u:=s) t h1 (~~~62);have a2:=R.turns (u:=t+1) e (~~~62) he;have:=o_ (o_ lt a1) a2;refine fW this (~~~295);have:=hc k hk;grind
theorem Run.TQ (R:Run m n K N T r p) {s e:Nat} (hs:s<=N) (he:e<=N) (h:AH m (T s) (T e)):
  ∀(t:Nat),s<=t->t<=e->Z0 m n (T t) (UB m n (T s))
 |0,h1,_=>by
  have:s=0:=by omega
  subst this;exact zf (R.QE 0 (~~~62))
 |t+1,h1,h2=>by
  by_cases z:s=t+1
  .subst z;exact zf (R.QE _ (~~~62))
  .have I:=R.TQ hs he h t (~~~62) (~~~62);have b0:=R.flat hs he h (t:=t) (~~~62) (~~~62);have S:=R.step t (~~~62);have C:=R.QE t (~~~62);have nb:=S.Vt C;have e1:=R.next t (~~~62);have hI:=I.base (r t) S.rm;constructor
   .exact I.last
   .intro i hi;rw[e1];simp only[Dj];by_cases q:i=r t
    .simp only[q,if_true];rw[b0,I.rest _ S.pn nb];grind
    .simp only[q,if_false];rw[b0,I.base i hi];grind
   .intro j hj hb;by_cases q:j=(T t).be (r t)
    .rw[q,hI,b0]
    .exact I.rest j hj (R.EU (~~~62) hb q)
theorem jc (p:Nat->Nat) (s:Nat):∀(e:Nat),s<e->∃t,s<=t/\t<e/\∀u,s<=u->u<e->p u<=p t
 |0,h=>by omega
 |e+1,h=>by
  by_cases z:s=e
  .refine⟨e,by omega,by omega,λu h1 h2=>?_⟩;have:u=e:=by omega
   rw[this];exact aM _
  .obtain⟨t,h1,h2,h3⟩:=jc p s e (~~~62);by_cases q:p t<=p e
   .refine⟨e,by omega,by omega,λu h4 h5=>?_⟩;by_cases w:u=e
    .rw[w];exact aM _
    .exact bA (h3 u h4 (~~~62)) q
   .refine⟨t,h1,by omega,λu h4 h5=>?_⟩;by_cases w:u=e
    .rw[w];omega
    .exact h3 u h4 (~~~62)
def dir (m:Nat) (T:Tab) (p:Nat) (j:Nat):Rat:=if j=p then 1 else sumTo m (λi=>if T.be i=j then-T.a i p else 0)
theorem xh {T:Tab} (C:Canon m n K T) {p i:Nat} (nb:kf m T p) (hi:i<m):dir m T p (T.be i)= -T.a i p:=by
 simp only[dir];rw[if_neg (nb i hi),fR (p:=i) hi]
 .simp only[if_true]
 .intro j hj jE;rw[if_neg];exact λe=>jE (C.inj j i hj hi e)
theorem o4 {T:Tab} {p j:Nat} (hj:j≠p) (hb:kf m T j):dir m T p j=0:=by
 simp only[dir];rw[if_neg hj,j9];intro i hi;rw[if_neg (hb i hi)]
theorem So {T:Tab} (C:Canon m n K T):kf m T n:=λi hi=>by have:=C.lt i hi;omega
theorem Ng {T:Tab} (C:Canon m n K T) {p:Nat} (hp:p<n) (nb:kf m T p):Ox m n T (dir m T p):=by
 intro i hi;have hb:=C.lt i hi;rw[Fb (p:=T.be i) (s:=p) (~~~62) (~~~62) (nb i hi)]
 .rw[C.unit i i hi hi,xh C nb hi];simp only[dir,if_true];grind
 .intro j hj h1 h2;rcases rY m T j with h|⟨i',wG,e⟩
  .rw[o4 h2 h];grind
  .have:i≠i':=λz=>h1 (by rw[z,e]);rw[<-e,C.unit i i' hi wG,if_neg this];grind
theorem U4 {T:Tab} (C:Canon m n K T) {p k:Nat} (hp:p<n) (nb:kf m T p) (hk:k<K):obj n T (dir m T p) k=T.c k p:=by
 simp only[obj];rw[fR (p:=p) (~~~62)]
 .simp only[dir,if_true];grind
 .intro j hj h1;rcases rY m T j with h|⟨i',wG,e⟩
  .rw[o4 h1 h];grind
  .rw[<-e,C.cost k i' hk wG];grind
theorem Run.Gr (R:Run m n K N T r p) {s e:Nat} (hse:s<e) (he:e<=N) (h:AH m (T s) (T e)):False:=by
 obtain⟨t1,g1,g2,g3⟩:=jc p s e hse;have S1:=R.step t1 (~~~62);have C1:=R.QE t1 (~~~62);have nb1:=S1.Vt C1;have KU:¬kf m (T (t1+1)) (p t1):=by
  rw[R.next t1 (~~~62)];intro z;have:=z (r t1) S1.rm;simp only[Dj,if_true] at this;exact this rfl
 have out:∃t2,s<=t2/\t2<e/\(T t2).be (r t2)=p t1:=by
  by_cases z:kf m (T s) (p t1)
  .obtain⟨t,a1,a2,a3⟩:=R.went KU e (~~~62) he ((h _).mp z);exists 70
  .obtain⟨t,a1,a2,a3⟩:=R.went z t1 (~~~62) (~~~62) nb1;exists 70
 obtain⟨t2,o1,o2,o3⟩:=out;have S2:=R.step t2 (~~~62);have C2:=R.QE t2 (~~~62);have MW:=S2.Vt C2;have aaQ:=Ng C2 S2.pn MW;have WL:=(R.Tp _ t2 (~~~62)).mp aaQ;have low:dM K (λk=>sumTo (n+1) (λj=>(T t1).c k j*dir m (T t2) (p t2) j)):=by
  refine ei (~~~295) S2.neg;have e1:=R.Pj WL k t1 (~~~62);have e2:=R.Pj WL k t2 (~~~62);rw[U4 C2 S2.pn MW hk] at e2;show _=obj n (T t1) _ k;rw[e1,<-e2]
 obtain⟨j,hj,Ja⟩:=Vo (f:=λj k=>(T t1).c k j*dir m (T t2) (p t2) j) low;have Wt:kf m (T t1) j:=by
  intro i hi z;refine fW Ja (~~~295);show(T t1).c k j*_=0;rw[<-z,C1.cost k i hk hi];grind
 have hd:dir m (T t2) (p t2) j≠0:=by
  intro z;refine fW Ja (~~~295);show(T t1).c k j*_=0;rw[z];grind
 have hjn:j<n:=by
  have:j≠n:=by
   intro z;apply hd;rw[z];exact o4 (by have:=S2.pn;omega) (So C2)
  omega
 have hjq:j<=p t1:=by
  by_cases z:j=p t2
  .rw[z];exact g3 t2 o1 o2
  .have hb:¬kf m (T t2) j:=λy=>hd (o4 z y);have:∃t,s<=t/\t<e/\p t=j:=by
    by_cases w:t1<=t2
    .obtain⟨t,a1,a2,a3⟩:=R.came Wt t2 w (~~~62) hb;exists 70
    .by_cases y:kf m (T e) j
     .obtain⟨t,a1,a2,a3⟩:=R.came ((h j).mpr y) t2 o1 (~~~62) hb;exists 70
     .obtain⟨t,a1,a2,a3⟩:=R.came Wt e (~~~62) he y;exists 70
   obtain⟨t,a1,a2,a3⟩:=this;rw[<-a3];exact g3 t a1 a2
 by_cases hq:j=p t1
 ·
  have dq:dir m (T t2) (p t2) j= - (T t2).a (r t2) (p t2):=by
   rw[hq,<-o3];exact xh C2 MW S2.rm
  have ae7:=S2.pos;have:dM K (λk=>(T t2).a (r t2) (p t2)*(T t1).c k (p t1)):=iL ae7 S1.neg;refine lex_asymm this (Or.inl (ei (~~~295) Ja));show(T t1).c k j*_=_;rw[dq,hq];grind
 .have ae1:=S1.first j (~~~62);have aaP:dir m (T t2) (p t2) j<0:=by
   apply aK;intro z;have zp:0<dir m (T t2) (p t2) j:=by grind
   apply ae1;have inv:0<1/dir m (T t2) (p t2) j:=by
    rw[fT];have:=iE.mpr zp;grind
   refine ei (~~~295) (iL inv Ja);show 1/dir m (T t2) (p t2) j*((T t1).c k j*dir m (T t2) (p t2) j)=(T t1).c k j;grind
  have jne:j≠p t2:=by
   intro z;rw[z] at aaP;simp only[dir,if_true] at aaP;grind
  rcases rY m (T t2) j with hb|⟨i,hi,Ga⟩
  .exact hd (o4 jne hb)
  .have di:dir m (T t2) (p t2) j= - (T t2).a i (p t2):=by
    rw[<-Ga];exact xh C2 MW hi
   have apos:0< (T t2).a i (p t2):=by grind
   have X1:=R.TQ (~~~62) he h t1 (~~~62) (~~~62);have X2:=R.TQ (~~~62) he h t2 (~~~62) (~~~62);have bi:(T t2).a i n=0:=by
    rw[<-X2.base i hi,Ga];exact X1.rest j hjn Wt
   have br:=R.flat (~~~62) he h (t:=t2) (~~~62) (~~~62);rcases S2.ratio i hi apos with w|⟨_,w⟩
   .rw[bi,br] at w;grind
   .rw[o3,Ga] at w;omega
open Classical in
noncomputable def mask (m:Nat) (T:Tab):Nat->Nat
 |0=>0
 |j+1=>mask m T j+if kf m T j then 0 else 2^j
theorem AU (m:Nat) (T:Tab):∀j,mask m T j<2^j
 |0=>by simp[mask]
 |j+1=>by
  have:=AU m T j;simp only[mask,rE];split<;>omega
theorem yF (m:Nat) (T U:Tab):∀j,mask m T j=mask m U j->∀i,i<j->(kf m T i↔kf m U i)
 |0,_,i,hi=>by omega
 |j+1,h,i,hi=>by
  have h1:=AU m T j;have h2:=AU m U j;simp only[mask] at h;by_cases a:kf m T j<;>by_cases b:kf m U j
  .simp only[a,b,if_true] at h;by_cases z:i=j
   .rw[z];exact⟨λ_=>b,λ_=>a⟩
   .exact yF m T U j (~~~62) i (~~~62)
  .simp only[a,b,if_true,if_false] at h;omega
  .simp only[a,b,if_true,if_false] at h;omega
  .simp only[a,b,if_false] at h;by_cases z:i=j
   .rw[z];exact⟨λy=>absurd y a,λy=>absurd y b⟩
   .exact yF m T U j (~~~62) i (~~~62)
theorem RJ:∀(M:Nat) (f:Nat->Nat),(∀i,i<=M->f i<M)->∃i j,i<j/\j<=M/\f i=f j
 |0,f,h=>by have:=h 0 (~~~62);omega
 |M+1,f,h=>by
  apply aK;intro hn;have inj:∀i j,i<j->j<=M+1->f i≠f j:=λi j a b c=>hn ⟨i,j,a,b,c⟩;have key:=RJ M (λi=>if f i=M then f (M+1) else f i) (by
   intro i hi;have h1:=h i (~~~62);have h2:=h (M+1) (~~~62);have h3:=inj i (M+1) (~~~62) (~~~62);show(if f i=M then f (M+1) else f i)<M;split<;>omega)
  obtain⟨i,j,a,b,c⟩:=key;have h4:=inj i j a (~~~62);have h5:=inj i (M+1) (~~~62) (~~~62);have h6:=inj j (M+1) (~~~62) (~~~62);split at c<;>split at c<;>omega
theorem Run.short (R:Run m n K N T r p):N<2^n:=by
 apply aK;intro hN;obtain⟨i,j,a,b,c⟩:=RJ (2^n) (λt=>mask m (T t) n) (λt ht=>AU m (T t) n);refine R.Gr a (~~~62) (λx=>?_);by_cases hx:x<n
 .exact yF m _ _ n c x hx
 .have c1:=R.QE i (~~~62);have c2:=R.QE j (~~~62);constructor
  .intro _ k hk z;have:=c2.lt k hk;omega
  .intro _ k hk z;have:=c1.lt k hk;omega
end Bl
namespace Bl
open Vbmiak
def ofRat (x:Rat):Q:=⟨x.num,x.den⟩
theorem Md (a:Int) {b:Nat} (hb:b≠0):q a b=ofRat (mkRat a b):=by
 have hg:bR a.natAbs b≠0:=λz=>hb (Nat.eq_zero_of_gcd_eq_zero_right z);rw[<-eJ hb,ke hb];simp only[q,ofRat,hg,if_false]
theorem jJ (a:Int):whole a=ofRat (a:Rat):=rfl
theorem ZT:whole 0=ofRat 0:=rfl
theorem add_eq (x y:Rat):add (ofRat x) (ofRat y)=ofRat (x+y):=by
 have h:x.den*y.den≠0:=kP x.den_nz y.den_nz;show q _ (x.den*y.den)=_;rw[Md _ h,Rat.add_def,eJ];rfl
theorem neg_eq (x:Rat):neg (ofRat x)=ofRat (-x):=rfl
theorem sub_eq (x y:Rat):sub (ofRat x) (ofRat y)=ofRat (x-y):=by
 show add _ (neg _)=_;rw[neg_eq,add_eq,<-oU]
theorem mul_eq (x y:Rat):mul (ofRat x) (ofRat y)=ofRat (x*y):=by
 have h:x.den*y.den≠0:=kP x.den_nz y.den_nz;show q _ (x.den*y.den)=_;rw[Md _ h,Rat.mul_def,eJ];rfl
theorem Gs {x:Rat}:x.num<0↔x<0:=by
 have h:=Bo (q:=x);constructor
 .intro h1;apply aK;intro h2;have:=h.mpr (~~~271);omega
 .intro h1;apply aK;intro h2;have:=h.mp (~~~62);grind
theorem vV {x:Rat}:x.num<=0↔x<=0:=by
 have h1:=@Gs x;have h2:=@kR x;constructor
 .intro h;by_cases z:x.num=0
  .have:=h2.mp z;grind
  .have:=h1.mp (~~~62);grind
 .intro h;by_cases z:x=0
  .have:=h2.mpr z;omega
  .have:=h1.mpr (~~~271);omega
theorem num_nonneg {x:Rat}:0<=x.num↔0<=x:=Bo
theorem NC {x:Rat}:0<x.num↔0<x:=by
 have h:=@vV x;constructor
 .intro h1;apply aK;intro h2;have:=h.mpr (~~~271);omega
 .intro h1;apply aK;intro h2;have:=h.mp (~~~62);grind
theorem GI (x:Rat) {y:Rat} (hy:y≠0):over (ofRat x) (ofRat y)=ofRat (x/y):=by
 have hn:y.num≠0:=λz=>hy (kR.mp z);have hd:x.den*y.num.natAbs≠0:=kP x.den_nz (~~~62);have Vc:(x.den:Rat)≠0:=by have:=x.den_nz;intro z;exact this (by exact_mod_cast z)
 have hdy:(y.den:Rat)≠0:=by have:=y.den_nz;intro z;exact this (by exact_mod_cast z)
 have hny:(y.num:Rat)≠0:=by intro z;exact hn (by exact_mod_cast z)
 have ex:x=(x.num:Rat)/ (x.den:Rat):=by
  have:=oT x;rw[eW] at this;exact this.symm
 have ey:y=(y.num:Rat)/ (y.den:Rat):=by
  have:=oT y;rw[eW] at this;exact this.symm
 show(if y.num<0 then q (-(x.num*(y.den:Int))) (x.den*y.num.natAbs) else q (x.num*(y.den:Int)) (x.den*y.num.natAbs))=_;split
 .rename_i Ja;rw[Md _ hd];congr 1;have e:((y.num.natAbs:Nat):Int)= -y.num:=by omega
  rw[<-i9,eW];rw[jz,e]
  push_cast
  generalize hx1:(x.num:Rat)=a at*
  generalize hx2:(x.den:Rat)=b at*
  generalize hy1:(y.num:Rat)=c at*
  generalize hy2:(y.den:Rat)=d at*
  grind
 .rename_i Ja;rw[Md _ hd];congr 1;have e:((y.num.natAbs:Nat):Int)=y.num:=by omega
  rw[<-i9,eW];rw[jz,e]
  push_cast
  generalize hx1:(x.num:Rat)=a at*
  generalize hx2:(x.den:Rat)=b at*
  generalize hy1:(y.num:Rat)=c at*
  generalize hy2:(y.den:Rat)=d at*
  grind
theorem yk (x y:Rat):atMost (ofRat x) (ofRat y)=decide (x<=y):=by
 show decide (x.num*(y.den:Int)<=y.num*(x.den:Int))=_;exact decide_eq_decide.mpr (Rat.le_iff x y).symm
theorem A5 (x y:Rat):same (ofRat x) (ofRat y)=decide (x=y):=by
 show(x.num==y.num&&x.den==y.den)=_;by_cases h:x=y
 .subst h;simp
 .rw[decide_eq_false h];apply Bool.eq_false_iff.mpr;intro z;rw[aC,beq_iff_eq,beq_iff_eq] at z;exact h (Rat.ext z.1 z.2)
theorem xo:∀(l:List Rat) (a:Rat),(l.map ofRat).foldl add (ofRat a)=ofRat (l.foldl (· + ·) a)
 | [],a=>rfl
 |x::l,a=>by
  simp only[az,dm];rw[add_eq];exact xo l (a+x)
theorem A7 (l:List Rat):sumQ (l.map ofRat)=ofRat (l.foldl (· + ·) 0):=xo l 0
def Ak (a b:List Rat):Rat:=((a.zip b).map λx=>x.1*x.2).foldl (· + ·) 0
theorem vF (a b:List Rat):dot (a.map ofRat) (b.map ofRat)=ofRat (Ak a b):=by
 unfold dot Ak;rw[<-A7];congr 1;rw[oA,aI,aI];apply aQ;intro x _;exact mul_eq x.1 x.2
theorem hG:∀(l:List Rat) (j:Nat),(l.map ofRat).getD j (whole 0)=ofRat (l.getD j 0)
 | [],j=>by simp[ZT]
 |x::l,0=>rfl
 |x::l,j+1=>hG l j
theorem vv (l:List Rat):(l.map ofRat).getLastD (whole 0)=ofRat (l.getLastD 0):=by
 cases l with
 |nil=>rfl
 |cons x l=>
  rw[az,lq,lq]
  induction l generalizing x with
  |nil=>rfl
  |cons y l ih=>rw[az,lq,lq];exact ih y
end Bl
namespace Bl
open Vbmiak
structure RT where
 rows:List (List Rat)
 wishes:List (List Rat)
 inUse:List Nat
def f' (r:List Rat):List Q:=r.map ofRat
def RT.tb (t:RT):Table:=⟨t.rows.map f',t.wishes.map f',t.inUse⟩
def oW (l:List Rat):Bool:=match l.find? λx=>decide (x≠0) with
 |some x=>decide (x<0)
 |none=>false
def iI (t:RT) (n:Nat):Option Nat:=(ax n).find? λj=>oW (~~~296)
def eB (j:Nat):List (~~~252)->Option (Nat×(Rat×Nat))
 | []=>none
 |(i,r,b)::l=>
  let a:=r.getD j 0;let rest:=eB j l
  if a<=0 then rest
  else
   let v:=r.getLastD 0/a
   match rest with
   |none=>some (i,v,b)
   |some (k,u,c)=>if v=u then(if b<c then some (i,v,b) else some (k,u,c)) else if v<=u then some (i,v,b) else some (k,u,c)
def kL (j:Nat) (p r:List Rat):List Rat:=let f:=r.getD j 0;if f=0 then r else(r.zip p).map λx=>x.1-f*x.2
def jy (t:RT) (i j:Nat):RT:=
 let r:=t.rows.getD i [];let p:=r.map λx=>x/r.getD j 0
 ⟨t.rows.zipIdx.map λx=>if x.2=i then p else kL j p x.1,t.wishes.map (kL j p),t.inUse.set i j⟩
def lE (t:RT):List (~~~252):=(ax t.rows.length).zip (~~~237)
def kZ (n:Nat):Nat->RT->RT
 |0,t=>t
 |k+1,t=>match iI t n with
  |none=>t
  |some j=>match eB j (lE t) with
   |none=>t
   |some (i,_,_)=>kZ n k (jy t i j)
def y_ (t:RT) (j:Nat):Rat:=match(~~~237).find? λx=>x.2==j with
 |some x=>x.1.getLastD 0
 |none=>0
theorem BO {A B:Type} (f:A->B) (P:B->Bool) (l:List A):(l.map f).find? P=(l.find? (λx=>P (f x))).map f:=by
 rw[List.find?_map];rfl
theorem Q7 (l:List Rat):below (l.map ofRat)=oW l:=by
 unfold below oW;rw[BO];have e:(λx:Rat=>(ofRat x).num !=0)=(λx=>decide (x≠0)):=by
  funext x;show(x.num !=0)=_;by_cases h:x=0
  .subst h;rfl
  .have:x.num≠0:=λz=>h (kR.mp z);simp[h,this]
 rw[e];cases l.find? (λx=>decide (x≠0)) with
 |none=>rfl
 |some x=>
  show decide (x.num<0)=decide (x<0);exact decide_eq_decide.mpr Gs
theorem OO (t:RT) (n:Nat):coming t.tb n=iI t n:=by
 unfold coming iI;congr 1;funext j;rw[<-Q7];congr 1;show(t.wishes.map f').map _=_;rw[aI,aI];apply aQ;intro w _;exact hG w j
def S6 (x:Nat×(List Rat×Nat)):Nat×(List Q×Nat):=(x.1,f' x.2.1,x.2.2)
def S8 (x:Nat×(Rat×Nat)):Nat×(Q×Nat):=(x.1,ofRat x.2.1,x.2.2)
theorem zP (j:Nat):∀l:List (~~~252),stopping j (l.map S6)=(eB j l).map S8
 | []=>rfl
 |(i,r,b)::l=>by
  have ih:=zP j l;show stopping j ((i,f' r,b)::l.map S6)=_;unfold stopping eB;simp only;have e1:(f' r).getD j (whole 0)=ofRat (r.getD j 0):=hG r j;have e2:(f' r).getLastD (whole 0)=ofRat (r.getLastD 0):=vv r;rw[ih,e1,e2];by_cases ha:r.getD j 0<=0
  .have:(ofRat (r.getD j 0)).num <=0:=vV.mpr ha;rw[if_pos this,if_pos ha]
  .have:¬(ofRat (r.getD j 0)).num <=0:=λz=>ha (vV.mp z);rw[if_neg this,if_neg ha,GI _ (~~~271)];cases eB j l with
   |none=>rfl
   |some x=>
    obtain⟨k,u,c⟩:=x;simp only[eI,S8];rw[A5,yk];simp only[decide_eq_true_eq];by_cases h1:r.getLastD 0/r.getD j 0=u
    .rw[if_pos h1,if_pos h1];by_cases h2:b<c
     .rw[if_pos h2,if_pos h2];rfl
     .rw[if_neg h2,if_neg h2];rfl
    .rw[if_neg h1,if_neg h1];by_cases h2:r.getLastD 0/r.getD j 0<=u
     .rw[if_pos h2,if_pos h2];rfl
     .rw[if_neg h2,if_neg h2];rfl
theorem BF (j:Nat) (p r:List Rat):cleared j (f' p) (f' r)=f' (kL j p r):=by
 unfold cleared kL;have e1:(f' r).getD j (whole 0)=ofRat (r.getD j 0):=hG r j;simp only;rw[e1];by_cases h:r.getD j 0=0
 .have:(ofRat (r.getD j 0)).num =0:=kR.mpr h;rw[if_pos this,if_pos h]
 .have:¬(ofRat (r.getD j 0)).num =0:=λz=>h (kR.mp z);rw[if_neg this,if_neg h];show _=qA ofRat _;unfold f';rw[oA,aI,aI];apply aQ;intro x _;show sub (ofRat x.1) (mul _ (ofRat x.2))=ofRat _;rw[mul_eq,sub_eq]
theorem OW (l:List (List Rat)) (i:Nat):(l.map f').getD i []=f' (l.getD i []):=by
 induction l generalizing i with
 |nil=>rfl
 |cons x l ih=>cases i with
  |zero=>rfl
  |succ i=>exact ih i
theorem Ff (t:RT) (i j:Nat) (h:(~~~90).getD j 0≠0):turned t.tb i j=(jy t i j).tb :=by
 have e0:(t.tb.rows.getD i [])=f' (~~~90):=OW t.rows i;have ep:((f' (~~~90)).map λx=>over x ((f' (~~~90)).getD j (whole 0)))=
   f' ((~~~90).map λx=>x/ (~~~90).getD j 0):=by
  have e1:(f' (~~~90)).getD j (whole 0)=ofRat ((~~~90).getD j 0):=hG _ j;rw[e1];unfold f';rw[aI,aI];apply aQ;intro x _;exact GI x h
 unfold turned jy;simp only;rw[e0,ep];unfold RT.tb;simp only;congr 1
 .rw[Aa,aI,aI];apply aQ;intro x _;obtain⟨r,k⟩:=x;show(if k=i then _ else cleared j _ (f' r))=f' (if k=i then _ else _);by_cases z:k=i
  .rw[if_pos z,if_pos z]
  .rw[if_neg z,if_neg z,BF]
 .rw[aI,aI];apply aQ;intro x _;exact BF j _ x
theorem Sa (t:RT):(ax t.tb.rows.length).zip (t.tb.rows.zip t.tb.inUse)=(lE t).map S6:=by
 unfold lE RT.tb;simp only;rw[ag];have e:(t.rows.map f').zip t.inUse=(~~~237).map (λx=>(f' x.1,x.2)):=by
  rw[show t.inUse=t.inUse.map id by simp,oA];simp only[sH,id_eq];rfl
 rw[e];rw[show(ax t.rows.length)=(ax t.rows.length).map id by simp,oA];simp only[sH,id_eq];rfl
theorem mx (j:Nat):∀(l:List (~~~252)) (i:Nat) (v:Rat) (b:Nat),eB j l=some (i,v,b)->
  (∃r,(i,r,b)∈l/\0<r.getD j 0/\v=r.getLastD 0/r.getD j 0)/\
  ∀i' r' b',(i',r',b')∈l->0<r'.getD j 0->v<r'.getLastD 0/r'.getD j 0\/(v=r'.getLastD 0/r'.getD j 0/\b<=b')
 | [],_,_,_,h=>by simp[eB] at h
 |(i0,r0,b0)::l,i,v,b,h=>by
  unfold eB at h;simp only at h;by_cases ha:r0.getD j 0<=0
  .rw[if_pos ha] at h;obtain⟨⟨r,h1,h2,h3⟩,h4⟩:=mx j l i v b h;exists 78;rcases aB.mp hm with e|hm
   .exists 12;exact absurd hp (~~~271)
   .exact h4 i' r' b' hm hp
  .rw[if_neg ha] at h;have O4:0<r0.getD j 0:=by grind
   cases hs:eB j l with
   |none=>
    rw[hs] at h;exists 61;rcases aB.mp hm with e|hm
    .exists 101
    .exact absurd hp (pF j l hs i' r' b' hm)
   |some x=>
    obtain⟨k,u,c⟩:=x;have ih:=mx j l k u c hs;rw[hs] at h;simp only at h;obtain⟨⟨r,h1,h2,h3⟩,h4⟩:=ih;by_cases e1:r0.getLastD 0/r0.getD j 0=u
    .rw[if_pos e1] at h;by_cases e2:b0<c
     .rw[if_pos e2] at h;exists 61;rcases aB.mp hm with e|hm
      .exists 101
      .rcases h4 i' r' b' hm hp with y|⟨y,z⟩
       .exists 107
       .exact Or.inr ⟨by grind,by omega⟩
     .rw[if_neg e2] at h;exists 19;exists 78;rcases aB.mp hm with e|hm
      .exists 12;subst e3;exact Or.inr ⟨by grind,by omega⟩
      .exact h4 i' r' b' hm hp
    .rw[if_neg e1] at h;by_cases e2:r0.getLastD 0/r0.getD j 0<=u
     .rw[if_pos e2] at h;exists 61;rcases aB.mp hm with e|hm
      .exists 101
      .rcases h4 i' r' b' hm hp with y|⟨y,z⟩
       .exists 107
       .exists 107
     .rw[if_neg e2] at h;exists 19;exists 78;rcases aB.mp hm with e|hm
      .exists 12;subst e3;exists 107
      .exact h4 i' r' b' hm hp
where pF (j:Nat):∀(l:List (~~~252)),eB j l=none->∀i' r' b',(i',r',b')∈l->¬ 0<r'.getD j 0
 | [],_,_,_,_,hm=>by simp at hm
 |(i0,r0,b0)::l,h,i',r',b',hm=>by
  unfold eB at h;simp only at h;by_cases ha:r0.getD j 0<=0
  .rw[if_pos ha] at h;rcases aB.mp hm with e|hm
   .exists 12;grind
   .exact pF j l h i' r' b' hm
  .rw[if_neg ha] at h
   exfalso
   cases hs:eB j l with
   |none=>rw[hs] at h;simp at h
   |some x=>
    rw[hs] at h;simp only at h;split at h
    .split at h<;>simp at h
    .split at h<;>simp at h
end Bl
namespace Bl
open Vbmiak
structure Shape (m n K:Nat) (t:RT):Prop where
 rows:t.rows.length=m
 use:t.inUse.length=m
 wishes:t.wishes.length=K
 row:∀r,r∈t.rows->r.length=n+1
 wish:∀r,r∈t.wishes->r.length=n+1
def RT.fn (t:RT):Tab:=⟨λi j=>(~~~90).getD j 0,λk j=>(t.wishes.getD k []).getD j 0,λi=>t.inUse.getD i 0⟩
variable {m n K:Nat} {t:RT}
theorem sU {j:Nat} {p r:List Rat} (h:p.length=r.length):(kL j p r).length =r.length:=by
 unfold kL;simp only;split
 .rfl
 .simp[h]
theorem F_ {p r:List Rat} (f:Rat) (h:p.length=r.length) (k:Nat):
  ((r.zip p).map λx=>x.1-f*x.2).getD k 0=r.getD k 0-f*p.getD k 0:=by
 simp only[ai,bo];by_cases hk:k<r.length
 .have HF:k<p.length:=by omega
  rw[show(r.zip p)[k]?=some (r[k],p[k]) by
   rw[cw];exact⟨ah hk,ah HF⟩]
  rw[ah hk,ah HF];rfl
 .rw[cq (by simp;omega),cq (~~~62),cq (~~~62)];simp only[Ac,bH];grind
theorem vm {j:Nat} {p r:List Rat} (h:p.length=r.length) (k:Nat):
  (kL j p r).getD k 0=r.getD k 0-r.getD j 0*p.getD k 0:=by
 unfold kL;simp only;split
 .rename_i z;rw[z];grind
 .exact F_ _ h k
theorem rS (r:List Rat) (d:Rat) (k:Nat):(r.map λx=>x/d).getD k 0=r.getD k 0/d:=by
 simp only[ai,bo];cases r[k]? with
 |none=>simp only[Ac,bH];grind
 |some x=>rfl
theorem getD_mem {A:Type} {l:List A} {i:Nat} {d:A} (h:i<l.length):l.getD i d∈l:=by
 rw[ai,ah h];exact bM h
theorem xt {A:Type} {l:List A} {i:Nat} {d:A} (h:l.length<=i):l.getD i d=d:=by
 rw[ai,cq h];rfl
theorem xU (S:Shape m n K t) {i j:Nat} (hi:i<m):Shape m n K (jy t i j):=by
 have hr:(~~~90).length =n+1:=S.row _ (~~~266);constructor
 .simp only[jy,ag,dv];exact S.rows
 .simp only[jy,ik];exact S.use
 .simp only[jy,ag];exact S.wishes
 .intro r h;simp only[jy,aS] at h;obtain⟨⟨x,k⟩,h1,h2⟩:=h;rw[<-h2];split
  .simp only[ag];exact hr
  .have hx:x∈t.rows:=(List.mem_zipIdx' h1).2▸bM _;rw[sU (by rw[ag,hr,S.row x hx])];exact S.row x hx
 .intro r h;simp only[jy,aS] at h;obtain⟨x,h1,h2⟩:=h;rw[<-h2,sU (by rw[ag,hr,S.wish x h1])];exact S.wish x h1
theorem Qo (S:Shape m n K t) {i j:Nat} (hi:i<m):(jy t i j).fn =Dj t.fn i j:=by
 have hr:(~~~90).length =n+1:=S.row _ (~~~266);unfold RT.fn Dj;congr 1
 .funext i' k;simp only[jy];by_cases wG:i'<t.rows.length
  .have e1:(t.rows.zipIdx.map λx=>if x.2=i then(~~~90).map (~~~261) else kL j ((~~~90).map (~~~261)) x.1).getD i' []=
     if i'=i then(~~~90).map (~~~261) else kL j ((~~~90).map (~~~261)) (t.rows.getD i' []):=by
    rw[ai,bo,da,ah wG];simp only[eI,bF,rF];rw[show t.rows.getD i' []=t.rows[i'] by rw[ai,ah wG];rfl]
   rw[e1];split
   .exact rS _ _ _
   .rw[vm (by rw[ag,hr,S.row _ (getD_mem wG)]),rS]
  .have jE:i'≠i:=by have:=S.rows;omega
   have e1:∀(g:List Rat×Nat->List Rat),(t.rows.zipIdx.map g).getD i' []=[]:=λg=>xt (by rw[ag,dv];omega);rw[if_neg jE,e1,xt (l:=t.rows) (i:=i') (~~~62)];simp only[Dm];grind
 .funext k j';simp only[jy];by_cases hk:k<t.wishes.length
  .have e1:∀(g:List Rat->List Rat),(t.wishes.map g).getD k []=g t.wishes[k]:=by
    intro g;rw[ai,bo,ah hk];rfl
   rw[e1];rw[show t.wishes.getD k []=t.wishes[k] by rw[ai,ah hk];rfl];rw[vm (by rw[ag,hr,S.wish _ (bM hk)]),rS]
  .have e1:∀(g:List Rat->List Rat),(t.wishes.map g).getD k []=[]:=λg=>xt (by rw[ag];omega);rw[e1,xt (l:=t.wishes) (i:=k) (~~~62)];simp only[Dm];grind
 .funext k;simp only[jy];rw[ai,pM,ai];by_cases e:k=i
  .subst e;rw[if_pos rfl,if_pos rfl,if_pos (by rw[S.use];exact hi)];rfl
  .rw[if_neg (λz=>e z.symm),if_neg e]
theorem Ld (l:List Rat):oW l=true↔dM l.length (λk=>l.getD k 0):=by
 induction l with
 |nil=>simp[oW,dM]
 |cons x l ih=>
  by_cases h:x=0
  .subst h;have e:oW (0::l)=oW l:=by
    unfold oW;rw[kN];simp
   rw[e,ih];show _↔((0:Rat)<0\/((0:Rat)=0/\dM l.length (λk=>(0::l).getD (k+1) 0)));constructor
   .intro z;exact Or.inr ⟨rfl,z⟩
   .intro z;rcases z with z|z
    .exact absurd z (~~~73)
    .exact z.2
  .have e:oW (x::l)=decide (x<0):=by
    unfold oW;rw[kN];simp[h]
   rw[e];show _↔(x<0\/(x=0/\_));constructor
   .intro z;exact Or.inl (of_decide_eq_true z)
   .intro z;rcases z with z|z
    .exact decide_eq_true z
    .exact absurd z.1 h
theorem vE (S:Shape m n K t) (j:Nat):oW (~~~296)=true↔dM K (λk=>t.fn.c k j):=by
 rw[Ld,ag,S.wishes];have e:∀k,(~~~296).getD k 0=t.fn.c k j:=by
  intro k;show _=(t.wishes.getD k []).getD j 0;simp only[ai,bo];cases t.wishes[k]? with
  |none=>rfl
  |some x=>rfl
 constructor
 .exact ei (λk _=>e k)
 .exact ei (λk _=>(e k).symm)
theorem Ly {P:Nat->Bool}:∀{n j:Nat},(ax n).find? P=some j->j<n/\P j=true/\∀i,i<j->P i=false
 |n,j,h=>by
  rw[List.find?_range_eq_some] at h;refine⟨bK.mp h.2.1,h.1,λi hi=>?_⟩;have:=h.2.2 i hi;simpa using this
theorem zu (S:Shape m n K t) {j:Nat} (h:iI t n=some j):
  j<n/\dM K (λk=>t.fn.c k j)/\∀i,i<j->¬dM K (λk=>t.fn.c k i):=by
 obtain⟨h1,h2,h3⟩:=Ly h;refine⟨h1,(vE S j).mp h2,λi hi z=>?_⟩;have:=h3 i hi;rw[(vE S i).mpr z] at this;exact absurd this (~~~73)
theorem IC (S:Shape m n K t) (h:iI t n=none):∀i,i<n->¬dM K (λk=>t.fn.c k i):=by
 intro i hi z;unfold iI at h;rw[lj] at h;exact h i (bK.mpr hi) ((vE S i).mpr z)
theorem last_eq {r:List Rat} (h:r.length=n+1):r.getLastD 0=r.getD n 0:=by
 cases r with
 |nil=>simp at h
 |cons x l=>
  rw[pK,List.getLast?_eq_getElem?,ai];congr 2;simp only[aL] at h⊢;omega
theorem EN (S:Shape m n K t) {i:Nat} (hi:i<m):(i,t.rows.getD i [],t.inUse.getD i 0)∈lE t:=by
 unfold lE;have h1:i<t.rows.length:=by rw[S.rows];exact hi
 have h2:i<t.inUse.length:=by rw[S.use];exact hi
 apply ij.mpr;refine⟨i,?_⟩;rw[cw];refine⟨by rw[dQ h1],?_⟩;rw[cw];refine⟨?_,?_⟩
 .show t.rows[i]?=some (~~~90);rw[ai,ah h1];rfl
 .show t.inUse[i]?=some (t.inUse.getD i 0);rw[ai,ah h2];rfl
theorem Gu (S:Shape m n K t) {i b:Nat} {r:List Rat} (h:(i,r,b)∈lE t):i<m/\r=t.rows.getD i []/\b=t.inUse.getD i 0:=by
 unfold lE at h;obtain⟨k,hk⟩:=ij.mp h;rw[cw] at hk;obtain⟨h1,h2⟩:=hk;rw[cw] at h2;have hk:k< (ax t.rows.length).length :=by
  apply aK;intro z;rw[cq (~~~62)] at h1;simp at h1
 rw[eU] at hk;rw[dQ hk] at h1;simp only[bG.injEq] at h1;subst h1;refine⟨by rw[<-S.rows];exact hk,?_,?_⟩
 .rw[ai];simp only at h2;rw[h2.1];rfl
 .rw[ai];simp only at h2;rw[h2.2];rfl
theorem E8 (S:Shape m n K t) {j i b:Nat} {v:Rat} (hc:iI t n=some j) (hs:eB j (lE t)=some (i,v,b)):
  Step m n K t.fn i j:=by
 obtain⟨c1,c2,c3⟩:=zu S hc;obtain⟨⟨r,s1,s2,s3⟩,s4⟩:=mx j _ i v b hs;obtain⟨hi,e1,e2⟩:=Gu S s1;have lr:∀i,i<m->(~~~90).getLastD 0=t.fn.a i n:=λi hi=>last_eq (S.row _ (~~~266));subst e1;refine⟨hi,c1,s2,c2,c3,λi' wG hp=>?_⟩;have:=s4 i' _ _ (EN S wG) hp;rw[s3,lr i hi,lr i' wG,e2] at this;exact this
def next (n:Nat) (t:RT):RT:=match iI t n with
 |none=>t
 |some j=>match eB j (lE t) with
  |none=>t
  |some (i,_,_)=>jy t i j
def Still (n:Nat) (t:RT):Prop:=iI t n=none\/∃j,iI t n=some j/\eB j (lE t)=none
def Di (n:Nat) (t:RT):Nat->RT
 |0=>t
 |k+1=>next n (Di n t k)
theorem wu {t:RT} (h:Still n t):next n t=t:=by
 unfold next;rcases h with h|⟨j,h1,h2⟩
 .rw[h]
 .rw[h1];simp only[h2]
theorem EV (n:Nat) (t:RT):∀k,Di n t (k+1)=Di n (next n t) k
 |0=>rfl
 |k+1=>by
  show next n (Di n t (k+1))=next n (Di n (next n t) k);rw[EV n t k]
theorem yJ {t:RT} (h:Still n t):∀k,Di n t k=t
 |0=>rfl
 |k+1=>by
  show next n (Di n t k)=t;rw[yJ h k];exact wu h
theorem CT (n:Nat):∀(k:Nat) (t:RT),kZ n k t=Di n t k
 |0,t=>rfl
 |k+1,t=>by
  rw[EV];unfold kZ next;cases h:iI t n with
  |none=>simp only;exact(yJ (Or.inl h) k).symm
  |some j=>
   simp only;cases h2:eB j (lE t) with
   |none=>simp only;exact(yJ (Or.inr ⟨j,h,h2⟩) k).symm
   |some x=>exact CT n k _
theorem TR (n:Nat) (t:RT):Still n t\/∃i j v b,iI t n=some j/\eB j (lE t)=some (i,v,b):=by
 cases h:iI t n with
 |none=>exact Or.inl (Or.inl h)
 |some j=>
  cases h2:eB j (lE t) with
  |none=>exact Or.inl (Or.inr ⟨j,h,h2⟩)
  |some x=>exact Or.inr ⟨x.1,j,x.2.1,x.2.2,rfl,h2⟩
def uU (n:Nat) (t:RT):Nat:=match iI t n with
 |none=>0
 |some j=>match eB j (lE t) with
  |none=>0
  |some (i,_,_)=>i
def uT (n:Nat) (t:RT):Nat:=(iI t n).getD 0
theorem yH (S:Shape m n K t) (h:¬Still n t):Step m n K t.fn (uU n t) (uT n t)/\
  (next n t).fn =Dj t.fn (uU n t) (uT n t)/\Shape m n K (next n t)/\(next n t).tb =turned t.tb (uU n t) (uT n t):=by
 rcases TR n t with h1|⟨i,j,v,b,h1,h2⟩
 .exact absurd h1 h
 .have e1:uU n t=i:=by unfold uU;rw[h1];simp only[h2]
  have e2:uT n t=j:=by unfold uT;rw[h1];rfl
  have e3:next n t=jy t i j:=by unfold next;rw[h1];simp only[h2]
  rw[e1,e2,e3];have St:=E8 S h1 h2;refine⟨St,Qo S St.rm,xU S St.rm,?_⟩;rw[Ff];have:=St.pos;show t.fn.a i j≠0;grind
theorem uV (S:Shape m n K t):∀k,Shape m n K (Di n t k)
 |0=>S
 |k+1=>by
  have ih:=uV S k;show Shape m n K (next n (Di n t k));by_cases h:Still n (Di n t k)
  .rw[wu h];exact ih
  .exact(yH ih h).2.2.1
theorem Jo {t:RT} {u:Nat} (h:Still n (Di n t u)):∀v,u<=v->Di n t v=Di n t u
 |0,hv=>by
  have:u=0:=by omega
  rw[this]
 |v+1,hv=>by
  by_cases e:u=v+1
  .rw[e]
  .show next n (Di n t v)=_;rw[Jo h v (~~~62)];exact wu h
theorem NB (S:Shape m n K t) (C:Canon m n K t.fn) {N:Nat} (h:∀k,k<N->¬Still n (Di n t k)):
  Run m n K N (λk=>(Di n t k).fn) (λk=>uU n (Di n t k)) (λk=>uT n (Di n t k)):=
 ⟨C,λk hk=>(yH (uV S k) (h k hk)).1,λk hk=>(yH (uV S k) (h k hk)).2.1⟩
theorem Hi (S:Shape m n K t) (C:Canon m n K t.fn):
  Still n (kZ n (2^n) t)/\Shape m n K (kZ n (2^n) t)/\
  ∃N T r p,Run m n K N T r p/\T 0=t.fn/\T N=(kZ n (2^n) t).fn :=by
 rw[CT];have ex:∃N,Still n (Di n t N)/\∀k,k<N->¬Still n (Di n t k):=by
  apply aK;intro hn;have all:∀N,¬Still n (Di n t N):=by
   intro N
   induction N using Nat.strongRecOn with
   |ind N ih=>intro z;exact hn ⟨N,z,ih⟩
  have R:=NB (N:=2^n) S C (λk _=>all k);have:=R.short;omega
 obtain⟨N,h1,h2⟩:=ex;have R:=NB S C h2;have lt:=R.short;have e:=Jo h1 (2^n) (~~~62);rw[e];exact⟨h1,uV S N,N,_,_,_,R,rfl,rfl⟩
theorem PV (S:Shape m n K t):∀k,settle n k t.tb=(kZ n k t).tb :=by
 intro k
 induction k generalizing t with
 |zero=>rfl
 |succ k ih=>
  unfold settle kZ;rw[OO];cases h:iI t n with
  |none=>rfl
  |some j=>
   simp only;rw[Sa,zP];cases h2:eB j (lE t) with
   |none=>rfl
   |some x=>
    obtain⟨i,v,b⟩:=x;simp only[eI,S8];have St:=E8 S h h2;rw[Ff t i j (by have:=St.pos;show t.fn.a i j≠0;grind)];exact ih (xU S St.rm)
theorem value_eq (t:RT) (j:Nat):valueIn t.tb j=ofRat (y_ t j):=by
 unfold valueIn y_;have e:t.tb.rows.zip t.tb.inUse=(~~~237).map (λx=>(f' x.1,x.2)):=by
  unfold RT.tb;simp only;rw[show t.inUse=t.inUse.map id by simp,oA];simp only[sH,id_eq];rfl
 rw[e,BO];simp only;cases(~~~237).find? (λx=>x.2==j) with
 |none=>rfl
 |some x=>
  simp only[eI];exact vv x.1
theorem Wi (S:Shape m n K t) (C:Canon m n K t.fn) {j:Nat} (hj:j<n):y_ t j=UB m n t.fn j:=by
 have I:=zf C;unfold y_;cases h:(~~~237).find? (λx=>x.2==j) with
 |none=>
  simp only
  symm
  apply I.rest j hj;intro i hi e;rw[lj] at h;have h1:i<t.rows.length:=by rw[S.rows];exact hi
  have h2:i<t.inUse.length:=by rw[S.use];exact hi
  have:=h (t.rows[i],t.inUse[i]) (by
   apply ij.mpr;exact⟨i,by rw[cw];exact⟨ah h1,ah h2⟩⟩)
  apply this;have e':t.inUse.getD i 0=j:=e;rw[ai,ah h2] at e';simpa using e'
 |some x=>
  simp only;have hm:=kx h;have hp:=z9 h;simp only[beq_iff_eq] at hp;obtain⟨i,hi⟩:=ij.mp hm;rw[cw] at hi;have h1:i<t.rows.length:=by
   apply aK;intro z;rw[cq (~~~62)] at hi;simp at hi
  have wG:i<m:=by rw[<-S.rows];exact h1
  have eb:t.fn.be i=j:=by
   show t.inUse.getD i 0=j;rw[ai,hi.2];exact hp
  have ea:t.rows.getD i []=x.1:=by
   rw[ai,hi.1];rfl
  rw[<-eb,I.base i wG,last_eq (S.row _ (cE hm).1)];show _=(~~~90).getD n 0;rw[ea]
end Bl
namespace Bl
open Vbmiak
variable {m n K N:Nat} {t:RT}
def Bdd (m n:Nat) (T:Tab):Prop:=∀d:Nat->Rat,Ox m n T d->d n=0->(∀j,j<n->0<=d j)->∀j,j<n->d j=0
structure M3 (m n:Nat) (T:Tab) (X:Nat->Rat):Prop where
 sol:Ox m n T X
 last:X n= -1
 pos:∀j,j<n->0<=X j
theorem Wl {T:Tab} (C:Canon m n K T):∀j,j<n->0<=UB m n T j:=by
 intro j hj;have I:=zf C;rcases rY m T j with h|⟨i,hi,e⟩
 .rw[I.rest j hj h];grind
 .rw[<-e,I.base i hi];exact C.U8 i hi
theorem Hh (S:Shape m n K t) (C:Canon m n K t.fn) (B:Bdd m n t.fn):
  ∃X,M3 m n t.fn X/\(∀j,j<n->y_ (kZ n (2^n) t) j=X j)/\
   ∀Y,M3 m n t.fn Y->fV K (λk=>obj n t.fn X k-obj n t.fn Y k):=by
 obtain⟨st,S',N,T,r,p,R,e0,eN⟩:=Hi S C;generalize kZ n (2^n) t=u at*
 have CN:Canon m n K u.fn:=by rw[<-eN];exact R.QE N (~~~62)
 have ace:∀X,Ox m n u.fn X↔Ox m n t.fn X:=by
  intro X;rw[<-eN,<-e0];exact R.Tp X N (~~~62)
 have abO:∀X,Ox m n t.fn X->∀k,obj n u.fn X k=obj n t.fn X k:=by
  intro X hX k;rw[<-eN,<-e0];rw[<-e0] at hX;exact R.Pj hX k N (~~~62)
 have I:=zf CN;have acf:=(ace _).mp (I.sol CN);refine⟨UB m n u.fn,⟨acf,I.last,Wl CN⟩,λj hj=>Wi S' CN hj,λY FY=>?_⟩;have hc:iI u n=none:=by
  rcases st with h|⟨j,h1,h2⟩
  .exact h
  .exfalso
   obtain⟨hj,Ja,_⟩:=zu S' h1;have nb:kf m u.fn j:=by
    intro i hi e;exact fW Ja (λk hk=>by rw[<-e];exact CN.cost k i hk hi)
   have hle:∀i,i<m->¬ 0<u.fn.a i j:=λi hi=>mx.pF j _ h2 _ _ _ (EN S' hi);have:=B (dir m u.fn j) ((ace _).mp (Ng CN hj nb)) (o4 (~~~62) (So CN)) (by
    intro j' KZ;rcases rY m u.fn j' with h|⟨i,hi,e⟩
    .by_cases z:j'=j
     .rw[z];simp only[dir,if_true];grind
     .rw[o4 z h];grind
    .rw[<-e,xh CN nb hi];have:=hle i hi;grind) j hj
   simp only[dir,if_true] at this;grind
 have nn:=IC S' hc;have oX:∀k,k<K->obj n t.fn (UB m n u.fn) k= -u.fn.c k n:=by
  intro k hk;rw[<-abO _ acf k];exact I.obj CN hk
 have oY:∀k,obj n t.fn Y k=sumTo n (λj=>u.fn.c k j*Y j)-u.fn.c k n:=by
  intro k;rw[<-abO _ FY.sol k];show sumTo n _+u.fn.c k n*Y n=_;rw[FY.last];grind
 have key:fV K (λk=> -sumTo n (λj=>u.fn.c k j*Y j)):=by
  refine AS (f:=λj k=>u.fn.c k j*Y j) (λj hj=>?_);have hY:=FY.pos j hj;by_cases z:Y j=0
  .exact Or.inr (λk _=>by rw[z];grind)
  .have yp:0<Y j:=by grind
   rcases qR (nn j hj) with h|h
   .exact Or.inl (ei (~~~200) (iL yp h))
   .refine Or.inr (~~~295);have:=h k hk;have e:u.fn.c k j=0:=by grind
    show-(u.fn.c k j*Y j)=0;rw[e];grind
 refine d_ (~~~295) key;rw[oX k hk,oY k];grind
def mq (L M:Nat) (A:Nat->Nat->Rat) (B:Nat->Rat) (i:Nat) (j:Nat):Rat:=
 if j<L then A i j else if j<L+M then(if j=L+i then 1 else 0) else B i
def DU (L M:Nat) (A:Nat->Nat->Rat) (B:Nat->Rat) (i:Nat):List Rat:=(ax (L+M+1)).map (mq L M A B i)
def nN (L M:Nat) (c:(Nat->Rat)×Rat) (j:Nat):Rat:=if j<L then c.1 j else if j<L+M then 0 else c.2
def zS (L M:Nat) (c:(Nat->Rat)×Rat):List Rat:=(ax (L+M+1)).map (nN L M c)
def jq (L M:Nat) (A:Nat->Nat->Rat) (B:Nat->Rat) (cs:List ((Nat->Rat)×Rat)):RT:=
 ⟨(ax M).map (DU L M A B),cs.map (zS L M),(ax M).map (λi=>L+i)⟩
section
variable {L M:Nat} {A:Nat->Nat->Rat} {B:Nat->Rat} {cs:List ((Nat->Rat)×Rat)}
theorem e9 {A':Type} (f:Nat->A') (d:A') {k i:Nat} (h:i<k):((ax k).map f).getD i d=f i:=by
 rw[ai,bo,dQ h];rfl
theorem xn:Shape M (L+M) cs.length (~~~209):=by
 constructor
 .simp[jq]
 .simp[jq]
 .simp[jq]
 .intro r h;simp only[jq,aS] at h;obtain⟨i,_,e⟩:=h;rw[<-e];simp[DU]
 .intro r h;simp only[jq,aS] at h;obtain⟨i,_,e⟩:=h;rw[<-e];simp[zS]
theorem BP {i j:Nat} (hi:i<M) (hj:j<=L+M):(~~~209).fn.a i j=mq L M A B i j:=by
 show(((ax M).map (DU L M A B)).getD i []).getD j 0=_;rw[e9 _ _ hi];exact e9 _ _ (~~~62)
theorem qN {i:Nat} (hi:i<M):(~~~209).fn.be i=L+i:=e9 _ _ hi
theorem IL {k j:Nat} (hk:k<cs.length) (hj:j<=L+M):(~~~209).fn.c k j=nN L M cs[k] j:=by
 show((cs.map (zS L M)).getD k []).getD j 0=_;have e:(cs.map (zS L M)).getD k []=zS L M cs[k]:=by
  rw[ai,bo,ah hk];rfl
 rw[e];exact e9 _ _ (~~~62)
theorem F3 (hB:∀i,i<M->0<=B i):Canon M (L+M) cs.length (~~~209).fn :=by
 constructor
 .intro i hi;rw[qN hi];omega
 .intro i i' hi wG e;rw[qN hi,qN wG] at e;omega
 .intro i i' hi wG;rw[qN wG,BP hi (~~~62)];unfold mq;exists 68;by_cases e:i=i'
  .rw[if_pos (~~~62),if_pos e]
  .rw[if_neg (~~~62),if_neg e]
 .intro k i hk hi;rw[qN hi,IL hk (~~~62)];unfold nN;exists 68
 .intro i hi;rw[BP hi (~~~62)];unfold mq;exists 21;exact hB i hi
theorem uD (f:Nat->Rat) (a:Nat):∀b,sumTo (a+b) f=sumTo a f+sumTo b (λj=>f (a+j))
 |0=>by show sumTo a f=sumTo a f+0;grind
 |b+1=>by
  show sumTo (a+b) f+f (a+b)=sumTo a f+(sumTo b _+f (a+b));rw[uD f a b];grind
theorem A3 {i:Nat} (hi:i<M) (X:Nat->Rat):
  sumTo (L+M+1) (λj=>(~~~209).fn.a i j*X j)=sumTo L (λj=>A i j*X j)+X (L+i)+B i*X (L+M):=by
 rw[bq (g:=λj=>mq L M A B i j*X j) (λj hj=>by rw[BP hi (~~~62)])];show sumTo (L+M) _+_=_;rw[uD];have e1:sumTo L (λj=>mq L M A B i j*X j)=sumTo L (λj=>A i j*X j):=
  bq (λj hj=>by unfold mq;rw[if_pos hj])
 have e2:sumTo M (λj=>mq L M A B i (L+j)*X (L+j))=X (L+i):=by
  rw[fR (p:=i) hi]
  .unfold mq;rw[if_neg (~~~62),if_pos (~~~62),if_pos (~~~62)];grind
  .intro j hj jE;unfold mq;rw[if_neg (~~~62),if_pos (~~~62),if_neg (~~~62)];grind
 rw[e1,e2];have e3:mq L M A B i (L+M)=B i:=by
  unfold mq;exists 21
 show _+_+mq L M A B i (L+M)*_=_;rw[e3]
theorem EW {k:Nat} (hk:k<cs.length) (X:Nat->Rat):
  obj (L+M) (~~~209).fn X k=sumTo L (λj=>cs[k].1 j*X j)+cs[k].2*X (L+M):=by
 unfold obj;rw[bq (g:=λj=>nN L M cs[k] j*X j) (λj hj=>by rw[IL hk (~~~62)])];show sumTo (L+M) _+_=_;rw[uD];have e1:sumTo L (λj=>nN L M cs[k] j*X j)=sumTo L (λj=>cs[k].1 j*X j):=
  bq (λj hj=>by unfold nN;rw[if_pos hj])
 have e2:sumTo M (λj=>nN L M cs[k] (L+j)*X (L+j))=0:=by
  apply j9;intro j hj;unfold nN;exists 68;grind
 have e3:nN L M cs[k] (L+M)=cs[k].2:=by
  unfold nN;exists 21
 rw[e1,e2];show _+_+nN L M cs[k] (L+M)*_=_;rw[e3];grind
structure Let (L M:Nat) (A:Nat->Nat->Rat) (B:Nat->Rat) (y:Nat->Rat):Prop where
 pos:∀j,j<L->0<=y j
 row:∀i,i<M->sumTo L (λj=>A i j*y j)<=B i
def ext (L M:Nat) (A:Nat->Nat->Rat) (B:Nat->Rat) (y:Nat->Rat) (j:Nat):Rat:=
 if j<L then y j else if j<L+M then B (j-L)-sumTo L (λs=>A (j-L) s*y s) else-1
theorem Rr {y:Nat->Rat} (h:Let L M A B y):M3 M (L+M) (~~~209).fn (ext L M A B y):=by
 have e1:∀i,sumTo L (λj=>A i j*ext L M A B y j)=sumTo L (λj=>A i j*y j):=
  λi=>bq (λj hj=>by unfold ext;rw[if_pos hj])
 have e2:ext L M A B y (L+M)= -1:=by unfold ext;exists 21
 have e3:∀i,i<M->ext L M A B y (L+i)=B i-sumTo L (λs=>A i s*y s):=by
  intro i hi;unfold ext;rw[if_neg (~~~62),if_pos (~~~62),show L+i-L=i by omega]
 refine⟨λi hi=>?_,e2,λj hj=>?_⟩
 .rw[A3 hi,e1,e2,e3 i hi];grind
 .by_cases z:j<L
  .unfold ext;rw[if_pos z];exact h.pos j z
  .have:=h.row (j-L) (~~~62);unfold ext;rw[if_neg z,if_pos hj];grind
theorem Ru {X:Nat->Rat} (h:M3 M (L+M) (~~~209).fn X):Let L M A B X:=by
 refine⟨λj hj=>h.pos j (~~~62),λi hi=>?_⟩;have:=h.sol i hi;rw[A3 hi,h.last] at this;have:=h.pos (L+i) (~~~62);grind
def lh (L:Nat) (c:(Nat->Rat)×Rat) (y:Nat->Rat):Rat:=sumTo L (λj=>c.1 j*y j)-c.2
theorem OS (H:∀s,s<L->∃i,i<M/\∀j,j<L->A i j=if j=s then 1 else 0):Bdd M (L+M) (~~~209).fn :=by
 intro d hd d0 dp;have hs:∀s,s<L->d s=0:=by
  intro s hs;obtain⟨i,hi,hA⟩:=H s hs;have:=hd i hi;rw[A3 hi,d0] at this;have e:sumTo L (λj=>A i j*d j)=d s:=by
   rw[fR (p:=s) hs]
   .rw[hA s hs,if_pos rfl];grind
   .intro j hj jE;rw[hA j hj,if_neg jE];grind
  rw[e] at this;have h1:=dp s (~~~62);have h2:=dp (L+i) (~~~62);grind
 intro j hj;by_cases z:j<L
 .exact hs j z
 .have:=hd (j-L) (~~~62);rw[A3 (~~~62),d0] at this;rw[j9 (λs h=>by rw[hs s h];grind),show L+(j-L)=j by omega] at this;grind
theorem IP (hB:∀i,i<M->0<=B i) (H:∀s,s<L->∃i,i<M/\∀j,j<L->A i j=if j=s then 1 else 0):
  ∃y,Let L M A B y/\(∀j,j<L->y_ (kZ (L+M) (2^(L+M)) (~~~209)) j=y j)/\
   ∀y',Let L M A B y'->fV cs.length (λk=>lh L (cs.getD k (λ_=>0,0)) y-lh L (cs.getD k (λ_=>0,0)) y'):=by
 obtain⟨X,F,V,O⟩:=Hh (t:=jq L M A B cs) xn (F3 hB) (OS H);refine⟨X,Ru F,λj hj=>V j (~~~62),λy' hy=>?_⟩;refine d_ (~~~295) (O _ (Rr hy));have e2:ext L M A B y' (L+M)= -1:=by unfold ext;exists 21
 rw[EW hk,EW hk,F.last,e2];have e1:sumTo L (λj=>cs[k].1 j*ext L M A B y' j)=sumTo L (λj=>cs[k].1 j*y' j):=
  bq (λj hj=>by unfold ext;rw[if_pos hj])
 rw[e1];have e4:cs.getD k (λ_=>0,0)=cs[k]:=by
  rw[ai,ah hk];rfl
 unfold lh;rw[e4];grind
end
end Bl
namespace Bl
open Vbmiak
structure RS where
 cost:Int
 there:Nat
 grades:List Rat
def RS.sp (x:RS):Source:=⟨x.cost,x.there,f' x.grades⟩
def gO:RS:=⟨0,0,[]⟩
def gr (l:List RS) (k j:Nat):Rat:=(~~~133).grades.getD k 0
def FH (w:Want) (l:List RS) (k j:Nat):Rat:=1000*gr l k j- ((w.least.getD k 0:Nat):Rat)
def Hr (w:Want) (l:List RS) (k j:Nat):Rat:=((w.most.getD k 0:Nat):Rat)-1000*gr l k j
def cA (w:Want) (l:List RS) (i j:Nat):Rat:=
 if i<3 then-FH w l i j else if i<6 then-Hr w l (i-3) j else if i<6+l.length then(if j=i-6 then 1 else 0) else 1
def cB (w:Want) (l:List RS) (i:Nat):Rat:=
 if i<6 then 0 else if i<6+l.length then(((l.getD (i-6) gO).there :Nat):Rat) else((w.amount:Nat):Rat)
theorem Bt (w:Want) (k:Nat) (x:RS):above w k x.sp=ofRat (1000*x.grades.getD k 0- ((w.least.getD k 0:Nat):Rat)):=by
 unfold above;have e:x.sp.grades.getD k (whole 0)=ofRat (x.grades.getD k 0):=hG _ k;rw[e,jJ,mul_eq,jJ,sub_eq];rfl
theorem C8 (w:Want) (k:Nat) (x:RS):under w k x.sp=ofRat (((w.most.getD k 0:Nat):Rat)-1000*x.grades.getD k 0):=by
 unfold under;have e:x.sp.grades.getD k (whole 0)=ofRat (x.grades.getD k 0):=hG _ k;rw[e,jJ,jJ,mul_eq,sub_eq];rfl
theorem m_ {A B:Type} (f:A->B) (d:A):∀(l:List A),l.map f=(~~~118).map (λj=>f (l.getD j d))
 | []=>rfl
 |x::l=>by
  rw[az,m_ f d l,aL,jl,az,aI];rfl
theorem sign_eq (b:Bool):sign b=ofRat (if b=true then 1 else 0):=by cases b<;>rfl
theorem CU (j i:Nat):sign (j==i)=ofRat (if j=i then 1 else 0):=by
 rw[sign_eq];by_cases h:j=i
 .subst h;simp
 .simp[h]
theorem iC {A:Type} (f:Nat->A) (a b:Nat):(ax (a+b)).map f=(ax a).map f++(ax b).map (λj=>f (a+j)):=by
 rw[List.range_add,bj,aI];rfl
def fx (b:Bool):Nat:=if b=true then 1 else 0
theorem uY (w:Want) (l:List RS) (fixed:Bool) (i s:Nat) (b:Bool) (z:Int) (u:List Q)
  (hu:u=(~~~118).map (λj=>ofRat (cA w l i j)))
  (hs:∀j,j<6+l.length->(j=s↔j=i)) (hb:b=true↔i=6+l.length) (hz:((z:Int):Rat)=cB w l i):
  u++(ax (2*KINDS+l.length)).map (λj=>sign (j==s))++(if fixed=true then[sign b] else[])++[whole z]=
   f' (DU l.length (~~~108) (cA w l) (cB w l) i):=by
 unfold f' DU;rw[aI];have e1:∀j,j<l.length->(ofRat∘mq l.length (~~~108) (cA w l) (cB w l) i) j=ofRat (cA w l i j):=by
  intro j hj;show ofRat (mq _ _ _ _ _ _)=_;unfold mq;rw[if_pos hj]
 rw[show l.length+(~~~108)+1=l.length+((6+l.length)+(fx fixed+1)) by omega,iC _ l.length ((6+l.length)+(fx fixed+1)),iC _ (6+l.length) (fx fixed+1)];rw[cV,cV];congr 1
 .rw[hu];exists 120;exact(e1 j (bK.mp hj)).symm
 .congr 1
  .exists 120;have hj:=bK.mp hj;have KZ:j<6+l.length:=hj;rw[CU];have e2:mq l.length (~~~108) (cA w l) (cB w l) i (l.length+j)=if j=i then 1 else 0:=by
    unfold mq;exists 68;by_cases q:j=i
    .rw[if_pos (~~~62),if_pos q]
    .rw[if_neg (~~~62),if_neg q]
   show ofRat _=ofRat (mq _ _ _ _ _ _);rw[e2];have:=hs j KZ;by_cases q:j=i
   .rw[if_pos (this.mpr q),if_pos q]
   .rw[if_neg (λy=>q (this.mp y)),if_neg q]
  .cases fixed with
   |false=>
    show[whole z]=[ofRat (mq l.length (6+l.length+0) (cA w l) (cB w l) i (l.length+(6+l.length+0)))];unfold mq;rw[if_neg (~~~62),if_neg (~~~62),jJ,hz]
   |true=>
    show[sign b,whole z]=[ofRat (mq l.length (~~~187) (cA w l) (cB w l) i (l.length+(6+l.length+0))),ofRat (mq l.length (~~~187) (cA w l) (cB w l) i (l.length+(~~~187)))];have h2:mq l.length (~~~187) (cA w l) (cB w l) i (l.length+(~~~187))=cB w l i:=by
     unfold mq;exists 21
    have h1:mq l.length (~~~187) (cA w l) (cB w l) i (l.length+(6+l.length+0))=if b=true then 1 else 0:=by
     unfold mq;exists 68;by_cases q:i=6+l.length
     .rw[if_pos (~~~62),if_pos (hb.mpr q)]
     .rw[if_neg (~~~62),if_neg (λy=>q (hb.mp y))]
    rw[h1,h2,<-hz,<-sign_eq,jJ]
theorem VS (w:Want) (l:List RS) (fixed:Bool):
  rowsOf w (~~~81) fixed=((ax (~~~108)).map (DU l.length (~~~108) (cA w l) (cB w l))).map f':=by
 rw[show 6+l.length+fx fixed=3+(3+(l.length+fx fixed)) by omega,iC,iC,iC];rw[<-show 6+l.length+fx fixed=3+(3+(l.length+fx fixed)) by omega];rw[bj,bj,bj,<-cV,<-cV];unfold rowsOf;simp only[ag];congr 1;congr 1;congr 1
 .rw[aI];apply aQ;intro k hk;have hk:k<3:=bK.mp hk;refine uY w l fixed k k false 0 _ ?_ (λj _=>Iff.rfl) (by constructor<;>intro h<;>first|omega|cases h) ?_
  .rw[aI,m_ _ gO];exists 120;show neg (above w k (RS.sp _))=_;rw[Bt,neg_eq];unfold cA;rw[if_pos hk];rfl
  .unfold cB;rw[if_pos (~~~62)];rfl
 .rw[aI];apply aQ;intro k hk;have hk:k<3:=bK.mp hk;refine uY w l fixed (3+k) (KINDS+k) false 0 _ ?_ (λj _=>Iff.rfl) (by constructor<;>intro h<;>first|omega|cases h) ?_
  .rw[aI,m_ _ gO];exists 120;show neg (under w k (RS.sp _))=_;rw[C8,neg_eq];unfold cA;rw[if_neg (~~~62),if_pos (~~~62),show 3+k-3=k by omega];rfl
  .unfold cB;rw[if_pos (~~~62)];rfl
 .rw[Aa,aI,aI];have e:l.zipIdx=(~~~118).map (λj=>(l.getD j gO,j)):=by
   apply lU;intro i;rw[da,bo];by_cases hi:i<l.length
   .rw[ah hi,dQ hi];simp only[eI,rF,ai,ah hi,bF]
   .rw[cq (~~~62),cq (by simp;omega)];rfl
  rw[e,aI];apply aQ;intro k hk;have hk:k<l.length:=bK.mp hk;refine uY w l fixed (3+(3+k)) (2*KINDS+k) false _ _ ?_ (λj _=>by show j=6+k↔j=3+(3+k);omega) (by constructor<;>intro h<;>first|omega|cases h) ?_
  .exists 120;show sign (j==k)=_;rw[CU];have e2:cA w l (3+(3+k)) j=if j=k then 1 else 0:=by
    unfold cA;rw[if_neg (~~~62),if_neg (~~~62),if_pos (~~~62),show 3+(3+k)-6=k by omega]
   rw[e2]
  .unfold cB;rw[if_neg (~~~62),if_pos (~~~62),show 3+(3+k)-6=k by omega];rfl
 .cases fixed with
  |false=>rfl
  |true=>
   simp only[fx,if_true,List.range_one,az,aV];congr 1;refine uY w l true (3+(3+(l.length+0))) (2*KINDS+l.length) true _ _ ?_ (λj hj=>by show j=6+l.length↔j=3+(3+(l.length+0));omega) (by constructor<;>intro h<;>first|rfl|omega) ?_
   .rw[aI,m_ _ gO];exists 120;show whole 1=_;unfold cA;rw[if_neg (~~~62),if_neg (~~~62),if_neg (~~~62)];rfl
   .unfold cB;exists 21;rfl
def nh (w:Want) (l:List RS) (fixed:Bool) (cs:List (List Rat)):List ((Nat->Rat)×Rat):=
 (if fixed=true then[((λ_=> -1),- ((w.amount:Nat):Rat))] else[])++cs.map λc=>(λj=>c.getD j 0,0)
theorem Wk (l:List RS) (fixed:Bool) (c:List Rat) (hc:c.length=l.length):
  wish (~~~81) fixed (f' c)=f' (zS l.length (~~~108) (λj=>c.getD j 0,0)):=by
 unfold wish f' zS columns;rw[aI,ag];rw[show l.length+(~~~108)+1=l.length+(6+l.length+fx fixed+1) by omega,iC];congr 1
 .rw[<-hc,m_ _ 0];exists 120;have:=bK.mp hj;show _=ofRat (nN _ _ _ _);unfold nN;rw[if_pos this]
 .apply lU;intro i;have e:2*l.length+2*KINDS+(if fixed=true then 1 else 0)-l.length+1=6+l.length+fx fixed+1:=by
   show 2*l.length+6+fx fixed-l.length+1=_;omega
  rw[e,i6,bo];by_cases hi:i<6+l.length+fx fixed+1
  .rw[if_pos hi,dQ hi];show some (whole 0)=some (ofRat (nN _ _ _ _));unfold nN;rw[if_neg (~~~62)];split<;>rfl
  .rw[if_neg hi,cq (by simp;omega)];rfl
theorem R_ (w:Want) (l:List RS) (fixed:Bool) (cs:List (List Rat)) (hc:∀c,c∈cs->c.length=l.length):
  least w (~~~81) fixed (cs.map f')=
   (kZ (l.length+(~~~108)) (2^(l.length+(~~~108)))
    (jq l.length (~~~108) (cA w l) (cB w l) (nh w l fixed cs))).tb :=by
 rw[<-PV xn];unfold least roundsFor;simp only;have ec:columns (~~~81) fixed=l.length+(~~~108):=by
  unfold columns;rw[ag];show 2*l.length+6+fx fixed=_;omega
 rw[ec];congr 1;unfold RT.tb jq;simp only;rw[VS];congr 1
 .unfold nh;rw[bj,bj];congr 1
  .cases fixed with
   |false=>rfl
   |true=>
    simp only[if_true,az,aV];congr 1;have e1:(((ax (6+l.length+fx true)).map (DU l.length (6+l.length+fx true) (cA w l) (cB w l))).map f').getLastD []=
      f' (DU l.length (~~~187) (cA w l) (cB w l) (6+l.length)):=by
     show(((ax (~~~187)).map (DU l.length (~~~187) (cA w l) (cB w l))).map f').getLastD []=_;rw[iu,bj,bj,pK];simp
    rw[e1];unfold f' DU zS;rw[aI,aI,ag];apply lU;intro j;rw[bo,da,bo,bo];show _=Option.map _ (ax (l.length+(~~~187)+1))[j]?;by_cases hj:j<l.length+(~~~187)+1
    .rw[dQ hj];simp only[eI,rF];congr 1;show(if j=2*l.length+6 then whole 0 else neg (ofRat (mq l.length (~~~187) (cA w l) (cB w l) (6+l.length) j)))=ofRat (nN l.length (~~~187) _ j);unfold mq nN;by_cases q:j=2*l.length+6
     .rw[if_pos q,if_neg (~~~62),if_pos (~~~62)];rfl
     .rw[if_neg q,neg_eq];by_cases q2:j<l.length
      .rw[if_pos q2,if_pos q2];unfold cA;rw[if_neg (~~~62),if_neg (~~~62),if_neg (~~~62)]
      .rw[if_neg q2,if_neg q2];by_cases q3:j<l.length+(~~~187)
       .rw[if_pos q3,if_pos q3,if_neg (~~~62)];rfl
       .rw[if_neg q3,if_neg q3];unfold cB;exists 21
    .rw[cq (by simp;omega)];rfl
  .rw[aI,aI,aI];apply aQ;intro c QH;exact Wk l fixed c (hc c QH)
 .rw[ag];cases fixed with
  |false=>show _++[]=_;rw[dU];rfl
  |true=>
   show(ax (6+l.length)).map (λi=>l.length+i)++[2*l.length+6]=(ax (~~~187)).map (λi=>l.length+i);rw[iu,bj];congr 1;show[2*l.length+6]=[l.length+(6+l.length)];congr 1;omega
theorem XR (w:Want) (l:List RS) (i:Nat):0<=cB w l i:=by
 unfold cB;split
 .grind
 .split
  .exact_mod_cast cj _
  .exact_mod_cast cj _
theorem U1 (w:Want) (l:List RS) (fixed:Bool):∀s,s<l.length->∃i,i<6+l.length+fx fixed/\∀j,j<l.length->cA w l i j=if j=s then 1 else 0:=by
 intro s hs;refine⟨6+s,by omega,λj hj=>?_⟩;unfold cA;rw[if_neg (~~~62),if_neg (~~~62),if_pos (~~~62),show 6+s-6=s by omega]
theorem B6 (w:Want) (l:List RS) (fixed:Bool) (cs:List (List Rat)) (hc:∀c,c∈cs->c.length=l.length):
  ∃y,Let l.length (~~~108) (cA w l) (cB w l) y/\
   (amountsIn (~~~81) (least w (~~~81) fixed (cs.map f'))=(~~~118).map λi=>ofRat (y i))/\
   ∀y',Let l.length (~~~108) (cA w l) (cB w l) y'->
    fV (nh w l fixed cs).length (λk=>lh l.length ((nh w l fixed cs).getD k (λ_=>0,0)) y-lh l.length ((nh w l fixed cs).getD k (λ_=>0,0)) y'):=by
 obtain⟨y,h1,h2,h3⟩:=IP (L:=l.length) (M:=6+l.length+fx fixed) (A:=cA w l) (B:=cB w l) (cs:=nh w l fixed cs)
  (λi _=>XR w l i) (U1 w l fixed)
 refine⟨y,h1,?_,h3⟩;unfold amountsIn;rw[ag];apply aQ;intro i hi;rw[R_ w l fixed cs hc,value_eq,h2 i (bK.mp hi)]
end Bl
namespace Bl
open Vbmiak
structure WD (w:Want) (l:List RS) (y:Nat->Rat):Prop where
 pos:∀j,j<l.length->0<=y j
 there:∀j,j<l.length->y j<=(((~~~133).there :Nat):Rat)
 above:∀k,k<3->0<=sumTo l.length (λj=>FH w l k j*y j)
 under:∀k,k<3->0<=sumTo l.length (λj=>Hr w l k j*y j)
structure iV (w:Want) (l:List RS) (y:Nat->Rat):Prop where
 mix:WD w l y
 all:sumTo l.length y=((w.amount:Nat):Rat)
theorem u4 (f g:Nat->Rat) (n:Nat):sumTo n (λj=> -f j*g j)= -sumTo n (λj=>f j*g j):=by
 have:sumTo n (λj=> -f j*g j)=sumTo n (λj=>(-1)*(f j*g j)):=bq (~~~174);rw[this,dk];grind
theorem AR {w:Want} {l:List RS} {y:Nat->Rat} {fixed:Bool}:
  Let l.length (~~~108) (cA w l) (cB w l) y↔(WD w l y/\(fixed=true->sumTo l.length y<=((w.amount:Nat):Rat))):=by
 have r1:∀k,k<3->sumTo l.length (λj=>cA w l k j*y j)= -sumTo l.length (λj=>FH w l k j*y j):=by
  intro k hk;rw[<-u4];exact bq (λj _=>by unfold cA;rw[if_pos hk])
 have r2:∀k,k<3->sumTo l.length (λj=>cA w l (3+k) j*y j)= -sumTo l.length (λj=>Hr w l k j*y j):=by
  intro k hk;rw[<-u4];exact bq (λj _=>by unfold cA;rw[if_neg (~~~62),if_pos (~~~62),show 3+k-3=k by omega])
 have r3:∀s,s<l.length->sumTo l.length (λj=>cA w l (6+s) j*y j)=y s:=by
  intro s hs;have e:∀j,cA w l (6+s) j=if j=s then 1 else 0:=by
   intro j;unfold cA;rw[if_neg (~~~62),if_neg (~~~62),if_pos (~~~62),show 6+s-6=s by omega]
  rw[fR (p:=s) hs]
  .rw[e,if_pos rfl];grind
  .intro j hj jE;rw[e,if_neg jE];grind
 have r4:sumTo l.length (λj=>cA w l (6+l.length) j*y j)=sumTo l.length y:=by
  exact bq (λj _=>by unfold cA;rw[if_neg (~~~62),if_neg (~~~62),if_neg (~~~62)];grind)
 have b1:∀k,k<6->cB w l k=0:=λk hk=>by unfold cB;rw[if_pos hk]
 have b2:∀s,s<l.length->cB w l (6+s)=(((l.getD s gO).there :Nat):Rat):=by
  intro s hs;unfold cB;rw[if_neg (~~~62),if_pos (~~~62),show 6+s-6=s by omega]
 have b3:cB w l (6+l.length)=((w.amount:Nat):Rat):=by
  unfold cB;exists 21
 constructor
 .intro h;refine⟨⟨h.pos,λj hj=>?_,λk hk=>?_,λk hk=>?_⟩,λhf=>?_⟩
  .have:=h.row (6+j) (~~~62);rw[r3 j hj,b2 j hj] at this;exact this
  .have:=h.row k (~~~62);rw[r1 k hk,b1 k (~~~62)] at this;grind
  .have:=h.row (3+k) (~~~62);rw[r2 k hk,b1 (3+k) (~~~62)] at this;grind
  .subst hf;have:=h.row (6+l.length) (by simp[fx]);rw[r4,b3] at this;exact this
 .rintro⟨h,hf⟩;refine⟨h.pos,λi hi=>?_⟩;by_cases c1:i<3
  .rw[r1 i c1,b1 i (~~~62)];have:=h.above i c1;grind
  .by_cases c2:i<6
   .have e:i=3+(i-3):=by omega
    rw[e,r2 (i-3) (~~~62),b1 _ (~~~62)];have:=h.under (i-3) (~~~62);grind
   .by_cases c3:i<6+l.length
    .have e:i=6+(i-6):=by omega
     rw[e,r3 (i-6) (~~~62),b2 _ (~~~62)];exact h.there _ (~~~62)
    .have ft:fixed=true:=by
      cases fixed with
      |true=>rfl
      |false=>simp only[fx] at hi;exfalso;simp at hi;omega
     have e:i=6+l.length:=by rw[ft] at hi;simp only[fx,if_true] at hi;omega
     rw[e,r4,b3];exact hf ft
theorem ji (y:Nat->Rat):∀n,((ax n).map y).foldl (· + ·) 0=sumTo n y
 |0=>rfl
 |n+1=>by
  rw[iu,bj,dZ,ji y n];rfl
theorem CW (y:Nat->Rat) (n:Nat):sumQ (~~~233)=ofRat (sumTo n y):=by
 have:(~~~233)=((ax n).map y).map ofRat:=by rw[aI];rfl
 rw[this,A7,ji]
theorem EC (f y:Nat->Rat) (n:Nat):dot ((ax n).map λi=>ofRat (f i)) (~~~233)=ofRat (sumTo n (λj=>f j*y j)):=by
 have e1:∀y:Nat->Rat,(~~~233)=((ax n).map y).map ofRat:=by intro y;rw[aI];rfl
 rw[e1 f,e1 y,vF];unfold Ak;rw[List.zip_map',aI];congr 1;exact ji (λj=>f j*y j) n
theorem Nn (w:Want) (l:List RS) (y:Nat->Rat) (t:Table) (h:amountsIn (~~~81) t=(~~~118).map λi=>ofRat (y i)):
  full w (~~~81) t=decide (sumTo l.length y=((w.amount:Nat):Rat)):=by
 unfold full;rw[h,CW,jJ,A5];rfl
theorem rW {K:Nat} {v:Nat->Rat} (h:fV (K+1) v):v 0<=0/\(v 0=0->fV K (λk=>v (k+1))):=by
 rcases h with h|h
 .rcases h with h|⟨h1,h2⟩
  .exact⟨by grind,λz=>by grind⟩
  .exact⟨by grind,λ_=>Or.inl h2⟩
 .exact⟨by rw[h 0 (~~~62)];grind,λ_=>Or.inr (λk hk=>h (k+1) (~~~62))⟩
def one (L i:Nat):List Rat:=(ax L).map λj=>if i=j then 1 else 0
def costs (l:List RS):List Rat:=l.map λs=>((s.cost:Int):Rat)
def cst (l:List RS) (j:Nat):Rat:=(((~~~133).cost :Int):Rat)
def gX (l:List RS):List (List Rat):=costs l::(~~~118).map (one l.length)
theorem Bw (l:List RS):((~~~81).map (λs=>whole s.cost))::(ax (~~~81).length).map (λi=>(ax (~~~81).length).map λj=>sign (i==j))=
  (gX l).map f':=by
 unfold gX;rw[az,ag];congr 1
 .unfold costs f';rw[aI,aI];rfl
 .rw[aI];apply aQ;intro i _;unfold one f';show _=qA _ (qA _ _);rw[aI];apply aQ;intro j _;exact CU i j
theorem Ai (l:List RS):∀c,c∈gX l->c.length=l.length:=by
 intro c hc;unfold gX at hc;rcases aB.mp hc with e|h
 .rw[e];simp[costs]
 .obtain⟨i,_,e⟩:=aS.mp h;rw[<-e];simp[one]
def look (l:List RS) (y:Nat->Rat):Nat->Rat
 |0=>sumTo l.length (λj=>cst l j*y j)
 |k+1=>y k
theorem ni (w:Want) (L:Nat) (y:Nat->Rat):lh L ((λ_=> -1),- ((w.amount:Nat):Rat)) y=((w.amount:Nat):Rat)-sumTo L y:=by
 unfold lh;have:sumTo L (λj=> -1*y j)= -sumTo L y:=by rw[dk];grind
 simp only;rw[this];grind
theorem zT (l:List RS) (y:Nat->Rat) {k:Nat} (hk:k<1+l.length):
  lh l.length (((gX l).map λc=>((λj=>c.getD j 0),(0:Rat))).getD k (λ_=>0,0)) y=look l y k:=by
 cases k with
 |zero=>
  show sumTo l.length (λj=>(costs l).getD j 0*y j)-0=sumTo l.length (λj=>cst l j*y j);have:sumTo l.length (λj=>(costs l).getD j 0*y j)=sumTo l.length (λj=>cst l j*y j):=by
   apply bq;intro j hj;have:(costs l).getD j 0=cst l j:=by
    unfold costs cst;rw[m_ _ gO,e9 _ _ hj]
   rw[this]
  rw[this];grind
 |succ k=>
  have hk:k<l.length:=by omega
  have e:(((gX l).map λc=>((λj=>c.getD j 0),(0:Rat))).getD (k+1) (λ_=>0,0))=(λj=>(one l.length k).getD j 0,0):=by
   unfold gX;rw[az,gM,aI,e9 _ _ hk];rfl
  rw[e];show sumTo l.length (λj=>(one l.length k).getD j 0*y j)-0=y k;rw[fR (p:=k) hk]
  .unfold one;rw[e9 _ _ hk,if_pos rfl];grind
  .intro j hj jE;unfold one;rw[e9 _ _ hj,if_neg (λz=>jE z.symm)];grind
theorem BR (w:Want) (l:List RS) (cs:List (List Rat)) (hc:∀c,c∈cs->c.length=l.length):
  ∃y,amountsIn (~~~81) (least w (~~~81) true (cs.map f'))=(~~~118).map (λi=>ofRat (y i))/\WD w l y/\
   (∀y',iV w l y'->iV w l y/\fV cs.length (λk=>lh l.length ((cs.map λc=>((λj=>c.getD j 0),(0:Rat))).getD k (λ_=>0,0)) y-
    lh l.length ((cs.map λc=>((λj=>c.getD j 0),(0:Rat))).getD k (λ_=>0,0)) y')):=by
 obtain⟨y,h1,h2,h3⟩:=B6 w l true cs hc;obtain⟨m1,m2⟩:=AR.mp h1;refine⟨y,h2,m1,λy' B=>?_⟩;have h4:=h3 y' (AR.mpr ⟨B.mix,λ_=>by rw[B.all];exact Rat.le_refl⟩);have e:(nh w l true cs).length =cs.length+1:=by simp[nh]
 rw[e] at h4;obtain⟨a1,a2⟩:=rW h4;have m3:=m2 rfl;have w0:(nh w l true cs).getD 0 (λ_=>0,0)=((λ_=> -1),- ((w.amount:Nat):Rat)):=rfl;rw[w0,ni,ni,B.all] at a1;have full:sumTo l.length y=((w.amount:Nat):Rat):=by grind
 refine⟨⟨m1,full⟩,?_⟩;have:=a2 (by rw[w0,ni,ni,B.all,full];grind);exact this
theorem Lf (w:Want) (l:List RS):
  (Vbmiak.blend w (~~~81)=none/\∀y,¬iV w l y)\/
  ∃y,Vbmiak.blend w (~~~81)=some ((~~~118).map λi=>ofRat (y i))/\iV w l y/\
   ∀y',iV w l y'->fV (1+l.length) (λk=>look l y k-look l y' k):=by
 obtain⟨y,h1,h2,h3⟩:=BR w l (gX l) (Ai l);unfold Vbmiak.blend;simp only;rw[Bw,Nn w l y _ h1,h1];have len:(gX l).length =1+l.length:=by simp[gX];omega
 by_cases z:sumTo l.length y=((w.amount:Nat):Rat)
 .right;refine⟨y,by rw[if_pos (decide_eq_true z)],⟨h2,z⟩,λy' B=>?_⟩;have:=(h3 y' B).2;rw[len] at this;exact d_ (λk hk=>by rw[zT l y hk,zT l y' hk]) this
 .left;refine⟨by rw[decide_eq_false z];rfl,λy' B=>?_⟩;exact z (h3 y' B).1.all
theorem Jg {l:List RS} {y y':Nat->Rat} (h1:fV (1+l.length) (λk=>look l y k-look l y' k))
  (h2:fV (1+l.length) (λk=>look l y' k-look l y k)):∀j,j<l.length->y j=y' j:=by
 have z:∀k,k<1+l.length->look l y k-look l y' k=0:=by
  rcases h1 with h|h
  .exfalso
   exact lex_asymm h (d_ (~~~200) h2)
  .exact h
 intro j hj;have:=z (j+1) (~~~62);simp only[look] at this;grind
theorem OX (l:List RS) (k:Nat):((~~~81).map λs=>s.grades.getD k (whole 0))=(~~~118).map λj=>ofRat (gr l k j):=by
 rw[aI,m_ _ gO];apply aQ;intro j _;exact hG _ k
theorem u6 (L:Nat) (f:Nat->Rat) (y:Nat->Rat):
  lh L ((λj=>((ax L).map f).getD j 0),(0:Rat)) y=sumTo L (λj=>f j*y j):=by
 unfold lh;have:sumTo L (λj=>((ax L).map f).getD j 0*y j)=sumTo L (λj=>f j*y j):=
  bq (λj hj=>by rw[e9 _ _ hj])
 simp only;rw[this];grind
theorem Jx (w:Want) (l:List RS) (f:Nat->Rat):
  ∃y,amountsIn (~~~81) (least w (~~~81) true [(~~~118).map λj=>ofRat (f j)])=(~~~118).map (λi=>ofRat (y i))/\WD w l y/\
   (∀y',iV w l y'->iV w l y/\sumTo l.length (λj=>f j*y j)<=sumTo l.length (λj=>f j*y' j)):=by
 obtain⟨y,h1,h2,h3⟩:=BR w l [(~~~118).map f] (by intro c hc;rw[aN.mp hc];simp);have e:[(~~~118).map f].map f'=[(~~~118).map λj=>ofRat (f j)]:=by
  simp only[az,aV,f',aI];rfl
 rw[e] at h1;refine⟨y,h1,h2,λy' B=>⟨(h3 y' B).1,?_⟩⟩;have:=(rW (h3 y' B).2).1;simp only[az,aV,oj] at this;rw[u6,u6] at this;grind
theorem Me (w:Want) (l:List RS) (k:Nat):
  (rangeOf w (~~~81) k=none/\∀y,¬iV w l y)\/
  ∃y z,rangeOf w (~~~81) k=some (ofRat (sumTo l.length (λj=>gr l k j*y j)),ofRat (sumTo l.length (λj=>gr l k j*z j)))/\
   iV w l y/\iV w l z/\∀y',iV w l y'->sumTo l.length (λj=>gr l k j*y j)<=sumTo l.length (λj=>gr l k j*y' j)/\
    sumTo l.length (λj=>gr l k j*y' j)<=sumTo l.length (λj=>gr l k j*z j):=by
 obtain⟨y,a1,a2,a3⟩:=Jx w l (gr l k);obtain⟨z,b1,b2,b3⟩:=Jx w l (λj=> -gr l k j);have e:((~~~118).map λj=>ofRat (gr l k j)).map neg=(~~~118).map λj=>ofRat (-gr l k j):=by
  rw[aI];rfl
 unfold rangeOf;simp only;rw[OX,e,Nn w l y _ a1,a1,b1,EC,EC];by_cases q:sumTo l.length y=((w.amount:Nat):Rat)
 .right;have By:iV w l y:=⟨a2,q⟩;have Bz:=(b3 y By).1;refine⟨y,z,by rw[if_pos (decide_eq_true q)],By,Bz,λy' B=>⟨(a3 y' B).2,?_⟩⟩;have:=(b3 y' B).2;rw[u4,u4] at this;grind
 .left;exact⟨by rw[decide_eq_false q];rfl,λy' B=>q (a3 y' B).1.all⟩
theorem Pa (w:Want) (l:List RS):
  ∃y,mostOf w (~~~81)=ofRat (sumTo l.length y)/\WD w l y/\∀y',WD w l y'->sumTo l.length y'<=sumTo l.length y:=by
 obtain⟨y,h1,h2,h3⟩:=B6 w l false [(~~~118).map λ_=> -1] (by intro c hc;rw[aN.mp hc];simp);have m:=(AR.mp h1).1;refine⟨y,?_,m,λy' M=>?_⟩
 .unfold mostOf;have e:[(~~~81).map λ_=>whole (-1)]=[(~~~118).map λ_=>(-1:Rat)].map f':=by
   simp only[az,aV,f',aI];congr 1;rw[m_ _ gO];rfl
  rw[e,h2,CW]
 .have:=h3 y' (AR.mpr ⟨M,λz=>by cases z⟩);have e:(nh w l false [(~~~118).map λ_=>(-1:Rat)])=[((λj=>((~~~118).map λ_=>(-1:Rat)).getD j 0),0)]:=rfl;rw[e] at this;have:=(rW this).1;simp only[oj] at this;rw[u6,u6,dk,dk] at this;grind
end Bl
namespace Fm
theorem RB (a b:Int):ig b (a.fmod b)=ig a b:=by
 have e:a.fmod b=a-b*a.fdiv b:=by have:=Int.fmod_add_mul_fdiv a b;omega
 rw[e,Int.gcd_sub_mul_left_right,Int.gcd_comm]
theorem U_ (a:Int) {b:Int} (h:b≠0):(a.fmod b).natAbs <b.natAbs:=by
 by_cases hb:0<b
 .have:=rh a hb;have:=oP a hb;omega
 .have e:a.fmod b= -((-a).fmod (-b)):=by rw[Int.neg_fmod_neg];omega
  have:=rh (-a) (by omega:0< -b);have:=oP (-a) (by omega:0< -b);omega
theorem qL (x:Int) (g:Nat):x.fdiv (g:Int)=x/ (g:Int):=hU x (vx g)
theorem iJ (b g:Nat):(b:Int).fdiv (g:Int)=((b/g:Nat):Int):=by rw[qL,x4]
theorem JN (r s:Rat):(r+s).num =(~~~127)/
  ((bR (~~~127).natAbs (bR r.den s.den):Nat):Int):=by
 show(Fx r s).num =_;rw[Rat.add.eq_def];simp only;split
 .rename_i h;show r.num*(s.den:Int)+s.num*(r.den:Int)=_;rw[h];simp
 .rw[tf];simp only[tK]
theorem JM (r s:Rat):(r+s).den =(r.den/bR r.den s.den)*(s.den/
  (bR (~~~127).natAbs (bR r.den s.den))):=by
 show(Fx r s).den =_;rw[Rat.add.eq_def];simp only;split
 .rename_i h;show r.den*s.den=_;rw[h];simp
 .rw[tf];simp only;rw[wQ];exact gk (jW _ _) (jW _ _)
theorem Gq (r s:Rat):(r*s).num =(r.num/ ((bR r.num.natAbs s.den:Nat):Int))*(s.num/ ((bR s.num.natAbs r.den:Nat):Int)):=by
 show(Fy r s).num =_;rw[Rat.mul.eq_def];simp only[tK]
theorem Gp (r s:Rat):(r*s).den =(r.den/bR s.num.natAbs r.den)*(s.den/bR r.num.natAbs s.den):=by
 show(Fy r s).den =_;rw[Rat.mul.eq_def];simp only[Nat.divExact_eq_div]
theorem Ql (r:Rat) (n:Nat):(r*(n:Rat)).num =r.num*((n/bR r.den n:Nat):Int):=by
 rw[Gq,jC,kQ,wO,jj,rC n r.den,x4];simp
theorem Qk (r:Rat) (n:Nat):(r*(n:Rat)).den =r.den/bR r.den n:=by
 rw[Gp,jC,kQ,wO,jj,rC n r.den];simp
theorem zG {n:Nat} (h:n≠0):((n:Rat)⁻¹).num =1:=by
 rw[Rat.num_inv,jC,kQ];rw[rk (~~~62)];rfl
theorem zF {n:Nat} (h:n≠0):((n:Rat)⁻¹).den =n:=by
 rw[Rat.den_inv,jC];simp[h]
theorem SF (r:Rat) {n:Nat} (h:n≠0):(r/ (n:Rat)).num =r.num/ ((bR r.num.natAbs n:Nat):Int):=by
 rw[fT,Gq,zG h,zF h];simp
theorem SA (r:Rat) {n:Nat} (h:n≠0):(r/ (n:Rat)).den =r.den*(n/bR r.num.natAbs n):=by
 rw[fT,Gp,zG h,zF h];simp
theorem Vp (a:Int) {b:Nat} (h:b≠0):(mkRat a b).num =a/ ((bR a.natAbs b:Nat):Int):=by
 rw[Rat.num_mkRat,if_neg h,rC]
theorem Gi (a:Int) {b:Nat} (h:b≠0):(mkRat a b).den =b/bR a.natAbs b:=by
 rw[Rat.den_mkRat,if_neg h,rC]
end Fm
namespace Du
def sumZ:Nat->(Nat->Int)->Int
 |0,_=>0
 |n+1,f=>sumZ n f+f n
theorem j_:∀{n:Nat} {f g:Nat->Int},(∀j,j<n->f j=g j)->sumZ n f=sumZ n g
 |0,_,_,_=>rfl
 |n+1,f,g,h=>by
  show sumZ n f+f n=sumZ n g+g n;rw[j_ (~~~192),h n (~~~62)]
theorem sumZ_zero:∀{n:Nat} {f:Nat->Int},(∀j,j<n->f j=0)->sumZ n f=0
 |0,_,_=>rfl
 |n+1,f,h=>by
  show sumZ n f+f n=0;rw[sumZ_zero (~~~192),h n (~~~62)];rfl
theorem C4 (a b:Int) (f g:Nat->Int):∀n,sumZ n (λj=>a*f j+b*g j)=a*sumZ n f+b*sumZ n g
 |0=>by simp[sumZ]
 |n+1=>by
  show sumZ n _+(a*f n+b*g n)=a*(sumZ n f+f n)+b*(sumZ n g+g n);rw[C4 a b f g n];grind
theorem Kb (a:Int) (f:Nat->Int):∀n,sumZ n (λj=>a*f j)=a*sumZ n f
 |0=>by simp[sumZ]
 |n+1=>by
  show sumZ n _+a*f n=a*(sumZ n f+f n);rw[Kb a f n];grind
theorem C3 (f g:Nat->Int):∀n,sumZ n (λj=>f j+g j)=sumZ n f+sumZ n g
 |0=>by simp[sumZ]
 |n+1=>by
  show sumZ n _+(f n+g n)=(sumZ n f+f n)+(sumZ n g+g n);rw[C3 f g n];grind
theorem my:∀{n:Nat} {f:Nat->Int} {p:Nat},p<n->(∀j,j<n->j≠p->f j=0)->sumZ n f=f p
 |0,_,_,h,_=>by omega
 |n+1,f,p,h,z=>by
  show sumZ n f+f n=f p;by_cases e:p=n
  .rw[sumZ_zero (λj hj=>z j (~~~62) (~~~62)),e];omega
  .rw[my (p:=p) (~~~62) (λj hj jE=>z j (~~~62) jE),z n (~~~62) (~~~62)];omega
theorem TU {n:Nat} {f:Nat->Int} {p s:Nat} (hp:p<n) (hs:s<n) (jE:p≠s) (z:∀j,j<n->j≠p->j≠s->f j=0):sumZ n f=f p+f s:=by
 have e:sumZ n f=sumZ n (λj=>(if j=p then f p else 0)+(if j=s then f s else 0)):=by
  apply j_;intro j hj;by_cases a:j=p
  .rw[if_pos a,if_neg (~~~62),a];omega
  .by_cases b:j=s
   .rw[if_neg a,if_pos b,b];omega
   .rw[if_neg a,if_neg b,z j hj a b];rfl
 rw[e,C3,my hp (λj _ h=>if_neg h),my hs (λj _ h=>if_neg h),if_pos rfl,if_pos rfl]
abbrev sR:=Nat->Nat->Int
def skip (i a:Nat):Nat:=if a<i then a else a+1
def sgn (i:Nat):Int:=if i%2=0 then 1 else-1
def minor (B:sR) (i:Nat):sR:=λa b=>B (skip i a) (b+1)
def det:Nat->sR->Int
 |0,_=>1
 |n+1,B=>sumZ (n+1) (λi=>sgn i*B i 0*det n (minor B i))
def cI (B:sR) (k:Nat) (v:Nat->Int):sR:=λa=>if a=k then v else B a
theorem mL:∀{n:Nat} {B C:sR},(∀a b,a<n->b<n->B a b=C a b)->det n B=det n C
 |0,_,_,_=>rfl
 |n+1,B,C,h=>by
  apply j_;intro i hi;rw[h i 0 hi (~~~62),mL (C:=minor C i) (λa b ha hb=>?_)];unfold minor skip;split
  .exact h _ _ (~~~62) (~~~62)
  .exact h _ _ (~~~62) (~~~62)
theorem V1 (i a:Nat):skip i a≠i:=by unfold skip;split<;>omega
theorem pj (B:sR) (k:Nat) (v:Nat->Int):minor (cI B k v) k=minor B k:=by
 funext a b;unfold minor cI;rw[if_neg (V1 k a)]
theorem yG {B:sR} {k i:Nat} (v:Nat->Int) (h:i≠k):minor (cI B k v) i=cI (minor B i) (if k<i then k else k-1) (λb=>v (b+1)):=by
 funext a b;unfold minor cI skip;by_cases c:k<i
 .rw[if_pos c];by_cases d:a<i
  .rw[if_pos d];by_cases e:a=k
   .rw[if_pos e,if_pos e]
   .rw[if_neg e,if_neg e];simp only[if_pos d]
  .rw[if_neg d,if_neg (~~~62),if_neg (~~~62)];simp only[if_neg d]
 .rw[if_neg c];by_cases d:a<i
  .rw[if_pos d,if_neg (~~~62),if_neg (~~~62)];simp only[if_pos d]
  .rw[if_neg d];by_cases e:a+1=k
   .rw[if_pos e,if_pos (~~~62)]
   .rw[if_neg e,if_neg (~~~62)];simp only[if_neg d]
theorem FZ:∀{n k:Nat} {B:sR} (x y:Int) (u v:Nat->Int),k<n->
  det n (cI B k (λc=>x*u c+y*v c))=x*det n (cI B k u)+y*det n (cI B k v)
 |0,_,_,_,_,_,_,h=>by omega
 |n+1,k,B,x,y,u,v,h=>by
  show sumZ _ _=x*sumZ _ _+y*sumZ _ _;rw[<-C4];apply j_;intro i hi;by_cases e:i=k
  .subst e;rw[pj,pj,pj];simp only[cI,if_true];grind
  .rw[yG _ e,yG _ e,yG _ e,FZ x y _ _ (by split<;>omega)];simp only[cI,if_neg e];grind
theorem Tn (i:Nat):sgn (i+1)= -sgn i:=by
 unfold sgn;by_cases h:i%2=0
 .rw[if_pos h,if_neg (~~~62)]
 .rw[if_neg h,if_pos (~~~62)];rfl
theorem AL:∀{n k:Nat} {B:sR},k+1<n->(∀b,b<n->B k b=B (k+1) b)->det n B=0
 |0,_,_,h,_=>by omega
 |n+1,k,B,h,e=>by
  show sumZ _ _=0;rw[TU (p:=k) (s:=k+1) (~~~62) h (~~~62)]
  .have m:det n (minor B k)=det n (minor B (k+1)):=by
    apply mL;intro a b ha hb;unfold minor skip;by_cases c:a<k
    .rw[if_pos c,if_pos (~~~62)]
    .by_cases d:a=k
     .rw[if_neg c,if_pos (~~~62),d];exact(e _ (~~~62)).symm
     .rw[if_neg c,if_neg (~~~62)]
   rw[m,Tn,e 0 (~~~62)];grind
  .intro j hj h1 h2;have z:det n (minor B j)=0:=by
    by_cases c:j<k
    .have hk:k-1+1<n:=by omega
     refine AL (k:=k-1) hk (λb hb=>?_);unfold minor skip;rw[if_neg (~~~62),if_neg (~~~62),show k-1+1+1=k+1 by omega,show k-1+1=k by omega];exact e _ (~~~62)
    .refine AL (k:=k) (~~~62) (λb hb=>?_);unfold minor skip;rw[if_pos (~~~62),if_pos (~~~62)];exact e _ (~~~62)
   rw[z,rj]
theorem nJ (B:sR) (k:Nat):cI B k (B k)=B:=by
 funext a b;unfold cI;split
 .rename_i h;rw[h]
 .rfl
theorem lR {B:sR} {k l:Nat} (u v:Nat->Int) (h:k≠l):cI (cI B k u) l v=cI (cI B l v) k u:=by
 funext a b;unfold cI;by_cases c:a=l
 .rw[if_pos c,if_neg (~~~62),if_pos c]
 .rw[if_neg c];by_cases d:a=k
  .rw[if_pos d,if_pos d]
  .rw[if_neg d,if_neg d,if_neg c]
theorem oO (B:sR) (k:Nat) (v:Nat->Int):cI B k v k=v:=by unfold cI;rw[if_pos rfl]
theorem mW {B:sR} {k a:Nat} (v:Nat->Int) (h:a≠k):cI B k v a=B a:=by unfold cI;rw[if_neg h]
theorem AJ {n k:Nat} {B:sR} (u v:Nat->Int) (h:k<n):det n (cI B k (λc=>u c+v c))=det n (cI B k u)+det n (cI B k v):=by
 have:=FZ (B:=B) 1 1 u v h;simp only[Int.one_mul] at this;exact this
theorem Rj {n k:Nat} (B:sR) (h:k+1<n):det n (cI (cI B k (B (k+1))) (k+1) (B k))= -det n B:=by
 have F:∀u v,det n (cI (cI B k u) (k+1) v)= -det n (cI (cI B k v) (k+1) u):=by
  intro u v;have z:∀w,det n (cI (cI B k w) (k+1) w)=0:=λw=>
   AL (k:=k) h (λb _=>by rw[mW _ (~~~62),oO,oO])
  have s:=z (λc=>u c+v c);rw[AJ _ _ h,lR _ _ (by omega:k≠k+1),AJ _ _ (~~~62),lR _ _ (by omega:k≠k+1),AJ _ _ (~~~62),
   lR _ _ (by omega:k+1≠k),lR _ _ (by omega:k+1≠k),lR _ _ (by omega:k+1≠k),lR _ _ (by omega:k+1≠k),z u,z v] at s
  omega
 rw[F,nJ,nJ]
theorem Lv:∀(g:Nat) {n k:Nat} {B:sR},k+g+1<n->(∀b,b<n->B k b=B (k+g+1) b)->det n B=0
 |0,n,k,B,h,e=>AL h e
 |g+1,n,k,B,h,e=>by
  have s:=Rj (n:=n) (k:=k+g+1) B (~~~62);have z:=Lv g (n:=n) (k:=k) (B:=cI (cI B (k+g+1) (B (k+g+1+1))) (k+g+1+1) (B (k+g+1))) (~~~62) (λb hb=>by
   rw[mW _ (~~~62),mW _ (~~~62),mW _ (~~~62),oO];exact e b hb)
  omega
theorem IE {n k l:Nat} {B:sR} (hk:k<n) (hl:l<n) (jE:k≠l) (e:∀b,b<n->B k b=B l b):det n B=0:=by
 by_cases c:k<l
 .have q:k+(l-k-1)+1=l:=by omega
  exact Lv (l-k-1) (k:=k) (~~~62) (by rw[q];exact e)
 .have q:l+(k-l-1)+1=k:=by omega
  exact Lv (k-l-1) (k:=l) (~~~62) (by rw[q];exact λb hb=>(e b hb).symm)
theorem uL {n k:Nat} {B:sR} (x:Int) (u:Nat->Int) (h:k<n):det n (cI B k (λc=>x*u c))=x*det n (cI B k u):=by
 have:=FZ (B:=B) x 0 u u h;rw[show(λc=>x*u c+0*u c)=λc=>x*u c from by funext c;grind] at this;rw[this];grind
theorem Rk {n k:Nat} {B:sR} (h:k<n):det n (cI B k (λ_=>0))=0:=by
 have:=uL (B:=B) 0 (λ_=>0) h;simpa using this
theorem AM {n k:Nat} {B:sR} (h:k<n) (x:Nat->Int) (u:Nat->Nat->Int):∀m,det n (cI B k (λc=>sumZ m (λj=>x j*u j c)))=sumZ m (λj=>x j*det n (cI B k (u j)))
 |0=>Rk h
 |m+1=>by
  show det n (cI B k (λc=>sumZ m (λj=>x j*u j c)+x m*u m c))=sumZ m _+_;rw[AJ _ _ h,AM h x u m,uL _ _ h]
theorem IF {n k:Nat} {B:sR} (h:k<n) (x:Nat->Int):det n (cI B k (λc=>sumZ n (λj=>x j*B j c)))=x k*det n B:=by
 rw[AM h,my h]
 .rw[nJ]
 .intro j hj jE;rw[IE (k:=j) (l:=k) hj h jE (λb _=>by rw[mW _ jE,oO]),rj]
def unit (k:Nat):Nat->Int:=λc=>if c=k then 1 else 0
theorem IG:∀n,det n unit=1
 |0=>rfl
 |n+1=>by
  show sumZ _ _=1;rw[my (p:=0) (~~~62)]
  .have:det n (minor unit 0)=1:=by
    rw[<-IG n];apply mL;intro a b _ _;have q:skip 0 a=a+1:=if_neg (~~~62);unfold minor unit;rw[q];by_cases e:b=a
    .rw[if_pos (~~~62),if_pos e]
    .rw[if_neg (~~~62),if_neg e]
   rw[this];rfl
  .intro j _ jE;have:unit j 0=0:=if_neg (~~~62);rw[this];simp
def fact:Nat->Nat
 |0=>1
 |n+1=>(n+1)*fact n
theorem NY:∀{n:Nat} {f:Nat->Int} {M:Nat},(∀j,j<n->(f j).natAbs <=M)->(sumZ n f).natAbs <=n*M
 |0,_,_,_=>by simp[sumZ]
 |n+1,f,M,h=>by
  have a:=NY (n:=n) (~~~192);have b:=h n (~~~62);show(sumZ n f+f n).natAbs <=_;have:=wJ (sumZ n f) (f n);rw[nj];omega
theorem V0 (i:Nat):(sgn i).natAbs =1:=by unfold sgn;split<;>rfl
theorem Lw:∀{n:Nat} {B:sR} {M:Nat},(∀a b,a<n->b<n->(B a b).natAbs <=M)->(det n B).natAbs <=fact n*M^n
 |0,_,_,_=>by simp[det,fact]
 |n+1,B,M,h=>by
  show(sumZ _ _).natAbs <=(n+1)*fact n*M^(n+1);have:(n+1)*fact n*M^(n+1)=(n+1)*(M*(fact n*M^n)):=by rw[rE];grind
  rw[this];apply NY;intro i hi;rw[jZ,jZ,V0,tN];apply i8 (h i 0 hi (~~~62));apply Lw;intro a b ha hb;unfold minor skip;split
  .exact h _ _ (~~~62) (~~~62)
  .exact h _ _ (~~~62) (~~~62)
end Du
namespace Du
open Bl (dM fV sumTo)
variable {n R:Nat} {M T T':sR} {b:Nat->Nat} {d:Int} {r c:Nat}
def Bm (M:sR) (b:Nat->Nat):sR:=λj=>if j=0 then unit 0 else M (b j)
def put (b:Nat->Nat) (c r:Nat):Nat->Nat:=λj=>if j=c then r else b j
structure Tb (n R:Nat) (M:sR) (b:Nat->Nat) (T:sR) (d:Int):Prop where
 pos:0<d
 dt:d=det (n+1) (Bm M b)
 told:∀i,i<R->∀k,k<=n->d*M i k=sumZ (n+1) (λj=>T i j*Bm M b j k)
 base:∀j,1<=j->j<=n->1<=b j/\b j<R
theorem kr {N k:Nat} {B:sR} {u v:Nat->Int} (h:∀x,x<N->u x=v x):det N (cI B k u)=det N (cI B k v):=by
 apply mL;intro a x _ hx;unfold cI;split
 .exact h x hx
 .rfl
theorem Tb.entry (S:Tb n R M b T d) {i k:Nat} (hi:i<R) (hk:k<=n):T i k=det (n+1) (cI (Bm M b) k (M i)):=by
 have e:=IF (n:=n+1) (k:=k) (B:=Bm M b) (~~~62) (T i);have e2:det (n+1) (cI (Bm M b) k (λx=>d*M i x))=T i k*det (n+1) (Bm M b):=by
  rw[<-e];apply kr;intro x hx;exact S.told i hi x (~~~62)
 rw[uL _ _ (~~~62),<-S.dt,Int.mul_comm (T i k)] at e2;exact(ku (by have:=S.pos;omega) e2).symm
theorem K1 (hc:1<=c):Bm M (put b c r)=cI (Bm M b) c (M r):=by
 funext j x;unfold Bm put cI;by_cases h:j=c
 .rw[if_pos h,if_pos h,if_neg (~~~62)]
 .rw[if_neg h,if_neg h]
theorem Tb.mix (S:Tb n R M b T d) {i x:Nat} (hi:i<R) (hr:r<R) (hc:1<=c) (O0:c<=n) (hx:x<=n):
  d*(T r c*M i x)=sumZ (n+1) (~~~98):=by
 have e1:sumZ (n+1) (~~~98)=
   sumZ (n+1) (λj=>(T i j*T r c-T i c*T r j)*Bm M b j x+(if j=c then d*T i c*M r x else 0)):=by
  apply j_;intro j hj;rw[K1 hc];by_cases h:j=c
  .rw[if_pos h,if_pos h,h,oO];grind
  .rw[if_neg h,if_neg h,mW _ h];grind
 rw[e1,C3,my (p:=c) (n:=n+1) (f:=λj=>if j=c then d*T i c*M r x else 0) (~~~62) (λj _ h=>if_neg h),if_pos rfl];have e2:sumZ (n+1) (λj=>(T i j*T r c-T i c*T r j)*Bm M b j x)=T r c*sumZ (n+1) (λj=>T i j*Bm M b j x)+(-T i c)*sumZ (n+1) (λj=>T r j*Bm M b j x):=by
  rw[<-C4];exact j_ (~~~174)
 rw[e2,<-S.told i hi x hx,<-S.told r hr x hx];grind
theorem Tb.exact (S:Tb n R M b T d) {i k:Nat} (hi:i<R) (hr:r<R) (hc:1<=c) (O0:c<=n) (hp:0<T r c) (hk:k<=n) (Z8:k≠c):
  T i k*T r c-T i c*T r k=d*det (n+1) (cI (Bm M (put b c r)) k (M i)):=by
 have D:det (n+1) (Bm M (put b c r))=T r c:=by rw[K1 hc];exact(S.entry hr O0).symm
 have e:=IF (n:=n+1) (k:=k) (B:=Bm M (put b c r)) (~~~62) (λj=>if j=c then d*T i c else T i j*T r c-T i c*T r j);have e2:det (n+1) (cI (Bm M (put b c r)) k (λx=>(d*T r c)*M i x))=(T i k*T r c-T i c*T r k)*T r c:=by
  rw[kr (v:=λx=>sumZ (n+1) (~~~98)),e,D,if_neg Z8];intro x hx;rw[<-S.mix hi hr hc O0 (~~~62)];grind
 rw[uL _ _ (~~~62)] at e2;have:T r c*(T i k*T r c-T i c*T r k)=T r c*(d*det (n+1) (cI (Bm M (put b c r)) k (M i))):=by grind
 exact ku (~~~62) this
theorem Tb.next (S:Tb n R M b T d) (hr:r<R) (hr1:1<=r) (hc:1<=c) (O0:c<=n) (hp:0<T r c)
  (h1:∀i,i<R->∀k,k<=n->k≠c->T' i k=(T i k*T r c-T i c*T r k).fdiv d) (h2:∀i,i<R->T' i c=T i c):
  Tb n R M (put b c r) T' (T r c)/\∀i,i<R->∀k,k<=n->k≠c->T' i k*d=T i k*T r c-T i c*T r k:=by
 have dp:=S.pos;have ex:∀i,i<R->∀k,k<=n->k≠c->T' i k*d=T i k*T r c-T i c*T r k:=by
  intro i hi k hk Z8;rw[h1 i hi k hk Z8,S.exact hi hr hc O0 hp hk Z8,Int.mul_fdiv_cancel_left _ (~~~62)];grind
 refine⟨⟨hp,by rw[K1 hc];exact S.entry hr O0,λi hi x hx=>?_,λj hj KZ=>?_⟩,ex⟩
 .have e:=S.mix hi hr hc O0 hx;have e2:sumZ (n+1) (~~~98)=d*sumZ (n+1) (λj=>T' i j*Bm M (put b c r) j x):=by
   rw[<-Kb];apply j_;intro j hj;by_cases h:j=c
   .rw[if_pos h,h,h2 i hi];grind
   .rw[if_neg h,<-ex i hi j (~~~62) h];grind
  rw[e2] at e;exact ku (~~~62) e
 .unfold put;split
  .exact⟨hr1,hr⟩
  .exact S.base j hj KZ
theorem Tb.first (hR:n<R) (hM:∀j,1<=j->j<=n->∀k,k<=n->M j k=unit j k):Tb n R M (λj=>j) M 1:=by
 have B:∀j,j<=n->∀k,k<=n->Bm M (λj=>j) j k=unit j k:=by
  intro j hj k hk;unfold Bm;by_cases h:j=0
  .rw[if_pos h,h]
  .rw[if_neg h];exact hM j (~~~62) hj k hk
 refine⟨by decide,?_,λi hi k hk=>?_,λj h1 h2=>⟨h1,by omega⟩⟩
 .rw[<-IG (n+1)];exact(mL (λa x ha hx=>B a (~~~62) x (~~~62))).symm
 .rw[my (p:=k) (~~~62)]
  .rw[B k hk k hk];exists 110
  .intro j hj jE;rw[B j (~~~62) k hk];unfold unit;rw[if_neg (~~~62)];simp
theorem Tb.column (S:Tb n R M b T d) (hR:n<R) (hM:∀j,1<=j->j<=n->∀k,k<=n->M j k=unit j k) {j:Nat} (h1:1<=j) (h2:j<=n):∃i,1<=i/\i<=n/\T i j≠0:=by
 apply aK;intro no;have z:∀i,1<=i->i<=n->T i j=0:=λi a c=>aK λh=>no ⟨i,a,c,h⟩;have e1:det (n+1) (cI (Bm M b) j (Bm M b j))=d:=by rw[nJ,S.dt]
 have e2:det (n+1) (cI (Bm M b) j (Bm M b j))=det (n+1) (cI (Bm M b) j (λx=>sumZ (n+1) (λk=>Bm M b j k*unit k x))):=by
  apply kr;intro x hx;rw[my (p:=x) hx]
  .exists 110
  .intro k _ jE;unfold unit;rw[if_neg (~~~62)];simp
 rw[AM (~~~62)] at e2;rw[sumZ_zero] at e2
 .have:=S.pos;omega
 .intro k hk;by_cases h:k=0
  .rw[IE (k:=0) (l:=j) (~~~62) (~~~62) (~~~62),rj];intro x _;rw[mW _ (~~~62),oO,h];rfl
  .have:det (n+1) (cI (Bm M b) j (unit k))=T k j:=by
    rw[S.entry (~~~62) h2];exact kr (λx hx=>(hM k (~~~62) (~~~62) x (~~~62)).symm)
   rw[this,z k (~~~62) (~~~62),rj]
def Up (n:Nat) (T:sR):Prop:=∀j,1<=j->j<=n->fV (n+1) (λi=> - ((T i j:Int):Rat))
def WC (n:Nat) (T:sR) (r c:Nat):Prop:=
 ∀j,1<=j->j<=n->0<T r j->fV (n+1) (λi=>((T i c:Int):Rat)/ ((T r c:Int):Rat)- ((T i j:Int):Rat)/ ((T r j:Int):Rat))
theorem nA {K:Nat} {v:Nat->Rat} {a:Rat} (ha:0<=a) (h:fV K v):fV K (λk=>a*v k):=by
 by_cases z:a=0
 .right;intro k _;rw[z];grind
 .rcases h with h|h
  .left;exact Bl.iL (~~~271) h
  .right;intro k hk;show a*v k=0;rw[h k hk];grind
theorem cast_pos {x:Int} (h:0<x):(0:Rat)< (x:Rat):=by exact_mod_cast h
theorem nq {x:Int} (h:0<=x):(0:Rat)<=(x:Rat):=by exact_mod_cast h
theorem M9 {x:Int} (h:x≠0):(x:Rat)≠0:=by exact_mod_cast h
theorem Wh (S:Tb n R M b T d) (hR:n<R) (U:Up n T) (hc:1<=c) (O0:c<=n) (hp:0<T r c) (L:WC n T r c)
  (ex:∀i,i<R->∀k,k<=n->k≠c->T' i k*d=T i k*T r c-T i c*T r k) (h2:∀i,i<R->T' i c=T i c):Up n T':=by
 intro j h1 hj;by_cases h:j=c
 .subst h;exact Bl.d_ (λi hi=>by rw[h2 i (~~~62)]) (U j h1 hj)
 have dp:=cast_pos S.pos;have pp:=cast_pos hp;have eq:∀i,i<n+1-> - ((T' i j:Int):Rat)=(((T i c:Int):Rat)*((T r j:Int):Rat)- ((T i j:Int):Rat)*((T r c:Int):Rat))/ (d:Rat):=by
  intro i hi;have e:=ex i (~~~62) j hj h;have e':((T' i j:Int):Rat)*(d:Rat)=((T i j:Int):Rat)*((T r c:Int):Rat)- ((T i c:Int):Rat)*((T r j:Int):Rat):=by exact_mod_cast e
  exists 116
  grind
 by_cases q:0<T r j
 .have qp:=cast_pos q;have sc:(0:Rat)<=((T r j:Int):Rat)*((T r c:Int):Rat)/ (d:Rat):=Bl.ia (by have:=j3 qp pp;grind) dp;refine Bl.d_ (λi hi=>?_) (nA sc (L j h1 hj q));rw[eq i hi];exists 116
  have:((T r j:Int):Rat)≠0:=by grind
  have:((T r c:Int):Rat)≠0:=by grind
  grind
 .have qn:(0:Rat)<= - ((T r j:Int):Rat):=by
   have:=nq (x:= -T r j) (~~~62);rw[fU] at this;exact this
  have a:=nA (a:=((T r c:Int):Rat)/ (d:Rat)) (Bl.ia (~~~271) dp) (U j h1 hj);have a':=nA (a:= - ((T r j:Int):Rat)/ (d:Rat)) (Bl.ia qn dp) (U c hc O0);refine Bl.d_ (λi hi=>?_) (Bl.yC a a');rw[eq i hi];exists 116
  grind
theorem Qq (S:Tb n R M b T d) (hR:n<R) (hM:∀j,1<=j->j<=n->∀k,k<=n->M j k=unit j k) (U:Up n T) {j:Nat} (h1:1<=j) (h2:j<=n):
  dM (n+1) (λi=> - ((T i j:Int):Rat)):=by
 rcases U j h1 h2 with h|h
 .exact h
 .exfalso
  obtain⟨i,a,e,ne⟩:=S.column hR hM h1 h2;have:=h i (~~~62);exact M9 ne (~~~271)
def jP (T:sR) (d:Int) (i:Nat):Rat:=((T i 0:Int):Rat)/ (d:Rat)
theorem XZ (S:Tb n R M b T d) (hR:n<R) (hM:∀j,1<=j->j<=n->∀k,k<=n->M j k=unit j k) (U:Up n T) (hc:1<=c) (O0:c<=n) (hp:0<T r c) (hb:T r 0<0)
  (ex:∀i,i<R->∀k,k<=n->k≠c->T' i k*d=T i k*T r c-T i c*T r k):
  dM (n+1) (λi=>jP T d i-jP T' (T r c) i):=by
 have dp:=cast_pos S.pos;have pp:=cast_pos hp;have bp:(0:Rat)< - ((T r 0:Int):Rat):=by
  have:=cast_pos (x:= -T r 0) (~~~62);rw[fU] at this;exact this
 have sc:(0:Rat)< - ((T r 0:Int):Rat)/ ((d:Rat)*((T r c:Int):Rat)):=by
  rw[fT];exact j3 bp (iE.mpr (j3 dp pp))
 refine Bl.ei (λi hi=>?_) (Bl.iL sc (Qq S hR hM U hc O0));have e:=ex i (~~~62) 0 (~~~62) (~~~62);have e':((T' i 0:Int):Rat)*(d:Rat)=((T i 0:Int):Rat)*((T r c:Int):Rat)- ((T i c:Int):Rat)*((T r 0:Int):Rat):=by exact_mod_cast e
 unfold jP;have h1:(d:Rat)≠0:=by grind
 have h2:((T r c:Int):Rat)≠0:=by grind
 have h3:((T' i 0:Int):Rat)=(((T i 0:Int):Rat)*((T r c:Int):Rat)- ((T i c:Int):Rat)*((T r 0:Int):Rat))/ (d:Rat):=by grind
 rw[h3];grind
theorem JX {b':Nat->Nat} {d':Int} (S:Tb n R M b T d) (S':Tb n R M b' T' d') (h:∀j,1<=j->j<=n->b j=b' j) (hR:n<R):
  ∀i,i<n+1->jP T d i=jP T' d' i:=by
 have B:∀a x,a<n+1->x<n+1->Bm M b a x=Bm M b' a x:=by
  intro a x ha _;unfold Bm;by_cases z:a=0
  .rw[if_pos z,if_pos z]
  .rw[if_neg z,if_neg z,h a (~~~62) (~~~62)]
 have e1:d=d':=by rw[S.dt,S'.dt];exact mL B
 intro i hi;have e2:T i 0=T' i 0:=by
  rw[S.entry (~~~62) (~~~62),S'.entry (~~~62) (~~~62)];apply mL;intro a x ha hx;unfold cI;split
  .rfl
  .exact B a x ha hx
 unfold jP;rw[e1,e2]
def worth (n:Nat) (M:sR) (i:Nat) (y:Nat->Rat):Rat:=((M i 0:Int):Rat)+sumTo n (λj=>((M i (j+1):Int):Rat)*y j)
def Meets (n R:Nat) (M:sR) (y:Nat->Rat):Prop:=∀i,1<=i->i<R->0<=worth n M i y
def Va (y:Nat->Rat):Nat->Rat
 |0=>1
 |j+1=>y j
theorem uC (f:Nat->Rat):∀n,sumTo (n+1) f=f 0+sumTo n (λj=>f (j+1))
 |0=>by show(0:Rat)+f 0=f 0+0;grind
 |n+1=>by
  show sumTo (n+1) f+f (n+1)=f 0+(sumTo n (λj=>f (j+1))+f (n+1));rw[uC f n];grind
theorem Fj (i:Nat) (y:Nat->Rat):worth n M i y=sumTo (n+1) (λk=>((M i k:Int):Rat)*Va y k):=by
 rw[uC];unfold worth Va;grind
theorem C0 (f:Nat->Nat->Rat) (m:Nat):∀n,sumTo n (λk=>sumTo m (λj=>f j k))=sumTo m (λj=>sumTo n (λk=>f j k))
 |0=>by
  show(0:Rat)=_;exact(Bl.j9 (λj _=>rfl)).symm
 |n+1=>by
  show sumTo n _+sumTo m _=_;rw[C0 f m n,<-Bl.mX];exact Bl.bq (λj _=>rfl)
theorem y4 (f:Nat->Int):∀n,((sumZ n f:Int):Rat)=sumTo n (λj=>((f j:Int):Rat))
 |0=>rfl
 |n+1=>by
  show(((sumZ n f+f n:Int)):Rat)=sumTo n _+_;rw[sN,y4 f n]
theorem Tb.worth (S:Tb n R M b T d) {i:Nat} (hi:i<R) (y:Nat->Rat):
  (d:Rat)*worth n M i y=((T i 0:Int):Rat)+sumTo n (λj=>((T i (j+1):Int):Rat)*worth n M (b (j+1)) y):=by
 have w0:sumTo (n+1) (λk=>((Bm M b 0 k:Int):Rat)*Va y k)=1:=by
  rw[Bl.fR (p:=0) (~~~62)]
  .show((unit 0 0:Int):Rat)*1=1;exists 110
  .intro j _ jE;show((unit 0 j:Int):Rat)*_=0;unfold unit;rw[if_neg jE];grind
 have wj:∀j,sumTo (n+1) (λk=>((Bm M b (j+1) k:Int):Rat)*Va y k)=Du.worth n M (b (j+1)) y:=by
  intro j;rw[Fj];rfl
 have e:(d:Rat)*Du.worth n M i y=sumTo (n+1) (λk=>sumTo (n+1) (λj=>((T i j:Int):Rat)*((Bm M b j k:Int):Rat)*Va y k)):=by
  rw[Fj,<-Bl.dk];apply Bl.bq;intro k hk;have t:=S.told i hi k (~~~62);have t':(d:Rat)*((M i k:Int):Rat)=sumTo (n+1) (λj=>((T i j:Int):Rat)*((Bm M b j k:Int):Rat)):=by
   have:(((d*M i k:Int)):Rat)=((sumZ (n+1) (λj=>T i j*Bm M b j k):Int):Rat):=by rw[t]
   rw[dD,y4] at this;rw[this];exact Bl.bq (λj _=>by rw[dD])
  have:(d:Rat)*(((M i k:Int):Rat)*Va y k)=Va y k*((d:Rat)*((M i k:Int):Rat)):=by grind
  rw[this,t',<-Bl.dk];exact Bl.bq (~~~174)
 rw[e,C0,uC];have c0:sumTo (n+1) (λk=>((T i 0:Int):Rat)*((Bm M b 0 k:Int):Rat)*Va y k)=((T i 0:Int):Rat):=by
  rw[Bl.bq (g:=λk=>((T i 0:Int):Rat)*(((Bm M b 0 k:Int):Rat)*Va y k)) (~~~200),Bl.dk,w0];grind
 rw[c0];congr 1;apply Bl.bq;intro j hj;rw[<-wj j,<-Bl.dk];exact Bl.bq (~~~200)
def pt (T:sR) (d:Int) (j:Nat):Rat:=jP T d (j+1)
theorem Tb.Eu (S:Tb n R M b T d) (hR:n<R) (hM:∀j,1<=j->j<=n->∀k,k<=n->M j k=unit j k) {i:Nat} (hi:i<R):Du.worth n M i (pt T d)=jP T d i:=by
 have dp:=cast_pos S.pos;have e:T i 0=d*M i 0+sumZ n (λk=>M i (k+1)*T (k+1) 0):=by
  rw[S.entry hi (~~~62)];have:det (n+1) (cI (Bm M b) 0 (M i))=det (n+1) (cI (Bm M b) 0 (λx=>sumZ (n+1) (λk=>M i k*unit k x))):=by
   apply kr;intro x hx;rw[my (p:=x) hx]
   .exists 110
   .intro k _ jE;unfold unit;rw[if_neg (~~~62)];simp
  rw[this,AM (~~~62)];have sh:∀(f:Nat->Int) (m:Nat),sumZ (m+1) f=f 0+sumZ m (λj=>f (j+1)):=by
   intro f m
   induction m with
   |zero=>show 0+f 0=f 0+0;omega
   |succ m ih=>show sumZ (m+1) f+f (m+1)=f 0+(sumZ m (λj=>f (j+1))+f (m+1));rw[ih];omega
  rw[sh];have z:det (n+1) (cI (Bm M b) 0 (unit 0))=d:=by
   have:cI (Bm M b) 0 (unit 0)=Bm M b:=nJ (Bm M b) 0;rw[this,S.dt]
  rw[z,Int.mul_comm];congr 1;apply j_;intro k hk;have:det (n+1) (cI (Bm M b) 0 (unit (k+1)))=T (k+1) 0:=by
   rw[S.entry (~~~62) (~~~62)];exact kr (λx hx=>(hM (k+1) (~~~62) (~~~62) x (~~~62)).symm)
  rw[this]
 have e':((T i 0:Int):Rat)=(d:Rat)*((M i 0:Int):Rat)+sumTo n (λk=>((M i (k+1):Int):Rat)*((T (k+1) 0:Int):Rat)):=by
  rw[e,sN,dD,y4];congr 1;exact Bl.bq (λj _=>by rw[dD])
 unfold jP Du.worth pt jP;rw[e'];have:sumTo n (λj=>((M i (j+1):Int):Rat)*(((T (j+1) 0:Int):Rat)/ (d:Rat)))=(1/ (d:Rat))*sumTo n (λk=>((M i (k+1):Int):Rat)*((T (k+1) 0:Int):Rat)):=by
  rw[<-Bl.dk];exact Bl.bq (~~~174)
 rw[this];exists 116
 grind
theorem Tb.least (S:Tb n R M b T d) (hR:n<R) (hM:∀j,1<=j->j<=n->∀k,k<=n->M j k=unit j k) (U:Up n T) (no:∀i,1<=i->i<R->0<=T i 0):
  Meets n R M (pt T d)/\∀y,Meets n R M y->fV (n+1) (λi=>Du.worth n M i (pt T d)-Du.worth n M i y):=by
 have dp:=cast_pos S.pos;refine⟨λi h1 hi=>?_,λy hy=>?_⟩
 .rw[S.Eu hR hM hi];exact Bl.ia (nq (no i h1 hi)) dp
 .have key:fV (n+1) (λi=> -sumTo n (λj=>((T i (j+1):Int):Rat)*Du.worth n M (b (j+1)) y)):=by
   refine Bl.AS (f:=λj i=>((T i (j+1):Int):Rat)*Du.worth n M (b (j+1)) y) (λj hj=>?_);have hb:=S.base (j+1) (~~~62) (~~~62);refine Bl.d_ (λi hi=>?_) (nA (hy (b (j+1)) hb.1 hb.2) (U (j+1) (~~~62) (~~~62)));grind
  have ip:(0:Rat)<=1/ (d:Rat):=Bl.ia (~~~271) dp;refine Bl.d_ (λi hi=>?_) (nA ip key);rw[S.Eu hR hM (~~~62)];have e:=S.worth (i:=i) (~~~62) y;unfold jP;exists 116
  grind
theorem Tb.none (S:Tb n R M b T d) {r:Nat} (h1:1<=r) (hr:r<R) (hb:T r 0<0) (no:∀j,1<=j->j<=n->T r j<=0):∀y,¬Meets n R M y:=by
 intro y hy;have dp:=cast_pos S.pos;have e:=S.worth hr y;have a:=hy r h1 hr;have s:0<=sumTo n (~~~166):=by
  apply Bl.oM;intro j hj;have hbj:=S.base (j+1) (~~~62) (~~~62);have q:=nq (x:= -T r (j+1)) (by have:=no (j+1) (~~~62) (~~~62);omega);rw[fU] at q;exact bX q (hy _ hbj.1 hbj.2)
 have s2:sumTo n (~~~166)= -sumTo n (λj=>((T r (j+1):Int):Rat)*Du.worth n M (b (j+1)) y):=by
  have:sumTo n (~~~166)=sumTo n (λj=>(-1)*(((T r (j+1):Int):Rat)*Du.worth n M (b (j+1)) y)):=Bl.bq (~~~174);rw[this,Bl.dk];grind
 have bn:((T r 0:Int):Rat)<0:=by exact_mod_cast hb
 have:=bX (fJ dp) a;grind
end Du
namespace Du
open Bl (dM fV sumTo)
structure DS where
 tab:List (~~~94)
 d:Int
def l8 (tab:List (~~~94)):sR:=λi k=>(tab.getD i []).getD k 0
def alone (count place:Nat) (number:Int):List Int:=(bT count 0).set place number
def ee (costs:List Int) (conds:List (~~~94)):List (~~~94):=
 [0::costs]++(ax costs.length).map (λp=>0::alone costs.length p 1)++conds
def gL (tab:List (~~~94)):Option (~~~94):=(tab.drop 1).find? (λrow=>decide (row.getD 0 0<0))
def jo:List (~~~94)->List Int->Nat->Nat->Bool
 | [],_,_,_=>false
 |row::rest,br,one,other=>
  let diff:=row.getD one 0*br.getD other 0-row.getD other 0*br.getD one 0
  if diff≠0 then decide (diff<0) else jo rest br one other
def kJ (rows:List (~~~94)) (br:List Int):Nat->Option Nat
 |0=>none
 |m+1=>if 0<br.getD (m+1) 0 then
   (match kJ rows br m with
    |none=>some (m+1)
    |some o=>if jo rows br (m+1) o=true then some (m+1) else some o)
  else kJ rows br m
def turned (br:List Int) (c:Nat) (d:Int) (row:List Int):List Int:=
 ((row.zip br).map λx=>(x.1*br.getD c 0-row.getD c 0*x.2).fdiv d).set c (row.getD c 0)
def Dz (n:Nat) (s:DS):Option DS:=match gL s.tab with
 |none=>none
 |some br=>match kJ (~~~238) br (br.length-1) with
  |none=>none
  |some c=>some ⟨s.tab.map (turned br c s.d),br.getD c 0⟩
def xy (n:Nat) (s:DS):Nat->DS
 |0=>s
 |k+1=>(Dz n (xy n s k)).getD (xy n s k)
theorem B3 {n:Nat} {s:DS} {k:Nat} (h:Dz n (xy n s k)=none):∀m,xy n s (k+m)=xy n s k
 |0=>rfl
 |m+1=>by
  show(Dz n (xy n s (k+m))).getD (xy n s (k+m))=_;rw[B3 h m,h];rfl
structure Sh (n R:Nat) (tab:List (List Int)):Prop where
 len:tab.length=R
 row:∀r,r∈tab->r.length=n+1
variable {n R:Nat} {M:sR}
theorem kh {A:Type} {l:List A} {i:Nat} {d x:A} (h:l[i]?=some x):l.getD i d=x:=by
 rw[ai,h];rfl
theorem Sh.rowAt {tab:List (~~~94)} (S:Sh n R tab) {i:Nat} (h:i<R):∃r,tab[i]?=some r/\tab.getD i []=r/\r.length=n+1:=by
 have hl:i<tab.length:=by rw[S.len];exact h
 exact⟨tab[i],ah hl,kh (ah hl),S.row _ (bM hl)⟩
theorem zt {tab:List (~~~94)} (S:Sh n R tab) {br:List Int} (h:gL tab=some br):
  ∃r,1<=r/\r<R/\tab.getD r []=br/\l8 tab r 0<0:=by
 unfold gL at h;have h1:=kx h;have h2:=z9 h;obtain⟨i,hi,e⟩:=cQ.mp h1;have hl:i< (tab.drop 1).length :=hi;rw[dg,S.len] at hl;rw[wL] at e;have g:tab.getD (1+i) []=br:=kh (by rw[<-e];exact ah _);refine⟨1+i,by omega,by omega,g,?_⟩;unfold l8;rw[g];simpa using h2
theorem Im {tab:List (~~~94)} (S:Sh n R tab) (h:gL tab=none):∀i,1<=i->i<R->0<=l8 tab i 0:=by
 intro i h1 hi;unfold gL at h;rw[lj] at h;obtain⟨r,e,g,_⟩:=S.rowAt hi;have m:r∈tab.drop 1:=by
  rw[ij];exact⟨i-1,by rw[vA,show 1+(i-1)=i by omega];exact e⟩
 have:=h r m;unfold l8;rw[g];simp at this;simpa using this
theorem tU {br:List Int} {a o:Nat} (ha:0<br.getD a 0) (ho:0<br.getD o 0):∀rows:List (~~~94),
  jo rows br a o=true↔dM rows.length (λi=>((l8 rows i a:Int):Rat)/ ((br.getD a 0:Int):Rat)- ((l8 rows i o:Int):Rat)/ ((br.getD o 0:Int):Rat))
 | []=>by simp[jo,dM]
 |row::rest=>by
  have ap:=cast_pos ha;have op:=cast_pos ho;have ih:=tU ha ho rest;have e0:jo (row::rest) br a o=if row.getD a 0*br.getD o 0-row.getD o 0*br.getD a 0≠0 then decide (row.getD a 0*br.getD o 0-row.getD o 0*br.getD a 0<0) else jo rest br a o:=rfl
  rw[e0];generalize br.getD a 0=p at*
  generalize br.getD o 0=q at*
  have hd:∀z:Int,(row.getD a 0*q-row.getD o 0*p=z)->((row.getD a 0:Int):Rat)/ (p:Rat)- ((row.getD o 0:Int):Rat)/ (q:Rat)=(z:Rat)/ ((p:Rat)*(q:Rat)):=by
   intro z hz;rw[<-hz,jA,dD,dD];have:(p:Rat)≠0:=by grind
   have:(q:Rat)≠0:=by grind
   grind
  have pq:(0:Rat)< (p:Rat)*(q:Rat):=j3 ap op;have ipq:(0:Rat)< ((p:Rat)*(q:Rat))⁻¹ :=iE.mpr pq;show(if row.getD a 0*q-row.getD o 0*p≠0 then decide (row.getD a 0*q-row.getD o 0*p<0) else jo rest br a o)=true↔
   (((row.getD a 0:Int):Rat)/ (p:Rat)- ((row.getD o 0:Int):Rat)/ (q:Rat)<0\/(((row.getD a 0:Int):Rat)/ (p:Rat)- ((row.getD o 0:Int):Rat)/ (q:Rat)=0/\
    dM rest.length (λi=>((l8 rest i a:Int):Rat)/ (p:Rat)- ((l8 rest i o:Int):Rat)/ (q:Rat))))
  generalize hz:row.getD a 0*q-row.getD o 0*p=z;rw[hd z hz];by_cases z0:z=0
  .subst z0;rw[if_neg (~~~88),ih];constructor
   .intro h;right;exact⟨by rw[fT];simp,h⟩
   .rintro(h|h)
    .exfalso;rw[fT] at h;simp at h
    .exact h.2
  .rw[if_pos z0,decide_eq_true_iff];have zc:=M9 z0;constructor
   .intro h;left;have zn:(z:Rat)<0:=by exact_mod_cast h
    rw[fT];have:=j3 (show(0:Rat)< - (z:Rat) by grind) ipq;grind
   .rintro(h|h)
    .rcases Int.lt_trichotomy z 0 with c|c|c
     .exact c
     .exact absurd c z0
     .exfalso
      have:=j3 (cast_pos c) ipq;rw[fT] at h;grind
    .exfalso
     have h:=h.1;rw[fT] at h;rcases sO.mp h with w|w
     .exact zc w
     .grind
def XC (rows:List (~~~94)) (br:List Int) (m:Nat):Option Nat->Prop
 |none=>∀j,1<=j->j<=m->br.getD j 0<=0
 |some c=>1<=c/\c<=m/\0<br.getD c 0/\∀j,1<=j->j<=m->0<br.getD j 0->
   fV rows.length (λi=>((l8 rows i c:Int):Rat)/ ((br.getD c 0:Int):Rat)- ((l8 rows i j:Int):Rat)/ ((br.getD j 0:Int):Rat))
theorem xc (rows:List (~~~94)) (br:List Int):∀m,XC rows br m (kJ rows br m)
 |0=>λj h1 h2=>by omega
 |m+1=>by
  have ih:=xc rows br m;unfold kJ;by_cases hp:0<br.getD (m+1) 0
  .rw[if_pos hp];cases e:kJ rows br m with
   |none=>
    rw[e] at ih;refine⟨by omega,by omega,hp,λj h1 h2 hj=>?_⟩;by_cases z:j=m+1
    .subst z;right;intro k _;grind
    .have:=ih j h1 (~~~62);omega
   |some o=>
    rw[e] at ih;obtain⟨o1,o2,op,all⟩:=ih;simp only;by_cases ch:jo rows br (m+1) o=true
    .rw[if_pos ch];have lx:=(tU hp op rows).mp ch;refine⟨by omega,by omega,hp,λj h1 h2 hj=>?_⟩;by_cases z:j=m+1
     .subst z;right;intro k _;grind
     .exact Or.inl (Bl.ei (~~~200) (Bl.o_ lx (all j h1 (~~~62) hj)))
    .rw[if_neg ch];refine⟨o1,by omega,op,λj h1 h2 hj=>?_⟩;by_cases z:j=m+1
     .subst z;have nl:¬dM rows.length _:=λh=>ch ((tU hp op rows).mpr h);exact Bl.d_ (~~~200) (Bl.qR nl)
     .exact all j h1 (~~~62) hj
  .rw[if_neg hp];cases e:kJ rows br m with
   |none=>
    rw[e] at ih;intro j h1 h2;by_cases z:j=m+1
    .subst z;omega
    .exact ih j h1 (~~~62)
   |some o=>
    rw[e] at ih;obtain⟨o1,o2,op,all⟩:=ih;refine⟨o1,by omega,op,λj h1 h2 hj=>?_⟩;by_cases z:j=m+1
    .subst z;omega
    .exact all j h1 (~~~62) hj
theorem MG {br row:List Int} {c:Nat} {d:Int} (h:br.length=row.length):(turned br c d row).length =row.length:=by
 unfold turned;simp[h]
theorem Qn {br row:List Int} {c k:Nat} {d:Int} (h:br.length=row.length) (hk:k<row.length):
  (turned br c d row).getD k 0=if k=c then row.getD c 0 else(row.getD k 0*br.getD c 0-row.getD c 0*br.getD k 0).fdiv d:=by
 unfold turned;rw[ai,pM];by_cases e:k=c
 .subst e;rw[if_pos rfl,if_pos rfl,if_pos (by simp[h];exact hk)];rfl
 .rw[if_neg (λz=>e z.symm),if_neg e,bo];have:(row.zip br)[k]?=some (row.getD k 0,br.getD k 0):=by
   rw[ah (by simp[h];exact hk),i7];rw[kh (ah hk),kh (ah (~~~62))]
  rw[this];rfl
structure Good (n R:Nat) (M:sR) (s:DS) (b:Nat->Nat):Prop where
 sh:Sh n R s.tab
 tb:Tb n R M b (l8 s.tab) s.d
 up:Up n (l8 s.tab)
theorem IT {tab:List (~~~94)} {m i:Nat} (h:i<m) (k:Nat):l8 (tab.take m) i k=l8 tab i k:=by
 have:(tab.take m).getD i []=tab.getD i []:=by
  rw[ai,qe h,<-ai]
 unfold l8;rw[this]
theorem Good.next {s s':DS} {b:Nat->Nat} (G:Good n R M s b) (hR:n<R) (hM:∀j,1<=j->j<=n->∀k,k<=n->M j k=unit j k) (h:Dz n s=some s'):
  ∃b',Good n R M s' b'/\dM (n+1) (λi=>jP (l8 s.tab) s.d i-jP (l8 s'.tab) s'.d i):=by
 unfold Dz at h;cases e:gL s.tab with
 |none=>rw[e] at h;simp at h
 |some br=>
  rw[e] at h;simp only at h;obtain⟨r,r1,rR,rb,neg⟩:=zt G.sh e;have brl:br.length=n+1:=by
   obtain⟨q,_,g,l⟩:=G.sh.rowAt rR;rw[<-rb,g];exact l
  have bk:=xc (~~~238) br (br.length-1);cases e2:kJ (~~~238) br (br.length-1) with
  |none=>rw[e2] at h;simp at h
  |some c=>
   rw[e2] at h bk;simp only[bG.injEq] at h;obtain⟨c1,c2,cp,all⟩:=bk;have Tr:∀k,l8 s.tab r k=br.getD k 0:=λk=>by unfold l8;rw[rb]
   have tl:(~~~238).length =n+1:=by rw[cu,G.sh.len];omega
   rw[tl] at all;have Qx:0<l8 s.tab r c:=by rw[Tr];exact cp
   have L:WC n (l8 s.tab) r c:=by
    intro j h1 h2 hj;rw[Tr] at hj;refine Bl.d_ (λi hi=>?_) (all j h1 (~~~62) hj);rw[IT hi,IT hi,Tr,Tr]
   have en:∀i,i<R->∀k,k<=n->l8 s'.tab i k=if k=c then l8 s.tab i c else(l8 s.tab i k*l8 s.tab r c-l8 s.tab i c*l8 s.tab r k).fdiv s.d:=by
    intro i hi k hk;obtain⟨row,e3,g,l⟩:=G.sh.rowAt hi;have:s'.tab.getD i []=turned br c s.d row:=by
     rw[<-h];exact kh (by rw[bo,e3];rfl)
    unfold l8;rw[this,Qn (~~~62) (~~~62),g,rb]
   have hs:s'.d=l8 s.tab r c:=by rw[Tr,<-h]
   obtain⟨t1,ex⟩:=G.tb.next (T':=l8 s'.tab) rR r1 c1 (~~~62) Qx (λi hi k hk Z8=>by rw[en i hi k hk,if_neg Z8]) (λi hi=>by rw[en i hi c (~~~62),if_pos rfl]);have h2:∀i,i<R->l8 s'.tab i c=l8 s.tab i c:=λi hi=>by rw[en i hi c (~~~62),if_pos rfl]
   refine⟨put b c r,⟨⟨?_,?_⟩,by rw[hs];exact t1,Wh G.tb hR G.up c1 (~~~62) Qx L ex h2⟩,?_⟩
   .rw[<-h];simp[G.sh.len]
   .rw[<-h];intro q hq;obtain⟨row,hm,eq⟩:=aS.mp hq;have:=G.sh.row row hm;rw[<-eq,MG (~~~62)];exact this
   .rw[hs];exact XZ G.tb hR hM G.up c1 (~~~62) Qx neg ex
theorem Good.stop {s:DS} {b:Nat->Nat} (G:Good n R M s b) (hR:n<R) (hM:∀j,1<=j->j<=n->∀k,k<=n->M j k=unit j k) (h:Dz n s=none):
  (gL s.tab=none/\Meets n R M (pt (l8 s.tab) s.d)/\∀y,Meets n R M y->fV (n+1) (λi=>Du.worth n M i (pt (l8 s.tab) s.d)-Du.worth n M i y))\/
  ((∃br,gL s.tab=some br/\kJ (~~~238) br (br.length-1)=none)/\∀y,¬Meets n R M y):=by
 unfold Dz at h;cases e:gL s.tab with
 |none=>exact .inl ⟨rfl,G.tb.least hR hM G.up (Im G.sh e)⟩
 |some br=>
  right;rw[e] at h;simp only at h;obtain⟨r,r1,rR,rb,neg⟩:=zt G.sh e;have brl:br.length=n+1:=by
   obtain⟨q,_,g,l⟩:=G.sh.rowAt rR;rw[<-rb,g];exact l
  have bk:=xc (~~~238) br (br.length-1);cases e2:kJ (~~~238) br (br.length-1) with
  |some c=>rw[e2] at h;simp at h
  |none=>
   rw[e2] at bk;refine⟨⟨br,rfl,e2⟩,G.tb.none r1 rR neg (λj h1 h2=>?_)⟩;unfold l8;rw[rb];exact bk j h1 (~~~62)
def code (R:Nat) (b:Nat->Nat):Nat->Nat
 |0=>0
 |n+1=>code R b n*R+b (n+1)
theorem M_ {b:Nat->Nat}:∀n,(∀j,1<=j->j<=n->b j<R)->code R b n<R^n
 |0,_=>by simp[code]
 |n+1,h=>by
  have a:=M_ n (λj h1 h2=>h j h1 (~~~62));have c:=h (n+1) (~~~62) (~~~62);show code R b n*R+b (n+1)<R^(n+1);have:(code R b n+1)*R<=R^n*R:=bQ _ a;rw[nj] at this;rw[rE];omega
theorem code_inj {b b':Nat->Nat}:∀n,(∀j,1<=j->j<=n->b j<R)->(∀j,1<=j->j<=n->b' j<R)->code R b n=code R b' n->∀j,1<=j->j<=n->b j=b' j
 |0,_,_,_,j,h1,h2=>by omega
 |n+1,h,h',e,j,h1,h2=>by
  have x:=h (n+1) (~~~62) (~~~62);have x':=h' (n+1) (~~~62) (~~~62);have e:code R b n*R+b (n+1)=code R b' n*R+b' (n+1):=e;have m:b (n+1)=b' (n+1):=by
   have a:=congrArg (· %R) e;simp only[Nat.mul_add_mod_self_right,x9 x,x9 x'] at a;exact a
  by_cases z:j=n+1
  .rw[z];exact m
  .have q:code R b n=code R b' n:=by
    have:code R b n*R=code R b' n*R:=by omega
    exact Nat.eq_of_mul_eq_mul_right (~~~62) this
   exact code_inj n (λj h1 h2=>h j h1 (~~~62)) (λj h1 h2=>h' j h1 (~~~62)) q j h1 (~~~62)
theorem xK {s:DS} {b:Nat->Nat} (G:Good n R M s b) (hR:n<R) (hM:∀j,1<=j->j<=n->∀k,k<=n->M j k=unit j k):∀k,∃b,Good n R M (xy n s k) b
 |0=>⟨b,G⟩
 |k+1=>by
  obtain⟨b',G'⟩:=xK G hR hM k;show∃b,Good n R M ((Dz n (xy n s k)).getD (xy n s k)) b;cases e:Dz n (xy n s k) with
  |none=>exact⟨b',G'⟩
  |some s'=>obtain⟨b2,G2,_⟩:=G'.next hR hM e;exact⟨b2,G2⟩
theorem JS {s:DS} {b:Nat->Nat} (G:Good n R M s b) (hR:n<R) (hM:∀j,1<=j->j<=n->∀k,k<=n->M j k=unit j k):Dz n (xy n s (R^n))=none:=by
 apply aK;intro no;have all:∀k,k<=R^n->Dz n (xy n s k)≠none:=by
  intro k hk z;apply no;have:=B3 z (R^n-k);rw[show k+(R^n-k)=R^n by omega] at this;rw[this];exact z
 have ch:∀k,∃b,Good n R M (xy n s k) b:=xK G hR hM;have pick:∃B:Nat->Nat->Nat,∀k,Good n R M (xy n s k) (B k):=⟨λk=>qv (ch k),λk=>sY (ch k)⟩;obtain⟨B,GB⟩:=pick;have up1:∀k,k<=R^n->dM (n+1) (λi=>jP (l8 (xy n s k).tab) (xy n s k).d i-jP (l8 (xy n s (k+1)).tab) (xy n s (k+1)).d i):=by
  intro k hk;cases e:Dz n (xy n s k) with
  |none=>exact absurd e (all k hk)
  |some s'=>
   obtain⟨_,_,h⟩:=(GB k).next hR hM e;have:xy n s (k+1)=s':=by show(Dz n (xy n s k)).getD (xy n s k)=s';rw[e];rfl
   rw[this];exact h
 have up:∀g k,k+g<=R^n->dM (n+1) (λi=>jP (l8 (xy n s k).tab) (xy n s k).d i-jP (l8 (xy n s (k+g+1)).tab) (xy n s (k+g+1)).d i):=by
  intro g
  induction g with
  |zero=>intro k hk;exact up1 k hk
  |succ g ih=>
   intro k hk;have a:=ih k (~~~62);have c:=up1 (k+g+1) (~~~62);exact Bl.ei (λi _=>by rw[show k+(g+1)+1=k+g+1+1 by omega];grind) (Bl.pd a c)
 have hb:∀k,∀j,1<=j->j<=n->B k j<R:=λk j h1 h2=>((GB k).tb.base j h1 h2).2;obtain⟨i,j,hij,hj,e⟩:=Bl.RJ (R^n) (λk=>code R (B k) n) (λk _=>M_ n (hb k));have sm:=JX (GB i).tb (GB j).tb (code_inj n (hb i) (hb j) e) hR;have l:=up (j-i-1) i (~~~62);rw[show i+(j-i-1)+1=j by omega] at l;exact Bl.fW l (λk hk=>by rw[sm k hk];grind)
theorem Good.le {s:DS} {b:Nat->Nat} (G:Good n R M s b) (hR:n<R) {X:Nat} (hX:1<=X) (h:∀i,i<R->∀k,k<=n->(M i k).natAbs <=X):
  (∀i,i<R->∀k,k<=n->(l8 s.tab i k).natAbs <=fact (n+1)*X^(n+1))/\s.d.natAbs<=fact (n+1)*X^(n+1):=by
 have B:∀a x,a<n+1->x<n+1->(Bm M b a x).natAbs <=X:=by
  intro a x ha hx;unfold Bm;by_cases z:a=0
  .rw[if_pos z];unfold unit;split<;>simp<;>omega
  .rw[if_neg z];exact h _ (G.tb.base a (~~~62) (~~~62)).2 x (~~~62)
 refine⟨λi hi k hk=>?_,?_⟩
 .rw[G.tb.entry hi hk];apply Lw;intro a x ha hx;unfold cI;split
  .exact h i hi x (~~~62)
  .exact B a x ha hx
 .rw[G.tb.dt];exact Lw B
section
variable {costs:List Int} {conds:List (List Int)}
def cond (n:Nat) (c:List Int) (y:Nat->Rat):Rat:=((c.getD 0 0:Int):Rat)+sumTo n (λj=>((c.getD (j+1) 0:Int):Rat)*y j)
def Lz (costs:List Int) (conds:List (~~~94)):DS:=⟨ee costs conds,1⟩
theorem oN (count place:Nat) (number:Int):(alone count place number).length =count:=by simp[alone]
theorem tR {count place j:Nat} (number:Int) (h:j<count):(alone count place number).getD j 0=if j=place then number else 0:=by
 unfold alone;rw[ai,pM];by_cases e:j=place
 .subst e;rw[if_pos rfl,if_pos rfl,if_pos (~~~317)];rfl
 .rw[if_neg (λz=>e z.symm),if_neg e,i6];split<;>rfl
theorem Rv (hc:∀c,c∈conds->c.length=costs.length+1):Sh costs.length (~~~188) (~~~159):=by
 constructor
 .simp[ee];omega
 .intro r h;simp only[ee,aE,aS,aN] at h;rcases h with(h|⟨p,_,h⟩)|h
  .rw[h];rfl
  .rw[<-h];simp[oN]
  .exact hc r h
theorem F4 (k:Nat):l8 (~~~159) 0 k=(0::costs).getD k 0:=rfl
theorem kT {j:Nat} (h1:1<=j) (h2:j<=costs.length) {k:Nat} (hk:k<=costs.length):l8 (~~~159) j k=unit j k:=by
 have:(~~~159).getD j []=0::alone costs.length (j-1) 1:=by
  unfold ee;apply kh;rw[cV,c_ (by simp;omega),dw (by simp;omega),bo,dQ (by simp;omega)];simp
 unfold l8;rw[this];cases k with
 |zero=>unfold unit;rw[if_neg (~~~62)];rfl
 |succ k=>
  rw[gM,tR _ (~~~62)];unfold unit;by_cases e:k=j-1
  .rw[if_pos e,if_pos (~~~62)]
  .rw[if_neg e,if_neg (~~~62)]
theorem F5 {t:Nat} (h:t<conds.length) (k:Nat):l8 (~~~159) (1+costs.length+t) k=(conds.getD t []).getD k 0:=by
 have:(~~~159).getD (1+costs.length+t) []=conds.getD t []:=by
  unfold ee;rw[ai,c_ (by simp;omega),<-ai];congr 1;simp;omega
 unfold l8;rw[this]
theorem Cg:∀{K:Nat} (v:Nat->Rat),(∀i,i<K->0<=v i)->¬dM K v
 |0,_,_=>λh=>h
 |K+1,v,nn=>by
  rintro(h|⟨_,h⟩)
  .have:=nn 0 (~~~62);grind
  .exact Cg (λk=>v (k+1)) (λi hi=>nn (i+1) (~~~62)) h
theorem vH (hc:∀c,c∈conds->c.length=costs.length+1) (h0:∀x,x∈costs->0<=x):
  Good costs.length (~~~188) (l8 (~~~159)) (Lz costs conds) (λj=>j):=by
 refine⟨Rv hc,Tb.first (~~~62) (λj h1 h2 k hk=>kT h1 h2 hk),?_⟩;intro j h1 h2;have:¬dM (costs.length+1) (λi=>((l8 (~~~159) i j:Int):Rat)):=by
  have nn:∀i,i<costs.length+1->(0:Rat)<=((l8 (~~~159) i j:Int):Rat):=by
   intro i hi;apply nq;by_cases z:i=0
   .subst z;rw[F4];obtain⟨j',e⟩:∃j',j=j'+1:=⟨j-1,by omega⟩;subst e;rw[gM,kh (ah (~~~62))];exact h0 _ (bM _)
   .rw[kT (~~~62) (~~~62) h2];unfold unit;split<;>omega
  exact Cg _ nn
 exact Bl.qR this
theorem t6 {y:Nat->Rat}:Meets costs.length (~~~188) (l8 (~~~159)) y↔((∀j,j<costs.length->0<=y j)/\∀c,c∈conds->0<=cond costs.length c y):=by
 have w1:∀j,j<costs.length->Du.worth costs.length (l8 (~~~159)) (j+1) y=y j:=by
  intro j hj;unfold Du.worth;rw[kT (~~~62) (~~~62) (~~~62),Bl.fR (p:=j) hj]
  .exists 65;rw[if_neg (~~~62),if_pos rfl];grind
  .intro i hi jE;exists 65;rw[if_neg (~~~62)];grind
 have w2:∀t,t<conds.length->Du.worth costs.length (l8 (~~~159)) (1+costs.length+t) y=cond costs.length (conds.getD t []) y:=by
  intro t ht;unfold Du.worth cond;rw[F5 ht];congr 1;exact Bl.bq (λj _=>by rw[F5 ht])
 constructor
 .intro h;refine⟨λj hj=>by rw[<-w1 j hj];exact h (j+1) (~~~62) (~~~62),λc hc=>?_⟩;obtain⟨t,ht,e⟩:=cQ.mp hc;have:=h (1+costs.length+t) (~~~62) (~~~62);rw[w2 t ht,kh (ah ht),e] at this;exact this
 .rintro⟨a,c⟩ i h1 hi;by_cases z:i<=costs.length
  .obtain⟨j,e⟩:∃j,i=j+1:=⟨i-1,by omega⟩;subst e;rw[w1 j (~~~62)];exact a j (~~~62)
  .obtain⟨t,e⟩:∃t,i=1+costs.length+t:=⟨i-1-costs.length,by omega⟩;subst e;have ht:t<conds.length:=by omega
   rw[w2 t ht];apply c;rw[kh (ah ht)];exact bM ht
def asks (costs:List Int) (y:Nat->Rat):Nat->Rat
 |0=>sumTo costs.length (λj=>((costs.getD j 0:Int):Rat)*y j)
 |k+1=>y k
theorem BQ {y:Nat->Rat} {i:Nat} (hi:i<costs.length+1):Du.worth costs.length (l8 (~~~159)) i y=asks costs y i:=by
 cases i with
 |zero=>
  unfold Du.worth asks;rw[F4];show(((0:Int)):Rat)+sumTo _ (λj=>(((0::costs).getD (j+1) 0:Int):Rat)*y j)=_;simp only[gM];grind
 |succ j=>
  unfold Du.worth asks;rw[kT (~~~62) (~~~62) (~~~62),Bl.fR (p:=j) (~~~62)]
  .exists 65;rw[if_neg (~~~62),if_pos rfl];grind
  .intro i hi jE;exists 65;rw[if_neg (~~~62)];grind
def zH (costs:List Int) (conds:List (~~~94)):DS:=xy costs.length (Lz costs conds) ((~~~188)^costs.length)
def f9 (costs:List Int) (conds:List (~~~94)):Option (List Rat):=match gL (zH costs conds).tab with
 |none=>some ((ax costs.length).map (pt (l8 (zH costs conds).tab) (zH costs conds).d))
 |some _=>none
theorem vk (hc:∀c,c∈conds->c.length=costs.length+1) (h0:∀x,x∈costs->0<=x):
  (f9 costs conds=none/\∀y:Nat->Rat,¬((∀j,j<costs.length->0<=y j)/\∀c,c∈conds->0<=cond costs.length c y))\/
  ∃x,f9 costs conds=some ((ax costs.length).map x)/\((∀j,j<costs.length->0<=x j)/\∀c,c∈conds->0<=cond costs.length c x)/\
   ∀y:Nat->Rat,((∀j,j<costs.length->0<=y j)/\∀c,c∈conds->0<=cond costs.length c y)->fV (costs.length+1) (λi=>asks costs x i-asks costs y i):=by
 have G:=vH hc h0;have hM:∀j,1<=j->j<=costs.length->∀k,k<=costs.length->l8 (~~~159) j k=unit j k:=λj h1 h2 k hk=>kT h1 h2 hk;have e:=JS G (~~~62) hM;obtain⟨b,GL⟩:=xK G (~~~62) hM ((~~~188)^costs.length);unfold f9;rcases GL.stop (~~~62) hM e with⟨h1,h2,h3⟩|⟨⟨br,h1,_⟩,h2⟩
 .right;refine⟨pt (l8 (zH costs conds).tab) (zH costs conds).d,?_,t6.mp h2,λy hy=>?_⟩
  .unfold zH at*;rw[h1]
  .exact Bl.d_ (λi hi=>by rw[BQ hi,BQ hi];rfl) (h3 y (t6.mpr hy))
 .left;refine⟨?_,λy hy=>h2 y (t6.mpr hy)⟩;unfold zH;rw[h1]
end
end Du
namespace Mi
open Vbmiak Bl
open Du (cond f9 alone)
def lD (l:List Rat):Nat:=l.foldl (~~~181) 1
def iS (s:RS):List Rat:=s.grades.map λg=>g*1000
def f_ (s:RS):Nat:=lD (iS s)
def cy (s:RS):List Int:=(iS s).map λg=>g.num*((f_ s/g.den:Nat):Int)
theorem R8 (k:Nat) (g:Nat):k*(g/bR k g)=Fq k g:=by
 unfold Fq;rw[wQ _ (jW k g)]
theorem pV:∀(l:List Rat) (k:Nat),0<k->0<l.foldl (~~~181) k/\k∣l.foldl (~~~181) k/\
  (∀g,g∈l->g.den∣l.foldl (~~~181) k)/\∀D,k∣D->(∀g,g∈l->g.den∣D)->l.foldl (~~~181) k∣D
 | [],k,h=>⟨h,rB k,λg hg=>(bJ hg).elim,λD h _=>h⟩
 |g::l,k,h=>by
  rw[dm,R8];have p:0<Fq k g.den:=Nat.lcm_pos h (fk g.den_nz);obtain⟨a,b,c,d⟩:=pV l (Fq k g.den) p;refine⟨a,gk (Nat.dvd_lcm_left _ _) b,λx hx=>?_,λD h1 h2=>d D (Nat.lcm_dvd h1 (h2 g (aH ..))) λx hx=>h2 x (aA _ hx)⟩;rcases aB.mp hx with e|e
  .rw[e];exact gk (Nat.dvd_lcm_right _ _) b
  .exact c x e
theorem LM (l:List Rat):0<lD l:=(pV l 1 (~~~73)).1
theorem LL {l:List Rat} {g:Rat} (h:g∈l):g.den∣lD l:=(pV l 1 (~~~73)).2.2.1 g h
theorem xA {l:List Rat} {D:Nat} (h:∀g,g∈l->g.den∣D):lD l∣D:=(pV l 1 (~~~73)).2.2.2 D (zh D) h
theorem uW (s:RS):0<f_ s:=LM _
theorem NQ (g:Rat):g=(g.num:Rat)/ (g.den:Rat):=by
 have:=oT g;rw[eW] at this;exact this.symm
theorem C_ {g:Rat} {k:Nat} (h:g.den∣k):(((g.num*((k/g.den:Nat):Int):Int)):Rat)=g*(k:Rat):=by
 obtain⟨c,e⟩:=h;subst e;rw[Nat.mul_div_cancel_left _ (fk g.den_nz)];have d0:(g.den:Rat)≠0:=by exact_mod_cast g.den_nz
 have gd:g=(g.num:Rat)/ (g.den:Rat):=NQ g;rw[dD];have:((c:Int):Rat)=((c:Nat):Rat):=rfl;rw[jB];generalize hn:(g.num:Rat)=n at*
 generalize hd:(g.den:Rat)=d at*
 rw[gd];show n*(c:Rat)=_;grind
def tq (l:List RS) (j:Nat):Rat:=((f_ (~~~133):Nat):Rat)
theorem uR (l:List RS) (j:Nat):0<tq l j:=by unfold tq;exact_mod_cast uW _
theorem lN {s:RS} {k:Nat} (h:k<s.grades.length):(((cy s).getD k 0:Int):Rat)=1000*s.grades.getD k 0*((f_ s:Nat):Rat):=by
 have e:(iS s)[k]?=some (s.grades.getD k 0*1000):=by
  unfold iS;rw[bo,ah h,eI,ai,ah h];rfl
 have m:s.grades.getD k 0*1000∈iS s:=aw e;have:(cy s).getD k 0=(s.grades.getD k 0*1000).num *((f_ s/ (s.grades.getD k 0*1000).den :Nat):Int):=by
  unfold cy;rw[ai,bo,e];rfl
 rw[this,C_ (show _∣f_ s from LL m)];show s.grades.getD k 0*1000*((f_ s:Nat):Rat)=_;grind
def B4 (l:List RS):List Int:=l.map λs=>((f_ s:Nat):Int)
def c9 (l:List RS) (amount:Int):List (~~~94):=[[-amount]++B4 l,[amount]++(B4 l).map λx=> -x]
def Gg (l:List RS) (k:Nat) (lo hi:Int):List (~~~94):=
 [[0]++l.map (λs=>(cy s).getD k 0-lo*((f_ s:Nat):Int)),[0]++l.map (λs=>hi*((f_ s:Nat):Int)- (cy s).getD k 0)]
def nB (l:List RS) (w:Want):List (~~~94):=(ax 3).flatMap λk=>Gg l k ((w.least.getD k 0:Nat):Int) ((w.most.getD k 0:Nat):Int)
def vT (l:List RS):List (~~~94):=(~~~118).map λi=>[(((~~~101).there :Nat):Int)]++alone l.length i (-((f_ (~~~101):Nat):Int))
def eH (w:Want) (l:List RS):List (~~~94):=c9 l (w.amount:Int)++vT l++nB l w
def fz (w:Want) (l:List RS) (costs:List Int):Option (List Rat):=
 (f9 costs (eH w l)).map λcounts=>(counts.zip l).map λx=>x.1*((f_ x.2:Nat):Rat)
theorem Dv {A:Type} (f:A->Int) (l:List A) (d:A) (a:Int) {j:Nat} (h:j<l.length):(([a]++l.map f).getD (j+1) 0)=f (l.getD j d):=by
 show((l.map f).getD j 0)=_;rw[ai,bo,ah h,ai,ah h];rfl
theorem nv (l:List RS) (f:RS->Int) (a:Int) (y:Nat->Rat):cond l.length ([a]++l.map f) y=(a:Rat)+sumTo l.length (λj=>((f (~~~133):Int):Rat)*y j):=by
 unfold Du.cond;show(a:Rat)+_=_;congr 1;exact bq (λj hj=>by rw[Dv f l gO a hj])
def eh (l:List RS) (y:Nat->Rat) (j:Nat):Rat:=y j*tq l j
theorem tT {w:Want} {l:List RS} (hg:∀s,s∈l->s.grades.length=3) {y:Nat->Rat}:
  ((∀j,j<l.length->0<=y j)/\∀c,c∈eH w l->0<=cond l.length c y)↔iV w l (eh l y):=by
 have gl:∀j,j<l.length->(~~~133).grades.length =3:=λj hj=>hg _ (by
  rw[ai,ah hj];exact bM hj)
 have c1:cond l.length ([-(w.amount:Int)]++B4 l) y= - ((w.amount:Nat):Rat)+sumTo l.length (eh l y):=by
  rw[show B4 l=l.map λs=>((f_ s:Nat):Int) from rfl,nv,fU];congr 1;exact bq (λj _=>by unfold eh tq;rw[jn];rfl)
 have c2:cond l.length ([(w.amount:Int)]++(B4 l).map λx=> -x) y=((w.amount:Nat):Rat)-sumTo l.length (eh l y):=by
  rw[show(B4 l).map (λx=> -x)=l.map λs=> -((f_ s:Nat):Int) from by unfold B4;rw[aI];rfl,nv];have:sumTo l.length (λj=>((-((f_ (~~~133):Nat):Int):Int):Rat)*y j)=sumTo l.length (λj=>(-1)*eh l y j):=
   bq (λj _=>by rw[fU];unfold eh tq;show- ((f_ (~~~133):Nat):Rat)*y j=_;grind)
  rw[this,dk];show((w.amount:Nat):Rat)+_=_;grind
 have c3:∀i,i<l.length->cond l.length (~~~130) y=(((~~~101).there :Nat):Rat)-eh l y i:=by
  intro i hi;unfold Du.cond;rw[fR (p:=i) hi]
  .have:((~~~130).getD (i+1) 0)= -((f_ (~~~101):Nat):Int):=by
    show(alone l.length i _).getD i 0=_;rw[Du.tR _ hi,if_pos rfl]
   rw[this,fU];show(((~~~101).there :Nat):Rat)+_=_;unfold eh tq;show _+ - ((f_ (~~~101):Nat):Rat)*y i=_;grind
  .intro j hj jE;have:((~~~130).getD (j+1) 0)=0:=by
    show(alone l.length i _).getD j 0=_;rw[Du.tR _ hj,if_neg jE]
   rw[this];grind
 have c4:∀k,k<3->∀lo:Nat,cond l.length ([0]++l.map (λs=>(cy s).getD k 0- (lo:Int)*((f_ s:Nat):Int))) y=sumTo l.length (~~~163):=by
  intro k hk lo;rw[nv];have:sumTo l.length (λj=>((((cy (~~~133)).getD k 0- (lo:Int)*((f_ (~~~133):Nat):Int):Int)):Rat)*y j)=sumTo l.length (~~~163):=by
   exists 30;show(_- (lo:Rat)*((f_ (~~~133):Nat):Rat))*y j=_;grind
  exists 122
 have c5:∀k,k<3->∀hi:Nat,cond l.length ([0]++l.map (λs=>(hi:Int)*((f_ s:Nat):Int)- (cy s).getD k 0)) y=sumTo l.length (~~~165):=by
  intro k hk hi;rw[nv];have:sumTo l.length (λj=>((((hi:Int)*((f_ (~~~133):Nat):Int)- (cy (~~~133)).getD k 0:Int)):Rat)*y j)=sumTo l.length (~~~165):=by
   exists 30;show((hi:Rat)*((f_ (~~~133):Nat):Rat)-_)*y j=_;grind
  exists 122
 have pos:∀j,0<=y j↔0<=eh l y j:=by
  intro j;have k:=uR l j;constructor
  .intro h;exact bX h (fJ k)
  .intro h;apply aK;intro n;have:0< -y j*tq l j:=j3 (~~~271) k;unfold eh at h;grind
 constructor
 .rintro⟨h1,h2⟩;have mem:∀c,c∈eH w l↔(c=[-(w.amount:Int)]++B4 l\/c=[(w.amount:Int)]++(B4 l).map λx=> -x)\/(c∈vT l)\/c∈nB l w:=by
   intro c;unfold eH c9;simp only[aE,aB,bJ,or_false,or_assoc]
  have a1:=h2 _ ((mem _).mpr (.inl (~~~288)));have a2:=h2 _ ((mem _).mpr (.inl (.inr rfl)));rw[c1] at a1;rw[c2] at a2;have lm:∀k,k<3->∀c,c∈Gg l k ((w.least.getD k 0:Nat):Int) ((w.most.getD k 0:Nat):Int)->c∈nB l w:=λk hk c hc=>g_.mpr ⟨k,bK.mpr hk,hc⟩;refine⟨⟨λj hj=>(pos j).mp (h1 j hj),λi hi=>?_,λk hk=>?_,λk hk=>?_⟩,by grind⟩
  .have:=h2 _ ((mem _).mpr (.inr (.inl (aS.mpr ⟨i,bK.mpr hi,rfl⟩))));rw[c3 i hi] at this;grind
  .have:=h2 _ ((mem _).mpr (.inr (.inr (lm k hk _ (aH ..)))));rw[c4 k hk] at this;exact this
  .have:=h2 _ ((mem _).mpr (.inr (.inr (lm k hk _ (aA _ (aH ..))))));rw[c5 k hk] at this;exact this
 .rintro⟨⟨p,t,a,u⟩,s⟩;refine⟨λj hj=>(pos j).mpr (p j hj),λc hc=>?_⟩;unfold eH c9 at hc;simp only[aE,aB,bJ,or_false] at hc;rcases hc with((hc|hc)|hc)|hc
  .rw[hc,c1,s];grind
  .rw[hc,c2,s];grind
  .obtain⟨i,hi,e⟩:=aS.mp hc;rw[<-e,c3 i (bK.mp hi)];have:=t i (bK.mp hi);grind
  .obtain⟨k,hk,e⟩:=g_.mp hc;have hk:=bK.mp hk;exists 102;rcases e with e|e
   .rw[e,c4 k hk];exact a k hk
   .rw[e,c5 k hk];exact u k hk
theorem rM (n i:Nat) (x:Int):(alone n i x).length =n:=Du.oN n i x
theorem jD (w:Want) (l:List RS):∀c,c∈eH w l->c.length=l.length+1:=by
 intro c hc;unfold eH c9 at hc;simp only[aE,aB,bJ,or_false] at hc;rcases hc with((hc|hc)|hc)|hc
 .rw[hc];simp[B4]
 .rw[hc];simp[B4]
 .obtain⟨i,hi,e⟩:=aS.mp hc;rw[<-e];simp[rM]
 .obtain⟨k,hk,e⟩:=g_.mp hc;exists 102;rcases e with e|e<;>(rw[e];simp)
theorem zJ:∀{K:Nat} {u v:Nat->Rat} (a:Nat->Rat),(∀k,k<K->0<a k/\u k=a k*v k)->dM K u->dM K v
 |0,_,_,_,_,h=>h
 |K+1,u,v,a,e,h=>by
  obtain⟨a0,e0⟩:=e 0 (~~~62);rcases h with h|⟨h,h'⟩
  .left;apply aK;intro n;have:=bX (fJ a0) (show 0<=v 0 by grind);grind
  .right;refine⟨?_,zJ (λk=>a (k+1)) (λk hk=>e (k+1) (~~~62)) h'⟩;rw[e0] at h;rcases sO.mp h with z|z
   .grind
   .exact z
theorem LN {K:Nat} {u v:Nat->Rat} (a:Nat->Rat) (e:∀k,k<K->0<a k/\u k=a k*v k) (h:fV K u):fV K v:=by
 rcases h with h|h
 .exact .inl (zJ a e h)
 .right;intro k hk;obtain⟨a0,e0⟩:=e k hk;have:=h k hk;rw[e0] at this;rcases sO.mp this with z|z
  .grind
  .exact z
def uf (n:Nat) (c:Nat->Rat) (y:Nat->Rat):Nat->Rat
 |0=>sumTo n (λj=>c j*y j)
 |k+1=>y k
theorem Qt (x:Nat->Rat) (l:List RS):(((~~~118).map x).zip l).map (λp=>p.1*((f_ p.2:Nat):Rat))=(~~~118).map (eh l x):=by
 apply i5
 .simp
 .exists 87
  simp only[d7,i7,hZ];unfold eh tq;rw[ai,ah hi];rfl
theorem qG (w:Want) (l:List RS) (hg:∀s,s∈l->s.grades.length=3) (costs:List Int) (c:Nat->Rat) (hl:costs.length=l.length) (h0:∀x,x∈costs->0<=x)
  (hc:∀j,j<l.length->((costs.getD j 0:Int):Rat)=c j*tq l j):
  (fz w l costs=none/\∀y,¬iV w l y)\/
  ∃z,fz w l costs=some ((~~~118).map z)/\iV w l z/\∀y,iV w l y->fV (l.length+1) (λk=>uf l.length c z k-uf l.length c y k):=by
 have back:∀y:Nat->Rat,eh l (λj=>y j/tq l j)=y:=by
  intro y;funext j;have:=uR l j;unfold eh;have:tq l j≠0:=by grind
  grind
 have sp:=Du.vk (costs:=costs) (conds:=eH w l) (by rw[hl];exact jD w l) h0;rw[hl] at sp;rcases sp with⟨e,no⟩|⟨x,e,ok,best⟩
 .left;refine⟨by unfold fz;rw[e];rfl,λy hy=>no (λj=>y j/tq l j) ((tT hg).mpr (by rw[back];exact hy))⟩
 .right;refine⟨eh l x,by unfold fz;rw[e,eI,Qt],(tT hg).mp ok,λy hy=>?_⟩;have b:=best (λj=>y j/tq l j) ((tT hg).mpr (by rw[back];exact hy));have cs:∀u:Nat->Rat,Du.asks costs u 0=sumTo l.length (λj=>c j*eh l u j):=by
   intro u;show sumTo costs.length _=_;rw[hl];exact bq (λj hj=>by rw[hc j hj];unfold eh;grind)
  refine LN (λk=>match k with|0=>1|k+1=>(tq l k)⁻¹) (~~~295) b;cases k with
  |zero=>
   refine⟨by show(0:Rat)<1;decide,?_⟩;show Du.asks costs x 0-Du.asks costs _ 0=1*(uf l.length c (eh l x) 0-uf l.length c y 0);rw[cs,cs,back];show _=1*(sumTo _ _-sumTo _ _);grind
  |succ k=>
   have kp:=uR l k;refine⟨iE.mpr kp,?_⟩;show x k-y k/tq l k=(tq l k)⁻¹ *(eh l x k-y k);unfold eh;have:tq l k≠0:=by grind
   grind
def gy (w:Want) (l:List RS):Option (List Rat):=fz w l (~~~182)
def sA (w:Want) (l:List RS) (k:Nat):Option (List Rat):=fz w l (~~~239)
def pD (l:List RS) (k:Nat):Int:=(~~~173).foldl (~~~140) 0
def sE (w:Want) (l:List RS) (k:Nat):Option (List Rat):=fz w l (~~~132)
theorem uc (f:RS->Int) (l:List RS) {j:Nat} (h:j<l.length):(l.map f).getD j 0=f (~~~133):=by
 rw[ai,bo,ah h,ai,ah h];rfl
theorem Q9 (w:Want) (l:List RS) (hg:∀s,s∈l->s.grades.length=3) (h0:∀s,s∈l->0<=s.cost):
  Vbmiak.blend w (~~~81)=(gy w l).map λx=>x.map ofRat:=by
 have hb:=qG w l hg (~~~182) (cst l) (~~~88) (by
  exists 96;exact Bb (h0 s hs) (vx _)) (λj hj=>by
   rw[uc _ _ hj,dD];unfold cst tq;rfl)
 unfold gy;rcases Lf w l with⟨e,no⟩|⟨y,e,ok,best⟩
 .rcases hb with⟨e2,_⟩|⟨z,_,HQ,_⟩
  .rw[e,e2];rfl
  .exact absurd HQ (no z)
 .rcases hb with⟨_,no2⟩|⟨z,e2,HQ,aaH⟩
  .exact absurd ok (no2 y)
  .rw[e,e2,eI,aI];congr 1;exists 120;have lk:∀(u v:Nat->Rat) k,look l u k-look l v k=uf l.length (cst l) u k-uf l.length (cst l) v k:=by
    intro u v k;cases k<;>rfl
   have:=Jg (l:=l) (best z HQ) (by
    have:=aaH y ok;rw[oB] at this;exact d_ (λk _=>(lk z y k).symm) this) j (bK.mp hj)
   show ofRat (y j)=ofRat (z j);rw[this]
theorem Gb {K:Nat} {v:Nat->Rat} (h:fV (K+1) v):v 0<=0:=(rW h).1
theorem GX (k:Nat):∀(l:List Int) (a:Int),a<=l.foldl (~~~140) a/\∀x,x∈l->x<=l.foldl (~~~140) a
 | [],a=>⟨Int.le_refl a,λx hx=>(bJ hx).elim⟩
 |y::l,a=>by
  rw[dm];obtain⟨h1,h2⟩:=GX k l (if y>a then y else a);refine⟨?_,λx hx=>?_⟩
  .split at h1<;>rename_i q
   .rw[if_pos q];omega
   .rw[if_neg q];exact h1
  .rcases aB.mp hx with e|e
   .subst e;split at h1<;>rename_i q
    .rw[if_pos q];exact h1
    .rw[if_neg q];omega
   .exact h2 x e
def gE (l:List RS) (x:List Rat) (k:Nat):Rat:=((l.zip x).map λp=>p.2*p.1.grades.getD k 0).foldl (· + ·) 0
theorem Ca (l:List RS) (z:Nat->Rat) (k:Nat):gE l ((~~~118).map z) k=sumTo l.length (λj=>gr l k j*z j):=by
 unfold gE;rw[<-ji];congr 1;apply i5
 .simp
 .exists 87
  simp only[d7,i7,hZ];unfold gr;rw[ai (l:=l),ah hi,jn];rfl
theorem Tc (w:Want) (l:List RS) (hg:∀s,s∈l->s.grades.length=3) (hp:∀s,s∈l->∀g,g∈s.grades->(0:Rat)<=g) {k:Nat} (hk:k<3):
  rangeOf w (~~~81) k=match sA w l k,sE w l k with
   |some a,some b=>some (ofRat (gE l a k),ofRat (gE l b k))
   |_,_=>none:=by
 have gl:∀j,j<l.length->l.getD j gO∈l:=λj hj=>by
  rw[ai,ah hj];exact bM hj
 have m0:∀s,s∈l->0<=(cy s).getD k 0:=by
  intro s hs;have hl:=hg s hs;have e:=lN (s:=s) (k:=k) (~~~62);have g0:(0:Rat)<=s.grades.getD k 0:=by
   apply hp s hs;rw[ai,ah (~~~62)];exact bM _
  have:(0:Rat)<=(((cy s).getD k 0:Int):Rat):=by
   rw[e];exact bX (bX (~~~73) g0) (by exact_mod_cast cj _)
  exact_mod_cast this
 have r0:∀s,s∈l->0<=pD l k*((f_ s:Nat):Int)- (cy s).getD k 0:=by
  intro s hs;have h:=(GX 0 (~~~173) 0).2 _ (aS.mpr ⟨s,hs,rfl⟩);have h:(~~~232).fdiv ((f_ s:Nat):Int)+1<=pD l k:=h;have kp:(0:Int)< ((f_ s:Nat):Int):=by exact_mod_cast uW s
  have a:=Int.mul_fdiv_add_fmod (~~~232) ((f_ s:Nat):Int);have b:=oP (~~~232) kp;have c:=iZ h (Int.le_of_lt kp);have e:((~~~232).fdiv ((f_ s:Nat):Int)+1)*((f_ s:Nat):Int)=((f_ s:Nat):Int)*(~~~232).fdiv ((f_ s:Nat):Int)+((f_ s:Nat):Int):=by grind
  omega
 have KU:=qG w l hg (~~~239) (λj=>1000*gr l k j) (~~~88) (by
  exists 96;exact m0 s hs) (λj hj=>by
   rw[uc _ _ hj,lN (by rw[hg _ (gl j hj)];exact hk)];rfl)
 have OZ:=qG w l hg (~~~132) (λj=>(pD l k:Rat)-1000*gr l k j) (~~~88) (by
  exists 96;exact r0 s hs) (λj hj=>by
   rw[uc _ _ hj,jA,dD,lN (by rw[hg _ (gl j hj)];exact hk)];unfold gr tq;show(pD l k:Rat)*((f_ (~~~133):Nat):Rat)-_=_;grind)
 show _=match fz w l _,fz w l _ with
   |some a,some b=>some (ofRat (gE l a k),ofRat (gE l b k))
   |_,_=>none
 rcases Me w l k with⟨e,no⟩|⟨y,z,e,oy,oz,best⟩
 .rcases KU with⟨e1,_⟩|⟨u,_,ok,_⟩
  .rw[e,e1]
  .exact absurd ok (no u)
 .rcases KU with⟨_,no⟩|⟨u,e1,ou,b1⟩
  .exact absurd oy (no y)
  .rcases OZ with⟨_,no⟩|⟨v,e2,ov,b2⟩
   .exact absurd oy (no y)
   .rw[e,e1,e2];simp only;rw[Ca,Ca];have s1:∀f:Nat->Rat,uf l.length (λj=>1000*gr l k j) f 0=1000*sumTo l.length (λj=>gr l k j*f j):=by
     intro f;show sumTo _ _=_;rw[<-dk];exact bq (~~~174)
    have s2:∀f:Nat->Rat,uf l.length (λj=>(pD l k:Rat)-1000*gr l k j) f 0=(pD l k:Rat)*sumTo l.length f+(-1000)*sumTo l.length (λj=>gr l k j*f j):=by
     intro f;show sumTo _ _=_;rw[<-dk,<-dk,<-mX];exact bq (~~~174)
    have h1:=Gb (b1 y oy);have h2:=Gb (b2 z oz);simp only[s1] at h1;simp only[s2] at h2;rw[ov.all,oz.all] at h2;have q1:=(best u ou).1;have q2:=(best v ov).2;have:sumTo l.length (λj=>gr l k j*y j)=sumTo l.length (λj=>gr l k j*u j):=by grind
    have e2:sumTo l.length (λj=>gr l k j*z j)=sumTo l.length (λj=>gr l k j*v j):=by grind
    rw[this,e2]
def gF (w:Want) (l:List RS):List (~~~94):=
 (c9 l 1++nB l w).map (λc=>c++[0])++(~~~118).map λi=>[0]++alone l.length i (-((f_ (~~~101):Nat):Int))++[(((~~~101).there :Nat):Int)]
def dW (l:List RS):List Int:=bT l.length 0++[1]
def jc (w:Want) (l:List RS):Int×Int:=match f9 (dW l) (gF w l) with
 |none=>(0,1)
 |some x=>(((x.getD l.length 0).den :Int),(x.getD l.length 0).num)
end Mi
namespace Mi
open Vbmiak Bl
open Du (f9 alone)
theorem yr {n:Nat} {c:List Int} (hc:c.length=n+1) (z:Int) (y:Nat->Rat):Du.cond (n+1) (c++[z]) y=Du.cond n c y+(z:Rat)*y n:=by
 unfold Du.cond;show _+(sumTo n _+(((c++[z]).getD (n+1) 0:Int):Rat)*y n)=_;have e0:(c++[z]).getD 0 0=c.getD 0 0:=by
  rw[ai,ai,dw (~~~62)]
 have e1:(c++[z]).getD (n+1) 0=z:=by
  rw[ai,c_ (~~~62),hc];simp
 have e2:sumTo n (λj=>(((c++[z]).getD (j+1) 0:Int):Rat)*y j)=sumTo n (λj=>((c.getD (j+1) 0:Int):Rat)*y j):=
  bq (λj hj=>by
   have:(c++[z]).getD (j+1) 0=c.getD (j+1) 0:=by
    rw[ai,ai,dw (~~~62)]
   rw[this])
 rw[e0,e1,e2];grind
def AY (w:Want):Want:=⟨1,w.least,w.most⟩
structure Er (w:Want) (l:List RS) (z:Nat->Rat) (s:Rat):Prop where
 pos:∀j,j<l.length->0<=z j
 share:0<=s
 there:∀j,j<l.length->z j<=(((~~~133).there :Nat):Rat)*s
 above:∀k,k<3->0<=sumTo l.length (λj=>FH w l k j*z j)
 under:∀k,k<3->0<=sumTo l.length (λj=>Hr w l k j*z j)
 all:sumTo l.length z=1
theorem EK (l:List RS) (y:Nat->Rat) (j:Nat):0<=y j↔0<=eh l y j:=by
 have k:=uR l j;constructor
 .intro h;exact bX h (fJ k)
 .intro h;apply aK;intro n;have:0< -y j*tq l j:=j3 (~~~271) k;unfold eh at h;grind
theorem vS {w:Want} {l:List RS} (hg:∀s,s∈l->s.grades.length=3) {y:Nat->Rat}:
  ((∀j,j<l.length+1->0<=y j)/\∀c,c∈gF w l->0<=Du.cond (l.length+1) c y)↔Er w l (eh l y) (y l.length):=by
 have gl:∀j,j<l.length->(~~~133).grades.length =3:=λj hj=>hg _ (by
  rw[ai,ah hj];exact bM hj)
 have c1:Du.cond l.length ([-(1:Int)]++B4 l) y= -1+sumTo l.length (eh l y):=by
  rw[show B4 l=l.map λs=>((f_ s:Nat):Int) from rfl,nv,fU];congr 1;exact bq (λj _=>by unfold eh tq;rw[jn];rfl)
 have c2:Du.cond l.length ([(1:Int)]++(B4 l).map λx=> -x) y=1-sumTo l.length (eh l y):=by
  rw[show(B4 l).map (λx=> -x)=l.map λs=> -((f_ s:Nat):Int) from by unfold B4;rw[aI];rfl,nv];have:sumTo l.length (λj=>((-((f_ (~~~133):Nat):Int):Int):Rat)*y j)=sumTo l.length (λj=>(-1)*eh l y j):=
   bq (λj _=>by rw[fU];unfold eh tq;show- ((f_ (~~~133):Nat):Rat)*y j=_;grind)
  rw[this,dk];show(1:Rat)+_=_;grind
 have c3:∀i,i<l.length->Du.cond l.length ([0]++alone l.length i (-((f_ (~~~101):Nat):Int))) y= -eh l y i:=by
  intro i hi;unfold Du.cond;rw[fR (p:=i) hi]
  .have:((~~~170).getD (i+1) 0)= -((f_ (~~~101):Nat):Int):=by
    show(alone l.length i _).getD i 0=_;rw[Du.tR _ hi,if_pos rfl]
   rw[this,fU];show(0:Rat)+_=_;unfold eh tq;show _+ - ((f_ (~~~101):Nat):Rat)*y i=_;grind
  .intro j hj jE;have:((~~~170).getD (j+1) 0)=0:=by
    show(alone l.length i _).getD j 0=_;rw[Du.tR _ hj,if_neg jE]
   rw[this];grind
 have c4:∀k,k<3->∀lo:Nat,Du.cond l.length ([0]++l.map (λs=>(cy s).getD k 0- (lo:Int)*((f_ s:Nat):Int))) y=sumTo l.length (~~~163):=by
  intro k hk lo;rw[nv];have:sumTo l.length (λj=>((((cy (~~~133)).getD k 0- (lo:Int)*((f_ (~~~133):Nat):Int):Int)):Rat)*y j)=sumTo l.length (~~~163):=by
   exists 30;show(_- (lo:Rat)*((f_ (~~~133):Nat):Rat))*y j=_;grind
  exists 122
 have c5:∀k,k<3->∀hi:Nat,Du.cond l.length ([0]++l.map (λs=>(hi:Int)*((f_ s:Nat):Int)- (cy s).getD k 0)) y=sumTo l.length (~~~165):=by
  intro k hk hi;rw[nv];have:sumTo l.length (λj=>((((hi:Int)*((f_ (~~~133):Nat):Int)- (cy (~~~133)).getD k 0:Int)):Rat)*y j)=sumTo l.length (~~~165):=by
   exists 30;show((hi:Rat)*((f_ (~~~133):Nat):Rat)-_)*y j=_;grind
  exists 122
 have L:∀c∈c9 l 1++nB l w,c.length=l.length+1:=by
  intro c hc;have:=jD (AY w) l c (by
   unfold eH AY;rcases aE.mp hc with h|h
   .exact cP _ (cP _ h)
   .exact cf _ h)
  exact this
 have z0:∀c:List Int,c.length=l.length+1->Du.cond (l.length+1) (c++[0]) y=Du.cond l.length c y:=by
  intro c hc;rw[yr hc];grind
 have mem:∀c,c∈gF w l↔(∃d,d∈c9 l 1++nB l w/\d++[0]=c)\/∃i,i<l.length/\[0]++alone l.length i (-((f_ (~~~101):Nat):Int))++[(((~~~101).there :Nat):Int)]=c:=by
  intro c;unfold gF;rw[aE,aS,aS];simp only[bK]
 have jt:∀c,c∈c9 l 1->c∈c9 l 1++nB l w:=λc h=>cP _ h;have al:∀i,(~~~170).length =l.length+1:=λi=>by simp[rM]
 constructor
 .rintro⟨h1,h2⟩;have h3:∀c,c∈c9 l 1++nB l w->0<=Du.cond l.length c y:=λc hc=>by
   rw[<-z0 c (L c hc)];exact h2 _ ((mem _).mpr (.inl ⟨c,hc,rfl⟩))
  have a1:=h3 ([-(1:Int)]++B4 l) (jt _ (aH ..));have a2:=h3 ([(1:Int)]++(B4 l).map λx=> -x) (jt _ (aA _ (aH ..)));rw[c1] at a1;rw[c2] at a2;have lm:∀k,k<3->∀c,c∈Gg l k ((w.least.getD k 0:Nat):Int) ((w.most.getD k 0:Nat):Int)->c∈c9 l 1++nB l w:=λk hk c hc=>cf _ (g_.mpr ⟨k,bK.mpr hk,hc⟩);refine⟨λj hj=>(EK l y j).mp (h1 j (~~~62)),h1 _ (~~~62),λi hi=>?_,λk hk=>?_,λk hk=>?_,by grind⟩
  .have:=h2 _ ((mem _).mpr (.inr ⟨i,hi,rfl⟩));rw[yr (al i),c3 i hi] at this;have this:0<= -eh l y i+(((~~~101).there :Nat):Rat)*y l.length:=this;grind
  .have:=h3 _ (lm k hk _ (aH ..));rw[c4 k hk] at this;exact this
  .have:=h3 _ (lm k hk _ (aA _ (aH ..)));rw[c5 k hk] at this;exact this
 .rintro⟨p,sh,t,a,u,s⟩;refine⟨λj hj=>?_,λc hc=>?_⟩
  .by_cases e:j=l.length
   .rw[e];exact sh
   .exact(EK l y j).mpr (p j (~~~62))
  .rcases(mem c).mp hc with⟨d,hd,e⟩|⟨i,hi,e⟩
   .rw[<-e,z0 d (L d hd)];rcases aE.mp hd with h|h
    .unfold c9 at h;simp only[aB,bJ,or_false] at h;rcases h with h|h
     .rw[h,c1,s];grind
     .rw[h,c2,s];grind
    .obtain⟨k,hk,e⟩:=g_.mp h;have hk:=bK.mp hk;exists 102;rcases e with e|e
     .rw[e,c4 k hk];exact a k hk
     .rw[e,c5 k hk];exact u k hk
   .rw[<-e,yr (al i),c3 i hi];have:=t i hi;show 0<= -eh l y i+(((~~~101).there :Nat):Rat)*y l.length;grind
theorem um (w:Want) (l:List RS):∀c,c∈gF w l->c.length=(dW l).length +1:=by
 intro c hc;have e:(dW l).length =l.length+1:=by simp[dW]
 rw[e];unfold gF at hc;rcases aE.mp hc with h|h
 .obtain⟨d,hd,e⟩:=aS.mp h;have:=jD (AY w) l d (by
   unfold eH AY;rcases aE.mp hd with h|h
   .exact cP _ (cP _ h)
   .exact cf _ h)
  rw[<-e];simp[this]
 .obtain⟨i,_,e⟩:=aS.mp h;rw[<-e];simp[rM]
theorem AE {n:Nat} {z:Nat->Rat} (h:∀j,j<n->z j<=0):sumTo n z<=0:=by
 have:=oM (n:=n) (f:=λj=>(-1)*z j) (λj hj=>by have:=h j hj;grind);rw[dk] at this;grind
theorem xQ {w:Want} {l:List RS} {y:Nat->Rat} (M:WD w l y) {A:Rat} (e:sumTo l.length y=A) (hA:0<A):Er w l (λj=>A⁻¹ *y j) A⁻¹ :=by
 have ip:=iE.mpr hA;have i0:=fJ ip;have sc:∀f:Nat->Rat,sumTo l.length (λj=>f j*(A⁻¹ *y j))=A⁻¹ *sumTo l.length (λj=>f j*y j):=by
  intro f;rw[<-dk];exact bq (~~~174)
 refine⟨λj hj=>bX i0 (M.pos j hj),i0,λj hj=>?_,λk hk=>?_,λk hk=>?_,?_⟩
 .have:=bX i0 (show 0<=(((~~~133).there :Nat):Rat)-y j by have:=M.there j hj;grind);grind
 .rw[sc];exact bX i0 (M.above k hk)
 .rw[sc];exact bX i0 (M.under k hk)
 .rw[dk,e];have:A≠0:=by grind
  grind
theorem xP {s a z:Rat} (hs:0<s) (h:z<=a*s):s⁻¹ *z<=a:=by
 have i0:=fJ (iE.mpr hs);have m:=bX i0 (show 0<=a*s-z by grind);have e:s⁻¹ *(a*s-z)=a-s⁻¹ *z:=by
  have:s≠0:=by grind
  grind
 rw[e] at m;grind
theorem RY {a b:Rat} (ha:0<a) (hb:0<b) (h:a<=b⁻¹):b<=a⁻¹ :=by
 have bn:b≠0:=by grind
 have e:b⁻¹ *b=1:=by grind
 have h3:b*a<=1:=by
  have:=bX (fJ hb) (show 0<=b⁻¹ -a by grind);grind
 have an:a≠0:=by grind
 have f:a⁻¹ *a=1:=by grind
 have i0:=fJ (iE.mpr ha);have m:=bX i0 (show 0<=1-b*a by grind);have g:a⁻¹ *(1-b*a)=a⁻¹ -b:=by grind
 rw[g] at m;grind
theorem LW {w:Want} {l:List RS} {z:Nat->Rat} {s:Rat} (S:Er w l z s) (hs:0<s):WD w l (λj=>s⁻¹ *z j)/\sumTo l.length (λj=>s⁻¹ *z j)=s⁻¹ :=by
 have ip:=iE.mpr hs;have i0:=fJ ip;have sn:s≠0:=by grind
 have sc:∀f:Nat->Rat,sumTo l.length (λj=>f j*(s⁻¹ *z j))=s⁻¹ *sumTo l.length (λj=>f j*z j):=by
  intro f;rw[<-dk];exact bq (~~~174)
 refine⟨⟨λj hj=>bX i0 (S.pos j hj),λj hj=>?_,λk hk=>?_,λk hk=>?_⟩,?_⟩
 .exact xP hs (S.there j hj)
 .rw[sc];exact bX i0 (S.above k hk)
 .rw[sc];exact bX i0 (S.under k hk)
 .rw[dk,S.all];grind
theorem PX {w:Want} {l:List RS} {z:Nat->Rat} {s:Rat} (S:Er w l z s):0<s:=by
 apply aK;intro n;have s0:s=0:=by have:=S.share;grind
 have:=AE (n:=l.length) (z:=z) (λj hj=>by have:=S.there j hj;rw[s0] at this;grind);rw[S.all] at this;grind
theorem Vl {s:Rat} (h:0<s):(s⁻¹).num =(s.den:Int)/\((s⁻¹).den :Int)=s.num:=by
 have np:0<s.num:=(NC).mpr h;constructor
 .rw[Rat.num_inv,rk np];simp
 .rw[Rat.den_inv];rw[if_neg (~~~62)];omega
theorem O_ (w:Want) (l:List RS) (hg:∀s,s∈l->s.grades.length=3):two (mostOf w (~~~81))=[(jc w l).1,(jc w l).2]:=by
 have back:∀(y:Nat->Rat) (s:Rat),eh l (~~~129)=λj=>if j<l.length then y j else s*tq l j:=by
  intro y s;funext j;have:=uR l j;unfold eh;have:tq l j≠0:=by grind
  by_cases h:j<l.length
  .simp only[if_pos h];grind
  .simp only[if_neg h]
 have into:∀(y:Nat->Rat) (s:Rat),Er w l y s->Er w l (eh l (~~~129)) ((~~~129) l.length):=by
  intro y s S;have e:∀j,j<l.length->eh l (~~~129) j=y j:=λj hj=>by rw[back];simp only[if_pos hj]
  have sm:∀f:Nat->Rat,sumTo l.length (λj=>f j*eh l (~~~129) j)=sumTo l.length (λj=>f j*y j):=λf=>bq (λj hj=>by rw[e j hj]);simp only[if_neg (cM _)];refine⟨λj hj=>by rw[e j hj];exact S.pos j hj,S.share,λj hj=>by rw[e j hj];exact S.there j hj,λk hk=>by rw[sm];exact S.above k hk,λk hk=>by rw[sm];exact S.under k hk,?_⟩;rw[<-S.all];exact bq (λj hj=>e j hj)
 obtain⟨y,e,M,best⟩:=Pa w l;have ln:(dW l).length =l.length+1:=by simp[dW]
 have sp:=Du.vk (costs:=dW l) (conds:=gF w l) (um w l) (by
  intro x hx;unfold dW at hx;rcases aE.mp hx with h|h
  .rw[(lu.mp h).2];exact Int.le_refl 0
  .rw[aN.mp h];decide)
 rw[ln] at sp;have A0:0<=sumTo l.length y:=oM M.pos;rw[e];unfold jc;rcases sp with⟨c,no⟩|⟨x,c,ok,least⟩
 .rw[c];have:sumTo l.length y=0:=by
   apply aK;intro n;exact no _ ((vS hg).mpr (into _ _ (xQ M rfl (~~~271))))
  rw[this];rfl
 .rw[c];have S:=(vS hg).mp ok;have sp:=PX S;obtain⟨M2,t2⟩:=LW S sp;have b1:=best _ M2;rw[t2] at b1;have ip:=iE.mpr sp;have Ap:0<sumTo l.length y:=by grind
  have l1:=Gb (least _ ((vS hg).mpr (into _ _ (xQ M rfl Ap))));have ak:∀u:Nat->Rat,Du.asks (dW l) u 0=u l.length:=by
   intro u;show sumTo (dW l).length _=_;rw[ln];show sumTo l.length _+(((dW l).getD l.length 0:Int):Rat)*u l.length=_;rw[j9]
   .have:(dW l).getD l.length 0=1:=by
     unfold dW;rw[ai,c_ (~~~88)];simp
    rw[this];show(0:Rat)+(1:Rat)*u l.length=u l.length;grind
   .intro j hj;have:(dW l).getD j 0=0:=by
     unfold dW;rw[ai,dw (by simpa using hj),i6];simp[hj]
    rw[this];show(0:Rat)*_=0;grind
  rw[ak,ak] at l1;simp only[if_neg (cM _)] at l1;have eq:sumTo l.length y=(x l.length)⁻¹ :=by
   have h2:sumTo l.length y<=(x l.length)⁻¹ :=RY sp Ap (~~~271);exact Rat.le_antisymm h2 b1
  have gx:((ax (l.length+1)).map x).getD l.length 0=x l.length:=by
   rw[ai,bo,dQ (~~~62)];rfl
  simp only[gx];rw[eq];obtain⟨n1,n2⟩:=Vl sp;show[(x l.length)⁻¹.num,((x l.length)⁻¹.den :Int)]=_;rw[n1,n2]
end Mi
namespace Mi
open Vbmiak Bl
structure bV where
 amount:Nat
 grades:List Rat
structure dh where
 kind:Nat
 most:Nat
 lots:List bV
def bV.sp (x:bV):Lot:=⟨x.amount,f' x.grades⟩
def dh.sp (p:dh):Pile:=⟨p.kind,p.most,p.lots.map bV.sp⟩
def aJ (l:List bV):Nat:=l.foldl (λa x=>a+x.amount) 0
def jF (x:bV):List Rat:=x.grades.map λg=>g*(x.amount:Rat)
def fM (a b:List Rat):List Rat:=(a.zip b).map λp=>p.1+p.2
def metalOf (l:List bV):List Rat:=l.foldl (λm x=>fM m (jF x)) [0,0,0]
def eX (n:Nat) (m:List Rat):bV:=⟨n,m.map λg=>g/ (n:Rat)⟩
def mixed (l:List bV):bV:=eX (aJ l) (metalOf l)
def putOn (p:dh) (x:bV):dh:=
 ⟨p.kind,p.most,if p.kind=0 then[x]++p.lots else if p.kind=1 then p.lots++[x] else[mixed (p.lots++[x])]⟩
def iW (s:List bV×List bV×Nat) (x:bV):List bV×List bV×Nat:=
 let share:=if x.amount<s.2.2 then x.amount else s.2.2
 ((if 0<share then s.1++[⟨share,x.grades⟩] else s.1),(if share<x.amount then s.2.1++[⟨x.amount-share,x.grades⟩] else s.2.1),s.2.2-share)
def cut (l:List bV) (n:Nat):List bV×List bV×Nat:=l.foldl iW ([],[],n)
def fr (x:Rat):List Int:=[x.num,(x.den:Int)]
def t9 (l:List Rat):List Int:=l.flatMap fr
theorem A8 (l:List Rat):(l.map ofRat).flatMap two=t9 l:=by
 unfold t9;rw[mH];rfl
theorem gj (l:List bV):amountOf (~~~255)=aJ l:=by
 unfold amountOf total aJ;rw[aI,List.foldl_map];rfl
theorem qb:∀(l:List bV) (a:Nat),l.foldl (λa x=>a+x.amount) a=a+aJ l
 | [],a=>by simp[aJ]
 |x::l,a=>by
  show l.foldl _ (a+x.amount)=a+l.foldl _ (0+x.amount);rw[qb l (a+x.amount),qb l (0+x.amount)];omega
theorem cY (x:bV) (l:List bV):aJ (x::l)=x.amount+aJ l:=by
 show l.foldl _ (0+x.amount)=_;rw[qb];omega
theorem dP (l m:List bV):aJ (l++m)=aJ l+aJ m:=by
 unfold aJ;rw[dZ,qb];rfl
theorem ed:aJ []=0:=rfl
structure i_ (x:bV):Prop where
 pos:1<=x.amount
 len:x.grades.length=3
def sumK (l:List bV) (k:Nat):Rat:=l.foldl (~~~97) 0
theorem pY {a b:List Rat} (ha:a.length=3) (hb:b.length=3):(fM a b).length =3:=by
 unfold fM;simp[ha,hb]
theorem v_ {a b:List Rat} (ha:a.length=3) (hb:b.length=3) (k:Nat):(fM a b).getD k 0=a.getD k 0+b.getD k 0:=by
 unfold fM;rw[ai,bo,ai,ai];by_cases h:k<3
 .rw[ah (l:=a.zip b) (by simp[ha,hb];exact h),i7,ah (l:=a) (~~~62),ah (l:=b) (~~~62)];rfl
 .rw[cq (by simp[ha,hb];omega),cq (~~~62),cq (~~~62)];show(0:Rat)=0+0;grind
theorem vR:∀(l:List bV) (m:List Rat),m.length=3->(∀x,x∈l->x.grades.length=3)->
  (l.foldl (λm x=>fM m (jF x)) m).length =3/\∀k,(l.foldl (λm x=>fM m (jF x)) m).getD k 0=l.foldl (~~~97) (m.getD k 0)
 | [],m,hm,_=>⟨hm,λ_=>rfl⟩
 |x::l,m,hm,hl=>by
  have hx:=hl x (aH ..);have h1:(jF x).length =3:=by unfold jF;rw[ag];exact hx
  rw[dm];obtain⟨a,b⟩:=vR l (fM m (jF x)) (pY hm h1) (λy hy=>hl y (aA _ hy));refine⟨a,λk=>?_⟩;rw[b k,dm,v_ hm h1];congr 2;unfold jF;rw[ai,bo,ai];cases x.grades[k]? with
  |none=>show(0:Rat)=0*_;grind
  |some g=>rfl
theorem fB {l:List bV} (h:∀x,x∈l->x.grades.length=3):(metalOf l).length =3:=(vR l [0,0,0] rfl h).1
theorem ph {l:List bV} (h:∀x,x∈l->x.grades.length=3) {k:Nat} (hk:k<3):(metalOf l).getD k 0=sumK l k:=by
 have:=(vR l [0,0,0] rfl h).2 k;unfold metalOf sumK;rw[this];congr 1
 match k,hk with
 |0,_=>rfl
 |1,_=>rfl
 |2,_=>rfl
theorem three {l:List Rat} (h:l.length=3):l=(ax 3).map λk=>l.getD k 0:=by
 match l,h with
 | [a,b,c],_=>rfl
theorem vq {A:Type} (f:A->Rat):∀(l:List A) (a:Rat),(l.map f).foldl (· + ·) a=l.foldl (λa x=>a+f x) a
 | [],_=>rfl
 |x::l,a=>vq f l (a+f x)
theorem ER {l:List bV} (h:∀x,x∈l->x.grades.length=3):metals (~~~255)=(Mi.metalOf l).map ofRat:=by
 rw[three (fB h),aI];unfold metals KINDS;exists 88;show Vbmiak.metalOf _ k=ofRat ((Mi.metalOf l).getD k 0);rw[ph h hk];unfold Vbmiak.metalOf sumK;rw[aI];have:(l.map ((λx:Lot=>mul (whole (x.amount:Int)) (x.grades.getD k (whole 0)))∘bV.sp))=(l.map λx=>x.grades.getD k 0*(x.amount:Rat)).map ofRat:=by
  rw[aI];apply aQ;intro x _;show mul (whole (x.amount:Int)) ((f' x.grades).getD k (whole 0))=ofRat _;unfold f';rw[hG,jJ,mul_eq];congr 1;show((x.amount:Nat):Rat)*_=_;rw[jn]
 rw[this,A7,vq]
theorem SE (x:Rat) {n:Nat} (h:n≠0):over (ofRat x) (whole (n:Int))=ofRat (x/ (n:Rat)):=by
 have:((n:Nat):Rat)≠0:=by exact_mod_cast h
 exact GI x this
theorem EI {l:List bV} (h:∀x,x∈l->x.grades.length=3) (hw:aJ l≠0):
  (metals (~~~255)).map (λm=>over m (whole (amountOf (~~~255):Int)))=f' (Mi.mixed l).grades :=by
 rw[ER h,gj];unfold Mi.mixed eX f';simp only[aI];apply aQ;intro x _;exact SE x hw
theorem mY {l:List bV} (h:∀x,x∈l->i_ x) (jE:l≠[]):aJ l≠0:=by
 cases l with
 |nil=>exact absurd rfl jE
 |cons x l=>rw[cY];have:=(h x (aH ..)).pos;omega
theorem Sj {l:List bV} (h:∀x,x∈l->i_ x) (jE:l≠[]):Vbmiak.mixed (~~~255)=[(Mi.mixed l).sp]:=by
 have hw:=mY h jE;unfold Vbmiak.mixed;rw[if_neg (by rw[gj];exact hw),EI (λx hx=>(h x hx).len) hw];rw[gj];rfl
theorem Jk {l:List bV} (h:∀x,x∈l->i_ x) (jE:l≠[]):i_ (Mi.mixed l):=by
 have hw:=mY h jE;refine⟨by show 1<=aJ l;omega,?_⟩;unfold Mi.mixed eX;simp only[ag];exact fB (λx hx=>(h x hx).len)
theorem JO {p:dh} {x:bV} (hp:∀y,y∈p.lots->i_ y) (hx:i_ x):Vbmiak.putOn p.sp x.sp=(Mi.putOn p x).sp :=by
 unfold Vbmiak.putOn Mi.putOn dh.sp;simp only;congr 1;by_cases h0:p.kind=0
 .rw[if_pos h0,if_pos h0];rfl
 .rw[if_neg h0,if_neg h0];by_cases h1:p.kind=1
  .rw[if_pos h1,if_pos h1,bj];rfl
  .rw[if_neg h1,if_neg h1];have:p.lots.map bV.sp++[x.sp]=(p.lots++[x]).map bV.sp:=by rw[bj];rfl
   rw[this,Sj _ (~~~88)]
   .rfl
   .intro y hy;rcases aE.mp hy with h|h
    .exact hp y h
    .rw[aN.mp h];exact hx
theorem S0 {p:dh} {x:bV} (hp:∀y,y∈p.lots->i_ y) (hx:i_ x):∀y,y∈(Mi.putOn p x).lots ->i_ y:=by
 have all:∀y,y∈p.lots++[x]->i_ y:=by
  intro y hy;rcases aE.mp hy with h|h
  .exact hp y h
  .rw[aN.mp h];exact hx
 intro y hy;unfold Mi.putOn at hy;simp only at hy;split at hy
 .rcases aB.mp hy with h|h
  .rw[h];exact hx
  .exact hp y h
 .split at hy
  .exact all y hy
  .rw[aN.mp hy];exact Jk all (~~~88)
theorem tY:∀(l:List bV) (a b:List bV) (n:Nat),(∀x,x∈l->i_ x)->
  ∃r,l.foldl iW (a,b,n)=(a++r.1,b++r.2,n-aJ l)/\(if n=0 then r=([],l) else Vbmiak.takeOff n (~~~255)=(r.1.map bV.sp,r.2.map bV.sp))/\(∀x,x∈r.1++r.2->i_ x)
 | [],a,b,n,_=>⟨([],[]),by simp[aJ],by split<;>rfl,by intro x hx;simp at hx⟩
 |x::l,a,b,n,h=>by
  have hx:=h x (aH ..);have hl:=λy hy=>h y (aA _ hy);rw[dm];have gx:(⟨x.amount,x.grades⟩:bV)=x:=rfl;by_cases n0:n=0
  .subst n0;obtain⟨r,e,q,ok⟩:=tY l a (b++[x]) 0 hl;rw[if_pos rfl] at q;have st:iW (a,b,0) x=(a,b++[x],0):=by
    unfold iW;have:¬x.amount<0:=by omega
    simp only[if_neg this,if_neg (cM 0),if_pos (show 0<x.amount from hx.pos),Nat.sub_zero]
   rw[st,e];refine⟨([],x::l),?_,by rw[if_pos rfl],λy hy=>h y (by simpa using hy)⟩;rw[q];simp[cY]
  .by_cases lt:x.amount<n
   .have st:iW (a,b,n) x=(a++[x],b,n-x.amount):=by
     unfold iW;simp only[if_pos lt,if_pos (show 0<x.amount from hx.pos),if_neg (cM x.amount)]
    obtain⟨r,e,q,ok⟩:=tY l (a++[x]) b (n-x.amount) hl;exists 67;rw[st,e];refine⟨(x::r.1,r.2),by simp[cY];omega,?_,?_⟩
    .exists 132;rw[if_neg n0,if_neg (show¬n<x.sp.amount from by show¬n<x.amount;omega)];show(x.sp::(takeOff (n-x.amount) (~~~255)).1,(takeOff (n-x.amount) (~~~255)).2)=_;rw[q];rfl
    .intro y hy;rcases aB.mp hy with z|z
     .rw[z];exact hx
     .exact ok y z
   .by_cases eq:n=x.amount
    .have st:iW (a,b,n) x=(a++[x],b,0):=by
      unfold iW;simp only[if_neg lt];rw[if_pos (~~~62),if_neg (~~~62),eq,gx,Nat.sub_self]
     obtain⟨r,e,q,ok⟩:=tY l (a++[x]) b 0 hl;rw[if_pos rfl] at q;rw[st,e,q];refine⟨([x],l),by simp[cY];omega,?_,?_⟩
     .exists 132;rw[if_neg n0,if_neg (show¬n<x.sp.amount from by show¬n<x.amount;omega)];have z:n-x.sp.amount=0:=by show n-x.amount=0;omega
      rw[z];cases l with
      |nil=>rfl
      |cons y l=>rfl
     .intro y hy;rcases aB.mp hy with z|z
      .rw[z];exact hx
      .exact hl y z
    .have st:iW (a,b,n) x=(a++[⟨n,x.grades⟩],b++[⟨x.amount-n,x.grades⟩],0):=by
      unfold iW;simp only[if_neg lt];rw[if_pos (~~~62),if_pos (~~~62),Nat.sub_self]
     obtain⟨r,e,q,ok⟩:=tY l (a++[⟨n,x.grades⟩]) (b++[⟨x.amount-n,x.grades⟩]) 0 hl;rw[if_pos rfl] at q;rw[st,e,q];refine⟨([⟨n,x.grades⟩],⟨x.amount-n,x.grades⟩::l),by simp[cY];omega,?_,?_⟩
     .exists 132;rw[if_neg n0,if_pos (show n<x.sp.amount from by show n<x.amount;omega)];rfl
     .intro y hy;rcases aE.mp hy with z|z
      .rw[aN.mp z];exact⟨by show 1<=n;omega,hx.len⟩
      .rcases aB.mp z with z|z
       .rw[z];exact⟨by show 1<=x.amount-n;omega,hx.len⟩
       .exact hl y z
theorem Lu {l:List bV} {n:Nat} (hn:1<=n) (h:∀x,x∈l->i_ x):Vbmiak.takeOff n (~~~255)=((cut l n).1.map bV.sp,(cut l n).2.1.map bV.sp)/\(∀x,x∈(cut l n).1->i_ x)/\∀x,x∈(cut l n).2.1->i_ x:=by
 obtain⟨r,e,q,ok⟩:=tY l [] [] n h;exists 67;have e:cut l n=([]++r.1,[]++r.2,n-aJ l):=e;rw[e,q];exact⟨rfl,λx hx=>ok x (cP _ hx),λx hx=>ok x (cf _ hx)⟩
theorem BI:∀(l:List bV) (a b:List bV) (n:Nat),∃r:List bV×List bV,l.foldl iW (a,b,n)=(a++r.1,b++r.2,n-aJ l)/\aJ r.1+aJ r.2=aJ l/\aJ r.1=min n (aJ l)/\
  r.1.length<=l.length/\r.2.length<=l.length/\∀x,x∈r.1++r.2->∃y,y∈l/\x.grades=y.grades/\x.amount<=y.amount
 | [],a,b,n=>⟨([],[]),by simp[aJ],rfl,by simp[ed],by simp,by simp,by intro x hx;simp at hx⟩
 |x::l,a,b,n=>by
  rw[dm];generalize hs:(if x.amount<n then x.amount else n)=share;have st:iW (a,b,n) x=((if 0<share then a++[⟨share,x.grades⟩] else a),(if share<x.amount then b++[⟨x.amount-share,x.grades⟩] else b),n-share):=by
   unfold iW;simp only[hs]
  rw[st];have sh:share<=x.amount/\share<=n/\(share=x.amount\/share=n):=by split at hs<;>omega
  obtain⟨r,e,w1,w2,l1,l2,g⟩:=BI l (if 0<share then a++[⟨share,x.grades⟩] else a) (if share<x.amount then b++[⟨x.amount-share,x.grades⟩] else b) (n-share);refine⟨((if 0<share then[⟨share,x.grades⟩] else[])++r.1,(if share<x.amount then[⟨x.amount-share,x.grades⟩] else[])++r.2),?_,?_,?_,?_,?_,?_⟩
  .rw[e,cY];refine Prod.ext ?_ (Prod.ext ?_ ?_)
   .simp only;split<;>simp
   .simp only;split<;>simp
   .simp only;omega
  .rw[dP,dP,cY];have:aJ (if 0<share then[(⟨share,x.grades⟩:bV)] else[])=share:=by
    split
    .rw[cY,ed];rfl
    .rw[ed];omega
   have:aJ (if share<x.amount then[(⟨x.amount-share,x.grades⟩:bV)] else[])=x.amount-share:=by
    split
    .rw[cY,ed];rfl
    .rw[ed];omega
   omega
  .rw[dP,cY];have:aJ (if 0<share then[(⟨share,x.grades⟩:bV)] else[])=share:=by
    split
    .rw[cY,ed];rfl
    .rw[ed];omega
   rw[this,w2];omega
  .rw[au,aL];split<;>simp<;>omega
  .rw[au,aL];split<;>simp<;>omega
  .intro y hy;rw[aE,aE,aE] at hy;rcases hy with(hy|hy)|(hy|hy)
   .split at hy
    .rw[aN.mp hy];exact⟨x,aH ..,rfl,by show share<=_;omega⟩
    .simp at hy
   .obtain⟨z,a1,a2⟩:=g y (cP _ hy);exact⟨z,aA _ a1,a2⟩
   .split at hy
    .rw[aN.mp hy];exact⟨x,aH ..,rfl,by show x.amount-share<=_;omega⟩
    .simp at hy
   .obtain⟨z,a1,a2⟩:=g y (cf _ hy);exact⟨z,aA _ a1,a2⟩
structure aar (l:List bV) (n:Nat):Prop where
 taken:aJ (cut l n).1=n
 left:aJ (cut l n).2.1=aJ l-n
 YI:(cut l n).1.length <=l.length
 Vn:(cut l n).2.1.length <=l.length
 aaX:∀x,x∈(cut l n).1->∃y,y∈l/\x.grades=y.grades/\x.amount<=y.amount
 aaY:∀x,x∈(cut l n).2.1->∃y,y∈l/\x.grades=y.grades/\x.amount<=y.amount
theorem yu {l:List bV} {n:Nat} (h:n<=aJ l):aar l n:=by
 obtain⟨r,e,w1,w2,l1,l2,g⟩:=BI l [] [] n;have e:cut l n=([]++r.1,[]++r.2,n-aJ l):=e;have a1:(cut l n).1=r.1:=by rw[e];rfl
 have a2:(cut l n).2.1=r.2:=by rw[e];rfl
 exact⟨by rw[a1];omega,by rw[a2];omega,by rw[a1];exact l1,by rw[a2];exact l2,λx hx=>g x (cP _ (by rw[<-a1];exact hx)),λx hx=>g x (cf _ (by rw[<-a2];exact hx))⟩
end Mi
namespace Mi
open Vbmiak Bl
def jS:List Int->List Rat
 |a::b::r=>mkRat a b.toNat::jS r
 |_=>[]
def nM (l:List Rat):Rat:=l.foldl (· + ·) 0
def zv (l:List RS) (x:List Rat):Rat:=nM ((l.zip x).map λp=>p.2*((p.1.cost:Int):Rat))
def mN:List Bool->Nat->Nat
 | [],_=>0
 |b::r,i=>if b=true then i else mN r (i+1)
def gi (l:List Bool):Nat:=mN l 1
def jb:List (List Bool)->Nat->Nat×Nat
 | [],_=>(0,0)
 |b::r,i=>if 0<gi b then(i,gi b) else jb r (i+1)
def oJ (l:List RS) (x:List Rat):List Rat:=(ax 3).map λk=>gE l x k*1000
def l0 (w:Want) (l:List RS) (x:List Rat):List (List Bool):=
 [x.map (λa=>decide (a<0)),(l.zip x).map (λp=>decide (((p.1.there:Nat):Rat)<p.2)),[!decide (nM x=((w.amount:Nat):Rat))],
  ((oJ l x).zip w.least).map (λp=>decide (p.1<nM x*((p.2:Nat):Rat))),((oJ l x).zip w.most).map (λp=>decide (nM x*((p.2:Nat):Rat)<p.1))]
def jQ (w:Want) (l:List RS) (x:List Rat):Nat×Nat:=jb (l0 w l x) 1
theorem IV (P:Nat->Bool):∀n s,mN ((List.range' s n).map P) (s+1)=match(List.range' s n).find? P with
  |some i=>i+1
  |none=>0
 |0,s=>rfl
 |n+1,s=>by
  rw[List.range'_succ,az,kN];unfold mN;by_cases h:P s=true
  .rw[if_pos h,h]
  .rw[if_neg h,IV P n (s+1)];have:P s=false:=by simpa using h
   rw[this]
theorem AN (P:Nat->Bool) (n:Nat):gi ((ax n).map P)=match(ax n).find? P with
  |some i=>i+1
  |none=>0:=by
 rw[List.range_eq_range'];exact IV P n 0
theorem getD_in {A:Type} {l:List A} {j:Nat} (d:A) (h:j<l.length):l.getD j d=l[j]:=by
 rw[ai,ah h];rfl
theorem sG {A B C:Type} (f:A×B->C) (a:A) (b:B) {l:List A} {m:List B} (h:l.length=m.length):(l.zip m).map f=(ax m.length).map λj=>f (l.getD j a,m.getD j b):=by
 apply i5
 .simp[h]
 .intro i h1 h2;have hi:i<m.length:=by simpa using h2
  simp only[d7,i7,hZ];rw[getD_in a (~~~62),getD_in b hi]
theorem CZ {x:List Rat}:nM x=sumTo x.length (λj=>x.getD j 0):=by
 unfold nM;rw[<-ji];congr 1;have:=m_ (λz:Rat=>z) 0 x;rw[rn] at this;exact this
theorem CY (f:Nat->Rat) (n:Nat):nM ((ax n).map f)=sumTo n f:=ji f n
theorem zM {l:List RS} {x:List Rat} (h:l.length=x.length) (k:Nat):gE l x k=sumTo x.length (λj=>x.getD j 0*gr l k j):=by
 unfold gE;rw[sG _ gO 0 h,<-ji];rfl
theorem xi {a b:List Rat} (h:a.length=b.length):Ak a b=sumTo b.length (λj=>a.getD j 0*b.getD j 0):=by
 unfold Ak;rw[sG _ 0 0 h,ji]
theorem lt_num {x:Rat}:decide (x.num<0)=decide (x<0):=decide_eq_decide.mpr Gs
theorem XI (w:Want) (l:List RS) (k:Nat):(~~~81).map (above w k)=(~~~147).map ofRat:=by
 rw[aI,aI];exact aQ (λs _=>Bt w k s)
theorem ZR (w:Want) (l:List RS) (k:Nat):(~~~81).map (under w k)=(~~~150).map ofRat:=by
 rw[aI,aI];exact aQ (λs _=>C8 w k s)
theorem rQ (f:RS->Rat) (l:List RS) {j:Nat} (h:j<l.length):(l.map f).getD j 0=f (~~~133):=by
 rw[getD_in 0 (~~~317),d7,getD_in gO h]
theorem IK (w:Want) (l:List RS) (x:List Rat) (hx:l.length=x.length) (h1:w.least.length=3) (h2:w.most.length=3):faultOf w (~~~81) (x.map ofRat)=jQ w l x:=by
 have e1:x.map (λa=>decide (a<0))=(~~~118).map λi=>decide ((~~~206).num <0):=by
  rw[m_ _ 0 x,hx];apply aQ;intro i _;rw[hG];exact lt_num.symm
 have e2:(l.zip x).map (λp=>decide (((p.1.there:Nat):Rat)<p.2))=(~~~118).map λi=> !atMost (~~~206) (whole (((((~~~81).map λs=>s.there).getD i 0:Nat)):Int)):=by
  rw[sG _ gO 0 hx,<-hx];apply aQ;intro i hi;have hi:=bK.mp hi;rw[hG,jJ,yk];have:((~~~81).map λs=>s.there).getD i 0=(~~~101).there :=by
   rw[aI,getD_in 0 (~~~258),d7,getD_in gO hi];rfl
  rw[this];show decide ((((~~~101).there :Nat):Rat)<x.getD i 0)= !decide (x.getD i 0<=(((~~~101).there :Nat):Rat));by_cases c:x.getD i 0<=(((~~~101).there :Nat):Rat)
  .rw[decide_eq_true c,decide_eq_false (~~~271)];rfl
  .rw[decide_eq_false c,decide_eq_true (~~~271)];rfl
 have e3:same (sumQ (x.map ofRat)) (whole (w.amount:Int))=decide (nM x=((w.amount:Nat):Rat)):=by
  rw[A7,jJ,A5];rfl
 have mk:∀k,k<3->(oJ l x).getD k 0=gE l x k*1000:=λk hk=>e9 _ _ hk;have e4:((oJ l x).zip w.least).map (λp=>decide (p.1<nM x*((p.2:Nat):Rat)))=(ax KINDS).map λk=>decide ((dot ((~~~81).map (above w k)) (x.map ofRat)).num <0):=by
  rw[sG _ 0 0 (by rw[h1];simp[oJ]),h1];exists 88;rw[mk k hk,XI,vF];rw[show decide ((ofRat (Ak (~~~147) x)).num <0)=_ from lt_num];have:Ak (~~~147) x=gE l x k*1000-nM x*((w.least.getD k 0:Nat):Rat):=by
   rw[xi (by simpa using hx),zM hx,CZ];rw[jn (sumTo _ _) 1000,jn (sumTo _ _) ((w.least.getD k 0:Nat):Rat),<-dk,<-dk];have:∀f g:Nat->Rat,∀n,sumTo n f-sumTo n g=sumTo n (λj=>f j+(-1)*g j):=by
    intro f g n;rw[mX,dk];grind
   rw[this];apply bq;intro j hj;rw[rQ _ _ (~~~62)];unfold gr;grind
  rw[this];exact decide_eq_decide.mpr ⟨λh=>by grind,λh=>by grind⟩
 have e5:((oJ l x).zip w.most).map (λp=>decide (nM x*((p.2:Nat):Rat)<p.1))=(ax KINDS).map λk=>decide ((dot ((~~~81).map (under w k)) (x.map ofRat)).num <0):=by
  rw[sG _ 0 0 (by rw[h2];simp[oJ]),h2];exists 88;rw[mk k hk,ZR,vF];rw[show decide ((ofRat (Ak (~~~150) x)).num <0)=_ from lt_num];have:Ak (~~~150) x=nM x*((w.most.getD k 0:Nat):Rat)-gE l x k*1000:=by
   rw[xi (by simpa using hx),zM hx,CZ];rw[jn (sumTo _ _) 1000,jn (sumTo _ _) ((w.most.getD k 0:Nat):Rat),<-dk,<-dk];have:∀f g:Nat->Rat,∀n,sumTo n f-sumTo n g=sumTo n (λj=>f j+(-1)*g j):=by
    intro f g n;rw[mX,dk];grind
   rw[this];apply bq;intro j hj;rw[rQ _ _ (~~~62)];unfold gr;grind
  rw[this];exact decide_eq_decide.mpr ⟨λh=>by grind,λh=>by grind⟩
 unfold faultOf jQ l0 jb;rw[e1,AN,ag];cases(~~~118).find? λi=>decide ((~~~206).num <0) with
 |some i=>simp
 |none=>
  simp only[cM,if_false];unfold jb;rw[e2,AN];cases(~~~118).find? λi=> !atMost (~~~206) (whole (((((~~~81).map λs=>s.there).getD i 0:Nat)):Int)) with
  |some i=>simp
  |none=>
   simp only[cM,if_false];unfold jb;rw[e3];cases decide (nM x=((w.amount:Nat):Rat)) with
   |false=>rfl
   |true=>
    rw[if_neg (~~~73),show gi [!true]=0 from rfl,if_neg (~~~73)];unfold jb;rw[e4,AN];cases(ax KINDS).find? λk=>decide ((dot ((~~~81).map (above w k)) (x.map ofRat)).num <0) with
    |some i=>simp
    |none=>
     simp only[cM,if_false];unfold jb;rw[e5,AN];cases(ax KINDS).find? λk=>decide ((dot ((~~~81).map (under w k)) (x.map ofRat)).num <0) with
     |some i=>simp
     |none=>simp[jb]
theorem FW {l:List RS} {x:List Rat} (hx:l.length=x.length):costOf (~~~81) (x.map ofRat)=ofRat (zv l x):=by
 unfold costOf;have:(~~~81).map (λs=>whole s.cost)=(l.map λs=>((s.cost:Int):Rat)).map ofRat:=by
  rw[aI,aI];rfl
 rw[this,vF,xi (by simpa using hx)];unfold zv;rw[sG _ gO 0 hx,CY];congr 1;exact bq (λj hj=>by rw[rQ _ _ (~~~62)];grind)
structure RP where
 wanted:Rat
 jT:List Rat
 mG:List Rat
 sources:List Rat
def RP.sp (p:RP):Prices:=⟨ofRat p.wanted,p.jT.map ofRat,p.mG.map ofRat,p.sources.map ofRat⟩
def iO (f:List Rat):RP:=⟨f.getD 0 0,(f.drop 1).take 3,(f.drop 4).take 3,f.drop 7⟩
def zx (p:RP):Bool:= !((p.jT++p.mG++p.sources).map λx=>decide (x<0)).any id
def u5 (w:Want) (p:RP) (a:Rat) (g:Nat×Rat):Rat:=
 a+(p.jT.getD g.1 0*(g.2*1000- ((w.least.getD g.1 0:Nat):Rat))+p.mG.getD g.1 0*(((w.most.getD g.1 0:Nat):Rat)-g.2*1000))
def lI (w:Want) (p:RP) (g:List Rat):Rat:=((ax g.length).map λi=>(i,g.getD i 0)).foldl (u5 w p) 0
def sF (w:Want) (p:RP) (l:List RS) (i:Nat):Rat:=p.wanted+lI w p (~~~101).grades -p.sources.getD i 0
def pI (w:Want) (p:RP) (l:List RS):Rat:=p.wanted*((w.amount:Nat):Rat)-nM ((p.sources.zip l).map λq=>q.1*((q.2.there:Nat):Rat))
def nG (w:Want) (p:RP) (l:List RS) (costs:List Int):Bool:= !((ax costs.length).map λi=>decide (((costs.getD i 0:Int):Rat)<sF w p l i)).any id
def sC (w:Want) (l:List RS) (x:List Rat) (p:RP):Bool:=
 if(!decide (jQ w l x=(0,0))|| !zx p)=true then false else if(!nG w p l (l.map λs=>s.cost))=true then false else decide (pI w p l=zv l x)
def o5 (w:Want) (l:List RS) (p:RP):Bool:=
 if(!zx p|| !nG w p l (bT l.length 0))=true then false else decide (0<pI w p l)
theorem Nl (p:RP):fair p.sp=zx p:=by
 unfold fair zx RP.sp;simp only;rw[<-bj,<-bj,rp];generalize p.jT++p.mG++p.sources=l
 induction l with
 |nil=>rfl
 |cons a l ih=>
  rw[bu,az,mZ,Bool.not_or,ih];congr 1;show decide (0<=a.num)= !decide (a<0);by_cases h:a<0
  .rw[decide_eq_true h,decide_eq_false (λz=>by have:=num_nonneg.mp z;grind)];rfl
  .rw[decide_eq_false h,decide_eq_true (num_nonneg.mpr (~~~271))];rfl
theorem T7 (w:Want) (p:RP) (l:List RS) {i:Nat} (hi:i<l.length) (hg:∀s,s∈l->s.grades.length=3) (hl:p.jT.length=3) (hm:p.mG.length=3):
  worth w p.sp (~~~101).sp i=ofRat (sF w p l i):=by
 have g3:(~~~101).grades.length =3:=hg _ (by rw[getD_in gO hi];exact bM hi);unfold sF;generalize l.getD i gO=s at*
 have d1:dot (p.jT.map ofRat) ((ax KINDS).map λk=>above w k s.sp)=ofRat (Ak p.jT ((ax 3).map λk=>1000*s.grades.getD k 0- ((w.least.getD k 0:Nat):Rat))):=by
  rw[<-vF,aI];congr 1;exact aQ (λk _=>Bt w k s)
 have d2:dot (p.mG.map ofRat) ((ax KINDS).map λk=>under w k s.sp)=ofRat (Ak p.mG ((ax 3).map λk=>((w.most.getD k 0:Nat):Rat)-1000*s.grades.getD k 0)):=by
  rw[<-vF,aI];congr 1;exact aQ (λk _=>C8 w k s)
 unfold worth RP.sp;simp only;rw[d1,d2,hG,add_eq,add_eq,sub_eq];congr 1;congr 1;congr 1;unfold lI;rw[g3]
 match p,hl,hm with
 |⟨wa,[a,b,c],[d,e,f],so⟩,_,_=>
  match s.grades,g3 with
  | [x,y,z],_=>
   simp only[Ak,ax,ax.loop,az,aV,aP,aR,dm,Bg,u5,oj,gM];grind
theorem Fg (w:Want) (p:RP) (l:List RS) (h:p.sources.length=l.length):valueOf w (~~~81) p.sp=ofRat (pI w p l):=by
 have:(~~~81).map (λs=>whole (s.there:Int))=(l.map λs=>((s.there:Nat):Rat)).map ofRat:=by
  rw[aI,aI];rfl
 unfold valueOf RP.sp pI;simp only;rw[this,vF,jJ,mul_eq,sub_eq];congr 2;rw[xi (~~~317),sG _ 0 gO h,CY,ag];exact bq (λj hj=>by rw[rQ _ _ hj])
theorem zq (f:Nat->Bool):∀l:List Nat,l.all (λi=> !f i)= !(l.map f).any id
 | []=>rfl
 |x::l=>by rw[bu,az,mZ,Bool.not_or,zq f l];rfl
theorem O7 (a b:Rat):decide (a<=b)= !decide (b<a):=by
 by_cases h:a<=b
 .rw[decide_eq_true h,decide_eq_false (~~~271)];rfl
 .rw[decide_eq_false h,decide_eq_true (~~~271)];rfl
theorem Dd (l:List RS) (f:Source×Nat->Bool):(~~~81).zipIdx.all f=(~~~118).all λi=>f ((~~~101).sp,i):=by
 have:(~~~81).zipIdx =(~~~118).map λi=>((~~~101).sp,i):=by
  apply i5
  .simp
  .exists 87
   simp only[vc,d7,hZ];rw[getD_in gO hi];simp
 rw[this,rp];rfl
theorem NA (w:Want) (p:RP) (l:List RS) (hg:∀s,s∈l->s.grades.length=3) (hl:p.jT.length=3) (hm:p.mG.length=3) (c:Nat->Int) (costs:List Int) (hc:costs.length=l.length) (he:∀i,i<l.length->costs.getD i 0=c i):
  ((~~~118).all λi=>atMost (worth w p.sp (~~~101).sp i) (whole (c i)))=nG w p l costs:=by
 unfold nG;rw[<-zq,hc];apply kM.mpr;rw[fw,fw];have key:∀i,i∈ax l.length->atMost (worth w p.sp (~~~101).sp i) (whole (c i))= !decide (((costs.getD i 0:Int):Rat)<sF w p l i):=by
  intro i hi;have hi:=bK.mp hi;rw[T7 w p l hi hg hl hm,jJ,yk,he i hi,O7]
 exact⟨λh i hi=>by rw[<-key i hi];exact h i hi,λh i hi=>by rw[key i hi];exact h i hi⟩
theorem bool_cases (a b c d:Bool):(a&&(b&&(c&&d)))=if(!a|| !b)=true then false else if(!c)=true then false else d:=by
 cases a<;>cases b<;>cases c<;>cases d<;>rfl
theorem Il (a b c:Bool):(a&&(b&&c))=if(!a|| !b)=true then false else c:=by
 cases a<;>cases b<;>cases c<;>rfl
theorem PD (w:Want) (l:List RS) (x:List Rat) (p:RP) (hx:l.length=x.length) (h1:w.least.length=3) (h2:w.most.length=3) (hg:∀s,s∈l->s.grades.length=3)
  (hl:p.jT.length=3) (hm:p.mG.length=3) (hs:p.sources.length=l.length):proves w (~~~81) (x.map ofRat) p.sp=sC w l x p:=by
 unfold proves sC;rw[IK w l x hx h1 h2,Nl,Dd,Fg w p l hs,FW hx,A5];rw[<-bool_cases];congr 2;congr 1;exact NA w p l hg hl hm (λi=>(~~~101).cost) _ (~~~88) (λi hi=>by rw[getD_in 0 (~~~258),d7,getD_in gO hi])
theorem LD (w:Want) (l:List RS) (p:RP) (hg:∀s,s∈l->s.grades.length=3)
  (hl:p.jT.length=3) (hm:p.mG.length=3) (hs:p.sources.length=l.length):forbids w (~~~81) p.sp=o5 w l p:=by
 unfold forbids o5;rw[Nl,Dd,Fg w p l hs,<-Il];congr 1;congr 1
 .exact NA w p l hg hl hm (λi=>0) _ (~~~88) (λi hi=>by rw[getD_in 0 (~~~258),List.getElem_replicate])
 .show decide (0< (pI w p l).num)=_;exact decide_eq_decide.mpr NC
theorem AO:∀{l:List Int},(∀i,i<l.length->i%2=1->1<=l.getD i 0)->fractions l=(jS l).map ofRat
 | [],_=>rfl
 | [_],_=>rfl
 |a::b::r,h=>by
  have hb:1<=b:=h 1 (~~~88) rfl;show q a b.toNat::fractions r=ofRat (mkRat a b.toNat)::(jS r).map ofRat;rw[Md a (~~~62),AO (l:=r) (λi hi hm=>by
   have:=h (i+2) (by simp;omega) (~~~62);simpa using this)]
theorem qQ:∀{n:Nat} {l:List Int},l.length=2*n->(jS l).length =n
 |0,[],_=>rfl
 |n+1,a::b::r,h=>by
  show(jS r).length +1=n+1;rw[qQ (n:=n) (by simp at h;omega)]
 |0,_::_,h=>by simp at h
 |n+1,[],h=>by simp at h
 |n+1,[_],h=>by simp at h;omega
theorem zE:∀{n:Nat} {l m:List Int},l.length=2*n->jS (l++m)=jS l++jS m
 |0,[],m,_=>rfl
 |n+1,a::b::r,m,h=>by
  show _::jS (r++m)=_;rw[zE (n:=n) (by simp at h;omega)];rfl
 |0,_::_,_,h=>by simp at h
 |n+1,[],_,h=>by simp at h
 |n+1,[_],_,h=>by simp at h;omega
theorem E3 {m:Nat} {l:List Int} (hl:l.length=2*(7+m)) (h:∀i,i<l.length->i%2=1->1<=l.getD i 0):
  pricesOf m l=(iO (jS l)).sp /\(iO (jS l)).jT.length =3/\(iO (jS l)).mG.length =3/\(iO (jS l)).sources.length =m:=by
 have hf:=qQ hl;refine⟨?_,?_,?_,?_⟩
 .unfold pricesOf iO RP.sp;rw[AO h];simp only[hG,KINDS];congr 1
  .rw[<-gW,<-jK]
  .rw[<-gW,<-jK]
  .rw[<-gW,<-jK];congr 1;exact jm (by rw[dg,hf];omega)
 .unfold iO;simp[hf];omega
 .unfold iO;simp[hf];omega
 .unfold iO;simp[hf]
end Mi
namespace Mi
open Vbmiak Bl
structure MS where
 piles:List dh
 sources:List RS
 want:Want
 ve:Nat
 wc:List Rat
 jV:Nat
 mB:List Rat
def VT:dh:=⟨0,0,[]⟩
def firstM:MS:=⟨[],[],⟨0,[0,0,0],[1000000,1000000,1000000]⟩,0,[0,0,0],0,[0,0,0]⟩
abbrev Out:=MS×List Int
def aG (m:MS) (p:Int):dh:=m.piles.getD (p.toNat-1) VT
def q_ (m:MS) (p:Int) (x:dh):MS:={m with piles:=m.piles.set (p.toNat-1) x}
def gc (x:dh) (n:Nat):Bool:=decide (x.most<aJ x.lots+n)
def tooMany (x:dh) (n:Nat):Bool:=(decide (x.kind=0)||decide (x.kind=1))&&decide (30<x.lots.length+n)
def uj (m:MS) (k most:Int):Out:=
 if m.piles.length=6 then(m,[-3]) else({m with piles:=m.piles++[⟨k.toNat,most.toNat,[]⟩]},[0,(m.piles.length:Int)+1])
def d3 (l:List Int):List Rat:=l.map λ(g:Int)=>(g:Rat)
def B9 (m:MS) (p n:Int) (g:List Int):Out:=
 if gc (aG m p) n.toNat=true then(m,[-2])
 else if tooMany (aG m p) 1=true then(m,[-3])
 else({q_ m p (putOn (aG m p) (eX n.toNat (d3 g))) with ve:=m.ve+n.toNat,wc:=fM m.wc (d3 g)},
  [0,(aJ (putOn (aG m p) (eX n.toNat (d3 g))).lots :Int)])
def uk (m:MS) (p n:Int):Out:=
 if aJ (aG m p).lots <n.toNat then(m,[-4])
 else({q_ m p ⟨(aG m p).kind,(aG m p).most,(~~~67).2.1⟩ with jV:=m.jV+n.toNat,mB:=fM m.mB (metalOf (~~~67).1)},
  [0,(aJ (~~~67).2.1:Int)]++t9 (metalOf (~~~67).1)++[((~~~67).1.length :Int)]++(~~~67).1.map λx=>(x.amount:Int))
def ui (m:MS) (p r n:Int):Out:=
 if p=r then(m,[-1])
 else if aJ (aG m p).lots <n.toNat then(m,[-4])
 else if gc (aG m r) n.toNat=true then(m,[-2])
 else if tooMany (aG m r) (~~~67).1.length =true then(m,[-3])
 else(q_ (q_ m p ⟨(aG m p).kind,(aG m p).most,(~~~67).2.1⟩) r (~~~205),
  [0,(aJ (~~~67).2.1:Int),(aJ (~~~205).lots :Int)]++t9 (metalOf (~~~67).1))
def B_ (m:MS) (p:Int):List Int:=
 [0,((aG m p).kind :Int),((aG m p).most :Int),(aJ (aG m p).lots :Int)]++t9 (metalOf (aG m p).lots)++[((aG m p).lots.length :Int)]
def vO (x:bV):List Int:=(x.amount:Int)::t9 x.grades
def EM (m:MS) (p:Int):List Int:=[0,((aG m p).lots.length :Int)]++(aG m p).lots.flatMap vO
def lZ (m:MS):List bV:=m.piles.flatMap λp=>p.lots
def zL (m:MS):List Int:=
 [0]++([(m.ve:Int)]++t9 m.wc)++([(aJ (lZ m):Int)]++t9 (metalOf (lZ m)))++([(m.jV:Int)]++t9 m.mB)
def iy (m:MS) (s:RS):Out:=if m.sources.length=6 then(m,[-3]) else({m with sources:=m.sources++[s]},[0,(m.sources.length:Int)+1])
def uS (m:MS) (c t:Int) (g:List Int):Out:=iy m ⟨c,t.toNat,g.map λx=>mkRat x 1000⟩
def pf (m:MS) (p c:Int):Out:=
 if(aG m p).lots.length =0 then(m,[-4]) else iy m ⟨c,aJ (aG m p).lots,(mixed (aG m p).lots).grades⟩
def LR (m:MS):Out:=({m with sources:=[]},[0])
def Ji (m:MS) (n:Int) (b:List Int):Out:=
 ({m with want:=⟨n.toNat,(ax 3).map (λk=>(b.getD (2*k) 0).toNat),(ax 3).map λk=>(b.getD (2*k+1) 0).toNat⟩},[0])
def uh (m:MS):List Int:=match gy m.want m.sources with
 |none=>[0,0]
 |some x=>[0,1]++t9 (zv m.sources x::x)
def Sd (m:MS):List Int:=[0]++[(jc m.want m.sources).1,(jc m.want m.sources).2]
def vP (m:MS) (k:Int):List Int:=match sA m.want m.sources (k.toNat-1),sE m.want m.sources (k.toNat-1) with
 |some a,some b=>[0,1]++t9 [gE m.sources a (k.toNat-1),gE m.sources b (k.toNat-1)]
 |_,_=>[0,0]
def yE (m:MS) (x:List Int):List Int:=
 [0]++[((jQ m.want m.sources (jS x)).1:Int),((jQ m.want m.sources (jS x)).2:Int)]++t9 [zv m.sources (jS x)]
def UZ (b:Bool):Int:=if b=true then 1 else 0
def B8 (m:MS) (x p:List Int):List Int:=[0,UZ (sC m.want m.sources (jS x) (iO (jS p)))]
def Gj (m:MS) (p:List Int):List Int:=[0,UZ (o5 m.want m.sources (iO (jS p)))]
def uA (s:RS):List Int:=[s.cost,(s.there:Int)]++t9 s.grades
def qS (m:MS):List Int:=
 [0,(m.want.amount:Int)]++(~~~128)++[(m.sources.length:Int)]++m.sources.flatMap uA
structure Rel (m:MS) (s:State):Prop where
 piles:s.piles=m.piles.map dh.sp
 sources:s.sources=m.sources.map RS.sp
 want:s.want=m.want
 came:∃l:List bV,s.came=l.map bV.sp/\(∀x,x∈l->i_ x)/\aJ l=m.ve/\metalOf l=m.wc
 went:∃l:List bV,s.went=l.map bV.sp/\(∀x,x∈l->i_ x)/\aJ l=m.jV/\metalOf l=m.mB
structure Eo (m:MS):Prop where
 lots:∀p,p∈m.piles->∀x,x∈p.lots->i_ x
 kind:∀p,p∈m.piles->p.kind<=2
 mP:m.piles.length<=6
 ib:m.sources.length<=6
 grades:∀s,s∈m.sources->s.grades.length=3
 pos:∀s,s∈m.sources->∀g,g∈s.grades->(0:Rat)<=g
 cost:∀s,s∈m.sources->0<=s.cost
 least:m.want.least.length=3
 most:m.want.most.length=3
theorem EF:Rel firstM start:=⟨rfl,rfl,rfl,⟨[],rfl,λx hx=>(bJ hx).elim,rfl,rfl⟩,⟨[],rfl,λx hx=>(bJ hx).elim,rfl,rfl⟩⟩
def cC (m:MS) (p:Int):Bool:=decide (1<=p)&&decide (p<=(m.piles.length:Int))
variable {m:MS} {s:State}
theorem Rel.LK (R:Rel m s) (p:Int):Vbmiak.isPile s p=cC m p:=by
 unfold Vbmiak.isPile within cC;rw[R.piles,ag]
theorem sy {p:Int} (h:cC m p=true):p.toNat-1<m.piles.length:=by
 unfold cC at h;rw[aC,decide_eq_true_iff,decide_eq_true_iff] at h;omega
theorem Rel.pat (R:Rel m s) {p:Int} (h:cC m p=true):Vbmiak.pileAt s p=(aG m p).sp :=by
 have hi:=sy h;unfold Vbmiak.pileAt aG;rw[R.piles,getD_in _ (~~~258),d7,getD_in VT hi]
theorem eP {p:Int} (h:cC m p=true):aG m p∈m.piles:=by
 have hi:=sy h;unfold aG;rw[getD_in VT hi];exact bM hi
theorem Rel.sp (R:Rel m s) {p:Int} (x:dh):Rel (q_ m p x) (Vbmiak.setPile s p x.sp):=by
 refine⟨?_,R.sources,R.want,R.came,R.went⟩;show s.piles.set _ _=(m.piles.set _ _).map _;rw[R.piles,wM]
theorem Cb {a b:List bV} (ha:∀x,x∈a->i_ x) (hb:∀x,x∈b->i_ x):metalOf (a++b)=fM (metalOf a) (metalOf b):=by
 have la:∀x,x∈a->x.grades.length=3:=λx hx=>(ha x hx).len;have lb:∀x,x∈b->x.grades.length=3:=λx hx=>(hb x hx).len;have lab:∀x,x∈a++b->x.grades.length=3:=λx hx=>by
  rcases aE.mp hx with h|h
  .exact la x h
  .exact lb x h
 have l1:=fB la;have l2:=fB lb;rw[three (fB lab),three (pY l1 l2)];exists 88;show(metalOf (a++b)).getD k 0=(fM (metalOf a) (metalOf b)).getD k 0;rw[v_ l1 l2,ph lab hk,ph la hk,ph lb hk];unfold sumK;rw[dZ];have:∀(l:List bV) (r:Rat),l.foldl (~~~97) r=r+l.foldl (~~~97) 0:=by
  intro l
  induction l with
  |nil=>intro r;show r=r+0;grind
  |cons x l ih=>intro r;rw[dm,dm,ih,ih (0+_)];grind
 rw[this]
theorem met {n:Nat} (hn:n≠0) (g:List Rat):jF (eX n g)=g:=by
 unfold jF eX;rw[aI];have:(n:Rat)≠0:=by exact_mod_cast hn
 have e:((λg=>g*(n:Rat))∘λg=>g/ (n:Rat))=λg:Rat=>g:=by
  funext x;show x/ (n:Rat)*(n:Rat)=x;grind
 show g.map ((λg=>g*(n:Rat))∘λg=>g/ (n:Rat))=g;rw[e,rn]
theorem pH {x:dh} (hk:x.kind<=2) (n:Nat):tooMany x n=true↔(x.kind≠2/\30<x.lots.length+n):=by
 unfold tooMany;rw[aC,zU,decide_eq_true_iff,decide_eq_true_iff,decide_eq_true_iff];omega
theorem Nm (x:dh) (n:Nat):fits x.sp n= !gc x n:=by
 unfold fits gc;rw[show x.sp.lots=x.lots.map bV.sp from rfl,gj];show decide (aJ x.lots+n<=x.most)=_;by_cases h:aJ x.lots+n<=x.most
 .rw[decide_eq_true h,decide_eq_false (~~~62)];rfl
 .rw[decide_eq_false h,decide_eq_true (~~~62)];rfl
theorem LP {n:Int} (hn:1<=n) (a b c:Int):(eX n.toNat (d3 [a,b,c])).sp =⟨n.toNat,[q a n.toNat,q b n.toNat,q c n.toNat]⟩:=by
 have h0:n.toNat≠0:=by omega
 unfold eX d3 bV.sp f';simp only[az,aV];have:∀x:Int,q x n.toNat=ofRat ((x:Rat)/ (n.toNat:Rat)):=by
  intro x;rw[Md x h0];congr 1;rw[<-i9,eW];rfl
 rw[this,this,this]
structure Step (m:MS) (s:State) (o:Out) (t:State×List Int):Prop where
 Qu:t.2=o.2
 rel:Rel o.1 t.1
theorem Qa (R:Rel m s) (F:Eo m) {k most:Int} (h:(within k 0 2&&within most 1 1000000000)=true):Step m s (uj m k most) (step s (.pile k most)):=by
 have n:=F.mP;unfold step uj;exists 97;rw[R.piles,ag];by_cases c:m.piles.length=6
 .rw[if_pos (show PILES<=m.piles.length by rw[c];decide),if_pos c];exists 75
 .rw[if_neg (show¬PILES<=m.piles.length by show¬ 6<=_;omega),if_neg c];refine⟨rfl,⟨?_,R.sources,R.want,R.came,R.went⟩⟩;show _=(m.piles++[_]).map dh.sp;rw[bj];rfl
theorem TN (R:Rel m s) (F:Eo m) {p n a b c:Int} (hp:cC m p=true) (hn:1<=n)
  (h:(isPile s p&&(within n 1 1000000&&(within a 0 1000000000&&(within b 0 1000000000&&within c 0 1000000000))))=true):Step m s (B9 m p n [a,b,c]) (step s (.put p n a b c)):=by
 have hm:=eP hp;have lo:=F.lots _ hm;have L:=LP hn a b c;have lok:i_ (eX n.toNat (d3 [a,b,c])):=⟨by show 1<=n.toNat;omega,rfl⟩;unfold step B9;exists 97;rw[R.pat hp,Nm,<-L,JO lo lok];by_cases c1:gc (aG m p) n.toNat=true
 .rw[if_pos c1,c1];exists 75
 .rw[if_neg c1];have Qw:gc (aG m p) n.toNat=false:=by simpa using c1
  rw[Qw];simp only[A9,cZ,if_false];have tm:=pH (F.kind _ hm) (x:=aG m p) 1;have R':(aG m p).sp.lots.length =(aG m p).lots.length :=by show(qA _ _).length =_;rw[ag]
  by_cases c2:tooMany (aG m p) 1=true
  .rw[if_pos c2];have:=tm.mp c2;rw[if_pos (show(aG m p).sp.kind ≠2/\LOTS<=(aG m p).sp.lots.length by rw[R'];exact⟨this.1,by show 30<=_;omega⟩)];exists 75
  .rw[if_neg c2,if_neg (show¬((aG m p).sp.kind ≠2/\LOTS<=(aG m p).sp.lots.length) by
    rw[R'];intro z;exact c2 (tm.mpr ⟨z.1,by have:=z.2;show 30<_;unfold LOTS at this;omega⟩))]
   refine⟨?_,?_⟩
   .show[0,(amountOf (putOn (aG m p) _).sp.lots :Int)]=_;rw[show(~~~215).sp.lots =(~~~215).lots.map bV.sp from rfl,gj]
   .have R2:=R.sp (p:=p) (~~~215);refine⟨R2.piles,R2.sources,R2.want,?_,R2.went⟩;obtain⟨l,e1,e2,e3,e4⟩:=R.came;refine⟨l++[eX n.toNat (d3 [a,b,c])],?_,?_,?_,?_⟩
    .show s.came++_=_;rw[e1,bj];rfl
    .intro x hx;rcases aE.mp hx with z|z
     .exact e2 x z
     .rw[aN.mp z];exact lok
    .rw[dP,e3,cY,ed];rfl
    .unfold metalOf;rw[dZ,dm,Bg,met (~~~62)];show fM (metalOf l) _=fM m.wc _;rw[e4]
theorem vJ {A B:Type} {f g:A->List B}:∀{l:List A},(∀x,x∈l->f x=g x)->l.flatMap f=l.flatMap g
 | [],_=>rfl
 |x::l,h=>by rw[fH,fH,h x (aH ..),vJ (λy hy=>h y (aA _ hy))]
theorem yy {l:List bV} (h:∀x,x∈l->i_ x):(metals (~~~255)).flatMap two=t9 (metalOf l):=by
 rw[ER (λx hx=>(h x hx).len),A8]
theorem step_take (R:Rel m s) (F:Eo m) {p n:Int} (hp:cC m p=true) (hn:1<=n) (h:(isPile s p&&within n 1 1000000000)=true):Step m s (uk m p n) (step s (.take p n)):=by
 have hm:=eP hp;have lo:=F.lots _ hm;obtain⟨ct,Ba,HQ⟩:=Lu (~~~263) lo;unfold step uk;exists 97;rw[R.pat hp];exists 32;rw[e1,gj,ct];by_cases c:aJ (aG m p).lots <n.toNat
 .rw[if_pos c,if_pos c];exists 75
 .rw[if_neg c,if_neg c];simp only;refine⟨?_,?_⟩
  .show 0::_=_;rw[gj,yy Ba,aI,ag];simp only[cV,i4,iq];rfl
  .have R2:=R.sp (p:=p) ⟨(aG m p).kind,(aG m p).most,(~~~67).2.1⟩;refine⟨R2.piles,R2.sources,R2.want,R2.came,?_⟩;obtain⟨l,q1,q2,q3,q4⟩:=R.went;refine⟨l++(~~~67).1,?_,?_,?_,?_⟩
   .show s.went++_=_;rw[q1,bj]
   .intro x hx;rcases aE.mp hx with z|z
    .exact q2 x z
    .exact Ba x z
   .rw[dP,q3];show m.jV+aJ (~~~67).1=m.jV+n.toNat;congr 1;exact(yu (~~~62)).taken
   .rw[Cb q2 Ba,q4]
theorem E4:∀{l:List bV} {p:dh},(∀y,y∈p.lots->i_ y)->(∀y,y∈l->i_ y)->putAll p.sp (~~~255)=(l.foldl putOn p).sp /\∀y,y∈(l.foldl putOn p).lots ->i_ y
 | [],p,hp,_=>⟨rfl,hp⟩
 |x::l,p,hp,hl=>by
  have hx:=hl x (aH ..);show(~~~255).foldl Vbmiak.putOn (Vbmiak.putOn p.sp x.sp)=_/\_;rw[JO hp hx,dm];exact E4 (S0 hp hx) (λy hy=>hl y (aA _ hy))
theorem P' (R:Rel m s) (F:Eo m) {p r n:Int} (hp:cC m p=true) (hr:cC m r=true) (hn:1<=n) (h:within n 1 1000000000=true):Step m s (ui m p r n) (step s (.move p r n)):=by
 have hm:=eP hp;have hm2:=eP hr;have lo:=F.lots _ hm;obtain⟨ct,Ba,HQ⟩:=Lu (~~~263) lo;unfold step ui;simp only[R.LK,hp,hr,h,iR,bB];by_cases pr:p=r
 .rw[if_pos pr,if_pos (by rw[decide_eq_false_iff_not];exact λz=>z pr)];exists 75
 .rw[if_neg pr,if_neg (show¬decide (p≠r)=false by rw[decide_eq_true (show p≠r from pr)];decide)];rw[R.pat hp,R.pat hr];exists 32;rw[e1,gj,ct,Nm];by_cases c:aJ (aG m p).lots <n.toNat
  .rw[if_pos c,if_pos c];exists 75
  .rw[if_neg c,if_neg c];by_cases c1:gc (aG m r) n.toNat=true
   .rw[if_pos c1,c1];exists 75
   .rw[if_neg c1];have Qw:gc (aG m r) n.toNat=false:=by simpa using c1
    rw[Qw];simp only[A9,cZ,if_false];have tm:=pH (F.kind _ hm2) (x:=aG m r) (~~~67).1.length;have R':(aG m r).sp.lots.length =(aG m r).lots.length :=by show(qA _ _).length =_;rw[ag]
    by_cases c2:tooMany (aG m r) (~~~67).1.length =true
    .rw[if_pos c2];have:=tm.mp c2;rw[if_pos (show(aG m r).sp.kind ≠2/\LOTS< (aG m r).sp.lots.length +(qA bV.sp _).length by rw[R',ag];exact⟨this.1,by show 30<_;omega⟩)];exists 75
    .rw[if_neg c2,if_neg (show¬((aG m r).sp.kind ≠2/\LOTS< (aG m r).sp.lots.length +(qA bV.sp _).length) by
      rw[R',ag];intro z;exact c2 (tm.mpr ⟨z.1,z.2⟩))]
     obtain⟨pa,_⟩:=E4 (F.lots _ hm2) Ba;rw[pa];refine⟨?_,(R.sp (p:=p) ⟨(aG m p).kind,(aG m p).most,(~~~67).2.1⟩).sp (p:=r) _⟩;show 0::_=_;rw[gj,yy Ba,show(~~~205).sp.lots =(~~~205).lots.map bV.sp from rfl,gj];rfl
theorem Qc (R:Rel m s) (F:Eo m) {p:Int} (hp:cC m p=true):Step m s (m,B_ m p) (step s (.told p)):=by
 have lo:=F.lots _ (eP hp);unfold step B_;simp only[R.LK,hp,cZ,if_false];rw[R.pat hp];refine⟨?_,R⟩;exists 32;show 0::_=_;rw[e1,gj,yy lo,ag];simp only[cV,i4,iq];rfl
theorem P9 (R:Rel m s) (F:Eo m) {p:Int} (hp:cC m p=true):Step m s (m,EM m p) (step s (.lots p)):=by
 unfold step EM;simp only[R.LK,hp,cZ,if_false];rw[R.pat hp];refine⟨?_,R⟩;exists 32;show 0::_=_;rw[e1,ag,mH];show 0::_::_=0::_::_;congr 2;apply vJ;intro x _;show(x.amount:Int)::(f' x.grades).flatMap two=_;unfold f' vO;rw[A8]
theorem Qb (R:Rel m s) (F:Eo m):Step m s (m,zL m) (step s .sums):=by
 obtain⟨l,q1,q2,q3,q4⟩:=R.came;obtain⟨k,p1,p2,p3,p4⟩:=R.went;have al:s.piles.flatMap (λp=>p.lots)=(lZ m).map bV.sp:=by
  unfold lZ;rw[R.piles,mH,List.map_flatMap];rfl
 have ok:∀x,x∈lZ m->i_ x:=λx hx=>by
  obtain⟨p,hp,h⟩:=g_.mp hx;exact F.lots p hp x h
 refine⟨?_,R⟩;unfold step zL;simp only[fH,qy,dU];rw[al,q1,p1,gj,gj,gj,yy q2,yy ok,yy p2,q3,q4,p3,p4];simp only[cV,i4,iq];rfl
theorem J_ (R:Rel m s) (F:Eo m) (x:RS):(if SOURCES<=s.sources.length then no s 3 else yes {s with sources:=s.sources++[x.sp]} [(s.sources.length:Int)+1]).2=(iy m x).2/\
  Rel (iy m x).1 (if SOURCES<=s.sources.length then no s 3 else yes {s with sources:=s.sources++[x.sp]} [(s.sources.length:Int)+1]).1:=by
 have n:=F.ib;unfold iy;rw[R.sources,ag];by_cases c:m.sources.length=6
 .rw[if_pos (show SOURCES<=m.sources.length by rw[c];decide),if_pos c];exists 75
 .rw[if_neg (show¬SOURCES<=m.sources.length by show¬ 6<=_;omega),if_neg c];refine⟨rfl,⟨R.piles,?_,R.want,R.came,R.went⟩⟩;show _=(m.sources++[_]).map RS.sp;rw[bj];rfl
theorem J' (R:Rel m s) (F:Eo m) {c t a b d:Int} (h:(within c 0 1000000&&(within t 0 1000000&&(within a 0 1000000&&(within b 0 1000000&&within d 0 1000000))))=true):
  Step m s (uS m c t [a,b,d]) (step s (.source c t a b d)):=by
 unfold step uS;exists 97;have:∀x:Int,q x 1000=ofRat (mkRat x 1000):=λx=>Md x (~~~73);rw[this,this,this];obtain⟨a1,a2⟩:=J_ R F ⟨c,t.toNat,[a,b,d].map λx=>mkRat x 1000⟩;exact⟨a1,a2⟩
theorem MA (R:Rel m s) (F:Eo m) {p c:Int} (hp:cC m p=true) (h:within c 0 1000000=true):Step m s (pf m p c) (step s (.offer p c)):=by
 have lo:=F.lots _ (eP hp);unfold step pf;simp only[R.LK,hp,h,bB,cZ,if_false];rw[R.pat hp];exists 32;rw[e1];by_cases z:(aG m p).lots.length =0
 .rw[if_pos z,if_pos (by rw[x6,om];exact List.length_eq_zero_iff.mp z)];exists 75
 .have ne:(aG m p).lots ≠[]:=λy=>z (by rw[y];rfl);rw[if_neg z,if_neg (by rw[x6,om];exact ne)];obtain⟨a1,a2⟩:=J_ R F ⟨c,aJ (aG m p).lots,(mixed (aG m p).lots).grades⟩;have e2:(⟨c,amountOf ((aG m p).lots.map bV.sp),(metals ((aG m p).lots.map bV.sp)).map λx=>over x (whole (amountOf ((aG m p).lots.map bV.sp):Int))⟩:Source)=
    RS.sp ⟨c,aJ (aG m p).lots,(mixed (aG m p).lots).grades⟩:=by
   rw[EI (λx hx=>(lo x hx).len) (mY lo ne),gj];rfl
  rw[e2];exact⟨a1,a2⟩
theorem My (R:Rel m s):Step m s (LR m) (step s .clear):=⟨rfl,⟨R.piles,rfl,R.want,R.came,R.went⟩⟩
theorem Qe (R:Rel m s) {n:Int} {l:List Int} (h:(within n 0 1000000&&(decide (l.length=2*KINDS)&&l.all λz=>within z 0 1000000))=true):Step m s (Ji m n l) (step s (.want n l)):=by
 unfold step Ji;exists 97;exact⟨rfl,⟨R.piles,R.sources,rfl,R.came,R.went⟩⟩
theorem Mw (R:Rel m s) (F:Eo m):Step m s (m,uh m) (step s .blend):=by
 unfold step uh;simp only;rw[R.want,R.sources,Q9 m.want m.sources F.grades F.cost];cases e:gy m.want m.sources with
 |none=>exact⟨rfl,R⟩
 |some x=>
  have hl:m.sources.length=x.length:=by
   unfold gy fz at e;rw[lY] at e;obtain⟨c,ec,e⟩:=e;have:c.length=m.sources.length:=by
    unfold Du.f9 at ec;split at ec
    .rw[<-bG.inj ec];simp
    .cases ec
   rw[<-e];simp[this]
  refine⟨?_,R⟩;simp only[eI];rw[FW hl,A8];rfl
theorem P_ (R:Rel m s) (F:Eo m):Step m s (m,Sd m) (step s .most):=by
 refine⟨?_,R⟩;show 0::two (mostOf s.want s.sources)=_;rw[R.want,R.sources,O_ m.want m.sources F.grades];rfl
theorem MC (R:Rel m s) (F:Eo m) {k:Int} (h:within k 1 3=true):Step m s (m,vP m k) (step s (.range k)):=by
 have hk:k.toNat-1<3:=by
  unfold within at h;rw[aC,decide_eq_true_iff,decide_eq_true_iff] at h;omega
 unfold step vP;exists 97;rw[R.want,R.sources,Tc m.want m.sources F.grades F.pos hk];cases sA m.want m.sources (k.toNat-1) with
 |none=>exact⟨rfl,R⟩
 |some a=>
  cases sE m.want m.sources (k.toNat-1) with
  |none=>exact⟨rfl,R⟩
  |some b=>exact⟨rfl,R⟩
structure mF (n:Nat) (l:List Int):Prop where
 len:l.length=2*n
 up:∀i,i<l.length->i%2=0-> -1000000000000<=l.getD i 0/\l.getD i 0<=1000000000000
 low:∀i,i<l.length->i%2=1->1<=l.getD i 0/\l.getD i 0<=1000000000000
theorem lM {n:Nat} {l:List Int}:isRow n l=true↔mF n l:=by
 unfold isRow;rw[aC,decide_eq_true_iff,fw];constructor
 .rintro⟨a,b⟩;have at_:∀i,i<l.length->(if i%2=0 then within (l.getD i 0) (-1000000000000) 1000000000000 else within (l.getD i 0) 1 1000000000000)=true:=by
   intro i hi;have:=b (l[i],i) (by rw[cQ];exact⟨i,by simpa using hi,by simp⟩);rw[getD_in 0 hi];exact this
  refine⟨a,λi hi he=>?_,λi hi he=>?_⟩
  .have:=at_ i hi;rw[if_pos he] at this;unfold within at this;rw[aC,decide_eq_true_iff,decide_eq_true_iff] at this;exact this
  .have:=at_ i hi;rw[if_neg (~~~62)] at this;unfold within at this;rw[aC,decide_eq_true_iff,decide_eq_true_iff] at this;exact this
 .rintro⟨a,u,v⟩;refine⟨a,λx hx=>?_⟩;obtain⟨i,hi,e⟩:=cQ.mp hx;have wG:i<l.length:=by simpa using hi
  have e1:x.1=l.getD i 0:=by rw[<-e,getD_in 0 wG];simp
  have e2:x.2=i:=by rw[<-e];simp
  rw[e1,e2];unfold within;by_cases c:i%2=0
  .rw[if_pos c,aC,decide_eq_true_iff,decide_eq_true_iff];exact u i wG c
  .rw[if_neg c,aC,decide_eq_true_iff,decide_eq_true_iff];exact v i wG (~~~62)
theorem Mx (R:Rel m s) (F:Eo m) {x:List Int} (h:mF m.sources.length x):Step m s (m,yE m x) (step s (.check x)):=by
 unfold step yE;rw[R.sources,ag];simp only[lM.mpr h,cZ,if_false];rw[AO (λi hi he=>(h.low i hi he).1),R.want,IK _ _ _ (by rw[qQ h.len]) F.least F.most,FW (by rw[qQ h.len])];exists 75
theorem MB (R:Rel m s) (F:Eo m) {x p:List Int} (h:mF m.sources.length x) (hp:mF (~~~135) p):Step m s (m,B8 m x p) (step s (.proof x p)):=by
 obtain⟨e,a1,a2,a3⟩:=E3 hp.len (λi hi he=>(hp.low i hi he).1);unfold step B8;rw[R.sources,ag];simp only[lM.mpr h,show 1+2*KINDS+m.sources.length=7+m.sources.length from rfl,lM.mpr hp,bB,cZ,if_false];rw[e,AO (λi hi he=>(h.low i hi he).1),R.want,PD _ _ _ _ (by rw[qQ h.len]) F.least F.most F.grades a1 a2 a3];exists 75
theorem Mz (R:Rel m s) (F:Eo m) {p:List Int} (hp:mF (~~~135) p):Step m s (m,Gj m p) (step s (.never p)):=by
 obtain⟨e,a1,a2,a3⟩:=E3 hp.len (λi hi he=>(hp.low i hi he).1);unfold step Gj;rw[R.sources,ag];simp only[show 1+2*KINDS+m.sources.length=7+m.sources.length from rfl,lM.mpr hp,cZ,if_false];rw[e,R.want,LD _ _ _ F.grades a1 a2 a3];exists 75
theorem Ho (R:Rel m s) (F:Eo m):Step m s (m,qS m) (step s .sources):=by
 refine⟨?_,R⟩;unfold step qS;rw[R.want,R.sources,ag,mH];have e1:(m.sources.flatMap λx=>[x.sp.cost,(x.sp.there:Int)]++x.sp.grades.flatMap two)=m.sources.flatMap uA:=by
  apply vJ;intro x _;show[x.cost,(x.there:Int)]++(f' x.grades).flatMap two=_;unfold f' uA;rw[A8]
 have e2:(ax KINDS).flatMap (λk=>[((m.want.least.getD k 0:Nat):Int),((m.want.most.getD k 0:Nat):Int)])=(m.want.least.zip m.want.most).flatMap λp=>[((p.1:Nat):Int),((p.2:Nat):Int)]:=by
  match m.want.least,F.least,m.want.most,F.most with
  | [a,b,c],_,[d,e,f],_=>rfl
 rw[e1,e2];show 0::_=_;simp only[cV,i4,iq]
end Mi
namespace Mi
open Vbmiak Bl
abbrev Bound:=Int×Option Int
def cx:Nat->List Bound
 |0=>[(0,some 2),(1,some 1000000000)]
 |1=>[(1,none),(1,some 1000000),(0,some 1000000000),(0,some 1000000000),(0,some 1000000000)]
 |2=>[(1,none),(1,some 1000000000)]
 |3=>[(1,none),(1,none),(1,some 1000000000)]
 |4=>[(1,none)]
 |5=>[(1,none)]
 |7=>[(0,some 1000000),(0,some 1000000),(0,some 1000000),(0,some 1000000),(0,some 1000000)]
 |8=>[(1,none),(0,some 1000000)]
 |10=>[(0,some 1000000)]
 |13=>[(1,some 3)]
 |_=>[]
def rowsOf:Nat->List Nat
 |10=>[0]
 |14=>[1]
 |15=>[1,2]
 |16=>[2]
 |_=>[]
def d6 (n:Int) (b:Bound) (piles:Nat):Bool:=decide (b.1<=n)&&decide (n<=b.2.getD (piles:Int))
def d9 (call:Nat) (nums:List Int) (piles:Nat):Bool:=((nums.zip (cx call)).map λx=>d6 x.1 x.2 piles).all id
def between (l:List Int) (lo hi:Int):Bool:=(l.map λn=>decide (lo<=n)&&decide (n<=hi)).all id
def pU:List Int->List Int
 |a::_::r=>a::pU r
 | [a]=>[a]
 | []=>[]
def xB:List Int->List Int
 |_::b::r=>b::xB r
 |_=>[]
def vj (row:List Int) (n:Nat):Bool:=if row.length≠2*n then false else between (pU row) (-1000000000000) 1000000000000&&between (xB row) 1 1000000000000
def FI (row:List Int) (name:Nat) (sources:Nat):Bool:=
 if name=1 then vj row sources else if name=2 then vj row (7+sources) else decide (row.length=6)&&between row 0 1000000
def gu (call:Nat) (rows:List (~~~94)) (sources:Nat):Bool:=((rows.zip (rowsOf call)).map λx=>FI x.1 x.2 sources).all id
def B' (m:MS) (call:Nat) (n:List Int):Out:=match call with
 |0=>uj m (~~~66) (~~~89)
 |1=>B9 m (~~~66) (~~~89) (~~~180)
 |2=>uk m (~~~66) (~~~89)
 |3=>ui m (~~~66) (~~~89) (n.getD 2 0)
 |4=>(m,B_ m (~~~66))
 |5=>(m,EM m (~~~66))
 |6=>(m,zL m)
 |7=>uS m (~~~66) (~~~89) (~~~180)
 |8=>pf m (~~~66) (~~~89)
 |9=>LR m
 |10=>Ji m (~~~66) (n.drop 1)
 |11=>(m,uh m)
 |12=>(m,Sd m)
 |13=>(m,vP m (~~~66))
 |14=>(m,yE m n)
 |15=>(m,B8 m (n.take (~~~243)) (n.drop (~~~243)))
 |16=>(m,Gj m n)
 |_=>(m,qS m)
def eu (m:MS) (call:Nat) (nums:List Int) (rows:List (~~~94)):Out:=
 if d9 call nums m.piles.length=false then(m,[-1]) else if gu call rows m.sources.length=false then(m,[-1]) else B' m call (nums++rows.flatten)
theorem tS (l:List Int) (lo hi:Int):between l lo hi=l.all λn=>within n lo hi:=by
 unfold between within;rw[rp];rfl
theorem uM:∀(l:List Int) (P:Int->Prop),(∀x,x∈pU l->P x)↔∀i,i<l.length->i%2=0->P (l.getD i 0)
 | [],P=>by simp[pU]
 | [a],P=>by
  constructor
  .intro h i hi _;have:i=0:=by simp at hi;omega
   subst this;exact h a (by simp[pU])
  .intro h x hx;simp only[pU,aN] at hx;rw[hx];exact h 0 (~~~88) rfl
 |a::b::r,P=>by
  have ih:=uM r P;simp only[pU,aB];constructor
  .intro h i hi he
   match i,hi,he with
   |0,_,_=>exact h a (~~~288)
   |1,_,he=>omega
   |i+2,hi,he=>exact ih.mp (λx hx=>h x (.inr hx)) i (by simp at hi;omega) (~~~62)
  .intro h x hx;rcases hx with hx|hx
   .rw[hx];exact h 0 (~~~88) rfl
   .exact ih.mpr (λi hi he=>h (i+2) (by simp;omega) (~~~62)) x hx
theorem qT:∀(l:List Int) (P:Int->Prop),(∀x,x∈xB l->P x)↔∀i,i<l.length->i%2=1->P (l.getD i 0)
 | [],P=>by simp[xB]
 | [a],P=>by
  constructor
  .intro h i hi he;have:i=0:=by simp at hi;omega
   omega
  .intro h x hx;simp[xB] at hx
 |a::b::r,P=>by
  have ih:=qT r P;simp only[xB,aB];constructor
  .intro h i hi he
   match i,hi,he with
   |0,_,he=>omega
   |1,_,_=>exact h b (~~~288)
   |i+2,hi,he=>exact ih.mp (λx hx=>h x (.inr hx)) i (by simp at hi;omega) (~~~62)
  .intro h x hx;rcases hx with hx|hx
   .rw[hx];exact h 1 (~~~88) rfl
   .exact ih.mpr (λi hi he=>h (i+2) (by simp;omega) (~~~62)) x hx
theorem iz {row:List Int} {n:Nat}:vj row n=true↔mF n row:=by
 unfold vj;by_cases h:row.length=2*n
 .rw[if_neg (~~~317),aC,tS,tS,fw,fw];have w:∀(x lo hi:Int),within x lo hi=true↔lo<=x/\x<=hi:=by
   intro x lo hi;unfold within;rw[aC,decide_eq_true_iff,decide_eq_true_iff]
  constructor
  .rintro⟨a,b⟩;refine⟨h,?_,?_⟩
   .exact(uM row _).mp (λx hx=>(w _ _ _).mp (a x hx))
   .exact(qT row _).mp (λx hx=>(w _ _ _).mp (b x hx))
  .rintro⟨_,a,b⟩;exact⟨λx hx=>(w _ _ _).mpr ((uM row (λz=> -1000000000000<=z/\z<=1000000000000)).mpr a x hx),λx hx=>(w _ _ _).mpr ((qT row (λz=>1<=z/\z<=1000000000000)).mpr b x hx)⟩
 .rw[if_pos h];constructor
  .intro z;cases z
  .intro z;exact absurd z.len h
theorem Fc (u:List Int) (k:Nat):FI u 0 k=(decide (u.length=6)&&u.all λn=>within n 0 1000000):=by rw[<-tS];rfl
theorem Ke (u:List Int) (k:Nat):FI u 1 k=vj u k:=rfl
theorem Kf (u:List Int) (k:Nat):FI u 2 k=vj u (7+k):=rfl
theorem Ig {m:MS} {s:State} (R:Rel m s) (F:Eo m) {c:List (~~~94)} (hc:VbmiakNeutral.asked1 c=true):
  ∃(p:Nat) (nums:List Int) (rows:List (~~~94)),c=(~~~253)::rows/\p<18/\nums.length=(cx p).length /\rows.length=(rowsOf p).length /\
   (∀r,r∈rows->r.length<=40)/\Step m s (eu m p nums rows) (~~~285):=by
 have wi:∀n lo hi:Int,(decide (lo<=n)&&decide (n<=hi))=within n lo hi:=λ_ _ _=>rfl;have ip:∀p:Int,(decide (1<=p)&&decide (p<=(m.piles.length:Int)))=cC m p:=λ_=>rfl;have bad:∀(o:State×List Int),o=no s 1->Step m s (m,[-1]) o:=λo e=>by rw[e];exists 75
 have JQ:∀u:List Int,VbmiakNeutral.row 40 u=true->u.length<=40:=λu h=>by
  unfold VbmiakNeutral.row at h;rw[aC,decide_eq_true_iff] at h;exact h.1
 have pX:∀r:List Int,r∈([]:List (~~~94))->r.length<=40:=λr h=>(bJ h).elim;unfold VbmiakNeutral.asked1 at hc;unfold VbmiakNeutral.step stepRows;split at hc
 .rename_i a b;refine⟨0,[a,b],[],rfl,by decide,rfl,rfl,pX,?_⟩;show Step m s _ (step s (.pile a b));unfold eu d9 gu;simp only[cx,rowsOf,aP,aR,az,aV,bu,bO,id,d6,bF,wi,bB];cases h:(within a 0 2&&within b 1 1000000000) with
  |false=>exact bad _ (by unfold step;simp only[h,if_true])
  |true=>exact Qa R F h
 .rename_i p n a b c;refine⟨1,[p,n,a,b,c],[],rfl,by decide,rfl,rfl,pX,?_⟩;show Step m s _ (step s (.put p n a b c));exists 7;rw[show within p 1 (m.piles.length:Int)=isPile s p from(R.LK p).symm];cases h:(isPile s p&&(within n 1 1000000&&(within a 0 1000000000&&(within b 0 1000000000&&within c 0 1000000000)))) with
  |false=>exact bad _ (by unfold step;simp only[h,if_true])
  |true=>
   have h':=h;rw[aC,aC] at h';have hp:cC m p=true:=by rw[<-R.LK];exact h'.1
   have hn:1<=n:=by
    have:=h'.2.1;exists 51
   exact TN R F hp hn h
 .rename_i p n;refine⟨2,[p,n],[],rfl,by decide,rfl,rfl,pX,?_⟩;show Step m s _ (step s (.take p n));exists 7;rw[show within p 1 (m.piles.length:Int)=isPile s p from(R.LK p).symm];cases h:(isPile s p&&within n 1 1000000000) with
  |false=>exact bad _ (by unfold step;simp only[h,if_true])
  |true=>
   have h':=h;rw[aC] at h';have hp:cC m p=true:=by rw[<-R.LK];exact h'.1
   have hn:1<=n:=by
    have:=h'.2;exists 51
   exact step_take R F hp hn h
 .rename_i p r n;refine⟨3,[p,r,n],[],rfl,by decide,rfl,rfl,pX,?_⟩;show Step m s _ (step s (.move p r n));exists 7;rw[show within p 1 (m.piles.length:Int)=cC m p from rfl,show within r 1 (m.piles.length:Int)=cC m r from rfl];cases hp:cC m p with
  |false=>exact bad _ (by unfold step;simp only[R.LK,hp,eY,if_true])
  |true=>
   cases hr:cC m r with
   |false=>exact bad _ (by unfold step;simp only[R.LK,hp,hr,eY,jY,if_true])
   |true=>
    cases h:within n 1 1000000000 with
    |false=>exact bad _ (by unfold step;simp only[R.LK,hp,hr,h,jY,if_true])
    |true=>
     have hn:1<=n:=by
      have:=h;exists 51
     exact P' R F hp hr hn h
 .rename_i p;refine⟨4,[p],[],rfl,by decide,rfl,rfl,pX,?_⟩;show Step m s _ (step s (.told p));exists 54;cases hp:cC m p with
  |false=>exact bad _ (by unfold step;simp only[R.LK,hp,if_true])
  |true=>exact Qc R F hp
 .rename_i p;refine⟨5,[p],[],rfl,by decide,rfl,rfl,pX,?_⟩;show Step m s _ (step s (.lots p));exists 54;cases hp:cC m p with
  |false=>exact bad _ (by unfold step;simp only[R.LK,hp,if_true])
  |true=>exact P9 R F hp
 .exact⟨6,[],[],rfl,by decide,rfl,rfl,pX,Qb R F⟩
 .rename_i c t a b d;refine⟨7,[c,t,a,b,d],[],rfl,by decide,rfl,rfl,pX,?_⟩;show Step m s _ (step s (.source c t a b d));exists 7;cases h:(within c 0 1000000&&(within t 0 1000000&&(within a 0 1000000&&(within b 0 1000000&&within d 0 1000000)))) with
  |false=>exact bad _ (by unfold step;simp only[h,if_true])
  |true=>exact J' R F h
 .rename_i p c;refine⟨8,[p,c],[],rfl,by decide,rfl,rfl,pX,?_⟩;show Step m s _ (step s (.offer p c));exists 54;cases hp:cC m p with
  |false=>exact bad _ (by unfold step;simp only[R.LK,hp,eY,if_true])
  |true=>
   cases h:within c 0 1000000 with
   |false=>exact bad _ (by unfold step;simp only[R.LK,hp,h,jY,if_true])
   |true=>exact MA R F hp h
 .exact⟨9,[],[],rfl,by decide,rfl,rfl,pX,My R⟩
 .rename_i n u;rw[aC] at hc;refine⟨10,[n],[u],rfl,by decide,rfl,rfl,λr hr=>by rw[aN.mp hr];exact JQ u hc.2,?_⟩;show Step m s _ (step s (.want n u));unfold eu d9 gu;simp only[Fc,Ke,Kf,cx,rowsOf,aP,aR,az,aV,bu,bO,id,d6,bF,bH,wi,bB];cases h1:within n 0 1000000 with
  |false=>exact bad _ (by unfold step;simp only[h1,eY,if_true])
  |true=>
   rw[if_neg (~~~73)];cases h2:(decide (u.length=6)&&u.all λn=>within n 0 1000000) with
   |false=>exact bad _ (by unfold step;simp only[h1,show 2*KINDS=6 from rfl,h2,jY,if_true])
   |true=>
    rw[if_neg (~~~73)];have:=Qe R (n:=n) (l:=u) (by rw[h1,show 2*KINDS=6 from rfl,h2];rfl);simpa[B'] using this
 .exact⟨11,[],[],rfl,by decide,rfl,rfl,pX,Mw R F⟩
 .exact⟨12,[],[],rfl,by decide,rfl,rfl,pX,P_ R F⟩
 .rename_i k;refine⟨13,[k],[],rfl,by decide,rfl,rfl,pX,?_⟩;show Step m s _ (step s (.range k));exists 7;cases h:within k 1 3 with
  |false=>exact bad _ (by unfold step;simp only[h,if_true])
  |true=>exact MC R F h
 .rename_i u;refine⟨14,[],[u],rfl,by decide,rfl,rfl,λr hr=>by rw[aN.mp hr];exact JQ u hc,?_⟩;show Step m s _ (step s (.check u));exists 33;cases h:vj u m.sources.length with
  |false=>
   refine bad _ ?_;have:isRow m.sources.length u=false:=by
    cases q:isRow m.sources.length u with
    |false=>rfl
    |true=>rw[iz.mpr (lM.mp q)] at h;cases h
   unfold step;rw[R.sources,ag];simp only[this,if_true]
  |true=>
   rw[if_neg (~~~73)];have:=Mx R F (iz.mp h);simpa[B'] using this
 .rename_i u v;rw[aC] at hc;refine⟨15,[],[u,v],rfl,by decide,rfl,rfl,λr hr=>by
   rcases aB.mp hr with e|e
   .rw[e];exact JQ u hc.1
   .rw[aN.mp e];exact JQ v hc.2,?_⟩
  show Step m s _ (step s (.proof u v));exists 33;cases h:(vj u m.sources.length&&vj v (~~~135)) with
  |false=>
   refine bad _ ?_;have:(isRow m.sources.length u&&isRow (~~~135) v)=false:=by
    cases q:(isRow m.sources.length u&&isRow (~~~135) v) with
    |false=>rfl
    |true=>
     rw[aC] at q;rw[iz.mpr (lM.mp q.1),iz.mpr (lM.mp q.2)] at h;cases h
   unfold step;rw[R.sources,ag];simp only[show 1+2*KINDS+m.sources.length=7+m.sources.length from rfl,this,if_true]
  |true=>
   rw[if_neg (~~~73)];rw[aC] at h;have h1:=iz.mp h.1;have:=MB R F h1 (iz.mp h.2);show Step m s (m,B8 m ((u++(v++[])).take (~~~243)) ((u++(v++[])).drop (~~~243))) _;rw[dU,<-h1.len,tM,tL];exact this
 .rename_i u;refine⟨16,[],[u],rfl,by decide,rfl,rfl,λr hr=>by rw[aN.mp hr];exact JQ u hc,?_⟩;show Step m s _ (step s (.never u));exists 33;cases h:vj u (~~~135) with
  |false=>
   refine bad _ ?_;have:isRow (~~~135) u=false:=by
    cases q:isRow (~~~135) u with
    |false=>rfl
    |true=>rw[iz.mpr (lM.mp q)] at h;cases h
   unfold step;rw[R.sources,ag];simp only[show 1+2*KINDS+m.sources.length=7+m.sources.length from rfl,this,if_true]
  |true=>
   rw[if_neg (~~~73)];have:=Mz R F (iz.mp h);simpa[B'] using this
 .exact⟨17,[],[],rfl,by decide,rfl,rfl,pX,Ho R F⟩
 .cases hc
end Mi
namespace Mi
open Vbmiak Bl
set_option exponentiation.threshold 100
set_option maxRecDepth 4000
theorem p30:(2:Nat)^30=1073741824:=by decide
theorem p20:(2:Nat)^20=1048576:=by decide
theorem rP {x:Rat} {D:Nat} (hD:D≠0):x.den∣D↔∃z:Int,x*(D:Rat)=(z:Rat):=by
 constructor
 .intro h;exact⟨_,(C_ h).symm⟩
 .rintro⟨z,e⟩;have dn:(D:Rat)≠0:=by exact_mod_cast hD
  have:x=mkRat z D:=by
   rw[<-i9,eW];show x=(z:Rat)/ (D:Rat);grind
  rw[this,Fm.Gi z hD];exact vC (jW _ _)
theorem den_add {x y:Rat} {D:Nat} (hD:D≠0) (hx:x.den∣D) (hy:y.den∣D):(x+y).den ∣D:=by
 obtain⟨a,ea⟩:=(rP hD).mp hx;obtain⟨b,eb⟩:=(rP hD).mp hy;exact(rP hD).mpr ⟨a+b,by rw[sN];grind⟩
theorem yw {x:Rat} {D:Nat} (n:Nat) (hD:D≠0) (hx:x.den∣D):(x*(n:Rat)).den ∣D:=by
 obtain⟨a,ea⟩:=(rP hD).mp hx;exact(rP hD).mpr ⟨a*(n:Int),by rw[dD];show _=_*(n:Rat);grind⟩
theorem BL {x:Rat} {D n:Nat} (hD:D≠0) (hn:n≠0) (hx:x.den∣D):(x/ (n:Rat)).den ∣D*n:=by
 obtain⟨a,ea⟩:=(rP hD).mp hx;have nn:(n:Rat)≠0:=by exact_mod_cast hn
 exact(rP (kP hD hn)).mpr ⟨a,by rw[jB];grind⟩
theorem U3 (z:Int) (D:Nat):((z:Rat)).den ∣D:=by rw[sM];exact zh D
structure Ej (D:Nat) (g:Rat):Prop where
 lo:0<=g
 hi:g<=1000000000
 den:g.den∣D
structure qF (D:Nat) (x:bV):Prop where
 ok:i_ x
 g:∀y,y∈x.grades->Ej D y
structure mJ (D:Nat) (p:dh):Prop where
 kind:p.kind<=2
 most:p.most<=1000000000
 weight:aJ p.lots<=p.most
 len:p.lots.length<=30
 lots:∀x,x∈p.lots->qF D x
structure lK (D:Nat) (s:RS):Prop where
 cost:0<=s.cost/\s.cost<=1000000
 there:s.there<=1000000000
 len:s.grades.length=3
 g:∀y,y∈s.grades->Ej D y
structure oC (t D:Nat) (l:List Rat):Prop where
 len:l.length=3
 g:∀y,y∈l->0<=y/\y<=(t:Rat)*1000000000000000000/\y.den∣D
structure j5 (w:Want):Prop where
 amount:w.amount<=1000000
 YJ:w.least.length=3
 least:∀x,x∈w.least->x<=1000000
 YQ:w.most.length=3
 most:∀x,x∈w.most->x<=1000000
structure Ok (t D:Nat) (m:MS):Prop where
 pos:0<D
 le:D<=2^(1000*(t+1))
 mP:m.piles.length<=6
 ib:m.sources.length<=6
 pile:∀p,p∈m.piles->mJ D p
 src:∀s,s∈m.sources->lK D s
 want:j5 m.want
 put:oC t D m.wc
 taken:oC t D m.mB
theorem Ej.mono {D E:Nat} {g:Rat} (h:Ej D g) (d:D∣E):Ej E g:=⟨h.lo,h.hi,gk h.den d⟩
theorem qF.mono {D E:Nat} {x:bV} (h:qF D x) (d:D∣E):qF E x:=⟨h.ok,λy hy=>(h.g y hy).mono d⟩
theorem mJ.mono {D E:Nat} {p:dh} (h:mJ D p) (d:D∣E):mJ E p:=⟨h.kind,h.most,h.weight,h.len,λx hx=>(h.lots x hx).mono d⟩
theorem lK.mono {D E:Nat} {p:RS} (h:lK D p) (d:D∣E):lK E p:=⟨h.cost,h.there,h.len,λy hy=>(h.g y hy).mono d⟩
theorem oC.mono {t u D E:Nat} {l:List Rat} (h:oC t D l) (ht:t<=u) (d:D∣E):oC u E l:=
 ⟨h.len,λy hy=>by
  obtain⟨a,b,c⟩:=h.g y hy;have:(t:Rat)<=(u:Rat):=by exact_mod_cast ht
  exact⟨a,by grind,gk c d⟩⟩
theorem Ok.fit {t D:Nat} {m:MS} (h:Ok t D m):Eo m:=
 ⟨λp hp x hx=>((h.pile p hp).lots x hx).ok,λp hp=>(h.pile p hp).kind,h.mP,h.ib,λs hs=>(h.src s hs).len,λs hs g hg=>((h.src s hs).g g hg).lo,λs hs=>(h.src s hs).cost.1,h.want.YJ,h.want.YQ⟩
theorem IQ:Ok 0 1 firstM:=by
 have z:∀y:Rat,y∈([0,0,0]:List Rat)->y=0:=λy hy=>by
  simp only[aB,bJ,or_false,or_self] at hy;exact hy
 have mz:oC 0 1 [0,0,0]:=⟨rfl,λy hy=>by rw[z y hy];exact⟨by decide,by have:((0:Nat):Rat)=0:=rfl;grind,by decide⟩⟩;refine⟨by decide,Nat.one_le_two_pow,by decide,by decide,λp hp=>(bJ hp).elim,λp hp=>(bJ hp).elim,⟨by decide,rfl,?_,rfl,?_⟩,mz,mz⟩
 .intro x hx;have hx:x∈[0,0,0]:=hx;simp only[aB,bJ,or_false,or_self] at hx;omega
 .intro x hx;have hx:x∈[1000000,1000000,1000000]:=hx;simp only[aB,bJ,or_false,or_self] at hx;omega
theorem mem_getD {l:List Rat} {k:Nat} (h:k<l.length):l.getD k 0∈l:=by rw[getD_in 0 h];exact bM h
theorem Ss {l:List Rat} {y:Rat} (h:y∈l):∃k,k<l.length/\y=l.getD k 0:=by
 obtain⟨k,hk,e⟩:=cQ.mp h;exact⟨k,hk,by rw[getD_in 0 hk,e]⟩
theorem NX {D:Nat} (hD:D≠0) {k:Nat} (hk:k<3):∀{l:List bV} {a:Rat},(∀x,x∈l->qF D x)->a.den∣D->
  a<=l.foldl (~~~97) a/\l.foldl (~~~97) a<=a+1000000000*(aJ l:Rat)/\(l.foldl (~~~97) a).den ∣D
 | [],a,_,ha=>⟨by grind,by show a<=a+1000000000*((0:Nat):Rat);have:((0:Nat):Rat)=0:=rfl;grind,ha⟩
 |x::l,a,h,ha=>by
  have hx:=h x (aH ..);have g:=hx.g _ (mem_getD (l:=x.grades) (k:=k) (by rw[hx.ok.len];exact hk));have ap:(0:Rat)<=(x.amount:Rat):=by exact_mod_cast cj _
  rw[dm,cY];obtain⟨p,q,r⟩:=NX hD hk (l:=l) (a:=a+x.grades.getD k 0*(x.amount:Rat)) (λy hy=>h y (aA _ hy)) (den_add hD ha (yw _ hD g.den));have m1:=bX g.lo ap;have m2:=bX (show(0:Rat)<=1000000000-x.grades.getD k 0 by have:=g.hi;grind) ap;refine⟨by grind,?_,r⟩;rw[Ad];grind
theorem Cc {D:Nat} (hD:D≠0) {l:List bV} (h:∀x,x∈l->qF D x):(metalOf l).length =3/\∀y,y∈metalOf l->0<=y/\y<=1000000000*(aJ l:Rat)/\y.den∣D:=by
 have hl:∀x,x∈l->x.grades.length=3:=λx hx=>(h x hx).ok.len;refine⟨fB hl,λy hy=>?_⟩;obtain⟨k,hk,e⟩:=Ss hy;rw[fB hl] at hk;rw[e,ph hl hk];have z:=NX hD hk (a:=0) h (by show(1:Nat)∣D;exact zh D);unfold sumK;exact⟨z.1,by have:=z.2.1;grind,z.2.2⟩
theorem Nz {D:Nat} (hD:D≠0) {l:List bV} (h:∀x,x∈l->qF D x) (jE:l≠[]):qF (D*aJ l) (mixed l):=by
 have hw:=mY (λx hx=>(h x hx).ok) jE;obtain⟨_,ml⟩:=Cc hD h;refine⟨Jk (λx hx=>(h x hx).ok) jE,λy hy=>?_⟩;exists 95;obtain⟨a,b,c⟩:=ml z hz;have wp:(0:Rat)< (aJ l:Rat):=by exact_mod_cast fk hw
 rw[<-e];refine⟨ia a wp,?_,BL hD hw c⟩;have:=xP wp b;rw[fT];grind
theorem sD (p:dh) (x:bV):aJ (putOn p x).lots =aJ p.lots+x.amount:=by
 unfold putOn;simp only;split
 .rw[dP,cY,ed];omega
 .split
  .rw[dP,cY,ed];omega
  .rw[cY,ed];show aJ (p.lots++[x])+0=_;rw[dP,cY,ed];omega
def rJ (p:dh) (n:Nat):Prop:=p.kind=2\/p.lots.length+n<=30
theorem NP {D:Nat} (hD:0<D) {p:dh} (P:mJ D p) {x:bV} (hx:qF D x) (hw:aJ p.lots+x.amount<=p.most) {n:Nat} (hn:rJ p (n+1)):
  ∃E,D∣E/\E<=D*2^30/\0<E/\mJ E (putOn p x)/\rJ (putOn p x) n:=by
 have all:∀y,y∈p.lots++[x]->qF D y:=by
  intro y hy;rcases aE.mp hy with h|h
  .exact P.lots y h
  .rw[aN.mp h];exact hx
 by_cases k2:p.kind=2
 .have we:aJ (p.lots++[x])=aJ p.lots+x.amount:=by rw[dP,cY,ed];omega
  have wp:=hx.ok.pos;have ml:=P.most;have kk:putOn p x=⟨p.kind,p.most,[mixed (p.lots++[x])]⟩:=by
   unfold putOn;exists 21
  refine⟨D*aJ (p.lots++[x]),iD _ _,fP _ (by rw[we,p30];omega),pN hD (~~~62),?_,.inl k2⟩;refine⟨P.kind,P.most,by rw[sD];exact hw,by rw[kk];show 1<=30;decide,λy hy=>?_⟩;rw[kk] at hy;rw[aN.mp hy];exact Nz (~~~62) all (~~~88)
 .have hn:p.lots.length+(n+1)<=30:=hn.resolve_left k2;have ln:(putOn p x).lots.length =p.lots.length+1:=by
   unfold putOn;simp only;split
   .simp
   .rw[if_pos (by have:=P.kind;omega)];simp
  refine⟨D,rB D,lJ _ (iw 30),hD,⟨P.kind,P.most,by rw[sD];exact hw,by rw[ln];omega,λy hy=>?_⟩,.inr (by rw[ln];omega)⟩;unfold putOn at hy;simp only at hy;split at hy
  .rcases aE.mp hy with h|h
   .rw[aN.mp h];exact hx
   .exact P.lots y h
  .rw[if_pos (by have:=P.kind;omega)] at hy;exact all y hy
theorem xJ:∀{l:List bV} {D:Nat} {p:dh},0<D->mJ D p->(∀x,x∈l->qF D x)->aJ p.lots+aJ l<=p.most->rJ p l.length->
  ∃E,D∣E/\E<=D*2^(30*l.length)/\0<E/\mJ E (l.foldl putOn p)
 | [],D,p,hD,P,_,_,_=>⟨D,rB D,by simp,hD,P⟩
 |x::l,D,p,hD,P,h,hw,hn=>by
  rw[cY] at hw;obtain⟨E,e1,e2,e3,P2,K0⟩:=NP hD P (h x (aH ..)) (n:=l.length) (~~~62) hn;obtain⟨F,f1,f2,f3,P3⟩:=xJ (l:=l) e3 P2 (λy hy=>(h y (aA _ hy)).mono e1) (by rw[sD];show _<=p.most;omega) K0;refine⟨F,gk e1 f1,?_,f3,P3⟩;rw[aL,Nat.mul_add,Nat.mul_one,fS]
  calc F<=E*2^(30*l.length):=f2
   _<=D*2^30*2^(30*l.length):=bQ _ e2
   _=D*(2^(30*l.length)*2^30):=by rw[Dn,lX (2^30)]
theorem grow {t D E:Nat} (h:D<=2^(1000*(t+1))) (e:E<=D*2^1000):E<=2^(1000*(t+1+1)):=by
 have:2^(1000*(t+1+1))=2^(1000*(t+1))*2^1000:=by rw[<-fS,Nat.mul_add 1000 (t+1) 1]
 rw[this];exact bA e (bQ _ h)
theorem GV {a b c:Nat} (h:a<=b*2^c) (hc:c<=1000):a<=b*2^1000:=bA h (fP _ (bW (~~~73) hc))
theorem Ok.more {t D E:Nat} {m:MS} (h:Ok t D m) (d:D∣E) (p:0<E) (e:E<=D*2^1000):Ok (t+1) E m:=
 ⟨p,grow h.le e,h.mP,h.ib,λx hx=>(h.pile x hx).mono d,λx hx=>(h.src x hx).mono d,h.want,h.put.mono (~~~62) d,h.taken.mono (~~~62) d⟩
theorem Ok.later {t D:Nat} {m:MS} (h:Ok t D m):Ok (t+1) D m:=h.more (rB D) h.pos (lJ _ (iw 1000))
theorem Ok.N2 {t D:Nat} {m:MS} (h:Ok t D m) (p:Int) {x:dh} (P:mJ D x):Ok t D (q_ m p x):=
 ⟨h.pos,h.le,by show(m.piles.set _ _).length <=6;rw[ik];exact h.mP,h.ib,λy hy=>by
  rcases fY hy with z|z
  .exact h.pile y z
  .rw[z];exact P,h.src,h.want,h.put,h.taken⟩
def Ah (t D:Nat) (m:MS):Prop:=∃E,Ok (t+1) E m
theorem Pe {t D:Nat} {m:MS} (h:Ok t D m) {k most:Int} (hk:within k 0 2=true) (hm:within most 1 1000000000=true):Ah t D (uj m k most).1:=by
 unfold within at hk hm;rw[aC,decide_eq_true_iff,decide_eq_true_iff] at hk hm;unfold uj;by_cases c:m.piles.length=6
 .rw[if_pos c];exists 47
 .rw[if_neg c];have L:=h.later;refine⟨D,⟨L.pos,L.le,by show(m.piles++[_]).length <=6;have:=h.mP;simp;omega,L.ib,λp hp=>?_,L.src,L.want,L.put,L.taken⟩⟩;rcases aE.mp hp with z|z
  .exact h.pile p z
  .rw[aN.mp z];exact⟨by show k.toNat<=2;omega,by show most.toNat<=_;omega,cj _,by show 0<=30;decide,λx hx=>(bJ hx).elim⟩
theorem CB {t D:Nat} {a b:List Rat} (hD:D≠0) (ha:oC t D a) (hb:b.length=3) (hg:∀y,y∈b->0<=y/\y<=1000000000000000000/\y.den∣D):oC (t+1) D (fM a b):=by
 refine⟨pY ha.len hb,λy hy=>?_⟩;obtain⟨k,hk,e⟩:=Ss hy;rw[pY ha.len hb] at hk;rw[e,v_ ha.len hb];obtain⟨a1,a2,a3⟩:=ha.g _ (mem_getD (l:=a) (k:=k) (by rw[ha.len];exact hk));obtain⟨b1,b2,b3⟩:=hg _ (mem_getD (l:=b) (k:=k) (by rw[hb];exact hk));refine⟨by grind,?_,den_add hD a3 b3⟩;have e1:((t+1:Nat):Rat)=(t:Rat)+1:=Ad t 1;rw[e1];grind
theorem fu (n lo hi:Int):within n lo hi=true↔lo<=n/\n<=hi:=by
 unfold within;rw[aC,decide_eq_true_iff,decide_eq_true_iff]
theorem BW {g:List Int} (hg:g.length=3) (h:∀x,x∈g->0<=x/\x<=1000000000) (D:Nat):(d3 g).length =3/\∀y,y∈d3 g->0<=y/\y<=1000000000/\y.den∣D:=by
 refine⟨by unfold d3;rw[ag];exact hg,λy hy=>?_⟩;exists 95;obtain⟨a,b⟩:=h z hz;rw[<-e];exact⟨Du.nq a,gQ.mpr b,U3 z D⟩
theorem Sl {t D:Nat} {m:MS} (h:Ok t D m) {p n:Int} {g:List Int} (hp:cC m p=true) (hn:within n 1 1000000=true) (hg:g.length=3) (hb:∀x,x∈g->0<=x/\x<=1000000000):Ah t D (B9 m p n g).1:=by
 exists 60;have P:=h.pile _ (eP hp);unfold B9;by_cases c1:gc (aG m p) n.toNat=true
 .rw[if_pos c1];exists 47
 .rw[if_neg c1];by_cases c2:tooMany (aG m p) 1=true
  .rw[if_pos c2];exists 47
  .rw[if_neg c2];have kp:0<n.toNat:=by omega
   have D2:0<D*n.toNat:=pN h.pos kp;obtain⟨gl,gg⟩:=BW hg hb 1;have hx:qF (D*n.toNat) (eX n.toNat (d3 g)):=by
    refine⟨⟨kp,by unfold eX;simp only[ag];exact gl⟩,λy hy=>?_⟩;exists 95;obtain⟨a,b,c⟩:=gg z hz;have np:(0:Rat)< (n.toNat:Rat):=by exact_mod_cast kp
    have n1':(1:Rat)<=(n.toNat:Rat):=by exact_mod_cast kp
    rw[<-e];refine⟨ia a np,?_,gk (BL (D:=1) (~~~73) (~~~62) c) ⟨D,by rw[tN,lX]⟩⟩;have m0:=bX (show(0:Rat)<=1000000000 by decide) (show(0:Rat)<=(n.toNat:Rat)-1 by grind);have:=xP np (show z<=1000000000*(n.toNat:Rat) by grind);rw[fT];grind
   have hw:aJ (aG m p).lots +n.toNat<=(aG m p).most :=by
    unfold gc at c1;rw[decide_eq_true_iff] at c1;omega
   have Z3:rJ (aG m p) (0+1):=by
    have tm:=pH P.kind (x:=aG m p) 1;by_cases k2:(aG m p).kind =2
    .exact .inl k2
    .right;apply aK;intro z;exact c2 (tm.mpr ⟨k2,by omega⟩)
   obtain⟨E,e1,e2,e3,P2,_⟩:=NP D2 (P.mono (iD D n.toNat)) hx hw Z3;have dE:D∣E:=gk (iD D n.toNat) e1;have L:Ok (t+1) E m:=h.more dE e3 (GV (c:=50) (by
    calc E<=D*n.toNat*2^30:=e2
     _<=D*2^20*2^30:=bQ _ (fP _ (by rw[p20];omega))
     _=D*2^50:=by rw[Dn,<-fS]) (by decide))
   have W:=L.N2 p P2;refine⟨E,⟨W.pos,W.le,W.mP,W.ib,W.pile,W.src,W.want,?_,W.taken⟩⟩;obtain⟨gl,gg⟩:=BW hg hb E;exact CB (~~~62) (h.put.mono (aM t) dE) gl (λy hy=>⟨(gg y hy).1,by have:=(gg y hy).2.1;grind,(gg y hy).2.2⟩)
theorem Na {D:Nat} {l:List bV} {n:Nat} (h:∀x,x∈l->qF D x) (hn:1<=n) (hw:n<=aJ l):(∀x,x∈(cut l n).1->qF D x)/\∀x,x∈(cut l n).2.1->qF D x:=by
 have C:=yu hw;obtain⟨_,o1,o2⟩:=Lu hn (λx hx=>(h x hx).ok);refine⟨λx hx=>⟨o1 x hx,λy hy=>?_⟩,λx hx=>⟨o2 x hx,λy hy=>?_⟩⟩
 .obtain⟨z,hz,e,_⟩:=C.aaX x hx;exact(h z hz).g y (by rw[<-e];exact hy)
 .obtain⟨z,hz,e,_⟩:=C.aaY x hx;exact(h z hz).g y (by rw[<-e];exact hy)
theorem Pf {t D:Nat} {m:MS} (h:Ok t D m) {p n:Int} (hp:cC m p=true) (hn:within n 1 1000000000=true):Ah t D (uk m p n).1:=by
 exists 60;have P:=h.pile _ (eP hp);unfold uk;by_cases c:aJ (aG m p).lots <n.toNat
 .rw[if_pos c];exists 47
 .rw[if_neg c];have C:=yu (l:=(aG m p).lots) (n:=n.toNat) (~~~62);obtain⟨d1,d2⟩:=Na P.lots (~~~263) (~~~62);have W:=h.later.N2 p (x:=⟨(aG m p).kind,(aG m p).most,(~~~67).2.1⟩)
   ⟨P.kind,P.most,by show aJ (cut _ _).2.1<=(aG m p).most;rw[C.left];have:=P.weight;omega,by have:=C.Vn;have:=P.len;show(cut _ _).2.1.length <=30;omega,d2⟩
  refine⟨D,⟨W.pos,W.le,W.mP,W.ib,W.pile,W.src,W.want,W.put,?_⟩⟩;have hD:D≠0:=by have:=h.pos;omega
  obtain⟨ml,mg⟩:=Cc hD d1;refine CB hD h.taken ml (λy hy=>?_);obtain⟨a,b,c⟩:=mg y hy;refine⟨a,?_,c⟩;rw[C.taken] at b;have:(n.toNat:Rat)<=1000000000:=by
   have:n.toNat<=1000000000:=by omega
   exact_mod_cast this
  grind
theorem Pd {t D:Nat} {m:MS} (h:Ok t D m) {p r n:Int} (hp:cC m p=true) (hr:cC m r=true) (hn:within n 1 1000000000=true):Ah t D (ui m p r n).1:=by
 exists 60;have P:=h.pile _ (eP hp);have Z:=h.pile _ (eP hr);unfold ui;by_cases pr:p=r
 .rw[if_pos pr];exists 47
 rw[if_neg pr];by_cases c:aJ (aG m p).lots <n.toNat
 .rw[if_pos c];exists 47
 rw[if_neg c];by_cases c1:gc (aG m r) n.toNat=true
 .rw[if_pos c1];exists 47
 rw[if_neg c1];by_cases c2:tooMany (aG m r) (~~~67).1.length =true
 .rw[if_pos c2];exists 47
 rw[if_neg c2];have C:=yu (l:=(aG m p).lots) (n:=n.toNat) (~~~62);obtain⟨d1,d2⟩:=Na P.lots (~~~263) (~~~62);have Z3:rJ (aG m r) (~~~67).1.length :=by
  have tm:=pH Z.kind (x:=aG m r) (~~~67).1.length;by_cases k2:(aG m r).kind =2
  .exact .inl k2
  .right;apply aK;intro z;exact c2 (tm.mpr ⟨k2,by omega⟩)
 obtain⟨E,e1,e2,e3,P2⟩:=xJ h.pos Z d1 (by
  rw[C.taken];unfold gc at c1;rw[decide_eq_true_iff] at c1;omega) Z3
 have L:Ok (t+1) E m:=h.more e1 e3 (GV e2 (by have:=C.YI;have:=P.len;omega));exact⟨E,(L.N2 p (x:=⟨(aG m p).kind,(aG m p).most,(~~~67).2.1⟩)
   ⟨P.kind,P.most,by show aJ (cut _ _).2.1<=(aG m p).most;rw[C.left];have:=P.weight;omega,by have:=C.Vn;have:=P.len;show(cut _ _).2.1.length <=30;omega,λx hx=>(d2 x hx).mono e1⟩).N2 r P2⟩
theorem Jm {t D E:Nat} {m:MS} (h:Ok t D m) (d:D∣E) (p:0<E) (e:E<=D*2^1000) {s:RS} (S:lK E s):Ah t D (iy m s).1:=by
 unfold iy;by_cases c:m.sources.length=6
 .rw[if_pos c];exists 47
 .rw[if_neg c];have L:=h.more d p e;refine⟨E,⟨L.pos,L.le,L.mP,by show(m.sources++[_]).length <=6;have:=h.ib;simp;omega,L.pile,λx hx=>?_,L.want,L.put,L.taken⟩⟩;rcases aE.mp hx with z|z
  .exact L.src x z
  .rw[aN.mp z];exact S
theorem Jn {t D:Nat} {m:MS} (h:Ok t D m) {c n:Int} {g:List Int} (hc:within c 0 1000000=true) (hn:within n 0 1000000=true) (hg:g.length=3) (hb:∀x,x∈g->0<=x/\x<=1000000):Ah t D (uS m c n g).1:=by
 obtain⟨c1,c2⟩:=(fu _ _ _).mp hc;exists 60;unfold uS;refine Jm h (E:=D*1000) (iD _ _) (pN h.pos (~~~73)) (GV (c:=10) (fP _ (~~~73)) (~~~73)) ⟨⟨c1,c2⟩,by show n.toNat<=_;omega,by simp[hg],λy hy=>?_⟩;exists 95;obtain⟨a,b⟩:=hb z hz;have zr:(0:Rat)<=(z:Rat):=by exact_mod_cast a
 have zr2:(z:Rat)<=1000000:=gQ.mpr b;have mk:mkRat z 1000=(z:Rat)/1000:=by rw[<-i9,eW];rfl
 rw[<-e];refine⟨by rw[mk];exact ia zr (~~~73),?_,?_⟩
 .rw[mk];have:(z:Rat)/1000*1000=(z:Rat):=by grind
  grind
 rw[Fm.Gi z (~~~73)];exact gk (vC (jW _ _)) (Nat.dvd_mul_left 1000 D)
theorem LY {t D:Nat} {m:MS} (h:Ok t D m) {p c:Int} (hp:cC m p=true) (hc:within c 0 1000000=true):Ah t D (pf m p c).1:=by
 obtain⟨c1,c2⟩:=(fu _ _ _).mp hc;have P:=h.pile _ (eP hp);unfold pf;by_cases z:(aG m p).lots.length =0
 .rw[if_pos z];exists 47
 .rw[if_neg z];have ne:(aG m p).lots ≠[]:=λy=>z (by rw[y];rfl);have hw:=mY (λx hx=>(P.lots x hx).ok) ne;have wl:aJ (aG m p).lots <=1000000000:=bA P.weight P.most;have M:=Nz (by have:=h.pos;omega) P.lots ne;refine Jm h (E:=D*aJ (aG m p).lots) (iD _ _) (pN h.pos (~~~62)) (GV (c:=30) (fP _ (by rw[p30];omega)) (~~~73))
   ⟨⟨c1,c2⟩,wl,M.ok.len,M.g⟩
theorem Pg {t D:Nat} {m:MS} (h:Ok t D m) {n:Int} {b:List Int} (hn:within n 0 1000000=true) (hl:b.length=6) (hb:∀x,x∈b->0<=x/\x<=1000000):Ah t D (Ji m n b).1:=by
 exists 60;have L:=h.later;have g:∀i,i<6->(b.getD i 0).toNat <=1000000:=λi hi=>by
  rw[getD_in 0 (~~~62)];have:=hb _ (bM (l:=b) (n:=i) (~~~62));omega
 refine⟨D,⟨L.pos,L.le,L.mP,L.ib,L.pile,L.src,⟨by show n.toNat<=_;omega,rfl,λx hx=>?_,rfl,λx hx=>?_⟩,L.put,L.taken⟩⟩
 .obtain⟨k,hk,e⟩:=aS.mp hx;have:=bK.mp hk;rw[<-e];exact g _ (~~~62)
 .obtain⟨k,hk,e⟩:=aS.mp hx;have:=bK.mp hk;rw[<-e];exact g _ (~~~62)
end Mi
namespace Mi
open Vbmiak Bl
set_option maxRecDepth 4000
def ow (m:MS) (c:List (~~~94)):Out:=match c with
 |(p::nums)::rows=>eu m p.toNat nums rows
 |_=>(m,[])
def qj (m:MS) (cs:List (List (~~~94))):MS:=cs.foldl (λm c=>(ow m c).1) m
abbrev jX (m:MS) (cs:List (List (~~~94))):List (~~~94):=PyFlat.played ow m cs
theorem Q2 {l:List Int} {lo hi:Int} (h:(l.all λn=>within n lo hi)=true):∀x,x∈l->lo<=x/\x<=hi:=λx hx=>(fu _ _ _).mp (fw.mp h x hx)
structure Shaped (p:Nat) (nums:List Int) (rows:List (List Int)):Prop where
 lt:p<18
 RI:nums.length=(cx p).length
 RK:rows.length=(rowsOf p).length
 len:∀r:List Int,r∈rows->r.length<=40
theorem zN {t D:Nat} {m:MS} (h:Ok t D m) {p:Nat} {nums:List Int} {rows:List (~~~94)} (S:Shaped p nums rows):Ah t D (eu m p nums rows).1:=by
 unfold eu;by_cases c1:d9 p nums m.piles.length=false
 .rw[if_pos c1];exists 47
 rw[if_neg c1];by_cases c2:gu p rows m.sources.length=false
 .rw[if_pos c2];exists 47
 rw[if_neg c2];have w:d9 p nums m.piles.length=true:=by simpa using c1
 have r:gu p rows m.sources.length=true:=by simpa using c2
 have wi:∀n lo hi:Int,(decide (lo<=n)&&decide (n<=hi))=within n lo hi:=λ_ _ _=>rfl;have ip:∀p:Int,within p 1 (m.piles.length:Int)=cC m p:=λ_=>rfl;have tH:Ah t D m:=⟨D,h.later⟩;obtain⟨lt,ln,lr,_⟩:=S;unfold d9 at w;unfold gu at r
 match p,lt with
 |0,_=>
  match nums,ln,rows,lr with
  | [a,b],_,[],_=>
   simp only[cx,aP,aR,az,aV,bu,bO,id,d6,bF,wi,bB,aC] at w;exact Pe h w.1 w.2
 |1,_=>
  match nums,ln,rows,lr with
  | [a,b,c,d,e],_,[],_=>
   exists 15;refine Sl h w.1 w.2.1 rfl (λx hx=>?_);exists 74;rcases hx with z|z|z
   .rw[z];exact(fu _ _ _).mp w.2.2.1
   .rw[z];exact(fu _ _ _).mp w.2.2.2.1
   .rw[z];exact(fu _ _ _).mp w.2.2.2.2
 |2,_=>
  match nums,ln,rows,lr with
  | [a,b],_,[],_=>
   exists 15;exact Pf h w.1 w.2
 |3,_=>
  match nums,ln,rows,lr with
  | [a,b,c],_,[],_=>
   exists 15;exact Pd h w.1 w.2.1 w.2.2
 |4,_=>exact tH
 |5,_=>exact tH
 |6,_=>exact tH
 |7,_=>
  match nums,ln,rows,lr with
  | [a,b,c,d,e],_,[],_=>
   exists 15;refine Jn h w.1 w.2.1 rfl (λx hx=>?_);exists 74;rcases hx with z|z|z
   .rw[z];exact(fu _ _ _).mp w.2.2.1
   .rw[z];exact(fu _ _ _).mp w.2.2.2.1
   .rw[z];exact(fu _ _ _).mp w.2.2.2.2
 |8,_=>
  match nums,ln,rows,lr with
  | [a,b],_,[],_=>
   exists 15;exact LY h w.1 w.2
 |9,_=>
  have L:=h.later;exact⟨D,⟨L.pos,L.le,L.mP,cj _,L.pile,λs hs=>(bJ hs).elim,L.want,L.put,L.taken⟩⟩
 |10,_=>
  match nums,ln,rows,lr with
  | [a],_,[u],_=>
   exists 15;simp only[rowsOf,aP,aR,az,aV,bu,bO,id,Fc,bB,aC,decide_eq_true_iff] at r;have:=Pg h w r.1 (Q2 r.2);simpa[B'] using this
 |11,_=>exact tH
 |12,_=>exact tH
 |13,_=>exact tH
 |14,_=>exact tH
 |15,_=>exact tH
 |16,_=>exact tH
 |17,_=>exact tH
 |p+18,lt=>omega
theorem yY {m:MS} {s:State} (R:Rel m s) (F:Eo m) {c:List (~~~94)} (hc:VbmiakNeutral.asked1 c=true):
  ∃(p:Nat) (nums:List Int) (rows:List (~~~94)),c=(~~~253)::rows/\Shaped p nums rows/\ow m c=eu m p nums rows/\Step m s (ow m c) (~~~285):=by
 obtain⟨p,nums,rows,e,a,b,d,f,st⟩:=Ig R F hc;have e2:ow m c=eu m p nums rows:=by rw[e];rfl
 exact⟨p,nums,rows,e,⟨a,b,d,f⟩,e2,by rw[e2];exact st⟩
theorem NK:∀(cs:List (List (~~~94))) {m:MS} {s:State} {t D:Nat},Rel m s->Ok t D m->(∀c,c∈cs->VbmiakNeutral.asked1 c=true)->
  PyFlat.played VbmiakNeutral.step s cs=jX m cs
 | [],_,_,_,_,_,_,_=>rfl
 |c::cs,m,s,t,D,R,O,h=>by
  obtain⟨p,nums,rows,e,S,e2,st⟩:=yY R O.fit (h c (aH ..));obtain⟨E,O2⟩:Ah t D (ow m c).1:=by rw[e2];exact zN O S
  show(~~~285).2::PyFlat.played _ (~~~285).1 cs=(ow m c).2::PyFlat.played ow (ow m c).1 cs;rw[st.Qu,NK cs st.rel O2 (λx hx=>h x (aA _ hx))]
theorem T5 (c:List (~~~94)):PyVbmiak.whole c=c:=by
 unfold PyVbmiak.whole;split<;>rfl
theorem To:∀{x:Int} {n k:Nat},PyVbmiak.shape x=some (n,k)->∃p:Nat,x=(p:Int)/\p<18/\n=(cx p).length /\k=(rowsOf p).length :=by
 intro x n k h;unfold PyVbmiak.shape at h;by_cases h0:x=0
 .rw[if_pos h0] at h;exists 4;exact⟨0,h0,by decide,a.symm,b.symm⟩
 rw[if_neg h0] at h;by_cases h1:x=1
 .rw[if_pos h1] at h;exists 4;exact⟨1,h1,by decide,a.symm,b.symm⟩
 rw[if_neg h1] at h;by_cases h2:x=2
 .rw[if_pos h2] at h;exists 4;exact⟨2,h2,by decide,a.symm,b.symm⟩
 rw[if_neg h2] at h;by_cases h3:x=3
 .rw[if_pos h3] at h;exists 4;exact⟨3,h3,by decide,a.symm,b.symm⟩
 rw[if_neg h3] at h;by_cases h4:x=4
 .rw[if_pos h4] at h;exists 4;exact⟨4,h4,by decide,a.symm,b.symm⟩
 rw[if_neg h4] at h;by_cases h5:x=5
 .rw[if_pos h5] at h;exists 4;exact⟨5,h5,by decide,a.symm,b.symm⟩
 rw[if_neg h5] at h;by_cases h6:x=6
 .rw[if_pos h6] at h;exists 4;exact⟨6,h6,by decide,a.symm,b.symm⟩
 rw[if_neg h6] at h;by_cases h7:x=7
 .rw[if_pos h7] at h;exists 4;exact⟨7,h7,by decide,a.symm,b.symm⟩
 rw[if_neg h7] at h;by_cases h8:x=8
 .rw[if_pos h8] at h;exists 4;exact⟨8,h8,by decide,a.symm,b.symm⟩
 rw[if_neg h8] at h;by_cases h9:x=9
 .rw[if_pos h9] at h;exists 4;exact⟨9,h9,by decide,a.symm,b.symm⟩
 rw[if_neg h9] at h;by_cases zC:x=10
 .rw[if_pos zC] at h;exists 4;exact⟨10,zC,by decide,a.symm,b.symm⟩
 rw[if_neg zC] at h;by_cases IX:x=11
 .rw[if_pos IX] at h;exists 4;exact⟨11,IX,by decide,a.symm,b.symm⟩
 rw[if_neg IX] at h;by_cases zD:x=12
 .rw[if_pos zD] at h;exists 4;exact⟨12,zD,by decide,a.symm,b.symm⟩
 rw[if_neg zD] at h;by_cases RD:x=13
 .rw[if_pos RD] at h;exists 4;exact⟨13,RD,by decide,a.symm,b.symm⟩
 rw[if_neg RD] at h;by_cases Us:x=14
 .rw[if_pos Us] at h;exists 4;exact⟨14,Us,by decide,a.symm,b.symm⟩
 rw[if_neg Us] at h;by_cases QG:x=15
 .rw[if_pos QG] at h;exists 4;exact⟨15,QG,by decide,a.symm,b.symm⟩
 rw[if_neg QG] at h;by_cases Yj:x=16
 .rw[if_pos Yj] at h;exists 4;exact⟨16,Yj,by decide,a.symm,b.symm⟩
 rw[if_neg Yj] at h;by_cases Yk:x=17
 .rw[if_pos Yk] at h;exists 4;exact⟨17,Yk,by decide,a.symm,b.symm⟩
 rw[if_neg Yk] at h;cases h
inductive Rows:Nat->List Int->List (~~~94)->List Int->Prop where
 |nil (r:List Int):Rows 0 r [] r
 |cons {k:Nat} {x t:List Int} {xs:List (List Int)} {u:List Int} (h:Rows k t xs u):Rows (k+1) ((x.length:Int)::(x++t)) (x::xs) u
theorem JR:∀{k:Nat} {r:List Int} {xs:List (~~~94)} {t:List Int},PyFlat.rows k r=some (xs,t)->Rows k r xs t
 |0,r,xs,t,h=>by
  have h:(([]:List (~~~94)),r)=(xs,t):=bG.inj h;injection h with h1 h2;subst h1 h2;exact .nil r
 |k+1,r,xs,t,h=>by
  unfold PyFlat.rows PyFlat.row at h
  match r,h with
  | [],h=>simp at h
  |n::r,h=>
   simp only at h;by_cases c:0<=n/\n.toNat<=r.length
   .rw[if_pos c] at h;simp only at h;split at h
    .cases h
    .rename_i ys u e;have h:=bG.inj h;injection h with h1 h2;subst h1 h2;have ih:=JR e;have len:((r.take n.toNat).length :Int)=n:=by rw[cu];omega
     have sp:r=r.take n.toNat++r.drop n.toNat:=(jO _ _).symm;have:=Rows.cons (x:=r.take n.toNat) ih;rw[len,<-sp] at this;exact this
   .rw[if_neg c] at h;simp at h
theorem Ra {l:List Int} {c:List (~~~94)} {t:List Int} (h:PyFlat.call PyVbmiak.shape l=some (c,t)):
  ∃(p:Nat) (nums:List Int) (rest:List Int) (rows:List (~~~94)),l=(p:Int)::(nums++rest)/\c=(~~~253)::rows/\p<18/\nums.length=(cx p).length /\Rows (rowsOf p).length rest rows t:=by
 unfold PyFlat.call at h
 match l,h with
 | [],h=>simp at h
 |x::r,h=>
  simp only at h;split at h
  .cases h
  .rename_i n k e;obtain⟨p,e1,e2,e3,e4⟩:=To e;by_cases c1:r.length<n
   .rw[if_pos c1] at h;cases h
   .rw[if_neg c1] at h;split at h
    .cases h
    .rename_i xs u e5;have h:=bG.inj h;injection h with h1 h2;subst h1 h2;refine⟨p,r.take n,r.drop n,xs,by rw[jO,e1],by rw[e1],e2,by rw[cu,<-e3];omega,?_⟩;rw[<-e4];exact JR e5
inductive Calls:List Int->List (List (~~~94))->Prop where
 |nil:Calls [] []
 |cons {l t:List Int} {p:Nat} {nums rest:List Int} {rows:List (List Int)} {cs:List (List (List Int))} (e:l=(p:Int)::(nums++rest)) (lt:p<18) (hn:nums.length=(cx p).length)
   (hr:Rows (rowsOf p).length rest rows t) (h:Calls t cs):Calls l (((~~~253)::rows)::cs)
theorem EA:∀{f:Nat} {l:List Int} {cs:List (List (~~~94))},PyFlat.calls PyVbmiak.shape f l=some cs->Calls l cs
 |f,[],cs,h=>by
  have:cs=[]:=by
   cases f<;>exact(bG.inj h).symm
  rw[this];exact .nil
 |0,x::r,cs,h=>by simp[PyFlat.calls] at h
 |f+1,x::r,cs,h=>by
  unfold PyFlat.calls at h;split at h
  .cases h
  .rename_i c t e;split at h
   .cases h
   .rename_i Ku e2;have h:=bG.inj h;subst h;obtain⟨p,nums,rest,rows,e3,e4,e5,e6,e7⟩:=Ra e;rw[e4];exact .cons e3 e5 e6 e7 (EA e2)
theorem Q5 {l:List Int} (h:PyVbmiak.answers_asked l=true):∃cs,Calls l cs/\cs.length<=120/\(∀c,c∈cs->VbmiakNeutral.asked1 c=true)/\PyVbmiak.answers l=PyFlat.told (jX firstM cs):=by
 unfold PyVbmiak.answers_asked PyVbmiak.calls at h;unfold PyVbmiak.answers PyVbmiak.calls;cases e:PyFlat.calls PyVbmiak.shape l.length l with
 |none=>rw[e] at h;cases h
 |some cs=>
  rw[e] at h;have id:cs.map PyVbmiak.whole=cs:=by
   have:PyVbmiak.whole=λc=>c:=by funext c;exact T5 c
   rw[this,rn]
  simp only[id] at h⊢;rw[aC] at h;obtain⟨h1,h2⟩:=h;unfold PyFlat.atMost at h1;unfold VbmiakNeutral.asked at h2;rw[aC,aC,aC] at h2;have al:∀c,c∈cs->VbmiakNeutral.asked1 c=true:=λc hc=>fw.mp h2.2.2.1 c hc;refine⟨cs,EA e,of_decide_eq_true h1,al,?_⟩;show PyFlat.told (PyFlat.played VbmiakNeutral.step start cs)=_;rw[NK cs EF IQ al]
theorem vw (m:MS):∀(a b:List (List (~~~94))),jX m (a++b)=jX m a++jX (qj m a) b
 | [],b=>rfl
 |c::a,b=>by
  show(ow m c).2::jX (ow m c).1 (a++b)=(ow m c).2::(jX (ow m c).1 a++_);rw[vw (ow m c).1 a b];rfl
theorem Kg (a b:List (~~~94)):PyFlat.told (a++b)=PyFlat.told a++PyFlat.told b:=by
 unfold PyFlat.told;rw[kE]
theorem J9:∀(cs:List (List (~~~94))) {m:MS} {t D:Nat} {s:State},Rel m s->Ok t D m->(∀c,c∈cs->VbmiakNeutral.asked1 c=true)->∃E s',Rel (qj m cs) s'/\Ok (t+cs.length) E (qj m cs)
 | [],m,t,D,s,R,O,_=>⟨D,s,R,O⟩
 |c::cs,m,t,D,s,R,O,h=>by
  obtain⟨p,nums,rows,e,S,e2,st⟩:=yY R O.fit (h c (aH ..));obtain⟨E,O2⟩:Ah t D (ow m c).1:=by rw[e2];exact zN O S
  have:=J9 cs st.rel O2 (λx hx=>h x (aA _ hx));rw[aL,<-vh,Nat.add_right_comm];exact this
end Mi
namespace Mi
open Vbmiak Bl
theorem EE {y:Rat} {D M a b:Nat} (hD:D≠0) (h:y.den∣D) (h0:0<=y) (h1:y<=(M:Rat)) (ha:D<2^a) (hb:M<2^b):y.num.natAbs<2^(a+b)/\y.den<2^(a+b):=by
 have dl:y.den<=D:=qg (fk hD) h;have dp:=fk y.den_nz;have e:(y.num:Rat)=y*(y.den:Rat):=by
  have d0:(y.den:Rat)≠0:=by exact_mod_cast y.den_nz
  have:=NQ y;generalize hn:(y.num:Rat)=n at*
  generalize hd:(y.den:Rat)=d at*
  grind
 have dr:(0:Rat)<=(y.den:Rat):=by exact_mod_cast cj _
 have n0:0<=y.num:=num_nonneg.mpr h0;have nm:y.num<=((M*y.den:Nat):Int):=by
  have m:=bX (show 0<=(M:Rat)-y by grind) dr;have:(y.num:Rat)<=(((M*y.den:Nat):Int):Rat):=by
   show _<=((M*y.den:Nat):Rat);rw[jB,e];grind
  exact gQ.mp this
 have pa:=iw a;have pb:=iw b;constructor
 .have:y.num.natAbs<=M*y.den:=by omega
  calc y.num.natAbs<=M*y.den:=this
   _<=M*D:=fP _ dl
   _<2^b*2^a:=eF hb (gP ha) pa
   _=2^(a+b):=by rw[fS,lX]
 .calc y.den<=D:=dl
   _<2^a:=ha
   _<=2^(a+b):=bW (~~~73) (~~~62)
theorem zQ:∀l:List bV,(l.map λx=>((x.amount:Nat):Int)).sum =((aJ l:Nat):Int)
 | []=>rfl
 |x::l=>by rw[az,qf,zQ l,cY];omega
theorem Gk {l:List bV} {i:Nat} {x:bV} (h:l[i]?=some x):metalOf (~~~264)=fM (metalOf (~~~276)) (jF x):=by
 unfold metalOf;rw[eE,h,dZ];rfl
theorem qc (l:List bV) (i:Nat):aJ (~~~276)<=aJ l:=by
 have:=dP (~~~276) (l.drop i);rw[jO] at this;omega
end Mi
namespace Du
structure zk (c:List Int) (t:List (List Int)) (X:Nat):Prop where
 len:∀r,r∈t->r.length=c.length+1
 pos:∀x,x∈c->0<=x
 X1:1<=X
 bc:∀x,x∈c->x.natAbs<=X
 bt:∀r,r∈t->∀x,x∈r->x.natAbs<=X
abbrev k_ (c:List Int) (t:List (~~~94)):Nat:=(1+c.length+t.length)^c.length
abbrev cF (c:List Int) (t:List (~~~94)) (k:Nat):DS:=xy c.length (Lz c t) k
structure At (c:List Int) (t:List (List Int)) (X:Nat) (s:DS):Prop where
 len:s.tab.length=1+c.length+t.length
 row:∀r,r∈s.tab->r.length=c.length+1
 pos:0<s.d
 bd:s.d.natAbs<=fact (~~~283)*X^(~~~283)
 bt:∀r,r∈s.tab->∀x,x∈r->x.natAbs<=fact (~~~283)*X^(~~~283)
theorem LB {c:List Int} {t:List (~~~94)} {X:Nat} (A:zk c t X):∀i,i<1+c.length+t.length->∀k,k<=c.length->(l8 (ee c t) i k).natAbs <=X:=by
 intro i hi k hk;have mem:∀{l:List Int} {j:Nat},(∀x,x∈l->x.natAbs<=X)->(l.getD j 0).natAbs <=X:=by
  intro l j h;rw[ai];cases e:l[j]? with
  |none=>simp
  |some x=>exact h x (aw e)
 by_cases h0:i=0
 .subst h0;rw[F4];cases k with
  |zero=>simp
  |succ k=>rw[gM];exact mem A.bc
 .by_cases h1:i<=c.length
  .rw[kT (~~~62) h1 hk];unfold unit;have:=A.X1;split<;>simp<;>omega
  .obtain⟨j,e⟩:∃j,i=1+c.length+j:=⟨i-1-c.length,by omega⟩;subst e;have hj:j<t.length:=by omega
   rw[F5 hj];refine mem (A.bt _ ?_);rw[kh (ah hj)];exact bM hj
theorem uB {c:List Int} {t:List (~~~94)} {X:Nat} (A:zk c t X) (k:Nat):At c t X (~~~282):=by
 have G:=vH A.len A.pos;have hM:∀j,1<=j->j<=c.length->∀k,k<=c.length->l8 (ee c t) j k=unit j k:=λj h1 h2 k hk=>kT h1 h2 hk;obtain⟨b,GK⟩:=xK G (~~~62) hM k;obtain⟨l1,l2⟩:=GK.le (~~~62) A.X1 (LB A);refine⟨GK.sh.len,GK.sh.row,GK.tb.pos,l2,λr hr x hx=>?_⟩;obtain⟨i,hi,e⟩:=cQ.mp hr;obtain⟨j,hj,e2⟩:=cQ.mp hx;have rl:=GK.sh.row r hr;have:=l1 i (by rw[<-GK.sh.len];exact hi) j (~~~62);unfold l8 at this;rw[kh (ah hi),e,kh (ah hj),e2] at this;exact this
theorem O6 {c:List Int} {t:List (~~~94)} {X:Nat} (A:zk c t X):Dz c.length (cF c t (k_ c t))=none:=by
 have G:=vH A.len A.pos;exact JS G (~~~62) (λj h1 h2 k hk=>kT h1 h2 hk)
theorem Ii {c:List Int} {t:List (~~~94)} {X:Nat} (A:zk c t X) {k:Nat} (hk:k<=k_ c t) {s':DS} (h:Dz c.length (~~~282)=some s'):k<k_ c t:=by
 apply aK;intro n;have:k=k_ c t:=by omega
 subst this;rw[O6 A] at h;cases h
theorem Nr {c:List Int} {t:List (~~~94)} {k:Nat} (hk:k<=k_ c t) (h:Dz c.length (~~~282)=none):zH c t=cF c t k:=by
 have:=B3 h (k_ c t-k);rw[show k+(k_ c t-k)=k_ c t by omega] at this;exact this
theorem Lg {t:List (~~~94)} {br:List Int} (h:gL t=some br):br∈t:=fy (kx h)
theorem L0 {c:List Int} {t:List (~~~94)} {k col:Nat} {br:List Int} (hl:br.length=c.length+1) (h1:gL (~~~282).tab =some br) (h2:kJ ((~~~282).tab.take (~~~283)) br c.length=some col):
  Dz c.length (~~~282)=some ⟨(~~~282).tab.map (turned br col (~~~282).d),br.getD col 0⟩/\cF c t (k+1)=⟨(~~~282).tab.map (turned br col (~~~282).d),br.getD col 0⟩:=by
 have e:Dz c.length (~~~282)=some ⟨(~~~282).tab.map (turned br col (~~~282).d),br.getD col 0⟩:=by
  exists 56;simp only;rw[hl,oQ,h2]
 refine⟨e,?_⟩;show(Dz c.length (~~~282)).getD (~~~282)=_;rw[e];rfl
theorem ET {c:List Int} {t:List (~~~94)} {k:Nat} {br:List Int} (hl:br.length=c.length+1) (hk:k<=k_ c t) (h1:gL (~~~282).tab =some br) (h2:kJ ((~~~282).tab.take (~~~283)) br c.length=none):f9 c t=none:=by
 have e:Dz c.length (~~~282)=none:=by
  exists 56;simp only;rw[hl,oQ,h2]
 unfold f9;rw[Nr hk e,h1]
theorem ES {c:List Int} {t:List (~~~94)} {k:Nat} {X:Nat} (A:zk c t X) (hk:k<=k_ c t) (h1:gL (~~~282).tab =none):
  f9 c t=some ((((~~~282).tab.drop 1).take c.length).map λr=>mkRat (r.getD 0 0) (~~~282).d.toNat):=by
 have e:Dz c.length (~~~282)=none:=by
  exists 56
 have S:=uB A k;unfold f9;rw[Nr hk e,h1];simp only;congr 1;generalize cF c t k=s at*
 apply i5
 .simp[S.len];omega
 .intro i h2 h3;simp only[d7,hZ,List.getElem_take,wL];have hi:i<c.length:=by simpa using h2
  have li:1+i<s.tab.length:=by rw[S.len];omega
  unfold pt jP l8;rw[oB i 1,kh (ah li),<-i9,eW];have:((s.d.toNat:Nat):Int)=s.d:=by have:=S.pos;omega
  rw[this]
end Du
namespace Mi
open Vbmiak Bl
structure SD (D:Nat) (l:List RS):Prop where
 pos:0<D
 le:D<=2^121000
 n6:l.length<=6
 src:∀s,s∈l->lK D s
abbrev XB (D:Nat):Nat:=2^45*D
theorem EO {D:Nat} {s:RS} (hD:0<D) (S:lK D s):∀g,g∈iS s->g.den∣D:=by
 intro g hg;obtain⟨x,hx,rfl⟩:=aS.mp hg;exact yw (n:=1000) (c8 hD) (S.g x hx).den
theorem YH {D:Nat} {s:RS} (hD:0<D) (S:lK D s):f_ s∣D:=xA (EO hD S)
theorem sV {D:Nat} {s:RS} (hD:0<D) (S:lK D s):f_ s<=D:=qg hD (YH hD S)
theorem nF {D:Nat} {s:RS} (hD:0<D) (S:lK D s) {k:Nat} (hk:k<3):0<=(cy s).getD k 0/\(cy s).getD k 0<=1000000000000*((f_ s:Nat):Int):=by
 have e:=lN (s:=s) (k:=k) (by rw[S.len];exact hk);have G:=S.g _ (mem_getD (l:=s.grades) (k:=k) (by rw[S.len];exact hk));have kp:(0:Rat)<=((f_ s:Nat):Rat):=by exact_mod_cast cj _
 have h0:=bX G.lo kp;have h1:=bX (show(0:Rat)<=1000000000-s.grades.getD k 0 by have:=G.hi;grind) kp;constructor
 .have:((0:Int):Rat)<=(((cy s).getD k 0:Int):Rat):=by
   rw[e];show(0:Rat)<=_;grind
  exact gQ.mp this
 .have:(((cy s).getD k 0:Int):Rat)<=((1000000000000*((f_ s:Nat):Int):Int):Rat):=by
   rw[e,dD];show _<=(1000000000000:Rat)*((f_ s:Nat):Rat);grind
  exact gQ.mp this
theorem NR {D:Nat} {l:List RS} (S:SD D l) {k:Nat} (hk:k<3):0<=pD l k/\pD l k<=1000000000001:=by
 unfold pD;have:∀(m:List Int) (a:Int),0<=a->a<=1000000000001->(∀x,x∈m->x<=1000000000001)->0<=m.foldl (~~~140) a/\m.foldl (~~~140) a<=1000000000001:=by
  intro m
  induction m with
  |nil=>intro a h1 h2 _;exact⟨h1,h2⟩
  |cons x m ih=>
   intro a h1 h2 h;rw[dm];have hx:=h x (aH ..);refine ih _ ?_ ?_ λy hy=>h y (aA _ hy)
   .split<;>omega
   .split<;>omega
 refine this _ 0 (~~~73) (~~~73) λx hx=>?_;exists 91;have kp:=uW s;have:(~~~232).fdiv ((f_ s:Nat):Int)<=1000000000000:=by
  rw[hU _ (~~~62)];exact Int.ediv_le_of_le_mul (~~~62) h1
 omega
theorem NS {D:Nat} {l:List RS} (S:SD D l) {k:Nat} (hk:k<3) {s:RS} (hs:s∈l):0<=pD l k*((f_ s:Nat):Int)- (cy s).getD k 0:=by
 have g:=(GX k (~~~173) 0).2 _ (aS.mpr ⟨s,hs,rfl⟩);have g:(~~~232).fdiv ((f_ s:Nat):Int)+1<=pD l k:=g;have kp:=uW s;have m:=iZ g (show(0:Int)<=((f_ s:Nat):Int) by omega);have e:=Int.lt_ediv_add_one_mul_self (~~~232) (show(0:Int)< ((f_ s:Nat):Int) by omega);rw[hU _ (~~~62)] at m;omega
theorem Hu {D:Nat} (h:0<D):2^45<=XB D:=lJ _ h
theorem Xu {D:Nat} (h:D<=2^121000):XB D<2^122000:=by
 calc XB D<=2^45*2^121000:=fP _ h
  _=2^(45+121000):=by rw[<-fS]
  _<2^122000:=gA (~~~73) (~~~73)
theorem Y0:(2:Nat)^45=35184372088832:=by decide
theorem Et {n i:Nat} {z x:Int} (h:x∈Du.alone n i z):x=0\/x=z:=by
 unfold Du.alone at h;rcases fY h with h|h
 .exact .inl (lu.mp h).2
 .exact .inr h
theorem W9 {D:Nat} {w:Want} {l:List RS} (S:SD D l) (W:j5 w):∀r,r∈nB l w->∀x,x∈r->x.natAbs<=XB D:=by
 intro r hr x hx;exists 41;unfold nB at hr;obtain⟨k,hk,hr⟩:=g_.mp hr;have k3:=bK.mp hk;have lw:w.least.getD k 0<=1000000:=W.least _ (by rw[getD_in 0 (by rw[W.YJ];exact k3)];exact bM _);have mw:w.most.getD k 0<=1000000:=W.most _ (by rw[getD_in 0 (by rw[W.YQ];exact k3)];exact bM _);generalize w.least.getD k 0=lo at*
 generalize w.most.getD k 0=hi at*
 have both:∀s,s∈l->((cy s).getD k 0- ((lo:Nat):Int)*((f_ s:Nat):Int)).natAbs <=XB D/\(((hi:Nat):Int)*((f_ s:Nat):Int)- (cy s).getD k 0).natAbs <=XB D:=by
  intro s hs;obtain⟨h0,h1⟩:=nF S.pos (~~~299) k3;exists 117;have a1:lo*f_ s<=1000000*D:=i8 lw kl;have a2:hi*f_ s<=1000000*D:=i8 mw kl;have c1:((lo:Nat):Int)*((f_ s:Nat):Int)=((lo*f_ s:Nat):Int):=by rw[jz]
  have c2:((hi:Nat):Int)*((f_ s:Nat):Int)=((hi*f_ s:Nat):Int):=by rw[jz]
  rw[c1,c2,Xe,e];omega
 unfold Gg at hr;rcases aB.mp hr with hr|hr
 .subst hr;rcases aE.mp hx with hx|hx
  .rw[aN.mp hx];simp
  .exists 35;exact(both s hs).1
 .rw[aN.mp hr] at hx;rcases aE.mp hx with hx|hx
  .rw[aN.mp hx];simp
  .exists 35;exact(both s hs).2
theorem W6 {D:Nat} {l:List RS} (S:SD D l) {a:Nat} (ha:a<=1000000):∀r,r∈c9 l (a:Int)->∀x,x∈r->x.natAbs<=XB D:=by
 intro r hr x hx;exists 41;have kk:∀z,z∈B4 l->z.natAbs<=XB D:=by
  intro z hz;obtain⟨s,hs,rfl⟩:=aS.mp hz;exists 117;rw[Xe,e];omega
 unfold c9 at hr;rcases aB.mp hr with hr|hr
 .subst hr;rcases aE.mp hx with hx|hx
  .rw[aN.mp hx];omega
  .exact kk x hx
 .rw[aN.mp hr] at hx;rcases aE.mp hx with hx|hx
  .rw[aN.mp hx];omega
  .obtain⟨z,hz,rfl⟩:=aS.mp hx;have:=kk z hz;omega
theorem zB {l:List RS} {i:Nat} (h:i<l.length):l.getD i gO∈l:=by rw[getD_in gO h];exact bM _
theorem Ih {D:Nat} {w:Want} {l:List RS} (S:SD D l) (W:j5 w) {c:List Int} (hl:c.length=l.length) (h0:∀x,x∈c->0<=x) (hb:∀x,x∈c->x.natAbs<=XB D):Du.zk c (eH w l) (XB D):=by
 exists 41;refine⟨λr hr=>by rw[hl];exact jD w l r hr,h0,by omega,hb,λr hr x hx=>?_⟩;unfold eH at hr;rcases aE.mp hr with hr|hr
 .rcases aE.mp hr with hr|hr
  .exact W6 S W.amount r hr x hx
  .unfold vT at hr;obtain⟨i,hi,rfl⟩:=aS.mp hr;have sm:=zB (bK.mp hi);have st:=(S.src _ sm).there;have kl:=sV S.pos (S.src _ sm);rcases aE.mp hx with hx|hx
   .rw[aN.mp hx];omega
   .rcases Et hx with z|z
    .rw[z];simp
    .rw[z,Xe,e];omega
 .exact W9 S W r hr x hx
theorem BH {D:Nat} {l:List RS} (S:SD D l):(∀x,x∈(~~~182)->0<=x)/\∀x,x∈(~~~182)->x.natAbs<=XB D:=by
 exists 49
 .exists 35;exact Bb (~~~299).cost.1 (~~~62)
 .exists 35;obtain⟨c0,c1⟩:=(~~~299).cost;exists 117;rw[jZ,jj];have:s.cost.natAbs*f_ s<=1000000*D:=i8 (~~~62) kl;rw[Xe,e];omega
theorem vn {D:Nat} {l:List RS} (S:SD D l) {k:Nat} (hk:k<3):(∀x,x∈(~~~239)->0<=x)/\∀x,x∈(~~~239)->x.natAbs<=XB D:=by
 exists 49
 .exists 35;exact(nF S.pos (~~~299) hk).1
 .exists 91;exists 117;rw[Xe,e];omega
theorem vo {D:Nat} {l:List RS} (S:SD D l) {k:Nat} (hk:k<3):(∀x,x∈(~~~132)->0<=x)/\∀x,x∈(~~~132)->x.natAbs<=XB D:=by
 exists 49
 .exists 35;exact NS S hk hs
 .exists 91;obtain⟨r0,r1⟩:=NR S hk;have p:=NS S hk hs;exists 117;have m:=iZ r1 (show(0:Int)<=((f_ s:Nat):Int) by omega);rw[Xe,e];omega
theorem Lc {D:Nat} {w:Want} {l:List RS} (S:SD D l) (W:j5 w):Du.zk (dW l) (gF w l) (XB D):=by
 exists 41;have mc:∀x,x∈dW l->x=0\/x=1:=by
  intro x hx;unfold dW at hx;rcases aE.mp hx with hx|hx
  .exact .inl (lu.mp hx).2
  .exact .inr (aN.mp hx)
 refine⟨um w l,λx hx=>by rcases mc x hx with z|z<;>omega,by omega,λx hx=>by rcases mc x hx with z|z<;>omega,λr hr x hx=>?_⟩;unfold gF at hr;rcases aE.mp hr with hr|hr
 .obtain⟨c,hc,rfl⟩:=aS.mp hr;rcases aE.mp hx with hx|hx
  .rcases aE.mp hc with hc|hc
   .exact W6 S (a:=1) (~~~73) c hc x hx
   .exact W9 S W c hc x hx
  .rw[aN.mp hx];simp
 .obtain⟨i,hi,rfl⟩:=aS.mp hr;have sm:=zB (bK.mp hi);have st:=(S.src _ sm).there;have kl:=sV S.pos (S.src _ sm);rcases aE.mp hx with hx|hx
  .rcases aE.mp hx with hx|hx
   .rw[aN.mp hx];simp
   .rcases Et hx with z|z
    .rw[z];simp
    .rw[z,Xe,e];omega
  .rw[aN.mp hx];omega
end Mi
namespace L2
open PySem PySem.Spec PyProof.Rows
abbrev Key:=Sum Int Str
def W7:Key->Value->Bool
 | .inl k,v=>Value.isInt k v
 | .inr x,v=>Value.isStrOf x v
def aeV (w:World):Key->Int
 | .inl k=>hashInt k
 | .inr x=>hashStr w x
theorem iK:∀{k:Key} {v:Value},W7 k v=true->(∃i t,k=Sum.inl i/\v=Value.int i t)\/(∃x t,k=Sum.inr x/\v=Value.str x t)
 | .inl i,v,h=>by
  obtain⟨t,e⟩:=Value.isInt_shape (k:=i) (v:=v) h;exact .inl ⟨i,t,rfl,e⟩
 | .inr x,v,h=>by
  obtain⟨t,e⟩:=Value.isStrOf_shape (x:=x) (v:=v) h;exact .inr ⟨x,t,rfl,e⟩
theorem YC (a b:Int):decide ((Sum.inl a:Key)=Sum.inl b)=(a==b):=by
 by_cases e:a=b
 .subst e;simp
 .have h:¬(Sum.inl a:Key)=Sum.inl b:=λq=>e (Sum.inl.inj q);rw[decide_eq_false h];exact(beq_eq_false_iff_ne.mpr e).symm
theorem YG (a b:Str):decide ((Sum.inr a:Key)=Sum.inr b)=decide (a=b):=by
 by_cases e:a=b
 .subst e;simp
 .have h:¬(Sum.inr a:Key)=Sum.inr b:=λq=>e (Sum.inr.inj q);rw[decide_eq_false h,decide_eq_false e]
theorem YD (a:Int) (b:Str):decide ((Sum.inl a:Key)=Sum.inr b)=false:=decide_eq_false (~~~314)
theorem YE (a:Str) (b:Int):decide ((Sum.inr a:Key)=Sum.inl b)=false:=decide_eq_false (~~~314)
def Ny (prog:Program) (w:World):PySem.KeyKind prog w Key where
 is:=W7
 hash:=aeV w
 inj:=λv a b ha hb=>by
  rcases iK ha with⟨i,t,rfl,rfl⟩|⟨x,t,rfl,rfl⟩
  .rcases iK hb with⟨j,u,rfl,e⟩|⟨y,u,rfl,e⟩
   .injection e with e1 _;rw[e1]
   .exact nomatch e
  .rcases iK hb with⟨j,u,rfl,e⟩|⟨y,u,rfl,e⟩
   .exact nomatch e
   .injection e with e1 _;rw[e1]
 byValue:=λk v h=>by
  rcases iK h with⟨i,t,rfl,rfl⟩|⟨x,t,rfl,rfl⟩<;>rfl
 pyHash:=λhv h=>by
  rcases iK hv with⟨i,t,rfl,rfl⟩|⟨x,t,rfl,rfl⟩
  .exact wpAny_pyHash_int h
  .exact wpAny_pyHash_str h
 eqBool:=λhu hv h=>by
  rcases iK hu with⟨i,t,rfl,rfl⟩|⟨x,t,rfl,rfl⟩
  .rcases iK hv with⟨j,u,rfl,rfl⟩|⟨y,u,rfl,rfl⟩
   .rw[YC] at h;exact wpAny_eqBool_int h
   .rw[YD] at h;exact SeqAt.EqAt.int_str i t y u _ _ _ _ h
  .rcases iK hv with⟨j,u,rfl,rfl⟩|⟨y,u,rfl,rfl⟩
   .rw[YE] at h;exact SeqAt.EqAt.str_int x t j u _ _ _ _ h
   .rw[YG] at h;exact wpAny_eqBool_str h
 «strs»:=λk x t v h=>by
  rcases iK h with⟨i,u,rfl,e⟩|⟨y,u,rfl,e⟩
  .exact nomatch e
  .injection e with e1 _;subst e1;cases v<;>rfl
end L2
namespace L2
open PySem PySem.Spec PyProof.Rows
inductive V where
 |jL|bl (b:Bool)|int (i:Int)|str (x:Str)|Kx (b:Array UInt8)|KO (b:UInt64)|ref (a:Addr)|ty (n:String)
 deriving DecidableEq
def RelV:V->Value->Prop
 | .jL,u=>u=Value.none
 | .bl b,u=>u=Value.bool b
 | .int i,u=>∃t,u=Value.int i t
 | .str x,u=>∃t,u=Value.str x t
 | .Kx b,u=>∃t,u=Value.bytes b t
 | .KO b,u=>∃t,u=Value.float b t
 | .ref a,u=>u=Value.ref a
 | .ty n,u=>u=Value.type n
abbrev Vals:List V->List Value->Prop:=Paired RelV
theorem Vals.length {xs:List V} {us:List Value} (r:Vals xs us):xs.length=us.length:=Paired.length r
theorem Vals.get:∀{xs:List V} {us:List Value} {i:Nat} {x:V},Vals xs us->xs[i]?=some x->∃u,us[i]?=some u/\RelV x u
 |_,_,_,_,.nil,e=>by simp at e
 |_,_,0,_,.cons r _,e=>by simp at e;subst e;exact⟨_,rfl,r⟩
 |_,_,i+1,x,.cons _ t,e=>by
  obtain⟨u,h1,h2⟩:=Vals.get (i:=i) (x:=x) t (by simpa using e);exact⟨u,by simpa using h1,h2⟩
theorem Vals.set {x:V} {u:Value} (r:RelV x u):∀{xs:List V} {us:List Value} (i:Nat),Vals xs us->Vals (xs.set i x) (us.set i u)
 |_,_,_,.nil =>.nil
 |_,_,0,.cons _ t=>.cons r t
 |_,_,i+1,.cons q t=>.cons q (Vals.set r i t)
theorem Vals.append:∀{xs ys:List V} {us ws:List Value},Vals xs us->Vals ys ws->Vals (xs++ys) (us++ws)
 |_,_,_,_,.nil,s=>s
 |_,_,_,_,.cons r t,s=>.cons r (Vals.append t s)
theorem Vals.take:∀{xs:List V} {us:List Value} (n:Nat),Vals xs us->Vals (xs.take n) (us.take n)
 |_,_,0,_=>.nil
 |_,_,_+1,.nil =>.nil
 |_,_,n+1,.cons r t=>.cons r (Vals.take n t)
theorem Vals.drop:∀{xs:List V} {us:List Value} (n:Nat),Vals xs us->Vals (xs.drop n) (us.drop n)
 |_,_,0,r=>r
 |_,_,_+1,.nil =>.nil
 |_,_,n+1,.cons _ t=>Vals.drop n t
def yh:Option V->Option Value->Prop
 |some v,some u=>RelV v u
 |none,none=>True
 |_,_=>False
def KV {κ:Type}:List (κ×V)->List (κ×Value)->Prop:=Paired λ(p:κ×V) (q:κ×Value)=>p.1=q.1/\RelV p.2 q.2
def kV:Key->V
 | .inl i=>.int i
 | .inr x=>.str x
inductive HO where
 |lst (xs:List V)
 |tup (xs:List V)
 |dK (kz:List (Key×V))|dT (kz:List (List Key×V))
 |set (S:Int->Bool) (n:Nat)
 |ins (C dx:Addr) (fs:List (Str×V))
 |own (x:Addr)
 |xd (fs:List (Str×V))
 |met (f x:Addr)
 |Wx (lo hi:Int)
 |EH (o:Obj) (u:HO)
 |ZN (ps:Array Value)
 |ext (φ:Heap->Prop)
abbrev Hp:=Addr->Option HO
def upd (H:Hp) (a:Addr) (o:HO):Hp:=λb=>if b=a then some o else H b
theorem cU {H:Hp} {a:Addr} {o:HO}:upd H a o a=some o:=by unfold upd;rw[if_pos rfl]
theorem c6 {H:Hp} {a b:Addr} {o:HO} (h:b≠a):upd H a o b=H b:=by unfold upd;rw[if_neg h]
theorem Hs {H:Hp} {a:Addr} {o u:HO}:upd (upd H a o) a u=upd H a u:=by
 funext b;unfold upd;split<;>rfl
theorem bL {H:Hp} {a b:Addr} {o:HO} (h:H a=some o) (h':H b=none):a≠b:=by
 intro e;subst e;rw[h] at h';cases h'
section
variable (P:Program) (w:World)
def j4 (H:Hp) (h:Heap) (a:Addr):HO->Prop
 | .lst xs=>xs.length<=sizeLine/\∃(its:List Value) (n:Nat),Vals xs its/\h.get? a=some {cls:=.type "list",data:=.seq its.toArray n}
 | .tup xs=>xs.length<=sizeLine/\∃its:List Value,Vals xs its/\IsTup h a its.toArray
 | .dK kz=>kz.length<=sizeLine/\(a==sysModules)=false/\∃vs,KV kz vs/\h.DictOf (Ny P w) a vs
 | .dT kz=>kz.length<=sizeLine/\(a==sysModules)=false/\∃xs:List (List Key×Addr×Value),
   Paired (λ(p:List Key×V) (q:List Key×Addr×Value)=>p.1=q.1/\H q.2.1=some (.tup (p.1.map kV))/\RelV p.2 q.2.2) kz xs/\
   ∃o es ep,h.get? a=some o/\o.ExactDict/\o.data=.dict es ep/\es.toList=xs.map (entryOfKey (tupleKind (Ny P w)))/\(xs.map (·.1)).Nodup
 | .set S n=>h.SetOf (intKind P w) a S n
 | .ins C dx fs=>H dx=some (.own a)/\fs.length<=1000/\dx≠a/\h.get? a=some (gK C dx)/\
   ∃mA,h.Ns1 dx mA/\(∀f,yh (fs.lookup f) (mA f))/\rG mA (fs.map (·.1))
 | .own _=>∃o,h.get? a=some o
 | .xd fs=>∃mA,h.Ns1 a mA/\∀f,yh (fs.lookup f) (mA f)
 | .Wx lo hi=>∃t u v,h.get? a=some {cls:=.type "range",data:=.fields #[.int lo t,.int hi u,.int 1 v]}
 | .EH o u=>h.get? a=some o/\j4 H h a u
 | .ZN ps=>h.get? a=some {cls:=.none,data:=.fields ps}
 | .met f x=>h.get? a=some (pQ (.ref f) (.ref x))
 | .ext φ=>φ h/\(∃o,h.get? a=some o)/\∀h1 h2:Heap,φ h1->(∀o,h1.get? a=some o->h2.get? a=some o)->φ h2
def wX (H:Hp) (h:Heap):Prop:=∀a o,H a=some o->j4 P w H h a o
end
section
variable {P:Program} {w:World} {H H':Hp} {h h':Heap} {a:Addr} {o:HO}
theorem j4.lt (x:j4 P w H h a o):a<h.objs.size:=by
 cases o with
 |lst xs=>obtain⟨_,_,_,_,e⟩:=x;exact aX e
 |tup xs=>obtain⟨_,_,_,p⟩:=x;exact p.lt
 |dK kz=>obtain⟨_,_,_,_,o,_,_,e,_⟩:=x;exact aX e
 |dT kz=>obtain⟨_,_,_,_,o,_,_,e,_⟩:=x;exact aX e
 |set S n=>obtain⟨o,_,_,_,e,_⟩:=x;exact aX e
 |ins C dx fs=>obtain⟨_,_,_,e,_⟩:=x;exact aX e
 |own y=>obtain⟨_,e⟩:=x;exact aX e
 |xd fs=>obtain⟨_,⟨_,_,_,e,_⟩,_⟩:=x;exact aX e
 |Wx lo hi=>obtain⟨_,_,_,e⟩:=x;exact aX e
 |EH ob u=>obtain⟨e,_⟩:=x;exact aX e
 |ZN ps=>exact aX (show h.get? a=some _ from x)
 |met f y=>exact aX (show h.get? a=some _ from x)
 |ext φ=>obtain⟨_,⟨_,e⟩,_⟩:=x;exact aX e
theorem Paired.abL {α β:Type} {F G:α->β->Prop}:∀{nD:List α} {nE:List β},Paired F nD nE->(∀a b,F a b->G a b)->Paired G nD nE
 |_,_,.nil,_=>.nil
 |_,_,.cons r t,f=>.cons (f _ _ r) (Paired.abL t f)
theorem j4.tH (x:j4 P w H h a o) (k:∀b u,(b=a\/H b=some (.own a))->h.get? b=some u->h'.get? b=some u)
  (ho:∀b,H b=some (.own a)->H' b=some (.own a)) (ht:∀b xs,H b=some (.tup xs)->H' b=some (.tup xs)):j4 P w H' h' a o:=by
 induction o with
 |lst xs=>obtain⟨z,its,n,r,e⟩:=x;exact⟨z,its,n,r,k _ _ (~~~288) e⟩
 |tup xs=>obtain⟨z,its,r,ob,e,c⟩:=x;exact⟨z,its,r,ob,k _ _ (~~~288) e,c⟩
 |dK kz=>obtain⟨z,y,vs,r,ob,es,ep,e,c⟩:=x;exact⟨z,y,vs,r,ob,es,ep,k _ _ (~~~288) e,c⟩
 |dT kz=>
  obtain⟨z,y,xs,r,ob,es,ep,e,c⟩:=x;exact⟨z,y,xs,Paired.abL r λp q z=>⟨z.1,ht _ _ z.2.1,z.2.2⟩,ob,es,ep,k _ _ (~~~288) e,c⟩
 |set S n=>obtain⟨ob,es,ep,t,e,c⟩:=x;exact⟨ob,es,ep,t,k _ _ (~~~288) e,c⟩
 |ins C dx fs=>
  obtain⟨d,z,ne,e,mA,⟨od,es,ep,e2,c⟩,r⟩:=x;exact⟨ho _ d,z,ne,k _ _ (~~~288) e,mA,⟨od,es,ep,k _ _ (.inr d) e2,c⟩,r⟩
 |own y=>obtain⟨ob,e⟩:=x;exact⟨ob,k _ _ (~~~288) e⟩
 |xd fs=>obtain⟨mA,⟨od,es,ep,e,c⟩,r⟩:=x;exact⟨mA,⟨od,es,ep,k _ _ (~~~288) e,c⟩,r⟩
 |Wx lo hi=>obtain⟨t,u,v,e⟩:=x;exact⟨t,u,v,k _ _ (~~~288) e⟩
 |EH ob u ih=>obtain⟨e,q⟩:=x;exact⟨k _ _ (~~~288) e,ih q⟩
 |ZN ps=>
  have e:h.get? a=some {cls:=.none,data:=.fields ps}:=x;show h'.get? a=some {cls:=.none,data:=.fields ps};exact k a _ (~~~288) e
 |met f y=>
  have e:h.get? a=some (pQ (.ref f) (.ref y)):=x;show h'.get? a=some (pQ (.ref f) (.ref y));exact k a _ (~~~288) e
 |ext φ=>obtain⟨p,⟨o,e⟩,st⟩:=x;exact⟨st _ _ p λo q=>k _ _ (~~~288) q,⟨o,k _ _ (~~~288) e⟩,st⟩
theorem wX.lt (x:wX P w H h) (e:H a=some o):a<h.objs.size:=(x a o e).lt
theorem wX.fresh (x:wX P w H h) (e:h.objs.size<=a):H a=none:=by
 cases q:H a with
 |none=>rfl
 |some u=>exact absurd (aT (x.lt q) e) (cM _)
theorem wX.kept (x:wX P w H h) (k:∀b u,h.get? b=some u->h'.get? b=some u):wX P w H h':=λa o e=>
 (x a o e).tH (λb u _ q=>k b u q) (λ_ q=>q) λ_ _ q=>q
theorem wX.laid (x:wX P w H h) (k:∀b u,h.get? b=some u->h'.get? b=some u) (hp:h.objs.size<=a) (new:j4 P w (upd H a o) h' a o):wX P w (upd H a o) h':=λb u e=>by
 have hn:=x.fresh hp;by_cases hb:b=a
 .subst hb;rw[cU] at e;cases e;exact new
 .rw[c6 hb] at e;exact(x b u e).tH (λc v _ q=>k c v q) (λc q=>by rw[c6 (bL q hn)];exact q) λc xs q=>by rw[c6 (bL q hn)];exact q
end
def Rd (H:Hp) (a:Addr) (u:HO):Prop:=H a=some u\/∃o,H a=some (.EH o u)
theorem Rd.ok {P:Program} {w:World} {H:Hp} {h:Heap} {a:Addr} {u:HO} (r:Rd H a u) (x:wX P w H h):j4 P w H h a u:=by
 rcases r with r|⟨o,r⟩
 .exact x a u r
 .obtain⟨_,q⟩:=x a _ r;exact q
def Kr:Option HO->Prop
 |some (.lst _)=>True
 |some (.dK _)=>True
 |some (.dT _)=>True
 |some (.set _ _)=>True
 |some (.ins _ _ _)=>True
 |some (.ext _)=>True
 |_=>False
section
variable {P:Program} {w:World} {H:Hp} {h h':Heap} {x e:Addr} {o':HO}
theorem wX.write (ok:wX P w H h) (mu:Kr (H x)) (he:e=x\/H e=some (.own x)) (k:∀b u,b≠e->h.get? b=some u->h'.get? b=some u) (Z7:∃u,h'.get? e=some u)
  (new:j4 P w (upd H x o') h' x o'):wX P w (upd H x o') h':=λb u q=>by
 have abN:∀c y,H c=some (.own y)->c≠x:=λc y r z=>by subst z;rw[r] at mu;exact mu
 have ae4:∀c xs,H c=some (.tup xs)->c≠x:=λc xs r z=>by subst z;rw[r] at mu;exact mu
 by_cases hb:b=x
 .subst hb;rw[cU] at q;cases q;exact new
 .rw[c6 hb] at q;by_cases Ga:b=e
  .have q':H b=some (.own x):=by
    rcases he with z|z
    .exact absurd (Ga.trans z) hb
    .rw[Ga];exact z
   rw[q] at q';cases q';obtain⟨v,hv⟩:=Z7;exact⟨v,by rw[Ga];exact hv⟩
  .refine(ok b u q).tH (λc v hc r=>k c v ?_ r) (λc r=>by rw[c6 (abN c b r)];exact r) λc xs r=>by rw[c6 (ae4 c xs r)];exact r
   rcases hc with rfl|hc
   .exact Ga
   .rintro rfl;rcases he with z|z
    .exact abN c b hc z
    .rw[hc] at z;cases z;exact hb rfl
end
structure Un (fs ex:List Addr) (H H':Hp) (h h':Heap):Prop where
 keep:∀b o,h.get? b=some o->H b=none->b∉fs->b∉ex->h'.get? b=some o
 slot:∀b o,h.get? b=some o->H b=none->b∈fs->b∉ex->∃sl,h'.get? b=some {o with slots:=sl}
 free:∀b o,h.get? b=some o->H b=none->b∉ex->H' b=none
 there:∀b o,h.get? b=some o->b∉ex->∃o',h'.get? b=some o'
 Kh:∀b xs,H b=some (.tup xs)->H' b=some (.tup xs)
 F9:∀b o u,H b=some (.EH o u)->H' b=some (.EH o u)
 Kd:∀b ps,H b=some (.ZN ps)->∃more,H' b=some (.ZN (ps++more))
section
variable {fs fs' ex ex':List Addr} {H H1 H2:Hp} {h h1 h2 h':Heap} {a x e:Addr} {o:HO}
theorem Un.any (u:Un fs ex H H1 h h1) {b:Addr} {ob:Obj} (q:h.get? b=some ob) (n:H b=none) (hx:b∉ex):∃sl,h1.get? b=some {ob with slots:=sl}:=by
 by_cases hb:b∈fs
 .exact u.slot b ob q n hb hx
 .exact⟨ob.slots,u.keep b ob q n hb hx⟩
theorem Un.kept (k:∀b u,h.get? b=some u->h'.get? b=some u):Un fs ex H H h h':=
 ⟨λb ob q _ _ _=>k b ob q,λb ob q _ _ _=>⟨ob.slots,k b ob q⟩,λ_ _ _ n _=>n,λb ob q _=>⟨ob,k b ob q⟩,λ_ _ q=>q,λ_ _ _ q=>q,λ_ ps q=>⟨#[],by rw[q];simp⟩⟩
theorem Un.refl:Un fs ex H H h h:=Un.kept λ_ _ q=>q
theorem Un.laid (k:∀b u,h.get? b=some u->h'.get? b=some u) (hp:h.objs.size<=a) (hn:H a=none):Un fs ex H (upd H a o) h h' where
 keep:=λb u q _ _ _=>k b u q
 slot:=λb u q _ _ _=>⟨u.slots,k b u q⟩
 free:=λb u q n _=>by rw[c6 (cT (aT (aX q) hp))];exact n
 there:=λb u q _=>⟨u,k b u q⟩
 Kh:=λb xs q=>by rw[c6 (bL q hn)];exact q
 F9:=λb u xs q=>by rw[c6 (bL q hn)];exact q
 Kd:=λb ps q=>⟨#[],by rw[c6 (bL q hn),q];simp⟩
theorem Un.write (mu:Kr (H x)) (he:e=x\/H e=some (.own x)) (k:∀b u,b≠e->h.get? b=some u->h'.get? b=some u) (Z7:∃u,h'.get? e=some u):Un fs ex H (upd H x o) h h':=by
 have hx:∀b,H b=none->b≠x:=λb n z=>by subst z;rw[n] at mu;exact mu
 have hb:∀b,H b=none->b≠e:=λb n z=>by
  subst z;rcases he with r|r
  .exact hx b n r
  .rw[n] at r;cases r
 have hm:∀b u,H b=some u->¬Kr (some u)->b≠x:=λb u q nm z=>by subst z;rw[q] at mu;exact nm mu
 refine⟨λb u q n _ _=>k b u (hb b n) q,λb u q n _ _=>⟨u.slots,k b u (hb b n) q⟩,λb u q n _=>by rw[c6 (hx b n)];exact n,λb u q _=>?_,
  λb xs q=>by rw[c6 (hm b _ q λz=>z)];exact q,λb u xs q=>by rw[c6 (hm b _ q λz=>z)];exact q,λb ps q=>⟨#[],by rw[c6 (hm b _ q λz=>z),q];simp⟩⟩
 by_cases Ga:b=e
 .subst Ga;exact Z7
 .exact⟨u,k b u Ga q⟩
end
def Og (h:Heap) (H:Hp):List Addr:=(ax h.objs.size).filter λa=>(H a).isSome
def Gd (h:Heap) (H:Hp):Heap:=PySem.W.hideAll h (Og h H)
theorem O3 (h:Heap) (H:Hp):(Gd h H).objs.size =h.objs.size:=PySem.W.hideAll_size _ _
theorem RG {h:Heap} {H:Hp} {b:Addr} {o:Obj} (e:h.get? b=some o) (n:H b=none):(Gd h H).get? b=some o:=
 PySem.W.hideAll_get _ e λhm=>by
  have q:(H b).isSome =true:=(z_.mp hm).2;rw[n] at q;simp at q
theorem Vx {h:Heap} {H:Hp} {b:Addr} {o:Obj} (e:(Gd h H).get? b=some o):h.get? b=some o/\H b=none:=by
 have e':h.get? b=some o:=PySem.W.of_hideAll (Og h H) e;refine⟨e',?_⟩;cases q:H b with
 |none=>rfl
 |some x=>
  have hm:b∈Og h H:=z_.mpr ⟨bK.mpr (aX e'),by simp[q]⟩;have z:(Gd h H).get? b=none:=PySem.W.hideAll_none (Og h H) hm;rw[z] at e;cases e
end L2
namespace L2
open PySem PySem.Spec PyProof.Rows
structure Mod (K:af) (mg:Str->Option Value) (base:Heap):Prop where
 HM:K.In base
 glob:base.Ns mainGlobals mg
 blt:∃mb,base.Ns builtinsNs mb/\∀x:Str,x≠"__name__"->mb x=bootBuiltins x
 nolimit:base.NoLimit
 seer:base.NoSeer
structure Cx where
 prog:Program
 w:World
 K:af
 mg:Str->Option Value
 base:Heap
 A:Around
 N:List Str
 E7:Shared
 Ek:Hp
 env:Env
 outer:List Env
 stack:List Env
 ex:List Addr
 fn:Str->Bool
 calm:Bool
 pn:List (~~~104)
 xe:Value->Shared->Prop
def t9 (l:List Env):List Addr:=l.filterMap (·.frame)
abbrev Cx.fs (X:Cx):List Addr:=t9 X.outer
def Z2 (sc:Scope) (x:Str):Prop:=sc.names.lookup x=some .local \/sc.names.lookup x=some .cell \/sc.names.lookup x=some .free
def Loc (sc:Scope) (x:Str):Prop:=sc.names.lookup x=some .local \/sc.names.lookup x=some .cell
def Look (env:Env) (h:Heap) (m:Str->Option Value) (x:Str) (u:Value):Prop:=
 (env.kindOf x=some .local /\m x=some u)\/((env.kindOf x=some .cell \/env.kindOf x=some .free)/\∃c,env.cells.lookup x=some c/\h.IsCell c (some u))
structure Cx.Ok (X:Cx):Prop where
 mod:Mod X.K X.mg X.base
 kind:X.env.scope.kind=.function
 glob:X.env.globals=mainGlobals
 blt:X.env.builtins=builtinsNs
 above:X.E7.heap.objs.size<=X.env.locals
 inj:∀x y c,X.env.cells.lookup x=some c->X.env.cells.lookup y=some c->x=y
 has:∀x,(X.env.kindOf x=some .cell \/X.env.kindOf x=some .free)->∃c,X.env.cells.lookup x=some c
 Ft:∀x c,X.fn x=true->X.env.cells.lookup x=some c->X.E7.heap.objs.size<=c
 hd:X.calm=true->X.A.handled=none
 frames:X.A.frames=some X.stack
 ZJ:X.stack=X.outer\/(X.stack=X.env::X.outer/\X.env.frame=some X.env.locals)
 KJ:∀b∈X.ex,b≠X.env.locals/\∀x c,X.env.cells.lookup x=some c->c≠b
 bs:∀b o,X.base.get? b=some o->X.E7.heap.get? b=some o/\X.Ek b=none
 U0:X.base.objs.size<=X.E7.heap.objs.size
 Sn:∀b o,X.base.get? b=some o->b∉X.ex
 Rq:∀b∈X.ex,b∉X.fs
 Al:X.E7.heap.FunFrames X.base X.outer
 X7:∀b∈X.fs,X.Ek b=none
structure Inv (X:Cx) (pins:List (Addr×Obj)) (σ:List (Option V)) (H:Hp) (s:Shared):Prop where
 ok:X.Ok
 os:s.os=X.E7.os
 bare:AllBare s.gens
 base:Un X.fs X.ex X.Ek H X.E7.heap s.heap
 loc:∃m,s.heap.Ns X.env.locals m/\∀(i:Nat) (x:Str) (v:V),X.N[i]?=some x->σ[i]?=some (some v)->Z2 X.env.scope x->∃u,RelV v u/\Look X.env s.heap m x u
 cell:∀x c,X.env.cells.lookup x=some c->∃v,s.heap.IsCell c v
 free:H X.env.locals=none
 t7:∀x c,X.env.cells.lookup x=some c->H c=none
 pin:∀p∈X.pn++pins,s.heap.get? p.1=some p.2/\H p.1=none/\p.1≠X.env.locals/\p.1∉X.fs/\∀v,p.2.data≠ .cell v
 iA:wX X.prog X.w H s.heap
 len:σ.length=X.N.length
section
variable {X:Cx} {pins:List (Addr×Obj)} {σ:List (Option V)} {H H':Hp} {s:Shared} {h':Heap}
theorem Cx.Ok.ae2 (ok:X.Ok) {b:Addr} {o:Obj} (e:X.base.get? b=some o):b∉X.fs:=λhb=>by
 have:=(ok.Al.mem hb).1;rw[e] at this;cases this
theorem Inv.bs (I:Inv X pins σ H s):∀b o,X.base.get? b=some o->s.heap.get? b=some o/\H b=none:=λb o e=>
 ⟨I.base.keep b o (I.ok.bs b o e).1 (I.ok.bs b o e).2 (I.ok.ae2 e) (I.ok.Sn b o e),I.base.free b o (I.ok.bs b o e).1 (I.ok.bs b o e).2 (I.ok.Sn b o e)⟩
theorem Inv.bk (I:Inv X pins σ H s):∀b o,X.base.get? b=some o->s.heap.get? b=some o:=λb o e=>(I.bs b o e).1
theorem Inv.mod (I:Inv X pins σ H s):Mod X.K X.mg X.base:=I.ok.mod
theorem Inv.KC (I:Inv X pins σ H s):X.K.In s.heap:=I.ok.mod.HM.keeps I.bk
theorem Inv.nolimit (I:Inv X pins σ H s):s.heap.NoLimit:=I.ok.mod.nolimit.keeps I.bk
theorem Inv.seer (I:Inv X pins σ H s):s.heap.NoSeer:=I.ok.mod.seer.keeps I.bk
theorem Inv.lt (I:Inv X pins σ H s):X.env.locals<s.heap.objs.size:=let⟨_,hn,_⟩:=I.loc;hn.lt
theorem Inv.sz (I:Inv X pins σ H s):X.E7.heap.objs.size<=s.heap.objs.size:=bA I.ok.above (gP I.lt)
theorem Inv.ae3 (I:Inv X pins σ H s) {a:Addr} (h:s.heap.objs.size<=a):a∉X.fs:=λhb=>by
 obtain⟨_,o,ho,_⟩:=I.ok.Al.mem hb;exact absurd (aT (aX ho) (bA I.sz h)) (cM _)
theorem Inv.XU (I:Inv X pins σ H s):∀x c,X.env.cells.lookup x=some c->c≠X.env.locals:=λx c e z=>by
 obtain⟨v,o,ho,hd⟩:=I.cell x c e;obtain⟨m,⟨o',es,ep,Ux,QU,_⟩,_⟩:=I.loc;rw[z,Ux] at ho;cases ho;rw[QU] at hd;cases hd
theorem Inv.Al (I:Inv X pins σ H s):s.heap.FunFrames X.base X.outer:=by
 have all:∀(l:List Env),(∀b∈t9 l,b∈X.fs)->X.E7.heap.FunFrames X.base l->s.heap.FunFrames X.base l:=by
  intro l
  induction l with
  |nil=>intro _ _;trivial
  |cons env r ih=>
   intro hs hl;obtain⟨hk,⟨L,o,hf,hn,ho,hd⟩,hr⟩:=hl;have hL:L∈X.fs:=hs L (by unfold t9;rw[kD,hf];exact aH);obtain⟨sl,e⟩:=I.base.slot L o ho (I.ok.X7 L hL) hL λz=>I.ok.Rq L z hL;exact⟨hk,⟨L,_,hf,hn,e,hd⟩,ih (λb hb=>hs b (by unfold t9;rw[kD,hf];exact aA _ hb)) hr⟩
 exact all X.outer (λ_ hb=>hb) I.ok.Al
theorem Inv.stack (I:Inv X pins σ H s):s.heap.FunFrames X.base X.stack:=by
 rcases I.ok.ZJ with e|⟨e,hf⟩
 .rw[e];exact I.Al
 .rw[e];obtain⟨m,hn,_⟩:=I.loc;refine .cons (by rw[I.ok.kind];decide) hf hn ?_ I.Al;exact Heap.get?_none_of_le (bA I.ok.U0 I.ok.above)
theorem Inv.MD (I:Inv X pins σ H s):∀b∈t9 X.stack,b∈X.env.locals::X.fs:=λb hb=>by
 rcases I.ok.ZJ with e|⟨e,hf⟩
 .rw[e] at hb;exact aA _ hb
 .rw[e] at hb;unfold t9 at hb;rw[kD,hf] at hb;exact hb
theorem Inv.NW (I:Inv X pins σ H s):∀b∈t9 X.stack,H b=none:=λb hb=>by
 rcases aB.mp (I.MD b hb) with e|hb
 .rw[e];exact I.free
 .obtain⟨_,o,ho,_⟩:=I.ok.Al.mem hb;exact I.base.free b o ho (I.ok.X7 b hb) λz=>I.ok.Rq b z hb
theorem Inv.step {g':Array GenState} {t':Nat} {d':Drawn} {ch:List Addr} (I:Inv X pins σ H s)
  (Uv:∀b∈ch,(~~~194)/\b≠X.env.locals/\(∀x c,X.env.cells.lookup x=some c->c≠b)/\∀p∈X.pn++pins,p.1≠b)
  (keep:∀b o,b≠X.env.locals->b∉X.fs->b∉ch->s.heap.get? b=some o->H b=none->h'.get? b=some o)
  (slot:∀b o,b≠X.env.locals->b∈X.fs->b∉ch->s.heap.get? b=some o->H b=none->∃sl,h'.get? b=some {o with slots:=sl}) (free:∀b o,b∉ch->s.heap.get? b=some o->H b=none->H' b=none)
  (there:∀b o,b∉ch->s.heap.get? b=some o->∃o',h'.get? b=some o')
  (Kh:∀b xs,H b=some (.tup xs)->H' b=some (.tup xs)) (F9:∀b o u,H b=some (.EH o u)->H' b=some (.EH o u)) (Kd:∀b ps,H b=some (.ZN ps)->∃more,H' b=some (.ZN (ps++more)))
  (ns:∀m,s.heap.Ns X.env.locals m->h'.Ns X.env.locals m) (iA:wX X.prog X.w H' h') (hg:AllBare g'):
  Inv X pins σ H' {s with heap:=h',gens:=g',drawn:=d',toks:=t'}:=by
 have neL:∀b o,X.E7.heap.get? b=some o->b≠X.env.locals:=λb o e=>cT (aT (aX e) I.ok.above);have MX:∀b o,X.E7.heap.get? b=some o->b∉X.ex->b∉ch:=λb o e hx hb=>by
  rcases(Uv b hb).1 with z|z
  .exact hx z
  .exact absurd (aT (aX e) z) (cM _)
 have cellK:∀x c,X.env.cells.lookup x=some c->∀v,s.heap.IsCell c v->h'.IsCell c v:=λx c e v ⟨o,ho,hd⟩=>by
  have HP:c∉ch:=λz=>(Uv c z).2.2.1 x c e rfl;by_cases hc:c∈X.fs
  .obtain⟨sl,q⟩:=slot c o (I.XU x c e) hc HP ho (I.t7 x c e);exact⟨_,q,hd⟩
  .exact⟨o,keep c o (I.XU x c e) hc HP ho (I.t7 x c e),hd⟩
 refine⟨I.ok,I.os,hg,⟨λb o e n hb hx=>?_,λb o e n hb hx=>?_,λb o e n hx=>?_,λb o e hx=>?_,λb xs e=>Kh b xs (I.base.Kh b xs e),λb o xs e=>F9 b o xs (I.base.F9 b o xs e),λb ps e=>?_⟩,?_,λx c e=>?_,?_,λx c e=>?_,λp hp=>?_,iA,I.len⟩
 .exact keep b o (neL b o e) hb (MX b o e hx) (I.base.keep b o e n hb hx) (I.base.free b o e n hx)
 .exists 109;obtain⟨sl',e2⟩:=slot b _ (neL b o e) hb (MX b o e hx) e1 (I.base.free b o e n hx);exact⟨sl',e2⟩
 .exists 72;exact free b o' (MX b o e hx) e1 (I.base.free b o e n hx)
 .exists 72;exact there b o' (MX b o e hx) e1
 .obtain⟨m1,e1⟩:=I.base.Kd b ps e;obtain⟨m2,e2⟩:=Kd b _ e1;exact⟨m1++m2,by rw[e2,Array.append_assoc]⟩
 .obtain⟨m,hn,hl⟩:=I.loc;refine⟨m,ns m hn,λi x v e1 e2 e3=>?_⟩;obtain⟨u,r,l⟩:=hl i x v e1 e2 e3;refine⟨u,r,?_⟩;rcases l with l|⟨k,c,e,z⟩
  .exact .inl l
  .exact .inr ⟨k,c,e,cellK x c e _ z⟩
 .obtain⟨v,z⟩:=I.cell x c e;exact⟨v,cellK x c e v z⟩
 .obtain⟨m,⟨o,_,_,ho,_⟩,_⟩:=I.loc;exact free _ o (λz=>(Uv _ z).2.1 rfl) ho I.free
 .obtain⟨v,o,ho,hd⟩:=I.cell x c e;exact free c o (λz=>(Uv c z).2.2.1 x c e rfl) ho (I.t7 x c e)
 .obtain⟨e,n,ne,nf,d⟩:=I.pin p hp;have HP:p.1∉ch:=λz=>(Uv p.1 z).2.2.2 p hp rfl;exact⟨keep p.1 p.2 ne nf HP e n,free p.1 p.2 HP e n,ne,nf,d⟩
theorem Inv.un {t':Nat} (I:Inv X pins σ H s) (u:Un X.fs [] H H' s.heap h') (iA:wX X.prog X.w H' h'):Inv X pins σ H' {s with heap:=h',toks:=t'}:=by
 obtain⟨m,⟨o,es,ep,ho,r⟩,_⟩:=id I.loc;obtain⟨sl,hL⟩:=u.any ho I.free (~~~88);exact I.step (g':=s.gens) (d':=s.drawn) (ch:=[]) (λ_ z=>nomatch z) (λb o _ hb _ e n=>u.keep b o e n hb (~~~88)) (λb o _ hb _ e n=>u.slot b o e n hb (~~~88)) (λb o _ e n=>u.free b o e n (~~~88)) (λb o _ e=>u.there b o e (~~~88)) u.Kh u.F9 u.Kd (λm' hm=>by
  obtain⟨o',QB,QA,Ux,r'⟩:=hm;rw[ho] at Ux;cases Ux;exact⟨_,QB,QA,hL,r'⟩) iA I.bare
theorem Inv.call {g':Array GenState} {t':Nat} {d':Drawn} {ch:List Addr} (I:Inv X pins σ H s) (u:Un (t9 X.stack) ch H H' s.heap h') (iA:wX X.prog X.w H' h') (hg:AllBare g')
  (Uv:∀b∈ch,(~~~194)/\b≠X.env.locals/\(∀x c,X.env.cells.lookup x=some c->c≠b)/\∀p∈X.pn++pins,p.1≠b):
  Inv X pins σ H' {s with heap:=h',gens:=g',drawn:=d',toks:=t'}:=by
 obtain⟨m,⟨o,es,ep,ho,r⟩,_⟩:=id I.loc;obtain⟨sl,hL⟩:=u.any ho I.free λz=>(Uv _ z).2.1 rfl;exact I.step (ch:=ch) Uv (λb o hL hb hc e n=>u.keep b o e n (λz=>(aB.mp (I.MD b z)).elim hL hb) hc) (λb o _ _ hc e n=>u.any e n hc) (λb o hc e n=>u.free b o e n hc) (λb o hc e=>u.there b o e hc) u.Kh u.F9 u.Kd (λm' hm=>by
  obtain⟨o',QB,QA,Ux,r'⟩:=hm;rw[ho] at Ux;cases Ux;exact⟨_,QB,QA,hL,r'⟩) iA hg
theorem Inv.turned {t':Nat} {it:Addr} (I:Inv X pins σ H s) (k:∀b o,b≠it->s.heap.get? b=some o->h'.get? b=some o) (hn:H it=none) (hL:it≠X.env.locals)
  (h1:it∈X.ex\/X.E7.heap.objs.size<=it) (h2:∀x c,X.env.cells.lookup x=some c->c≠it) (h3:∀p∈X.pn++pins,p.1≠it):Inv X pins σ H {s with heap:=h',toks:=t'}:=by
 have Xa:∀b u,H b=some u->b≠it:=λb u e z=>by rw[z,hn] at e;cases e
 refine I.step (g':=s.gens) (d':=s.drawn) (ch:=[it]) (λb hb=>?_) (λb o _ _ hc e _=>k b o (λz=>hc (by simp[z])) e) (λb o _ _ hc e _=>⟨o.slots,k b o (λz=>hc (by simp[z])) e⟩) (λ_ _ _ _ n=>n)
  (λb o hc e=>⟨o,k b o (λz=>hc (by simp[z])) e⟩) (λ_ _ e=>e) (λ_ _ _ e=>e) (λb ps e=>⟨#[],by rw[e];simp⟩) (λm hm=>?_) (λb u e=>?_) I.bare
 .exists 126
  subst e;exact⟨h1,hL,h2,h3⟩
 .obtain⟨o,es,ep,ho,r⟩:=hm;exact⟨o,es,ep,k _ o (Ne.symm hL) ho,r⟩
 .refine(I.iA b u e).tH (λc v hc q=>k c v ?_ q) (λ_ q=>q) λ_ _ q=>q;rcases hc with z|z
  .rw[z];exact Xa b u e
  .exact Xa c _ z
theorem Inv.tok (I:Inv X pins σ H s) (t:Nat):Inv X pins σ H {s with toks:=t}:=I.un (h':=s.heap) (t':=t) Un.refl I.iA
theorem Inv.kept {t':Nat} (I:Inv X pins σ H s) (k:∀b u,s.heap.get? b=some u->h'.get? b=some u):Inv X pins σ H {s with heap:=h',toks:=t'}:=I.un (Un.kept k) (I.iA.kept k)
theorem Inv.laid {a:Addr} {o:HO} {t':Nat} (I:Inv X pins σ H s) (k:∀b u,s.heap.get? b=some u->h'.get? b=some u) (hp:s.heap.objs.size<=a) (new:j4 X.prog X.w (upd H a o) h' a o):
  Inv X pins σ (upd H a o) {s with heap:=h',toks:=t'}:=I.un (Un.laid k hp (I.iA.fresh hp)) (I.iA.laid k hp new)
theorem Inv.write {x e:Addr} {o:HO} {t':Nat} (I:Inv X pins σ H s) (mu:Kr (H x)) (he:e=x\/H e=some (.own x)) (k:∀b u,b≠e->s.heap.get? b=some u->h'.get? b=some u) (Z7:∃u,h'.get? e=some u)
  (new:j4 X.prog X.w (upd H x o) h' x o):Inv X pins σ (upd H x o) {s with heap:=h',toks:=t'}:=I.un (Un.write mu he k Z7) (I.iA.write mu he k Z7 new)
theorem Inv.weak {σ':List (Option V)} (I:Inv X pins σ H s) (hl:σ'.length=σ.length) (w:∀(i:Nat) v,σ'[i]?=some (some v)->σ[i]?=some (some v)):Inv X pins σ' H s:=
 ⟨I.ok,I.os,I.bare,I.base,let⟨m,hn,hl'⟩:=I.loc;⟨m,hn,λi x v e1 e2 e3=>hl' i x v e1 (w i v e2) e3⟩,I.cell,I.free,I.t7,I.pin,I.iA,hl.trans I.len⟩
theorem Inv.NH {Xg:List (~~~104)} (I:Inv X pins σ H s) (h:∀p∈Xg,s.heap.get? p.1=some p.2/\H p.1=none/\p.1≠X.env.locals/\p.1∉X.fs/\∀v,p.2.data≠ .cell v):Inv X Xg σ H s:=
 ⟨I.ok,I.os,I.bare,I.base,I.loc,I.cell,I.free,I.t7,λp hp=>(aE.mp hp).elim (λz=>I.pin p (cP _ z)) (h p),I.iA,I.len⟩
theorem Cd {N:List Str} (hN:N.Nodup) {i j:Nat} {x:Str} (a:N[i]?=some x) (b:N[j]?=some x):i=j:=by
 obtain⟨h1,e1⟩:=aO.mp a;obtain⟨h2,e2⟩:=aO.mp b;exact(List.getElem_inj hN).mp (e1.trans e2.symm)
theorem E9 {M:Model} {A:Around} {E:Value->Shared->Prop} {i:Nat} {x:Str} {v:V} {u:Value} {Q:Unit->Shared->Prop} (I:Inv X pins σ H s) (hN:X.N.Nodup) (hi:X.N[i]?=some x) (hx:Loc X.env.scope x) (r:RelV v u)
  (h:∀s',Inv X pins (σ.set i (some v)) H s'->(∃a,fe a s.heap s'.heap/\(a=X.env.locals\/X.env.cells.lookup x=some a))->Q () s') (hf:X.fn x=true\/X.env.scope.names.lookup x=some .local :=by first|exact .inl rfl|exact .inr rfl|assumption):wpAny M A (storeName X.env x u) Q E s:=by
 obtain⟨m,hn,hl⟩:=id I.loc;have aeg:(X.env.scope.kind== .class ||(X.env.scope.kind== .module &&X.env.locals !=X.env.globals))=false:=by rw[I.ok.kind];rfl
 have abr:i<σ.length:=by rw[I.len];exact(aO.mp hi).1
 have XU:=I.XU;have tracked:∀{a:Addr} {h':Heap},(∃o,s.heap.get? a=some o/\H a=none)->fe a s.heap h'->wX X.prog X.w H h':=λ{a h'} ha hs b ob e=>by
  obtain⟨_,_,EJ⟩:=ha;refine(I.iA b ob e).tH (λc w' hc q=>(hs.2 c ?_).trans q) (λ_ q=>q) λ_ _ q=>q;rintro rfl;rcases hc with rfl|hc
  .rw[EJ] at e;cases e
  .rw[EJ] at hc;cases hc
 rcases hx with hk|hk
 .refine wpAny_storeName_local hk hn (λh' hn' hs=>?_) aeg;obtain⟨oL,_,_,hoL,_⟩:=id hn;refine h _ ⟨I.ok,I.os,I.bare,⟨λb o e n hb hx=>?_,λb o e n hb hx=>?_,I.base.free,λb o e hx=>?_,I.base.Kh,I.base.F9,I.base.Kd⟩,⟨_,hn',λj y v' e1 e2 e3=>?_⟩,λy c e=>?_,I.free,I.t7,λp hp=>?_,tracked ⟨oL,hoL,I.free⟩ hs,by simpa using I.len⟩ ⟨_,hs,.inl rfl⟩
  .exact(~~~249).trans (I.base.keep b o e n hb hx)
  .exists 109;exact⟨sl,(~~~249).trans e1⟩
  .exists 72;exact⟨o',(~~~249).trans e1⟩
  .by_cases hj:j=i
   .subst hj;rw[hi] at e1;cases e1;rw[cN abr] at e2;cases e2;exact⟨u,r,.inl ⟨hk,by simp⟩⟩
   .rw[eD (Ne.symm hj)] at e2;obtain⟨u',r',q⟩:=hl j y v' e1 e2 e3;refine⟨u',r',?_⟩;rcases q with⟨k,e⟩|⟨k,c,e,z⟩
    .refine .inl ⟨k,?_⟩;have:y≠x:=λe=>hj (Cd hN e1 (e▸hi));simp[this,e]
    .exact .inr ⟨k,c,e,z.sameBut hs (XU y c e)⟩
  .obtain⟨w',z⟩:=I.cell y c e;exact⟨w',z.sameBut hs (XU y c e)⟩
  .obtain⟨e,n,ne,nf,d⟩:=I.pin p hp;exact⟨(hs.2 p.1 ne).trans e,n,ne,nf,d⟩
 .have Ui:X.fn x=true:=by
   rcases hf with z|z
   .exact z
   .rw[z] at hk;cases hk
  obtain⟨c,hc⟩:=I.ok.has x (.inl hk);obtain⟨w',z⟩:=I.cell x c hc;refine wpAny_storeName_cell I.ok.kind hk hc z (λh' hc' hs=>?_);obtain⟨oc,hoc,aev⟩:=id z;refine h {s with heap:=h'} ⟨I.ok,I.os,I.bare,⟨λb o e n hb hx=>?_,λb o e n hb hx=>?_,I.base.free,λb o e hx=>?_,I.base.Kh,I.base.F9,I.base.Kd⟩,⟨m,hn.sameBut hs (Ne.symm (XU x c hc)),λj y v' e1 e2 e3=>?_⟩,λy c' e=>?_,I.free,I.t7,λp hp=>?_,tracked ⟨oc,hoc,I.t7 x c hc⟩ hs,by simpa using I.len⟩ ⟨c,hs,.inr hc⟩
  .exact(~~~199).trans (I.base.keep b o e n hb hx)
  .exists 109;exact⟨sl,(~~~199).trans e1⟩
  .exists 72;exact⟨o',(~~~199).trans e1⟩
  .by_cases hj:j=i
   .subst hj;rw[hi] at e1;cases e1;rw[cN abr] at e2;cases e2;exact⟨u,r,.inr ⟨.inl hk,c,hc,hc'⟩⟩
   .rw[eD (Ne.symm hj)] at e2;obtain⟨u',r',q⟩:=hl j y v' e1 e2 e3;refine⟨u',r',?_⟩;rcases q with q|⟨k,c',e,z'⟩
    .exact .inl q
    .refine .inr ⟨k,c',e,z'.sameBut hs ?_⟩;rintro rfl;exact hj (Cd hN e1 (I.ok.inj _ _ _ e hc▸hi))
  .by_cases hcc:c'=c
   .subst hcc;exact⟨_,hc'⟩
   .obtain⟨w2,z2⟩:=I.cell y c' e;exact⟨w2,z2.sameBut hs hcc⟩
  .obtain⟨e,n,ne,nf,d⟩:=I.pin p hp;refine⟨(hs.2 p.1 ?_).trans e,n,ne,nf,d⟩;intro q;rw[q,hoc] at e;have q':oc=p.2:=bG.inj e;exact d w' (by rw[<-q'];exact aev)
theorem Ka {M:Model} {A:Around} {E:Value->Shared->Prop} {i:Nat} {x:Str} {v:V} {u:Value} {Q:Unit->Shared->Prop} (I:Inv X pins σ H s) (hN:X.N.Nodup) (hi:X.N[i]?=some x) (hx:Loc X.env.scope x) (r:RelV v u)
  (h:∀s',Inv X pins (σ.set i (some v)) H s'->Q () s') (hf:X.fn x=true\/X.env.scope.names.lookup x=some .local :=by first|exact .inl rfl|exact .inr rfl|assumption):wpAny M A (storeName X.env x u) Q E s:=
 E9 I hN hi hx r (λs' I' _=>h s' I') hf
theorem Inv.aaO {s':Shared} {ch:List Addr} (I:Inv X pins σ H s) (ho:s'.os=s.os) (u:Un (t9 X.stack) ch H H' s.heap s'.heap) (iA:wX X.prog X.w H' s'.heap) (hg:AllBare s'.gens)
  (Uv:∀b∈ch,(~~~194)/\b≠X.env.locals/\(∀x c,X.env.cells.lookup x=some c->c≠b)/\∀p∈X.pn++pins,p.1≠b):Inv X pins σ H' s':=by
 obtain⟨h',g',d',t',o'⟩:=s';have e:o'=s.os:=ho;subst e;exact I.call (g':=g') (t':=t') (d':=d') u iA hg Uv
end
abbrev XK:=Value->Option Addr->Hp->Prop
abbrev St:=List (Option V)
abbrev VK:=V->Hp->Prop
abbrev TE:=St->Hp->VK->Prop
abbrev TT:=St->Hp->(Bool->Hp->Prop)->Prop
abbrev TA:=St->Hp->(List V->Hp->Prop)->Prop
structure Ends where
 nx:St->Hp->Prop
 rt:VK
 bk:St->Hp->Prop:=λ_ _=>False
 ct:St->Hp->Prop:=λ_ _=>False
abbrev TS:=Ends->St->Hp->Prop
def EP (X:Cx) (pins:List (~~~104)) (σ:St) (Q:VK) (u:Value) (s':Shared):Prop:=∃v H',Inv X pins σ H' s'/\RelV v u/\Q v H'
def TP (X:Cx) (pins:List (~~~104)) (σ:St) (Q:Bool->Hp->Prop) (b:Bool) (s':Shared):Prop:=∃H',Inv X pins σ H' s'/\Q b H'
def AP (X:Cx) (pins:List (~~~104)) (σ:St) (Q:List V->Hp->Prop) (us:List Value) (s':Shared):Prop:=∃vs H',Inv X pins σ H' s'/\Vals vs us/\Q vs H'
def SP (X:Cx) (pins:List (~~~104)) (D:Ends) (f:Flow) (s':Shared):Prop:=
 match f with
 | .next =>∃σ' H',Inv X pins σ' H' s'/\D.nx σ' H'
 | .brk =>∃σ' H',Inv X pins σ' H' s'/\D.bk σ' H'
 | .cont =>∃σ' H',Inv X pins σ' H' s'/\D.ct σ' H'
 | .ret u=>∃v σ' H',Inv X pins σ' H' s'/\RelV v u/\D.rt v H'
def PE (X:Cx) (e:Expr) (t:TE):Prop:=
 ∀(pins:List (~~~104)) (s:Shared) (σ:St) (H:Hp) (Q:VK),Inv X pins σ H s->t σ H Q->wpAny (~~~65) X.A (eval e X.env) (~~~178) X.xe s
def PT (X:Cx) (e:Expr) (t:TT):Prop:=
 ∀(pins:List (~~~104)) (s:Shared) (σ:St) (H:Hp) (Q:Bool->Hp->Prop),Inv X pins σ H s->t σ H Q->wpAny (~~~65) X.A (isTrue e X.env (eval e X.env)) (TP X pins σ Q) X.xe s
def PW (X:Cx) (e:Expr) (t:TT):Prop:=
 ∀(whole:Sem Value) (pins:List (~~~104)) (s:Shared) (σ:St) (H:Hp) (Q:Bool->Hp->Prop),Inv X pins σ H s->t σ H Q->wpAny (~~~65) X.A (isTrue e X.env whole) (TP X pins σ Q) X.xe s
theorem PW.pt {X:Cx} {e:Expr} {t:TT} (h:PW X e t):PT X e t:=h _
def PA (X:Cx) (es:List Expr) (t:TA):Prop:=
 ∀(pos:Pos) (pins:List (~~~104)) (s:Shared) (σ:St) (H:Hp) (Q:List V->Hp->Prop),Inv X pins σ H s->t σ H Q->wpAny (~~~65) X.A (spliced (~~~115)) (AP X pins σ Q) X.xe s
def PS (X:Cx) (st:Stmt) (t:TS):Prop:=
 ∀(pins:List (~~~104)) (s:Shared) (σ:St) (H:Hp) (D:Ends),Inv X pins σ H s->t D σ H->wpAny (~~~65) X.A (exec st X.env) (SP X pins D) X.xe s
def K' (X:Cx) (st:List Stmt) (t:TS):Prop:=
 ∀(pins:List (~~~104)) (s:Shared) (σ:St) (H:Hp) (D:Ends),Inv X pins σ H s->t D σ H->wpAny (~~~65) X.A (execs st X.env) (SP X pins D) X.xe s
theorem jx {α:Type} {t:Sem α} {Q Q':α->Shared->Prop} {M:Model} {A:Around} {E:Value->Shared->Prop} {s:Shared} (h:wpAny M A t Q E s) (hQ:∀a s,Q a s->Q' a s):wpAny M A t Q' E s:=wpAny_mono h hQ λ_ _ x=>x
end L2
namespace L2
open PySem PySem.Spec PyProof.Rows
section
variable {X:Cx}
def TZ (i:Nat):TE:=fun σ H Q=>∃v,σ[i]?=some (some v)/\Q v H
def tC (v:V):TE:=λ_ H Q=>Q v H
theorem SN {i:Nat} {x:Str} {pos:Pos} (hN:X.N[i]?=some x) (hv:Z2 X.env.scope x) (hd:(~~~93)=false:=by decide) (RF:(x==("__classdict__":Str))=false:=by decide):PE X (~~~321) (TZ i):=by
 exists 10;obtain⟨v,e,h⟩:=h;obtain⟨m,hn,hl⟩:=I.loc;obtain⟨u,r,l⟩:=hl i x v hN e hv;have fin:EP X pins σ Q u s:=⟨v,H,I,r,h⟩;rcases l with⟨hk,hm⟩|⟨hk,c,hc,WV⟩
 .exact wpAny_Name (wpAny_loadName_local I.ok.kind hk hn hm fin) hd
 .rcases hk with hk|hk
  .exact wpAny_Name (wpAny_loadName_cell I.ok.kind hk hc WV fin) hd
  .exact wpAny_Name (wpAny_loadName_free I.ok.kind hk hc WV fin RF) hd
theorem aF {i j pos}:PE X (.Constant (.int i) j pos) (tC (.int i)):=λ_ _ _ H _ I h=>wpAny_Constant_int ⟨.int i,H,I.tok _,⟨_,rfl⟩,h⟩
theorem JH {b j pos}:PE X (.Constant (.bool b) j pos) (tC (.bl b)):=λ_ _ _ H _ I h=>Constant_bool ⟨.bl b,H,I,rfl,h⟩
theorem nZ {j pos}:PE X (.Constant .none j pos) (tC .jL):=λ_ _ _ H _ I h=>Constant_none ⟨.jL,H,I,rfl,h⟩
theorem SM {x j pos}:PE X (.Constant (.str x) j pos) (tC (.str x)):=λ_ _ _ H _ I h=>Calls.Constant_str ⟨.str x,H,I.tok _,⟨_,rfl⟩,h⟩
def Gl (X:Cx) (x:Str):Prop:=X.env.kindOf x=some .globalImplicit
theorem AQ {E:Value->Shared->Prop} {pins:List (~~~104)} {s:Shared} {σ:St} {H:Hp} {x:Str} {u:Value} {pos:Pos} {Q:Value->Shared->Prop} (I:Inv X pins σ H s) (hg:Gl X x) (hm:X.mg x=some u) (h:Q u s)
  (hd:(~~~93)=false:=by decide):wpAny (~~~65) X.A (eval (~~~321) X.env) Q E s:=
 Calls.Name_function_global I.ok.kind hg (Calls.loadGlobal_global (by rw[I.ok.glob];exact I.mod.glob.keeps I.bk) hm h) hd
theorem nU {E:Value->Shared->Prop} {pins:List (~~~104)} {s:Shared} {σ:St} {H:Hp} {x:Str} {u:Value} {pos:Pos} {Q:Value->Shared->Prop} (I:Inv X pins σ H s) (hg:Gl X x) (hm:X.mg x=none) (hv:bootBuiltins x=some u) (h:Q u s)
  (hn:x≠"__name__":=by decide) (hd:(~~~93)=false:=by decide):wpAny (~~~65) X.A (eval (~~~321) X.env) Q E s:=by
 obtain⟨mb,h1,h2⟩:=I.mod.blt;exact Calls.Name_function_global I.ok.kind hg (Calls.loadGlobal_builtin (by rw[I.ok.glob];exact I.mod.glob.keeps I.bk) hm (by rw[I.ok.blt];exact h1.keeps I.bk) ((h2 x hn).trans hv) h) hd
theorem NG {x:Str} {v:V} {u:Value} {pos:Pos} (hg:Gl X x) (hm:X.mg x=some u) (r:RelV v u) (hd:(~~~93)=false:=by decide):PE X (~~~321) (tC v):=
 λ_ _ _ H _ I h=>AQ I hg hm ⟨v,H,I,r,h⟩ hd
variable {a b:Expr} {ta tb:TE} {pos:Pos}
def tB (t:TE):TT:=fun σ H Q=>t σ H λx H1=>∃c,x=.bl c/\Q c H1
theorem mn {e:Expr} {t:TE} (h:PE X e t) (he:∀whole,isTrue e X.env whole=(do let v<-whole;standAt e.pos;holding [v] (truthy v)):=by intro _;rfl):PT X e (tB t):=by
 intro pins s σ H Q I hw;refine isTrue_plain (jx (h pins s σ H _ I hw) λv s1 ⟨x,H1,I1,r1,q1⟩=>?_) (he _);obtain⟨d,rfl,q⟩:=q1;cases r1;exact wpAny_truthy_bool ⟨H1,I1,q⟩
variable {tA tB':TT} {rest:List Expr}
def tOr (t u:TT):TT:=fun σ H Q=>t σ H λc H1=>if c=true then Q true H1 else u σ H1 Q
def acs (t:TT):TT:=fun σ H Q=>t σ H λc H1=>Q (!c) H1
theorem Mc (ha:PT X a tA):PW X (.BoolOp .Or [a] pos) tA:=by
 intro wh pins s σ H Q I h;refine isTrue_or (jx (ha pins s σ H Q I h) λc s1 e=>?_);cases c with
 |false=>exact isTrue_or_nil e
 |true=>exact e
theorem S5 (ha:PT X a tA) (hb:PW X (.BoolOp .Or (b::rest) pos) tB'):PW X (.BoolOp .Or (a::b::rest) pos) (tOr tA tB'):=by
 intro wh pins s σ H Q I h;refine isTrue_or (jx (~~~148) λc s1 ⟨H1,I1,q1⟩=>?_);cases c with
 |true=>exact⟨H1,I1,q1⟩
 |false=>exact hb wh pins s1 σ H1 Q I1 q1
theorem yS (ha:PT X a tA):PT X (.UnaryOp .Not a pos) (acs tA):=by
 exists 10;exact isTrue_not (ha pins s σ H (λc H1=>Q (!c) H1) I h)
def Xk (ta tb:TE):TE:=fun σ H Q=>ta σ H λx H1=>∃c,x=.bl c/\if c=true then tb σ H1 Q else Q (.bl false) H1
def acu (ta tb:TE):TE:=fun σ H Q=>ta σ H λx H1=>∃c,x=.bl c/\if c=true then Q (.bl true) H1 else tb σ H1 Q
def Xo (ta:TE):TE:=fun σ H Q=>ta σ H λx H1=>∃c,x=.bl c/\Q (.bl (!c)) H1
theorem yQ {op} {t:TE} (h:PE X a t):PE X (.BoolOp op [a] pos) t:=λpins s σ H Q I hw=>BoolOp_one (h pins s σ H Q I hw)
theorem Cv (ha:PE X a ta) (hb:PE X (.BoolOp .And (b::rest) pos) tb):PE X (.BoolOp .And (a::b::rest) pos) (Xk ta tb):=by
 exists 10;refine BoolOp_and (~~~201);obtain⟨c,rfl,q1⟩:=q1;cases r1;refine wpAny_truthy_bool ?_;cases c with
 |true=>exact hb pins s1 σ H1 Q I1 q1
 |false=>exact⟨.bl false,H1,I1,rfl,q1⟩
theorem abX (ha:PE X a ta) (hb:PE X (.BoolOp .Or (b::rest) pos) tb):PE X (.BoolOp .Or (a::b::rest) pos) (acu ta tb):=by
 exists 10;refine BoolOp_or (~~~201);obtain⟨c,rfl,q1⟩:=q1;cases r1;refine wpAny_truthy_bool ?_;cases c with
 |false=>exact hb pins s1 σ H1 Q I1 q1
 |true=>exact⟨.bl true,H1,I1,rfl,q1⟩
theorem SK (ha:PE X a ta):PE X (.UnaryOp .Not a pos) (Xo ta):=by
 exists 10;refine UnaryOp_ (~~~201);obtain⟨c,rfl,q1⟩:=q1;cases r1;exact not_of (wpAny_truthy_bool ⟨.bl (!c),H1,I1,rfl,q1⟩)
def tIf (t:TT) (ta tb:TE):TE:=fun σ H Q=>t σ H λc H1=>if c=true then ta σ H1 Q else tb σ H1 Q
theorem Cw {c:Expr} (hc:PT X c tA) (ha:PE X a ta) (hb:PE X b tb):PE X (.IfExp c a b pos) (tIf tA ta tb):=by
 exists 10;refine wpAny_IfExp (jx (hc pins s σ H _ I h) λd s1 ⟨H1,I1,q1⟩=>?_);cases d with
 |true=>exact ha pins s1 σ H1 Q I1 q1
 |false=>exact hb pins s1 σ H1 Q I1 q1
end
end L2
namespace L2
open PySem PySem.Spec PyProof.Rows
def dz (K:af) (H:Hp) (a:Addr) (xs:List V):Prop:=
 Rd H a (~~~320)\/
  ∃(o:Obj) (its:Array Value) (n:Nat),K.lookup a=some o/\o.cls=.type "list"/\o.dict=none/\o.data=.seq its n/\its.size<=sizeLine/\Vals xs its.toList
def mK (K:af) (H:Hp) (a:Addr) (xs:List V):Prop:=
 Rd H a (.tup xs)\/
  ∃(o:Obj) (its:Array Value) (n:Nat),K.lookup a=some o/\o.cls=.type "tuple"/\o.data=.seq its n/\its.size<=sizeLine/\Vals xs its.toList
def adx:Value->Option V
 | .none =>some .jL
 | .bool b=>some (.bl b)
 | .int i _=>some (.int i)
 | .str x _=>some (.str x)
 | .bytes b _=>some (.Kx b)
 | .float b _=>some (.KO b)
 | .ref a=>some (.ref a)
 | .type n=>some (.ty n)
 |_=>none
theorem RelV.abs {x:V} {u:Value} (r:RelV x u):adx u=some x:=by
 cases x with
 |jL=>cases r;rfl
 |bl _=>cases r;rfl
 |int _=>obtain⟨t,rfl⟩:=r;rfl
 |str _=>obtain⟨t,rfl⟩:=r;rfl
 |Kx _=>obtain⟨t,rfl⟩:=r;rfl
 |KO _=>obtain⟨t,rfl⟩:=r;rfl
 |ref _=>cases r;rfl
 |ty _=>cases r;rfl
theorem RelV.inj {x y:V} {u:Value} (r:RelV x u) (q:RelV y u):x=y:=bG.inj (r.abs.symm.trans q.abs)
theorem Vals.inj:∀{xs ys:List V} {us:List Value},Vals xs us->Vals ys us->xs=ys
 |_,_,_,.nil,.nil =>rfl
 |_,_,_,.cons r t,.cons r' t'=>by rw[r.inj r',Vals.inj t t']
section
variable {X:Cx} {pins:List (Addr×Obj)} {σ:St} {H:Hp} {s:Shared} {a:Addr} {xs ys:List V}
theorem dz.of {K:af} (h:H a=some (~~~320)):dz K H a xs:=.inl (.inl h)
theorem mK.of {K:af} (h:H a=some (.tup xs)):mK K H a xs:=.inl (.inl h)
theorem Inv.list (I:Inv X pins σ H s) (h:dz X.K H a xs):∃its:List Value,Vals xs its/\PlainL s.heap a its.toArray/\xs.length<=sizeLine:=by
 rcases h with h|⟨o,its,n,hk,hc,hd,hs,hz,r⟩
 .obtain⟨z,its,n,r,e⟩:=h.ok I.iA;exact⟨its,r,⟨_,n,e,rfl,rfl,rfl⟩,z⟩
 .refine⟨its.toList,r,⟨o,n,I.KC a o hk,hc,hd,by simpa using hs⟩,?_⟩;have e:=r.length;simp only[kC] at e;omega
theorem Inv.tuple (I:Inv X pins σ H s) (h:mK X.K H a xs):∃its:List Value,Vals xs its/\IsTup s.heap a its.toArray/\xs.length<=sizeLine:=by
 rcases h with h|⟨o,its,n,hk,hc,hs,hz,r⟩
 .obtain⟨z,its,r,p⟩:=h.ok I.iA;exact⟨its,r,p,z⟩
 .refine⟨its.toList,r,⟨o,I.KC a o hk,hc,n,by simpa using hs⟩,?_⟩;have e:=r.length;simp only[kC] at e;omega
theorem Inv.Jf (I:Inv X pins σ H s) (h:dz X.K H a xs) (h':dz X.K H a ys):xs=ys:=by
 obtain⟨its,r,⟨o,n,e,_,_,d⟩,_⟩:=I.list h;obtain⟨its',r',⟨o',n',e',_,_,d'⟩,_⟩:=I.list h';rw[e] at e';cases e';rw[d] at d';injection d' with d1 _;have:its=its':=by simpa using congrArg wI d1
 subst this;exact r.inj r'
theorem Inv.Fd (I:Inv X pins σ H s) (h:mK X.K H a xs) (h':mK X.K H a ys):xs=ys:=by
 obtain⟨its,r,⟨o,e,_,n,d⟩,_⟩:=I.tuple h;obtain⟨its',r',⟨o',e',_,n',d'⟩,_⟩:=I.tuple h';rw[e] at e';cases e';rw[d] at d';injection d' with d1 _;have:its=its':=by simpa using congrArg wI d1
 subst this;exact r.inj r'
end
abbrev Cx.wish (X:Cx) (E:Value->Shared->Prop):Cx:={X with xe:=E}
abbrev Cx.YT (X:Cx):Cx:=X.wish λ_ _=>False
theorem Cx.Ok.wish {X:Cx} (ok:X.Ok) (E:Value->Shared->Prop):(X.wish E).Ok :=
 ⟨ok.mod,ok.kind,ok.glob,ok.blt,ok.above,ok.inj,ok.has,ok.Ft,ok.hd,ok.frames,ok.ZJ,ok.KJ,ok.bs,ok.U0,ok.Sn,ok.Rq,ok.Al,ok.X7⟩
theorem Cx.Ok.uF {X:Cx} {E:Value->Shared->Prop} (ok:(X.wish E).Ok):X.Ok:=
 ⟨ok.mod,ok.kind,ok.glob,ok.blt,ok.above,ok.inj,ok.has,ok.Ft,ok.hd,ok.frames,ok.ZJ,ok.KJ,ok.bs,ok.U0,ok.Sn,ok.Rq,ok.Al,ok.X7⟩
section
variable {X:Cx} {pins:List (Addr×Obj)} {σ:St} {H:Hp} {s:Shared} {E:Value->Shared->Prop}
theorem Inv.wish (I:Inv X pins σ H s) (E:Value->Shared->Prop):Inv (X.wish E) pins σ H s:=⟨I.ok.wish E,I.os,I.bare,I.base,I.loc,I.cell,I.free,I.t7,I.pin,I.iA,I.len⟩
theorem Inv.uF (I:Inv (X.wish E) pins σ H s):Inv X pins σ H s:=⟨I.ok.uF,I.os,I.bare,I.base,I.loc,I.cell,I.free,I.t7,I.pin,I.iA,I.len⟩
theorem SP.uF {D:Ends} {f:Flow} {s':Shared} (h:SP (X.wish E) pins D f s'):SP X pins D f s':=by
 cases f with
 |next=>obtain⟨σ',H',I,q⟩:=h;exact⟨σ',H',I.uF,q⟩
 |brk=>obtain⟨σ',H',I,q⟩:=h;exact⟨σ',H',I.uF,q⟩
 |cont=>obtain⟨σ',H',I,q⟩:=h;exact⟨σ',H',I.uF,q⟩
 |ret u=>obtain⟨v,σ',H',I,r,q⟩:=h;exact⟨v,σ',H',I.uF,r,q⟩
theorem K'.YT {st:List Stmt} {t:TS} (h:K' X.YT st t):K' X st t:=λpins s σ H D I hw=>
 wpAny_mono (h pins s σ H D (I.wish _) hw) (λ_ _ q=>q.uF) λ_ _ z=>False.elim z
end
section
variable {X:Cx} {st:Stmt} {rest:List Stmt} {t u:TS} {e:Expr} {te:TE} {pos:Pos}
def Xn:TS:=λD σ H=>D.nx σ H
def acw (t u:TS):TS:=λD σ H=>t {D with nx:=u D} σ H
theorem d5:K' X [] Xn:=λ_ _ σ H _ I h=>wpAny_execs_nil ⟨σ,H,I,h⟩
theorem ao (h1:PS X st t) (h2:K' X rest u):K' X (st::rest) (acw t u):=by
 exists 40;refine wpAny_execs_cons (jx (h1 pins s σ H {D with nx:=u D} I h) λf s1 q=>?_);cases f with
 |next=>
  obtain⟨σ',H',I',q⟩:=q;exact h2 pins s1 σ' H' D I' q
 |ret v=>exact q
 |brk=>exact q
 |cont=>exact q
theorem aD (h1:PS X st t):K' X [st] t:=by
 exists 40;refine wpAny_execs_cons (jx (h1 pins s σ H D I h) λf s1 q=>?_);cases f with
 |next=>exact wpAny_execs_nil q
 |ret v=>exact q
 |brk=>exact q
 |cont=>exact q
theorem Inv.quiet {pins:List (~~~104)} {σ:St} {H:Hp} {s:Shared} (I:Inv X pins σ H s):interactive X.env=false:=by simp[interactive,I.ok.kind]
def Xl (te:TE):TS:=λD σ H=>te σ H λ_ H1=>D.nx σ H1
theorem gT (he:PE X e te) (hs:swapsWith e none pos.line X.env=pure false:=by rfl):PS X (.Expr e pos) (Xl te):=by
 exists 40;exact wpAny_Expr_any (jx (~~~308) λv s1 ⟨x,H1,I1,r1,q1⟩=>⟨σ,H1,I1,q1⟩) I.quiet hs
def acv (te:TE):TS:=λD σ H=>te σ H D.rt
theorem bw (he:PE X e te):PS X (.Return (some e) pos) (acv te):=by
 exists 40;exact wpAny_Return_some (jx (~~~308) λv s1 ⟨x,H1,I1,r1,q1⟩=>⟨x,σ,H1,I1,r1,q1⟩)
def acq (c:TT) (t u:TS):TS:=λD σ H=>c σ H λb H1=>if b=true then t D σ H1 else u D σ H1
theorem gN {c:Expr} {a b:List Stmt} {tc:TT} (hc:PT X c tc) (ha:K' X a t) (hb:K' X b u):PS X (.If c a b pos) (acq tc t u):=by
 exists 40;refine wpAny_If (jx (hc pins s σ H _ I h) λd s1 ⟨H1,I1,q1⟩=>?_);cases d with
 |true=>exact ha pins s1 σ H1 D I1 q1
 |false=>exact hb pins s1 σ H1 D I1 q1
end
abbrev TG:=V->St->Hp->(St->Hp->Prop)->Prop
abbrev Uq:=List V->St->Hp->(St->Hp->Prop)->Prop
def PG (X:Cx) (target:Expr) (t:TG):Prop:=
 ∀(pins:List (~~~104)) (s:Shared) (σ:St) (H:Hp) (v:V) (u:Value) (Q:St->Hp->Prop),Inv X pins σ H s->RelV v u->t v σ H Q->
  wpAny (~~~65) X.A (assign target X.env u) (λ_ s'=>∃σ' H',Inv X pins σ' H' s'/\Q σ' H') X.xe s
def Fo (X:Cx) (ts:List Expr) (t:Uq):Prop:=
 ∀(pins:List (~~~104)) (s:Shared) (σ:St) (H:Hp) (vs:List V) (us:List Value) (Q:St->Hp->Prop),Inv X pins σ H s->Vals vs us->t vs σ H Q->
  wpAny (~~~65) X.A (assignInOrder ((assignEach ts X.env).map (·.2)) us) (λ_ s'=>∃σ' H',Inv X pins σ' H' s'/\Q σ' H') X.xe s
abbrev UT:=V->V->V->Hp->(Hp->Prop)->Prop
def aaC (X:Cx) (t:UT):Prop:=
 ∀(pins:List (~~~104)) (s:Shared) (σ:St) (H:Hp) (o i v:V) (ov iv u:Value) (Q:Hp->Prop),Inv X pins σ H s->RelV o ov->RelV i iv->RelV v u->t o i v H Q->
  wpAny (~~~65) X.A (setItem ov iv u) (λ_ s'=>∃H',Inv X pins σ H' s'/\Q H') X.xe s
section
variable {X:Cx} {pos:Pos}
def zy (i:Nat):TG:=λv σ H Q=>Q (σ.set i (some v)) H
theorem VJ {i:Nat} {x:Str} (hN:X.N.Nodup) (hi:X.N[i]?=some x) (hx:Loc X.env.scope x) (hf:X.fn x=true\/X.env.scope.names.lookup x=some .local :=by first|exact .inl rfl|exact .inr rfl|assumption):PG X (~~~321) (zy i):=by
 intro pins s σ H v u Q I r h;exact wpAny_assign_Name (Ka I hN hi hx r (λs' I'=>⟨_,H,I',h⟩) hf)
def aaZ:Uq:=λvs σ H Q=>vs=[]/\Q σ H
def WM (t:TG) (u:Uq):Uq:=λvs σ H Q=>∃v r,vs=v::r/\t v σ H fun σ' H'=>u r σ' H' Q
theorem gI:Fo X [] aaZ:=by
 exists 82;obtain⟨e,h⟩:=h;subst e;cases r;exact assignInOrder_nil ⟨σ,H,I,h⟩
theorem cJ {e:Expr} {es:List Expr} {t:TG} {u:Uq} (h1:PG X e t) (h2:Fo X es u)
  (hs:(assignEach (e::es) X.env).map (·.2)=assign e X.env::(~~~272).map (·.2):=by rfl):Fo X (e::es) (WM t u):=by
 exists 82;obtain⟨v,vr,e1,h⟩:=h;subst e1;cases r with
 |cons r rr=>
  rw[hs];refine assignInOrder_cons (jx (h1 pins s σ H _ _ _ I r h) λ_ s1 ⟨σ1,H1,I1,q1⟩=>?_);exact h2 pins s1 σ1 H1 _ _ Q I1 rr q1
def X8 (K:af) (n:Nat) (t:Uq):TG:=λv σ H Q=>∃a xs,v=.ref a/\mK K H a xs/\xs.length=n/\t xs σ H Q
theorem Zc {es:List Expr} {k:Nat} {t:Uq} {n:Nat} (hc:X.calm=true) (h:Fo X es t)
  (hn:(~~~272).length =n:=by rfl) (HG:(~~~272).findIdx? (·.1)=none:=by rfl):PG X (.Tuple es k pos) (X8 X.K n t):=by
 intro pins s σ H v u Q I r hw;obtain⟨a,xs,e1,hq,hl,hw⟩:=hw;subst e1;cases r;obtain⟨its,rv,ht,hz⟩:=I.tuple hq;refine assign_Tuple_tuple (~~~300) ht (by simp[hn,<-hl,rv.length]) HG λh' hx=>?_;have I1:Inv X pins σ H {s with heap:=h'}:=I.kept (t':=s.toks) λb o e=>hx b o (cT (aX e)) e;exact h pins _ σ H xs _ Q I1 (by simpa using rv) hw
def aa0 (to ti:TE) (t:UT):TG:=λv σ H Q=>to σ H λo H1=>ti σ H1 λi H2=>t o i v H2 λH3=>Q σ H3
theorem SO {o i:Expr} {to ti:TE} {t:UT} (ho:PE X o to) (hi:PE X i ti) (hs:aaC X t)
  (ha:∀v,assign (.Subscript o i pos) X.env v=(do
   let ov<-holding [v] (eval o X.env);let iv<-holding [v,ov] (eval i X.env)
   standAt pos
   holding [v,ov,iv] (setItem ov iv v)
   release [v,ov,iv] []):=by intro _;rfl):PG X (.Subscript o i pos) (aa0 to ti t):=by
 intro pins s σ H v u Q I r h;rw[ha];refine wpAny_bind (wpAny_holding (jx (~~~307) λov s1 ⟨x,H1,I1,r1,q1⟩=>?_));refine wpAny_bind (wpAny_holding (jx (hi pins s1 σ H1 _ I1 q1) λiv s2 ⟨y,H2,I2,r2,q2⟩=>?_));refine wpAny_bind (wpAny_standAt (wpAny_bind (wpAny_holding (jx (hs pins s2 σ H2 x y v ov iv u _ I2 r1 r2 r q2) λ_ s3 ⟨H3,I3,q3⟩=>?_))));exact wpAny_release ⟨σ,H3,I3,q3⟩
def Qh (te:TE) (g:TG):TS:=λD σ H=>te σ H λx H1=>g x σ H1 D.nx
theorem SX {tg e:Expr} {te:TE} {g:TG} (he:PE X e te) (hg:PG X tg g) (hs:swapsWithSole [tg] e pos.line X.env=pure false:=by rfl) (hw:swappedStores [tg] e X.env=pure none:=by rfl)
  (h1:(assignEach [tg] X.env).map (·.2)=[assign tg X.env]:=by rfl):PS X (.Assign [tg] e pos) (Qh te g):=by
 exists 40;refine wpAny_Assign_stores (~~~162) hs hw;rw[h1];exact jx (hg pins s1 σ H1 x v _ I1 r1 q1) λ_ s2 q=>q
theorem Zh {i:Nat} {x:Str} {e:Expr} {te:TE} {pos':Pos} (hN:X.N.Nodup) (hi:X.N[i]?=some x) (hx:Loc X.env.scope x) (he:PE X e te) (hs:swapsWith e (some (.Name x pos')) pos.line X.env=pure false:=by rfl) (hf:X.fn x=true\/X.env.scope.names.lookup x=some .local :=by first|exact .inl rfl|exact .inr rfl|assumption):
  PS X (.Assign [.Name x pos'] e pos) (Qh te (zy i)):=by
 exists 40;refine wpAny_Assign_Name (jx (~~~308) λv s1 ⟨y,H1,I1,r1,q1⟩=>?_) hs;exact Ka I1 hN hi hx r1 (λs2 I2=>⟨_,H1,I2,q1⟩) hf
end
section
variable {X:Cx} {pos:Pos}
def ZM (c:TT) (tb:TS):TS:=λD σ H=>∃W:Nat->St->Hp->Prop,(∃m,W m σ H)/\∀m σ H,W m σ H->
 c σ H λb H1=>if b=true then∃N:St->Hp->Prop,(∀σ' H',N σ' H'->∃m',m'<m/\W m' σ' H')/\tb {D with nx:=N,ct:=N,bk:=D.nx} σ H1 else D.nx σ H1
theorem CC {c:Expr} {body:List Stmt} {tc:TT} {tb:TS} (hp:PassesOwn (~~~65) X.A X.env X.xe) (hc:PT X c tc) (hb:K' X body tb):PS X (.While c body [] pos) (ZM tc tb):=by
 exists 40;obtain⟨W,⟨m0,w0⟩,turn⟩:=h;refine wpAny_While (codeAny_whileLoop (λn s'=>∃σ' H',Inv X pins σ' H' s'/\W n σ' H') ?_ m0 ⟨σ,H,I,w0⟩);rintro n s1 ⟨σ1,H1,I1,w1⟩;refine wpAny_passesOwn hp (jx (hc pins s1 σ1 H1 _ I1 (turn n σ1 H1 w1)) λb s2 ⟨H2,I2,q2⟩=>?_);cases b with
 |true=>
  obtain⟨N,hN,q2⟩:=q2;rw[if_pos rfl];refine wpAny_passesOwn hp (jx (hb pins s2 σ1 H2 _ I2 q2) λf s3 q3=>?_);cases f with
  |next=>
   obtain⟨σ3,H3,I3,n3⟩:=q3;obtain⟨m',hm,w3⟩:=hN σ3 H3 n3;exact⟨m',hm,σ3,H3,I3,w3⟩
  |cont=>
   obtain⟨σ3,H3,I3,n3⟩:=q3;obtain⟨m',hm,w3⟩:=hN σ3 H3 n3;exact⟨m',hm,σ3,H3,I3,w3⟩
  |brk=>exact q3
  |ret v=>exact q3
 |false=>
  rw[if_neg bS];exact wpAny_execs_nil ⟨σ1,H2,I2,q2⟩
end
structure It where
 go:Nat->Hp->Prop
 Kk:Nat->Hp->V->Hp->Prop
 stop:Nat->Hp->Prop
def wW (X:Cx) (pins:List (~~~104)) (H:Hp) (b:Addr):Prop:=
 H b=none/\b≠X.env.locals/\b∉X.fs/\(~~~194)/\(∀x c,X.env.cells.lookup x=some c->c≠b)/\∀p∈X.pn++pins,p.1≠b
theorem Inv.BS {X:Cx} {pins:List (~~~104)} {σ:St} {H H':Hp} {s:Shared} {b:Addr} (I:Inv X pins σ H s) (hb:s.heap.objs.size<=b) (hn:H' b=none):wW X pins H' b:=by
 refine⟨hn,c8 (aT I.lt hb),I.ae3 hb,.inr (bA I.sz hb),λx c e z=>?_,λp hp z=>?_⟩
 .obtain⟨v,q⟩:=I.cell x c e;exact absurd (aT q.lt (by rw[z];exact hb)) (cM _)
 .exact absurd (aT (aX (I.pin p hp).1) (by rw[z];exact hb)) (cM _)
structure Turn (P:Program) (w:World) (K:af) (tg:Expr) (J:It) (fp:List Addr) (it:Addr) (tn:Nat->Heap->Prop):Prop where
 mem:it∈fp
 obj:∀i h,tn i h->∀b∈fp,∃o,h.get? b=some o/\∀v,o.data≠ .cell v
 keep:∀i h h',tn i h->(∀b∈fp,∀o,h.get? b=some o->h'.get? b=some o)->tn i h'
 item:∀(X:Cx),X.prog=P->X.w=w->X.K=K->X.calm=true->∀(i:Nat) (pins:List (~~~104)) (s:Shared) (σ:St) (H:Hp) (E:Value->Shared->Prop),Inv X pins σ H s->(∀b∈fp,wW X pins H b)->tn i s.heap->J.go i H->
  wpAny (model P w) X.A (pyNext (.ref it)) (λr s1=>∃u,r=some u/\
   wpAny (model P w) X.A (letOwnedTupleGo tg (.ref it) u) (λ_ s2=>∃x H',Inv X pins σ H' s2/\RelV x u/\J.Kk i H x H'/\tn (i+1) s2.heap/\∀b∈fp,H' b=none) E s1) E s
 done:∀(X:Cx),X.prog=P->X.w=w->X.K=K->X.calm=true->∀(i:Nat) (pins:List (~~~104)) (s:Shared) (σ:St) (H:Hp) (E:Value->Shared->Prop),Inv X pins σ H s->(∀b∈fp,wW X pins H b)->tn i s.heap->J.stop i H->
  wpAny (model P w) X.A (pyNext (.ref it)) (λr s1=>r=none/\Inv X pins σ H s1) E s
 self:∀(A:Around) (i:Nat) (s:Shared) (Q:Value->Shared->Prop) (E:Value->Shared->Prop),tn i s.heap->Q (.ref it) s->wpAny (model P w) A (pyIter (.ref it)) Q E s
abbrev TI:=St->Hp->(It->Hp->Prop)->Prop
def PIE (X:Cx) (pins:List (~~~104)) (σ:St) (tg:Expr) (R:It->Hp->Prop) (UL:Value) (s2:Shared):Prop:=
 ∃(it:Addr) (fp:List Addr) (tn:Nat->Heap->Prop) (J:It) (H':Hp),UL=.ref it/\Inv X pins σ H' s2/\Turn X.prog X.w X.K tg J fp it tn/\tn 0 s2.heap/\(∀b∈fp,wW X pins H' b)/\R J H'
def PI (X:Cx) (tg iter:Expr) (wi:TI):Prop:=
 ∀(pins:List (~~~104)) (s:Shared) (σ:St) (H:Hp) (R:It->Hp->Prop),Inv X pins σ H s->wi σ H R->
  wpAny (~~~65) X.A (eval iter X.env) (λv s1=>wpAny (~~~65) X.A (pyIter v) (PIE X pins σ tg R) X.xe s1) X.xe s
theorem RC {M:Model} {A:Around} {E:Value->Shared->Prop} {s:Shared} {tg:Expr} {it:Addr} {u:Value} {o:Obj} {n:String} {vs:Array Value} {Q:Unit->Shared->Prop} (ho:s.heap.get? it=some o) (hc:o.cls=.type n) (hd:o.data=.fields vs)
  (hn:["enumerate","zip","dict_itemiterator","dict_reverseitemiterator","odict_iterator","itertools.zip_longest","itertools.pairwise"].contains n=false) (hQ:Q () s):wpAny M A (letOwnedTupleGo tg (.ref it) u) Q E s:=by
 unfold letOwnedTupleGo;cases tg<;>first
  |exact wpAny_pure hQ
  |(cases u<;>first
    |exact wpAny_pure hQ
    |(refine wpAny_bind (wpAny_load ho ?_)
      rw[hc,hd];show wpAny M A (if(["enumerate","zip","dict_itemiterator","dict_reverseitemiterator","odict_iterator","itertools.zip_longest","itertools.pairwise"].contains n&&vs[0]?==some (rawInt _))=true then _ else _) Q E s;rw[if_neg (by intro h;rw[hn,eY] at h;cases h)];exact wpAny_pure hQ))
def El (K:af) (a:Addr):It:=
 ⟨λi H=>∃xs x,dz K H a xs/\xs[i]?=some x,λi H x H'=>H'=H/\∀xs,dz K H a xs->xs[i]?=some x,λi H=>∃xs,dz K H a xs/\xs.length<=i⟩
def Fl (K:af) (a:Addr):It:=
 ⟨λi H=>∃xs x,mK K H a xs/\xs[i]?=some x,λi H x H'=>H'=H/\∀xs,mK K H a xs->xs[i]?=some x,λi H=>∃xs,mK K H a xs/\xs.length<=i⟩
def XE (lo:Int) (n:Nat):It:=⟨λi _=>i<n,λi H x H'=>H'=H/\x=.int (lo+i),λi _=>n<=i⟩
theorem Fe {P:Program} {w:World} {K:af} {tg:Expr} (a it:Addr):Turn P w K tg (El K a) [it] it (λi h=>h.IsListIter it a i) where
 mem:=by simp
 obj:=λi h st b hb=>by
  exists 126
  subst e;obtain⟨o,e,c,d⟩:=st;exact⟨o,e,λv z=>by rw[d] at z;cases z⟩
 keep:=λi h h' st k=>st.at λo e=>k it (~~~88) o e
 item:=by
  exists 1;obtain⟨xs,x,hq,hx⟩:=hg;obtain⟨its,rv,p,hz⟩:=I.list hq;exists 86;exists 22;refine wpAny_pyNext_list_item st p.isList (x:=u) (~~~257) λh' UA sb=>?_;have I1:Inv X pins σ H {s with heap:=h'}:=I.turned (t':=s.toks) (~~~275) f0 f1 f3 f4 f5;obtain⟨o,e,c,d⟩:=id UA;exact⟨u,rfl,RC (s:={s with heap:=h'}) e c d (~~~73) ⟨x,H,I1,ru,⟨rfl,λys hy=>by rw[I.Jf hy hq];exact hx⟩,UA,λb hb=>(hf b hb).1⟩⟩
 done:=by
  exists 1;obtain⟨xs,hq,hx⟩:=hg;obtain⟨its,rv,p,hz⟩:=I.list hq;exists 22;have hl:=rv.length;exact wpAny_pyNext_list_end (~~~300) st p.isList (by simp;omega) λh' eb=>⟨rfl,I.turned (t':=s.toks) (λb o hb e=>eb b o hb e) f0 f1 f3 f4 f5⟩
 self:=λ_ _ _ _ _ st h=>wpAny_pyIter_listiter st h
theorem C7 {P:Program} {w:World} {K:af} {tg:Expr} (a it:Addr):Turn P w K tg (Fl K a) [it] it (λi h=>h.IsTupleIter it a i) where
 mem:=by simp
 obj:=λi h st b hb=>by
  exists 126
  subst e;obtain⟨o,e,c,d⟩:=st;exact⟨o,e,λv z=>by rw[d] at z;cases z⟩
 keep:=λi h h' st k=>st.at λo e=>k it (~~~88) o e
 item:=by
  exists 1;obtain⟨xs,x,hq,hx⟩:=hg;obtain⟨its,rv,p,hz⟩:=I.tuple hq;exists 86;exists 22;refine wpAny_pyNext_tuple_item st (show s.heap.IsTuple a its.toArray from p) (x:=u) (~~~257) λh' UA sb=>?_;have I1:Inv X pins σ H {s with heap:=h'}:=I.turned (t':=s.toks) (~~~275) f0 f1 f3 f4 f5;obtain⟨o,e,c,d⟩:=id UA;exact⟨u,rfl,RC (s:={s with heap:=h'}) e c d (~~~73) ⟨x,H,I1,ru,⟨rfl,λys hy=>by rw[I.Fd hy hq];exact hx⟩,UA,λb hb=>(hf b hb).1⟩⟩
 done:=by
  exists 1;obtain⟨xs,hq,hx⟩:=hg;obtain⟨its,rv,p,hz⟩:=I.tuple hq;exists 22;have hl:=rv.length;exact wpAny_pyNext_tuple_end (~~~300) st (show s.heap.IsTuple a its.toArray from p) (by simp;omega) λh' eb=>⟨rfl,I.turned (t':=s.toks) (λb o hb e=>eb b o hb e) f0 f1 f3 f4 f5⟩
 self:=λ_ _ _ _ _ st h=>wpAny_pyIter_tupleiter st h
theorem MF {P:Program} {w:World} {K:af} {tg:Expr} (it:Addr) (lo:Int) (n:Nat):Turn P w K tg (XE lo n) [it] it (λi h=>IsRangeIter h it (lo+(i:Nat)*1) ((n:Int)- (i:Nat)) 1) where
 mem:=by simp
 obj:=λi h st b hb=>by
  exists 126
  subst e;exact⟨_,st,λv z=>by
   have z':Data.fields _=Data.cell v:=z;cases z'⟩
 keep:=λi h h' st k=>k it (~~~88) _ st
 item:=by
  exists 1;exists 22;have W:=Walks.range (prog:=X.prog) (w:=X.w) (~~~300) it lo 1 n;refine W.item i s _ _ hg st λv h' tk hv UA kk=>?_;obtain⟨t,rfl⟩:=hv;have I1:Inv X pins σ H {s with heap:=h',toks:=tk}:=I.turned (λb o hb e=>kk b o (by simpa using hb) e) f0 f1 f3 f4 f5;refine⟨_,rfl,RC (s:={s with heap:=h',toks:=tk}) (n:="range_iterator") UA rfl rfl (~~~73) ⟨.int (lo+i),H,I1,⟨t,?_⟩,⟨rfl,rfl⟩,UA,λb hb=>(hf b hb).1⟩⟩;rw[Int.mul_one]
 done:=by
  exists 1;exists 22;exact wpAny_pyNext_range_end (~~~300) st (by have:n<=i:=hg;omega) λh' eb=>⟨rfl,I.turned (t':=s.toks) (λb o hb e=>eb b o hb e) f0 f1 f3 f4 f5⟩
 self:=λ_ _ _ _ _ st h=>wpAny_pyIter_rangeiter st h
end L2
namespace L2
open PySem PySem.Spec PyProof.Rows
section
variable {X:Cx} {tg:Expr}
def RW (K:af) (tl:TE):TI:=fun σ H R=>tl σ H λx H1=>∃a,x=.ref a/\(∃xs,dz K H1 a xs)/\R (El K a) H1
def Yx (K:af) (tl:TE):TI:=fun σ H R=>tl σ H λx H1=>∃a,x=.ref a/\(∃xs,mK K H1 a xs)/\R (Fl K a) H1
theorem VL {l:Expr} {tl:TE} (hl:PE X l tl):PI X tg l (RW X.K tl):=by
 exists 53;refine jx (hl pins s σ H _ I h) λv s1 ⟨x,H1,I1,r1,q1⟩=>?_;obtain⟨a,e,⟨xs,hq⟩,q⟩:=q1;subst e;cases r1;obtain⟨its,rv,p,hz⟩:=I1.list hq;refine wpAny_pyIter_list p.isList ?_;refine⟨s1.heap.objs.size,[s1.heap.objs.size],_,_,H1,rfl,I1.kept (t':=s1.toks) λb o e=>aq _ e,Fe a _,⟨_,aY _ rfl,rfl,rfl⟩,λb hb=>?_,q⟩;exists 57
 exists 58
theorem Ze {l:Expr} {tl:TE} (hl:PE X l tl):PI X tg l (Yx X.K tl):=by
 exists 53;refine jx (hl pins s σ H _ I h) λv s1 ⟨x,H1,I1,r1,q1⟩=>?_;obtain⟨a,e,⟨xs,hq⟩,q⟩:=q1;subst e;cases r1;obtain⟨its,rv,p,hz⟩:=I1.tuple hq;refine wpAny_pyIter_tuple (show s1.heap.IsTuple a its.toArray from p) ?_;refine⟨s1.heap.objs.size,[s1.heap.objs.size],_,_,H1,rfl,I1.kept (t':=s1.toks) λb o e=>aq _ e,C7 a _,⟨_,aY _ rfl,rfl,rfl⟩,λb hb=>?_,q⟩;exists 57
 exists 58
theorem JP {pins:List (~~~104)} {σ:St} {H:Hp} {s:Shared} {R:It->Hp->Prop} {E:Value->Shared->Prop} {lo hi:Int} {t u v:Tok} {tk:Nat} (I:Inv X pins σ H s) (h1: -(2^62)<=lo) (h2:lo<2^62) (h3: -(2^62)<=hi) (h4:hi<2^62)
  (q:R (XE lo (hi-lo).toNat) H):wpAny (~~~65) X.A (pyIter (~~~109)) (PIE X pins σ tg R) E {s with heap:=s.heap.push {cls:=.type "range",data:=.fields #[.int lo t,.int hi u,.int 1 v]},toks:=tk}:=by
 refine wpAny_pyIter_range (IsRange.new ..) (small_one h1 h2 h3 h4) ?_;have I1:Inv X pins σ H {s with heap:=s.heap.push {cls:=.type "range",data:=.fields #[.int lo t,.int hi u,.int 1 v]},toks:=tk}:=I.kept λb o e=>aq _ e;refine⟨(~~~124).objs.size,[(~~~124).objs.size],_,_,H,rfl,
  I1.kept (t':=tk) λb o e=>aq _ e,MF _ lo (hi-lo).toNat,?_,λb hb=>?_,q⟩
 .have e1:lo+((0:Nat):Int)*1=lo:=by simp
  have e2:(((hi-lo).toNat :Nat):Int)- ((0:Nat):Int)=Builtin.Range.rangeSize lo hi 1:=by rw[rangeSize_one];split<;>omega
  show IsRangeIter _ _ (lo+((0:Nat):Int)*1) ((((hi-lo).toNat :Nat):Int)- ((0:Nat):Int)) 1;rw[e1,e2];exact aY _ rfl
 .have e:b=(~~~124).objs.size :=by simpa using hb
  exists 58
def W2 (ta:TA):TI:=fun σ H R=>ta σ H λvs H1=>∃j:Int,vs=[.int j]/\ -(2^62)<=j/\j<2^62/\R (XE 0 j.toNat) H1
def W3 (ta:TA):TI:=fun σ H R=>ta σ H λvs H1=>∃i j:Int,vs=[.int i,.int j]/\(-(2^62)<=i/\i<2^62/\ -(2^62)<=j/\j<2^62)/\R (XE i (j-i).toNat) H1
theorem yR {a:Expr} {ta:TA} {p pos:Pos} (hg:Gl X "range") (hm:X.mg "range"=none) (ha:PA X [a] ta) (hs:starEach [a] X.env=[(false,eval a X.env)]:=by rfl):PI X tg (.Call (.Name "range" p) [a] [] pos) (W2 ta):=by
 exists 53;refine Call_ (nU I hg hm boot_range (cW (~~~76) hs rfl));obtain⟨j,e,q1,q2,q⟩:=q1;subst e;cases r1 with
 |cons r rr=>
  cases rr;exists 81;exact call_range_1 (JP I1 (~~~62) (~~~62) q1 q2 (by simpa using q))
theorem PC {a b:Expr} {ta:TA} {p pos:Pos} (hg:Gl X "range") (hm:X.mg "range"=none) (ha:PA X [a,b] ta) (hs:starEach [a,b] X.env=[(false,eval a X.env),(false,eval b X.env)]:=by rfl) (RN:starEach [b] X.env=[(false,eval b X.env)]:=by rfl):
  PI X tg (.Call (.Name "range" p) [a,b] [] pos) (W3 ta):=by
 exists 53;refine Call_ (nU I hg hm boot_range (cW (~~~76) (by rw[hs,RN]) (by rw[RN];rfl)));obtain⟨i,j,e,⟨q1,q2,q3,q4⟩,q⟩:=q1;subst e;cases r1 with
 |cons r rr=>
  cases rr with
  |cons r' rr=>
   cases rr;exists 81;obtain⟨t',rfl⟩:=r';exact call_range_2 (JP I1 q1 q2 q3 q4 q)
def acp (wi:TI) (g:TG) (tb:TS):TS:=λD σ H=>wi σ H λJ H1=>∃W:Nat->Nat->St->Hp->Prop,(∃m,W 0 m σ H1)/\∀i m σ H,W i m σ H->
 (J.stop i H/\D.nx σ H)\/(J.go i H/\∃N:St->Hp->Prop,(∀σ' H',N σ' H'->∃m',m'<m/\W (i+1) m' σ' H')/\∀x H',J.Kk i H x H'->g x σ H' fun σ2 H2=>tb {D with nx:=N,ct:=N,bk:=D.nx} σ2 H2)
def Cz (fp:List Addr) (h:Heap):List (~~~104):=fp.filterMap λb=>(h.get? b).map λo=>(b,o)
theorem vQ {fp:List Addr} {h:Heap} {b:Addr} {o:Obj} (hb:b∈fp) (e:h.get? b=some o):(b,o)∈Cz fp h:=vB.mpr ⟨b,hb,by rw[e];rfl⟩
theorem Pl {fp:List Addr} {h:Heap} {p:Addr×Obj} (hp:p∈Cz fp h):p.1∈fp/\h.get? p.1=some p.2:=by
 obtain⟨b,hb,e⟩:=vB.mp hp;cases q:h.get? b with
 |none=>rw[q] at e;cases e
 |some o=>
  rw[q] at e;have e':(b,o)=p:=bG.inj e;subst e';exact⟨hb,q⟩
theorem Inv.pinned {pins:List (~~~104)} {σ:St} {H:Hp} {s:Shared} {fp:List Addr} (I:Inv X pins σ H s) (hf:∀b∈fp,wW X pins H b) (ho:∀b∈fp,∃o,s.heap.get? b=some o/\∀v,o.data≠ .cell v):Inv X (pins++Cz fp s.heap) σ H s:=
 I.NH λp hp=>(aE.mp hp).elim (λz=>I.pin p (cf _ z)) λz=>by
  obtain⟨hb,e⟩:=Pl z;obtain⟨f0,f1,f2,_⟩:=hf p.1 hb;obtain⟨o,e',d⟩:=ho p.1 hb;rw[e] at e';cases e';exact⟨e,f0,f1,f2,d⟩
theorem Inv.xV {pins pl:List (~~~104)} {σ:St} {H:Hp} {s:Shared} (I:Inv X (pins++pl) σ H s):Inv X pins σ H s:=I.NH λp hp=>I.pin p (cf _ (cP _ hp))
theorem jv {iter:Expr} {body:List Stmt} {wi:TI} {g:TG} {tb:TS} {pos:Pos} (hp:PassesOwn (~~~65) X.A X.env X.xe) (hc:X.calm=true) (hi:PI X tg iter wi) (hg:PG X tg g) (hb:K' X body tb)
  (hs:∀x,foldedSetIterable iter X.env x=pure x:=by intro _;rfl):PS X (.For tg iter body [] pos) (acp wi g tb):=by
 exists 40;refine wpAny_For (jx (hi pins s σ H _ I h) λv s1 h1=>jx h1 λUL s2 h2=>?_) hs;obtain⟨it,fp,tn,J,H2,e,I2,T,Oc,f2,W,⟨m0,w0⟩,turn⟩:=h2;subst e;have Mu:∀{H':Hp},(∀b∈fp,H' b=none)->∀b∈fp,wW X pins H' b:=λhn b hb=>⟨hn b hb,(f2 b hb).2⟩;refine codeAny_forLoop_any (λn s'=>∃i σ' H',Inv X pins σ' H' s'/\tn i s'.heap/\(∀b∈fp,H' b=none)/\W i n σ' H') ?_ m0 ⟨0,σ,H2,I2,Oc,λb hb=>(f2 b hb).1,w0⟩;rintro n s3 ⟨i,σ3,H3,I3,Od,fr3,w3⟩;rcases turn i n σ3 H3 w3 with⟨stop,qn⟩|⟨go,N,hN,step⟩
 .refine wpAny_passesOwn hp (jx (T.done X rfl rfl rfl hc i pins s3 σ3 H3 X.xe I3 (Mu fr3) Od stop) λr s4 ⟨hr,I4⟩=>?_);subst hr;exact wpAny_execs_nil ⟨σ3,H3,I4,qn⟩
 .refine wpAny_passesOwn hp (jx (T.item X rfl rfl rfl hc i pins s3 σ3 H3 X.xe I3 (Mu fr3) Od go) λr s4 ⟨u,hr,h4⟩=>?_);subst hr;refine wpAny_passesOwn hp (jx h4 λ_ s5 ⟨x,H5,I5,r5,y5,Df,fr5⟩=>?_);have I5':=I5.pinned (Mu fr5) (T.obj _ _ Df);refine wpAny_passesOwn hp (jx (hg _ s5 σ3 H5 x u _ I5' r5 (step x H5 y5)) λ_ s6 ⟨σ6,H6,I6,q6⟩=>?_);refine wpAny_passesOwn hp (jx (hb _ s6 σ6 H6 _ I6 q6) λf s7 q7=>?_);have again:∀{σ7:St} {H7:Hp},Inv X (pins++Cz fp s5.heap) σ7 H7 s7->N σ7 H7->∃m,m<n/\∃i σ' H',Inv X pins σ' H' s7/\tn i s7.heap/\(∀b∈fp,H' b=none)/\W i m σ' H':=λ{σ7 H7} I7 n7=>by
   obtain⟨m',hm,w7⟩:=hN σ7 H7 n7;refine⟨m',hm,i+1,σ7,H7,I7.xV,T.keep _ _ _ Df λb hb o e=>(I7.pin (b,o) (cf _ (cf _ (vQ hb e)))).1,λb hb=>?_,w7⟩;obtain⟨o,e,d⟩:=T.obj _ _ Df b hb;exact(I7.pin (b,o) (cf _ (cf _ (vQ hb e)))).2.1
  cases f with
  |next=>obtain⟨σ7,H7,I7,n7⟩:=q7;exact again I7 n7
  |cont=>obtain⟨σ7,H7,I7,n7⟩:=q7;exact again I7 n7
  |brk=>obtain⟨σ7,H7,I7,q7⟩:=q7;exact⟨σ7,H7,I7.xV,q7⟩
  |ret v=>obtain⟨x7,σ7,H7,I7,r7,q7⟩:=q7;exact⟨x7,σ7,H7,I7.xV,r7,q7⟩
end
end L2
namespace L2
open PySem PySem.Spec PyProof.Rows
abbrev R2:=V->V->Hp->VK->Prop
def AG (X:Cx) (f:Value->Value->Sem Value) (r:R2):Prop:=
 ∀(pins:List (~~~104)) (s:Shared) (σ:St) (H:Hp) (x y:V) (v u:Value) (Q:VK),Inv X pins σ H s->RelV x v->RelV y u->r x y H Q->
  wpAny (~~~65) X.A (f v u) (~~~178) X.xe s
def Ot (X:Cx) (f:Value->Sem Value) (r:V->Hp->VK->Prop):Prop:=
 ∀(pins:List (~~~104)) (s:Shared) (σ:St) (H:Hp) (x:V) (v:Value) (Q:VK),Inv X pins σ H s->RelV x v->r x H Q->
  wpAny (~~~65) X.A (f v) (~~~178) X.xe s
def pS (X:Cx) (f:Value) (r:List V->Hp->VK->Prop):Prop:=
 ∀(pins:List (~~~104)) (s:Shared) (σ:St) (H:Hp) (xs:List V) (us:List Value) (Q:VK),Inv X pins σ H s->Vals xs us->r xs H Q->
  wpAny (~~~65) X.A (call f us) (~~~178) X.xe s
def ZL (r:R2) (ta tb:TE):TE:=fun σ H Q=>ta σ H λx H1=>tb σ H1 λy H2=>r x y H2 Q
def tUn (r:V->Hp->VK->Prop) (ta:TE):TE:=fun σ H Q=>ta σ H λx H1=>r x H1 Q
def rI (C:Int->Int->Prop) (g:Int->Int->V):R2:=λx y H Q=>∃i j,x=.int i/\y=.int j/\C i j/\Q (g i j) H
def Uz (g:Int->Int->V):R2:=λx y H Q=>∃i j,x=.int i/\y=.int j/\Q (g i j) H
def rU (g:Int->V):V->Hp->VK->Prop:=λx H Q=>∃i,x=.int i/\Q (g i) H
section
variable {X:Cx} {a b c:Expr} {ta tb tc:TE} {pos:Pos}
theorem XO (ha:PE X a ta) (hb:PE X b tb) {pins:List (~~~104)} {s:Shared} {σ:St} {H:Hp} {R:V->V->Hp->Prop} (I:Inv X pins σ H s)
  (h:ta σ H λx H1=>tb σ H1 λy H2=>R x y H2) {Q:Value->Shared->Prop} {f:Value->Value->Sem Value}
  (hf:∀v u s2 x y H2,Inv X pins σ H2 s2->RelV x v->RelV y u->R x y H2->wpAny (~~~65) X.A (f v u) Q X.xe s2):
  wpAny (~~~65) X.A (eval a X.env) (λv fG=>wpAny (~~~65) X.A (eval b X.env) (λu pG=>wpAny (~~~65) X.A (f v u) Q X.xe pG) X.xe fG) X.xe s:=by
 refine jx (~~~148) λv s1 ⟨x,H1,I1,r1,q1⟩=>?_;refine jx (hb pins s1 σ H1 _ I1 q1) λu s2 ⟨y,H2,I2,r2,q2⟩=>?_;exact hf v u s2 x y H2 I2 r1 r2 q2
theorem b_ {op:Operator} {r:R2} (ho:AG X (binaryOp op) r) (ha:PE X a ta) (hb:PE X b tb):PE X (.BinOp a op b pos) (ZL r ta tb):=by
 exists 10;exact wpAny_BinOp (XO ha hb I h λv u s2 x y H2 I2 rx ry q=>ho pins s2 σ H2 x y v u Q I2 rx ry q)
theorem Cy {op:UnaryOp} {r:V->Hp->VK->Prop} (ho:Ot X (unaryOp op) r) (ha:PE X a ta):PE X (.UnaryOp op a pos) (tUn r ta):=by
 exists 10;exact UnaryOp_ (jx (~~~148) λv s1 ⟨x,H1,I1,r1,q1⟩=>ho pins s1 σ H1 x v Q I1 r1 q1)
theorem opI {f:Value->Value->Sem Value} {C:Int->Int->Prop} {g:Int->Int->Int}
  (rule:∀(i j:Int) (t u:Tok) (s:Shared) (Q:Value->Shared->Prop) (E:Value->Shared->Prop),C i j->Q (.int (g i j) s.toks) {s with toks:=s.toks+1}->wpAny (~~~65) X.A (f (.int i t) (.int j u)) Q E s):
  AG X f (rI C λi j=>.int (g i j)):=by
 exists 11;obtain⟨i,j,rfl,rfl,hc,q⟩:=h;exists 113;exact rule i j t t' s _ _ hc ⟨.int (g i j),H,I.tok _,⟨_,rfl⟩,q⟩
theorem abS {f:Value->Value->Sem Value} {g:Int->Int->Int}
  (rule:∀(i j:Int) (t u:Tok) (s:Shared) (Q:Value->Shared->Prop) (E:Value->Shared->Prop),Q (.int (g i j) s.toks) {s with toks:=s.toks+1}->wpAny (~~~65) X.A (f (.int i t) (.int j u)) Q E s):
  AG X f (Uz λi j=>.int (g i j)):=by
 exists 11;obtain⟨i,j,rfl,rfl,q⟩:=h;exists 113;exact rule i j t t' s _ _ ⟨.int (g i j),H,I.tok _,⟨_,rfl⟩,q⟩
theorem YX {f:Value->Value->Sem Value} {g:Int->Int->Bool}
  (rule:∀(i j:Int) (t u:Tok) (s:Shared) (Q:Value->Shared->Prop) (E:Value->Shared->Prop),Q (.bool (g i j)) s->wpAny (~~~65) X.A (f (.int i t) (.int j u)) Q E s):
  AG X f (Uz λi j=>.bl (g i j)):=by
 exists 11;obtain⟨i,j,rfl,rfl,q⟩:=h;exists 113;exact rule i j t t' s _ _ ⟨.bl (g i j),H,I,rfl,q⟩
theorem j6:AG X (binaryOp .Add) (Uz λi j=>.int (i+j)):=abS λ_ _ _ _ _ _ _ q=>add_int q
theorem r9:AG X (binaryOp .Sub) (Uz λi j=>.int (i-j)):=abS λ_ _ _ _ _ _ _ q=>sub_int q
theorem VD:AG X (binaryOp .Mod) (rI (λ_ j=>j≠0) λi j=>.int (i.fmod j)):=opI λ_ _ _ _ _ _ _ hc q=>mod_int' hc q
theorem unI {f:Value->Sem Value} {g:Int->Int}
  (rule:∀(i:Int) (t:Tok) (s:Shared) (Q:Value->Shared->Prop) (E:Value->Shared->Prop),Q (.int (g i) s.toks) {s with toks:=s.toks+1}->wpAny (~~~65) X.A (f (.int i t)) Q E s):
  Ot X f (rU λi=>.int (g i)):=by
 intro pins s σ H x v Q I rx h;obtain⟨i,rfl,q⟩:=h;exists 48;exact rule i t s _ _ ⟨.int (g i),H,I.tok _,⟨_,rfl⟩,q⟩
theorem wA:Ot X (unaryOp .USub) (rU λi=>.int (-i)):=unI λ_ _ _ _ _ q=>neg_int q
end
def acb:V->V->Bool
 | .jL,.jL =>true| .jL,.int _=>true| .int _,.jL =>true| .jL,.bl _=>true| .bl _,.jL =>true| .jL,.str _=>true| .str _,.jL =>true
 | .int _,.int _=>true| .bl _,.bl _=>true| .str _,.str _=>true| .Kx _,.Kx _=>true
 | .int _,.str _=>true| .str _,.int _=>true| .bl _,.str _=>true| .str _,.bl _=>true
 |_,_=>false
def rEq:R2:=λx y H Q=>acb x y=true/\Q (.bl (decide (x=y))) H
def rNe:R2:=λx y H Q=>acb x y=true/\Q (.bl (!decide (x=y))) H
theorem Nd {i j:Int}:decide (V.int i=V.int j)=(i==j):=by
 rw[kM];simp
theorem Rh {i j:Bool}:decide (V.bl i=V.bl j)=(i==j):=by
 rw[kM];simp
theorem Nf {i j:Str}:decide (V.str i=V.str j)=(i==j):=by
 rw[kM];simp
theorem Nc {i j:Array UInt8}:decide (V.Kx i=V.Kx j)=(i.toList==j.toList):=by
 rw[kM];cases i;cases j;simp
section
variable {X:Cx} {a b c:Expr} {ta tb tc:TE} {pos:Pos}
theorem eZ {pins:List (~~~104)} {σ:St} {H:Hp} {s:Shared} {Q:VK} {k k':Bool} (I:Inv X pins σ H s) (q:Q (.bl k) H) (e:k=k'):EP X pins σ Q (.bool k') s:=by
 subst e;exact⟨.bl k,H,I,rfl,q⟩
theorem uq:AG X (compareOp .Eq) rEq:=by
 exists 11;obtain⟨hs,q⟩:=h;cases x with
 |jL=>
  cases rx;cases y with
  |jL=>cases ry;exact PySem.EqNone.eq_none_none (~~~114)
  |bl j=>cases ry;exact PySem.EqNone.eq_none_bool (~~~114)
  |int j=>obtain⟨t',rfl⟩:=ry;exact PySem.EqNone.eq_none_int (~~~114)
  |str j=>obtain⟨t',rfl⟩:=ry;exact PySem.EqNone.eq_none_str (~~~114)
  |_=>exact absurd (~~~105) bS
 |bl i=>
  cases rx;cases y with
  |jL=>cases ry;exact PySem.EqNone.eq_bool_none (~~~114)
  |bl j=>cases ry;exact eq_bool (eZ I q Rh)
  |str j=>obtain⟨t',rfl⟩:=ry;exact PySem.EqMixed.eq_bool_str (~~~114)
  |_=>exact absurd (~~~105) bS
 |int i=>
  exists 48;cases y with
  |jL=>cases ry;exact PySem.EqNone.eq_int_none (~~~114)
  |int j=>obtain⟨t',rfl⟩:=ry;exact eq_int (eZ I q Nd)
  |str j=>obtain⟨t',rfl⟩:=ry;exact PySem.EqMixed.eq_int_str (~~~114)
  |_=>exact absurd (~~~105) bS
 |str i=>
  exists 48;cases y with
  |jL=>cases ry;exact PySem.EqNone.eq_str_none (~~~114)
  |bl j=>cases ry;exact PySem.EqMixed.eq_str_bool (~~~114)
  |int j=>obtain⟨t',rfl⟩:=ry;exact PySem.EqMixed.eq_str_int (~~~114)
  |str j=>obtain⟨t',rfl⟩:=ry;exact eq_str (eZ I q Nf)
  |_=>exact absurd (~~~105) bS
 |Kx i=>
  exists 48;cases y with
  |Kx j=>obtain⟨t',rfl⟩:=ry;exact PySem.W.eq_bytes (eZ I q Nc)
  |_=>exact absurd (~~~105) bS
 |_=>cases y<;>exact absurd (~~~105) bS
theorem Sz:AG X (compareOp .NotEq) rNe:=by
 exists 11;obtain⟨hs,q⟩:=h;cases x with
 |jL=>
  cases rx;cases y with
  |jL=>cases ry;exact PySem.EqNone.ne_none_none (~~~114)
  |bl j=>cases ry;exact PySem.EqNone.ne_none_bool (~~~114)
  |int j=>obtain⟨t',rfl⟩:=ry;exact PySem.EqNone.ne_none_int (~~~114)
  |str j=>obtain⟨t',rfl⟩:=ry;exact PySem.EqNone.ne_none_str (~~~114)
  |_=>exact absurd (~~~105) bS
 |bl i=>
  cases rx;cases y with
  |jL=>cases ry;exact PySem.EqNone.ne_bool_none (~~~114)
  |bl j=>cases ry;exact ne_bool (eZ I q (congrArg not Rh))
  |str j=>obtain⟨t',rfl⟩:=ry;exact PySem.EqMixed.ne_bool_str (~~~114)
  |_=>exact absurd (~~~105) bS
 |int i=>
  exists 48;cases y with
  |jL=>cases ry;exact PySem.EqNone.ne_int_none (~~~114)
  |int j=>obtain⟨t',rfl⟩:=ry;exact ne_int (eZ I q (congrArg not Nd))
  |str j=>obtain⟨t',rfl⟩:=ry;exact PySem.EqMixed.ne_int_str (~~~114)
  |_=>exact absurd (~~~105) bS
 |str i=>
  exists 48;cases y with
  |jL=>cases ry;exact PySem.EqNone.ne_str_none (~~~114)
  |bl j=>cases ry;exact PySem.EqMixed.ne_str_bool (~~~114)
  |int j=>obtain⟨t',rfl⟩:=ry;exact PySem.EqMixed.ne_str_int (~~~114)
  |str j=>obtain⟨t',rfl⟩:=ry;exact ne_str (eZ I q (congrArg not Nf))
  |_=>exact absurd (~~~105) bS
 |Kx i=>
  exists 48;cases y with
  |Kx j=>obtain⟨t',rfl⟩:=ry;exact PySem.W.ne_bytes (eZ I q (congrArg not Nc))
  |_=>exact absurd (~~~105) bS
 |_=>cases y<;>exact absurd (~~~105) bS
theorem Cp:AG X (compareOp .Lt) (Uz λi j=>.bl (decide (i<j))):=YX λ_ _ _ _ _ _ _ q=>lt_int q
theorem ND:AG X (compareOp .LtE) (Uz λi j=>.bl (decide (i<=j))):=YX λ_ _ _ _ _ _ _ q=>le_int q
theorem Jy:AG X (compareOp .Gt) (Uz λi j=>.bl (decide (j<i))):=YX λ_ _ _ _ _ _ _ q=>gt_int q
theorem v3:AG X (compareOp .Is) (λx y H Q=>y=.jL /\Q (.bl (decide (x=.jL))) H):=by
 exists 11;obtain⟨rfl,q⟩:=h;cases ry;refine is_none_gen (eZ I q ?_);cases x<;>first
  |(cases rx;rfl)
  |(obtain⟨t,rfl⟩:=rx;rfl)
theorem VE:AG X (compareOp .IsNot) (λx y H Q=>y=.jL /\Q (.bl (!decide (x=.jL))) H):=by
 exists 11;obtain⟨rfl,q⟩:=h;cases ry;refine isnot_none_gen (eZ I q ?_);cases x<;>first
  |(cases rx;rfl)
  |(obtain⟨t,rfl⟩:=rx;rfl)
theorem dX (b:Expr) {op:CmpOp} (h:op≠ .In :=by decide) (h2:op≠ .NotIn :=by decide):behindInMarks op b=false:=by
 have e1:(op==CmpOp.In)=false:=by cases op<;>first|rfl|exact absurd rfl h
 have e2:(op==CmpOp.NotIn)=false:=by cases op<;>first|rfl|exact absurd rfl h2
 cases b<;>simp[behindInMarks,e1,e2]
theorem ko {op:CmpOp} {r:R2} (ho:AG X (compareOp op) r) (ha:PE X a ta) (hb:PE X b tb) (hm:behindInMarks op b=false):PE X (.Compare a [op] [b] pos) (ZL r ta tb):=by
 exists 10;exact wpAny_Compare1 (XO ha hb I h λv u s2 x y H2 I2 rx ry q=>ho pins s2 σ H2 x y v u Q I2 rx ry q) hm
def Xr (t:TE):TT:=fun σ H Q=>t σ H λx H'=>∃k,x=.bl k/\Q k H'
theorem eC {op:CmpOp} {r:R2} (ho:AG X (compareOp op) r) (ha:PE X a ta) (hb:PE X b tb) (hm:behindInMarks op b=false):PT X (.Compare a [op] [b] pos) (Xr (ZL r ta tb)):=by
 intro pins s σ H Q I h;refine wpAny_isTrue_Compare1 (jx (~~~148) λv s1 ⟨x,H1,I1,r1,q1⟩=>jx (hb pins s1 σ H1 _ I1 q1) λu s2 ⟨y,H2,I2,r2,q2⟩=>
  jx (ho pins s2 σ H2 x y v u _ I2 r1 r2 q2) λc s3 ⟨z,H3,I3,r3,k,e,q3⟩=>?_) hm
 subst e;cases r3;exact wpAny_truthy_bool ⟨H3,I3,q3⟩
theorem Gf:(sizeLine:Nat)<2^63:=by rw[sizeLine_eq];decide
theorem vals1 {x:V} {us:List Value} (r:Vals [x] us):∃u,us=[u]/\RelV x u:=by
 cases r with
 |cons r1 r2=>cases r2;exact⟨_,rfl,r1⟩
theorem vals2 {x y:V} {us:List Value} (r:Vals [x,y] us):∃u w',us=[u,w']/\RelV x u/\RelV y w':=by
 cases r with
 |cons r1 r2=>
  cases r2 with
  |cons r3 r4=>cases r4;exact⟨_,_,rfl,r1,r3⟩
theorem Q_:pS X (.builtin "abs") (λxs H Q=>∃i,xs=[.int i]/\Q (.int (if i<0 then-i else i)) H):=by
 exists 119;obtain⟨i,rfl,q⟩:=h;obtain⟨u,rfl,t,rfl⟩:=vals1 r;exact call_abs_int λu tk=>⟨.int (if i<0 then-i else i),H,I.tok _,⟨_,rfl⟩,q⟩
theorem OF (hc:X.calm=true):pS X (.builtin "min") (λxs H Q=>∃i j,xs=[.int i,.int j]/\Q (.int (if j<i then j else i)) H):=by
 exists 119;obtain⟨i,j,rfl,q⟩:=h;obtain⟨u,w',rfl,⟨t,rfl⟩,⟨t',rfl⟩⟩:=vals2 r;refine min_two_ints (~~~300) λh' tk k=>⟨_,H,I.kept k,?_,q⟩;by_cases hj:j<i
 .rw[if_pos hj,if_pos hj];exact⟨_,rfl⟩
 .rw[if_neg hj,if_neg hj];exact⟨_,rfl⟩
end
end L2
namespace L2
open PySem PySem.Spec PyProof.Rows
structure Ov (h:Heap) (x dx C:Addr) (mA:Str->Option Value):Prop where
 obj:h.get? x=some (gK C dx)
 ns:h.Ns1 dx mA
 ne:dx≠x
theorem O8 {h:Heap} {dx:Addr} {mA:Str->Option Value} (n:h.Ns1 dx mA):∃od,h.get? dx=some od/\∀name,tP name od=some (mA name):=by
 obtain⟨o,es,ep,ho,hd,hk,_,hm⟩:=n;refine⟨o,ho,λname=>?_⟩;have e:=hm name;unfold nsFind findBy at e;rw[<-Array.find?_toList] at e;unfold tP;rw[hd]
 dsimp only
 split
 .rename_i y q;rw[q] at e;exact congrArg some e
 .rename_i q;rw[q] at e;have a:es.toList.any (·.refKey)=false:=by
   rw[List.any_eq_false];intro y hy;obtain⟨z,t,aeo⟩:=hk y (Array.mem_toList_iff.mp hy);simp[DictEntry.refKey,aeo]
  have a':¬es.toList.any (·.refKey)=true:=by rw[a];exact bS
  rw[if_neg a'];exact congrArg some e
theorem Ov.look {h:Heap} {x dx C:Addr} {mA:Str->Option Value} (I:Ov h x dx C mA):∃od,PySem.W.InstAt h x (gK C dx) C (some od)/\∀name,tP name od=some (mA name):=
 let⟨od,ho,hl⟩:=O8 I.ns
 ⟨od,⟨I.obj,rfl,rfl,ho⟩,hl⟩
section
variable {prog:Program} {w:World} {A:Around} {E:Value->Shared->Prop} {s:Shared} {K:af} {x dx C f:Addr} {mA:Str->Option Value} {name:Str} {v:Value}
theorem get_map {expr:Bool} {Q:Value->Shared->Prop} (X:K.In s.heap) (I:Ov s.heap x dx C mA) (hg:qE K C name=true) (hh:pO K C=true)
  (ha:gB K (.ref C) name=some none) (hv:mA name=some v) (MO:ye v=true) (h:Q v {s with toks:=s.toks+1}):
  wpAny (~~~70) A (getAttr (.ref x) name expr) Q E s:=by
 obtain⟨od,J,hl⟩:=I.look;exact PySem.W.get_value X J (PySem.W.plainGet_of hg).1 (PySem.W.findObj_own hh ha rfl (by rw[hl,hv])) MO h
theorem VZ {ns:List Str} {Q:Unit->Shared->Prop} (X:K.In s.heap) (I:Ov s.heap x dx C mA)
  (hs:gB K (.ref C) "__setattr__"=some (some (.builtin "object.__setattr__"))) (hp:wU K C=true) (ht:sL K C name=some none) (hh:pO K C=true)
  (hw:rG mA ns) (hsz:ns.length<=sizeLine)
  (h:∀h',Ov h' x dx C (λy=>if y=name then some v else mA y)->fe dx s.heap h'->Q () {s with heap:=h',toks:=s.toks+2}):
  wpAny (~~~70) A (setAttr (.ref x) name v) Q E s:=by
 obtain⟨od,J,hl⟩:=I.look;refine PySem.W.set_plain X J hs (PySem.W.osa_open (s:={s with toks:=s.toks+1}) (r:=none) X J hp ht λb=>?_);obtain⟨cd,hc,QU⟩:=PySem.W.any_some hh;have hx:s.heap.get? x=some ⟨.ref C,some dx,.plain,#[]⟩:=I.obj;refine wpAny_bind (wpAny_pure (wpAny_bind (wpAny_bind (wpAny_loadPart hx (wpAny_bind (PySem.W.Looks.here (s:={s with toks:=s.toks+1}) (PySem.W.looks_clsIn X hc) ?_))))));rw[QU];refine wpAny_pure (a:=some dx) (wpAny_bind (wpAny_pure (wpAny_bind ?_)));refine wpAny_nsSet1 (s:={s with toks:=s.toks+1}) I.ns λh' K0 RN=>?_;obtain⟨oD,esD,epD,hoD,hdD,hcD⟩:=K0.count (rG.cons name v hw);refine wpAny_bind (wpAny_lookBehind hoD (by rw[hdD];exact pastItsLine_dict (bA hcD (by rw[aL];omega))) ?_);exact wpAny_pure (h _ ⟨(RN.2 _ (Ne.symm I.ne)).trans I.obj,K0,I.ne⟩ RN)
theorem Se {R:Result->Shared->Prop} {vs:List Value} {kw:List (~~~298)} (X:K.In s.heap) (hm:sJ K C=true)
  (hi:gB K (.ref C) "__init__"=some (some (.ref f))) (hf:PySem.W.typeIn K (.ref f)=some (.type "function"))
  (h:codeAny (~~~70) (A.under (.builtin "type.__call__" ⟨.ref C::vs,kw⟩)) (.call (.ref f) ⟨.ref (~~~72)::vs,kw⟩) (PySem.W.InitBack (~~~72) R)
   {s with heap:=(~~~315).push (~~~293)}):
  codeAny (~~~70) A (.call (.ref C) ⟨vs,kw⟩) R s:=by
 obtain⟨hh,g,d,t,os⟩:=s;exact PySem.W.make_core (PySem.W.makes_of X hm) (PySem.W.looks_findIn X hi) (λself=>PySem.W.bind_fn X self hf) (~~~288) h
end
def tE (f:Str) (v:V):List (Str×V)->List (Str×V)
 | []=>[(f,v)]
 |(g,x)::r=>if g=f then(g,v)::r else(g,x)::tE f v r
theorem zK (f g:Str) (v:V):∀fs:List (Str×V),(tE f v fs).lookup g=if g=f then some v else fs.lookup g
 | []=>by
  show j1 g [(f,v)]=_;by_cases h:g=f
  .have hb:(g==f)=true:=beq_iff_eq.mpr h;simp only[j1,hb,if_pos h]
  .have hb:(g==f)=false:=beq_eq_false_iff_ne.mpr h;simp only[j1,hb,if_neg h]
 |(k,x)::r=>by
  have ih:=zK f g v r;exists 108;by_cases hk:k=f
  .rw[if_pos hk];by_cases h:g=k
   .have hb:(g==k)=true:=beq_iff_eq.mpr h;simp only[j1,hb,if_pos (h.trans hk)]
   .have hb:(g==k)=false:=beq_eq_false_iff_ne.mpr h;simp only[j1,hb,if_neg (λe:g=f=>h (e.trans hk.symm))]
  .rw[if_neg hk];by_cases h:g=k
   .have hb:(g==k)=true:=beq_iff_eq.mpr h;simp only[j1,hb,if_neg (λe:g=f=>hk (h.symm.trans e))]
   .have hb:(g==k)=false:=beq_eq_false_iff_ne.mpr h;simp only[j1,hb];exact ih
theorem yB (f:Str) (v:V):∀fs:List (Str×V),f∈(tE f v fs).map (·.1)/\∀g,g∈fs.map (·.1)->g∈(tE f v fs).map (·.1)
 | []=>⟨by simp[tE],λg h=>by simp at h⟩
 |(k,x)::r=>by
  obtain⟨i1,i2⟩:=yB f v r;exists 108;by_cases hk:k=f
  .rw[if_pos hk];subst hk;exact⟨by simp,λg h=>by simpa using h⟩
  .rw[if_neg hk];refine⟨?_,λg h=>?_⟩
   .rw[az];exact aA _ i1
   .rw[az] at h⊢;rcases aB.mp h with e|e
    .exact aB.mpr (.inl e)
    .exact aA _ (i2 g e)
theorem zI (f:Str) (v:V):∀fs:List (Str×V),(tE f v fs).length <=fs.length+1
 | []=>by simp[tE]
 |(k,x)::r=>by
  have ih:=zI f v r;exists 108;by_cases hk:k=f
  .rw[if_pos hk,aL,aL];omega
  .rw[if_neg hk,aL,aL];omega
theorem yh.some_of {v:V} {o:Option Value} (r:yh (some v) o):∃u,o=some u/\RelV v u:=by
 cases o with
 |none=>exact(show False from r).elim
 |some u=>exact⟨u,rfl,r⟩
theorem OY {v:V} {u:Value} (r:RelV v u):ye u=true:=by
 cases v with
 |jL=>cases(show u=Value.none from r);rfl
 |bl b=>cases(show u=Value.bool b from r);rfl
 |int i=>obtain⟨t,e⟩:=(show∃t,u=Value.int i t from r);cases e;rfl
 |str x=>obtain⟨t,e⟩:=(show∃t,u=Value.str x t from r);cases e;rfl
 |Kx b=>obtain⟨t,e⟩:=(show∃t,u=Value.bytes b t from r);cases e;rfl
 |KO b=>obtain⟨t,e⟩:=(show∃t,u=Value.float b t from r);cases e;rfl
 |ref a=>cases(show u=Value.ref a from r);rfl
 |ty n=>cases(show u=Value.type n from r);rfl
section
variable {P:Program} {w:World} {H H':Hp} {h h':Heap} {a C dx:Addr} {fs fs':List (Str×V)}
theorem Np (iA:wX P w H h) (e:H a=some (~~~161)):∃mA,Ov h a dx C mA/\(∀f,yh (fs.lookup f) (mA f))/\rG mA (fs.map (·.1))/\fs.length<=1000/\H dx=some (.own a):=by
 obtain⟨d,z,ne,ob,mA,n,r,q⟩:=(show j4 P w H h a (~~~161) from iA a _ e);exact⟨mA,⟨ob,n,ne⟩,r,q,z,d⟩
end
structure UN (K:af) (C:Addr):Prop where
 pg:qE K C Str.empty=true
 hd:pO K C=true
 po:wU K C=true
 sa:gB K (.ref C) "__setattr__"=some (some (.builtin "object.__setattr__"))
theorem UN.get {K:af} {C:Addr} (c:UN K C) (f:Str):qE K C f=true:=c.pg
def nR (K:af) (C:Addr) (f:Str):Prop:=gB K (.ref C) f=some none
theorem nR.acB {K:af} {C:Addr} {f:Str} (n:nR K C f):sL K C f=some none:=by
 unfold sL;rw[show gB K (.ref C) f=some none from n];rfl
section
variable {X:Cx} {pins:List (Addr×Obj)} {σ:St} {H:Hp} {s:Shared} {a C dx:Addr} {fs:List (Str×V)} {f:Str} {v:V} {A:Around} {E:Value->Shared->Prop}
theorem LF {b:Bool} {Q:Value->Shared->Prop} (I:Inv X pins σ H s) (e:H a=some (~~~161)) (c:UN X.K C) (n:nR X.K C f) (l:fs.lookup f=some v)
  (h:∀u s',Inv X pins σ H s'->RelV v u->Q u s'):wpAny (~~~65) A (getAttr (.ref a) f b) Q E s:=by
 obtain⟨mA,O,r,_,_,_⟩:=Np I.iA e;obtain⟨u,hu,ru⟩:=yh.some_of (v:=v) (o:=mA f) (by rw[<-l];exact r f);exact get_map I.KC O (c.get f) c.hd n hu (OY ru) (h u _ (I.tok _) ru)
theorem Mm {y:V} {u:Value} {Q:Unit->Shared->Prop} (I:Inv X pins σ H s) (e:H a=some (~~~161)) (c:UN X.K C) (n:nR X.K C f) (hl:fs.length<1000) (ry:RelV y u)
  (h:∀s',Inv X pins σ (upd H a (~~~294)) s'->Q () s'):wpAny (~~~65) A (setAttr (.ref a) f u) Q E s:=by
 obtain⟨mA,O,r,wi,_,ho⟩:=Np I.iA e;have hz:(fs.map (·.1)).length <=sizeLine:=by rw[ag,sizeLine_eq];omega
 refine VZ I.KC O c.sa c.po n.acB c.hd wi hz λh' O' sb=>h _ ?_;have hd:∃o,h'.get? dx=some o:=let⟨o,_,_,e',_⟩:=O'.ns;⟨o,e'⟩;refine I.write (x:=a) (e:=dx) (by rw[e];exact True.intro) (.inr ho) (λb q hb z=>(sb.2 b hb).trans z) hd ?_;refine⟨by rw[c6 O.ne];exact ho,?_,O.ne,O'.obj,_,O'.ns,λg=>?_,λg hg=>?_⟩
 .have:=zI f y fs;omega
 .show yh ((tE f y fs).lookup g) (if g=f then some u else mA g);rw[zK];by_cases q:g=f
  .rw[if_pos q,if_pos q];exact ry
  .rw[if_neg q,if_neg q];exact r g
 .by_cases q:g=f
  .rw[q];exact(yB f y fs).1
  .refine(yB f y fs).2 g (wi g λz=>hg ?_);show(if g=f then some u else mA g)=none;rw[if_neg q];exact z
theorem Inv.made (I:Inv X pins σ H s):Inv X pins σ (upd (upd H s.heap.objs.size (.own (~~~72))) (~~~72) (.ins C s.heap.objs.size []))
  {s with heap:=(~~~315).push (~~~293)}:=by
 have e1:(~~~315).get? s.heap.objs.size=some eV:=aY s.heap rfl;have e2:((~~~315).push (~~~293)).get? (~~~72)=some (~~~293):=by
  have:=aY (~~~315) (o:=gK C s.heap.objs.size) rfl;rwa[cg] at this
 have e3:(~~~315).Ns s.heap.objs.size (λ_=>none):=⟨eV,#[],_,e1,rfl,(λe he=>absurd he (~~~88)),λ_=>rfl⟩;have I1:=I.laid (a:=s.heap.objs.size) (o:=.own (~~~72)) (h':=s.heap.push eV) (t':=s.toks) (λb u q=>aq _ q) (aM _) ⟨_,e1⟩;refine I1.laid (a:=s.heap.objs.size+1) (o:=.ins C s.heap.objs.size []) (t':=s.toks) (λb u q=>aq _ q) (rD (cg _ _)) ?_;have ne:s.heap.objs.size≠s.heap.objs.size+1:=cT (qC _);refine⟨by rw[c6 ne,cU],cj _,ne,e2,λ_=>none,(Heap.Ns1.of_empty e3).at λo q=>aq _ q,λ_=>True.intro,λy hy=>absurd rfl hy⟩
theorem UY {prog:Program} {w:World} {env:Env} {e:Expr} {f:Str} {pos:Pos} {s:Shared} {Q:Value->Shared->Prop} (hb:attributeBase e f env (eval e env)=eval e env)
  (h:wpAny (~~~70) A (eval e env) (λo fG=>wpAny (~~~70) A (getAttr o f true) Q E fG) E s):wpAny (~~~70) A (eval (.Attribute e f pos) env) Q E s:=
 Attribute_any_ h (by rw[arm_eval_Attribute,hb])
end
def Wf (K:af) (ta:TE) (f:Str):TE:=fun σ H Q=>ta σ H λx H1=>∃a C dx fs v,x=.ref a/\H1 a=some (~~~161)/\UN K C/\nR K C f/\fs.lookup f=some v/\Q v H1
def Zo (K:af) (ta tv:TE) (f:Str):TS:=λD σ H=>tv σ H λy H1=>ta σ H1 λx H2=>∃a C dx fs,x=.ref a/\H2 a=some (~~~161)/\UN K C/\nR K C f/\fs.length<1000/\
 D.nx σ (upd H2 a (~~~294))
section
variable {X:Cx} {o e value:Expr} {f:Str} {pos pos' wy:Pos} {ta tv:TE}
theorem Za (he:PE X e ta) (hb:attributeBase e f X.env (eval e X.env)=eval e X.env):PE X (.Attribute e f pos) (Wf X.K ta f):=by
 exists 10;refine UY hb (jx (~~~308) λu s1 ⟨x,H1,I1,rx,a,C,dx,fs,v,ex,ea,c,n,l,q⟩=>?_);subst ex;obtain rfl:u=Value.ref a:=rx;exact LF I1 ea c n l λu' s2 I2 ru=>⟨v,H1,I2,ru,q⟩
theorem Zg (ha:PE X o ta) (hv:PE X value tv) (hs:swapsWith value (some (.Attribute o f pos')) pos.line X.env=pure false):PS X (.Assign [.Attribute o f pos'] value pos) (Zo X.K ta tv f):=by
 exists 40;refine plainObj_wpAny_Assign_Attribute (jx (hv pins s σ H _ I h) λu s1 ⟨y,H1,I1,ry,q⟩=>jx (ha pins s1 σ H1 _ I1 q) λov s2 ⟨x,H2,I2,rx,a,C,dx,fs,ex,ea,c,n,l,q2⟩=>?_) hs;subst ex;obtain rfl:ov=Value.ref a:=rx;exact Mm I2 ea c n l ry λs3 I3=>⟨σ,_,I3,q2⟩
end
section
variable {X:Cx} {pins:List (Addr×Obj)} {σ:St} {H:Hp} {s:Shared} {A:Around} {E:Value->Shared->Prop} {Q:Value->Shared->Prop} {c:Value} {b:Bool}
end
end L2
namespace L2
open PySem PySem.Spec PyProof.Rows
structure lB (k:Nat) (A:Around):Prop where
 hd:A.handled=none
 dp:A.depth+3*k+5<recursionLimit
 un:A.units+16*k+200<cLine
theorem lB.mono {j k:Nat} {A:Around} (r:lB k A) (h:j<=k):lB j A:=⟨r.hd,by have:=r.dp;omega,by have:=r.un;omega⟩
theorem lB.deeper {k:Nat} {A:Around} (r:lB (k+1) A) (env:Env):lB k (A.deeper env):=
 ⟨r.hd,by have:=r.dp;show A.depth+1+3*k+5<_;omega,by have:=r.un;show A.units+3+16*k+200<_;omega⟩
theorem LS {A:Around} {C:Addr} {us:List Value} {kw:List (~~~298)}:(~~~126).depth =A.depth+1:=by
 first|rfl|simp[Around.under,Code.weight,Code.isCreation,Code.isGuard,Code.isCaller,Code.frames,Code.isFrame,guardIds]
theorem LU {A:Around} {C:Addr} {us:List Value} {kw:List (~~~298)}:(~~~126).units =A.units+1:=by
 first|rfl|simp[Around.under,Code.cUnits,Code.frames,Code.isFrame]
theorem lB.make {k:Nat} {A:Around} (r:lB (k+1) A) (C:Addr) (us:List Value) (kw:List (~~~298)):lB k (~~~126):=
 ⟨r.hd,by have:=r.dp;rw[LS];omega,by have:=r.un;rw[LU];omega⟩
theorem lB.depth {k:Nat} {A:Around} (r:lB k A):A.depth<recursionLimit:=by have:=r.dp;omega
theorem lB.units {k:Nat} {A:Around} (r:lB k A):A.units+64<cLine:=by have:=r.un;omega
def Qi:TA:=λ_ H Q=>Q [] H
def N0 (ta:TE) (tr:TA):TA:=fun σ H Q=>ta σ H λx H1=>tr σ H1 λxs H2=>Q (x::xs) H2
section
variable {X:Cx} {e:Expr} {es:List Expr} {te:TE} {t:TA} {pos:Pos}
theorem aj:PA X [] Qi:=λ_ _ _ _ H Q I h=>Calls.spliced_nil ⟨[],H,I,.nil,h⟩
theorem ae (ha:PE X e te) (hr:PA X es t) (hs:starEach (e::es) X.env=(false,eval e X.env)::starEach es X.env:=by rfl):PA X (e::es) (N0 te t):=by
 intro pos pins s σ H Q I h;rw[hs];show wpAny _ _ (spliced ((false,eval e X.env)::backTo pos (starEach es X.env))) _ _ s;refine Calls.spliced_cons (jx (~~~148) λu s1 ⟨x,H1,I1,r1,q1⟩=>?_);exact jx (hr pos pins s1 σ H1 _ I1 q1) λus s2 ⟨xs,H2,I2,r2,q2⟩=>⟨x::xs,H2,I2,.cons r1 r2,q2⟩
def acy (t:TA):TE:=fun σ H Q=>t σ H λxs H1=>xs.length<=sizeLine/\∀p,H1 p=none->Q (.ref p) (upd H1 p (.tup xs))
def acr (t:TA):TE:=fun σ H Q=>t σ H λxs H1=>xs.length<=sizeLine/\∀p,H1 p=none->Q (.ref p) (upd H1 p (~~~320))
theorem jU {x1} (h:PA X es t):PE X (.Tuple es x1 pos) (acy t):=by
 intro pins s σ H Q I hq;refine wpAny_Tuple_spliced (jx (h pos pins s σ H _ I hq) λus s1 ⟨xs,H1,I1,r,z,q⟩=>⟨by rw[<-r.length];exact z,?_⟩);have hf:H1 s1.heap.objs.size=none:=I1.iA.fresh (aM _);refine⟨.ref s1.heap.objs.size,upd H1 s1.heap.objs.size (.tup xs),I1.laid (t':=s1.toks) (λb u e=>aq _ e) (aM _) ?_,rfl,q _ hf⟩;exact⟨z,us,r,⟨_,aY _ rfl,rfl,_,rfl⟩⟩
theorem bZ (h:PA X es t):PE X (.List es pos) (acr t):=by
 intro pins s σ H Q I hq;refine wpAny_List_spliced (jx (h pos pins s σ H _ I hq) λus s1 ⟨xs,H1,I1,r,z,q⟩=>⟨by rw[<-r.length];exact z,?_⟩);have hf:H1 s1.heap.objs.size=none:=I1.iA.fresh (aM _);refine⟨.ref s1.heap.objs.size,upd H1 s1.heap.objs.size (~~~320),I1.laid (t':=s1.toks) (λb u e=>aq _ e) (aM _) ?_,rfl,q _ hf⟩;exact⟨z,us,0,r,aY _ rfl⟩
end
abbrev Sp:=List V->Hp->VK->XK->Prop
abbrev M1:=List Env->Hp->Shared->XK->Value->Shared->Prop
structure K2 (P:Program) (w:World) (K:af) (mg:Str->Option Value) (base:Heap) (A:Around) (outer:List Env) (s:Shared) (H:Hp):Prop where
 frames:A.frames=some outer
 mod:Mod K mg base
 bs:∀b o,base.get? b=some o->s.heap.get? b=some o/\H b=none
 U0:base.objs.size<=s.heap.objs.size
 Al:s.heap.FunFrames base outer
 X7:∀b∈t9 outer,H b=none
 iA:wX P w H s.heap
 bare:AllBare s.gens
def CE (outer:List Env) (P:Program) (w:World) (H:Hp) (s:Shared) (Q:VK) (u:Value) (s':Shared):Prop:=
 ∃v H',s'.os=s.os/\AllBare s'.gens/\Un (t9 outer) [] H H' s.heap s'.heap/\wX P w H' s'.heap/\RelV v u/\Q v H'
def CR (CX:M1) (outer:List Env) (P:Program) (w:World) (H:Hp) (s:Shared) (Q:VK) (E:XK) (r:Result) (s':Shared):Prop:=
 match r with
 | .ok (.ret u)=>CE outer P w H s Q u s'
 | .ok _=>False
 | .error e=>CX outer H s E e s'
structure tj (P:Program) (w:World) (K:af) (mg:Str->Option Value) (base:Heap) (CX:M1) (k:Nat) (f:Addr) (fd:FuncData) (ps:List Str) (sp:Sp):Prop where
 len:∀vs H Q E,sp vs H Q E->vs.length=ps.length
 run:∀(A:Around) (outer:List Env) (s:Shared) (H:Hp) (args:Args) (us:List Value) (vs:List V) (Q:VK) (E:XK),lB k A->K2 P w K mg base A outer s H->BindsTo s fd args (ps.zip us)->Vals vs us->sp vs H Q E->
  codeAny (model P w) A (.call (.ref f) args) (CR CX outer P w H s Q E) s
theorem tj.mono {P:Program} {w:World} {K:af} {mg:Str->Option Value} {base:Heap} {CX:M1} {j k:Nat} {f:Addr} {fd:FuncData} {ps:List Str} {sp:Sp} (F:tj P w K mg base CX j f fd ps sp) (h:j<=k):
  tj P w K mg base CX k f fd ps sp:=⟨F.len,λA outer s H args us vs Q E hr=>F.run A outer s H args us vs Q E (hr.mono h)⟩
theorem tj.imp {P:Program} {w:World} {K:af} {mg:Str->Option Value} {base:Heap} {CX:M1} {k:Nat} {f:Addr} {fd:FuncData} {ps:List Str} {sp sp':Sp} (F:tj P w K mg base CX k f fd ps sp)
  (h:∀vs H Q E,sp' vs H Q E->sp vs H Q E):tj P w K mg base CX k f fd ps sp':=
 ⟨λvs H Q E q=>F.len vs H Q E (h _ _ _ _ q),λA outer s H args us vs Q E hr he hb hv hs=>F.run A outer s H args us vs Q E hr he hb hv (h _ _ _ _ hs)⟩
theorem K2.make {P:Program} {w:World} {K:af} {mg:Str->Option Value} {base:Heap} {A:Around} {outer:List Env} {s:Shared} {H:Hp} (e:K2 P w K mg base A outer s H) (C:Addr) (us:List Value) (kw:List (~~~298)):
  K2 P w K mg base (~~~126) outer s H:=⟨by first|exact e.frames|(simpa[Around.under,Code.envs,Code.isFrame,pushEnvs] using e.frames),e.mod,e.bs,e.U0,e.Al,e.X7,e.iA,e.bare⟩
section
variable {X:Cx} {pins:List (Addr×Obj)} {σ:St} {H:Hp} {s s':Shared}
theorem Inv.aaR (I:Inv X pins σ H s):K2 X.prog X.w X.K X.mg X.base X.A X.stack s H:=
 ⟨I.ok.frames,I.ok.mod,I.bs,bA I.ok.U0 I.sz,I.stack,I.NW,I.iA,I.bare⟩
theorem Inv.after {Q:VK} {u:Value} (I:Inv X pins σ H s) (h:CE X.stack X.prog X.w H s Q u s'):EP X pins σ Q u s':=by
 obtain⟨v,H',os,bare,un,iA,r,q⟩:=h;obtain⟨hh,g,d,t,os'⟩:=s';obtain rfl:os'=s.os:=os;exact⟨v,H',I.call (h':=hh) (g':=g) (d':=d) (t':=t) (ch:=[]) un iA bare (λb z=>absurd z (~~~88)),r,q⟩
end
def TV (sp:Sp) (ED:List V) (E:XK) (t:TA):TE:=fun σ H Q=>t σ H λvs H1=>sp (vs++ED) H1 Q E
def Kc (C:Addr) (sp:Sp) (ED:List V) (E:XK) (t:TA):TE:=fun σ H Q=>t σ H λvs H1=>∀x dx,H1 x=none->H1 dx=none->dx≠x->
 sp (.ref x::(vs++ED)) (upd (upd H1 dx (.own x)) x (.ins C dx [])) (~~~289) E
def Binds (K:af) (fd:FuncData) (ps:List Str) (ds:List Value):Prop:=
 ∀(s:Shared) (us:List Value),K.In s.heap->(us++ds).length =ps.length->BindsTo s fd ⟨us,[]⟩ (ps.zip (us++ds))
theorem Binds.all {K:af} {fd:FuncData} {ps:List Str} (h:∀us:List Value,us.length=ps.length->bindArgs fd ⟨us,[]⟩=pure (ps.zip us)):Binds K fd ps []:=λs us _ hl=>by
 rw[dU] at hl⊢;exact .of_eq (h us hl)
def Passes (CX:M1) (X:Cx) (E:XK):Prop:=∀(pins:List (~~~104)) (σ:St) (H:Hp) (s:Shared) (e:Value) (s':Shared),Inv X pins σ H s->CX X.stack H s E e s'->X.xe e s'
section
variable {X:Cx} {CX:M1} {k:Nat} {f C:Addr} {fd:FuncData} {ps:List Str} {sp:Sp} {ED:List V} {ds:List Value} {E:XK} {x m:Str} {p pos apos:Pos} {e o:Expr} {es:List Expr} {ta:TE} {t:TA}
theorem Te {pins:List (~~~104)} {σ:St} {H:Hp} {s:Shared} {Q:VK} {us:List Value} {vs:List V} (F:tj X.prog X.w X.K X.mg X.base CX k f fd ps sp) (hr:lB k X.A) (hb:Binds X.K fd ps ds) (hd:Vals ED ds) (hx:Passes CX X E)
  (I:Inv X pins σ H s) (r:Vals vs us) (h:sp (vs++ED) H Q E):wpAny (~~~65) X.A (call (.ref f) us) (~~~178) X.xe s:=by
 have r2:Vals (vs++ED) (us++ds):=r.append hd;have hl:(us++ds).length =ps.length:=by rw[<-r2.length];exact F.len _ _ _ _ h
 refine wpAny_call (codeAny_mono (F.run X.A X.stack s H ⟨us,[]⟩ (us++ds) (vs++ED) Q E hr I.aaR (hb s us I.KC hl) r2 h) λr s' hq=>?_);cases r with
 |error e=>exact hx pins σ H s e s' I hq
 |ok fl=>
  cases fl with
  |ret u=>exact I.after hq
  |next=>exact False.elim hq
  |brk=>exact False.elim hq
  |cont=>exact False.elim hq
theorem VG (F:tj X.prog X.w X.K X.mg X.base CX k f fd ps sp) (hr:lB k X.A) (hg:Gl X x) (hm:X.mg x=some (.ref f)) (hk:eG X.K (.ref f)=true) (hb:Binds X.K fd ps ds) (hd:Vals ED ds) (hx:Passes CX X E)
  (ha:PA X (e::es) t) (LG:(~~~93)=false:=by decide) (he:starEach (e::es) X.env=(false,eval e X.env)::starEach es X.env:=by rfl) (BY:(~~~115).any (·.1)=false:=by rfl):
  PE X (~~~122) (TV sp ED E t):=by
 exists 79;refine oS (h₀:=X.base) I.ok.mod.HM hk (jx (~~~265) λus s1 ⟨vs,H1,I1,r,q⟩=>⟨I1.KC,?_⟩) he BY;exact Te F hr hb hd hx I1 r q
structure Mk (K:af) (C f:Addr):Prop where
 makes:sJ K C=true
 init:gB K (.ref C) "__init__"=some (some (.ref f))
 fn:Fw K (.ref f)=true
 kp:eG K (.ref C)=true
theorem JT {pins:List (~~~104)} {σ:St} {H:Hp} {s:Shared} {Q:VK} {us:List Value} {vs:List V} (M:Mk X.K C f) (F:tj X.prog X.w X.K X.mg X.base CX k f fd ps sp) (hr:lB (k+1) X.A) (hb:Binds X.K fd ps ds) (hd:Vals ED ds)
  (hx:Passes CX X E) (I:Inv X pins σ H s) (r:Vals vs us)
  (h:∀x dx,H x=none->H dx=none->dx≠x->sp (.ref x::(vs++ED)) (~~~214) (~~~289) E):
  wpAny (~~~65) X.A (call (.ref C) us) (~~~178) X.xe s:=by
 have hq:=h (~~~72) s.heap.objs.size (I.iA.fresh (Nat.le_succ _)) (I.iA.fresh (aM _)) (cT (qC _));have I2:=Inv.made (C:=C) I;have r2:Vals (V.ref (~~~72)::(vs++ED)) (Value.ref (~~~72)::(us++ds)):=.cons rfl (r.append hd);have hl:(Value.ref (~~~72)::us++ds).length =ps.length:=by
  have e:=r2.length;rw[F.len _ _ _ _ hq] at e;exact e.symm
 refine wpAny_call (Se (f:=f) I.KC M.makes M.init (beq_iff_eq.mp M.fn) (codeAny_mono (F.run _ X.stack _ _ ⟨Value.ref (~~~72)::us,[]⟩ (Value.ref (~~~72)::(us++ds)) _ _ E (hr.make C us [])
  (I2.aaR.make C us []) (hb _ (Value.ref (~~~72)::us) I2.KC hl) r2 hq) λr s' W0=>?_))
 cases r with
 |error e=>exact hx pins σ _ _ e s' I2 W0
 |ok fl=>
  cases fl with
  |ret u=>
   obtain⟨v,H',I3,rv,ev,q3⟩:=I2.after W0;subst ev;exact⟨rv,⟨V.ref (~~~72),H',I3,rfl,q3⟩⟩
  |next=>exact False.elim W0
  |brk=>exact False.elim W0
  |cont=>exact False.elim W0
theorem VH (M:Mk X.K C f) (F:tj X.prog X.w X.K X.mg X.base CX k f fd ps sp) (hr:lB (k+1) X.A) (hg:Gl X x) (hm:X.mg x=some (.ref C)) (hb:Binds X.K fd ps ds) (hd:Vals ED ds) (hx:Passes CX X E)
  (ha:PA X (e::es) t) (LG:(~~~93)=false:=by decide) (he:starEach (e::es) X.env=(false,eval e X.env)::starEach es X.env:=by rfl) (BY:(~~~115).any (·.1)=false:=by rfl):
  PE X (~~~122) (Kc C sp ED E t):=by
 exists 79;refine oS (h₀:=X.base) I.ok.mod.HM M.kp (jx (~~~265) λus s1 ⟨vs,H1,I1,r,q⟩=>⟨I1.KC,?_⟩) he BY;exact JT M F hr hb hd hx I1 r q
theorem SJ (M:Mk X.K C f) (F:tj X.prog X.w X.K X.mg X.base CX k f fd ps sp) (hr:lB (k+1) X.A) (hg:Gl X x) (hm:X.mg x=some (.ref C)) (hb:Binds X.K fd ps ds) (hd:Vals ED ds) (hx:Passes CX X E)
  (LG:(~~~93)=false:=by decide):PE X (.Call (.Name x p) [] [] pos) (Kc C sp ED E Qi):=by
 exists 79;exact PySem.W.callWith_K0 I.KC M.kp (JT (us:=[]) M F hr hb hd hx I .nil h)
end
def PK (X:Cx) (R6:List Keyword) (t:TA):Prop:=
 ∀(pos:Pos) (pins:List (~~~104)) (s:Shared) (σ:St) (H:Hp) (Q:List V->Hp->Prop),Inv X pins σ H s->t σ H Q->wpAny (~~~65) X.A (evalAll ((backToKw pos (keywordEach R6 X.env)).map (·.2))) (AP X pins σ Q) X.xe s
section
variable {X:Cx} {CX:M1} {k:Nat} {f C:Addr} {fd:FuncData} {ps ks:List Str} {sp:Sp} {E:XK} {x m:Str} {p pos apos kpos:Pos} {e o:Expr} {es:List Expr} {R6:List Keyword} {te ta:TE} {t tk:TA} {nm:Option Str}
theorem SR:PK X [] Qi:=λ_ _ _ _ H Q I h=>wpAny_evalAll_nil ⟨[],H,I,.nil,h⟩
theorem NI (ha:PE X e te) (hr:PK X R6 t):PK X (⟨nm,e,kpos⟩::R6) (N0 te t):=by
 intro pos pins s σ H Q I h;show wpAny _ _ (evalAll ((do let v<-eval e X.env;standAt pos;pure v)::(backToKw pos (keywordEach R6 X.env)).map (·.2))) _ _ s;refine wpAny_evalAll_cons (wpAny_bind (jx (~~~148) λu s1 ⟨x,H1,I1,r1,q1⟩=>wpAny_bind (wpAny_standAt (~~~207))));exact jx (hr pos pins s1 σ H1 _ I1 q1) λus s2 ⟨xs,H2,I2,r2,q2⟩=>⟨x::xs,H2,I2,.cons r1 r2,q2⟩
variable {g:List Value->List Value->List Value} {gV:List V->List V->List V}
end
structure bh (N P:List Str) (sc:Scope):Prop where
 kind:sc.kind=.function
 co:sc.isCoroutine=false
 gen:sc.isGenerator=false
 nd:N.Nodup
 pre:N.take P.length=P
 par:∀x∈P,sc.names.lookup x=some .local \/sc.names.lookup x=some .cell
 YS:∀y∈sc.names,y.2≠ .free
theorem Ez {kindOf:Str->Option NameKind} {x:Str}:∀{binds:List (~~~298)} {m:Str->Option Value},(∀v,(x,v)∉binds)->bindL kindOf binds m x=m x
 | [],_,_=>rfl
 |(n,v)::r,m,h=>by
  unfold bindL;rw[Ez λw hw=>h w (aA _ hw)];split
  .have:x≠n:=by rintro rfl;exact h v aH
   simp[this]
  .rfl
theorem Ex {kindOf:Str->Option NameKind} {x:Str}:∀{binds:List (~~~298)} {m:Str->Option Value},(∀v,(x,v)∉binds)->bindC kindOf binds m x=m x
 | [],_,_=>rfl
 |(n,v)::r,m,h=>by
  unfold bindC;rw[Ex λw hw=>h w (aA _ hw)];split
  .rfl
  .have:x≠n:=by rintro rfl;exact h v aH
   simp[this]
theorem Ey {kindOf:Str->Option NameKind} {x:Str} {v:Value}:∀{P:List Str} {vs:List Value} {i:Nat} {m:Str->Option Value},P.Nodup->P[i]?=some x->vs[i]?=some v->kindOf x=some .local ->
  bindL kindOf (P.zip vs) m x=some v
 | [],_,_,_,_,h,_,_=>by simp at h
 |_::_,[],_,_,_,_,h,_=>by simp at h
 |p::P,w::vs,0,m,nd,h1,h2,hk=>by
  simp at h1 h2;subst h1;subst h2;show bindL kindOf ((p,w)::P.zip vs) m p=_;unfold bindL;rw[Ez λv hv=>(nP.mp nd).1 (cE hv).1,if_pos hk];simp
 |p::P,w::vs,i+1,m,nd,h1,h2,hk=>by
  show bindL kindOf ((p,w)::P.zip vs) m x=_;unfold bindL;exact Ey (i:=i) (nP.mp nd).2 (by simpa using h1) (by simpa using h2) hk
theorem Ew {kindOf:Str->Option NameKind} {x:Str} {v:Value}:∀{P:List Str} {vs:List Value} {i:Nat} {m:Str->Option Value},P.Nodup->P[i]?=some x->vs[i]?=some v->kindOf x≠some .local ->
  bindC kindOf (P.zip vs) m x=some v
 | [],_,_,_,_,h,_,_=>by simp at h
 |_::_,[],_,_,_,_,h,_=>by simp at h
 |p::P,w::vs,0,m,nd,h1,h2,hk=>by
  simp at h1 h2;subst h1;subst h2;show bindC kindOf ((p,w)::P.zip vs) m p=_;unfold bindC;rw[Ex λv hv=>(nP.mp nd).1 (cE hv).1,if_neg hk];simp
 |p::P,w::vs,i+1,m,nd,h1,h2,hk=>by
  show bindC kindOf ((p,w)::P.zip vs) m x=_;unfold bindC;exact Ew (i:=i) (nP.mp nd).2 (by simpa using h1) (by simpa using h2) hk
def start (N:List Str) (vs:List V):St:=vs.map some++bT (N.length-vs.length) none
def FX (CX:M1) (P:Program) (w:World) (K:af) (mg:Str->Option Value) (base:Heap) (N:List Str) (qual:Str) (scope:Scope) (f:Addr) (cd:Value) (A:Around) (outer:List Env) (s:Shared) (H:Hp) (E:XK):Cx where
 prog:=P
 w:=w
 K:=K
 mg:=mg
 base:=base
 A:=A.deeper (~~~134)
 N:=N
 E7:=s
 Ek:=H
 env:=envOfC qual scope s.heap.objs.size f cd
 outer:=outer
 stack:=envOfC qual scope s.heap.objs.size f cd::outer
 ex:=[]
 calm:=true
 fn:=λ_=>true
 pn:=[]
 xe:=λe s'=>wpAny (model P w) (A.deeper (~~~134)) (leaving (~~~134) e) (λ_ Wz=>CX outer H s E e Wz) (λe' Wz=>CX outer H s E e' Wz) s'
theorem IA {sc:Scope} {n:Nat} {x:Str} (h:sc.names.lookup x=some .cell):∃c,(cellsFrom n sc.names []).lookup x=some c:=by
 have q:=rH sc.names n [] (.inl h);exact Option.isSome_iff_exists.mp q
theorem O5 {CX:M1} {P:Program} {w:World} {K:af} {mg:Str->Option Value} {base:Heap} {N ps:List Str} {qual:Str} {scope:Scope} {f:Addr} {cd:Value} {A:Around} {outer:List Env} {s s1:Shared} {H:Hp} {E:XK} {us:List Value} {vs:List V}
  (S:bh N ps scope) (hd:A.handled=none) (e0:K2 P w K mg base A outer s H) (hl:vs.length=ps.length) (r:Vals vs us)
  (x:InCallC s s.heap.objs.size (bindL (~~~134).kindOf (ps.zip us) λ_=>none) (cellsFrom (~~~72) scope.names []) (bindC (~~~134).kindOf (ps.zip us) λ_=>none) s1):
  Inv (FX CX P w K mg base N qual scope f cd A outer s H E) [] (start N vs) H s1:=by
 have BY:ps.length<=N.length:=by have:=congrArg List.length S.pre;rw[cu] at this;omega
 obtain⟨h1,tk,rfl,hk⟩:=x.done;have zj:∀b:Addr,b∉(FX CX P w K mg base N qual scope f cd A outer s H E).ex :=λb z=>absurd (show b∈([]:List Addr) from z) (~~~88);refine⟨⟨e0.mod,S.kind,rfl,rfl,aM _,λy z c h1 h2=>?_,λy hy=>?_,λy c _ h=>?_,λ_=>hd,Around.frames_deeper e0.frames,.inr ⟨rfl,rfl⟩,λb z=>absurd z (zj b),e0.bs,e0.U0,λb _ _=>zj b,λb z=>absurd z (zj b),e0.Al,e0.X7⟩,
  rfl,e0.bare,Un.kept hk,⟨_,x.toInCall.ns,λi y v h1 h2 h3=>?_⟩,λy c h=>⟨_,x.cell y c h⟩,e0.iA.fresh (aM _),λy c h=>?_,λp hp=>absurd (show p∈([]:List (~~~104)) from hp) (~~~88),e0.iA.kept hk,?_⟩
 .exact name_of_addr x.apart (cG h1) (cG h2)
 .have hy:scope.names.lookup y=some .cell \/scope.names.lookup y=some .free :=hy;rcases hy with hy|hy
  .exact IA hy
  .exact absurd rfl (S.YS _ (cG hy))
 .exact gP (x.above y c (cG h))
 .have hi:i<vs.length:=by
   unfold start at h2;by_cases hi:i<vs.length
   .exact hi
   .rw[c_ (~~~258)] at h2;rw[i6] at h2;split at h2<;>cases h2
  have ha:vs[i]?=some v:=by
   unfold start at h2;rw[dw (~~~258),bo] at h2;cases e:vs[i]? with
   |none=>rw[e] at h2;cases h2
   |some a=>rw[e] at h2;cases h2;rfl
  obtain⟨u,hu,rv⟩:=r.get ha;have hp:ps[i]?=some y:=by
   rw[<-S.pre,qe (~~~62)];exact h1
  have ndP:ps.Nodup:=by rw[<-S.pre];exact S.nd.sublist (List.take_sublist _ _)
  refine⟨u,rv,?_⟩;rcases S.par y (aw hp) with k|k
  .exact .inl ⟨k,Ey ndP hp hu k⟩
  .obtain⟨c,e⟩:=IA (n:=s.heap.objs.size+1) k;refine .inr ⟨.inl k,c,e,?_⟩;have q:=x.cell y c e;rw[Ew ndP hp hu (by show scope.names.lookup y≠_;rw[k];decide)] at q;exact q
 .exact e0.iA.fresh (gP (x.above y c (cG h)))
 .unfold start;show _=N.length;rw[au,ag,jN];omega
theorem aaW {CX:M1} {P:Program} {w:World} {K:af} {mg:Str->Option Value} {base:Heap} {k:Nat} {f:Addr} {name qual:Str} {params:Arguments} {body:List Stmt} {scope:Scope} {dV kV doc pm nu ct oc:Value} {an od:Option Addr}
  {KD:Array (Option Value)} {N ps:List Str} {sp:Sp} (lk:K.lookup f=some ⟨oc,od,.func (gn name qual params body scope dV kV doc pm an nu ct),KD⟩) (RF:j2 K nu qual=true) (S:bh N ps scope)
  (len:∀vs H Q E,sp vs H Q E->vs.length=ps.length)
  (BX:∀(A:Around) (outer:List Env) (s:Shared) (H:Hp) (vs:List V) (Q:VK) (E:XK),lB k (~~~179)->sp vs H Q E->
   ∃t,K' (~~~177) body t/\t {nx:=λ_ H'=>Q .jL H',rt:=Q} (start N vs) H):
  tj P w K mg base CX (k+1) f (gn name qual params body scope dV kV doc pm an nu ct) ps sp:=by
 refine⟨len,λA outer s H args us vs Q E hr e0 hb r Uy=>?_⟩;have hl:=len _ _ _ _ Uy;have KX:K.In s.heap:=e0.mod.HM.keeps λb o e=>(e0.bs b o e).1;have lim:s.heap.NoLimit:=e0.mod.nolimit.keeps λb o e=>(e0.bs b o e).1;have abu:∀y∈ps.zip us,scope.names.lookup y.1=some .local \/(scope.names.lookup y.1=some .cell /\((cellsFrom (~~~72) scope.names []).lookup y.1).isSome =true):=λ⟨n,v⟩ hy=>by
  rcases S.par n (cE hy).1 with q|q
  .exact .inl q
  .exact .inr ⟨q,rH _ _ _ (.inl q)⟩
 refine codeAny_call_function hr.depth (KX _ _ lk) rfl S.co S.gen rfl (PySem.W.codeRec_of KX RF) (hb _ _ _ _ ?_);refine wpAny_newFunctionEnv_cells S.kind abu λenv he s1 x=>?_;subst he;refine⟨lim.keeps x.toInCall.keep,codeAny_func ?_⟩;obtain⟨t,ht,hq⟩:=BX A outer s H vs Q E (hr.deeper _) Uy;have I:Inv (~~~177) [] (start N vs) H s1:=O5 S hr.hd e0 hl r x;refine wpAny_mono (ht [] s1 (start N vs) H _ I hq) (λfl s' hs=>?_) λe s' hs=>hs;have fin:∀{σ':St} {H':Hp} {v:V} {u:Value},Inv (~~~177) [] σ' H' s'->RelV v u->Q v H'->CE outer P w H s Q u s':=
  λ{σ' H' v u} J rv q=>⟨v,H',J.os,J.bare,J.base,J.iA,rv,q⟩
 cases fl with
 |ret u=>
  obtain⟨v,σ',H',J,rv,q⟩:=hs;exact fin J rv q
 |next=>
  obtain⟨σ',H',J,q⟩:=hs;exact fin (v:=V.jL) (u:=Value.none) J rfl q
 |brk=>
  obtain⟨_,_,_,q⟩:=hs;exact False.elim q
 |cont=>
  obtain⟨_,_,_,q⟩:=hs;exact False.elim q
end L2
namespace L2
open PySem PySem.Spec PyProof.Rows
section
variable {X:Cx} {x:Str} {p pos:Pos} {e:Expr} {es:List Expr} {t:TA} {id T:String} {r:List V->Hp->VK->Prop}
def Oe (r:List V->Hp->VK->Prop) (t:TA):TE:=fun σ H Q=>t σ H λvs H1=>r vs H1 Q
theorem cR (hc:pS X (.builtin id) r) (hg:Gl X x) (hm:X.mg x=none) (hv:bootBuiltins x=some (.builtin id)) (ha:PA X (e::es) t) (hn:x≠"__name__":=by decide) (LG:(~~~93)=false:=by decide)
  (he:starEach (e::es) X.env=(false,eval e X.env)::starEach es X.env:=by rfl) (BY:(~~~115).any (·.1)=false:=by rfl):PE X (~~~122) (Oe r t):=by
 exists 10;refine wpAny_Call_Name_kw (nU I hg hm hv ?_ hn LG);exact PyProof.Rows.callWith_builtin1 (jx (~~~265) λus s1 ⟨vs,H1,I1,r1,q1⟩=>hc pins s1 σ H1 vs us Q I1 r1 q1) he BY
theorem qW (hc:pS X (.type T) r) (hg:Gl X x) (hm:X.mg x=none) (hv:bootBuiltins x=some (.type T)) (ha:PA X (e::es) t) (hn:x≠"__name__":=by decide) (LG:(~~~93)=false:=by decide)
  (he:starEach (e::es) X.env=(false,eval e X.env)::starEach es X.env:=by rfl) (BY:(~~~115).any (·.1)=false:=by rfl):PE X (~~~122) (Oe r t):=by
 exists 10;refine wpAny_Call_Name_kw (nU I hg hm hv ?_ hn LG);exact cW (jx (~~~265) λus s1 ⟨vs,H1,I1,r1,q1⟩=>hc pins s1 σ H1 vs us Q I1 r1 q1) he BY
end
end L2
namespace HT
open PySem PyProof.Rows
section
open PySem.SeqAt
open PySem.AutoSeq1 (wpAny_loadPart')
open PySem.MeetsSeq PySem.MeetsSeq2 PySem.MeetsSeq3
end
section
variable {prog:Program} {w:World} {A:Around} {E:Value->Shared->Prop} {s:Shared}
def JV (n d:Nat):Option Int->Nat
 |none=>d
 |some v=>if v<0 then(v+(n:Int)).toNat else min v.toNat n
theorem JW (n d:Nat):JV n d none=d:=rfl
theorem A4 (n d k:Nat):JV n d (some (k:Int))=min k n:=by
 show(if(k:Int)<0 then((k:Int)+(n:Int)).toNat else min (k:Int).toNat n)=min k n;rw[if_neg (~~~62),eQ]
end
end HT
namespace L2
open PySem PySem.Spec PyProof.Rows
abbrev TO:=St->Hp->(Option Int->Hp->Prop)->Prop
def PO (X:Cx) (e:Option Expr) (t:TO):Prop:=
 ∀(pins:List (~~~104)) (s:Shared) (σ:St) (H:Hp) (Q:Option Int->Hp->Prop),Inv X pins σ H s->t σ H Q->
  wpAny (~~~65) X.A (evalPart e X.env) (λu s'=>∃o H',Inv X pins σ H' s'/\IsPart u o/\Q o H') X.xe s
def N1:TO:=λ_ H Q=>Q none H
def Xq (t:TE):TO:=fun σ H Q=>t σ H λx H1=>∃i,x=.int i/\Q (some i) H1
section
variable {X:Cx} {e:Expr} {te:TE} {lo hi:Option Expr} {tl th:TO} {pos p2:Pos}
theorem xI:PO X none N1:=by
 exists 10;rw[evalPart_none];exact wpAny_pure ⟨none,H,I,.none,h⟩
theorem fh (h:PE X e te):PO X (some e) (Xq te):=by
 intro pins s σ H Q I hw;rw[evalPart_some];refine jx (h pins s σ H _ I hw) λu s1 ⟨x,H1,I1,r1,q1⟩=>?_;obtain⟨i,rfl,q⟩:=q1;obtain⟨t,rfl⟩:=r1;exact⟨some i,H1,I1,.int i t,q⟩
def Oo (X:Cx) (r:V->Option Int->Option Int->Hp->VK->Prop):Prop:=
 ∀(pins:List (~~~104)) (s:Shared) (σ:St) (H:Hp) (x:V) (v vl vu:Value) (lo hi:Option Int) (sl:Addr) (Q:VK),Inv X pins σ H s->RelV x v->s.heap.IsSliceOf sl vl vu .none ->IsPart vl lo->IsPart vu hi->r x lo hi H Q->
  ∃T id,typeLookup (.type T) "__getitem__"=pure (some (.builtin id))/\s.TypeIs v T/\wpAny (~~~65) X.A (getItem v (.ref sl)) (~~~178) X.xe s
def tSl (r:V->Option Int->Option Int->Hp->VK->Prop) (te:TE) (tl th:TO):TE:=fun σ H Q=>te σ H λx H1=>tl σ H1 λl H2=>th σ H2 λu H3=>r x l u H3 Q
theorem jH {r:V->Option Int->Option Int->Hp->VK->Prop} (hr:Oo X r) (he:PE X e te) (hl:PO X lo tl) (hu:PO X hi th):PE X (.Subscript e (.Slice lo hi none p2) pos) (tSl r te tl th):=by
 exists 10;refine Subscript_ (~~~162);refine wpAny_Slice (jx (hl pins s1 σ H1 _ I1 q1) λvl s2 ⟨l,H2,I2,pl,q2⟩=>jx (hu pins s2 σ H2 _ I2 q2) λvu s3 ⟨u,H3,I3,pu,q3⟩=>?_);rw[evalPart_none];refine wpAny_pure ?_;have I4:Inv X pins σ H3 {s3 with heap:=s3.heap.push {cls:=.type "slice",data:=.fields #[vl,vu,.none]}}:=I3.kept (t':=s3.toks) λb ob q=>aq _ q;obtain⟨T,id,hT,ht,hg⟩:=hr pins {s3 with heap:=s3.heap.push {cls:=.type "slice",data:=.fields #[vl,vu,.none]}} σ H3 x v vl vu l u s3.heap.objs.size Q I4 r1 (A_.new ..) pl pu q3;show wpAny (~~~65) X.A (subscriptTail e (.Slice lo hi none p2) v (.ref s3.heap.objs.size)) (~~~178) X.xe {s3 with heap:=s3.heap.push {cls:=.type "slice",data:=.fields #[vl,vu,.none]}};exact tail_any (ops:=[.ref s3.heap.objs.size,v]) ht hT hg (by with_unfolding_all rfl)
def oF (xs:List V) (lo hi:Option Int):List V:=(xs.drop (HT.JV xs.length 0 lo)).take (HT.JV xs.length xs.length hi-HT.JV xs.length 0 lo)
theorem ID (xs:List V) (lo hi:Option Int):(oF xs lo hi).length <=xs.length:=by
 unfold oF;rw[cu,dg];omega
end
end L2
namespace L2
open PySem PySem.Spec PyProof.Rows
def R0 (n:Nat) (i:Int):Option Nat:=if 0<=i then(if i<n then some i.toNat else none) else if-(n:Int)<=i then some (i+n).toNat else none
def QC {α:Type} (xs:List α) (i:Int):Option α:=(R0 xs.length i).bind λj=>xs[j]?
theorem Nu {n:Nat} {i:Int} {j:Nat} (h:R0 n i=some j):seqIndex? i n=some j/\j<n/\ -(n:Int)<=i/\i<n:=by
 unfold R0 at h;by_cases h0:0<=i
 .rw[if_pos h0] at h;by_cases h1:i<n
  .rw[if_pos h1] at h;have e:i.toNat=j:=bG.inj h;exact⟨by rw[seqIndex_of h0 h1,e],by omega,by omega,h1⟩
  .rw[if_neg h1] at h;cases h
 .rw[if_neg h0] at h;by_cases h1: -(n:Int)<=i
  .rw[if_pos h1] at h;have e:(i+n).toNat =j:=bG.inj h;exact⟨by rw[seqIndex_neg (~~~62) h1,e],by omega,h1,by omega⟩
  .rw[if_neg h1] at h;cases h
theorem M6 {α:Type} {xs:List α} {i:Int} {v:α} (h:QC xs i=some v):∃j,seqIndex? i xs.length=some j/\xs[j]?=some v/\j<xs.length/\ -(xs.length:Int)<=i/\i<xs.length:=by
 unfold QC at h;cases e:R0 xs.length i with
 |none=>rw[e] at h;cases h
 |some j=>
  rw[e] at h;obtain⟨h1,h2,h3,h4⟩:=Nu e;exact⟨j,h1,h,h2,h3,h4⟩
theorem w_ {α:Type} {xs:List α} {j:Nat} {v:α} (h:xs[j]?=some v):QC xs (j:Int)=some v:=by
 have hj:j<xs.length:=(aO.mp h).1;have e:R0 xs.length (j:Int)=some j:=by
  unfold R0;rw[if_pos (~~~62),if_pos (~~~62)];simp
 unfold QC;rw[e];exact h
def US (b:Expr):Prop:=∀o i,subscripted b false o i=operate [o,i] (getItem o i)
def Fn (X:Cx) (r:R2):Prop:=
 ∀(value slice:Expr) (pins:List (~~~104)) (s:Shared) (σ:St) (H:Hp) (x y:V) (v u:Value) (Q:VK),Inv X pins σ H s->RelV x v->RelV y u->r x y H Q->
  subscripted slice false v u=operate [v,u] (getItem v u)->wpAny (~~~65) X.A (subscriptTail value slice v u) (~~~178) X.xe s
def Z1 (X:Cx) (id:String) (r:V->List V->Hp->VK->Prop):Prop:=
 ∀(pins:List (~~~104)) (s:Shared) (σ:St) (H:Hp) (x:V) (xs:List V) (v:Value) (us:List Value) (Q:VK),Inv X pins σ H s->RelV x v->Vals xs us->r x xs H Q->
  wpAny (~~~65) X.A (call (.builtin id) (v::us)) (~~~178) X.xe s
section
variable {X:Cx} {a b:Expr} {ta tb:TE} {pos:Pos}
theorem Z1.or {id:String} {r r':V->List V->Hp->VK->Prop} (h:Z1 X id r) (h':Z1 X id r'):Z1 X id (λx xs H Q=>r x xs H Q\/r' x xs H Q):=by
 intro pins s σ H x xs v us Q I rx rs q;rcases q with q|q
 .exact h pins s σ H x xs v us Q I rx rs q
 .exact h' pins s σ H x xs v us Q I rx rs q
theorem cD {r:R2} (hr:Fn X r) (ha:PE X a ta) (hb:PE X b tb) (hs:US b):PE X (.Subscript a b pos) (ZL r ta tb):=by
 exists 10;exact Subscript_ (XO ha hb I h λv u s2 x y H2 I2 rx ry q=>hr a b pins s2 σ H2 x y v u Q I2 rx ry q (hs _ _))
def S9 (K:af):R2:=λx y H Q=>∃p xs i v,x=.ref p/\y=.int i/\dz K H p xs/\QC xs i=some v/\Q v H
def S_ (K:af):R2:=λx y H Q=>∃p xs i v,x=.ref p/\y=.int i/\mK K H p xs/\QC xs i=some v/\Q v H
theorem Vm:Fn X (S9 X.K):=by
 intro value slice pins s σ H x y v u Q I rx ry h hs;obtain⟨p,xs,i,z,rfl,rfl,hq,he,q⟩:=h;cases rx;obtain⟨t,rfl⟩:=ry;obtain⟨its,r,pl,hz⟩:=I.list hq;obtain⟨j,h1,h2,h3,h4,h5⟩:=M6 he;obtain⟨w,ew,HW⟩:=r.get h2;have hl:=r.length;have hn:=Gf;have fin:EP X pins σ Q w s:=⟨z,H,I,HW,q⟩;by_cases h0:0<=i
 .have hj:i.toNat=j:=by
   rw[seqIndex_of h0 h5] at h1;exact bG.inj h1
  exact item_listR pl.isList h0 (~~~62) (by rw[hj];simpa using ew) fin hs
 .have hj:(i+(its.toArray.size:Int)).toNat =j:=by
   rw[seqIndex_neg (~~~62) h4] at h1;rw[a_,<-hl];exact bG.inj h1
  exact subscriptTail_builtinR (x:=w) pl.isList.typeIs slot_list_getitem.lookup
   (wpAny_getItem_list_neg (Q:=λr s'=>r=w/\EP X pins σ Q r s') pl.isList (~~~62) (by rw[a_]<;>omega) (~~~62) (by rw[hj];simpa using ew) ⟨rfl,fin⟩) hs
theorem YB:Fn X (S_ X.K):=by
 intro value slice pins s σ H x y v u Q I rx ry h hs;obtain⟨p,xs,i,z,rfl,rfl,hq,he,q⟩:=h;cases rx;obtain⟨t,rfl⟩:=ry;obtain⟨its,r,pl,hz⟩:=I.tuple hq;obtain⟨j,h1,h2,h3,h4,h5⟩:=M6 he;obtain⟨w,ew,HW⟩:=r.get h2;have hl:=r.length;have hn:=Gf;have fin:EP X pins σ Q w s:=⟨z,H,I,HW,q⟩;exact subscriptTail_builtinR (x:=w) pl.typeIs slot_tuple_getitem.lookup
  (getItem_tuple (j:=j) (Q:=λr s'=>r=w/\EP X pins σ Q r s') pl (~~~62) (~~~62) (by rw[a_,<-hl];exact h1) (by simpa using ew) ⟨rfl,fin⟩) hs
theorem LV (its:List Value) (n j:Nat) (u:Value):Obj.mapSeq (·.setIfInBounds j u) {cls:=.type "list",data:=.seq its.toArray n}={cls:=.type "list",data:=.seq (its.set j u).toArray n}:=by
 simp[Obj.mapSeq]
theorem Inv.lst {pins:List (~~~104)} {σ:St} {H:Hp} {s:Shared} {p:Addr} {xs:List V} (I:Inv X pins σ H s) (h:H p=some (~~~320)):
  ∃(its:List Value) (n:Nat),Vals xs its/\s.heap.get? p=some {cls:=.type "list",data:=.seq its.toArray n}/\xs.length<=sizeLine:=by
 obtain⟨z,its,n,r,e⟩:=I.iA p _ h;exact⟨its,n,r,e,z⟩
theorem Inv.YN {pins:List (~~~104)} {σ:St} {H:Hp} {s:Shared} {p:Addr} {xs ys:List V} {its its':List Value} {n n':Nat} {f:Obj->Obj} (I:Inv X pins σ H s) (h:H p=some (~~~320))
  (ho:s.heap.get? p=some {cls:=.type "list",data:=.seq its.toArray n}) (hf:f {cls:=.type "list",data:=.seq its.toArray n}={cls:=.type "list",data:=.seq its'.toArray n'}) (r:Vals ys its') (hz:ys.length<=sizeLine) (t:Nat):
  Inv X pins σ (upd H p (.lst ys)) {s with heap:=s.heap.update p f,toks:=t}:=by
 have e:(s.heap.update p f).get? p=some {cls:=.type "list",data:=.seq its'.toArray n'}:=by
  rw[f7 f ho (by rw[hf]<;>rfl),hf]
 refine I.write (x:=p) (e:=p) (by rw[h];trivial) (~~~288) (λb u hb q=>(c7 _ _ (Ne.symm hb)).trans q) ⟨_,e⟩ ?_;exact⟨hz,its',n',r,e⟩
def Xh:V->V->V->Hp->(Hp->Prop)->Prop:=λo i v H Q=>∃p xs k j,o=.ref p/\i=.int k/\H p=some (~~~320)/\R0 xs.length k=some j/\Q (upd H p (.lst (xs.set j v)))
theorem set_list:aaC X Xh:=by
 intro pins s σ H o i v ov iv u Q I ro ri rv h;obtain⟨p,xs,k,j,rfl,rfl,hp,hj,q⟩:=h;cases ro;obtain⟨t,rfl⟩:=ri;obtain⟨its,n,r,ho,hz⟩:=I.lst hp;obtain⟨h1,h2,h3,h4⟩:=Nu hj;have hl:=r.length;have hn:=Gf;have I':Inv X pins σ (upd H p (.lst (xs.set j v))) {s with heap:=s.heap.update p (Obj.mapSeq (·.setIfInBounds j u))}:=
  I.YN hp ho (LV its n j u) (r.set rv j) (by rw[ik];exact hz) s.toks
 by_cases h0:0<=k
 .have hk:k.toNat=j:=by
   rw[seqIndex_of h0 h4] at h1;exact bG.inj h1
  exact PySem.W.ki_setAt ho h0 (~~~62) (by rw[a_,<-hl];exact h4) (by rw[hk];exact⟨_,I',q⟩)
 .have hk:(k+(its.toArray.size:Int)).toNat =j:=by
   rw[seqIndex_neg (~~~62) h3] at h1;rw[a_,<-hl];exact bG.inj h1
  exact PySem.W.ki_setBack ho (~~~62) (by rw[a_,<-hl];exact h3) (~~~62) (by rw[hk];exact⟨_,I',q⟩)
theorem Hk (lo hi:Option Int) (n:Nat):(sliceBounds lo hi none n).1=((HT.JV n 0 lo:Nat):Int)/\(sliceBounds lo hi none n).2.1=((HT.JV n n hi:Nat):Int)/\(sliceBounds lo hi none n).2.2=1:=by
 refine⟨?_,?_,rfl⟩
 .cases lo with
  |none=>simp[sliceBounds,HT.JV]
  |some i=>
   simp only[sliceBounds,HT.JV,bH,show(1:Int)>0 by decide,if_true];by_cases h:i<0
   .simp only[h,if_true]<;>omega
   .simp only[h,if_false]<;>omega
 .cases hi with
  |none=>simp[sliceBounds,HT.JV]
  |some i=>
   simp only[sliceBounds,HT.JV,bH,show(1:Int)>0 by decide,if_true];by_cases h:i<0
   .simp only[h,if_true]<;>omega
   .simp only[h,if_false]<;>omega
theorem Eg (its:List Value) (lo hi:Option Int):slicePick its.toArray lo hi none=((its.drop (HT.JV its.length 0 lo)).take (HT.JV its.length its.length hi-HT.JV its.length 0 lo)).toArray :=by
 obtain⟨h1,h2,h3⟩:=Hk lo hi its.toArray.size;unfold slicePick;rw[h1,h2,h3];simp only[sliceRange_one,pick_run,a_]<;>rfl
def VP (K:af):V->Option Int->Option Int->Hp->VK->Prop:=λx lo hi H Q=>∃a xs,x=.ref a/\dz K H a xs/\∀p,H p=none->Q (.ref p) (upd H p (.lst (oF xs lo hi)))
theorem V2:Oo X (VP X.K):=by
 intro pins s σ H x v vl vu lo hi sl Q I rx hs pl pu h;obtain⟨a,xs,rfl,hx,q⟩:=h;cases rx;obtain⟨its,r,ht,hz⟩:=I.list hx;have hlen:=r.length;refine⟨"list",_,slot_list_getitem.lookup,ht.isList.typeIs,?_⟩;refine wpAny_getItem_list_slice ht.isList hs pl pu .none (~~~88) ?_ (by rw[a_]<;>omega);rw[Eg,<-hlen];refine⟨.ref s.heap.objs.size,_,I.laid (t':=s.toks) (o:=.lst (oF xs lo hi)) (λb ob q=>aq _ q) (aM _) ?_,rfl,q _ (I.iA.fresh (aM _))⟩;exact⟨bA (ID xs lo hi) hz,_,0,(r.drop (HT.JV xs.length 0 lo)).take (HT.JV xs.length xs.length hi-HT.JV xs.length 0 lo),aY _ rfl⟩
theorem FT:pS X (.builtin "len") (λxs H Q=>∃p ys,xs=[.ref p]/\(dz X.K H p ys\/mK X.K H p ys)/\Q (.int ys.length) H):=by
 exists 119;obtain⟨p,ys,rfl,hq,q⟩:=h;obtain⟨u,rfl,rx⟩:=vals1 r;cases rx;have hn:=Gf;rcases hq with hq|hq
 .obtain⟨its,r',pl,hz⟩:=I.list hq;have hlen:=r'.length;exact Calls.call_len_list pl.isList (by simp only[a_]<;>omega) ⟨.int ys.length,H,I.tok _,⟨s.toks+1,by rw[a_,hlen]⟩,q⟩
 .obtain⟨its,r',pl,hz⟩:=I.tuple hq;have hlen:=r'.length;exact len_tuple pl (by simp only[a_]<;>omega) ⟨.int ys.length,H,I.tok _,⟨s.toks+1,by rw[a_,hlen]⟩,q⟩
theorem Dt:pS X (.type "tuple") (λxs H Q=>∃p ys,xs=[.ref p]/\((dz X.K H p ys/\∀l,H l=none->Q (.ref l) (upd H l (.tup ys)))\/(mK X.K H p ys/\Q (.ref p) H))):=by
 exists 119;obtain⟨p,ys,rfl,h⟩:=h;obtain⟨u,rfl,rx⟩:=vals1 r;cases rx;rcases h with⟨hq,q⟩|⟨hq,q⟩
 .obtain⟨its,r',pl,hz⟩:=I.list hq;have hlen:=r'.length;refine call_tuple_list pl.isList (λh' kp=>?_) (by simp only[a_]<;>omega);have I1:Inv X pins σ H {s with heap:=h'}:=I.kept (t':=s.toks) kp;have I2:Inv X pins σ (upd H h'.objs.size (.tup ys)) {s with heap:=h'.push {cls:=.type "tuple",data:=.seq its.toArray}}:=
   I1.laid (t':=s.toks) (λb o e=>aq _ e) (aM _) (show j4 X.prog X.w _ _ _ (.tup ys) from⟨hz,its,r',IsTup.new _ _⟩)
  exact⟨.ref h'.objs.size,_,I2,rfl,q _ (~~~242)⟩
 .obtain⟨its,r',pl,hz⟩:=I.tuple hq;exact call_tuple_same pl ⟨.ref p,H,I,rfl,q⟩
def XA (K:af) (T:String) (x:V) (H:Hp):Prop:=match x with
 | .str _=>T="str"
 | .int _=>T="int"
 | .ref p=>(T="list"/\∃xs,dz K H p xs)\/(T="tuple"/\∃o,K.lookup p=some o/\o.cls=.type "tuple"/\o.dict=none)\/
   (T="dict"/\((∃kz,H p=some (.dK kz))\/∃kz,H p=some (.dT kz)))\/(T="set"/\∃S n,H p=some (.set S n))
 |_=>False
theorem ZQ {pins:List (~~~104)} {σ:St} {H:Hp} {s:Shared} {T:String} {x:V} {v:Value} (I:Inv X pins σ H s) (r:RelV x v) (ty:XA X.K T x H):
  s.TypeIs v T/\∀a,v=.ref a->∃ob,s.heap.get? a=some ob/\ob.dict=none:=by
 cases x with
 |str z=>
  exists 81;cases(show T="str" from ty);exact⟨typeIs_str s z t,λ_ e=>nomatch e⟩
 |int i=>
  exists 81;cases(show T="int" from ty);exact⟨typeIs_int s i t,λ_ e=>nomatch e⟩
 |ref p=>
  cases r;rcases ty with⟨rfl,xs,hq⟩|⟨rfl,o,hk,hc,hd⟩|⟨rfl,hk⟩|⟨rfl,S,n,hk⟩
  .obtain⟨its,_,pl,_⟩:=I.list hq;refine⟨pl.isList.typeIs,λa e=>?_⟩;cases e;obtain⟨o,n,e,c,hd,_⟩:=pl;exact⟨o,e,hd⟩
  .refine⟨⟨o,I.KC p o hk,hc⟩,λa e=>?_⟩;cases e;exact⟨o,I.KC _ o hk,hd⟩
  .have z:∃o,s.heap.get? p=some o/\o.ExactDict:=by
    rcases hk with⟨kz,hk⟩|⟨kz,hk⟩
    .obtain⟨_,_,_,_,o,_,_,e,ex,_⟩:=I.iA p _ hk;exact⟨o,e,ex⟩
    .obtain⟨_,_,_,_,o,_,_,e,ex,_⟩:=I.iA p _ hk;exact⟨o,e,ex⟩
   obtain⟨o,e,ex⟩:=z;refine⟨⟨o,e,ex.1⟩,λa e2=>?_⟩;cases e2;exact⟨o,e,ex.2.1⟩
  .obtain⟨o,_,_,_,e,ex,_⟩:=I.iA p _ hk;refine⟨⟨o,e,ex.1⟩,λa e2=>?_⟩;cases e2;exact⟨o,e,ex.2.1⟩
 |_=>exact False.elim ty
def tBM (K:af) (T:String) (r:V->List V->Hp->VK->Prop) (to:TE) (t:TA):TE:=fun σ H Q=>to σ H λx H1=>XA K T x H1/\t σ H1 λxs H2=>r x xs H2 Q
variable {o e:Expr} {es:List Expr} {to:TE} {t:TA} {name:Str} {apos tX:Pos} {T id:String} {r:V->List V->Hp->VK->Prop}
theorem nI (pa:PlainAttrs T) (slot:Slot T name id) (hty:typeOf (.builtin id)=pure (.type "method_descriptor")) (hm:Z1 X id r) (ho:PE X o to) (ha:PA X (e::es) t)
  (abm:attributeBase o name X.env (eval o X.env)=eval o X.env:=by rfl)
  (aek:((backTo tX (starEach (e::es) X.env)).all (λx=> !x.1)&&(backToKw tX (keywordEach [] X.env)).all (λx=>x.1.isSome)
   &&decide ((e::es).length +([]:List Keyword).length +(if([]:List Keyword).isEmpty then 0 else 1)<30))=true:=by rfl)
  (abw:(apos.endLine==tX.line)=true:=by rfl) (hs:starEach (e::es) X.env=(false,eval e X.env)::starEach es X.env:=by rfl) (Ys:(backTo tX (starEach es X.env)).any (·.1)=false:=by rfl):
  PE X (.Call (.Attribute o name apos) (e::es) [] tX) (tBM X.K T r to t):=by
 exists 10;refine wpAny_Call_method_late abm aek abw rfl (jx (~~~307) λv s1 ⟨x,H1,I1,r1,ty,q1⟩=>?_);obtain⟨h1,h2⟩:=ZQ I1 r1 ty;refine⟨T,id,pa,slot,hty,h1,h2,?_⟩;have hA:=ha tX pins s1 σ H1 _ I1 q1;rw[hs] at hA⊢;refine Calls.callWith_builtin (by show(false||(backTo tX (starEach es X.env)).any (·.1))=false;rw[Ys]<;>rfl) (Calls.evalArgs_plain ?_);exact jx hA λus s2 ⟨vs,H2,I2,r2,q2⟩=>hm pins s2 σ H2 x vs v us Q I2 r1 r2 q2
end
end L2
namespace L2
open PySem PySem.Spec PyProof.Rows
def Kq (X:Cx) (id:String) (r:V->List V->Hp->VK->Prop):Prop:=
 ∀(pins:List (~~~104)) (s:Shared) (σ:St) (H:Hp) (x:V) (xs:List V) (v:Value) (us:List Value) (Q:VK),Inv X pins σ H s->RelV x v->Vals xs us->r x xs H Q->
  wpAny (~~~65) X.A (call (.builtin id) (v::us)) (~~~178) X.xe s
theorem Vals.one:∀{x:V} {us:List Value},Vals [x] us->∃u,us=[u]/\RelV x u
 |_,_,.cons r .nil =>⟨_,rfl,r⟩
theorem Vals.rep {xs:List V} {us:List Value} (h:Vals xs us):∀k:Nat,Vals (bT k xs).flatten (bT k us).flatten
 |0=>.nil
 |k+1=>by
  rw[dF,dF,eR,eR];exact Vals.append h (Vals.rep h k)
theorem foldl_rep (its:List Value):∀(k:Nat) (acc:List Value),
  Bf (λx1 x2=>x1++x2) acc.toArray (bT k its.toArray)=(acc++(bT k its).flatten).toArray
 |0,acc=>by simp
 |k+1,acc=>by
  have e:acc.toArray++its.toArray=(acc++its).toArray :=by simp
  have e2:(acc++its)++(bT k its).flatten =acc++(bT (k+1) its).flatten :=by
   rw[dF,eR,cV]
  rw[<-e2,<-foldl_rep its k (acc++its),<-e,dF,dm]
section
variable {X:Cx} {pins:List (Addr×Obj)} {σ:St} {H:Hp} {s:Shared} {l b:Addr} {xs ys zs:List V}
theorem Inv.LQ {its its':List Value} {n:Nat} {f:Array Value->Array Value} {t':Nat} (I:Inv X pins σ H s) (hH:H l=some (~~~320))
  (e:s.heap.get? l=some {cls:=.type "list",data:=.seq its.toArray n}) (hf:f its.toArray=its'.toArray) (hv:Vals ys its') (hz:ys.length<=sizeLine):
  Inv X pins σ (upd H l (.lst ys)) {s with heap:=s.heap.update l (Obj.mapSeq f),toks:=t'}:=by
 have q:=PySem.IsL.update e f;rw[hf] at q;refine I.write (x:=l) (e:=l) (by rw[hH];exact trivial) (~~~288) (λb' u hb hu=>(c7 s.heap (Obj.mapSeq f) (Ne.symm hb)).trans hu) ⟨_,q⟩ ?_;exact⟨hz,its',_,hv,q⟩
theorem Inv.abJ {its:List Value} {t':Nat} (I:Inv X pins σ H s) (hv:Vals ys its) (hz:ys.length<=sizeLine):
  Inv X pins σ (upd H s.heap.objs.size (.lst ys)) {s with heap:=s.heap.push {cls:=.type "list",data:=.seq its.toArray},toks:=t'}:=
 I.laid (λ_ _ q=>aq _ q) (aM _) ⟨hz,its,0,hv,aY _ rfl⟩
theorem Inv.fresh (I:Inv X pins σ H s):H s.heap.objs.size=none:=I.iA.fresh (aM _)
theorem Inv.Jh (I:Inv X pins σ H s) (hH:H l=some (~~~320)):xs.length<=sizeLine/\∃(its:List Value) (n:Nat),Vals xs its/\xs.length=its.length/\s.heap.get? l=some {cls:=.type "list",data:=.seq its.toArray n}:=by
 obtain⟨z,its,n,r,e⟩:=I.iA l _ hH;exact⟨z,its,n,r,r.length,e⟩
theorem Cf {n:Nat} (h:n<=sizeLine):Builtin.List.listTooLong n=false:=by
 unfold Builtin.List.listTooLong;exact decide_eq_false (~~~62)
end
section
variable {X:Cx}
def A2:V->List V->Hp->VK->Prop:=λx vs H Q=>∃l xs y,x=.ref l/\vs=[y]/\H l=some (~~~320)/\xs.length<sizeLine/\Q .jL (upd H l (.lst (xs++[y])))
theorem ki:Kq X "list.append" A2:=by
 exists 129;obtain⟨l,xs,y,rfl,rfl,hH,hz,q⟩:=h;cases rx;obtain⟨u,rfl,ru⟩:=rv.one;exists 59;refine call_meets F.slot_list_append ⟨_,e,rfl⟩ F.entry_list_append (F.args_list_append_2 _ _) (PySem.list_append l its.toArray n u (by rw[a_];omega)) ⟨e,?_⟩;refine⟨.jL,_,I.LQ (its':=its++[u]) hH e (~~~88) (r.append (.cons ru .nil)) ?_,rfl,q⟩;rw[au,List.length_singleton];omega
def GW:V->List V->Hp->VK->Prop:=λx vs H Q=>∃l b xs zs,x=.ref l/\vs=[.ref b]/\H l=some (~~~320)/\H b=some (.lst zs)/\xs.length+zs.length<=sizeLine/\Q .jL (upd H l (.lst (xs++zs)))
theorem Pc:Kq X "list.extend" GW:=by
 exists 129;exists 112;cases rx;obtain⟨u,rfl,ru⟩:=rv.one;cases ru;exists 59;obtain⟨z2,o8,n2,r2,oI,e2⟩:=I.Jh hB;have hsz:its.toArray.size+o8.toArray.size<=sizeLine:=by rw[a_,a_];omega
 have I_:¬(!its.toArray.isEmpty&&Builtin.List.listTooLong (its.toArray.size+o8.toArray.size))=true:=by
  rw[Cf hsz,jY];exact bS
 refine call_meets F.slot_list_extend ⟨_,e,rfl⟩ F.entry_list_extend (F.args_list_extend_2 _ _)
  (AutoSeq1.list_extend_list_list_0 l its.toArray n b o8.toArray n2 I_ (by rw[a_];omega) (~~~62)) ⟨e,e2,?_⟩
 refine⟨.jL,_,I.LQ (its':=its++o8) hH e (~~~88) (r.append r2) ?_,rfl,q⟩;rw[au];omega
def ab2:R2:=λx y H Q=>∃l b xs zs,x=.ref l/\y=.ref b/\H l=some (~~~320)/\H b=some (.lst zs)/\xs.length+zs.length<=sizeLine/\∀p,H p=none->Q (.ref p) (upd H p (.lst (xs++zs)))
theorem dY:AG X (binaryOp .Add) ab2:=by
 exists 11;exists 112;cases rx;cases ry;exists 59;obtain⟨z2,o8,n2,r2,oI,e2⟩:=I.Jh hB;refine PySem.P.add_list e e2 ?_ (by rw[a_,a_];omega);have ea:its.toArray++o8.toArray=(its++o8).toArray :=by simp
 rw[ea];exact⟨.ref _,_,I.abJ (t':=s.toks) (r.append r2) (by rw[au];omega),rfl,q _ I.fresh⟩
def afb:R2:=λx y H Q=>∃l k xs,x=.ref l/\y=.int k/\H l=some (~~~320)/\ -(2^63)<=k/\k<2^63/\xs.length*k.toNat<=sizeLine/\
 ∀p,H p=none->Q (.ref p) (upd H p (.lst (bT k.toNat xs).flatten))
theorem len_rep {α:Type} (xs:List α) (k:Nat):(bT k xs).flatten.length =k*xs.length:=by
 induction k with
 |zero=>simp
 |succ k ih=>rw[dF,eR,au,ih,Nat.succ_mul,oB]
theorem L9:AG X (binaryOp .Mult) afb:=by
 exists 11;obtain⟨l,k,xs,rfl,rfl,hH,h1,h2,hz,q⟩:=h;cases rx;obtain⟨t,rfl⟩:=ry;exists 59;have hlen:its.toArray.size*k.toNat<=sizeLine:=by rw[a_,<-hl];exact hz
 have aef:¬its.toArray.size*k.toNat>(2^63-1)/8:=by
  have:(sizeLine:Nat)<=(2^63-1)/8:=by decide
  omega
 have ael:¬(!Builtin.List.listFitsIndex k)=true:=by
  rw[fitsIndex_both h1 h2];exact bS
 have I_:¬Builtin.List.listTooLong (its.toArray.size*k.toNat)=true:=by
  rw[Cf hlen];exact bS
 have aeu:Bf (λx1 x2=>x1++x2) #[] (bT (if its.toArray.isEmpty=true then 0 else k.toNat) its.toArray)=(bT k.toNat its).flatten.toArray :=by
  have f0:∀m:Nat,Bf (λx1 x2=>x1++x2) #[] (bT m its.toArray)=(bT m its).flatten.toArray :=λm=>by
   have:=foldl_rep its m [];rw[iq] at this;exact this
  rw[f0];cases its with
  |nil=>simp
  |cons a r'=>rw[if_neg (~~~88)]
 refine wpAny_binaryOp_repeat_ref (T:="list") (U:="int") (~~~73) ⟨_,e,rfl⟩ (λs'=>typeIs_int s' k t) noFill_list_mul F.fills_int_mul F.slot_int_rmul repeat_list F.slot_int_index.lookup
  (call_meets F.slot_int_rmul (typeIs_int s k t) F.entry_int_rmul (F.args_int_rmul_2 _ _) (int___rmul___int_list k t l its.toArray n)
   ⟨e,rfl,⟨_,e,rfl⟩,call_meets F.slot_list_mul ⟨_,e,rfl⟩ F.entry_list_mul (F.args_list_mul_2 _ _) (AutoListH.list___mul___list_int_3 l its.toArray n k t ael aef I_) ⟨e,?_⟩⟩)
 rw[aeu];exact⟨.ref _,_,I.abJ (t':=s.toks) (r.rep k.toNat) (by rw[len_rep,lX];exact hz),rfl,q _ I.fresh⟩
end
section
variable {prog:Program} {w:World} {A:Around} {E:Value->Shared->Prop} {s:Shared}
set_option maxRecDepth 100000 in
end
section
variable {X:Cx}
end
end L2
namespace L2
open PySem PySem.Spec PyProof.Rows
theorem Vals.ints:∀{ns:List Int} {us:List Value},Vals (ns.map V.int) us->IntsAre us ns
 | [],us,h=>by
  rw[aV] at h;cases h;exact IntsAre.nil
 |n::ns,us,h=>by
  rw[az] at h;cases h with
  |cons r t=>
   obtain⟨k,rfl⟩:=r;exact IntsAre.cons n k (Vals.ints t)
theorem Vals.Qv:∀{bs:List Bool} {us:List Value},Vals (bs.map V.bl) us->us=bs.map Value.bool
 | [],us,h=>by
  rw[aV] at h;cases h;rfl
 |b::bs,us,h=>by
  rw[az] at h;cases h with
  |cons r t=>
   cases r;rw[Vals.Qv t,az]
theorem Vals.VQ {a:Addr} {us:List Value} (r:Vals [V.ref a] us):us=[Value.ref a]:=by
 cases r with
 |cons r t=>
  cases t;cases r;rfl
section
variable {prog:Program} {w:World} {A:Around} {E:Value->Shared->Prop} {s:Shared} {l:Addr} {its:List Value} {ns:List Int} {Q:Value->Shared->Prop}
theorem Wd (hh:A.handled=none) (hl:s.heap.IsList l its.toArray) (hi:IntsAre its ns)
  (h:∀h' tk t',(∀b o,s.heap.get? b=some o->h'.get? b=some o)->Q (.int ns.sum t') {s with heap:=h',toks:=tk}):wpAny (~~~70) A (call (.builtin "sum") [.ref l]) Q E s:=by
 obtain⟨xs,e⟩:=hi.allInts.items;have hn:numsOf (intItems xs).toList =ns:=by rw[<-e];exact hi.numsOf
 rw[nums_intItems] at hn;rw[e] at hl;refine PySem.sum_intListG hh hl λh' tk t' hk=>?_;have:=h h' tk t' hk;rw[preSum_eq,jm (~~~88),hn];exact this
end
section
variable {X:Cx}
def ab5 (K:af):List V->Hp->VK->Prop:=λvs H Q=>∃(a:Addr) (ns:List Int),vs=[V.ref a]/\dz K H a (ns.map V.int)/\Q (.int ns.sum) H
theorem XY (hc:X.calm=true):pS X (.builtin "sum") (ab5 X.K):=by
 exists 82;obtain⟨a,ns,rfl,hs,q⟩:=h;exists 93;exact Wd (~~~300) hl.isList rv.ints λh' tk t' hk=>⟨.int _,H,I.kept hk,⟨_,rfl⟩,q⟩
end
section
variable {X:Cx}
end
section
variable {X:Cx}
end
theorem Je {prog:Program} {w:World} {A:Around} {E:Value->Shared->Prop} {s:Shared} {l:Addr} {items:Array Value} {Q:Value->Shared->Prop} (hl:s.heap.IsList l items)
  (h:∀pG:Shared,pG={s with heap:=s.heap.push {cls:=.type "list_iterator",data:=.fields #[.ref l,.int 0 0]}}->
   (pG.heap.IsListIter s.heap.objs.size l 0/\pG.heap.IsList l items)->l≠s.heap.objs.size->Q (~~~109) pG):wpAny (model prog w) A (pyIter (.ref l)) Q E s:=by
 have Dh:l<s.heap.objs.size:=by obtain⟨_,e,_⟩:=hl;exact aX e
 exact wpAny_pyIter_list hl (h _ rfl ⟨⟨_,aY _ rfl,rfl,rfl⟩,hl.push _⟩ (cT Dh))
theorem zR {prog:Program} {w:World} {A:Around} {bs:List Bool} {its:List Value} (e:its=bs.map Value.bool):
  TruthOf prog w A (λi v=>its.toArray[i]?=some v) (λi=>bs.getD i false):=λi v s Q E hv hq=>by
 have MO:its[i]?=some v:=by simpa using hv
 rw[e,bo] at MO;obtain⟨b,hb,rfl⟩:=lY.mp MO;have hg:bs.getD i false=b:=by rw[ai,hb]<;>rfl
 have W0:Q (bs.getD i false) s:=hq;rw[hg] at W0;exact wpAny_truthy_bool W0
theorem any_range:∀bs:List Bool,(ax bs.length).any (λi=>bs.getD i false)=bs.any id
 | []=>rfl
 |b::bs=>by
  rw[aL,jl,mZ,wK,mZ,<-any_range bs]
  all_goals rfl
theorem all_range:∀bs:List Bool,(ax bs.length).all (λi=>bs.getD i false)=bs.all id
 | []=>rfl
 |b::bs=>by
  rw[aL,jl,bu,rp,bu,<-all_range bs]
  all_goals rfl
section
variable {X:Cx}
def ab1 (K:af):List V->Hp->VK->Prop:=λvs H Q=>∃(a:Addr) (bs:List Bool),vs=[V.ref a]/\dz K H a (bs.map V.bl)/\Q (.bl (bs.any id)) H
def ab0 (K:af):List V->Hp->VK->Prop:=λvs H Q=>∃(a:Addr) (bs:List Bool),vs=[V.ref a]/\dz K H a (bs.map V.bl)/\Q (.bl (bs.all id)) H
theorem XX (hc:X.calm=true):pS X (.builtin "any") (ab1 X.K):=by
 exists 82;obtain⟨a,bs,rfl,hs,q⟩:=h;exists 93;have hb:=rv.Qv;refine call_any_walk (Je hl.isList λpG e2 st jE=>?_);subst e2;refine⟨_,_,_,_,_,_,_,rfl,Walks.list (A:=X.A.in1) (~~~300) _ a jE its.toArray,st,zR hb,λh' tk hk=>?_⟩;refine⟨.bl _,H,I.kept λb o eo=>hk b o (λLH=>?_) (aq _ eo),?_,q⟩
 .rcases aB.mp LH with e1|LH
  .exact absurd (e1▸aX eo) (cM _)
  .cases LH
 .show Value.bool _=Value.bool _;rw[<-any_range,hb,a_,ag]
theorem XW (hc:X.calm=true):pS X (.builtin "all") (ab0 X.K):=by
 exists 82;obtain⟨a,bs,rfl,hs,q⟩:=h;exists 93;have hb:=rv.Qv;refine call_all_walk (Je hl.isList λpG e2 st jE=>?_);subst e2;refine⟨_,_,_,_,_,_,_,rfl,Walks.list (A:=X.A.in1) (~~~300) _ a jE its.toArray,st,zR hb,λh' tk hk=>?_⟩;refine⟨.bl _,H,I.kept λb o eo=>hk b o (λLH=>?_) (aq _ eo),?_,q⟩
 .rcases aB.mp LH with e1|LH
  .exact absurd (e1▸aX eo) (cM _)
  .cases LH
 .show Value.bool _=Value.bool _;rw[<-all_range,hb,a_,ag]
end
mutual
inductive Dp (K:af) (H:Hp):V->PyData->Prop
 |jL:Dp K H .jL .none
 |bl (b:Bool):Dp K H (.bl b) (.bool b)
 |int (i:Int):Dp K H (.int i) (.int i)
 |str (x:Str):Dp K H (.str x) (.str x)
 |lst {a:Addr} {xs:List V} {ds:List PyData}:dz K H a xs->En K H xs ds->Dp K H (.ref a) (.list ds)
 |tup {a:Addr} {xs:List V} {ds:List PyData}:mK K H a xs->En K H xs ds->Dp K H (.ref a) (.tuple ds)
inductive En (K:af) (H:Hp):List V->List PyData->Prop
 |nil:En K H [] []
 |cons {v:V} {vs:List V} {d:PyData} {ds:List PyData}:Dp K H v d->En K H vs ds->En K H (v::vs) (d::ds)
end
section
variable {X:Cx} {pins:List (Addr×Obj)} {σ:St} {H:Hp} {s:Shared}
mutual
theorem Dp.reads (I:Inv X pins σ H s):∀(d:PyData) (v:V) (u:Value),Dp X.K H v d->RelV v u->∃as,Reads s.heap u d as
 | .none,_,_,h,r=>by
  cases h;cases r;exact⟨_,Reads.none⟩
 | .bool b,_,_,h,r=>by
  cases h;cases r;exact⟨_,Reads.bool b⟩
 | .int i,_,_,h,r=>by
  cases h;exists 81;exact⟨_,Reads.int i t⟩
 | .str x,_,_,h,r=>by
  cases h;exists 81;exact⟨_,Reads.str x t⟩
 | .list ds,_,_,h,r=>by
  cases h with
  |lst hs ha=>
   cases r;obtain⟨its,rv,⟨o,n,ho,hc,_,hd⟩,_⟩:=I.list hs;obtain⟨as,hr⟩:=Dp.readsAll I ds _ its ha rv;exact⟨_,Reads.list ho hc hd hr⟩
 | .tuple ds,_,_,h,r=>by
  cases h with
  |tup hs ha=>
   cases r;obtain⟨its,rv,⟨o,ho,hc,n,hd⟩,_⟩:=I.tuple hs;obtain⟨as,hr⟩:=Dp.readsAll I ds _ its ha rv;exact⟨_,Reads.tuple ho hc hd hr⟩
 | .dict _,_,_,h,_=>by cases h
theorem Dp.readsAll (I:Inv X pins σ H s):∀(ds:List PyData) (vs:List V) (us:List Value),En X.K H vs ds->Vals vs us->∃as,ReadsAll s.heap us ds as
 | [],_,_,h,r=>by
  cases h;cases r;exact⟨_,ReadsAll.nil⟩
 |d::ds,_,_,h,r=>by
  cases h with
  |cons h1 h2=>
   cases r with
   |cons r1 r2=>
    obtain⟨as,q1⟩:=Dp.reads I d _ _ h1 r1;obtain⟨bs,q2⟩:=Dp.readsAll I ds _ _ h2 r2;exact⟨_,ReadsAll.cons q1 q2⟩
end
end
section
variable {X:Cx}
def ab3 (K:af):R2:=λx y H Q=>∃d e,Dp K H x d/\Dp K H y e/\SeqAt.shaped d=true/\SeqAt.shaped e=true/\Q (.bl (PyData.eqv d e)) H
def ab4 (K:af):R2:=λx y H Q=>∃d e,Dp K H x d/\Dp K H y e/\SeqAt.shaped d=true/\SeqAt.shaped e=true/\Q (.bl (!PyData.eqv d e)) H
theorem YY (hu:X.A.units+64<cLine):AG X (compareOp .Eq) (ab3 X.K):=by
 exists 11;obtain⟨d,e,hd,he,sd,se,q⟩:=h;obtain⟨as,r1⟩:=Dp.reads I d x v hd rx;obtain⟨bs,r2⟩:=Dp.reads I e y u he ry;exact SeqAt.compareEq_shaped r1 r2 sd se hu ⟨.bl _,H,I,rfl,q⟩
theorem YZ (hu:X.A.units+64<cLine):AG X (compareOp .NotEq) (ab4 X.K):=by
 exists 11;obtain⟨d,e,hd,he,sd,se,q⟩:=h;obtain⟨as,r1⟩:=Dp.reads I d x v hd rx;obtain⟨bs,r2⟩:=Dp.reads I e y u he ry;exact SeqAt.compareNe_shaped r1 r2 sd se hu ⟨.bl _,H,I,rfl,q⟩
end
end L2
namespace L2
open PySem PySem.Spec PyProof.Rows
abbrev QX (h:Heap) (c:Addr) (v:Option Value):Prop:=h.IsCell c v
def afc (scope sc:Scope):Scope:=
 {scope with names:=scope.names.map λ(n,k)=>if(k== .free &&sc.kind== .function &&sc.names.lookup n==some .cell) then(n,.cell) else(n,k)}
def gz (cells:List (~~~186)):List (~~~231)->List (~~~186)->List (~~~186)
 | [],acc=>acc
 |(n,k)::r,acc=>if k== .free then gz cells r ((n,(cells.lookup n).getD 0)::acc) else gz cells r acc
theorem xf (env:Env) (f:Str×NameKind->List (~~~186)->Sem (ForInStep (List (~~~186))))
  (hf:∀n k c,f (n,k) c=if k== .free then(do let a<-cellOf env n;pure (.yield ((n,a)::c))) else pure (.yield c)):
  ∀(names:List (~~~231)) (acc:List (~~~186)),(∀y∈names,y.2=.free ->∃c,env.cells.lookup y.1=some c)->forIn names acc f=pure (gz env.cells names acc)
 | [],acc,_=>by rw[j0];rfl
 |(n,k)::r,acc,h=>by
  rw[kO,hf];have ih:=λacc=>xf env f hf r acc λy hy=>h y (aA _ hy);unfold gz;by_cases hk:(k==NameKind.free)=true
  .rw[if_pos hk,if_pos hk];obtain⟨c,hc⟩:=h (n,k) aH (by simpa using hk);have e:cellOf env n=pure c:=by unfold cellOf;rw[hc]
   rw[e];have e2:(env.cells.lookup n).getD 0=c:=by rw[hc];rfl
   rw[e2];exact ih _
  .rw[if_neg hk,if_neg hk];exact ih _
theorem Ls {scope:Scope} {env:Env} (h:∀y∈scope.names,y.2=.free ->∃c,env.cells.lookup y.1=some c):closureFor scope env=pure (gz env.cells scope.names []):=by
 simp only[closureFor];rw[xf env _ (λn k c=>rfl) scope.names [] h];rfl
theorem mem_lookup {α:Type}:∀{l:List (Str×α)} {n:Str} {c:α},(n,c)∈l->∃c',l.lookup n=some c'
 |(k,v)::r,n,c,h=>by
  rw[g9];cases hb:n==k with
  |true=>exact⟨_,rfl⟩
  |false=>
   rcases aB.mp h with e|h
   .cases e;simp at hb
   .exact mem_lookup h
theorem pT {cells:List (~~~186)}:∀{names:List (~~~231)} {acc:List (~~~186)} {n:Str} {c:Addr},(n,c)∈gz cells names acc->(n,c)∈acc\/((n,.free)∈names/\c=(cells.lookup n).getD 0)
 | [],_,_,_,h=>.inl h
 |(m,k)::r,acc,n,c,h=>by
  unfold gz at h;split at h
  .rename_i hk;have hk:k=.free :=by simpa using hk
   rcases pT h with h|⟨h1,h2⟩
   .rcases aB.mp h with e|h
    .cases e;exact .inr ⟨hk▸aH,rfl⟩
    .exact .inl h
   .exact .inr ⟨aA _ h1,h2⟩
  .rcases pT h with h|⟨h1,h2⟩
   .exact .inl h
   .exact .inr ⟨aA _ h1,h2⟩
theorem tV {cells:List (~~~186)}:∀{names:List (~~~231)} {acc:List (~~~186)} {p:Str×Addr},p∈acc->p∈gz cells names acc
 | [],_,_,h=>h
 |(m,k)::r,acc,p,h=>by
  unfold gz;split
  .exact tV (aA _ h)
  .exact tV h
theorem tW {cells:List (~~~186)}:∀{names:List (~~~231)} {acc:List (~~~186)} {n:Str},(n,.free)∈names->(n,(cells.lookup n).getD 0)∈gz cells names acc
 |(m,k)::r,acc,n,h=>by
  unfold gz;rcases aB.mp h with e|h
  .cases e;exact tV aH
  .split
   .exact tW h
   .exact tW h
theorem qK:∀{names:List (~~~231)} {h:Heap} {acc:List (~~~186)} {x:Str} {c:Addr},(x,c)∈cellsFrom h.objs.size names acc->
  (x,c)∈acc\/((x,.cell)∈names/\h.objs.size<=c/\QX (pushCells h names) c none)
 | [],_,_,_,_,h=>.inl h
 |(n,k)::r,h,acc,x,c,hm=>by
  unfold cellsFrom at hm;unfold pushCells;split at hm
  .rename_i hk;rw[if_pos hk];have hk:k=.cell :=by simpa using hk
   rw[<-cg h {cls:=.type "cell",data:=.cell none}] at hm;rcases qK hm with hm|⟨h1,h2,h3⟩
   .rcases aB.mp hm with e|hm
    .cases e;exact .inr ⟨hk▸aH,aM _,_,pushCells_keeps r _ _ _ (aY _ rfl),rfl⟩
    .exact .inl hm
   .rw[cg] at h2;exact .inr ⟨aA _ h1,lV h2,h3⟩
  .rename_i hk;rw[if_neg hk];rcases qK hm with hm|⟨h1,h2,h3⟩
   .exact .inl hm
   .exact .inr ⟨aA _ h1,h2,h3⟩
theorem uK:∀{names:List (~~~231)} {n:Nat} {acc:List (~~~186)} {p:Str×Addr},p∈acc->p∈cellsFrom n names acc
 | [],_,_,_,h=>h
 |(m,k)::r,n,acc,p,h=>by
  unfold cellsFrom;split
  .exact uK (aA _ h)
  .exact uK h
theorem yo:∀{names:List (~~~231)} {n:Nat} {acc:List (~~~186)} {x:Str},(x,.cell)∈names->∃c,(x,c)∈cellsFrom n names acc
 |(m,k)::r,n,acc,x,h=>by
  unfold cellsFrom;rcases aB.mp h with e|h
  .cases e;exact⟨n,uK aH⟩
  .split
   .exact yo h
   .exact yo h
theorem yq:∀{names:List (~~~231)} {h:Heap} {acc:List (~~~186)} {x y:Str} {c:Addr},(∀p∈acc,p.2<h.objs.size)->(∀x y c,(x,c)∈acc->(y,c)∈acc->x=y)->
  (x,c)∈cellsFrom h.objs.size names acc->(y,c)∈cellsFrom h.objs.size names acc->x=y
 | [],_,_,_,_,_,_,hi,h1,h2=>hi _ _ _ h1 h2
 |(n,k)::r,h,acc,x,y,c,hl,hi,h1,h2=>by
  unfold cellsFrom at h1 h2;split at h1
  .rename_i hk;rw[if_pos hk] at h2;rw[<-cg h {cls:=.type "cell",data:=.cell none}] at h1 h2;refine yq (h:=h.push _) (λp hp=>?_) (λx y c a b=>?_) h1 h2
   .rw[cg];rcases aB.mp hp with rfl|hp
    .exact qC _
    .exact lW (hl p hp)
   .rcases aB.mp a with e|a<;>rcases aB.mp b with e'|b
    .cases e;cases e';rfl
    .cases e;exact absurd (hl _ b) (cM _)
    .cases e';exact absurd (hl _ a) (cM _)
    .exact hi _ _ _ a b
  .rename_i hk;rw[if_neg hk] at h2;exact yq hl hi h1 h2
theorem Jl {M:Model} {A:Around} {E:Value->Shared->Prop} {s:Shared} {scope:Scope} {globals:Addr} {closure:List (~~~186)} {qual:Str} {func:Option Addr} {code:Value} {around:Env} {builtins:Addr} {Q:Env->Shared->Prop}
  (h:Q (newEnv scope s.heap.objs.size globals (cellsFrom (~~~72) scope.names closure) qual func code (some around) builtins)
   {s with heap:=pushCells (~~~100) scope.names}):
  wpAny M A (newFunctionEnv scope globals closure [] qual func code (some around) builtins) Q E s:=by
 simp only[newFunctionEnv,Option.isSome_some,if_true];refine wpAny_bind (wpAny_alloc ?_);refine wpAny_bind (wpAny_layCells _ (λn k c=>rfl) scope.names closure _ _ ?_);rw[show({s with heap:=s.heap.push {cls:=.type "dict",data:=.dict #[]}}:Shared).heap.objs.size =s.heap.objs.size+1 from cg ..];rw[j0];exact wpAny_bind (wpAny_pure (wpAny_pure h))
theorem ug {sc:Scope}:∀{names:List (~~~231)} {x:Str} {k:NameKind},
  (names.map λ(n,k)=>if(k==NameKind.free&&sc.kind== .function &&sc.names.lookup n==some .cell) then(n,NameKind.cell) else(n,k)).lookup x=some k->
  ∃k',names.lookup x=some k'/\(k=k'\/(k'=.free /\k=.cell))
 | [],_,_,h=>by simp at h
 |(n,R7)::r,x,k,h=>by
  have ih:=@ug sc r x k;have h':j1 x ((if(~~~139)=true then(n,NameKind.cell) else(n,R7))::(r.map _))=some k:=h;cases hx:x==n with
  |true=>
   simp only[g9,hx];by_cases hc:(~~~139)=true
   .rw[if_pos hc] at h';simp only[g9,hx] at h';cases h';simp only[aC,beq_iff_eq] at hc;exact⟨R7,rfl,.inr ⟨hc.1.1,rfl⟩⟩
   .rw[if_neg hc] at h';simp only[g9,hx] at h';cases h';exact⟨_,rfl,.inl rfl⟩
  |false=>
   simp only[g9,hx];by_cases hc:(~~~139)=true
   .rw[if_pos hc] at h';simp only[g9,hx] at h';exact ih h'
   .rw[if_neg hc] at h';simp only[g9,hx] at h';exact ih h'
structure Em (N:List Str) (sc scope:Scope) (own:List (Str×Nat)):Prop where
 kind:scope.kind=.function
 uniq:∀y∈scope.names,scope.names.lookup y.1=some y.2
 ix:∀p∈own,N[p.2]?=some p.1
 free:∀y∈scope.names,y.2=.free ->sc.names.lookup y.1=some .cell \/sc.names.lookup y.1=some .free
 own:∀y∈scope.names,y.2=.local \/y.2=.cell ->y.1∈own.map (·.1)\/y.1∉N
def wipe (σ:St):List Nat->St
 | []=>σ
 |v::vs=>(wipe σ vs).set v none
theorem uG (σ:St):∀vs:List Nat,(wipe σ vs).length =σ.length
 | []=>rfl
 |v::vs=>by unfold wipe;rw[ik,uG σ vs]
theorem ze {σ:St} {i:Nat} {x:V}:∀{vs:List Nat},(wipe σ vs)[i]?=some (some x)->σ[i]?=some (some x)/\i∉vs
 | [],h=>⟨h,by simp⟩
 |v::vs,h=>by
  unfold wipe at h;by_cases hi:v=i
  .subst hi;by_cases hv:v< (wipe σ vs).length
   .rw[cN hv] at h;cases h
   .rw[cq (by simpa using hv)] at h;cases h
  .rw[eD hi] at h;obtain⟨h1,h2⟩:=ze h;exact⟨h1,by simp only[aB,not_or];exact⟨λe=>hi e.symm,h2⟩⟩
abbrev Cx.yl (X:Cx) (s:Shared) (H:Hp) (scope:Scope) (kK:Env) (fp:List Addr):Cx:={X with E7:=s,Ek:=H,env:=kK,outer:=X.stack,ex:=fp,fn:=λx=>scope.names.lookup x==some .cell,pn:=[],xe:=λ_ _=>False}
section
variable {X:Cx} {pins:List (Addr×Obj)} {σ:St} {H:Hp} {s:Shared}
theorem Ik {scope:Scope} {own:List (Str×Nat)} {fp:List Addr} (I:Inv X pins σ H s) (ok:Em X.N X.env.scope scope own) (hN:X.N.Nodup) (WX:∀b∈fp,wW X pins H b/\b<s.heap.objs.size):
  Inv (X.yl s H scope (compEnvC scope (cellsFrom (~~~72) scope.names (~~~291)) s.heap.objs.size X.env) fp) [] (wipe σ (own.map (·.2))) H {s with heap:=pushCells (~~~100) scope.names}:=by
 have EJ:∀y∈scope.names,y.2=.free ->∃c,X.env.cells.lookup y.1=some c:=λy hy e=>by
  rcases ok.free y hy e with k|k
  .exact I.ok.has _ (.inl k)
  .exact I.ok.has _ (.inr k)
 generalize IZ:compEnvC scope (cellsFrom (~~~72) scope.names (~~~291)) s.heap.objs.size X.env=kK;have kp:∀b o,s.heap.get? b=some o->(pushCells (~~~100) scope.names).get? b=some o:=λb o e=>pushCells_keeps _ _ _ _ (aq _ e);have hL:kK.locals=s.heap.objs.size:=by rw[<-IZ];rfl
 have Yo:kK.cells=cellsFrom (~~~72) scope.names (~~~291):=by rw[<-IZ];rfl
 have UE:kK.scope=afc scope X.env.scope:=by rw[<-IZ];rfl
 rw[<-cg s.heap {cls:=.type "dict",data:=.dict #[]}] at Yo;have cm:∀{y c},(y,c)∈gz X.env.cells scope.names []->X.env.cells.lookup y=some c/\c<s.heap.objs.size:=λ{y c} hm=>by
  rcases pT hm with hm|⟨h1,rfl⟩
  .cases hm
  .obtain⟨c,hc⟩:=EJ _ h1 rfl;rw[hc];obtain⟨w,z⟩:=I.cell _ _ hc;exact⟨rfl,z.lt⟩
 have mem:∀{y c},kK.cells.lookup y=some c->(X.env.cells.lookup y=some c/\c<s.heap.objs.size)\/(s.heap.objs.size+1<=c/\QX (pushCells (~~~100) scope.names) c none):=λ{y c} e=>by
  rw[Yo] at e;rcases qK (cG e) with hm|⟨_,h2,h3⟩
  .exact .inl (cm hm)
  .rw[cg] at h2;exact .inr ⟨h2,h3⟩
 have look:∀{y},scope.names.lookup y=some .free ->∃c,kK.cells.lookup y=some c/\X.env.cells.lookup y=some c:=λ{y} hl=>by
  have hy:(y,NameKind.free)∈scope.names:=cG hl;obtain⟨c',e'⟩:=mem_lookup (uK (names:=scope.names) (n:=(~~~100).objs.size) (tW (cells:=X.env.cells) (acc:=[]) hy));rw[<-Yo] at e';refine⟨c',e',?_⟩;rw[Yo] at e';rcases qK (cG e') with hm|⟨h1,_,_⟩
  .exact(cm hm).1
  .have:=ok.uniq _ h1;rw[hl] at this;cases this
 have okB:(X.yl s H scope kK fp).Ok :=by
  refine⟨I.ok.mod,by show kK.scope.kind=_;rw[UE];exact ok.kind,by show kK.globals=_;rw[<-IZ];exact I.ok.glob,by show kK.builtins=_;rw[<-IZ];exact I.ok.blt,by show s.heap.objs.size<=kK.locals;rw[hL];exact aM _,
   λy z c e1 e2=>?_,λy hy=>?_,λy c z e=>?_,I.ok.hd,I.ok.frames,.inl rfl,λb hb=>⟨?_,λy c e z=>?_⟩,I.bs,bA I.ok.U0 I.sz,λb o e hb=>?_,λb hb z=>?_,I.stack,I.NW⟩
  .have e1:kK.cells.lookup y=some c:=e1;have e2:kK.cells.lookup z=some c:=e2;rw[Yo] at e1 e2;refine yq (λp hp=>?_) (λy z c a b=>I.ok.inj y z c (cm a).1 (cm b).1) (cG e1) (cG e2);rw[cg];exact lW (cm (y:=p.1) (c:=p.2) hp).2
  .show∃c,kK.cells.lookup y=some c;have key:∀k,kK.kindOf y=some k->(k=.cell \/k=.free)->∃c,kK.cells.lookup y=some c:=λk hk HF=>by
    unfold Env.kindOf at hk;rw[UE] at hk;obtain⟨k',e,r⟩:=ug hk;have:k'=.cell \/k'=.free :=by
     rcases r with rfl|⟨rfl,_⟩
     .exact HF
     .exact .inr rfl
    rcases this with rfl|rfl
    .obtain⟨c,hm⟩:=yo (n:=(~~~100).objs.size) (acc:=gz X.env.cells scope.names []) (cG e);obtain⟨c',e'⟩:=mem_lookup hm;exact⟨c',by rw[Yo];exact e'⟩
    .obtain⟨c,h1,_⟩:=look e;exact⟨c,h1⟩
   rcases hy with hy|hy
   .exact key _ hy (~~~288)
   .exact key _ hy (.inr rfl)
  .have z:(scope.names.lookup y==some NameKind.cell)=true:=z;have z:scope.names.lookup y=some .cell :=by simpa using z
   exists 99;rw[Yo] at e;rcases qK (cG e) with hm|⟨_,h2,_⟩
   .rcases pT hm with hm|⟨h1,_⟩
    .cases hm
    .have q:=ok.uniq _ h1;rw[z] at q;cases q
   .rw[cg] at h2;exact lV h2
  .show b≠kK.locals;rw[hL];exact cT (WX b hb).2
  .exists 99;rcases mem e with⟨h1,_⟩|⟨h1,_⟩
   .exact(WX b hb).1.2.2.2.2.1 y c h1 z
   .have h2:s.heap.objs.size+1<=b:=by rw[<-z];exact h1
    exact absurd (aT (WX b hb).2 (lV h2)) (cM _)
  .rcases(WX b hb).1.2.2.2.1 with z|z
   .exact I.ok.Sn b o e z
   .exact absurd (aT (aX e) (bA I.ok.U0 z)) (cM _)
  .rcases aB.mp (I.MD b z) with z|z
   .exact(WX b hb).1.2.1 z
   .exact(WX b hb).1.2.2.1 z
 refine⟨okB,rfl,I.bare,Un.kept kp,⟨λ_=>none,?_,λi y av e1 e2 e3=>?_⟩,λy c e=>?_,?_,λy c e=>?_,λp hp=>?_,I.iA.kept kp,by rw[uG];exact I.len⟩
 .show MN _ kK.locals _;rw[hL];exact MN.keeps (MN.new ..) λb o e=>pushCells_keeps _ _ _ _ e
 .obtain⟨e2,jE⟩:=ze e2;have QI:scope.names.lookup y=some .free /\(kK.kindOf y=some .cell \/kK.kindOf y=some .free):=by
   have key:∀k,kK.scope.names.lookup y=some k->k=.local \/k=.cell \/k=.free ->scope.names.lookup y=some .free /\(kK.kindOf y=some .cell \/kK.kindOf y=some .free):=λk hk HF=>by
    have hk0:=hk;rw[UE] at hk;obtain⟨k',e,r⟩:=ug hk;have no:¬(k'=.local \/k'=.cell):=λhh=>by
     rcases ok.own _ (cG e) hh with e'|e'
     .obtain⟨p,hp,hpy⟩:=aS.mp e';have e3:=ok.ix p hp;have:p.1=y:=hpy;rw[this] at e3;exact jE (aS.mpr ⟨p,hp,Cd hN e3 e1⟩)
     .exact e' (aw e1)
    rcases r with rfl|⟨rfl,rfl⟩
    .rcases HF with rfl|rfl|rfl
     .exact absurd (~~~288) no
     .exact absurd (.inr rfl) no
     .exact⟨e,.inr hk0⟩
    .exact⟨e,.inl hk0⟩
   have e3:Z2 kK.scope y:=e3;rcases e3 with e3|e3|e3
   .exact key _ e3 (~~~288)
   .exact key _ e3 (.inr (~~~288))
   .exact key _ e3 (.inr (.inr rfl))
  obtain⟨m,hn,hl⟩:=I.loc;have aeL:Z2 X.env.scope y:=(ok.free _ (cG QI.1) rfl).elim (λk=>.inr (.inl k)) (λk=>.inr (.inr k));obtain⟨w,r,q⟩:=hl i y av e1 e2 aeL;refine⟨w,r,.inr ⟨QI.2,?_⟩⟩;obtain⟨c,h1,h2⟩:=look QI.1;rcases q with⟨k,_⟩|⟨_,c',e',z⟩
  .have k:X.env.scope.names.lookup y=some .local :=k;rcases ok.free _ (cG QI.1) rfl with k'|k'<;>rw[show X.env.scope.names.lookup y=_ from k'] at k<;>cases k
  .rw[h2] at e';cases e';exact⟨c,h1,z.keeps kp⟩
 .exists 99;rcases mem e with⟨h1,_⟩|⟨_,z⟩
  .obtain⟨w,z⟩:=I.cell y c h1;exact⟨w,z.keeps kp⟩
  .exact⟨_,z⟩
 .show H kK.locals=none;rw[hL];exact I.iA.fresh (aM _)
 .exists 99;rcases mem e with⟨h1,_⟩|⟨h1,_⟩
  .exact I.t7 y c h1
  .exact I.iA.fresh (lV h1)
 .exact absurd (show p∈([]:List (~~~104))++[] from hp) (~~~88)
theorem XN {E:Value->Shared->Prop} {D:Addr} {xs:List V} {y:V} {v:Value} {Q:Value->Shared->Prop} (I:Inv X pins σ H s) (hD:H D=some (~~~320)) (hz:xs.length<sizeLine) (r:RelV y v)
  (h:∀s',Inv X pins σ (upd H D (.lst (xs++[y]))) s'->Q .none s'):wpAny (~~~65) X.A (call (.builtin "list.append") [.ref D,v]) Q E s:=by
 obtain⟨Yw,its,n,ri,e⟩:=I.iA D _ hD;have hl:=ri.length;refine append_at (hsz:=by rw[a_];omega) e λh' sb Ux=>?_;refine h {s with heap:=h'} (I.write (t':=s.toks) (by rw[hD];trivial) (~~~288) (λb u hb q=>(sb.2 b hb).trans q) ⟨_,Ux⟩ ⟨by rw[au];exact hz,its++[v],n+1,ri.append (.cons r .nil),?_⟩);rw[Ux];simp
def Fp (X:Cx) (ifs:List Expr) (t:TT):Prop:=
 ∀(pins:List (~~~104)) (s:Shared) (σ:St) (H:Hp) (Q:Bool->Hp->Prop),Inv X pins σ H s->t σ H Q->
  wpAny (~~~65) X.A (forIn ifs true λc r=>if r=true then do let ok<-isTrue c X.env (eval c X.env);pure (ForInStep.yield ok) else pure (ForInStep.yield r)) (TP X pins σ Q) X.xe s
def acz:TT:=λ_ H Q=>Q true H
theorem dj:Fp X [] acz:=λ_ _ _ H _ I h=>wpAny_tests_nil ⟨H,I,h⟩
end
theorem Qj {α:Type} {t:Sem α} {Q Q':α->Shared->Prop} {M:Model} {A:Around} {E:Value->Shared->Prop} {s:Shared} (h:wpAny M A t Q (λ_ _=>False) s) (hQ:∀a s,Q a s->Q' a s):wpAny M A t Q' E s:=wpAny_mono h hQ λ_ _ z=>False.elim z
theorem FV {prog:Program} {w:World} {A:Around} {R:Result->Shared->Prop} {s:Shared} {elt target iter:Expr} {ifs:List Expr} {scope:Scope} {pos:Pos} {it acc:Value} {env:Env} (I:Nat->Shared->Prop)
  (turn:∀n s,I n s->wpAny (~~~70) A (pyNext it) (λr fG=>match r with
   |none=>R (.ok .next) fG
   |some v=>wpAny (~~~70) A (letOwnedTupleGo target it v) (λ_ Xj=>wpAny (~~~70) A (assign target env v) (λ_ pG=>
     wpAny (~~~70) A (forIn ifs true λc r=>if r=true then do let ok<-isTrue c env (eval c env);pure (ForInStep.yield ok) else pure (ForInStep.yield r)) (λok Qg=>
      if ok=true then wpAny (~~~70) A (eval elt env) (λx acn=>
       wpAny (~~~70) A (call (.builtin "list.append") [acc,x]) (λ_ aco=>∃m,m<n/\I m aco) (notedBy (~~~70) A env λe s'=>R (.error e) s') acn) (notedBy (model prog w) A env λe s'=>R (.error e) s') Qg
      else∃m,m<n/\I m Qg) (notedBy (model prog w) A env λe s'=>R (.error e) s') pG) (notedBy (model prog w) A env λe s'=>R (.error e) s') Xj) (notedBy (model prog w) A env λe s'=>R (.error e) s') fG) (notedBy (model prog w) A env λe s'=>R (.error e) s') s)
  (n:Nat) (h:I n s):
  codeAny (~~~70) A (.compLoop (.ListComp elt [⟨target,iter,ifs,0⟩] scope pos) 0 it acc env) R s:=by
 refine codeAny_loop rfl I (λn s hI=>?_) n h;show wpAny _ A ((compTurn (.ListComp elt [⟨target,iter,ifs,0⟩] scope pos) 0 it acc env).onRaise (λx=>do noteFrame x env;theTreesLotGoes x)) _ _ s;refine wpAny_noted ?_;rw[compTurn_list];refine wpAny_bind (wpAny_standAt (wpAny_bind (wpAny_mono (turn n s hI) (λr fG Jd=>?_) λ_ _ h'=>h')));cases r with
 |none=>exact wpAny_pure Jd
 |some v=>
  refine wpAny_bind (wpAny_mono Jd (λ_ Xj abE=>?_) λ_ _ h'=>h');refine wpAny_bind (wpAny_mono abE (λ_ pG RQ=>wpAny_bind (wpAny_mono RQ (λok Qg Vk=>?_) λ_ _ h'=>h')) λ_ _ h'=>h');cases ok with
  |false=>exact wpAny_pure ⟨rfl,Vk⟩
  |true=>
   exact wpAny_bind (wpAny_bind (wpAny_mono Vk (λx acn aeR=>wpAny_bind (wpAny_mono aeR (λ_ aco aeS=>wpAny_pure (wpAny_pure ⟨rfl,aeS⟩)) λ_ _ h'=>h')) λ_ _ h'=>h'))
section
variable {X:Cx}
def Dk (wi:TI) (g:TG) (tt:TT) (te:TE) (vs:List Nat):TE:=fun σ H Q=>wi σ H λJ H1=>∀D,H1 D=none->∃W:Nat->Nat->Hp->Prop,(∃m,W 0 m (upd H1 D (.lst [])))/\∀i m H,W i m H->
 (J.stop i H/\Q (.ref D) H)\/(J.go i H/\∃Nx:Hp->Prop,(∀H',Nx H'->∃m',m'<m/\W (i+1) m' H')/\∀x H',J.Kk i H x H'->g x (wipe σ vs) H' fun σ2 H2=>wipe σ2 vs=wipe σ vs/\tt σ2 H2 λb H3=>
  if b=true then te σ2 H3 λy H4=>∃acc,H4 D=some (.lst acc)/\acc.length<sizeLine/\Nx (~~~235) else Nx H3)
theorem Nv {pins:List (~~~104)} {s:Shared} {σ:St} {H:Hp} {Q:VK} {elt tg iter:Expr} {ifs:List Expr} {scope:Scope} {own:List (Str×Nat)} {pos pos':Pos} {wi:TI} {g:TG} {tt:TT} {te:TE} {use:Option (Value->Sem Unit)} {Qf:Value->Shared->Prop}
  (hc:X.calm=true) (hN:X.N.Nodup) (I:Inv X pins σ H s) (hi:PI X tg iter wi) (ok:Em X.N X.env.scope scope own)
  (hg:∀(s:Shared) (H:Hp) (C:Addr) (cl:List (~~~186)) (fp:List Addr),PG (~~~68) tg g) (ht:∀(s:Shared) (H:Hp) (C:Addr) (cl:List (~~~186)) (fp:List Addr),Fp (~~~68) ifs tt)
  (he:∀(s:Shared) (H:Hp) (C:Addr) (cl:List (~~~186)) (fp:List Addr),PE (~~~68) elt te) (hs:∀x,foldedSetIterable iter X.env x=pure x)
  (h:Dk wi g tt te (own.map (·.2)) σ H Q)
  (hRR:∀D C s' m H',Inv X pins σ H' s'->Q (.ref D) H'->s'.heap.Ns C m->wW X pins H' C->compPost (~~~65) X.A X.xe use Qf (.ref D) C (.ok .next) s'):
  wpAny (~~~65) X.A (comprehension (~~~75) scope X.env pos' (newList []) false (eval iter X.env) use) Qf X.xe s:=by
 have EJ:∀y∈scope.names,y.2=.free ->∃c,X.env.cells.lookup y.1=some c:=λy hy e=>by
  rcases ok.free y hy e with k|k
  .exact I.ok.has _ (.inl k)
  .exact I.ok.has _ (.inr k)
 refine wpAny_comprehension_free (use:=use) rfl hs (Ls EJ) ok.kind (λy hy e=>by rw[ok.uniq y hy,e])
  (jx (hi pins s σ H _ I h) λxv s1 hx=>jx hx λUL s2 h2=>?_)
 obtain⟨it,fp,tn,J,H2,e,I2,T,Oc,f2,q⟩:=h2;subst e;refine wpAny_newObj_type (Jl ?_) (by show 0<=sizeLine;decide);generalize hD:s2.heap.objs.size=D;have hDn:H2 D=none:=I2.iA.fresh (rD hD);obtain⟨W,⟨m0,w0⟩,turn⟩:=q D hDn;generalize MM:({s2 with heap:=s2.heap.push {cls:=.type "list",data:=.seq ([]:List Value).toArray}}:Shared)=s3;have I3:Inv X pins σ (~~~236) s3:=by
  rw[<-MM];refine I2.laid (t':=s2.toks) (λb o e=>aq _ e) (rD hD) ⟨cj _,[],0,.nil,?_⟩;rw[<-hD];exact aY _ rfl
 have h3:s3.heap=s2.heap.push {cls:=.type "list",data:=.seq ([]:List Value).toArray}:=by rw[<-MM]
 have sz:∀b∈fp,b<s2.heap.objs.size:=λb hb=>by
  obtain⟨o,e,_⟩:=T.obj _ _ Oc b hb;exact aX e
 have f3:∀b∈fp,wW X pins (~~~236) b/\b<s3.heap.objs.size:=λb hb=>by
  have Dh:=sz b hb;refine⟨⟨?_,(f2 b hb).2⟩,by rw[h3,cg];exact lW Dh⟩;rw[c6 (by rw[<-hD];exact cT Dh)];exact(f2 b hb).1
 have Od:tn 0 s3.heap:=T.keep _ _ _ Oc λb _ o e=>by rw[h3];exact aq _ e
 have I4:=Ik I3 ok hN f3;have pg:=hg s3 (~~~236) s3.heap.objs.size (~~~77) fp;have pt:=ht s3 (~~~236) s3.heap.objs.size (~~~77) fp;have pe:=he s3 (~~~236) s3.heap.objs.size (~~~77) fp;show codeAny _ _ (.compStart (~~~75) 0 (.ref it) (.ref D) (compEnvC scope (~~~77) s3.heap.objs.size X.env)) (compPost (~~~65) X.A X.xe use Qf (.ref D) s3.heap.objs.size) {s3 with heap:=pushCells (s3.heap.push {cls:=.type "dict",data:=.dict #[]}) scope.names};have nfp:∀b∈fp,(~~~236) b=none:=λb hb=>(f3 b hb).1.1;generalize Yn:compEnvC scope (~~~77) s3.heap.objs.size X.env=ce at I4 pg pt pe⊢;have cL:ce.locals=s3.heap.objs.size:=by subst Yn;rfl
 generalize hH3:upd H2 D (.lst [])=H3 at I3 I4 pg pt pe w0 nfp f3;generalize hs4:({s3 with heap:=pushCells (s3.heap.push {cls:=.type "dict",data:=.dict #[]}) scope.names}:Shared)=s4 at I4⊢;have st4:tn 0 s4.heap:=T.keep _ _ _ Od λb _ o e=>by rw[<-hs4];exact pushCells_keeps _ _ _ _ (aq _ e)
 have Mu:∀{σ':St} {H':Hp} {s':Shared},Inv (~~~171) [] σ' H' s'->(∀b∈fp,H' b=none)->∀b∈fp,wW (~~~171) [] H' b:=λ{σ' H' s'} I' hn b hb=>
  ⟨hn b hb,(I'.ok.KJ b hb).1,I'.ok.Rq b hb,.inl hb,λx c e=>(I'.ok.KJ b hb).2 x c e,λp hp=>absurd (show p∈([]:List (~~~104))++[] from hp) (~~~88)⟩
 have loop:codeAny (~~~65) X.A (.compLoop (~~~75) 0 (.ref it) (.ref D) ce) (compPost (~~~65) X.A X.xe use Qf (.ref D) s3.heap.objs.size) s4:=by
  refine FV (λn s'=>∃i H',Inv (~~~171) [] (wipe σ (own.map (·.2))) H' s'/\tn i s'.heap/\(∀b∈fp,H' b=none)/\W i n H') ?_ m0 ⟨0,H3,I4,st4,nfp,w0⟩;rintro n s5 ⟨i,H5,I5,Df,n5,w5⟩;rcases turn i n H5 w5 with⟨stop,qq⟩|⟨go,Nx,hNx,step⟩
  .have td:=T.done (~~~171) rfl rfl rfl hc i [] s5 _ H5 (λ_ _=>False) I5 (Mu I5 n5) Df stop;refine Qj td λr s6 ⟨hr,I6⟩=>?_;subst hr;have I7:Inv X pins σ H5 s6:=I3.aaO (ch:=fp) I6.os I6.base I6.iA I6.bare λb hb=>⟨(f3 b hb).1.2.2.2.1,(f3 b hb).1.2.1,(f3 b hb).1.2.2.2.2.1,(f3 b hb).1.2.2.2.2.2⟩;have nC:H5 s3.heap.objs.size=none:=by
    have z:H5 ce.locals=none:=I6.free;rw[cL] at z;exact z
   obtain⟨m,hn,_⟩:=I6.loc;have hn:s6.heap.Ns ce.locals m:=hn;rw[cL] at hn;exact hRR D s3.heap.objs.size s6 m H5 I7 qq hn (I3.BS (aM _) nC)
  .have ti:=T.item (~~~171) rfl rfl rfl hc i [] s5 _ H5 (λ_ _=>False) I5 (Mu I5 n5) Df go;refine Qj ti λr s6 ⟨u,hr,h6⟩=>?_;subst hr;refine Qj h6 λ_ s7 ⟨x,H7,I7,r7,y7,Xx,n7⟩=>?_;have I7':=I7.pinned (Mu I7 n7) (T.obj _ _ Xx);refine Qj (pg _ s7 _ H7 x u _ I7' r7 (step x H7 y7)) λ_ s8 ⟨σ8,H8,I8,Z',q8⟩=>?_;refine Qj (pt _ s8 σ8 H8 _ I8 q8) λb s9 ⟨H9,I9,q9⟩=>?_;have fin:∀{s':Shared} {H':Hp},Inv (~~~171) ([]++Cz fp s7.heap) σ8 H' s'->Nx H'->∃m,m<n/\∃i H',Inv (~~~171) [] (wipe σ (own.map (·.2))) H' s'/\tn i s'.heap/\(∀b∈fp,H' b=none)/\W i m H':=λ{s' H'} I' nx=>by
    obtain⟨m',hm,w'⟩:=hNx H' nx;have abY:∀b∈fp,∀o,s7.heap.get? b=some o->s'.heap.get? b=some o/\H' b=none:=λb hb o e=>
     let z:=I'.pin (b,o) (cf _ (cf _ (vQ hb e)))
     ⟨z.1,z.2.1⟩
    have hl:(wipe σ (own.map (·.2))).length =σ8.length:=by rw[<-Z',uG]
    refine⟨m',hm,i+1,H',(I'.xV (pins:=[])).weak hl (λj v e=>?_),T.keep _ _ _ Xx λb hb o e=>(abY b hb o e).1,λb hb=>?_,w'⟩
    .rw[<-Z'] at e;exact(ze e).1
    .obtain⟨o,e,_⟩:=T.obj _ _ Xx b hb;exact(abY b hb o e).2
   cases b with
   |false=>
    simp only[hJ,if_false] at q9⊢;exact fin I9 q9
   |true=>
    simp only[if_true] at q9⊢;refine Qj (pe _ s9 σ8 H9 _ I9 q9) λz DW ⟨yv,HD,I10,r10,acc,ad',aeP,nx⟩=>?_;exact XN (X:=X.yl s3 H3 scope ce fp) I10 ad' aeP r10 λGY I11=>fin I11 nx
 exact codeAny_compStart_list loop (T.self X.A 0 _ _ _ st4 loop)
theorem iN {elt tg iter:Expr} {ifs:List Expr} {scope:Scope} {own:List (Str×Nat)} {pos:Pos} {wi:TI} {g:TG} {tt:TT} {te:TE} (hc:X.calm=true) (hN:X.N.Nodup) (hi:PI X tg iter wi) (ok:Em X.N X.env.scope scope own)
  (hg:∀(s:Shared) (H:Hp) (C:Addr) (cl:List (~~~186)) (fp:List Addr),PG (~~~68) tg g) (ht:∀(s:Shared) (H:Hp) (C:Addr) (cl:List (~~~186)) (fp:List Addr),Fp (~~~68) ifs tt)
  (he:∀(s:Shared) (H:Hp) (C:Addr) (cl:List (~~~186)) (fp:List Addr),PE (~~~68) elt te) (hs:∀x,foldedSetIterable iter X.env x=pure x:=by intro _;rfl):
  PE X (~~~75) (Dk wi g tt te (own.map (·.2))):=by
 exists 10;rw[eval_ListComp];refine Nv hc hN I hi ok hg ht he hs h λD C s' m H' I' q hn f=>⟨m,hn,λHE sb=>?_⟩;obtain⟨f0,f1,f2,f3,f4,f5⟩:=f;exact⟨.ref D,H',I'.turned (t':=s'.toks) (~~~275) f0 f1 f3 f4 f5,rfl,q⟩
theorem SY {i:Nat} {y:Str} {py:Pos} {elt tg iter:Expr} {ifs:List Expr} {scope:Scope} {own:List (Str×Nat)} {pos TM:Pos} {wi:TI} {g:TG} {tt:TT} {te:TE} (hc:X.calm=true) (hN:X.N.Nodup) (hy:X.N[i]?=some y) (MP:X.env.scope.names.lookup y=some .local)
  (UG:swapsWith (~~~75) (some (.Name y py)) TM.line X.env=pure true) (hi:PI X tg iter wi) (ok:Em X.N X.env.scope scope own)
  (hg:∀(s:Shared) (H:Hp) (C:Addr) (cl:List (~~~186)) (fp:List Addr),PG (~~~68) tg g) (ht:∀(s:Shared) (H:Hp) (C:Addr) (cl:List (~~~186)) (fp:List Addr),Fp (~~~68) ifs tt)
  (he:∀(s:Shared) (H:Hp) (C:Addr) (cl:List (~~~186)) (fp:List Addr),PE (~~~68) elt te) (hs:∀x,foldedSetIterable iter X.env x=pure x:=by intro _;rfl):
  PS X (.Assign [.Name y py] (~~~75) TM) (Qh (Dk wi g tt te (own.map (·.2))) (zy i)):=by
 exists 40;rw[exec_Assign_Name_used _ _ _ _ UG];refine wpAny_bind (wpAny_standAt (wpAny_bind ?_));show wpAny _ X.A (do let _<-comprehension (~~~75) scope X.env (firstIterPos [⟨tg,iter,ifs,0⟩] pos) (newList []) false (eval iter X.env) (some (assign (.Name y py) X.env))) _ _ s;have h:Dk wi g tt te (own.map (·.2)) σ H (λx H1=>zy i x σ H1 D.nx):=h;refine wpAny_bind (jx (Nv (Qf:=λ_ s'=>SP X pins D .next s') hc hN I hi ok hg ht he hs h λL C s' m H' I' q hn f=>?_) λ_ s' hq=>wpAny_pure (wpAny_pure hq));show wpAny _ _ (assign (.Name y py) X.env (.ref L)) _ _ _;refine wpAny_assign_Name (E9 (v:=V.ref L) I' hN hy (.inl MP) rfl (λs2 I2 ⟨a,sb,ha⟩=>?_) (.inr MP));obtain⟨f0,f1,f2,f3,f4,f5⟩:=f;have haC:C≠a:=by
  rcases ha with z|z
  .rw[z];exact f1
  .exact λe=>f4 y a z e.symm
 refine⟨m,hn.sameBut sb haC,λh3 sb3=>?_⟩;exact⟨_,H',I2.turned (t':=s2.toks) (λb o hb e=>(sb3.2 b hb).trans e) f0 f1 f3 f4 f5,q⟩
theorem We {elt:Expr} {gs:List Comprehension} {scope:Scope} {pos py:Pos} {y:Str} {l:Nat} {env:Env} (hk:env.scope.kind=.function) (hy:env.scope.names.lookup y=some .local) (hl:(py.line==pos.line)=true)
  (ha:(scope.names.any λ(n,k)=>n==y&&(k== .local ||k== .cell))=false):swapsWith (.ListComp elt gs scope pos) (some (.Name y py)) l env=pure true:=by
 have ky:env.kindOf y=some .local :=hy;have hb:env.blockKind=.function :=by unfold Env.blockKind;rw[hk];rfl
 unfold swapsWith;simp only[hb,ky,ha,Expr.pos,hl];rfl
end
def aaI (N:List Str) (sc scope:Scope) (own:List (Str×Nat)):Bool:=
 (match scope.kind with| .function =>true|_=>false)&&(scope.names.all λy=>decide (scope.names.lookup y.1=some y.2))&&(own.all λp=>decide (N[p.2]?=some p.1))&&
  (scope.names.all λy=>match y.2 with
   | .free =>(match sc.names.lookup y.1 with|some .cell =>true|some .free =>true|_=>false)
   | .local =>decide (y.1∈own.map (·.1))||decide (y.1∉N)
   | .cell =>decide (y.1∈own.map (·.1))||decide (y.1∉N)
   |_=>true)
theorem cH {N:List Str} {sc scope:Scope} {own:List (Str×Nat)} (h:aaI N sc scope own=true):Em N sc scope own:=by
 unfold aaI at h;simp only[aC,fw,decide_eq_true_eq] at h;obtain⟨⟨⟨h1,h2⟩,h3⟩,h4⟩:=h;refine⟨?_,h2,h3,λy hy e=>?_,λy hy e=>?_⟩
 .split at h1
  .assumption
  .cases h1
 .have q:=h4 y hy;simp only[e] at q;split at q<;>first|exact .inl (by assumption)|exact .inr (by assumption)|cases q
 .have q:=h4 y hy;rcases e with e|e<;>(simp only[e,zU,decide_eq_true_eq] at q;exact q)
end L2
namespace L2
open PySem PySem.Spec PyProof.Rows
section
variable {prog:Program} {w:World} {A:Around} {R:Result->Shared->Prop} {s:Shared} {elt t0 i0 t1 i1:Expr} {aiP aiQ:List Expr} {scope:Scope} {pos:Pos} {it acc:Value} {env:Env}
end
section
variable {X:Cx}
end
end L2
namespace L2
open PySem PySem.Spec PyProof.Rows
section
variable {κ:Type} [DecidableEq κ]
theorem yh.getD {o:Option V} {u:Option Value} {d:V} {d':Value} (r:yh o u) (rd:RelV d d'):RelV (o.getD d) (u.getD d'):=by
 cases o with
 |none=>cases u with
  |none=>exact rd
  |some _=>exact(show False from r).elim
 |some _=>cases u with
  |none=>exact(show False from r).elim
  |some _=>exact r
end
section
variable {P:Program} {w:World} {H:Hp} {h:Heap} {a:Addr}
end
section
variable {X:Cx} {pins:List (Addr×Obj)} {σ:St} {H:Hp} {s:Shared} {a:Addr} {y v:V} {u r:Value} {o:Option V} {A:Around} {E:Value->Shared->Prop}
end
section
variable {X:Cx} {pins:List (Addr×Obj)} {σ:St} {H:Hp} {s:Shared} {a:Addr} {kz:List (Key×V)} {k:Key} {u:Value} {A:Around} {E:Value->Shared->Prop}
end
def aaA (i:Expr):Prop:=∀ov iv,subscripted i false ov iv=operate [ov,iv] (getItem ov iv)
theorem Wc {prog:Program} {w:World} {A:Around} {E:Value->Shared->Prop} {s:Shared} {env:Env} {value slice:Expr} {pos:Pos} {T id:String} {Q:Value->Shared->Prop}
  (hl:typeLookup (.type T) "__getitem__"=pure (some (.builtin id))) (hs:aaA slice)
  (h:wpAny (~~~70) A (eval value env) (λo fG=>wpAny (~~~70) A (eval slice env) (λi pG=>pG.TypeIs o T/\wpAny (~~~70) A (getItem o i) Q E pG) E fG) E s):
  wpAny (~~~70) A (eval (.Subscript value slice pos) env) Q E s:=by
 refine Subscript_ (wpAny_mono h (λo fG Jd=>wpAny_mono Jd (λi pG RQ=>?_) λ_ _ x=>x) λ_ _ x=>x);obtain⟨hT,RQ⟩:=RQ;unfold subscriptTail;exists 46;rw[getitemInPython_of_ne hT.not_modules];refine wpAny_bind (wpAny_specialOf hT hl ?_);have fin:wpAny (~~~70) A (subscripted slice false o i) (λr Qg=>wpAny (~~~70) A (letTemporaryGo value o r>>=λ_=>pure r) Q E Qg) E pG:=by
  rw[hs o i];exact wpAny_operating (wpAny_mono RQ (λr Qg Vk=>wpAny_bind (wpAny_letTemporaryGo (wpAny_pure Vk))) λ_ _ x=>x)
 first
  |exact wpAny_pure (wpAny_bind fin)
  |exact wpAny_bind (wpAny_pure (wpAny_bind fin))
  |exact wpAny_bind fin
section
variable {X:Cx} {o i e value:Expr} {pos pos' wy:Pos} {td ty tv:TE}
end
section
variable {X:Cx} {pos:Pos}
end
structure M2 (X:Cx) (o:Expr) (m:Str) (apos:Pos) (e f:Expr) (tX:Pos):Prop where
 base:attributeBase o m X.env (eval o X.env)=eval o X.env
 few:((backTo tX (starEach [e,f] X.env)).all (λx=> !x.1)&&(backToKw tX (keywordEach [] X.env)).all (λx=>x.1.isSome)
  &&decide (([e,f]:List Expr).length +([]:List Keyword).length +(if([]:List Keyword).isEmpty then 0 else 1)<30))=true
 line:(apos.endLine==tX.line)=true
 trees:backTo tX (starEach [e,f] X.env)=[(false,eval e X.env),(false,eval f X.env)]
section
variable {X:Cx} {pins:List (Addr×Obj)} {σ:St} {H:Hp} {s:Shared} {a:Addr} {y d:V} {u r:Value} {o:Option V} {A:Around} {E:Value->Shared->Prop}
end
section
variable {X:Cx} {o e f:Expr} {apos tX:Pos} {td ty tx:TE}
end
section
variable {X:Cx} {pins:List (Addr×Obj)} {σ:St} {H:Hp} {s:Shared} {a:Addr} {kz:List (Key×V)} {A:Around} {E:Value->Shared->Prop}
end
section
variable {X:Cx} {pins:List (Addr×Obj)} {σ:St} {H:Hp} {s:Shared} {a:Addr} {y:V} {u:Value} {A:Around} {E:Value->Shared->Prop}
end
end L2
namespace L2
open PySem PySem.Spec PyProof.Rows
section
variable {prog:Program} {w:World} {A:Around} {E:Value->Shared->Prop}
end
section
variable {X:Cx}
end
end L2
namespace L2
open PySem PySem.Spec PyProof.Rows
section
variable {X:Cx} {pins:List (Addr×Obj)} {σ:St} {H:Hp} {s:Shared} {h':Heap}
theorem Inv.Hq {t':Nat} {ch:List Addr} (I:Inv X pins σ H s) (k:∀b o,b∉ch->s.heap.get? b=some o->h'.get? b=some o) (hf:∀b∈ch,wW X pins H b):Inv X pins σ H {s with heap:=h',toks:=t'}:=by
 have Xa:∀b u,H b=some u->b∉ch:=λb u e z=>by
  have q:=(hf b z).1;rw[q] at e;cases e
 refine I.step (g':=s.gens) (d':=s.drawn) (ch:=ch) (λb hb=>⟨(hf b hb).2.2.2.1,(hf b hb).2.1,(hf b hb).2.2.2.2.1,(hf b hb).2.2.2.2.2⟩) (λb o _ _ hc e _=>k b o hc e) (λb o _ _ hc e _=>⟨o.slots,k b o hc e⟩)
  (λ_ _ _ _ n=>n) (λb o hc e=>⟨o,k b o hc e⟩) (λ_ _ e=>e) (λ_ _ _ e=>e) (λb ps e=>⟨#[],by rw[e];simp⟩) (λm hm=>?_) (λb u e=>?_) I.bare
 .obtain⟨o,es,ep,ho,r⟩:=hm;exact⟨o,es,ep,k _ o (λz=>(hf _ z).2.1 rfl) ho,r⟩
 .refine(I.iA b u e).tH (λc v hc q=>k c v ?_ q) (λ_ q=>q) λ_ _ q=>q;rcases hc with z|z
  .rw[z];exact Xa b u e
  .exact Xa c _ z
theorem Inv.qZ {t':Nat} {ch:List Addr} {T:Addr} {ob:HO} (I:Inv X pins σ H s) (k:∀b o,b∉ch->s.heap.get? b=some o->h'.get? b=some o) (hf:∀b∈ch,wW X pins H b) (hT:s.heap.objs.size<=T)
  (new:j4 X.prog X.w (upd H T ob) h' T ob):Inv X pins σ (upd H T ob) {s with heap:=h',toks:=t'}:=by
 have hn:H T=none:=I.iA.fresh hT;have Xa:∀b u,H b=some u->b∉ch:=λb u e z=>by
  have q:=(hf b z).1;rw[q] at e;cases e
 refine I.step (g':=s.gens) (d':=s.drawn) (ch:=ch) (λb hb=>⟨(hf b hb).2.2.2.1,(hf b hb).2.1,(hf b hb).2.2.2.2.1,(hf b hb).2.2.2.2.2⟩) (λb o _ _ hc e _=>k b o hc e) (λb o _ _ hc e _=>⟨o.slots,k b o hc e⟩)
  (λb o _ e n=>?_) (λb o hc e=>⟨o,k b o hc e⟩) (λb xs e=>?_) (λb o u e=>?_) (λb ps e=>⟨#[],?_⟩) (λm hm=>?_) (λb u e=>?_) I.bare
 .rw[c6 (cT (aT (aX e) hT))];exact n
 .rw[c6 (bL e hn)];exact e
 .rw[c6 (bL e hn)];exact e
 .rw[c6 (bL e hn),e];simp
 .obtain⟨o,es,ep,ho,r⟩:=hm;exact⟨o,es,ep,k _ o (λz=>(hf _ z).2.1 rfl) ho,r⟩
 .by_cases hb:b=T
  .subst hb;rw[cU] at e;cases e;exact new
  .rw[c6 hb] at e;refine(I.iA b u e).tH (λc v hc q=>k c v ?_ q) (λc q=>by rw[c6 (bL q hn)];exact q) λc xs q=>by rw[c6 (bL q hn)];exact q
   rcases hc with z|z
   .rw[z];exact Xa b u e
   .exact Xa c _ z
end
section
variable {X:Cx}
end
section
variable {X:Cx} {tg:Expr}
end
section
variable {X:Cx} {tg:Expr}
end
section
variable {prog:Program} {w:World} {A:Around} {E:Value->Shared->Prop} {s:Shared}
end
section
variable {X:Cx} {pins:List (Addr×Obj)} {σ:St} {H:Hp} {s:Shared} {d:Addr} {o:Obj}
end
section
variable {P:Program} {w:World} {K:af} {tg:Expr} {d:Addr} {o:Obj} {es:Array DictEntry} {ep:Nat}
end
section
variable {X:Cx} {tg e:Expr} {td:TE} {apos tX:Pos}
end
theorem yn:bootBuiltins "zip"=some (.type "zip"):=by decide+kernel
end L2
section
namespace ads
open PySem PyProof.Rows
end ads
end
section
namespace TL
open PySem PySem.Builtin PySem.Builtin.Str PySem.StrLaws
end TL
end
namespace L2
open PySem PySem.Spec PyProof.Rows
section
variable {X:Cx} {pins:List (Addr×Obj)} {σ:St} {H:Hp} {s:Shared} {Q:VK}
end
section
variable {X:Cx}
end
section
variable {X:Cx} {o e:Expr} {to te:TE}
end
end L2
namespace L2
open PySem PySem.Spec PyProof.Rows
section
variable {X:Cx}
end
end L2
namespace Att
open PySem PySem.W PySem.Calls PyProof.Rows
section
variable {prog:Program} {w:World} {A:Around} {E:Value->Shared->Prop} {s:Shared} {K:Frag}
end
end Att
section
set_option maxHeartbeats 2000000
namespace L2
open PySem PySem.Spec PyProof.Rows
open PySem.W (WData Codec OpenSpec Well WellAll ReadsW ReadsAllW)
mutual
inductive Dw (K:af) (H:Hp):V->WData->Prop
 |jL:Dw K H .jL .none
 |bl (b:Bool):Dw K H (.bl b) (.bool b)
 |int (i:Int):Dw K H (.int i) (.int i)
 |str (x:Str):Dw K H (.str x) (.str x)
 |Kx (b:Array UInt8):Dw K H (.Kx b) (.bytes b.toList)
 |lst {a:Addr} {xs:List V} {ds:List WData}:dz K H a xs->sQ K H xs ds->Dw K H (.ref a) (.list ds)
 |tup {a:Addr} {xs:List V} {ds:List WData}:mK K H a xs->sQ K H xs ds->Dw K H (.ref a) (.tuple ds)
inductive sQ (K:af) (H:Hp):List V->List WData->Prop
 |nil:sQ K H [] []
 |cons {v:V} {vs:List V} {d:WData} {ds:List WData}:Dw K H v d->sQ K H vs ds->sQ K H (v::vs) (d::ds)
end
theorem Nj {K:af} {H:Hp}:∀ns:List Int,sQ K H (ns.map V.int) (ns.map WData.int)
 | []=>.nil
 |n::r=>.cons (.int n) (Nj r)
theorem Nq {K:af} {H:Hp}:∀(ns:List Int) (xs:List V),sQ K H xs (ns.map WData.int)->xs=ns.map V.int
 | [],xs,h=>by
  cases h;rfl
 |n::r,xs,h=>by
  cases h with
  |cons h1 h2=>
   cases h1;rw[Nq r _ h2]<;>rfl
section
variable {P:Program} {w:World} {K:af} {H:Hp} {h:Heap} {R:yc} {cl:Str->Option Addr}
theorem ZD {a:Addr} {xs:List V} (iA:wX P w H h) (KX:K.In h) (q:dz K H a xs):∃(its:List Value) (o:Obj) (n:Nat),Vals xs its/\h.get? a=some o/\o.cls=.type "list"/\o.data=.seq its.toArray n:=by
 rcases q with q|⟨o,its,n,e,hc,_,hd,_,hv⟩
 .obtain⟨_,its,n,hv,e⟩:=(show j4 P w H h a (~~~320) from q.ok iA);exact⟨its,_,n,hv,e,rfl,rfl⟩
 .exact⟨its.toList,o,n,hv,KX _ _ e,hc,by simp[hd]⟩
theorem ZE {a:Addr} {xs:List V} (iA:wX P w H h) (KX:K.In h) (q:mK K H a xs):∃(its:List Value) (o:Obj) (n:Nat),Vals xs its/\h.get? a=some o/\o.cls=.type "tuple"/\o.data=.seq its.toArray n:=by
 rcases q with q|⟨o,its,n,e,hc,hd,_,hv⟩
 .obtain⟨_,its,hv,o,e,hc,n,hd⟩:=(show j4 P w H h a (.tup xs) from q.ok iA);exact⟨its,o,n,hv,e,hc,hd⟩
 .exact⟨its.toList,o,n,hv,KX _ _ e,hc,by simp[hd]⟩
mutual
theorem Dw.reads (iA:wX P w H h) (KX:K.In h):∀(d:WData) (v:V) (u:Value),Dw K H v d->RelV v u->∃as,ReadsW R cl h u d as
 | .none,_,_,x,r=>by
  cases x;cases r;exact⟨_,ReadsW.none⟩
 | .bool b,_,_,x,r=>by
  cases x;cases r;exact⟨_,ReadsW.bool b⟩
 | .int i,_,_,x,r=>by
  cases x;exists 81;exact⟨_,ReadsW.int i t⟩
 | .str s,_,_,x,r=>by
  cases x;exists 81;exact⟨_,ReadsW.str s t⟩
 | .bytes b,_,_,x,r=>by
  cases x;exists 81;exact⟨_,ReadsW.bytes _ t⟩
 | .list ds,_,_,x,r=>by
  cases x with
  |lst hs ha=>
   cases r;obtain⟨its,o,n,rv,ho,hc,hd⟩:=ZD iA KX hs;obtain⟨as,hr⟩:=Dw.readsAll iA KX ds _ its ha rv;exact⟨_,ReadsW.list ho hc hd hr⟩
 | .tuple ds,_,_,x,r=>by
  cases x with
  |tup hs ha=>
   cases r;obtain⟨its,o,n,rv,ho,hc,hd⟩:=ZE iA KX hs;obtain⟨as,hr⟩:=Dw.readsAll iA KX ds _ its ha rv;exact⟨_,ReadsW.tuple ho hc hd hr⟩
 | .float _,_,_,x,_=>by cases x
 | .dict _,_,_,x,_=>by cases x
 | .bytearray _,_,_,x,_=>by cases x
 | .set _,_,_,x,_=>by cases x
 | .frozenset _,_,_,x,_=>by cases x
 | .obj _ _,_,_,x,_=>by cases x
theorem Dw.readsAll (iA:wX P w H h) (KX:K.In h):∀(ds:List WData) (vs:List V) (us:List Value),sQ K H vs ds->Vals vs us->∃as,ReadsAllW R cl h us ds as
 | [],_,_,x,r=>by
  cases x;cases r;exact⟨_,ReadsAllW.nil⟩
 |d::ds,_,_,x,r=>by
  cases x with
  |cons h1 h2=>
   cases r with
   |cons r1 r2=>
    obtain⟨as,q1⟩:=Dw.reads iA KX d _ _ h1 r1;obtain⟨bs,q2⟩:=Dw.readsAll iA KX ds _ _ h2 r2;exact⟨_,ReadsAllW.cons q1 q2⟩
end
end
mutual
def NJ:WData->Bool
 | .none =>true
 | .bool _=>true
 | .int _=>true
 | .str _=>true
 | .bytes _=>true
 | .list xs=>Av xs
 | .tuple xs=>Av xs
 |_=>false
def Av:List WData->Bool
 | []=>true
 |x::r=>NJ x&&Av r
end
theorem JL {α:Type} {f:α->WData} (h:∀a,NJ (f a)=true):∀l:List α,Av (l.map f)=true
 | []=>rfl
 |x::r=>by
  show(NJ (f x)&&Av (r.map f))=true;rw[h x,JL h r]<;>rfl
theorem ux:∀(c:Codec) (a:c.denote),NJ (c.enc a)=true
 | .unit,_=>rfl
 | .bool,_=>rfl
 | .int _ _,_=>rfl
 | .nat _ _,_=>rfl
 | .u8,_=>rfl
 | .bytes _ _,_=>rfl
 | .text _ _ _ _,_=>rfl
 | .list _ _ c,a=>JL (λx=>ux c x) a
 | .pair c d,a=>by
  show(NJ (c.enc a.1)&&(NJ (d.enc a.2)&&true))=true;rw[ux c a.1,ux d a.2]<;>rfl
 | .triple c d e,a=>by
  show(NJ (c.enc a.1)&&(NJ (d.enc a.2.1)&&(NJ (e.enc a.2.2)&&true)))=true;rw[ux c a.1,ux d a.2.1,ux e a.2.2]<;>rfl
 | .option c,none=>rfl
 | .option c,some x=>ux c x
theorem E2:∀(cs:List Codec) (a:nO cs),Av (lS cs a)=true
 | [],_=>rfl
 |c::cs,a=>by
  show(NJ (c.enc a.1)&&Av (lS cs a.2))=true;rw[ux c a.1,E2 cs a.2]<;>rfl
theorem wB:∀{xs:List WData} {d:WData},d∈xs->d.weight<=WData.weightAll xs
 | [],d,h=>absurd h (~~~88)
 |x::r,d,h=>by
  show d.weight<=x.weight+1+WData.weightAll r;rcases aB.mp h with e|m
  .rw[e];omega
  .have z:=wB m;omega
def toV:Value->V
 | .none =>.jL
 | .bool b=>.bl b
 | .int i _=>.int i
 | .str x _=>.str x
 | .bytes b _=>.Kx b
 | .ref a=>.ref a
 |_=>.jL
def Ow (A:List Addr):Value->Prop
 | .none =>True
 | .bool _=>True
 | .int _ _=>True
 | .str _ _=>True
 | .bytes _ _=>True
 | .ref a=>a∈A
 |_=>False
theorem Ow.mono {A B:List Addr} (h:∀a∈A,a∈B):∀{u:Value},Ow A u->Ow B u:=λ{u} x=>by
 cases u with
 |ref a=>exact h a x
 |none=>trivial
 |bool b=>trivial
 |int i t=>trivial
 |str s t=>trivial
 |bytes b t=>trivial
 |_=>exact False.elim x
theorem Td {A:List Addr} {u:Value} (x:Ow A u):RelV (toV u) u:=by
 cases u with
 |ref a=>rfl
 |none=>rfl
 |bool b=>rfl
 |int i t=>exact⟨t,rfl⟩
 |str s t=>exact⟨t,rfl⟩
 |bytes b t=>exact⟨t,rfl⟩
 |_=>exact False.elim x
theorem q5 {A:List Addr}:∀{vs:List Value},(∀u∈vs,Ow A u)->Vals (vs.map toV) vs
 | [],_=>.nil
 |u::r,h=>.cons (Td (h u (aH ..))) (q5 λx hx=>h x (aA _ hx))
def sP (h:Heap) (A:List Addr) (a:Addr):Prop:=∃vs:List Value,vs.length<=sizeLine/\(∀u∈vs,Ow A u)/\
 (h.get? a=some {cls:=.type "list",data:=.seq vs.toArray}\/h.get? a=some {cls:=.type "tuple",data:=.seq vs.toArray})
theorem sP.mono {h:Heap} {A B:List Addr} {a:Addr} (k:∀a∈A,a∈B) (x:sP h A a):sP h B a:=by
 obtain⟨vs,h1,h2,h3⟩:=x;exact⟨vs,h1,λu hu=>(h2 u hu).mono k,h3⟩
theorem qd {P:Params} {h:Heap}:∀{vs:List Value} {ds:List WData},WellAll P h vs ds->vs.length=ds.length
 |_,_,.nil =>rfl
 |_,_,.cons _ b=>by
  show _+1=_+1;rw[qd b]
theorem Fi {P:Params} {h:Heap} {v:Value} {ds:List WData} (x:Well P h v (.list ds)):∃(a:Addr) (vs:List Value),v=.ref a/\h.get? a=some {cls:=.type "list",data:=.seq vs.toArray}/\WellAll P h vs ds:=by
 cases x with
 |list ho rV=>exact⟨_,_,rfl,ho,rV⟩
theorem C9 {P:Params} {h:Heap} {v:Value} {ds:List WData} (x:Well P h v (.tuple ds)):∃(a:Addr) (vs:List Value),v=.ref a/\h.get? a=some {cls:=.type "tuple",data:=.seq vs.toArray}/\WellAll P h vs ds:=by
 cases x with
 |tuple ho rV=>exact⟨_,_,rfl,ho,rV⟩
theorem Fh {P:Params} {h:Heap} {us:List Value} {d:WData} {ds:List WData} (x:WellAll P h us (d::ds)):∃(v:Value) (vs:List Value),us=v::vs/\Well P h v d/\WellAll P h vs ds:=by
 cases x with
 |cons a b=>exact⟨_,_,rfl,a,b⟩
theorem Nw {n:Nat} (h:n<=1048576):n<=sizeLine:=bA h (~~~73)
section
variable {P:Params} {h:Heap}
mutual
theorem Q4:∀(d:WData) (v:Value),Well P h v d->NJ d=true->d.weight<=1048576->∃A:List Addr,Ow A v/\∀a∈A,sP h A a
 | .none,_,x,_,_=>by
  cases x;exists 39
 | .bool b,_,x,_,_=>by
  cases x;exists 39
 | .int i,_,x,_,_=>by
  cases x;exists 39
 | .str s,_,x,_,_=>by
  cases x;exists 39
 | .bytes b,_,x,_,_=>by
  cases x;exists 39
 | .list ds,_,x,p,z=>by
  obtain⟨a,vs,rfl,ho,rV⟩:=Fi x;have z2:WData.weightAll ds<=1048576:=z;obtain⟨A,h1,h2⟩:=wZ ds _ rV p λd hd=>bA (wB hd) z2;have k:∀b∈A,b∈a::A:=λb hb=>aA _ hb;refine⟨a::A,aH ..,λb hb=>?_⟩;rcases aB.mp hb with e|m
  .rw[e];exact⟨vs,Nw (by rw[qd rV];exact bA (nQ ds) z2),λu hu=>(h1 u hu).mono k,.inl ho⟩
  .exact(h2 b m).mono k
 | .tuple ds,_,x,p,z=>by
  obtain⟨a,vs,rfl,ho,rV⟩:=C9 x;have z2:WData.weightAll ds<=1048576:=z;obtain⟨A,h1,h2⟩:=wZ ds _ rV p λd hd=>bA (wB hd) z2;have k:∀b∈A,b∈a::A:=λb hb=>aA _ hb;refine⟨a::A,aH ..,λb hb=>?_⟩;rcases aB.mp hb with e|m
  .rw[e];exact⟨vs,Nw (by rw[qd rV];exact bA (nQ ds) z2),λu hu=>(h1 u hu).mono k,.inr ho⟩
  .exact(h2 b m).mono k
 | .float _,_,_,p,_=>dI (~~~110)
 | .dict _,_,_,p,_=>dI (~~~110)
 | .bytearray _,_,_,p,_=>dI (~~~110)
 | .set _,_,_,p,_=>dI (~~~110)
 | .frozenset _,_,_,p,_=>dI (~~~110)
 | .obj _ _,_,_,p,_=>dI (~~~110)
theorem wZ:∀(ds:List WData) (vs:List Value),WellAll P h vs ds->Av ds=true->(∀d∈ds,d.weight<=1048576)->∃A:List Addr,(∀u∈vs,Ow A u)/\∀a∈A,sP h A a
 | [],_,x,_,_=>by
  cases x;exact⟨[],λu m=>absurd m (~~~88),λa m=>absurd m (~~~88)⟩
 |d::ds,_,x,p,z=>by
  obtain⟨v,vs,rfl,x1,x2⟩:=Fh x;have q:NJ d=true/\Av ds=true:=tJ.mp p;obtain⟨A,a1,a2⟩:=Q4 d v x1 q.1 (z d (aH ..));obtain⟨B,b1,b2⟩:=wZ ds vs x2 q.2 λe he=>z e (aA _ he);have kA:∀b∈A,b∈A++B:=λb hb=>aE.mpr (.inl hb);have kB:∀b∈B,b∈A++B:=λb hb=>aE.mpr (.inr hb);refine⟨A++B,λu hu=>?_,λb hb=>?_⟩
  .rcases aB.mp hu with e|m
   .rw[e];exact a1.mono kA
   .exact(b1 u m).mono kB
  .rcases aE.mp hb with m|m
   .exact(a2 b m).mono kA
   .exact(b2 b m).mono kB
end
end
def Ve (o:Obj):Option HO:=match o.data with
 | .seq vs _=>if(o.cls==Value.type "list")=true then some (.EH o (.lst (vs.toList.map toV))) else some (.EH o (.tup (vs.toList.map toV)))
 |_=>none
def qh (K:af) (h:Heap) (A:List Addr):Hp:=λb=>if b∈A then(if(K.lookup b).isNone =true then(h.get? b).bind Ve else none) else none
def Ib (H:Hp):Prop:=∀b,H b=none\/∃o u,H b=some (.EH o u)
theorem Jb (vs:List Value):Ve {cls:=.type "list",data:=.seq vs.toArray}=some (.EH {cls:=.type "list",data:=.seq vs.toArray} (.lst (vs.map toV))):=by
 show(if(Value.type "list"==Value.type "list")=true then some (HO.EH {cls:=.type "list",data:=.seq vs.toArray} (.lst (~~~246))) else some (HO.EH {cls:=.type "list",data:=.seq vs.toArray} (.tup (~~~246))))=_;rw[if_pos (beq_self_eq_true _)]
theorem Jc (vs:List Value):Ve {cls:=.type "tuple",data:=.seq vs.toArray}=some (.EH {cls:=.type "tuple",data:=.seq vs.toArray} (.tup (vs.map toV))):=by
 show(if(Value.type "tuple"==Value.type "list")=true then some (HO.EH {cls:=.type "tuple",data:=.seq vs.toArray} (.lst (~~~246))) else some (HO.EH {cls:=.type "tuple",data:=.seq vs.toArray} (.tup (~~~246))))=_;rw[if_neg (~~~73)]
section
variable {P:Program} {w:World} {K:af} {h:Heap} {A:List Addr}
theorem AI {b:Addr} {o:Obj} (hb:b∈A) (hk:K.lookup b=none) (e:h.get? b=some o):qh K h A b=Ve o:=by
 unfold qh;rw[if_pos hb,hk,if_pos (show(none:Option Obj).isNone =true from rfl),e]<;>rfl
theorem Vw {b:Addr} {u:HO} (q:qh K h A b=some u):b∈A/\K.lookup b=none:=by
 unfold qh at q;by_cases hb:b∈A
 .rw[if_pos hb] at q;cases hk:K.lookup b with
  |none=>exact⟨hb,rfl⟩
  |some o=>
   rw[hk,if_neg (~~~88)] at q;cases q
 .rw[if_neg hb] at q;cases q
theorem w6 (ar:∀a∈A,sP h A a) {b:Addr} {u:HO} (q:qh K h A b=some u):K.lookup b=none/\∃vs:List Value,vs.length<=sizeLine/\(∀u∈vs,Ow A u)/\
  ((h.get? b=some {cls:=.type "list",data:=.seq vs.toArray}/\u=.EH {cls:=.type "list",data:=.seq vs.toArray} (.lst (vs.map toV)))\/
   (h.get? b=some {cls:=.type "tuple",data:=.seq vs.toArray}/\u=.EH {cls:=.type "tuple",data:=.seq vs.toArray} (.tup (vs.map toV)))):=by
 obtain⟨hb,hk⟩:=Vw q;obtain⟨vs,h1,h2,h3⟩:=ar b hb;refine⟨hk,vs,h1,h2,?_⟩;rcases h3 with e|e
 .rw[AI hb hk e,Jb] at q;exact .inl ⟨e,(bG.inj q).symm⟩
 .rw[AI hb hk e,Jc] at q;exact .inr ⟨e,(bG.inj q).symm⟩
theorem OA (ar:∀a∈A,sP h A a):Ib (qh K h A):=λb=>by
 cases q:qh K h A b with
 |none=>exact .inl rfl
 |some u=>
  obtain⟨_,vs,_,_,⟨_,e⟩|⟨_,e⟩⟩:=w6 ar q
  .exact .inr ⟨_,_,by rw[e]⟩
  .exact .inr ⟨_,_,by rw[e]⟩
theorem UX (ar:∀a∈A,sP h A a):wX P w (qh K h A) h:=λb u q=>by
 obtain⟨_,vs,h1,h2,⟨e,rfl⟩|⟨e,rfl⟩⟩:=w6 ar q
 .exact⟨e,by rw[ag];exact h1,vs,_,q5 h2,e⟩
 .exact⟨e,by rw[ag];exact h1,vs,q5 h2,_,e,rfl,_,rfl⟩
theorem A6 {c c':Value} {vs us:List Value} (e:(some {cls:=c,data:=.seq vs.toArray}:Option Obj)=some {cls:=c',data:=.seq us.toArray}):c=c'/\vs=us:=by
 have e1:=bG.inj e;have e2:c=c':=congrArg Obj.cls e1;have e3:Data.seq vs.toArray=Data.seq us.toArray:=congrArg Obj.data e1;injection e3 with e4;refine⟨e2,?_⟩;have e5:=congrArg wI e4;simpa using e5
theorem adz (KX:K.In h) (ar:∀a∈A,sP h A a) {a:Addr} {vs:List Value} (ha:a∈A) (e:h.get? a=some {cls:=.type "list",data:=.seq vs.toArray}):(∀u∈vs,Ow A u)/\dz K (qh K h A) a (vs.map toV):=by
 obtain⟨us,h1,h2,h3⟩:=ar a ha;have hu:us=vs:=by
  rcases h3 with q|q
  .rw[e] at q;exact(A6 q).2.symm
  .rw[e] at q;exact absurd (Value.type.inj (A6 q).1) (~~~73)
 subst hu;refine⟨h2,?_⟩;cases hk:K.lookup a with
 |none=>exact .inl (.inr ⟨_,by rw[AI ha hk e,Jb]⟩)
 |some o=>
  have e2:=KX a o hk;rw[e] at e2;obtain rfl:=bG.inj e2;exact .inr ⟨_,us.toArray,_,hk,rfl,rfl,rfl,by rw[a_];exact h1,by simpa using q5 h2⟩
theorem adA (KX:K.In h) (ar:∀a∈A,sP h A a) {a:Addr} {vs:List Value} (ha:a∈A) (e:h.get? a=some {cls:=.type "tuple",data:=.seq vs.toArray}):(∀u∈vs,Ow A u)/\mK K (qh K h A) a (vs.map toV):=by
 obtain⟨us,h1,h2,h3⟩:=ar a ha;have hu:us=vs:=by
  rcases h3 with q|q
  .rw[e] at q;exact absurd (Value.type.inj (A6 q).1) (~~~73)
  .rw[e] at q;exact(A6 q).2.symm
 subst hu;refine⟨h2,?_⟩;cases hk:K.lookup a with
 |none=>exact .inl (.inr ⟨_,by rw[AI ha hk e,Jc]⟩)
 |some o=>
  have e2:=KX a o hk;rw[e] at e2;obtain rfl:=bG.inj e2;exact .inr ⟨_,us.toArray,_,hk,rfl,rfl,by rw[a_];exact h1,by simpa using q5 h2⟩
mutual
theorem X4 {Pm:Params} (KX:K.In h) (ar:∀a∈A,sP h A a):∀(d:WData) (v:Value),Well Pm h v d->NJ d=true->Ow A v->Dw K (qh K h A) (toV v) d
 | .none,_,x,_,_=>by
  cases x;exact .jL
 | .bool b,_,x,_,_=>by
  cases x;exact .bl b
 | .int i,_,x,_,_=>by
  cases x;exact .int i
 | .str s,_,x,_,_=>by
  cases x;exact .str s
 | .bytes b,_,x,_,_=>by
  cases x;have z:=Dw.Kx (K:=K) (H:=qh K h A) b.toArray;exact z
 | .list ds,_,x,p,hu=>by
  obtain⟨a,vs,rfl,ho,rV⟩:=Fi x;obtain⟨h2,hs⟩:=adz KX ar hu ho;exact .lst hs (F0 KX ar ds _ rV p h2)
 | .tuple ds,_,x,p,hu=>by
  obtain⟨a,vs,rfl,ho,rV⟩:=C9 x;obtain⟨h2,hs⟩:=adA KX ar hu ho;exact .tup hs (F0 KX ar ds _ rV p h2)
 | .float _,_,_,p,_=>dI (~~~110)
 | .dict _,_,_,p,_=>dI (~~~110)
 | .bytearray _,_,_,p,_=>dI (~~~110)
 | .set _,_,_,p,_=>dI (~~~110)
 | .frozenset _,_,_,p,_=>dI (~~~110)
 | .obj _ _,_,_,p,_=>dI (~~~110)
theorem F0 {Pm:Params} (KX:K.In h) (ar:∀a∈A,sP h A a):∀(ds:List WData) (vs:List Value),WellAll Pm h vs ds->Av ds=true->(∀u∈vs,Ow A u)->sQ K (qh K h A) (vs.map toV) ds
 | [],_,x,_,_=>by
  cases x;exact .nil
 |d::ds,_,x,p,hu=>by
  obtain⟨v,vs,rfl,x1,x2⟩:=Fh x;have q:NJ d=true/\Av ds=true:=tJ.mp p;exact .cons (X4 KX ar d v x1 q.1 (hu _ (aH ..))) (F0 KX ar ds vs x2 q.2 λu m=>hu u (aA _ m))
end
end
theorem P8 {P:Program} {w:World} {K:af} {mg mb:Str->Option Value} {CX:M1} {k:Nat} {fa:Addr} {fd:FuncData} {ps:List Str} {sp:Sp} {fG:Shared} {vals:List Value} {ds:List WData} {R:yc} {cl:Str->Option Addr} {d0:WData}
  (KX:K.In fG.heap) (hns:fG.heap.Ns mainGlobals mg) (hb:fG.heap.Ns builtinsNs mb) (hbb:∀x:Str,x≠"__name__"->mb x=bootBuiltins x) (aeq:fG.heap.NoLimit) (Vg:fG.heap.NoSeer) (hg:fG.gens= #[])
  (HK:WellAll w.params fG.heap vals ds) (BY:Av ds=true) (hwt:∀d∈ds,d.weight<=1048576) (hr:lB k callerA)
  (F:∀base:Heap,K.In base->base.Ns mainGlobals mg->tj P w K mg base CX k fa fd ps sp) (abn:∀(s:Shared) (us:List Value),us.length=ps.length->BindsTo s fd ⟨us,[]⟩ (ps.zip us)) (hlen:ds.length=ps.length)
  (Uy:∀(H:Hp) (xs:List V),Ib H->sQ K H xs ds->sp xs H (λv H'=>Dw K H' v d0) λ_ _ _=>False)
  (Hw:∀H e s',CX [] H fG (λ_ _ _=>False) e s'->False):
  codeAny (model P w) callerA (.call (.ref fa) ⟨vals,[]⟩) (λr s'=>∃u as,r=.ok (.ret u)/\ReadsW R cl s'.heap u d0 as/\OldK fG.heap s'.heap/\s'.os=fG.os/\AllBare s'.gens) fG:=by
 obtain⟨A,ho,ar⟩:=wZ ds vals HK BY hwt;have hO:Ib (qh K fG.heap A):=OA ar;have iA:wX P w (qh K fG.heap A) fG.heap:=UX ar;have hS:=F0 KX ar ds vals HK BY ho;have hV:=q5 ho;have hK:∀b u,qh K fG.heap A b=some u->K.lookup b=none:=λb u q=>(w6 ar q).1;have zj:∀{b:Addr} {o:Obj} {es:Array DictEntry} {ep:Nat},fG.heap.get? b=some o->o.data=.dict es ep->qh K fG.heap A b=none:=λ{b o es ep} e d=>by
  cases q:qh K fG.heap A b with
  |none=>rfl
  |some u=>
   obtain⟨_,vs,_,_,⟨e2,_⟩|⟨e2,_⟩⟩:=w6 ar q
   .rw[e2] at e;cases e;have d':Data.seq vs.toArray _=Data.dict es ep:=d;cases d'
   .rw[e2] at e;cases e;have d':Data.seq vs.toArray _=Data.dict es ep:=d;cases d'
 have noM:∀{b:Addr} {o:Obj},fG.heap.get? b=some o->o.cls=.type "module"->qh K fG.heap A b=none:=λ{b o} e d=>by
  cases q:qh K fG.heap A b with
  |none=>rfl
  |some u=>
   obtain⟨_,vs,_,_,⟨e2,_⟩|⟨e2,_⟩⟩:=w6 ar q
   .rw[e2] at e;cases e;exact absurd (Value.type.inj d) (~~~73)
   .rw[e2] at e;cases e;exact absurd (Value.type.inj d) (~~~73)
 generalize qh K fG.heap A=H at hO iA hS hK zj noM;have FJ:∀{b:Addr} {o:Obj},fG.heap.get? b=some o->H b=none->(Gd fG.heap H).get? b=some o:=λe n=>RG e n;have Xb:∀{b:Addr} {m:Str->Option Value},fG.heap.Ns b m->(Gd fG.heap H).Ns b m:=λ{b m} ⟨o,es,ep,e,d,r⟩=>⟨o,es,ep,FJ e (zj e d),d,r⟩;have nK:∀b o,K.lookup b=some o->H b=none:=λb o e=>by
  cases q:H b with
  |none=>rfl
  |some u=>
   rw[hK b u q] at e;cases e
 have hKb:K.In (Gd fG.heap H):=λb o e=>FJ (KX b o e) (nK b o e);have hM:Mod K mg (Gd fG.heap H):=⟨hKb,Xb hns,⟨mb,Xb hb,hbb⟩,(let⟨mc,h1,h2⟩:=aeq;⟨mc,Xb h1,h2⟩),
  ⟨(let⟨mc,h1,h2⟩:=Vg.statics;⟨mc,Xb h1,h2⟩),(let⟨mc,h1,h2⟩:=Vg.mods;⟨mc,Xb h1,h2⟩),(let⟨mc,h1,h2⟩:=Vg.imp;⟨mc,Xb h1,h2⟩),
   (let⟨mc,bm,ob,h1,h2,h3,h4,h5⟩:=Vg.main;⟨mc,bm,ob,Xb h1,h2,FJ h3 (noM h3 h4),h4,h5⟩)⟩⟩
 have e0:K2 P w K mg (Gd fG.heap H) callerA [] fG H:=⟨rfl,hM,λb o e=>Vx e,rD (O3 _ _),trivial,λb hb=>absurd (show b∈([]:List Addr) from hb) (~~~88),iA,.of_eq hg⟩;have hl:vals.length=ps.length:=by rw[qd HK];exact hlen
 refine codeAny_mono ((F _ hKb (Xb hns)).run callerA [] fG H ⟨vals,[]⟩ vals (vals.map toV) _ _ hr e0 (abn fG vals hl) hV (Uy H _ hO hS)) λr s' x=>?_;cases r with
 |error e=>exact(Hw H e s' x).elim
 |ok fl=>
  cases fl with
  |next=>exact False.elim x
  |brk=>exact False.elim x
  |cont=>exact False.elim x
  |ret u=>
   obtain⟨v,H',os,bare,un,abx,r',q⟩:=x;have kept:∀b o,fG.heap.get? b=some o->s'.heap.get? b=some o:=λb o e=>by
    cases q2:H b with
    |none=>exact un.keep b o e q2 (by intro z;exact absurd (show b∈([]:List Addr) from z) (~~~88)) (~~~88)
    |some u2=>
     rcases hO b with z|⟨ob,u3,z⟩
     .rw[q2] at z;cases z
     .have z2:=un.F9 b ob _ z;obtain⟨e1,_⟩:=iA b _ z;obtain⟨e2,_⟩:=abx b _ z2;rw[e] at e1;cases e1;exact e2
   have KX':K.In s'.heap:=λb o e=>kept b o (KX b o e);obtain⟨as,hrd⟩:=Dw.reads (R:=R) (cl:=cl) abx KX' d0 v u q r';exact⟨u,as,rfl,hrd,OldK.of_keep kept,os,bare⟩
theorem B5 {ds:List WData} (h:WData.layableAll ds=true):∀d∈ds,d.weight<=1048576:=λd hd=>
 (PySem.W.layableW_iff.mp (fw.mp h d hd)).2.2
theorem BN:∀(cs:List Codec) (a:nO cs),(lS cs a).length =cs.length
 | [],_=>rfl
 |c::cs,a=>by
  show(lS cs a.2).length +1=cs.length+1;rw[BN cs a.2]
theorem Qr {r:OpenSpec} {k:Nat} {q:Program} {loose:List Str} {XP:(Str->Option Value)->Heap->Prop} {YP:World->Heap->Prop} {d:DefRec} {K:Params->af} {CX:World->M1} {ps:List Str} {sp:World->Sp}
  (RO:r.wellSaid=true) (himp:importsNone q=true) (hdf:d.params.defaults=[]) (hlen:r.args.length=ps.length) (hr:lB k callerA)
  (hY:∀(w:World) (h:Heap),YP w h->(~~~287).In h)
  (F:∀(w:World) (mg:Str->Option Value) (fa:Addr) (h:Heap),YP w h->(~~~287).In h->h.Ns mainGlobals mg->mg d.name=some (.ref fa)->
   ∃fd:FuncData,(∀(s:Shared) (us:List Value),us.length=ps.length->BindsTo s fd ⟨us,[]⟩ (ps.zip us))/\
    ∀base:Heap,(~~~287).In base->base.Ns mainGlobals mg->tj r.prog w (~~~287) mg base (CX w) k fa fd ps (sp w))
  (Uy:∀(w:World) (H:Hp) (xs:List V) (a:nO r.args),Ib H->zV r.args a=true->uI r.args r.asked a=true->sQ (~~~287) H xs (lS r.args a)->
   sp w xs H (λv H'=>Dw (~~~287) H' v (r.ret.enc (uI r.args r.f a))) λ_ _ _=>False)
  (Hw:∀(w:World) (H:Hp) (s:Shared) (e:Value) (s':Shared),CX w [] H s (λ_ _ _=>False) e s'->False):
  Bj q loose XP YP r d [] (λf vs=>PySem.call f vs):=by
 intro w E7 fG mg mb G Y fa o pm cd doc dV kV ho hd RF hD Ul hg args vals as aeB aep hrd HK hlo;obtain⟨a,e1,e2⟩:=PySem.W.os_pre_some aeB;obtain⟨e3,UJ⟩:=Codec.encAll_of_decAll r.args args a e1;subst e3;have KX:=hY w _ Y;obtain⟨fd,hb,hF⟩:=F w mg fa _ Y KX G.T.g Ul;refine PySem.W.enter_call (codeAny_mono (P8 (R:=[]) (cl:=classAt E7.heap) (d0:=r.ret.enc (uI r.args r.f a)) KX G.T.g G.T.b G.T.builtins G.T.nolimit (G.T.seer himp) hg HK (E2 _ _) (B5 aep) hr hF hb (by rw[BN];exact hlen)
  (λH xs hO hS=>Uy w H xs a hO UJ e2 hS) λH e s'=>Hw w H fG e s') λr' s' hq=>?_)
 obtain⟨u,Kt,rfl,h1,h2,h3,h4⟩:=hq;exact⟨.inl ⟨u,_,Kt,rfl,λ_=>rfl,h1,(OpenSpec.post_iff RO UJ _ _).mpr rfl,λz=>dI (show false=true from z)⟩,h2,h3,h4⟩
theorem MJ {r:OpenSpec} {k:Nat} {q:Program} {loose:List Str} {XP:(Str->Option Value)->Heap->Prop} {YP:World->Heap->Prop} {d:DefRec} {K:Params->af} {CX:M1} {ps:List Str} {sp:af->Sp}
  (RO:r.wellSaid=true) (himp:importsNone q=true) (hdf:d.params.defaults=[]) (hlen:r.args.length=ps.length) (hr:lB k callerA)
  (hY:∀(w:World) (h:Heap),YP w h->(~~~287).In h)
  (F:∀(w:World) (mg:Str->Option Value) (fa:Addr) (h:Heap),YP w h->(~~~287).In h->h.Ns mainGlobals mg->mg d.name=some (.ref fa)->
   ∃fd:FuncData,(∀(s:Shared) (us:List Value),us.length=ps.length->BindsTo s fd ⟨us,[]⟩ (ps.zip us))/\
    ∀base:Heap,(~~~287).In base->base.Ns mainGlobals mg->tj r.prog w (~~~287) mg base CX k fa fd ps (sp (~~~287)))
  (Uy:∀(K:af) (H:Hp) (xs:List V) (a:nO r.args),Ib H->zV r.args a=true->uI r.args r.asked a=true->sQ K H xs (lS r.args a)->
   sp K xs H (λv H'=>Dw K H' v (r.ret.enc (uI r.args r.f a))) λ_ _ _=>False)
  (Hw:∀(H:Hp) (s:Shared) (e:Value) (s':Shared),CX [] H s (λ_ _ _=>False) e s'->False):
  Bj q loose XP YP r d [] (λf vs=>PySem.call f vs):=
 Qr (K:=K) (CX:=λ_=>CX) (sp:=λw=>sp (~~~287)) RO himp hdf hlen hr hY F (λw H xs a h1 h2 h3 h4=>Uy (~~~287) H xs a h1 h2 h3 h4) λ_ H s e s'=>Hw H s e s'
end L2
end
namespace L2
open PySem PySem.Spec PyProof.Rows
def inClass (s:Stmt) (j:Nat):Stmt:=match s with
 | .ClassDef _ _ _ body _ _ _ _ _ _ _=>body.getD j (.Pass ⟨0,0,0,0⟩)
 |_=>.Pass ⟨0,0,0,0⟩
def oG (s:Stmt):Arguments:=match s with
 | .FunctionDef _ a _ _ _ _ _ _ _ _=>a
 |_=>{posonlyargs:=[],args:=[],vararg:=none,kwonlyargs:=[],kw_defaults:=[],kwarg:=none,defaults:=[]}
def kS (s:Stmt):List Stmt:=match s with
 | .FunctionDef _ _ b _ _ _ _ _ _ _=>b
 |_=>[]
def ay (s:Stmt):Scope:=match s with
 | .FunctionDef _ _ _ _ _ _ sc _ _ _=>sc
 |_=>{kind:=.function,names:=[],isGenerator:=false,isCoroutine:=false}
abbrev M0:M1:=λ_ _ _ _ _ _=>False
abbrev E0:XK:=λ_ _ _=>False
theorem NF {X:Cx}:Passes M0 X E0:=λ_ _ _ _ _ _ _ h=>h.elim
structure UO (K:af) (x qual:Str) (st:Stmt) (f:Addr) (fd:FuncData):Prop where
 ex:∃(oc:Value) (od:Option Addr) (kV doc pm:Value) (an:Option Addr) (nu ct:Value) (KD:Array (Option Value)),
  fd=gn x qual (oG st) (kS st) (ay st) .none kV doc pm an nu ct/\K.lookup f=some ⟨oc,od,.func fd,KD⟩/\j2 K nu qual=true
 kp:eG K (.ref f)=true
section
variable {P:Program} {w:World} {K:af} {mg:Str->Option Value} {base:Heap}
theorem UO.ok {x qual:Str} {st:Stmt} {f:Addr} {fd:FuncData} {N ps:List Str} {k:Nat} {sp:Sp} (F:UO K x qual st f fd) (S:bh N ps (ay st)) (len:∀vs H Q E,sp vs H Q E->vs.length=ps.length)
  (BX:∀(nu:Value) (A:Around) (outer:List Env) (s:Shared) (H:Hp) (vs:List V) (Q:VK) (E:XK),lB k (A.deeper (envOfC qual (ay st) s.heap.objs.size f nu))->sp vs H Q E->
   ∃t,K' (FX M0 P w K mg base N qual (ay st) f nu A outer s H E).YT (kS st) t/\t {nx:=λ_ H'=>Q .jL H',rt:=Q} (start N vs) H):tj P w K mg base M0 (k+1) f fd ps sp:=by
 obtain⟨oc,od,kV,doc,pm,an,nu,ct,KD,rfl,lk,RF⟩:=F.ex;refine aaW lk RF S len λA outer s H vs Q E hr Uy=>?_;obtain⟨t,h,q⟩:=BX nu A outer s H vs Q E hr Uy;exact⟨t,h.YT,q⟩
theorem UO.binds {x qual:Str} {st:Stmt} {f:Addr} {fd:FuncData} {ps:List Str} (F:UO K x qual st f fd)
  (h:∀(kV doc pm:Value) (an:Option Addr) (nu ct:Value) (us:List Value),us.length=ps.length->bindArgs (~~~158) ⟨us,[]⟩=pure (ps.zip us)):Binds K fd ps []:=by
 obtain⟨oc,od,kV,doc,pm,an,nu,ct,KD,rfl,lk,RF⟩:=F.ex;exact .all (h kV doc pm an nu ct)
theorem BV {x qual:Str} {st:Stmt} {f:Addr} {oc:Value} {od an:Option Addr} {KD:Array (Option Value)} {kV doc pm nu ct:Value} (l:K.lookup f=some ⟨oc,od,.func (~~~158),KD⟩)
  (c:j2 K nu qual=true) (k:eG K (.ref f)=true):UO K x qual st f (~~~158):=⟨⟨oc,od,kV,doc,pm,an,nu,ct,KD,rfl,l,c⟩,k⟩
end
section
variable {X:Cx}
theorem pv (i:Nat) {x:Str} {pos:Pos} (hN:X.N[i]?=some x:=by rfl) (hv:Z2 X.env.scope x:=by first|exact Or.inl rfl|exact Or.inr (Or.inl rfl)|exact Or.inr (Or.inr rfl)) (hd:(~~~93)=false:=by decide)
  (RF:(x==("__classdict__":Str))=false:=by decide):PE X (~~~321) (TZ i):=SN hN hv hd RF
end
theorem lC {A B:Prop} (h:B):if false=true then A else B:=by
 rw[if_neg bS];exact h
theorem kG {A B:Prop} (h:A):if true=true then A else B:=by
 rw[if_pos rfl];exact h
def bE (H H':Hp):Prop:=∀b o,H b=some o->H' b=some o
theorem bE.refl (H:Hp):bE H H:=λ_ _ h=>h
theorem bE.trans {H H1 H2:Hp} (a:bE H H1) (b:bE H1 H2):bE H H2:=λc o h=>b c o (a c o h)
theorem bE.free {H H':Hp} (e:bE H H') {l:Addr} (h:H' l=tO):H l=tO:=by
 cases q:H l with
 |none=>rfl
 |some o=>
  rw[e l o q] at h;cases h
theorem bE.seq {K:af} {H H':Hp} {a:Addr} {xs:List V} (e:bE H H') (h:dz K H a xs):dz K H' a xs:=by
 rcases h with(h|⟨o,h⟩)|h
 .exact .inl (.inl (e _ _ h))
 .exact .inl (.inr ⟨o,e _ _ h⟩)
 .exact .inr h
section
variable {κ:Type} [DecidableEq κ]
end
theorem bE.made {H H1:Hp} {x dx C:Addr} (nx:H x=tO) (nd:H dx=tO) (k:∀b o,(~~~214) b=some o->b≠x->H1 b=some o):bE H H1:=λb o e=>
 k b o (by rw[c6 (bL e nx),c6 (bL e nd)];exact e) (bL e nx)
end L2
namespace PySem.AutoSeq1
open PySem
theorem vN (l:Addr) (items:Array Value) (n:Nat) (b:Addr) (B2:Array Value) (n2:Nat) (dd:Option Addr) (sl:Array (Option Value)) (hs0:¬(!items.isEmpty&&Builtin.List.listTooLong (items.size+B2.size))=true) (RM:items.size<=sizeLine) (RN:items.size+B2.size<=sizeLine+1:=by seq_fits):
  Meets (Builtin.«list.extend» ⟨[.ref l,.ref b],[]⟩) (λ_ R s=>s.heap.get? l=some {cls:=.type "list",dict:=none,data:=.seq items n,slots:= #[]}/\s.heap.get? b=some {cls:=.type "tuple",dict:=dd,data:=.seq B2 n2,slots:=sl}/\R (.ok (.ret Value.none)) {s with heap:=s.heap.update l (Obj.mapSeq λx=>x++B2),toks:=s.toks}):=
 .of_wp λprog w A R s h=>by
  obtain⟨hp,g,d,tk,os⟩:=s;obtain⟨hl,hb,h⟩:=h;have f1:=idx_int;have f2:=sub_tuple_tuple;have f3:=sub_list_list;have f4:=sub_tuple_list;have f5:=sub_list_tuple;have Yw:(items++B2).size <=sizeLine+1:=by rw[Array.size_append];exact RN
  wp_walk using(wpAny_updateSeq hl rfl (hz:=RM) (_hz':=Yw)),wpAny_loadPart' hl,wpAny_loadPart' hb;exact⟨_,rfl,h⟩
end PySem.AutoSeq1
namespace L2
open PySem PySem.Spec PyProof.Rows
section
variable {X:Cx}
theorem gG:AG X (binaryOp .Mult) (rI IntMulOk λi j=>.int (i*j)):=opI λ_ _ _ _ _ _ _ hc q=>mul_int q hc
structure K7 (X:Cx):Prop where
 dp:X.A.depth+Builtin.pylongFrames<recursionLimit
 tree:X.prog.given.tree=none
 ZJ:∃env l,X.stack=env::l/\env.scope.isGenerator=false/\env.scope.isCoroutine=false/\env.builtins=builtinsNs/\env.globals=mainGlobals
theorem K7.room (L:K7 X) {pins:List (~~~104)} {σ:St} {H:Hp} {s:Shared} (I:Inv X pins σ H s):PylongRoom (~~~65) X.A s:=by
 obtain⟨env,l,e,g,c,b,m⟩:=L.ZJ;exact PylongRoom.of I.nolimit L.dp (SeerAt.of (env:=env) (l:=l) I.seer L.tree (by rw[I.ok.frames,e]) g c b m)
theorem K7.yl (L:K7 X) {s:Shared} {H:Hp} {scope:Scope} {kK:Env} {fp:List Addr}:K7 (X.yl s H scope kK fp):=⟨L.dp,L.tree,L.ZJ⟩
theorem iM (L:K7 X):AG X (binaryOp .FloorDiv) (rI (λ_ j=>j≠0) λi j=>.int (i.fdiv j)):=by
 exists 11;obtain⟨i,j,rfl,rfl,hc,q⟩:=h;exists 113;exact floordiv_int hc ⟨.int (i.fdiv j),H,I.tok _,⟨_,rfl⟩,q⟩ (.inr (L.room I))
def CD (K:af):V->List V->Hp->VK->Prop:=λx vs H Q=>∃l b xs zs,x=.ref l/\vs=[.ref b]/\H l=some (~~~320)/\mK K H b zs/\xs.length+zs.length<=sizeLine/\Q .jL (upd H l (.lst (xs++zs)))
theorem LX:Kq X "list.extend" (CD X.K):=by
 exists 129;exists 112;cases rx;obtain⟨u,rfl,ru⟩:=rv.one;cases ru;exists 59;obtain⟨o8,r2,⟨⟨oc,od,ai8,KD⟩,e2,hc2,n2,hd2⟩,z2⟩:=I.tuple hB;have oI:=r2.length;simp only at hc2 hd2;subst hc2 hd2;have hsz:its.toArray.size+o8.toArray.size<=sizeLine:=by rw[a_,a_];omega
 have I_:¬(!its.toArray.isEmpty&&Builtin.List.listTooLong (its.toArray.size+o8.toArray.size))=true:=by
  rw[Cf hsz,jY];exact bS
 refine call_meets F.slot_list_extend ⟨_,e,rfl⟩ F.entry_list_extend (F.args_list_extend_2 _ _)
  (AutoSeq1.vN l its.toArray n b o8.toArray n2 od KD I_ (by rw[a_];omega) (~~~62)) ⟨e,e2,?_⟩
 refine⟨.jL,_,I.LQ (its':=its++o8) hH e (~~~88) (r.append r2) ?_,rfl,q⟩;rw[au];omega
def ZK (X:Cx) (CX:M1) (k:Nat) (i:Nat) (E:XK) (t:TA):TE:=fun σ H Q=>∃f fd ps sp,σ[i]?=some (some (.ref f))/\tj X.prog X.w X.K X.mg X.base CX k f fd ps sp/\eG X.K (.ref f)=true/\Binds X.K fd ps []/\
 t σ H λvs H1=>sp vs H1 Q E
theorem SG {CX:M1} {k i:Nat} {E:XK} {x:Str} {p pos:Pos} {e:Expr} {es:List Expr} {t:TA} (hr:lB k X.A) (hx:Passes CX X E) (hN:X.N[i]?=some x) (hv:Z2 X.env.scope x) (ha:PA X (e::es) t)
  (hd:(~~~93)=false:=by decide) (RF:(x==("__classdict__":Str))=false:=by decide)
  (he:starEach (e::es) X.env=(false,eval e X.env)::starEach es X.env:=by rfl) (BY:(~~~115).any (·.1)=false:=by rfl):
  PE X (~~~122) (ZK X CX k i E t):=by
 exists 10;obtain⟨f,fd,ps,sp,hi,F,hk,hb,h⟩:=h;refine wpAny_Call_Name_kw (jx (SN (X:=X) hN hv hd RF pins s σ H (λv H'=>v=.ref f/\H'=H) I ⟨.ref f,hi,rfl,rfl⟩) λu s1 ⟨v,H1,I1,r1,q1⟩=>?_);obtain⟨rfl,rfl⟩:=q1;cases r1;refine oS (h₀:=X.base) I.ok.mod.HM hk (jx (ha pos pins s1 σ H1 _ I1 h) λus s2 ⟨vs,H2,I2,r2,q2⟩=>⟨I2.KC,?_⟩) he BY;refine Te F hr hb .nil hx I2 r2 ?_;rw[dU];exact q2
end
end L2
namespace Pb
open PySem PySem.Spec PyProof.Rows L2
theorem iP {H:Hp} {p:Addr} {o:HO} (h:H p=none):bE H (upd H p o):=λb u e=>by
 rw[c6 (bL e h)];exact e
theorem ie {K:af} {H H':Hp} {a:Addr} {xs:List V} (e:bE H H') (h:mK K H a xs):mK K H' a xs:=by
 rcases h with(h|⟨o,h⟩)|h
 .exact .inl (.inl (e _ _ h))
 .exact .inl (.inr ⟨o,e _ _ h⟩)
 .exact .inr h
section
variable {K:af} {H H' H1:Hp} {v u:V} {a p:Addr}
abbrev Rep (α:Type):=Hp->V->α->Prop
def rK:Rep Int:=λ_ v x=>v=.int x
def K_:Rep Nat:=λ_ v x=>v=.int (x:Int)
def pR:Rep Bool:=λ_ v b=>v=.bl b
def Fr (K:af):Rep Rat:=λH v x=>∃a,v=.ref a/\mK K H a [.int x.num,.int (x.den:Int)]
def fo {α:Type} (R:Rep α):Rep (List α):=λH v l=>∃a vs,v=.ref a/\H a=some (.lst vs)/\Paired (R H) vs l
def kI (K:af) {α:Type} (R:Rep α):Rep (List α):=λH v l=>∃a vs,v=.ref a/\mK K H a vs/\Paired (R H) vs l
structure ja {α:Type} (R:Rep α):Prop where
 up:∀{H H':Hp} {v:V} {x:α},R H v x->bE H H'->R H' v x
theorem aU {α:Type} {R:Rep α} (m:ja R):∀{vs:List V} {l:List α},Paired (R H) vs l->bE H H'->Paired (R H') vs l
 |_,_,.nil,_=>.nil
 |_,_,.cons h t,s=>.cons (m.up h s) (aU m t s)
theorem df:ja rK:=⟨λh _=>h⟩
theorem Hn:ja K_:=⟨λh _=>h⟩
theorem jw:ja pR:=⟨λh _=>h⟩
theorem bU:ja (Fr K):=⟨λ⟨a,e,h⟩ s=>⟨a,e,ie s h⟩⟩
theorem cS {α:Type} {R:Rep α} (m:ja R):ja (fo R):=⟨λ⟨a,vs,e,h,p⟩ s=>⟨a,vs,e,s _ _ h,aU m p s⟩⟩
theorem oh {α:Type} {R:Rep α} (m:ja R):ja (kI K R):=⟨λ⟨a,vs,e,h,p⟩ s=>⟨a,vs,e,ie s h,aU m p s⟩⟩
theorem aZ {α β:Type} {F:α->β->Prop}:∀{nD:List α} {nE:List β},Paired F nD nE->nD.length=nE.length
 |_,_,.nil =>rfl
 |_,_,.cons _ t=>by rw[aL,aL,aZ t]
theorem lO {α β:Type} {F:α->β->Prop}:∀{nD:List α} {nE:List β} {i:Nat} {x:α},Paired F nD nE->nD[i]?=some x->∃y,nE[i]?=some y/\F x y
 |_,_,0,_,.cons h _,e=>by simp at e;subst e;exact⟨_,rfl,h⟩
 |_,_,i+1,x,.cons _ t,e=>by
  obtain⟨y,h1,h2⟩:=lO (i:=i) (x:=x) t (by simpa using e);exact⟨y,by simpa using h1,h2⟩
 |_,_,i,_,.nil,e=>by simp at e
theorem sj {α β:Type} {F:α->β->Prop}:∀{nD:List α} {nE:List β} {i:Nat} {y:β},Paired F nD nE->nE[i]?=some y->∃x,nD[i]?=some x/\F x y
 |_,_,0,_,.cons h _,e=>by simp at e;subst e;exact⟨_,rfl,h⟩
 |_,_,i+1,x,.cons _ t,e=>by
  obtain⟨y,h1,h2⟩:=sj (i:=i) (y:=x) t (by simpa using e);exact⟨y,by simpa using h1,h2⟩
 |_,_,i,_,.nil,e=>by simp at e
theorem pw {α β:Type} {F G:α->β->Prop} (f:∀a b,F a b->G a b):∀{nD:List α} {nE:List β},Paired F nD nE->Paired G nD nE
 |_,_,.nil =>.nil
 |_,_,.cons h t=>.cons (f _ _ h) (pw f t)
theorem d4 {α β:Type} {F:α->β->Prop}:∀{nD m₁:List α} {nE m₂:List β},Paired F nD nE->Paired F m₁ m₂->Paired F (nD++m₁) (nE++m₂)
 |_,_,_,_,.nil,s=>s
 |_,_,_,_,.cons h t,s=>.cons h (d4 t s)
theorem lQ {α β:Type} {F:α->β->Prop}:∀{nD:List α} {nE:List β} (n:Nat),Paired F nD nE->Paired F (nD.take n) (nE.take n)
 |_,_,0,_=>.nil
 |_,_,_+1,.nil =>.nil
 |_,_,n+1,.cons h t=>.cons h (lQ n t)
theorem j7 {α β:Type} {F:α->β->Prop}:∀{nD:List α} {nE:List β} (n:Nat),Paired F nD nE->Paired F (nD.drop n) (nE.drop n)
 |_,_,0,h=>h
 |_,_,_+1,.nil =>.nil
 |_,_,n+1,.cons _ t=>j7 n t
theorem iX:∀{vs:List V} {l:List Int},Paired (rK H) vs l->vs=l.map V.int
 |_,_,.nil =>rfl
 |_,_,.cons h t=>by rw[az,iX t,show _=_ from h]
theorem kU:∀(l:List Int),Paired (rK H) (~~~208) l
 | []=>.nil
 |x::l=>.cons rfl (kU l)
theorem qH:∀{vs:List V} {l:List Bool},Paired (pR H) vs l->vs=l.map V.bl
 |_,_,.nil =>rfl
 |_,_,.cons h t=>by rw[az,qH t,show _=_ from h]
theorem AW:∀(l:List Nat),Paired (K_ H) (l.map λ(n:Nat)=>V.int (n:Int)) l
 | []=>.nil
 |x::l=>.cons rfl (AW l)
abbrev eA:Rep (~~~94):=fo rK
theorem dH {v:V} {l:List Int} (h:eA H v l):∃a,v=.ref a/\H a=some (.lst (~~~208)):=by
 obtain⟨a,vs,e,s,p⟩:=h;exact⟨a,e,by rw[<-iX p];exact s⟩
theorem fZ {a:Addr} {l:List Int} (s:H a=some (.lst (~~~208))):eA H (.ref a) l:=⟨a,_,rfl,s,kU l⟩
end
section
variable {K:af} {σ:L2.St} {H:Hp} {Q:VK} {D:Ends}
theorem abd {t u:TS} (h:t {D with nx:=u D} σ H):acw t u D σ H:=h
theorem aa1 {te:TE} {g:TG} (h:te σ H λx H1=>g x σ H1 D.nx):Qh te g D σ H:=h
theorem Ye {i:Nat} {v:V} {Q:L2.St->Hp->Prop} (h:Q (σ.set i (some v)) H):zy i v σ H Q:=h
theorem abg {i:Nat} {v:V} (e:σ[i]?=some (some v)) (h:Q v H):TZ i σ H Q:=⟨v,e,h⟩
theorem g_c {v:V} (h:Q v H):tC v σ H Q:=h
theorem ad0 {r:R2} {ta tb:TE} (h:ta σ H λx H1=>tb σ H1 λy H2=>r x y H2 Q):ZL r ta tb σ H Q:=h
theorem ad7 {r:V->Hp->VK->Prop} {ta:TE} (h:ta σ H λx H1=>r x H1 Q):tUn r ta σ H Q:=h
theorem X_ {sp:Sp} {ED:List V} {E:XK} {t:TA} (h:t σ H λvs H1=>sp (vs++ED) H1 Q E):TV sp ED E t σ H Q:=h
theorem aa_ {Q:List V->Hp->Prop} (h:Q [] H):Qi σ H Q:=h
theorem X' {ta:TE} {tr:TA} {Q:List V->Hp->Prop} (h:ta σ H λx H1=>tr σ H1 λxs H2=>Q (x::xs) H2):N0 ta tr σ H Q:=h
theorem abc {te:TE} (h:te σ H D.rt):acv te D σ H:=h
theorem aa7 {c:TT} {t u:TS} (h:c σ H λb H1=>if b=true then t D σ H1 else u D σ H1):acq c t u D σ H:=h
theorem Yh {t:TE} {Q:Bool->Hp->Prop} (h:t σ H λx H'=>∃k,x=.bl k/\Q k H'):Xr t σ H Q:=h
theorem ad6 {t:TE} {Q:Bool->Hp->Prop} (h:t σ H λx H1=>∃c,x=.bl c/\Q c H1):tB t σ H Q:=h
theorem Ya {te:TE} (h:te σ H λ_ H1=>D.nx σ H1):Xl te D σ H:=h
theorem Yf (h:D.nx σ H):Xn D σ H:=h
theorem aa' {t:TT} {Q:Bool->Hp->Prop} (h:t σ H λc H1=>Q (!c) H1):acs t σ H Q:=h
theorem adX {wi:TI} {g:TG} {tt:TT} {te:TE} {vs:List Nat} (h:wi σ H λJ H1=>∀D,H1 D=none->∃W:Nat->Nat->Hp->Prop,(∃m,W 0 m (upd H1 D (.lst [])))/\∀i m H,W i m H->
 (J.stop i H/\Q (.ref D) H)\/(J.go i H/\∃Nx:Hp->Prop,(∀H',Nx H'->∃m',m'<m/\W (i+1) m' H')/\∀x H',J.Kk i H x H'->g x (wipe σ vs) H' fun σ2 H2=>wipe σ2 vs=wipe σ vs/\tt σ2 H2 λb H3=>
  if b=true then te σ2 H3 λy H4=>∃acc,H4 D=some (.lst acc)/\acc.length<sizeLine/\Nx (~~~235) else Nx H3)):Dk wi g tt te vs σ H Q:=h
theorem ad5 {r:V->Option Int->Option Int->Hp->VK->Prop} {te:TE} {tl th:TO} (h:te σ H λx H1=>tl σ H1 λl H2=>th σ H2 λu H3=>r x l u H3 Q):tSl r te tl th σ H Q:=h
theorem ad2 {t:TE} {Q:Option Int->Hp->Prop} (h:t σ H λx H1=>∃i,x=.int i/\Q (some i) H1):Xq t σ H Q:=h
theorem abb {Q:Option Int->Hp->Prop} (h:Q none H):N1 σ H Q:=h
theorem adL {T:String} {r:V->List V->Hp->VK->Prop} {to:TE} {t:TA} (h:to σ H λx H1=>XA K T x H1/\t σ H1 λxs H2=>r x xs H2 Q):tBM K T r to t σ H Q:=h
theorem adM {r:List V->Hp->VK->Prop} {t:TA} (h:t σ H λvs H1=>r vs H1 Q):Oe r t σ H Q:=h
theorem adK {b:Bool} {Q:Bool->Prop} (h:Q b):∃k,V.bl b=.bl k/\Q k:=⟨b,rfl,h⟩
theorem adR {g:Int->Int->V} {i j:Int} (h:Q (g i j) H):Uz g (.int i) (.int j) H Q:=⟨i,j,rfl,rfl,h⟩
theorem t_ {C:Int->Int->Prop} {g:Int->Int->V} {i j:Int} (c:C i j) (h:Q (g i j) H):rI C g (.int i) (.int j) H Q:=⟨i,j,rfl,rfl,c,h⟩
theorem g_u {g:Int->V} {i:Int} (h:Q (g i) H):rU g (.int i) H Q:=⟨i,rfl,h⟩
def aaz (Q:VK) (xs:List V) (H:Hp):Prop:=xs.length<=sizeLine/\∀p,H p=none->Q (.ref p) (upd H p (.tup xs))
def UR (Q:VK) (xs:List V) (H:Hp):Prop:=xs.length<=sizeLine/\∀p,H p=none->Q (.ref p) (upd H p (~~~320))
theorem abf {t:TA} (h:t σ H (aaz Q)):acy t σ H Q:=h
theorem aa8 {t:TA} (h:t σ H (UR Q)):acr t σ H Q:=h
theorem jR {xs:List V} (l:xs.length<=sizeLine) (h:∀(H':Hp) (p:Addr),bE H H'->H p=none->mK K H' p xs->Q (.ref p) H'):aaz Q xs H:=
 ⟨l,λp hp=>h _ p (iP hp) hp (mK.of cU)⟩
theorem bY {xs:List V} (l:xs.length<=sizeLine) (h:∀(H':Hp) (p:Addr),bE H H'->H p=none->H' p=some (~~~320)->Q (.ref p) H'):UR Q xs H:=
 ⟨l,λp hp=>h _ p (iP hp) hp cU⟩
theorem g_num {v:V} {x:Rat} (f:Fr K H v x) (h:Q (.int x.num) H):S_ K v (.int 0) H Q:=by
 obtain⟨a,rfl,s⟩:=f;exact⟨a,_,0,_,rfl,rfl,s,rfl,h⟩
theorem aa2 {v:V} {x:Rat} (f:Fr K H v x) (h:Q (.int (x.den:Int)) H):S_ K v (.int 1) H Q:=by
 obtain⟨a,rfl,s⟩:=f;exact⟨a,_,1,_,rfl,rfl,s,rfl,h⟩
theorem Ri (i j:Int):decide (V.int i=V.int j)=decide (i=j):=by
 by_cases h:i=j
 .rw[decide_eq_true h,h];simp
 .rw[decide_eq_false h,decide_eq_false (λz=>h (V.int.inj z))]
theorem adO {i j:Int} (h:Q (.bl (decide (i=j))) H):rEq (.int i) (.int j) H Q:=⟨rfl,by rw[Ri];exact h⟩
theorem adZ {i j:Int} (h:Q (.bl (!decide (i=j))) H):rNe (.int i) (.int j) H Q:=⟨rfl,by rw[Ri];exact h⟩
theorem ub {c A B:Prop} [Decidable c] (h1:c->A) (h2:¬c->B):if decide c=true then A else B:=by
 by_cases h:c
 .rw[decide_eq_true h];exact h1 h
 .rw[decide_eq_false h];exact h2 h
theorem Ry {c A B:Prop} [Decidable c] (h1:¬c->A) (h2:c->B):if(!decide c)=true then A else B:=by
 by_cases h:c
 .rw[decide_eq_true h];exact h2 h
 .rw[decide_eq_false h];exact h1 h
theorem mC (x y:V):[x,y].length <=sizeLine:=by show 2<=sizeLine;decide
end
structure Def (K:af) (mg:Str->Option Value) (x:Str) (st:Stmt) (ps:List Str):Prop where
 ex:∃f fd,UO K x x st f fd/\mg x=some (.ref f)/\Binds K fd ps []
structure dR (P:Program) (w:World) (K:af) (mg:Str->Option Value) (base:Heap) (k:Nat) (x:Str) (ps:List Str) (sp:Sp):Prop where
 ex:∃f fd,tj P w K mg base M0 k f fd ps sp/\mg x=some (.ref f)/\eG K (.ref f)=true/\Binds K fd ps []
section
variable {P:Program} {w:World} {K:af} {mg:Str->Option Value} {base:Heap}
theorem Def.ok {x:Str} {st:Stmt} {N ps:List Str} {k:Nat} {sp:Sp} (F:Def K mg x st ps) (S:bh N ps (ay st)) (len:∀vs H Q E,sp vs H Q E->vs.length=ps.length)
  (BX:∀(f:Addr) (nu:Value) (A:Around) (outer:List Env) (s:Shared) (H:Hp) (vs:List V) (Q:VK) (E:XK),lB k (A.deeper (envOfC x (ay st) s.heap.objs.size f nu))->sp vs H Q E->
   ∃t,K' (FX M0 P w K mg base N x (ay st) f nu A outer s H E).YT (kS st) t/\t {nx:=λ_ H'=>Q .jL H',rt:=Q} (start N vs) H):dR P w K mg base (k+1) x ps sp:=by
 obtain⟨f,fd,hf,hm,hb⟩:=F.ex;exact⟨f,fd,hf.ok S len (λnu=>BX f nu),hm,hf.kp,hb⟩
theorem dR.mono {x:Str} {ps:List Str} {j k:Nat} {sp:Sp} (p:dR P w K mg base j x ps sp) (h:j<=k):dR P w K mg base k x ps sp:=by
 obtain⟨f,fd,hf,r⟩:=p.ex;exact⟨f,fd,hf.mono h,r⟩
theorem dR.imp {x:Str} {ps:List Str} {k:Nat} {sp sp':Sp} (p:dR P w K mg base k x ps sp) (h:∀vs H Q E,sp' vs H Q E->sp vs H Q E):dR P w K mg base k x ps sp':=by
 obtain⟨f,fd,hf,r⟩:=p.ex;exact⟨f,fd,hf.imp h,r⟩
end
section
variable {X:Cx} {e:Expr} {es:List Expr} {t:TA} {x:Str} {ps:List Str} {k:Nat} {sp:Sp} {p pos:Pos}
theorem a9 (F:dR X.prog X.w X.K X.mg X.base k x ps sp) (hr:lB k X.A) (hg:Gl X x) (ha:PA X (e::es) t) (LG:(~~~93)=false:=by decide)
  (he:starEach (e::es) X.env=(false,eval e X.env)::starEach es X.env:=by rfl) (BY:(~~~115).any (·.1)=false:=by rfl):
  PE X (~~~122) (TV sp [] E0 t):=by
 obtain⟨f,fd,hf,hm,hk,hb⟩:=F.ex;exact VG hf hr hg hm hk hb .nil NF ha LG he BY
def wV (mg:Str->Option Value) (x:Str) (i:Int):Prop:=∃t,mg x=some (.int i t)
def oV (mg:Str->Option Value) (x:Str) (a:Addr):Prop:=mg x=some (.ref a)
theorem iU {i:Int} (h:wV X.mg x i) (hg:Gl X x) (hd:(~~~93)=false:=by decide):PE X (~~~321) (tC (.int i)):=by
 obtain⟨t,e⟩:=h;exact NG hg e ⟨t,rfl⟩ hd
theorem ic {a:Addr} (h:oV X.mg x a) (hg:Gl X x) (hd:(~~~93)=false:=by decide):PE X (~~~321) (tC (.ref a)):=NG hg h rfl hd
theorem rX {P:Program} {w:World} {K:af} {mg:Str->Option Value} {base:Heap} {N:List Str} {qual:Str} {scope:Scope} {f:Addr} {nu:Value} {A:Around} {outer:List Env} {s:Shared} {H:Hp} {E:XK} {k:Nat}
  (hr:lB k (~~~179)) (hk:40<=k) (ht:P.given.tree=none) (h1:scope.isGenerator=false) (h2:scope.isCoroutine=false):
  K7 (FX M0 P w K mg base N qual scope f nu A outer s H E).YT :=
 ⟨by have:=hr.dp;show(~~~179).depth +100<recursionLimit;omega,ht,_,_,rfl,h1,h2,rfl,rfl⟩
end
section
variable {X:Cx}
theorem b9 (i:Nat) {x:Str} {e:Expr} {te:TE} {pos pos':Pos} (nd:X.N.Nodup) (he:PE X e te) (hi:X.N[i]?=some x:=by rfl) (hx:Loc X.env.scope x:=by first|exact Or.inl rfl|exact Or.inr rfl)
  (hs:swapsWith e (some (.Name x pos')) pos.line X.env=pure false:=by rfl) (hf:X.fn x=true\/X.env.scope.names.lookup x=some .local :=by first|exact .inl rfl|exact .inr rfl):
  PS X (.Assign [.Name x pos'] e pos) (Qh te (zy i)):=Zh nd hi hx he hs hf
theorem cK (i:Nat) {x:Str} {pos:Pos} (nd:X.N.Nodup) (hi:X.N[i]?=some x:=by rfl) (hx:Loc X.env.scope x:=by first|exact Or.inl rfl|exact Or.inr rfl)
  (hf:X.fn x=true\/X.env.scope.names.lookup x=some .local :=by first|exact .inl rfl|exact .inr rfl):PG X (~~~321) (zy i):=VJ nd hi hx hf
theorem sW (i:Nat) {y:Str} {py:Pos} {elt tg iter:Expr} {ifs:List Expr} {scope:Scope} {own:List (Str×Nat)} {pos TM:Pos} {wi:TI} {g:TG} {tt:TT} {te:TE} (hN:X.N.Nodup) (hi:PI X tg iter wi) (ok:Em X.N X.env.scope scope own)
  (hg:∀(s:Shared) (H:Hp) (C:Addr) (cl:List (~~~186)) (fp:List Addr),PG (~~~68) tg g) (ht:∀(s:Shared) (H:Hp) (C:Addr) (cl:List (~~~186)) (fp:List Addr),Fp (~~~68) ifs tt)
  (he:∀(s:Shared) (H:Hp) (C:Addr) (cl:List (~~~186)) (fp:List Addr),PE (~~~68) elt te) (hc:X.calm=true:=by rfl) (hs:∀x,foldedSetIterable iter X.env x=pure x:=by intro _;rfl)
  (hy:X.N[i]?=some y:=by rfl) (MP:X.env.scope.names.lookup y=some .local :=by rfl)
  (UG:swapsWith (~~~75) (some (.Name y py)) TM.line X.env=pure true:=by exact We rfl rfl rfl rfl):
  PS X (.Assign [.Name y py] (~~~75) TM) (Qh (Dk wi g tt te (own.map (·.2))) (zy i)):=SY hc hN hy MP UG hi ok hg ht he hs
variable (K:af)
theorem rg (h:X.K=K:=by rfl):Fn X (S_ K):=h▸YB
theorem o9 (h:X.K=K:=by rfl):Fn X (S9 K):=h▸Vm
theorem QM (h:X.K=K:=by rfl):Oo X (VP K):=h▸V2
theorem v9 {tg l:Expr} {tl:TE} (hl:PE X l tl) (h:X.K=K:=by rfl):PI X tg l (RW K tl):=h▸VL hl
theorem MZ {tg l:Expr} {tl:TE} (hl:PE X l tl) (h:X.K=K:=by rfl):PI X tg l (Yx K tl):=h▸Ze hl
theorem fc {e:Expr} {f:Str} {pos:Pos} {ta:TE} (he:PE X e ta) (hb:attributeBase e f X.env (eval e X.env)=eval e X.env:=by rfl) (h:X.K=K:=by rfl):PE X (.Attribute e f pos) (Wf K ta f):=h▸Za he hb
theorem tI {o value:Expr} {f:Str} {pos pos':Pos} {ta tv:TE} (ha:PE X o ta) (hv:PE X value tv) (hs:swapsWith value (some (.Attribute o f pos')) pos.line X.env=pure false:=by rfl) (h:X.K=K:=by rfl):PS X (.Assign [.Attribute o f pos'] value pos) (Zo K ta tv f):=h▸Zg ha hv hs
def VO (K:af):List V->Hp->VK->Prop:=λxs H Q=>∃p ys,xs=[.ref p]/\(dz K H p ys\/mK K H p ys)/\Q (.int ys.length) H
theorem iH (h:X.K=K:=by rfl):pS X (.builtin "len") (VO K):=h▸FT
def Ta (K:af):List V->Hp->VK->Prop:=λxs H Q=>∃p ys,xs=[.ref p]/\((dz K H p ys/\∀l,H l=none->Q (.ref l) (upd H l (.tup ys)))\/(mK K H p ys/\Q (.ref p) H))
theorem IB (h:X.K=K:=by rfl):pS X (.type "tuple") (Ta K):=h▸Dt
theorem WJ (hc:X.calm=true:=by rfl) (h:X.K=K:=by rfl):pS X (.builtin "sum") (ab5 K):=h▸XY hc
theorem Rc (hc:X.calm=true:=by rfl) (h:X.K=K:=by rfl):pS X (.builtin "all") (ab0 K):=h▸XW hc
theorem WI (hc:X.calm=true:=by rfl) (h:X.K=K:=by rfl):pS X (.builtin "any") (ab1 K):=h▸XX hc
theorem abR (hu:X.A.units+64<cLine) (h:X.K=K:=by rfl):AG X (compareOp .Eq) (ab3 K):=h▸YY hu
theorem Xc (hu:X.A.units+64<cLine) (h:X.K=K:=by rfl):AG X (compareOp .NotEq) (ab4 K):=h▸YZ hu
theorem EZ (n:Nat) {es:List Expr} {k:Nat} {t:Uq} {pos:Pos} (hs:Fo X es t) (hn:(~~~272).length =n:=by rfl) (HG:(~~~272).findIdx? (·.1)=none:=by rfl) (hc:X.calm=true:=by rfl) (h:X.K=K:=by rfl):
  PG X (.Tuple es k pos) (X8 K n t):=h▸Zc hc hs hn HG
end
section
variable {α β:Type} {K:af}
structure FA (J:It) (H:Hp) (l:List α) (R:Rep α):Prop where
 go:∀i H',bE H H'->i<l.length->J.go i H'
 Kk:∀i H' x pJ,bE H H'->i<l.length->J.Kk i H' x pJ->∃z,l[i]?=some z/\bE H' pJ/\R pJ x z
 stop:∀H',bE H H'->J.stop l.length H'
theorem dS {R:Rep α} (st:ja R) {H:Hp} {a:Addr} {vs:List V} {l:List α} (h:dz K H a vs) (p:Paired (R H) vs l):FA (El K a) H l R where
 go:=λi H' s hi=>by
  have hl:=aZ p;exact⟨vs,vs[i]'(~~~62),s.seq h,by simp[hl,hi]⟩
 Kk:=λi H' x pJ s hi ⟨e,y⟩=>by
  subst e;obtain⟨z,hz,r⟩:=lO p (y vs (s.seq h));exact⟨z,hz,bE.refl _,st.up r s⟩
 stop:=λH' s=>⟨vs,s.seq h,by rw[aZ p];exact aM _⟩
theorem B1 {R:Rep α} (st:ja R) {H:Hp} {a:Addr} {vs:List V} {l:List α} (h:mK K H a vs) (p:Paired (R H) vs l):FA (Fl K a) H l R where
 go:=λi H' s hi=>by
  have hl:=aZ p;exact⟨vs,vs[i]'(~~~62),ie s h,by simp[hl,hi]⟩
 Kk:=λi H' x pJ s hi ⟨e,y⟩=>by
  subst e;obtain⟨z,hz,r⟩:=lO p (y vs (ie s h));exact⟨z,hz,bE.refl _,st.up r s⟩
 stop:=λH' s=>⟨vs,ie s h,by rw[aZ p];exact aM _⟩
theorem xx {H:Hp} (lo:Int) (n:Nat):FA (XE lo n) H (ax n) (λ_ v i=>v=.int (lo+(i:Nat))) where
 go:=λi H' s hi=>by show i<n;simpa using hi
 Kk:=λi H' x pJ s hi ⟨e,y⟩=>by
  subst e;have hi:i<n:=by simpa using hi
  exact⟨i,dQ hi,bE.refl _,y⟩
 stop:=λH' s=>by show n<=(ax n).length;rw[eU];exact aM _
def W5:HO->Bool
 | .lst _=>true
 |_=>false
def yi (H H' pJ:Hp):Prop:=∀b o,H' b=some o->(H b=none\/W5 o=false)->pJ b=some o
theorem fj {J:It} {H1:Hp} {l:List α} {R:Rep α} (ok:FA J H1 l R) {S:Rep β} (stS:ja S) {f:α->β} {g:TG} {te:TE} {vs:List Nat} {σ:L2.St} {D:Addr} {Qd:Hp->Prop} (hD:H1 D=none) (hz:l.length<=100000)
  (body:∀(i:Nat) (z:α) (x:V) (H':Hp),l[i]?=some z->bE H1 H'->R H' x z->∀Q':VK,(∀y H4,bE H' H4->(∀pJ,yi H' H4 pJ->S pJ y (f z))->Q' y H4)->
   g x (wipe σ vs) H' fun σ2 H2=>wipe σ2 vs=wipe σ vs/\te σ2 H2 Q')
  (fin:∀H' ys,bE H1 H'->H' D=some (.lst ys)->Paired (S H') ys (l.map f)->Qd H'):
  ∃W:Nat->Nat->Hp->Prop,(∃m,W 0 m (upd H1 D (.lst [])))/\∀i m H,W i m H->
   (J.stop i H/\Qd H)\/(J.go i H/\∃Nx:Hp->Prop,(∀H',Nx H'->∃m',m'<m/\W (i+1) m' H')/\∀x H',J.Kk i H x H'->g x (wipe σ vs) H' fun σ2 H2=>wipe σ2 vs=wipe σ vs/\acz σ2 H2 λb H3=>
    if b=true then te σ2 H3 λy H4=>∃acc,H4 D=some (.lst acc)/\acc.length<sizeLine/\Nx (~~~235) else Nx H3):=by
 let Pv:Nat->Hp->Prop:=λi H=>bE H1 H/\∃ys,H D=some (.lst ys)/\Paired (λy z=>∀pJ,(∀b o,H b=some o->b≠D->pJ b=some o)->S pJ y z) ys ((~~~276).map f);refine⟨λi m H=>m=l.length-i/\i<=l.length/\Pv i H,⟨l.length,by simp,cj _,iP hD,[],cU,by simp;exact .nil⟩,?_⟩;rintro i m H ⟨rfl,hi,s1,ys,hys,pr⟩;by_cases Dh:i<l.length
 .refine .inr ⟨ok.go i H s1 Dh,Pv (i+1),λH' p'=>⟨l.length- (i+1),by omega,rfl,Dh,p'⟩,λx H' y=>?_⟩;obtain⟨z,MQ,s2,r⟩:=ok.Kk i H x H' s1 Dh y;have b:=body i z x H' MQ (~~~99) r (λy H4=>∃acc,H4 D=some (.lst acc)/\acc.length<sizeLine/\Pv (i+1) (~~~235));refine b λy H4 s3 rb=>?_;have hy':=s2 _ _ hys;have hy4:=s3 _ _ hy';have ln:ys.length=i:=by rw[aZ pr,ag,cu];omega
  refine⟨ys,hy4,by rw[ln,sizeLine_eq];omega,?_,ys++[y],cU,?_⟩
  .intro b o e;rw[c6 (bL e hD)];exact s3 _ _ (s2 _ _ (s1 _ _ e))
  .have e:(~~~264).map f=(~~~276).map f++[f z]:=by
    rw[eE,MQ,bj];rfl
   rw[e];have k1:∀(pJ:Hp),(∀b o,(upd H4 D (.lst (ys++[y]))) b=some o->b≠D->pJ b=some o)->∀b o,H b=some o->b≠D->pJ b=some o:=by
    intro pJ k b o q hb;exact k b o (by rw[c6 hb];exact s3 _ _ (s2 _ _ q)) hb
   have k2:∀(pJ:Hp),(∀b o,(upd H4 D (.lst (ys++[y]))) b=some o->b≠D->pJ b=some o)->yi H' H4 pJ:=by
    intro pJ k b o q h;by_cases hb:b=D
    .subst hb;rw[hy4] at q;cases q;rcases h with h|h
     .rw[hy'] at h;cases h
     .cases h
    .exact k b o (by rw[c6 hb];exact q) hb
   exact d4 (pw (λu v h pJ k=>h pJ (k1 pJ k)) pr) (.cons (λpJ k=>rb pJ (k2 pJ k)) .nil)
 .have e:i=l.length:=by omega
  subst e;refine .inl ⟨ok.stop H s1,fin H ys s1 hys ?_⟩;rw[d8] at pr;exact pw (λu v h=>h H λb o q _=>q) pr
theorem jr {J:It} {H0 H1:Hp} {l:List α} {R:Rep α} (ok:FA J H0 l R) {g:TG} {tb:TS} {D:Ends} {σ:L2.St} (Pv:Nat->L2.St->Hp->Prop) (h0:Pv 0 σ H1) (hS:∀i σ H,i<=l.length->Pv i σ H->bE H0 H)
  (hs:∀i z x σ H,l[i]?=some z->bE H0 H->R H x z->(∃H0,Pv i σ H0/\bE H0 H)->g x σ H fun σ2 H2=>tb {D with nx:=Pv (i+1),ct:=Pv (i+1),bk:=D.nx} σ2 H2) (hd:∀σ H,Pv l.length σ H->D.nx σ H):
  ∃W:Nat->Nat->L2.St->Hp->Prop,(∃m,W 0 m σ H1)/\∀i m σ H,W i m σ H->
   (J.stop i H/\D.nx σ H)\/(J.go i H/\∃N:L2.St->Hp->Prop,(∀σ' H',N σ' H'->∃m',m'<m/\W (i+1) m' σ' H')/\∀x H',J.Kk i H x H'->g x σ H' fun σ2 H2=>tb {D with nx:=N,ct:=N,bk:=D.nx} σ2 H2):=by
 refine⟨λi m σ H=>m=l.length-i/\i<=l.length/\Pv i σ H,⟨l.length,by simp,cj _,h0⟩,?_⟩;rintro i m σ H ⟨rfl,hi,p⟩;have s1:=hS i σ H hi p;by_cases Dh:i<l.length
 .refine .inr ⟨ok.go i H s1 Dh,Pv (i+1),fun σ' H' p'=>⟨l.length- (i+1),by omega,rfl,Dh,p'⟩,λx H' y=>?_⟩;obtain⟨z,MQ,s2,r⟩:=ok.Kk i H x H' s1 Dh y;exact hs i z x σ H' MQ (~~~99) r ⟨H,p,s2⟩
 .have e:i=l.length:=by omega
  subst e;exact .inl ⟨ok.stop H s1,hd σ H p⟩
end
end Pb
set_option hygiene true in
local macro_rules| `(tactic|walk_at "e")=> `(tactic|((with_reducible refine' Pb.abg ?e ?k);(case e=>rfl)))
local macro_rules| `(tactic|walk_at "s")=> `(tactic|exact⟨rfl,rfl,rfl,by decide+kernel,rfl,by decide+kernel,by decide+kernel⟩)
local macro_rules| `(tactic|walk_at "go")=> `(tactic|first|with_reducible refine abd ?_|with_reducible refine aa1 ?_|with_reducible refine Ye ?_|walk_at "e"|with_reducible refine g_c ?_|with_reducible refine ad0 ?_|with_reducible refine ad7 ?_|with_reducible refine X_ ?_|with_reducible refine X' ?_|with_reducible refine aa_ ?_|with_reducible refine abc ?_|with_reducible refine aa7 ?_|with_reducible refine Yh ?_|with_reducible refine ad6 ?_|with_reducible refine adM ?_|with_reducible refine adK ?_|with_reducible refine adR ?_|with_reducible refine g_u ?_|with_reducible refine adO ?_|with_reducible refine adZ ?_|with_reducible refine abf ?_|with_reducible refine aa8 ?_|with_reducible refine g_num (by assumption) ?_|with_reducible refine aa2 (by assumption) ?_|with_reducible refine Ya ?_|with_reducible refine adX ?_|with_reducible refine ad5 ?_|with_reducible refine ad2 ?_|with_reducible refine abb ?_|with_reducible refine aa' ?_|with_reducible refine ad1 ?_|with_reducible refine afI ?_|with_reducible refine Yf ?_|with_reducible refine adL ?_|with_reducible refine aa3 ?_|with_reducible refine Yc ?_|with_reducible refine Yd ?_|with_reducible refine adV ?_|with_reducible refine adU ?_|with_reducible refine adT ?_|with_reducible refine adW ?_|with_reducible refine adS ?_|with_reducible refine aa4 ?_|with_reducible refine aa5 ?_|with_reducible refine Yg ?_|with_reducible refine X9 ?_|with_reducible refine aba ?_|with_reducible refine WO ?_|with_reducible refine aa6 ?_|with_reducible refine abe ?_|with_reducible refine adN ?_|with_reducible refine aa9 ?_|with_reducible refine ad3 ?_|with_reducible refine ad4 ?_|with_reducible refine adQ ?_|with_reducible refine adP ?_)
local macro_rules| `(tactic|walk_at "run")=> `(tactic|repeat walk_at "go")
namespace Pb
open PySem PySem.Spec PyProof.Rows L2
def top (i:Nat):Stmt:=PySem.Challenge.pw_pilesblends_s01_answers.main.body.getD i (.Pass ⟨0,0,0,0⟩)
structure Own (mg:Str->Option Value):Prop where
 len:mg "len"=none
 abs:mg "abs"=none
 min:mg "min"=none
 max:mg "max"=none
 sum:mg "sum"=none
 all:mg "all"=none
 any:mg "any"=none
 tuple:mg "tuple"=none
 list:mg "list"=none
 zip:mg "zip"=none
 enumerate:mg "enumerate"=none
 range:mg "range"=none
def Bd (B:Nat) (x:Int):Prop:=x.natAbs<2^B
def FB (B:Nat) (x:Rat):Prop:=x.num.natAbs<2^B/\x.den<2^B
abbrev B0:Nat:=60000000
theorem jd {x y:Int} {a b:Nat} (hx:Bd a x) (hy:Bd b y) (h:a+b<=134217728):IntMulOk x y:=
 IntMulOk.of_le (intBits_le_iff.mpr hx) (intBits_le_iff.mpr hy) h
theorem Bd.le {a b:Nat} {x:Int} (h:Bd a x) (WU:a<=b):Bd b x:=aT h (bW (~~~73) WU)
theorem FB.le {a b:Nat} {x:Rat} (h:FB a x) (WU:a<=b):FB b x:=⟨aT h.1 (bW (~~~73) WU),aT h.2 (bW (~~~73) WU)⟩
theorem FB.n {a:Nat} {x:Rat} (h:FB a x):Bd a x.num:=h.1
theorem FB.d {a:Nat} {x:Rat} (h:FB a x):Bd a (x.den:Int):=h.2
section
variable {P:Program} {w:World} {K:af} {mg:Str->Option Value} {base:Heap}
def aci:Sp:=λvs H Q _=>∃x y:Int,vs=[.int x,.int y]/\Q (.int (ig x y:Nat)) H
theorem xN:bh ["one","other","rest"] ["one","other"] (ay (top 2)):=by walk_at "s"
theorem xD (F:Def K mg "common_divisor" (top 2) ["one","other"]) (T:Own mg): ~~~2:=by
 exists xN,0
 .obtain⟨x,y,rfl,_⟩:=h;rfl
 obtain⟨x,y,rfl,q⟩:=h;refine⟨_,(ao (CC PassesOwn.never (eC Sz (pv 1) aF (dX _))
   (ao (b9 2 nd (b_ VD (pv 0) (pv 1)))
   (ao (b9 0 nd (pv 1))
   (aD (b9 1 nd (pv 2))))))
   (aD (bw (cR Q_ rfl T.abs (~~~63) (~~~311))))),?_⟩
 exists ⟨λm σ H1=>H1=H/\∃(a b:Int) (r:Option V),σ=[some (.int a),some (.int b),r]/\ig a b=ig x y/\m=b.natAbs,⟨_,rfl,x,y,none,rfl,rfl,rfl⟩,?_⟩;rintro m σ H1 ⟨rfl,a,b,r,rfl,e,rfl⟩;exists Ry ?_ ?_<;>intro h
 .refine⟨fun σ' H'=>H'=H1/\∃(a' b':Int) (r:Option V),σ'=[some (.int a'),some (.int b'),r]/\ig a' b'=ig x y/\b'.natAbs<b.natAbs,fun σ' H' ⟨e1,a',b',r',e2,e3,e4⟩=>⟨_,e4,e1,a',b',r',e2,e3,rfl⟩,?_⟩;exists t_ h ?_;exists ⟨rfl,b,a.fmod b,_,rfl,by rw[Fm.RB,e],Fm.U_ a h⟩
 .subst h;exists ⟨a,rfl,?_⟩;have e2:(if a<0 then-a else a)=((ig x y:Nat):Int):=by
   rw[<-e,Int.gcd_zero_right];split<;>omega
  rw[e2];exact q
def acj (K:af):Sp:=λvs H Q _=>∃(a:Int) (b:Nat),vs=[.int a,.int (b:Int)]/\b≠0/\∀H' z,bE H H'->Fr K H' z (mkRat a b)->Q z H'
theorem PM:bh ["above","below","divisor"] ["above","below"] (ay (top 3)):=by walk_at "s"
theorem Pt (F:Def K mg "lowest" (top 3) ["above","below"]) (ht:P.given.tree=none) (cO: ~~~2): ~~~4:=by
 exists PM,0
 .obtain⟨x,y,rfl,_⟩:=h;rfl
 obtain⟨a,b,rfl,hb,q⟩:=h;have hL:=rX (P:=P) (w:=w) (K:=K) (mg:=mg) (base:=base) (N:=["above","below","divisor"]) (outer:=outer) (H:=H) (E:=E) hr (~~~73) ht rfl rfl;refine⟨_,(ao (b9 2 nd (a9 cO (~~~61) rfl (~~~184)))
   (aD (bw (jU (ae (b_ (iM hL) (pv 0) (pv 2)) (ae (b_ (iM hL) (pv 1) (pv 2)) aj)))))),?_⟩
 exists ⟨a,b,rfl,?_⟩;have g0:((ig a b:Nat):Int)≠0:=by
  have:ig a b≠0:=λz=>hb (by have:=(u9.mp z).2;omega);omega
 exists t_ g0 ?_;exists t_ g0 ?_;exists 100;rw[Fm.Vp a hb,Fm.Gi a hb];have e1:a.fdiv ((ig a b:Nat):Int)=a/ ((bR a.natAbs b:Nat):Int):=Fm.qL a _;have e2:(b:Int).fdiv ((ig a b:Nat):Int)=((b/bR a.natAbs b:Nat):Int):=Fm.iJ b _;rw[e1,e2] at hp;exact hp
def ZA (K:af) (f:Rat->Rat->Rat):Sp:=λvs H Q _=>∃v u x y,vs=[v,u]/\Fr K H v x/\Fr K H u y/\FB B0 x/\FB B0 y/\∀H' z,bE H H'->Fr K H' z (f x y)->Q z H'
theorem VX:bh ["one","other","shared","short","above","rest"] ["one","other"] (ay (top 4)):=by walk_at "s"
theorem VC (F:Def K mg "plus" (top 4) ["one","other"]) (ht:P.given.tree=none) (cO: ~~~2): ~~~7:=by
 exists VX,0
 .exists 111
 obtain⟨v,u,x,y,rfl,hx,hy,bx,QD,q⟩:=h;have hL:=rX (P:=P) (w:=w) (K:=K) (mg:=mg) (base:=base) (N:=["one","other","shared","short","above","rest"]) (outer:=outer) (H:=H) (E:=E) hr (~~~73) ht rfl rfl;refine⟨_,(ao (b9 2 nd (a9 cO (~~~61) rfl (ae (~~~86) (ae (~~~85) aj))))
   (ao (b9 3 nd (b_ (iM hL) (~~~86) (pv 2)))
   (ao (b9 4 nd (b_ j6 (b_ gG (~~~86) (b_ (iM hL) (~~~85) (pv 2))) (b_ gG (~~~85) (pv 3))))
   (ao (b9 5 nd (a9 cO (~~~61) rfl (ae (pv 4) (~~~120))))
   (aD (bw (jU (ae (b_ (iM hL) (pv 4) (pv 5)) (ae (b_ gG (pv 3) (b_ (iM hL) (~~~85) (pv 5))) aj))))))))),?_⟩
 have g0:bR x.den y.den≠0:=λz=>x.den_nz (kF.mp z).1;exists ⟨x.den,y.den,rfl,?_⟩;have e0:((ig (x.den:Int) (y.den:Int):Nat):Int)=((bR x.den y.den:Nat):Int):=rfl;rw[e0];exists t_ (show((bR x.den y.den:Nat):Int)≠0 by omega) ?_;rw[Fm.iJ];exists t_ (show((bR x.den y.den:Nat):Int)≠0 by omega) ?_;rw[Fm.iJ];have b1:Bd B0 ((y.den/bR x.den y.den:Nat):Int):=bf (dC _ _) QD.2;have b2:Bd B0 ((x.den/bR x.den y.den:Nat):Int):=bf (dC _ _) bx.2;refine t_ (jd bx.n b1 (~~~73)) ?_;exists t_ (jd QD.n b2 (~~~73)) ?_;exists ⟨_,_,rfl,?_⟩;generalize hz:x.num*((y.den/bR x.den y.den:Nat):Int)+y.num*((x.den/bR x.den y.den:Nat):Int)=z;have e1:((ig z ((bR x.den y.den:Nat):Int):Nat):Int)=((bR z.natAbs (~~~318):Nat):Int):=rfl;have g1:bR z.natAbs (~~~318)≠0:=λh=>g0 (kF.mp h).2;rw[e1];exists t_ (show((bR z.natAbs (~~~318):Nat):Int)≠0 by omega) ?_;exists t_ (show((bR z.natAbs (~~~318):Nat):Int)≠0 by omega) ?_;rw[Fm.iJ];have b3:Bd B0 ((y.den/bR z.natAbs (~~~318):Nat):Int):=bf (dC _ _) QD.2;refine t_ (jd b2 b3 (~~~73)) ?_;exists 100;have n1:=Fm.JN x y;have n2:=Fm.JM x y;rw[hz] at n1 n2;rw[n1,n2,<-Fm.qL];exact hp
theorem Tg:bh ["one","other"] ["one","other"] (ay (top 5)):=by walk_at "s"
theorem Sv (F:Def K mg "minus" (top 5) ["one","other"]) (kH: ~~~7): ~~~6:=by
 exists Tg,0
 .exists 111
 exists 124;refine⟨_,(aD (bw (a9 kH (~~~61) rfl (ae (pv 0) (ae (jU (ae (Cy wA (~~~85)) (ae (~~~85) aj))) aj))))),?_⟩;exists jR (K:=K) (mC _ _) (λH' p s _ hp=>?_);exists ⟨v,.ref p,x,-y,rfl,bU.up hx s,⟨p,rfl,hp⟩,bx,⟨by show(-y.num).natAbs <_;rw[Bc];exact QD.1,QD.2⟩,λH2 z s2 hz=>q H2 z (s.trans s2) ?_⟩;have e:x-y=x+ -y:=oU x y;show Fr K H2 z (x-y);rw[e];exact hz
def ack (K:af) (C:Nat->Prop) (f:Rat->Nat->Rat):Sp:=λvs H Q _=>∃v x n,vs=[v,.int (n:Nat)]/\Fr K H v x/\FB B0 x/\Bd B0 (n:Nat)/\C n/\∀H' z,bE H H'->Fr K H' z (f x n)->Q z H'
theorem Ti:bh ["fraction","number","divisor"] ["fraction","number"] (ay (top 7)):=by walk_at "s"
theorem Sx (F:Def K mg "times" (top 7) ["fraction","number"]) (ht:P.given.tree=none) (cO: ~~~2): ~~~5:=by
 exists Ti,0
 .obtain⟨v,x,n,rfl,_⟩:=h;rfl
 obtain⟨v,x,n,rfl,hx,bx,bn,_,q⟩:=h;have hL:=rX (P:=P) (w:=w) (K:=K) (mg:=mg) (base:=base) (N:=["fraction","number","divisor"]) (outer:=outer) (H:=H) (E:=E) hr (~~~73) ht rfl rfl;refine⟨_,(ao (b9 2 nd (a9 cO (~~~61) rfl (ae (~~~86) (~~~107))))
   (aD (bw (jU (ae (b_ gG (~~~86) (b_ (iM hL) (pv 1) (pv 2))) (ae (b_ (iM hL) (~~~86) (pv 2)) aj)))))),?_⟩
 have g0:bR x.den n≠0:=λz=>x.den_nz (kF.mp z).1;exists ⟨x.den,n,rfl,?_⟩;have e0:((ig (x.den:Int) (n:Int):Nat):Int)=((bR x.den n:Nat):Int):=rfl;rw[e0];exists t_ (show((bR x.den n:Nat):Int)≠0 by omega) ?_;rw[Fm.iJ];refine t_ (jd bx.n (show Bd B0 ((n/bR x.den n:Nat):Int) from bf (dC _ _) bn) (~~~73)) ?_;exists t_ (show((bR x.den n:Nat):Int)≠0 by omega) ?_;rw[Fm.iJ];exists 100;rw[Fm.Ql,Fm.Qk];exact hp
theorem Mj:bh ["one","other"] ["one","other"] (ay (top 8)):=by walk_at "s"
theorem L7 (F:Def K mg "product" (top 8) ["one","other"]) (jG: ~~~4): ~~~3:=by
 exists Mj,0
 .exists 111
 exists 124;refine⟨_,(aD (bw (a9 jG (~~~61) rfl (ae (b_ gG (~~~86) (~~~85)) (ae (b_ gG (~~~86) (~~~85)) aj))))),?_⟩;exists t_ (jd bx.n QD.n (~~~73)) ?_;exists t_ (jd bx.d QD.d (~~~73)) ?_;exists 0;have hd:x.den*y.den≠0:=kP x.den_nz y.den_nz;refine⟨x.num*y.num,x.den*y.den,by rw[jz];rfl,hd,λH' z s hz=>q H' z s ?_⟩;have e:mkRat (x.num*y.num) (x.den*y.den)=x*y:=(Rat.mul_def' x y).symm;rw[e] at hz;exact hz
theorem VW:bh ["fraction","number","divisor"] ["fraction","number"] (ay (top 9)):=by walk_at "s"
theorem VB (F:Def K mg "over" (top 9) ["fraction","number"]) (ht:P.given.tree=none) (cO: ~~~2): ~~~1:=by
 exists VW,0
 .obtain⟨v,x,n,rfl,_⟩:=h;rfl
 obtain⟨v,x,n,rfl,hx,bx,bn,hn,q⟩:=h;have hL:=rX (P:=P) (w:=w) (K:=K) (mg:=mg) (base:=base) (N:=["fraction","number","divisor"]) (outer:=outer) (H:=H) (E:=E) hr (~~~73) ht rfl rfl;refine⟨_,(ao (b9 2 nd (a9 cO (~~~61) rfl (ae (~~~86) (~~~107))))
   (aD (bw (jU (ae (b_ (iM hL) (~~~86) (pv 2)) (ae (b_ gG (~~~86) (b_ (iM hL) (pv 1) (pv 2))) aj)))))),?_⟩
 have g0:bR x.num.natAbs n≠0:=λz=>hn (kF.mp z).2;exists ⟨x.num,n,rfl,?_⟩;have e0:((ig x.num (n:Int):Nat):Int)=((bR x.num.natAbs n:Nat):Int):=rfl;rw[e0];exists t_ (show((bR x.num.natAbs n:Nat):Int)≠0 by omega) ?_;exists t_ (show((bR x.num.natAbs n:Nat):Int)≠0 by omega) ?_;rw[Fm.iJ];refine t_ (jd bx.d (show Bd B0 ((n/bR x.num.natAbs n:Nat):Int) from bf (dC _ _) bn) (~~~73)) ?_;exists 100;rw[Fm.SF x hn,Fm.SA x hn,<-Fm.qL];exact hp
def Zy (K:af):Sp:=λvs H Q _=>∃v u x y,vs=[v,u]/\Fr K H v x/\Fr K H u y/\FB B0 x/\FB B0 y/\Q (.bl (decide (x<y))) H
theorem VV:bh ["one","other"] ["one","other"] (ay (top 10)):=by walk_at "s"
theorem VA (F:Def K mg "less" (top 10) ["one","other"]): ~~~0:=by
 exists VV,0
 .exists 111
 exists 124;refine⟨_,(aD (bw (ko Cp (b_ gG (~~~86) (~~~85)) (b_ gG (~~~85) (~~~86)) (dX _)))),?_⟩;exists t_ (jd bx.n QD.d (~~~73)) ?_;exists t_ (jd QD.n bx.d (~~~73)) ?_;exists 0;have e:decide (x<y)=decide (x.num*(y.den:Int)<y.num*(x.den:Int)):=decide_eq_decide.mpr (Rat.lt_iff x y);rw[e] at q;exact q
end
end Pb
namespace Zs
open PySem PySem.Spec PyProof.Rows L2
open Sem (wp)
def SI:Bool->Heap->Addr->Addr->Nat->Prop
 |true,h,it,a,i=>h.IsTupleIter it a i
 |false,h,it,a,i=>h.IsListIter it a i
def SS:Bool->Heap->Addr->Array Value->Prop
 |true,h,a,v=>h.IsTuple a v
 |false,h,a,v=>h.IsList a v
theorem SI.at {tp:Bool} {h h':Heap} {it a:Addr} {i:Nat} (x:SI tp h it a i) (e:∀o,h.get? it=some o->h'.get? it=some o):SI tp h' it a i:=by
 cases tp
 .exact Heap.IsListIter.at x e
 .exact Heap.IsTupleIter.at x e
theorem SI.ext {tp:Bool} {h h':Heap} {it a b:Addr} {i:Nat} (x:SI tp h it a i) (s:zg b h h') (n:it≠b):SI tp h' it a i:=x.at λo q=>s it o n q
theorem SS.at {tp:Bool} {h h':Heap} {a:Addr} {v:Array Value} (x:SS tp h a v) (e:∀o,h.get? a=some o->h'.get? a=some o):SS tp h' a v:=by
 cases tp
 .exact Heap.IsList.at x e
 .obtain⟨o,ho,r⟩:=x;exact⟨o,e o ho,r⟩
theorem SS.ext {tp:Bool} {h h':Heap} {a b:Addr} {v:Array Value} (x:SS tp h a v) (s:zg b h h') (n:a≠b):SS tp h' a v:=x.at λo q=>s a o n q
theorem SI.live {tp:Bool} {h:Heap} {it a:Addr} {i:Nat} (x:SI tp h it a i):∃o,h.get? it=some o/\∀v,o.data≠ .cell v:=by
 cases tp
 .obtain⟨o,ho,_,hd⟩:=x;exact⟨o,ho,λv q=>by rw[hd] at q;cases q⟩
 .obtain⟨o,ho,_,hd⟩:=x;exact⟨o,ho,λv q=>by rw[hd] at q;cases q⟩
theorem SS.lt {tp:Bool} {h:Heap} {a:Addr} {v:Array Value} (x:SS tp h a v):a<h.objs.size:=by
 cases tp
 .obtain⟨o,ho,_⟩:=x;exact aX ho
 .obtain⟨o,ho,_⟩:=x;exact aX ho
abbrev Ag (h:Heap) (z TI TO:Addr) (f0:Value) (b:Bool):Prop:=h.get? z=some {cls:=.type "zip",dict:=none,data:=.fields #[f0,.bool b,.bool false,.ref TI,.ref TO],slots:= #[]}
section
variable {prog:Program} {w:World} {A:Around} {E:Value->Shared->Prop} {s:Shared}
theorem rZ {tp:Bool} {it l:Addr} {i:Nat} {its:Array Value} {x:Value} {Q:Value->Shared->Prop} (hi:SI tp s.heap it l i) (hl:SS tp s.heap l its) (hx:its[i]?=some x)
  (hQ:∀h',SI tp h' it l (i+1)->fe it s.heap h'->Q x {s with heap:=h'}):wpAny (~~~70) A (bD (.ref it)) Q E s:=by
 cases tp
 .exact wpAny_nextOf_list_item hi hl hx hQ
 .have hi:s.heap.IsTupleIter it l i:=hi;obtain⟨o,ho,hc,hd⟩:=id hi;obtain⟨ol,Um,_,nl,QV⟩:=hl;unfold bD;refine wpAny_bind (wpAny_callSpecial?_slot (name:=gq "__next__") hi.typeIs F.slot_tuple_iterator_next (wpAny_call_entry F.slot_tuple_iterator_next hi.typeIs F.entry_tuple_iterator_next ?_ (F.args_tuple_iterator_next_1 _)));show wpAny _ _ (field (.ref it) 0>>=_) _ _ s;refine wpAny_bind (wpAny_field ho hd (x:=.ref l) rfl ?_);show wpAny _ _ (if(~~~274)=true then _ else _) _ _ s;rw[if_neg (show¬((~~~274)=true) from bS)];show wpAny _ _ (field (.ref it) 1>>=_) _ _ s;refine wpAny_bind (wpAny_field ho hd (x:=.int i 0) rfl ?_);show wpAny _ _ (seqItems? (.ref l)>>=_) _ _ s;refine wpAny_bind (wpAny_seqItems Um QV ?_);simp only[eQ,hx];refine wpAny_bind (wpAny_setField ho hd (~~~88) (wpAny_pure ⟨x,rfl,wpAny_pure (hQ _ ⟨_,f7 _ ho (Obj.isFreed_of_fields (Obj.data_mapFields hd _)),(Obj.cls_mapFields ..).trans hc,by rw[Obj.data_mapFields hd];simp[rawInt]⟩ (fe.update ..))⟩))
theorem Ci {tp:Bool} {it l:Addr} {i:Nat} {its:Array Value} {Q:Value->Shared->Prop} (hh:A.handled=none) (hi:SI tp s.heap it l i) (hl:SS tp s.heap l its) (hx:its[i]?=none)
  (hE:∀h' e,zg it s.heap h'->(∃o,h'.get? e=some o/\o.cls=.type "StopIteration")->E (.ref e) {s with heap:=h'}):wpAny (~~~70) A (bD (.ref it)) Q E s:=by
 cases tp
 .exact wpAny_nextOf_list_end hh hi hl hx hE
 .have hi:s.heap.IsTupleIter it l i:=hi;obtain⟨o,ho,hc,hd⟩:=id hi;obtain⟨ol,Um,_,nl,QV⟩:=hl;unfold bD;refine wpAny_bind (wpAny_callSpecial?_slot (name:=gq "__next__") hi.typeIs F.slot_tuple_iterator_next (wpAny_call_entry F.slot_tuple_iterator_next hi.typeIs F.entry_tuple_iterator_next ?_ (F.args_tuple_iterator_next_1 _)));show wpAny _ _ (field (.ref it) 0>>=_) _ _ s;refine wpAny_bind (wpAny_field ho hd (x:=.ref l) rfl ?_);show wpAny _ _ (if(~~~274)=true then _ else _) _ _ s;rw[if_neg (show¬((~~~274)=true) from bS)];show wpAny _ _ (field (.ref it) 1>>=_) _ _ s;refine wpAny_bind (wpAny_field ho hd (x:=.int i 0) rfl ?_);show wpAny _ _ (seqItems? (.ref l)>>=_) _ _ s;refine wpAny_bind (wpAny_seqItems Um QV ?_);simp only[eQ,hx];refine wpAny_bind (wpAny_rule (wpAny_bind (wpAny_setField ho hd (~~~88) ?_)));show wpAny _ _ (newExc (.type "StopIteration") []>>=_) _ _ _;exists 46;simp only[newExc,newTuple];refine wpAny_bind (wpAny_newObj_type ?_ (by size_fits));refine wpAny_bind (m:=firstArgMember _ _) (wpAny_of_eq (a:=Value.none) (by first|rfl|(simp only[firstArgMember];rfl)) ?_);refine wpAny_newObj_type ?_ (by size_fits);simp only[raiseNew];refine wpAny_bind (wpAny_handled ?_)
  (first|rw[show A.in1.handled=none from hh]|rw[hh]);refine wpAny_bind (wpAny_pure (wpAny_throw ?_))
  exact hE _ _ (((fe.update ..).extBut.push _).push _) ⟨_,aY _ rfl,rfl⟩
theorem Hv {z TI TO:Addr} {b:Bool} {Q:Bool->Shared->Prop} (hz:Ag s.heap z TI TO .none b) (hQ:Q true s):wpAny (~~~70) A (aW (.ref z)) Q E s:=by
 unfold aW;exact wpAny_bind (wpAny_field hz rfl (x:=.none) rfl (wpAny_pure hQ))
theorem N7 {p1 p2:Bool} {z TI TO i1 i2 l1 l2:Addr} {k1 k2:Nat} {xs ys:Array Value} {x y a b:Value} {f0:Value} {fb:Bool} {Q:Value->Shared->Prop} (D:ZipApart z TI TO i1 i2 l1 l2) (hz:Ag s.heap z TI TO f0 fb) (QI:∀Q':Bool->Shared->Prop,Q' true s->wpAny (~~~70) A (aW (.ref z)) Q' E s) (rT:IsPair s.heap TI (.ref i1) (.ref i2)) (vL:IsPair s.heap TO a b)
  (h1:SI p1 s.heap i1 l1 k1) (h2:SI p2 s.heap i2 l2 k2) (vM:SS p1 s.heap l1 xs) (oI:SS p2 s.heap l2 ys) (hx:xs[k1]?=some x) (hy:ys[k2]?=some y)
  (hQ:∀h',IsZip h' z TI TO (rawInt s.heap.objs.size)->IsPair h' TO x y->SI p1 h' i1 l1 (k1+1)->SI p2 h' i2 l2 (k2+1)->IsPair h' s.heap.objs.size x y->h'.objs.size=s.heap.objs.size+1->
   (∀c o,c≠z->c≠TO->c≠i1->c≠i2->s.heap.get? c=some o->h'.get? c=some o)->Q (~~~109) {s with heap:=h'}):
  wpAny (~~~70) A (~~~79) (λfin s'=>∃v,fin=.done (.ret v)/\Q v s') E s:=by
 exists 5;refine wpAny_bind (QI _ ?_);exists 83;refine wpAny_bind (wpAny_field hz rfl (x:=.ref TO) rfl ?_);refine wpAny_bind (wpAny_setField_rec hz (~~~88) λg1 z1 s1=>?_)
 replace z1:Ag g1 z TI TO .ellipsis fb:=z1
 exists 46;simp only[x8,Ab,kO,j0];refine wpAny_bind (~~~212);exists 77;refine wpAny_bind (~~~92);have t2:IsPair g2 TO a b:=s2.extBut _ _ D.TOi1 (s1.extBut _ _ D.TOz vL);refine wpAny_bind (wpAny_seqItems t2 rfl ?_);refine wpAny_bind (wpAny_updateSeq_pair t2 λg3 t3 s3=>?_)
 replace t3:IsPair g3 TO x b:=t3
 refine wpAny_bind (~~~304);refine wpAny_bind (~~~212);exists 76;refine wpAny_bind (rZ ((~~~136).ext s3.extBut D.TOi2.symm) ((~~~145).ext s3.extBut D.l2TO) hy λg4 n2 s4=>wpAny_pure ?_);have t4:IsPair g4 TO x b:=s4.extBut _ _ D.TOi2 t3;refine wpAny_bind (wpAny_seqItems t4 rfl ?_);refine wpAny_bind (wpAny_updateSeq_pair t4 λg5 t5 s5=>?_)
 replace t5:IsPair g5 TO x y:=t5
 refine wpAny_bind (wpAny_letGo (wpAny_pure (~~~207)));refine wpAny_bind (wpAny_seqItems t5 rfl ?_);refine wpAny_bind (wpAny_newTuple ?_);have hsz:g5.objs.size=s.heap.objs.size:=by rw[s5.1,s4.1,s3.1,s2.1,s1.1]
 have z5:Ag g5 z TI TO .ellipsis fb:=s5.extBut _ _ D.TOz.symm (s4.extBut _ _ D.i2z.symm (s3.extBut _ _ D.TOz.symm (~~~305)));have k5:∀c o,c≠z->c≠TO->c≠i1->c≠i2->s.heap.get? c=some o->g5.get? c=some o:=λc o c1 c2 c3 c4 e=>s5.extBut _ _ c2 (s4.extBut _ _ c4 (s3.extBut _ _ c2 (s2.extBut _ _ c3 (s1.extBut _ _ c1 e))));have m1:SI p1 g5 i1 l1 (k1+1):=((n1.ext s3.extBut D.TOi1.symm).ext s4.extBut D.i12).ext s5.extBut D.TOi1.symm;have m2:SI p2 g5 i2 l2 (k2+1):=n2.ext s5.extBut D.TOi2.symm;have Ol:z<g5.objs.size:=aX z5;show wpAny _ _ (eO (.ref z) (.ref g5.objs.size)>>=_) _ _ _;exists 46;unfold eO;have z6:Ag (g5.push {cls:=.type "tuple",data:=.seq #[x,y]}) z TI TO .ellipsis fb:=aq _ z5;refine wpAny_bind (wpAny_setField_rec z6 (~~~88) λg7 z7 s7=>?_)
 replace z7:Ag g7 z TI TO (rawInt g5.objs.size) fb:=z7
 refine wpAny_setField_rec z7 (~~~88) λg8 z8 s8=>?_
 replace z8:IsZip g8 z TI TO (rawInt g5.objs.size):=z8
 have up:∀c o,c≠z->g5.get? c=some o->g8.get? c=some o:=λc o c1 e=>s8.extBut _ _ c1 (s7.extBut _ _ c1 (aq _ e));have t8:IsPair g8 g5.objs.size x y:=s8.extBut _ _ (c8 Ol) (s7.extBut _ _ (c8 Ol) (aY _ rfl));have sz8:g8.objs.size=g5.objs.size+1:=by rw[s8.1,s7.1,cg]
 rw[hsz] at z8 t8 sz8;refine wpAny_pure ⟨_,rfl,?_⟩;show Q (.ref g5.objs.size) _;rw[hsz];exact hQ g8 z8 (up _ _ D.TOz t5) (m1.at λo e=>up _ o D.i1z e) (m2.at λo e=>up _ o D.i2z e) t8 sz8 λc o c1 c2 c3 c4 e=>up c o c1 (k5 c o c1 c2 c3 c4 e)
theorem Ud {p1 p2:Bool} {z TI TO i1 i2 l1 l2:Addr} {k1 k2:Nat} {xs ys:Array Value} {a b:Value} {f0:Value} {fb:Bool} {Q:Fin->Shared->Prop} (hh:A.handled=none) (D:ZipApart z TI TO i1 i2 l1 l2) (hz:Ag s.heap z TI TO f0 fb) (QI:∀Q':Bool->Shared->Prop,Q' true s->wpAny (~~~70) A (aW (.ref z)) Q' E s) (rT:IsPair s.heap TI (.ref i1) (.ref i2)) (vL:IsPair s.heap TO a b)
  (h1:SI p1 s.heap i1 l1 k1) (h2:SI p2 s.heap i2 l2 k2) (vM:SS p1 s.heap l1 xs) (oI:SS p2 s.heap l2 ys) (xu:xs[k1]?=none\/ys[k2]?=none)
  (hE:∀h' e,(∀c o,c≠z->c≠TO->c≠i1->c≠i2->s.heap.get? c=some o->h'.get? c=some o)->(∃o,h'.get? e=some o/\o.cls=.type "StopIteration")->E (.ref e) {s with heap:=h'}):
  wpAny (~~~70) A (~~~79) Q E s:=by
 exists 5;refine wpAny_bind (QI _ ?_);exists 83;refine wpAny_bind (wpAny_field hz rfl (x:=.ref TO) rfl ?_);refine wpAny_bind (wpAny_setField_rec hz (~~~88) λg1 z1 s1=>?_)
 replace z1:Ag g1 z TI TO .ellipsis fb:=z1
 exists 46;simp only[x8,Ab,kO,j0];refine wpAny_bind (~~~212);exists 77;cases hx:xs[k1]? with
 |none=>
  refine wpAny_bind (Ci hh (h1.ext s1.extBut D.i1z) (vM.ext s1.extBut D.l1z) hx λg2 e s2 he=>?_);obtain⟨oe,Yr,Yn⟩:=he;have z2:Ag g2 z TI TO .ellipsis fb:=s2 _ _ D.i1z.symm z1;have ez:e≠z:=λx=>by subst x;rw[z2] at Yr;cases Yr;simp at Yn
  refine wpAny_setField_rec z2 (~~~88) λg3 _ s3=>hE g3 e (λc o c1 _ c3 _ x=>s3.extBut _ _ c1 (s2 _ _ c3 (s1.extBut _ _ c1 x))) ⟨oe,s3.extBut _ _ ez Yr,Yn⟩
 |some x=>
  have hy:ys[k2]?=none:=by rcases xu with h|h;rw[hx] at h;cases h;exact h
  refine wpAny_bind (~~~92);have t2:IsPair g2 TO a b:=s2.extBut _ _ D.TOi1 (s1.extBut _ _ D.TOz vL);refine wpAny_bind (wpAny_seqItems t2 rfl ?_);refine wpAny_bind (wpAny_updateSeq_pair t2 λg3 t3 s3=>?_);refine wpAny_bind (~~~304);refine wpAny_bind (~~~212);exists 76;refine wpAny_bind (Ci hh ((~~~136).ext s3.extBut D.TOi2.symm) ((~~~145).ext s3.extBut D.l2TO) hy λg4 e s4 he=>?_);obtain⟨oe,Yr,Yn⟩:=he;have z4:Ag g4 z TI TO .ellipsis fb:=s4 _ _ D.i2z.symm (s3.extBut _ _ D.TOz.symm (~~~305));have ez:e≠z:=λx=>by subst x;rw[z4] at Yr;cases Yr;simp at Yn
  refine wpAny_setField_rec z4 (~~~88) λg5 _ s5=>hE g5 e (λc o c1 c2 c3 c4 x=>s5.extBut _ _ c1 (s4 _ _ c4 (s3.extBut _ _ c2 (s2.extBut _ _ c3 (s1.extBut _ _ c1 x))))) ⟨oe,s5.extBut _ _ ez Yr,Yn⟩
theorem Wo {p1 p2:Bool} {z TI TO i1 i2 l1 l2:Addr} {k1 k2:Nat} {xs ys:Array Value} {x y a b:Value} {Q:Option Value->Shared->Prop} (D:ZipApart z TI TO i1 i2 l1 l2) (hz:IsZip s.heap z TI TO .none) (rT:IsPair s.heap TI (.ref i1) (.ref i2)) (vL:IsPair s.heap TO a b)
  (h1:SI p1 s.heap i1 l1 k1) (h2:SI p2 s.heap i2 l2 k2) (vM:SS p1 s.heap l1 xs) (oI:SS p2 s.heap l2 ys) (hx:xs[k1]?=some x) (hy:ys[k2]?=some y)
  (hQ:∀h',IsZip h' z TI TO (rawInt s.heap.objs.size)->IsPair h' TO x y->SI p1 h' i1 l1 (k1+1)->SI p2 h' i2 l2 (k2+1)->IsPair h' s.heap.objs.size x y->h'.objs.size=s.heap.objs.size+1->
   (∀c o,c≠z->c≠TO->c≠i1->c≠i2->s.heap.get? c=some o->h'.get? c=some o)->Q (some (~~~109)) {s with heap:=h'}):wpAny (model prog w) A (pyNext (.ref z)) Q E s:=by
 have hT:s.TypeIs (.ref z) "zip":=⟨_,hz,rfl⟩;unfold pyNext;exact wpAny_bind (wpAny_attempt (wpAny_callSpecial?_slot (name:=gq "__next__") hT F.slot_zip_next (wpAny_call_entry F.slot_zip_next hT F.entry_zip_next
   (N7 D hz (λ_ q=>Hv hz q) rT vL h1 h2 vM oI hx hy λh' a1 a2 a3 a4 a5 a6 a7=>wpAny_pure (hQ h' a1 a2 a3 a4 a5 a6 a7)) (~~~223))))
theorem ZX {p1 p2:Bool} {z TI TO i1 i2 l1 l2:Addr} {k1 k2:Nat} {xs ys:Array Value} {a b:Value} {Q:Option Value->Shared->Prop} (hh:A.handled=none) (D:ZipApart z TI TO i1 i2 l1 l2) (hz:IsZip s.heap z TI TO .none) (rT:IsPair s.heap TI (.ref i1) (.ref i2)) (vL:IsPair s.heap TO a b)
  (h1:SI p1 s.heap i1 l1 k1) (h2:SI p2 s.heap i2 l2 k2) (vM:SS p1 s.heap l1 xs) (oI:SS p2 s.heap l2 ys) (xu:xs[k1]?=none\/ys[k2]?=none)
  (hQ:∀h',(∀c o,c≠z->c≠TO->c≠i1->c≠i2->s.heap.get? c=some o->h'.get? c=some o)->Q none {s with heap:=h'}):wpAny (~~~70) A (pyNext (.ref z)) Q E s:=by
 have hT:s.TypeIs (.ref z) "zip":=⟨_,hz,rfl⟩;unfold pyNext;refine wpAny_bind (wpAny_attempt (wpAny_callSpecial?_slot (name:=gq "__next__") hT F.slot_zip_next (wpAny_call_entry F.slot_zip_next hT F.entry_zip_next (Ud hh D hz (λ_ q=>Hv hz q) rT vL h1 h2 vM oI xu λh' e hk he=>?_) (~~~223))));obtain⟨o,ho,hc⟩:=he;refine wpAny_bind (wpAny_isInstance (T:="StopIteration") (b:=true) ⟨o,ho,hc⟩ isSubtype_stop (wpAny_pure (hQ _ hk)))
end
end Zs
namespace Zs
open PySem PySem.Spec PyProof.Rows L2
open Sem (wp)
def oq (K:af):Bool->Hp->Addr->List V->Prop
 |true,H,a,xs=>mK K H a xs
 |false,H,a,xs=>dz K H a xs
def Yy:Bool->String
 |true=>"tuple_iterator"
 |false=>"list_iterator"
def o7 (tp:Bool) (l:Addr):Obj:={cls:=.type (Yy tp),data:=.fields #[.ref l,.int 0 0]}
theorem Hj (tp:Bool) (h:Heap) (l:Addr):SI tp (h.push (o7 tp l)) h.objs.size l 0:=by
 cases tp
 .exact⟨_,aY _ rfl,rfl,rfl⟩
 .exact⟨_,aY _ rfl,rfl,rfl⟩
section
variable {prog:Program} {w:World} {A:Around} {E:Value->Shared->Prop} {s:Shared}
theorem ud {tp:Bool} {l:Addr} {v:Array Value} {Q:Value->Shared->Prop} (hl:SS tp s.heap l v) (hQ:Q (~~~109) {s with heap:=s.heap.push (o7 tp l)}):
  wpAny (~~~70) A (pyIter (.ref l)) Q E s:=by
 cases tp
 .exact wpAny_pyIter_list hl hQ
 .exact wpAny_pyIter_tuple hl hQ
end
abbrev Ei (p1:Bool) (h:Heap) (l1:Addr):Heap:=h.push (o7 p1 l1)
abbrev Oh (p1 p2:Bool) (h:Heap) (l1 l2:Addr):Heap:=(Ei p1 h l1).push (o7 p2 l2)
abbrev Oi (p1 p2:Bool) (h:Heap) (l1 l2:Addr):Heap:=(Oh p1 p2 h l1 l2).push {cls:=.type "tuple",data:=.seq #[.ref h.objs.size,.ref (Ei p1 h l1).objs.size]}
abbrev Oj (p1 p2:Bool) (h:Heap) (l1 l2:Addr):Heap:=(Oi p1 p2 h l1 l2).push {cls:=.type "tuple",data:=.seq #[.none,.none]}
abbrev Xw (p1 p2:Bool) (h:Heap) (l1 l2:Addr):Heap:=(Oj p1 p2 h l1 l2).push {cls:=.type "zip",data:=.fields #[.none,.bool false,.bool false,.ref (Oh p1 p2 h l1 l2).objs.size,.ref (Oi p1 p2 h l1 l2).objs.size]}
theorem Wn (p1 p2:Bool) (l1 l2:Addr) (xs ys:Array Value):
  Meets (Builtin.«zip.__new__» ⟨[.type "zip",.ref l1,.ref l2],[]⟩) (λ_ R s=>SS p1 s.heap l1 xs/\SS p2 s.heap l2 ys/\R (.ok (.ret (.ref (Oj p1 p2 s.heap l1 l2).objs.size))) {s with heap:=Xw p1 p2 s.heap l1 l2}):=
 .of_wp λprog w A R s h=>by
  obtain⟨hp,g,d,tk,os⟩:=s;obtain⟨vM,oI,h⟩:=h;have Vi:=sub_zip;have QR:SS p1 (~~~204) l1 xs:=vM;have Z5:SS p2 (Shared.heap ⟨hp.push (o7 p1 l1),g,d,tk,os⟩) l2 ys:=SS.at oI λo q=>aq _ q
  wp_walk using ud QR,ud Z5
  exact⟨_,rfl,h⟩
section
variable {prog:Program} {w:World} {A:Around} {E:Value->Shared->Prop} {s:Shared}
theorem BD {p1 p2:Bool} {l1 l2:Addr} {xs ys:Array Value} {Q:Value->Shared->Prop} (vM:SS p1 s.heap l1 xs) (oI:SS p2 s.heap l2 ys)
  (h:∀h',IsZip h' (s.heap.objs.size+4) (s.heap.objs.size+2) (s.heap.objs.size+3) .none ->IsPair h' (s.heap.objs.size+2) (~~~109) (.ref (~~~72))->IsPair h' (s.heap.objs.size+3) .none .none ->
   SI p1 h' s.heap.objs.size l1 0->SI p2 h' (~~~72) l2 0->h'.objs.size=s.heap.objs.size+5->(∀c o,s.heap.get? c=some o->h'.get? c=some o)->Q (.ref (s.heap.objs.size+4)) {s with heap:=h'}):
  wpAny (~~~70) A (call (.type "zip") [.ref l1,.ref l2]) Q E s:=by
 refine callType_new F.called_zip (~~~73) (F.typeCall_zip_2 _ _) (F.newCall_zip_2 _ _) (λobj=>F.args_object_init_3 obj _ _) F.entry_zip_new (Wn p1 p2 l1 l2 xs ys) ⟨vM,oI,?_⟩;have z1:(Ei p1 s.heap l1).objs.size =s.heap.objs.size+1:=cg ..;have z2:(Oh p1 p2 s.heap l1 l2).objs.size =s.heap.objs.size+2:=by rw[cg,z1]
 have z3:(Oi p1 p2 s.heap l1 l2).objs.size =s.heap.objs.size+3:=by rw[cg,z2]
 have z4:(Oj p1 p2 s.heap l1 l2).objs.size =s.heap.objs.size+4:=by rw[cg,z3]
 have z5:(~~~175).objs.size =s.heap.objs.size+5:=by rw[cg,z4]
 have u1:∀c o,(Ei p1 s.heap l1).get? c=some o->(~~~175).get? c=some o:=λc o q=>aq _ (aq _ (aq _ (aq _ q)));have g5:(~~~175).get? (Oj p1 p2 s.heap l1 l2).objs.size =some _:=aY _ rfl;have g4:(~~~175).get? (Oi p1 p2 s.heap l1 l2).objs.size =some _:=aq _ (aY _ rfl);have g3:(~~~175).get? (Oh p1 p2 s.heap l1 l2).objs.size =some _:=aq _ (aq _ (aY _ rfl));have i2:SI p2 (~~~175) (Ei p1 s.heap l1).objs.size l2 0:=(Hj p2 (Ei p1 s.heap l1) l2).at λo q=>aq _ (aq _ (aq _ q));have i1:SI p1 (~~~175) s.heap.objs.size l1 0:=(Hj p1 s.heap l1).at λo q=>u1 _ o q;show _/\_;rw[z2,z3,z4] at g5;rw[z1,z2] at g3;rw[z3] at g4;rw[z1] at i2;rw[z4];exact⟨⟨_,g5,rfl⟩,h _ g5 g3 g4 i1 i2 z5 λc o x=>u1 c o (aq _ x)⟩
end
section
variable {X:Cx} {pins:List (Addr×Obj)} {σ:L2.St} {H:Hp} {s:Shared}
theorem f6 {tp:Bool} {a:Addr} {xs:List V} (I:Inv X pins σ H s) (h:oq X.K tp H a xs):∃its:List Value,Vals xs its/\SS tp s.heap a its.toArray/\xs.length<=sizeLine:=by
 cases tp
 .obtain⟨its,rv,p,z⟩:=I.list h;exact⟨its,rv,p.isList,z⟩
 .obtain⟨its,rv,p,z⟩:=I.tuple h;exact⟨its,rv,p,z⟩
theorem xw {tp:Bool} {a:Addr} {xs ys:List V} (I:Inv X pins σ H s) (h:oq X.K tp H a xs) (h':oq X.K tp H a ys):xs=ys:=by
 cases tp
 .exact I.Jf h h'
 .exact I.Fd h h'
end
def UQ (K:af) (p1 p2:Bool) (a b:Addr):It:=
 ⟨λi H=>∃(xs ys:List V) (x y:V),oq K p1 H a xs/\oq K p2 H b ys/\xs[i]?=some x/\ys[i]?=some y,
  λi H v H'=>∃T x y,v=.ref T/\H T=none/\H'=upd H T (.tup [x,y])/\(∀xs,oq K p1 H a xs->xs[i]?=some x)/\∀ys,oq K p2 H b ys->ys[i]?=some y,
  λi H=>∃xs ys:List V,oq K p1 H a xs/\oq K p2 H b ys/\(xs.length<=i\/ys.length<=i)⟩
theorem Qm {P:Program} {w:World} {K:af} {elts:List Expr} {kk:Nat} {wy:Pos} {p1 p2:Bool} {a b z TI TO i1 i2:Addr} (D:ZipApart z TI TO i1 i2 a b):
  Turn P w K (~~~221) (UQ K p1 p2 a b) [z,TI,TO,i1,i2] z (λi h=>IsZip h z TI TO .none /\IsPair h TI (.ref i1) (.ref i2)/\(∃x y,IsPair h TO x y)/\SI p1 h i1 a i/\SI p2 h i2 b i) where
 mem:=by simp
 obj:=λi h st c hc=>by
  obtain⟨hz,rT,⟨x,y,vL⟩,g1,g2⟩:=st;have e':c=z\/c=TI\/c=TO\/c=i1\/c=i2:=by simpa using hc
  rcases e' with q|q|q|q|q
  .rw[q];exact⟨_,hz,λv q=>nomatch q⟩
  .rw[q];exact⟨_,rT,λv q=>nomatch q⟩
  .rw[q];exact⟨_,vL,λv q=>nomatch q⟩
  .rw[q];exact g1.live
  .rw[q];exact g2.live
 keep:=λi h h' st k=>by
  obtain⟨hz,rT,⟨x,y,vL⟩,h1,h2⟩:=st;exact⟨k z (~~~88) _ hz,k TI (~~~88) _ rT,⟨x,y,k TO (~~~88) _ vL⟩,h1.at λo q=>k i1 (~~~88) o q,h2.at λo q=>k i2 (~~~88) o q⟩
 item:=by
  exists 1;obtain⟨hz,rT,⟨x0,y0,vL⟩,h1,h2⟩:=st;obtain⟨xs,ys,x,y,Kz,KA,hx,hy⟩:=hg;exists 36;exists 86;obtain⟨u2,Yu,HV⟩:=NU.get hy;have hzl:z<s.heap.objs.size:=aX hz;refine Wo D hz rT vL h1 h2 p EX (x:=u) (y:=u2) (~~~257) (by simpa using Yu) λh' z' Oq Ur Fu hT hsz hk=>?_;refine⟨_,rfl,wpAny_letOwnedTupleGo_zip (s:={s with heap:=h'}) z' λHE z'' sb=>?_⟩;have Ut:HE.get? s.heap.objs.size=some {cls:=.type "tuple",data:=.seq #[u,u2]}:=(sb.2 _ (c8 hzl)).trans hT;have new:j4 X.prog X.w (~~~112) HE s.heap.objs.size (.tup [x,y]):=⟨by show 2<=sizeLine;decide,[u,u2],.cons ru (.cons HV .nil),⟨_,Ut,rfl,_,rfl⟩⟩;have I1:Inv X pins σ (~~~112) {s with heap:=HE}:=
   I.qZ (t':=s.toks) (ch:=[z,TI,TO,i1,i2]) (λc o hb q=>(sb.2 c (~~~137)).trans (hk c o (~~~137) (~~~137) (~~~137) (~~~137) q)) hf (aM _) new
  refine⟨.ref s.heap.objs.size,_,I1,rfl,⟨_,x,y,rfl,I.iA.fresh (aM _),rfl,λl hl=>by rw[xw I hl Kz];exact hx,λl hl=>by rw[xw I hl KA];exact hy⟩,⟨z'',?_,⟨u,u2,?_⟩,?_,?_⟩,λc QH=>?_⟩
  .exact(sb.2 _ D.TIz).trans (hk _ _ D.TIz D.TITO D.TIi1 D.TIi2 rT)
  .exact(sb.2 _ D.TOz).trans Oq
  .exact Ur.at λo q=>(sb.2 _ D.i1z).trans q
  .exact Fu.at λo q=>(sb.2 _ D.i2z).trans q
  .have Dh:c<s.heap.objs.size:=by
    have e':c=z\/c=TI\/c=TO\/c=i1\/c=i2:=by simpa using QH
    rcases e' with q|q|q|q|q
    .rw[q];exact hzl
    .rw[q];exact aX rT
    .rw[q];exact aX vL
    .rw[q];obtain⟨_,e1,_⟩:=h1.live;exact aX e1
    .rw[q];obtain⟨_,e2,_⟩:=h2.live;exact aX e2
   rw[c6 (cT Dh)];exact(hf c QH).1
 done:=by
  exists 1;obtain⟨hz,rT,⟨x0,y0,vL⟩,h1,h2⟩:=st;obtain⟨xs,ys,Kz,KA,xu⟩:=hg;exists 36;exists 141;have he:its.toArray[i]?=none\/o8.toArray[i]?=none:=by
   rcases xu with q|q
   .exact .inl (by simp;omega)
   .exact .inr (by simp;omega)
  exact ZX (~~~300) D hz rT vL h1 h2 p EX he λh' hk=>⟨rfl,I.Hq (t':=s.toks) (ch:=[z,TI,TO,i1,i2]) (λc o hb q=>
   hk c o (~~~137) (~~~137) (~~~137) (~~~137) q) hf⟩
 self:=λA i s Q E st h=>wpAny_pyIter_zip st.1 h
def W4 (K:af) (ta:TA):TI:=fun σ H R=>ta σ H λvs H1=>∃p1 p2 a b xs ys,vs=[.ref a,.ref b]/\oq K p1 H1 a xs/\oq K p2 H1 b ys/\R (UQ K p1 p2 a b) H1
theorem kq {X:Cx} (K:af) {e e2:Expr} {ta:TA} {p pos wy:Pos} {elts:List Expr} {kk:Nat} (hm:X.mg "zip"=none) (ha:PA X [e,e2] ta) (hg:Gl X "zip":=by rfl)
  (hs:starEach [e,e2] X.env=(false,eval e X.env)::starEach [e2] X.env:=by rfl) (BY:(backTo pos (starEach [e2] X.env)).any (·.1)=false:=by rfl) (hK:X.K=K:=by rfl):
  PI X (~~~221) (.Call (.Name "zip" p) [e,e2] [] pos) (W4 K ta):=by
 subst hK;exists 53;refine Call_ (nU I hg hm yn (cW (~~~76) hs BY));obtain⟨p1,p2,a,b,xs,ys,ex,Kz,KA,q⟩:=q1;subst ex;cases r1 with
 |cons r rr=>
  cases rr with
  |cons r' rr=>
   cases rr;cases r;cases r';exists 16;refine BD Xd EX λh' hz rT vL h1 h2 hsz hk=>wpAny_pyIter_zip hz ?_;exists 50;refine⟨s1.heap.objs.size+4,[s1.heap.objs.size+4,s1.heap.objs.size+2,s1.heap.objs.size+3,s1.heap.objs.size,s1.heap.objs.size+1],_,_,H1,rfl,I2,Qm (pP s1.heap.objs.size a b la lb),⟨hz,rT,⟨_,_,vL⟩,h1,h2⟩,λc QH=>?_,q⟩;have e':c=s1.heap.objs.size+4\/c=s1.heap.objs.size+2\/c=s1.heap.objs.size+3\/c=s1.heap.objs.size\/c=s1.heap.objs.size+1:=by simpa using QH
   have hle:s1.heap.objs.size<=c:=by
    rcases e' with z|z|z|z|z
    .rw[z];exact gh _ _
    .rw[z];exact gh _ _
    .rw[z];exact gh _ _
    .rw[z];exact aM _
    .rw[z];exact gh _ _
   exact I1.BS hle (I1.iA.fresh hle)
end Zs
namespace Pb
open PySem PySem.Spec PyProof.Rows L2 Zs
def aaE (K:af) {α β:Type} (R:Rep α) (S:Rep β):Rep (α×β):=λH v z=>∃T x y,v=.ref T/\mK K H T [x,y]/\R H x z.1/\S H y z.2
theorem iY {K:af} {tp:Bool} {H H':Hp} {a:Addr} {xs:List V} (e:bE H H') (h:oq K tp H a xs):oq K tp H' a xs:=by
 cases tp
 .exact e.seq h
 .exact ie e h
theorem mO {K:af} {α β:Type} {R:Rep α} {S:Rep β} (sr:ja R) (ss:ja S) {p1 p2:Bool} {H:Hp} {a b:Addr} {xs ys:List V} {l:List α} {m:List β} (ha:oq K p1 H a xs) (hb:oq K p2 H b ys) (pa:Paired (R H) xs l) (pb:Paired (S H) ys m):
  FA (UQ K p1 p2 a b) H (l.zip m) (aaE K R S) where
 go:=λi H' s hi=>by
  have l1:=aZ pa;have l2:=aZ pb;rw[bC] at hi;exact⟨xs,ys,xs[i]'(~~~62),ys[i]'(~~~62),iY s ha,iY s hb,by simp,by simp⟩
 Kk:=λi H' x pJ s hi ⟨T,u,v,e,hT,e2,y1,y2⟩=>by
  exists 71;obtain⟨z2,h2,r2⟩:=lO pb (y2 ys (iY s hb));have s2:bE H' (upd H' T (.tup [u,v])):=iP hT;refine⟨(z1,z2),?_,s2,T,u,v,rfl,mK.of cU,sr.up r1 (s.trans s2),ss.up r2 (s.trans s2)⟩;rw[cw];exact⟨h1,h2⟩
 stop:=λH' s=>⟨xs,ys,iY s ha,iY s hb,by
  have l1:=aZ pa;have l2:=aZ pb;rw[bC];omega⟩
end Pb
namespace Zs
open PySem PySem.Spec PyProof.Rows L2
open Sem (wp)
section
variable {prog:Program} {w:World} {A:Around} {E:Value->Shared->Prop} {s:Shared}
structure Inner (prog:Program) (w:World) (A:Around) (it:Addr) (fp:List Addr) (St:Nat->Heap->Prop) (P:Nat->Value->Heap->Prop) (i:Nat):Prop where
 item:∀(s:Shared) (Q:Value->Shared->Prop) (E:Value->Shared->Prop),St i s.heap->
  (∀x h',P i x h'->St (i+1) h'->s.heap.objs.size<=h'.objs.size->(∀b o,b∉fp->s.heap.get? b=some o->h'.get? b=some o)->Q x {s with heap:=h'})->wpAny (~~~70) A (bD (.ref it)) Q E s
theorem U6 {e it:Addr} {fp:List Addr} {St:Nat->Heap->Prop} {P:Nat->Value->Heap->Prop} {i:Nat} {k:Int} {old:Value} {Q:Value->Shared->Prop} (D:Inner prog w A it fp St P i) (he:IsEnum s.heap e it k old) (HG:St i s.heap) (Uh:e∉fp)
  (hQ:∀x h1 h' tk,P i x h1->St (i+1) h1->IsEnumOut h' e it (k+1) x h1.objs.size->h'.get? h1.objs.size=some {cls:=.type "tuple",data:=.seq #[.int k tk,x]}->h'.objs.size=h1.objs.size+1->s.heap.objs.size<=h1.objs.size->
   (∀b o,b∉fp->s.heap.get? b=some o->h1.get? b=some o)->(∀b o,b≠e->h1.get? b=some o->h'.get? b=some o)->Q (.ref h1.objs.size) {s with heap:=h',toks:=tk+1}):
  wpAny (~~~70) A (Builtin.«enumerate.__next__» ⟨[.ref e],[]⟩) (λfin s'=>∃v,fin=.done (.ret v)/\Q v s') E s:=by
 obtain⟨hp,g,d,tk,os⟩:=s;show wpAny _ _ (field (.ref e) 2>>=_) _ _ _;refine wpAny_bind (wpAny_field he rfl (x:=.ref it) rfl ?_);refine wpAny_bind (D.item _ _ _ HG λx h1 px De Xy k1=>?_)
 replace k1:∀b o,b∉fp->hp.get? b=some o->h1.get? b=some o:=k1
 replace Xy:hp.objs.size<=h1.objs.size:=Xy
 have e1:IsEnum h1 e it k old:=k1 e _ Uh he;show wpAny _ _ (field (.ref e) 3>>=_) _ _ ⟨h1,g,d,tk,os⟩;refine wpAny_bind (wpAny_field e1 rfl (x:=rawInt k) rfl ?_);show wpAny _ _ (field (.ref e) 4>>=_) _ _ ⟨h1,g,d,tk,os⟩;refine wpAny_bind (wpAny_field e1 rfl (x:=.none) rfl ?_);show wpAny _ _ (mkInt k>>=_) _ _ ⟨h1,g,d,tk,os⟩;refine wpAny_bind (wpAny_mkInt ?_);show wpAny _ _ (setField (.ref e) 3 (rawInt (k+1))>>=_) _ _ ⟨h1,g,d,tk+1,os⟩;refine wpAny_bind (wpAny_setField_rec e1 (~~~88) λh2 e2 s2=>?_)
 replace s2:fe e h1 h2:=s2
 replace e2:IsEnum h2 e it (k+1) old:=e2
 show wpAny _ _ (setField (.ref e) 4 .none >>=_) _ _ ⟨h2,g,d,tk+1,os⟩;refine wpAny_bind (wpAny_setField_rec e2 (~~~88) λh3 e3 s3=>?_)
 replace s3:fe e h2 h3:=s3
 replace e3:IsEnum h3 e it (k+1) old:=e3
 show wpAny _ _ (newTuple [.int k tk,x]>>=_) _ _ ⟨h3,g,d,tk+1,os⟩;refine wpAny_bind (wpAny_newTuple ?_);have e4:IsEnum (h3.push {cls:=.type "tuple",data:=.seq #[.int k tk,x]}) e it (k+1) old:=aq _ e3;generalize KW:h3.push {cls:=.type "tuple",data:=.seq #[.int k tk,x]}=h4 at e4;have hsz:h3.objs.size=h1.objs.size:=by rw[s3.1,s2.1]
 have WW:e<h1.objs.size:=aX e1;have t4:h4.get? h1.objs.size=some {cls:=.type "tuple",data:=.seq #[.int k tk,x]}:=by rw[<-KW,<-hsz];exact aY _ rfl
 have z4:h4.objs.size=h1.objs.size+1:=by rw[<-KW,cg,hsz]
 have k4:∀b o,b≠e->h1.get? b=some o->h4.get? b=some o:=λb o Ga hb=>by rw[<-KW];exact aq _ (s3.extBut b o Ga (s2.extBut b o Ga hb))
 show wpAny _ _ (aW (.ref e)>>=_) _ _ ⟨h4,g,d,tk+1,os⟩;rw[hsz];clear KW e3 s3 e2 s2 hsz h3 h2;exists 46;unfold aW;refine wpAny_bind (wpAny_field e4 rfl (x:=.none) rfl (~~~207));exists 83;refine wpAny_bind (wpAny_field e4 rfl (x:=old) rfl ?_);refine wpAny_bind (wpAny_setField_rec e4 (~~~88) λh5 e5 s5=>?_)
 replace s5:fe e h4 h5:=s5
 replace e5:IsEnum h5 e it (k+1) x:=e5
 show wpAny _ _ (eO (.ref e) (.ref h1.objs.size)>>=_) _ _ ⟨h5,g,d,tk+1,os⟩;exists 46;unfold eO;refine wpAny_bind (wpAny_setField_rec e5 (~~~88) λh6 e6 s6=>?_)
 replace s6:fe e h5 h6:=s6
 replace e6:IsEnumOut h6 e it (k+1) x h1.objs.size:=e6
 refine wpAny_setField_rec e6 (~~~88) λh7 e7 s7=>?_
 replace s7:fe e h6 h7:=s7
 replace e7:IsEnumOut h7 e it (k+1) x h1.objs.size:=e7
 refine wpAny_bind (wpAny_letGo (wpAny_pure ⟨_,rfl,hQ x h1 h7 tk px De e7 ?_ ?_ Xy k1 ?_⟩))
 .exact s7.extBut _ _ (c8 WW) (s6.extBut _ _ (c8 WW) (s5.extBut _ _ (c8 WW) t4))
 .rw[s7.1,s6.1,s5.1,z4]
 .exact λb o Ga hb=>s7.extBut b o Ga (s6.extBut b o Ga (s5.extBut b o Ga (k4 b o Ga hb)))
theorem IH {e it:Addr} {fp:List Addr} {St:Nat->Heap->Prop} {P:Nat->Value->Heap->Prop} {i:Nat} {k:Int} {old:Value} {Q:Option Value->Shared->Prop} (D:Inner prog w A.in1 it fp St P i) (he:IsEnum s.heap e it k old) (HG:St i s.heap) (Uh:e∉fp)
  (hQ:∀x h1 h' tk,P i x h1->St (i+1) h1->IsEnumOut h' e it (k+1) x h1.objs.size->h'.get? h1.objs.size=some {cls:=.type "tuple",data:=.seq #[.int k tk,x]}->h'.objs.size=h1.objs.size+1->s.heap.objs.size<=h1.objs.size->
   (∀b o,b∉fp->s.heap.get? b=some o->h1.get? b=some o)->(∀b o,b≠e->h1.get? b=some o->h'.get? b=some o)->Q (some (.ref h1.objs.size)) {s with heap:=h',toks:=tk+1}):
  wpAny (~~~70) A (pyNext (.ref e)) Q E s:=by
 have hT:s.TypeIs (.ref e) "enumerate":=⟨_,he,rfl⟩;unfold pyNext;exact wpAny_bind (wpAny_attempt (wpAny_callSpecial?_slot (name:=gq "__next__") hT F.slot_enumerate_next (wpAny_call_entry F.slot_enumerate_next hT F.entry_enumerate_next
   (U6 D he HG Uh λx h1 h' tk a b c d f g j q=>wpAny_pure (hQ x h1 h' tk a b c d f g j q)) (F.args_enumerate_next_1 _))))
theorem Nk {e it:Addr} {k:Int} {old:Value} {Q:Option Value->Shared->Prop} (he:IsEnum s.heap e it k old)
  (hd:∀(Q':Value->Shared->Prop) (E':Value->Shared->Prop),(∀h' x,(∃o,h'.get? x=some o/\o.cls=.type "StopIteration")->Q none {s with heap:=h'}->E' (.ref x) {s with heap:=h'})->wpAny (~~~70) A.in1 (bD (.ref it)) Q' E' s):
  wpAny (~~~70) A (pyNext (.ref e)) Q E s:=by
 have hT:s.TypeIs (.ref e) "enumerate":=⟨_,he,rfl⟩;unfold pyNext;refine wpAny_bind (wpAny_attempt (wpAny_callSpecial?_slot (name:=gq "__next__") hT F.slot_enumerate_next (wpAny_call_entry F.slot_enumerate_next hT F.entry_enumerate_next ?_ (F.args_enumerate_next_1 _))));show wpAny _ _ (field (.ref e) 2>>=_) _ _ _;refine wpAny_bind (wpAny_field he rfl (x:=.ref it) rfl ?_);refine wpAny_bind (hd _ _ λh' x hx q=>?_);obtain⟨o,ho,hc⟩:=hx;refine wpAny_bind (wpAny_isInstance (T:="StopIteration") (b:=true) ⟨o,ho,hc⟩ isSubtype_stop (wpAny_pure q))
end
def K6 (K:af) (tp:Bool) (a:Addr) (c:Int):It:=
 ⟨λi H=>∃(xs:List V) (x:V),oq K tp H a xs/\xs[i]?=some x,λi H v H'=>∃T x,v=.ref T/\H T=none/\H'=upd H T (~~~248)/\∀xs,oq K tp H a xs->xs[i]?=some x,λi H=>∃xs:List V,oq K tp H a xs/\xs.length<=i⟩
theorem C6 {P:Program} {w:World} {K:af} {elts:List Expr} {kk:Nat} {wy:Pos} (tp:Bool) (a e it:Addr) (c:Int):
  Turn P w K (~~~221) (K6 K tp a c) [e,it] e (λi h=>(∃old,IsEnum h e it ((i:Nat)+c) old)/\SI tp h it a i/\e≠it) where
 mem:=by simp
 obj:=λi h st b hb=>by
  obtain⟨⟨old,he⟩,hi,_⟩:=st;have e':b=e\/b=it:=by simpa using hb
  rcases e' with z|z
  .rw[z];exact⟨_,he,λv q=>nomatch q⟩
  .rw[z];exact hi.live
 keep:=λi h h' st k=>let⟨⟨old,he⟩,hi,jE⟩:=st;⟨⟨old,k e (~~~88) _ he⟩,hi.at λo q=>k it (~~~88) o q,jE⟩
 item:=by
  exists 1;obtain⟨⟨old,he⟩,hit,jE⟩:=st;obtain⟨xs,x,hq,hx⟩:=hg;obtain⟨its,rv,p,hz⟩:=f6 I hq;exists 86;have WW:e<s.heap.objs.size:=aX he;have hil:it<s.heap.objs.size:=by obtain⟨_,q,_⟩:=hit.live;exact aX q
  have hal:a<s.heap.objs.size:=p.lt;have D:Inner X.prog X.w X.A.in1 it [it] (λj h=>j=i/\SI tp h it a i/\SS tp h a its.toArray\/j=i+1/\SI tp h it a (i+1)) (λ_ v _=>v=u) i:=⟨λs' Q' E' HG hk=>by
   rcases HG with⟨_,h1,h2⟩|⟨h1,_⟩
   .exact rZ h1 h2 (x:=u) (~~~257) λh' h3 sb=>hk u h' rfl (.inr ⟨rfl,h3⟩) (by rw[sb.1];exact aM _) λb o hb q=>(sb.2 b (by simpa using hb)).trans q
   .omega⟩
  refine IH D he (.inl ⟨rfl,hit,p⟩) (by simpa using jE) λy h1 h' tk py De ho hT hsz hle k1 k2=>?_;subst py;have Yq:SI tp h1 it a (i+1):=by
   rcases De with⟨z,_⟩|⟨_,z⟩
   .omega
   .exact z
  have Vd:e<h1.objs.size:=aT WW hle;refine⟨_,rfl,wpAny_letOwnedTupleGo_enum (s:={s with heap:=h',toks:=tk+1}) ho λHE Hy sb=>?_⟩;have Ut:HE.get? h1.objs.size=some {cls:=.type "tuple",data:=.seq #[.int ((i:Nat)+c) tk,y]}:=(sb.2 _ (c8 Vd)).trans hT;have new:j4 X.prog X.w (upd H h1.objs.size (~~~248)) HE h1.objs.size (~~~248):=
   ⟨by show 2<=sizeLine;decide,[.int ((i:Nat)+c) tk,y],.cons ⟨_,rfl⟩ (.cons ru .nil),⟨_,Ut,rfl,_,rfl⟩⟩
  have I1:Inv X pins σ (upd H h1.objs.size (~~~248)) {s with heap:=HE,toks:=tk+1}:=
   I.qZ (ch:=[e,it]) (λb ob hb q=>(sb.2 b (~~~301)).trans (k2 b ob (~~~301) (k1 b ob (λz=>hb (by simp at z;simp[z])) q))) hf hle new
  refine⟨.ref h1.objs.size,_,I1,rfl,⟨_,x,rfl,I.iA.fresh hle,rfl,λys hy=>by rw[xw I hy hq];exact hx⟩,⟨⟨y,?_⟩,(Yq.at λo q=>k2 it o (Ne.symm jE) q).at λo q=>(sb.2 it (Ne.symm jE)).trans q,jE⟩,λb hb=>?_⟩
  .have e1:((i+1:Nat):Int)+c=(i:Int)+c+1:=by omega
   rw[e1];exact Hy
  .have hb':b<h1.objs.size:=by
    have e':b=e\/b=it:=by simpa using hb
    rcases e' with z|z
    .rw[z];exact Vd
    .rw[z];exact aT hil hle
   rw[c6 (cT hb')];exact(hf b hb).1
 done:=by
  exists 1;obtain⟨⟨old,he⟩,hit,jE⟩:=st;obtain⟨xs,hq,hx⟩:=hg;obtain⟨its,rv,p,hz⟩:=f6 I hq;exists 22;have hl:=rv.length;exact Nk he λQ' E' hE=>Ci (~~~300) hit p (by simp;omega) λh' x eb hx=>hE h' x hx ⟨rfl,I.turned (t':=s.toks) (λb o hb q=>eb b o hb q) f0 f1 f3 f4 f5⟩
 self:=λA i s Q E st h=>let⟨⟨_,he⟩,_⟩:=st;wpAny_pyIter_enum he h
theorem Rm (tp:Bool) (l:Addr) (v:Array Value):
  Meets (Builtin.«enumerate.__new__» ⟨[.type "enumerate",.ref l],[]⟩) (λ_ R s=>SS tp s.heap l v/\R (.ok (.ret (.ref (~~~131).objs.size)))
    {s with heap:=(~~~131).push {cls:=.type "enumerate",data:=.fields #[.none,.bool false,.ref s.heap.objs.size,rawInt 0,.none,.none]}}):=
 .of_wp λprog w A R s h=>by
  exists 45;have hL:SS tp (~~~204) l v:=hl
  wp_walk;refine wpAny_stack_any λst=>wpAny_pure ?_
  split
  .rename_i c _ _ _ _ _;cases(c==Value.type "enumerate")
   .wp_walk using ud hL;exact⟨_,rfl,h⟩
   .wp_walk using ud hL;exact⟨_,rfl,h⟩
  .wp_walk using ud hL;exact⟨_,rfl,h⟩
section
variable {prog:Program} {w:World} {A:Around} {E:Value->Shared->Prop} {s:Shared}
theorem OD {tp:Bool} {l:Addr} {v:Array Value} {Q:Value->Shared->Prop} (hL:SS tp s.heap l v)
  (h:∀h',IsEnum h' (~~~72) s.heap.objs.size 0 .none ->SI tp h' s.heap.objs.size l 0->h'.objs.size=s.heap.objs.size+2->(∀b o,s.heap.get? b=some o->h'.get? b=some o)->Q (.ref (~~~72)) {s with heap:=h'}):
  wpAny (~~~70) A (call (.type "enumerate") [.ref l]) Q E s:=by
 refine callType_new F.called_enumerate (~~~73) (F.typeCall_enumerate_1 _) (F.newCall_enumerate_1 _) (λobj=>F.args_object_init_2 obj _) F.entry_enumerate_new (Rm tp l v) ⟨hL,?_⟩;have hz:(~~~131).objs.size =s.heap.objs.size+1:=cg ..;show _/\_;rw[hz];have he:IsEnum ((~~~131).push {cls:=.type "enumerate",data:=.fields #[.none,.bool false,.ref s.heap.objs.size,rawInt 0,.none,.none]}) (~~~72) s.heap.objs.size 0 .none :=by
  have:=aY (~~~131) (o:={cls:=.type "enumerate",data:=.fields #[.none,.bool false,.ref s.heap.objs.size,rawInt 0,.none,.none]}) rfl;rw[hz] at this;exact this
 exact⟨⟨_,he,rfl⟩,h _ he ((Hj tp s.heap l).at λo q=>aq _ q) (by rw[cg,hz]) λb o x=>aq _ (aq _ x)⟩
end
def RU (K:af) (ta:TA):TI:=fun σ H R=>ta σ H λvs H1=>∃tp a xs,vs=[.ref a]/\oq K tp H1 a xs/\R (K6 K tp a 0) H1
theorem xH {X:Cx} (K:af) {e:Expr} {ta:TA} {p pos wy:Pos} {elts:List Expr} {kk:Nat} (hm:X.mg "enumerate"=none) (ha:PA X [e] ta) (hg:Gl X "enumerate":=by rfl) (hs:starEach [e] X.env=[(false,eval e X.env)]:=by rfl) (hK:X.K=K:=by rfl):
  PI X (~~~221) (.Call (.Name "enumerate" p) [e] [] pos) (RU K ta):=by
 subst hK;exists 53;refine Call_ (nU I hg hm boot_enumerate (cW (~~~76) hs rfl));obtain⟨tp,a,xs,ex,hq,q⟩:=q1;subst ex;cases r1 with
 |cons r rr=>
  cases rr;cases r;obtain⟨its,rv,p',hz⟩:=f6 I1 hq;refine OD p' λh' he hit hsz hk=>wpAny_pyIter_enum he ?_;exists 50;refine⟨s1.heap.objs.size+1,[s1.heap.objs.size+1,s1.heap.objs.size],_,_,H1,rfl,I2,C6 tp a (s1.heap.objs.size+1) s1.heap.objs.size 0,⟨⟨.none,he⟩,hit,qD _⟩,λb hb=>?_,q⟩;have e':b=s1.heap.objs.size+1\/b=s1.heap.objs.size:=by simpa using hb
  have hle:s1.heap.objs.size<=b:=by
   rcases e' with z|z
   .rw[z];exact gh _ _
   .rw[z];exact aM _
  exact I1.BS hle (I1.iA.fresh hle)
end Zs
namespace Pb
open PySem PySem.Spec PyProof.Rows L2 Zs
theorem uQ {K:af} {α:Type} {R:Rep α} (sr:ja R) {tp:Bool} {H:Hp} {a:Addr} {xs:List V} {l:List α} (c:Int) (ha:oq K tp H a xs) (pa:Paired (R H) xs l):
  FA (K6 K tp a c) H l.zipIdx (λH v z=>∃T x,v=.ref T/\mK K H T [.int ((z.2:Nat)+c),x]/\R H x z.1) where
 go:=λi H' s hi=>by
  have l1:=aZ pa;rw[dv] at hi;exact⟨xs,xs[i]'(~~~62),iY s ha,by simp⟩
 Kk:=λi H' x pJ s hi ⟨T,u,e,hT,e2,y1⟩=>by
  exists 71;have s2:bE H' (upd H' T (.tup [.int ((i:Nat)+c),u])):=iP hT;refine⟨(z1,i),?_,s2,T,u,rfl,mK.of cU,sr.up r1 (s.trans s2)⟩;rw[da,h1];simp
 stop:=λH' s=>⟨xs,iY s ha,by rw[dv,aZ pa];exact aM _⟩
open Mi (bV dh MS)
open Bl (RS)
structure iF where
 HH:Addr
 source:Addr
 jh:Addr
 lH:Addr
 pile:Addr
 ju:Addr
 nothing:Addr
 noMetal:Addr
 bounds:Addr
 rows:Addr
structure Kl (K:af) (C:Addr) (fs:List Str):Prop where
 cl:UN K C
 no:∀f,f∈fs->nR K C f
structure Top (K:af) (mg:Str->Option Value) (d:iF):Prop extends Own mg where
 uJ:oV mg "NOTHING" d.nothing
 Bp:oV mg "NO_METAL" d.noMetal
 QW:oV mg "BOUNDS" d.bounds
 aaG:oV mg "ROWS" d.rows
 iG:wV mg "KILOGRAMS_OF_A_TONNE" 1000
 K9:wV mg "MOST_PILES" 6
 FC:wV mg "MOST_SOURCES" 6
 K8:wV mg "MOST_GRAMS" 1000000
 lA:wV mg "MOST_OF_A_FRACTION" 1000000000000
 FE:wV mg "PRICES_AHEAD" 7
 vi:wV mg "LAST_IN_FRONT" 0
 tQ:wV mg "FIRST_IN_FRONT" 1
 Ou:wV mg "MOST_LOTS" 30
 rL:wV mg "OUT_OF_RANGE" (-1)
 Es:wV mg "TOO_HEAVY" (-2)
 wY:wV mg "TOO_MANY" (-3)
 vD:wV mg "TOO_LITTLE" (-4)
 nothing:∀H,Fr K H (.ref d.nothing) 0
 noMetal:∀H,kI K (Fr K) H (.ref d.noMetal) [0,0,0]
 HH:Kl K d.HH ["kilograms","grades"]
 source:Kl K d.source ["cost","kilograms","grades"]
 lH:Kl K d.lH ["kilograms","metal"]
 pile:Kl K d.pile ["sort_number","most","lots"]
 ju:Kl K d.ju ["wanted","leasts","mosts","sources"]
 jh:Kl K d.jh ["piles","sources","amount","leasts","mosts","put_weight","put_metal","taken_weight","taken_metal"]
 apart:d.pile≠d.HH/\d.pile≠d.source/\d.jh≠d.HH/\d.jh≠d.source/\d.pile≠d.jh
def aeW (n:Int) (g:V):List (Str×V):=[("kilograms",.int n),("grades",g)]
def mI (K:af) (d:iF):Rep bV:=λH v x=>∃a dx g,v=.ref a/\H a=some (.ins d.HH dx (aeW (x.amount:Int) g))/\kI K (Fr K) H g x.grades
def afn (c n:Int) (g:V):List (Str×V):=[("cost",.int c),("kilograms",.int n),("grades",g)]
def SrcR (K:af) (d:iF):Rep RS:=λH v x=>∃a dx g,v=.ref a/\H a=some (.ins d.source dx (afn x.cost (x.there:Int) g))/\kI K (Fr K) H g x.grades
def Y_ (n:Int) (g:V):List (Str×V):=[("kilograms",.int n),("metal",g)]
def yg (d:iF):Rep RS:=λH v x=>∃a dx g,v=.ref a/\H a=some (.ins d.lH dx (Y_ ((Mi.f_ x:Nat):Int) g))/\eA H g (Mi.cy x)
section
variable {K:af} {d:iF} {H H':Hp}
theorem fN:ja (mI K d):=⟨λ⟨a,dx,g,e,h,t⟩ s=>⟨a,dx,g,e,s _ _ h,(oh bU).up t s⟩⟩
theorem mr:ja (SrcR K d):=⟨λ⟨a,dx,g,e,h,t⟩ s=>⟨a,dx,g,e,s _ _ h,(oh bU).up t s⟩⟩
theorem gU:ja (yg d):=⟨λ⟨a,dx,g,e,h,t⟩ s=>⟨a,dx,g,e,s _ _ h,(cS df).up t s⟩⟩
end
def nk (K:af) (f:Str) (x:V) (H:Hp) (Q:VK):Prop:=∃a C dx fs v,x=.ref a/\H a=some (~~~161)/\UN K C/\nR K C f/\fs.lookup f=some v/\Q v H
def XH (K:af) (D:Ends) (σ:L2.St) (f:Str) (y x:V) (H:Hp):Prop:=∃a C dx fs,x=.ref a/\H a=some (~~~161)/\UN K C/\nR K C f/\fs.length<1000/\D.nx σ (upd H a (~~~294))
section
variable {K:af} {mg:Str->Option Value} {d:iF} {σ:L2.St} {H:Hp} {Q:VK} {D:Ends}
theorem aa3 {ta:TE} {f:Str} (h:ta σ H λx H1=>nk K f x H1 Q):Wf K ta f σ H Q:=h
theorem Yc {ta tv:TE} {f:Str} (h:tv σ H λy H1=>ta σ H1 λx H2=>XH K D σ f y x H2):Zo K ta tv f D σ H:=h
theorem o6 {a C dx:Addr} {fs:List (Str×V)} {ns:List Str} {f:Str} {v:V} (c:Kl K C ns) (m:f∈ns) (h:H a=some (~~~161)) (l:fs.lookup f=some v) (q:Q v H):nk K f (.ref a) H Q:=
 ⟨a,C,dx,fs,v,rfl,h,c.cl,c.no f m,l,q⟩
theorem gD {a C dx:Addr} {fs:List (Str×V)} {ns:List Str} {f:Str} {y:V} (c:Kl K C ns) (m:f∈ns) (h:H a=some (~~~161)) (l:fs.length<1000)
  (q:∀H',H' a=some (~~~294)->(∀b o,H b=some o->b≠a->H' b=some o)->D.nx σ H'):XH K D σ f y (.ref a) H:=
 ⟨a,C,dx,fs,rfl,h,c.cl,c.no f m,l,q _ cU λb o e hb=>by rw[c6 hb];exact e⟩
variable (T:Top K mg d)
include T
theorem qi {v:V} {x:bV} (r:mI K d H v x) (q:Q (.int (x.amount:Int)) H):nk K "kilograms" v H Q:=by
 exists 131;exact o6 T.HH (~~~63) h rfl q
theorem yD {v:V} {x:bV} (r:mI K d H v x) (q:∀g,kI K (Fr K) H g x.grades->Q g H):nk K "grades" v H Q:=by
 obtain⟨a,dx,g,rfl,h,t⟩:=r;exact o6 T.HH (~~~63) h rfl (q g t)
theorem xT {v:V} {x:RS} (r:SrcR K d H v x) (q:Q (.int x.cost) H):nk K "cost" v H Q:=by
 exists 131;exact o6 T.source (~~~63) h rfl q
theorem CV {v:V} {x:RS} (r:SrcR K d H v x) (q:Q (.int (x.there:Int)) H):nk K "kilograms" v H Q:=by
 exists 131;exact o6 T.source (~~~63) h rfl q
theorem Hm {v:V} {x:RS} (r:SrcR K d H v x) (q:∀g,kI K (Fr K) H g x.grades->Q g H):nk K "grades" v H Q:=by
 obtain⟨a,dx,g,rfl,h,t⟩:=r;exact o6 T.source (~~~63) h rfl (q g t)
theorem su {v:V} {x:RS} (r:yg d H v x) (q:Q (.int ((Mi.f_ x:Nat):Int)) H):nk K "kilograms" v H Q:=by
 exists 131;exact o6 T.lH (~~~63) h rfl q
theorem xF {v:V} {x:RS} (r:yg d H v x) (q:∀g,eA H g (Mi.cy x)->Q g H):nk K "metal" v H Q:=by
 obtain⟨a,dx,g,rfl,h,t⟩:=r;exact o6 T.lH (~~~63) h rfl (q g t)
end
structure mE (P:Program) (w:World) (K:af) (mg:Str->Option Value) (base:Heap) (k:Nat) (x:Str) (C:Addr) (sp:Sp):Prop where
 ex:∃f fd ps,Mk K C f/\tj P w K mg base M0 k f fd ps sp/\mg x=some (.ref C)/\Binds K fd ps []
structure lz (K:af) (mg:Str->Option Value) (x:Str) (C:Addr) (qual:Str) (st:Stmt) (ps:List Str):Prop where
 ex:∃f fd,Mk K C f/\UO K "__init__" qual st f fd/\mg x=some (.ref C)/\Binds K fd ps []
section
variable {P:Program} {w:World} {K:af} {mg:Str->Option Value} {base:Heap}
theorem lz.ok {x qual:Str} {C:Addr} {st:Stmt} {N ps:List Str} {k:Nat} {sp:Sp} (F:lz K mg x C qual st ps) (S:bh N ps (ay st)) (len:∀vs H Q E,sp vs H Q E->vs.length=ps.length)
  (BX:∀(f:Addr) (nu:Value) (A:Around) (outer:List Env) (s:Shared) (H:Hp) (vs:List V) (Q:VK) (E:XK),lB k (A.deeper (envOfC qual (ay st) s.heap.objs.size f nu))->sp vs H Q E->
   ∃t,K' (FX M0 P w K mg base N qual (ay st) f nu A outer s H E).YT (kS st) t/\t {nx:=λ_ H'=>Q .jL H',rt:=Q} (start N vs) H):mE P w K mg base (k+1) x C sp:=by
 obtain⟨f,fd,hM,hf,hm,hb⟩:=F.ex;exact⟨f,fd,ps,hM,hf.ok S len (λnu=>BX f nu),hm,hb⟩
end
section
variable {X:Cx} {e:Expr} {es:List Expr} {t:TA} {x:Str} {C:Addr} {k:Nat} {sp:Sp} {p pos:Pos}
theorem xG (F:mE X.prog X.w X.K X.mg X.base k x C sp) (hr:lB (k+1) X.A) (hg:Gl X x) (ha:PA X (e::es) t) (LG:(~~~93)=false:=by decide)
  (he:starEach (e::es) X.env=(false,eval e X.env)::starEach es X.env:=by rfl) (BY:(~~~115).any (·.1)=false:=by rfl):
  PE X (~~~122) (Kc C sp [] E0 t):=by
 obtain⟨f,fd,ps,hM,hf,hm,hb⟩:=F.ex;exact VH hM hf hr hg hm hb .nil NF ha LG he BY
theorem Zb (F:mE X.prog X.w X.K X.mg X.base k x C sp) (hr:lB (k+1) X.A) (hg:Gl X x) (LG:(~~~93)=false:=by decide):
  PE X (.Call (.Name x p) [] [] pos) (Kc C sp [] E0 Qi):=by
 obtain⟨f,fd,ps,hM,hf,hm,hb⟩:=F.ex;exact SJ hM hf hr hg hm hb .nil NF LG
end
def xR (C:Addr) (m:Nat) (U9:List V->List (Str×V)):Sp:=λvs H Q _=>∃p dx us,vs=.ref p::us/\us.length=m/\H p=some (.ins C dx [])/\∀H',H' p=some (.ins C dx (U9 us))->(∀b o,H b=some o->b≠p->H' b=some o)->Q .jL H'
def QZ (C:Addr) (sp:Sp) (Q:VK) (vs:List V) (H:Hp):Prop:=∀x dx,H x=none->H dx=none->dx≠x->sp (.ref x::(vs++[])) (~~~214) (~~~289) E0
section
variable {σ:L2.St} {H:Hp} {Q:VK} {C:Addr}
theorem Yd {sp:Sp} {t:TA} (h:t σ H (QZ C sp Q)):Kc C sp [] E0 t σ H Q:=h
theorem vK {m:Nat} {U9:List V->List (Str×V)} {vs:List V} (hl:vs.length=m) (h:∀(H':Hp) (p dx:Addr),bE H H'->H p=none->H' p=some (.ins C dx (U9 vs))->Q (.ref p) H'):QZ C (xR C m U9) Q vs H:=by
 intro x dx hx Vc jE;refine⟨x,dx,vs++[],rfl,by simpa using hl,cU,λH' h1 h2=>⟨rfl,h H' x dx (bE.made hx Vc h2) hx ?_⟩⟩;rw[dU] at h1;exact h1
end
theorem ad1 {t u:TT} {σ:L2.St} {H:Hp} {Q:Bool->Hp->Prop} (h:t σ H λc H1=>if c=true then Q true H1 else u σ H1 Q):tOr t u σ H Q:=h
theorem rO:decide (V.jL=V.jL)=true:=rfl
theorem zw (i:Int):decide (V.int i=V.jL)=false:=rfl
theorem ny (a:Addr):decide (V.ref a=V.jL)=false:=rfl
def NL (H H':Hp):Prop:=∀b o,H b=some o->W5 o=false->H' b=some o
theorem yI {H H':Hp} {l:Addr} {xs:List V} (hl:H l=some (~~~320)) (k:∀b o,H b=some o->b≠l->H' b=some o):NL H H':=λb o e z=>k b o e (λq=>by subst q;rw[hl] at e;cases e;cases z)
structure Bs {α:Type} (R:Rep α):Prop where
 up:∀{H H':Hp} {v:V} {x:α},R H v x->NL H H'->R H' v x
theorem lP {α:Type} {R:Rep α} (m:Bs R) {H H':Hp}:∀{vs:List V} {l:List α},Paired (R H) vs l->NL H H'->Paired (R H') vs l
 |_,_,.nil,_=>.nil
 |_,_,.cons h t,s=>.cons (m.up h s) (lP m t s)
theorem Sm {K:af} {H H':Hp} {a:Addr} {xs:List V} (e:NL H H') (h:mK K H a xs):mK K H' a xs:=by
 rcases h with(h|⟨o,h⟩)|h
 .exact .inl (.inl (e _ _ h rfl))
 .exact .inl (.inr ⟨o,e _ _ h rfl⟩)
 .exact .inr h
theorem acd {K:af}:Bs (Fr K):=⟨λ⟨a,e,h⟩ s=>⟨a,e,Sm s h⟩⟩
theorem Zr {K:af} {α:Type} {R:Rep α} (m:Bs R):Bs (kI K R):=⟨λ⟨a,vs,e,h,p⟩ s=>⟨a,vs,e,Sm s h,lP m p s⟩⟩
theorem qs {K:af} {d:iF}:Bs (mI K d):=⟨λ⟨a,dx,g,e,h,t⟩ s=>⟨a,dx,g,e,s _ _ h rfl,(Zr acd).up t s⟩⟩
theorem xq {H:Hp} {Q:VK} {l:Addr} {xs:List V} {y:V} (h:H l=some (~~~320)) (hz:xs.length<sizeLine) (q:∀H',H' l=some (.lst (xs++[y]))->(∀b o,H b=some o->b≠l->H' b=some o)->Q .jL H'):A2 (.ref l) [y] H Q:=
 ⟨l,xs,y,rfl,rfl,h,hz,q _ cU λb o e hb=>by rw[c6 hb];exact e⟩
section
variable {K:af} {σ:L2.St} {H:Hp} {Q:VK}
theorem adV {tl:TE} {R:It->Hp->Prop} (h:tl σ H λx H1=>∃a,x=.ref a/\(∃xs,mK K H1 a xs)/\R (Fl K a) H1):Yx K tl σ H R:=h
theorem adT {tl:TE} {R:It->Hp->Prop} (h:tl σ H λx H1=>∃a,x=.ref a/\(∃xs,dz K H1 a xs)/\R (El K a) H1):RW K tl σ H R:=h
theorem adW {ta:TA} {R:It->Hp->Prop} (h:ta σ H λvs H1=>∃p1 p2 a b xs ys,vs=[.ref a,.ref b]/\oq K p1 H1 a xs/\oq K p2 H1 b ys/\R (UQ K p1 p2 a b) H1):W4 K ta σ H R:=h
theorem adS {ta:TA} {R:It->Hp->Prop} (h:ta σ H λvs H1=>∃tp a xs,vs=[.ref a]/\oq K tp H1 a xs/\R (K6 K tp a 0) H1):RU K ta σ H R:=h
theorem ad3 {ta:TA} {R:It->Hp->Prop} (h:ta σ H λvs H1=>∃j:Int,vs=[.int j]/\ -(2^62)<=j/\j<2^62/\R (XE 0 j.toNat) H1):W2 ta σ H R:=h
theorem ad4 {ta:TA} {R:It->Hp->Prop} (h:ta σ H λvs H1=>∃i j:Int,vs=[.int i,.int j]/\(-(2^62)<=i/\i<2^62/\ -(2^62)<=j/\j<2^62)/\R (XE i (j-i).toNat) H1):W3 ta σ H R:=h
theorem qP {n:Nat} {t:Uq} {a:Addr} {xs:List V} {Q:L2.St->Hp->Prop} (h:mK K H a xs) (hl:xs.length=n) (q:t xs σ H Q):X8 K n t (.ref a) σ H Q:=⟨a,xs,rfl,h,hl,q⟩
theorem adQ {t:TG} {u:Uq} {v:V} {r:List V} {Q:L2.St->Hp->Prop} (q:t v σ H fun σ' H'=>u r σ' H' Q):WM t u (v::r) σ H Q:=⟨v,r,rfl,q⟩
theorem adP {Q:L2.St->Hp->Prop} (q:Q σ H):aaZ [] σ H Q:=⟨rfl,q⟩
theorem xr {a:Addr} {ys:List V} (h:H a=some (.lst ys)) (q:∀(H':Hp) (p:Addr),bE H H'->H p=none->mK K H' p ys->Q (.ref p) H'):Ta K [.ref a] H Q:=
 ⟨a,ys,rfl,.inl ⟨dz.of h,λl hl=>q _ l (iP hl) hl (mK.of cU)⟩⟩
theorem gC {a:Addr} {ys:List V} (h:H a=some (.lst ys)) (q:Q (.int ys.length) H):VO K [.ref a] H Q:=⟨a,ys,rfl,.inl (dz.of h),q⟩
theorem fA {l b:Addr} {xs zs:List V} (h1:H l=some (~~~320)) (h2:H b=some (.lst zs)) (hz:xs.length+zs.length<=sizeLine) (q:∀(H':Hp) (p:Addr),bE H H'->H p=none->H' p=some (.lst (xs++zs))->Q (.ref p) H'):ab2 (.ref l) (.ref b) H Q:=
 ⟨l,b,xs,zs,rfl,rfl,h1,h2,hz,λp hp=>q _ p (iP hp) hp cU⟩
theorem vt {a:Addr} {xs:List V} {lo hi:Option Int} (h:H a=some (~~~320)) (q:∀(H':Hp) (p:Addr),bE H H'->H p=none->H' p=some (.lst (oF xs lo hi))->Q (.ref p) H'):VP K (.ref a) lo hi H Q:=
 ⟨a,xs,rfl,dz.of h,λp hp=>q _ p (iP hp) hp cU⟩
theorem gY {a:Addr} {xs:List V} {i:Int} {v:V} (h:H a=some (~~~320)) (e:QC xs i=some v) (q:Q v H):S9 K (.ref a) (.int i) H Q:=⟨a,xs,i,v,rfl,rfl,dz.of h,e,q⟩
theorem gJ {H4:Hp} {y:V} {x:Rat} (f:Fr K H4 y x):∀pJ,yi H H4 pJ->Fr K pJ y x:=by
 intro pJ r;obtain⟨a,e,s⟩:=f;refine⟨a,e,?_⟩;rcases s with(s|⟨o,s⟩)|s
 .exact .inl (.inl (r _ _ s (.inr rfl)))
 .exact .inl (.inr ⟨o,r _ _ s (.inr rfl)⟩)
 .exact .inr s
end
def XF (K:af):Bool->Addr->It
 |true,a=>Fl K a
 |false,a=>El K a
def abF (K:af) (tl:TE):TI:=fun σ H R=>tl σ H λx H1=>∃tp a,x=.ref a/\(∃xs,oq K tp H1 a xs)/\R (XF K tp a) H1
section
variable {X:Cx}
theorem Zd (K:af) {tg l:Expr} {tl:TE} (hl:PE X l tl) (hK:X.K=K:=by rfl):PI X tg l (abF K tl):=by
 subst hK;exists 53;refine jx (hl pins s σ H _ I h) λv s1 ⟨x,H1,I1,r1,tp,a,e,hs,q⟩=>?_;subst e;cases r1;obtain⟨xs,hq⟩:=hs;cases tp
 .obtain⟨its,rv,p,hz⟩:=I1.list hq;refine wpAny_pyIter_list p.isList ⟨s1.heap.objs.size,[s1.heap.objs.size],_,_,H1,rfl,I1.kept (t':=s1.toks) λb o e=>aq _ e,Fe a _,⟨_,aY _ rfl,rfl,rfl⟩,λb hb=>?_,q⟩;exists 57
  exists 58
 .obtain⟨its,rv,p,hz⟩:=I1.tuple hq;refine wpAny_pyIter_tuple (show s1.heap.IsTuple a its.toArray from p) ⟨s1.heap.objs.size,[s1.heap.objs.size],_,_,H1,rfl,I1.kept (t':=s1.toks) λb o e=>aq _ e,C7 a _,⟨_,aY _ rfl,rfl,rfl⟩,λb hb=>?_,q⟩;exists 57
  exists 58
theorem Yz {K:af} {α:Type} {R:Rep α} (st:ja R) {tp:Bool} {H:Hp} {a:Addr} {vs:List V} {l:List α} (h:oq K tp H a vs) (p:Paired (R H) vs l):FA (XF K tp a) H l R:=by
 cases tp
 .exact dS st h p
 .exact B1 st h p
theorem adU {K:af} {σ:L2.St} {H:Hp} {tl:TE} {R:It->Hp->Prop} (h:tl σ H λx H1=>∃tp a,x=.ref a/\(∃xs,oq K tp H1 a xs)/\R (XF K tp a) H1):abF K tl σ H R:=h
theorem zA {K:af} {H:Hp} {Q:VK} {l b:Addr} {xs zs:List V} {tp:Bool} (h:H l=some (~~~320)) (hb:match tp with|true=>mK K H b zs|false=>H b=some (.lst zs)) (hz:xs.length+zs.length<=sizeLine)
  (q:∀H',H' l=some (.lst (xs++zs))->(∀b o,H b=some o->b≠l->H' b=some o)->Q .jL H'):GW (.ref l) [.ref b] H Q\/CD K (.ref l) [.ref b] H Q:=by
 cases tp
 .exact .inl ⟨l,b,xs,zs,rfl,rfl,h,hb,hz,q _ cU λc o e hc=>by rw[c6 hc];exact e⟩
 .exact .inr ⟨l,b,xs,zs,rfl,rfl,h,hb,hz,q _ cU λc o e hc=>by rw[c6 hc];exact e⟩
theorem pW (K:af) (hK:X.K=K:=by rfl):Kq X "list.extend" (λx vs H Q=>GW x vs H Q\/CD K x vs H Q):=by
 subst hK;exact Z1.or Pc LX
end
section
variable {P:Program} {w:World} {K:af} {mg:Str->Option Value} {base:Heap} {d:iF}
def YK:List V->List (Str×V)
 | [a,b]=>[("kilograms",a),("grades",b)]
 |_=>[]
theorem JY:bh ["self","kilograms","grades"] ["self","kilograms","grades"] (ay (inClass (top 15) 0)):=by walk_at "s"
theorem YV (F:lz K mg "Lot" d.HH "Lot.__init__" (inClass (top 15) 0) ["self","kilograms","grades"]) (T:Top K mg d):mE P w K mg base 41 "Lot" d.HH (xR d.HH 2 YK):=by
 exists JY,0
 .exists 104
 obtain⟨p,dx,us,rfl,hl,hp,q⟩:=h
 match us,hl with
 | [a,b],_=>
 refine⟨_,(ao (tI K (pv 0) (pv 1))
   (aD (tI K (pv 0) (pv 2)))),?_⟩
 exists gD T.HH (~~~63) hp (by show 0<1000;decide) λH1 h1 k1=>?_;exists gD T.HH (~~~63) h1 (by show 1<1000;decide) λH2 h2 k2=>?_;exact q H2 h2 λb o e hb=>k2 b o (k1 b o e hb) hb
def P4 (K:af) (d:iF):Sp:=λvs H Q _=>∃v n m,vs=[.int (n:Nat),v]/\kI K (Fr K) H v m/\(∀x,x∈m->FB B0 x)/\Bd B0 (n:Nat)/\n≠0/\m.length<=100000/\∀H' z,bE H H'->mI K d H' z (Mi.eX n m)->Q z H'
theorem J3:bh ["kilograms","metal","grams"] ["kilograms","metal"] (ay (top 16)):=by walk_at "s"
theorem Jt (F:Def K mg "lot_with" (top 16) ["kilograms","metal"]) (T:Top K mg d) (BA:mE P w K mg base 41 "Lot" d.HH (xR d.HH 2 YK)) (L': ~~~1): ~~~10:=by
 exists J3,0
 .obtain⟨v,n,m,rfl,_⟩:=h;rfl
 obtain⟨v,n,m,rfl,hm,bm,bn,hn,hl,q⟩:=h;refine⟨_,(aD (bw (xG BA (~~~61) rfl (ae (pv 0) (ae (qW (IB K) rfl T.tuple (~~~63) (ae (iN rfl nd (MZ K (pv 1)) (cH (N:=["kilograms","metal","grams"]) (sc:=ay (top 16)) (own:=[("grams",2)]) (~~~63)) (λ_ _ _ _ _=>(cK 2 nd)) (~~~71) (λ_ _ _ _ _=>(a9 L' (~~~61) rfl (ae (pv 2) (~~~311))))) aj)) aj))))),?_⟩;exists 0;obtain⟨ga,yz,rfl,gs,gp⟩:=hm;refine⟨ga,rfl,⟨_,gs⟩,λD hD=>fj (B1 bU gs gp) (S:=Fr K) (f:=λg=>g/ (n:Rat)) bU hD hl (~~~234) (λH' ys s RE pr=>?_)⟩
 .exists 2;exists ⟨x,z,n,rfl,r,bm z (aw hz),bn,hn,λH4 y s4 hy=>k y H4 s4 (gJ hy)⟩
 .exists xr (K:=K) RE λH2 p s2 _ hp=>?_;exists vK rfl λH3 pl dx s3 _ h3=>?_;exact q H3 _ ((s.trans s2).trans s3) ⟨pl,dx,.ref p,rfl,h3,p,ys,rfl,ie s3 hp,aU bU pr (~~~191)⟩
def P5 (K:af) (d:iF):Sp:=λvs H Q _=>∃v x,vs=[v]/\mI K d H v x/\(∀g,g∈x.grades->FB B0 g)/\Bd B0 (x.amount:Nat)/\x.grades.length<=100000/\∀H' z,bE H H'->kI K (Fr K) H' z (Mi.jF x)->Q z H'
theorem J4:bh ["lot","grade"] ["lot"] (ay (top 17)):=by walk_at "s"
theorem Ju (F:Def K mg "metal_in" (top 17) ["lot"]) (T:Top K mg d) (fE: ~~~5): ~~~9:=by
 exists J4,0
 .obtain⟨v,x,rfl,_⟩:=h;rfl
 obtain⟨v,x,rfl,hx,bg,bn,hl,q⟩:=h;refine⟨_,(aD (bw (qW (IB K) rfl T.tuple (~~~63) (ae (iN rfl nd (MZ K (~~~95)) (cH (N:=["lot","grade"]) (sc:=ay (top 17)) (own:=[("grade",1)]) (~~~63)) (~~~280) (~~~71) (λ_ _ _ _ _=>(a9 fE (~~~61) rfl (ae (pv 1) (~~~69))))) aj)))),?_⟩;exists yD T hx λg hg=>?_;obtain⟨ga,yz,rfl,gs,gp⟩:=hg;refine⟨ga,rfl,⟨_,gs⟩,λD hD=>fj (B1 bU gs gp) (S:=Fr K) (f:=λg=>g*(x.amount:Rat)) bU hD hl (λi z y H' hz s r Q' k=>?_) (λH' ys s RE pr=>?_)⟩
 .exists 2;exists qi T (fN.up hx s) ?_;exists ⟨y,z,x.amount,rfl,r,bg z (aw hz),bn,trivial,λH4 u s4 hy=>k u H4 s4 (gJ hy)⟩
 .exists xr (K:=K) RE λH2 p s2 _ hp=>q H2 _ (s.trans s2) ⟨p,ys,rfl,hp,aU bU pr s2⟩
def Mr (K:af):Sp:=λvs H Q _=>∃v u a b,vs=[v,u]/\kI K (Fr K) H v a/\kI K (Fr K) H u b/\(∀x,x∈a->FB B0 x)/\(∀x,x∈b->FB B0 x)/\a.length<=100000/\∀H' z,bE H H'->kI K (Fr K) H' z (Mi.fM a b)->Q z H'
theorem J6:bh ["metal","more","one","other"] ["metal","more"] (ay (top 18)):=by walk_at "s"
theorem Jw (F:Def K mg "together" (top 18) ["metal","more"]) (T:Top K mg d) (kH: ~~~7): ~~~8:=by
 exists J6,0
 .obtain⟨v,u,a,b,rfl,_⟩:=h;rfl
 obtain⟨v,u,a,b,rfl,ha,hb,ba,bb,hl,q⟩:=h;refine⟨_,(aD (bw (qW (IB K) rfl T.tuple (~~~63) (ae (iN rfl nd (kq K T.zip (~~~184)) (cH (N:=["metal","more","one","other"]) (sc:=ay (top 18)) (own:=[("one",2),("other",3)]) (~~~63)) (λ_ _ _ _ _=>(EZ K 2 (cJ (cK 2 nd) (cJ (cK 3 nd) gI)))) (~~~71) (λ_ _ _ _ _=>(a9 kH (~~~61) rfl (~~~267)))) aj)))),?_⟩;exists 0;obtain⟨ga,yz,rfl,gs,gp⟩:=ha;obtain⟨ka,kz,rfl,ks,kp⟩:=hb;refine⟨true,true,ga,ka,yz,kz,rfl,gs,ks,λD hD=>fj (mO bU bU (p1:=true) (p2:=true) gs ks gp kp) (S:=Fr K) (f:=λp=>p.1+p.2) bU hD (by rw[bC];omega) (λi z y H' hz s r Q' k=>?_) (λH' ys s RE pr=>?_)⟩
 .obtain⟨tp,x1,x2,rfl,ht,r1,r2⟩:=r;refine qP ht rfl ?_;exists 106;have hz:=cw.mp hz;exact⟨x1,x2,z.1,z.2,rfl,r1,r2,ba _ (aw hz.1),bb _ (aw hz.2),λH4 y s4 hy=>k y H4 s4 (gJ hy)⟩
 .exists xr (K:=K) RE λH2 p s2 _ hp=>q H2 _ (s.trans s2) ⟨p,ys,rfl,hp,aU bU pr s2⟩
structure h_ (D:Nat) (l:List bV):Prop where
 pos:D≠0
 le:D<2^200000
 lots:∀x,x∈l->Mi.qF D x
 weight:Mi.aJ l<2^200
 len:l.length<=1000
theorem h_.take {D:Nat} {l:List bV} (h:h_ D l) (i:Nat):h_ D (~~~276):=
 ⟨h.pos,h.le,λx hx=>h.lots x (dc hx),bf (Mi.qc l i) h.weight,by rw[cu];have:=h.len;omega⟩
theorem h_.Sf {D:Nat} {l:List bV} (h:h_ D l):∀y,y∈Mi.metalOf l->FB 200300 y:=by
 intro y hy;obtain⟨a,b,c⟩:=(Mi.Cc h.pos h.lots).2 y hy;have e:(1000000000:Rat)*(Mi.aJ l:Rat)=((1000000000*Mi.aJ l:Nat):Rat):=by rw[jB];rfl
 rw[e] at b;have w:=h.weight;exact FB.le (Mi.EE (b:=230) h.pos c a b h.le (by
  have:(2:Nat)^230=2^30*2^200:=by rw[<-fS]
  rw[this];exact oR (~~~73) w (~~~73))) (by decide)
theorem h_.abh {D:Nat} {l:List bV} (h:h_ D l) {x:bV} (hx:x∈l) {g:Rat} (hg:g∈x.grades):FB 200300 g:=by
 have G:=(h.lots x hx).g g hg;exact FB.le (Mi.EE (M:=1000000000) (b:=30) h.pos G.den G.lo G.hi h.le (~~~73)) (~~~73)
theorem h_.amount {D:Nat} {l:List bV} (h:h_ D l) {x:bV} (hx:x∈l):x.amount<2^200:=by
 obtain⟨i,hi,e⟩:=cQ.mp hx;have a:=Mi.qc l (i+1);have:Mi.aJ (~~~264)=Mi.aJ (~~~276)+x.amount:=by
  rw[eE,ah hi,e,Mi.dP];show _+Mi.aJ [x]=_;rw[Mi.cY,Mi.ed];omega
 have:=h.weight;omega
def TJ (K:af) (d:iF):Sp:=λvs H Q _=>∃v l,vs=[v]/\fo (mI K d) H v l/\l.length<=100000/\∀H',bE H H'->Q (.int (Mi.aJ l:Nat)) H'
theorem Hf:bh ["lots","lot"] ["lots"] (ay (top 19)):=by walk_at "s"
theorem GH (F:Def K mg "weight_of" (top 19) ["lots"]) (T:Top K mg d): ~~~14:=by
 exists Hf,0
 .exists 139
 obtain⟨v,l,rfl,hl,ln,q⟩:=h;refine⟨_,(aD (bw (cR (WJ K) rfl T.sum (~~~63) (ae (iN rfl nd (~~~292) (cH (N:=["lots","lot"]) (sc:=ay (top 19)) (own:=[("lot",1)]) (~~~63)) (~~~280) (~~~71) (λ_ _ _ _ _=>(fc K (pv 1)))) aj)))),?_⟩;exists 0;exists 55;refine⟨ga,rfl,⟨_,dz.of gs⟩,λD hD=>fj (dS fN (dz.of gs) gp) (S:=rK) (f:=λx=>((x.amount:Nat):Int)) df hD ln (~~~234) (λH' ys s RE pr=>?_)⟩
 .exists 2;exists qi T r (k _ H' (~~~218) λ_ _=>rfl)
 .exists 0;rw[iX pr] at RE;refine⟨D,_,rfl,dz.of RE,?_⟩;rw[Mi.zQ];exact q H' s
def P6 (K:af) (d:iF):Sp:=λvs H Q _=>∃v l D,vs=[v]/\fo (mI K d) H v l/\h_ D l/\∀H' z,bE H H'->kI K (Fr K) H' z (Mi.metalOf l)->Q z H'
theorem J5:bh ["lots","metal","lot"] ["lots"] (ay (top 20)):=by walk_at "s"
theorem Jv (F:Def K mg "metal_of" (top 20) ["lots"]) (T:Top K mg d) (v7: ~~~9) (js: ~~~8): ~~~13:=by
 exists J5,0
 .obtain⟨v,l,D,rfl,_⟩:=h;rfl
 obtain⟨v,l,D,rfl,hl,O,q⟩:=h;refine⟨_,(ao (b9 1 nd (ic T.Bp rfl))
   (ao (jv PassesOwn.never rfl (~~~292) (cK 2 nd)
   (aD (b9 1 nd (a9 js (~~~61) rfl (ae (pv 1) (ae (a9 v7 (~~~61) rfl (~~~120)) aj))))))
   (aD (bw (pv 1))))),?_⟩
 exists 0;exists 55;refine⟨_,rfl,ga,rfl,⟨_,dz.of gs⟩,jr (dS fN (dz.of gs) gp) (λi σ H'=>bE H H'/\∃mv r,σ=[some (.ref ga),some mv,r]/\kI K (Fr K) H' mv (Mi.metalOf (~~~276))) ⟨bE.refl _,_,none,rfl,by rw[fI];exact T.noMetal H⟩ (~~~102) ?_ ?_⟩
 .rintro i z x σ H1 hz s r ⟨H0,⟨s0,mv,r0,rfl,hm⟩,s1⟩;exists 0;have zm:=aw hz;refine⟨x,z,rfl,r,λg hg=>(O.abh zm hg).le (~~~73),aT (O.amount zm) (~~~203),by rw[(O.lots z zm).ok.len];decide,λH2 mi s2 hmi=>?_⟩;exists 0;have O1:=O.take (i+1);refine⟨mv,mi,_,_,rfl,(oh bU).up hm (~~~99),hmi,λy hy=>((O.take i).Sf y hy).le (~~~73),?_,by rw[Mi.fB (λy hy=>((O.take i).lots y hy).ok.len)];decide,λH3 tv s3 ht=>?_⟩
  .intro y hy;obtain⟨g,hg,e⟩:=aS.mp hy;have G:=(O.lots z zm).g g hg;have am:=O.amount zm;rw[<-e];have m0:=bX G.lo (show(0:Rat)<=(z.amount:Rat) by exact_mod_cast cj _);have m1:=bX (show(0:Rat)<=1000000000-g by have:=G.hi;grind) (show(0:Rat)<=(z.amount:Rat) by exact_mod_cast cj _);have e2:((1000000000*z.amount:Nat):Rat)=1000000000*(z.amount:Rat):=by rw[jB];rfl
   exact FB.le (Mi.EE (M:=1000000000*z.amount) (b:=230) O.pos (Mi.yw _ O.pos G.den) m0 (by rw[e2];grind) O.le (by
    have:(2:Nat)^230=2^30*2^200:=by rw[<-fS]
    rw[this];exact oR (~~~73) am (~~~73))) (by decide)
  .exists ⟨s.trans (~~~191),tv,_,rfl,by rw[Mi.Gk hz];exact ht⟩
 .rintro σ H1 ⟨s1,mv,r,rfl,hm⟩;exists 0;rw[d8] at hm;exact q H1 _ s1 hm
def V_ (K:af) (d:iF):Sp:=λvs H Q _=>∃v l D,vs=[v]/\fo (mI K d) H v l/\h_ D l/\l≠[]/\∀H' z,bE H H'->mI K d H' z (Mi.mixed l)->Q z H'
theorem Th:bh ["lots"] ["lots"] (ay (top 21)):=by walk_at "s"
theorem Sw (F:Def K mg "mixed" (top 21) ["lots"]) (cX: ~~~14) (fq: ~~~13) (mT: ~~~10): ~~~12:=by
 exists Th,0
 .obtain⟨v,l,D,rfl,_⟩:=h;rfl
 obtain⟨v,l,D,rfl,hl,O,ne,q⟩:=h;refine⟨_,(aD (bw (a9 mT (~~~61) rfl (ae (a9 cX (~~~61) rfl (~~~311)) (ae (a9 fq (~~~61) rfl (~~~311)) aj))))),?_⟩;exists ⟨v,l,rfl,hl,by have:=O.len;omega,λH1 s1=>?_⟩;exists ⟨v,l,D,rfl,(cS fN).up hl s1,O,λH2 z s2 hz=>?_⟩;exists ⟨z,Mi.aJ l,Mi.metalOf l,rfl,hz,λy hy=>(O.Sf y hy).le (~~~73),aT O.weight (~~~203),Mi.mY (λx hx=>(O.lots x hx).ok) ne,by rw[Mi.fB (λy hy=>(O.lots y hy).ok.len)];decide,λH3 y s3 hy=>q H3 y ((~~~99).trans s3) hy⟩
def ach (K:af) (d:iF):Sp:=λvs H Q _=>∃v l n,vs=[v,.int (n:Nat)]/\fo (mI K d) H v l/\l.length<=1000/\
 ∀H' p ta la tv lv,bE H H'->H ta=none->H la=none->ta≠la->mK K H' p [.ref ta,.ref la]->H' ta=some (.lst tv)->H' la=some (.lst lv)->Paired (mI K d H') tv (Mi.cut l n).1->Paired (mI K d H') lv (Mi.cut l n).2.1->Q (.ref p) H'
theorem Rf {l:List bV} {n i:Nat} {x:bV} (h:l[i]?=some x):Mi.cut (~~~264) n=Mi.iW (Mi.cut (~~~276) n) x:=by
 unfold Mi.cut;rw[eE,h,dZ];rfl
theorem Nb (l:List bV) (n:Nat):(Mi.cut l n).1.length <=l.length/\(Mi.cut l n).2.1.length <=l.length:=by
 obtain⟨r,e,_,_,l1,l2,_⟩:=Mi.BI l [] [] n;have e:Mi.cut l n=([]++r.1,[]++r.2,n-Mi.aJ l):=e;rw[e];exact⟨l1,l2⟩
structure Q1 (K:af) (d:iF) (H0 H:Hp) (ta la:Addr) (t l:List bV):Prop where
 same:bE H0 H
 ne:ta≠la
 nt:H0 ta=none
 nl:H0 la=none
 tk:∃tv,H ta=some (.lst tv)/\Paired (mI K d H) tv t
 lf:∃lv,H la=some (.lst lv)/\Paired (mI K d H) lv l
theorem Q1.up {H0 H H':Hp} {ta la:Addr} {t l:List bV} (w:Q1 K d H0 H ta la t l) (s:bE H H'):Q1 K d H0 H' ta la t l:=by
 exists 80;exact⟨w.same.trans s,w.ne,w.nt,w.nl,⟨tv,s _ _ h1,aU fN p1 s⟩,⟨lv,s _ _ h2,aU fN p2 s⟩⟩
theorem Q1.t {H0 H:Hp} {ta la:Addr} {t l:List bV} {x:bV} {y:V} {Q:VK} (w:Q1 K d H0 H ta la t l) (r:mI K d H y x) (hl:t.length<10000) (q:∀H',NL H H'->Q1 K d H0 H' ta la (t++[x]) l->Q .jL H'):A2 (.ref ta) [y] H Q:=by
 exists 80;refine xq h1 (by rw[aZ p1,sizeLine_eq];omega) λH' a k=>q H' (yI h1 k) ?_;have n:=yI h1 k;exact⟨λb o e=>k b o (w.same b o e) (bL e w.nt),w.ne,w.nt,w.nl,⟨_,a,d4 (lP qs p1 n) (.cons (qs.up r n) .nil)⟩,⟨lv,k _ _ h2 w.ne.symm,lP qs p2 n⟩⟩
theorem Q1.l {H0 H:Hp} {ta la:Addr} {t l:List bV} {x:bV} {y:V} {Q:VK} (w:Q1 K d H0 H ta la t l) (r:mI K d H y x) (hl:l.length<10000) (q:∀H',NL H H'->Q1 K d H0 H' ta la t (l++[x])->Q .jL H'):A2 (.ref la) [y] H Q:=by
 exists 80;refine xq h2 (by rw[aZ p2,sizeLine_eq];omega) λH' a k=>q H' (yI h2 k) ?_;have n:=yI h2 k;exact⟨λb o e=>k b o (w.same b o e) (bL e w.nl),w.ne,w.nt,w.nl,⟨tv,k _ _ h1 w.ne,lP qs p1 n⟩,⟨_,a,d4 (lP qs p2 n) (.cons (qs.up r n) .nil)⟩⟩
theorem Zp:bh ["lots","kilograms","taken","left","missing","lot","share"] ["lots","kilograms"] (ay (top 22)):=by walk_at "s"
theorem YW (F:Def K mg "cut" (top 22) ["lots","kilograms"]) (T:Top K mg d) (BA:mE P w K mg base 41 "Lot" d.HH (xR d.HH 2 YK)): ~~~11:=by
 exists Zp,0
 .obtain⟨v,l,n,rfl,_⟩:=h;rfl
 obtain⟨v,l,n,rfl,hl,ln,q⟩:=h;refine⟨_,(ao (b9 2 nd (bZ aj))
   (ao (b9 3 nd (bZ aj))
   (ao (b9 4 nd (pv 1))
   (ao (jv PassesOwn.never rfl (~~~292) (cK 5 nd)
   (ao (b9 6 nd (cR (OF rfl) rfl T.min (~~~63) (ae (pv 4) (ae (fc K (pv 5)) aj))))
   (ao (b9 4 nd (b_ r9 (pv 4) (pv 6)))
   (ao (gN (eC Jy (pv 6) aF (dX _)) (aD (gT (nI bN dA dB ki (pv 2) (ae (xG BA (~~~61) rfl (ae (pv 6) (ae (fc K (pv 5)) aj))) aj)))) d5)
   (aD (gN (eC Cp (pv 6) (fc K (pv 5)) (dX _)) (aD (gT (nI bN dA dB ki (pv 3) (ae (xG BA (~~~61) rfl (ae (b_ r9 (fc K (pv 5)) (pv 6)) (ae (fc K (pv 5)) aj))) aj)))) d5))))))
   (aD (bw (jU (~~~267)))))))),?_⟩
 exists bY (by show 0<=sizeLine;exact cj _) λH1 ta s1 nt h1=>?_;exists bY (by show 0<=sizeLine;exact cj _) λH2 la s2 nl h2=>?_;walk_at "run";obtain⟨ga,yz,rfl,gs,gp⟩:=hl;have w0:Q1 K d H H2 ta la [] []:=⟨s1.trans s2,bL h1 nl,nt,s1.free nl,⟨[],s2 _ _ h1,.nil⟩,⟨[],h2,.nil⟩⟩;refine⟨_,rfl,ga,rfl,⟨_,dz.of ((~~~99) _ _ gs)⟩,jr (dS fN (dz.of gs) gp) (λi σ H'=>Q1 K d H H' ta la (Mi.cut (~~~276) n).1 (Mi.cut (~~~276) n).2.1/\∃r1 r2,σ=[some (.ref ga),some (.int (n:Nat)),some (.ref ta),some (.ref la),some (.int ((Mi.cut (~~~276) n).2.2:Nat)),r1,r2])
  ⟨w0,none,none,rfl⟩ (λi σ H' _ p=>p.1.same) ?_ ?_⟩
 .rintro i z x σ H3 hz s3 r ⟨H0,⟨w0,r1,r2,rfl⟩,s4⟩;have w1:=w0.up s4;have cl:=Nb (~~~276) n;have li:(~~~276).length <=1000:=by rw[cu];omega
  have ct:=Rf (n:=n) hz;exists qi T r ?_;exists ⟨_,_,rfl,?_⟩;generalize Mi.cut (~~~276) n=c at*
  have sh:(if(z.amount:Int)< (c.2.2:Int) then(z.amount:Int) else(c.2.2:Int))=((if z.amount<c.2.2 then z.amount else c.2.2:Nat):Int):=by split<;>split<;>omega
  rw[sh];generalize hs:(if z.amount<c.2.2 then z.amount else c.2.2)=share at*
  have st:Mi.iW c z=((if 0<share then c.1++[⟨share,z.grades⟩] else c.1),(if share<z.amount then c.2.1++[⟨z.amount-share,z.grades⟩] else c.2.1),c.2.2-share):=by
   unfold Mi.iW;simp only[hs]
  have le:share<=c.2.2:=by split at hs<;>omega
  exists 0;have sub:(c.2.2:Int)- (share:Int)=((c.2.2-share:Nat):Int):=by omega
  rw[sub];refine ub ?_ ?_<;>intro g1
  .exists 0;obtain⟨tv,h1,p1⟩:=w1.tk;refine⟨.inl ⟨rfl,_,dz.of h1⟩,?_⟩;exists yD T r λgg Hz=>?_;exists vK rfl λH5 pl dx s5 _ h5=>?_;exists 0;have w5:=w1.up s5;obtain⟨tv5,QG,HU⟩:=w5.tk;refine w5.t (x:=⟨share,z.grades⟩) ⟨pl,dx,gg,rfl,h5,(oh bU).up Hz s5⟩ (~~~62) λH6 n6 ww=>?_;have rr:mI K d H6 x z:=qs.up (fN.up r s5) n6;exists qi T rr ?_;exists ub ?_ ?_<;>intro g2
   .exists 0;obtain⟨lv,h2,p2⟩:=ww.lf;refine⟨.inl ⟨rfl,_,dz.of h2⟩,?_⟩;exists qi T rr ?_;exists yD T rr λgg Hz=>?_;exists vK rfl λH7 pl dx s7 _ h7=>?_;exists 0;have w7:=ww.up s7;have e7:(z.amount:Int)- (share:Int)=((z.amount-share:Nat):Int):=by omega
    rw[e7] at h7;refine w7.l (x:=⟨z.amount-share,z.grades⟩) ⟨pl,dx,gg,rfl,h7,(oh bU).up Hz s7⟩ (~~~62) λH8 _ w8=>?_;exists 89;rw[ct,st,if_pos (show 0<share by omega),if_pos (show share<z.amount by omega)];exact w8
   .exists 89;rw[ct,st,if_pos (show 0<share by omega),if_neg (show¬share<z.amount by omega)];exact ww
  .have ww:=w1;have rr:=r;exists qi T rr ?_;exists ub ?_ ?_<;>intro g2
   .exists 0;obtain⟨lv,h2,p2⟩:=ww.lf;refine⟨.inl ⟨rfl,_,dz.of h2⟩,?_⟩;exists qi T rr ?_;exists yD T rr λgg Hz=>?_;exists vK rfl λH7 pl dx s7 _ h7=>?_;exists 0;have w7:=ww.up s7;have e7:(z.amount:Int)- (share:Int)=((z.amount-share:Nat):Int):=by omega
    rw[e7] at h7;refine w7.l (x:=⟨z.amount-share,z.grades⟩) ⟨pl,dx,gg,rfl,h7,(oh bU).up Hz s7⟩ (~~~62) λH8 _ w8=>?_;exists 89;rw[ct,st,if_neg (show¬ 0<share by omega),if_pos (show share<z.amount by omega)];exact w8
   .exists 89;rw[ct,st,if_neg (show¬ 0<share by omega),if_neg (show¬share<z.amount by omega)];exact ww
 .rintro σ H3 ⟨w1,r1,r2,rfl⟩;exists jR (K:=K) (mC _ _) λH4 p s4 _ hp=>?_;rw[d8] at w1;have w2:=w1.up s4;obtain⟨tv,h1,p1⟩:=w2.tk;obtain⟨lv,h2,p2⟩:=w2.lf;exact q H4 p ta la tv lv w2.same w2.nt w2.nl w2.ne hp h1 h2 p1 p2
theorem wd {H' H4:Hp} {p:Addr} {l:List Int} (n:H' p=none) (h:H4 p=some (.lst (~~~208))):∀pJ,yi H' H4 pJ->eA pJ (.ref p) l:=λpJ r=>fZ (r _ _ h (.inl n))
theorem ot {wi:TI} {g:TG} {tb:TS} {D:Ends} {σ:L2.St} {H:Hp} (h:wi σ H λJ H1=>∃W:Nat->Nat->L2.St->Hp->Prop,(∃m,W 0 m σ H1)/\∀i m σ H,W i m σ H->
 (J.stop i H/\D.nx σ H)\/(J.go i H/\∃N:L2.St->Hp->Prop,(∀σ' H',N σ' H'->∃m',m'<m/\W (i+1) m' σ' H')/\∀x H',J.Kk i H x H'->g x σ H' fun σ2 H2=>tb {D with nx:=N,ct:=N,bk:=D.nx} σ2 H2)):acp wi g tb D σ H:=h
theorem WS {to ti:TE} {t:UT} {v:V} {σ:L2.St} {H:Hp} {Q:L2.St->Hp->Prop} (h:to σ H λo H1=>ti σ H1 λi H2=>t o i v H2 λH3=>Q σ H3):aa0 to ti t v σ H Q:=h
theorem RA {p:Addr} {xs:List V} {k:Int} {j:Nat} {v:V} {H:Hp} {Q:Hp->Prop} (h:H p=some (~~~320)) (e:R0 xs.length k=some j) (q:∀H',H' p=some (.lst (xs.set j v))->(∀b o,H b=some o->b≠p->H' b=some o)->Q H'):Xh (.ref p) (.int k) v H Q:=
 ⟨p,xs,k,j,rfl,rfl,h,e,q _ cU λb o e hb=>by rw[c6 hb];exact e⟩
theorem Nt {n j:Nat} (h:j<n):R0 n (j:Int)=some j:=by
 unfold R0;rw[if_pos (~~~62),if_pos (~~~62)];simp
theorem fF {l:List Int} {j:Nat} (h:j<l.length):QC (~~~208) (j:Int)=some (.int (l.getD j 0)):=by
 apply w_;rw[bo,ah h,eI,Mi.getD_in 0 h]
def V4:Sp:=λvs H Q _=>∃(n i:Nat) (z:Int),vs=[.int (n:Nat),.int (i:Nat),.int z]/\i<n/\n<=1000/\∀H' p,bE H H'->H p=none->H' p=some (.lst ((Du.alone n i z).map V.int))->Q (.ref p) H'
theorem Tf:bh ["count","place","number","row"] ["count","place","number"] (ay (top 36)):=by walk_at "s"
theorem Su (F:Def K mg "alone" (top 36) ["count","place","number"]): ~~~20:=by
 exists Tf,0
 .obtain⟨n,i,z,rfl,_⟩:=h;rfl
 obtain⟨n,i,z,rfl,hi,hn,q⟩:=h;refine⟨_,(ao (b9 3 nd (b_ L9 (~~~164) (pv 0)))
   (ao (SX (pv 2) (SO (pv 3) (pv 1) set_list))
   (aD (bw (pv 3))))),?_⟩
 exists 28;exists ⟨p1,n,_,rfl,rfl,h1,by omega,by omega,by rw[sizeLine_eq];simp;omega,λp2 n2=>?_⟩;have e:(bT (n:Int).toNat ([V.int 0])).flatten =(bT n (0:Int)).map V.int:=by
  rw[eQ];clear hi hn q h1
  induction n with
  |zero=>rfl
  |succ n ih=>rw[dF,eR,ih,dF];rfl
 rw[e];exists WS ?_;exists 0;have hl:((bT n (0:Int)).map V.int).length =n:=by simp
 refine RA cU (Nt (by rw[hl];exact hi)) λH3 h3 k3=>?_;exists q H3 p2 (λb o e=>k3 b o (by rw[c6 (bL (s1 _ _ e) n2)];exact s1 _ _ e) (bL (s1 _ _ e) n2)) (s1.free n2) ?_;rw[h3];unfold Du.alone;rw[wM]
def V7:Sp:=λvs H Q _=>∃v u c t,vs=[v,u]/\eA H v c/\fo eA H u t/\c.length<=100/\t.length<=1000/\∀H' z,bE H H'->fo eA H' z (Du.ee c t)->Q z H'
theorem CQ:bh ["costs","conditions","count","unknowns","place"] ["costs","conditions"] (ay (top 37)):=by walk_at "s"
theorem Co (F:Def K mg "first_table" (top 37) ["costs","conditions"]) (T:Top K mg d) (oK: ~~~20): ~~~19:=by
 exists CQ,0
 .obtain⟨v,u,c,t,rfl,_⟩:=h;rfl
 obtain⟨v,u,c,t,rfl,hc,ht,lc,lt,q⟩:=h;refine⟨_,(ao (b9 2 nd (~~~123))
   (ao (sW 3 nd (yR rfl T.range (~~~120)) (cH (N:=["costs","conditions","count","unknowns","place"]) (sc:=ay (top 37)) (own:=[("place",4)]) (~~~63)) (~~~225) (~~~71) (λ_ _ _ _ _=>(b_ dY (~~~164) (a9 oK (~~~61) rfl (ae (pv 2) (ae (pv 4) (ae aF aj)))))))
   (aD (bw (b_ dY (b_ dY (bZ (ae (b_ dY (~~~164) (pv 0)) aj)) (pv 3)) (pv 1)))))),?_⟩
 obtain⟨ca,rfl,cs⟩:=dH hc;exists gC cs ?_;rw[ag];exists ⟨_,rfl,by omega,by omega,λD hD=>fj (xx 0 _) (S:=eA) (f:=λp=>0::Du.alone c.length p 1) (cS df) hD (by simp;omega) (~~~234) (λH1 ys s1 Z4 pr=>?_)⟩
 .subst r;have zi:z<c.length:=by
   have:=(aO.mp hz);obtain⟨h1,h2⟩:=this;simp at h1 h2;omega
  exists 2;exists 37;exists ⟨c.length,z,1,by simp,zi,by omega,λH3 p3 s3 n3 h3=>?_⟩;refine fA (s3 _ _ h2) h3 (by rw[ag,Du.oN,sizeLine_eq];simp;omega) λH4 p4 s4 n4 h4=>?_;exact k _ H4 (~~~117) (wd ((~~~191).free n4) h4)
 .simp only[eQ] at pr;exists 37;exists fA h2 ((~~~99) _ _ cs) (by rw[ag,sizeLine_eq];simp;omega) λH3 p3 s3 n3 h3=>?_;exists 27;exists 0;have ly:=aZ pr;rw[ag,eU] at ly;refine fA h4 ((~~~117) _ _ Z4) (by rw[ly,sizeLine_eq];simp;omega) λH5 p5 s5 n5 h5=>?_;exists 0;obtain⟨ta,Qp,rfl,ts,tp⟩:=ht;have MT:=aZ tp;refine fA h5 ((s1.trans (s2.trans (~~~227))) _ _ ts) (by rw[au,ly,MT,sizeLine_eq];simp;omega) λH6 p6 s6 n6 h6=>?_;refine q H6 _ (s1.trans (s2.trans (~~~189))) ⟨p6,_,rfl,h6,?_⟩;have r1:eA H6 (.ref p3) (0::c):=fZ ((s4.trans (s5.trans s6)) _ _ h3);exact d4 (d4 (.cons r1 .nil) (aU (cS df) pr (s2.trans (~~~189)))) (aU (cS df) tp (s1.trans (s2.trans (~~~189))))
def Bq {α:Type} (R:Rep α):Rep (Option α):=λH v o=>match o with
 |none=>v=.jL
 |some x=>v≠ .jL /\R H v x
theorem yt (xs:List V) (k:Nat) (h:k<=xs.length):oF xs (some (k:Int)) none=xs.drop k:=by
 unfold oF;rw[HT.A4,HT.JW,sI h];exact jm (by rw[dg];exact aM _)
theorem EB (xs:List V) (k:Nat):oF xs none (some (k:Int))=xs.take k:=by
 unfold oF;rw[HT.A4,HT.JW,lT,Nat.sub_zero];rw[sZ];omega
theorem oZ (xs:List V) (j k:Nat) (h:j<=xs.length) (hk:j<=k):oF xs (some (j:Int)) (some (k:Int))=(xs.drop j).take (k-j):=by
 unfold oF;rw[HT.A4,HT.A4,sI h,sZ,dg];omega
def Ts:Sp:=λvs H Q _=>∃v t,vs=[v]/\fo eA H v t/\1<=t.length/\(∀r:List Int,r∈t->1<=r.length)/\∀H' z,bE H H'->Bq eA H' z (Du.gL t)->Q z H'
theorem Az:bh ["table","row"] ["table"] (ay (top 38)):=by walk_at "s"
theorem Aq (F:Def K mg "first_broken" (top 38) ["table"]): ~~~18:=by
 exists Az,0
 .obtain⟨v,t,rfl,_⟩:=h;rfl
 obtain⟨v,t,rfl,ht,l1,lr,q⟩:=h;refine⟨_,(ao (jv PassesOwn.never rfl (v9 K (jH (QM K) (pv 0) (fh aF) xI)) (cK 1 nd)
   (aD (gN (eC Cp (~~~64) aF (dX _)) (aD (bw (pv 1))) d5)))
   (aD (bw nZ))),?_⟩
 obtain⟨ta,Qp,rfl,ts,tp⟩:=ht;have lt:=aZ tp;exists ot ?_;exists 136;exists vt ts λH1 p1 s1 n1 h1=>?_;have e1:oF Qp (some 1) none=Qp.drop 1:=yt Qp 1 (~~~62);rw[e1] at h1;refine⟨p1,rfl,⟨_,dz.of h1⟩,jr (dS (cS df) (dz.of h1) (j7 1 (aU (cS df) tp s1))) (λi σ H'=>bE H1 H'/\(∃r,σ=[some (.ref ta),r])/\∀j x,j<i->(t.drop 1)[j]?=some x->¬x.getD 0 0<0) ⟨bE.refl _,⟨none,rfl⟩,λj x hj=>by omega⟩ (~~~102) ?_ ?_⟩
 .rintro i z x σ H2 hz s2 r ⟨H0,⟨s0,⟨r0,rfl⟩,no⟩,s3⟩;have zm:z∈t:=fy (aw hz);obtain⟨za,rfl,zs⟩:=dH r;exists gY zs (fF (j:=0) (lr z zm)) ?_;exists ub ?_ ?_<;>intro g1
  .exists q H2 _ (~~~99) ?_;have e:Du.gL t=some z:=by
    unfold Du.gL;rw[List.find?_eq_some_iff_getElem];refine⟨by simpa using g1,i,?_,?_,?_⟩
    .exact(aO.mp hz).1
    .exact(aO.mp hz).2
    .intro j hj;have:=no j _ hj (ah (by have:=(aO.mp hz).1;omega));simpa using this
   rw[e];exact⟨(~~~314),r⟩
  .exists ⟨s2,⟨_,rfl⟩,λj y hj hy=>?_⟩;by_cases c:j<i
   .exact no j y c hy
   .have:j=i:=by omega
    subst this;rw[hz] at hy;cases hy;exact g1
 .rintro σ H2 ⟨s2,⟨r,rfl⟩,no⟩;exists q H2 _ (~~~99) ?_;have e:Du.gL t=none:=by
   unfold Du.gL;rw[lj];intro x hx;obtain⟨j,hj,e⟩:=cQ.mp hx;have:=no j x hj (by rw[<-e];exact ah hj);simpa using this
  rw[e];rfl
def TB (B:Nat) (t:List (~~~94)):Prop:=∀r:List Int,r∈t->∀x,x∈r->Bd B x
theorem uP {B:Nat} {r:List Int} (h:∀x,x∈r->Bd B x) {j:Nat} (hj:j<r.length):Bd B (r.getD j 0):=h _ (by rw[Mi.getD_in 0 hj];exact bM hj)
def P0:Sp:=λvs H Q _=>∃v u t b i j n,vs=[v,u,.int (i:Nat),.int (j:Nat)]/\fo eA H v t/\eA H u b/\(∀r:List Int,r∈t->r.length=n)/\b.length=n/\i<n/\j<n/\TB B0 t/\(∀x,x∈b->Bd B0 x)/\∀H',bE H H'->Q (.bl (Du.jo t b i j)) H'
theorem rN {br:List Int} {a o:Nat}:∀{t:List (~~~94)} {i:Nat},(∀j x,j<i->t[j]?=some x->x.getD a 0*br.getD o 0-x.getD o 0*br.getD a 0=0)->Du.jo t br a o=Du.jo (t.drop i) br a o
 |t,0,_=>by rw[lT]
 | [],i+1,_=>by rw[List.drop_nil]
 |r::t,i+1,h=>by
  have h0:=h 0 r (~~~62) rfl;rw[oi,<-rN (t:=t) (i:=i) (λj x hj hx=>h (j+1) x (~~~62) hx)];show(if _≠0 then _ else _)=_;rw[h0,if_neg (~~~88)]
theorem Ee:bh ["cost_rows","broken","one","other","row","difference"] ["cost_rows","broken","one","other"] (ay (top 39)):=by walk_at "s"
theorem DO (F:Def K mg "is_cheaper" (top 39) ["cost_rows","broken","one","other"]): ~~~17:=by
 exists Ee,0
 .obtain⟨v,u,t,b,i,j,n,rfl,_⟩:=h;rfl
 obtain⟨v,u,t,b,a,o,n,rfl,ht,hb,lr,lb,la,lo,bt,bb,q⟩:=h;refine⟨_,(ao (jv PassesOwn.never rfl (~~~292) (cK 4 nd)
   (ao (b9 5 nd (b_ r9 (b_ gG (cD (o9 K) (pv 4) (pv 2) (~~~74)) (~~~279)) (b_ gG (cD (o9 K) (pv 4) (pv 3) (~~~74)) (cD (o9 K) (pv 1) (pv 2) (~~~74)))))
   (aD (gN (eC Sz (pv 5) aF (dX _)) (aD (bw (ko Cp (pv 5) aF (dX _)))) d5))))
   (aD (bw JH))),?_⟩
 obtain⟨ta,Qp,rfl,ts,tp⟩:=ht;obtain⟨ba,rfl,bs⟩:=dH hb;exists ot ?_;exists ⟨ta,rfl,⟨_,dz.of ts⟩,jr (dS (cS df) (dz.of ts) tp) (λi σ H'=>bE H H'/\(∃r1 r2,σ=[some (.ref ta),some (.ref ba),some (.int (a:Nat)),some (.int (o:Nat)),r1,r2])/\∀j x,j<i->t[j]?=some x->x.getD a 0*b.getD o 0-x.getD o 0*b.getD a 0=0)
  ⟨bE.refl _,⟨none,none,rfl⟩,λj x hj=>by omega⟩ (~~~102) ?_ ?_⟩
 .rintro i z x σ H2 hz s2 r ⟨H0,⟨s0,⟨r1,r2,rfl⟩,no⟩,s3⟩;have zm:=aw hz;have zl:=lr z zm;obtain⟨za,rfl,zs⟩:=dH r;have Fs:=s2 _ _ bs;exists gY zs (fF (~~~62)) ?_;exists gY Fs (fF (~~~62)) ?_;refine t_ (jd (uP (bt z zm) (~~~62)) (uP bb (~~~62)) (~~~73)) ?_;exists gY zs (fF (~~~62)) ?_;exists gY Fs (fF (~~~62)) ?_;refine t_ (jd (uP (bt z zm) (~~~62)) (uP bb (~~~62)) (~~~73)) ?_;exists 0;have sk:=rN no;have dr:t.drop i=z::t.drop (i+1):=by
   obtain⟨h1,h2⟩:=aO.mp hz;rw[<-h2];exact fX h1
  refine Ry ?_ ?_<;>intro g1
  .exists 0;have e:Du.jo t b a o=decide (z.getD a 0*b.getD o 0-z.getD o 0*b.getD a 0<0):=by
    rw[sk,dr];show(if _≠0 then _ else _)=_;rw[if_pos g1]
   have:=q H2 s2;rw[e] at this;exact this
  .exists ⟨s2,⟨_,_,rfl⟩,λj y hj hy=>?_⟩;by_cases c:j<i
   .exact no j y c hy
   .have:j=i:=by omega
    subst this;rw[hz] at hy;cases hy;exact g1
 .rintro σ H2 ⟨s2,⟨r1,r2,rfl⟩,no⟩;exists 0;have sk:=rN no;rw[qw] at sk;have:=q H2 s2;rw[sk] at this;exact this
def Tu:Sp:=λvs H Q _=>∃v u t b n,vs=[v,u]/\fo eA H v t/\eA H u b/\(∀r:List Int,r∈t->r.length=n+1)/\b.length=n+1/\n<=100/\TB B0 t/\(∀x,x∈b->Bd B0 x)/\∀H' z,bE H H'->Bq K_ H' z (Du.kJ t b n)->Q z H'
theorem wg:bh ["cost_rows","broken","best","column"] ["cost_rows","broken"] (ay (top 40)):=by walk_at "s"
theorem vW (F:Def K mg "cheapest_column" (top 40) ["cost_rows","broken"]) (T:Top K mg d) (si: ~~~17): ~~~16:=by
 exists wg,0
 .obtain⟨v,u,t,b,n,rfl,_⟩:=h;rfl
 obtain⟨v,u,t,b,n,rfl,ht,hb,lr,lb,ln,bt,bb,q⟩:=h;refine⟨_,(ao (b9 2 nd nZ)
   (ao (jv PassesOwn.never rfl (PC rfl T.range (ae aF (ae (~~~278) aj))) (cK 3 nd)
   (aD (gN (eC Jy (~~~279) aF (dX _)) (aD (gN (PW.pt (S5 (eC v3 (pv 2) nZ (dX _)) (Mc (mn (a9 si (~~~61) rfl (ae (pv 0) (ae (pv 1) (ae (pv 3) (~~~120))))))))) (aD (b9 2 nd (pv 3))) d5)) d5)))
   (aD (bw (pv 2))))),?_⟩
 obtain⟨ba,rfl,bs⟩:=dH hb;exists ot ?_;exists gC bs ?_;exists 0;have e1:((b.map V.int).length :Int)=((n+1:Nat):Int):=by rw[ag,lb]
 rw[e1];have e2:(((n+1:Nat):Int)-1).toNat =n:=by omega
 refine⟨1,_,rfl,⟨by decide,by decide,by omega,by omega⟩,?_⟩;rw[e2];refine jr (xx 1 n) (λi σ H'=>bE H H'/\∃bv r1,σ=[some v,some (.ref ba),some bv,r1]/\Bq K_ H' bv (Du.kJ t b i)) ⟨bE.refl _,.jL,none,rfl,rfl⟩ (~~~102) ?_ ?_
 .rintro i z x σ H2 hz s2 r ⟨H0,⟨s0,bv,r1,rfl,IY⟩,s3⟩;subst r;obtain⟨h1,h2⟩:=aO.mp hz;simp at h1 h2;subst h2;have e3:(1:Int)+(i:Nat)=((i+1:Nat):Int):=by omega
  rw[e3];have Fs:=s2 _ _ bs;exists gY Fs (fF (~~~62)) ?_;exists 0;have un:Du.kJ t b (i+1)=if 0<b.getD (i+1) 0 then(match Du.kJ t b i with|none=>some (i+1)|some o=>if Du.jo t b (i+1) o=true then some (i+1) else some o) else Du.kJ t b i:=rfl
  have bk:=Du.xc t b i;refine ub ?_ ?_<;>intro g1
  .rw[if_pos g1] at un;exists 106;cases eb:Du.kJ t b i with
   |none=>
    rw[eb] at IY un;have IY:bv=.jL :=IY;subst IY;rw[rO];refine kG (kG ?_);exists ⟨s2,_,_,rfl,by rw[un];exact⟨(~~~314),rfl⟩⟩
   |some o=>
    rw[eb] at IY un bk;obtain⟨_,IY⟩:=IY;have IY:bv=.int (o:Int):=IY;subst IY;rw[zw];exists 85;obtain⟨o1,o2,_,_⟩:=bk;exists ⟨v,.ref ba,t,b,i+1,o,n+1,rfl,(cS (cS df)).up ht s2,fZ Fs,lr,lb,by omega,by omega,bt,bb,λH3 s4=>?_⟩;exists 0;have un:Du.kJ t b (i+1)=if Du.jo t b (i+1) o=true then some (i+1) else some o:=un
    cases ch:Du.jo t b (i+1) o with
    |true=>
     exists 103;exists 0;rw[ch,if_pos rfl] at un;exact⟨s2.trans s4,_,_,rfl,by rw[un];exact⟨(~~~314),rfl⟩⟩
    |false=>
     exists 85;exists 0;rw[ch,if_neg (~~~73)] at un;exact⟨s2.trans s4,_,_,rfl,by rw[un];exact⟨(~~~314),rfl⟩⟩
  .rw[if_neg g1] at un;exists ⟨s2,bv,_,rfl,?_⟩;rw[un];cases eb:Du.kJ t b i with
   |none=>rw[eb] at IY;exact IY
   |some o=>rw[eb] at IY;exact IY
 .rintro σ H2 ⟨s2,bv,r1,rfl,IY⟩;exists 0;rw[eU] at IY;exact q H2 _ s2 IY
def TH:Sp:=λvs H Q _=>∃v u r b c z,vs=[v,u,.int (c:Nat),.int z]/\eA H v r/\eA H u b/\r.length=b.length/\c<b.length/\b.length<=1000/\z≠0/\(∀x,x∈r->Bd B0 x)/\(∀x,x∈b->Bd B0 x)/\
 ∀H' p,bE H H'->H p=none->H' p=some (.lst ((Du.turned b c z r).map V.int))->Q (.ref p) H'
theorem PQ:bh ["row","broken","column","divisor","share","after","mine","lacking"] ["row","broken","column","divisor"] (ay (top 41)):=by walk_at "s"
theorem Pw (F:Def K mg "turned" (top 41) ["row","broken","column","divisor"]) (T:Top K mg d) (ht:P.given.tree=none): ~~~15:=by
 exists PQ,0
 .obtain⟨v,u,r,b,c,z,rfl,_⟩:=h;rfl
 obtain⟨v,u,r,b,c,z,rfl,hr',hb,le,hc,ags,z0,br,bb,q⟩:=h;have hL:=rX (P:=P) (w:=w) (K:=K) (mg:=mg) (base:=base) (N:=["row","broken","column","divisor","share","after","mine","lacking"]) (outer:=outer) (H:=H) (E:=E) hr (~~~73) ht rfl rfl;refine⟨_,(ao (b9 4 nd (cD (o9 K) (pv 0) (pv 2) (~~~74)))
   (ao (sW 5 nd (kq K T.zip (~~~184)) (cH (N:=["row","broken","column","divisor","share","after","mine","lacking"]) (sc:=ay (top 41)) (own:=[("mine",6),("lacking",7)]) (~~~63)) (λ_ _ _ _ _=>(EZ K 2 (cJ (cK 6 nd) (cJ (cK 7 nd) gI)))) (~~~71) (λ_ _ _ _ _=>(b_ (iM hL.yl) (b_ r9 (b_ gG (pv 6) (cD (o9 K) (pv 1) (pv 2) (~~~74))) (b_ gG (pv 4) (pv 7))) (pv 3))))
   (ao (SX (pv 4) (SO (pv 5) (pv 2) set_list))
   (aD (bw (pv 5)))))),?_⟩
 obtain⟨ra,rfl,rs⟩:=dH hr';obtain⟨ba,rfl,bs⟩:=dH hb;exists gY rs (fF (~~~62)) ?_;exists ⟨false,false,ra,ba,_,_,rfl,dz.of rs,dz.of bs,λD hD=>fj (mO df df (p1:=false) (p2:=false) (dz.of rs) (dz.of bs) (kU r) (kU b)) (S:=rK) (f:=λx=>(x.1*b.getD c 0-r.getD c 0*x.2).fdiv z) df hD (by rw[bC];omega) (λi y x H' hz s r' Q' k=>?_) (λH1 ys s1 Z4 pr=>?_)⟩
 .obtain⟨tp,x1,x2,rfl,htp,r1,r2⟩:=r';have r1:x1=.int y.1:=r1;have r2:x2=.int y.2:=r2;subst r1 r2;have hz:=cw.mp hz;refine qP htp rfl ?_;exists 2;exists gY (s _ _ bs) (fF (~~~62)) ?_;refine t_ (jd (br _ (aw hz.1)) (uP bb (~~~62)) (~~~73)) ?_;exists t_ (jd (uP br (~~~62)) (bb _ (aw hz.2)) (~~~73)) ?_;exists t_ z0 ?_;exact k _ H' (~~~218) λ_ _=>rfl
 .exists WS ?_;exists 0;rw[iX pr] at Z4;refine RA Z4 (Nt (j:=c) (by rw[ag,ag,bC];omega)) λH2 h2 k2=>?_;exists q H2 D (λx o e=>k2 x o (s1 _ _ e) (bL e hD)) hD ?_;rw[h2];unfold Du.turned;rw[wM]
theorem C5 {n X x:Nat} (hn:n<=7) (hX:X<2^122000) (h:x<=Du.fact (n+1)*X^(n+1)):x<2^1000000:=by
 have f:Du.fact (n+1)<=2^16:=by
  have:∀m,m<=7->Du.fact (m+1)<=65536:=by decide
  exact this n hn
 have p:X^(n+1)<=2^(122000*8):=by
  calc X^(n+1)<=(2^122000)^(n+1):=Nat.pow_le_pow_left (gP hX) _
   _=2^(122000*(n+1)):=by rw[<-Nat.pow_mul]
   _<=2^(122000*8):=bW (~~~73) (~~~62)
 calc x<=Du.fact (n+1)*X^(n+1):=h
  _<=2^16*2^(122000*8):=i8 f p
  _=2^(16+122000*8):=by rw[<-fS]
  _<2^1000000:=gA (~~~73) (~~~73)
theorem U5 (a:Int) (d:Nat):(a/ (d:Int)).natAbs <=a.natAbs:=by
 rw[<-Fm.qL];exact natAbs_fdiv_le a d
theorem fbk {a:Nat} {z:Int} {d:Nat} (hz:z.natAbs<2^a) (hd:d<2^a) (h0:d≠0):FB a (mkRat z d):=by
 constructor
 .rw[<-eJ h0,ke h0];exact bf (U5 _ _) hz
 .rw[<-eJ h0,ke h0];exact bf (dC _ _) hd
def Mn (K:af):Sp:=λvs H Q _=>∃v u c t X,vs=[v,u]/\eA H v c/\fo eA H u t/\Du.zk c t X/\X<2^122000/\c.length<=7/\t.length<=500/\∀H' z,bE H H'->Bq (fo (Fr K)) H' z (Du.f9 c t)->(∀x,Du.f9 c t=some x->x.length=c.length/\∀a,a∈x->FB 1000000 a)->Q z H'
theorem J1:bh ["costs","conditions","count","table","divisor","broken","column","row"] ["costs","conditions"] (ay (top 42)):=by walk_at "s"
theorem Jr (F:Def K mg "cheapest" (top 42) ["costs","conditions"]) (T:Top K mg d) (qo: ~~~19) (me: ~~~18)
  (md: ~~~16) (Cr: ~~~15) (jG: ~~~4): ~~~21:=by
 exists J1,0
 .obtain⟨v,u,c,t,X,rfl,_⟩:=h;rfl
 obtain⟨v,u,c,t,X,rfl,hc,ht,A1,hX,lc,lt,q⟩:=h;refine⟨_,(ao (b9 2 nd (~~~123))
   (ao (b9 3 nd (a9 qo (~~~61) rfl (~~~184)))
   (ao (b9 4 nd aF)
   (ao (b9 5 nd (a9 me (~~~61) rfl (ae (pv 3) aj)))
   (ao (CC PassesOwn.never (eC VE (pv 5) nZ (dX _))
   (ao (b9 6 nd (a9 md (~~~61) rfl (ae (jH (QM K) (pv 3) xI (fh (b_ j6 (pv 2) aF))) (ae (pv 5) aj))))
   (ao (gN (eC v3 (pv 6) nZ (dX _)) (aD (bw nZ)) d5)
   (ao (sW 3 nd (v9 K (pv 3)) (cH (N:=["costs","conditions","count","table","divisor","broken","column","row"]) (sc:=ay (top 42)) (own:=[("row",7)]) (~~~63)) (λ_ _ _ _ _=>(cK 7 nd)) (~~~71) (λ_ _ _ _ _=>(a9 Cr (~~~61) rfl (ae (pv 7) (ae (pv 5) (ae (pv 6) (~~~241)))))))
   (ao (b9 4 nd (cD (o9 K) (pv 5) (pv 6) (~~~74)))
   (aD (b9 5 nd (a9 me (~~~61) rfl (ae (pv 3) aj)))))))))
   (aD (bw (iN rfl nd (v9 K (jH (QM K) (pv 3) (fh aF) (fh (b_ j6 (pv 2) aF)))) (cH (N:=["costs","conditions","count","table","divisor","broken","column","row"]) (sc:=ay (top 42)) (own:=[("row",7)]) (~~~63)) (λ_ _ _ _ _=>(cK 7 nd)) (~~~71) (λ_ _ _ _ _=>(a9 jG (~~~61) rfl (ae (cD (o9 K) (pv 7) aF (~~~74)) (~~~241)))))))))))),?_⟩
 have bits:∀k,(∀r:List Int,r∈(~~~198).tab ->∀x,x∈r->Bd B0 x):=λk r hr x hx=>Bd.le (show Bd 1000000 x from C5 lc hX ((Du.uB A1 k).bt r hr x hx)) (~~~73);obtain⟨ca,rfl,cs⟩:=dH hc;exists gC cs ?_;rw[ag];exists ⟨_,u,c,t,rfl,hc,ht,by omega,by omega,λH1 tv s1 h1=>?_⟩;exists 0;have A0:=Du.uB A1 0;refine⟨tv,_,rfl,h1,?_,?_,λH2 bv s2 h2=>?_⟩
 .have:=A0.len;show 1<=(Du.ee c t).length;have e:(Du.cF c t 0).tab =Du.ee c t:=rfl;rw[<-e,this];omega
 .intro r hr;have:=A0.row r hr;omega
 exists ⟨λm σ H'=>∃k tv bv r1 r2,m+k=Du.k_ c t/\bE H H'/\σ=[some (.ref ca),some u,some (.int (c.length:Nat)),some tv,some (.int (~~~198).d),some bv,r1,r2]/\fo eA H' tv (~~~198).tab /\Bq eA H' bv (Du.gL (~~~198).tab),
  ⟨_,0,tv,bv,none,none,rfl,s1.trans s2,rfl,(cS (cS df)).up h1 s2,h2⟩,?_⟩
 rintro m σ H3 ⟨k,tv,bv,r1,r2,mk,s3,rfl,h3,h4⟩;have AK:=Du.uB A1 k;have BK:=bits k;exists 106;cases eb:Du.gL (~~~198).tab with
 |none=>
  rw[eb] at h4;have h4:bv=.jL :=h4;subst h4;rw[rO];exists 85;obtain⟨ta,Qp,rfl,ts,tp⟩:=h3;have MT:=aZ tp;exists 136;exists 105;refine vt ts λH4 p4 s4 n4 h5=>?_;have e1:oF Qp (some 1) (some ((c.length:Int)+1))=(Qp.drop 1).take c.length:=by
   have:=oZ Qp 1 (~~~283) (by rw[MT,AK.len];omega) (~~~62);rw[oQ] at this;exact this
  rw[e1] at h5;have Xz:=lQ c.length (j7 1 (aU (cS df) tp s4));refine⟨p4,rfl,⟨_,dz.of h5⟩,λD hD=>fj (dS (cS df) (dz.of h5) Xz) (S:=Fr K) (f:=λr=>mkRat (r.getD 0 0) (~~~198).d.toNat) bU hD (by rw[cu];omega) (λi z x H' hz s' r Q' kk=>?_) (~~~302)⟩
  .have zm:z∈(~~~198).tab :=fy (dc (aw hz));have zl:=AK.row z zm;obtain⟨za,rfl,zs⟩:=dH r;exists 2;exists gY zs (~~~151) ?_;exists 0;have dp:=AK.pos;refine⟨z.getD 0 0,(~~~198).d.toNat,?_,by omega,λH6 y s6 hy=>kk y H6 s6 (gJ hy)⟩;have:(((~~~198).d.toNat :Nat):Int)=(~~~198).d :=by omega
   rw[this];rfl
  .refine q H5 _ (~~~227) ?_ ?_
   .rw[Du.ES A1 (~~~62) eb];exact⟨(λz=>nomatch z),D,ys,rfl,U',pr⟩
   .rw[Du.ES A1 (~~~62) eb];intro x hx;cases hx;refine⟨by rw[ag,cu,dg,AK.len];omega,λa ha=>?_⟩;obtain⟨r,hr,rfl⟩:=aS.mp ha;have rm:r∈(~~~198).tab :=fy (dc hr);have rl:=AK.row r rm;have dp:=AK.pos;exact fbk (C5 lc hX (AK.bt r rm _ (by rw[Mi.getD_in 0 (~~~62)];exact bM _))) (by have:=C5 lc hX AK.bd;omega) (~~~62)
 |some br=>
  rw[eb] at h4;obtain⟨nn,h4⟩:=h4;obtain⟨ba,rfl,bs⟩:=dH h4;rw[ny];have bm:=Du.Lg eb;have bl:=AK.row br bm;obtain⟨ta,Qp,rfl,ts,tp⟩:=h3;have MT:=aZ tp;refine kG ⟨fun σ' H'=>∃k' tv bv r1 r2,k'=k+1/\k<Du.k_ c t/\bE H H'/\σ'=[some (.ref ca),some u,some (.int (c.length:Nat)),some tv,some (.int (Du.cF c t k').d),some bv,r1,r2]/\fo eA H' tv (Du.cF c t k').tab /\Bq eA H' bv (Du.gL (Du.cF c t k').tab),
   fun σ' H' ⟨k',tv,bv,r1,r2,e1,e2,e3,e4,e5,e6⟩=>⟨m-1,by omega,k',tv,bv,r1,r2,by omega,e3,e4,e5,e6⟩,?_⟩
  exists 105;refine vt ts λH4 p4 s4 n4 h5=>?_;have e1:oF Qp none (some ((c.length:Int)+1))=Qp.take (~~~283):=EB Qp (~~~283);rw[e1] at h5;exists 0;have Xz:=lQ (~~~283) (aU (cS df) tp s4);refine⟨.ref p4,.ref ba,(~~~198).tab.take (~~~283),br,c.length,rfl,⟨p4,_,rfl,h5,Xz⟩,fZ (s4 _ _ bs),λr hr=>AK.row r (dc hr),bl,by omega,λr hr=>BK r (dc hr),BK br bm,λH5 cv s5 Uw=>?_⟩;exists 106;have bk:=Du.xc ((~~~198).tab.take (~~~283)) br c.length;cases ec:Du.kJ ((~~~198).tab.take (~~~283)) br c.length with
  |none=>
   rw[ec] at Uw;have Uw:cv=.jL :=Uw;subst Uw;rw[rO];exists 103;exists q H5 _ (~~~227) ?_ ?_
   .rw[Du.ET bl (~~~62) eb ec];rfl
   .rw[Du.ET bl (~~~62) eb ec];intro x hx;cases hx
  |some col=>
   rw[ec] at Uw bk;obtain⟨_,Uw⟩:=Uw;have Uw:cv=.int (col:Int):=Uw;subst Uw;obtain⟨c1,c2,cp,_⟩:=bk;obtain⟨nx,ns⟩:=Du.L0 bl eb ec;have kl:=Du.Ii A1 (~~~62) nx;rw[zw];exists 85;exists 0;have Bk:=s4.trans s5;refine⟨ta,rfl,⟨_,dz.of (Bk _ _ ts)⟩,λD hD=>fj (dS (cS df) (dz.of (Bk _ _ ts)) (aU (cS df) tp Bk)) (S:=eA) (f:=Du.turned br col (~~~198).d) (cS df) hD (by rw[AK.len];omega) (λi z x H' hz s' r Q' kk=>?_) (λH6 ys s6 hD6 pr=>?_)⟩
   .have zm:z∈(~~~198).tab :=aw hz;have zl:=AK.row z zm;exists 2;exists ⟨x,.ref ba,z,br,col,_,rfl,r,fZ ((Bk.trans s') _ _ bs),by omega,by omega,by omega,by have:=AK.pos;omega,BK z zm,BK br bm,λH7 p7 s7 n7 h7=>kk _ H7 s7 (wd n7 h7)⟩
   .exists gY ((Bk.trans s6) _ _ bs) (fF (~~~62)) ?_;exists 0;have hT:fo eA H6 (.ref D) (Du.cF c t (k+1)).tab :=by
     rw[ns];exact⟨D,ys,rfl,hD6,pr⟩
    have AK1:=Du.uB A1 (k+1);refine⟨.ref D,_,rfl,hT,by rw[AK1.len];omega,λr hr=>by have:=AK1.row r hr;omega,λH7 b7 s7 hb7=>?_⟩;exists ⟨k+1,.ref D,b7,_,_,rfl,kl,s3.trans (Bk.trans (s6.trans s7)),by rw[show(Du.cF c t (k+1)).d =br.getD col 0 by rw[ns]];rfl,(cS (cS df)).up hT s7,hb7⟩
end
theorem l_ (a:Int) (d:Nat):(a/ (d:Int)).natAbs <=a.natAbs:=by
 rw[<-Fm.qL];exact natAbs_fdiv_le a d
theorem yx {a b:Nat} {x y:Rat} (hx:FB a x) (hy:FB b y):FB (a+b+1) (x+y):=by
 obtain⟨x1,x2⟩:=hx;obtain⟨y1,y2⟩:=hy;have pa:=iw a;have pb:=iw b;have e:(2:Nat)^(a+b+1)=2^a*2^b+2^a*2^b:=by rw[rE,fS];omega
 constructor
 .rw[Fm.JN];refine bf (l_ _ _) (bf (wJ _ _) ?_);rw[jZ,jZ,jj,jj,e];have h1:x.num.natAbs*(y.den/bR x.den y.den)<2^a*2^b:=eF x1 (gP (bf (dC _ _) y2)) pb;have h2:y.num.natAbs*(x.den/bR x.den y.den)<2^b*2^a:=eF y1 (gP (bf (dC _ _) x2)) pa;rw[lX (2^b)] at h2;omega
 .rw[Fm.JM,e];have h1:(x.den/bR x.den y.den)*(y.den/ (bR (x.num*((y.den/bR x.den y.den:Nat):Int)+y.num*((x.den/bR x.den y.den:Nat):Int)).natAbs (~~~318)))<2^a*2^b:=
   eF (bf (dC _ _) x2) (gP (bf (dC _ _) y2)) pb
  omega
theorem nT {a b:Nat} {x y:Rat} (hx:FB a x) (hy:FB b y):FB (a+b) (x*y):=by
 obtain⟨x1,x2⟩:=hx;obtain⟨y1,y2⟩:=hy;have pb:=iw b;constructor
 .rw[Fm.Gq,jZ,fS];exact eF (bf (l_ _ _) x1) (gP (bf (l_ _ _) y1)) pb
 .rw[Fm.Gp,fS];exact eF (bf (dC _ _) x2) (gP (bf (dC _ _) y2)) pb
theorem X6 {a:Nat} {x:Rat} (hx:FB a x):FB a (-x):=by
 refine⟨?_,hx.2⟩;show(-x).num.natAbs <_;rw[Rat.neg_num,Bc];exact hx.1
theorem F1 {a b:Nat} {x y:Rat} (hx:FB a x) (hy:FB b y):FB (a+b+1) (x-y):=by
 rw[oU];exact yx hx (X6 hy)
theorem mM {a n:Nat} (h:n<2^a) (ha:1<=a):FB a (n:Rat):=by
 refine⟨by rw[jC];exact h,?_⟩;rw[kQ];exact aT (~~~73) (bW (n:=2) (~~~73) ha)
theorem xm:FB 1 (0:Rat):=⟨by decide,by decide⟩
theorem E_ {l:List Rat} {i:Nat} {x:Rat} (h:l[i]?=some x):Mi.nM (~~~264)=Mi.nM (~~~276)+x:=by
 unfold Mi.nM;rw[eE,h,dZ];rfl
theorem F2 {b:Nat} {l:List Rat} (h:∀x,x∈l->FB b x):∀i,i<=l.length->FB (i*(b+1)+1) (Mi.nM (~~~276))
 |0,_=>by rw[fI,Nat.zero_mul];exact xm
 |i+1,hi=>by
  have e:l[i]?=some (l[i]'(~~~62)):=ah (~~~62);rw[E_ e];have:=yx (F2 h i (~~~62)) (h _ (bM (by omega:i<l.length)));refine this.le ?_;rw[nj,tN];omega
theorem Lx {b:Nat} {l:List Rat} (h:∀x,x∈l->FB b x):FB (l.length*(b+1)+1) (Mi.nM l):=by
 have:=F2 h l.length (aM _);rw[d8] at this;exact this
theorem aaT {a:Nat} {z:Int} {d:Nat} (hz:z.natAbs<2^a) (hd:d<2^a) (h0:d≠0):FB a (mkRat z d):=by
 constructor
 .rw[<-eJ h0,ke h0];exact bf (l_ _ _) hz
 .rw[<-eJ h0,ke h0];exact bf (dC _ _) hd
def Fz (K:af) (a:Addr) (kz:List (Int×V)):Prop:=(a==sysModules)=false/\∃(o:Obj) (es:Array DictEntry) (ep:Nat),K.lookup a=some o/\o.ExactDict/\o.data=.dict es ep/\
 Paired (~~~80) kz es.toList/\(kz.map (·.1)).Nodup
def BM (kz:List (Int×V)) (i:Int):Option V:=(kz.find? λkv=>decide (kv.1=i)).map (·.2)
theorem Rl {P:Program} {w:World} {K:af} {h:Heap} {a:Addr} {kz:List (Int×V)} (D:Fz K a kz) (hk:∀o,K.lookup a=some o->h.get? a=some o):
  ∃f,h.MapOf (intKind P w) a f/\∀i,yh (BM kz i) (f i):=by
 obtain⟨_,o,es,ep,hl,hx,hd,p,nd⟩:=D;refine⟨λi=>findBy (intKind P w).is es i,⟨o,es,ep,hk o hl,hx,hd,?_,λ_=>rfl⟩,λi=>?_⟩
 .intro e he;have:∀{l:List (Int×V)} {m:List DictEntry},Paired (~~~80) l m->∀e,e∈m->∃k t,e.key=.int k t/\e.hash=hashInt k:=by
   intro l m q
   induction q with
   |nil=>intro e he;exact nomatch he
   | @cons a b as bs WU t ih=>
    intro e he;rcases aB.mp he with z|z
    .subst z;obtain⟨⟨t,h1⟩,h2,_⟩:=WU;exact⟨_,t,h1,h2⟩
    .exact ih e z
  obtain⟨k,t,h1,h2⟩:=this p e (by simpa using he);refine⟨k,?_,h2⟩;rw[h1];show Value.isInt k (.int k t)=true;simp[Value.isInt]
 .have:∀{l:List (Int×V)} {m:List DictEntry},Paired (~~~80) l m->
    yh (BM l i) ((m.find? λe=>(intKind P w).is i e.key).map (·.val)):=by
   intro l m q
   induction q with
   |nil=>exact True.intro
   | @cons a b as bs WU t ih=>
    obtain⟨⟨t,h1⟩,_,h3⟩:=WU;have e:(intKind P w).is i b.key=decide (a.1=i):=by
     rw[h1];show Value.isInt i (.int a.1 t)=_;by_cases z:a.1=i
     .rw[z];simp[Value.isInt]
     .rw[decide_eq_false z];simp[Value.isInt,z]
    unfold BM at ih⊢;rw[kN,kN,e];by_cases z:a.1=i
    .rw[decide_eq_true z];exact h3
    .rw[decide_eq_false z];exact ih
  have r:=this p;have e2:findBy (intKind P w).is es i=(es.toList.find? λe=>(intKind P w).is i e.key).map (·.val):=by
   obtain⟨l⟩:=es;simp[findBy]
  show yh _ (findBy (intKind P w).is es i);rw[e2];exact r
def tDk (K:af) (td ty:TE):TE:=fun σ H Q=>td σ H λx H1=>ty σ H1 λy H2=>∃a kz i v,x=.ref a/\y=.int i/\Fz K a kz/\BM kz i=some v/\Q v H2
def TX (K:af) (td ty tx:TE):TE:=fun σ H Q=>td σ H λx H1=>∃a kz,x=.ref a/\Fz K a kz/\ty σ H1 λy H2=>tx σ H2 λz H3=>∃i,y=.int i/\Q ((BM kz i).getD z) H3
section
variable {X:Cx} {o i e f:Expr} {pos apos tX:Pos} {td ty tx:TE}
theorem X3 {P:Program} {w:World} {K:af} {h:Heap} {a:Addr} {kz:List (Int×V)} (D:Fz K a kz) (hk:∀o,K.lookup a=some o->h.get? a=some o):∃o,h.get? a=some o/\o.ExactDict:=by
 obtain⟨_,o,es,ep,hl,hx,_⟩:=D;exact⟨o,hk o hl,hx⟩
theorem Xf (K:af) (ho:PE X o td) (hi:PE X i ty) (hs:aaA i) (hK:X.K=K:=by rfl):PE X (.Subscript o i pos) (tDk K td ty):=by
 subst hK;exists 10;refine Wc PySem.F.slot_dict_getitem.lookup hs (jx (~~~307) λu s1 ⟨x,H1,I1,rx,q1⟩=>jx (hi pins s1 σ H1 _ I1 q1) λiv s2 ⟨y,H2,I2,ry,a,kz,n,v,ex,ey,D,l,q2⟩=>?_);subst ex ey;obtain rfl:u=Value.ref a:=rx;obtain⟨t,rfl⟩:=ry;obtain⟨g,hm,rel⟩:=Rl (P:=X.prog) (w:=X.w) D (λo hl=>I2.KC a o hl);have r:=rel n;rw[l] at r;obtain⟨w',hw,HW⟩:=yh.some_of (v:=v) (o:=g n) r;exact⟨hm.typeIs,wpAny_getItem_of (k:=n) (by show Value.isInt n (.int n t)=true;simp[Value.isInt]) hm hw ⟨v,H2,I2.tok _,HW,q2⟩⟩
theorem JI (K:af) (ho:PE X o td) (he:PE X e ty) (hf:PE X f tx) (m:M2 X o "get" apos e f tX) (hK:X.K=K:=by rfl):PE X (.Call (.Attribute o "get" apos) [e,f] [] tX) (TX K td ty tx):=by
 subst hK;exists 10;refine wpAny_Call_method m.base m.few m.line PySem.F.plainAttrs_dict s_ PySem.F.type_dict_get (jx (~~~307) λu s1 ⟨x,H1,I1,rx,a,kz,ex,D,q1⟩=>?_);subst ex;obtain rfl:u=Value.ref a:=rx;obtain⟨ob,hob,hx⟩:=X3 (P:=X.prog) (w:=X.w) D (λo hl=>I1.KC a o hl);refine⟨⟨ob,hob,hx.1⟩,λb q=>by cases q;exact⟨ob,hob,hx.2.1⟩,?_⟩;rw[m.trees];refine Calls.callWith_builtin rfl (Calls.evalArgs_plain (Calls.spliced_cons (jx (he pins s1 σ H1 _ I1 q1) λiv s2 ⟨y,H2,I2,ry,q2⟩=>Calls.spliced_cons (jx (hf pins s2 σ H2 _ I2 q2) λfv s3 ⟨z,H3,I3,rz,n,ey,q3⟩=>Calls.spliced_nil ?_))));subst ey;obtain⟨t,rfl⟩:=ry;obtain⟨g,hm,rel⟩:=Rl (P:=X.prog) (w:=X.w) D (λo hl=>I3.KC a o hl);refine call_meetsIn s_ hm.typeIs PySem.F.entry_dict_get (PySem.F.args_dict_get_3 _ _ _) (meets_dict_get_default (intKind X.prog X.w) a (k:=n) (by show Value.isInt n (.int n t)=true;simp[Value.isInt]) D.1 fv) ⟨_,hm,?_⟩;exact⟨_,H3,I3.tok _,(rel n).getD rz,q3⟩
end
def Dg {α:Type}:List α->List α
 |a::_::r=>a::Dg r
 | [a]=>[a]
 | []=>[]
theorem II {α:Type}:∀(L:List α),(ax ((L.length+1)/2)).filterMap (λk=>L[2*k]?)=Dg L
 | []=>by simp[Dg]
 | [a]=>by simp[Dg,iu]
 |a::b::r=>by
  have e:((a::b::r).length +1)/2=(r.length+1)/2+1:=by simp only[aL];omega
  rw[e,jl,kD];show a::_=a::Dg r;congr 1;rw[vy,<-II r];congr 1
theorem xj {α:Type}:∀(L:List α),(Dg L).length <=L.length
 | []=>aM _
 | [a]=>aM _
 |a::b::r=>by
  have:=xj r;show(Dg r).length +1<=r.length+1+1;omega
theorem IJ:∀{xs:List V} {its:List Value},Vals xs its->Vals (Dg xs) (Dg its)
 |_,_,.nil =>.nil
 |_,_,.cons r .nil =>.cons r .nil
 |_,_,.cons r (.cons _ t)=>.cons r (IJ t)
theorem xk {α β:Type} (f:α->β):∀(l:List α),Dg (l.map f)=(Dg l).map f
 | []=>rfl
 | [a]=>rfl
 |a::b::r=>by show f a::Dg (r.map f)=f a::(Dg r).map f;rw[xk f r]
theorem Mv (its:List Value) (n:Nat):slicePick its.toArray (some (n:Int)) none (some 2)=(Dg (its.drop n)).toArray :=by
 unfold slicePick;congr 1;have h1:(~~~160).1=((min n its.length:Nat):Int):=by
  simp[sliceBounds];omega
 have h2:(~~~160).2.1=((its.length:Nat):Int):=by
  simp[sliceBounds]
 have h3:(~~~160).2.2=2:=by
  simp[sliceBounds]
 rw[h1,h2,h3,<-II];unfold sliceRange;have c:(if(2:Int)>0 then(if((min n its.length:Nat):Int)< ((its.length:Nat):Int) then(((its.length:Nat):Int)- ((min n its.length:Nat):Int)+2-1)/2 else 0)
           else(if((min n its.length:Nat):Int)>((its.length:Nat):Int) then(((min n its.length:Nat):Int)- ((its.length:Nat):Int)-2-1)/ (-2) else 0)).toNat =((its.drop n).length +1)/2:=by
  rw[if_pos (~~~73),dg];split<;>omega
 simp only[c,vy];have e:its.drop n=its.drop (min n its.length):=by
  by_cases h:n<=its.length
  .rw[sI h]
  .rw[Nat.min_eq_right (~~~62),rA (~~~62),rA (aM _)]
 congr 1;funext k;rw[e];show its.toArray[(((min n its.length:Nat):Int)+2*(k:Int)).toNat]?=_;rw[vA,List.getElem?_toArray];congr 1
def acx (K:af) (te:TE) (tl:TO) (ts:TE):TE:=fun σ H Q=>te σ H λx H1=>tl σ H1 λl H2=>ts σ H2 λz H3=>∃a xs n,x=.ref a/\l=some ((n:Nat):Int)/\z=.int 2/\dz K H3 a xs/\∀p,H3 p=none->Q (.ref p) (upd H3 p (.lst (Dg (xs.drop n))))
section
variable {X:Cx} {e st:Expr} {lo:Option Expr} {te ts:TE} {tl:TO} {p2 pos:Pos}
theorem qX (K:af) (he:PE X e te) (hl:PO X lo tl) (hs:PE X st ts) (hK:X.K=K:=by rfl):PE X (.Subscript e (.Slice lo none (some st) p2) pos) (acx K te tl ts):=by
 subst hK;exists 10;refine Subscript_ (~~~162);refine wpAny_Slice (jx (hl pins s1 σ H1 _ I1 q1) λvl s2 ⟨l,H2,I2,pl,q2⟩=>?_);rw[evalPart_none];refine wpAny_pure ?_;rw[evalPart_some];refine jx (hs pins s2 σ H2 _ I2 q2) λvs s3 ⟨z,H3,I3,rz,a,xs,n,ex,el,ez,hx,q⟩=>?_;subst ex el ez;cases r1;obtain⟨tk,rfl⟩:=rz;have I4:Inv X pins σ H3 {s3 with heap:=s3.heap.push {cls:=.type "slice",data:=.fields #[vl,.none,.int 2 tk]}}:=I3.kept (t':=s3.toks) λb ob q=>aq _ q;obtain⟨its,r,ht,hz⟩:=I4.list hx;have hlen:=r.length;show wpAny (~~~65) X.A (subscriptTail e (.Slice lo none (some st) p2) (.ref a) (.ref s3.heap.objs.size)) (~~~178) X.xe {s3 with heap:=s3.heap.push {cls:=.type "slice",data:=.fields #[vl,.none,.int 2 tk]}};refine tail_any (ops:=[.ref a,.ref s3.heap.objs.size]) ht.isList.typeIs slot_list_getitem.lookup ?_ (by with_unfolding_all rfl);refine wpAny_getItem_list_slice (st:=some 2) ht.isList (A_.new ..) pl .none (.int _ _) (~~~88) ?_ (by rw[a_]<;>omega);rw[Mv];refine⟨.ref _,_,I4.laid (t':=s3.toks) (o:=.lst (Dg (xs.drop n))) (λb ob q=>aq _ q) (aM _) ?_,rfl,q _ (I4.iA.fresh (aM _))⟩;exact⟨bA (xj _) (by rw[dg];omega),_,0,IJ (r.drop n),aY _ rfl⟩
end
end Pb
namespace Zs
open PySem PySem.Spec PyProof.Rows L2
open Sem (wp)
abbrev HN (c:Int) (t:Tok):List (~~~298):=[("start",.int c t)]
theorem Wg (a:Value) (c:Int) (t:Tok):checkTypeCall "enumerate" ⟨[a],HN c t⟩=pure () :=by kernel_rfl
theorem Vs (a:Value) (c:Int) (t:Tok):checkBuiltinCall "enumerate.__new__" ⟨[.type "enumerate",a],HN c t⟩=pure () :=by kernel_rfl
theorem UW (a b:Value) (c:Int) (t:Tok):argsOk "object.__init__" ⟨[a,b],HN c t⟩:=by
 unfold argsOk;rw[signature?_of (id:="object.__init__") (n:=['_','_','t','i','n','i','_','_']) (o:=['t','c','e','j','b','o']) (by kernel_rfl) F.owner_object];kernel_rfl
theorem OQ (tp:Bool) (l:Addr) (v:Array Value) (t:Tok):
  Meets (Builtin.«enumerate.__new__» ⟨[.type "enumerate",.ref l],HN 1 t⟩) (λ_ R s=>SS tp s.heap l v/\R (.ok (.ret (.ref (~~~131).objs.size)))
    {s with heap:=(~~~131).push {cls:=.type "enumerate",data:=.fields #[.none,.bool false,.ref s.heap.objs.size,rawInt 1,.none,.none]}}):=
 .of_wp λprog w A R s h=>by
  exists 45;have hL:SS tp (~~~204) l v:=hl
  wp_walk;refine wpAny_stack_any λst=>wpAny_pure ?_
  split
  .rename_i c _ _ _ _ _;cases(c==Value.type "enumerate")
   .wp_walk using ud hL;exact⟨_,rfl,h⟩
   .wp_walk using ud hL;exact⟨_,rfl,h⟩
  .wp_walk using ud hL;exact⟨_,rfl,h⟩
section
variable {prog:Program} {w:World} {A:Around} {E:Value->Shared->Prop} {s:Shared}
theorem Pk {T newId:String} {self:Value} {rest:List Value} {kw:List (~~~298)} (hl:typeLookup (.type T) "__init__"=pure (some (.builtin "object.__init__"))) (hm:Bind.madeBy (.type T)=pure (some newId)) (jE:(some newId !=some "object.__new__")=true) (a:Value):
  Meets (Builtin.«object.__init__» ⟨self::a::rest,kw⟩) (λ_ R s=>s.TypeIs self T/\R (.ok (.ret .none)) s):=Meets.of_wp λprog w A R s hs=>by
 obtain⟨hT,hq⟩:=hs
 repeat (any_goals (first|assumption|wp_step))
 exact⟨_,rfl,hq⟩
theorem OC {T newId:String} {Bn:Builtin} {a:Value} {kw:List (~~~298)} {S:PySem.Spec} {Q:Value->Shared->Prop} (ft:TypeCalled T newId "object.__init__") (jE:(some newId !=some "object.__new__")=true) (hct:checkTypeCall T ⟨[a],kw⟩=pure ())
  (O0:checkBuiltinCall newId ⟨[.type T,a],kw⟩=pure ()) (iA:∀obj,argsOk "object.__init__" ⟨[obj,a],kw⟩) (X5:entryFor table newId=some Bn) (g:Meets (Bn ⟨[.type T,a],kw⟩) S)
  (h:S A.in1 (wants (λobj fG=>fG.TypeIs obj T/\Q obj fG) E) s):wpAny (~~~70) A (call (.type T) [a] kw) Q E s:=by
 obtain⟨c,tl,aim⟩:=ft.mro;have af4:=ft.made;have Vi:=ft.sub;have h1:=ft.notType;have h2:=ft.canCreate;refine wpAny_call (codeAny_of_tree ?_);show wpAny _ _ (callAny (.type T) _) _ _ _;refine wpAny_pure ⟨Code.quiet_builtin _ (~~~63),codeAny_builtin F.entry_type_call ?_⟩;rw[Around.under_plain (weight_type_call_type T [a] kw) (units_type_call_type T [a] kw)]
 repeat (any_goals (first|assumption|wp_step))
 refine codeAny_mono (codeAny_call_builtin ft.plain X5 (wpAny_of_eq O0 (g prog w A.in1 _ s h))) λr fG hr=>?_;cases r with
 |error e=>exact hr
 |ok fl=>
  cases fl with
  |ret obj=>
   have hr:fG.TypeIs obj T/\Q obj fG:=hr;have hT:=hr.1;have hli:=ft.init.lookup;have hbi:=ft.init.bind obj
   repeat (any_goals (first|assumption|wp_step))
   refine codeAny_mono (codeAny_call_builtin ft.init.plain F.entry_object_init (ft.init.check _ _ _ _ _ _ _ _ hT (iA obj) (Pk ft.init.lookup ft.made jE a prog w A.in1 (wants (λr pG=>r=.none /\Q obj pG) E) fG ⟨hT,rfl,hr.2⟩))) λafg pG RL=>?_;cases afg with
   |error e=>exact RL
   |ok aaU=>
    cases aaU with
    |ret r=>obtain⟨rfl,hq⟩:=RL;repeat (any_goals (first|assumption|wp_step))
    |_=>exact RL.elim
  |_=>exact hr.elim
theorem Ln {tp:Bool} {l:Addr} {v:Array Value} {t:Tok} {Q:Value->Shared->Prop} (hL:SS tp s.heap l v)
  (h:∀h',IsEnum h' (~~~72) s.heap.objs.size 1 .none ->SI tp h' s.heap.objs.size l 0->h'.objs.size=s.heap.objs.size+2->(∀b o,s.heap.get? b=some o->h'.get? b=some o)->Q (.ref (~~~72)) {s with heap:=h'}):
  wpAny (~~~70) A (call (.type "enumerate") [.ref l] (HN 1 t)) Q E s:=by
 refine OC F.called_enumerate (~~~73) (Wg _ 1 t) (Vs _ 1 t) (λobj=>UW obj _ 1 t) F.entry_enumerate_new (OQ tp l v t) ⟨hL,?_⟩;have hz:(~~~131).objs.size =s.heap.objs.size+1:=cg ..;show _/\_;rw[hz];have he:IsEnum ((~~~131).push {cls:=.type "enumerate",data:=.fields #[.none,.bool false,.ref s.heap.objs.size,rawInt 1,.none,.none]}) (~~~72) s.heap.objs.size 1 .none :=by
  have:=aY (~~~131) (o:={cls:=.type "enumerate",data:=.fields #[.none,.bool false,.ref s.heap.objs.size,rawInt 1,.none,.none]}) rfl;rw[hz] at this;exact this
 exact⟨⟨_,he,rfl⟩,h _ he ((Hj tp s.heap l).at λo q=>aq _ q) (by rw[cg,hz]) λb o x=>aq _ (aq _ x)⟩
end
section
variable {M:Model} {A:Around} {E:Value->Shared->Prop} {s:Shared} {env:Env}
theorem Rg {pos:Pos} {T:String} {e:Expr} {R6:List Keyword} {Q:Value->Shared->Prop}
  (h:wpAny M A (spliced (backTo pos (starEach [e] env))) (λvs fG=>wpAny M A (evalAll ((~~~156).map (·.2))) (λkz pG=>wpAny M A (call (.type T) vs (((~~~156).filterMap (·.1)).zip kz)) Q E pG) E fG) E s)
  (he:backTo pos (starEach [e] env)=[(false,eval e env)]:=by rfl) (rV:(~~~156).all (·.1.isSome)=true:=by rfl) (HB:(~~~156).any (·.1.isNone)=false:=by rfl):
  wpAny M A (callWith pos (.type T) [] (backTo pos (starEach [e] env)) (~~~156)) Q E s:=by
 unfold callWith;rw[he] at h⊢;refine wpAny_bind (wpAny_holding (wpAny_mono (evalArgs_kwB (Q:=λa fG=>wpAny M A (call (.type T) ([]++a.pos) a.kw) Q E fG) rV h) (λa fG Jd=>wpAny_bind (wpAny_standAt ?_)) λ_ _ x=>x));simp only[mZ,List.any_nil,HB,vg];refine wpAny_bind (~~~207);exact wpAny_bind (wpAny_mono Jd (λr pG hr=>wpAny_bind (wpAny_holding (wpAny_point (wpAny_pure hr)))) λ_ _ x=>x)
end
def RR (K:af) (ta:TA) (tc:TE):TI:=fun σ H R=>ta σ H λvs H1=>tc σ H1 λz H2=>∃tp a xs,vs=[.ref a]/\z=.int 1/\oq K tp H2 a xs/\R (K6 K tp a 1) H2
theorem JJ {X:Cx} (K:af) {e c:Expr} {ta:TA} {tc:TE} {p pos wy kpos:Pos} {elts:List Expr} {kk:Nat} (hm:X.mg "enumerate"=none) (ha:PA X [e] ta) (hc:PE X c tc) (hg:Gl X "enumerate":=by rfl) (hs:backTo pos (starEach [e] X.env)=[(false,eval e X.env)]:=by rfl)
  (hn:(~~~155).filterMap (·.1)=[("start":Str)]:=by rfl) (rV:(~~~155).all (·.1.isSome)=true:=by rfl) (HB:(~~~155).any (·.1.isNone)=false:=by rfl) (hK:X.K=K:=by rfl):
  PI X (~~~221) (.Call (.Name "enumerate" p) [e] [⟨some "start",c,kpos⟩] pos) (RR K ta tc):=by
 subst hK;exists 53;refine wpAny_Call_Name_kw (nU I hg hm boot_enumerate (Rg (~~~76) hs rV HB));refine jx ((NI (nm:=some "start") (kpos:=kpos) hc SR) pos pins s1 σ H1 (λzs H2=>match zs with| [z]=>∃tp a xs,vs=[.ref a]/\z=.int 1/\oq X.K tp H2 a xs/\R (K6 X.K tp a 1) H2|_=>False) I1 q1) λws s2 ⟨zs,H2,I2,rz,qz⟩=>?_;obtain⟨z,QN⟩:∃z,zs=[z]:=by
  cases zs with
  |nil=>exact qz.elim
  |cons z r=>
   cases r with
   |nil=>exact⟨z,rfl⟩
   |cons y r=>exact qz.elim
 subst QN;obtain⟨tp,a,xs,ex,ez,hq,q⟩:=qz;obtain⟨wz,rfl,Wy⟩:=rz.one;subst ex ez;obtain⟨t,rfl⟩:=Wy;cases r1 with
 |cons r rr=>
  cases rr;cases r;obtain⟨its,rv,p',hz⟩:=f6 I2 hq;rw[hn];refine Ln p' λh' he hit hsz hk=>wpAny_pyIter_enum he ?_;have I3:Inv X pins σ H2 {s2 with heap:=h'}:=I2.kept (t':=s2.toks) hk;refine⟨s2.heap.objs.size+1,[s2.heap.objs.size+1,s2.heap.objs.size],_,_,H2,rfl,I3,C6 tp a (s2.heap.objs.size+1) s2.heap.objs.size 1,⟨⟨.none,he⟩,hit,qD _⟩,λb hb=>?_,q⟩;have e':b=s2.heap.objs.size+1\/b=s2.heap.objs.size:=by simpa using hb
  have hle:s2.heap.objs.size<=b:=by
   rcases e' with z|z
   .rw[z];exact gh _ _
   .rw[z];exact aM _
  exact I2.BS hle (I2.iA.fresh hle)
end Zs
namespace Zs
open PySem PySem.Spec PyProof.Rows L2
open Sem (wp)
abbrev K5 (h:Heap) (z TI TO T:Addr) (b:Bool):Prop:=Ag h z TI TO (rawInt T) b
section
variable {prog:Program} {w:World} {A:Around} {E:Value->Shared->Prop} {s:Shared}
theorem alive {M:Model} {T:Addr} {o:Obj} {Q:Option Obj->Shared->Prop} (hT:s.heap.get? T=some o) (h:Q (some o) s):wpAny M A (loadIfAlive T) Q E s:=fun Γ p hΓ=>by
 show PySem.Sem.wp M Γ (.loadIfAlive T .pure) (λa _ s'=>Q a s') (λe _ s'=>E e s') p s;rw[Sem.wp_loadIfAlive,hT,Sem.wp_pure];exact h
theorem N5 {z TI TO T:Addr} {b:Bool} {o:Obj} {Q:Bool->Shared->Prop} (hz:K5 s.heap z TI TO T b) (hT:s.heap.get? T=some o) (hQ:∀h',K5 h' z TI TO T true->fe z s.heap h'->Q false {s with heap:=h'}):
  wpAny (~~~70) A (aW (.ref z)) Q E s:=by
 unfold aW;refine wpAny_bind (wpAny_field hz rfl (x:=rawInt T) rfl ?_);show wpAny _ _ (loadIfAlive ((T:Nat):Int).toNat >>=_) _ _ _;rw[eQ];refine wpAny_bind (alive hT ?_);show wpAny _ _ (field (.ref z) 1>>=_) _ _ _;refine wpAny_bind (wpAny_field hz rfl (x:=.bool b) rfl ?_);cases b
 .show wpAny _ _ (setField (.ref z) 1 (.bool true)>>=_) _ _ _;refine wpAny_bind (wpAny_setField_rec hz (~~~88) λh' z1 s1=>wpAny_pure (hQ h' z1 s1))
 .exact wpAny_pure (hQ s.heap hz (fe.refl _ _))
theorem Wm {p1 p2:Bool} {z TI TO T i1 i2 l1 l2:Addr} {c:Bool} {o:Obj} {k1 k2:Nat} {xs ys:Array Value} {x y:Value} {Q:Value->Shared->Prop} (D:ZipApart z TI TO i1 i2 l1 l2) (hz:K5 s.heap z TI TO T c) (hT:s.heap.get? T=some o) (rT:IsPair s.heap TI (.ref i1) (.ref i2))
  (h1:SI p1 s.heap i1 l1 k1) (h2:SI p2 s.heap i2 l2 k2) (vM:SS p1 s.heap l1 xs) (oI:SS p2 s.heap l2 ys) (hx:xs[k1]?=some x) (hy:ys[k2]?=some y)
  (hQ:∀h',K5 h' z TI TO T true->SI p1 h' i1 l1 (k1+1)->SI p2 h' i2 l2 (k2+1)->IsPair h' s.heap.objs.size x y->h'.objs.size=s.heap.objs.size+1->
   (∀c o,c≠z->c≠i1->c≠i2->s.heap.get? c=some o->h'.get? c=some o)->Q (~~~109) {s with heap:=h'}):
  wpAny (~~~70) A (~~~79) (λfin s'=>∃v,fin=.done (.ret v)/\Q v s') E s:=by
 exists 5;refine wpAny_bind (N5 hz hT λg1 z1 s1=>?_);simp only[hJ,if_false];exists 46;simp only[vz,kO,j0];refine wpAny_bind (~~~213);exists 77;refine wpAny_bind (~~~92);refine wpAny_pure ?_;refine wpAny_bind (~~~213);exists 76;refine wpAny_bind (rZ (~~~136) (~~~145) hy λg4 n2 s4=>wpAny_pure ?_);refine wpAny_pure (~~~207);have hsz:g4.objs.size=s.heap.objs.size:=by rw[s4.1,s2.1,s1.1]
 have z4:K5 g4 z TI TO T true:=s4.extBut _ _ D.i2z.symm (~~~305);have k4:∀c o,c≠z->c≠i1->c≠i2->s.heap.get? c=some o->g4.get? c=some o:=λc o c1 c3 c4 e=>s4.extBut _ _ c4 (s2.extBut _ _ c3 (s1.extBut _ _ c1 e));have m1:SI p1 g4 i1 l1 (k1+1):=n1.ext s4.extBut D.i12;refine wpAny_bind (wpAny_newTuple (wpAny_pure ⟨_,rfl,?_⟩) (by show 2<=sizeLine;decide));show Q (.ref g4.objs.size) _;rw[hsz];exact hQ _ (aq _ z4) (m1.at λo e=>aq _ e) (n2.at λo e=>aq _ e) (by rw[<-hsz];exact aY _ rfl) (by rw[cg,hsz]) λc o c1 c2 c3 e=>aq _ (k4 c o c1 c2 c3 e)
theorem ZW {p1 p2:Bool} {z TI TO T i1 i2 l1 l2:Addr} {c:Bool} {o:Obj} {k1 k2:Nat} {xs ys:Array Value} {Q:Fin->Shared->Prop} (hh:A.handled=none) (D:ZipApart z TI TO i1 i2 l1 l2) (hz:K5 s.heap z TI TO T c) (hT:s.heap.get? T=some o) (rT:IsPair s.heap TI (.ref i1) (.ref i2))
  (h1:SI p1 s.heap i1 l1 k1) (h2:SI p2 s.heap i2 l2 k2) (vM:SS p1 s.heap l1 xs) (oI:SS p2 s.heap l2 ys) (xu:xs[k1]?=none\/ys[k2]?=none)
  (hE:∀h' e,(∀c o,c≠z->c≠i1->c≠i2->s.heap.get? c=some o->h'.get? c=some o)->(∃o,h'.get? e=some o/\o.cls=.type "StopIteration")->E (.ref e) {s with heap:=h'}):
  wpAny (~~~70) A (~~~79) Q E s:=by
 exists 5;refine wpAny_bind (N5 hz hT λg1 z1 s1=>?_);simp only[hJ,if_false];exists 46;simp only[vz,kO,j0];refine wpAny_bind (~~~213);exists 77;cases hx:xs[k1]? with
 |none=>
  exact wpAny_bind (Ci hh (h1.ext s1.extBut D.i1z) (vM.ext s1.extBut D.l1z) hx λg2 e s2 he=>hE g2 e (λc o c1 c3 _ q=>s2 _ _ c3 (s1.extBut _ _ c1 q)) he)
 |some x=>
  have hy:ys[k2]?=none:=by rcases xu with h|h;rw[hx] at h;cases h;exact h
  refine wpAny_bind (~~~92);refine wpAny_pure ?_;refine wpAny_bind (~~~213);exists 76;exact wpAny_bind (Ci hh (~~~136) (~~~145) hy λg4 e s4 he=>hE g4 e (λc o c1 c3 c4 q=>s4 _ _ c4 (s2.extBut _ _ c3 (s1.extBut _ _ c1 q))) he)
theorem dead {M:Model} {T:Addr} {Q:Option Obj->Shared->Prop} (hT:s.heap.get? T=none) (h:Q none s):wpAny M A (loadIfAlive T) Q E s:=fun Γ p hΓ=>by
 show PySem.Sem.wp M Γ (.loadIfAlive T .pure) (λa _ s'=>Q a s') (λe _ s'=>E e s') p s;rw[Sem.wp_loadIfAlive,hT,Sem.wp_pure];exact h
theorem N6 {z TI TO T:Addr} {b:Bool} {Q:Bool->Shared->Prop} (hz:K5 s.heap z TI TO T b) (hT:s.heap.get? T=none) (hQ:Q true s):wpAny (~~~70) A (aW (.ref z)) Q E s:=by
 unfold aW;refine wpAny_bind (wpAny_field hz rfl (x:=rawInt T) rfl ?_);show wpAny _ _ (loadIfAlive ((T:Nat):Int).toNat >>=_) _ _ _;rw[eQ];exact wpAny_bind (dead hT (wpAny_pure hQ))
def FG (p1 p2:Bool) (z TI TO i1 i2 l1 l2:Addr) (i:Nat) (h:Heap):Prop:=(∃f0 b,Ag h z TI TO f0 b/\(f0=.none \/∃T:Addr,f0=rawInt T))/\IsPair h TI (.ref i1) (.ref i2)/\(∃x y,IsPair h TO x y)/\SI p1 h i1 l1 i/\SI p2 h i2 l2 i
theorem FG.keep {p1 p2:Bool} {z TI TO i1 i2 l1 l2:Addr} {i:Nat} {h h':Heap} (x:FG p1 p2 z TI TO i1 i2 l1 l2 i h) (k:∀b∈[z,TI,TO,i1,i2],∀o,h.get? b=some o->h'.get? b=some o):FG p1 p2 z TI TO i1 i2 l1 l2 i h':=by
 obtain⟨⟨f0,b,hz,hf⟩,rT,⟨a,c,vL⟩,h1,h2⟩:=x;exact⟨⟨f0,b,k _ (~~~88) _ hz,hf⟩,k _ (~~~88) _ rT,⟨a,c,k _ (~~~88) _ vL⟩,h1.at λo q=>k _ (~~~88) o q,h2.at λo q=>k _ (~~~88) o q⟩
theorem FG.live {p1 p2:Bool} {z TI TO i1 i2 l1 l2:Addr} {i:Nat} {h:Heap} (x:FG p1 p2 z TI TO i1 i2 l1 l2 i h):∀c∈[z,TI,TO,i1,i2],∃o,h.get? c=some o/\∀v,o.data≠ .cell v:=by
 intro c hc;obtain⟨⟨f0,b,hz,hf⟩,rT,⟨a,d,vL⟩,h1,h2⟩:=x;have e':c=z\/c=TI\/c=TO\/c=i1\/c=i2:=by simpa using hc
 rcases e' with q|q|q|q|q
 .rw[q];exact⟨_,hz,λv q=>nomatch q⟩
 .rw[q];exact⟨_,rT,λv q=>nomatch q⟩
 .rw[q];exact⟨_,vL,λv q=>nomatch q⟩
 .rw[q];exact h1.live
 .rw[q];exact h2.live
theorem N8 {p1 p2:Bool} {z TI TO i1 i2 l1 l2:Addr} {i:Nat} {xs ys:Array Value} {x y:Value} {Q:Value->Shared->Prop} (D:ZipApart z TI TO i1 i2 l1 l2) (st:FG p1 p2 z TI TO i1 i2 l1 l2 i s.heap)
  (vM:SS p1 s.heap l1 xs) (oI:SS p2 s.heap l2 ys) (hx:xs[i]?=some x) (hy:ys[i]?=some y)
  (hQ:∀h',FG p1 p2 z TI TO i1 i2 l1 l2 (i+1) h'->IsPair h' s.heap.objs.size x y->h'.objs.size=s.heap.objs.size+1->(∀c o,c∉[z,TI,TO,i1,i2]->s.heap.get? c=some o->h'.get? c=some o)->Q (~~~109) {s with heap:=h'}):
  wpAny (~~~70) A (~~~79) (λfin s'=>∃v,fin=.done (.ret v)/\Q v s') E s:=by
 obtain⟨⟨f0,b,hz,hf⟩,rT,⟨a,d,vL⟩,h1,h2⟩:=st;have free:(∀Q':Bool->Shared->Prop,Q' true s->wpAny (~~~70) A (aW (.ref z)) Q' E s)->wpAny (~~~70) A (~~~79) (λfin s'=>∃v,fin=.done (.ret v)/\Q v s') E s:=λQI=>
  N7 D hz QI rT vL h1 h2 vM oI hx hy λh' z' Oq Ur Fu hT hsz hk=>hQ h' ⟨⟨_,false,z',.inr ⟨_,rfl⟩⟩,hk _ _ D.TIz D.TITO D.TIi1 D.TIi2 rT,⟨_,_,Oq⟩,Ur,Fu⟩ hT hsz λc o hc q=>
   hk c o (~~~96) (~~~96) (~~~96) (~~~96) q
 rcases hf with e|⟨T,e⟩
 .subst e;exact free λ_ q=>Hv hz q
 .subst e;cases hT:s.heap.get? T with
  |none=>exact free λ_ q=>N6 hz hT q
  |some o=>
   exact Wm D hz hT rT h1 h2 vM oI hx hy λh' z' Ur Fu hP hsz hk=>hQ h' ⟨⟨_,true,z',.inr ⟨_,rfl⟩⟩,hk _ _ D.TIz D.TIi1 D.TIi2 rT,⟨_,_,hk _ _ D.TOz D.TOi1 D.TOi2 vL⟩,Ur,Fu⟩ hP hsz λc o hc q=>
    hk c o (~~~96) (~~~96) (~~~96) q
theorem Ug {p1 p2:Bool} {z TI TO i1 i2 l1 l2:Addr} {i:Nat} {xs ys:Array Value} {Q:Fin->Shared->Prop} (hh:A.handled=none) (D:ZipApart z TI TO i1 i2 l1 l2) (st:FG p1 p2 z TI TO i1 i2 l1 l2 i s.heap)
  (vM:SS p1 s.heap l1 xs) (oI:SS p2 s.heap l2 ys) (xu:xs[i]?=none\/ys[i]?=none)
  (hE:∀h' e,(∀c o,c∉[z,TI,TO,i1,i2]->s.heap.get? c=some o->h'.get? c=some o)->(∃o,h'.get? e=some o/\o.cls=.type "StopIteration")->E (.ref e) {s with heap:=h'}):
  wpAny (~~~70) A (~~~79) Q E s:=by
 obtain⟨⟨f0,b,hz,hf⟩,rT,⟨a,d,vL⟩,h1,h2⟩:=st;have free:(∀Q':Bool->Shared->Prop,Q' true s->wpAny (~~~70) A (aW (.ref z)) Q' E s)->wpAny (~~~70) A (~~~79) Q E s:=λQI=>
  Ud hh D hz QI rT vL h1 h2 vM oI xu λh' e hk he=>hE h' e (λc o hc q=>hk c o (~~~96) (~~~96) (~~~96) (~~~96) q) he
 rcases hf with e|⟨T,e⟩
 .subst e;exact free λ_ q=>Hv hz q
 .subst e;cases hT:s.heap.get? T with
  |none=>exact free λ_ q=>N6 hz hT q
  |some o=>
   exact ZW hh D hz hT rT h1 h2 vM oI xu λh' e hk he=>hE h' e (λc o hc q=>hk c o (~~~96) (~~~96) (~~~96) q) he
theorem Uc {p1 p2:Bool} {z TI TO i1 i2 l1 l2:Addr} {i:Nat} {xs ys:Array Value} {x y:Value} {Q:Value->Shared->Prop} (D:ZipApart z TI TO i1 i2 l1 l2) (st:FG p1 p2 z TI TO i1 i2 l1 l2 i s.heap)
  (vM:SS p1 s.heap l1 xs) (oI:SS p2 s.heap l2 ys) (hx:xs[i]?=some x) (hy:ys[i]?=some y)
  (hQ:∀h',FG p1 p2 z TI TO i1 i2 l1 l2 (i+1) h'->IsPair h' s.heap.objs.size x y->h'.objs.size=s.heap.objs.size+1->(∀c o,c∉[z,TI,TO,i1,i2]->s.heap.get? c=some o->h'.get? c=some o)->Q (~~~109) {s with heap:=h'}):
  wpAny (~~~70) A (bD (.ref z)) Q E s:=by
 exists 25;unfold bD;exact wpAny_bind (wpAny_callSpecial?_slot (name:=gq "__next__") hT F.slot_zip_next (wpAny_call_entry F.slot_zip_next hT F.entry_zip_next (N8 D st vM oI hx hy λh' a b c d=>wpAny_pure (hQ h' a b c d)) (~~~223)))
theorem Wq {p1 p2:Bool} {z TI TO i1 i2 l1 l2:Addr} {i:Nat} {xs ys:Array Value} {Q:Value->Shared->Prop} (hh:A.handled=none) (D:ZipApart z TI TO i1 i2 l1 l2) (st:FG p1 p2 z TI TO i1 i2 l1 l2 i s.heap)
  (vM:SS p1 s.heap l1 xs) (oI:SS p2 s.heap l2 ys) (xu:xs[i]?=none\/ys[i]?=none)
  (hE:∀h' e,(∀c o,c∉[z,TI,TO,i1,i2]->s.heap.get? c=some o->h'.get? c=some o)->(∃o,h'.get? e=some o/\o.cls=.type "StopIteration")->E (.ref e) {s with heap:=h'}):
  wpAny (~~~70) A (bD (.ref z)) Q E s:=by
 exists 25;unfold bD;exact wpAny_bind (wpAny_callSpecial?_slot (name:=gq "__next__") hT F.slot_zip_next (wpAny_call_entry F.slot_zip_next hT F.entry_zip_next (Ug hh D st vM oI xu hE) (~~~223)))
end
end Zs
namespace Zs
open PySem PySem.Spec PyProof.Rows L2
open Sem (wp)
def UP (K:af) (p1 p2:Bool) (a b:Addr):It:=
 ⟨λi H=>∃(xs ys:List V) (x y:V),oq K p1 H a xs/\oq K p2 H b ys/\xs[i]?=some x/\ys[i]?=some y,
  λi H v H'=>∃T T2 x y,v=.ref T/\H T2=none/\H T=none/\T≠T2/\H'=upd (upd H T2 (.tup [x,y])) T (.tup [.int (i:Nat),.ref T2])/\(∀xs,oq K p1 H a xs->xs[i]?=some x)/\∀ys,oq K p2 H b ys->ys[i]?=some y,
  λi H=>∃xs ys:List V,oq K p1 H a xs/\oq K p2 H b ys/\(xs.length<=i\/ys.length<=i)⟩
theorem ME {P:Program} {w:World} {K:af} {elts:List Expr} {kk:Nat} {wy:Pos} {p1 p2:Bool} {a b e z TI TO i1 i2:Addr} (D:ZipApart z TI TO i1 i2 a b) (Hy:e∉[z,TI,TO,i1,i2]) (ha':a∉[z,TI,TO,i1,i2]) (hb':b∉[z,TI,TO,i1,i2]):
  Turn P w K (~~~221) (UP K p1 p2 a b) [e,z,TI,TO,i1,i2] e (λi h=>(∃old,IsEnum h e z (i:Nat) old)/\FG p1 p2 z TI TO i1 i2 a b i h) where
 mem:=by simp
 obj:=λi h st c hc=>by
  obtain⟨⟨old,he⟩,hz⟩:=st;rcases aB.mp hc with q|q
  .rw[q];exact⟨_,he,λv q=>nomatch q⟩
  .exact hz.live c q
 keep:=λi h h' st k=>let⟨⟨old,he⟩,hz⟩:=st;⟨⟨old,k e (~~~88) _ he⟩,hz.keep λc hc=>k c (aA _ hc)⟩
 item:=by
  exists 1;obtain⟨⟨old,he⟩,MR⟩:=st;obtain⟨xs,ys,x,y,Kz,KA,hx,hy⟩:=hg;exists 36;exists 86;obtain⟨u2,Yu,HV⟩:=NU.get hy;have WW:e<s.heap.objs.size:=aX he;have hfl:∀c∈[z,TI,TO,i1,i2],c<s.heap.objs.size:=λc hc=>let⟨_,q,_⟩:=MR.live c hc;aX q;have DD:Inner X.prog X.w X.A.in1 z [z,TI,TO,i1,i2] (λj h=>j=i/\h.objs.size=s.heap.objs.size/\FG p1 p2 z TI TO i1 i2 a b i h/\SS p1 h a its.toArray/\SS p2 h b o8.toArray\/j=i+1/\FG p1 p2 z TI TO i1 i2 a b (i+1) h)
    (λ_ v h=>v=.ref s.heap.objs.size/\IsPair h s.heap.objs.size u u2/\h.objs.size=s.heap.objs.size+1) i:=⟨λs' Q' E' HG hk=>by
   rcases HG with⟨_,hs',h1,h2,h3⟩|⟨h1,_⟩
   .refine Uc D h1 h2 h3 (x:=u) (y:=u2) (~~~257) (by simpa using Yu) λh' z' hT hsz kk=>?_;rw[hs'] at hT hsz⊢;exact hk _ h' ⟨rfl,hT,hsz⟩ (.inr ⟨rfl,z'⟩) (by rw[hsz,hs'];exact Nat.le_succ _) λb o hb q=>kk b o hb q
   .omega⟩
  refine IH DD he (.inl ⟨rfl,rfl,MR,p,EX⟩) Hy λv h1 h' tk pv De ho hT hsz hle k1 k2=>?_;obtain⟨ev,hP2,RM⟩:=pv;subst ev;have Yq:FG p1 p2 z TI TO i1 i2 a b (i+1) h1:=by
   rcases De with⟨z,_⟩|⟨_,z⟩
   .omega
   .exact z
  have Vd:e<h1.objs.size:=aT WW hle;refine⟨_,rfl,wpAny_letOwnedTupleGo_enum (s:={s with heap:=h',toks:=tk+1}) ho λHE he2 sb=>?_⟩;have I0:Inv X pins σ (~~~112) {s with heap:=h1,toks:=s.toks}:=
   I.qZ (ch:=[z,TI,TO,i1,i2]) (λb ob hb q=>k1 b ob hb q) (λb hb=>hf b (aA _ hb)) (aM _)
    (show j4 X.prog X.w (~~~112) h1 s.heap.objs.size (.tup [x,y]) from⟨by show 2<=sizeLine;decide,[u,u2],.cons ru (.cons HV .nil),⟨_,hP2,rfl,_,rfl⟩⟩)
  have fr:∀c,c∈[e,z,TI,TO,i1,i2]->c<s.heap.objs.size:=λc hc=>by
   rcases aB.mp hc with q|q
   .rw[q];exact WW
   .exact hfl c q
  have hf0:∀c∈[e,z,TI,TO,i1,i2],wW X pins (~~~112) c:=λc hc=>by
   obtain⟨q1,q2⟩:=hf c hc;exact⟨by rw[c6 (cT (fr c hc))];exact q1,q2⟩
  have Ut:HE.get? h1.objs.size=some {cls:=.type "tuple",data:=.seq #[.int (i:Nat) tk,.ref s.heap.objs.size]}:=(sb.2 _ (c8 Vd)).trans hT;have new:j4 X.prog X.w (upd (~~~112) h1.objs.size (~~~211)) HE h1.objs.size (~~~211):=
   ⟨by show 2<=sizeLine;decide,[.int (i:Nat) tk,.ref s.heap.objs.size],.cons ⟨_,rfl⟩ (.cons rfl .nil),⟨_,Ut,rfl,_,rfl⟩⟩
  have I1:Inv X pins σ (upd (~~~112) h1.objs.size (~~~211)) {s with heap:=HE,toks:=tk+1}:=
   I0.qZ (ch:=[e,z,TI,TO,i1,i2]) (λb ob hb q=>(sb.2 b (~~~301)).trans (k2 b ob (~~~301) q)) hf0 (aM _) new
  have ne1:h1.objs.size≠s.heap.objs.size:=by rw[RM];exact qD _
  refine⟨.ref h1.objs.size,_,I1,rfl,⟨_,_,x,y,rfl,I.iA.fresh (aM _),I.iA.fresh hle,ne1,rfl,λl hl=>by rw[xw I hl Kz];exact hx,λl hl=>by rw[xw I hl KA];exact hy⟩,⟨⟨.ref s.heap.objs.size,?_⟩,?_⟩,λc hc=>?_⟩
  .have e1:((i+1:Nat):Int)=(i:Int)+1:=by omega
   rw[e1];exact he2
  .exact Yq.keep λc hc o q=>(sb.2 c (λq'=>Hy (q'▸hc))).trans (k2 c o (λq'=>Hy (q'▸hc)) q)
  .rw[c6 (cT (aT (fr c hc) hle)),c6 (cT (fr c hc))];exact(hf c hc).1
 done:=by
  exists 1;obtain⟨⟨old,he⟩,MR⟩:=st;obtain⟨xs,ys,Kz,KA,hx⟩:=hg;exists 36;exists 141;exact Nk he λQ' E' hE=>Wq (~~~300) D MR p EX (by simp;omega) λh' x eb hx=>hE h' x hx ⟨rfl,I.Hq (t':=s.toks) (ch:=[z,TI,TO,i1,i2]) (λb o hb q=>eb b o hb q) λb hb=>hf b (aA _ hb)⟩
 self:=λA i s Q E st h=>let⟨⟨_,he⟩,_⟩:=st;wpAny_pyIter_enum he h
theorem OR (z TI TO:Addr):
  Meets (Builtin.«enumerate.__new__» ⟨[.type "enumerate",.ref z],[]⟩) (λ_ R s=>IsZip s.heap z TI TO .none /\R (.ok (.ret (~~~109)))
    {s with heap:=s.heap.push {cls:=.type "enumerate",data:=.fields #[.none,.bool false,.ref z,rawInt 0,.none,.none]}}):=
 .of_wp λprog w A R s h=>by
  exists 45;have hL:IsZip (~~~204) z TI TO .none :=hl
  wp_walk;refine wpAny_stack_any λst=>wpAny_pure ?_
  split
  .rename_i c _ _ _ _ _;cases(c==Value.type "enumerate")
   .wp_walk using wpAny_pyIter_zip hL;exact⟨_,rfl,h⟩
   .wp_walk using wpAny_pyIter_zip hL;exact⟨_,rfl,h⟩
  .wp_walk using wpAny_pyIter_zip hL;exact⟨_,rfl,h⟩
def RV (K:af) (ta:TA):TI:=fun σ H R=>ta σ H λvs H1=>∃p1 p2 a b xs ys,vs=[.ref a,.ref b]/\oq K p1 H1 a xs/\oq K p2 H1 b ys/\R (UP K p1 p2 a b) H1
theorem SQ {X:Cx} (K:af) {e e2:Expr} {ta:TA} {p pos p' pos' wy:Pos} {elts:List Expr} {kk:Nat} (hm:X.mg "enumerate"=none) (Uk:X.mg "zip"=none) (ha:PA X [e,e2] ta) (hg:Gl X "enumerate":=by rfl) (Uj:Gl X "zip":=by rfl)
  (hs:starEach [e,e2] X.env=(false,eval e X.env)::starEach [e2] X.env:=by rfl) (BY:(backTo pos' (starEach [e2] X.env)).any (·.1)=false:=by rfl)
  (RM:starEach [.Call (~~~322) [e,e2] [] pos'] X.env=[(false,eval (.Call (~~~322) [e,e2] [] pos') X.env)]:=by rfl) (hK:X.K=K:=by rfl):
  PI X (~~~221) (.Call (.Name "enumerate" p) [.Call (~~~322) [e,e2] [] pos'] [] pos) (RV K ta):=by
 subst hK;exists 53;refine Call_ (nU I hg hm boot_enumerate (cW ?_ RM rfl));rw[RM];refine Calls.spliced_cons (Call_ (nU I Uj Uk yn (cW (jx (ha pos' pins s σ H _ I h) λus s1 ⟨vs,H1,I1,r1,q1⟩=>?_) hs BY)));obtain⟨p1,p2,a,b,xs,ys,ex,Kz,KA,q⟩:=q1;subst ex;cases r1 with
 |cons r rr=>
  cases rr with
  |cons r' rr=>
   cases rr;cases r;cases r';exists 16;refine BD Xd EX λh' hz rT vL h1 h2 hsz hk=>Calls.spliced_nil ?_;refine callType_new F.called_enumerate (~~~73) (F.typeCall_enumerate_1 _) (F.newCall_enumerate_1 _) (λobj=>F.args_object_init_2 obj _) F.entry_enumerate_new (OR _ _ _) ⟨hz,?_⟩;have he:IsEnum (h'.push {cls:=.type "enumerate",data:=.fields #[.none,.bool false,.ref (~~~144),rawInt 0,.none,.none]}) h'.objs.size (~~~144) 0 .none :=aY _ rfl;refine⟨⟨_,he,rfl⟩,wpAny_pyIter_enum he ?_⟩;have I2:Inv X pins σ H1 {s1 with heap:=h'.push {cls:=.type "enumerate",data:=.fields #[.none,.bool false,.ref (~~~144),rawInt 0,.none,.none]}}:=I1.kept (t':=s1.toks) λb o q=>aq _ (hk b o q);have up:∀c o,h'.get? c=some o->(h'.push {cls:=.type "enumerate",data:=.fields #[.none,.bool false,.ref (~~~144),rawInt 0,.none,.none]}).get? c=some o:=λc o q=>aq _ q;have mem:∀c,c∈[s1.heap.objs.size+4,s1.heap.objs.size+2,s1.heap.objs.size+3,s1.heap.objs.size,s1.heap.objs.size+1]->s1.heap.objs.size<=c/\c<s1.heap.objs.size+5:=λc hc=>by
    have e':c=s1.heap.objs.size+4\/c=s1.heap.objs.size+2\/c=s1.heap.objs.size+3\/c=s1.heap.objs.size\/c=s1.heap.objs.size+1:=by simpa using hc
    have:∀n:Nat,(c=n+4\/c=n+2\/c=n+3\/c=n\/c=n+1)->n<=c/\c<n+5:=λn h=>by omega
    exact this _ e'
   refine⟨h'.objs.size,[h'.objs.size,s1.heap.objs.size+4,s1.heap.objs.size+2,s1.heap.objs.size+3,s1.heap.objs.size,s1.heap.objs.size+1],_,_,H1,rfl,I2,
    ME (pP s1.heap.objs.size a b la lb) (λm=>absurd (mem _ m).2 (by rw[hsz];exact cM _)) (λm=>absurd (mem _ m).1 (x_ la)) (λm=>absurd (mem _ m).1 (x_ lb)),
    ⟨⟨.none,he⟩,⟨.none,false,up _ _ hz,.inl rfl⟩,up _ _ rT,⟨_,_,up _ _ vL⟩,h1.at λo q=>up _ o q,h2.at λo q=>up _ o q⟩,λc QH=>?_,q⟩
   have hle:s1.heap.objs.size<=c:=by
    rcases aB.mp QH with q|q
    .rw[q,hsz];exact gh _ _
    .exact(mem c q).1
   exact I1.BS hle (I1.iA.fresh hle)
end Zs
namespace Zs
open PySem PySem.Spec PyProof.Rows L2
open Sem (wp)
section
variable {prog:Program} {w:World} {A:Around} {E:Value->Shared->Prop} {s:Shared}
theorem Ue {p1 p2:Bool} {z TI TO i1 i2 l1 l2:Addr} {i:Nat} {xs ys:Array Value} {x y:Value} {Q:Option Value->Shared->Prop} (D:ZipApart z TI TO i1 i2 l1 l2) (st:FG p1 p2 z TI TO i1 i2 l1 l2 i s.heap)
  (vM:SS p1 s.heap l1 xs) (oI:SS p2 s.heap l2 ys) (hx:xs[i]?=some x) (hy:ys[i]?=some y)
  (hQ:∀h',FG p1 p2 z TI TO i1 i2 l1 l2 (i+1) h'->IsPair h' s.heap.objs.size x y->h'.objs.size=s.heap.objs.size+1->(∀c o,c∉[z,TI,TO,i1,i2]->s.heap.get? c=some o->h'.get? c=some o)->Q (some (~~~109)) {s with heap:=h'}):
  wpAny (~~~70) A (pyNext (.ref z)) Q E s:=by
 exists 25;unfold pyNext;exact wpAny_bind (wpAny_attempt (wpAny_callSpecial?_slot (name:=gq "__next__") hT F.slot_zip_next (wpAny_call_entry F.slot_zip_next hT F.entry_zip_next (N8 D st vM oI hx hy λh' a b c d=>wpAny_pure (hQ h' a b c d)) (~~~223))))
theorem Wr {p1 p2:Bool} {z TI TO i1 i2 l1 l2:Addr} {i:Nat} {xs ys:Array Value} {Q:Option Value->Shared->Prop} (hh:A.handled=none) (D:ZipApart z TI TO i1 i2 l1 l2) (st:FG p1 p2 z TI TO i1 i2 l1 l2 i s.heap)
  (vM:SS p1 s.heap l1 xs) (oI:SS p2 s.heap l2 ys) (xu:xs[i]?=none\/ys[i]?=none)
  (hQ:∀h',(∀c o,c∉[z,TI,TO,i1,i2]->s.heap.get? c=some o->h'.get? c=some o)->Q none {s with heap:=h'}):
  wpAny (~~~70) A (pyNext (.ref z)) Q E s:=by
 exists 25;unfold pyNext;refine wpAny_bind (wpAny_attempt (wpAny_callSpecial?_slot (name:=gq "__next__") hT F.slot_zip_next (wpAny_call_entry F.slot_zip_next hT F.entry_zip_next (Ug hh D st vM oI xu λh' e hk he=>?_) (~~~223))));obtain⟨o,ho,hc⟩:=he;exact wpAny_bind (wpAny_isInstance (T:="StopIteration") (b:=true) ⟨o,ho,hc⟩ isSubtype_stop (wpAny_pure (hQ _ hk)))
end
theorem MK:typeLookup (.type "zip") "__len__"=pure none:=by rw[typeLookup_type,builtinLookup_eq_fast];kernel_rfl
theorem Km:typeLookup (.type "zip") "__length_hint__"=pure none:=by rw[typeLookup_type,builtinLookup_eq_fast];kernel_rfl
def M4 (H:Hp) (v:V) (z:V×V):Prop:=∃T,v=.ref T/\H T=some (.tup [z.1,z.2])
structure LZ (X:Cx) (pins:List (Addr×Obj)) (σ:L2.St) (p1 p2:Bool) (z TI TO i1 i2 a b S:Addr) (xs ys:List V) (i:Nat) (s:Shared) (H0 H:Hp):Prop where
 inv:Inv X pins σ H s
 st:FG p1 p2 z TI TO i1 i2 a b i s.heap
 sa:oq X.K p1 H a xs
 sb:oq X.K p2 H b ys
 fp:∀c∈[z,TI,TO,i1,i2],wW X pins H c
 li:∃vs,H S=some (.lst vs)/\Paired (M4 H) vs ((xs.zip ys).take i)
 kp:∀c o,H0 c=some o->H c=some o
section
variable {X:Cx} {pins:List (Addr×Obj)} {σ:L2.St} {p1 p2:Bool} {z TI TO i1 i2 a b S:Addr} {xs ys:List V}
theorem M4.up {H H':Hp} {v:V} {z:V×V} (h:M4 H v z) (k:∀T ps,H T=some (.tup ps)->H' T=some (.tup ps)):M4 H' v z:=let⟨T,e,q⟩:=h;⟨T,e,k _ _ q⟩
theorem SW {H H':Hp} (k:∀T ps,H T=some (.tup ps)->H' T=some (.tup ps)):∀{vs:List V} {l:List (V×V)},Paired (M4 H) vs l->Paired (M4 H') vs l
 |_,_,.nil =>.nil
 |_,_,.cons h t=>.cons (h.up k) (SW k t)
theorem NO {H:Hp}:∀{vs:List V} {l:List (V×V)},Paired (M4 H) vs l->vs.length=l.length
 |_,_,.nil =>rfl
 |_,_,.cons h t=>by rw[aL,aL,NO t]
theorem NN {H:Hp}:∀{vs us:List V} {l m:List (V×V)},Paired (M4 H) vs l->Paired (M4 H) us m->Paired (M4 H) (vs++us) (l++m)
 |_,_,_,_,.nil,q=>q
 |_,_,_,_,.cons h t,q=>.cons h (NN t q)
theorem NV {K:af} {tp:Bool} {H H':Hp} {a:Addr} {xs:List V} (h:oq K tp H a xs) (k:∀o,H a=some o->H' a=some o):oq K tp H' a xs:=by
 cases tp
 .rcases h with(h|⟨o,h⟩)|h
  .exact .inl (.inl (k _ h))
  .exact .inl (.inr ⟨o,k _ h⟩)
  .exact .inr h
 .rcases h with(h|⟨o,h⟩)|h
  .exact .inl (.inl (k _ h))
  .exact .inl (.inr ⟨o,k _ h⟩)
  .exact .inr h
theorem Ub {A:Around} (hA:A.in1.handled=none) (D:ZipApart z TI TO i1 i2 a b) (hS:S∉[z,TI,TO,i1,i2]) (ha:a≠S) (hb:b≠S) {H0:Hp} (h0:H0 S=none) (hl:(xs.zip ys).length <=100000) (res:Value) {R:Result->Shared->Prop}:∀(k i:Nat) (s:Shared) (H:Hp),(xs.zip ys).length -i=k->i<=(xs.zip ys).length ->
  LZ X pins σ p1 p2 z TI TO i1 i2 a b S xs ys i s H0 H->(∀s' H',Inv X pins σ H' s'->(∀c o,H0 c=some o->H' c=some o)->(∃vs,H' S=some (.lst vs)/\Paired (M4 H') vs (xs.zip ys))->R (.ok (.ret res)) s')->
  codeAny (~~~65) A (.builtin "list.extend.loop" ⟨[.ref S,.ref z,res],[]⟩) R s:=by
 intro k
 induction k with
 |zero=>
  intro i s H hk hi L hR;have e:i=(xs.zip ys).length :=by omega
  obtain⟨its,rv,p,_⟩:=f6 L.inv L.sa;obtain⟨o8,NU,EX,_⟩:=f6 L.inv L.sb;exists 141;rw[bC] at e;refine codeAny_builtin F.entry_extend_loop ?_;rw[Around.under_plainId F.plain_extend_loop _];show wpAny _ A.in1 (pyNext (.ref z)>>=_) _ _ s;refine wpAny_bind (Wr hA D L.st p EX (by simp;omega) λh' kk=>wpAny_pure (hR _ H ?_ L.kp ?_))
  .exact L.inv.Hq (t':=s.toks) (ch:=[z,TI,TO,i1,i2]) kk L.fp
  .obtain⟨vs,h1,h2⟩:=L.li;rw[jm (by rw[bC];omega)] at h2;exact⟨vs,h1,h2⟩
 |succ k ih=>
  intro i s H hk hi L hR;have Dh:i< (xs.zip ys).length :=by omega
  have aer:=Dh;rw[bC] at aer;obtain⟨its,rv,p,_⟩:=f6 L.inv L.sa;obtain⟨o8,NU,EX,_⟩:=f6 L.inv L.sb;obtain⟨u,hu,ru⟩:=rv.get (ah (l:=xs) (i:=i) (~~~62));obtain⟨u2,Yu,HV⟩:=NU.get (ah (l:=ys) (i:=i) (~~~62));obtain⟨vs,hH,pr⟩:=L.li;refine codeAny_builtin F.entry_extend_loop ?_;rw[Around.under_plainId F.plain_extend_loop _];show wpAny _ A.in1 (pyNext (.ref z)>>=_) _ _ s;refine wpAny_bind (Ue D L.st p EX (x:=u) (y:=u2) (~~~257) (by simpa using Yu) λh' UA hP hsz kk=>?_);have hn:H s.heap.objs.size=none:=L.inv.iA.fresh (aM _);have I1:Inv X pins σ (~~~119) {s with heap:=h'}:=
   L.inv.qZ (t':=s.toks) (ch:=[z,TI,TO,i1,i2]) kk L.fp (aM _) (show j4 X.prog X.w _ h' s.heap.objs.size (.tup [xs[i]'(~~~62),ys[i]'(~~~62)]) from⟨by show 2<=sizeLine;decide,[u,u2],.cons ru (.cons HV .nil),⟨_,hP,rfl,_,rfl⟩⟩)
  have nS:S≠s.heap.objs.size:=bL hH hn;have hH1:(~~~119) S=some (.lst vs):=by rw[c6 nS];exact hH
  obtain⟨zz,cs,cn,cr,cl,ce⟩:=I1.Jh hH1;have lv:vs.length=i:=by rw[NO pr,cu];omega
  show wpAny _ A.in1 (updateSeq S (·.push (~~~109))>>=_) _ _ _;refine wpAny_bind (wpAny_updateSeq ce rfl (wpAny_pure ⟨plainId_quiet F.plain_extend_loop _,ih (i+1) _ (upd (~~~119) S (.lst (vs++[.ref s.heap.objs.size]))) (~~~62) Dh ?_ hR⟩) ?_ ?_)
  .have k1:∀c o,H c=some o->c≠S->(upd (~~~119) S (.lst (vs++[.ref s.heap.objs.size]))) c=some o:=λc o q hc=>by
    rw[c6 hc,c6 (bL q hn)];exact q
   refine⟨I1.LQ (t':=s.toks) (its':=cs++[.ref s.heap.objs.size]) hH1 ce (~~~88) (cr.append (.cons (show L2.RelV (V.ref s.heap.objs.size) (~~~109) from rfl) .nil)) (by rw[au,lv,sizeLine_eq];simp;omega),?_,NV L.sa λo q=>k1 a o q ha,NV L.sb λo q=>k1 b o q hb,λc hc=>?_,⟨_,cU,?_⟩,λc o q=>?_⟩
   .exact UA.keep λc hc o q=>(c7 _ _ (λh:S=c=>hS (by rw[h];exact hc))).trans q
   .obtain⟨f1,f2⟩:=L.fp c hc;refine⟨?_,f2⟩;obtain⟨oc,q,_⟩:=L.st.live c hc;rw[c6 (λh:c=S=>hS (h▸hc)),c6 (cT (aX q))];exact f1
   .have et:(xs.zip ys).take (i+1)=(xs.zip ys).take i++[(xs[i]'(~~~62),ys[i]'(~~~62))]:=by
     rw[eE,ah Dh,i7];rfl
    rw[et];refine NN (SW (λT ps q=>?_) pr) (.cons ⟨_,rfl,?_⟩ .nil)
    .exact k1 T _ q (λh=>by subst h;rw[hH] at q;cases q)
    .rw[c6 nS.symm,cU]
   .exact k1 c o (L.kp c o q) (λh=>by subst h;rw[h0] at q;cases q)
  .rw[a_,<-cl,lv,sizeLine_eq];omega
  .show(cs.toArray.push _).size <=sizeLine+1;rw[Array.size_push,a_,<-cl,lv,sizeLine_eq];omega
def TY (K:af) (ta:TA):TE:=fun σ H Q=>ta σ H λvs H1=>∃p1 p2 a b xs ys,vs=[.ref a,.ref b]/\oq K p1 H1 a xs/\oq K p2 H1 b ys/\(xs.zip ys).length <=100000/\∀H' S us,bE H1 H'->H1 S=none->H' S=some (.lst us)->Paired (M4 H') us (xs.zip ys)->Q (.ref S) H'
theorem Mb (K:af) {e e2:Expr} {ta:TA} {p pos p' pos':Pos} (hc:X.calm=true) (hm:X.mg "list"=none) (Uk:X.mg "zip"=none) (ha:PA X [e,e2] ta) (hg:Gl X "list":=by rfl) (Uj:Gl X "zip":=by rfl)
  (hs:starEach [e,e2] X.env=(false,eval e X.env)::starEach [e2] X.env:=by rfl) (BY:(backTo pos' (starEach [e2] X.env)).any (·.1)=false:=by rfl)
  (RM:starEach [.Call (~~~322) [e,e2] [] pos'] X.env=[(false,eval (.Call (~~~322) [e,e2] [] pos') X.env)]:=by rfl) (hK:X.K=K:=by rfl):
  PE X (.Call (.Name "list" p) [.Call (~~~322) [e,e2] [] pos'] [] pos) (TY K ta):=by
 subst hK;exists 10;refine Call_ (nU I hg hm (show bootBuiltins "list"=some (.type "list") by decide+kernel) (cW ?_ RM rfl));rw[RM];refine Calls.spliced_cons (Call_ (nU I Uj Uk yn (cW (jx (ha pos' pins s σ H _ I h) λus s1 ⟨vs,H1,I1,r1,q1⟩=>?_) hs BY)));obtain⟨p1,p2,a,b,xs,ys,ex,Kz,KA,hl,q⟩:=q1;subst ex;cases r1 with
 |cons r rr=>
  cases rr with
  |cons r' rr=>
   cases rr;cases r;cases r';exists 16;refine BD Xd EX λh' hz rT vL h1 h2 hsz hk=>Calls.spliced_nil ?_;have D:ZipApart (~~~144) (s1.heap.objs.size+2) (s1.heap.objs.size+3) s1.heap.objs.size (s1.heap.objs.size+1) a b:=pP s1.heap.objs.size a b la lb;have mem:∀c,c∈[s1.heap.objs.size+4,s1.heap.objs.size+2,s1.heap.objs.size+3,s1.heap.objs.size,s1.heap.objs.size+1]->s1.heap.objs.size<=c/\c<s1.heap.objs.size+5:=λc hc=>by
    have e':c=s1.heap.objs.size+4\/c=s1.heap.objs.size+2\/c=s1.heap.objs.size+3\/c=s1.heap.objs.size\/c=s1.heap.objs.size+1:=by simpa using hc
    have:∀n:Nat,(c=n+4\/c=n+2\/c=n+3\/c=n\/c=n+1)->n<=c/\c<n+5:=λn h=>by omega
    exact this _ e'
   exists 50;refine callType_codes (Q₁:=λobj fG=>obj=.ref h'.objs.size/\fG={s1 with heap:=h'.push {cls:=.type "list",data:=.seq #[]}}) F.called_list (F.typeCall_list_1 _) F.entry_list_init (code_list_new _ ⟨rfl,rfl⟩) λobj fG Jd=>?_;obtain⟨rfl,rfl⟩:=Jd;have hS:(~~~202).get? h'.objs.size=some {cls:=.type "list",data:=.seq #[]}:=aY _ rfl;refine⟨⟨_,hS,rfl⟩,F.args_list_init_2 _ _,?_⟩;have hn:H1 h'.objs.size=none:=I2.iA.fresh (aM _);have I3:Inv X pins σ (~~~290) {s1 with heap:=h'.push {cls:=.type "list",data:=.seq #[]}}:=
    I2.laid (t':=s1.toks) (λb ob q=>aq _ q) (aM _) (show j4 X.prog X.w _ _ h'.objs.size (.lst []) from⟨cj _,[],0,.nil,hS⟩)
   show wpAny _ X.A.in1.in1 (do let old<-Builtin.List.listItems (~~~259);Builtin.List.listUpdate (~~~259) (λ_=> #[]);letGo old.toList.reverse;Builtin.List.listExtendWith (~~~259) (.ref (~~~144)) .none) _ _ _;exists 46;unfold Builtin.List.listItems;refine wpAny_bind (wpAny_seqItems hS rfl (~~~207));show wpAny _ X.A.in1.in1 (updateSeq h'.objs.size (λ_=> #[])>>=λ_=>letGo (#[]:Array Value).toList.reverse >>=λ_=>Builtin.List.listExtendWith (~~~259) (.ref (~~~144)) .none) _ _ _;refine wpAny_bind (wpAny_updateSeq hS rfl ?_);have I4:=I3.LQ (t':=s1.toks) (its:=[]) (its':=[]) (f:=λ_=> #[]) (ys:=[]) cU hS rfl .nil (cj _);rw[Hs] at I4;have QS:=f7 (~~~245) hS rfl;have up:∀c o,h'.get? c=some o->((~~~202).update h'.objs.size (~~~245)).get? c=some o:=λc o q=>
    (c7 _ _ (c8 (aX q))).trans (aq _ q)
   refine wpAny_bind (wpAny_letGo ?_);have Yw:=up _ _ hz;unfold Builtin.List.listExtendWith;refine wpAny_bind (wpAny_typeOf (T:="zip") ⟨_,Yw,rfl⟩ ?_);have Ol:s1.heap.objs.size+4<h'.objs.size:=aX hz;have e1:Builtin.List.listSameRef (~~~259) (.ref (~~~144))=false:=by simp[Builtin.List.listSameRef];exact c8 Ol
   have e2:(Value.type "zip"==Value.type "list")=false:=by decide
   have e3:(Value.type "zip"==Value.type "tuple")=false:=by decide
   simp only[e1,e2,e3,vg,hJ,if_false];refine wpAny_bind (wpAny_pyIter_zip Yw ?_);refine wpAny_bind (wpAny_holding ?_);unfold Builtin.List.listLengthHint;refine wpAny_bind (wpAny_specialOf (T:="zip") ⟨_,Yw,rfl⟩ MK ?_);show wpAny _ X.A.in1.in1 (specialOf (Value.ref (~~~144)) (gq "__length_hint__")>>=_) _ _ _;refine wpAny_bind (wpAny_specialOf (T:="zip") ⟨_,Yw,rfl⟩ Km ?_);refine wpAny_pure ?_;show wpAny _ X.A.in1.in1 (rule "list.extend.makes-room">>=λ_=>Builtin.List.listTouch (~~~259)>>=λ_=>again (.builtin "list.extend.loop" ⟨[.ref h'.objs.size,.ref (~~~144),.none],[]⟩)) _ _ _;refine wpAny_bind (wpAny_rule ?_);exists 46;show wpAny _ X.A.in1.in1 (updateSeq h'.objs.size (·.push .none)>>=λ_=>updateSeq h'.objs.size (·.pop)) _ _ _;refine wpAny_bind (wpAny_updateSeq QS rfl ?_);have I5:=I4.LQ (t':=s1.toks) (its:=[]) (its':=[.none]) (f:=(·.push .none)) (ys:=[.jL]) cU QS rfl (.cons rfl .nil) (by show 1<=sizeLine;decide);rw[Hs] at I5;have hS3:=f7 (Obj.mapSeq (·.push Value.none)) QS rfl;refine wpAny_updateSeq (hz:=by seq_fits) hS3 rfl ?_;have I6:=I5.LQ (t':=s1.toks) (its:=[.none]) (its':=[]) (f:=(·.pop)) (ys:=[]) cU hS3 rfl .nil (cj _);rw[Hs] at I6;have HR:∀c o,h'.get? c=some o->((((~~~202).update h'.objs.size (~~~245)).update h'.objs.size (Obj.mapSeq (·.push Value.none))).update h'.objs.size (Obj.mapSeq (·.pop))).get? c=some o:=λc o q=>
    (c7 _ _ (c8 (aX q))).trans ((c7 _ _ (c8 (aX q))).trans (up c o q))
   have k1:∀c o,H1 c=some o->(~~~290) c=some o:=λc o q=>by rw[c6 (bL q hn)];exact q
   have sS:h'.objs.size∉[s1.heap.objs.size+4,s1.heap.objs.size+2,s1.heap.objs.size+3,s1.heap.objs.size,s1.heap.objs.size+1]:=λm=>absurd (mem _ m).2 (by rw[hsz];exact cM _);have lt5:∀c,c<s1.heap.objs.size->c≠h'.objs.size:=λc hc=>cT (by rw[hsz];exact aT hc (gh _ _));refine wpAny_pure ⟨plainId_quiet F.plain_extend_loop _,Ub (X:=X) (A:=X.A.in1) (pins:=pins) (σ:=σ) (I1.ok.hd hc) D sS (lt5 a la) (lt5 b lb) hn hl .none _ 0 _ (~~~290) rfl (cj _)
    ⟨I6,⟨⟨.none,false,HR _ _ hz,.inl rfl⟩,HR _ _ rT,⟨_,_,HR _ _ vL⟩,h1.at λo q=>HR _ o q,h2.at λo q=>HR _ o q⟩,NV Kz λo q=>k1 a o q,NV KA λo q=>k1 b o q,λc QH=>?_,⟨[],cU,by rw[fI];exact .nil⟩,k1⟩ λs' H' I' kp li=>?_⟩
   .exact I1.BS (mem c QH).1 (by rw[c6 (λh:c=h'.objs.size=>sS (h▸QH))];exact I1.iA.fresh (mem c QH).1)
   .obtain⟨us,hu1,Yu⟩:=li;exact⟨rfl,.ref h'.objs.size,H',I',rfl,q H' _ us kp hn hu1 Yu⟩
end
end Zs
namespace Zs
open PySem PySem.Spec PyProof.Rows L2
open Sem (wp)
abbrev x5 (d:Value):List (~~~298):=[("default",d)]
theorem am1 (a d:Value):argsOk "max" ⟨[a],x5 d⟩:=by unfold argsOk;kernel_rfl
theorem AV:(toString "max"++toString ".loop":String)="max.loop":=by decide
section
variable {prog:Program} {w:World} {A:Around} {R:Result->Shared->Prop} {I:Addr} {fp wr:List Addr} {n:Nat} {P:Nat->Value->Prop} {St:Nat->Heap->Prop} {d:Value}
theorem Vr (W:Walks prog w A.in1 I fp wr n P St) (bt:Nat->Nat->Bool) (Yp:CmpOf prog w A.in1 .Gt P bt) (S:Addr) (Z6:S∉fp):∀(k j:Nat) (s:Shared) (vb:Value) (c:Nat),n- (j+1)=k->j+1<=n->St (j+1) s.heap->P (argBest bt j) vb->s.heap.get? S=some {cls:=.type "list",dict:=none,data:=.seq #[vb,vb] c,slots:= #[]}->
  (∀v h' tk,P (argBest bt (n-1)) v->(∀b o,b∉wr->b≠S->s.heap.get? b=some o->h'.get? b=some o)->R (.ok (.ret v)) {s with heap:=h',toks:=tk})->codeAny (~~~70) A (.builtin "max.loop" ⟨[.ref I,.none,.ref S],x5 d⟩) R s:=by
 have KS:S∉wr:=λh=>Z6 (W.sub _ h);intro k;induction k with
 |zero=>
  intro j s vb c hk hj HG KR hS hR;have KY:j+1=n:=by omega
  exists 9;refine wpAny_bind (wpAny_tryCatch (W.done s _ _ (KY▸HG) λh' tk HF=>?_));have WT:=HF S _ KS hS;show wpAny _ A.in1 (updateSeq S (λ_=> #[])>>=_) _ _ _;exists 46;refine wpAny_updateSeq WT rfl (wpAny_bind (~~~304));exact hR vb _ tk (by rw[<-KY];exact KR) λb o Uu Vb e=>(c7 _ _ (Ne.symm Vb)).trans (HF b o Uu e)
 |succ k ih=>
  intro j s vb c hk hj HG KR hS hR;have Dh:j+1<n:=by omega
  exists 9;refine wpAny_bind (wpAny_tryCatch (W.item (j+1) s _ _ Dh HG λv h' tk hP Vh HF=>?_));have WT:=HF S _ KS hS;show wpAny _ A.in1 (tryCatch (holding [v,v] (richCompare .Gt v vb>>=_)) _>>=_) _ _ _;refine wpAny_bind (wpAny_tryCatch (wpAny_holding (wpAny_bind (Yp (j+1) (argBest bt j) v vb _ _ _ hP KR ?_))));refine wpAny_bind (wpAny_holding (wpAny_truthy_bool ?_));refine wpAny_bind (~~~304);cases hb:bt (j+1) (argBest bt j) with
  |true=>
   simp only[if_true];refine wpAny_bind ?_;refine wpAny_updateSeq WT rfl (wpAny_bind (wpAny_letGo ?_));rw[AV];refine wpAny_pure ⟨plainId_quiet F.plain_max_loop _,ih (j+1) _ v _ (~~~62) Dh (W.frame _ _ _ Vh λb QT o e=>(c7 _ _ (λh:S=b=>Z6 (by rw[h];exact QT))).trans e) (by simp only[argBest,hb,if_true];exact hP) (f7 _ WT rfl) λv' HE T3 Hx RH=>
    hR v' HE T3 Hx λb o Uu Vb e=>RH b o Uu Vb ((c7 _ _ (Ne.symm Vb)).trans (HF b o Uu e))⟩
  |false=>
   simp only[hJ,if_false];refine wpAny_bind (wpAny_letGo ?_);rw[AV];exact wpAny_pure ⟨plainId_quiet F.plain_max_loop _,ih (j+1) _ vb c (~~~62) Dh Vh (by simp only[argBest,hb,hJ,if_false];exact KR) WT λv' HE T3 Hx RH=>hR v' HE T3 Hx λb o Uu Vb e=>RH b o Uu Vb (HF b o Uu e)⟩
theorem Sk (W:Walks prog w A.in1 I fp wr n P St) (bt:Nat->Nat->Bool) (Yp:CmpOf prog w A.in1 .Gt P bt) (S:Addr) (Z6:S∉fp) {s:Shared} {c:Nat} (HG:St 0 s.heap) (hS:s.heap.get? S=some {cls:=.type "list",dict:=none,data:=.seq #[] c,slots:= #[]})
  (hR0:n=0->∀h' tk,(∀b o,b∉wr->b≠S->s.heap.get? b=some o->h'.get? b=some o)->R (.ok (.ret d)) {s with heap:=h',toks:=tk})
  (hR:0<n->∀v h' tk,P (argBest bt (n-1)) v->(∀b o,b∉wr->b≠S->s.heap.get? b=some o->h'.get? b=some o)->R (.ok (.ret v)) {s with heap:=h',toks:=tk}):codeAny (~~~70) A (.builtin "max.loop" ⟨[.ref I,.none,.ref S],x5 d⟩) R s:=by
 have KS:S∉wr:=λh=>Z6 (W.sub _ h);exists 9;by_cases hn:n=0
 .subst hn;refine wpAny_bind (wpAny_tryCatch (W.done s _ _ HG λh' tk HF=>?_));show wpAny _ A.in1 (rule _>>=λ_=>ret d) _ _ _;exact wpAny_bind (wpAny_rule (wpAny_pure (hR0 rfl h' tk λb o hb _ e=>HF b o hb e)))
 .have hn:0<n:=fk hn;refine wpAny_bind (wpAny_tryCatch (W.item 0 s _ _ hn HG λv h' tk hP Vh HF=>?_));have WT:=HF S _ KS hS;show wpAny _ A.in1 (updateSeq S (λ_=> #[v,v])>>=_) _ _ _;refine wpAny_bind ?_;refine wpAny_updateSeq WT rfl ?_;rw[AV];exact wpAny_pure ⟨plainId_quiet F.plain_max_loop _,Vr W bt Yp S Z6 _ 0 _ v _ rfl hn (W.frame _ _ _ Vh λb QT o e=>(c7 _ _ (λh:S=b=>Z6 (by rw[h];exact QT))).trans e) hP (f7 _ WT rfl) λv' HE T3 Hx RH=>
   hR hn v' HE T3 Hx λb o Uu Vb e=>RH b o Uu Vb ((c7 _ _ (Ne.symm Vb)).trans (HF b o Uu e))⟩
end
section
variable {prog:Program} {w:World} {A:Around} {E:Value->Shared->Prop} {s:Shared} {l:Addr} {its:List Value} {ns:List Int}
theorem aaV {id:String} {b:Builtin} {args:List Value} {kw:List (~~~298)} {Q:Value->Shared->Prop} (hk:builtinKind id=none) (hp:plainId id=true) (hb:entryFor table id=some b) (ha:argsOk id ⟨args,kw⟩)
  (hc:wpAny (~~~70) A.in1 (b ⟨args,kw⟩) (λfin s'=>match fin with| .done f=>(match(Except.ok f:Result) with| .ok (.ret v)=>Q v s'| .ok _=>False| .error e=>E e s')| .again c'=>c'.quiet=true/\codeAny (~~~70) A c' (λr s'=>match r with| .ok (.ret v)=>Q v s'| .ok _=>False| .error e=>E e s') s') E s):wpAny (~~~70) A (call (.builtin id) args kw) Q E s:=by
 refine wpAny_call (codeAny_call_builtin hp hb ?_);simp only[checkBuiltinCall,hk];cases aeG:Manifest.signature? id with
 |none=>exact wpAny_pure hc
 |some sig=>
  have ha':Bind.checkArgs id sig ⟨args,kw⟩=pure () :=by simpa only[argsOk,aeG] using ha
  show wpAny _ A.in1 (Bind.checkArgs id sig ⟨args,kw⟩) _ _ s;rw[ha'];exact wpAny_pure hc
theorem Vq {d:Value} {Q:Value->Shared->Prop} (hh:A.handled=none) (hl:s.heap.IsList l its.toArray) (hi:IntsAre its ns)
  (h0:ns=[]->∀h' tk,(∀b o,s.heap.get? b=some o->h'.get? b=some o)->Q d {s with heap:=h',toks:=tk})
  (h:∀h' tk M t',(∀b o,s.heap.get? b=some o->h'.get? b=some o)->M∈ns->(∀a,a∈ns->a<=M)->Q (.int M t') {s with heap:=h',toks:=tk}):wpAny (~~~70) A (call (.builtin "max") [.ref l] (x5 d)) Q E s:=by
 obtain⟨xs,e⟩:=hi.allInts.items;have hn:numsOf (intItems xs).toList =ns:=by rw[<-e];exact hi.numsOf
 rw[nums_intItems] at hn;subst hn;rw[e] at hl;refine aaV F.kind_max F.plain_max F.entry_max (am1 _ _) ?_;show wpAny _ A.in1 (Builtin.Builtins.bindParams "max" ["key","default"] 0 ⟨[],x5 d⟩>>=_) _ _ s;refine wpAny_bind (wpAny_of_eq (show Builtin.Builtins.bindParams "max" ["key","default"] 0 ⟨[],x5 d⟩=pure [none,some d] from rfl) ?_);refine wpAny_bind (~~~207);refine wpAny_bind (iter_intList hl λpG es st WX hlI=>?_);subst es;refine wpAny_bind (wpAny_newObj_type ?_);rw[AV];have W:=Walks.list (prog:=prog) (w:=w) (A:=A.in1) hh s.heap.objs.size l hlI (intItems xs);have kp:∀{h':Heap},(∀b o,b∉[s.heap.objs.size]->b≠(s.heap.push {cls:=.type "list_iterator",data:=.fields #[.ref l,.int 0 0]}).objs.size ->((s.heap.push {cls:=.type "list_iterator",data:=.fields #[.ref l,.int 0 0]}).push {cls:=.type "list",data:=.seq ([]:List Value).toArray}).get? b=some o->h'.get? b=some o)->
   ∀b o,s.heap.get? b=some o->h'.get? b=some o:=λ{h'} hk b o q=>by
  have hb:b<s.heap.objs.size:=aX q;refine hk b o (λhm=>?_) (cT (by rw[cg];exact lW hb)) (aq _ (aq _ q));have e:=aN.mp hm;rw[e] at hb;exact cM _ hb
 refine wpAny_pure ⟨plainId_quiet F.plain_max_loop _,Sk W _ (CmpOf.ints_gt (numAt xs) (λ_ _=>intItems_at)) _ (λhm=>cM _ (WX _ hm)) (W.frame _ _ _ st λb _ o e=>aq _ e) (aY _ rfl) (λhz h' tk hk=>?_) (λhz v h' tk hP hk=>?_)⟩
 .have ez:xs.size=0:=by simpa[intItems] using hz
  exact h0 (by rw[Array.size_eq_zero_iff.mp ez];rfl) h' tk (kp hk)
 .obtain⟨t,rfl⟩:=intItems_at hP;have sz:(intItems xs).size =xs.size:=by simp[intItems]
  rw[sz] at hz⊢;obtain⟨h1,h2⟩:=argBest_gt (numAt xs) (xs.size-1);refine h h' tk _ t (kp hk) ?_ λa ha=>?_
  .rw[numAt_eq];exact PySem.getD_mem (by rw[ag,kC];omega)
  .obtain⟨j,hj,rfl⟩:=mem_getD ha;rw[ag,kC] at hj;rw[<-numAt_eq];exact h2 j (~~~62)
end
def Xm (K:af) (ta:TA) (td:TE):TE:=fun σ H Q=>ta σ H λvs H1=>td σ H1 λz H2=>∃a ns,vs=[.ref a]/\dz K H2 a (ns.map V.int)/\(ns=[]->Q z H2)/\∀M,M∈ns->(∀x,x∈ns->x<=M)->Q (.int M) H2
theorem VI {X:Cx} (K:af) {e c:Expr} {ta:TA} {tc:TE} {p pos kpos:Pos} (hc:X.calm=true) (hm:X.mg "max"=none) (ha:PA X [e] ta) (hd:PE X c tc) (hg:Gl X "max":=by rfl) (hs:backTo pos (starEach [e] X.env)=(false,eval e X.env)::backTo pos (starEach [] X.env):=by rfl) (hp:(backTo pos (starEach [e] X.env)).any (·.1)=false:=by rfl)
  (hn:(~~~149).filterMap (·.1)=[("default":Str)]:=by rfl) (rV:(~~~149).all (·.1.isSome)=true:=by rfl) (HB:(~~~149).any (·.1.isNone)=false:=by rfl) (hK:X.K=K:=by rfl):
  PE X (.Call (.Name "max" p) [e] [⟨some "default",c,kpos⟩] pos) (Xm K ta tc):=by
 subst hK;exists 10;refine wpAny_Call_Name_kw (nU I hg hm (show bootBuiltins "max"=some (.builtin "max") by decide+kernel) (callWith_kw (~~~76) hs hp rV HB));refine jx ((NI (nm:=some "default") (kpos:=kpos) hd SR) pos pins s1 σ H1 (λzs H2=>match zs with| [z]=>∃a ns,vs=[.ref a]/\dz X.K H2 a (ns.map V.int)/\(ns=[]->Q z H2)/\∀M,M∈ns->(∀x,x∈ns->x<=M)->Q (.int M) H2|_=>False) I1 q1) λws s2 ⟨zs,H2,I2,rz,qz⟩=>?_;obtain⟨z,QN⟩:∃z,zs=[z]:=by
  cases zs with
  |nil=>exact qz.elim
  |cons z r=>
   cases r with
   |nil=>exact⟨z,rfl⟩
   |cons y r=>exact qz.elim
 subst QN;obtain⟨a,ns,ex,hq,q0,qM⟩:=qz;obtain⟨wz,rfl,Wy⟩:=rz.one;subst ex;rw[Vals.VQ r1,hn];obtain⟨its,rv,hl,_⟩:=I2.list hq;exact Vq (I2.ok.hd hc) hl.isList rv.ints (λe h' tk hk=>⟨z,H2,I2.kept hk,Wy,q0 e⟩) λh' tk M t' hk h1 h2=>⟨.int M,H2,I2.kept hk,⟨_,rfl⟩,qM M h1 h2⟩
end Zs
namespace Pb
open PySem PySem.Spec PyProof.Rows L2 Zs
section
variable {K:af} {σ:L2.St} {H:Hp} {Q:VK}
theorem aa4 {ta:TA} {tc:TE} {R:It->Hp->Prop} (h:ta σ H λvs H1=>tc σ H1 λz H2=>∃tp a xs,vs=[.ref a]/\z=.int 1/\oq K tp H2 a xs/\R (K6 K tp a 1) H2):RR K ta tc σ H R:=h
theorem aa5 {ta:TA} {R:It->Hp->Prop} (h:ta σ H λvs H1=>∃p1 p2 a b xs ys,vs=[.ref a,.ref b]/\oq K p1 H1 a xs/\oq K p2 H1 b ys/\R (UP K p1 p2 a b) H1):RV K ta σ H R:=h
theorem aa6 {c:TT} {ta tb:TE} (h:c σ H λb H1=>if b=true then ta σ H1 Q else tb σ H1 Q):tIf c ta tb σ H Q:=h
theorem Yg {ta:TE} (h:ta σ H λx H1=>∃c,x=.bl c/\Q (.bl (!c)) H1):Xo ta σ H Q:=h
def WE (K:af) (x:V) (l:Option Int) (z:V) (H:Hp) (Q:VK):Prop:=∃a xs n,x=.ref a/\l=some ((n:Nat):Int)/\z=.int 2/\dz K H a xs/\∀p,H p=none->Q (.ref p) (upd H p (.lst (Dg (xs.drop n))))
theorem abe {te ts:TE} {tl:TO} (h:te σ H λx H1=>tl σ H1 λl H2=>ts σ H2 λz H3=>WE K x l z H3 Q):acx K te tl ts σ H Q:=h
theorem uO {a:Addr} {xs:List V} {n:Nat} (h:dz K H a xs) (q:∀(H':Hp) (p:Addr),bE H H'->H p=none->H' p=some (.lst (Dg (xs.drop n)))->Q (.ref p) H'):WE K (.ref a) (some (n:Int)) (.int 2) H Q:=
 ⟨a,xs,n,rfl,rfl,rfl,h,λp hp=>q _ p (iP hp) hp cU⟩
theorem adN {td ty:TE} (h:td σ H λx H1=>ty σ H1 λy H2=>∃a kz i v,x=.ref a/\y=.int i/\Fz K a kz/\BM kz i=some v/\Q v H2):tDk K td ty σ H Q:=h
theorem aa9 {ta:TA} {td:TE} (h:ta σ H λvs H1=>td σ H1 λz H2=>∃a ns,vs=[.ref a]/\dz K H2 a (ns.map V.int)/\(ns=[]->Q z H2)/\∀M,M∈ns->(∀x,x∈ns->x<=M)->Q (.int M) H2):Xm K ta td σ H Q:=h
end
def Ep (K:af):Rep (~~~94):=λH v l=>∃(b:Addr) (tp:Bool),v=.ref b/\(match tp with|true=>mK K H b (~~~208)|false=>H b=some (HO.lst (~~~208)))
def Q0 (K:af) {α:Type} (R:Rep α):Rep (List α):=λH v l=>∃tp a vs,v=.ref a/\oq K tp H a vs/\Paired (R H) vs l
section
variable {K:af} {H H':Hp}
theorem Wb:ja (Ep K):=⟨λ⟨b,tp,e,h⟩ s=>⟨b,tp,e,by cases tp;exact s _ _ h;exact ie s h⟩⟩
theorem AZ {v:V} {x:Rat} (h:Fr K H v x):Ep K H v (Mi.fr x):=let⟨a,e,s⟩:=h;⟨a,true,e,s⟩
theorem PB {v:V} {l:List Int} (h:eA H v l):Ep K H v l:=let⟨a,e,s⟩:=dH h;⟨a,false,e,s⟩
theorem VY {α:Type} {R:Rep α} {v:V} {l:List α} (h:fo R H v l):Q0 K R H v l:=let⟨a,vs,e,s,p⟩:=h;⟨false,a,vs,e,dz.of s,p⟩
theorem p_ {α:Type} {R:Rep α} {v:V} {l:List α} (h:kI K R H v l):Q0 K R H v l:=let⟨a,vs,e,s,p⟩:=h;⟨true,a,vs,e,s,p⟩
theorem sq {α β γ:Type} {F:α->β->Prop} {G:α->γ->Prop} {f:β->γ} (h:∀a b,F a b->G a (f b)):∀{nD:List α} {nE:List β},Paired F nD nE->Paired G nD (nE.map f)
 |_,_,.nil =>.nil
 |_,_,.cons r t=>.cons (h _ _ r) (sq h t)
theorem p0 {v:V} {l:List Rat} (h:Q0 K (Fr K) H v l):Q0 K (Ep K) H v (l.map Mi.fr):=let⟨tp,a,vs,e,s,p⟩:=h;⟨tp,a,vs,e,s,sq (λ_ _ q=>AZ q) p⟩
theorem fK (l:List Rat):(l.map Mi.fr).flatten =Mi.t9 l:=by unfold Mi.t9;rw[qx]
theorem dG (l:List Rat):(Mi.t9 l).length =2*l.length:=by
 induction l with
 |nil=>rfl
 |cons x l ih=>show(Mi.fr x++Mi.t9 l).length =_;rw[au,ih,aL];show 2+_=_;omega
theorem RZ {α β:Type} {R:Rep α} {S:Rep β} (sr:ja R) (ss:ja S) {p1 p2:Bool} {a b:Addr} {xs ys:List V} {l:List α} {m:List β} (ha:oq K p1 H a xs) (hb:oq K p2 H b ys) (pa:Paired (R H) xs l) (pb:Paired (S H) ys m):
  FA (UP K p1 p2 a b) H (l.zip m).zipIdx (λH v z=>∃T T2 x y,v=.ref T/\mK K H T [.int (z.2:Nat),.ref T2]/\mK K H T2 [x,y]/\R H x z.1.1/\S H y z.1.2) where
 go:=λi H' s hi=>by
  have l1:=aZ pa;have l2:=aZ pb;rw[dv,bC] at hi;exact⟨xs,ys,xs[i]'(~~~62),ys[i]'(~~~62),iY s ha,iY s hb,by simp,by simp⟩
 Kk:=λi H' x pJ s hi ⟨T,T2,u,v,e,Ut,hT,jE,e2,y1,y2⟩=>by
  exists 71;obtain⟨z2,h2,r2⟩:=lO pb (y2 ys (iY s hb));have s2:bE H' (upd (upd H' T2 (.tup [u,v])) T (.tup [.int (i:Nat),.ref T2])):=(iP Ut).trans (iP (by rw[c6 jE];exact hT));have h3:(l.zip m)[i]?=some (z1,z2):=by rw[cw];exact⟨h1,h2⟩
  refine⟨((z1,z2),i),by rw[da,h3];simp,s2,T,T2,u,v,rfl,mK.of cU,mK.of ?_,sr.up r1 (s.trans s2),ss.up r2 (s.trans s2)⟩;rw[c6 jE.symm,cU]
 stop:=λH' s=>⟨xs,ys,iY s ha,iY s hb,by
  have l1:=aZ pa;have l2:=aZ pb;rw[dv,bC];omega⟩
end
open Mi (bV dh MS)
open Bl (RS)
section
variable {P:Program} {w:World} {K:af} {mg:Str->Option Value} {base:Heap} {d:iF}
def Wa (K:af):Sp:=λvs H Q _=>∃v l b,vs=[v]/\fo (Fr K) H v l/\(∀x,x∈l->FB b x)/\l.length*(b+1)+1+b<=B0/\∀H' z,bE H H'->Fr K H' z (Mi.nM l)->Q z H'
theorem Tj:bh ["fractions","result","fraction"] ["fractions"] (ay (top 6)):=by walk_at "s"
theorem Sy (F:Def K mg "total" (top 6) ["fractions"]) (T:Top K mg d) (kH: ~~~7): ~~~24:=by
 exists Tj,0
 .obtain⟨v,l,b,rfl,_⟩:=h;rfl
 obtain⟨v,l,b,rfl,hl,bl,lb,q⟩:=h;refine⟨_,(ao (b9 1 nd (ic T.uJ rfl))
   (ao (jv PassesOwn.never rfl (~~~292) (cK 2 nd)
   (aD (b9 1 nd (a9 kH (~~~61) rfl (ae (pv 1) (~~~120))))))
   (aD (bw (pv 1))))),?_⟩
 exists 55;exists ot ?_;exists ⟨ga,rfl,⟨_,dz.of gs⟩,jr (dS bU (dz.of gs) gp) (λi σ H'=>bE H H'/\∃mv r,σ=[some (.ref ga),some mv,r]/\Fr K H' mv (Mi.nM (~~~276))) ⟨bE.refl _,_,none,rfl,by rw[fI];exact T.nothing H⟩ (~~~102) ?_ ?_⟩
 .rintro i z x σ H1 hz s r ⟨H0,⟨s0,mv,r0,rfl,hm⟩,s1⟩;have il:i<l.length:=(aO.mp hz).1;have e1:i*(b+1)<=l.length*(b+1):=bQ _ (~~~62);exists ⟨mv,x,_,z,rfl,bU.up hm s1,r,(F2 bl i (~~~62)).le (~~~62),(bl z (aw hz)).le (~~~62),λH2 y s2 hy=>?_⟩;exists ⟨s.trans s2,y,_,rfl,by rw[E_ hz];exact hy⟩
 .rintro σ H1 ⟨s1,mv,r,rfl,hm⟩;exists 0;rw[d8] at hm;exact q H1 _ s1 hm
def acm (K:af):Sp:=λvs H Q _=>∃v ls,vs=[v]/\Q0 K (Ep K) H v ls/\ls.flatten.length<=100000/\∀H' p,bE H H'->H p=none->H' p=some (.lst (ls.flatten.map V.int))->Q (.ref p) H'
theorem OT {α:Type} {ls:List (List α)} {i:Nat} {x:List α} (h:ls[i]?=some x):(ls.take (i+1)).flatten =(ls.take i).flatten ++x:=by
 rw[eE,h,u_];simp
theorem F7 {α:Type} (ls:List (List α)) (i:Nat):(ls.take i).flatten.length <=ls.flatten.length:=by
 have:ls.flatten=(ls.take i).flatten ++(ls.drop i).flatten :=by rw[<-u_,jO]
 rw[this,au];omega
theorem J2:bh ["parts","row","part"] ["parts"] (ay (top 11)):=by walk_at "s"
theorem Js (F:Def K mg "in_a_row" (top 11) ["parts"]): ~~~23:=by
 exists J2,0
 .exists 139
 obtain⟨v,ls,rfl,hl,ll,q⟩:=h;refine⟨_,(ao (b9 1 nd (bZ aj))
   (ao (jv PassesOwn.never rfl (Zd K (pv 0)) (cK 2 nd)
   (aD (gT (nI bN dN dO (pW K) (pv 1) (~~~120)))))
   (aD (bw (pv 1))))),?_⟩
 obtain⟨tp,ga,yz,rfl,gs,gp⟩:=hl;exists bY (by show 0<=sizeLine;exact cj _) λH1 ra s1 nr h1=>?_;exists ot ?_;exists ⟨tp,ga,rfl,⟨_,iY s1 gs⟩,jr (Yz Wb gs gp) (λi σ H'=>bE H H'/\(∃r,σ=[some (.ref ga),some (.ref ra),r])/\H' ra=some (.lst ((ls.take i).flatten.map V.int))) ⟨s1,⟨none,rfl⟩,by rw[fI];exact h1⟩ (~~~102) ?_ ?_⟩
 .rintro i z x σ H2 hz s2 r ⟨H0,⟨s0,⟨r0,rfl⟩,ML⟩,s3⟩;have abA:=s3 _ _ ML;obtain⟨b,tb,rfl,hb⟩:=r;exists ⟨.inl ⟨rfl,_,dz.of abA⟩,?_⟩;exists 0;have e:=OT hz;have le:=F7 ls (i+1);rw[e,au] at le;refine zA (tp:=tb) abA hb (by rw[ag,ag,sizeLine_eq];omega) λH3 h3 k3=>?_;exists ⟨λc o q=>k3 c o (s2 c o q) (bL q nr),⟨_,rfl⟩,?_⟩;rw[e,bj];exact h3
 .rintro σ H2 ⟨s2,⟨r,rfl⟩,ML⟩;exists 0;rw[d8] at ML;exact q H2 ra s2 nr ML
def Zw (K:af):Sp:=λvs H Q _=>∃v r,vs=[v]/\eA H v r/\(∀x,x∈Mi.xB r->1<=x)/\r.length<=100000/\∀H' z,bE H H'->fo (Fr K) H' z (Mi.jS r)->Q z H'
theorem AX:∀r:List Int,Dg (r.drop 1)=Mi.xB r
 | []=>rfl
 | [a]=>rfl
 | [a,b]=>rfl
 |a::b::c::r=>by
  show b::Dg r=b::Mi.xB (c::r);have:=AX (c::r);rw[<-this];rfl
theorem tZ:∀r:List Int,Dg r=Mi.pU r
 | []=>rfl
 | [a]=>rfl
 |a::b::r=>by show a::Dg r=a::Mi.pU r;rw[tZ r]
theorem BZ:∀r:List Int,((Mi.pU r).zip (Mi.xB r)).map (λp=>mkRat p.1 p.2.toNat)=Mi.jS r
 | []=>rfl
 | [a]=>rfl
 |a::b::r=>by
  show mkRat a b.toNat::_=mkRat a b.toNat::Mi.jS r;rw[<-BZ r];rfl
theorem AA:bh ["row","above","below"] ["row"] (ay (top 12)):=by walk_at "s"
theorem Ar (F:Def K mg "in_fractions" (top 12) ["row"]) (T:Top K mg d) (jG: ~~~4): ~~~22:=by
 exists AA,0
 .exists 139
 obtain⟨v,r,rfl,hv,od,ln,q⟩:=h;refine⟨_,(aD (bw (iN rfl nd (kq K T.zip (ae (~~~281) (ae (~~~281) aj))) (cH (N:=["row","above","below"]) (sc:=ay (top 12)) (own:=[("above",1),("below",2)]) (~~~63)) (λ_ _ _ _ _=>(EZ K 2 (cJ (cK 1 nd) (cJ (cK 2 nd) gI)))) (~~~71) (λ_ _ _ _ _=>(a9 jG (~~~61) rfl (ae (pv 1) (~~~120))))))),?_⟩;obtain⟨ra,rfl,rs⟩:=dH hv;exists ⟨0,rfl,?_⟩;exists uO (n:=0) (dz.of rs) λH1 p1 s1 n1 h1=>?_;exists 136;exists uO (n:=1) (dz.of (s1 _ _ rs)) λH2 p2 s2 n2 h2=>?_;exists 0;rw[lT,xk,tZ] at h1;rw[<-gW,xk,AX] at h2;have Ur:=s2 _ _ h1;refine⟨false,false,p1,p2,_,_,rfl,dz.of Ur,dz.of h2,λD hD=>fj (mO df df (p1:=false) (p2:=false) (dz.of Ur) (dz.of h2) (kU _) (kU _)) (S:=Fr K) (f:=λp=>mkRat p.1 p.2.toNat) bU hD ?_ (~~~78) (~~~302)⟩
 .rw[bC];have:(Mi.pU r).length <=r.length:=by rw[<-tZ];exact xj r
  omega
 .obtain⟨Tt,x1,x2,rfl,hT,e1,e2⟩:=rr;have e1:x1=.int z.1:=e1;have e2:x2=.int z.2:=e2;subst e1 e2;exists 24;exists 0;have zo:1<=z.2:=od _ (cE (aw hz)).2;exact⟨z.1,z.2.toNat,by rw[show((z.2.toNat:Nat):Int)=z.2 by omega];rfl,by omega,λH6 y s6 hy=>kk y H6 s6 (gJ hy)⟩
 .refine q H5 _ (s1.trans (s2.trans s5)) ⟨D,ys,rfl,U',?_⟩;rw[BZ] at pr;exact pr
end
def plain (d:iF):HO->Bool
 | .tup _=>true
 | .EH _ (.tup _)=>true
 | .ins C _ _=>C==d.HH||C==d.source
 |_=>false
def PK (d:iF) (H H':Hp):Prop:=∀b o,H b=some o->plain d o=true->H' b=some o
theorem GU {d:iF} {H H':Hp} (s:bE H H'):PK d H H':=λb o e _=>s b o e
theorem PK.trans {d:iF} {H H1 H2:Hp} (a:PK d H H1) (b:PK d H1 H2):PK d H H2:=λc o h z=>b c o (a c o h z) z
def Af (x:Addr) (H H':Hp):Prop:=∀b o,H b=some o->b≠x->H' b=some o
theorem pA {d:iF} {x:Addr} {H H':Hp} {o:HO} (hx:H x=some o) (n:plain d o=false) (k:Af x H H'):PK d H H':=λb u e z=>k b u e (λq=>by subst q;rw[hx] at e;cases e;rw[n] at z;cases z)
structure yj (d:iF) {α:Type} (R:Rep α):Prop where
 up:∀{H H':Hp} {v:V} {x:α},R H v x->PK d H H'->R H' v x
theorem gH {d:iF} {α:Type} {R:Rep α} (m:yj d R) {H H':Hp}:∀{vs:List V} {l:List α},Paired (R H) vs l->PK d H H'->Paired (R H') vs l
 |_,_,.nil,_=>.nil
 |_,_,.cons h t,s=>.cons (m.up h s) (gH m t s)
section
variable {K:af} {d:iF}
theorem SU {H H':Hp} {a:Addr} {xs:List V} (e:PK d H H') (h:mK K H a xs):mK K H' a xs:=by
 rcases h with(h|⟨o,h⟩)|h
 .exact .inl (.inl (e _ _ h rfl))
 .exact .inl (.inr ⟨o,e _ _ h rfl⟩)
 .exact .inr h
theorem nL:yj d (Fr K):=⟨λ⟨a,e,h⟩ s=>⟨a,e,SU s h⟩⟩
theorem j8 {α:Type} {R:Rep α} (m:yj d R):yj d (kI K R):=⟨λ⟨a,vs,e,h,p⟩ s=>⟨a,vs,e,SU s h,gH m p s⟩⟩
theorem wq:yj d (mI K d):=⟨λ⟨a,dx,g,e,h,t⟩ s=>⟨a,dx,g,e,s _ _ h (by simp[plain]),(j8 nL).up t s⟩⟩
theorem y3:yj d (SrcR K d):=⟨λ⟨a,dx,g,e,h,t⟩ s=>⟨a,dx,g,e,s _ _ h (by simp[plain]),(j8 nL).up t s⟩⟩
end
structure YA where
 ya:Addr
 pl:Addr
 sl:Addr
 la:Addr
 ma:Addr
 as:List Addr
 ll:List Addr
def YA.own (y:YA):List Addr:=y.ya::y.pl::y.sl::y.la::y.ma::(y.as++y.ll)
def Zf (k m:Nat) (l:Addr):List (Str×V):=[("sort_number",.int (k:Nat)),("most",.int (m:Nat)),("lots",.ref l)]
def ZV (y:YA) (m:MS) (pm tm:V):List (Str×V):=
 [("piles",.ref y.pl),("sources",.ref y.sl),("amount",.int (m.want.amount:Nat)),("leasts",.ref y.la),("mosts",.ref y.ma),("put_weight",.int (m.ve:Nat)),("put_metal",pm),("taken_weight",.int (m.jV:Nat)),("taken_metal",tm)]
def nats (l:List Nat):List Int:=l.map λ(n:Nat)=>(n:Int)
def oo (K:af) (d:iF) (H:Hp) (a l:Addr) (p:dh):Prop:=(∃dx,H a=some (.ins d.pile dx (Zf p.kind p.most l)))/\∃lvs,H l=some (.lst lvs)/\Paired (mI K d H) lvs p.lots
structure bI (K:af) (d:iF) (O H:Hp) (y:YA) (m:MS):Prop where
 same:bE O H
 off:∀b,b∈y.own->O b=none
 ps:y.pl≠y.sl
 lp:∀b,b∈y.la::y.ma::y.ll->b≠y.pl/\b≠y.sl
 nd:y.as.Nodup
 n1:y.as.length=m.piles.length
 n2:y.ll.length=m.piles.length
 yd:∃dx pm tm,H y.ya=some (.ins d.jh dx (ZV y m pm tm))/\kI K (Fr K) H pm m.wc/\kI K (Fr K) H tm m.mB
 zO:H y.pl=some (.lst (y.as.map V.ref))
 HI:∀(i:Nat) (p:dh),m.piles[i]?=some p->∃a l,y.as[i]?=some a/\y.ll[i]?=some l/\oo K d H a l p
 src:∃x3,H y.sl=some (.lst x3)/\Paired (SrcR K d H) x3 m.sources
 lst:H y.la=some (.lst ((nats m.want.least).map V.int))
 Gn:H y.ma=some (.lst ((nats m.want.most).map V.int))
section
variable {K:af} {mg:Str->Option Value} {d:iF} {O H H':Hp} {y:YA} {m:MS} {σ:L2.St} {Q:VK} {D:Ends}
theorem oo.up {a l:Addr} {p:dh} (h:oo K d H a l p) (ka:∀o,H a=some o->H' a=some o) (kl:∀o,H l=some o->H' l=some o) (k:PK d H H'):oo K d H' a l p:=by
 obtain⟨⟨dx,h1⟩,lvs,h2,h3⟩:=h;exact⟨⟨dx,ka _ h1⟩,lvs,kl _ h2,gH wq h3 k⟩
theorem bI.up (Y:bI K d O H y m) (s:bE H H'):bI K d O H' y m where
 same:=Y.same.trans s
 off:=Y.off
 ps:=Y.ps
 lp:=Y.lp
 nd:=Y.nd
 n1:=Y.n1
 n2:=Y.n2
 yd:=let⟨dx,pm,tm,h,p,t⟩:=Y.yd;⟨dx,pm,tm,s _ _ h,(oh bU).up p s,(oh bU).up t s⟩
 zO:=s _ _ Y.zO
 HI:=λi p e=>let⟨a,l,h1,h2,h3⟩:=Y.HI i p e;⟨a,l,h1,h2,h3.up (λo=>s _ o) (λo=>s _ o) (GU s)⟩
 src:=let⟨x3,h,p⟩:=Y.src;⟨x3,s _ _ h,aU mr p s⟩
 lst:=s _ _ Y.lst
 Gn:=s _ _ Y.Gn
theorem bI.there (Y:bI K d O H y m):∀b,b∈y.own->∃o,H b=some o:=by
 intro b hb;unfold YA.own at hb;obtain⟨dx,pm,tm,h1,_⟩:=Y.yd;obtain⟨x3,h2,_⟩:=Y.src;simp only[aB,aE] at hb;rcases hb with e|e|e|e|e|e|e
 .rw[e];exact⟨_,h1⟩
 .rw[e];exact⟨_,Y.zO⟩
 .rw[e];exact⟨_,h2⟩
 .rw[e];exact⟨_,Y.lst⟩
 .rw[e];exact⟨_,Y.Gn⟩
 .obtain⟨i,hi,e⟩:=cQ.mp e;have n1:=Y.n1;obtain⟨a,l,h3,_,⟨dx,h4⟩,_⟩:=Y.HI i _ (ah (~~~62));rw[ah hi] at h3;cases h3;rw[<-e];exact⟨_,h4⟩
 .obtain⟨i,hi,e⟩:=cQ.mp e;have n2:=Y.n2;obtain⟨a,l,_,h3,_,lvs,h4,_⟩:=Y.HI i _ (ah (~~~62));rw[ah hi] at h3;cases h3;rw[<-e];exact⟨_,h4⟩
def qk (y:YA) (H:Hp):Hp:=λb=>if b∈y.own then none else H b
theorem bI.hold (Y:bI K d O H y m):bI K d (qk y H) H y m:=
 {Y with
  same:=λb o e=>by unfold qk at e;split at e;cases e;exact e
  off:=λb hb=>by unfold qk;rw[if_pos hb]}
theorem held {b:Addr} {o:HO} (h:H b=some o) (n:b∉y.own):qk y H b=some o:=by unfold qk;rw[if_neg n];exact h
theorem bI.less (Y:bI K d O H y m) {O':Hp} (h:∀b o,O' b=some o->O b=some o):bI K d O' H y m:=
 {Y with
  same:=λb o e=>Y.same b o (h b o e)
  off:=λb hb=>by
   cases q:O' b with
   |none=>rfl
   |some o=>have:=h b o q;rw[Y.off b hb] at this;cases this}
theorem bI.fresh (Y:bI K d O H y m) {b:Addr} (h:H b=none):b∉y.own:=λhb=>by
 obtain⟨o,q⟩:=Y.there b hb;rw[q] at h;cases h
variable (T:Top K mg d)
include T
theorem xY {f:Str} (mf:f∈(["piles","sources","amount","leasts","mosts","put_weight","put_metal","taken_weight","taken_metal"]:List Str)) (Y:bI K d O H y m)
  (q:∀pm tm,kI K (Fr K) H pm m.wc->kI K (Fr K) H tm m.mB->∃v,(ZV y m pm tm).lookup f=some v/\Q v H):nk K f (~~~268) H Q:=by
 obtain⟨dx,pm,tm,h,p,t⟩:=Y.yd;obtain⟨v,l,q⟩:=q pm tm p t;exact o6 T.jh mf h l q
theorem u7 (Y:bI K d O H y m) (q:Q (.ref y.pl) H):nk K "piles" (~~~268) H Q:=xY T (~~~63) Y λ_ _ _ _=>⟨_,rfl,q⟩
theorem dJ (Y:bI K d O H y m) (q:Q (.ref y.sl) H):nk K "sources" (~~~268) H Q:=xY T (~~~63) Y λ_ _ _ _=>⟨_,rfl,q⟩
theorem xX (Y:bI K d O H y m) (q:Q (.int (m.want.amount:Nat)) H):nk K "amount" (~~~268) H Q:=xY T (~~~63) Y λ_ _ _ _=>⟨_,rfl,q⟩
theorem uH (Y:bI K d O H y m) (q:Q (.ref y.la) H):nk K "leasts" (~~~268) H Q:=xY T (~~~63) Y λ_ _ _ _=>⟨_,rfl,q⟩
theorem xZ (Y:bI K d O H y m) (q:Q (.ref y.ma) H):nk K "mosts" (~~~268) H Q:=xY T (~~~63) Y λ_ _ _ _=>⟨_,rfl,q⟩
theorem T9 (Y:bI K d O H y m) (q:Q (.int (m.ve:Nat)) H):nk K "put_weight" (~~~268) H Q:=xY T (~~~63) Y λ_ _ _ _=>⟨_,rfl,q⟩
theorem Ua (Y:bI K d O H y m) (q:Q (.int (m.jV:Nat)) H):nk K "taken_weight" (~~~268) H Q:=xY T (~~~63) Y λ_ _ _ _=>⟨_,rfl,q⟩
theorem T8 (Y:bI K d O H y m) (q:∀v,kI K (Fr K) H v m.wc->Q v H):nk K "put_metal" (~~~268) H Q:=xY T (~~~63) Y λpm _ p _=>⟨_,rfl,q pm p⟩
theorem T_ (Y:bI K d O H y m) (q:∀v,kI K (Fr K) H v m.mB->Q v H):nk K "taken_metal" (~~~268) H Q:=xY T (~~~63) Y λ_ tm _ t=>⟨_,rfl,q tm t⟩
omit T
theorem mD (Y:bI K d O H y m):fo (SrcR K d) H (.ref y.sl) m.sources:=let⟨x3,h,p⟩:=Y.src;⟨_,x3,rfl,h,p⟩
theorem N3 (Y:bI K d O H y m):eA H (.ref y.la) (nats m.want.least):=fZ Y.lst
theorem N4 (Y:bI K d O H y m):eA H (.ref y.ma) (nats m.want.most):=fZ Y.Gn
end
section
variable {P:Program} {w:World} {K:af} {mg:Str->Option Value} {base:Heap} {d:iF} {O:Hp}
structure lK (l:List RS):Prop where
 len:l.length<=6
 g3:∀s,s∈l->s.grades.length=3
 g:∀s,s∈l->∀g,g∈s.grades->FB 200300 g
 c0:∀s,s∈l->0<=s.cost
 c:∀s,s∈l->s.cost.toNat<2^64
 t:∀s,s∈l->s.there<2^64
def Zu (K:af) (d:iF):Sp:=λvs H Q _=>∃v u l x,vs=[v,u]/\fo (SrcR K d) H v l/\fo (Fr K) H u x/\lK l/\(∀a,a∈x->FB 2000000 a)/\∀H' z,bE H H'->Fr K H' z (Mi.zv l x)->Q z H'
theorem Mg:bh ["sources","amounts","source","amount"] ["sources","amounts"] (ay (top 31)):=by walk_at "s"
theorem L4 (F:Def K mg "cost_of" (top 31) ["sources","amounts"]) (T:Top K mg d) (kX: ~~~24) (fE: ~~~5): ~~~27:=by
 exists Mg,0
 .obtain⟨v,u,l,x,rfl,_⟩:=h;rfl
 obtain⟨v,u,l,x,rfl,hl,hx,S,bx,q⟩:=h;refine⟨_,(aD (bw (a9 kX (~~~61) rfl (ae (iN rfl nd (kq K T.zip (~~~184)) (cH (N:=["sources","amounts","source","amount"]) (sc:=ay (top 31)) (own:=[("source",2),("amount",3)]) (~~~63)) (λ_ _ _ _ _=>(EZ K 2 (cJ (cK 2 nd) (cJ (cK 3 nd) gI)))) (~~~71) (λ_ _ _ _ _=>(a9 fE (~~~61) rfl (ae (pv 3) (~~~195))))) aj)))),?_⟩;exists 55;obtain⟨xa,Xv,rfl,xs,xp⟩:=hx;exists ⟨false,false,ga,xa,_,_,rfl,dz.of gs,dz.of xs,λD hD=>fj (mO mr bU (p1:=false) (p2:=false) (dz.of gs) (dz.of xs) gp xp) (S:=Fr K) (f:=λp=>p.2*((p.1.cost:Int):Rat)) bU hD ?_ (λi z y H' hz s' rr Q' kk=>?_) (~~~302)⟩
 .rw[bC];have:=S.len;omega
 .exists 20;exists 24;exists xT T r1 ?_;exists 142;have c0:=S.c0 _ zm.1;have ec:((z.1.cost.toNat:Nat):Int)=z.1.cost:=by omega
  refine⟨x2,z.2,z.1.cost.toNat,by rw[ec];rfl,r2,(bx _ zm.2).le (~~~73),aT (S.c _ zm.1) (~~~203),trivial,λH6 w s6 hw=>kk w H6 s6 (gJ ?_)⟩;have er:((z.1.cost:Int):Rat)=((z.1.cost.toNat:Nat):Rat):=by rw[<-ec];rfl
  rw[er];exact hw
 .exists 0;have ll:((l.zip x).map λp=>p.2*((p.1.cost:Int):Rat)).length <=6:=by rw[ag,bC];have:=S.len;omega
  refine⟨.ref D,_,2000064,rfl,⟨D,ys,rfl,U',pr⟩,?_,?_,λH6 z s6 hz=>q H6 z (s5.trans s6) hz⟩
  .intro y hy;obtain⟨p,hp,rfl⟩:=aS.mp hy;have zm:=cE hp;have c0:=S.c0 _ zm.1;have er:((p.1.cost:Int):Rat)=((p.1.cost.toNat:Nat):Rat):=by
    have ec:((p.1.cost.toNat:Nat):Int)=p.1.cost:=by omega
    rw[<-ec];rfl
   rw[er];exact(nT (a:=2000000) (b:=64) (bx _ zm.2) (mM (S.c _ zm.1) (~~~73))).le (~~~73)
  .exact bA (de (de (bQ (2000064+1) ll) 1) 2000064) (~~~73)
def Mo (K:af) (d:iF):Sp:=λvs H Q _=>∃v u l x k,vs=[v,u,.int (k:Nat)]/\fo (SrcR K d) H v l/\fo (Fr K) H u x/\lK l/\k<3/\(∀a,a∈x->FB 2000000 a)/\∀H' z,bE H H'->Fr K H' z (Mi.gE l x k)->Q z H'
theorem ZO {α:Type} {R:Rep α} {H:Hp} {v:V} {l:List α} {k:Nat} {x:α} {Q:VK} (h:kI K R H v l) (e:l[k]?=some x) (q:∀u,R H u x->Q u H):S_ K v (.int (k:Nat)) H Q:=by
 obtain⟨a,vs,rfl,s,p⟩:=h;obtain⟨u,hu,r⟩:=sj p e;exact⟨a,vs,_,u,rfl,rfl,s,w_ hu,q u r⟩
theorem AB:bh ["sources","amounts","kind","source","amount"] ["sources","amounts","kind"] (ay (top 32)):=by walk_at "s"
theorem As (F:Def K mg "metal_in_all" (top 32) ["sources","amounts","kind"]) (T:Top K mg d) (kX: ~~~24) (mU: ~~~3): ~~~26:=by
 exists AB,0
 .obtain⟨v,u,l,x,k,rfl,_⟩:=h;rfl
 obtain⟨v,u,l,x,k,rfl,hl,hx,S,k3,bx,q⟩:=h;refine⟨_,(aD (bw (a9 kX (~~~61) rfl (ae (iN rfl nd (kq K T.zip (~~~184)) (cH (N:=["sources","amounts","kind","source","amount"]) (sc:=ay (top 32)) (own:=[("source",3),("amount",4)]) (~~~63)) (~~~87) (~~~71) (λ_ _ _ _ _=>(a9 mU (~~~61) rfl (ae (pv 4) (ae (cD (rg K) (~~~256) (pv 2) (~~~74)) aj))))) aj)))),?_⟩;exists 55;obtain⟨xa,Xv,rfl,xs,xp⟩:=hx;exists ⟨false,false,ga,xa,_,_,rfl,dz.of gs,dz.of xs,λD hD=>fj (mO mr bU (p1:=false) (p2:=false) (dz.of gs) (dz.of xs) gp xp) (S:=Fr K) (f:=λp=>p.2*p.1.grades.getD k 0) bU hD ?_ (λi z y H' hz s' rr Q' kk=>?_) (~~~302)⟩
 .rw[bC];have:=S.len;omega
 .exists 20;exists 24;exists Hm T r1 λg hg=>?_;exists 142;have g3:=S.g3 _ zm.1;refine ZO hg (x:=z.1.grades.getD k 0) (by rw[Mi.getD_in 0 (~~~62)];exact ah (~~~62)) λgv hgv=>?_;exists ⟨x2,gv,z.2,_,rfl,r2,hgv,(bx _ zm.2).le (~~~73),(~~~172).le (~~~73),λH6 w s6 hw=>kk w H6 s6 (gJ hw)⟩
 .exists 0;have ll:((l.zip x).map λp=>p.2*p.1.grades.getD k 0).length <=6:=by rw[ag,bC];have:=S.len;omega
  refine⟨.ref D,_,2200300,rfl,⟨D,ys,rfl,U',pr⟩,?_,?_,λH6 z s6 hz=>q H6 z (s5.trans s6) hz⟩
  .intro y hy;obtain⟨p,hp,rfl⟩:=aS.mp hy;have zm:=cE hp;have g3:=S.g3 _ zm.1;exact(nT (a:=2000000) (b:=200300) (bx _ zm.2) (~~~172)).le (~~~73)
  .exact bA (de (de (bQ (2200300+1) ll) 1) 2200300) (~~~73)
def J8:Sp:=λvs H Q _=>∃v l,vs=[v]/\fo pR H v l/\∀H',bE H H'->Q (.int (Mi.gi l:Nat)) H'
theorem vI:∀(l:List Bool) (i n:Nat),(∀j b,j<i->l[j]?=some b->b=false)->i<=l.length->Mi.mN l n=Mi.mN (l.drop i) (n+i)
 |l,0,n,_,_=>by simp
 | [],i+1,n,_,h=>by simp at h
 |b::l,i+1,n,h,hl=>by
  have hb:=h 0 b (~~~62) rfl;subst hb;rw[oi];show Mi.mN l (n+1)=_;rw[vI l i (n+1) (λj c hj e=>h (j+1) c (~~~62) e) (by simpa using hl),vh,oB 1 i]
theorem Ec:bh ["answers","number","answer"] ["answers"] (ay (top 33)):=by walk_at "s"
theorem DM (F:Def K mg "first_true" (top 33) ["answers"]) (T:Top K mg d): ~~~25:=by
 exists Ec,0
 .exists 139
 obtain⟨v,l,rfl,hl,q⟩:=h;refine⟨_,(ao (jv PassesOwn.never rfl (JJ K T.enumerate (~~~311) aF) (EZ K 2 (cJ (cK 1 nd) (cJ (cK 2 nd) gI)))
   (aD (gN (mn (pv 2)) (aD (bw (pv 1))) d5)))
   (aD (bw aF))),?_⟩
 exists 55;exists ot ?_;exists ⟨false,ga,_,rfl,rfl,dz.of gs,jr (uQ (K:=K) jw (tp:=false) 1 (dz.of gs) gp) (λi σ H'=>bE H H'/\(∃r1 r2,σ=[some (.ref ga),r1,r2])/\∀j b,j<i->l[j]?=some b->b=false) ⟨bE.refl _,⟨none,none,rfl⟩,λj b hj=>by omega⟩ (~~~102) ?_ ?_⟩
 .rintro i z x σ H2 hz s2 r ⟨H0,⟨s0,⟨r1,r2,rfl⟩,no⟩,s3⟩;obtain⟨Tt,u,rfl,hT,hu⟩:=r;have hu:u=.bl z.1:=hu;subst hu;have rf:l[i]?=some z.1/\z.2=i:=by
   rw[da] at hz;cases e:l[i]? with
   |none=>rw[e] at hz;cases hz
   |some b=>rw[e] at hz;cases hz;exact⟨rfl,by simp⟩
  exists qP hT rfl ?_;exists 0;cases eb:z.1 with
  |true=>
   exists 103;exists 0;have il:i<l.length:=(aO.mp rf.1).1;have e:=vI l i 1 no (~~~62);have e2:l.drop i=true::l.drop (i+1):=by
    rw[fX il];have:=(aO.mp rf.1).2;rw[this,eb]
   have:Mi.gi l=i+1:=by unfold Mi.gi;rw[e,e2];show(if true=true then 1+i else _)=_;rw[if_pos rfl];omega
   have q':=q H2 s2;rw[this] at q';rw[rf.2];exact q'
  |false=>
   exists 85;exists ⟨s2,⟨_,_,rfl⟩,λj b hj hb=>?_⟩;by_cases c:j<i
   .exact no j b c hb
   .have:j=i:=by omega
    subst this;rw[rf.1] at hb;cases hb;exact eb
 .rintro σ H2 ⟨s2,⟨r1,r2,rfl⟩,no⟩;rw[dv] at no;exists 0;have e:=vI l l.length 1 no (aM _);have:Mi.gi l=0:=by unfold Mi.gi;rw[e,qw];rfl
  have q':=q H2 s2;rw[this] at q';exact q'
def ZF:List V->List (Str×V)
 | [a,b,c]=>[("cost",a),("kilograms",b),("grades",c)]
 |_=>[]
theorem CJ:bh ["self","cost","kilograms","grades"] ["self","cost","kilograms","grades"] (ay (inClass (top 27) 0)):=by walk_at "s"
theorem Pr (F:lz K mg "Source" d.source "Source.__init__" (inClass (top 27) 0) ["self","cost","kilograms","grades"]) (T:Top K mg d):mE P w K mg base 41 "Source" d.source (xR d.source 3 ZF):=by
 exists CJ,0
 .exists 104
 obtain⟨p,dx,us,rfl,hl,hp,q⟩:=h
 match us,hl with
 | [a,b,c],_=>
 refine⟨_,(ao (tI K (pv 0) (pv 1))
   (ao (tI K (pv 0) (pv 2))
   (aD (tI K (pv 0) (pv 3))))),?_⟩
 exists gD T.source (~~~63) hp (by show 0<1000;decide) λH1 h1 k1=>?_;exists gD T.source (~~~63) h1 (by show 1<1000;decide) λH2 h2 k2=>?_;exists gD T.source (~~~63) h2 (by show 2<1000;decide) λH3 h3 k3=>?_;exact q H3 h3 λb o e hb=>k3 b o (k2 b o (k1 b o e hb) hb) hb
def abW:List V->List (Str×V)
 | [a,b]=>[("kilograms",a),("metal",b)]
 |_=>[]
theorem CG:bh ["self","kilograms","metal"] ["self","kilograms","metal"] (ay (inClass (top 44) 0)):=by walk_at "s"
theorem Pp (F:lz K mg "Parcel" d.lH "Parcel.__init__" (inClass (top 44) 0) ["self","kilograms","metal"]) (T:Top K mg d):mE P w K mg base 41 "Parcel" d.lH (xR d.lH 2 abW):=by
 exists CG,0
 .exists 104
 obtain⟨p,dx,us,rfl,hl,hp,q⟩:=h
 match us,hl with
 | [a,b],_=>
 refine⟨_,(ao (tI K (pv 0) (pv 1))
   (aD (tI K (pv 0) (pv 2)))),?_⟩
 exists gD T.lH (~~~63) hp (by show 0<1000;decide) λH1 h1 k1=>?_;exists gD T.lH (~~~63) h1 (by show 1<1000;decide) λH2 h2 k2=>?_;exact q H2 h2 λb o e hb=>k2 b o (k1 b o e hb) hb
def Mq (d:iF):Sp:=λvs H Q _=>∃p dx a b,vs=[.ref p,a,b]/\H p=some (.ins d.pile dx [])/\∀H' l,H' p=some (.ins d.pile dx [("sort_number",a),("most",b),("lots",.ref l)])->H l=none->H' l=some (.lst [])->(∀b o,H b=some o->b≠p->H' b=some o)->Q .jL H'
theorem G0:bh ["self","sort_number","most"] ["self","sort_number","most"] (ay (inClass (top 77) 0)):=by walk_at "s"
theorem Vy (F:lz K mg "Pile" d.pile "Pile.__init__" (inClass (top 77) 0) ["self","sort_number","most"]) (T:Top K mg d):mE P w K mg base 41 "Pile" d.pile (Mq d):=by
 exists G0,0
 .obtain⟨p,dx,a,b,rfl,_⟩:=h;rfl
 obtain⟨p,dx,a,b,rfl,hp,q⟩:=h;refine⟨_,(ao (tI K (pv 0) (pv 1))
   (ao (tI K (pv 0) (pv 2))
   (aD (tI K (pv 0) (bZ aj))))),?_⟩
 exists gD T.pile (~~~63) hp (by show 0<1000;decide) λH1 h1 k1=>?_;exists gD T.pile (~~~63) h1 (by show 1<1000;decide) λH2 h2 k2=>?_;exists bY (by show 0<=sizeLine;exact cj _) λH3 l s3 n3 h3=>?_;exists 0;have hl:H l=none:=by
  cases e:H l with
  |none=>rfl
  |some o=>
   by_cases c:l=p
   .subst c;rw[h2] at n3;cases n3
   .rw[k2 l o (k1 l o e c) c] at n3;cases n3
 refine gD T.pile (~~~63) (s3 _ _ h2) (by show 2<1000;decide) λH4 h4 k4=>?_;exact q H4 l h4 hl (k4 _ _ h3 (λc=>by subst c;rw[hp] at hl;cases hl)) λb o e hb=>k4 b o (s3 _ _ (k2 b o (k1 b o e hb) hb)) hb
theorem OU {σ:L2.St} {H:Hp} {Q:VK} {a b:V} (h:∀(H':Hp) (p dx l:Addr),bE H H'->H p=none->H l=none->p≠l->H' p=some (.ins d.pile dx [("sort_number",a),("most",b),("lots",.ref l)])->H' l=some (.lst [])->Q (.ref p) H'):QZ d.pile (Mq d) Q [a,b] H:=by
 intro x dx hx Vc jE;refine⟨x,dx,a,b,rfl,cU,λH' l h1 h2 h3 h4=>⟨rfl,?_⟩⟩;have lx:x≠l:=λc=>by subst c;rw[cU] at h2;cases h2
 have hl:H l=none:=by
  rw[c6 lx.symm] at h2;by_cases c:l=dx
  .subst c;rw[cU] at h2;cases h2
  .rw[c6 c] at h2;exact h2
 exact h H' x dx l (bE.made hx Vc h4) hx hl lx h1 h3
def Tz (K:af) (d:iF):Sp:=λvs H Q _=>∃O y m p a,vs=[.ref y.ya,.int p]/\bI K d O H y m/\Mi.cC m p=true/\y.as[p.toNat-1]?=some a/\Q (.ref a) H
theorem Mh:bh ["yard","number"] ["yard","number"] (ay (top 29)):=by walk_at "s"
theorem L6 (F:Def K mg "pile_at" (top 29) ["yard","number"]) (T:Top K mg d): ~~~28:=by
 exists Mh,0
 .obtain⟨O,y,m,p,a,rfl,_⟩:=h;rfl
 obtain⟨O,y,m,p,a,rfl,Y,ip,ha,q⟩:=h;refine⟨_,(aD (bw (cD (o9 K) (~~~95) (b_ r9 (pv 1) aF) (~~~74)))),?_⟩;exists u7 T Y ?_;exists 0;have pp:1<=p:=by
  unfold Mi.cC at ip;rw[aC,decide_eq_true_iff,decide_eq_true_iff] at ip;exact ip.1
 have e:p-1=((p.toNat-1:Nat):Int):=by omega
 rw[e];refine gY Y.zO (v:=.ref a) (w_ (by rw[bo,ha];rfl)) q
def ae' (a b c e:V):List (Str×V):=[("wanted",a),("leasts",b),("mosts",c),("sources",e)]
def Br (K:af) (d:iF):Rep Mi.RP:=λH v x=>∃a dx wv lv mv sv,v=.ref a/\H a=some (.ins d.ju dx (ae' wv lv mv sv))/\Fr K H wv x.wanted/\fo (Fr K) H lv x.jT/\fo (Fr K) H mv x.mG/\fo (Fr K) H sv x.sources
theorem pE:ja (Br K d):=⟨λ⟨a,dx,wv,lv,mv,sv,e,h,h1,h2,h3,h4⟩ s=>⟨a,dx,wv,lv,mv,sv,e,s _ _ h,bU.up h1 s,(cS bU).up h2 s,(cS bU).up h3 s,(cS bU).up h4 s⟩⟩
def xS (K:af) (d:iF):Sp:=λvs H Q _=>∃p dx v f,vs=[.ref p,v]/\fo (Fr K) H v f/\7<=f.length/\H p=some (.ins d.ju dx [])/\∀H',Br K d H' (.ref p) (Mi.iO f)->(∀b o,H b=some o->b≠p->H' b=some o)->Q .jL H'
theorem l9 {α:Type} {R:Rep α} {H:Hp} {v:V} {l:List α} {k:Nat} {x:α} {Q:VK} (h:fo R H v l) (e:l[k]?=some x) (q:∀u,R H u x->Q u H):S9 K v (.int (k:Nat)) H Q:=by
 obtain⟨a,vs,rfl,s,p⟩:=h;obtain⟨u,hu,r⟩:=sj p e;exact gY s (w_ hu) (q u r)
theorem Bx {H H':Hp} {x:Addr} {C dx:Addr} {fs:List (Str×V)} (hx:H x=some (~~~161)) (k:Af x H H') {v:V} {y:Rat} (h:Fr K H v y):Fr K H' v y:=by
 obtain⟨a,e,s⟩:=h;refine⟨a,e,?_⟩;have ne:∀o,H a=some o->(∀C dx fs,o≠ .ins C dx fs)->H' a=some o:=λo e z=>k a o e (λq=>by subst q;rw[hx] at e;cases e;exact z _ _ _ rfl);rcases s with(s|⟨o,s⟩)|s
 .exact .inl (.inl (ne _ s λ_ _ _ z=>nomatch z))
 .exact .inl (.inr ⟨o,ne _ s λ_ _ _ z=>nomatch z⟩)
 .exact .inr s
theorem M8 {H H':Hp} {x:Addr} {C dx:Addr} {fs:List (Str×V)} (hx:H x=some (~~~161)) (k:Af x H H'):∀{vs:List V} {l:List Rat},Paired (Fr K H) vs l->Paired (Fr K H') vs l
 |_,_,.nil =>.nil
 |_,_,.cons h t=>.cons (Bx hx k h) (M8 hx k t)
theorem oE {H H':Hp} {x:Addr} {C dx:Addr} {fs:List (Str×V)} (hx:H x=some (~~~161)) (k:Af x H H') {v:V} {l:List Rat} (h:fo (Fr K) H v l):fo (Fr K) H' v l:=by
 obtain⟨a,vs,e,s,p⟩:=h;exact⟨a,vs,e,k _ _ s (λq=>by subst q;rw[hx] at s;cases s),M8 hx k p⟩
theorem CH:bh ["self","fractions"] ["self","fractions"] (ay (inClass (top 94) 0)):=by walk_at "s"
theorem Pq (F:lz K mg "Prices" d.ju "Prices.__init__" (inClass (top 94) 0) ["self","fractions"]) (T:Top K mg d):mE P w K mg base 41 "Prices" d.ju (xS K d):=by
 exists CH,0
 .obtain⟨p,dx,v,f,rfl,_⟩:=h;rfl
 obtain⟨p,dx,v,f,rfl,hv,l7,hp,q⟩:=h;refine⟨_,(ao (tI K (pv 0) (~~~64))
   (ao (tI K (pv 0) (~~~193))
   (ao (tI K (pv 0) (~~~193))
   (aD (tI K (pv 0) (jH (QM K) (pv 1) (fh aF) xI)))))),?_⟩
 exists l9 (k:=0) hv (x:=f.getD 0 0) (by rw[Mi.getD_in 0 (~~~62)];exact ah (~~~62)) λwv hw=>?_;exists gD T.ju (~~~63) hp (by show 0<1000;decide) λH1 h1 k1=>?_;have k1:Af p H H1:=k1;have hv1:=oE hp k1 hv;have UH:=Bx hp k1 hw;obtain⟨va,HY,rfl,Dl,ZY⟩:=hv1;have lv:=aZ ZY;exists 136;exists ⟨4,rfl,?_⟩;refine vt Dl λH2 p2 s2 n2 h2=>?_;exists gD T.ju (~~~63) (s2 _ _ h1) (by show 1<1000;decide) λH3 h3 k3=>?_;have k3:Af p H2 H3:=k3;have e2:oF HY (some 1) (some 4)=(HY.drop 1).take 3:=oZ HY 1 4 (~~~62) (~~~62);rw[e2] at h2;have Yv:=Bx (s2 _ _ h1) k3 (bU.up UH s2);have L3:=oE (s2 _ _ h1) k3 (show fo (Fr K) H2 (.ref p2) ((f.drop 1).take 3) from⟨p2,_,rfl,h2,lQ 3 (j7 1 (aU bU ZY s2))⟩);obtain⟨va3,Wj,e3,HX,ZZ⟩:=oE (s2 _ _ h1) k3 (show fo (Fr K) H2 (.ref va) f from⟨va,HY,rfl,s2 _ _ Dl,aU bU ZY s2⟩);cases e3;have lv3:=aZ ZZ;exists ⟨4,rfl,?_⟩;exists ⟨7,rfl,?_⟩;refine vt HX λH4 p4 s4 n4 h4=>?_;exists gD T.ju (~~~63) (s4 _ _ h3) (by show 2<1000;decide) λH5 h5 k5=>?_;have k5:Af p H4 H5:=k5;have e4:oF Wj (some 4) (some 7)=(Wj.drop 4).take 3:=oZ Wj 4 7 (~~~62) (~~~62);rw[e4] at h4;have UI:=Bx (s4 _ _ h3) k5 (bU.up Yv s4);have L5:=oE (s4 _ _ h3) k5 ((cS bU).up L3 s4);have M5:=oE (s4 _ _ h3) k5 (show fo (Fr K) H4 (.ref p4) ((f.drop 4).take 3) from⟨p4,_,rfl,h4,lQ 3 (j7 4 (aU bU ZZ s4))⟩);obtain⟨va5,ZS,e5,vs5,vp5⟩:=oE (s4 _ _ h3) k5 (show fo (Fr K) H4 (.ref va) f from⟨va,Wj,rfl,s4 _ _ HX,aU bU ZZ s4⟩);cases e5;have lv5:=aZ vp5;exists ⟨7,rfl,?_⟩;exists vt vs5 λH6 p6 s6 n6 h6=>?_;exists gD T.ju (~~~63) (s6 _ _ h5) (by show 3<1000;decide) λH7 h7 k7=>?_;have k7:Af p H6 H7:=k7;have e6:oF ZS (some 7) none=ZS.drop 7:=yt ZS 7 (~~~62);rw[e6] at h6;have S7:=oE (s6 _ _ h5) k7 (show fo (Fr K) H6 (.ref p6) (f.drop 7) from⟨p6,_,rfl,h6,j7 7 (aU bU vp5 s6)⟩);exact q H7 ⟨p,dx,_,_,_,_,rfl,h7,Bx (s6 _ _ h5) k7 (bU.up UI s6),oE (s6 _ _ h5) k7 ((cS bU).up L5 s6),oE (s6 _ _ h5) k7 ((cS bU).up M5 s6),S7⟩ λb o e hb=>k7 b o (s6 _ _ (k5 b o (s4 _ _ (k3 b o (s2 _ _ (k1 b o e hb)) hb)) hb)) hb
theorem IW {H:Hp} {Q:VK} {v:V} {f:List Rat} (hv:fo (Fr K) H v f) (l7:7<=f.length) (h:∀(H':Hp) (p:Addr),bE H H'->Br K d H' (.ref p) (Mi.iO f)->Q (.ref p) H'):QZ d.ju (xS K d) Q [v] H:=by
 intro x dx hx Vc jE;have s:bE H (upd (upd H dx (.own x)) x (.ins d.ju dx [])):=bE.made hx Vc λb o e _=>e;exact⟨x,dx,v,f,rfl,(cS bU).up hv s,l7,cU,λH' h1 h2=>⟨rfl,h H' x (bE.made hx Vc h2) h1⟩⟩
structure j5 (w:Vbmiak.Want):Prop where
 a:w.amount<2^64
 l3:w.least.length=3
 m3:w.most.length=3
 l:∀n,n∈w.least->n<2^64
 m:∀n,n∈w.most->n<2^64
theorem Bu {n a:Nat} (h:n<2^a) (ha:a<=B0):Bd B0 (n:Nat):=aT h (bW (~~~73) ha)
theorem Nh {H:Hp} {v:V} {x:Rat} (h:Fr K H v x):Dp K H v (.tuple [.int x.num,.int (x.den:Int)]):=by
 obtain⟨a,rfl,s⟩:=h;exact .tup s (.cons (.int _) (.cons (.int _) .nil))
theorem Ro (a b c e:Int):PyData.eqv (.tuple [.int a,.int b]) (.tuple [.int c,.int e])=(decide (a=c)&&decide (b=e)):=by
 by_cases h1:a=c
 .by_cases h2:b=e
  .subst h1 h2;simp[PyData.eqv,PyData.eqvAll]
  .subst h1;simp[PyData.eqv,PyData.eqvAll,h2]
 .simp[PyData.eqv,PyData.eqvAll,h1]
theorem Rn (x y:Rat):PyData.eqv (.tuple [.int x.num,.int (x.den:Int)]) (.tuple [.int y.num,.int (y.den:Int)])=decide (x=y):=by
 rw[Ro];by_cases h:x=y
 .subst h;simp
 .rw[decide_eq_false h,Bool.and_eq_false_iff,decide_eq_false_iff_not,decide_eq_false_iff_not];by_cases h1:x.num=y.num
  .right;intro h2;exact h (Rat.ext h1 (~~~62))
  .exact .inl h1
theorem F8 {H:Hp} {p:Addr} {n:Nat} (h:mK K H p [.int (n:Nat),.int 1]):Fr K H (.ref p) (n:Rat):=⟨p,rfl,by rw[jC,kQ];exact h⟩
def V6 (K:af) (d:iF):Sp:=λvs H Q _=>∃O y m u x,vs=[.ref y.ya,u]/\bI K d O H y m/\fo (Fr K) H u x/\lK m.sources/\j5 m.want/\x.length<=6/\(∀a,a∈x->FB 2000000 a)/\
 ∀H' p,bE H H'->H p=none->H' p=some (.lst [.int ((~~~176).1:Nat),.int ((~~~176).2:Nat)])->Q (.ref p) H'
theorem vG:∀(l:List (List Bool)) (i n:Nat),(∀j b,j<i->l[j]?=some b->¬ 0<Mi.gi b)->i<=l.length->Mi.jb l n=Mi.jb (l.drop i) (n+i)
 |l,0,n,_,_=>by simp
 | [],i+1,n,_,h=>by simp at h
 |b::l,i+1,n,h,hl=>by
  have hb:=h 0 b (~~~62) rfl;rw[oi];show(if 0<Mi.gi b then _ else Mi.jb l (n+1))=_;rw[if_neg hb,vG l i (n+1) (λj c hj e=>h (j+1) c (~~~62) e) (by simpa using hl),vh,oB 1 i]
theorem gZ {H' H4:Hp} (b:Bool):∀pJ,yi H' H4 pJ->pR pJ (.bl b) b:=λ_ _=>rfl
theorem CP:bh ["yard","amounts","together","metal","faults","number","answers","which","kind","amount","source","grams","least","most"] ["yard","amounts"] (ay (top 34)):=by walk_at "s"
theorem Cn (F:Def K mg "first_fault" (top 34) ["yard","amounts"]) (T:Top K mg d) (kX: ~~~24) (fE: ~~~5) (je: ~~~26)
  (lG: ~~~0) (sf: ~~~25): ~~~29:=by
 exists CP,0
 .obtain⟨O,y,m,u,x,rfl,_⟩:=h;rfl
 obtain⟨O,y,m,u,x,rfl,Y,hx,S,W,xl,bx,q⟩:=h;refine⟨_,(ao (b9 2 nd (a9 kX (~~~61) rfl (~~~107)))
   (ao (sW 3 nd (yR rfl T.range (ae aF aj)) (cH (N:=["yard","amounts","together","metal","faults","number","answers","which","kind","amount","source","grams","least","most"]) (sc:=ay (top 34)) (own:=[("kind",8)]) (~~~63)) (~~~224) (~~~71) (λ_ _ _ _ _=>(a9 fE (~~~61) rfl (ae (a9 je (~~~61) rfl (ae (~~~95) (ae (pv 1) (ae (pv 8) aj)))) (ae (iU T.iG rfl) aj)))))
   (ao (b9 4 nd (jU (ae (iN rfl nd (v9 K (pv 1)) (cH (N:=["yard","amounts","together","metal","faults","number","answers","which","kind","amount","source","grams","least","most"]) (sc:=ay (top 34)) (own:=[("amount",9)]) (~~~63)) (λ_ _ _ _ _=>(cK 9 nd)) (~~~71) (λ_ _ _ _ _=>(a9 lG (~~~61) rfl (ae (pv 9) (ae (ic T.uJ rfl) aj))))) (ae (iN rfl nd (kq K T.zip (ae (~~~95) (~~~107))) (cH (N:=["yard","amounts","together","metal","faults","number","answers","which","kind","amount","source","grams","least","most"]) (sc:=ay (top 34)) (own:=[("source",10),("amount",9)]) (~~~63)) (λ_ _ _ _ _=>(EZ K 2 (cJ (cK 10 nd) (cJ (cK 9 nd) gI)))) (~~~71) (λ_ _ _ _ _=>(a9 lG (~~~61) rfl (ae (jU (ae (fc K (pv 10)) (ae aF aj))) (ae (pv 9) aj))))) (ae (bZ (ae (ko (Xc K hr.units) (pv 2) (jU (ae (~~~95) (ae aF aj))) (dX _)) aj)) (ae (iN rfl nd (kq K T.zip (ae (pv 3) (~~~69))) (cH (N:=["yard","amounts","together","metal","faults","number","answers","which","kind","amount","source","grams","least","most"]) (sc:=ay (top 34)) (own:=[("grams",11),("least",12)]) (~~~63)) (λ_ _ _ _ _=>(EZ K 2 (cJ (cK 11 nd) (cJ (cK 12 nd) gI)))) (~~~71) (λ_ _ _ _ _=>(a9 lG (~~~61) rfl (ae (pv 11) (ae (a9 fE (~~~61) rfl (ae (pv 2) (ae (pv 12) aj))) aj))))) (ae (iN rfl nd (kq K T.zip (ae (pv 3) (~~~69))) (cH (N:=["yard","amounts","together","metal","faults","number","answers","which","kind","amount","source","grams","least","most"]) (sc:=ay (top 34)) (own:=[("grams",11),("most",13)]) (~~~63)) (λ_ _ _ _ _=>(EZ K 2 (cJ (cK 11 nd) (cJ (cK 13 nd) gI)))) (~~~71) (λ_ _ _ _ _=>(a9 lG (~~~61) rfl (ae (a9 fE (~~~61) rfl (ae (pv 2) (ae (pv 13) aj))) (ae (pv 11) aj))))) aj)))))))
   (ao (jv PassesOwn.never rfl (JJ K T.enumerate (~~~241) aF) (~~~220)
   (ao (b9 7 nd (a9 sf (~~~61) rfl (ae (pv 6) aj)))
   (aD (gN (eC Jy (pv 7) aF (dX _)) (aD (bw (bZ (ae (pv 5) (ae (pv 7) aj))))) d5))))
   (aD (bw (~~~197))))))),?_⟩
 have XQ:FB 13000000 (Mi.nM x):=(Lx bx).le (bA (de (bQ (2000000+1) xl) 1) (~~~73));have aaJ:∀k,k<3->FB 14000000 (Mi.gE m.sources x k):=by
  intro k hk;have ll:((m.sources.zip x).map λp=>p.2*p.1.grades.getD k 0).length <=6:=by rw[ag,bC];omega
  have:∀z,z∈((m.sources.zip x).map λp=>p.2*p.1.grades.getD k 0)->FB 2200300 z:=by
   intro z hz;obtain⟨p,hp,rfl⟩:=aS.mp hz;have zm:=cE hp;have g3:=S.g3 _ zm.1;exact(nT (a:=2000000) (b:=200300) (bx _ zm.2) (~~~172)).le (~~~73)
  exact(Lx this).le (bA (de (bQ (2200300+1) ll) 1) (~~~73))
 have WH:∀z,z∈Mi.oJ m.sources x->FB 14000064 z:=by
  intro z hz;obtain⟨k,hk,rfl⟩:=aS.mp hz;exact(nT (a:=14000000) (b:=64) (aaJ k (bK.mp hk)) (~~~297)).le (~~~73)
 have aaL:∀n:Nat,n<2^64->FB 13000064 (Mi.nM x*(n:Rat)):=λn hn=>(nT (a:=13000000) (b:=64) XQ (mM hn (~~~73))).le (~~~73);exists ⟨u,x,2000000,rfl,hx,bx,?_,λH1 tv s1 ht=>?_⟩
 .exact bA (de (de (bQ (2000000+1) xl) 1) 2000000) (~~~73)
 exists ⟨3,rfl,by decide,by decide,λD hD=>fj (xx 0 3) (S:=Fr K) (f:=λk=>Mi.gE m.sources x k*1000) bU hD (~~~88) (~~~146) (λH2 YR s2 hM N'=>?_)⟩
 .subst rr;have z3:z<3:=by
   have:=aw hz;simpa using this
  exists 2;exists dJ T (Y.up (s1.trans s')) ?_;exists ⟨_,u,m.sources,x,z,by simp,mD (Y.up (s1.trans s')),(cS bU).up hx (s1.trans s'),S,z3,bx,λH6 w s6 hw=>?_⟩;exists ⟨w,_,1000,rfl,hw,(aaJ z z3).le (~~~73),Bu (a:=10) (~~~73) (~~~73),trivial,λH7 w7 s7 hw7=>kk w7 H7 (s6.trans s7) (gJ hw7)⟩
 have N':Paired (Fr K H2) YR (Mi.oJ m.sources x):=N';have KH:=s1.trans s2;obtain⟨xa,Xv,rfl,xs,xp⟩:=hx;exists ⟨xa,rfl,⟨_,dz.of (KH _ _ xs)⟩,λD1 Z4=>fj (dS bU (dz.of (KH _ _ xs)) (aU bU xp KH)) (S:=pR) (f:=λa=>decide (a<0)) jw Z4 (~~~62) (~~~146) (λH3 v1 s3 QR pr1=>?_)⟩
 .exists 2;exists ⟨v,_,z,0,rfl,rr,T.nothing H',(bx z (aw hz)).le (~~~73),xm.le (~~~73),kk _ H' (~~~218) (gZ _)⟩
 have Ax:=KH.trans s3;have Y3:=Y.up Ax;exists dJ T Y3 ?_;exists 0;obtain⟨Zq,x3,e0,ss,sp⟩:=mD Y3;cases e0;refine⟨false,false,y.sl,xa,_,_,rfl,dz.of ss,dz.of (Ax _ _ xs),λD2 hD2=>fj (mO mr bU (p1:=false) (p2:=false) (dz.of ss) (dz.of (Ax _ _ xs)) sp (aU bU xp Ax)) (S:=pR) (f:=λp=>decide (((p.1.there:Nat):Rat)<p.2)) jw hD2 (by rw[bC];omega) (~~~146) (λH4 v2 s4 Z5 pr2=>?_)⟩
 .exists 20;exists 24;exists CV T r1 ?_;exists jR (K:=K) (mC _ _) λH5 p5 s5 _ h5=>?_;exists 142;exact⟨_,x2,_,z.2,rfl,F8 h5,bU.up r2 s5,(mM (S.t _ zm.1) (~~~73)).le (~~~73),(bx _ zm.2).le (~~~73),kk _ H5 s5 (gZ _)⟩
 have JU:=s3.trans s4;have KI:=KH.trans JU;have Y4:=Y.up KI;exists xX T Y4 ?_;exists jR (K:=K) (mC _ _) λH5 p5 s5 _ h5=>?_;refine⟨_,_,Nh (bU.up ht (s2.trans (JU.trans s5))),Nh (F8 h5),rfl,rfl,?_⟩;rw[Rn];exists bY (by show 1<=sizeLine;decide) λH6 D3 s6 _ Yl=>?_;have PJ:=s5.trans s6;have DV:=KI.trans PJ;have Y6:=Y.up DV;have m6:=(JU.trans PJ) _ _ hM;exists uH T Y6 ?_;walk_at "run";obtain⟨la,e1,ls⟩:=dH (N3 Y6);cases e1;have ht6:=bU.up ht (s2.trans (JU.trans PJ));refine⟨false,false,D,y.la,_,_,rfl,dz.of m6,dz.of ls,λD4 hD4=>fj (mO bU Hn (p1:=false) (p2:=false) (dz.of m6) (dz.of ls) (aU bU N' (JU.trans PJ)) (show Paired (K_ H6) ((nats m.want.least).map V.int) m.want.least by unfold nats;rw[aI];exact AW _))
  (S:=pR) (f:=λp=>decide (p.1<Mi.nM x*((p.2:Nat):Rat))) jw hD4 (by rw[bC,W.l3];omega) (~~~146) (λH7 v4 s7 hL4 pr4=>?_)⟩
 .exists 20;have r2:x2=.int ((z.2:Nat):Int):=r2;subst r2;exists 90;exists ⟨tv,_,z.2,rfl,bU.up ht6 s',XQ.le (~~~73),aT (W.l _ zm.2) (~~~203),trivial,λH8 w8 s8 Z'=>?_⟩;exists ⟨x1,w8,z.1,_,rfl,bU.up r1 s8,Z',(WH _ zm.1).le (~~~73),(aaL _ (W.l _ zm.2)).le (~~~73),kk _ H8 s8 (gZ _)⟩
 have s67:=s7;have Y7:=Y.up (DV.trans s7);have m7:=s7 _ _ m6;exists xZ T Y7 ?_;walk_at "run";obtain⟨ma,e2,ms⟩:=dH (N4 Y7);cases e2;have ht7:=bU.up ht6 s7;refine⟨false,false,D,y.ma,_,_,rfl,dz.of m7,dz.of ms,λD5 U'=>fj (mO bU Hn (p1:=false) (p2:=false) (dz.of m7) (dz.of ms) (aU bU N' (JU.trans (PJ.trans s7))) (show Paired (K_ H7) ((nats m.want.most).map V.int) m.want.most by unfold nats;rw[aI];exact AW _))
  (S:=pR) (f:=λp=>decide (Mi.nM x*((p.2:Nat):Rat)<p.1)) jw U' (by rw[bC,W.m3];omega) (~~~146) (λH8 v5 s8 hL5 pr5=>?_)⟩
 .exists 20;have r2:x2=.int ((z.2:Nat):Int):=r2;subst r2;exists 90;exists ⟨tv,_,z.2,rfl,bU.up ht7 s',XQ.le (~~~73),aT (W.m _ zm.2) (~~~203),trivial,λH9 w9 s9 hw9=>?_⟩;exists ⟨w9,x1,_,z.1,rfl,hw9,bU.up r1 s9,(aaL _ (W.m _ zm.2)).le (~~~73),(WH _ zm.1).le (~~~73),kk _ H9 s9 (gZ _)⟩
 exists jR (K:=K) (by show 5<=sizeLine;decide) λH9 ft s9 _ hft=>?_;exists ot ?_;exists 0;have Ob:=s8.trans s9;have Xi:bE H4 H9:=PJ.trans (s7.trans Ob);have WA:bE H H9:=KI.trans Xi;have ff:Paired (fo pR H9) [.ref D1,.ref D2,.ref D3,.ref D4,.ref D5] (~~~125):=by
  refine .cons ⟨D1,v1,rfl,(s4.trans Xi) _ _ QR,?_⟩ (.cons ⟨D2,v2,rfl,Xi _ _ Z5,?_⟩ (.cons ⟨D3,_,rfl,(s7.trans Ob) _ _ Yl,?_⟩ (.cons ⟨D4,v4,rfl,Ob _ _ hL4,?_⟩ (.cons ⟨D5,v5,rfl,s9 _ _ hL5,?_⟩ .nil))))
  .exact aU jw pr1 (s4.trans Xi)
  .exact aU jw pr2 Xi
  .exact .cons rfl .nil
  .exact aU jw pr4 Ob
  .exact aU jw pr5 s9
 refine⟨true,ft,_,rfl,rfl,hft,jr (uQ (K:=K) (cS jw) (tp:=true) 1 hft ff) (λi σ H'=>bE H9 H'/\(∃r1 r2 r3,σ=[some (~~~268),some (.ref xa),some tv,some (.ref D),some (.ref ft),r1,r2,r3,none,none,none,none,none,none])/\∀j b,j<i->(~~~125)[j]?=some b->¬ 0<Mi.gi b) ⟨bE.refl _,⟨none,none,none,rfl⟩,λj b hj=>by omega⟩ (~~~102) ?_ ?_⟩
 .rintro i z x' σ Ha hz sa r ⟨H0,⟨s0,⟨r1,r2,r3,rfl⟩,no⟩,sb⟩;obtain⟨Tt,uv,rfl,hT,hu⟩:=r;have rf:(~~~125)[i]?=some z.1/\z.2=i:=by
   rw[da] at hz;cases e:(~~~125)[i]? with
   |none=>rw[e] at hz;cases hz
   |some b=>rw[e] at hz;cases hz;exact⟨rfl,by simp⟩
  exists qP hT rfl ?_;exists ⟨uv,z.1,rfl,hu,λHb sb'=>?_⟩;exists ub ?_ ?_<;>intro g1
  .exists bY (by show 2<=sizeLine;decide) λHc pc sc nc hc=>?_;have il:i< (~~~125).length :=(aO.mp rf.1).1;have e:=vG (~~~125) i 1 no (~~~62);have e2:(~~~125).drop i=z.1::(~~~125).drop (i+1):=by
    rw[fX il,(aO.mp rf.1).2]
   have ef:Mi.jQ m.want m.sources x=(1+i,Mi.gi z.1):=by
    unfold Mi.jQ;rw[e,e2];show(if 0<Mi.gi z.1 then(1+i,Mi.gi z.1) else _)=_;rw[if_pos (~~~62)]
   have sx:bE H Hb:=WA.trans (sa.trans sb');refine q Hc pc (sx.trans sc) (sx.free nc) ?_;rw[ef,hc,rf.2];have:((1+i:Nat):Int)=(i:Int)+1:=by omega
   rw[this]
  .exists ⟨sa.trans sb',⟨_,_,_,rfl⟩,λj b hj hb=>?_⟩;by_cases c:j<i
   .exact no j b c hb
   .have:j=i:=by omega
    subst this;rw[rf.1] at hb;cases hb;omega
 .rintro σ Ha ⟨sa,⟨r1,r2,r3,rfl⟩,no⟩;rw[dv] at no;exists bY (by show 2<=sizeLine;decide) λHc pc sc nc hc=>?_;have e:=vG (~~~125) _ 1 no (aM _);have ef:Mi.jQ m.want m.sources x=(0,0):=by unfold Mi.jQ;rw[e,qw];rfl
  refine q Hc pc (WA.trans (sa.trans sc)) ((WA.trans sa).free nc) ?_;rw[ef];exact hc
structure sT (p:Mi.RP) (n:Nat):Prop where
 n6:n<=6
 l3:p.jT.length=3
 m3:p.mG.length=3
 sn:p.sources.length=n
 w:FB 64 p.wanted
 l:∀x,x∈p.jT->FB 64 x
 m:∀x,x∈p.mG->FB 64 x
 s:∀x,x∈p.sources->FB 64 x
theorem pZ {H:Hp} {v:V} {p:Mi.RP} (r:Br K d H v p) (T:Top K mg d):∃wv lv mv sv,Fr K H wv p.wanted/\fo (Fr K) H lv p.jT/\fo (Fr K) H mv p.mG/\fo (Fr K) H sv p.sources/\
  (∀Q:VK,Q wv H->nk K "wanted" v H Q)/\(∀Q:VK,Q lv H->nk K "leasts" v H Q)/\(∀Q:VK,Q mv H->nk K "mosts" v H Q)/\∀Q:VK,Q sv H->nk K "sources" v H Q:=by
 obtain⟨a,dx,wv,lv,mv,sv,rfl,h,h1,h2,h3,h4⟩:=r;exact⟨wv,lv,mv,sv,h1,h2,h3,h4,λQ q=>o6 T.ju (~~~63) h rfl q,λQ q=>o6 T.ju (~~~63) h rfl q,λQ q=>o6 T.ju (~~~63) h rfl q,λQ q=>o6 T.ju (~~~63) h rfl q⟩
def Zv (K:af) (d:iF):Sp:=λvs H Q _=>∃v p n,vs=[v]/\Br K d H v p/\sT p n/\∀H',bE H H'->Q (.bl (Mi.zx p)) H'
theorem JZ:bh ["prices","price"] ["prices"] (ay (top 95)):=by walk_at "s"
theorem Jp (F:Def K mg "are_fair" (top 95) ["prices"]) (T:Top K mg d) (lG: ~~~0): ~~~34:=by
 exists JZ,0
 .obtain⟨v,p,n,rfl,_⟩:=h;rfl
 obtain⟨v,p,n,rfl,hp,PO,q⟩:=h;refine⟨_,(aD (bw (SK (cR (WI K) rfl T.any (~~~63) (ae (iN rfl nd (v9 K (b_ dY (b_ dY (~~~95) (~~~95)) (~~~95))) (cH (N:=["prices","price"]) (sc:=ay (top 95)) (own:=[("price",1)]) (~~~63)) (~~~280) (~~~71) (λ_ _ _ _ _=>(a9 lG (~~~61) rfl (ae (pv 1) (ae (ic T.uJ rfl) aj))))) aj))))),?_⟩;obtain⟨wv,lv,mv,sv,h1,⟨la,lvs,rfl,ls,lp⟩,⟨ma,YR,rfl,ms,mp⟩,h4,gw,gl,gm,gs⟩:=pZ hp T;have n6:=PO.n6;have ll:=aZ lp;have lm:=aZ mp;rw[PO.l3] at ll;rw[PO.m3] at lm;exists gl _ ?_;exists gm _ ?_;refine fA ls ms (by rw[ll,lm,sizeLine_eq];decide) λH1 p1 s1 n1 c1=>?_;exists 0;obtain⟨wv',lv',mv',sv',_,_,_,⟨sa,x3,rfl,ss,sp⟩,_,_,_,gs'⟩:=pZ (pE.up hp s1) T;have lsv:=aZ sp;rw[PO.sn] at lsv;refine gs' _ ?_;refine fA c1 ss (by rw[au,ll,lm,lsv,sizeLine_eq];omega) λH2 p2 s2 n2 c2=>?_;have uZ:=s1.trans s2;have pa:Paired (Fr K H2) (lvs++YR++x3) (p.jT++p.mG++p.sources):=d4 (d4 (aU bU lp uZ) (aU bU mp uZ)) (aU bU sp s2);refine⟨p2,rfl,⟨_,dz.of c2⟩,λD hD=>fj (dS bU (dz.of c2) pa) (S:=pR) (f:=λx=>decide (x<0)) jw hD (by rw[au,au,PO.l3,PO.m3,PO.sn];omega) (~~~78) (λH3 ys s3 hD3 pr=>?_)⟩
 .have zb:FB 64 z:=by
   have zm:=aw hz;rw[aE,aE] at zm;rcases zm with(z|z)|z
   .exact PO.l _ z
   .exact PO.m _ z
   .exact PO.s _ z
  exists 2;exists ⟨x,_,z,0,rfl,rr,T.nothing H',zb.le (~~~73),xm.le (~~~73),kk _ H' (~~~218) (gZ _)⟩
 .exists 0;rw[qH pr] at hD3;refine⟨D,_,rfl,dz.of hD3,?_⟩;exists 0;have:=q H3 (uZ.trans s3);unfold Mi.zx at this;rw[wK] at this
  first|exact this|(rw[wK];exact this)
def HZ (w:Vbmiak.Want) (p:Mi.RP) (g:List Rat) (i:Nat):Rat:=((ax i).map λi=>(i,g.getD i 0)).foldl (Mi.u5 w p) 0
theorem Ki (w:Vbmiak.Want) (p:Mi.RP) (g:List Rat) (i:Nat):HZ w p g (i+1)=Mi.u5 w p (HZ w p g i) (i,g.getD i 0):=by
 unfold HZ;rw[iu,bj,dZ];rfl
theorem getD_mem {α:Type} {l:List α} {i:Nat} (d:α) (h:i<l.length):l.getD i d∈l:=by rw[Mi.getD_in d h];exact bM _
theorem getD_get {α:Type} {l:List α} {i:Nat} (d:α) (h:i<l.length):l[i]?=some (l.getD i d):=by rw[Mi.getD_in d h];exact ah h
theorem M7 {w:Vbmiak.Want} {p:Mi.RP} {n:Nat} (W:j5 w) (PO:sT p n) {g:Rat} (hg:FB 200300 g) {i:Nat} (h:i<3):FB 200400 (g*1000)/\FB 200500 (~~~240)/\FB 200500 (~~~254)/\
  FB 200600 (p.jT.getD i 0*(~~~240))/\FB 200600 (p.mG.getD i 0*(~~~254)):=by
 have a:FB 200364 (g*1000):=nT (a:=200300) (b:=64) hg (~~~297);have l:=W.l _ (getD_mem 0 (by rw[W.l3];exact h):w.least.getD i 0∈w.least);have m:=W.m _ (getD_mem 0 (by rw[W.m3];exact h):w.most.getD i 0∈w.most);have b:FB 200500 (~~~240):=(F1 a (mM l (~~~73))).le (~~~73);have c:FB 200500 (~~~254):=(F1 (mM m (~~~73)) a).le (~~~73);exact⟨a.le (~~~73),b,c,(nT (PO.l _ (getD_mem 0 (by rw[PO.l3];exact h))) b).le (~~~73),(nT (PO.m _ (getD_mem 0 (by rw[PO.m3];exact h))) c).le (~~~73)⟩
theorem MI {w:Vbmiak.Want} {p:Mi.RP} {n:Nat} (W:j5 w) (PO:sT p n) {g:List Rat} (hg:∀x,x∈g->FB 200300 x) (g3:g.length=3):∀i,i<=3->FB (i*401300+1) (HZ w p g i)
 |0,_=>by rw[Nat.zero_mul];exact xm
 |i+1,h=>by
  rw[Ki];obtain⟨_,_,_,a,b⟩:=M7 W PO (hg _ (getD_mem 0 (~~~62):g.getD i 0∈g)) (by omega:i<3);have:=yx (MI W PO hg g3 i (~~~62)) (yx a b);exact this.le (~~~62)
theorem Xt {w:Vbmiak.Want} {p:Mi.RP} {n:Nat} (W:j5 w) (PO:sT p n) {g:List Rat} (hg:∀x,x∈g->FB 200300 x) (g3:g.length=3):FB 1300000 (Mi.lI w p g):=by
 have:=MI W PO hg g3 3 (aM _);unfold Mi.lI;rw[g3];exact this.le (~~~73)
def Hl (K:af) (d:iF):Sp:=λvs H Q _=>∃O y m u p v s n,vs=[.ref y.ya,u,v]/\bI K d O H y m/\Br K d H u p/\SrcR K d H v s/\j5 m.want/\sT p n/\s.grades.length=3/\(∀g,g∈s.grades->FB 200300 g)/\
 ∀H' z,bE H H'->Fr K H' z (Mi.lI m.want p s.grades)->Q z H'
theorem xO:bh ["yard","prices","source","worth","kind","grade","grams","above","under","both"] ["yard","prices","source"] (ay (top 96)):=by walk_at "s"
theorem xE (F:Def K mg "worth_of_metal" (top 96) ["yard","prices","source"]) (T:Top K mg d) (fE: ~~~5) (ng: ~~~6)
  (kH: ~~~7) (mU: ~~~3): ~~~33:=by
 exists xO,0
 .obtain⟨O,y,m,u,p,v,s,n,rfl,_⟩:=h;rfl
 obtain⟨O,y,m,u,p,v,sr,n,rfl,Y,hp,hv,W,PO,g3,gb,q⟩:=h;refine⟨_,(ao (b9 3 nd (ic T.uJ rfl))
   (ao (jv PassesOwn.never rfl (xH K T.enumerate (~~~195)) (EZ K 2 (cJ (cK 4 nd) (cJ (cK 5 nd) gI)))
   (ao (b9 6 nd (a9 fE (~~~61) rfl (ae (pv 5) (ae (iU T.iG rfl) aj))))
   (ao (b9 7 nd (a9 ng (~~~61) rfl (ae (pv 6) (ae (jU (ae (cD (o9 K) (~~~95) (pv 4) (~~~74)) (ae aF aj))) aj))))
   (ao (b9 8 nd (a9 ng (~~~61) rfl (ae (jU (ae (cD (o9 K) (~~~95) (pv 4) (~~~74)) (ae aF aj))) (ae (pv 6) aj))))
   (ao (b9 9 nd (a9 kH (~~~61) rfl (ae (a9 mU (~~~61) rfl (ae (cD (o9 K) (fc K (pv 1)) (pv 4) (~~~74)) (ae (pv 7) aj))) (ae (a9 mU (~~~61) rfl (ae (cD (o9 K) (fc K (pv 1)) (pv 4) (~~~74)) (ae (pv 8) aj))) aj))))
   (aD (b9 3 nd (a9 kH (~~~61) rfl (ae (pv 3) (ae (pv 9) aj))))))))))
   (aD (bw (pv 3))))),?_⟩
 exists ot ?_;exists Hm T hv λgv hg=>?_;exists 0;obtain⟨ga,yz,rfl,gs,gp⟩:=hg;refine⟨true,ga,_,rfl,gs,jr (uQ (K:=K) bU (tp:=true) 0 gs gp) (λi σ H'=>bE H H'/\∃wv r1 r2 r3 r4 r5 r6,σ=[some (~~~268),some u,some v,some wv,r1,r2,r3,r4,r5,r6]/\Fr K H' wv (HZ m.want p sr.grades i)) ⟨bE.refl _,_,none,none,none,none,none,none,rfl,T.nothing H⟩ (~~~102) ?_ ?_⟩
 .rintro i z x σ H1 hz s1 r ⟨H0,⟨s0,wv,r1,r2,r3,r4,r5,r6,rfl,hw⟩,sx⟩;obtain⟨Tt,uv,rfl,hT,hu⟩:=r;have hw:=bU.up hw sx;have rf:sr.grades[i]?=some z.1/\z.2=i:=by
   rw[da] at hz;cases e:sr.grades[i]? with
   |none=>rw[e] at hz;cases hz
   |some b=>rw[e] at hz;cases hz;exact⟨rfl,by simp⟩
  have il:i<3:=by have:=(aO.mp rf.1).1;omega
  have zb:=gb _ (aw rf.1);obtain⟨b1,b2,b3,b4,b5⟩:=M7 W PO zb il;have ez:sr.grades.getD i 0=z.1:=by
   have:=getD_get (l:=sr.grades) 0 (by omega:i<sr.grades.length);exists 123
  exists 44;exists ⟨uv,z.1,1000,rfl,hu,zb.le (~~~73),Bu (a:=10) (~~~73) (~~~73),trivial,λH2 gm s2 hgm=>?_⟩;exists 0;have Y2:=Y.up (~~~99);refine uH T Y2 ?_;exists l9 (N3 Y2) (k:=i) (x:=((m.want.least.getD i 0:Nat):Int)) (by unfold nats;rw[bo,getD_get 0 (by rw[W.l3];exact il)];rfl) λlv e=>?_;have e:lv=.int ((m.want.least.getD i 0:Nat):Int):=e;subst e;exists jR (K:=K) (mC _ _) λH3 p3 s3 _ h3=>?_;exists ⟨gm,_,_,_,rfl,bU.up hgm s3,F8 h3,b1.le (~~~73),(mM (W.l _ (getD_mem 0 (by rw[W.l3];exact il))) (~~~73)).le (~~~73),λH4 av s4 ha=>?_⟩;exists 0;exists 94;have Y4:=Y.up (s1.trans wH);refine xZ T Y4 ?_;exists l9 (N4 Y4) (k:=i) (x:=((m.want.most.getD i 0:Nat):Int)) (by unfold nats;rw[bo,getD_get 0 (by rw[W.m3];exact il)];rfl) λlv e=>?_;have e:lv=.int ((m.want.most.getD i 0:Nat):Int):=e;subst e;exists jR (K:=K) (mC _ _) λH5 p5 s5 _ h5=>?_;exists 0;exists 73;refine⟨_,gm,_,_,rfl,F8 h5,bU.up hgm QL,(mM (W.m _ (getD_mem 0 (by rw[W.m3];exact il))) (~~~73)).le (~~~73),b1.le (~~~73),λH6 uv6 s6 hu6=>?_⟩;exists 0;have PJ:bE H4 H6:=s5.trans s6;have DV:bE H H6:=s1.trans (wH.trans PJ);obtain⟨_,lv6,_,_,_,hl6,_,_,_,gl6,_,_⟩:=pZ (pE.up hp DV) T;refine gl6 _ ?_;exists l9 hl6 (k:=i) (x:=p.jT.getD i 0) (getD_get 0 (by rw[PO.l3];exact il)) λl7 hl7=>?_;exists ⟨l7,av,_,_,rfl,hl7,bU.up ha PJ,(PO.l _ (getD_mem 0 (by rw[PO.l3];exact il))).le (~~~73),b2.le (~~~73),λH8 v8 s8 h8=>?_⟩;exists 0;obtain⟨_,_,mv8,_,_,_,hm8,_,_,_,QO,_⟩:=pZ (pE.up hp (DV.trans s8)) T;refine QO _ ?_;exists l9 hm8 (k:=i) (x:=p.mG.getD i 0) (getD_get 0 (by rw[PO.m3];exact il)) λm9 hm9=>?_;exists ⟨m9,uv6,_,_,rfl,hm9,bU.up hu6 s8,(PO.m _ (getD_mem 0 (by rw[PO.m3];exact il))).le (~~~73),b3.le (~~~73),λHD v10 DW zC=>?_⟩;exists ⟨v8,v10,_,_,rfl,bU.up h8 DW,zC,b4.le (~~~73),b5.le (~~~73),λK4 v11 GY IX=>?_⟩;exists 0;have s1b:bE H1 K4:=wH.trans (PJ.trans (s8.trans (DW.trans GY)));refine⟨wv,v11,_,_,rfl,bU.up hw s1b,IX,(MI W PO gb g3 i (~~~62)).le (by have:i*401300<=3*401300:=bQ _ (~~~62);exact bA (de this 1) (~~~73)),(yx b4 b5).le (~~~73),λUo v12 uZ zD=>?_⟩;exists ⟨s1.trans (s1b.trans uZ),v12,_,_,_,_,_,_,rfl,?_⟩;rw[Ki,ez];exact zD
 .rintro σ H1 ⟨s1,wv,r1,r2,r3,r4,r5,r6,rfl,hw⟩;exists 0;rw[dv] at hw;exact q H1 _ s1 hw
def Eh (K:af) (d:iF):Sp:=λvs H Q _=>∃O y m u p i n,vs=[.ref y.ya,u,.int (i:Nat)]/\bI K d O H y m/\Br K d H u p/\lK m.sources/\j5 m.want/\sT p n/\n=m.sources.length/\i<n/\∀H' z,bE H H'->Fr K H' z (Mi.sF m.want p m.sources i)->Q z H'
theorem Kj {w:Vbmiak.Want} {p:Mi.RP} {l:List RS} {i:Nat} (W:j5 w) (PO:sT p l.length) (S:lK l) (h:i<l.length):FB 1400000 (p.wanted+Mi.lI w p (l.getD i Bl.gO).grades)/\FB 1500000 (Mi.sF w p l i):=by
 have sm:l.getD i Bl.gO∈l:=getD_mem _ h;have a:FB 1400000 (p.wanted+Mi.lI w p (l.getD i Bl.gO).grades):=(yx PO.w (Xt W PO (S.g _ sm) (S.g3 _ sm))).le (~~~73);exact⟨a,(F1 a (PO.s _ (getD_mem 0 (by rw[PO.sn];exact h)))).le (~~~73)⟩
theorem wo:bh ["yard","prices","place","worth"] ["yard","prices","place"] (ay (top 97)):=by walk_at "s"
theorem vZ (F:Def K mg "worth_of_source" (top 97) ["yard","prices","place"]) (T:Top K mg d) (ng: ~~~6)
  (kH: ~~~7) (mV: ~~~33): ~~~31:=by
 exists wo,0
 .obtain⟨O,y,m,u,p,i,n,rfl,_⟩:=h;rfl
 obtain⟨O,y,m,u,p,i,n,rfl,Y,hp,S,W,PO,rfl,hi,q⟩:=h;refine⟨_,(ao (b9 3 nd (a9 kH (~~~61) rfl (ae (fc K (pv 1)) (ae (a9 mV (~~~61) rfl (ae (pv 0) (ae (pv 1) (ae (cD (o9 K) (~~~95) (pv 2) (~~~74)) aj)))) aj))))
   (aD (bw (a9 ng (~~~61) rfl (ae (pv 3) (ae (cD (o9 K) (fc K (pv 1)) (pv 2) (~~~74)) aj)))))),?_⟩
 have sm:m.sources.getD i Bl.gO∈m.sources:=getD_mem _ hi;obtain⟨f1,f2⟩:=Kj W PO S hi;obtain⟨wv,_,_,_,hw,_,_,_,gw,_,_,_⟩:=pZ hp T;exists gw _ ?_;exists dJ T Y ?_;exists l9 (mD Y) (k:=i) (getD_get Bl.gO hi) λsv Yt=>?_;exists ⟨O,y,m,u,p,sv,_,_,rfl,Y,hp,Yt,W,PO,S.g3 _ sm,S.g _ sm,λH1 z s1 hz=>?_⟩;exists ⟨wv,z,_,_,rfl,bU.up hw s1,hz,PO.w.le (~~~73),(Xt W PO (S.g _ sm) (S.g3 _ sm)).le (~~~73),λH2 z2 s2 rf=>?_⟩;exists 0;obtain⟨_,_,_,sv2,_,_,_,RN,_,_,_,QF⟩:=pZ (pE.up hp (~~~99)) T;refine QF _ ?_;exists l9 RN (k:=i) (getD_get 0 (by rw[PO.sn];exact hi)) λs3 MM=>?_;exists ⟨z2,s3,_,_,rfl,rf,MM,f1.le (~~~73),(PO.s _ (getD_mem 0 (by rw[PO.sn];exact hi))).le (~~~73),λH4 z4 s4 UK=>q H4 z4 (s1.trans (s2.trans s4)) UK⟩
def Ms (K:af) (d:iF):Sp:=λvs H Q _=>∃O y m u p n,vs=[.ref y.ya,u]/\bI K d O H y m/\Br K d H u p/\lK m.sources/\j5 m.want/\sT p n/\n=m.sources.length/\∀H' z,bE H H'->Fr K H' z (Mi.pI m.want p m.sources)->FB 3000000 (Mi.pI m.want p m.sources)->Q z H'
theorem AD:bh ["yard","prices","there","price","source"] ["yard","prices"] (ay (top 98)):=by walk_at "s"
theorem Au (F:Def K mg "worth_of_all" (top 98) ["yard","prices"]) (T:Top K mg d) (ng: ~~~6)
  (fE: ~~~5) (kX: ~~~24): ~~~32:=by
 exists AD,0
 .obtain⟨O,y,m,u,p,n,rfl,_⟩:=h;rfl
 obtain⟨O,y,m,u,p,n,rfl,Y,hp,S,W,PO,rfl,q⟩:=h;refine⟨_,(ao (sW 2 nd (kq K T.zip (ae (fc K (pv 1)) (~~~69))) (cH (N:=["yard","prices","there","price","source"]) (sc:=ay (top 98)) (own:=[("price",3),("source",4)]) (~~~63)) (~~~87) (~~~71) (λ_ _ _ _ _=>(a9 fE (~~~61) rfl (ae (pv 3) (ae (~~~316) aj)))))
   (aD (bw (a9 ng (~~~61) rfl (ae (a9 fE (~~~61) rfl (ae (fc K (pv 1)) (~~~69))) (ae (a9 kX (~~~61) rfl (~~~120)) aj)))))),?_⟩
 obtain⟨wv,_,_,sv,hw,_,_,⟨sa,x3,rfl,ss,sp⟩,gw,_,_,gs⟩:=pZ hp T;exists gs _ ?_;exists dJ T Y ?_;exists 0;obtain⟨Zq,lvs,e0,ls,lp⟩:=mD Y;cases e0;refine⟨false,false,sa,y.sl,_,_,rfl,dz.of ss,dz.of ls,λD hD=>fj (mO bU mr (p1:=false) (p2:=false) (dz.of ss) (dz.of ls) sp lp) (S:=Fr K) (f:=λq=>q.1*((q.2.there:Nat):Rat)) bU hD ?_ (~~~146) (λH1 vs s1 hL pr=>?_)⟩
 .rw[bC];have:=S.len;omega
 .exists 20;exists 24;exists CV T r2 ?_;exists 142;exact⟨x1,z.1,z.2.there,rfl,r1,(PO.s _ zm.1).le (~~~73),aT (S.t _ zm.2) (~~~203),trivial,λH2 w2 s2 HJ=>kk w2 H2 s2 (gJ HJ)⟩
 exists 0;obtain⟨wv1,_,_,_,UH,_,_,_,gw1,_,_,_⟩:=pZ (pE.up hp s1) T;refine gw1 _ ?_;exists xX T (Y.up s1) ?_;exists 0;have ll:(~~~157).length <=6:=by rw[ag,bC];have:=S.len;omega
 have bt:∀z,z∈(~~~157)->FB 128 z:=by
  intro z hz;obtain⟨q,hq,rfl⟩:=aS.mp hz;have zm:=cE hq;exact nT (a:=64) (b:=64) (PO.s _ zm.1) (mM (S.t _ zm.2) (~~~73))
 have bs:FB 1000 (Mi.nM (~~~157)):=(Lx bt).le (bA (de (bQ (128+1) ll) 1) (~~~73));have ba:FB 128 (p.wanted*((m.want.amount:Nat):Rat)):=nT (a:=64) (b:=64) PO.w (mM W.a (~~~73));refine⟨wv1,_,_,rfl,UH,PO.w.le (~~~73),aT W.a (~~~203),trivial,λH2 w2 s2 HJ=>?_⟩;exists ⟨.ref D,_,128,rfl,(cS bU).up ⟨D,vs,rfl,hL,pr⟩ s2,bt,bA (de (de (bQ (128+1) ll) 1) 128) (~~~73),λH3 w3 s3 Yv=>?_⟩;exists ⟨w2,w3,_,_,rfl,bU.up HJ s3,Yv,ba.le (~~~73),bs.le (~~~73),λH4 z4 s4 UK=>q H4 z4 (s1.trans (~~~117)) UK ((F1 ba bs).le (~~~73))⟩
def Mp (K:af) (d:iF):Sp:=λvs H Q _=>∃O y m u p v c n,vs=[.ref y.ya,u,v]/\bI K d O H y m/\Br K d H u p/\eA H v c/\lK m.sources/\j5 m.want/\sT p n/\n=m.sources.length/\c.length=n/\(∀z,z∈c->z.natAbs<2^64)/\∀H',bE H H'->Q (.bl (Mi.nG m.want p m.sources c)) H'
theorem Rw {H:Hp} {p:Addr} {n:Int} (h:mK K H p [.int n,.int 1]):Fr K H (.ref p) (n:Rat):=⟨p,rfl,by rw[Ae,sM];exact h⟩
theorem Rt {a:Nat} {n:Int} (h:n.natAbs<2^a) (ha:1<=a):FB a (n:Rat):=by
 refine⟨by rw[Ae];exact h,?_⟩;rw[sM];exact aT (~~~73) (bW (n:=2) (~~~73) ha)
theorem tF:bh ["yard","prices","costs","place","cost"] ["yard","prices","costs"] (ay (top 99)):=by walk_at "s"
theorem tw (F:Def K mg "none_is_worth_more" (top 99) ["yard","prices","costs"]) (T:Top K mg d) (lG: ~~~0) (mm: ~~~31): ~~~30:=by
 exists tF,0
 .obtain⟨O,y,m,u,p,v,c,n,rfl,_⟩:=h;rfl
 obtain⟨O,y,m,u,p,v,c,n,rfl,Y,hp,hc,S,W,PO,rfl,cl,cb,q⟩:=h;refine⟨_,(aD (bw (SK (cR (WI K) rfl T.any (~~~63) (ae (iN rfl nd (xH K T.enumerate (~~~120)) (cH (N:=["yard","prices","costs","place","cost"]) (sc:=ay (top 99)) (own:=[("place",3),("cost",4)]) (~~~63)) (~~~87) (~~~71) (λ_ _ _ _ _=>(a9 lG (~~~61) rfl (ae (jU (ae (pv 4) (ae aF aj))) (ae (a9 mm (~~~61) rfl (ae (pv 0) (ae (pv 1) (ae (pv 3) aj)))) aj))))) aj))))),?_⟩;obtain⟨ca,rfl,cs⟩:=dH hc;have n6:=PO.n6;exists ⟨false,ca,_,rfl,dz.of cs,λD hD=>fj (uQ (K:=K) df (tp:=false) 0 (dz.of cs) (kU c)) (S:=pR) (f:=λz=>decide (((z.1:Int):Rat)<Mi.sF m.want p m.sources z.2)) jw hD (by rw[dv];omega) (~~~78) (λH1 ys s1 hL pr=>?_)⟩
 .obtain⟨Tt,uv,rfl,hT,hu⟩:=rr;have hu:uv=.int z.1:=hu;subst hu;have rf:c[i]?=some z.1/\z.2=i:=by
   rw[da] at hz;cases e:c[i]? with
   |none=>rw[e] at hz;cases hz
   |some b=>rw[e] at hz;cases hz;exact⟨rfl,by simp⟩
  have il:i<m.sources.length:=by have:=(aO.mp rf.1).1;omega
  exists 24;exists jR (K:=K) (mC _ _) λH2 p2 s2 _ h2=>?_;exists ⟨O,y,m,u,p,z.2,_,by simp,Y.up (s'.trans s2),pE.up hp (s'.trans s2),S,W,PO,rfl,by omega,λH3 w3 s3 Yv=>?_⟩;exists ⟨_,w3,_,_,rfl,bU.up (Rw h2) s3,Yv,(Rt (cb _ (aw rf.1)) (~~~73)).le (~~~73),(Kj W PO S (~~~62)).2.le (~~~73),kk _ H3 (~~~191) (gZ _)⟩
 .exists 0;rw[qH pr] at hL;refine⟨D,_,rfl,dz.of hL,?_⟩;exists 0;have:=q H1 s1;unfold Mi.nG at this;have e:(c.zipIdx.map λz=>decide (((z.1:Int):Rat)<Mi.sF m.want p m.sources z.2))=(ax c.length).map λi=>decide (((c.getD i 0:Int):Rat)<Mi.sF m.want p m.sources i):=by
   apply i5
   .simp
   .intro i h1 h2;have h3:i<c.length:=by simpa using h1
    rw[d7,d7,vc,hZ,Mi.getD_in 0 h3,rF]
  rw[<-e] at this;exact this
def Ia (m:MS):Prop:=∃t D,Mi.Ok t D m/\t<=120
theorem Ij {t D:Nat} {m:MS} (h:Mi.Ok t D m) (ht:t<=120):D<2^200000:=bf h.le (gA (~~~73) (~~~62))
theorem Ia.src {m:MS} (h:Ia m):lK m.sources:=by
 obtain⟨t,D,h,ht⟩:=h;have hD:=Ij h ht;refine⟨h.ib,λs hs=>(h.src s hs).len,λs hs g hg=>?_,λs hs=>(h.src s hs).cost.1,λs hs=>?_,λs hs=>?_⟩
 .have G:=(h.src s hs).g g hg;exact FB.le (Mi.EE (M:=1000000000) (b:=30) (c8 h.pos) G.den G.lo G.hi hD (~~~73)) (~~~73)
 .have:=(h.src s hs).cost;exists 17
  omega
 .have:=(h.src s hs).there;exists 17
  omega
theorem Ia.want {m:MS} (h:Ia m):j5 m.want:=by
 obtain⟨t,D,h,ht⟩:=h;exists 17
 have W:=h.want;exact⟨by have:=W.amount;omega,W.YJ,W.YQ,λn hn=>by have:=W.least n hn;omega,λn hn=>by have:=W.most n hn;omega⟩
def qu (K:af) (d:iF) (pre:MS->List Int->Prop) (Qu:MS->List Int->List Int):Sp:=λvs H Q _=>∃O y m u n,vs=[.ref y.ya,u]/\bI K d O H y m/\eA H u n/\Ia m/\pre m n/\∀H' p,bE H H'->H p=none->H' p=some (.lst ((Qu m n).map V.int))->Q (.ref p) H'
theorem CF {n:Nat} {l:List Int} (h:Mi.mF n l):(∀x,x∈Mi.xB l->1<=x)/\(Mi.jS l).length =n/\∀x,x∈Mi.jS l->FB 64 x:=by
 refine⟨(Mi.qT l _).mpr λi hi hm=>(h.low i hi hm).1,Mi.qQ h.len,?_⟩;rw[<-BZ];intro x hx;obtain⟨p,hp,rfl⟩:=aS.mp hx;have zm:=cE hp;have a:=(Mi.uM l (λz=> -1000000000000<=z/\z<=1000000000000)).mpr (λi hi hm=>h.up i hi hm) _ zm.1;have b:=(Mi.qT l (λz=>1<=z/\z<=1000000000000)).mpr (λi hi hm=>h.low i hi hm) _ zm.2;exists 17
 exact aaT (~~~62) (~~~62) (~~~62)
theorem D7:bh ["yard","numbers","amounts"] ["yard","numbers"] (ay (top 101)):=by walk_at "s"
theorem DF (F:Def K mg "call_check" (top 101) ["yard","numbers"]) (T:Top K mg d) (fL: ~~~22) (jM: ~~~29)
  (ck: ~~~23) (km: ~~~27):dR P w K mg base 46 "call_check" ["yard","numbers"] (qu K d (λm n=>Mi.mF m.sources.length n) Mi.yE):=by
 exists D7,0
 .exists 8
 obtain⟨O,y,m,u,n,rfl,Y,hu,B,R,q⟩:=h;refine⟨_,(ao (b9 2 nd (~~~319))
   (aD (bw (b_ dY (b_ dY (~~~164) (a9 jM (~~~61) rfl (~~~284))) (a9 ck (~~~61) rfl (ae (bZ (ae (a9 km (~~~61) rfl (ae (~~~95) (~~~120))) aj)) aj)))))),?_⟩
 obtain⟨od,fl,fb⟩:=CF R;have S:=B.src;have sl:=S.len;have rl:=R.len;exists ⟨u,n,rfl,hu,od,by omega,λH1 av s1 ha=>?_⟩;exists 37;exists ⟨O,y,m,av,_,rfl,Y.up (~~~99),(cS bU).up ha s2,S,B.want,by omega,λa ha=>(fb a ha).le (~~~73),λH3 p3 s3 n3 h3=>?_⟩;refine fA (s3 _ _ h2) h3 (by show 3<=sizeLine;decide) λH4 p4 s4 n4 h4=>?_;exists 0;exists 94;refine dJ T (Y.up (s1.trans wH)) ?_;exists ⟨_,av,_,_,rfl,mD (Y.up (s1.trans wH)),(cS bU).up ha wH,S,λa ha=>(fb a ha).le (~~~73),λH5 cv s5 hc=>?_⟩;exists bY (by show 1<=sizeLine;decide) λH6 p6 s6 n6 h6=>?_;exists ⟨.ref p6,[Mi.fr (Mi.zv m.sources (Mi.jS n))],rfl,⟨false,p6,_,rfl,dz.of h6,.cons (AZ (bU.up hc s6)) .nil⟩,by show 2<=100000;decide,λH7 p7 s7 n7 h7=>?_⟩;refine fA ((~~~226) _ _ h4) h7 (by show 5<=sizeLine;decide) λH8 p8 s8 n8 h8=>?_;have s07:bE H H7:=s1.trans (wH.trans (~~~226));exact q H8 p8 (s07.trans s8) (s07.free n8) h8
theorem Ni {H:Hp} {p:Addr} {l:List Int} (h:H p=some (.lst (~~~208))):Dp K H (.ref p) (.list (l.map PyData.int)):=.lst (dz.of h) (by
 clear h
 induction l with
 |nil=>exact .nil
 |cons x l ih=>exact .cons (.int x) ih)
theorem U7 (a b c e:Int):PyData.eqv (.list [.int a,.int b]) (.list [.int c,.int e])=(decide (a=c)&&decide (b=e)):=by
 by_cases h1:a=c
 .by_cases h2:b=e
  .subst h1 h2;simp[PyData.eqv,PyData.eqvAll]
  .subst h1;simp[PyData.eqv,PyData.eqvAll,h2]
 .simp[PyData.eqv,PyData.eqvAll,h1]
def TC (K:af) (d:iF):Sp:=λvs H Q _=>∃O y m u x v p n,vs=[.ref y.ya,u,v]/\bI K d O H y m/\fo (Fr K) H u x/\Br K d H v p/\Ia m/\sT p n/\n=m.sources.length/\x.length=n/\(∀a,a∈x->FB 64 a)/\∀H',bE H H'->Q (.bl (Mi.sC m.want m.sources x p)) H'
theorem wm:bh ["yard","amounts","prices","source"] ["yard","amounts","prices"] (ay (top 102)):=by walk_at "s"
theorem vY (F:Def K mg "proves_cheapest" (top 102) ["yard","amounts","prices"]) (T:Top K mg d) (jM: ~~~29) (mQ: ~~~34)
  (fC: ~~~30) (jg: ~~~32) (km: ~~~27): ~~~35:=by
 exists wm,0
 .obtain⟨O,y,m,u,x,v,p,n,rfl,_⟩:=h;rfl
 obtain⟨O,y,m,u,x,v,p,n,rfl,Y,hx,hp,B,PO,rfl,xl,bx,q⟩:=h;refine⟨_,(ao (gN (PW.pt (S5 (eC (Xc K hr.units) (a9 jM (~~~61) rfl (~~~184)) (~~~197) (dX _)) (Mc (yS (mn (a9 mQ (~~~61) rfl (~~~120))))))) (aD (bw JH)) d5)
   (ao (gN (yS (mn (a9 fC (~~~61) rfl (ae (pv 0) (ae (pv 2) (ae (iN rfl nd (v9 K (~~~95)) (cH (N:=["yard","amounts","prices","source"]) (sc:=ay (top 102)) (own:=[("source",3)]) (~~~63)) (~~~190) (~~~71) (λ_ _ _ _ _=>(~~~256))) aj)))))) (aD (bw JH)) d5)
   (aD (bw (ko (abR K hr.units) (a9 jg (~~~61) rfl (~~~284)) (a9 km (~~~61) rfl (ae (~~~95) (~~~107))) (dX _)))))),?_⟩
 have S:=B.src;have W:=B.want;have sl:=S.len;have bx':∀a,a∈x->FB 2000000 a:=λa ha=>(bx a ha).le (~~~73);unfold Mi.sC at q;exists ⟨O,y,m,u,x,rfl,Y,hx,S,W,by omega,bx',λH1 p1 s1 n1 h1=>?_⟩;exists bY (by show 2<=sizeLine;decide) λH2 p2 s2 n2 h2=>?_;refine⟨_,_,Ni (l:=[((~~~176).1:Int),((~~~176).2:Int)]) (s2 _ _ h1),Ni (l:=[0,0]) h2,rfl,rfl,?_⟩;have e1:PyData.eqv (.list ([((~~~176).1:Int),((~~~176).2:Int)].map PyData.int)) (.list ([(0:Int),0].map PyData.int))=decide (Mi.jQ m.want m.sources x=(0,0)):=by
  show PyData.eqv (.list [.int _,.int _]) (.list [.int 0,.int 0])=_;rw[U7];generalize Mi.jQ m.want m.sources x=fm;obtain⟨a,b⟩:=fm;by_cases ha:a=0
  .by_cases hb:b=0
   .subst ha hb;rfl
   .simp[ha,hb]
  .simp[ha]
 rw[e1];exists 0;have uZ:=s1.trans s2;cases ef:decide (Mi.jQ m.want m.sources x=(0,0)) with
 |false=>
  rw[ef] at q;exists 103;exists 103;exists q H2 uZ
 |true=>
  rw[ef] at q;exists 85;exists ⟨v,p,_,rfl,pE.up hp uZ,PO,λH3 s3=>?_⟩;exists 0;have QJ:=uZ.trans s3;cases eg:Mi.zx p with
  |false=>
   rw[eg] at q;exists 103;exists q H3 QJ
  |true=>
   rw[eg] at q;exists 85;exists dJ T (Y.up QJ) ?_;obtain⟨Zq,lvs,e0,ls,lp⟩:=mD (Y.up QJ);cases e0;refine⟨y.sl,rfl,⟨_,dz.of ls⟩,λD hD=>fj (dS mr (dz.of ls) lp) (S:=rK) (f:=λs=>s.cost) df hD (~~~62) (~~~78) (λH4 ys s4 hL pr=>?_)⟩
   .exists 2;exists xT T rr (~~~306)
   exists 0;have wH:=QJ.trans s4;rw[iX pr] at hL;refine⟨O,y,m,v,p,.ref D,_,_,rfl,Y.up wH,pE.up hp wH,fZ hL,S,W,PO,rfl,by rw[ag],?_,λH5 s5=>?_⟩
   .intro z hz;obtain⟨sx,hs,rfl⟩:=aS.mp hz;have:=S.c _ hs;have:=S.c0 _ hs;omega
   exists 0;have GZ:=wH.trans s5;cases en:Mi.nG m.want p m.sources (m.sources.map λs=>s.cost) with
   |false=>
    rw[en] at q;exists 103;exists q H5 GZ
   |true=>
    rw[en] at q;exists 85;exists ⟨O,y,m,v,p,_,rfl,Y.up GZ,pE.up hp GZ,S,W,PO,rfl,λH6 wv s6 hw wb=>?_⟩;exists 0;have QK:=GZ.trans s6;refine dJ T (Y.up QK) ?_;exists ⟨_,u,_,_,rfl,mD (Y.up QK),(cS bU).up hx QK,S,bx',λH7 cv s7 hc=>?_⟩;refine⟨_,_,Nh (bU.up hw s7),Nh hc,rfl,rfl,?_⟩;rw[Rn];exact q H7 (QK.trans s7)
def P1 (K:af) (d:iF):Sp:=λvs H Q _=>∃O y m v p n,vs=[.ref y.ya,v]/\bI K d O H y m/\Br K d H v p/\Ia m/\sT p n/\n=m.sources.length/\∀H',bE H H'->Q (.bl (Mi.o5 m.want m.sources p)) H'
theorem n_:bh ["yard","prices"] ["yard","prices"] (ay (top 103)):=by walk_at "s"
theorem nV (F:Def K mg "proves_that_there_is_none" (top 103) ["yard","prices"]) (T:Top K mg d) (mQ: ~~~34)
  (fC: ~~~30) (jg: ~~~32) (lG: ~~~0): ~~~36:=by
 exists n_,0
 .obtain⟨O,y,m,v,p,n,rfl,_⟩:=h;rfl
 obtain⟨O,y,m,v,p,n,rfl,Y,hp,B,PO,rfl,q⟩:=h;refine⟨_,(ao (gN (PW.pt (S5 (yS (mn (a9 mQ (~~~61) rfl (~~~107)))) (Mc (yS (mn (a9 fC (~~~61) rfl (ae (pv 0) (ae (pv 1) (ae (b_ L9 (~~~164) (~~~83)) aj))))))))) (aD (bw JH)) d5)
   (aD (bw (a9 lG (~~~61) rfl (ae (ic T.uJ rfl) (ae (a9 jg (~~~61) rfl (~~~184)) aj)))))),?_⟩
 have S:=B.src;have W:=B.want;have sl:=S.len;unfold Mi.o5 at q;exists ⟨v,p,_,rfl,hp,PO,λH3 s3=>?_⟩;exists 0;cases eg:Mi.zx p with
 |false=>
  rw[eg] at q;exists 103;exists 103;exists q H3 s3
 |true=>
  rw[eg] at q;exists 85;exists 27;exists dJ T (Y.up (~~~222)) ?_;exists 0;obtain⟨Zq,lvs,e0,ls,lp⟩:=mD (Y.up (~~~222));cases e0;refine gC ls ?_;rw[aZ lp];refine⟨p4,m.sources.length,_,rfl,rfl,h4,by omega,by omega,by rw[sizeLine_eq];simp;omega,λp5 n5=>?_⟩;have e:(bT (m.sources.length:Int).toNat ([V.int 0])).flatten =(bT m.sources.length (0:Int)).map V.int:=by
   rw[eQ];generalize m.sources.length=k
   induction k with
   |zero=>rfl
   |succ n ih=>rw[dF,eR,ih,dF];rfl
  rw[e];have s5:bE H4 (upd H4 p5 (~~~142)):=iP n5;have GZ:=s3.trans (s4.trans s5);exists ⟨O,y,m,v,p,.ref p5,_,_,rfl,Y.up GZ,pE.up hp GZ,fZ cU,S,W,PO,rfl,by rw[jN],?_,λH6 s6=>?_⟩
  .intro z hz;rw[(lu.mp hz).2];decide
  exists 0;have QK:=GZ.trans s6;cases en:Mi.nG m.want p m.sources (bT m.sources.length 0) with
  |false=>
   rw[en] at q;exists 103;exists q H6 QK
  |true=>
   rw[en] at q;exists 85;exists ⟨O,y,m,v,p,_,rfl,Y.up QK,pE.up hp QK,S,W,PO,rfl,λH7 wv s7 hw wb=>?_⟩;exists ⟨_,wv,0,_,rfl,T.nothing H7,hw,xm.le (~~~73),wb.le (~~~73),q H7 (QK.trans s7)⟩
theorem SV {k:Nat} {l:List Int} (hk:k<=6) (h:Mi.mF (7+k) l):sT (Mi.iO (Mi.jS l)) k:=by
 obtain⟨_,fl,fb⟩:=CF h;refine⟨hk,?_,?_,?_,fb _ (getD_mem 0 (~~~62)),λx hx=>fb x (fy (dc hx)),λx hx=>fb x (fy (dc hx)),λx hx=>fb x (fy hx)⟩
 .show(((Mi.jS l).drop 1).take 3).length =3;rw[cu,dg];omega
 .show(((Mi.jS l).drop 4).take 3).length =3;rw[cu,dg];omega
 .show((Mi.jS l).drop 7).length =k;rw[dg];omega
theorem D9:bh ["yard","numbers"] ["yard","numbers"] (ay (top 105)):=by walk_at "s"
theorem DH (F:Def K mg "call_never" (top 105) ["yard","numbers"]) (T:Top K mg d) (fL: ~~~22) (qI:mE P w K mg base 41 "Prices" d.ju (xS K d))
  (gS: ~~~36):dR P w K mg base 48 "call_never" ["yard","numbers"] (qu K d (λm n=>Mi.mF (~~~135) n) Mi.Gj):=by
 exists D9,0
 .exists 8
 obtain⟨O,y,m,u,n,rfl,Y,hu,B,R,q⟩:=h;refine⟨_,(aD (bw (bZ (ae aF (ae (Cw (mn (a9 gS (~~~61) rfl (ae (pv 0) (ae (xG qI (~~~61) rfl (ae (~~~319) aj)) aj)))) aF aF) aj))))),?_⟩;obtain⟨od,fl,fb⟩:=CF R;have sl:=B.src.len;have rl:=R.len;exists ⟨u,n,rfl,hu,od,by omega,λH1 av s1 ha=>?_⟩;exists IW ha (~~~62) λH2 pv s2 hp=>?_;exists ⟨O,y,m,_,_,_,rfl,Y.up (~~~99),hp,B,SV sl R,rfl,λH3 s3=>?_⟩;exists 0;have fin:∀(b:Bool) (z:V),z=.int (Mi.UZ b)->b=Mi.o5 m.want m.sources (Mi.iO (Mi.jS n))->UR Q [.int 0,z] H3:=by
  intro b z e1 e2;subst e1 e2;exact bY (by show 2<=sizeLine;decide) λH4 p4 s4 n4 h4=>q H4 p4 (s1.trans (~~~117)) ((s1.trans (~~~191)).free n4) h4
 cases e:Mi.o5 m.want m.sources (Mi.iO (Mi.jS n)) with
 |true=>
  exists 103;exists fin true _ rfl e.symm
 |false=>
  exists 85;exists fin false _ rfl e.symm
theorem Ea:bh ["yard","numbers","fractions","amounts","prices"] ["yard","numbers"] (ay (top 104)):=by walk_at "s"
theorem DJ (F:Def K mg "call_proof" (top 104) ["yard","numbers"]) (T:Top K mg d) (fL: ~~~22) (qI:mE P w K mg base 41 "Prices" d.ju (xS K d))
  (mj: ~~~35):dR P w K mg base 48 "call_proof" ["yard","numbers"] (qu K d (λm n=>∃x p,n=x++p/\Mi.mF m.sources.length x/\Mi.mF (~~~135) p) λm n=>Mi.B8 m (n.take (~~~243)) (n.drop (~~~243))):=by
 exists Ea,0
 .exists 8
 obtain⟨O,y,m,u,n,rfl,Y,hu,B,⟨x,p,rfl,Rx,Rp⟩,q⟩:=h;refine⟨_,(ao (b9 2 nd (~~~319))
   (ao (b9 3 nd (jH (QM K) (pv 2) xI (fh (~~~83))))
   (ao (b9 4 nd (xG qI (~~~61) rfl (ae (jH (QM K) (pv 2) (fh (~~~83)) xI) aj)))
   (aD (bw (bZ (ae aF (ae (Cw (mn (a9 mj (~~~61) rfl (ae (pv 0) (ae (pv 3) (~~~241))))) aF aF) aj)))))))),?_⟩
 obtain⟨od,fl,fb⟩:=CF Rx;obtain⟨od2,fl2,fb2⟩:=CF Rp;have sl:=B.src.len;have rl:=Rx.len;have rl2:=Rp.len;simp only[zZ rl,zY rl] at q;have oda:∀z,z∈Mi.xB (x++p)->1<=z:=by
  refine(Mi.qT (x++p) _).mpr λi hi hm=>?_;rw[au] at hi;by_cases c:i<x.length
  .have:=(Rx.low i c hm).1;rw[ai,dw c,<-ai];exact this
  .have:=(Rp.low (i-x.length) (~~~62) (~~~62)).1;rw[ai,c_ (~~~62),<-ai];exact this
 exists ⟨u,x++p,rfl,hu,oda,by rw[au];omega,λH1 av s1 ha=>?_⟩;rw[Mi.zE rl] at ha;obtain⟨aa,avs,rfl,Kt,ap⟩:=ha;have la:=aZ ap;rw[au,fl,fl2] at la;exists dJ T (Y.up s1) ?_;exists 0;obtain⟨Zq,lvs,e0,ls,lp⟩:=mD (Y.up s1);cases e0;refine gC ls ?_;rw[aZ lp];exists 105;refine vt Kt λH2 p2 s2 n2 h2=>?_;rw[EB] at h2;exists 0;have Y2:=Y.up (~~~99);refine dJ T Y2 ?_;exists gC (s2 _ _ ls) ?_;rw[aZ lp];refine⟨_,rfl,?_⟩;exists vt (s2 _ _ Kt) λH3 p3 s3 n3 h3=>?_;rw[yt avs m.sources.length (~~~62)] at h3;exists 0;have am:fo (Fr K) H3 (.ref p2) (Mi.jS x):=by
  refine⟨p2,_,rfl,s3 _ _ h2,?_⟩;have:=lQ m.sources.length (aU bU ap (~~~191));rw[zZ fl] at this;exact this
 have pm:fo (Fr K) H3 (.ref p3) (Mi.jS p):=by
  refine⟨p3,_,rfl,h3,?_⟩;have:=j7 m.sources.length (aU bU ap (~~~191));rw[zY fl] at this;exact this
 refine IW pm (~~~62) λH4 pv s4 hp=>?_;exists 0;have wH:bE H H4:=s1.trans (~~~117);refine⟨O,y,m,_,_,_,_,_,rfl,Y.up wH,(cS bU).up am s4,hp,B,SV sl Rp,rfl,fl,fb,λH5 s5=>?_⟩;exists 0;have GZ:=wH.trans s5;have fin:∀(b:Bool) (z:V),z=.int (Mi.UZ b)->b=Mi.sC m.want m.sources (Mi.jS x) (Mi.iO (Mi.jS p))->UR Q [.int 0,z] H5:=by
  intro b z e1 e2;subst e1 e2;exact bY (by show 2<=sizeLine;decide) λH4 p4 s4 n4 h4=>q H4 p4 (GZ.trans s4) (GZ.free n4) h4
 cases e:Mi.sC m.want m.sources (Mi.jS x) (Mi.iO (Mi.jS p)) with
 |true=>
  exists 103;exists fin true _ rfl e.symm
 |false=>
  exists 85;exists fin false _ rfl e.symm
theorem EL {D:Nat} (h:D<=2^121000):D<2^121001:=bf h (gA (~~~73) (~~~73))
theorem R9 {l:List Rat} {i:Nat} {g:Rat} (h:l[i]?=some g):Mi.lD (~~~264)=Mi.lD (~~~276)*(g.den/bR (Mi.lD (~~~276)) g.den):=by
 unfold Mi.lD;rw[eE,h,dZ];rfl
def Tx (K:af) (d:iF):Sp:=λvs H Q _=>∃v s D,vs=[v]/\SrcR K d H v s/\Mi.lK D s/\0<D/\D<=2^121000/\∀H' p,bE H H'->yg d H' (.ref p) s->H p=none->(∀dx g,H' p=some (.ins d.lH dx (Y_ ((Mi.f_ s:Nat):Int) g))->∃ga,g=.ref ga/\H ga=none)->Q (.ref p) H'
theorem He:bh ["source","metal","kilograms","grams","grade"] ["source"] (ay (top 45)):=by walk_at "s"
theorem GG (F:Def K mg "parcel_of" (top 45) ["source"]) (T:Top K mg d) (ht:P.given.tree=none) (fE: ~~~5) (cO: ~~~2)
  (BB:mE P w K mg base 41 "Parcel" d.lH (xR d.lH 2 abW)): ~~~41:=by
 exists He,0
 .obtain⟨v,s,D,rfl,_⟩:=h;rfl
 obtain⟨v,sr,D,rfl,hv,S,D0,DL,q⟩:=h;have hL:=rX (P:=P) (w:=w) (K:=K) (mg:=mg) (base:=base) (N:=["source","metal","kilograms","grams","grade"]) (outer:=outer) (H:=H) (E:=E) hr (~~~73) ht rfl rfl;refine⟨_,(ao (sW 1 nd (MZ K (~~~95)) (cH (N:=["source","metal","kilograms","grams","grade"]) (sc:=ay (top 45)) (own:=[("grade",4)]) (~~~63)) (~~~225) (~~~71) (λ_ _ _ _ _=>(a9 fE (~~~61) rfl (ae (pv 4) (ae (iU T.iG rfl) aj)))))
   (ao (b9 2 nd aF)
   (ao (jv PassesOwn.never rfl (v9 K (pv 1)) (cK 3 nd)
   (aD (b9 2 nd (b_ gG (pv 2) (b_ (iM hL) (~~~230) (a9 cO (~~~61) rfl (ae (pv 2) (ae (~~~230) aj))))))))
   (aD (bw (xG BB (~~~61) rfl (ae (pv 2) (ae (iN rfl nd (v9 K (pv 1)) (cH (N:=["source","metal","kilograms","grams","grade"]) (sc:=ay (top 45)) (own:=[("grams",3)]) (~~~63)) (~~~190) (~~~71) (λ_ _ _ _ _=>(b_ gG (~~~230) (b_ (iM hL.yl) (pv 2) (~~~230))))) aj)))))))),?_⟩
 have gb:∀g,g∈sr.grades->FB 200300 g:=λg hg=>FB.le (Mi.EE (M:=1000000000) (b:=30) (c8 D0) (S.g g hg).den (S.g g hg).lo (S.g g hg).hi (EL DL) (~~~73)) (~~~73);have mb:∀g,g∈Mi.iS sr->FB 200364 g:=by
  intro g hg;obtain⟨x,hx,rfl⟩:=aS.mp hg;exact nT (a:=200300) (b:=64) (gb x hx) (~~~297)
 have dn:=Mi.EO D0 S;have kd:∀i,Mi.lD (~~~260)<=D:=λi=>qg D0 (Mi.xA λg hg=>dn g (dc hg));have kb:∀n:Nat,n<=D->Bd 121001 (n:Nat):=λn hn=>EL (bA hn DL);exists Hm T hv λgv hg=>?_;obtain⟨ga,yz,rfl,gs,gp⟩:=hg;refine⟨ga,rfl,⟨_,gs⟩,λC hC=>fj (B1 bU gs gp) (S:=Fr K) (f:=λg=>g*1000) bU hC (by rw[S.len];decide) (~~~78) (λH1 YR s1 Z9 pm=>?_)⟩
 .exists 2;exists ⟨x,z,1000,rfl,rr,(gb z (aw hz)).le (~~~73),Bu (a:=10) (~~~73) (~~~73),trivial,λH2 w2 s2 HJ=>kk w2 H2 s2 (gJ HJ)⟩
 have pm:Paired (Fr K H1) YR (Mi.iS sr):=pm;exists ot ?_;exists ⟨C,rfl,⟨_,dz.of Z9⟩,jr (dS bU (dz.of Z9) pm) (λi σ H'=>bE H1 H'/\∃r,σ=[some v,some (.ref C),some (.int (Mi.lD (~~~260):Nat)),r,none]) ⟨bE.refl _,none,by rw[fI];rfl⟩ (~~~102) ?_ ?_⟩
 .rintro i z x σ H2 hz s2 r ⟨H0,⟨s0,r0,rfl⟩,sx⟩;have zm:=aw hz;have zd:z.den<=D:=qg D0 (dn z zm);have zp:=fk z.den_nz;exists ⟨_,_,rfl,?_⟩;have g0:((ig ((Mi.lD (~~~260):Nat):Int) ((z.den:Nat):Int):Nat):Int)≠0:=by
   have:ig ((Mi.lD (~~~260):Nat):Int) ((z.den:Nat):Int)≠0:=λzz=>by have:=(u9.mp zz).2;omega
   omega
  refine t_ g0 ?_;have e1:((z.den:Nat):Int).fdiv ((ig ((Mi.lD (~~~260):Nat):Int) ((z.den:Nat):Int):Nat):Int)=((z.den/bR (Mi.lD (~~~260)) z.den:Nat):Int):=Fm.iJ _ _;rw[e1];refine t_ (jd (kb _ (kd i)) (kb _ (bA (dC _ _) zd)) (~~~73)) ?_;exists ⟨s2,some x,?_⟩;rw[R9 hz,jz];rfl
 .rintro σ H2 ⟨s2,r,rfl⟩;rw[d8];have ek:Mi.lD (Mi.iS sr)=Mi.f_ sr:=rfl;rw[ek];have kg:=Mi.sV D0 S;exists ⟨C,rfl,⟨_,dz.of (s2 _ _ Z9)⟩,λE' hE=>fj (dS bU (dz.of (s2 _ _ Z9)) (aU bU pm s2)) (S:=rK) (f:=λg=>g.num*((Mi.f_ sr/g.den:Nat):Int)) df hE (by rw[show(Mi.iS sr).length =sr.grades.length from ag ..,S.len];decide) (~~~78) (λH3 zW s3 hn3 pn=>?_)⟩
  .have zm:=aw hz;have zp:=fk z.den_nz;exists 2;exists t_ (show((z.den:Nat):Int)≠0 by omega) ?_;rw[Fm.iJ];refine t_ (jd (mb z zm).n ((kb _ (bA (dC _ _) kg))) (~~~73)) ?_;exact kk _ H' (~~~218) λ_ _=>rfl
  exists vK rfl λH4 pl dx s4 n4 h4=>?_;have Ax:bE H H3:=s1.trans (~~~191);refine q H4 pl (Ax.trans s4) ⟨pl,dx,.ref E',rfl,h4,E',zW,rfl,s4 _ _ hn3,aU df pn s4⟩ (Ax.free n4) λdx' g hg=>?_;rw[h4] at hg;cases hg;exact⟨E',rfl,(~~~99).free hE⟩
theorem Mf {H' H4 pJ:Hp} {p:Addr} {s:RS} (h:yg d H4 (.ref p) s) (n:H' p=none) (g:∀dx g,H4 p=some (.ins d.lH dx (Y_ ((Mi.f_ s:Nat):Int) g))->∃ga,g=.ref ga/\H' ga=none) (r:yi H' H4 pJ):yg d pJ (.ref p) s:=by
 obtain⟨a,dx,gv,e,h1,h2⟩:=h;cases e;obtain⟨ga,rfl,n2⟩:=g dx gv h1;obtain⟨ga',e,h3⟩:=dH h2;cases e;exact⟨p,dx,.ref ga,rfl,r _ _ h1 (.inl n),fZ (r _ _ h3 (.inl n2))⟩
def P7 (K:af) (d:iF):Sp:=λvs H Q _=>∃v l D,vs=[v]/\fo (SrcR K d) H v l/\Mi.SD D l/\∀H' z,bE H H'->fo (yg d) H' z l->Q z H'
theorem Ef:bh ["sources","source"] ["sources"] (ay (top 46)):=by walk_at "s"
theorem DP (F:Def K mg "parcels_of" (top 46) ["sources"]) (T:Top K mg d) (uu: ~~~41): ~~~40:=by
 exists Ef,0
 .obtain⟨v,l,D,rfl,_⟩:=h;rfl
 obtain⟨v,l,D,rfl,hv,S,q⟩:=h;refine⟨_,(aD (bw (iN rfl nd (~~~292) (cH (N:=["sources","source"]) (sc:=ay (top 46)) (own:=[("source",1)]) (~~~63)) (~~~280) (~~~71) (λ_ _ _ _ _=>(a9 uu (~~~61) rfl (~~~107)))))),?_⟩;exists 118;have n6:=S.n6;exists ⟨ga,rfl,⟨_,dz.of gs⟩,λC hC=>fj (dS mr (dz.of gs) gp) (S:=yg d) (f:=λs=>s) gU hC (~~~62) (~~~78) (λH1 YR s1 Z9 pm=>?_)⟩
 .exists 2;exists ⟨x,z,D,rfl,rr,S.src z (aw hz),S.pos,S.le,λH2 p2 s2 h2 n2 g2=>kk _ H2 s2 λpJ r=>Mf h2 n2 g2 r⟩
 .rw[rn] at pm;exact q H1 _ s1 ⟨C,YR,rfl,Z9,pm⟩
def K3 (H0:Hp) (p:Addr):Rep (~~~94):=λH v r=>∃e,v=.ref e/\e≠p/\H0 e=none/\H e=some (.lst (r.map V.int))
theorem og {H0:Hp} {p:Addr}:ja (K3 H0 p):=⟨λ⟨e,a,b,c,h⟩ s=>⟨e,a,b,c,s _ _ h⟩⟩
theorem oH {H0 H H':Hp} {p:Addr} (k:Af p H H'):∀{vs:List V} {l:List (~~~94)},Paired (K3 H0 p H) vs l->Paired (K3 H0 p H') vs l
 |_,_,.nil =>.nil
 |_,_,.cons ⟨e,a,b,c,h⟩ t=>.cons ⟨e,a,b,c,k _ _ h b⟩ (oH k t)
theorem qO {H0 H:Hp} {p:Addr}:∀{vs:List V} {l:List (~~~94)},Paired (K3 H0 p H) vs l->Paired (eA H) vs l
 |_,_,.nil =>.nil
 |_,_,.cons ⟨e,a,b,c,h⟩ t=>.cons (by rw[a];exact fZ h) (qO t)
theorem BU {H0 H1 H:Hp} {p p':Addr} (hp:∃o,H1 p'=some o) (s:bE H0 H1):∀{vs:List V} {l:List (~~~94)},Paired (K3 H1 p H) vs l->Paired (K3 H0 p' H) vs l
 |_,_,.nil =>.nil
 |_,_,.cons ⟨e,a,b,c,h⟩ t=>.cons ⟨e,a,(λq=>by subst q;obtain⟨o,z⟩:=hp;rw[z] at c;cases c),s.free c,h⟩ (BU hp s t)
def FD (H:Hp) (Q:VK) (t:List (~~~94)):Prop:=∀H' p vs,bE H H'->H p=none->H' p=some (.lst vs)->Paired (K3 H p H') vs t->Q (.ref p) H'
def Zx (d:iF):Sp:=λvs H Q _=>∃v l a,vs=[v,.int a]/\fo (yg d) H v l/\l.length<=6/\FD H Q (Mi.c9 l a)
theorem yV:bh ["parcels","amount","kilograms","parcel","number"] ["parcels","amount"] (ay (top 47)):=by walk_at "s"
theorem yM (F:Def K mg "just_together" (top 47) ["parcels","amount"]) (T:Top K mg d): ~~~39:=by
 exists yV,0
 .obtain⟨v,l,a,rfl,_⟩:=h;rfl
 obtain⟨v,l,a,rfl,hv,n6,q⟩:=h;refine⟨_,(ao (sW 2 nd (~~~292) (cH (N:=["parcels","amount","kilograms","parcel","number"]) (sc:=ay (top 47)) (own:=[("parcel",3)]) (~~~63)) (~~~190) (~~~71) (λ_ _ _ _ _=>(~~~256)))
   (aD (bw (bZ (ae (b_ dY (bZ (ae (Cy wA (pv 1)) aj)) (pv 2)) (ae (b_ dY (bZ (~~~107)) (iN rfl nd (v9 K (pv 2)) (cH (N:=["parcels","amount","kilograms","parcel","number"]) (sc:=ay (top 47)) (own:=[("number",4)]) (~~~63)) (~~~225) (~~~71) (λ_ _ _ _ _=>(Cy wA (pv 4))))) aj)))))),?_⟩
 exists 118;exists ⟨ga,rfl,⟨_,dz.of gs⟩,λC hC=>fj (dS gU (dz.of gs) gp) (S:=rK) (f:=λs=>((Mi.f_ s:Nat):Int)) df hC (~~~62) (~~~78) (λH1 kz s1 HA pk=>?_)⟩
 .exists 2;exists su T rr (~~~306)
 rw[iX pk] at HA;have kl:(Mi.B4 l).length <=6:=by unfold Mi.B4;rw[ag];exact n6
 have HA:H1 C=some (.lst ((Mi.B4 l).map V.int)):=HA;exists 37;exists fA h2 (s2 _ _ HA) (by rw[ag,sizeLine_eq];simp;omega) λH3 p3 s3 n3 h3=>?_;exists 27;exists 0;have k4:=(~~~117) _ _ HA;refine⟨C,rfl,⟨_,dz.of k4⟩,λE' hE=>fj (dS df (dz.of k4) (kU (Mi.B4 l))) (S:=rK) (f:=λx=> -x) df hE (~~~62) (~~~78) (λH5 zW s5 hn5 pn=>?_)⟩
 .exists 133;exists 62
 rw[iX pn] at hn5;refine fA (s5 _ _ h4) hn5 (by rw[ag,ag,sizeLine_eq];simp;omega) λH6 p6 s6 yf h6=>?_;exists bY (by show 2<=sizeLine;decide) λH7 p7 s7 n7 h7=>?_;have KH:=s1.trans s2;have VU:=s4.trans s5;have PH:=KH.trans (s3.trans VU);refine q H7 p7 _ (PH.trans (s6.trans s7)) ((PH.trans s6).free n7) h7 (.cons ⟨p3,rfl,?_,KH.free n3,?_⟩ (.cons ⟨p6,rfl,?_,PH.free yf,?_⟩ .nil))
 .exact bL ((VU.trans s6) _ _ h3) n7
 .rw[(VU.trans (s6.trans s7)) _ _ h3];rfl
 .exact bL h6 n7
 .rw[s7 _ _ h6];rfl
def Tw (K:af) (d:iF):Sp:=λvs H Q _=>∃v u l,vs=[v,u]/\fo (SrcR K d) H v l/\fo (yg d) H u l/\l.length<=6/\FD H Q (Mi.vT l)
theorem uy {α:Type} (f:Nat->α) (i:Nat):(ax (i+1)).map f=(ax i).map f++[f i]:=by rw[iu,bj];rfl
theorem qr:bh ["sources","parcels","conditions","place","source"] ["sources","parcels"] (ay (top 49)):=by walk_at "s"
theorem ql (F:Def K mg "no_more_than_there_is" (top 49) ["sources","parcels"]) (T:Top K mg d) (oK: ~~~20): ~~~38:=by
 exists qr,0
 .obtain⟨v,u,l,rfl,_⟩:=h;rfl
 obtain⟨v,u,l,rfl,hv,hu,n6,q⟩:=h;refine⟨_,(ao (b9 2 nd (bZ aj))
   (ao (jv PassesOwn.never rfl (xH K T.enumerate (~~~311)) (EZ K 2 (cJ (cK 3 nd) (cJ (cK 4 nd) gI)))
   (aD (gT (nI bN dA dB ki (pv 2) (ae (b_ dY (bZ (ae (~~~316) aj)) (a9 oK (~~~61) rfl (ae (~~~123) (ae (pv 3) (ae (Cy wA (fc K (~~~279))) aj))))) aj)))))
   (aD (bw (pv 2))))),?_⟩
 exists 118;exists 26;exists 0;have gs1:=s1 _ _ gs;refine⟨false,ga,_,rfl,dz.of gs1,jr (uQ (K:=K) mr (tp:=false) 0 (H:=H) (dz.of gs) gp) (λi σ H'=>bE H H'/\(∃r1 r2,σ=[some (.ref ga),some u,some (.ref ca),r1,r2])/\∃vs,H' ca=some (.lst vs)/\Paired (K3 H ca H') vs ((ax i).map λi=>[(((l.getD i Bl.gO).there :Nat):Int)]++Du.alone l.length i (-((Mi.f_ (l.getD i Bl.gO):Nat):Int)))) ⟨s1,⟨none,none,rfl⟩,[],h1,.nil⟩ (~~~102) ?_ ?_⟩
 .rintro i z x σ H2 hz s2 r ⟨H0,⟨s0,⟨r1,r2,rfl⟩,vs,wF,pv⟩,sx⟩;obtain⟨Tt,uv,rfl,hT,Yt⟩:=r;have rf:l[i]?=some z.1/\z.2=i:=by
   rw[da] at hz;cases e:l[i]? with
   |none=>rw[e] at hz;cases hz
   |some b=>rw[e] at hz;cases hz;exact⟨rfl,by simp⟩
  have il:i<l.length:=(aO.mp rf.1).1;have ez:l.getD i Bl.gO=z.1:=by
   have:=getD_get (l:=l) Bl.gO il;exists 123
  exists 130;exists 44;exists 43;exists CV T Yt ?_;exists 64;exists gC ((~~~191) _ _ gs) ?_;rw[aZ gp];exists l9 ((cS gU).up hu (~~~191)) rf.1 λpv3 UC=>?_;exists su T UC ?_;exists ⟨l.length,i,_,rfl,il,by omega,λH4 p4 s4 n4 h4=>?_⟩;refine fA (s4 _ _ h3) h4 (by rw[ag,Du.oN,sizeLine_eq];simp;omega) λH5 p5 s5 n5 h5=>?_;exists 0;exists 73;have Ym:=QL _ _ nz;have lv:=aZ KG;rw[ag,eU] at lv;refine xq Ym (by rw[lv,sizeLine_eq];omega) λH6 h6 k6=>?_;exists ⟨λc o e=>k6 c o (QL _ _ (s2 _ _ e)) (bL e nc),⟨_,_,rfl⟩,_,h6,?_⟩;rw[uy];have ne:p5≠ca:=λe=>by subst e;rw[(~~~222) _ _ nz] at n5;cases n5
  refine d4 (oH k6 (aU og KG QL)) (.cons ⟨p5,rfl,ne,(~~~117).free n5,?_⟩ .nil);rw[k6 _ _ h5 ne,ez];rfl
 .rintro σ H2 ⟨s2,⟨r1,r2,rfl⟩,vs,wF,pv⟩;exists 0;rw[dv] at pv;exact q H2 ca vs s2 nc wF pv
def afm (K:af) (d:iF):Sp:=λvs H Q _=>∃v u t l wt D,vs=[v,u,t]/\fo (yg d) H v l/\eA H u (nats wt.least)/\eA H t (nats wt.most)/\Mi.SD D l/\j5 wt/\FD H Q (Mi.nB l wt)
theorem sX {α:Type} (f:Nat->List α) (i:Nat):(ax (i+1)).flatMap f=(ax i).flatMap f++f i:=by rw[iu,kE];simp
theorem Gh (l:List RS) (wt:Vbmiak.Want) (i:Nat):((ax i).flatMap λk=>Mi.Gg l k ((wt.least.getD k 0:Nat):Int) ((wt.most.getD k 0:Nat):Int)).length <=2*i:=by
 induction i with
 |zero=>simp
 |succ i ih=>
  rw[sX,au];show _+2<=_;omega
theorem qY:bh ["parcels","leasts","mosts","conditions","kind","bounds","above","under","parcel"] ["parcels","leasts","mosts"] (ay (top 48)):=by walk_at "s"
theorem qU (F:Def K mg "leasts_and_mosts_met" (top 48) ["parcels","leasts","mosts"]) (T:Top K mg d): ~~~37:=by
 exists qY,0
 .obtain⟨v,u,t,l,wt,D,rfl,_⟩:=h;rfl
 obtain⟨v,u,t,l,wt,D,rfl,hv,hu,ht,S,W,q⟩:=h;refine⟨_,(ao (b9 3 nd (bZ aj))
   (ao (jv PassesOwn.never rfl (SQ K T.enumerate T.zip (ae (pv 1) (~~~120))) (EZ K 2 (cJ (cK 4 nd) (cJ (cK 5 nd) gI)))
   (ao (sW 6 nd (~~~292) (cH (N:=["parcels","leasts","mosts","conditions","kind","bounds","above","under","parcel"]) (sc:=ay (top 48)) (own:=[("parcel",8)]) (~~~63)) (~~~224) (~~~71) (λ_ _ _ _ _=>(b_ r9 (cD (o9 K) (fc K (pv 8)) (pv 4) (~~~74)) (b_ gG (~~~228) (fc K (pv 8))))))
   (ao (sW 7 nd (~~~292) (cH (N:=["parcels","leasts","mosts","conditions","kind","bounds","above","under","parcel"]) (sc:=ay (top 48)) (own:=[("parcel",8)]) (~~~63)) (~~~224) (~~~71) (λ_ _ _ _ _=>(b_ r9 (b_ gG (~~~228) (fc K (pv 8))) (cD (o9 K) (fc K (pv 8)) (pv 4) (~~~74)))))
   (aD (gT (nI bN dN dO (pW K) (pv 3) (ae (bZ (ae (b_ dY (~~~164) (pv 6)) (ae (b_ dY (~~~164) (pv 7)) aj))) aj)))))))
   (aD (bw (pv 3))))),?_⟩
 exists 118;exists 23;obtain⟨ta,rfl,ts⟩:=dH ht;have n6:=S.n6;have kb:∀s,s∈l->Bd 121001 ((Mi.f_ s:Nat):Int):=λs hs=>EL (~~~183);exists 26;exists 0;have nn:∀(m:List Nat),Paired (K_ H) ((nats m).map V.int) m:=λm=>by unfold nats;rw[aI];exact AW _
 refine⟨false,false,ua,ta,_,_,rfl,dz.of (s1 _ _ us),dz.of (s1 _ _ ts),jr (RZ (K:=K) Hn Hn (p1:=false) (p2:=false) (H:=H) (dz.of us) (dz.of ts) (nn _) (nn _)) (λi σ H'=>bE H H'/\(∃r1 r2 r3 r4,σ=[some (.ref ga),some (.ref ua),some (.ref ta),some (.ref ca),r1,r2,r3,r4,none])/\∃vs,H' ca=some (.lst vs)/\Paired (K3 H ca H') vs ((ax i).flatMap λk=>Mi.Gg l k ((wt.least.getD k 0:Nat):Int) ((wt.most.getD k 0:Nat):Int))) ⟨s1,⟨none,none,none,none,rfl⟩,[],h1,.nil⟩ (~~~102) ?_ ?_⟩
 .rintro i z x σ H2 hz s2 r ⟨H0,⟨s0,⟨r1,r2,r3,r4,rfl⟩,vs,wF,pv⟩,sx⟩;obtain⟨T1,T2,x1,x2,rfl,hT1,Ut,e1,e2⟩:=r;have e1:x1=.int ((z.1.1:Nat):Int):=e1;have e2:x2=.int ((z.1.2:Nat):Int):=e2;subst e1 e2;have rf:(wt.least.zip wt.most)[i]?=some z.1/\z.2=i:=by
   rw[da] at hz;cases e:(wt.least.zip wt.most)[i]? with
   |none=>rw[e] at hz;cases hz
   |some b=>rw[e] at hz;cases hz;exact⟨rfl,by simp⟩
  have i3:i<3:=by
   have:=(aO.mp rf.1).1;rw[bC,W.l3,W.m3] at this;simpa using this
  have ez:=cw.mp rf.1;have el:wt.least.getD i 0=z.1.1:=by
   have:=getD_get (l:=wt.least) 0 (by rw[W.l3];exact i3);rw[ez.1] at this;exact(bG.inj this).symm
  have em:wt.most.getD i 0=z.1.2:=by
   have:=getD_get (l:=wt.most) 0 (by rw[W.m3];exact i3);rw[ez.2] at this;exact(bG.inj this).symm
  have bl:z.1.1<2^64:=W.l _ (aw ez.1);have bm:z.1.2<2^64:=W.m _ (aw ez.2);exists 130;exists qP hT1 rfl ?_;rw[rf.2];exists 0;have QF:=s2 _ _ gs;refine⟨ga,rfl,⟨_,dz.of QF⟩,λC hC=>fj (dS gU (dz.of QF) (aU gU gp s2)) (S:=rK) (f:=λs=>(Mi.cy s).getD i 0- ((z.1.1:Nat):Int)*((Mi.f_ s:Nat):Int)) df hC (~~~62) (λj y xv H' hy s' rr Q' kk=>?_) (λH3 avs s3 ha3 pa=>?_)⟩
  .have ym:=aw hy;exists 2;exists xF T rr λmv hm=>?_;exists l9 hm (k:=i) (x:=(Mi.cy y).getD i 0) (getD_get 0 (by unfold Mi.cy Mi.iS;rw[ag,ag,(S.src y ym).len];exact i3)) λw1 e=>?_;have e:w1=.int ((Mi.cy y).getD i 0):=e;subst e;exists ⟨T2,_,0,_,rfl,rfl,ie s' Ut,rfl,?_⟩;exists su T rr ?_;refine t_ (jd (a:=64) (b:=121001) bl (kb y ym) (~~~73)) ?_;exists 62
  rw[iX pa] at ha3;exists 0;have gs3:=s3 _ _ QF;refine⟨ga,rfl,⟨_,dz.of gs3⟩,λC' Fv=>fj (dS gU (dz.of gs3) (aU gU gp (~~~191))) (S:=rK) (f:=λs=>((z.1.2:Nat):Int)*((Mi.f_ s:Nat):Int)- (Mi.cy s).getD i 0) df Fv (~~~62) (λj y xv H' hy s' rr Q' kk=>?_) (λH4 bvs s4 hb4 pb=>?_)⟩
  .have ym:=aw hy;exists 2;exists ⟨T2,_,1,_,rfl,rfl,ie (s3.trans s') Ut,rfl,?_⟩;exists su T rr ?_;refine t_ (jd (a:=64) (b:=121001) bm (kb y ym) (~~~73)) ?_;exists xF T rr λmv hm=>?_;exists l9 hm (k:=i) (x:=(Mi.cy y).getD i 0) (getD_get 0 (by unfold Mi.cy Mi.iS;rw[ag,ag,(S.src y ym).len];exact i3)) λw1 e=>?_;have e:w1=.int ((Mi.cy y).getD i 0):=e;subst e;exists 62
  rw[iX pb] at hb4;have JU:=s3.trans s4;have abo:=JU _ _ nz;exists ⟨.inl ⟨rfl,_,dz.of abo⟩,?_⟩;exists bY (by show 1<=sizeLine;decide) λH5 p5 s5 n5 h5=>?_;exists fA h5 ((s4.trans s5) _ _ ha3) (by rw[ag,ag,sizeLine_eq];simp;omega) λH6 p6 s6 yf h6=>?_;exists 63;exists fA h7 ((~~~226) _ _ hb4) (by rw[ag,ag,sizeLine_eq];simp;omega) λH8 p8 s8 n8 h8=>?_;exists bY (by show 2<=sizeLine;decide) λH9 p9 s9 n9 h9=>?_;exists 0;have Xi:bE H4 H9:=s5.trans (s6.trans (s7.trans (s8.trans s9)));have s29:=JU.trans Xi;have aee:=Xi _ _ abo;have lv:=aZ KG;have lvl:=Gh l wt i;refine zA (K:=K) (tp:=false) aee h9 (by rw[lv,sizeLine_eq];show _+2<=_;omega) λHD zC R3=>?_;exists ⟨λc o e=>R3 c o (s29 _ _ (s2 _ _ e)) (bL e nc),⟨_,_,_,_,rfl⟩,_,zC,?_⟩;rw[sX,el,em];have ne6:p6≠ca:=λe=>by subst e;rw[(JU.trans s5) _ _ nz] at yf;cases yf
  have ne8:p8≠ca:=λe=>by subst e;rw[(JU.trans (~~~226)) _ _ nz] at n8;cases n8
  refine d4 (oH R3 (aU og KG s29)) (.cons ⟨p6,rfl,ne6,(s2.trans (JU.trans s5)).free yf,?_⟩ (.cons ⟨p8,rfl,ne8,(s2.trans (JU.trans (~~~226))).free n8,?_⟩ .nil))
  .rw[R3 _ _ ((s7.trans (s8.trans s9)) _ _ h6) ne6];rfl
  .rw[R3 _ _ (s9 _ _ h8) ne8];rfl
 .rintro σ H2 ⟨s2,⟨r1,r2,r3,r4,rfl⟩,vs,wF,pv⟩;exists 0;rw[dv,bC,W.l3,W.m3] at pv;exact q H2 ca vs s2 nc wF pv
end
end Pb
namespace Mi
open Vbmiak Bl
theorem OB {w:Want} {l:List RS} (hg:∀s,s∈l->s.grades.length=3) {c1 c2:List Int} (l1:c1.length=l.length) (l2:c2.length=l.length) (h1:∀x,x∈c1->0<=x) (h2:∀x,x∈c2->0<=x) {a:List Rat} (e:fz w l c1=some a):∃b,fz w l c2=some b:=by
 have hc:∀(c:List Int) (j:Nat),j<l.length->((c.getD j 0:Int):Rat)=(((c.getD j 0:Int):Rat)/tq l j)*tq l j:=by
  intro c j _;have:=uR l j;generalize tq l j=k at*
  generalize ((c.getD j 0:Int):Rat)=z;grind
 rcases qG w l hg c2 _ l2 h2 (hc c2) with⟨_,no⟩|⟨z,e2,_⟩
 .rcases qG w l hg c1 _ l1 h1 (hc c1) with⟨e1,_⟩|⟨z,e1,bz,_⟩
  .rw[e1] at e;cases e
  .exact absurd bz (no z)
 .exact⟨_,e2⟩
end Mi
namespace Pb
open PySem PySem.Spec PyProof.Rows L2 Zs
open Mi (bV dh MS)
open Bl (RS)
section
variable {P:Program} {w:World} {K:af} {mg:Str->Option Value} {base:Heap} {d:iF} {O:Hp}
theorem Ia.sd {m:MS} (h:Ia m):∃D,Mi.SD D m.sources/\Mi.j5 m.want:=by
 obtain⟨t,D,h,ht⟩:=h;exact⟨D,⟨h.pos,bA h.le (bW (~~~73) (~~~62)),h.ib,h.src⟩,h.want⟩
theorem aeY {c:Int} (h:0<=c/\c<=1000000):c.natAbs<2^64:=by
 exists 17
 omega
theorem Kn {α β:Type} (f:α×α->β):∀l:List α,(l.zip l).map f=l.map λx=>f (x,x)
 | []=>rfl
 |x::l=>by rw[aP,az,az,Kn f l]
def H_ (o:Option (List Rat)):Prop:=∀x,o=some x->x.length<=6/\∀a,a∈x->FB 2000000 a
theorem OP (wt:Vbmiak.Want) (l:List RS):(Mi.eH wt l).length <=2+l.length+6:=by
 unfold Mi.eH Mi.vT Mi.nB;rw[au,au,ag,eU];have:=Gh l wt 3;have e:(Mi.c9 l (wt.amount:Int)).length =2:=rfl;omega
def Zt (K:af) (d:iF):Sp:=λvs H Q _=>∃O y m v u c D,vs=[.ref y.ya,v,u]/\bI K d O H y m/\fo (yg d) H v m.sources/\eA H u c/\Ia m/\Mi.SD D m.sources/\c.length=m.sources.length/\(∀x,x∈c->0<=x)/\(∀x,x∈c->x.natAbs<=Mi.XB D)/\
 ∀H' z,bE H H'->Bq (fo (Fr K)) H' z (Mi.fz m.want m.sources c)->H_ (Mi.fz m.want m.sources c)->Q z H'
theorem DZ:bh ["yard","parcels","costs","conditions","counts","count","parcel"] ["yard","parcels","costs"] (ay (top 50)):=by walk_at "s"
theorem DC (F:Def K mg "best_blend" (top 50) ["yard","parcels","costs"]) (T:Top K mg d) (iB: ~~~39) (jf: ~~~38)
  (eK: ~~~37) (mR: ~~~21) (fE: ~~~5): ~~~45:=by
 exists DZ,0
 .obtain⟨O,y,m,v,u,c,D,rfl,_⟩:=h;rfl
 obtain⟨O,y,m,v,u,c,D,rfl,Y,hv,hu,B,S,cl,c0,cb,q⟩:=h;refine⟨_,(ao (b9 3 nd (a9 iB (~~~61) rfl (ae (pv 1) (~~~69))))
   (ao (gT (nI bN dN dO (pW K) (pv 3) (ae (a9 jf (~~~61) rfl (ae (~~~95) (~~~107))) aj)))
   (ao (gT (nI bN dN dO (pW K) (pv 3) (ae (a9 eK (~~~61) rfl (ae (pv 1) (ae (~~~95) (~~~69)))) aj)))
   (ao (b9 4 nd (a9 mR (~~~61) rfl (~~~267)))
   (ao (gN (eC v3 (pv 4) nZ (dX _)) (aD (bw nZ)) d5)
   (aD (bw (iN rfl nd (kq K T.zip (ae (pv 4) (~~~107))) (cH (N:=["yard","parcels","costs","conditions","counts","count","parcel"]) (sc:=ay (top 50)) (own:=[("count",5),("parcel",6)]) (~~~63)) (λ_ _ _ _ _=>(~~~220)) (~~~71) (λ_ _ _ _ _=>(a9 fE (~~~61) rfl (ae (pv 5) (ae (fc K (pv 6)) aj)))))))))))),?_⟩
 have n6:=S.n6;have W:=B.want;obtain⟨D',S',W'⟩:=B.sd;have kb:∀s,s∈m.sources->Mi.f_ s<2^121001:=λs hs=>EL (~~~183);exists xX T Y ?_;exists ⟨v,_,_,rfl,hv,n6,λH1 p1 Dl s1 n1 h1 t1=>?_⟩;exists ⟨.inl ⟨rfl,_,dz.of h1⟩,?_⟩;exists dJ T (Y.up s1) ?_;exists ⟨_,v,_,rfl,mD (Y.up s1),(cS gU).up hv s1,n6,λH2 p2 Dq s2 n2 h2 t2=>?_⟩;exists 0;have l1:=aZ t1;have l2:=aZ t2;have l1':Dl.length=2:=l1;have W8:Dq.length=m.sources.length:=by rw[l2];unfold Mi.vT;rw[ag,eU]
 refine zA (K:=K) (tp:=false) (s2 _ _ h1) h2 (by rw[l1',W8,sizeLine_eq];omega) λH3 h3 k3=>?_;have k3:Af p1 H2 H3:=k3;have Ax:bE H H3:=λb o e=>k3 b o (s2 _ _ (s1 _ _ e)) (bL e n1);have t3:Paired (K3 H p1 H3) (Dl++Dq) (Mi.c9 m.sources (m.want.amount:Int)++Mi.vT m.sources):=
  d4 (oH k3 (aU og t1 s2)) (oH k3 (BU ⟨_,h1⟩ s1 t2))
 exists ⟨.inl ⟨rfl,_,dz.of h3⟩,?_⟩;exists 0;have Y3:=Y.up Ax;refine uH T Y3 ?_;exists xZ T Y3 ?_;exists ⟨v,_,_,m.sources,m.want,D,rfl,(cS gU).up hv Ax,N3 Y3,N4 Y3,S,W,λH4 p4 vs4 s4 n4 h4 t4=>?_⟩;exists 0;have l4:=aZ t4;have l4':vs4.length<=6:=by rw[l4];exact Gh m.sources m.want 3
 refine zA (K:=K) (tp:=false) (s4 _ _ h3) h4 (by rw[au,l1',W8,sizeLine_eq];omega) λH5 h5 k5=>?_;have k5:Af p1 H4 H5:=k5;have PH:bE H H5:=λb o e=>k5 b o (s4 _ _ (Ax _ _ e)) (bL e n1);have t5:Paired (K3 H p1 H5) (Dl++Dq++vs4) (Mi.eH m.want m.sources):=
  d4 (oH k5 (aU og t3 s4)) (oH k5 (BU ⟨_,h3⟩ Ax t4))
 exists 0;have cl':=OP m.want m.sources;refine⟨u,.ref p1,c,_,Mi.XB D,rfl,(cS df).up hu PH,⟨p1,_,rfl,h5,qO t5⟩,Mi.Ih S W' cl c0 cb,Mi.Xu S.le,by omega,by omega,λH6 z s6 hz fb=>?_⟩;exists 106;have DV:=PH.trans s6;unfold Mi.fz at q;cases ec:Du.f9 c (Mi.eH m.want m.sources) with
 |none=>
  rw[ec] at hz q;exists 52;exists q H6 _ DV rfl (λx hx=>nomatch hx)
 |some x=>
  rw[ec] at hz q;obtain⟨nn,xa,Xv,rfl,xs,xp⟩:=hz;obtain⟨xl,xb⟩:=fb x ec;rw[ny];exists 85;obtain⟨ga,yz,rfl,gs,gp⟩:=(cS gU).up hv DV;exists ⟨false,false,xa,ga,_,_,rfl,dz.of xs,dz.of gs,λC hC=>fj (mO bU gU (p1:=false) (p2:=false) (dz.of xs) (dz.of gs) xp gp) (S:=Fr K) (f:=λz=>z.1*((Mi.f_ z.2:Nat):Rat)) bU hC (by rw[bC];omega) (~~~82) (λH7 ys s7 hL pr=>?_)⟩
  .exists 20;exists 90;exists su T r2 ?_;exists ⟨x1,z.1,Mi.f_ z.2,rfl,r1,(xb _ zm.1).le (~~~73),Bu (kb _ zm.2) (~~~73),trivial,λH8 w8 s8 Z'=>kk w8 H8 s8 (gJ Z')⟩
  .refine q H7 _ (DV.trans s7) ⟨(λz=>nomatch z),C,ys,rfl,hL,pr⟩ λx' hx'=>?_;cases hx';refine⟨by rw[ag,bC];omega,λa ha=>?_⟩;obtain⟨z,hz,rfl⟩:=aS.mp ha;have zm:=cE hz;exact(nT (a:=1000000) (b:=121001) (xb _ zm.1) (mM (kb _ zm.2) (~~~73))).le (~~~73)
def yZ (K:af) (d:iF) (ks:Bool) (f:MS->Nat->Option (List Rat)):Sp:=λvs H Q _=>∃O y m k,vs=.ref y.ya::(if ks=true then[V.int (k:Nat)] else[])/\bI K d O H y m/\Ia m/\k<3/\∀H' z,bE H H'->Bq (fo (Fr K)) H' z (f m k)->H_ (f m k)->Q z H'
theorem xM:bh ["yard","parcels","costs","source","parcel"] ["yard"] (ay (top 51)):=by walk_at "s"
theorem xC (F:Def K mg "cheapest_blend" (top 51) ["yard"]) (T:Top K mg d) (fg: ~~~40) (gR: ~~~45): ~~~44:=by
 exists xM,0
 .obtain⟨O,y,m,k,rfl,_⟩:=h;rfl
 obtain⟨O,y,m,k,rfl,Y,B,k3,q⟩:=h;refine⟨_,(ao (b9 1 nd (~~~247))
   (ao (sW 2 nd (kq K T.zip (ae (~~~95) (~~~107))) (cH (N:=["yard","parcels","costs","source","parcel"]) (sc:=ay (top 51)) (own:=[("source",3),("parcel",4)]) (~~~63)) (~~~87) (~~~71) (λ_ _ _ _ _=>(b_ gG (~~~256) (~~~316))))
   (aD (bw (a9 gR (~~~61) rfl (ae (pv 0) (ae (pv 1) (~~~120)))))))),?_⟩
 exists 140;have kb:∀s,s∈m.sources->Bd 121001 ((Mi.f_ s:Nat):Int):=λs hs=>EL (~~~183);exists 34;exists dJ T (Y.up s1) ?_;exists 0;obtain⟨Zq,lvs,e0,ls,lp⟩:=mD (Y.up s1);cases e0;refine⟨false,false,y.sl,ga,_,_,rfl,dz.of ls,dz.of gs,λC hC=>fj (mO mr gU (p1:=false) (p2:=false) (dz.of ls) (dz.of gs) lp gp) (S:=rK) (f:=λz=>z.1.cost*((Mi.f_ z.2:Nat):Int)) df hC (by rw[bC];omega) (~~~82) (~~~303)⟩
 .exists 20;exists 90;exists xT T r1 ?_;exists su T r2 ?_;have c0:=(S.src _ zm.1).cost;refine t_ (jd (a:=64) (b:=121001) (aeY c0) (kb _ zm.2) (~~~73)) ?_;exact kk _ H' (~~~218) λ_ _=>rfl
 .have ez:((m.sources.zip m.sources).map λz=>z.1.cost*((Mi.f_ z.2:Nat):Int))=m.sources.map λs=>s.cost*((Mi.f_ s:Nat):Int):=by
   rw[Kn]
  rw[ez] at pr;rw[iX pr] at hL;exists 0;obtain⟨c1,c2⟩:=Mi.BH S;exact⟨O,y,m,_,_,_,D,rfl,Y.up (~~~99),⟨ga,yz,rfl,s2 _ _ gs,aU gU gp s2⟩,fZ hL,B,S,by rw[ag],c1,c2,λH3 z s3 hz hb=>q H3 z (s1.trans (~~~191)) hz hb⟩
theorem yW:bh ["yard","kind","parcels","parcel"] ["yard","kind"] (ay (top 52)):=by walk_at "s"
theorem yN (F:Def K mg "poorest_blend" (top 52) ["yard","kind"]) (T:Top K mg d) (fg: ~~~40) (gR: ~~~45): ~~~43:=by
 exists yW,0
 .obtain⟨O,y,m,k,rfl,_⟩:=h;rfl
 obtain⟨O,y,m,k,rfl,Y,B,k3,q⟩:=h;refine⟨_,(ao (b9 2 nd (~~~247))
   (aD (bw (a9 gR (~~~61) rfl (ae (pv 0) (ae (pv 2) (ae (iN rfl nd (v9 K (pv 2)) (cH (N:=["yard","kind","parcels","parcel"]) (sc:=ay (top 52)) (own:=[("parcel",3)]) (~~~63)) (~~~190) (~~~71) (λ_ _ _ _ _=>(cD (o9 K) (~~~256) (pv 1) (~~~74)))) aj))))))),?_⟩
 exists 140;exists 34;exists ⟨ga,rfl,⟨_,dz.of gs⟩,λC hC=>fj (dS gU (dz.of gs) gp) (S:=rK) (f:=λs=>(Mi.cy s).getD k 0) df hC (~~~62) (~~~82) (~~~303)⟩
 .have zm:=aw hz;exists 2;exists 14;exact kk _ H' (~~~218) λ_ _=>rfl
 .rw[iX pr] at hL;exists 0;obtain⟨c1,c2⟩:=Mi.vn S k3;exact⟨O,y,m,_,_,_,D,rfl,Y.up (~~~99),⟨ga,yz,rfl,s2 _ _ gs,aU gU gp s2⟩,fZ hL,B,S,by rw[ag],c1,c2,λH3 z s3 hz hb=>q H3 z (s1.trans (~~~191)) hz hb⟩
theorem YO {ns:List Int} {M:Int} (h:M∈ns) (hm:∀x,x∈ns->x<=M) (h0:∀x,x∈ns->0<=x):ns.foldl (~~~140) 0=M:=by
 have:∀(l:List Int) (a:Int),(∀x,x∈l->x<=M)->a<=M->(M∈l\/a=M)->l.foldl (~~~140) a=M:=by
  intro l
  induction l with
  |nil=>intro a _ _ h;rcases h with h|h;exact(bJ h).elim;exact h
  |cons x l ih=>
   intro a h1 h2 h3;rw[dm];have hx:=h1 x (aH ..);refine ih _ (λy hy=>h1 y (aA _ hy)) (by split<;>omega) ?_;rcases h3 with h3|h3
   .rcases aB.mp h3 with h3|h3
    .right;split<;>omega
    .exact .inl h3
   .right;split<;>omega
 exact this ns 0 hm (h0 M h) (.inl h)
theorem yX:bh ["yard","kind","parcels","rich","parcel"] ["yard","kind"] (ay (top 53)):=by walk_at "s"
theorem yO (F:Def K mg "richest_blend" (top 53) ["yard","kind"]) (T:Top K mg d) (ht:P.given.tree=none) (fg: ~~~40) (gR: ~~~45): ~~~42:=by
 exists yX,0
 .obtain⟨O,y,m,k,rfl,_⟩:=h;rfl
 obtain⟨O,y,m,k,rfl,Y,B,k3,q⟩:=h;have hL:=rX (P:=P) (w:=w) (K:=K) (mg:=mg) (base:=base) (N:=["yard","kind","parcels","rich","parcel"]) (outer:=outer) (H:=H) (E:=E) hr (~~~73) ht rfl rfl;refine⟨_,(ao (b9 2 nd (~~~247))
   (ao (b9 3 nd (VI K rfl T.max (ae (iN rfl nd (v9 K (pv 2)) (cH (N:=["yard","kind","parcels","rich","parcel"]) (sc:=ay (top 53)) (own:=[("parcel",4)]) (~~~63)) (~~~225) (~~~71) (λ_ _ _ _ _=>(b_ j6 (b_ (iM hL.yl) (cD (o9 K) (~~~316) (pv 1) (~~~74)) (~~~316)) aF))) aj) aF))
   (aD (bw (a9 gR (~~~61) rfl (ae (pv 0) (ae (pv 2) (ae (iN rfl nd (v9 K (pv 2)) (cH (N:=["yard","kind","parcels","rich","parcel"]) (sc:=ay (top 53)) (own:=[("parcel",4)]) (~~~63)) (~~~225) (~~~71) (λ_ _ _ _ _=>(b_ r9 (b_ gG (pv 3) (~~~316)) (cD (o9 K) (~~~316) (pv 1) (~~~74))))) aj)))))))),?_⟩
 exists 140;have kb:∀s,s∈m.sources->Bd 121001 ((Mi.f_ s:Nat):Int):=λs hs=>EL (~~~183);exists 34;exists ⟨ga,rfl,⟨_,dz.of gs⟩,λC hC=>fj (dS gU (dz.of gs) gp) (S:=rK) (f:=λs=>((Mi.cy s).getD k 0).fdiv ((Mi.f_ s:Nat):Int)+1) df hC (~~~62) (~~~82) (λH2 ys s2 Z5 pr=>?_)⟩
 .have zm:=aw hz;have kp:=Mi.uW z;exists 2;exists 14;exists su T rr ?_;refine t_ (show((Mi.f_ z:Nat):Int)≠0 by omega) ?_;exists 62
 rw[iX pr] at Z5;exists 0;have KH:=s1.trans s2;have QF:=s2 _ _ gs;have KP:=aU gU gp s2;obtain⟨c1,c2⟩:=Mi.vo S k3;obtain⟨r0,r1⟩:=Mi.NR S k3;have rb:Bd 64 (Mi.pD m.sources k):=by
  exists 17
  show(Mi.pD m.sources k).natAbs <2^64;omega
 refine⟨C,_,rfl,dz.of Z5,λe=>?_,λM h1 h2=>?_⟩
 .have e0:V.int 0=V.int (Mi.pD m.sources k):=by unfold Mi.pD;rw[e];rfl
  rw[e0];exists ⟨ga,rfl,⟨_,dz.of QF⟩,λC' Fv=>fj (dS gU (dz.of QF) KP) (S:=rK) (f:=λs=>Mi.pD m.sources k*((Mi.f_ s:Nat):Int)- (Mi.cy s).getD k 0) df Fv (~~~62) (~~~82) (λH3 zs s3 Yl Wu=>?_)⟩
  .rw[om] at e;rw[e] at hz;cases hz
  .rw[iX Wu] at Yl;exists ⟨O,y,m,_,_,_,D,rfl,Y.up (KH.trans s3),⟨ga,yz,rfl,s3 _ _ QF,aU gU KP s3⟩,fZ Yl,B,S,by rw[ag],c1,c2,λH4 z s4 hz hb=>q H4 z (KH.trans (~~~222)) hz hb⟩
 .have eM:M=Mi.pD m.sources k:=by
   unfold Mi.pD;refine(YO h1 h2 λx hx=>?_).symm;obtain⟨z,hz,rfl⟩:=aS.mp hx;have:=(Mi.nF S.pos (S.src z hz) k3).1;have kp:=Mi.uW z;have:0<=((Mi.cy z).getD k 0).fdiv ((Mi.f_ z:Nat):Int):=by
    rw[hU _ (~~~62)];exact Int.ediv_nonneg this (~~~62)
   omega
  rw[eM];exists ⟨ga,rfl,⟨_,dz.of QF⟩,λC' Fv=>fj (dS gU (dz.of QF) KP) (S:=rK) (f:=λs=>Mi.pD m.sources k*((Mi.f_ s:Nat):Int)- (Mi.cy s).getD k 0) df Fv (~~~62) (~~~82) (λH3 zs s3 Yl Wu=>?_)⟩
  .have zm:=aw hz;exists 2;exists su T rr ?_;refine t_ (jd (a:=64) (b:=121001) rb (kb _ zm) (~~~73)) ?_;exists 14;exists 62
  .rw[iX Wu] at Yl;exists ⟨O,y,m,_,_,_,D,rfl,Y.up (KH.trans s3),⟨ga,yz,rfl,s3 _ _ QF,aU gU KP s3⟩,fZ Yl,B,S,by rw[ag],c1,c2,λH4 z s4 hz hb=>q H4 z (KH.trans (~~~222)) hz hb⟩
theorem D6:bh ["yard","numbers","amounts"] ["yard","numbers"] (ay (top 56)):=by walk_at "s"
theorem DE (F:Def K mg "call_blend" (top 56) ["yard","numbers"]) (T:Top K mg d) (mS: ~~~44) (ck: ~~~23) (km: ~~~27):
  dR P w K mg base 46 "call_blend" ["yard","numbers"] (qu K d (λ_ _=>True) λm _=>Mi.uh m):=by
 exists D6,0
 .exists 8
 obtain⟨O,y,m,u,n,rfl,Y,hu,B,_,q⟩:=h;refine⟨_,(ao (b9 2 nd (a9 mS (~~~61) rfl (~~~311)))
   (ao (gN (eC v3 (pv 2) nZ (dX _)) (aD (bw (~~~197))) d5)
   (aD (bw (b_ dY (~~~197) (a9 ck (~~~61) rfl (ae (b_ dY (bZ (ae (a9 km (~~~61) rfl (ae (~~~95) (~~~120))) aj)) (pv 2)) aj))))))),?_⟩
 have S:=B.src;exists ⟨O,y,m,0,rfl,Y,B,by decide,λH1 z s1 hz hb=>?_⟩;have hz:Bq (fo (Fr K)) H1 z (Mi.gy m.want m.sources):=hz;have hb:H_ (Mi.gy m.want m.sources):=hb;have q:∀H' p,bE H H'->H p=none->H' p=some (.lst ((Mi.uh m).map V.int))->Q (.ref p) H':=q;unfold Mi.uh at q;exists 106;cases e:Mi.gy m.want m.sources with
 |none=>
  rw[e] at hz q;exists 52;exists bY (by show 2<=sizeLine;decide) λH2 p2 s2 n2 h2=>q H2 p2 (~~~99) (s1.free n2) h2
 |some x=>
  rw[e] at hz q hb;obtain⟨nn,hz⟩:=hz;obtain⟨xl,xb⟩:=hb x rfl;obtain⟨xa,Xv,rfl,xs,xp⟩:=hz;rw[ny];exists 85;exists bY (by show 2<=sizeLine;decide) λH2 p2 s2 n2 h2=>?_;exists dJ T (Y.up (~~~99)) ?_;exists ⟨_,_,_,x,rfl,mD (Y.up (~~~99)),⟨xa,Xv,rfl,s2 _ _ xs,aU bU xp s2⟩,S,xb,λH3 cv s3 hc=>?_⟩;exists 27;exists 0;have JU:=s2.trans (~~~222);have lx:=aZ xp;refine fA h4 (JU _ _ xs) (by rw[lx,sizeLine_eq];simp;omega) λH5 p5 s5 n5 h5=>?_;exists ⟨.ref p5,(Mi.zv m.sources x::x).map Mi.fr,rfl,⟨false,p5,_,rfl,dz.of h5,?_⟩,?_,λH6 p6 s6 n6 h6=>?_⟩
  .exact sq (λ_ _ q=>AZ q) (.cons (bU.up hc (s4.trans s5)) (aU bU xp (JU.trans s5)))
  .rw[fK,dG,aL];omega
  rw[fK] at h6;refine fA ((~~~189) _ _ h2) h6 (by rw[ag,dG,sizeLine_eq];simp only[aL,du];omega) λH7 p7 s7 n7 h7=>?_;have DV:bE H H6:=s1.trans (JU.trans (s5.trans s6));exists 84;rfl
theorem Eb:bh ["yard","numbers","kind","poorest","ends","amounts"] ["yard","numbers"] (ay (top 58)):=by walk_at "s"
theorem DK (F:Def K mg "call_range" (top 58) ["yard","numbers"]) (T:Top K mg d) (nX: ~~~43) (nY: ~~~42)
  (ck: ~~~23) (je: ~~~26):dR P w K mg base 46 "call_range" ["yard","numbers"] (qu K d (λ_ n=>1<=n.length/\1<=n.getD 0 0/\n.getD 0 0<=3) λm n=>Mi.vP m (~~~66)):=by
 exists Eb,0
 .exists 8
 obtain⟨O,y,m,u,n,rfl,Y,hu,B,⟨n1,k1,k2⟩,q⟩:=h;refine⟨_,(ao (b9 2 nd (b_ r9 (~~~64) aF))
   (ao (b9 3 nd (a9 nX (~~~61) rfl (~~~284)))
   (ao (gN (eC v3 (pv 3) nZ (dX _)) (aD (bw (~~~197))) d5)
   (ao (sW 4 nd (MZ K (jU (ae (pv 3) (ae (a9 nY (~~~61) rfl (~~~284)) aj)))) (cH (N:=["yard","numbers","kind","poorest","ends","amounts"]) (sc:=ay (top 58)) (own:=[("amounts",5)]) (~~~63)) (λ_ _ _ _ _=>(cK 5 nd)) (~~~71) (λ_ _ _ _ _=>(a9 je (~~~61) rfl (ae (~~~95) (ae (pv 5) (~~~120))))))
   (aD (bw (b_ dY (~~~197) (a9 ck (~~~61) rfl (~~~241))))))))),?_⟩
 have S:=B.src;obtain⟨D,SD,W⟩:=B.sd;exists 23;exists gY us (~~~151) ?_;exists 0;generalize ek:n.getD 0 0=kk at*
 have e1:kk-1=((kk.toNat-1:Nat):Int):=by omega
 rw[e1];have k3:kk.toNat-1<3:=by omega
 unfold Mi.vP at q;simp only[ek] at q;generalize kk.toNat-1=k at*
 refine⟨O,y,m,k,rfl,Y,B,k3,λH1 z s1 hz hb=>?_⟩;have hz:Bq (fo (Fr K)) H1 z (Mi.sA m.want m.sources k):=hz;have hb:H_ (Mi.sA m.want m.sources k):=hb;exists 106;cases e:Mi.sA m.want m.sources k with
 |none=>
  rw[e] at hz q;exists 52;exists bY (by show 2<=sizeLine;decide) λH2 p2 s2 n2 h2=>q H2 p2 (~~~99) (s1.free n2) h2
 |some a=>
  obtain⟨b,eb⟩:∃b,Mi.sE m.want m.sources k=some b:=Mi.OB (λs hs=>(SD.src s hs).len) (by rw[ag]) (by rw[ag]) (Mi.vn SD k3).1 (Mi.vo SD k3).1 e;rw[e] at hz hb;simp only[e,eb] at q;obtain⟨nn,hz⟩:=hz;obtain⟨al,ab⟩:=hb a rfl;obtain⟨xa,Xv,rfl,xs,xp⟩:=hz;rw[ny];exists 85;exists ⟨O,y,m,k,rfl,Y.up s1,B,k3,λH2 z2 s2 rf OZ=>?_⟩;have rf:Bq (fo (Fr K)) H2 z2 (Mi.sE m.want m.sources k):=rf;have OZ:H_ (Mi.sE m.want m.sources k):=OZ;rw[eb] at rf OZ;obtain⟨nn2,rf⟩:=rf;obtain⟨bl,bb⟩:=OZ b rfl;exists jR (K:=K) (mC _ _) λH3 p3 s3 _ h3=>?_;have Oa:=s2.trans s3;have two:Paired (fo (Fr K) H3) [.ref xa,z2] [a,b]:=.cons ⟨xa,Xv,rfl,Oa _ _ xs,aU bU xp Oa⟩ (.cons ((cS bU).up rf s3) .nil);refine⟨p3,rfl,⟨_,h3⟩,λC hC=>fj (B1 (cS bU) h3 two) (S:=Fr K) (f:=λx=>Mi.gE m.sources x k) bU hC (by show 2<=100000;decide) (~~~82) (λH4 ys s4 hL pr=>?_)⟩
  .have zb:∀c,c∈z->FB 2000000 c:=by
    have zm:=aw hz;rcases aB.mp zm with e|e
    .rw[e];exact ab
    .rw[aN.mp e];exact bb
   exists 106;have Y':=Y.up (s1.trans (Oa.trans s'));refine dJ T Y' ?_;exists ⟨_,v',_,z,k,rfl,mD Y',rr,S,k3,zb,λH5 w5 s5 UI=>kk w5 H5 s5 (gJ UI)⟩
  exists bY (by show 2<=sizeLine;decide) λH5 p5 s5 n5 h5=>?_;exists ⟨.ref C,[Mi.gE m.sources a k,Mi.gE m.sources b k].map Mi.fr,rfl,⟨false,C,_,rfl,dz.of (s5 _ _ hL),sq (λ_ _ q=>AZ q) (aU bU pr s5)⟩,by show 4<=100000;decide,λH6 p6 s6 n6 h6=>?_⟩;rw[fK] at h6;refine fA (s6 _ _ h5) h6 (by rw[ag,dG,sizeLine_eq];show 2+2*2<=_;decide) λH7 p7 s7 n7 h7=>?_;have DV:bE H H6:=s1.trans (Oa.trans (s4.trans (s5.trans s6)));exists 84;rfl
def Zz (K:af) (d:iF):Sp:=λvs H Q _=>∃O y m,vs=[.ref y.ya]/\bI K d O H y m/\Ia m/\∀H' p,bE H H'->mK K H' p [.int (~~~286).1,.int (~~~286).2]->Q (.ref p) H'
theorem Q6 {xs:List V} {v:V} (h:xs[xs.length-1]?=some v) (h0:0<xs.length):QC xs (-1)=some v:=by
 unfold QC R0;have e1:¬(0:Int)<= -1:=by decide
 simp only[e1,if_false];have e3:(-1+(xs.length:Int)).toNat =xs.length-1:=by omega
 have e4: -(xs.length:Int)<= -1:=by omega
 rw[if_pos e4,e3];exact h
theorem IU {H:Hp} {C:Addr} {ys:List V} (hC:H C=some (.lst ys)):∀{vs:List V} {l:List (~~~94)},(∀v,v∈vs->v∈ys)->Paired (eA H) vs l->Paired (K3 (λ_=>none) C H) vs l
 |_,_,_,.nil =>.nil
 |v::_,r::_,m,.cons h t=>by
  refine .cons ?_ (IU hC (λv hv=>m v (aA _ hv)) t);obtain⟨a,e,s⟩:=dH h;refine⟨a,e,λq=>?_,rfl,s⟩;subst q;rw[hC] at s;cases s;have:=m v (aH ..);obtain⟨z,_,hz⟩:=aS.mp this;rw[e] at hz;cases hz
theorem wk:bh ["yard","parcels","conditions","found","share","place","source","needed","condition"] ["yard"] (ay (top 54)):=by walk_at "s"
theorem vX (F:Def K mg "greatest_amount" (top 54) ["yard"]) (T:Top K mg d) (fg: ~~~40) (iB: ~~~39)
  (eK: ~~~37) (oK: ~~~20) (mR: ~~~21): ~~~46:=by
 exists wk,0
 .obtain⟨O,y,m,rfl,_⟩:=h;rfl
 obtain⟨O,y,m,rfl,Y,B,q⟩:=h;refine⟨_,(ao (b9 1 nd (~~~247))
   (ao (b9 2 nd (b_ dY (a9 iB (~~~61) rfl (ae (pv 1) (ae aF aj))) (a9 eK (~~~61) rfl (ae (pv 1) (ae (~~~95) (~~~69))))))
   (ao (sW 2 nd (v9 K (pv 2)) (cH (N:=["yard","parcels","conditions","found","share","place","source","needed","condition"]) (sc:=ay (top 54)) (own:=[("condition",8)]) (~~~63)) (~~~224) (~~~71) (λ_ _ _ _ _=>(b_ dY (pv 8) (~~~164))))
   (ao (jv PassesOwn.never rfl (xH K T.enumerate (~~~69)) (~~~220)
   (ao (b9 7 nd (a9 oK (~~~61) rfl (ae (~~~278) (ae (pv 5) (ae (Cy wA (fc K (cD (o9 K) (pv 1) (pv 5) (~~~74)))) aj)))))
   (aD (gT (nI bN dA dB ki (pv 2) (ae (b_ dY (b_ dY (~~~164) (pv 7)) (bZ (ae (fc K (pv 6)) aj))) aj))))))
   (ao (b9 3 nd (a9 mR (~~~61) rfl (ae (b_ dY (b_ L9 (~~~164) (~~~278)) (~~~164)) (~~~120))))
   (ao (gN (eC v3 (pv 3) nZ (dX _)) (aD (bw (ic T.uJ rfl))) d5)
   (ao (b9 4 nd (cD (o9 K) (pv 3) (Cy wA aF) (~~~74)))
   (aD (bw (jU (ae (~~~229) (ae (~~~229) aj)))))))))))),?_⟩
 obtain⟨D,S,W'⟩:=B.sd;have W:=B.want;have n6:=S.n6;exists dJ T Y ?_;exists ⟨_,_,D,rfl,mD Y,S,λH1 pv s1 hp=>?_⟩;exists ⟨pv,m.sources,1,rfl,hp,n6,λH2 p2 Dq s2 n2 h2 t2=>?_⟩;exists 0;have Y2:=Y.up (~~~99);refine uH T Y2 ?_;exists xZ T Y2 ?_;exists ⟨pv,_,_,m.sources,m.want,D,rfl,(cS gU).up hp s2,N3 Y2,N4 Y2,S,W,λH3 p3 HX s3 n3 h3 t3=>?_⟩;have l2:=aZ t2;have W8:Dq.length=2:=l2;have l3:=aZ t3;have l3':HX.length<=6:=by rw[l3];exact Gh m.sources m.want 3
 refine fA (s3 _ _ h2) h3 (by rw[W8,sizeLine_eq];omega) λH4 p4 s4 n4 h4=>?_;exists 0;have t4:Paired (eA H4) (Dq++HX) (~~~210):=d4 (aU (cS df) (qO t2) (~~~222)) (aU (cS df) (qO t3) s4);have l4:(~~~210).length <=8:=by rw[<-aZ t4,au,W8];omega
 have r4:∀c,c∈Mi.c9 m.sources 1++Mi.nB m.sources m.want->c.length=m.sources.length+1:=by
  intro c hc;refine Mi.jD ⟨1,m.want.least,m.want.most⟩ m.sources c ?_;unfold Mi.eH;rcases aE.mp hc with h|h
  .exact cP _ (cP _ h)
  .exact cf _ h
 refine⟨p4,rfl,⟨_,dz.of h4⟩,λC hC=>fj (dS (cS df) (dz.of h4) t4) (S:=eA) (f:=λc=>c++[0]) (cS df) hC (~~~62) (~~~82) (λH5 ys s5 hL pr=>?_)⟩
 .obtain⟨za,rfl,zs⟩:=dH rr;have zl:=r4 z (aw hz);exists 2;exists bY (by show 1<=sizeLine;decide) λH6 p6 s6 yf h6=>?_;refine fA (s6 _ _ zs) h6 (by rw[ag,zl,sizeLine_eq];simp;omega) λH7 p7 s7 n7 h7=>?_;refine kk _ H7 (s6.trans s7) (wd (s6.free n7) ?_);rw[h7,bj];rfl
 have t5:=IU hL (λv hv=>hv) pr;exists ot ?_;exists 0;have PH:bE H H5:=s1.trans (s2.trans (~~~227));have KI:bE H H4:=s1.trans (~~~117);exists 94;refine dJ T (Y.up PH) ?_;exists 0;obtain⟨Zq,lvs,e0,ls,lp⟩:=mD (Y.up KI);cases e0;obtain⟨ga,yz,rfl,gs,gp⟩:=(cS gU).up hp wH;have lg:=aZ gp;refine⟨false,y.sl,_,rfl,dz.of (s5 _ _ ls),jr (uQ (K:=K) mr (tp:=false) 0 (H:=H4) (dz.of ls) lp) (λi σ H'=>bE H4 H'/\(∃r1 r2 r3,σ=[some (~~~268),some (.ref ga),some (.ref C),none,none,r1,r2,r3,none])/\∃vs,H' C=some (.lst vs)/\Paired (K3 (λ_=>none) C H') vs ((~~~210).map (λc=>c++[0])++(ax i).map λi=>[0]++Du.alone m.sources.length i (-((Mi.f_ (m.sources.getD i Bl.gO):Nat):Int))++[(((m.sources.getD i Bl.gO).there :Nat):Int)])) ⟨s5,⟨none,none,none,rfl⟩,ys,hL,by rw[List.range_zero,aV,dU];exact t5⟩ (~~~102) ?_ ?_⟩
 .rintro i z x σ H6 hz s6 r ⟨H0,⟨s0,⟨r1,r2,r3,rfl⟩,vs,wF,Bi⟩,sx⟩;obtain⟨Tt,uv,rfl,hT,Yt⟩:=r;have rf:m.sources[i]?=some z.1/\z.2=i:=by
   rw[da] at hz;cases e:m.sources[i]? with
   |none=>rw[e] at hz;cases hz
   |some b=>rw[e] at hz;cases hz;exact⟨rfl,by simp⟩
  have il:i<m.sources.length:=(aO.mp rf.1).1;have ez:m.sources.getD i Bl.gO=z.1:=by
   have:=getD_get (l:=m.sources) Bl.gO il;exists 123
  have nz:=sx _ _ wF;have KG:=aU og Bi sx;exists 44;exists gC (s6 _ _ gs) ?_;rw[lg];exists l9 (show fo (yg d) H6 (.ref ga) m.sources from⟨ga,yz,rfl,s6 _ _ gs,aU gU gp s6⟩) rf.1 λpv3 UC=>?_;exists su T UC ?_;exists ⟨m.sources.length,i,_,rfl,il,by omega,λH7 p7 s7 n7 h7=>?_⟩;exists ⟨.inl ⟨rfl,_,dz.of (s7 _ _ nz)⟩,?_⟩;exists bY (by show 1<=sizeLine;decide) λH8 p8 s8 n8 h8=>?_;exists fA h8 (s8 _ _ h7) (by rw[ag,Du.oN,sizeLine_eq];simp;omega) λH9 p9 s9 n9 h9=>?_;exists 0;have WB:bE H6 H9:=s7.trans (s8.trans s9);refine CV T (mr.up Yt WB) ?_;exists bY (by show 1<=sizeLine;decide) λHD HS DW MU zC=>?_;refine fA (DW _ _ h9) zC (by rw[au,ag,Du.oN,sizeLine_eq];simp;omega) λK4 MY GY MV IX=>?_;exists 0;have Zl:bE H6 K4:=WB.trans (DW.trans GY);have Ym:=Zl _ _ nz;have lv:=aZ KG;rw[au,ag,ag,eU] at lv;refine xq Ym (by rw[lv,sizeLine_eq];omega) λUo zD HL=>?_;exists ⟨λc o e=>HL c o (Zl _ _ (s6 _ _ e)) (bL e hC),⟨_,_,_,rfl⟩,_,zD,?_⟩;rw[uy,<-cV];have ne:MY≠C:=λe=>by subst e;rw[(WB.trans DW) _ _ nz] at MV;cases MV
  refine d4 (oH HL (aU og KG Zl)) (.cons ⟨MY,rfl,ne,rfl,?_⟩ .nil);rw[HL _ _ IX ne,ez];simp only[bj,az,aV]
 .rintro σ H6 ⟨s6,⟨r1,r2,r3,rfl⟩,vs,wF,Bi⟩;rw[dv] at Bi;have Bi:Paired (K3 (λ_=>none) C H6) vs (Mi.gF m.want m.sources):=Bi;exists 63;exists gC ((s6.trans s7) _ _ gs) ?_;rw[lg];refine⟨p7,m.sources.length,_,rfl,rfl,h7,by omega,by omega,by rw[sizeLine_eq];simp;omega,λp8 n8=>?_⟩;have e:(bT (m.sources.length:Int).toNat ([V.int 0])).flatten =(bT m.sources.length (0:Int)).map V.int:=by
   rw[eQ];generalize m.sources.length=k
   induction k with
   |zero=>rfl
   |succ n ih=>rw[dF,eR,ih,dF];rfl
  rw[e];have s8:bE H7 (upd H7 p8 (~~~142)):=iP n8;generalize eH8:upd H7 p8 (~~~142)=H8 at s8;have h8:H8 p8=some (~~~142):=by rw[<-eH8];exact cU
  exists bY (by show 1<=sizeLine;decide) λH9 p9 s9 n9 h9=>?_;refine fA (s9 _ _ h8) h9 (by rw[ag,jN,sizeLine_eq];simp;omega) λHD HS DW MU zC=>?_;exists 0;have Zk:bE H6 HD:=s7.trans (s8.trans (s9.trans DW));have cl:(Mi.gF m.want m.sources).length <=14:=by
   unfold Mi.gF;rw[au,ag,ag,eU];omega
  have cc:(Mi.dW m.sources).length =m.sources.length+1:=by unfold Mi.dW;rw[au,jN];rfl
  refine⟨.ref HS,.ref C,Mi.dW m.sources,Mi.gF m.want m.sources,Mi.XB D,rfl,fZ (by rw[zC];unfold Mi.dW;rw[bj];rfl),⟨C,vs,rfl,Zk _ _ wF,aU (cS df) (qO Bi) Zk⟩,Mi.Lc S W',Mi.Xu S.le,by omega,by omega,λK4 z GY hz fb=>?_⟩;have ab8:bE H K4:=KI.trans (s6.trans (Zk.trans GY));exists 106;unfold Mi.jc at q;cases ec:Du.f9 (Mi.dW m.sources) (Mi.gF m.want m.sources) with
  |none=>
   rw[ec] at hz q;exists 52;exists 0;obtain⟨a,ea,sa⟩:=T.nothing K4;cases ea;exact q K4 _ ab8 sa
  |some x=>
   rw[ec] at hz q;obtain⟨nn,xa,Xv,rfl,xs,xp⟩:=hz;obtain⟨xl,xb⟩:=fb x ec;rw[cc] at xl;have lx:=aZ xp;rw[ny];exists 85;exists 0;have el:x[m.sources.length]?=some (x.getD m.sources.length 0):=getD_get 0 (~~~62);obtain⟨sv,Yt,rs⟩:=sj xp el;refine gY xs (v:=sv) (Q6 (by rw[lx,xl];exact Yt) (~~~62)) ?_;exists jR (K:=K) (mC _ _) λUo Bh uZ _ zD=>q Uo Bh (ab8.trans uZ) zD
theorem G5:bh ["yard","numbers"] ["yard","numbers"] (ay (top 57)):=by walk_at "s"
theorem Gx (F:Def K mg "call_most" (top 57) ["yard","numbers"]) (T:Top K mg d) (mh: ~~~46) (ck: ~~~23):dR P w K mg base 46 "call_most" ["yard","numbers"] (qu K d (λ_ _=>True) λm _=>Mi.Sd m):=by
 exists G5,0
 .exists 8
 obtain⟨O,y,m,u,n,rfl,Y,hu,B,_,q⟩:=h;refine⟨_,(aD (bw (b_ dY (~~~164) (a9 ck (~~~61) rfl (ae (bZ (ae (a9 mh (~~~61) rfl (~~~311)) aj)) aj))))),?_⟩;exists 28;exists ⟨O,y,m,rfl,Y.up s1,B,λH2 p2 s2 h2=>?_⟩;exists 64;exists ⟨.ref p3,[[(~~~286).1,(~~~286).2]],rfl,⟨false,p3,_,rfl,dz.of h3,.cons ⟨p2,true,rfl,ie s3 h2⟩ .nil⟩,by show 2<=100000;decide,λH4 p4 s4 n4 h4=>?_⟩;refine fA ((~~~117) _ _ h1) h4 (by show 3<=sizeLine;decide) λH5 p5 s5 n5 h5=>?_;have KI:bE H H4:=s1.trans (~~~117);exact q H5 p5 (KI.trans s5) (KI.free n5) h5
end
section
variable {σ:L2.St} {H:Hp} {Q:VK} {ta tb:TE}
theorem X9 (h:ta σ H λx H1=>∃c,x=.bl c/\if c=true then tb σ H1 Q else Q (.bl false) H1):Xk ta tb σ H Q:=h
theorem aba (h:ta σ H λx H1=>∃c,x=.bl c/\if c=true then Q (.bl true) H1 else tb σ H1 Q):acu ta tb σ H Q:=h
end
section
variable {P:Program} {w:World} {K:af} {mg:Str->Option Value} {base:Heap} {d:iF} {O:Hp}
def ae5:Option Int->V
 |none=>.jL
 |some i=>.int i
def XD (K:af):Rep Mi.Bound:=λH v b=>∃a,v=.ref a/\mK K H a [.int b.1,ae5 b.2]
def nameOf:Nat->Str
 |1=>"amounts"
 |2=>"prices"
 |_=>"leasts and mosts"
def XG:Rep Nat:=λ_ v n=>v=.str (nameOf n)/\n<=2
structure Oy (K:af) (d:iF):Prop where
 bd:∃kz,Fz K d.bounds kz/\∀p:Nat,p<18->∃v,BM kz (p:Int)=some v/\∀H,kI K (XD K) H v (Mi.cx p)
 rw:∃kz,Fz K d.rows kz/\∀p:Nat,p<18->(BM kz (p:Int)=none/\Mi.rowsOf p=[])\/∃v,BM kz (p:Int)=some v/\∀H,kI K XG H v (Mi.rowsOf p)
theorem ZG:ja (XD K):=⟨λ⟨a,e,h⟩ s=>⟨a,e,ie s h⟩⟩
theorem ZH:ja XG:=⟨λh _=>h⟩
def Tv (f:Nat->Nat):Sp:=λvs H Q _=>∃p:Nat,vs=[.int (p:Nat)]/\p<18/\∀H',bE H H'->Q (.int (f p:Nat)) H'
theorem Rz {H:Hp} {Q:VK} {α:Type} {R:Rep α} {v:V} {l:List α} (h:kI K R H v l) (q:Q (.int l.length) H):VO K [v] H Q:=by
 obtain⟨a,vs,rfl,s,p⟩:=h;refine⟨a,vs,rfl,.inr s,?_⟩;rw[aZ p];exact q
theorem vf:bh ["call"] ["call"] (ay (top 65)):=by walk_at "s"
theorem vd (F:Def K mg "how_many_numbers" (top 65) ["call"]) (T:Top K mg d) (TT:Oy K d): ~~~54:=by
 exists vf,0
 .obtain⟨p,rfl,_⟩:=h;rfl
 obtain⟨p,rfl,hp,q⟩:=h;refine⟨_,(aD (bw (cR (iH K) rfl T.len bP (ae (Xf K (ic T.QW rfl) (pv 0) (~~~74)) aj)))),?_⟩;obtain⟨kz,D,hd⟩:=TT.bd;obtain⟨v,e,hv⟩:=hd p hp;exists ⟨d.bounds,kz,_,v,rfl,rfl,D,e,?_⟩;exists Rz (hv H) (q H (~~~218))
theorem yU:bh ["call"] ["call"] (ay (top 66)):=by walk_at "s"
theorem yL (F:Def K mg "how_many_rows" (top 66) ["call"]) (T:Top K mg d) (TT:Oy K d): ~~~53:=by
 exists yU,0
 .obtain⟨p,rfl,_⟩:=h;rfl
 obtain⟨p,rfl,hp,q⟩:=h;refine⟨_,(aD (bw (cR (iH K) rfl T.len bP (ae (JI K (ic T.aaG rfl) (pv 0) (jU aj) ⟨rfl,rfl,rfl,rfl⟩) aj)))),?_⟩;obtain⟨kz,D,hd⟩:=TT.rw;exists 0;exists ⟨d.rows,kz,rfl,D,?_⟩;exists jR (K:=K) (cj _) λH1 p1 s1 n1 h1=>?_;refine⟨_,rfl,?_⟩;exists 0;rcases hd p hp with⟨e1,e2⟩|⟨v,e1,hv⟩
 .rw[e1];refine⟨p1,[],rfl,.inr h1,?_⟩;have:=q H1 s1;simp only[e2] at this;exact this
 .rw[e1];exact Rz (hv H1) (q H1 s1)
def TK (K:af):Sp:=λvs H Q _=>∃n v b k,vs=[.int n,v,.int (k:Nat)]/\XD K H v b/\Q (.bl (Mi.d6 n b k)) H
theorem PU:bh ["number","bound","pile_count","last"] ["number","bound","pile_count"] (ay (top 67)):=by walk_at "s"
theorem Px (F:Def K mg "within" (top 67) ["number","bound","pile_count"]): ~~~52:=by
 exists PU,0
 .obtain⟨n,v,b,k,rfl,_⟩:=h;rfl
 obtain⟨n,v,b,k,rfl,⟨a,rfl,sa⟩,q⟩:=h;refine⟨_,(ao (b9 3 nd (Cw (eC v3 (~~~85) nZ (dX _)) (pv 2) (~~~85)))
   (aD (bw (Cv (ko ND (~~~85) (pv 0) (dX _)) (yQ (ko ND (pv 0) (pv 3) (dX _))))))),?_⟩
 obtain⟨lo,hi⟩:=b;unfold Mi.d6 at q;exists ⟨a,_,1,_,rfl,rfl,sa,rfl,?_⟩;exists ⟨by cases hi<;>rfl,?_⟩;exists 0;cases hi with
 |none=>
  exists 103;exists ⟨a,_,0,_,rfl,rfl,sa,rfl,?_⟩;exists 38
  .exists 0;have e:decide (lo<=n)=true:=decide_eq_true c;simp only[e,iR] at q;exact q
  .have e:decide (lo<=n)=false:=decide_eq_false c;simp only[e,eY] at q;exact q
 |some x=>
  exists 85;exists ⟨a,_,1,.int x,rfl,rfl,sa,rfl,?_⟩;exists ⟨a,_,0,_,rfl,rfl,sa,rfl,?_⟩;exists 38
  .exists 0;have e:decide (lo<=n)=true:=decide_eq_true c;simp only[e,iR] at q;exact q
  .have e:decide (lo<=n)=false:=decide_eq_false c;simp only[e,eY] at q;exact q
def J7:Sp:=λvs H Q _=>∃(p:Nat) (v:V) (n:List Int) (k:Nat),vs=[.int (p:Nat),v,.int (k:Nat)]/\p<18/\eA H v n/\n.length<=100000/\∀H',bE H H'->Q (.bl (Mi.d9 p n k)) H'
theorem DY:bh ["call","numbers","pile_count","number","bound"] ["call","numbers","pile_count"] (ay (top 68)):=by walk_at "s"
theorem DB (F:Def K mg "all_within" (top 68) ["call","numbers","pile_count"]) (T:Top K mg d) (TT:Oy K d) (Ct: ~~~52): ~~~51:=by
 exists DY,0
 .obtain⟨p,v,n,k,rfl,_⟩:=h;rfl
 obtain⟨p,v,n,k,rfl,hp,hv,nl,q⟩:=h;refine⟨_,(aD (bw (cR (Rc K) rfl T.all (~~~63) (ae (iN rfl nd (kq K T.zip (ae (pv 1) (ae (Xf K (ic T.QW rfl) (pv 0) (~~~74)) aj))) (cH (N:=["call","numbers","pile_count","number","bound"]) (sc:=ay (top 68)) (own:=[("number",3),("bound",4)]) (~~~63)) (~~~87) (~~~71) (λ_ _ _ _ _=>(a9 Ct (~~~61) rfl (ae (pv 3) (ae (pv 4) (~~~120)))))) aj)))),?_⟩;obtain⟨kz,D,hd⟩:=TT.bd;obtain⟨bv,e,hb⟩:=hd p hp;obtain⟨ba,bvs,rfl,bs,bp⟩:=hb H;exists 138;exists ⟨d.bounds,kz,_,_,rfl,rfl,D,e,?_⟩;exists ⟨false,true,va,ba,_,_,rfl,dz.of MH,bs,λC hC=>fj (mO df ZG (p1:=false) (p2:=true) (dz.of MH) bs (kU n) bp) (S:=pR) (f:=λx=>Mi.d6 x.1 x.2 k) jw hC (by rw[bC];omega) (~~~82) (λH1 ys s1 hL pr=>?_)⟩
 .exists 20;have r1:x1=.int z.1:=r1;subst r1;exists 24;exists ⟨z.1,x2,z.2,k,rfl,r2,kk _ H' (~~~218) (gZ _)⟩
 .exists 0;rw[qH pr] at hL;exact⟨C,_,rfl,dz.of hL,q H1 s1⟩
def PZ:Sp:=λvs H Q _=>∃(v:V) (n:List Int) (a b:Int),vs=[v,.int a,.int b]/\eA H v n/\n.length<=100000/\∀H',bE H H'->Q (.bl (Mi.between n a b)) H'
theorem CL:bh ["numbers","first","last","number"] ["numbers","first","last"] (ay (top 69)):=by walk_at "s"
theorem Ck (F:Def K mg "all_between" (top 69) ["numbers","first","last"]) (T:Top K mg d): ~~~50:=by
 exists CL,0
 .obtain⟨v,n,a,b,rfl,_⟩:=h;rfl
 obtain⟨v,n,a,b,rfl,hv,nl,q⟩:=h;refine⟨_,(aD (bw (cR (Rc K) rfl T.all (~~~63) (ae (iN rfl nd (~~~292) (cH (N:=["numbers","first","last","number"]) (sc:=ay (top 69)) (own:=[("number",3)]) (~~~63)) (~~~190) (~~~71) (λ_ _ _ _ _=>(Cv (ko ND (pv 1) (pv 3) (dX _)) (yQ (ko ND (pv 3) (pv 2) (dX _)))))) aj)))),?_⟩;exists 138;exists ⟨va,rfl,⟨_,dz.of MH⟩,λC hC=>fj (dS df (dz.of MH) (kU n)) (S:=pR) (f:=λn=>decide (a<=n)&&decide (n<=b)) jw hC nl (~~~82) (λH1 ys s1 hL pr=>?_)⟩
 .have rr:v'=.int z:=rr;subst rr;exists 2;exists 38
  .exists kk _ H' (~~~218) ?_;rw[decide_eq_true c,iR];exact gZ _
  .refine kk _ H' (~~~218) ?_;rw[decide_eq_false c,eY];exact gZ _
 .exists 0;rw[qH pr] at hL;exact⟨C,_,rfl,dz.of hL,q H1 s1⟩
theorem aeX {n:Nat} (h:n<=1000):Bd 20 ((n:Nat):Int):=by
 have e:(2:Nat)^20=1048576:=by decide
 show((n:Nat):Int).natAbs <2^20;omega
def V5:Sp:=λvs H Q _=>∃(v:V) (r:List Int) (n:Nat),vs=[v,.int (n:Nat)]/\eA H v r/\r.length<=100000/\n<=1000/\∀H',bE H H'->Q (.bl (Mi.vj r n)) H'
theorem yT:bh ["row","count","above"] ["row","count"] (ay (top 70)):=by walk_at "s"
theorem yK (F:Def K mg "are_fractions" (top 70) ["row","count"]) (T:Top K mg d) (iT: ~~~50): ~~~49:=by
 exists yT,0
 .obtain⟨v,r,n,rfl,_⟩:=h;rfl
 obtain⟨v,r,n,rfl,hv,rl,n3,q⟩:=h;refine⟨_,(ao (gN (eC Sz (~~~123) (b_ gG aF (pv 1)) (dX _)) (aD (bw JH)) d5)
   (ao (b9 2 nd (a9 iT (~~~61) rfl (ae (~~~281) (ae (Cy wA (iU T.lA rfl)) (ae (iU T.lA rfl) aj)))))
   (aD (bw (Cv (pv 2) (yQ (a9 iT (~~~61) rfl (ae (~~~281) (ae aF (ae (iU T.lA rfl) aj)))))))))),?_⟩
 exists 138;unfold Mi.vj at q;exists gC MH ?_;rw[ag];exists t_ (jd (a:=2) (b:=20) (by show(2:Int).natAbs <2^2;decide) (aeX n3) (~~~73)) ?_;exists Ry (λc=>?_) λc=>?_
 .rw[if_pos (~~~62)] at q;exists q H (~~~218)
 .exists 67;exists ⟨0,rfl,?_⟩;exists uO (n:=0) (dz.of MH) λH1 p1 s1 n1 h1=>?_;rw[lT,xk,tZ] at h1;exists 0;have l1:(Mi.pU r).length <=r.length:=by rw[<-tZ];exact xj r
  refine⟨_,Mi.pU r,-1000000000000,1000000000000,rfl,fZ h1,by omega,λH2 s2=>?_⟩;exists 0;cases e:Mi.between (Mi.pU r) (-1000000000000) 1000000000000 with
  |false=>
   simp only[e,eY] at q;exists 85;exact q H2 (~~~99)
  |true=>
   simp only[e,iR] at q;exists 103;exists 136;exists uO (n:=1) (dz.of ((~~~99) _ _ MH)) λH3 p3 s3 n3 h3=>?_;rw[<-gW,xk,AX] at h3;have l3:(Mi.xB r).length <=r.length:=by rw[<-AX];exact bA (xj _) (by rw[dg];omega)
   exists ⟨_,Mi.xB r,1,1000000000000,rfl,fZ h3,by omega,λH4 s4=>q H4 (s1.trans (~~~117))⟩
def ZC (K:af):Sp:=λvs H Q _=>∃(v:V) (r:List Int) (nm:Nat) (n:Nat),vs=[v,.str (nameOf nm),.int (n:Nat)]/\nm<=2/\eA H v r/\r.length<=100000/\n<=6/\∀H',bE H H'->Q (.bl (Mi.FI r nm n)) H'
theorem BJ (a b:Str):decide (V.str a=V.str b)=decide (a=b):=by
 by_cases h:a=b
 .rw[decide_eq_true h,h];simp
 .rw[decide_eq_false h,decide_eq_false (λz=>h (V.str.inj z))]
theorem Ed:bh ["row","name","source_count"] ["row","name","source_count"] (ay (top 71)):=by walk_at "s"
theorem DN (F:Def K mg "is_as_told" (top 71) ["row","name","source_count"]) (T:Top K mg d) (iT: ~~~50) (kW: ~~~49): ~~~48:=by
 exists Ed,0
 .obtain⟨v,r,nm,n,rfl,_⟩:=h;rfl
 obtain⟨v,r,nm,n,rfl,hn,hv,rl,n6,q⟩:=h;refine⟨_,(ao (gN (eC uq (pv 1) SM (dX _)) (aD (bw (a9 kW (~~~61) rfl (~~~284)))) d5)
   (ao (gN (eC uq (pv 1) SM (dX _)) (aD (bw (a9 kW (~~~61) rfl (ae (pv 0) (ae (b_ j6 (iU T.FE rfl) (pv 2)) aj))))) d5)
   (aD (bw (Cv (ko uq (~~~123) aF (dX _)) (yQ (a9 iT (~~~61) rfl (ae (pv 0) (ae aF (ae (iU T.K8 rfl) aj)))))))))),?_⟩
 exists 2;rw[BJ];exists 0
 match nm,hn with
 |1,_=>
  exists 103;exists ⟨v,r,n,rfl,hv,rl,by omega,q⟩
 |2,_=>
  exists 85;exists 2;rw[BJ];exists kG ?_;exists ⟨v,r,7+n,rfl,hv,rl,by omega,q⟩
 |0,_=>
  exists 85;exists 2;rw[BJ];exists lC ?_;exists 0;exists 138;refine gC MH ?_;rw[ag];exists 0;have q:∀H',bE H H'->Q (.bl (decide (r.length=6)&&Mi.between r 0 1000000)) H':=q;refine ub (λc=>?_) λc=>?_
  .have c':r.length=6:=by omega
   simp only[c',decide_true,iR] at q;exists ⟨_,r,0,1000000,rfl,fZ MH,rl,q⟩
  .have c':¬r.length=6:=by omega
   simp only[decide_eq_false c',eY] at q;exact q H (~~~218)
def PY:Sp:=λvs H Q _=>∃(p:Nat) (v:V) (rs:List (~~~94)) (n:Nat),vs=[.int (p:Nat),v,.int (n:Nat)]/\p<18/\fo eA H v rs/\(∀r,r∈rs->r.length<=100000)/\rs.length<=2/\n<=6/\∀H',bE H H'->Q (.bl (Mi.gu p rs n)) H'
theorem CK:bh ["call","rows","source_count","row","name"] ["call","rows","source_count"] (ay (top 72)):=by walk_at "s"
theorem Cj (F:Def K mg "all_as_told" (top 72) ["call","rows","source_count"]) (T:Top K mg d) (TT:Oy K d) (sg: ~~~48): ~~~47:=by
 exists CK,0
 .obtain⟨p,v,rs,n,rfl,_⟩:=h;rfl
 obtain⟨p,v,rs,n,rfl,hp,hv,rl,r2,n6,q⟩:=h;refine⟨_,(aD (bw (cR (Rc K) rfl T.all (~~~63) (ae (iN rfl nd (kq K T.zip (ae (pv 1) (ae (JI K (ic T.aaG rfl) (pv 0) (jU aj) ⟨rfl,rfl,rfl,rfl⟩) aj))) (cH (N:=["call","rows","source_count","row","name"]) (sc:=ay (top 72)) (own:=[("row",3),("name",4)]) (~~~63)) (~~~87) (~~~71) (λ_ _ _ _ _=>(a9 sg (~~~61) rfl (ae (pv 3) (ae (pv 4) (~~~120)))))) aj)))),?_⟩;obtain⟨kz,D,hd⟩:=TT.rw;obtain⟨va,HY,rfl,MH,vp⟩:=hv;exists ⟨d.rows,kz,rfl,D,?_⟩;exists jR (K:=K) (cj _) λH1 p1 s1 n1 h1=>?_;refine⟨_,rfl,?_⟩;exists 0;obtain⟨na,zW,e,ns,np⟩:∃na zW,(BM kz (p:Int)).getD (.ref p1)=.ref na/\mK K H1 na zW/\Paired (XG H1) zW (Mi.rowsOf p):=by
  rcases hd p hp with⟨e1,e2⟩|⟨v,e1,hv⟩
  .exact⟨p1,[],by rw[e1];rfl,h1,by rw[e2];exact .nil⟩
  .obtain⟨a,vs,rfl,s,pp⟩:=hv H1;exact⟨a,vs,by rw[e1];rfl,s,pp⟩
 rw[e];refine⟨false,true,va,na,_,_,rfl,dz.of (s1 _ _ MH),ns,λC hC=>fj (mO (cS df) ZH (p1:=false) (p2:=true) (dz.of (s1 _ _ MH)) ns (aU (cS df) vp s1) np) (S:=pR) (f:=λx=>Mi.FI x.1 x.2 n) jw hC (by rw[bC];omega) (~~~82) (~~~303)⟩
 .obtain⟨Tt,x1,x2,rfl,hT,r1,r2,r3⟩:=rr;subst r2;exists 90;exists ⟨x1,z.1,z.2,n,rfl,r3,r1,rl _ zm.1,n6,λH3 s3=>kk _ H3 s3 (gZ _)⟩
 .exists 0;rw[qH pr] at hL;exact⟨C,_,rfl,dz.of hL,q H2 (~~~99)⟩
end
section
variable {P:Program} {w:World} {K:af} {mg:Str->Option Value} {base:Heap} {d:iF} {O:Hp}
section
variable {H:Hp} {Q:VK} {a l:Addr} {p:dh}
theorem uw (T:Top K mg d) (h:oo K d H a l p) (q:Q (.int (p.kind:Nat)) H):nk K "sort_number" (.ref a) H Q:=let⟨⟨dx,h1⟩,_⟩:=h;o6 T.pile (~~~63) h1 rfl q
theorem JK (T:Top K mg d) (h:oo K d H a l p) (q:Q (.int (p.most:Nat)) H):nk K "most" (.ref a) H Q:=let⟨⟨dx,h1⟩,_⟩:=h;o6 T.pile (~~~63) h1 rfl q
theorem e_ (T:Top K mg d) (h:oo K d H a l p) (q:Q (.ref l) H):nk K "lots" (.ref a) H Q:=let⟨⟨dx,h1⟩,_⟩:=h;o6 T.pile (~~~63) h1 rfl q
theorem kY (h:oo K d H a l p):fo (mI K d) H (.ref l) p.lots:=let⟨_,lvs,h2,h3⟩:=h;⟨l,lvs,rfl,h2,h3⟩
theorem oo.same {H':Hp} (h:oo K d H a l p) (s:bE H H'):oo K d H' a l p:=h.up (λo=>s _ o) (λo=>s _ o) (GU s)
end
theorem Ia.lots {m:MS} (h:Ia m):∃D,∀p,p∈m.piles->h_ D p.lots/\p.lots.length<=30/\Mi.mJ D p:=by
 obtain⟨t,D,h,ht⟩:=h;refine⟨D,λp hp=>?_⟩;have P:=h.pile p hp;refine⟨⟨c8 h.pos,Ij h ht,P.lots,?_,by have:=P.len;omega⟩,P.len,P⟩;have:=P.weight;have:=P.most;exact bf (show Mi.aJ p.lots<=1000000000 by omega) (~~~73)
theorem Bv {m:MS} (B:Ia m) {p:Int} (hp:Mi.cC m p=true):∃D,h_ D (Mi.aG m p).lots /\(Mi.aG m p).lots.length <=30/\Mi.mJ D (Mi.aG m p):=by
 obtain⟨D,h⟩:=B.lots;exact⟨D,h _ (Mi.eP hp)⟩
theorem wD {H:Hp} {y:YA} {m:MS} (Y:bI K d O H y m) {p:Int} (hp:Mi.cC m p=true):∃a l,y.as[p.toNat-1]?=some a/\y.ll[p.toNat-1]?=some l/\oo K d H a l (Mi.aG m p):=by
 have i:=Mi.sy hp;exact Y.HI _ _ (by unfold Mi.aG;rw[Mi.getD_in Mi.VT i];exact ah i)
def V8 (K:af) (d:iF):Sp:=λvs H Q _=>∃a l p n,vs=[.ref a,.int (n:Nat)]/\oo K d H a l p/\p.lots.length<=1000/\∀H',bE H H'->Q (.bl (Mi.gc p n)) H'
theorem tG:bh ["pile","kilograms"] ["pile","kilograms"] (ay (top 79)):=by walk_at "s"
theorem tD (F:Def K mg "would_be_too_heavy" (top 79) ["pile","kilograms"]) (T:Top K mg d) (cX: ~~~14): ~~~56:=by
 exists tG,0
 .obtain⟨a,l,p,n,rfl,_⟩:=h;rfl
 obtain⟨a,l,p,n,rfl,hp,ln,q⟩:=h;refine⟨_,(aD (bw (ko Jy (b_ j6 (a9 cX (~~~61) rfl (~~~69)) (pv 1)) (~~~95) (dX _)))),?_⟩;exists 135;exists ⟨_,p.lots,rfl,kY hp,by omega,λH1 s1=>?_⟩;exists JK T (hp.same s1) ?_;exists 0;have:=q H1 s1;unfold Mi.gc at this;have e:decide (p.most<Mi.aJ p.lots+n)=decide (((p.most:Nat):Int)< ((Mi.aJ p.lots:Nat):Int)+((n:Nat):Int)):=decide_eq_decide.mpr (~~~62);rw[e] at this;exact this
def V9 (K:af) (d:iF):Sp:=λvs H Q _=>∃a l p n,vs=[.ref a,.int (n:Nat)]/\oo K d H a l p/\∀H',bE H H'->Q (.bl (Mi.tooMany p n)) H'
theorem uz:bh ["pile","coming","in_order"] ["pile","coming"] (ay (top 80)):=by walk_at "s"
theorem uo (F:Def K mg "would_be_too_many" (top 80) ["pile","coming"]) (T:Top K mg d): ~~~55:=by
 exists uz,0
 .obtain⟨a,l,p,n,rfl,_⟩:=h;rfl
 obtain⟨a,l,p,n,rfl,hp,q⟩:=h;refine⟨_,(ao (b9 2 nd (abX (ko uq (~~~95) (iU T.vi rfl) (dX _)) (yQ (ko uq (~~~95) (iU T.tQ rfl) (dX _)))))
   (aD (bw (Cv (pv 2) (yQ (ko Jy (b_ j6 (~~~83) (pv 1)) (iU T.Ou rfl) (dX _))))))),?_⟩
 have q:=q H (~~~218);unfold Mi.tooMany at q;exists 125;have tail:∀c:Bool,(c=true->Q (.bl (decide (30<p.lots.length+n))) H)->(c=false->Q (.bl false) H)->
   (if c=true then ZL (Uz λi j=>V.bl (decide (j<i))) (ZL (Uz λi j=>V.int (i+j)) (Oe (VO K) (N0 (Wf K (TZ 0) "lots") Qi)) (TZ 1)) (tC (.int 30)) [some (.ref a),some (.int (n:Nat)),some (.bl c)] H Q else Q (.bl false) H):=by
  intro c h1 h2;cases c with
  |false=>exact lC (h2 rfl)
  |true=>
   exists 103;exists 135;exists gC ls ?_;rw[aZ lp];exists 0;have:=h1 rfl;have e:decide (30<p.lots.length+n)=decide ((30:Int)< ((p.lots.length:Nat):Int)+((n:Nat):Int)):=decide_eq_decide.mpr (~~~62);rw[e] at this;exact this
 exists uw T hp ?_;exists 0;by_cases c0:p.kind=0
 .have e0:decide (~~~313)=true:=decide_eq_true (~~~62);rw[e0];simp only[c0,decide_true,Bool.true_or,iR] at q;exists 103;exists tail true (λ_=>q) (λh=>nomatch h)
 .have e0:decide (~~~313)=false:=decide_eq_false (~~~62);rw[e0];exists 85;exists uw T hp ?_;exists 0;by_cases c1:p.kind=1
  .have e1:decide (~~~312)=true:=decide_eq_true (~~~62);rw[e1];simp only[c1,decide_true,Bool.or_true,iR] at q;exists tail true (λ_=>q) (λh=>nomatch h)
  .have e1:decide (~~~312)=false:=decide_eq_false (~~~62);rw[e1];simp only[c0,c1,decide_false,vg,eY] at q;exists tail false (λh=>nomatch h) (λ_=>q)
theorem G_:bh ["yard","numbers","pile","metal"] ["yard","numbers"] (ay (top 90)):=by walk_at "s"
theorem GD (F:Def K mg "call_told" (top 90) ["yard","numbers"]) (T:Top K mg d) (eL: ~~~28) (ck: ~~~23) (fq: ~~~13) (cX: ~~~14):
  dR P w K mg base 45 "call_told" ["yard","numbers"] (qu K d (λm n=>1<=n.length/\Mi.cC m (~~~66)=true) λm n=>Mi.B_ m (~~~66)):=by
 exists G_,0
 .exists 8
 obtain⟨O,y,m,u,n,rfl,Y,hu,B,⟨n1,ip⟩,q⟩:=h;refine⟨_,(ao (~~~84)
   (ao (b9 3 nd (a9 ck (~~~61) rfl (ae (a9 fq (~~~61) rfl (~~~195)) aj)))
   (aD (bw (b_ dY (b_ dY (bZ (ae aF (ae (fc K (pv 2)) (ae (fc K (pv 2)) (ae (~~~116) aj))))) (pv 3)) (bZ (ae (~~~277) aj))))))),?_⟩
 exists 42;exists 13;exists 135;exists ⟨_,_,D,rfl,kY hp,LO,λH1 mv s1 hm=>?_⟩;exists 0;have ml:=Mi.fB (λy hy=>(LO.lots y hy).ok.len);refine⟨mv,_,rfl,p0 (p_ hm),by rw[fK,dG,ml];decide,λH2 p2 s2 n2 h2=>?_⟩;rw[fK] at h2;have Ky:=hp.same (~~~99);exists uw T Ky ?_;exists JK T Ky ?_;exists e_ T Ky ?_;exists ⟨_,_,rfl,kY Ky,by omega,λH3 s3=>?_⟩;exists bY (by show 4<=sizeLine;decide) λH4 p4 s4 n4 h4=>?_;exists fA h4 ((~~~222) _ _ h2) (by rw[ag,dG,ml,sizeLine_eq];show 4+6<=_;decide) λH5 p5 s5 n5 h5=>?_;exists 0;exists 73;have hp5:=Ky.same QL;refine e_ T hp5 ?_;obtain⟨_,lvs,ls,lp⟩:=hp5;exists gC ls ?_;rw[aZ lp];exists bY (by show 1<=sizeLine;decide) λH6 p6 s6 n6 h6=>?_;refine fA (s6 _ _ h5) h6 (by rw[au,ag,dG,ml,sizeLine_eq];show 4+6+1<=_;decide) λH7 p7 s7 n7 h7=>?_;have DV:bE H H6:=s1.trans (s2.trans (QL.trans s6));exists 84;unfold Mi.B_;simp only[bj,az,aV]
theorem E6 {α:Type} {f:α->List Int} {l:List α} {i:Nat} {x:α} (h:l[i]?=some x):(~~~264).flatMap f=(~~~276).flatMap f++f x:=by
 rw[eE,h,kE];simp
theorem lL {α:Type} {f:α->List Int} {k:Nat}:∀{l:List α},(∀x,x∈l->(f x).length <=k)->(l.flatMap f).length <=l.length*k
 | [],_=>by simp
 |x::l,h=>by
  rw[fH,au,aL];have:=lL (l:=l) λy hy=>h y (aA _ hy);have:=h x (aH ..);rw[nj];omega
theorem G4:bh ["yard","numbers","pile","answer","lot"] ["yard","numbers"] (ay (top 91)):=by walk_at "s"
theorem Gw (F:Def K mg "call_lots" (top 91) ["yard","numbers"]) (T:Top K mg d) (eL: ~~~28) (ck: ~~~23):
  dR P w K mg base 42 "call_lots" ["yard","numbers"] (qu K d (λm n=>1<=n.length/\Mi.cC m (~~~66)=true) λm n=>Mi.EM m (~~~66)):=by
 exists G4,0
 .exists 8
 obtain⟨O,y,m,u,n,rfl,Y,hu,B,⟨n1,ip⟩,q⟩:=h;refine⟨_,(ao (~~~84)
   (ao (b9 3 nd (bZ (ae aF (ae (~~~277) aj))))
   (ao (jv PassesOwn.never rfl (v9 K (fc K (pv 2))) (cK 4 nd)
   (ao (gT (nI bN dA dB ki (pv 3) (ae (~~~316) aj)))
   (aD (gT (nI bN dN dO (pW K) (pv 3) (ae (a9 ck (~~~61) rfl (ae (~~~316) aj)) aj))))))
   (aD (bw (pv 3)))))),?_⟩
 exists 42;exists 13;exists 135;exists 125;exists gC ls ?_;rw[aZ lp];exists bY (by show 2<=sizeLine;decide) λH1 ca s1 nc h1=>?_;exists ot ?_;exists e_ T (hp.same s1) ?_;refine⟨l,rfl,⟨_,dz.of (s1 _ _ ls)⟩,jr (dS fN (dz.of ls) lp) (λi σ H'=>bE H H'/\(∃r,σ=[some (~~~268),some (.ref ua),some (.ref a),some (.ref ca),r])/\H' ca=some (.lst (([0,((~~~91).lots.length :Int)]++((~~~91).lots.take i).flatMap Mi.vO).map V.int))) ⟨s1,⟨none,rfl⟩,by rw[fI];exact h1⟩ (~~~102) ?_ ?_⟩
 .rintro i z x σ H2 hz s2 r ⟨H0,⟨s0,⟨r0,rfl⟩,wF⟩,sx⟩;have zm:=aw hz;have g3:=(LO.lots z zm).ok.len;have nz:=sx _ _ wF;have YM:∀x,x∈(~~~91).lots.take i->(Mi.vO x).length <=7:=λx hx=>by
   have:=(LO.lots x (dc hx)).ok.len;show(Mi.t9 x.grades).length +1<=7;rw[dG];omega
  have lf6:((Mi.t9 z.grades).map V.int).length =6:=by rw[ag,dG,g3]
  have lb:=lL YM;rw[cu] at lb;have lb2:(([0,((~~~91).lots.length :Int)]++((~~~91).lots.take i).flatMap Mi.vO).map V.int).length <=300:=by
   rw[ag,au];have:min i (~~~91).lots.length *7<=30*7:=bQ _ (~~~62);show 2+_<=300;omega
  exists 43;exists qi T r ?_;exists xq nz (by rw[sizeLine_eq];omega) λH3 h3 k3=>?_;exists ⟨.inl ⟨rfl,_,dz.of h3⟩,?_⟩;exists 0;have r3:mI K d H3 x z:=qs.up r (yI nz k3);refine yD T r3 λg hg=>?_;exists ⟨g,_,rfl,p0 (p_ hg),by rw[fK,dG];omega,λH4 p4 s4 n4 h4=>?_⟩;rw[fK] at h4;exists zA (K:=K) (tp:=false) (s4 _ _ h3) h4 (by rw[au,lf6,sizeLine_eq];simp only[aL,du];omega) λH5 h5 k5=>?_;exists ⟨λc o e=>k5 c o (s4 _ _ (k3 c o (s2 _ _ e) (bL e nc))) (bL e nc),⟨_,rfl⟩,?_⟩;rw[h5,E6 hz];simp only[bj,cV,Mi.vO,az,aV,i4,iq]
 .rintro σ H2 ⟨s2,⟨r,rfl⟩,wF⟩;exists 0;rw[d8] at wF;exact q H2 ca s2 nc wF
end
section
variable {K:af} {mg:Str->Option Value} {d:iF} {O H H':Hp} {y:YA} {m:MS}
theorem pB (T:Top K mg d) {dx:Addr} {fs:List (Str×V)}:plain d (.ins d.pile dx fs)=false:=by
 have:=T.apart;simp[plain,this.1,this.2.1]
theorem pC (T:Top K mg d) {dx:Addr} {fs:List (Str×V)}:plain d (.ins d.jh dx fs)=false:=by
 have:=T.apart;simp[plain,this.2.2.1,this.2.2.2.1]
theorem bI.VM (Y:bI K d O H y m) {b:Addr} (hb:b∈y.as):∃dx fs,H b=some (.ins d.pile dx fs):=by
 obtain⟨i,hi,e⟩:=cQ.mp hb;have n1:=Y.n1;obtain⟨a,l,h3,_,⟨dx,h4⟩,_⟩:=Y.HI i _ (ah (~~~62));rw[ah hi] at h3;cases h3;exact⟨dx,_,e▸h4⟩
theorem bI.Hg (T:Top K mg d) (Y:bI K d O H y m) {i:Nat} {a l':Addr} {p:dh} {lvs:List V} {ls:List bV} {dx:Addr} (hp:m.piles[i]?=some p) (ha:y.as[i]?=some a) (hl:H l'=some (.lst lvs)) (hls:Paired (mI K d H) lvs ls) (ho:O l'=none) (n1:l'≠y.pl) (n2:l'≠y.sl)
  (hold:∃fs,H a=some (.ins d.pile dx fs)) (h':H' a=some (.ins d.pile dx (Zf p.kind p.most l'))) (k:Af a H H'):
  bI K d O H' {y with ll:=y.ll.set i l'} {m with piles:=m.piles.set i ⟨p.kind,p.most,ls⟩}:=by
 obtain⟨fs,hold⟩:=hold;have pk:PK d H H':=pA hold (pB T) k;have am:=aw ha;have An:∀b xs,H b=some (~~~320)->H' b=some (~~~320):=λb xs e=>k b _ e (λq=>by subst q;rw[hold] at e;cases e);have nya:H' y.ya=H y.ya:=by
  obtain⟨dy,pm,tm,h,_⟩:=Y.yd;rw[h];exact k _ _ h (λq=>by subst q;rw[hold] at h;injection(bG.inj h) with hC;exact T.apart.2.2.2.2 hC)
 have il:i<m.piles.length:=(aO.mp hp).1;refine⟨λb o e=>k b o (Y.same b o e) (λq=>by subst q;have:=Y.off b (by unfold YA.own;simp[am]);rw[this] at e;cases e),λb hb=>?_,Y.ps,λb hb=>?_,Y.nd,by rw[ik];exact Y.n1,by rw[ik,ik];exact Y.n2,?_,An _ _ Y.zO,λj q hq=>?_,?_,An _ _ Y.lst,An _ _ Y.Gn⟩
 .unfold YA.own at hb;simp only[aB,aE] at hb;rcases hb with e|e|e|e|e|e|e
  .exists 3
  .exists 3
  .exists 3
  .exists 3
  .exists 3
  .exists 3
  .rcases fY e with e|e
   .exists 3
   .rw[e];exact ho
 .rcases aB.mp hb with e|hb
  .exists 92
  .rcases aB.mp hb with e|hb
   .exists 92
   .rcases fY hb with e|e
    .exists 92
    .rw[e];exact⟨n1,n2⟩
 .exists 98;exact⟨dy,pm,tm,by rw[nya];exact h,(j8 nL).up p1 pk,(j8 nL).up p2 pk⟩
 .have hq:(m.piles.set i ⟨p.kind,p.most,ls⟩)[j]?=some q:=hq;by_cases c:j=i
  .subst c;rw[cN il] at hq;cases hq;have n2:=Y.n2;exact⟨a,l',ha,cN (~~~62),⟨dx,h'⟩,lvs,An _ _ hl,gH wq hls pk⟩
  .rw[eD (Ne.symm c)] at hq;exists 128;have ne:a2≠a:=λe=>by
    subst e;exact c ((List.getElem?_inj (aO.mp h1).1 Y.nd).mp (h1.trans ha.symm))
   obtain⟨_,W_,oI,_⟩:=id h3;exact⟨a2,l2,h1,by show(y.ll.set i l')[j]?=some l2;rw[eD (Ne.symm c)];exact h2,h3.up (λo e=>k _ _ e ne) (λo e=>by rw[oI] at e;cases e;exact An _ _ oI) pk⟩
 .obtain⟨x3,h1,h2⟩:=Y.src;exact⟨x3,An _ _ h1,gH y3 h2 pk⟩
theorem bI.qa (T:Top K mg d) (Y:bI K d O H y m) {y':YA} {m':MS} {dx:Addr} {pm tm:V} (ey:y'={y with sl:=y'.sl,la:=y'.la,ma:=y'.ma}) (em:m'.piles=m.piles) (h':H' y.ya=some (.ins d.jh dx (ZV y' m' pm tm))) (hold:∃fs,H y.ya=some (.ins d.jh dx fs)) (k:Af y.ya H H')
  (Vf:kI K (Fr K) H pm m'.wc) (Vj:kI K (Fr K) H tm m'.mB) (o1:O y'.sl=none) (o2:O y'.la=none) (o3:O y'.ma=none) (ps:y'.pl≠y'.sl) (lp:∀b,b∈y'.la::y'.ma::y'.ll->b≠y'.pl/\b≠y'.sl)
  (src:∃x3,H y'.sl=some (.lst x3)/\Paired (SrcR K d H) x3 m'.sources) (lst:H y'.la=some (.lst ((nats m'.want.least).map V.int))) (Gn:H y'.ma=some (.lst ((nats m'.want.most).map V.int))):bI K d O H' y' m':=by
 obtain⟨fs,hold⟩:=hold;have pk:PK d H H':=pA hold (pC T) k;have An:∀b xs,H b=some (~~~320)->H' b=some (~~~320):=λb xs e=>k b _ e (λq=>by subst q;rw[hold] at e;cases e);have e1:y'.ya=y.ya:=by rw[ey]
 have e2:y'.pl=y.pl:=by rw[ey]
 have e3:y'.as=y.as:=by rw[ey]
 have e4:y'.ll=y.ll:=by rw[ey]
 refine⟨λb o e=>k b o (Y.same b o e) (λq=>by subst q;have:=Y.off y.ya (by unfold YA.own;simp);rw[this] at e;cases e),λb hb=>?_,ps,lp,by rw[e3];exact Y.nd,by rw[e3,em];exact Y.n1,by rw[e4,em];exact Y.n2,⟨dx,pm,tm,by rw[e1];exact h',(j8 nL).up Vf pk,(j8 nL).up Vj pk⟩,by rw[e2,e3];exact An _ _ Y.zO,λj q hq=>?_,?_,An _ _ lst,An _ _ Gn⟩
 .unfold YA.own at hb;rw[e1,e2,e3,e4] at hb;simp only[aB,aE] at hb;rcases hb with e|e|e|e|e|e|e
  .exists 3
  .exists 3
  .rw[e];exact o1
  .rw[e];exact o2
  .rw[e];exact o3
  .exists 3
  .exists 3
 .rw[em] at hq;exists 128;exists 127;exact⟨a2,l2,by rw[e3];exact h1,by rw[e4];exact h2,h3.up (λo e=>k _ _ e (λq=>by subst q;rw[hold] at F';injection(bG.inj F') with hC;exact T.apart.2.2.2.2 hC.symm)) (λo e=>by rw[oI] at e;cases e;exact An _ _ oI) pk⟩
 .obtain⟨x3,h1,h2⟩:=src;exact⟨x3,An _ _ h1,gH y3 h2 pk⟩
theorem bI.XJ (Y:bI K d O H y m) {x3:List V} {v:V} {s:RS} (hs:H y.sl=some (.lst x3)) (hv:SrcR K d H v s) (h':H' y.sl=some (.lst (x3++[v]))) (k:Af y.sl H H'):bI K d O H' y {m with sources:=m.sources++[s]}:=by
 have pk:PK d H H':=pA hs rfl k;have nl:∀b xs,b≠y.sl->H b=some (~~~320)->H' b=some (~~~320):=λb xs n e=>k b _ e n;have ins:∀b C dx fs,H b=some (~~~161)->H' b=some (~~~161):=λb C dx fs e=>k b _ e (λq=>by subst q;rw[hs] at e;cases e);refine⟨λb o e=>k b o (Y.same b o e) (λq=>by subst q;have:=Y.off y.sl (by unfold YA.own;simp);rw[this] at e;cases e),Y.off,Y.ps,Y.lp,Y.nd,Y.n1,Y.n2,?_,nl _ _ Y.ps Y.zO,λj q hq=>?_,?_,nl _ _ (Y.lp _ (~~~88)).2 Y.lst,nl _ _ (Y.lp _ (~~~88)).2 Y.Gn⟩
 .exists 98;exact⟨dy,pm,tm,ins _ _ _ _ h,(j8 nL).up p1 pk,(j8 nL).up p2 pk⟩
 .exists 128;exists 127;exact⟨a2,l2,h1,h2,h3.up (λo e=>by rw[F'] at e;cases e;exact ins _ _ _ _ F') (λo e=>k _ _ e (Y.lp l2 (by simp[aw h2])).2) pk⟩
 .obtain⟨ajt,h1,h2⟩:=Y.src;rw[hs] at h1;cases h1;exact⟨_,h',d4 (gH y3 h2 pk) (.cons (y3.up hv pk) .nil)⟩
theorem bI.UU (Y:bI K d O H y m) {a l dx:Addr} {p:dh} (ha:H a=some (.ins d.pile dx (Zf p.kind p.most l))) (hl:H l=some (.lst [])) (ep:p.lots=[]) (na:a∉y.as) (oa:O a=none) (ol:O l=none) (l1:l≠y.pl) (l2:l≠y.sl)
  (h':H' y.pl=some (.lst (y.as.map V.ref++[.ref a]))) (k:Af y.pl H H'):bI K d O H' {y with as:=y.as++[a],ll:=y.ll++[l]} {m with piles:=m.piles++[p]}:=by
 have pk:PK d H H':=pA Y.zO rfl k;have nl:∀b xs,b≠y.pl->H b=some (~~~320)->H' b=some (~~~320):=λb xs n e=>k b _ e n;have ins:∀b C dx fs,H b=some (~~~161)->H' b=some (~~~161):=λb C dx fs e=>k b _ e (λq=>by subst q;rw[Y.zO] at e;cases e);refine⟨λb o e=>k b o (Y.same b o e) (λq=>by subst q;have:=Y.off y.pl (by unfold YA.own;simp);rw[this] at e;cases e),λb hb=>?_,Y.ps,λb hb=>?_,?_,by simp[Y.n1],by simp[Y.n2],?_,by show H' y.pl=_;rw[bj];exact h',λj q hq=>?_,?_,nl _ _ (Y.lp _ (~~~88)).1 Y.lst,nl _ _ (Y.lp _ (~~~88)).1 Y.Gn⟩
 .unfold YA.own at hb;simp only[aB,aE,bJ,or_false] at hb;rcases hb with e|e|e|e|e|(e|e)|e|e
  .exists 3
  .exists 3
  .exists 3
  .exists 3
  .exists 3
  .exists 3
  .rw[e];exact oa
  .exists 3
  .rw[e];exact ol
 .simp only[aB,aE,bJ,or_false] at hb;rcases hb with e|e|e|e
  .exists 92
  .exists 92
  .exists 92
  .rw[e];exact⟨l1,l2⟩
 .rw[List.nodup_append];refine⟨Y.nd,by simp,λx hx z hz e=>?_⟩;rw[aN.mp hz] at e;subst e;exact na hx
 .exists 98;exact⟨dy,pm,tm,ins _ _ _ _ h,(j8 nL).up p1 pk,(j8 nL).up p2 pk⟩
 .have hq:(m.piles++[p])[j]?=some q:=hq;have n1:=Y.n1;have n2:=Y.n2;by_cases c:j<m.piles.length
  .rw[dw c] at hq;obtain⟨a2,W8,h1,h2,h3⟩:=Y.HI j q hq;exists 127;refine⟨a2,W8,?_,?_,h3.up (λo e=>by rw[F'] at e;cases e;exact ins _ _ _ _ F') (λo e=>k _ _ e (Y.lp W8 (by simp[aw h2])).1) pk⟩
   .show(y.as++[a])[j]?=_;rw[dw (~~~62)];exact h1
   .show(y.ll++[l])[j]?=_;rw[dw (~~~62)];exact h2
  .rw[c_ (~~~62)] at hq;have ej:j-m.piles.length=0:=by
    cases e:j-m.piles.length with
    |zero=>rfl
    |succ z=>rw[e] at hq;simp at hq
   rw[ej] at hq;cases hq;refine⟨a,l,?_,?_,⟨dx,ins _ _ _ _ ha⟩,[],nl _ _ l1 hl,by rw[ep];exact .nil⟩
   .show(y.as++[a])[j]?=_;rw[c_ (~~~62),show j-y.as.length=0 by omega];rfl
   .show(y.ll++[l])[j]?=_;rw[c_ (~~~62),show j-y.ll.length=0 by omega];rfl
 .obtain⟨x3,h1,h2⟩:=Y.src;exact⟨x3,nl _ _ Y.ps.symm h1,gH y3 h2 pk⟩
end
section
variable {P:Program} {w:World} {K:af} {mg:Str->Option Value} {base:Heap} {d:iF} {O:Hp}
def qt (K:af) (d:iF) (pre:MS->List Int->Prop) (f:MS->List Int->Mi.Out):Sp:=λvs H Q _=>∃O y m u n,vs=[.ref y.ya,u]/\bI K d O H y m/\eA H u n/\Ia m/\pre m n/\
 ∀H' y' p,bI K d O H' y' (f m n).1->y'.ya=y.ya->H' p=some (.lst ((f m n).2.map V.int))->Q (.ref p) H'
theorem iQ {pre:MS->List Int->Prop} {Qu:MS->List Int->List Int} {vs:List V} {H:Hp} {Q:VK} {E:XK} (h:qt K d pre (λm n=>(m,Qu m n)) vs H Q E):qu K d pre Qu vs H Q E:=by
 obtain⟨O,y,m,u,n,e,Y,hu,B,p,q⟩:=h;exact⟨O,y,m,u,n,e,Y,hu,B,p,λH' p s _ h'=>q H' y p (Y.up s) rfl h'⟩
def V' (K:af) (d:iF):Sp:=λvs H Q _=>∃O y m i a l p v x D,vs=[.ref a,v]/\bI K d O H y m/\m.piles[i]?=some p/\y.as[i]?=some a/\y.ll[i]?=some l/\oo K d H a l p/\mI K d H v x/\h_ D (p.lots++[x])/\
 ∀H' y',bI K d O H' y' {m with piles:=m.piles.set i (Mi.putOn p x)}->y'={y with ll:=y'.ll}->PK d H H'->Q .jL H'
theorem PN:bh ["pile","lot"] ["pile","lot"] (ay (top 78)):=by walk_at "s"
theorem Pu (F:Def K mg "put_on" (top 78) ["pile","lot"]) (T:Top K mg d) (uX: ~~~12): ~~~57:=by
 exists PN,0
 .obtain⟨O,y,m,i,a,l,p,v,x,D,rfl,_⟩:=h;rfl
 obtain⟨O,y,m,i,a,l,p,v,x,D,rfl,Y,hp,ha,hll,Z_,hv,LO,q⟩:=h;refine⟨_,(aD (gN (eC uq (~~~95) (iU T.vi rfl) (dX _)) (aD (tI K (pv 0) (b_ dY (bZ (~~~107)) (~~~95)))) (aD (gN (eC uq (~~~95) (iU T.tQ rfl) (dX _)) (aD (tI K (pv 0) (b_ dY (~~~95) (bZ (~~~107))))) (aD (tI K (pv 0) (bZ (ae (a9 uX (~~~61) rfl (ae (b_ dY (~~~95) (bZ (~~~107))) aj)) aj)))))))),?_⟩;obtain⟨⟨dx,h0⟩,lvs,ls,lp⟩:=id Z_;have ll:=aZ lp;have lo:=LO.len;rw[au] at lo;have lo:p.lots.length+1<=1000:=lo;have fin:∀(H2:Hp) (l2:Addr) (W_:List V) (s2:bE H H2) (n2:H l2=none) (h2:H2 l2=some (.lst W_)),Paired (mI K d H2) W_ (Mi.putOn p x).lots ->∀D':Ends,(∀σ' H3,D'.nx σ' H3↔Q .jL H3)->XH K D' [some (.ref a),some v] "lots" (.ref l2) (.ref a) H2:=by
  intro H2 l2 W_ s2 n2 h2 pr D' hD;refine gD T.pile (~~~63) (s2 _ _ h0) (by show 3<1000;decide) λH3 h3 k3=>(hD _ _).mpr ?_;have Y2:=Y.up s2;have on:O l2=none:=by
   cases e:O l2 with
   |none=>rfl
   |some o=>rw[Y.same _ _ e] at n2;cases n2
  refine q H3 _ (Y2.Hg T (ls:=(Mi.putOn p x).lots) (lvs:=W_) (l':=l2) (dx:=dx) hp ha h2 pr on (λe=>by subst e;rw[Y.zO] at n2;cases n2) (λe=>by subst e;obtain⟨_,z,_⟩:=Y.src;rw[z] at n2;cases n2) ⟨_,s2 _ _ h0⟩ h3 k3) rfl ((GU s2).trans (pA (s2 _ _ h0) (pB T) k3))
 exists uw T Z_ ?_;exists 0;by_cases c0:p.kind=0
 .have e0:decide (~~~313)=true:=decide_eq_true (~~~62);rw[e0];exists 103;exists 28;exists e_ T (Z_.same s1) ?_;refine fA h1 (s1 _ _ ls) (by rw[ll,sizeLine_eq];simp;omega) λH2 p2 s2 n2 h2=>?_;exists fin H2 p2 _ (~~~99) (s1.free n2) h2 ?_ _ λ_ _=>Iff.rfl;unfold Mi.putOn;simp only[c0,if_true];exact .cons (fN.up hv (~~~99)) (aU fN lp (~~~99))
 .have e0:decide (~~~313)=false:=decide_eq_false (~~~62);rw[e0];exists 85;exists uw T Z_ ?_;exists 0;by_cases c1:p.kind=1
  .have e1:decide (~~~312)=true:=decide_eq_true (~~~62);rw[e1];exists 103;exists e_ T Z_ ?_;exists 28;refine fA (s1 _ _ ls) h1 (by rw[ll,sizeLine_eq];simp;omega) λH2 p2 s2 n2 h2=>?_;exists fin H2 p2 _ (~~~99) (s1.free n2) h2 ?_ _ λ_ _=>Iff.rfl;unfold Mi.putOn;rw[if_neg c0,if_pos c1];exact d4 (aU fN lp (~~~99)) (.cons (fN.up hv (~~~99)) .nil)
  .have e1:decide (~~~312)=false:=decide_eq_false (~~~62);rw[e1];exists 85;exists e_ T Z_ ?_;exists 28;refine fA (s1 _ _ ls) h1 (by rw[ll,sizeLine_eq];simp;omega) λH2 p2 s2 n2 h2=>?_;exists 0;have uZ:=s1.trans s2;refine⟨_,p.lots++[x],D,rfl,⟨p2,_,rfl,h2,d4 (aU fN lp uZ) (.cons (fN.up hv uZ) .nil)⟩,LO,by simp,λH3 z s3 hz=>?_⟩;exists 27;exists fin H4 p4 _ (uZ.trans (~~~222)) ((uZ.trans s3).free n4) h4 ?_ _ λ_ _=>Iff.rfl;unfold Mi.putOn;rw[if_neg c0,if_neg c1];exact .cons (fN.up hz s4) .nil
theorem G7:bh ["yard","numbers"] ["yard","numbers"] (ay (top 86)):=by walk_at "s"
theorem Gz (F:Def K mg "call_pile" (top 86) ["yard","numbers"]) (T:Top K mg d) (Lh:mE P w K mg base 41 "Pile" d.pile (Mq d)):dR P w K mg base 43 "call_pile" ["yard","numbers"] (qt K d (λ_ n=>2<=n.length/\0<=n.getD 0 0/\0<=n.getD 1 0) λm n=>Mi.uj m (~~~66) (~~~89)):=by
 exists G7,0
 .exists 8
 obtain⟨O,y,m,u,n,rfl,Y,hu,B,⟨n2,k0,k1⟩,q⟩:=h;refine⟨_,(ao (gN (eC uq (~~~83) (iU T.K9 rfl) (dX _)) (~~~185) d5)
   (ao (gT (nI bN dA dB ki (~~~95) (ae (xG Lh (~~~61) rfl (ae (~~~64) (ae (~~~64) aj))) aj)))
   (aD (bw (bZ (ae aF (ae (~~~83) aj))))))),?_⟩
 exists 23;have q:∀H' y' p,bI K d O H' y' (Mi.uj m (~~~66) (~~~89)).1->y'.ya=y.ya->H' p=some (.lst ((Mi.uj m (~~~66) (~~~89)).2.map V.int))->Q (.ref p) H':=q;unfold Mi.uj at q;have np:m.piles.length<=6:=by obtain⟨t,D,h,_⟩:=B;exact h.mP
 exists u7 T Y ?_;exists gC Y.zO ?_;rw[ag,Y.n1];exists 38
 .exists 29
 .exists 67;exists u7 T Y ?_;exists ⟨.inl ⟨rfl,_,dz.of Y.zO⟩,?_⟩;exists gY us (~~~151) ?_;exists 134;exists OU (σ:=[]) λH1 p1 dx l1 s1 n1 nl ne h1 hl=>?_;exists 0;have Y1:=Y.up s1;have free:∀b,H b=none->O b=none:=λb e=>by
   cases z:O b with
   |none=>rfl
   |some o=>rw[Y.same _ _ z] at e;cases e
  have e1:n.getD 0 0=((~~~66).toNat :Nat):=by omega
  have e2:n.getD 1 0=((~~~89).toNat :Nat):=by omega
  refine xq Y1.zO (by rw[ag,Y.n1,sizeLine_eq];omega) λH2 h2 k2=>?_;rw[e1,e2] at h1;have Y2:=Y1.UU (p:=⟨(~~~66).toNat,(~~~89).toNat,[]⟩) (a:=p1) (l:=l1) (dx:=dx) (H':=H2) h1 hl rfl (λhm=>Y.fresh n1 (by unfold YA.own;simp[hm])) (free _ n1) (free _ nl) (λe=>Y.fresh nl (by unfold YA.own;simp[e])) (λe=>Y.fresh nl (by unfold YA.own;simp[e])) h2 k2;exists u7 (y:={y with as:=y.as++[p1],ll:=y.ll++[l1]}) T Y2 ?_;exists gC Y2.zO ?_;exists bY (by show 2<=sizeLine;decide) λH3 p3 s3 n3 h3=>q H3 _ p3 (Y2.up s3) rfl ?_;rw[h3,ag];show some (HO.lst [V.int 0,V.int ((y.as++[p1]).length :Nat)])=_;rw[au,Y.n1];rfl
theorem bI.EG {H:Hp} {y:YA} {m:MS} (Y:bI K d O H y m) {b:Addr} (h:H b=none):O b=none:=by
 cases z:O b with
 |none=>rfl
 |some o=>rw[Y.same _ _ z] at h;cases h
def acg (K:af) (d:iF):Sp:=λvs H Q _=>∃O y m v s,vs=[.ref y.ya,v]/\bI K d O H y m/\m.sources.length<=6/\SrcR K d H v s/\∀H' y' p,bI K d O H' y' (Mi.iy m s).1->y'.ya=y.ya->H' p=some (.lst ((Mi.iy m s).2.map V.int))->Q (.ref p) H'
theorem DX:bh ["yard","source"] ["yard","source"] (ay (top 107)):=by walk_at "s"
theorem DA (F:Def K mg "add_source" (top 107) ["yard","source"]) (T:Top K mg d): ~~~58:=by
 exists DX,0
 .obtain⟨O,y,m,v,s,rfl,_⟩:=h;rfl
 obtain⟨O,y,m,v,sr,rfl,Y,n6,hv,q⟩:=h;refine⟨_,(ao (gN (eC uq (~~~83) (iU T.FC rfl) (dX _)) (~~~185) d5)
   (ao (gT (nI bN dA dB ki (~~~95) (~~~107)))
   (aD (bw (bZ (ae aF (ae (~~~83) aj))))))),?_⟩
 unfold Mi.iy at q;obtain⟨x3,hs,sp⟩:=Y.src;have ls:=aZ sp;exists dJ T Y ?_;exists gC hs ?_;rw[ls];exists 38
 .exists 29
 .exists 67;exists dJ T Y ?_;exists ⟨.inl ⟨rfl,_,dz.of hs⟩,?_⟩;exists xq hs (by rw[ls,sizeLine_eq];omega) λH2 h2 k2=>?_;have Y2:=Y.XJ hs hv h2 k2;exists dJ T Y2 ?_;exists gC h2 ?_;exists bY (by show 2<=sizeLine;decide) λH3 p3 s3 n3 h3=>q H3 y p3 (Y2.up s3) rfl ?_;rw[h3,au,ls];rfl
theorem CO:bh ["yard","numbers","grades","grams"] ["yard","numbers"] (ay (top 108)):=by walk_at "s"
theorem Cm (F:Def K mg "call_source" (top 108) ["yard","numbers"]) (T:Top K mg d) (jG: ~~~4) (qJ:mE P w K mg base 41 "Source" d.source (xR d.source 3 ZF)) (kj: ~~~58):
  dR P w K mg base 43 "call_source" ["yard","numbers"] (qt K d (λ_ n=>n.length=5/\0<=n.getD 1 0) λm n=>Mi.uS m (~~~66) (~~~89) (~~~180)):=by
 exists CO,0
 .exists 8
 obtain⟨O,y,m,u,n,rfl,Y,hu,B,⟨n5,k1⟩,q⟩:=h;refine⟨_,(ao (b9 2 nd (qW (IB K) rfl T.tuple (~~~63) (ae (iN rfl nd (v9 K (~~~193)) (cH (N:=["yard","numbers","grades","grams"]) (sc:=ay (top 108)) (own:=[("grams",3)]) (~~~63)) (~~~190) (~~~71) (λ_ _ _ _ _=>(a9 jG (~~~61) rfl (ae (pv 3) (ae (iU T.iG rfl) aj))))) aj)))
   (aD (bw (a9 kj (~~~61) rfl (ae (pv 0) (ae (xG qJ (~~~61) rfl (ae (~~~64) (ae (~~~64) (~~~120)))) aj)))))),?_⟩
 exists 23;have s6:=B.src.len;exists ⟨2,rfl,?_⟩;exists ⟨5,rfl,?_⟩;refine vt us λH1 p1 s1 n1 h1=>?_;have e1:oF (n.map V.int) (some 2) (some 5)=(~~~180).map V.int:=by
  have e0:oF (n.map V.int) (some 2) (some 5)=((n.map V.int).drop 2).take 3:=oZ (n.map V.int) 2 5 (by rw[ag];omega) (~~~73);rw[e0,<-gW,<-jK]
 rw[e1] at h1;refine⟨p1,rfl,⟨_,dz.of h1⟩,λC hC=>fj (dS df (dz.of h1) (kU _)) (S:=Fr K) (f:=λx=>mkRat x 1000) bU hC (by rw[cu];omega) (~~~78) (~~~303)⟩
 .exists 133;exists ⟨z,1000,rfl,by decide,λH3 w3 s3 Yv=>kk w3 H3 s3 (gJ Yv)⟩
 exists xr (K:=K) hL λH3 p3 s3 n3 h3=>?_;have Ax:bE H H3:=s1.trans (~~~191);exists gY (Ax _ _ us) (~~~151) ?_;exists gY (Ax _ _ us) (~~~217) ?_;exists vK rfl λH4 p4 dx s4 n4 h4=>?_;exists 0;have e2:n.getD 1 0=((~~~89).toNat :Nat):=by omega
 rw[e2] at h4;exact⟨O,y,m,_,⟨n.getD 0 0,(~~~89).toNat,(~~~180).map λx=>mkRat x 1000⟩,rfl,Y.up (Ax.trans s4),s6,⟨p4,dx,.ref p3,rfl,h4,p3,ys,rfl,ie s4 h3,aU bU pr (~~~222)⟩,q⟩
theorem D_:bh ["yard","numbers","pile","lot"] ["yard","numbers"] (ay (top 109)):=by walk_at "s"
theorem DI (F:Def K mg "call_offer" (top 109) ["yard","numbers"]) (T:Top K mg d) (eL: ~~~28) (uX: ~~~12) (qJ:mE P w K mg base 41 "Source" d.source (xR d.source 3 ZF)) (kj: ~~~58):
  dR P w K mg base 46 "call_offer" ["yard","numbers"] (qt K d (λm n=>2<=n.length/\Mi.cC m (~~~66)=true) λm n=>Mi.pf m (~~~66) (~~~89)):=by
 exists D_,0
 .exists 8
 obtain⟨O,y,m,u,n,rfl,Y,hu,B,⟨n2,ip⟩,q⟩:=h;refine⟨_,(ao (~~~84)
   (ao (gN (eC uq (~~~277) aF (dX _)) (~~~250) d5)
   (ao (b9 3 nd (a9 uX (~~~61) rfl (~~~195)))
   (aD (bw (a9 kj (~~~61) rfl (ae (pv 0) (ae (xG qJ (~~~61) rfl (ae (~~~64) (ae (~~~256) (ae (~~~256) aj)))) aj)))))))),?_⟩
 exists 42;have s6:=B.src.len;have q:∀H' y' p,bI K d O H' y' (Mi.pf m (~~~66) (~~~89)).1->y'.ya=y.ya->H' p=some (.lst ((Mi.pf m (~~~66) (~~~89)).2.map V.int))->Q (.ref p) H':=q;unfold Mi.pf at q;exists 13;exists 135;exists 125;exists gC ls ?_;rw[aZ lp];exists 38
 .exists 29
 .exists 67;exists 135;exists ⟨_,_,D,rfl,kY hp,LO,λe=>by rw[e] at c;simp at c,λH1 z s1 hz=>?_⟩;exists gY (s1 _ _ us) (~~~217) ?_;exists qi T hz ?_;exists yD T hz λg hg=>?_;exists vK rfl λH4 p4 dx s4 n4 h4=>?_;exists ⟨O,y,m,_,⟨n.getD 1 0,Mi.aJ (~~~91).lots,(Mi.mixed (~~~91).lots).grades⟩,rfl,Y.up (s1.trans s4),s6,⟨p4,dx,g,rfl,h4,(oh bU).up hg s4⟩,q⟩
theorem D8:bh ["yard","numbers"] ["yard","numbers"] (ay (top 110)):=by walk_at "s"
theorem DG (F:Def K mg "call_clear" (top 110) ["yard","numbers"]) (T:Top K mg d):dR P w K mg base 41 "call_clear" ["yard","numbers"] (qt K d (λ_ _=>True) λm _=>Mi.LR m):=by
 exists D8,0
 .exists 8
 obtain⟨O,y,m,u,n,rfl,Y,hu,B,_,q⟩:=h;refine⟨_,(ao (tI K (pv 0) (bZ aj))
   (aD (bw (~~~164)))),?_⟩
 exists bY (by show 0<=sizeLine;exact cj _) λH1 p1 s1 n1 h1=>?_;walk_at "run";have Y1:=Y.up s1;obtain⟨dx,pm,tm,h0,Vf,Vj⟩:=Y1.yd;refine gD T.jh (~~~63) h0 (by show 9<1000;decide) λH2 h2 k2=>?_;have ne:p1∉y.own:=Y.fresh n1;have Y2:bI K d O H2 {y with sl:=p1} {m with sources:=[]}:=Y1.qa T (y':={y with sl:=p1}) (m':={m with sources:=[]}) (dx:=dx) (pm:=pm) (tm:=tm) rfl rfl h2 ⟨_,h0⟩ k2 Vf Vj (Y.EG n1) (~~~111) (~~~111) (λe=>ne (by have e:y.pl=p1:=e;rw[<-e];unfold YA.own;simp)) (λb hb=>⟨(Y.lp b hb).1,λe=>ne (by
   have hb:b=y.la\/b=y.ma\/b∈y.ll:=by simpa using hb
   have e:b=p1:=e;rw[<-e];unfold YA.own;rcases hb with z|z|z<;>simp[z])⟩) ⟨[],h1,.nil⟩ Y1.lst Y1.Gn
 exists bY (by show 1<=sizeLine;decide) λH3 p3 s3 n3 h3=>q H3 _ p3 (Y2.up s3) rfl h3
theorem Hd:bh ["yard","numbers"] ["yard","numbers"] (ay (top 111)):=by walk_at "s"
theorem GF (F:Def K mg "call_want" (top 111) ["yard","numbers"]) (T:Top K mg d):dR P w K mg base 41 "call_want" ["yard","numbers"] (qt K d (λ_ n=>n.length=7/\∀x,x∈n->0<=x) λm n=>Mi.Ji m (~~~66) (n.drop 1)):=by
 exists Hd,0
 .exists 8
 obtain⟨O,y,m,u,n,rfl,Y,hu,B,⟨n7,n0⟩,q⟩:=h;refine⟨_,(ao (tI K (pv 0) (~~~64))
   (ao (tI K (pv 0) (qX K (pv 1) (fh aF) aF))
   (ao (tI K (pv 0) (qX K (pv 1) (fh aF) aF))
   (aD (bw (~~~164)))))),?_⟩
 exists 23
 match n,n7,n0 with
 | [a,b1,c1,b2,c2,b3,c3],_,n0=>
 have pos:∀x,x∈[a,b1,c1,b2,c2,b3,c3]->((x.toNat:Nat):Int)=x:=λx hx=>by have:=n0 x hx;omega
 exists gY us (v:=.int a) rfl ?_;exists 0;obtain⟨dx,pm,tm,h0,Vf,Vj⟩:=Y.yd;refine gD T.jh (~~~63) h0 (by show 9<1000;decide) λH1 h1 k1=>?_;have R5:∀(Ha Hb:Hp),Af y.ya Ha Hb->(∃fs,Ha y.ya=some (.ins d.jh dx fs))->∀b xs,Ha b=some (~~~320)->Hb b=some (~~~320):=λHa Hb k ⟨fs,h⟩ b xs e=>k b _ e (λq=>by subst q;rw[h] at e;cases e);have us1:=R5 H H1 k1 ⟨_,h0⟩ _ _ us;exists 136;exists uO (n:=1) (dz.of us1) λH2 p2 s2 n2 h2=>?_;exists gD T.jh (~~~63) (s2 _ _ h1) (by show 9<1000;decide) λH3 h3 k3=>?_;have us3:=R5 H2 H3 k3 ⟨_,s2 _ _ h1⟩ _ _ (s2 _ _ us1);have WY:=R5 H2 H3 k3 ⟨_,s2 _ _ h1⟩ _ _ h2;exists ⟨2,rfl,?_⟩;exists uO (n:=2) (dz.of us3) λH4 p4 s4 n4 h4=>?_;exists gD T.jh (~~~63) (s4 _ _ h3) (by show 9<1000;decide) λH5 h5 k5=>?_;have ea:∀x,x∈[a,b1,c1,b2,c2,b3,c3]->V.int x=V.int ((x.toNat:Nat):Int):=λx hx=>by rw[pos x hx]
 have Y1:bI K d O H1 y {m with want:=⟨a.toNat,m.want.least,m.want.most⟩}:=Y.qa T (y':=y) (m':={m with want:=⟨a.toNat,m.want.least,m.want.most⟩}) (dx:=dx) (pm:=pm) (tm:=tm) rfl rfl (by rw[h1,ea a (~~~88)];rfl) ⟨_,h0⟩ k1 Vf Vj (~~~111) (~~~111) (~~~111) Y.ps Y.lp Y.src Y.lst Y.Gn;have Y2:=Y1.up s2;have ne2:p2∉y.own:=Y1.fresh n2;obtain⟨dx1,pm1,tm1,h01,aey,aeI⟩:=Y2.yd;have zD:=s2 _ _ h1;rw[h01] at zD;have Y3:bI K d O H3 {y with la:=p2} {m with want:=⟨a.toNat,[b1.toNat,b2.toNat,b3.toNat],m.want.most⟩}:=Y2.qa T (y':={y with la:=p2}) (m':={m with want:=⟨a.toNat,[b1.toNat,b2.toNat,b3.toNat],m.want.most⟩}) (dx:=dx) (pm:=pm) (tm:=tm) rfl rfl (by rw[h3,ea a (~~~88)];rfl) ⟨_,s2 _ _ h1⟩ k3
  (by injection(bG.inj zD) with _ _ e;injection e with _ e;injection e with _ e;injection e with _ e;injection e with _ e;injection e with _ e;injection e with _ e;injection e with e1 e;injection e1 with _ e1;rw[<-e1];exact aey)
  (by injection(bG.inj zD) with _ _ e;injection e with _ e;injection e with _ e;injection e with _ e;injection e with _ e;injection e with _ e;injection e with _ e;injection e with _ e;injection e with _ e;injection e with e1 e;injection e1 with _ e1;rw[<-e1];exact aeI)
  (~~~111) (Y1.EG n2) (~~~111) Y.ps (λb hb=>by
   have hb:b=p2\/b=y.ma\/b∈y.ll:=by simpa using hb
   rcases hb with z|z|z
   .rw[z];exact⟨λe=>ne2 (by have e:p2=y.pl:=e;rw[e];unfold YA.own;simp),λe=>ne2 (by have e:p2=y.sl:=e;rw[e];unfold YA.own;simp)⟩
   .exact Y.lp b (by simp[z])
   .exact Y.lp b (by simp[z])) Y2.src (by
    show H2 p2=some (.lst [V.int ((b1.toNat:Nat):Int),V.int ((b2.toNat:Nat):Int),V.int ((b3.toNat:Nat):Int)]);rw[h2,<-ea b1 (~~~88),<-ea b2 (~~~88),<-ea b3 (~~~88)];rfl) Y2.Gn
 have Y4:=Y3.up s4;have ne4:p4∉YA.own {y with la:=p2}:=Y3.fresh n4;obtain⟨dx3,pm3,tm3,QP,aez,aeJ⟩:=Y4.yd;have QQ:=s4 _ _ h3;have QP:H4 y.ya=_:=QP;rw[QP] at QQ;have Y5:bI K d O H5 {y with la:=p2,ma:=p4} {m with want:=⟨a.toNat,[b1.toNat,b2.toNat,b3.toNat],[c1.toNat,c2.toNat,c3.toNat]⟩}:=Y4.qa T (y':={y with la:=p2,ma:=p4}) (m':={m with want:=⟨a.toNat,[b1.toNat,b2.toNat,b3.toNat],[c1.toNat,c2.toNat,c3.toNat]⟩}) (dx:=dx) (pm:=pm) (tm:=tm) rfl rfl (by rw[h5,ea a (~~~88)];rfl) ⟨_,s4 _ _ h3⟩ k5
  (by injection(bG.inj QQ) with _ _ e;injection e with _ e;injection e with _ e;injection e with _ e;injection e with _ e;injection e with _ e;injection e with _ e;injection e with e1 e;injection e1 with _ e1;rw[<-e1];exact aez)
  (by injection(bG.inj QQ) with _ _ e;injection e with _ e;injection e with _ e;injection e with _ e;injection e with _ e;injection e with _ e;injection e with _ e;injection e with _ e;injection e with _ e;injection e with e1 e;injection e1 with _ e1;rw[<-e1];exact aeJ)
  (~~~111) (Y1.EG n2) (Y3.EG n4) Y.ps (λb hb=>by
   have hb:b=p2\/b=p4\/b∈y.ll:=by simpa using hb
   rcases hb with z|z|z
   .exact Y4.lp b (by simp[z])
   .rw[z];exact⟨λe=>ne4 (by have e:p4=y.pl:=e;rw[e];unfold YA.own;simp),λe=>ne4 (by have e:p4=y.sl:=e;rw[e];unfold YA.own;simp)⟩
   .exact Y4.lp b (by simp[z])) Y4.src Y4.lst (by
    show H4 p4=some (.lst [V.int ((c1.toNat:Nat):Int),V.int ((c2.toNat:Nat):Int),V.int ((c3.toNat:Nat):Int)]);rw[h4,<-ea c1 (~~~88),<-ea c2 (~~~88),<-ea c3 (~~~88)];rfl)
 exists bY (by show 1<=sizeLine;decide) λH6 p6 s6 n6 h6=>q H6 _ p6 (Y5.up s6) rfl h6
theorem abK {D n:Nat} {g:List Int} (hD:0<D) (kp:0<n) (hg:g.length=3) (hb:∀x,x∈g->0<=x/\x<=1000000000):Mi.qF (D*n) (Mi.eX n (Mi.d3 g)):=by
 obtain⟨gl,gg⟩:=Mi.BW hg hb 1;refine⟨⟨kp,by unfold Mi.eX;simp only[ag];exact gl⟩,λy hy=>?_⟩;exists 95;obtain⟨a,b,c⟩:=gg z hz;have np:(0:Rat)< (n:Rat):=by exact_mod_cast kp
 have n1':(1:Rat)<=(n:Rat):=by exact_mod_cast kp
 rw[<-e];refine⟨Bl.ia a np,?_,gk (Mi.BL (D:=1) (~~~73) (~~~62) c) ⟨D,by rw[tN,lX]⟩⟩;have m0:=bX (show(0:Rat)<=1000000000 by decide) (show(0:Rat)<=(n:Rat)-1 by grind);have:=Mi.xP np (show z<=1000000000*(n:Rat) by grind);rw[fT];grind
theorem Jj {t D:Nat} {m:MS} (h:Mi.Ok t D m) (ht:t<=120) {l:List Rat} (M:Mi.oC t D l):∀x,x∈l->FB 300000 x:=by
 intro x hx;obtain⟨a,b,c⟩:=M.g x hx;have e:((t*1000000000000000000:Nat):Rat)=(t:Rat)*1000000000000000000:=by rw[jB];rfl
 rw[<-e] at b;exact FB.le (Mi.EE (b:=70) (c8 h.pos) c a b (Ij h ht) (bf (bQ _ ht) (~~~73))) (~~~73)
theorem J0:bh ["yard","numbers","pile","kilograms","metal","grams"] ["yard","numbers"] (ay (top 87)):=by walk_at "s"
theorem Jq (F:Def K mg "call_put" (top 87) ["yard","numbers"]) (T:Top K mg d) (eL: ~~~28) (fD: ~~~56) (fQ: ~~~55)
  (qV: ~~~57) (mT: ~~~10) (js: ~~~8) (cX: ~~~14):
  dR P w K mg base 47 "call_put" ["yard","numbers"] (qt K d (λm n=>n.length=5/\Mi.cC m (~~~66)=true/\1<=n.getD 1 0/\n.getD 1 0<=1000000/\∀x,x∈(n.drop 2).take 3->0<=x/\x<=1000000000) λm n=>Mi.B9 m (~~~66) (~~~89) (~~~180)):=by
 exists J0,0
 .exists 8
 obtain⟨O,y,m,u,n,rfl,Y,hu,B,⟨n5,ip,k1,k2,gb⟩,q⟩:=h;refine⟨_,(ao (~~~84)
   (ao (b9 3 nd (~~~64))
   (ao (gN (mn (a9 fD (~~~61) rfl (~~~267))) (aD (bw (bZ (ae (iU T.Es rfl) aj)))) d5)
   (ao (gN (mn (a9 fQ (~~~61) rfl (ae (pv 2) (ae aF aj)))) (~~~185) d5)
   (ao (b9 4 nd (qW (IB K) rfl T.tuple (~~~63) (ae (iN rfl nd (v9 K (~~~193)) (cH (N:=["yard","numbers","pile","kilograms","metal","grams"]) (sc:=ay (top 87)) (own:=[("grams",5)]) (~~~63)) (λ_ _ _ _ _=>(cK 5 nd)) (~~~71) (λ_ _ _ _ _=>(jU (ae (pv 5) (ae aF aj))))) aj)))
   (ao (gT (a9 qV (~~~61) rfl (ae (pv 2) (ae (a9 mT (~~~61) rfl (ae (pv 3) (~~~241))) aj))))
   (ao (tI K (pv 0) (b_ j6 (~~~95) (pv 3)))
   (ao (tI K (pv 0) (a9 js (~~~61) rfl (ae (~~~95) (~~~241))))
   (aD (bw (bZ (ae aF (ae (~~~116) aj))))))))))))),?_⟩
 exists 23;have q:∀H' y' p,bI K d O H' y' (Mi.B9 m (~~~66) (~~~89) (~~~180)).1->y'.ya=y.ya->H' p=some (.lst ((Mi.B9 m (~~~66) (~~~89) (~~~180)).2.map V.int))->Q (.ref p) H':=q;unfold Mi.B9 at q;exists 69;obtain⟨a,l,ha,hl,hp⟩:=wD Y ip;have pin:=Mi.sy ip;have HC:m.piles[(~~~66).toNat -1]?=some (~~~91):=by unfold Mi.aG;exists 137
 have yb:=PO.len;have ek:n.getD 1 0=((~~~89).toNat :Nat):=by omega
 have g3:(~~~180).length =3:=by rw[cu,dg];omega
 generalize eg:(n.drop 2).take 3=g at*
 generalize ekn:(~~~89).toNat =kn at*
 have wN:0<kn:=by omega
 have kn2:kn<=1000000:=by omega
 exists 13;exists 134;rw[ek];exists ⟨a,l,_,kn,rfl,hp,by omega,λH1 s1=>?_⟩;exists 0;cases c1:Mi.gc (~~~91) kn with
 |true=>
  rw[if_pos c1] at q;exists 103;exists 18
 |false=>
  exists 115;exists ⟨a,l,_,1,rfl,hp.same s1,λH2 s2=>?_⟩;have uZ:=s1.trans s2;exists 0;cases c2:Mi.tooMany (~~~91) 1 with
  |true=>
   rw[if_pos c2] at q;exists 103;exists bY (by show 1<=sizeLine;decide) λH3 p3 s3 n3 h3=>q H3 y p3 (Y.up (uZ.trans s3)) rfl h3
  |false=>
   exists 114;exists ⟨2,rfl,?_⟩;exists ⟨5,rfl,?_⟩;refine vt (uZ _ _ us) λH3 p3 s3 n3 h3=>?_;have e1:oF (n.map V.int) (some 2) (some 5)=g.map V.int:=by
    have e0:oF (n.map V.int) (some 2) (some 5)=((n.map V.int).drop 2).take 3:=oZ (n.map V.int) 2 5 (by rw[ag];omega) (~~~73);rw[e0,<-gW,<-jK,eg]
   rw[e1] at h3;refine⟨p3,rfl,⟨_,dz.of h3⟩,λC hC=>fj (dS df (dz.of h3) (kU _)) (S:=Fr K) (f:=λ(x:Int)=>(x:Rat)) bU hC (~~~62) (~~~78) (λH4 ys s4 hL pr=>?_)⟩
   .exists 133;exists jR (K:=K) (mC _ _) λH5 p5 s5 _ h5=>kk _ H5 s5 (gJ (Rw h5))
   have pr:Paired (Fr K H4) ys (Mi.d3 g):=pr;exists xr (K:=K) hL λH5 p5 s5 n5' h5=>?_;have PH:bE H H5:=uZ.trans (~~~227);have gm:kI K (Fr K) H5 (.ref p5) (Mi.d3 g):=⟨p5,ys,rfl,h5,aU bU pr s5⟩;have gf:∀x,x∈Mi.d3 g->FB 64 x:=by
    intro x hx;obtain⟨z,hz,rfl⟩:=aS.mp hx;have:=gb z hz;exists 17
    exact Rt (~~~62) (~~~73)
   have gl:(Mi.d3 g).length =3:=by unfold Mi.d3;rw[ag];exact g3
   exists ⟨.ref p5,kn,_,rfl,gm,λx hx=>(gf x hx).le (~~~73),Bu (a:=64) (bf kn2 (~~~73)) (~~~73),by omega,by omega,λH6 lv s6 hlv=>?_⟩;exists 0;have DV:=PH.trans s6;have LO:h_ (D*kn) ((~~~91).lots ++[Mi.eX kn (Mi.d3 g)]):=by
    refine⟨c8 (pN OK.pos wN),?_,λx hx=>?_,?_,by rw[au];show _+1<=_;omega⟩
    .calc D*kn<=2^(1000*(t+1))*2^20:=i8 OK.le (bA kn2 (~~~73))
      _=2^(1000*(t+1)+20):=by rw[<-fS]
      _<2^200000:=gA (~~~73) (~~~62)
    .rcases aE.mp hx with hx|hx
     .exact(PO.lots x hx).mono (iD D kn)
     .rw[aN.mp hx];exact abK OK.pos wN g3 gb
    .rw[Mi.dP];have w1:=PO.weight;have w2:=PO.most;have:Mi.aJ [Mi.eX kn (Mi.d3 g)]=kn:=by rw[Mi.cY,Mi.ed];rfl
     rw[this];exact bf (show _<=2000000000 by omega) (~~~73)
   refine⟨O,y,m,_,a,l,_,lv,_,_,rfl,Y.up DV,HC,ha,hl,hp.same DV,hlv,LO,λH7 y7 Y7 ey k7=>?_⟩;have KL:y7.ya=y.ya:=by rw[ey]
   have Kv:y7.as=y.as:=by rw[ey]
   have gm7:kI K (Fr K) H7 (.ref p5) (Mi.d3 g):=(j8 nL).up ((oh bU).up gm s6) k7;rw[<-KL];exists T9 T Y7 ?_;exists 0;obtain⟨dx,pm,tm,h0,Vf,Vj⟩:=Y7.yd;refine gD T.jh (~~~63) h0 (by show 9<1000;decide) λH8 h8 k8=>?_;have Po:∀b,b∈y7.own->O b=none:=Y7.off;have ew:V.int (((m.ve:Nat):Int)+((kn:Nat):Int))=V.int ((m.ve+kn:Nat):Int):=by rw[zX]
   have Y8:bI K d O H8 y7 {m with piles:=m.piles.set (~~~113) (~~~141),ve:=m.ve+kn}:=
    Y7.qa T (y':=y7) (m':={m with piles:=m.piles.set (~~~113) (~~~141),ve:=m.ve+kn}) (dx:=dx) (pm:=pm) (tm:=tm) rfl rfl (by rw[h8,ew];rfl) ⟨_,h0⟩ k8 Vf Vj (~~~152) (~~~152) (~~~152) Y7.ps Y7.lp Y7.src Y7.lst Y7.Gn
   have QO:kI K (Fr K) H8 (.ref p5) (Mi.d3 g):=(j8 nL).up gm7 (pA h0 (pC T) k8);exists T8 T Y8 λpv UD=>?_;exists ⟨pv,.ref p5,m.wc,Mi.d3 g,rfl,UD,QO,λx hx=>(Jj OK ht OK.put x hx).le (~~~73),λx hx=>(gf x hx).le (~~~73),by rw[OK.put.len];decide,λH9 z s9 hz=>?_⟩;exists 0;have Y9:=Y8.up s9;obtain⟨dx9,pm9,tm9,h09,ais,aeK⟩:=Y9.yd;refine gD T.jh (~~~63) h09 (by show 9<1000;decide) λHD zC R3=>?_;have Y10:bI K d O HD y7 {m with piles:=m.piles.set (~~~113) (~~~141),ve:=m.ve+kn,wc:=Mi.fM m.wc (Mi.d3 g)}:=
    Y9.qa T (y':=y7) (m':={m with piles:=m.piles.set (~~~113) (~~~141),ve:=m.ve+kn,wc:=Mi.fM m.wc (Mi.d3 g)}) (dx:=dx9) (pm:=z) (tm:=tm9) rfl rfl (by rw[zC];rfl) ⟨_,h09⟩ R3 hz aeK (~~~152) (~~~152) (~~~152) Y9.ps Y9.lp Y9.src Y9.lst Y9.Gn
   obtain⟨a2,l2,F',oI,Ky⟩:=Y10.HI _ _ (cN pin);have Qz:a2=a:=by rw[Kv,ha] at F';exact(bG.inj F').symm
   subst Qz;exists e_ T Ky ?_;exists 0;have ll2:(~~~141).lots.length <=31:=by
    unfold Mi.putOn;simp only;split
    .rw[au];show 1+_<=_;omega
    .split
     .rw[au];show _+1<=_;omega
     .show 1<=31;decide
   refine⟨_,_,rfl,kY Ky,by omega,λK4 GY=>?_⟩;exists bY (by show 2<=sizeLine;decide) λUo Bh afk Ws zD=>q Uo y7 Bh (Y10.up (GY.trans afk)) KL zD
theorem h_.sub {t D:Nat} {m:MS} (h:Mi.Ok t D m) (ht:t<=120) {l:List bV} (hl:∀x,x∈l->Mi.qF D x) (hw:Mi.aJ l<=1000000000) (hn:l.length<=1000):h_ D l:=⟨c8 h.pos,Ij h ht,hl,bf hw (~~~73),hn⟩
theorem G9:bh ["yard","numbers","pile","kilograms","halves","taken","metal","lot"] ["yard","numbers"] (ay (top 88)):=by walk_at "s"
theorem GC (F:Def K mg "call_take" (top 88) ["yard","numbers"]) (T:Top K mg d) (eL: ~~~28) (cX: ~~~14) (EY: ~~~11) (fq: ~~~13)
  (js: ~~~8) (ck: ~~~23):
  dR P w K mg base 46 "call_take" ["yard","numbers"] (qt K d (λm n=>n.length=2/\Mi.cC m (~~~66)=true/\1<=n.getD 1 0/\n.getD 1 0<=1000000000) λm n=>Mi.uk m (~~~66) (~~~89)):=by
 exists G9,0
 .exists 8
 obtain⟨O,y,m,u,n,rfl,Y,hu,B,⟨n5,ip,k1,k2⟩,q⟩:=h;refine⟨_,(ao (~~~84)
   (ao (b9 3 nd (~~~64))
   (ao (gN (eC Cp (~~~116) (pv 3) (dX _)) (~~~250) d5)
   (ao (b9 4 nd (a9 EY (~~~61) rfl (ae (fc K (pv 2)) (ae (pv 3) aj))))
   (ao (b9 5 nd (~~~229))
   (ao (b9 6 nd (a9 fq (~~~61) rfl (ae (pv 5) aj)))
   (ao (tI K (pv 2) (~~~229))
   (ao (tI K (pv 0) (b_ j6 (~~~95) (pv 3)))
   (ao (tI K (pv 0) (a9 js (~~~61) rfl (ae (~~~95) (ae (pv 6) aj))))
   (aD (bw (b_ dY (b_ dY (b_ dY (bZ (ae aF (ae (~~~116) aj))) (a9 ck (~~~61) rfl (ae (pv 6) aj))) (bZ (ae (cR (iH K) rfl T.len bP (ae (pv 5) aj)) aj))) (iN rfl nd (v9 K (pv 5)) (cH (N:=["yard","numbers","pile","kilograms","halves","taken","metal","lot"]) (sc:=ay (top 88)) (own:=[("lot",7)]) (~~~63)) (λ_ _ _ _ _=>(cK 7 nd)) (~~~71) (λ_ _ _ _ _=>(fc K (pv 7)))))))))))))))),?_⟩
 exists 23;have q:∀H' y' p,bI K d O H' y' (Mi.uk m (~~~66) (~~~89)).1->y'.ya=y.ya->H' p=some (.lst ((Mi.uk m (~~~66) (~~~89)).2.map V.int))->Q (.ref p) H':=q;unfold Mi.uk at q;exists 69;obtain⟨a,l,ha,hl,hp⟩:=wD Y ip;have pin:=Mi.sy ip;have HC:m.piles[(~~~66).toNat -1]?=some (~~~91):=by unfold Mi.aG;exists 137
 have yb:=PO.len;have ek:n.getD 1 0=((~~~89).toNat :Nat):=by omega
 generalize ekn:(~~~89).toNat =kn at*
 generalize epl:Mi.aG m (~~~66)=pl at*
 have wN:1<=kn:=by omega
 exists 13;exists 134;rw[ek];exists 135;exists ⟨_,_,rfl,kY hp,by omega,λH1 s1=>?_⟩;exists 38
 .rw[if_pos (~~~62)] at q;exists 18
 .exists 67;have hw:kn<=Mi.aJ pl.lots:=by omega
  have CI:=Mi.yu hw;obtain⟨XS,cd2⟩:=Mi.Na PO.lots wN hw;exists 0;have hp1:=hp.same s1;refine e_ T hp1 ?_;exists ⟨_,pl.lots,kn,rfl,kY hp1,by omega,λH2 p2 ta la tv lv s2 nt nl ne h2 ht2 oI pt N_=>?_⟩;exists ⟨p2,_,0,_,rfl,rfl,h2,rfl,?_⟩;exists 0;have w9:=PO.weight;have w8:=PO.most;have c1:=CI.YI;have c2:=CI.Vn;have c3:=CI.taken;have LT:h_ D (~~~103).1:=h_.sub OK ht XS (~~~62) (~~~62);refine⟨_,_,D,rfl,⟨ta,tv,rfl,ht2,pt⟩,LT,λH3 mv s3 hm=>?_⟩;exists ⟨p2,_,1,_,rfl,rfl,ie s3 h2,rfl,?_⟩;exists 0;have Ax:bE H H3:=s1.trans (~~~191);have Y3:=Y.up Ax;obtain⟨⟨Qy,WZ⟩,_⟩:=hp.same Ax;refine gD T.pile (~~~63) WZ (by show 3<1000;decide) λH4 h4 k4=>?_;have fl:H la=none:=s1.free nl;have Y4:=Y3.Hg T (ls:=(~~~103).2.1) (lvs:=lv) (l':=la) (dx:=Qy) HC ha (s3 _ _ oI) (aU fN N_ s3) (Y.EG fl) (~~~143) (~~~143) ⟨_,WZ⟩ h4 k4;have pk4:PK d H3 H4:=pA WZ (pB T) k4;have R4:∀(Ha Hb:Hp) (x C dx:Addr) (fs:List (Str×V)),Ha x=some (~~~161)->Af x Ha Hb->∀b xs,Ha b=some (~~~320)->Hb b=some (~~~320):=λHa Hb x C dx fs h k b xs e=>k b _ e (λq=>by subst q;rw[h] at e;cases e);have ta4:=R4 H3 H4 a _ _ _ WZ k4 _ _ (s3 _ _ ht2);have pt4:=gH wq (aU fN pt s3) pk4;have hm4:=(j8 nL).up hm pk4;exists Ua (y:={y with ll:=y.ll.set (~~~113) la}) T Y4 ?_;exists 0;obtain⟨dx,pm,tm,h0,Vf,Vj⟩:=Y4.yd;refine gD T.jh (~~~63) (a:=y.ya) h0 (by show 9<1000;decide) λH5 h5 k5=>?_;have Pn:=Y4.off;have ew:V.int (((m.jV:Nat):Int)+((kn:Nat):Int))=V.int ((m.jV+kn:Nat):Int):=by rw[zX]
  have Y5:bI K d O H5 {y with ll:=y.ll.set (~~~113) la} {m with piles:=m.piles.set (~~~113) ⟨pl.kind,pl.most,(~~~103).2.1⟩,jV:=m.jV+kn}:=
   Y4.qa T (y':={y with ll:=y.ll.set (~~~113) la}) (m':={m with piles:=m.piles.set (~~~113) ⟨pl.kind,pl.most,(~~~103).2.1⟩,jV:=m.jV+kn}) (dx:=dx) (pm:=pm) (tm:=tm) rfl rfl (by rw[h5,ew];rfl) ⟨_,h0⟩ k5 Vf Vj (~~~153) (~~~153) (~~~153) Y4.ps Y4.lp Y4.src Y4.lst Y4.Gn
  have N9:PK d H4 H5:=pA (x:=y.ya) h0 (pC T) k5;have Of:=R4 H4 H5 y.ya _ _ _ h0 k5 _ _ ta4;have Wv:=gH wq pt4 N9;have hm5:=(j8 nL).up hm4 N9;exists T_ (y:={y with ll:=y.ll.set (~~~113) la}) T Y5 λpv UD=>?_;exists ⟨pv,mv,m.mB,_,rfl,UD,hm5,λx hx=>(Jj OK ht OK.taken x hx).le (~~~73),λx hx=>(LT.Sf x hx).le (~~~73),by rw[OK.taken.len];decide,λH6 z s6 hz=>?_⟩;exists 0;have Y6:=Y5.up s6;obtain⟨dx6,pm6,tm6,KQ,aeA,aiA⟩:=Y6.yd;refine gD T.jh (~~~63) (a:=y.ya) KQ (by show 9<1000;decide) λH7 h7 k7=>?_;have Y7:bI K d O H7 {y with ll:=y.ll.set (~~~113) la} {m with piles:=m.piles.set (~~~113) ⟨pl.kind,pl.most,(~~~103).2.1⟩,jV:=m.jV+kn,mB:=Mi.fM m.mB (Mi.metalOf (~~~103).1)}:=
   Y6.qa T (y':={y with ll:=y.ll.set (~~~113) la}) (m':={m with piles:=m.piles.set (~~~113) ⟨pl.kind,pl.most,(~~~103).2.1⟩,jV:=m.jV+kn,mB:=Mi.fM m.mB (Mi.metalOf (~~~103).1)}) (dx:=dx6) (pm:=pm6) (tm:=z) rfl rfl (by rw[h7];rfl) ⟨_,KQ⟩ k7 aeA hz (~~~153) (~~~153) (~~~153) Y6.ps Y6.lp Y6.src Y6.lst Y6.Gn
  have pk7:PK d H6 H7:=pA (x:=y.ya) KQ (pC T) k7;have ta7:=R4 H6 H7 y.ya _ _ _ KQ k7 _ _ (s6 _ _ Of);have pt7:=gH wq (aU fN Wv s6) pk7;have hm7:=(j8 nL).up ((oh bU).up hm5 s6) pk7;obtain⟨a2,l2,F',aia,Ky⟩:=Y7.HI _ _ (cN pin);have Qz:a2=a:=by have F':y.as[(~~~66).toNat -1]?=some a2:=F';rw[ha] at F';exact(bG.inj F').symm
  subst Qz;exists e_ T Ky ?_;exists ⟨_,_,rfl,kY Ky,by show(~~~103).2.1.length <=100000;omega,λH8 s8=>?_⟩;exists bY (by show 2<=sizeLine;decide) λH9 p9 s9 n9 h9=>?_;exists 0;have ml:=Mi.fB (λy hy=>(XS y hy).ok.len);refine⟨mv,_,rfl,p0 (p_ ((oh bU).up hm7 (s8.trans s9))),by rw[fK,dG,ml];decide,λHD HS DW MU zC=>?_⟩;rw[fK] at zC;refine fA (DW _ _ h9) zC (by rw[ag,dG,ml,sizeLine_eq];show 2+6<=_;decide) λK4 MY GY MV IX=>?_;exists 0;have aca:bE H7 K4:=s8.trans (s9.trans (DW.trans GY));refine gC (aca _ _ ta7) ?_;rw[aZ pt7];exists bY (by show 1<=sizeLine;decide) λUo Bh uZ Ws zD=>?_;refine fA (uZ _ _ IX) zD (by rw[au,ag,dG,ml,sizeLine_eq];show 2+6+1<=_;decide) λQY p13 QJ n13 RD=>?_;exists 0;have Zm:bE H7 QY:=aca.trans (uZ.trans QJ);have acA:=Zm _ _ ta7;refine⟨ta,rfl,⟨_,dz.of acA⟩,λC hC=>fj (dS fN (dz.of acA) (aU fN pt7 Zm)) (S:=rK) (f:=λx=>((x.amount:Nat):Int)) df hC (~~~62) (~~~78) (λKo ys wH hL pr=>?_)⟩
  .exists 2;exists qi T rr (~~~306)
  rw[iX pr] at hL;refine fA (wH _ _ RD) hL (by rw[au,au,ag,ag,ag,dG,ml,sizeLine_eq];show 2+6+1+_<=_;omega) λKp HU GZ n15 QG=>?_;refine q Kp _ HU (Y7.up (Zm.trans (wH.trans GZ))) rfl ?_;rw[QG];simp only[bj,az,aV]
def aaF (K:af) (d:iF):Rep dh:=λH v p=>∃a l,v=.ref a/\oo K d H a l p
theorem ZI:ja (aaF K d):=⟨λ⟨a,l,e,h⟩ s=>⟨a,l,e,h.same s⟩⟩
theorem Cu {α β:Type} {F:α->β->Prop}:∀{l1:List α} {l2:List β},l1.length=l2.length->(∀(i:Nat) (x:α) (y:β),l1[i]?=some x->l2[i]?=some y->F x y)->Paired F l1 l2
 | [],[],_,_=>.nil
 |x::l1,y::l2,h,f=>.cons (f 0 x y rfl rfl) (Cu (~~~317) λi a b ha hb=>f (i+1) a b (by simpa using ha) (by simpa using hb))
theorem ZU {H:Hp} {y:YA} {m:MS} (Y:bI K d O H y m):Paired (aaF K d H) (y.as.map V.ref) m.piles:=by
 refine Cu (by rw[ag];exact Y.n1) λi x p hx hp=>?_;obtain⟨a,l,h1,h2,h3⟩:=Y.HI i p hp;rw[bo,h1] at hx;cases hx;exact⟨a,l,rfl,h3⟩
theorem O9 {l:List dh} {i:Nat} {x:dh} (h:l[i]?=some x):(~~~264).flatMap (λp=>p.lots)=(~~~276).flatMap (λp=>p.lots)++x.lots:=by
 rw[eE,h,kE];simp
theorem B7 {D:Nat}:∀{l:List dh},(∀p,p∈l->Mi.mJ D p)->(l.flatMap λp=>p.lots).length <=l.length*30/\Mi.aJ (l.flatMap λp=>p.lots)<=l.length*1000000000/\∀x,x∈(l.flatMap λp=>p.lots)->Mi.qF D x
 | [],_=>⟨by simp,by simp[Mi.ed],λx hx=>by simp at hx⟩
 |p::l,h=>by
  obtain⟨a,b,c⟩:=B7 (l:=l) λq hq=>h q (aA _ hq);have P:=h p (aH ..);have p1:=P.len;have p2:=P.weight;have p3:=P.most;refine⟨?_,?_,λx hx=>?_⟩
  .rw[fH,au,aL,nj];omega
  .rw[fH,Mi.dP,aL,nj];omega
  .rw[fH] at hx;rcases aE.mp hx with hx|hx
   .exact P.lots x hx
   .exact c x hx
theorem G8:bh ["yard","numbers","lots","pile","put","there","taken"] ["yard","numbers"] (ay (top 92)):=by walk_at "s"
theorem GA (F:Def K mg "call_sums" (top 92) ["yard","numbers"]) (T:Top K mg d) (cX: ~~~14) (fq: ~~~13) (ck: ~~~23):
  dR P w K mg base 45 "call_sums" ["yard","numbers"] (qu K d (λ_ _=>True) λm _=>Mi.zL m):=by
 exists G8,0
 .exists 8
 obtain⟨O,y,m,u,n,rfl,Y,hu,B,_,q⟩:=h;refine⟨_,(ao (b9 2 nd (bZ aj))
   (ao (jv PassesOwn.never rfl (v9 K (~~~95)) (cK 3 nd)
   (aD (gT (nI bN dN dO (pW K) (pv 2) (ae (~~~256) aj)))))
   (ao (b9 4 nd (b_ dY (bZ (~~~69)) (a9 ck (~~~61) rfl (~~~69))))
   (ao (b9 5 nd (b_ dY (bZ (ae (a9 cX (~~~61) rfl (~~~120)) aj)) (a9 ck (~~~61) rfl (ae (a9 fq (~~~61) rfl (~~~120)) aj))))
   (ao (b9 6 nd (b_ dY (bZ (~~~69)) (a9 ck (~~~61) rfl (~~~69))))
   (aD (bw (b_ dY (b_ dY (b_ dY (~~~164) (pv 4)) (pv 5)) (pv 6))))))))),?_⟩
 obtain⟨t,D,OK,ht⟩:=id B;have np:=OK.mP;exists 26;exists u7 T (Y.up s1) ?_;refine⟨y.pl,rfl,⟨_,dz.of (Y.up s1).zO⟩,jr (dS ZI (dz.of Y.zO) (ZU Y)) (λi σ H'=>bE H H'/\(∃r,σ=[some (~~~268),some u,some (.ref ca),r,none,none,none])/\∃vs,H' ca=some (.lst vs)/\Paired (mI K d H') vs ((m.piles.take i).flatMap λp=>p.lots)) ⟨s1,⟨none,rfl⟩,[],h1,by rw[fI];exact .nil⟩ (~~~102) ?_ ?_⟩
 .rintro i z x σ H2 hz s2 r ⟨H0,⟨s0,⟨r0,rfl⟩,vs,wF,pv⟩,sx⟩;obtain⟨a,l,rfl,hp⟩:=r;exists 125;have nz:=sx _ _ wF;have KG:=aU fN pv sx;have zl:=(OK.pile z (aw hz)).len;obtain⟨t1,_,_⟩:=B7 (D:=D) (l:=m.piles.take i) λp hp=>OK.pile p (dc hp);have t2:(m.piles.take i).length *30<=6*30:=bQ _ (by rw[cu];omega);exists 43;exists 135;exists zA (K:=K) (tp:=false) nz ls (by rw[aZ KG,aZ lp,sizeLine_eq];omega) λH3 h3 k3=>?_;exists 0;have n3:=yI nz k3;refine⟨λc o e=>k3 c o (s2 _ _ e) (bL e nc),⟨_,rfl⟩,_,h3,?_⟩;rw[O9 hz];exact d4 (lP qs KG n3) (lP qs lp n3)
 .rintro σ H2 ⟨s2,⟨r,rfl⟩,vs,wF,pv⟩;rw[d8] at pv;have pv:Paired (mI K d H2) vs (Mi.lZ m):=pv;obtain⟨t1,t2,t3⟩:=B7 (D:=D) (l:=m.piles) λp hp=>OK.pile p hp;have t4:m.piles.length*30<=6*30:=bQ _ np;have t5:m.piles.length*1000000000<=6*1000000000:=bQ _ np;have LA:h_ D (Mi.lZ m):=⟨c8 OK.pos,Ij OK ht,t3,bf (bA t2 t5) (~~~73),bA (bA t1 t4) (~~~73)⟩;have ml:(Mi.metalOf (Mi.lZ m)).length =3:=Mi.fB (λy hy=>(t3 y hy).ok.len);exists T9 T (Y.up s2) ?_;exists 64;exists T8 T (Y.up (~~~191)) λpv1 aeD=>?_;exists ⟨pv1,_,rfl,p0 (p_ aeD),by rw[fK,dG,OK.put.len];decide,λH4 p4 s4 n4 h4=>?_⟩;rw[fK] at h4;refine fA (s4 _ _ h3) h4 (by rw[ag,dG,OK.put.len,sizeLine_eq];show 1+6<=_;decide) λH5 p5 s5 n5 h5=>?_;exists 73;exists ⟨.ref ca,Mi.lZ m,rfl,(cS fN).up ⟨ca,vs,rfl,wF,pv⟩ QL,bA LA.len (~~~73),λH6 s6=>?_⟩;exists 63;exists 0;have s27:bE H2 H7:=QL.trans (s6.trans s7);refine⟨.ref ca,Mi.lZ m,D,rfl,(cS fN).up ⟨ca,vs,rfl,wF,pv⟩ s27,LA,λH8 mv s8 hm=>?_⟩;exists ⟨mv,_,rfl,p0 (p_ hm),by rw[fK,dG,ml];decide,λH9 p9 s9 n9 h9=>?_⟩;rw[fK] at h9;refine fA ((s8.trans s9) _ _ h7) h9 (by rw[ag,dG,ml,sizeLine_eq];show 1+6<=_;decide) λHD HS DW MU zC=>?_;have ab_:bE H2 HD:=s27.trans (s8.trans (s9.trans DW));exists Ua T (Y.up (s2.trans ab_)) ?_;exists bY (by show 1<=sizeLine;decide) λK4 MY GY MV IX=>?_;exists T_ T (Y.up (s2.trans (ab_.trans GY))) λKG aeE=>?_;exists ⟨KG,_,rfl,p0 (p_ aeE),by rw[fK,dG,OK.taken.len];decide,λUo Bh uZ Ws zD=>?_⟩;rw[fK] at zD;refine fA (uZ _ _ IX) zD (by rw[ag,dG,OK.taken.len,sizeLine_eq];show 1+6<=_;decide) λQY p13 QJ n13 RD=>?_;exists bY (by show 1<=sizeLine;decide) λKo p14 wH n14 Us=>?_;exists 0;have s5e:bE H5 Ko:=s6.trans (s7.trans (s8.trans (s9.trans (DW.trans (GY.trans (uZ.trans (QJ.trans wH)))))));have afj:bE HD Ko:=GY.trans (uZ.trans (QJ.trans wH));refine fA Us (s5e _ _ h5) (by rw[au,ag,dG,OK.put.len,sizeLine_eq];show 1+(1+6)<=_;decide) λKp HU GZ n15 QG=>?_;exists fA QG ((afj.trans GZ) _ _ zC) (by simp only[au,ag,dG,OK.put.len,ml,sizeLine_eq,aL,du];decide) λH16 p16 QK n16 Yj=>?_;exists fA Yj ((wH.trans (GZ.trans QK)) _ _ RD) (by simp only[au,ag,dG,OK.put.len,OK.taken.len,ml,sizeLine_eq,aL,du];decide) λH17 p17 s17 n17 Yk=>?_;have ab9:bE H H16:=s2.trans (QL.trans (s5e.trans (GZ.trans QK)));refine q H17 p17 (ab9.trans s17) (ab9.free n17) ?_;rw[Yk];show _=some (HO.lst ((Mi.zL m).map V.int));unfold Mi.zL;simp only[bj,az,aV]
def aay (K:af) (vs:List V) (H1:Hp) (Q:VK):Prop:=∃p1 p2 a b xs ys,vs=[.ref a,.ref b]/\oq K p1 H1 a xs/\oq K p2 H1 b ys/\(xs.zip ys).length <=100000/\∀H' S us,bE H1 H'->H1 S=none->H' S=some (.lst us)->Paired (M4 H') us (xs.zip ys)->Q (.ref S) H'
theorem adY {ta:TA} {σ:L2.St} {H:Hp} {Q:VK} (h:ta σ H λvs H1=>aay K vs H1 Q):TY K ta σ H Q:=h
theorem NM {H:Hp}:∀{us:List V} {a b:List Nat},Paired (M4 H) us (((nats a).map V.int).zip ((nats b).map V.int))->Paired (Ep K H) us ((a.zip b).map λp=>[((p.1:Nat):Int),((p.2:Nat):Int)])
 |us,[],b,h=>by
  simp[nats] at h;cases h;simp;exact .nil
 |us,x::a,[],h=>by
  simp[nats] at h;cases h;simp;exact .nil
 |us,x::a,y::b,h=>by
  cases h with
  |cons h t=>
   obtain⟨T,e,hT⟩:=h;exact .cons ⟨T,true,e,mK.of hT⟩ (NM t)
theorem Ay:bh ["yard","numbers","answer","source"] ["yard","numbers"] (ay (top 112)):=by walk_at "s"
theorem Ao (F:Def K mg "call_sources" (top 112) ["yard","numbers"]) (T:Top K mg d) (ck: ~~~23):dR P w K mg base 42 "call_sources" ["yard","numbers"] (qu K d (λ_ _=>True) λm _=>Mi.qS m):=by
 exists Ay,0
 .exists 8
 obtain⟨O,y,m,u,n,rfl,Y,hu,B,_,q⟩:=h;refine⟨_,(ao (b9 2 nd (b_ dY (b_ dY (bZ (ae aF (~~~69))) (a9 ck (~~~61) rfl (ae (Mb K rfl T.list T.zip (ae (~~~95) (~~~69))) aj))) (bZ (ae (~~~83) aj))))
   (ao (jv PassesOwn.never rfl (v9 K (~~~95)) (cK 3 nd)
   (aD (gT (nI bN dN dO (pW K) (pv 2) (ae (b_ dY (bZ (ae (~~~256) (ae (~~~256) aj))) (a9 ck (~~~61) rfl (ae (~~~256) aj))) aj)))))
   (aD (bw (pv 2))))),?_⟩
 have S:=B.src;have W:=B.want;have s6:=S.len;exists xX T Y ?_;exists bY (by show 2<=sizeLine;decide) λH1 p1 s1 n1 h1=>?_;exists adY ?_;exists uH T (Y.up s1) ?_;exists xZ T (Y.up s1) ?_;exists 0;have Y1:=Y.up s1;refine⟨false,false,y.la,y.ma,_,_,rfl,dz.of Y1.lst,dz.of Y1.Gn,by unfold nats;simp only[bC,ag];have:=W.l3;omega,λH2 z us s2 n2 h2 pz=>?_⟩;have pp:=NM (K:=K) pz;exists 0;have l6:((m.want.least.zip m.want.most).map λp=>[((p.1:Nat):Int),((p.2:Nat):Int)]).flatten.length =6:=by
  have hl:=W.l3;have hm:=W.m3
  match m.want.least,hl,m.want.most,hm with
  | [_,_,_],_,[_,_,_],_=>rfl
 refine⟨.ref z,_,rfl,⟨false,z,us,rfl,dz.of h2,pp⟩,by omega,λH3 p3 s3 n3 h3=>?_⟩;refine fA ((~~~191) _ _ h1) h3 (by rw[ag,l6,sizeLine_eq];show 2+6<=_;decide) λH4 p4 s4 n4 h4=>?_;exists 0;exists 94;have Y4:=Y1.up wH;refine dJ T Y4 ?_;exists 0;obtain⟨Zq,lvs,e0,ls,lp⟩:=mD Y4;cases e0;refine gC ls ?_;rw[aZ lp];exists bY (by show 1<=sizeLine;decide) λH5 p5 s5 n5 h5=>?_;refine fA (s5 _ _ h4) h5 (by rw[au,ag,l6,sizeLine_eq];show 2+6+1<=_;decide) λH6 ca s6' nc h6=>?_;exists ot ?_;exists 0;have PJ:=s5.trans s6';have PH:bE H H5:=s1.trans (wH.trans s5);refine dJ T (Y4.up PJ) ?_;have ls5:=s5 _ _ ls;have lp5:=aU mr lp s5;refine⟨y.sl,rfl,⟨_,dz.of (PJ _ _ ls)⟩,jr (dS mr (dz.of ls5) lp5) (λi σ H'=>bE H5 H'/\(∃r,σ=[some (~~~268),some u,some (.ref ca),r])/\H' ca=some (.lst (([0,(m.want.amount:Int)]++(~~~128)++[(m.sources.length:Int)]++(m.sources.take i).flatMap Mi.uA).map V.int))) ⟨s6',⟨none,rfl⟩,?_⟩ (~~~102) ?_ ?_⟩
 .rw[fI,h6,qx];simp only[bj,az,aV,qy,dU]
 .rintro i z x σ H7 hz s7 r ⟨H0,⟨s0,⟨r0,rfl⟩,wF⟩,sx⟩;have zm:=aw hz;have g3:=S.g3 z zm;have nz:=sx _ _ wF;have YM:∀x,x∈m.sources.take i->(Mi.uA x).length <=8:=λx hx=>by
   have:=S.g3 x (dc hx);unfold Mi.uA;rw[au,dG,this];show 2+2*3<=8;decide
  have lb:=lL YM;rw[cu] at lb;have lb1:min i m.sources.length*8<=6*8:=bQ _ (~~~62);have l6':(~~~128).length =6:=by rw[qx];exact l6
  exists 43;exists xT T r ?_;exists CV T r ?_;exists bY (by show 2<=sizeLine;decide) λH8 p8 s8 n8 h8=>?_;exists Hm T (mr.up r s8) λg hg=>?_;exists ⟨g,_,rfl,p0 (p_ hg),by rw[fK,dG,g3];decide,λH9 p9 s9 n9 h9=>?_⟩;rw[fK] at h9;refine fA (s9 _ _ h8) h9 (by rw[ag,dG,g3,sizeLine_eq];show 2+6<=_;decide) λHD HS DW MU zC=>?_;exists 0;have ab':bE H7 HD:=s8.trans (s9.trans DW);refine zA (K:=K) (tp:=false) (ab' _ _ nz) zC (by simp only[au,ag,aL,du,l6',dG,g3,sizeLine_eq];omega) λK4 IX UM=>?_;exists ⟨λc o e=>UM c o (ab' _ _ (s7 _ _ e)) (bL e nc),⟨_,rfl⟩,?_⟩;rw[IX,E6 hz];simp only[bj,cV,Mi.uA,az,aV,i4,iq]
 .rintro σ H7 ⟨s7,⟨r,rfl⟩,wF⟩;exists 0;rw[d8] at wF;exact q H7 ca (PH.trans s7) (PH.free nc) wF
def Mt (K:af) (d:iF):Sp:=λvs H Q _=>∃p dx,vs=[.ref p]/\H p=some (.ins d.jh dx [])/\∀H' y,y.ya=p->bI K d (λb=>if b=p then none else H b) H' y Mi.firstM->Q .jL H'
theorem G1:bh ["self"] ["self"] (ay (inClass (top 28) 0)):=by walk_at "s"
theorem Vz (F:lz K mg "Yard" d.jh "Yard.__init__" (inClass (top 28) 0) ["self"]) (T:Top K mg d):mE P w K mg base 41 "Yard" d.jh (Mt K d):=by
 exists G1,0
 .obtain⟨p,dx,rfl,_⟩:=h;rfl
 obtain⟨p,dx,rfl,hp,q⟩:=h;refine⟨_,(ao (tI K (pv 0) (bZ aj))
   (ao (tI K (pv 0) (bZ aj))
   (ao (tI K (pv 0) aF)
   (ao (tI K (pv 0) (bZ (ae aF (ae aF (ae aF aj)))))
   (ao (tI K (pv 0) (bZ (ae aF (ae aF (ae aF aj)))))
   (ao (tI K (pv 0) aF)
   (ao (tI K (pv 0) (ic T.Bp rfl))
   (ao (tI K (pv 0) aF)
   (aD (tI K (pv 0) (ic T.Bp rfl))))))))))),?_⟩
 have keep:∀{Ha Hb:Hp} {fs:List (Str×V)},Ha p=some (.ins d.jh dx fs)->Af p Ha Hb->∀b xs,Ha b=some (~~~320)->Hb b=some (~~~320):=λh k b xs e=>k b _ e (λq=>by subst q;rw[h] at e;cases e);exists bY (by show 0<=sizeLine;exact cj _) λH1 pl s1 n1 h1=>?_;exists gD T.jh (~~~63) (s1 _ _ hp) (by show 0<1000;decide) λH2 h2 k2=>?_;exists bY (by show 0<=sizeLine;exact cj _) λH3 sl s3 n3 h3=>?_;exists gD T.jh (~~~63) (s3 _ _ h2) (by show 1<1000;decide) λH4 h4 k4=>?_;exists gD T.jh (~~~63) h4 (by show 2<1000;decide) λH5 h5 k5=>?_;exists bY (by show 3<=sizeLine;decide) λH6 la s6 n6 h6=>?_;exists gD T.jh (~~~63) (s6 _ _ h5) (by show 3<1000;decide) λH7 h7 k7=>?_;exists bY (by show 3<=sizeLine;decide) λH8 ma s8 n8 h8=>?_;exists gD T.jh (~~~63) (s8 _ _ h7) (by show 4<1000;decide) λH9 h9 k9=>?_;exists gD T.jh (~~~63) h9 (by show 5<1000;decide) λHD zC R3=>?_;exists gD T.jh (~~~63) zC (by show 6<1000;decide) λK4 IX UM=>?_;exists gD T.jh (~~~63) IX (by show 7<1000;decide) λUo zD HL=>?_;exists gD T.jh (~~~63) zD (by show 8<1000;decide) λQY RD k13=>?_;have b13:Af p H9 QY:=λb o e hb=>k13 b o (HL b o (UM b o (R3 b o e hb) hb) hb) hb;have b8:Af p H8 QY:=λb o e hb=>b13 b o (k9 b o e hb) hb;have b6:Af p H6 QY:=λb o e hb=>b8 b o (s8 _ _ (k7 b o e hb)) hb;have b3:Af p H3 QY:=λb o e hb=>b6 b o (s6 _ _ (k5 b o (k4 b o e hb) hb)) hb;have b1:Af p H1 QY:=λb o e hb=>b3 b o (s3 _ _ (k2 b o e hb)) hb;have b0:Af p H QY:=λb o e hb=>b1 b o (s1 _ _ e) hb;have np:∀{b:Addr} {xs:List V} {Ha:Hp} {fs:List (Str×V)},Ha b=some (~~~320)->Ha p=some (.ins d.jh dx fs)->b≠p:=λh1 h2 e=>by subst e;rw[h2] at h1;cases h1
 have e1:pl≠p:=np h1 (s1 _ _ hp);have e3:sl≠p:=np h3 (s3 _ _ h2);have e6:la≠p:=np h6 (s6 _ _ h5);have e8:ma≠p:=np h8 (s8 _ _ h7);have f:∀{b:Addr} {Ha:Hp},Ha b=none->(∀c o,H c=some o->c≠p->Ha c=some o)->b≠p->H b=none:=λ{b Ha} h k e=>by
  cases z:H b with
  |none=>rfl
  |some o=>rw[k _ _ z e] at h;cases h
 have g1:H pl=none:=n1;have k02:∀c o,H c=some o->c≠p->H2 c=some o:=λc o z e=>k2 c o (s1 _ _ z) e;have k05:∀c o,H c=some o->c≠p->H5 c=some o:=λc o z e=>k5 c o (k4 c o (s3 _ _ (k02 c o z e)) e) e;have k07:∀c o,H c=some o->c≠p->H7 c=some o:=λc o z e=>k7 c o (s6 _ _ (k05 c o z e)) e;have g3:H sl=none:=f n3 k02 e3;have g6:H la=none:=f n6 k05 e6;have g8:H ma=none:=f n8 k07 e8;have N_:=keep (s1 _ _ hp) k2 _ _ h1;have pl5:=keep h4 k5 _ _ (keep (s3 _ _ h2) k4 _ _ (s3 _ _ N_));have sl5:=keep h4 k5 _ _ (keep (s3 _ _ h2) k4 _ _ h3);have pl7:=keep (s6 _ _ h5) k7 _ _ (s6 _ _ pl5);have sl7:=keep (s6 _ _ h5) k7 _ _ (s6 _ _ sl5);refine q QY ⟨p,pl,sl,la,ma,[],[]⟩ rfl ⟨λb o e=>?_,λb hb=>?_,bL N_ n3,λb hb=>?_,List.nodup_nil,rfl,rfl,⟨dx,.ref d.noMetal,.ref d.noMetal,RD,T.noMetal _,T.noMetal _⟩,b1 _ _ h1 e1,(λi p' h=>by have h:([]:List dh)[i]?=some p':=h;simp at h),⟨[],b3 _ _ h3 e3,.nil⟩,b6 _ _ h6 e6,b8 _ _ h8 e8⟩
 .by_cases c:b=p
  .simp[c] at e
  .rw[if_neg c] at e;exact b0 b o e c
 .have hb:b=p\/b=pl\/b=sl\/b=la\/b=ma:=by simpa[YA.own] using hb
  by_cases c:b=p
  .simp[c]
  .show(if b=p then none else H b)=none;rw[if_neg c];rcases hb with z|z|z|z|z
   .exact absurd z c
   .rw[z];exact g1
   .rw[z];exact g3
   .rw[z];exact g6
   .rw[z];exact g8
 .have hb:b=la\/b=ma:=by simpa using hb
  rcases hb with z|z
  .rw[z];exact⟨(bL pl5 n6).symm,(bL sl5 n6).symm⟩
  .rw[z];exact⟨(bL pl7 n8).symm,(bL sl7 n8).symm⟩
theorem OV {H:Hp} {Q:VK} (h:∀(H':Hp) (y:YA),bE H H'->bI K d H H' y Mi.firstM->Q (~~~268) H'):QZ d.jh (Mt K d) Q [] H:=by
 intro x dx hx Vc jE;refine⟨x,dx,rfl,cU,λH' y ey Y=>⟨rfl,?_⟩⟩;have le:∀b o,H b=some o->(if b=x then none else(upd (upd H dx (.own x)) x (.ins d.jh dx [])) b)=some o:=λb o e=>by
  rw[if_neg (bL e hx),c6 (bL e hx),c6 (bL e Vc)];exact e
 have Y':=Y.less le;rw[<-ey];exact h H' y Y'.same Y'
def jI (l:List Int):Nat->Nat->List (~~~94)
 |_,0=>[]
 |i,k+1=>(l.drop (i+1)).take (l.getD i 0).toNat ::jI l (~~~169) k
def cz (l:List Int):Nat->Nat->Nat
 |i,0=>i
 |i,k+1=>cz l (~~~169) k
def FF (l:List Int):Nat->Nat->Prop
 |_,0=>True
 |i,k+1=>i<l.length/\0<=l.getD i 0/\i+1+(l.getD i 0).toNat <=l.length/\FF l (~~~169) k
theorem CA (l:List Int):∀(k i:Nat),cz l i (k+1)=cz l i k+1+(l.getD (cz l i k) 0).toNat
 |0,i=>rfl
 |k+1,i=>CA l k _
theorem E5 (l:List Int):∀(k i:Nat),jI l i (k+1)=jI l i k++[(l.drop (cz l i k+1)).take (l.getD (cz l i k) 0).toNat]
 |0,i=>rfl
 |k+1,i=>by
  show _::jI l _ (k+1)=_::jI l _ k++_;rw[E5 l k _];rfl
theorem NT (l:List Int):∀(k i j:Nat),FF l i k->j<k->cz l i j<l.length/\0<=l.getD (cz l i j) 0/\cz l i j+1+(~~~270).toNat <=l.length
 |0,i,j,_,h=>by omega
 |k+1,i,0,h,_=>⟨h.1,h.2.1,h.2.2.1⟩
 |k+1,i,j+1,h,hj=>NT l k _ j h.2.2.2 (~~~62)
theorem WR {H:Hp} {Q:VK} {a:Addr} {xs:List V} {lo hi:Option Int} (h:dz K H a xs) (q:∀(H':Hp) (p:Addr),bE H H'->H p=none->H' p=some (.lst (oF xs lo hi))->Q (.ref p) H'):VP K (.ref a) lo hi H Q:=
 ⟨a,xs,rfl,h,λp hp=>q _ p (iP hp) hp cU⟩
theorem WQ {H:Hp} {Q:VK} {a:Addr} {xs:List V} {i:Int} {v:V} (h:dz K H a xs) (e:QC xs i=some v) (q:Q v H):S9 K (.ref a) (.int i) H Q:=⟨a,xs,i,v,rfl,rfl,h,e,q⟩
def TF (K:af):Sp:=λvs H Q _=>∃a l i k,vs=[.ref a,.int (i:Nat),.int (k:Nat)]/\dz K H a (~~~208)/\FF l i k/\k<=2/\FD H Q (jI l i k)
theorem Ml:bh ["calls","place","count","rows","turn","behind"] ["calls","place","count"] (ay (top 115)):=by walk_at "s"
theorem L8 (F:Def K mg "rows_at" (top 115) ["calls","place","count"]) (T:Top K mg d): ~~~59:=by
 exists Ml,0
 .obtain⟨a,l,i,k,rfl,_⟩:=h;rfl
 obtain⟨a,l,i,k,rfl,hl,KY,k2,q⟩:=h;refine⟨_,(ao (b9 3 nd (bZ aj))
   (ao (jv PassesOwn.never rfl (yR rfl T.range (~~~120)) (cK 4 nd)
   (ao (b9 5 nd (b_ j6 (b_ j6 (pv 1) aF) (cD (o9 K) (pv 0) (pv 1) (~~~74))))
   (ao (gT (nI bN dA dB ki (pv 3) (ae (jH (QM K) (pv 0) (fh (b_ j6 (pv 1) aF)) (fh (pv 5))) aj)))
   (aD (b9 1 nd (pv 5))))))
   (aD (bw (pv 3))))),?_⟩
 exists 26;exists ⟨_,rfl,by omega,by omega,jr (H0:=H) (xx 0 _) (λj σ H'=>bE H H'/\(∃r1 r2,σ=[some (.ref a),some (.int (cz l i j:Nat)),some (.int (k:Nat)),some (.ref ca),r1,r2])/\∃vs,H' ca=some (.lst vs)/\Paired (K3 H ca H') vs (jI l i j)) ⟨s1,⟨none,none,rfl⟩,[],h1,.nil⟩ (~~~102) ?_ ?_⟩
 .rintro j z x σ H2 hz s2 r ⟨H0,⟨s0,⟨r1,r2,rfl⟩,vs,wF,pv⟩,sx⟩;have jk:j<k:=by
   have:=(aO.mp hz).1;simpa using this
  obtain⟨p1,p2,p3⟩:=NT l k i j KY jk;exists 130;have oI:=s2.seq hl;exists WQ oI (fF p1) ?_;exists 43;exists 105;exists 105;refine WR oI λH3 p3' s3 n3 h3=>?_;have e1:oF (~~~208) (some (((cz l i j:Nat):Int)+1)) (some (((cz l i j:Nat):Int)+1+l.getD (cz l i j) 0))=((l.drop (cz l i j+1)).take (~~~270).toNat).map V.int:=by
   have e2:((cz l i j:Nat):Int)+1+l.getD (cz l i j) 0=((cz l i j+1+(~~~270).toNat :Nat):Int):=by omega
   have e3:=oZ (~~~208) (cz l i j+1) (cz l i j+1+(~~~270).toNat) (by rw[ag];omega) (~~~62);rw[e2];rw[qB] at e3;rw[jK,gW];exact e3
  rw[e1] at h3;exists 0;have lv:=aZ KG;have lr:(jI l i j).length <=2:=by
   have:∀(k i:Nat),(jI l i k).length =k:=λk=>by
    induction k with
    |zero=>intro i;rfl
    |succ k ih=>intro i;show(jI l _ k).length +1=_;rw[ih]
   rw[this];omega
  refine xq (s3 _ _ nz) (by rw[lv,sizeLine_eq];omega) λH4 h4 k4=>?_;exists 0;have ne:p3'≠ca:=λe=>by subst e;rw[nz] at n3;cases n3
  refine⟨λc o e=>k4 c o (s3 _ _ (s2 _ _ e)) (bL e nc),⟨some x,some (.int (((cz l i j:Nat):Int)+1+l.getD (cz l i j) 0)),?_⟩,_,h4,?_⟩
  .rw[CA,show((cz l i j+1+(~~~270).toNat :Nat):Int)=((cz l i j:Nat):Int)+1+l.getD (cz l i j) 0 by omega];rfl
  .rw[E5];exact d4 (oH k4 (aU og KG s3)) (.cons ⟨p3',rfl,ne,s2.free n3,k4 _ _ h3 ne⟩ .nil)
 .rintro σ H2 ⟨s2,⟨r1,r2,rfl⟩,vs,wF,pv⟩;exists 0;have e:(ax (k:Int).toNat).length =k:=by simp
  rw[e] at pv;exact q H2 ca vs s2 nc wF pv
end
section
variable {K:af} {mg:Str->Option Value} {d:iF} {O H H':Hp} {y y':YA} {m m':MS}
theorem bI.Sr (T:Top K mg d) (Y:bI K d O H y m) {b:Addr} {o:HO} (hb:b∈y.own) (h:H b=some o):plain d o=false:=by
 unfold YA.own at hb;obtain⟨dx,pm,tm,h1,_⟩:=Y.yd;obtain⟨x3,h2,_⟩:=Y.src;have lst:∀xs,H b=some (~~~320)->plain d o=false:=λxs e=>by rw[e] at h;cases h;rfl
 simp only[aB,aE] at hb;rcases hb with e|e|e|e|e|e|e
 .subst e;rw[h1] at h;cases h;exact pC T
 .subst e;exact lst _ Y.zO
 .subst e;exact lst _ h2
 .subst e;exact lst _ Y.lst
 .subst e;exact lst _ Y.Gn
 .obtain⟨dx,fs,h3⟩:=Y.VM e;rw[h3] at h;cases h;exact pB T
 .obtain⟨i,hi,e⟩:=cQ.mp e;have n2:=Y.n2;obtain⟨a,l,_,h3,_,lvs,h4,_⟩:=Y.HI i _ (ah (~~~62));rw[ah hi] at h3;cases h3;subst e;exact lst _ h4
theorem bI.abP (T:Top K mg d) (Y:bI K d O H y m):PK d H (qk y H):=λb o e z=>held e (λhb=>by rw[Y.Sr T hb e] at z;cases z)
theorem bI.back (Y:bI K d O H y m) (Y':bI K d (qk y H) H' y' m'):bI K d O H' y' m':=Y'.less λb o e=>held (Y.same b o e) (λhb=>by rw[Y.off b hb] at e;cases e)
end
section
variable {P:Program} {w:World} {K:af} {mg:Str->Option Value} {base:Heap} {d:iF} {O:Hp}
theorem S4 {l:List bV} {i:Nat} {x:bV} {p:dh} (h:l[i]?=some x):(~~~264).foldl Mi.putOn p=Mi.putOn ((~~~276).foldl Mi.putOn p) x:=by
 rw[eE,h,dZ];rfl
theorem S3 {t D:Nat} {m:MS} (OK:Mi.Ok t D m) (ht:t<=120) {p:dh} (PO:Mi.mJ D p) {l:List bV} (hl:∀x,x∈l->Mi.qF D x) (yb:l.length<=30) (hw:Mi.aJ p.lots+Mi.aJ l<=p.most) (hn:Mi.rJ p l.length) {i:Nat} {x:bV} (h:l[i]?=some x):
  ∃E,h_ E (((~~~276).foldl Mi.putOn p).lots ++[x]):=by
 have il:i<l.length:=(aO.mp h).1;have wt:=Mi.qc l i;obtain⟨E,e1,e2,e3,P2⟩:=Mi.xJ (l:=l.take i) OK.pos PO (λy hy=>hl y (dc hy)) (~~~62) (by
  rcases hn with z|z
  .exact .inl z
  .exact .inr (by rw[cu];omega))
 have w1:=P2.weight;have w2:=P2.most;have wx:x.amount<=Mi.aJ l:=by
  have a:=Mi.qc l (i+1);have:Mi.aJ (~~~264)=Mi.aJ (~~~276)+x.amount:=by
   rw[eE,h,Mi.dP];show _+Mi.aJ [x]=_;rw[Mi.cY,Mi.ed];omega
  omega
 have pm:=PO.most;refine⟨E,c8 e3,?_,λy hy=>?_,?_,?_⟩
 .calc E<=D*2^(30*(~~~276).length):=e2
   _<=2^(1000*(t+1))*2^900:=i8 OK.le (bW (~~~73) (by rw[cu];omega))
   _=2^(1000*(t+1)+900):=by rw[<-fS]
   _<2^200000:=gA (~~~73) (~~~62)
 .rcases aE.mp hy with hy|hy
  .exact P2.lots y hy
  .rw[aN.mp hy];exact(hl x (aw h)).mono e1
 .rw[Mi.dP,Mi.cY,Mi.ed];exact bf (show _<=2000000000 by omega) (~~~73)
 .rw[au];have:=P2.len;show _+1<=1000;omega
theorem set_same {α:Type} {l:List α} {i:Nat} {x:α} (h:l[i]?=some x):l.set i x=l:=by
 apply lU;intro j;by_cases c:i=j
 .subst c;rw[cN (aO.mp h).1,h]
 .rw[eD c]
theorem VF {y:YA} {i:Nat} {l b:Addr} (h:b∈({y with ll:=y.ll.set i l}:YA).own):b∈y.own\/b=l:=by
 unfold YA.own at*
 simp only[aB,aE] at h⊢;rcases h with e|e|e|e|e|e|e
 .simp[e]
 .simp[e]
 .simp[e]
 .simp[e]
 .simp[e]
 .simp[e]
 .rcases fY e with e|e
  .simp[e]
  .exact .inr e
theorem G6:bh ["yard","numbers","pile","other","kilograms","halves","moved","lot"] ["yard","numbers"] (ay (top 89)):=by walk_at "s"
theorem Gy (F:Def K mg "call_move" (top 89) ["yard","numbers"]) (T:Top K mg d) (eL: ~~~28) (cX: ~~~14) (fD: ~~~56) (fQ: ~~~55)
  (EY: ~~~11) (qV: ~~~57) (fq: ~~~13) (ck: ~~~23):
  dR P w K mg base 47 "call_move" ["yard","numbers"] (qt K d (λm n=>n.length=3/\Mi.cC m (~~~66)=true/\Mi.cC m (~~~89)=true/\1<=n.getD 2 0/\n.getD 2 0<=1000000000) λm n=>Mi.ui m (~~~66) (~~~89) (n.getD 2 0)):=by
 exists G6,0
 .exists 8
 obtain⟨O,y,m,u,n,rfl,Y,hu,B,⟨n5,ip,ir,k1,k2⟩,q⟩:=h;refine⟨_,(ao (gN (eC uq (~~~64) (~~~64) (dX _)) (~~~251) d5)
   (ao (~~~84)
   (ao (b9 3 nd (a9 eL (~~~61) rfl (ae (pv 0) (ae (~~~64) aj))))
   (ao (b9 4 nd (~~~64))
   (ao (gN (eC Cp (~~~116) (pv 4) (dX _)) (~~~250) d5)
   (ao (gN (mn (a9 fD (~~~61) rfl (ae (pv 3) (~~~241)))) (aD (bw (bZ (ae (iU T.Es rfl) aj)))) d5)
   (ao (b9 5 nd (a9 EY (~~~61) rfl (ae (fc K (pv 2)) (~~~241))))
   (ao (b9 6 nd (~~~228))
   (ao (gN (mn (a9 fQ (~~~61) rfl (ae (pv 3) (ae (cR (iH K) rfl T.len bP (ae (pv 6) aj)) aj)))) (~~~185) d5)
   (ao (tI K (pv 2) (~~~228))
   (ao (jv PassesOwn.never rfl (v9 K (pv 6)) (cK 7 nd)
   (aD (gT (a9 qV (~~~61) rfl (ae (pv 3) (ae (pv 7) aj))))))
   (aD (bw (b_ dY (bZ (ae aF (ae (~~~116) (ae (a9 cX (~~~61) rfl (ae (~~~256) aj)) aj)))) (a9 ck (~~~61) rfl (ae (a9 fq (~~~61) rfl (ae (pv 6) aj)) aj)))))))))))))))),?_⟩
 exists 23;have q:∀H' y' p,bI K d O H' y' (Mi.ui m (~~~66) (~~~89) (n.getD 2 0)).1->y'.ya=y.ya->H' p=some (.lst ((Mi.ui m (~~~66) (~~~89) (n.getD 2 0)).2.map V.int))->Q (.ref p) H':=q;unfold Mi.ui at q;exists 69;have PR:=OK.pile _ (Mi.eP ir);obtain⟨a,l,ha,hl,hp⟩:=wD Y ip;obtain⟨b,lb,hb,hlb,hpb⟩:=wD Y ir;have pin:=Mi.sy ip;have pir:=Mi.sy ir;have HC:m.piles[(~~~66).toNat -1]?=some (~~~91):=by unfold Mi.aG;exists 137
 have hpr:m.piles[(~~~89).toNat -1]?=some (Mi.aG m (~~~89)):=by unfold Mi.aG;rw[Mi.getD_in Mi.VT pir];exact ah pir
 have yb:=PO.len;have r30:=PR.len;have ek:n.getD 2 0=((n.getD 2 0).toNat :Nat):=by omega
 generalize ekn:(n.getD 2 0).toNat =kn at*
 generalize epl:Mi.aG m (~~~66)=pl at*
 generalize epr:Mi.aG m (~~~89)=pr at*
 have wN:1<=kn:=by omega
 exists gY us (~~~151) ?_;exists 134;exists ub (λc0=>?_) λc0=>?_
 .rw[if_pos c0] at q;exists bY (by show 1<=sizeLine;decide) λH2 p2 s2 n2 h2=>q H2 y p2 (Y.up s2) rfl h2
 rw[if_neg c0] at q;exists 13;exists 134;exists ⟨O,y,m,_,b,rfl,Y,ir,hb,?_⟩;exists gY us (fF (j:=2) (~~~62)) ?_;rw[ek];exists 135;exists ⟨_,_,rfl,kY hp,by omega,λH1 s1=>?_⟩;exists 38
 .rw[if_pos (~~~62)] at q;exists 18
 exists 67;have hw:kn<=Mi.aJ pl.lots:=by omega
 exists ⟨b,lb,_,kn,rfl,hpb.same s1,by omega,λH2 s2=>?_⟩;exists 0;have jE:(~~~66).toNat -1≠(~~~89).toNat -1:=by
  have z0:=ip;have z1:=ir;unfold Mi.cC at z0 z1;rw[aC,decide_eq_true_iff,decide_eq_true_iff] at z0 z1;omega
 cases c1:Mi.gc pr kn with
 |true=>
  rw[if_pos c1] at q;exists 103;exists bY (by show 1<=sizeLine;decide) λH3 p3 s3 n3 h3=>q H3 y p3 (Y.up ((~~~99).trans s3)) rfl h3
 |false=>
  exists 115;exists 0;have CI:=Mi.yu hw;obtain⟨XS,cd2⟩:=Mi.Na PO.lots wN hw;have uZ:=s1.trans s2;have Ky:=hp.same uZ;refine e_ T Ky ?_;exists ⟨_,pl.lots,kn,rfl,kY Ky,by omega,λH3 p3 ta la tv lv s3 nt nl ne h3 ht3 WY pt pl3=>?_⟩;exists ⟨p3,_,0,_,rfl,rfl,h3,rfl,?_⟩;exists gC ht3 ?_;rw[aZ pt];exists 0;have Ax:=uZ.trans s3;refine⟨b,lb,_,(~~~103).1.length,rfl,hpb.same Ax,λH4 s4=>?_⟩;exists 0;have KI:=Ax.trans s4;cases c2:Mi.tooMany pr (~~~103).1.length with
  |true=>
   rw[if_pos c2] at q;exists 103;exists bY (by show 1<=sizeLine;decide) λH5 p5 s5 n5 h5=>q H5 y p5 (Y.up (KI.trans s5)) rfl h5
  |false=>
   exists 114;exists ⟨p3,_,1,_,rfl,rfl,ie s4 h3,rfl,?_⟩;exists 0;have Y4:=Y.up KI;obtain⟨⟨Qy,WZ⟩,_⟩:=hp.same KI;refine gD T.pile (~~~63) WZ (by show 3<1000;decide) λH5 h5 k5=>?_;have fl:H la=none:=uZ.free nl;have ft:H ta=none:=uZ.free nt;have Y5:=Y4.Hg T (ls:=(~~~103).2.1) (lvs:=lv) (l':=la) (dx:=Qy) HC ha (s4 _ _ WY) (aU fN pl3 s4) (Y.EG fl) (~~~143) (~~~143) ⟨_,WZ⟩ h5 k5;have N9:PK d H4 H5:=pA WZ (pB T) k5;have Of:H5 ta=some (.lst tv):=k5 _ _ (s4 _ _ ht3) (λe=>by obtain⟨⟨dx0,h0a⟩,_⟩:=hp;rw[e,h0a] at ft;cases ft);have Wv:=gH wq (aU fN pt s4) N9;have nta:ta∉({y with ll:=y.ll.set (~~~113) la}:YA).own :=λhb=>by
    rcases VF hb with z|z
    .exact Y.fresh ft z
    .exact ne z
   have c10:=CI.YI;have c20:=CI.Vn;have c30:=CI.taken;have w9:=PO.weight;have w8:=PO.most;have LT:h_ D (~~~103).1:=h_.sub OK ht XS (~~~62) (~~~62);have Z3:Mi.rJ pr (~~~103).1.length :=by
    have tm:=Mi.pH PR.kind (x:=pr) (~~~103).1.length;by_cases k2:pr.kind=2
    .exact .inl k2
    .right;apply aK;intro z;have:=tm.mpr ⟨k2,by omega⟩;rw[c2] at this;cases this
   have hwr:Mi.aJ pr.lots+Mi.aJ (~~~103).1<=pr.most:=by
    rw[c30];have c1:¬Mi.gc pr kn=true:=by rw[c1];simp
    unfold Mi.gc at c1;rw[decide_eq_true_iff] at c1;omega
   generalize emv:(~~~103).1=moved at*
   generalize elf:(~~~103).2.1=left at*
   have abz:(m.piles.set (~~~113) ⟨pl.kind,pl.most,left⟩)[(~~~89).toNat -1]?=some pr:=by rw[eD jE];exact hpr
   generalize aaS:m.piles.set (~~~113) ⟨pl.kind,pl.most,left⟩=zO at*
   generalize ey5:({y with ll:=y.ll.set (~~~113) la}:YA)=y5 at*
   have Kv:y5.as=y.as:=by rw[<-ey5]
   have KL:y5.ya=y.ya:=by rw[<-ey5]
   have taO:qk y5 H5 ta=some (.lst tv):=held Of nta;have ptO:=gH wq Wv (Y5.abP T);have Ww:(~~~89).toNat -1<zO.length:=(aO.mp abz).1;exists ⟨_,rfl,ta,rfl,⟨_,dz.of Of⟩,jr (dS fN (dz.of taO) ptO) (λi σ H'=>∃y' r,σ=[some (~~~268),some (.ref ua),some (.ref a),some (.ref b),some (.int (kn:Nat)),some (.ref p3),some (.ref ta),r]/\bI K d (qk y5 H5) H' y' {m with piles:=zO.set (~~~244) (~~~196)}/\y'={y5 with ll:=y'.ll})
    ⟨y5,none,rfl,by rw[fI];show bI K d _ H5 y5 {m with piles:=zO.set _ pr};rw[set_same abz];exact Y5.hold,rfl⟩ (λi σ H' _ p=>by obtain⟨y',r,_,Yi,_⟩:=p;exact Yi.same) ?_ ?_⟩
   .rintro i z x σ H6 hz s r ⟨H7,⟨y',r0,rfl,Yi,ey⟩,s6⟩;exists 0;have Y6:=Yi.up s6;obtain⟨E,LE⟩:=S3 OK ht PR XS (~~~62) hwr Z3 hz;obtain⟨b2,l2,OZ,oI,Ky⟩:=Y6.HI (~~~244) _ (cN Ww);have eb:b2=b:=by
     have e1:y'.as=y.as:=by rw[ey];exact Kv
     rw[e1,hb] at OZ;exact(bG.inj OZ).symm
    subst eb;refine⟨_,y',_,(~~~89).toNat -1,b2,l2,_,x,z,E,rfl,Y6,cN Ww,OZ,oI,Ky,r,LE,λH8 y8 Y8 e8 pk8=>?_⟩;exists ⟨y8,_,rfl,?_,by rw[e8,ey]⟩;rw[S4 hz];have e:(zO.set (~~~244) (~~~196)).set (~~~244) (Mi.putOn (~~~196) z)=zO.set (~~~244) (Mi.putOn (~~~196) z):=List.set_set _;rw[<-e];exact Y8
   .rintro σ H9 ⟨y9,r0,rfl,Y9,ey⟩;rw[d8] at Y9;have Yb:=Y5.back Y9;have e1:y9.as=y.as:=by rw[ey];exact Kv
    have e2:y9.ya=y.ya:=by rw[ey];exact KL
    have hp9:(zO.set (~~~244) (moved.foldl Mi.putOn pr))[(~~~66).toNat -1]?=some ⟨pl.kind,pl.most,left⟩:=by
     rw[eD (Ne.symm jE),<-aaS];exact cN pin
    obtain⟨a2,l2,F',oI,hq2⟩:=Y9.HI _ _ hp9;obtain⟨b2,l3,OZ,WY,hq3⟩:=Y9.HI (~~~244) _ (cN Ww);have ea:a2=a:=by rw[e1,ha] at F';exact(bG.inj F').symm
    have eb:b2=b:=by rw[e1,hb] at OZ;exact(bG.inj OZ).symm
    subst ea;subst eb;have s59:=Y9.same;have ta9:=s59 _ _ taO;have pt9:=aU fN ptO s59;exists e_ T hq2 ?_;exists ⟨_,_,rfl,kY hq2,by show left.length<=100000;omega,λHD DW=>?_⟩;exists e_ T (hq3.same DW) ?_;exists 0;have ae6:(moved.foldl Mi.putOn pr).lots.length <=100000:=by
     obtain⟨E,_,_,_,P2⟩:=Mi.xJ OK.pos PR XS hwr Z3;have:=P2.len;omega
    refine⟨_,_,rfl,kY (hq3.same DW),ae6,λK4 GY=>?_⟩;exists bY (by show 3<=sizeLine;decide) λUo Bh uZ Ws zD=>?_;exists 0;have Zn:bE H9 Uo:=DW.trans (GY.trans uZ);refine⟨_,_,D,rfl,⟨ta,tv,rfl,Zn _ _ ta9,aU fN pt9 Zn⟩,LT,λQY mv QJ hm=>?_⟩;exists 0;have ml:=Mi.fB (λy hy=>(XS y hy).ok.len);refine⟨mv,_,rfl,p0 (p_ hm),by rw[fK,dG,ml];decide,λKo p14 wH n14 Us=>?_⟩;rw[fK] at Us;refine fA ((QJ.trans wH) _ _ zD) Us (by rw[ag,dG,ml,sizeLine_eq];show 3+6<=_;decide) λKp HU GZ n15 QG=>?_;have YF:=Yb.up (Zn.trans (QJ.trans (wH.trans GZ)));rw[<-aaS] at YF;refine q Kp y9 HU YF e2 ?_;rw[QG];simp only[bj,az,aV]
def WN:List Str:=["call_pile","call_put","call_take","call_move","call_told","call_lots","call_sums","call_source","call_offer","call_clear","call_want","call_blend","call_most","call_range","call_check","call_proof","call_never","call_sources"]
def preOf:Nat->MS->List Int->Prop
 |0=>λ_ n=>2<=n.length/\0<=n.getD 0 0/\0<=n.getD 1 0
 |1=>λm n=>n.length=5/\Mi.cC m (~~~66)=true/\1<=n.getD 1 0/\n.getD 1 0<=1000000/\∀x,x∈(n.drop 2).take 3->0<=x/\x<=1000000000
 |2=>λm n=>n.length=2/\Mi.cC m (~~~66)=true/\1<=n.getD 1 0/\n.getD 1 0<=1000000000
 |3=>λm n=>n.length=3/\Mi.cC m (~~~66)=true/\Mi.cC m (~~~89)=true/\1<=n.getD 2 0/\n.getD 2 0<=1000000000
 |4=>λm n=>1<=n.length/\Mi.cC m (~~~66)=true
 |5=>λm n=>1<=n.length/\Mi.cC m (~~~66)=true
 |7=>λ_ n=>n.length=5/\0<=n.getD 1 0
 |8=>λm n=>2<=n.length/\Mi.cC m (~~~66)=true
 |10=>λ_ n=>n.length=7/\∀x,x∈n->0<=x
 |13=>λ_ n=>1<=n.length/\1<=n.getD 0 0/\n.getD 0 0<=3
 |14=>λm n=>Mi.mF m.sources.length n
 |15=>λm n=>∃x p,n=x++p/\Mi.mF m.sources.length x/\Mi.mF (~~~135) p
 |16=>λm n=>Mi.mF (~~~135) n
 |_=>λ_ _=>True
theorem ready {m:MS} {p:Nat} {nums:List Int} {rows:List (~~~94)} (S:Mi.Shaped p nums rows) (w:Mi.d9 p nums m.piles.length=true) (r:Mi.gu p rows m.sources.length=true):preOf p m (nums++rows.flatten):=by
 have wi:∀n lo hi:Int,(decide (lo<=n)&&decide (n<=hi))=Vbmiak.within n lo hi:=λ_ _ _=>rfl;have ip:∀p:Int,Vbmiak.within p 1 (m.piles.length:Int)=Mi.cC m p:=λ_=>rfl;obtain⟨lt,ln,lr,_⟩:=S;unfold Mi.d9 at w;unfold Mi.gu at r;have W:∀n lo hi:Int,Vbmiak.within n lo hi=true->lo<=n/\n<=hi:=λn lo hi h=>(Mi.fu _ _ _).mp h
 match p,lt with
 |0,_=>
  match nums,ln,rows,lr with
  | [a,b],_,[],_=>
   simp only[Mi.cx,aP,aR,az,aV,bu,bO,id,Mi.d6,bF,wi,bB,aC] at w;exact⟨by simp,(W _ _ _ w.1).1,Int.le_trans (~~~73) (W _ _ _ w.2).1⟩
 |1,_=>
  match nums,ln,rows,lr with
  | [a,b,c,d,e],_,[],_=>
   exists 6;refine⟨rfl,w.1,(W _ _ _ w.2.1).1,(W _ _ _ w.2.1).2,λx hx=>?_⟩;exists 74;rcases hx with z|z|z
   .rw[z];exact W _ _ _ w.2.2.1
   .rw[z];exact W _ _ _ w.2.2.2.1
   .rw[z];exact W _ _ _ w.2.2.2.2
 |2,_=>
  match nums,ln,rows,lr with
  | [a,b],_,[],_=>
   exists 6;exact⟨rfl,w.1,W _ _ _ w.2⟩
 |3,_=>
  match nums,ln,rows,lr with
  | [a,b,c],_,[],_=>
   exists 6;exact⟨rfl,w.1,w.2.1,W _ _ _ w.2.2⟩
 |4,_=>
  match nums,ln,rows,lr with
  | [a],_,[],_=>
   exists 6;exact⟨aM _,w⟩
 |5,_=>
  match nums,ln,rows,lr with
  | [a],_,[],_=>
   exists 6;exact⟨aM _,w⟩
 |6,_=>trivial
 |7,_=>
  match nums,ln,rows,lr with
  | [a,b,c,d,e],_,[],_=>
   exists 6;exact⟨rfl,(W _ _ _ w.2.1).1⟩
 |8,_=>
  match nums,ln,rows,lr with
  | [a,b],_,[],_=>
   exists 6;exact⟨aM _,w.1⟩
 |9,_=>trivial
 |10,_=>
  match nums,ln,rows,lr with
  | [a],_,[u],_=>
   exists 6;simp only[Mi.rowsOf,aP,aR,az,aV,bu,bO,id,Mi.Fc,bB,aC,decide_eq_true_iff] at r;refine⟨by simp[r.1],λx hx=>?_⟩;rcases aE.mp hx with z|z
   .rw[aN.mp z];exact(W _ _ _ w).1
   .rw[eR,List.flatten_nil,dU] at z;exact(Mi.Q2 r.2 x z).1
 |11,_=>trivial
 |12,_=>trivial
 |13,_=>
  match nums,ln,rows,lr with
  | [a],_,[],_=>
   exists 6;exact⟨aM _,W _ _ _ w⟩
 |14,_=>
  match nums,ln,rows,lr with
  | [],_,[u],_=>
   simp only[Mi.rowsOf,aP,aR,az,aV,bu,bO,id,Mi.Ke,bB] at r;show Mi.mF _ (u++[]);rw[dU];exact Mi.iz.mp r
 |15,_=>
  match nums,ln,rows,lr with
  | [],_,[u,v],_=>
   simp only[Mi.rowsOf,aP,aR,az,aV,bu,bO,id,Mi.Ke,Mi.Kf,bB,aC] at r;exact⟨u,v,by simp,Mi.iz.mp r.1,Mi.iz.mp r.2⟩
 |16,_=>
  match nums,ln,rows,lr with
  | [],_,[u],_=>
   simp only[Mi.rowsOf,aP,aR,az,aV,bu,bO,id,Mi.Kf,bB] at r;show Mi.mF _ (u++[]);rw[dU];exact Mi.iz.mp r
 |17,_=>trivial
 |p+18,lt=>omega
theorem T6 {k:Nat} {sp:Nat->Sp} (h:∀c,c<18->dR P w K mg base k (WN.getD c "") ["yard","numbers"] (sp c)):∃(wf:Nat->Addr) (KN:Nat->FuncData),∀c,c<18->tj P w K mg base M0 k (wf c) (KN c) ["yard","numbers"] (sp c)/\mg (WN.getD c "")=some (.ref (wf c))/\eG K (.ref (wf c))=true/\Binds K (KN c) ["yard","numbers"] []:=by
 have e:∀c,∃z:Addr×FuncData,c<18->tj P w K mg base M0 k z.1 z.2 ["yard","numbers"] (sp c)/\mg (WN.getD c "")=some (.ref z.1)/\eG K (.ref z.1)=true/\Binds K z.2 ["yard","numbers"] []:=λc=>by
  by_cases l:c<18
  .obtain⟨f,fd,q⟩:=(h c l).ex;exact⟨(f,fd),λ_=>q⟩
  .obtain⟨f,fd,q⟩:=(h 0 (~~~73)).ex;exact⟨(f,fd),λz=>absurd z l⟩
 exact⟨λc=>(qv (e c)).1,λc=>(qv (e c)).2,λc=>sY (e c)⟩
def Tq (K:af) (d:iF):Sp:=λvs H Q _=>∃O y m p u n rv rs,vs=[.ref y.ya,.int (p:Nat),u,rv]/\bI K d O H y m/\eA H u n/\fo eA H rv rs/\Ia m/\Mi.Shaped p n rs/\
 ∀H' y' a,bI K d O H' y' (Mi.eu m p n rs).1->y'.ya=y.ya->H' a=some (.lst ((Mi.eu m p n rs).2.map V.int))->Q (.ref a) H'
theorem G3:bh ["yard","call","numbers","rows","works","work"] ["yard","call","numbers","rows"] (ay (top 114)):=by walk_at "s"
theorem Gv (F:Def K mg "answer_to" (top 114) ["yard","call","numbers","rows"]) (T:Top K mg d) (hP:∀c,c<18->dR P w K mg base 49 (WN.getD c "") ["yard","numbers"] (qt K d (preOf c) λm n=>Mi.B' m c n))
  (r_: ~~~51) (qm: ~~~47) (ck: ~~~23): ~~~60:=by
 exists G3,0
 .obtain⟨O,y,m,p,u,n,rv,rs,rfl,_⟩:=h;rfl
 obtain⟨O,y,m,p,u,n,rv,rs,rfl,Y,hu,hv,B,S,q⟩:=h;obtain⟨wf,KN,hW⟩:=T6 hP;have Ir:oV mg "call_pile" (wf 0):=(hW 0 (~~~73)).2.1;have Lj:oV mg "call_put" (wf 1):=(hW 1 (~~~73)).2.1;have Iv:oV mg "call_take" (wf 2):=(hW 2 (~~~73)).2.1;have Iq:oV mg "call_move" (wf 3):=(hW 3 (~~~73)).2.1;have Iw:oV mg "call_told" (wf 4):=(hW 4 (~~~73)).2.1;have Io:oV mg "call_lots" (wf 5):=(hW 5 (~~~73)).2.1;have Iu:oV mg "call_sums" (wf 6):=(hW 6 (~~~73)).2.1;have Ds:oV mg "call_source" (wf 7):=(hW 7 (~~~73)).2.1;have FP:oV mg "call_offer" (wf 8):=(hW 8 (~~~73)).2.1;have FN:oV mg "call_clear" (wf 9):=(hW 9 (~~~73)).2.1;have Iy:oV mg "call_want" (wf 10):=(hW 10 (~~~73)).2.1;have FK:oV mg "call_blend" (wf 11):=(hW 11 (~~~73)).2.1;have Ip:oV mg "call_most" (wf 12):=(hW 12 (~~~73)).2.1;have FR:oV mg "call_range" (wf 13):=(hW 13 (~~~73)).2.1;have FL:oV mg "call_check" (wf 14):=(hW 14 (~~~73)).2.1;have FQ:oV mg "call_proof" (wf 15):=(hW 15 (~~~73)).2.1;have FO:oV mg "call_never" (wf 16):=(hW 16 (~~~73)).2.1;have BC:oV mg "call_sources" (wf 17):=(hW 17 (~~~73)).2.1;refine⟨_,(ao (gN (yS (mn (a9 r_ (~~~61) rfl (ae (pv 1) (ae (pv 2) (ae (~~~83) aj)))))) (~~~251) d5)
   (ao (gN (yS (mn (a9 qm (~~~61) rfl (ae (pv 1) (ae (pv 3) (ae (~~~83) aj)))))) (~~~251) d5)
   (ao (b9 4 nd (jU (ae (ic Ir rfl) (ae (ic Lj rfl) (ae (ic Iv rfl) (ae (ic Iq rfl) (ae (ic Iw rfl) (ae (ic Io rfl) (ae (ic Iu rfl) (ae (ic Ds rfl) (ae (ic FP rfl) (ae (ic FN rfl) (ae (ic Iy rfl) (ae (ic FK rfl) (ae (ic Ip rfl) (ae (ic FR rfl) (ae (ic FL rfl) (ae (ic FQ rfl) (ae (ic FO rfl) (ae (ic BC rfl) aj))))))))))))))))))))
   (ao (b9 5 nd (cD (rg K) (pv 4) (pv 1) (~~~74)))
   (aD (bw (SG hr NF (i:=5) rfl (Or.inl rfl) (ae (pv 0) (ae (b_ dY (pv 2) (a9 ck (~~~61) rfl (ae (pv 3) aj))) aj))))))))),?_⟩
 have q:∀H' y' a,bI K d O H' y' (Mi.eu m p n rs).1->y'.ya=y.ya->H' a=some (.lst ((Mi.eu m p n rs).2.map V.int))->Q (.ref a) H':=q;unfold Mi.eu at q;have lt:=S.lt;have nl:n.length<=5:=by
  have b5:∀p,p<18->(Mi.cx p).length <=5:=by decide
  rw[S.RI];exact b5 p lt
 have rl:rs.length<=2:=by
  have b5:∀p,p<18->(Mi.rowsOf p).length <=2:=by decide
  rw[S.RK];exact b5 p lt
 have fl:rs.flatten.length<=80:=by
  have:∀l:List (~~~94),(∀r,r∈l->r.length<=40)->l.flatten.length<=40*l.length:=λl=>by
   induction l with
   |nil=>intro _;simp
   |cons a l ih=>
    intro h;have:=ih λr hr=>h r (aA _ hr);have:=h a (aH ..);rw[eR,au,aL];omega
  have:=this rs S.len;omega
 have ns:m.sources.length<=6:=by obtain⟨t,D,h,_⟩:=B;exact h.ib
 exists 23;exists u7 T Y ?_;exists gC Y.zO ?_;rw[ag,Y.n1];exists ⟨p,_,n,_,rfl,lt,hu,by omega,λH1 s1=>?_⟩;exists 0;cases c1:Mi.d9 p n m.piles.length with
 |false=>
  rw[if_pos c1] at q;exists 103;exists 18
 |true=>
  exists 115;exists 0;have Y1:=Y.up s1;refine dJ T Y1 ?_;exists 0;obtain⟨x3,RM,RN⟩:=Y1.src;refine gC RM ?_;rw[aZ RN];exists ⟨p,rv,rs,_,rfl,lt,(cS (cS df)).up hv s1,λr hr=>by have:=S.len r hr;omega,rl,ns,λH2 s2=>?_⟩;exists 0;have KH:=s1.trans s2;cases c2:Mi.gu p rs m.sources.length with
  |false=>
   rw[if_pos c2] at q;exists 103;exists bY (by show 1<=sizeLine;decide) λH3 p3 s3 n3 h3=>q H3 y p3 (Y.up (KH.trans s3)) rfl h3
  |true=>
   exists 114;exists jR (K:=K) (by show 18<=sizeLine;decide) λH3 p3 s3 n3 h3=>?_;exists 0;have Ax:=KH.trans s3;have at1:QC [V.ref (wf 0),V.ref (wf 1),V.ref (wf 2),V.ref (wf 3),V.ref (wf 4),V.ref (wf 5),V.ref (wf 6),V.ref (wf 7),V.ref (wf 8),V.ref (wf 9),V.ref (wf 10),V.ref (wf 11),V.ref (wf 12),V.ref (wf 13),V.ref (wf 14),V.ref (wf 15),V.ref (wf 16),V.ref (wf 17)] (p:Int)=some (V.ref (wf p)):=by
    refine w_ ?_;show((ax 18).map λc=>V.ref (wf c))[p]?=_;rw[bo,dQ lt];rfl
   refine⟨p3,_,p,_,rfl,rfl,h3,at1,?_⟩;exists 0;obtain⟨hF,_,hk,hb⟩:=hW p lt;refine⟨wf p,KN p,_,_,rfl,hF,hk,hb,?_⟩;exists ⟨rv,rs,rfl,VY (let⟨a,vs,e,h,pp⟩:=(cS (cS df)).up hv Ax;⟨a,vs,e,h,pw (λ_ _ z=>PB z) pp⟩),by omega,λH4 p4 s4 n4 h4=>?_⟩;have KI:=Ax.trans s4;refine fA (KI _ _ us) h4 (by rw[ag,ag,sizeLine_eq];omega) λH5 p5 s5 n5 h5=>?_;exists ⟨O,y,m,_,n++rs.flatten,rfl,Y.up (KI.trans s5),fZ (by rw[h5,bj]),B,ready S c1 c2,λH6 y6 p6 Y6 e6 h6=>q H6 y6 p6 Y6 e6 h6⟩
def Kw (l:List Int):Prop:=l.length<=1000/\∃x r,l=x::r/\x<=0
theorem nF (l:List bV):(Mi.metalOf l).length <=3:=by
 have:∀(l:List bV) (a:List Rat),(l.foldl (λm x=>Mi.fM m (Mi.jF x)) a).length <=a.length:=λl=>by
  induction l with
  |nil=>intro a;exact aM _
  |cons x l ih=>
   intro a;refine bA (ih _) ?_;unfold Mi.fM;rw[ag,bC];omega
 exact this l [0,0,0]
theorem uN (l:List bV):(Mi.t9 (Mi.metalOf l)).length <=6:=by rw[dG];have:=nF l;omega
theorem Q8 {w:Vbmiak.Want} {l:List RS} {c:List Int} {x:List Rat} (h:Mi.fz w l c=some x):x.length<=l.length:=by
 unfold Mi.fz at h;obtain⟨a,_,e⟩:=lY.mp h;rw[<-e,ag,bC];omega
theorem XM {t D:Nat} {m:MS} (h:Mi.Ok t D m) {p:Nat} (lt:p<18) (nums:List Int) (rows:List (~~~94)):Kw (Mi.eu m p nums rows).2:=by
 have l1:∀x:Int,x<=0->Kw [x]:=λx hx=>⟨by show 1<=1000;decide,x,[],rfl,hx⟩;have l2:∀x:Int,Kw [0,x]:=λx=>⟨by show 2<=1000;decide,0,[x],rfl,by decide⟩;have pl:∀p,(Mi.aG m p).lots.length <=30/\∀x,x∈(Mi.aG m p).lots ->x.grades.length=3:=λp=>by
  unfold Mi.aG;by_cases c:p.toNat-1<m.piles.length
  .rw[Mi.getD_in Mi.VT c];have:=h.pile _ (bM c);exact⟨this.len,λx hx=>(this.lots x hx).ok.len⟩
  .rw[ai,cq (~~~62)];exact⟨by decide,λx hx=>(bJ hx).elim⟩
 have src:∀s,Kw (Mi.iy m s).2:=λs=>by
  unfold Mi.iy;split
  .exists 66
  .exact l2 _
 unfold Mi.eu;split
 .exists 66
 split
 .exists 66
 generalize nums++rows.flatten=n
 match p,lt with
 |0,_=>
  show Kw (Mi.uj m _ _).2;unfold Mi.uj;split
  .exists 66
  .exact l2 _
 |1,_=>
  show Kw (Mi.B9 m _ _ _).2;unfold Mi.B9;split
  .exists 66
  split
  .exists 66
  .exact l2 _
 |2,_=>
  show Kw (Mi.uk m _ _).2;unfold Mi.uk;split
  .exists 66
  .exists 31;have a:=uN (Mi.cut (~~~91).lots (~~~89).toNat).1;have b:=(Nb (~~~91).lots (~~~89).toNat).1;have c:=(pl (~~~66)).1;simp only[au,aL,du,ag];omega
 |3,_=>
  show Kw (Mi.ui m _ _ _).2;unfold Mi.ui;split
  .exists 66
  split
  .exists 66
  split
  .exists 66
  split
  .exists 66
  .exists 31;have a:=uN (Mi.cut (~~~91).lots (n.getD 2 0).toNat).1;exists 121
 |4,_=>
  show Kw (Mi.B_ m (~~~66));unfold Mi.B_;exists 31;have a:=uN (~~~91).lots;exists 121
 |5,_=>
  show Kw (Mi.EM m (~~~66));unfold Mi.EM;exists 31;obtain⟨a,b⟩:=pl (~~~66);have c:=lL (f:=Mi.vO) (k:=7) (l:=(~~~91).lots) λx hx=>by
   show(Mi.t9 x.grades).length +1<=7;rw[dG,b x hx];decide
  exists 121
 |6,_=>
  show Kw (Mi.zL m);unfold Mi.zL;exists 31;have a:=uN (Mi.lZ m);have b:=h.put.len;have c:=h.taken.len;rw[dG] at a;simp only[au,aL,du,dG,b,c];omega
 |7,_=>exact src _
 |8,_=>
  show Kw (Mi.pf m _ _).2;unfold Mi.pf;split
  .exists 66
  .exact src _
 |9,_=>exact l1 _ (~~~73)
 |10,_=>exact l1 _ (~~~73)
 |11,_=>
  show Kw (Mi.uh m);unfold Mi.uh;split
  .exact l2 _
  .rename_i x e;exists 31;have:=Q8 e;have:=h.ib;simp only[au,aL,du,dG];omega
 |12,_=>exact⟨by show 3<=1000;decide,_,_,rfl,by decide⟩
 |13,_=>
  show Kw (Mi.vP m _);unfold Mi.vP;split
  .exists 31;simp only[au,aL,du,dG];decide
  .exact l2 _
 |14,_=>
  show Kw (Mi.yE m n);unfold Mi.yE;exists 31;simp only[au,aL,du,dG];decide
 |15,_=>exact l2 _
 |16,_=>exact l2 _
 |17,_=>
  show Kw (Mi.qS m);unfold Mi.qS;exists 31;have a:=h.ib;have b:=lL (f:=Mi.uA) (k:=8) (l:=m.sources) λx hx=>by
   show(Mi.t9 x.grades).length +2<=8;rw[dG,(h.src x hx).len];decide
  have c:=lL (f:=λp:Nat×Nat=>[((p.1:Nat):Int),((p.2:Nat):Int)]) (k:=2) (l:=m.want.least.zip m.want.most) λx hx=>aM _;have e:=h.fit.least;rw[bC,e] at c;exists 121
 |p+18,lt=>omega
theorem PF {l:List Int}:∀{k i:Nat} {rows:List (~~~94)} {t:List Int},Mi.Rows k (l.drop i) rows t->i<=l.length->
  FF l i k/\jI l i k=rows/\t=l.drop (cz l i k)/\cz l i k=i+(rows.map λx=>1+x.length).sum /\cz l i k<=l.length:=by
 intro k
 induction k with
 |zero=>
  intro i rows t h hi;cases h;exact⟨trivial,rfl,rfl,by simp[cz],hi⟩
 |succ k ih=>
  intro i rows t h hi;generalize hr:l.drop i=r at h;cases h with
  | @cons _ x t' xs u h=>
   have il:i<l.length:=by
    apply aK;intro z;rw[rq (~~~62)] at hr;cases hr
   rw[fX il] at hr;injection hr with h1 h2;have hg:l.getD i 0=(x.length:Int):=by rw[ai,ah il,h1];rfl
   have ht:(l.getD i 0).toNat =x.length:=by rw[hg];simp
   have h3:l.drop (i+1+x.length)=t':=by rw[<-Be,h2,tL]
   have hlen:l.length- (i+1)=x.length+t'.length:=by rw[<-dg,h2,au]
   obtain⟨a1,a2,a3,a4,a5⟩:=ih (i:=i+1+x.length) (rows:=xs) (t:=t) (by rw[h3];exact h) (~~~62);have hx:(l.drop (i+1)).take x.length=x:=by rw[h2,tM]
   refine⟨⟨il,by rw[hg];omega,by rw[ht];omega,by rw[ht];exact a1⟩,?_,?_,?_,?_⟩
   .show(l.drop (i+1)).take (l.getD i 0).toNat ::jI l (~~~169) k=_;rw[ht,hx,a2]
   .show t=l.drop (cz l (~~~169) k);rw[ht];exact a3
   .show cz l (~~~169) k=_;rw[ht,a4,az,qf];omega
   .show cz l (~~~169) k<=_;rw[ht];exact a5
theorem sum_rows (rs:List (~~~94)):(rs.map λx=>1+(x.length:Int)).sum =(((rs.map λx=>1+x.length).sum :Nat):Int):=by
 induction rs with
 |nil=>rfl
 |cons x l ih=>rw[az,qf,az,qf,ih];omega
theorem bI.but {H H':Hp} {y:YA} {m:MS} (Y:bI K d O H y m) {x:Addr} {o:HO} (nx:x∉y.own) (hx:H x=some o) (np:plain d o=false) (ox:O x=none) (k:Af x H H'):bI K d O H' y m:=by
 have pk:PK d H H':=pA hx np k;have ne:∀b,b∈y.own->b≠x:=λb hb e=>nx (e▸hb);have i0:∀{b:Addr} {o:HO},b∈y.own->H b=some o->H' b=some o:=λhb e=>k _ _ e (ne _ hb);refine⟨λb o e=>k b o (Y.same b o e) (λq=>by subst q;rw[ox] at e;cases e),Y.off,Y.ps,Y.lp,Y.nd,Y.n1,Y.n2,?_,i0 (by unfold YA.own;simp) Y.zO,λj q hq=>?_,?_,i0 (by unfold YA.own;simp) Y.lst,i0 (by unfold YA.own;simp) Y.Gn⟩
 .exists 98;exact⟨dy,pm,tm,i0 (by unfold YA.own;simp) h,(j8 nL).up p1 pk,(j8 nL).up p2 pk⟩
 .obtain⟨a,l,h1,h2,h3⟩:=Y.HI j q hq;exact⟨a,l,h1,h2,h3.up (λo e=>i0 (by unfold YA.own;simp[aw h1]) e) (λo e=>i0 (by unfold YA.own;simp[aw h2]) e) pk⟩
 .obtain⟨x3,h1,h2⟩:=Y.src;exact⟨x3,i0 (by unfold YA.own;simp) h1,gH y3 h2 pk⟩
def u0 (K:af):Sp:=λvs H Q _=>∃a l cs,vs=[.ref a]/\dz K H a (~~~208)/\Mi.Calls l cs/\cs.length<=120/\(∀c,c∈cs->VbmiakNeutral.asked1 c=true)/\
 ∀H' p,H' p=some (.lst ((PyFlat.told (Mi.jX Mi.firstM cs)).map V.int))->Q (.ref p) H'
structure Turn (K:af) (d:iF) (H0:Hp) (a an:Addr) (l:List Int) (cs:List (List (List Int))) (n:Nat) (σ:L2.St) (H:Hp) (y:YA) (pre post:List (List (List Int))) (pos:Nat):Prop where
 st:∃r4 r5 r6 r7 r8,σ=[some (.ref a),some (~~~268),some (.ref an),some (.int (pos:Nat)),r4,r5,r6,r7,r8]
 n:n=post.length
 cs:cs=pre++post
 rest:Mi.Calls (l.drop pos) post
 pos:pos<=l.length
 jh:bI K d H0 H y (Mi.qj Mi.firstM pre)
 off:an∉y.own
 acc:H an=some (.lst ((PyFlat.told (~~~273)).map V.int))
 len:(PyFlat.told (~~~273)).length <=1001*pre.length
 head:PyFlat.told (~~~273)=[]\/∃x r,PyFlat.told (~~~273)=x::r/\1<=x
theorem CM:bh ["calls","yard","answered","place","call","behind","rows","answer","row"] ["calls"] (ay (top 116)):=by walk_at "s"
theorem L1 {f:Addr} {fd:FuncData} (F:UO K "answers" "answers" (top 116) f fd) (T:Top K mg d) (Li:mE P w K mg base 41 "Yard" d.jh (Mt K d)) (lF: ~~~54) (nW: ~~~53)
  (yP: ~~~59) (ur: ~~~60):tj P w K mg base M0 52 f fd ["calls"] (u0 K):=by
 refine F.ok CM (λvs H Q E h=>?_) (λnu A outer s H vs Q E hr h=>?_)
 .obtain⟨a,l,cs,rfl,_⟩:=h;rfl
 obtain⟨a,l,cs,rfl,hl,CS,adD,ask,q⟩:=h;have nd:=CM.nd;refine⟨_,(ao (b9 1 nd (Zb Li (~~~61) rfl))
   (ao (b9 2 nd (bZ aj))
   (ao (b9 3 nd aF)
   (ao (CC PassesOwn.never (eC Cp (pv 3) (~~~123) (dX _))
   (ao (b9 4 nd (cD (o9 K) (pv 0) (pv 3) (~~~74)))
   (ao (b9 5 nd (b_ j6 (b_ j6 (pv 3) aF) (a9 lF (~~~61) rfl (~~~241))))
   (ao (b9 6 nd (a9 yP (~~~61) rfl (ae (pv 0) (ae (pv 5) (ae (a9 nW (~~~61) rfl (~~~241)) aj)))))
   (ao (b9 7 nd (a9 ur (~~~61) rfl (ae (pv 1) (ae (pv 4) (ae (jH (QM K) (pv 0) (fh (b_ j6 (pv 3) aF)) (fh (pv 5))) (ae (pv 6) aj))))))
   (ao (gT (nI bN dA dB ki (pv 2) (ae (cR (iH K) rfl T.len bP (ae (pv 7) aj)) aj)))
   (ao (gT (nI bN dN dO (pW K) (pv 2) (ae (pv 7) aj)))
   (aD (b9 3 nd (b_ j6 (pv 5) (cR (WJ K) rfl T.sum (~~~63) (ae (iN rfl nd (v9 K (pv 6)) (cH (N:=["calls","yard","answered","place","call","behind","rows","answer","row"]) (sc:=ay (top 116)) (own:=[("row",8)]) (~~~63)) (~~~224) (~~~71) (λ_ _ _ _ _=>(b_ j6 aF (cR (iH K) rfl T.len bP (ae (pv 8) aj))))) aj))))))))))))
   (aD (bw (pv 2))))))),?_⟩
 exists OV λH1 y1 s1 Y1=>?_;exists bY (by show 0<=sizeLine;exact cj _) λH2 an s2 n2 h2=>?_;exists 0;have nH:H an=none:=s1.free n2;refine⟨λn σ H'=>∃y pre post pos,Turn K d H a an l cs n σ H' y pre post pos,⟨cs.length,y1,[],cs,0,⟨none,none,none,none,none,rfl⟩,rfl,rfl,by rw[lT];exact CS,cj _,Y1.up s2,Y1.fresh n2,h2,aM _,.inl rfl⟩,?_⟩;rintro n σ H3 ⟨y,pre,post,pos,Z⟩;obtain⟨r4,r5,r6,r7,r8,rfl⟩:=Z.st;have WY:dz K H3 a (~~~208):=Z.jh.same.seq hl;exists ⟨a,_,rfl,.inl WY,?_⟩;rw[ag];exists 38
 .have pl:pos<l.length:=by omega
  obtain⟨E1,De,R1,Om⟩:=Mi.J9 pre Mi.EF Mi.IQ (λc hc=>ask c (by rw[Z.cs];exact cP _ hc));have afq:0+pre.length<=120:=by have:=Z.cs;rw[this,au] at adD;omega
  have rest:=Z.rest;have hd:=fX pl;generalize hld:l.drop pos=ld at rest;cases rest with
  |nil=>rw[hld] at hd;cases hd
  | @cons _ t p nums rest rows Ku e lt hn hr2 hcs=>
   rw[hld,e] at hd;injection hd with e1 e2;have hg:l.getD pos 0=(p:Int):=by rw[ai,ah pl,e1];rfl
   have hlen:l.length- (pos+1)=nums.length+rest.length:=by rw[<-dg,<-e2,au]
   have h3:l.drop (pos+1+nums.length)=rest:=by rw[<-Be,<-e2,tL]
   have RI:(l.drop (pos+1)).take nums.length=nums:=by rw[<-e2,tM]
   rw[<-h3] at hr2;obtain⟨w1,w2,w3,w4,w5⟩:=PF hr2 (~~~62);have hc:=ask ((~~~253)::rows) (by rw[Z.cs];exact cf _ (aH ..));obtain⟨p',agE,agQ,ec,SH,em,_⟩:=Mi.yY R1 Om.fit hc;injection ec with ec1 ec2;injection ec1 with ec3 ec4;have ep:p=p':=by omega
   rw[<-ep,<-ec2,<-ec4] at SH em;obtain⟨an1,x1,r1,an2,an3⟩:=XM Om lt nums rows;have eT:PyFlat.told (Mi.jX Mi.firstM (pre++[(~~~253)::rows]))=PyFlat.told (~~~273)++([((~~~219).2.length :Int)]++(~~~219).2):=by
    rw[Mi.vw,Mi.Kg];congr 1;show PyFlat.told [(Mi.ow (Mi.qj Mi.firstM pre) ((~~~253)::rows)).2]=_;rw[em];unfold PyFlat.told;rw[fH,qy,dU];rfl
   have eS:Mi.qj Mi.firstM (pre++[(~~~253)::rows])=(~~~219).1:=by
    rw[<-em];unfold Mi.qj;rw[dZ];rfl
   have r2:rows.length<=2:=by
    have b5:∀p,p<18->(Mi.rowsOf p).length <=2:=by decide
    rw[SH.RK];exact b5 p lt
   have k2:(Mi.rowsOf p).length <=2:=by rw[<-SH.RK];exact r2
   refine⟨fun σ' H'=>∃y' ae_ abZ pos',Turn K d H a an l cs Ku.length σ' H' y' ae_ abZ pos',fun σ' H' h=>⟨Ku.length,by rw[Z.n];simp,h⟩,?_⟩;exists WQ WY (fF pl) ?_;rw[hg];exists ⟨p,rfl,lt,λH4 s4=>?_⟩;exists ⟨p,rfl,lt,λH5 s5=>?_⟩;exists 0;have VU:=s4.trans s5;have Y5:=Z.jh.up VU;have an5:=VU _ _ Z.acc;refine⟨a,l,pos+1+nums.length,(Mi.rowsOf p).length,by rw[hn,show(((pos+1+(Mi.cx p).length :Nat)):Int)=(pos:Int)+1+((Mi.cx p).length :Nat) by omega];rfl,VU.seq WY,w1,k2,λH6 ca vs s6 n6 h6 p6=>?_⟩;rw[w2] at p6;exists 105;exists 105;refine WR ((VU.trans s6).seq WY) λH7 u s7 n7 h7=>?_;have e7:oF (~~~208) (some ((pos:Int)+1)) (some ((pos:Int)+1+((Mi.cx p).length :Nat)))=nums.map V.int:=by
    have e3:=oZ (~~~208) (pos+1) (pos+1+nums.length) (by rw[ag];omega) (~~~62);rw[qB,<-gW,<-jK,RI] at e3;rw[<-e3,hn];rfl
   rw[e7] at h7;exists 0;have s37:=VU.trans (s6.trans s7);have Y7:=Z.jh.up s37;have an7:=s37 _ _ Z.acc;refine⟨qk y H7,y,_,p,.ref u,nums,.ref ca,rows,rfl,Y7.hold,fZ h7,⟨ca,vs,rfl,s7 _ _ h6,qO (aU og p6 s7)⟩,⟨_,E1,Om,afq⟩,SH,λH8 y8 a8 Y8 ey h8=>?_⟩;exists 0;have Ks:=Y8.same _ _ (held an7 Z.off);have YU:an∉y8.own:=λhb=>by have:=Y8.off an hb;rw[held an7 Z.off] at this;cases this
   have al:pre.length<=120:=by omega
   have acl:=Z.len;refine⟨.inl ⟨rfl,_,dz.of Ks⟩,?_⟩;exists gC h8 ?_;rw[ag];exists xq Ks (by rw[ag,sizeLine_eq];omega) λH9 h9 k9=>?_;exists ⟨.inl ⟨rfl,_,dz.of h9⟩,?_⟩;exists 0;have nea:a8≠an:=λe=>by
    rw[e,Ks] at h8;injection(bG.inj h8) with h8;have inj:∀a b:List Int,a.map V.int=b.map V.int->a=b:=λa=>by
     induction a with
     |nil=>intro b h;cases b with|nil=>rfl|cons _ _=>cases h
     |cons x a ih=>
      intro b h;cases b with
      |nil=>cases h
      |cons y b=>
       injection h with h1 h2;injection h1 with h1;rw[h1,ih b h2]
    have h8:=inj _ _ h8;rw[an2] at h8;rcases Z.head with z|⟨x,r,z,x1⟩
    .rw[z] at h8;cases h8
    .rw[z] at h8;injection h8 with h8;omega
   refine zA (K:=K) (tp:=false) h9 (k9 _ _ h8 nea) (by rw[au,ag,ag,sizeLine_eq];simp only[aL,du];omega) λHD zC R3=>?_;exists 0;have kp:∀(e:Addr) (o:HO),H5 e=none->H7 e=some o->HD e=some o:=λe o h5 h7=>by
    have ne:e≠an:=λq=>by rw[q,an5] at h5;cases h5
    exact R3 _ _ (k9 _ _ (Y8.same _ _ (held h7 (Y5.fresh h5))) ne) ne
   have aaM:=kp _ _ n6 (s7 _ _ h6);have ae8:Paired (eA HD) vs rows:=pw (λv r ⟨e,a,b,c,h⟩=>by rw[a];exact fZ (kp _ _ c h)) (aU og p6 s7);refine⟨ca,rfl,⟨_,dz.of aaM⟩,λD hD=>fj (dS (cS df) (dz.of aaM) ae8) (S:=rK) (f:=λx=>1+(x.length:Int)) df hD (~~~62) (~~~234) (λK4 ys GY RE pr=>?_)⟩
   .exists 106;obtain⟨ra,rfl,rs⟩:=dH r;refine gC rs ?_;rw[ag];exists k _ H' (~~~218) λ_ _=>rfl
   .exists 0;rw[iX pr] at RE;refine⟨D,_,rfl,dz.of RE,?_⟩;exists ⟨y8,pre++[(~~~253)::rows],Ku,cz l (pos+1+nums.length) (Mi.rowsOf p).length,?_,rfl,by rw[Z.cs,cV];rfl,by rw[<-w3];exact hcs,w5,?_,YU,?_,?_,?_⟩
    .rw[sum_rows,w4,ey,hn,show(((pos+1+(Mi.cx p).length +(rows.map λx=>1+x.length).sum :Nat)):Int)=(pos:Int)+1+((Mi.cx p).length :Nat)+(((rows.map λx=>1+x.length).sum :Nat):Int) by omega];exact⟨_,_,_,_,_,rfl⟩
    .rw[eS];exact(((Y7.back Y8).but YU Ks rfl nH k9).but YU h9 rfl nH R3).up GY
    .rw[eT,GY _ _ zC];simp only[bj,cV,az,aV]
    .rw[eT];exists 121
    .right;rw[eT];rcases Z.head with z|⟨x,r,z,x1⟩
     .refine⟨_,_,by rw[z];rfl,?_⟩;rw[an2,aL];omega
     .exact⟨x,_,by rw[z];rfl,x1⟩
 .have e:l.drop pos=[]:=rq (~~~62);have rest:=Z.rest;rw[e] at rest;have ac:=Z.acc;have ecs:=Z.cs;cases rest with
  |nil=>
   rw[dU] at ecs;rw[<-ecs] at ac;exists q H3 an ac
  |cons e=>cases e
end
structure All (K:af) (mg:Str->Option Value) (d:iF):Prop where
 BG:Def K mg "common_divisor" (top 2) ["one","other"]
 YL:Def K mg "lowest" (top 3) ["above","below"]
 plus:Def K mg "plus" (top 4) ["one","other"]
 minus:Def K mg "minus" (top 5) ["one","other"]
 times:Def K mg "times" (top 7) ["fraction","number"]
 product:Def K mg "product" (top 8) ["one","other"]
 over:Def K mg "over" (top 9) ["fraction","number"]
 less:Def K mg "less" (top 10) ["one","other"]
 Lot:lz K mg "Lot" d.HH "Lot.__init__" (inClass (top 15) 0) ["self","kilograms","grades"]
 Sb:Def K mg "lot_with" (top 16) ["kilograms","metal"]
 Sg:Def K mg "metal_in" (top 17) ["lot"]
 T4:Def K mg "together" (top 18) ["metal","more"]
 Qs:Def K mg "weight_of" (top 19) ["lots"]
 Si:Def K mg "metal_of" (top 20) ["lots"]
 mixed:Def K mg "mixed" (top 21) ["lots"]
 cut:Def K mg "cut" (top 22) ["lots","kilograms"]
 alone:Def K mg "alone" (top 36) ["count","place","number"]
 IS:Def K mg "first_table" (top 37) ["costs","conditions"]
 F6:Def K mg "first_broken" (top 38) ["table"]
 LJ:Def K mg "is_cheaper" (top 39) ["cost_rows","broken","one","other"]
 Aj:Def K mg "cheapest_column" (top 40) ["cost_rows","broken"]
 turned:Def K mg "turned" (top 41) ["row","broken","column","divisor"]
 f9:Def K mg "cheapest" (top 42) ["costs","conditions"]
 total:Def K mg "total" (top 6) ["fractions"]
 RX:Def K mg "in_a_row" (top 11) ["parts"]
 Ge:Def K mg "in_fractions" (top 12) ["row"]
 U2:Def K mg "cost_of" (top 31) ["sources","amounts"]
 Gm:Def K mg "metal_in_all" (top 32) ["sources","amounts","kind"]
 LC:Def K mg "first_true" (top 33) ["answers"]
 Source:lz K mg "Source" d.source "Source.__init__" (inClass (top 27) 0) ["self","cost","kilograms","grades"]
 Parcel:lz K mg "Parcel" d.lH "Parcel.__init__" (inClass (top 44) 0) ["self","kilograms","metal"]
 Pile:lz K mg "Pile" d.pile "Pile.__init__" (inClass (top 77) 0) ["self","sort_number","most"]
 VN:Def K mg "pile_at" (top 29) ["yard","number"]
 Prices:lz K mg "Prices" d.ju "Prices.__init__" (inClass (top 94) 0) ["self","fractions"]
 IM:Def K mg "first_fault" (top 34) ["yard","amounts"]
 Q3:Def K mg "are_fair" (top 95) ["prices"]
 Dc:Def K mg "worth_of_metal" (top 96) ["yard","prices","source"]
 AF:Def K mg "worth_of_source" (top 97) ["yard","prices","place"]
 Ht:Def K mg "worth_of_all" (top 98) ["yard","prices"]
 vU:Def K mg "none_is_worth_more" (top 99) ["yard","prices","costs"]
 Ll:Def K mg "call_check" (top 101) ["yard","numbers"]
 Aw:Def K mg "proves_cheapest" (top 102) ["yard","amounts","prices"]
 pL:Def K mg "proves_that_there_is_none" (top 103) ["yard","prices"]
 Lo:Def K mg "call_never" (top 105) ["yard","numbers"]
 Lq:Def K mg "call_proof" (top 104) ["yard","numbers"]
 Pz:Def K mg "parcel_of" (top 45) ["source"]
 Ma:Def K mg "parcels_of" (top 46) ["sources"]
 Dy:Def K mg "just_together" (top 47) ["parcels","amount"]
 tu:Def K mg "no_more_than_there_is" (top 49) ["sources","parcels"]
 ue:Def K mg "leasts_and_mosts_met" (top 48) ["parcels","leasts","mosts"]
 Le:Def K mg "best_blend" (top 50) ["yard","parcels","costs"]
 BE:Def K mg "cheapest_blend" (top 51) ["yard"]
 DR:Def K mg "poorest_blend" (top 52) ["yard","kind"]
 DT:Def K mg "richest_blend" (top 53) ["yard","kind"]
 Lk:Def K mg "call_blend" (top 56) ["yard","numbers"]
 Lr:Def K mg "call_range" (top 58) ["yard","numbers"]
 Am:Def K mg "greatest_amount" (top 54) ["yard"]
 OG:Def K mg "call_most" (top 57) ["yard","numbers"]
 yA:Def K mg "how_many_numbers" (top 65) ["call"]
 Dx:Def K mg "how_many_rows" (top 66) ["call"]
 within:Def K mg "within" (top 67) ["number","bound","pile_count"]
 Lb:Def K mg "all_within" (top 68) ["call","numbers","pile_count"]
 Ie:Def K mg "all_between" (top 69) ["numbers","first","last"]
 Dr:Def K mg "are_fractions" (top 70) ["row","count"]
 LI:Def K mg "is_as_told" (top 71) ["row","name","source_count"]
 Ic:Def K mg "all_as_told" (top 72) ["call","rows","source_count"]
 wC:Def K mg "would_be_too_heavy" (top 79) ["pile","kilograms"]
 xW:Def K mg "would_be_too_many" (top 80) ["pile","coming"]
 OM:Def K mg "call_told" (top 90) ["yard","numbers"]
 OE:Def K mg "call_lots" (top 91) ["yard","numbers"]
 Zi:Def K mg "put_on" (top 78) ["pile","lot"]
 OI:Def K mg "call_pile" (top 86) ["yard","numbers"]
 La:Def K mg "add_source" (top 107) ["yard","source"]
 Iz:Def K mg "call_source" (top 108) ["yard","numbers"]
 Lp:Def K mg "call_offer" (top 109) ["yard","numbers"]
 Lm:Def K mg "call_clear" (top 110) ["yard","numbers"]
 ON:Def K mg "call_want" (top 111) ["yard","numbers"]
 Rb:Def K mg "call_put" (top 87) ["yard","numbers"]
 OL:Def K mg "call_take" (top 88) ["yard","numbers"]
 OJ:Def K mg "call_sums" (top 92) ["yard","numbers"]
 FU:Def K mg "call_sources" (top 112) ["yard","numbers"]
 Yard:lz K mg "Yard" d.jh "Yard.__init__" (inClass (top 28) 0) ["self"]
 VR:Def K mg "rows_at" (top 115) ["calls","place","count"]
 OH:Def K mg "call_move" (top 89) ["yard","numbers"]
 Oz:Def K mg "answer_to" (top 114) ["yard","call","numbers","rows"]
theorem fin {P:Program} {w:World} {K:af} {mg:Str->Option Value} {base:Heap} {d:iF} (A:All K mg d) (T:Top K mg d) (TT:Oy K d) (ht:P.given.tree=none) {f:Addr} {fd:FuncData} (hf:UO K "answers" "answers" (top 116) f fd):tj P w K mg base M0 52 f fd ["calls"] (u0 K):=by
 have cO:=xD (P:=P) (w:=w) (base:=base) A.BG T.toOwn;have jG:=Pt (P:=P) (w:=w) (base:=base) A.YL ht cO;have kH:=VC (P:=P) (w:=w) (base:=base) A.plus ht cO;have ng:=Sv (P:=P) (w:=w) (base:=base) A.minus kH;have fE:=Sx (P:=P) (w:=w) (base:=base) A.times ht cO;have mU:=L7 (P:=P) (w:=w) (base:=base) A.product jG;have L':=VB (P:=P) (w:=w) (base:=base) A.over ht cO;have lG:=VA (P:=P) (w:=w) (base:=base) A.less;have BA:=YV (P:=P) (w:=w) (base:=base) A.Lot T;have mT:=Jt (P:=P) (w:=w) (base:=base) A.Sb T BA L';have v7:=Ju (P:=P) (w:=w) (base:=base) A.Sg T fE;have js:=Jw (P:=P) (w:=w) (base:=base) A.T4 T kH;have cX:=GH (P:=P) (w:=w) (base:=base) A.Qs T;have fq:=Jv (P:=P) (w:=w) (base:=base) A.Si T v7 js;have uX:=Sw (P:=P) (w:=w) (base:=base) A.mixed cX fq mT;have EY:=YW (P:=P) (w:=w) (base:=base) A.cut T BA;have oK:=Su (P:=P) (w:=w) (base:=base) A.alone;have qo:=Co (P:=P) (w:=w) (base:=base) A.IS T oK;have me:=Aq (P:=P) (w:=w) (base:=base) A.F6;have si:=DO (P:=P) (w:=w) (base:=base) A.LJ;have md:=vW (P:=P) (w:=w) (base:=base) A.Aj T si;have Cr:=Pw (P:=P) (w:=w) (base:=base) A.turned T ht;have mR:=Jr (P:=P) (w:=w) (base:=base) A.f9 T qo me md Cr jG;have kX:=Sy (P:=P) (w:=w) (base:=base) A.total T kH;have ck:=Js (P:=P) (w:=w) (base:=base) A.RX;have fL:=Ar (P:=P) (w:=w) (base:=base) A.Ge T jG;have km:=L4 (P:=P) (w:=w) (base:=base) A.U2 T kX fE;have je:=As (P:=P) (w:=w) (base:=base) A.Gm T kX mU;have sf:=DM (P:=P) (w:=w) (base:=base) A.LC T;have qJ:=Pr (P:=P) (w:=w) (base:=base) A.Source T;have BB:=Pp (P:=P) (w:=w) (base:=base) A.Parcel T;have Lh:=Vy (P:=P) (w:=w) (base:=base) A.Pile T;have eL:=L6 (P:=P) (w:=w) (base:=base) A.VN T;have qI:=Pq (P:=P) (w:=w) (base:=base) A.Prices T;have jM:=Cn (P:=P) (w:=w) (base:=base) A.IM T kX fE je lG sf;have mQ:=Jp (P:=P) (w:=w) (base:=base) A.Q3 T lG;have mV:=xE (P:=P) (w:=w) (base:=base) A.Dc T fE ng kH mU;have mm:=vZ (P:=P) (w:=w) (base:=base) A.AF T ng kH mV;have jg:=Au (P:=P) (w:=w) (base:=base) A.Ht T ng fE kX;have fC:=tw (P:=P) (w:=w) (base:=base) A.vU T lG mm;have GN:=DF (P:=P) (w:=w) (base:=base) A.Ll T fL jM ck km;have mj:=vY (P:=P) (w:=w) (base:=base) A.Aw T jM mQ fC jg km;have gS:=nV (P:=P) (w:=w) (base:=base) A.pL T mQ fC jg lG;have GP:=DH (P:=P) (w:=w) (base:=base) A.Lo T fL qI gS;have GR:=DJ (P:=P) (w:=w) (base:=base) A.Lq T fL qI mj;have uu:=GG (P:=P) (w:=w) (base:=base) A.Pz T ht fE cO BB;have fg:=DP (P:=P) (w:=w) (base:=base) A.Ma T uu;have iB:=yM (P:=P) (w:=w) (base:=base) A.Dy T;have jf:=ql (P:=P) (w:=w) (base:=base) A.tu T oK;have eK:=qU (P:=P) (w:=w) (base:=base) A.ue T;have gR:=DC (P:=P) (w:=w) (base:=base) A.Le T iB jf eK mR fE;have mS:=xC (P:=P) (w:=w) (base:=base) A.BE T fg gR;have nX:=yN (P:=P) (w:=w) (base:=base) A.DR T fg gR;have nY:=yO (P:=P) (w:=w) (base:=base) A.DT T ht fg gR;have GJ:=DE (P:=P) (w:=w) (base:=base) A.Lk T mS ck km;have GS:=DK (P:=P) (w:=w) (base:=base) A.Lr T nX nY ck je;have mh:=vX (P:=P) (w:=w) (base:=base) A.Am T fg iB eK oK mR;have JA:=Gx (P:=P) (w:=w) (base:=base) A.OG T mh ck;have lF:=vd (P:=P) (w:=w) (base:=base) A.yA T TT;have nW:=yL (P:=P) (w:=w) (base:=base) A.Dx T TT;have Ct:=Px (P:=P) (w:=w) (base:=base) A.within;have r_:=DB (P:=P) (w:=w) (base:=base) A.Lb T TT Ct;have iT:=Ck (P:=P) (w:=w) (base:=base) A.Ie T;have kW:=yK (P:=P) (w:=w) (base:=base) A.Dr T iT;have sg:=DN (P:=P) (w:=w) (base:=base) A.LI T iT kW;have qm:=Cj (P:=P) (w:=w) (base:=base) A.Ic T TT sg;have fD:=tD (P:=P) (w:=w) (base:=base) A.wC T cX;have fQ:=uo (P:=P) (w:=w) (base:=base) A.xW T;have JF:=GD (P:=P) (w:=w) (base:=base) A.OM T eL ck fq cX;have Jz:=Gw (P:=P) (w:=w) (base:=base) A.OE T eL ck;have qV:=Pu (P:=P) (w:=w) (base:=base) A.Zi T uX;have JC:=Gz (P:=P) (w:=w) (base:=base) A.OI T Lh;have kj:=DA (P:=P) (w:=w) (base:=base) A.La T;have DQ:=Cm (P:=P) (w:=w) (base:=base) A.Iz T jG qJ kj;have GQ:=DI (P:=P) (w:=w) (base:=base) A.Lp T eL uX qJ kj;have GO:=DG (P:=P) (w:=w) (base:=base) A.Lm T;have JG:=GF (P:=P) (w:=w) (base:=base) A.ON T;have L_:=Jq (P:=P) (w:=w) (base:=base) A.Rb T eL fD fQ qV mT js cX;have JE:=GC (P:=P) (w:=w) (base:=base) A.OL T eL cX EY fq js ck;have JD:=GA (P:=P) (w:=w) (base:=base) A.OJ T cX fq ck;have Cq:=Ao (P:=P) (w:=w) (base:=base) A.FU T ck;have Li:=Vz (P:=P) (w:=w) (base:=base) A.Yard T;have yP:=L8 (P:=P) (w:=w) (base:=base) A.VR T;have JB:=Gy (P:=P) (w:=w) (base:=base) A.OH T eL cX fD fQ EY qV fq ck;have hP:∀c,c<18->dR P w K mg base 49 (WN.getD c "") ["yard","numbers"] (qt K d (preOf c) λm n=>Mi.B' m c n):=λc hc=>match c,hc with
  |0,_=>(JC).mono (~~~73)
  |1,_=>(L_).mono (~~~73)
  |2,_=>(JE).mono (~~~73)
  |3,_=>(JB).mono (~~~73)
  |4,_=>(JF.imp λ_ _ _ _ h=>iQ h).mono (~~~73)
  |5,_=>(Jz.imp λ_ _ _ _ h=>iQ h).mono (~~~73)
  |6,_=>(JD.imp λ_ _ _ _ h=>iQ h).mono (~~~73)
  |7,_=>(DQ).mono (~~~73)
  |8,_=>(GQ).mono (~~~73)
  |9,_=>(GO).mono (~~~73)
  |10,_=>(JG).mono (~~~73)
  |11,_=>(GJ.imp λ_ _ _ _ h=>iQ h).mono (~~~73)
  |12,_=>(JA.imp λ_ _ _ _ h=>iQ h).mono (~~~73)
  |13,_=>(GS.imp λ_ _ _ _ h=>iQ h).mono (~~~73)
  |14,_=>(GN.imp λ_ _ _ _ h=>iQ h).mono (~~~73)
  |15,_=>(GR.imp λ_ _ _ _ h=>iQ h).mono (~~~73)
  |16,_=>(GP.imp λ_ _ _ _ h=>iQ h).mono (~~~73)
  |17,_=>(Cq.imp λ_ _ _ _ h=>iQ h).mono (~~~73)
  |_+18,h=>absurd h (~~~62)
 have ur:=Gv (P:=P) (w:=w) (base:=base) A.Oz T hP r_ qm ck;have Py:=L1 (P:=P) (w:=w) (base:=base) hf T Li lF nW yP ur;exact Py
section
variable {K:af} {h:Heap} {mg:Str->Option Value} {x q:Str} {st:Stmt} {ps:List Str} {C:Addr}
theorem X0 {f:Addr} {oc:Value} {od an:Option Addr} {KD:Array (Option Value)} {kV doc pm nu ct:Value} (X:K.In h) (G:h.Ns mainGlobals mg) (a:wR K mainGlobals x=some (some (.ref f)))
  (l:K.lookup f=some ⟨oc,od,.func (gn x x (oG st) (kS st) (ay st) .none kV doc pm an nu ct),KD⟩) (c:j2 K nu x=true) (k:eG K (.ref f)=true)
  (b:∀(kV doc pm:Value) (an:Option Addr) (nu ct:Value) (us:List Value),us.length=ps.length->bindArgs (gn x x (oG st) (kS st) (ay st) .none kV doc pm an nu ct) ⟨us,[]⟩=pure (ps.zip us)):Def K mg x st ps:=
 ⟨f,_,BV l c k,m8 X G a,(BV (st:=st) l c k).binds b⟩
theorem XT {f:Addr} {oc:Value} {od an:Option Addr} {KD:Array (Option Value)} {kV doc pm nu ct:Value} (X:K.In h) (G:h.Ns mainGlobals mg) (a:wR K mainGlobals x=some (some (.ref C))) (m:sJ K C=true) (kc:eG K (.ref C)=true)
  (fi:gB K (.ref C) "__init__"=some (some (.ref f))) (fn:Fw K (.ref f)=true) (l:K.lookup f=some ⟨oc,od,.func (gn "__init__" q (oG st) (kS st) (ay st) .none kV doc pm an nu ct),KD⟩) (c:j2 K nu q=true) (k:eG K (.ref f)=true)
  (b:∀(kV doc pm:Value) (an:Option Addr) (nu ct:Value) (us:List Value),us.length=ps.length->bindArgs (gn "__init__" q (oG st) (kS st) (ay st) .none kV doc pm an nu ct) ⟨us,[]⟩=pure (ps.zip us)):lz K mg x C q st ps:=
 ⟨f,_,⟨m,fi,fn,kc⟩,BV l c k,m8 X G a,(BV (st:=st) l c k).binds b⟩
theorem WK {a:Addr} {kz:List (Int×V)} {o:Obj} {es:Array DictEntry} {ep:Nat} (s:(a==sysModules)=false) (l:K.lookup a=some o) (x:o.ExactDict) (e:o.data=.dict es ep)
  (p:Paired (~~~80) kz es.toList) (n:(kz.map (·.1)).Nodup):Fz K a kz:=⟨s,o,es,ep,l,x,e,p,n⟩
theorem fO {α:Type} {R:Rep α} {H:Hp} {a:Addr} {xs:List V} {l:List α} (s:mK K H a xs/\Paired (R H) xs l):kI K R H (.ref a) l:=⟨a,xs,rfl,s.1,s.2⟩
theorem ZP {H:Hp} {a:Addr} {xs:List V} {o:Obj} {its:Array Value} {n:Nat} (l:K.lookup a=some o) (c:o.cls=.type "tuple") (d:o.data=.seq its n) (z:its.size<=sizeLine) (v:Vals xs its.toList):mK K H a xs:=.inr ⟨o,its,n,l,c,d,z,v⟩
theorem Vu:∀f,f∈([]:List Str)->nR K C f:=λ_ hf=>(bJ hf).elim
theorem Sq {f:Str} {fs:List Str} (a:gB K (.ref C) f=some none) (t:∀g,g∈fs->nR K C g):∀g,g∈f::fs->nR K C g:=λg hg=>by
 rcases aB.mp hg with z|z
 .rw[z];exact a
 .exact t g z
theorem WG {Q:Nat->Prop} (h0:Q 0) (h1:Q 1) (h2:Q 2) (h3:Q 3) (h4:Q 4) (h5:Q 5) (h6:Q 6) (h7:Q 7) (h8:Q 8) (h9:Q 9) (zC:Q 10) (IX:Q 11) (zD:Q 12) (RD:Q 13) (Us:Q 14) (QG:Q 15) (Yj:Q 16) (Yk:Q 17):∀p,p<18->Q p
 |0,_=>h0|1,_=>h1|2,_=>h2|3,_=>h3|4,_=>h4|5,_=>h5|6,_=>h6|7,_=>h7|8,_=>h8|9,_=>h9|10,_=>zC|11,_=>IX|12,_=>zD|13,_=>RD|14,_=>Us|15,_=>QG|16,_=>Yj|17,_=>Yk
 |_+18,h=>absurd h (~~~62)
theorem last {P:Program} {w:World} {fa f:Addr} {d:iF} {oc:Value} {od an:Option Addr} {KD:Array (Option Value)} {kV doc pm nu ct:Value} (X:K.In h) (G:h.Ns mainGlobals mg) (hm:mg "answers"=some (.ref fa)) (a:wR K mainGlobals "answers"=some (some (.ref f)))
  (l:K.lookup f=some ⟨oc,od,.func (gn "answers" "answers" (oG (top 116)) (kS (top 116)) (ay (top 116)) .none kV doc pm an nu ct),KD⟩) (c:j2 K nu "answers"=true) (k:eG K (.ref f)=true)
  (A:All K mg d) (T:Top K mg d) (TT:Oy K d) (ht:P.given.tree=none):
  ∃fd:FuncData,(∀(s:Shared) (us:List Value),us.length=(["calls"]:List Str).length ->BindsTo s fd ⟨us,[]⟩ ((["calls"]:List Str).zip us))/\∀base:Heap,K.In base->base.Ns mainGlobals mg->tj P w K mg base M0 60 fa fd ["calls"] (u0 K):=by
 have e:=hm.symm.trans (m8 X G a);cases e;exact⟨_,λs us hu=>match us,hu with| [_],_=>.of_eq rfl,λbase _ _=>(fin A T TT ht (BV l c k)).mono (~~~73)⟩
end
end Pb
set_option hygiene true
local macro_rules| `(tactic|walk_at "b")=> `(tactic|first
 |exact λ_ _ _ _ _ _ us hl=>match us,hl with| [_],_=>rfl
 |exact λ_ _ _ _ _ _ us hl=>match us,hl with| [_,_],_=>rfl
 |exact λ_ _ _ _ _ _ us hl=>match us,hl with| [_,_,_],_=>rfl
 |exact λ_ _ _ _ _ _ us hl=>match us,hl with| [_,_,_,_],_=>rfl)
local macro_rules| `(tactic|walk_at "d")=> `(tactic|(refine' Pb.X0 (by assumption) (by assumption) ?a ?l ?c ?k ?b;(case a=>k_is);(case l=>k_is);(case c=>k_is);(case k=>k_is);(case b=>walk_at "b")))
local macro_rules| `(tactic|walk_at "c")=> `(tactic|(refine' Pb.XT (by assumption) (by assumption) ?x ?y ?z ?f ?i ?l ?c ?k ?b;(case x=>k_is);(case y=>k_is);(case z=>k_is);(case f=>k_is);(case i=>k_is);(case l=>k_is);(case c=>k_is);(case k=>k_is);(case b=>walk_at "b")))
local macro_rules| `(tactic|walk_at "v")=> `(tactic|repeat (first|exact .nil |refine .cons (show L2.RelV (.ref _) _ from rfl) ?_ |refine .cons (show L2.RelV (.int _) _ from⟨_,rfl⟩) ?_ |refine .cons (show L2.RelV .jL _ from rfl) ?_ |refine .cons (show L2.RelV (.str _) _ from⟨_,rfl⟩) ?_))
local macro_rules| `(tactic|walk_at "t")=> `(tactic|(refine' Pb.ZP ?l ?x ?y ?z ?v;(case l=>k_is);(case x=>rfl);(case y=>rfl);(case z=>decide);(case v=>walk_at "v")))
local macro_rules| `(tactic|walk_at "u")=> `(tactic|(constructor;(walk_at "t");repeat (first|exact .nil |exact .cons ⟨rfl,by decide⟩ .nil |exact .cons ⟨rfl,by decide⟩ (.cons ⟨rfl,by decide⟩ .nil)|(refine .cons ⟨_,rfl,?s⟩ ?_;(case s=>walk_at "t")))))
open PySem PySem.W PyProof.Rows
set_option maxRecDepth 100000 in
set_option maxHeartbeats 0 in
theorem PySem.Challenge.cw_pilesblends_s01_answers_holds : PySem.Challenge.rw_pilesblends_s01_answers.Holds := by
 w_on;k_headS;(case hw=>exact⟨[.list [.int 6]],by decide+kernel,by decide+kernel⟩)
 k_fillS
 refine L2.MJ (r:=PySem.Challenge.rw_pilesblends_s01_answers) (k:=60) (CX:=L2.M0) (ps:=["calls"]) (sp:=Pb.u0) (~~~63) (~~~63) rfl rfl ⟨rfl,by decide,by decide⟩ (λw h Y=>PySem.W.kIn_of Y) ?F ?S (λ_ _ _ _ z=>z)
 case F=>
  intro w mg fa h Y KX G Ul
  refine' Pb.last (d:=⟨111,173,194,287,477,564,15,94,363,406⟩) KX G Ul ?a ?l ?c ?k ?A ?T ?B rfl
  case a=>k_is
  case l=>k_is
  case c=>k_is
  case k=>k_is
  case A=>
   constructor
   case Lot=>walk_at "c"
   case Source=>walk_at "c"
   case Yard=>walk_at "c"
   case Parcel=>walk_at "c"
   case Pile=>walk_at "c"
   case Prices=>walk_at "c"
   all_goals walk_at "d"
  case T=>
   constructor
   case toOwn=>constructor<;>exact PySem.W.mg_none_of KX G (by k_is)
   case nothing=>exact λ_=>⟨_,rfl,by walk_at "t"⟩
   case noMetal=>exact λ_=>Pb.fO (xs:=[.ref 91,.ref 92,.ref 93]) (~~~106)
   case apart=>decide
   all_goals first|exact m8 KX G (by k_is)|exact⟨_,m8 KX G (by k_is)⟩|(refine⟨⟨?_,?_,?_,?_⟩,?no⟩;(case no=>repeat (first|exact Pb.Vu|refine Pb.Sq (by k_is) ?_));all_goals k_is)
  case B=>
   constructor
   case bd=>
    refine'⟨[(0,.ref 366),(1,.ref 372),(2,.ref 375),(3,.ref 379),(4,.ref 381),(5,.ref 383),(6,.ref 384),(7,.ref 390),(8,.ref 393),(9,.ref 394),(10,.ref 396),(11,.ref 397),(12,.ref 398),(13,.ref 400),(14,.ref 401),(15,.ref 402),(16,.ref 403),(17,.ref 405)],Pb.WK rfl ?l1 ?l2 ?l3 ?l4 (~~~73),?l5⟩
    case l1=>k_is
    case l2=>exact⟨rfl,rfl,rfl⟩
    case l3=>rfl
    case l4=>repeat (first|exact .nil |refine .cons ⟨⟨_,rfl⟩,rfl,rfl⟩ ?_)
    case l5=>exact Pb.WG ⟨_,rfl,λ_=>Pb.fO (xs:=[.ref 364,.ref 365]) (~~~106)⟩ ⟨_,rfl,λ_=>Pb.fO (xs:=[.ref 367,.ref 368,.ref 369,.ref 370,.ref 371]) (~~~106)⟩ ⟨_,rfl,λ_=>Pb.fO (xs:=[.ref 373,.ref 374]) (~~~106)⟩ ⟨_,rfl,λ_=>Pb.fO (xs:=[.ref 376,.ref 377,.ref 378]) (~~~106)⟩ ⟨_,rfl,λ_=>Pb.fO (xs:=[.ref 380]) (~~~106)⟩ ⟨_,rfl,λ_=>Pb.fO (xs:=[.ref 382]) (~~~106)⟩ ⟨_,rfl,λ_=>Pb.fO (xs:=[]) (~~~106)⟩ ⟨_,rfl,λ_=>Pb.fO (xs:=[.ref 385,.ref 386,.ref 387,.ref 388,.ref 389]) (~~~106)⟩ ⟨_,rfl,λ_=>Pb.fO (xs:=[.ref 391,.ref 392]) (~~~106)⟩ ⟨_,rfl,λ_=>Pb.fO (xs:=[]) (~~~106)⟩ ⟨_,rfl,λ_=>Pb.fO (xs:=[.ref 395]) (~~~106)⟩ ⟨_,rfl,λ_=>Pb.fO (xs:=[]) (~~~106)⟩ ⟨_,rfl,λ_=>Pb.fO (xs:=[]) (~~~106)⟩ ⟨_,rfl,λ_=>Pb.fO (xs:=[.ref 399]) (~~~106)⟩ ⟨_,rfl,λ_=>Pb.fO (xs:=[]) (~~~106)⟩ ⟨_,rfl,λ_=>Pb.fO (xs:=[]) (~~~106)⟩ ⟨_,rfl,λ_=>Pb.fO (xs:=[]) (~~~106)⟩ ⟨_,rfl,λ_=>Pb.fO (xs:=[]) (~~~106)⟩
   case rw=>
    refine'⟨[(10,.ref 407),(14,.ref 408),(15,.ref 409),(16,.ref 410)],Pb.WK rfl ?m1 ?m2 ?m3 ?m4 (~~~73),?m5⟩
    case m1=>k_is
    case m2=>exact⟨rfl,rfl,rfl⟩
    case m3=>rfl
    case m4=>repeat (first|exact .nil |refine .cons ⟨⟨_,rfl⟩,rfl,rfl⟩ ?_)
    case m5=>exact Pb.WG (~~~121) (~~~121) (~~~121) (~~~121) (~~~121) (~~~121) (~~~121) (~~~121) (~~~121) (~~~121) (.inr ⟨_,rfl,λ_=>Pb.fO (xs:=[.str "leasts and mosts"]) (~~~106)⟩) (~~~121) (~~~121) (~~~121) (.inr ⟨_,rfl,λ_=>Pb.fO (xs:=[.str "amounts"]) (~~~106)⟩) (.inr ⟨_,rfl,λ_=>Pb.fO (xs:=[.str "amounts",.str "prices"]) (~~~106)⟩) (.inr ⟨_,rfl,λ_=>Pb.fO (xs:=[.str "prices"]) (~~~106)⟩) (~~~121)
 case S=>
  intro K H xs a hO UJ aec hx
  cases hx with
  |cons h1 h2=>
   cases h2
   cases h1 with
   |lst hs ha=>
    have e:=L2.Nq a.1 _ ha
    subst e
    obtain⟨cs,h3,h4,h5,h6⟩:=Mi.Q5 (l:=a.1) aec
    refine⟨_,a.1,cs,rfl,hs,h3,h4,h5,λH' p hp=>?_⟩
    show L2.Dw K H' (.ref p) (rw_pilesblends_s01_answers.ret.enc (PyVbmiak.answers a.1))
    rw[h6]
    exact .lst (L2.dz.of hp) (L2.Nj _)
