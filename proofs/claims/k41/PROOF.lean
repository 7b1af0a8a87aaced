import PyProof.Rows.All
import Wide.All
import OpenK.AllK
import Wide.FinOn
import Lean
import PyProof.EqAt
import PyProof.EqKinds
import PyProof.TupleCall
import KE.KTryMore
import PyProof.NsDelKeeps
import PySem.Challenge.RW_lampway_k41_a_worst_row
set_option compiler.extract_closed false
set_option Elab.async false
set_option linter.all false
set_option autoImplicit true
set_option genSizeOf false
set_option maxRecDepth 100000
local macro_rules | `(tactic| ac_nf)=>`(tactic| decide +kernel)
local macro_rules | `(tactic| omega)=>`(tactic| first | with_reducible assumption | lia | omega (splitDisjunctions := true))
open Array renaming getElem?_eq_none→alX,getElem?_toList→aaa,length_toList→Gm,toList→al7,toList_append→qf,toList_inj→W4
open Bool renaming and_eq_true→kX,and_false→T1,eq_iff_iff→l6,false_and→om,false_eq_true→CZ,false_ne_true→fX,false_or→mR,not_true→ajz,or_eq_false_iff→yz,or_eq_true→zp,or_false→Je,or_true→aco,true_and→nN,true_or→ry
open Char renaming toNat→yW
open Except renaming ok→sU
open False renaming elim→k9
open ForInStep renaming yield→xA
open Function renaming comp→af'
open Int renaming add_mul_emod_self_left→ML,emod_eq_of_lt→oT,emod_lt_of_pos→vJ,emod_nonneg→w9,le_refl→D3,mul_lt_mul'→abt,mul_nonneg→Za,toNat_natCast→mN,toNat_of_nonneg→sZ,zero_add→rH
open List renaming all_cons→akk,all_eq_true→u2,any_cons→mT,any_eq_false→V4,any_eq_true→r1,any_map→Ot,append_assoc→jI,append_nil→qC,cons_append→Fx,contains_cons→am5,drop_eq_getElem_cons→uL,drop_length→zK,drop_zero→aoO,eq_of_mem_replicate→yM,exists_cons_of_ne_nil→qe,filterMap_cons→P_,filter_congr→alK,filter_cons→afw,filter_cons_of_neg→ala,filter_cons_of_pos→anj,filter_eq_nil_iff→KU,filter_eq_self→ajf,find?→adJ,find?_cons→uy,find?_eq_none→aeO,findSome?_cons→I4,findSome?_eq_none_iff→Oe,flatMap_append→xN,flatMap_cons→xr,flatMap_nil→adK,flatten_append→apa,flatten_cons→wm,foldl_append→Xh,getD→Cb,getD_eq_getElem?_getD→kd,getElem?_append_left→lC,getElem?_append_right→kz,getElem?_cons_succ→AO,getElem?_drop→x4,getElem?_eq_getElem→a6,getElem?_eq_none→aiF,getElem?_eq_none_iff→adh,getElem?_eq_some_iff→b0,getElem?_map→dg,getElem?_of_mem→hy,getElem?_range→DP,getElem?_set_ne→IS,getElem?_set_self→IF,getElem?_take_of_lt→w5,getElem_idxOf→aj0,getElem_inj→Cu,getElem_map→zC,getElem_mem→gf,getElem_of_mem→CA,getLast?_append→anU,getLast?_cons_cons→S7,getLast?_eq_getElem?→MP,head?_eq_none_iff→ab',idxOf_cons→aeU,idxOf_lt_length_iff→ahF,isEmpty_iff→Nb,length→q8,length_append→cB,length_cons→gW,length_drop→lZ,length_filter_le→vq,length_map→aX,length_nil→z',length_pos_iff→DT,length_pos_of_mem→afD,length_range→sb,length_replicate→oh,length_set→YS,length_singleton→k6,length_take→hC,lookup→rd,lookup_cons→lV,map→o3,map_append→e',map_congr_left→ZA,map_cons→fz,map_drop→z4,map_eq_nil_iff→WB,map_map→rE,map_nil→rC,map_take→VQ,mem_append→eI,mem_append_left→NZ,mem_append_right→mB,mem_cons→ei,mem_cons_of_mem→i7,mem_cons_self→oi,mem_filter→j1,mem_filterMap→aoN,mem_flatten→Ga,mem_iff_getElem→Zo,mem_map→cj,mem_of_find?_eq_some→aaJ,mem_of_getElem?→bU,mem_of_mem_drop→PS,mem_of_mem_take→vI,mem_or_eq_of_mem_set→WO,mem_range→pq,mem_singleton→d9,nil_append→Md,nodup_append→Aa,nodup_cons→ni,nodup_nil→qx,not_mem_nil→k2,of_mem_zip→YA,pairwise_iff_getElem→aaR,pairwise_map→akS,perm_append_comm→ai0,perm_middle→abk,range→fb,range_succ→wJ,replicate→f6,set_cons_succ→jV,set_cons_zero→jH,singleton_append→anC,size_toArray→fF,sublist_flatten_of_mem→af_,sum_cons→za,take_add_one→oc,take_append_drop→OD,take_length→i5,take_of_length_le→y0,take_zero→um
open List.Mem renaming head→alp
open List.Pairwise renaming filter→aq4,imp_of_mem→ais,nil→apR
open List.Perm renaming append_left→aeq
open List.cons renaming inj→ta
open Nat renaming add_comm→anp,add_mod_right→amA,add_mul→Rf,add_sub_cancel→Mb,add_sub_cancel_left→ae7,le_add_right→Dn,le_of_eq→ame,le_of_lt→nv,le_of_not_lt→ajm,le_refl→bQ,le_succ→Bx,le_trans→cM,log2_lt→abV,lt_irrefl→oQ,lt_of_le_of_lt→hO,lt_of_lt_of_le→iL,lt_succ_self→wK,lt_trans→OO,lt_trichotomy→ZP,min_eq_left→Cr,mod_eq_of_lt→Fc,mul_le_mul_right→AV,mul_pos→Y4,ne_of_gt→Eh,ne_of_lt→gz,one_mul→ahq,reduceAdd→ae6,reduceSub→amy,sub_self→NI,sub_zero→am7,succ_mul→z6,toDigits→wo,zero_le→eW
open Ne renaming symm→et
open Option renaming bind_some→yw,getD_none→ajG,isSome_iff_exists→afO,isSome_map→ac8,map_eq_some_iff→yc,map_some→Fw,none→wQ,toList→xe
open Option.some renaming inj→d2
open Or renaming inl→n0,inr→mh
open Prod.mk renaming inj→Xw
open PyProof.Rows renaming callWith_builtin1→arS,callWith_type1→BA,iadd_int→apM,slot_tuple_getitem→Pd,split_weight→aer
open PySem renaming Within→Wt,call→ahj,mem_of_lookup→wH
open PySem.Around renaming frames_deeper→abv,under→Qr,under_plainId→zF
open PySem.Builtin.Builtins renaming bindParams→II
open PySem.Builtin.Dict renaming dictSlotNone→arY,showsAll→ajx
open PySem.Builtin.Dict_items renaming ownsTuple→adY
open PySem.Builtin.List renaming listTooLong→X_
open PySem.Builtin.Range renaming rangeSize→aqr
open PySem.Builtin.Slice renaming sliceAdjust→UG,sliceApplied→acO,sliceFields→aqK,slicePartIndex→arO,slicePlaces→Nm
open PySem.Builtin.Str renaming occurrences→tF,partsBetween→adZ,strKind→am4
open PySem.Builtin.Tuple renaming tupleExact→L0,tupleItemsOf→ap'
open PySem.Calls renaming Name_function_global→anH,callWith_builtin→Ym,evalArgs_plain→ZL,spliced_cons→Ub,spliced_nil→akv
open PySem.CmpOp renaming NotIn→adF
open PySem.Code renaming frames→Zu,isFrame→Qn
open PySem.Data renaming cell→Cy,fields→Vq
open PySem.EqMixed renaming eq_bool_str→apH,eq_int_str→arn,eq_str_bool→ark,eq_str_int→apW,ne_bool_str→aq8,ne_int_str→ara,ne_str_bool→apV,ne_str_int→apX
open PySem.EqNone renaming eq_bool_none→aqQ,eq_int_none→arB,eq_none_bool→aqI,eq_none_int→apy,eq_none_none→aqH,eq_none_str→apJ,eq_str_none→arZ,ne_bool_none→arh,ne_int_none→aqC,ne_none_bool→arQ,ne_none_int→aqj,ne_none_none→arE,ne_none_str→arG,ne_str_none→aqx
open PySem.F renaming args_dict_keyiterator_next_1→Zy,args_dict_pop_3→anr,args_str_split_2→Qe,entry_dict_keyiterator_next→aaZ,entry_dict_pop→akm,entry_max_loop→PB,entry_min_loop→O8,entry_str_split→R0,plainAttrs_list→gI,plainAttrs_str→vQ,plain_max_loop→wC,plain_min_loop→wA,slot_dict_getitem→aaL,slot_dict_iter→aaX,slot_dict_keyiterator_next→EI,slot_dict_pop→O3,slot_list_append→lh,slot_list_clear→agf,slot_list_extend→rD,slot_list_index→Rd,slot_list_insert→PK,slot_str_join→B',slot_str_split→Eb,type_list_append→lD,type_list_extend→r6,type_list_index→ag8,type_list_insert→aen,type_str_join→Ec,type_str_split→aia
open PySem.Heap renaming SameBut→wI,get?_push_of_some→e2,get?_push_size→hq,get?_update_other→p3,lt_size→er,size_push→YP
open PySem.Heap.IsSliceOf renaming new→aqu
open PySem.Heap.SameBut renaming update→agD
open PySem.NameKind renaming cell→Rb,free→s7
open PySem.NumText renaming digitsVal→RY
open PySem.Obj renaming data_mapFields→al0,mapFields→am',mapSeq→rb
open PySem.Paired renaming length→KG,snoc→Un
open PySem.PassesOwn renaming never→fV
open PySem.SeqAt renaming EqAt→ake
open PySem.SeqAt.EqAt renaming int_str→agS,str_int→aoB
open PySem.Str renaming cps_append→p8,join→ep,length→wd,ofString→af
open PySem.StrLaws renaming glued_eq_join→Ai,sliceText→vD
open PySem.Txt renaming join→rf,slice→mO,slice_le→vK,split→jq
open PySem.Value renaming bool→k4,bytes→aph,float→SM,int→oA,isInt→afx,isStrOf→amI,none→sv,ref→ff,str→w2,type→ahN
open PySem.W renaming CodeHd→ml,Frag→bk,callWith_K→K8,callWith_K0→aiS,cellsFrom_some→ahn,clsIn→akX,codeHdIn→H3,codeHd_of_K→afP,codeIn→VZ,emptyDict→s9,envX→Jh,findCls→aoy,findIn→dW,fnOf→x2,handedIn→acX,hasDictIn→C1,instObj→tB,isFn→Tt,keepIn→tH,kia_one→qi,kitOne→t7,kitx_dict→ae8,kitx_list→afW,kla_fn→Ta,kla_obj→x9,km_tabs_of→aii,lookIn→I0,makesIn→aka,methodCall_KW→JF,methodObj→T9,mroIn→K0,noTabs→ajk,plainGet→KS,plainGet_of→Wb,plainOver→abZ,readsIn→ag6,specialIn→xf,tabObj→HI,takerIn→Pp,takesIn→KZ,typeIn→ai7
open PySem.W.KIN renaming signs_num→alJ
open PySem.W.Looks renaming here→aq9
open PySem.W.WData renaming int→ahI
open PySem.W.WShape renaming has→aan
open PySem.Walks renaming list→uR
open PySem.Within renaming cons→apx
open Sum renaming inl→se,inr→cz
open Sum.inr renaming inj→u1
open True renaming intro→jO
set_option tactic.hygienic false
def A'r:Lean.Syntax:=Lean.Unhygienic.run `(tacticSeq|rfl)
def A'd:Lean.Syntax:=Lean.Unhygienic.run `(tacticSeq|decide)
def A'i:Lean.Syntax:=Lean.Unhygienic.run `(tacticSeq|(intro _;rfl))
section
local macro_rules|`(())=>`(by omega)
local macro_rules|`(∅)=>`(by first|decide +kernel|walk_at "F")
local macro_rules|`($x\$y)=>`($x=some $y)
local macro_rules|`(↑$x)=>`(($x).length)
local macro_rules|`(↥$x)=>`(($x).heap.objs.size)
local macro_rules|`(⇑$x)=>`(.ref $x)
local macro_rules|`($d:declaration)=>do
  let d:=d.raw
  if d[1][0].getPos?.isNone then Lean.Macro.throwUnsupported
  let f(s:Lean.Syntax):=s.rewriteBottomUp (·.setInfo .none)
  return (d.setArg 0 (f d[0])).setArg 1 (d[1].setArg 0 (f d[1][0]))
open Prod renaming mk→p'p
local macro_rules|`(($x,$y,*))=>`(⟨$x,$y,*⟩)
def letPat:Nat->Lean.Term->Lean.MacroM (Lean.TSyntax `rcasesPat)
 |0,_=>Lean.Macro.throwUnsupported
 | n+1,p=>match p with
  | `(_)=>`(rcasesPat|_)
  | `($x:ident)=>`(rcasesPat|$x:ident)
  | `(($x,$y,*))=>do
   let q<-(#[x]++y.getElems).mapM fun z=>do
    let r<-letPat n z
    `(Lean.Parser.Tactic.rcasesPatLo|$r:rcasesPat)
   `(rcasesPat|⟨$q,*⟩)
  |_=>Lean.Macro.throwUnsupported
theorem g'g{p:Prop}(h:∀G:Prop,(p->G)->G):p:=h p id
set_option hygiene false in
local macro_rules|`(tactic|let $d:letDecl)=>do
  let d:=d.raw[0]
  let p<-letPat 9 ⟨d[0]⟩
  let v:Lean.Term:=⟨d[4]⟩
  let o<-if d[2].isNone then `(tactic|obtain $p:rcasesPat:=$v)else `(tactic|obtain $p:rcasesPat : $(⟨d[2][0][1]⟩) := $v)
  if(v.raw.find? fun y=>y.isOfKind ``Lean.Parser.Term.byTactic||y.isOfKind ``Lean.Parser.Term.tuple||y.isOfKind `«term∅»).isNone&&(d[0].find? fun y=>y.isOfKind `null&&6<y.getNumArgs).isSome then `(tactic|(refine g'g fun G' g'=>?_;$o;all_goals(refine g' ?_;clear g' G')))else return o
local macro_rules|`(tactic|intro $x*)=>do
  if x.all (fun y=>y.raw.isIdent||y.raw.isOfKind ``Lean.Parser.Term.hole)then Lean.Macro.throwUnsupported
  let q<-x.mapM fun y=>do `(rintroPat|$(<-letPat 9 y):rcasesPat)
  `(tactic|rintro $q*)
namespace L2
open PySem PySem.Spec PyProof.Rows
noncomputable abbrev Key:=Sum Int Str
noncomputable def xd:Key->Value->Bool
 | .inl k,v=>afx k v
 | .inr x,v=>amI x v
noncomputable def ape(w:World):Key->Int
 | .inl k=>hashInt k
 | .inr x=>hashStr w x
theorem pP:∀{k:Key} {v:Value},xd k v=true->(∃i t,k=se i/\v=oA i t)\/(∃x t,k=cz x/\v=w2 x t)
 | .inl i,v,h=>by
  let(t,e):=Value.isInt_shape (k:=i) (v:=v) h;exact .inl (i,t,rfl,e)
 | .inr x,v,h=>by
  let(t,e):=Value.isStrOf_shape (x:=x) (v:=v) h;exact .inr (x,t,rfl,e)
def acd(i:Int)(t:Tok):xd (.inl i) (.int i t)=true:=by simp[xd,afx]
def ao3(x:Str)(t:Tok):xd (.inr x) (.str x t)=true:=by simp[xd,amI]
def akL(a b:Int):decide ((se a:Key)=se b)=(a==b):=by
 by_cases e:a=b
 .subst e;simp
 .have h:¬(se a:Key)=se b:=λq=>e (Sum.inl.inj q)
  rw[decide_eq_false h];exact(beq_eq_false_iff_ne.mpr e).symm
def amC(a b:Str):decide ((cz a:Key)=cz b)=decide (a=b):=by
 by_cases e:a=b
 .subst e;simp
 .have h:¬(cz a:Key)=cz b:=λq=>e (u1 q)
  rw[decide_eq_false h,decide_eq_false e]
def ag3(a:Int)(b:Str):decide ((se a:Key)=cz b)=false:=decide_eq_false (λq=>nomatch q)
def anV(a:Str)(b:Int):decide ((cz a:Key)=se b)=false:=decide_eq_false (λq=>nomatch q)
noncomputable def iX(prog:Program)(w:World):PySem.KeyKind prog w Key where
 is:=xd
 hash:=ape w
 inj:=λv a b aO aa=>by
  rcases pP aO with⟨i,t,rfl,rfl⟩|⟨x,t,rfl,rfl⟩
  .rcases pP aa with⟨j,u,rfl,e⟩|⟨y,u,rfl,e⟩
   .injection e with aq _;rw[aq]
   .exact nomatch e
  .rcases pP aa with⟨j,u,rfl,e⟩|⟨y,u,rfl,e⟩
   .exact nomatch e
   .injection e with aq _;rw[aq]
 byValue:=λk v h=>by
  rcases pP h with⟨i,t,rfl,rfl⟩|⟨x,t,rfl,rfl⟩ <;> rfl
 pyHash:=λaE h=>by
  rcases pP aE with⟨i,t,rfl,rfl⟩|⟨x,t,rfl,rfl⟩
  .exact wpAny_pyHash_int h
  .exact wpAny_pyHash_str h
 eqBool:=λbR aE h=>by
  rcases pP bR with⟨i,t,rfl,rfl⟩|⟨x,t,rfl,rfl⟩
  .rcases pP aE with⟨j,u,rfl,rfl⟩|⟨y,u,rfl,rfl⟩
   .rw [akL]at h;exact wpAny_eqBool_int h
   .rw [ag3]at h;exact agS i t y u _ _ _ _ h
  .rcases pP aE with⟨j,u,rfl,rfl⟩|⟨y,u,rfl,rfl⟩
   .rw [anV]at h;exact aoB x t j u _ _ _ _ h
   .rw [amC]at h;exact wpAny_eqBool_str h
 «strs»:=λk x t v h=>by
  rcases pP h with⟨i,u,rfl,e⟩|⟨y,u,rfl,e⟩
  .exact nomatch e
  .injection e with aq _;subst aq;cases v <;> rfl
def al8(prog:Program)(w:World)(i:Int)(t:Tok):(iX prog w).is (.inl i) (.int i t)=true:=acd i t
def Z9(prog:Program)(w:World)(x:Str)(t:Tok):(iX prog w).is (.inr x) (.str x t)=true:=ao3 x t
inductive V where
 |cf|bp (b:Bool)|int (i:Int)|str (x:Str)|mr (b:Array UInt8)|tI (b:UInt64)|ref (a:Addr)|ty (n:String)
 deriving DecidableEq
noncomputable def be:V->Value->Prop
 | .cf,u=>u=sv
 | .bp b,u=>u=k4 b
 | .int i,u=>∃t,u=oA i t
 | .str x,u=>∃t,u=w2 x t
 | .mr b,u=>∃t,u=aph b t
 | .tI b,u=>∃t,u=SM b t
 | .ref a,u=>u=ff a
 | .ty n,u=>u=ahN n
noncomputable abbrev cO:List V->List Value->Prop:=Paired be
def cO.length(r:cO xs us):↑xs=↑us:=KG r
theorem cO.get:∀{xs:List V} {us:List Value} {i:Nat} {x:V},cO xs us->xs[i]?\x->∃u,us[i]?\u/\be x u
 |_,_,_,_,.nil,e=>by simp at e
 |_,_,0,_,.cons r _,e=>by simp at e;subst e;exact(_,rfl,r)
 |_,_,i+1,x,.cons _ t,e=>by
  let(u,ae,ak):=cO.get (i:=i) (x:=x) t (by simpa using e);exact(u,by simpa using ae,ak)
theorem cO.append:∀{xs ys:List V} {us ws:List Value},cO xs us->cO ys ws->cO (xs++ys) (us++ws)
 |_,_,_,_,.nil,s=>s
 |_,_,_,_,.cons r t,s=>.cons r (cO.append t s)
theorem cO.take:∀{xs:List V} {us:List Value} (n:Nat),cO xs us->cO (xs.take n) (us.take n)
 |_,_,0,_=>.nil
 |_,_,_+1,.nil=>.nil
 |_,_,n+1,.cons r t=>.cons r (cO.take n t)
theorem cO.drop:∀{xs:List V} {us:List Value} (n:Nat),cO xs us->cO (xs.drop n) (us.drop n)
 |_,_,0,r=>r
 |_,_,_+1,.nil=>.nil
 |_,_,n+1,.cons _ t=>cO.drop n t
noncomputable def jT:Option V->Option Value->Prop
 |some v,some u=>be v u
 |none,none=>True
 |_,_=>False
noncomputable def fy{eR:Type}:List (eR×V)->List (eR×Value)->Prop:=Paired λ(p:eR×V) (q:eR×Value)=>p.1=q.1/\be p.2 q.2
noncomputable def d3:Key->V
 | .inl i=>.int i
 | .inr x=>.str x
inductive gb where
  |lst (xs:List V)
  |tup (xs:List V)
  |b2 (kvs:List (Key×V))|gs (kvs:List (List Key×V))
  |set (S:Int->Bool) (n:Nat)
  |ins (C aA:Addr) (a5:List (Str×V))
  |own (x:Addr)
  |Cq (a5:List (Str×V))
  |met (f x:Addr)
  |B9 (lo ah:Int)
  |eX (o:Obj) (u:gb)
  |hF (ps:Array Value)
  |ext (vp:Heap->Prop)
noncomputable abbrev av:=Addr->Option gb
noncomputable def upd(H:av)(a:Addr)(o:gb):av:=λb=>if b=a then some o else H b
def aR:upd H a o a\o:=by unfold upd;rw[if_pos rfl]
def aP(h:b≠a):upd H a o b=H b:=by unfold upd;rw[if_neg h]
def ur:upd (upd H a o) a u=upd H a u:=by
 funext b;unfold upd;split <;> rfl
def cC{H:av}{a b:Addr}{o u:gb}(h:H a\o)(h':H b\u)(d:o≠u):a≠b:=by
 intro e;subst e;rw[h]at h';exact d (d2 h')
def dm{H:av}{a b:Addr}{o:gb}(h:H a\o)(h':H b=none):a≠b:=by
 intro e;subst e;rw[h]at h';cases h'
section
variable(P:Program)(w:World)
noncomputable def e8(H:av)(h:Heap)(a:Addr):gb->Prop
 | .lst xs=>↑xs<=sizeLine/\∃(a':List Value) (n:Nat),cO xs a'/\h.get? a=some {cls:=.type "list",data:=.seq a'.toArray n}
 | .tup xs=>(↑xs<=sizeLine/\∃cT,h.get? a\cT/\cT.dict=none)/\∃a':List Value,cO xs a'/\IsTup h a a'.toArray
 | .b2 kvs=>↑kvs<=sizeLine/\(a==sysModules)=false/\∃vs,fy kvs vs/\h.DictOf (iX P w) a vs
 | .gs kvs=>↑kvs<=sizeLine/\(a==sysModules)=false/\∃xs:List (List Key×Addr×Value),
   Paired (λ(p:List Key×V) (q:List Key×Addr×Value)=>p.1=q.1/\H q.2.1\(.tup (p.1.map d3))/\be p.2 q.2.2) kvs xs /\
   ∃o aU cu,h.get? a\o/\o.ExactDict/\o.data=.dict aU cu/\aU.toList=xs.map (entryOfKey (tupleKind (iX P w)))/\(xs.map (·.1)).Nodup
 | .set S n=>h.SetOf (intKind P w) a S n
 | .ins C aA a5=>H aA\(.own a)/\↑a5<=1000/\aA≠a/\h.get? a\(tB C aA) /\
   ∃e0,h.Ns1 aA e0/\(∀f,jT (a5.lookup f) (e0 f))/\Wt e0 (a5.map (·.1))
 | .own _=>∃o,h.get? a\o
 | .Cq a5=>∃e0,h.Ns1 a e0/\∀f,jT (a5.lookup f) (e0 f)
 | .B9 lo ah=>∃t u v,h.get? a=some {cls:=.type "range",data:=.fields #[.int lo t,.int ah u,.int 1 v]}
 | .eX o u=>h.get? a\o/\e8 H h a u
 | .hF ps=>h.get? a=some {cls:=.none,data:=.fields ps}
 | .met f x=>h.get? a\(T9 (.ref f) (.ref x))
 | .ext vp=>vp h/\(∃o,h.get? a\o)/\∀ae ak:Heap,vp ae->(∀o,ae.get? a\o->ak.get? a\o)->vp ak
def fw(H:av)(h:Heap):Prop:=∀a o,H a\o->e8 P w H h a o
end
section
variable{P:Program}{w:World}{H I:av}{h h':Heap}{a:Addr}{o:gb}
theorem e8.lt(x:e8 P w H h a o):a<h.objs.size:=by
 cases o with
 |lst xs=>let(_,_,_,_,e):=x;exact er e
 |tup xs=>let(_,_,_,p):=x;exact p.lt
 |b2 kvs=>let(_,_,_,_,o,_,_,e,_):=x;exact er e
 |gs kvs=>let(_,_,_,_,o,_,_,e,_):=x;exact er e
 |set S n=>let(o,_,_,_,e,_):=x;exact er e
 |ins C aA a5=>let(_,_,_,e,_):=x;exact er e
 |own y=>let(_,e):=x;exact er e
 |Cq a5=>let(_,(_,_,_,e,_),_):=x;exact er e
 |B9 lo ah=>let(_,_,_,e):=x;exact er e
 |eX cT u=>let(e,_):=x;exact er e
 |hF ps=>exact er (show h.get? a\_ from x)
 |met f y=>exact er (show h.get? a\_ from x)
 |ext vp=>let(_,(_,e),_):=x;exact er e
theorem Paired.sy:∀{l₁:List α} {l₂:List β},Paired F l₁ l₂->(∀a b,F a b->G a b)->Paired G l₁ l₂
 |_,_,.nil,_=>.nil
 |_,_,.cons r t,f=>.cons (f _ _ r) (Paired.sy t f)
theorem e8.oB(x:e8 P w H h a o)(k:∀b u,(b=a\/H b\(.own a))->h.get? b\u->h'.get? b\u)
  (aS:∀b,H b\(.own a)->I b\(.own a)) (c6:∀b xs,H b\(.tup xs)->I b\(.tup xs)):e8 P w I h' a o:=by
 induction o with
 |lst xs=>let(z,a',n,r,e):=x;exact(z,a',n,r,k _ _ (.inl rfl) e)
 |tup xs=>let((z,adx,tC,Yt),a',r,cT,e,c):=x;exact((z,adx,k _ _ (.inl rfl) tC,Yt),a',r,cT,k _ _ (.inl rfl) e,c)
 |b2 kvs=>let(z,y,vs,r,cT,aU,cu,e,c):=x;exact(z,y,vs,r,cT,aU,cu,k _ _ (.inl rfl) e,c)
 |gs kvs=>
  let(z,y,xs,r,cT,aU,cu,e,c):=x;exact(z,y,xs,Paired.sy r λp q z=>(z.1,c6 _ _ z.2.1,z.2.2),cT,aU,cu,k _ _ (.inl rfl) e,c)
 |set S n=>let(cT,aU,cu,t,e,c):=x;exact(cT,aU,cu,t,k _ _ (.inl rfl) e,c)
 |ins C aA a5=>
  let(d,z,ne,e,e0,(fB,aU,cu,aD,c),r):=x;exact(aS _ d,z,ne,k _ _ (.inl rfl) e,e0,(fB,aU,cu,k _ _ (.inr d) aD,c),r)
 |own y=>let(cT,e):=x;exact(cT,k _ _ (.inl rfl) e)
 |Cq a5=>let(e0,(fB,aU,cu,e,c),r):=x;exact(e0,(fB,aU,cu,k _ _ (.inl rfl) e,c),r)
 |B9 lo ah=>let(t,u,v,e):=x;exact(t,u,v,k _ _ (.inl rfl) e)
 |eX cT u cZ=>let(e,q):=x;exact(k _ _ (.inl rfl) e,cZ q)
 |hF ps=>
  have e:h.get? a=some {cls:=.none,data:=.fields ps}:=x;show h'.get? a=some {cls:=.none,data:=.fields ps};exact k a _ (.inl rfl) e
 |met f y=>
  have e:h.get? a\(T9 ⇑f ⇑y):=x;show h'.get? a\(T9 ⇑f ⇑y);exact k a _ (.inl rfl) e
 |ext vp=>let(p,(o,e),st):=x;exact(st _ _ p λo q=>k _ _ (.inl rfl) q,(o,k _ _ (.inl rfl) e),st)
theorem fw.lt(x:fw P w H h)(e:H a\o):a<h.objs.size:=(x a o e).lt
theorem fw.fresh(x:fw P w H h)(e:h.objs.size<=a):H a=none:=by
 cases q:H a with
 |none=>rfl
 |some u=>exact absurd (iL (x.lt q) e) (oQ _)
def fw.kept(x:fw P w H h)(k:∀b u,h.get? b\u->h'.get? b\u):fw P w H h':=λa o e=>
 (x a o e).oB (λb u _ q=>k b u q) (λ_ q=>q) λ_ _ q=>q
def fw.laid(x:fw P w H h)(k:∀b u,h.get? b\u->h'.get? b\u)(ar:h.objs.size<=a)(new:e8 P w (upd H a o) h' a o):fw P w (upd H a o) h':=λb u e=>by
 have a8:=x.fresh ar;by_cases aa:b=a
 .subst aa;rw[aR]at e;cases e;exact new
 .rw [aP aa]at e;exact(x b u e).oB (λc v _ q=>k c v q) (λc q=>by rw[aP (dm q a8)];exact q) λc xs q=>by rw[aP (dm q a8)];exact q
end
def mq(H:av)(a:Addr)(u:gb):Prop:=H a\u\/∃o,H a\(.eX o u)
def mq.ok{w:World}{h:Heap}(r:mq H a u)(x:fw P w H h):e8 P w H h a u:=by
 rcases r with r|⟨o,r⟩
 .exact x a u r
 .let(_,q):=x a _ r;exact q
noncomputable def u9:Option gb->Prop
 |some (.lst _)=>True
 |some (.b2 _)=>True
 |some (.gs _)=>True
 |some (.set _ _)=>True
 |some (.ins _ _ _)=>True
 |some (.ext _)=>True
 |_=>False
section
variable{P:Program}{w:World}{H:av}{h h':Heap}{x e:Addr}{es:gb}
def fw.write (ok:fw P w H h) (kU:u9 (H x)) (he:e=x\/H e\(.own x)) (k:∀b u,b≠e->h.get? b\u->h'.get? b\u) (vu:∃u,h'.get? e\u)
  (new:e8 P w (upd H x es) h' x es):fw P w (upd H x es) h':=λb u q=>by
 have QO:∀c y,H c\(.own y)->c≠x:=λc y r z=>by subst z;rw[r]at kU;exact kU
 have ag9:∀c xs,H c\(.tup xs)->c≠x:=λc xs r z=>by subst z;rw[r]at kU;exact kU
 by_cases aa:b=x
 .subst aa;rw[aR]at q;cases q;exact new
 .rw[aP aa]at q;by_cases tS:b=e
  .have dY:H b\(.own x):=by
    rcases he with z|z
    .exact absurd (tS.trans z) aa
    .rw [tS];exact z
   rw[q]at dY;cases dY;let(v,aE):=vu;exact(v,by rw[tS];exact aE)
  .refine(ok b u q).oB (λc v aB r=>k c v ?_ r) (λc r=>by rw[aP (QO c b r)];exact r) λc xs r=>by rw[aP (ag9 c xs r)];exact r
   rcases aB with rfl|aB
   .exact tS
   .rintro rfl;rcases he with z|z
    .exact QO c b aB z
    .rw [aB]at z;cases z;exact aa rfl
end
structure hP(a5 ex:List Addr)(H I:av)(h h':Heap):Prop where
 keep:∀b o,h.get? b\o->H b=none->b∉a5->b∉ex->h'.get? b\o
 slot:∀b o,h.get? b\o->H b=none->b∈a5->b∉ex->∃cH,h'.get? b=some {o with slots:=cH}
 free:∀b o,h.get? b\o->H b=none->b∉ex->I b=none
 there:∀b o,h.get? b\o->b∉ex->∃es,h'.get? b\es
 q2:∀b xs,H b\(.tup xs)->I b\(.tup xs)
 nC:∀b o u,H b\(.eX o u)->I b\(.eX o u)
 pG:∀b ps,H b\(.hF ps)->∃more,I b\(.hF (ps++more))
section
variable{a5 pD ex aqT:List Addr}{H H1 aw:av}{h ae ak h':Heap}{a x e:Addr}{o:gb}
def hP.any(u:hP a5 ex H H1 h ae)(q:h.get? b\cT)(n:H b=none)(ag:b∉ex):∃cH,ae.get? b=some {cT with slots:=cH}:=by
 by_cases aa:b∈a5
 .exact u.slot b cT q n aa ag
 .exact (cT.slots,u.keep b cT q n aa ag)
def hP.kept(k:∀b u,h.get? b\u->h'.get? b\u):hP a5 ex H H h h':=
 (λb cT q _ _ _=>k b cT q,λb cT q _ _ _=>(cT.slots,k b cT q),λ_ _ _ n _=>n,λb cT q _=>(cT,k b cT q),λ_ _ q=>q,λ_ _ _ q=>q,λ_ ps q=>(#[],by rw[q];simp))
def hP.refl:hP a5 ex H H h h:=hP.kept λ_ _ q=>q
def hP.laid(k:∀b u,h.get? b\u->h'.get? b\u)(ar:h.objs.size<=a)(a8:H a=none):hP a5 ex H (upd H a o) h h' where
 keep:=λb u q _ _ _=>k b u q
 slot:=λb u q _ _ _=>(u.slots,k b u q)
 free:=λb u q n _=>by rw[aP (gz (iL (er q) ar))];exact n
 there:=λb u q _=>(u,k b u q)
 q2:=λb xs q=>by rw[aP (dm q a8)];exact q
 nC:=λb u xs q=>by rw[aP (dm q a8)];exact q
 pG:=λb ps q=>(#[],by rw[aP (dm q a8),q];simp)
def hP.write(kU:u9 (H x))(he:e=x\/H e\(.own x))(k:∀b u,b≠e->h.get? b\u->h'.get? b\u)(vu:∃u,h'.get? e\u):hP a5 ex H (upd H x o) h h':=by
 have ag:∀b,H b=none->b≠x:=λb n z=>by subst z;rw[n]at kU;exact kU
 have aa:∀b,H b=none->b≠e:=λb n z=>by
  subst z;rcases he with r|r
  .exact ag b n r
  .rw [n]at r;cases r
 have hm:∀b u,H b\u->¬u9 (some u)->b≠x:=λb u q nm z=>by subst z;rw[q]at kU;exact nm kU
 refine(λb u q n _ _=>k b u (aa b n) q,λb u q n _ _=>(u.slots,k b u (aa b n) q),λb u q n _=>by rw[aP (ag b n)];exact n,λb u q _=>?_,
  λb xs q=>by rw[aP (hm b _ q λz=>z)];exact q,λb u xs q=>by rw[aP (hm b _ q λz=>z)];exact q,λb ps q=>(#[],by rw[aP (hm b _ q λz=>z),q];simp))
 by_cases tS:b=e
 .subst tS;exact vu
 .exact (u,k b u tS q)
end
noncomputable def ED(h:Heap)(H:av):List Addr:=(fb h.objs.size).filter λa=>(H a).isSome
noncomputable def oY(h:Heap)(H:av):Heap:=PySem.W.hideAll h (ED h H)
def al'(h:Heap)(H:av):(oY h H).objs.size=h.objs.size:=PySem.W.hideAll_size _ _
def M_{h:Heap}(e:h.get? b\o)(n:H b=none):(oY h H).get? b\o:=
 PySem.W.hideAll_get _ e λhm=>by
  have q:(H b).isSome=true:=(j1.mp hm).2;rw[n]at q;simp at q
theorem ama{h:Heap}(e:(oY h H).get? b\o):h.get? b\o/\H b=none:=by
 have bD:h.get? b\o:=PySem.W.of_hideAll (ED h H) e;refine(bD,?_);cases q:H b with
 |none=>rfl
 |some x=>
  have hm:b∈ED h H:=j1.mpr (pq.mpr (er bD),by simp[q]);have z:(oY h H).get? b=none:=PySem.W.hideAll_none (ED h H) hm;rw[z]at e;cases e
noncomputable def an0(g h:Heap)(L:Addr):List (Addr×Obj):=(fb h.objs.size).filterMap λa=>if a=L\/(g.get? a).isSome=true then none else(h.get? a).map λo=>(p'p a o)
noncomputable def l4(g h:Heap)(L d:Addr):List (Addr×Obj):=(an0 g h L).filter λp=>decide (p.1≠d)
structure Mod(K:bk)(mg:Str->Option Value)(base:Heap):Prop where
 vz:K.In base
 glob:base.Ns mainGlobals mg
 blt:∃n_,base.Ns builtinsNs n_/\∀x:Str,x≠"__name__"->n_ x=bootBuiltins x
 nolimit:base.NoLimit
structure bc where
 prog:Program
 w:World
 K:bk
 mg:Str->Option Value
 base:Heap
 A:Around
 N:List Str
 gk:Shared
 sP:av
 env:Env
 outer:List Env
 stack:List Env
 ex:List Addr
 fn:Str->Bool
 calm:Bool
 fs:List (Addr×Obj)
 ek:Value->Shared->Prop
noncomputable def nP(l:List Env):List Addr:=l.filterMap (·.frame)
noncomputable abbrev bc.a5(X:bc):List Addr:=nP X.outer
def DW(sc:Scope)(x:Str):Prop:=sc.names.lookup x\.local\/sc.names.lookup x\.cell\/sc.names.lookup x\.free
def Loc(sc:Scope)(x:Str):Prop:=sc.names.lookup x\.local\/sc.names.lookup x\.cell
def agL(env:Env)(h:Heap)(m:Str->Option Value)(x:Str)(u:Value):Prop:=
 (env.kindOf x\.local/\m x\u)\/((env.kindOf x\.cell\/env.kindOf x\.free)/\∃c,env.cells.lookup x\c/\h.IsCell c (some u))
structure bc.Ok(X:bc):Prop where
 mod:Mod X.K X.mg X.base
 kind:X.env.scope.kind=.function
 glob:X.env.globals=mainGlobals
 blt:X.env.builtins=builtinsNs
 above:↥X.gk<=X.env.locals
 inj:∀x y c,X.env.cells.lookup x\c->X.env.cells.lookup y\c->x=y
 has:∀x,(X.env.kindOf x\.cell\/X.env.kindOf x\.free)->∃c,X.env.cells.lookup x\c
 xi:∀x c,X.fn x=true->X.env.cells.lookup x\c->↥X.gk<=c
 hd:X.calm=true->X.A.handled=none
 frames:X.A.frames\X.stack
 zh:X.stack=X.outer\/(X.stack=X.env::X.outer/\X.env.frame\X.env.locals)
 Hc:∀b∈X.ex,b≠X.env.locals/\∀x c,X.env.cells.lookup x\c->c≠b
 bs:∀b o,X.base.get? b\o->X.gk.heap.get? b\o/\X.sP b=none
 nR:X.base.objs.size<=↥X.gk
 vN:∀b o,X.base.get? b\o->b∉X.ex
 wU:∀b∈X.ex,b∉X.a5
 mL:X.gk.heap.FunFrames X.base X.outer
 r_:∀b∈X.a5,X.sP b=none
structure Inv(X:bc)(ab:List (Addr×Obj))(σ:List (Option V))(H:av)(s:Shared):Prop where
 ok:X.Ok
 os:s.os=X.gk.os
 bare:AllBare s.gens
 base:hP X.a5 X.ex X.sP H X.gk.heap s.heap
 loc:∃m,s.heap.Ns X.env.locals m/\∀(i:Nat) (x:Str) (v:V),X.N[i]?\x->σ[i]?\(some v)->DW X.env.scope x->∃u,be v u/\agL X.env s.heap m x u
 cell:∀x c,X.env.cells.lookup x\c->∃v,s.heap.IsCell c v
 free:H X.env.locals=none
 kg:∀x c,X.env.cells.lookup x\c->H c=none
 pin:∀p∈X.fs++ab,s.heap.get? p.1\p.2/\H p.1=none/\p.1≠X.env.locals/\p.1∉X.a5/\∀v,p.2.data≠.cell v
 bu:fw X.prog X.w H s.heap
 len:↑σ=↑X.N
section
variable{X:bc}{ab:List (Addr×Obj)}{σ:List (Option V)}{H I:av}{s:Shared}{h':Heap}
def bc.Ok.TK(ok:X.Ok)(e:X.base.get? b\o):b∉X.a5:=λaa=>by
 have:=(ok.mL.mem aa).1;rw[e]at this;cases this
theorem Inv.bs(J:Inv X ab σ H s):∀b o,X.base.get? b\o->s.heap.get? b\o/\H b=none:=λb o e=>
 (J.base.keep b o (J.ok.bs b o e).1 (J.ok.bs b o e).2 (J.ok.TK e) (J.ok.vN b o e),J.base.free b o (J.ok.bs b o e).1 (J.ok.bs b o e).2 (J.ok.vN b o e))
def Inv.cS(J:Inv X ab σ H s):∀b o,X.base.get? b\o->s.heap.get? b\o:=λb o e=>(J.bs b o e).1
theorem Inv.mod(J:Inv X ab σ H s):Mod X.K X.mg X.base:=J.ok.mod
def Inv.gC(J:Inv X ab σ H s):X.K.In s.heap:=J.ok.mod.vz.keeps J.cS
theorem Inv.nolimit(J:Inv X ab σ H s):s.heap.NoLimit:=J.ok.mod.nolimit.keeps J.cS
def Inv.fr(J:Inv X ab σ H s):∃m,Fr X.base X.env.locals s.heap m:=
 let⟨m,a8,_⟩:=J.loc
 (m,a8,J.cS,cM J.ok.nR J.ok.above)
theorem Inv.lt(J:Inv X ab σ H s):X.env.locals<↥s:=let⟨_,a8,_⟩:=J.loc;a8.lt
def Inv.pA(J:Inv X ab σ H s):↥X.gk<=↥s:=cM J.ok.above (nv J.lt)
def Inv.GG(J:Inv X ab σ H s)(h:↥s<=a):a∉X.a5:=λaa=>by
 let(_,o,aS,_):=J.ok.mL.mem aa;exact absurd (iL (er aS) (cM J.pA h)) (oQ _)
def Inv.uq(J:Inv X ab σ H s):∀x c,X.env.cells.lookup x\c->c≠X.env.locals:=λx c e z=>by
 let(v,o,aS,hd):=J.cell x c e;let(m,(es,aU,cu,i9,JG,_),_):=J.loc;rw[z,i9]at aS;cases aS;rw[JG]at hd;cases hd
theorem Inv.mL(J:Inv X ab σ H s):s.heap.FunFrames X.base X.outer:=by
 have all:∀(l:List Env),(∀b∈nP l,b∈X.a5)->X.gk.heap.FunFrames X.base l->s.heap.FunFrames X.base l:=by
  intro l
  induction l with
  |nil=>intro _ _;trivial
  |cons env r cZ=>
   intro ay aK;let(ax,(L,o,hf,a8,aS,hd),ao):=aK;have eE:L∈X.a5:=ay L (by unfold nP;rw[P_,hf];exact oi);let(cH,e):=J.base.slot L o aS (J.ok.r_ L eE) eE λz=>J.ok.wU L z eE
   exact(ax,(L,_,hf,a8,e,hd),cZ (λb aa=>ay b (by unfold nP;rw[P_,hf];exact i7 _ aa)) ao)
 exact all X.outer (λ_ aa=>aa) J.ok.mL
theorem Inv.stack(J:Inv X ab σ H s):s.heap.FunFrames X.base X.stack:=by
 rcases J.ok.zh with e|⟨e,hf⟩
 .rw [e];exact J.mL
 .rw [e];let(m,a8,_):=J.loc;refine .cons (by rw[J.ok.kind];decide) hf a8 ?_ J.mL;exact Heap.get?_none_of_le (cM J.ok.nR J.ok.above)
def Inv.Fs(J:Inv X ab σ H s):∀b∈nP X.stack,b∈X.env.locals::X.a5:=λb aa=>by
 rcases J.ok.zh with e|⟨e,hf⟩
 .rw [e]at aa;exact i7 _ aa
 .rw [e]at aa;unfold nP at aa;rw[P_,hf]at aa;exact aa
def Inv.HS(J:Inv X ab σ H s):∀b∈nP X.stack,H b=none:=λb aa=>by
 rcases ei.mp (J.Fs b aa)with e|aa
 .rw [e];exact J.free
 .let(_,o,aS,_):=J.ok.mL.mem aa;exact J.base.free b o aS (J.ok.r_ b aa) λz=>J.ok.wU b z aa
def Inv.step{g':Array GenState}{t':Nat}{d':Drawn}{ch:List Addr}(J:Inv X ab σ H s)
  (gV:∀b∈ch,(b∈X.ex\/↥X.gk<=b)/\b≠X.env.locals/\(∀x c,X.env.cells.lookup x\c->c≠b)/\∀p∈X.fs++ab,p.1≠b)
  (keep:∀b o,b≠X.env.locals->b∉X.a5->b∉ch->s.heap.get? b\o->H b=none->h'.get? b\o)
  (slot:∀b o,b≠X.env.locals->b∈X.a5->b∉ch->s.heap.get? b\o->H b=none->∃cH,h'.get? b=some {o with slots:=cH}) (free:∀b o,b∉ch->s.heap.get? b\o->H b=none->I b=none)
  (there:∀b o,b∉ch->s.heap.get? b\o->∃es,h'.get? b\es)
  (q2:∀b xs,H b\(.tup xs)->I b\(.tup xs)) (nC:∀b o u,H b\(.eX o u)->I b\(.eX o u)) (pG:∀b ps,H b\(.hF ps)->∃more,I b\(.hF (ps++more)))
  (ns:∀m,s.heap.Ns X.env.locals m->h'.Ns X.env.locals m) (bu:fw X.prog X.w I h') (a7:AllBare g') :
  Inv X ab σ I {s with heap:=h',gens:=g',drawn:=d',toks:=t' }:=by
 have Q7:∀b o,X.gk.heap.get? b\o->b≠X.env.locals:=λb o e=>gz (iL (er e) J.ok.above)
 have Dl:∀b o,X.gk.heap.get? b\o->b∉X.ex->b∉ch:=λb o e ag aa=>by
  rcases(gV b aa).1 with z|z
  .exact ag z
  .exact absurd (iL (er e) z) (oQ _)
 have cellK:∀x c,X.env.cells.lookup x\c->∀v,s.heap.IsCell c v->h'.IsCell c v:=λx c e v ⟨o,aS,hd⟩=>by
  have zM:c∉ch:=λz=>(gV c z).2.2.1 x c e rfl
  by_cases aB:c∈X.a5
  .let(cH,q):=slot c o (J.uq x c e) aB zM aS (J.kg x c e);exact(_,q,hd)
  .exact (o,keep c o (J.uq x c e) aB zM aS (J.kg x c e),hd)
 refine(J.ok,J.os,a7,(λb o e n aa ag=>?_,λb o e n aa ag=>?_,λb o e n ag=>?_,λb o e ag=>?_,λb xs e=>q2 b xs (J.base.q2 b xs e),λb o xs e=>nC b o xs (J.base.nC b o xs e),λb ps e=>?_),?_,λx c e=>?_,?_,λx c e=>?_,λp ar=>?_,bu,J.len)
 .exact keep b o (Q7 b o e) aa (Dl b o e ag) (J.base.keep b o e n aa ag) (J.base.free b o e n ag)
 .let(cH,aq):=J.base.slot b o e n aa ag;let(afk,aD):=slot b _ (Q7 b o e) aa (Dl b o e ag) aq (J.base.free b o e n ag);exact(afk,aD)
 .let(es,aq):=J.base.there b o e ag;exact free b es (Dl b o e ag) aq (J.base.free b o e n ag)
 .let(es,aq):=J.base.there b o e ag;exact there b es (Dl b o e ag) aq
 .let(lz,aq):=J.base.pG b ps e;let(lP,aD):=pG b _ aq;exact(lz++lP,by rw[aD,Array.append_assoc])
 .obtain⟨m,a8,aK⟩:=J.loc;refine⟨m,ns m a8,fun i x v aq aD bV=>?_⟩;obtain⟨u,r,l⟩:=aK i x v aq aD bV;refine⟨u,r,?_⟩;rcases l with l|⟨k,c,e,z⟩
  .exact .inl l
  .exact .inr (k,c,e,cellK x c e _ z)
 .let(v,z):=J.cell x c e;exact(v,cellK x c e v z)
 .let(m,(o,_,_,aS,_),_):=J.loc;exact free _ o (λz=>(gV _ z).2.1 rfl) aS J.free
 .let(v,o,aS,hd):=J.cell x c e;exact free c o (λz=>(gV c z).2.2.1 x c e rfl) aS (J.kg x c e)
 .obtain⟨e,n,ne,f',d⟩:=J.pin p ar;have zM:p.1∉ch:=fun z=>(gV p.1 z).2.2.2 p ar rfl
  exact(keep p.1 p.2 ne f' zM e n,free p.1 p.2 zM e n,ne,f',d)
def Inv.un{t':Nat}(J:Inv X ab σ H s)(u:hP X.a5 [] H I s.heap h')(bu:fw X.prog X.w I h'):Inv X ab σ I {s with heap:=h',toks:=t' }:=by
 let(m,(o,aU,cu,aS,r),_):=id J.loc;let(cH,eE):=u.any aS J.free (by simp);exact J.step (g':=s.gens) (d':=s.drawn) (ch:=[]) (λ_ z=>nomatch z) (λb o _ aa _ e n=>u.keep b o e n aa (by simp)) (λb o _ aa _ e n=>u.slot b o e n aa (by simp)) (λb o _ e n=>u.free b o e n (by simp)) (λb o _ e=>u.there b o e (by simp)) u.q2 u.nC u.pG (λdU hm=>by
  let(es,yx,JK,i9,d5):=hm;rw[aS]at i9;cases i9;exact(_,yx,JK,eE,d5)) bu J.bare
def Inv.call{g':Array GenState}{t':Nat}{d':Drawn}{ch:List Addr}(J:Inv X ab σ H s)(u:hP (nP X.stack) ch H I s.heap h')(bu:fw X.prog X.w I h')(a7:AllBare g')
  (gV:∀b∈ch,(b∈X.ex\/↥X.gk<=b)/\b≠X.env.locals/\(∀x c,X.env.cells.lookup x\c->c≠b)/\∀p∈X.fs++ab,p.1≠b) :
  Inv X ab σ I {s with heap:=h',gens:=g',drawn:=d',toks:=t' }:=by
 let(m,(o,aU,cu,aS,r),_):=id J.loc;let(cH,eE):=u.any aS J.free λz=>(gV _ z).2.1 rfl
 exact J.step (ch:=ch) gV (λb o eE aa aB e n=>u.keep b o e n (λz=>(ei.mp (J.Fs b z)).elim eE aa) aB) (λb o _ _ aB e n=>u.any e n aB) (λb o aB e n=>u.free b o e n aB) (λb o aB e=>u.there b o e aB) u.q2 u.nC u.pG (λdU hm=>by
  let(es,yx,JK,i9,d5):=hm;rw[aS]at i9;cases i9;exact(_,yx,JK,eE,d5)) bu a7
def Inv.turned{t':Nat}{it:Addr}(J:Inv X ab σ H s)(k:∀b o,b≠it->s.heap.get? b\o->h'.get? b\o)(a8:H it=none)(eE:it≠X.env.locals)
  (ae:it∈X.ex\/↥X.gk<=it) (ak:∀x c,X.env.cells.lookup x\c->c≠it) (aZ:∀p∈X.fs++ab,p.1≠it):Inv X ab σ H {s with heap:=h',toks:=t' }:=by
 have yy:∀b u,H b\u->b≠it:=λb u e z=>by rw[z,a8]at e;cases e
 refine J.step (g':=s.gens) (d':=s.drawn) (ch:=[it]) (λb aa=>?_) (λb o _ _ aB e _=>k b o (λz=>aB (by simp[z])) e) (λb o _ _ aB e _=>(o.slots,k b o (λz=>aB (by simp[z])) e)) (λ_ _ _ _ n=>n)
  (λb o aB e=>(o,k b o (λz=>aB (by simp[z])) e)) (λ_ _ e=>e) (λ_ _ _ e=>e) (λb ps e=>(#[],by rw[e];simp)) (λm hm=>?_) (λb u e=>?_) J.bare
 .have e:b=it:=by simpa using aa
  subst e;exact(ae,eE,ak,aZ)
 .let(o,aU,cu,aS,r):=hm;exact(o,aU,cu,k _ o (et eE) aS,r)
 .refine(J.bu b u e).oB (λc v aB q=>k c v ?_ q) (λ_ q=>q) λ_ _ q=>q
  rcases aB with z|z
  .rw [z];exact yy b u e
  .exact yy c _ z
def Inv.tok(J:Inv X ab σ H s)(t:Nat):Inv X ab σ H {s with toks:=t}:=J.un (h':=s.heap) (t':=t) hP.refl J.bu
theorem Inv.kept(J:Inv X ab σ H s)(k:∀b u,s.heap.get? b\u->h'.get? b\u):Inv X ab σ H {s with heap:=h',toks:=t' }:=J.un (hP.kept k) (J.bu.kept k)
theorem Inv.laid(J:Inv X ab σ H s)(k:∀b u,s.heap.get? b\u->h'.get? b\u)(ar:↥s<=a)(new:e8 X.prog X.w (upd H a o) h' a o) :
  Inv X ab σ (upd H a o) {s with heap:=h',toks:=t' }:=J.un (hP.laid k ar (J.bu.fresh ar)) (J.bu.laid k ar new)
theorem Inv.write{x e:Addr}{o:gb}{t':Nat}(J:Inv X ab σ H s)(kU:u9 (H x))(he:e=x\/H e\(.own x))(k:∀b u,b≠e->s.heap.get? b\u->h'.get? b\u)(vu:∃u,h'.get? e\u)
  (new:e8 X.prog X.w (upd H x o) h' x o):Inv X ab σ (upd H x o) {s with heap:=h',toks:=t' }:=J.un (hP.write kU he k vu) (J.bu.write kU he k vu new)
def Inv.weak(J:Inv X ab σ H s)(aK:↑au=↑σ)(w:∀(i:Nat) v,au[i]?\(some v)->σ[i]?\(some v)):Inv X ab au H s:=
 (J.ok,J.os,J.bare,J.base,let⟨m,a8,zD⟩:=J.loc;(m,a8,λi x v aq aD bV=>zD i x v aq (w i v aD) bV),J.cell,J.free,J.kg,J.pin,J.bu,aK.trans J.len)
def Inv.uk(J:Inv X ab σ H s)(h:∀p∈V2,s.heap.get? p.1\p.2/\H p.1=none/\p.1≠X.env.locals/\p.1∉X.a5/\∀v,p.2.data≠.cell v):Inv X V2 σ H s:=
 (J.ok,J.os,J.bare,J.base,J.loc,J.cell,J.free,J.kg,λp ar=>(eI.mp ar).elim (λz=>J.pin p (NZ _ z)) (h p),J.bu,J.len)
def W'{N:List Str}(bl:N.Nodup){i j:Nat}{x:Str}(a:N[i]?\x)(b:N[j]?\x):i=j:=by
 let(ae,aq):=b0.mp a;let(ak,aD):=b0.mp b;exact(Cu bl).mp (aq.trans aD.symm)
def UX {M:Model} {A:Around} {E:Value->Shared->Prop} {i:Nat} {x:Str} {v:V} {u:Value} {Q:Unit->Shared->Prop} (J:Inv X ab σ H s) (bl:X.N.Nodup) (ah:X.N[i]?\x) (ag:Loc X.env.scope x) (r:be v u)
  (h:∀aj,Inv X ab (σ.set i (some v)) H aj->(∃a,wI a s.heap aj.heap/\(a=X.env.locals\/X.env.cells.lookup x\a))->Q ⟨⟩ aj) (hf:X.fn x=true\/X.env.scope.names.lookup x\.local:=by first|exact .inl rfl|exact .inr rfl|assumption):wpAny M A (storeName X.env x u) Q E s:=by
 let(m,a8,aK):=id J.loc;have agk:(X.env.scope.kind == .class||(X.env.scope.kind == .module&&X.env.locals != X.env.globals))=false:=by rw[J.ok.kind];rfl
 have Tq:i<↑σ:=by rw[J.len];exact(b0.mp ah).1
 have uq:=J.uq;have tracked:∀{a:Addr} {h':Heap},(∃o,s.heap.get? a\o/\H a=none)->wI a s.heap h'->fw X.prog X.w H h':=λ{a h'} aO ay b cT e=>by
  let(_,_,D'):=aO;refine(J.bu b cT e).oB (λc eQ aB q=>(ay.2 c ?_).trans q) (λ_ q=>q) λ_ _ q=>q
  rintro rfl;rcases aB with rfl|aB
  .rw [D']at e;cases e
  .rw [D']at aB;cases aB
 rcases ag with ax|ax
 .refine wpAny_storeName_local ax a8 (λh' Yu ay=>?_) agk;let(aeQ,_,_,ajB,_):=id a8;refine h _ (J.ok,J.os,J.bare,(λb o e n aa ag=>?_,λb o e n aa ag=>?_,J.base.free,λb o e ag=>?_,J.base.q2,J.base.nC,J.base.pG),(_,Yu,λj y yG aq aD bV=>?_),λy c e=>?_,J.free,J.kg,λp ar=>?_,tracked (aeQ,ajB,J.free) ay,by simpa using J.len) (_,ay,.inl rfl)
  .exact (ay.2 b (gz (iL (er e) J.ok.above))).trans (J.base.keep b o e n aa ag)
  .let(cH,aq):=J.base.slot b o e n aa ag;exact(cH,(ay.2 b (gz (iL (er e) J.ok.above))).trans aq)
  .let(es,aq):=J.base.there b o e ag;exact(es,(ay.2 b (gz (iL (er e) J.ok.above))).trans aq)
  .by_cases aJ:j=i
   .subst aJ;rw[ah]at aq;cases aq;rw[IF Tq]at aD;cases aD;exact(u,r,.inl (ax,by simp))
   .rw[IS (et aJ)]at aD;let(vm,d5,q):=aK j y yG aq aD bV;refine(vm,d5,?_);rcases q with⟨k,e⟩|⟨k,c,e,z⟩
    .refine .inl (k,?_);have:y≠x:=λe=>aJ (W' bl aq (e ▸ ah))
     simp[this,e]
    .exact .inr (k,c,e,z.sameBut ay (uq y c e))
  .let(eQ,z):=J.cell y c e;exact(eQ,z.sameBut ay (uq y c e))
  .let(e,n,ne,f',d):=J.pin p ar;exact((ay.2 p.1 ne).trans e,n,ne,f',d)
 .have Nr:X.fn x=true:=by
   rcases hf with z|z
   .exact z
   .rw [z]at ax;cases ax
  let(c,aB):=J.ok.has x (.inl ax);let(eQ,z):=J.cell x c aB;refine wpAny_storeName_cell J.ok.kind ax aB z (λh' wL ay=>?_);let(ou,od,aob):=id z;refine h {s with heap:=h' } (J.ok,J.os,J.bare,(λb o e n aa ag=>?_,λb o e n aa ag=>?_,J.base.free,λb o e ag=>?_,J.base.q2,J.base.nC,J.base.pG),(m,a8.sameBut ay (et (uq x c aB)),λj y yG aq aD bV=>?_),λy c' e=>?_,J.free,J.kg,λp ar=>?_,tracked (ou,od,J.kg x c aB) ay,by simpa using J.len) (c,ay,.inr aB)
  .exact (ay.2 b (gz (iL (er e) (J.ok.xi x c Nr aB)))).trans (J.base.keep b o e n aa ag)
  .let(cH,aq):=J.base.slot b o e n aa ag;exact(cH,(ay.2 b (gz (iL (er e) (J.ok.xi x c Nr aB)))).trans aq)
  .let(es,aq):=J.base.there b o e ag;exact(es,(ay.2 b (gz (iL (er e) (J.ok.xi x c Nr aB)))).trans aq)
  .by_cases aJ:j=i
   .subst aJ;rw[ah]at aq;cases aq;rw[IF Tq]at aD;cases aD;exact(u,r,.inr (.inl ax,c,aB,wL))
   .rw[IS (et aJ)]at aD;let(vm,d5,q):=aK j y yG aq aD bV;refine(vm,d5,?_);rcases q with q|⟨k,c',e,gB⟩
    .exact .inl q
    .refine .inr (k,c',e,gB.sameBut ay ?_);rintro rfl;exact aJ (W' bl aq (J.ok.inj _ _ _ e aB ▸ ah))
  .by_cases vM:c'=c
   .subst vM;exact(_,wL)
   .let(eH,eu):=J.cell y c' e;exact(eH,eu.sameBut ay vM)
  .let(e,n,ne,f',d):=J.pin p ar;refine((ay.2 p.1 ?_).trans e,n,ne,f',d);intro q;rw[q,od]at e;have dY:ou=p.2:=d2 e;exact d eQ (by rw[<- dY];exact aob)
def UE{A:Around}{x:Str}(J:Inv X ab σ H s)(bl:X.N.Nodup)(ah:X.N[i]?\x)(ag:Loc X.env.scope x)(r:be v u)
  (h:∀aj,Inv X ab (σ.set i (some v)) H aj->Q ⟨⟩ aj) (hf:X.fn x=true\/X.env.scope.names.lookup x\.local:=by first|exact .inl rfl|exact .inr rfl|assumption):wpAny M A (storeName X.env x u) Q E s:=
 UX J bl ah ag r (λaj j6 _=>h aj j6) hf
def Inv.Zn(J:Inv X ab σ H s)(aS:aj.os=s.os)(u:hP (nP X.stack) ch H I s.heap aj.heap)(bu:fw X.prog X.w I aj.heap)(a7:AllBare aj.gens)
  (gV:∀b∈ch,(b∈X.ex\/↥X.gk<=b)/\b≠X.env.locals/\(∀x c,X.env.cells.lookup x\c->c≠b)/\∀p∈X.fs++ab,p.1≠b):Inv X ab σ I aj:=by
 let(h',g',d',t',es):=aj;have e:es=s.os:=aS;subst e;exact J.call (g':=g') (t':=t') (d':=d') u bu a7 gV
end
noncomputable abbrev fT:=Value->Option Addr->av->Prop
noncomputable abbrev St:=List (Option V)
noncomputable abbrev cV:=V->av->Prop
noncomputable abbrev TE:=St->av->cV->Prop
noncomputable abbrev TT:=St->av->(Bool->av->Prop)->Prop
noncomputable abbrev fH:=St->av->(List V->av->Prop)->Prop
structure iv where
 cN:St->av->Prop
 me:cV
 cS:St->av->Prop:=λ_ _=>False
 fY:St->av->Prop:=λ_ _=>False
noncomputable abbrev eF:=iv->St->av->Prop
def gN(X:bc)(ab:List (Addr×Obj))(σ:St)(Q:cV)(u:Value)(aj:Shared):Prop:=∃v I,Inv X ab σ I aj/\be v u/\Q v I
def ey{X:bc}{ab:List (Addr×Obj)}{σ:St}{Q:cV}{u:Value}{aj:Shared}{C:Prop}(h:gN X ab σ Q u aj)(k:∀v I,Inv X ab σ I aj->be v u->Q v I->C):C:=by
 let(v,I,J,r,q):=h;exact k v I J r q
def Es(X:bc)(ab:List (Addr×Obj))(σ:St)(Q:Bool->av->Prop)(b:Bool)(aj:Shared):Prop:=∃I,Inv X ab σ I aj/\Q b I
def ahG(X:bc)(ab:List (Addr×Obj))(σ:St)(Q:List V->av->Prop)(us:List Value)(aj:Shared):Prop:=∃vs I,Inv X ab σ I aj/\cO vs us/\Q vs I
def tx(X:bc)(ab:List (Addr×Obj))(D:iv)(f:Flow)(aj:Shared):Prop:=
 match f with
 | .next=>∃au I,Inv X ab au I aj/\D.cN au I
 | .brk=>∃au I,Inv X ab au I aj/\D.cS au I
 | .cont=>∃au I,Inv X ab au I aj/\D.fY au I
 | .ret u=>∃v au I,Inv X ab au I aj/\be v u/\D.me v I
def bA(X:bc)(e:Expr)(t:TE):Prop:=
 ∀(ab:List (Addr×Obj)) (s:Shared) (σ:St) (H:av) (Q:cV),Inv X ab σ H s->t σ H Q->wpAny (model X.prog X.w) X.A (eval e X.env) (gN X ab σ Q) X.ek s
def i8(X:bc)(e:Expr)(t:TT):Prop:=
 ∀(ab:List (Addr×Obj)) (s:Shared) (σ:St) (H:av) (Q:Bool->av->Prop),Inv X ab σ H s->t σ H Q->wpAny (model X.prog X.w) X.A (isTrue e X.env (eval e X.env)) (Es X ab σ Q) X.ek s
def gv(X:bc)(e:Expr)(t:TT):Prop:=
 ∀(whole:Sem Value) (ab:List (Addr×Obj)) (s:Shared) (σ:St) (H:av) (Q:Bool->av->Prop),Inv X ab σ H s->t σ H Q->wpAny (model X.prog X.w) X.A (isTrue e X.env whole) (Es X ab σ Q) X.ek s
def gv.pt{e:Expr}{t:TT}(h:gv X e t):i8 X e t:=h _
def h8(X:bc)(aU:List Expr)(t:fH):Prop:=
 ∀(pos:Pos) (ab:List (Addr×Obj)) (s:Shared) (σ:St) (H:av) (Q:List V->av->Prop),Inv X ab σ H s->t σ H Q->wpAny (model X.prog X.w) X.A (spliced (backTo pos (starEach aU X.env))) (ahG X ab σ Q) X.ek s
def hY(X:bc)(st:Stmt)(t:eF):Prop:=
 ∀(ab:List (Addr×Obj)) (s:Shared) (σ:St) (H:av) (D:iv),Inv X ab σ H s->t D σ H->wpAny (model X.prog X.w) X.A (exec st X.env) (tx X ab D) X.ek s
def jS(X:bc)(st:List Stmt)(t:eF):Prop:=
 ∀(ab:List (Addr×Obj)) (s:Shared) (σ:St) (H:av) (D:iv),Inv X ab σ H s->t D σ H->wpAny (model X.prog X.w) X.A (execs st X.env) (tx X ab D) X.ek s
def bK{t:Sem α}{A:Around}(h:wpAny M A t Q E s)(aY:∀a s,Q a s->Q' a s):wpAny M A t Q' E s:=wpAny_mono h aY λ_ _ x=>x
section
variable{X:bc}
noncomputable def tq(H:av)(Q:cV):Option (Option V)->Prop
 |some (some v)=>Q v H
 |_=>False
def SR(H:av)(Q:cV)(v:V):tq H Q (some (some v))=Q v H:=rfl
theorem tq.out:∀{o:Option (Option V)},tq H Q o->∃v,o\(some v)/\Q v H
 |some (some v),h=>(v,rfl,h)
 |some none,h=>h.elim
 |none,h=>h.elim
def aip(H:av)(Q:cV)(o:Option (Option V)):tq H Q o=∃v,o\(some v)/\Q v H:=propext (tq.out,λ⟨_,e,h⟩=>e ▸ h)
def hv(x:V)(k:Int->Prop):Prop:=match x with
 | .int i=>k i
 |_=>False
def Qw(i:Int)(k:Int->Prop):hv (.int i) k=k i:=rfl
theorem hv.out{x:V}{k:Int->Prop}(h:hv x k):∃i,x=.int i/\k i:=by
 cases x with
 |int i=>exact(i,rfl,h)
 |_=>exact h.elim
def afN(x:V)(k:Int->Prop):hv x k=∃i,x=.int i/\k i:=propext (hv.out,λ⟨_,e,h⟩=>e ▸ h)
def i0(x:V)(k:Bool->Prop):Prop:=match x with
 | .bp i=>k i
 |_=>False
def Wz(i:Bool)(k:Bool->Prop):i0 (.bp i) k=k i:=rfl
theorem i0.out{x:V}{k:Bool->Prop}(h:i0 x k):∃i,x=.bp i/\k i:=by
 cases x with
 |bp i=>exact(i,rfl,h)
 |_=>exact h.elim
def alq(x:V)(k:Bool->Prop):i0 x k=∃i,x=.bp i/\k i:=propext (i0.out,λ⟨_,e,h⟩=>e ▸ h)
def f9(x:V)(k:Addr->Prop):Prop:=match x with
 | .ref i=>k i
 |_=>False
def UY(i:Addr)(k:Addr->Prop):f9 ⇑i k=k i:=rfl
theorem f9.out{x:V}{k:Addr->Prop}(h:f9 x k):∃i,x=⇑i/\k i:=by
 cases x with
 |ref i=>exact(i,rfl,h)
 |_=>exact h.elim
def afa(x:V)(k:Addr->Prop):f9 x k=∃i,x=⇑i/\k i:=propext (f9.out,λ⟨_,e,h⟩=>e ▸ h)
def n'(xs:List V)(k:V->Prop):Prop:=match xs with
 |[y]=>k y
 |_=>False
def T8(y:V)(k:V->Prop):n' [y] k=k y:=rfl
theorem n'.out:∀{xs:List V} {k:V->Prop},n' xs k->∃y,xs=[y]/\k y
 |[y],_,h=>(y,rfl,h)
 |[],_,h=>h.elim
 |_::_::_,_,h=>h.elim
def acq(xs:List V)(k:V->Prop):n' xs k=∃y,xs=[y]/\k y:=propext (n'.out,λ⟨_,e,h⟩=>e ▸ h)
noncomputable def BT(i:Nat):TE:=λσ H Q=>tq H Q σ[i]?
noncomputable def r3(v:V):TE:=λ_ H Q=>Q v H
def akc{x:Str}(bl:X.N[i]?\x)(aE:DW X.env.scope x)(hd:autoParam ((x==("__debug__":Str))=false) A'd)(jY:autoParam ((x==("__classdict__":Str))=false) A'd):bA X (.Name x pos) (BT i):=by
 intro ab s σ H Q J h;let(v,e,h):=tq.out h;let(m,a8,aK):=J.loc;let(u,r,l):=aK i x v bl e aE;have fin:gN X ab σ Q u s:=(v,H,J,r,h);rcases l with⟨ax,hm⟩|⟨ax,c,aB,Bg⟩
 .exact wpAny_Name (wpAny_loadName_local J.ok.kind ax a8 hm fin) hd
 .rcases ax with ax|ax
  .exact wpAny_Name (wpAny_loadName_cell J.ok.kind ax aB Bg fin) hd
  .exact wpAny_Name (wpAny_loadName_free J.ok.kind ax aB Bg fin jY) hd
def aT{i j pos}:bA X (.Constant (.int i) j pos) (r3 (.int i)):=λ_ _ _ H _ J h=>wpAny_Constant_int (.int i,H,J.tok _,(_,rfl),h)
def kG{b j pos}:bA X (.Constant (.bool b) j pos) (r3 (.bp b)):=λ_ _ _ H _ J h=>Constant_bool (.bp b,H,J,rfl,h)
def u0{j pos}:bA X (.Constant .none j pos) (r3 .cf):=λ_ _ _ H _ J h=>Constant_none (.cf,H,J,rfl,h)
def dF{x j pos}:bA X (.Constant (.str x) j pos) (r3 (.str x)):=λ_ _ _ H _ J h=>Calls.Constant_str (.str x,H,J.tok _,(_,rfl),h)
def k1(X:bc)(x:Str):Prop:=X.env.kindOf x\.globalImplicit
def E_{x:Str}(J:Inv X ab σ H s)(a7:k1 X x)(hm:X.mg x\u)(h:Q u s)
  (hd:autoParam ((x==("__debug__":Str))=false) A'd):wpAny (model X.prog X.w) X.A (eval (.Name x pos) X.env) Q E s:=
 anH J.ok.kind a7 (Calls.loadGlobal_global (by rw[J.ok.glob];exact J.mod.glob.keeps J.cS) hm h) hd
def q1{x:Str}(J:Inv X ab σ H s)(a7:k1 X x)(hm:X.mg x=none)(aE:bootBuiltins x\u)(h:Q u s)
  (a8:autoParam (x≠"__name__") A'd) (hd:autoParam ((x==("__debug__":Str))=false) A'd):wpAny (model X.prog X.w) X.A (eval (.Name x pos) X.env) Q E s:=by
 let(n_,ae,ak):=J.mod.blt;exact anH J.ok.kind a7 (Calls.loadGlobal_builtin (by rw[J.ok.glob];exact J.mod.glob.keeps J.cS) hm (by rw[J.ok.blt];exact ae.keeps J.cS) ((ak x a8).trans aE) h) hd
def ny{x:Str}(a7:k1 X x)(hm:X.mg x\u)(r:be v u)(hd:autoParam ((x==("__debug__":Str))=false) A'd):bA X (.Name x pos) (r3 v):=
 λ_ _ _ H _ J h=>E_ J a7 hm (v,H,J,r,h) hd
def xK{x:Str}(a7:k1 X x)(hm:X.mg x=none)(aE:bootBuiltins x\u)(r:be v u)(a8:autoParam (x≠"__name__") A'd)(hd:autoParam ((x==("__debug__":Str))=false) A'd):bA X (.Name x pos) (r3 v):=
 λ_ _ _ H _ J h=>q1 J a7 hm aE (v,H,J,r,h) a8 hd
variable{a b:Expr}{a_ bF:TE}{pos:Pos}
def Sf(X:bc)(op:CmpOp)(a b:Expr)(t:TE):Prop:=
 ∀(ab:List (Addr×Obj)) (s:Shared) (σ:St) (H:av) (Q:cV),Inv X ab σ H s->t σ H Q ->
  wpAny (model X.prog X.w) X.A (eval a X.env) (λv dC=>wpAny (model X.prog X.w) X.A (eval b X.env) (λu ej=>wpAny (model X.prog X.w) X.A (compareOp op v u) (gN X ab σ Q) X.ek ej) X.ek dC) X.ek s
def aa'(b:Expr)(h:op≠.In)(ak:op≠.NotIn):behindInMarks op b=false:=by
 have aq:(op==CmpOp.In)=false:=by cases op <;> first|rfl|exact absurd rfl h
 have aD:(op==adF)=false:=by cases op <;> first|rfl|exact absurd rfl ak
 cases b <;> first|rfl|(show(_&&(_||_)&&_)=false;rw[aq,aD];simp)
noncomputable def De(t:TE):TT:=λσ H Q=>t σ H λx H1=>i0 x λc=>Q c H1
def Qa{t:TE}(h:Sf X op a b t)(ae:behindInMarks op b=false:=by first|exact aa' _ ∅ ∅|rfl):i8 X (.Compare a [op] [b] pos) (De t):=by
 intro ab s σ H Q J hw;refine wpAny_isTrue_Compare1 (bK (h ab s σ H _ J hw) λv s1 ae=>bK ae λu s2 ak=>bK ak λc s3 cm=>ey cm λx H1 a0 ct bM=>?_) ae;let(d,rfl,q):=i0.out bM;cases ct;exact wpAny_truthy_bool (H1,a0,q)
def lE{e:Expr}{t:TE}(h:bA X e t)(he:autoParam (∀whole,isTrue e X.env whole=(do let v <- whole;standAt e.pos;holding [v] (truthy v))) A'i):i8 X e (De t):=by
 intro ab s σ H Q J hw;refine isTrue_plain (bK (h ab s σ H _ J hw) λv s1 cm=>ey cm λx H1 a0 ct bM=>?_) (he _);let(d,rfl,q):=i0.out bM;cases ct;exact wpAny_truthy_bool (H1,a0,q)
variable{nZ Fy:TT}{l4:List Expr}
noncomputable def Jv(t u:TT):TT:=λσ H Q=>t σ H λc H1=>if c=true then u σ H1 Q else Q false H1
noncomputable def Hh(t u:TT):TT:=λσ H Q=>t σ H λc H1=>if c=true then Q true H1 else u σ H1 Q
noncomputable def Ib(t:TT):TT:=λσ H Q=>t σ H λc H1=>Q (!c) H1
theorem p_(aO:i8 X a nZ):gv X (.BoolOp .And [a] pos) nZ:=by
 intro zl ab s σ H Q J h;refine isTrue_and (bK (aO ab s σ H Q J h) λc s1 e=>?_);cases c with
 |true=>exact isTrue_and_nil e
 |false=>exact e
theorem t6(aO:i8 X a nZ):gv X (.BoolOp .Or [a] pos) nZ:=by
 intro zl ab s σ H Q J h;refine isTrue_or (bK (aO ab s σ H Q J h) λc s1 e=>?_);cases c with
 |false=>exact isTrue_or_nil e
 |true=>exact e
theorem qn(aO:i8 X a nZ)(aa:gv X (.BoolOp .And (b::l4) pos) Fy):gv X (.BoolOp .And (a::b::l4) pos) (Jv nZ Fy):=by
 intro zl ab s σ H Q J h;refine isTrue_and (bK (aO ab s σ H _ J h) λc s1 c_=>?_);let(H1,a0,bM):=c_;cases c with
 |true=>exact aa zl ab s1 σ H1 Q a0 bM
 |false=>exact(H1,a0,bM)
theorem pN(aO:i8 X a nZ)(aa:gv X (.BoolOp .Or (b::l4) pos) Fy):gv X (.BoolOp .Or (a::b::l4) pos) (Hh nZ Fy):=by
 intro zl ab s σ H Q J h;refine isTrue_or (bK (aO ab s σ H _ J h) λc s1 c_=>?_);let(H1,a0,bM):=c_;cases c with
 |true=>exact(H1,a0,bM)
 |false=>exact aa zl ab s1 σ H1 Q a0 bM
def n8(aO:i8 X a nZ):i8 X (.UnaryOp .Not a pos) (Ib nZ):=by
 intro ab s σ H Q J h;exact isTrue_not (aO ab s σ H (λc H1=>Q (!c) H1) J h)
noncomputable def MN(a_ bF:TE):TE:=λσ H Q=>a_ σ H λx H1=>i0 x λc=>if c=true then bF σ H1 Q else Q (.bp false) H1
noncomputable def G0(a_ bF:TE):TE:=λσ H Q=>a_ σ H λx H1=>i0 x λc=>if c=true then Q (.bp true) H1 else bF σ H1 Q
noncomputable def I3(a_:TE):TE:=λσ H Q=>a_ σ H λx H1=>i0 x λc=>Q (.bp (!c)) H1
def sh{op}{t:TE}(h:bA X a t):bA X (.BoolOp op [a] pos) t:=λab s σ H Q J hw=>BoolOp_one (h ab s σ H Q J hw)
theorem sr(aO:bA X a a_)(aa:bA X (.BoolOp .And (b::l4) pos) bF):bA X (.BoolOp .And (a::b::l4) pos) (MN a_ bF):=by
 intro ab s σ H Q J h;refine BoolOp_and (bK (aO ab s σ H _ J h) λv s1 cm=>ey cm λx H1 a0 ct bM=>?_);let(c,rfl,gG):=i0.out bM;cases ct;refine wpAny_truthy_bool ?_;cases c with
 |true=>exact aa ab s1 σ H1 Q a0 gG
 |false=>exact(.bp false,H1,a0,rfl,gG)
theorem U1(aO:bA X a a_)(aa:bA X (.BoolOp .Or (b::l4) pos) bF):bA X (.BoolOp .Or (a::b::l4) pos) (G0 a_ bF):=by
 intro ab s σ H Q J h;refine BoolOp_or (bK (aO ab s σ H _ J h) λv s1 cm=>ey cm λx H1 a0 ct bM=>?_);let(c,rfl,gG):=i0.out bM;cases ct;refine wpAny_truthy_bool ?_;cases c with
 |false=>exact aa ab s1 σ H1 Q a0 gG
 |true=>exact(.bp true,H1,a0,rfl,gG)
def K9(aO:bA X a a_):bA X (.UnaryOp .Not a pos) (I3 a_):=by
 intro ab s σ H Q J h;refine UnaryOp_ (bK (aO ab s σ H _ J h) λv s1 cm=>ey cm λx H1 a0 ct bM=>?_);let(c,rfl,gG):=i0.out bM;cases ct;exact not_of (wpAny_truthy_bool (.bp (!c),H1,a0,rfl,gG))
noncomputable def Kj(t:TT)(a_ bF:TE):TE:=λσ H Q=>t σ H λc H1=>if c=true then a_ σ H1 Q else bF σ H1 Q
theorem tP(aB:i8 X c nZ)(aO:bA X a a_)(aa:bA X b bF):bA X (.IfExp c a b pos) (Kj nZ a_ bF):=by
 intro ab s σ H Q J h;refine wpAny_IfExp (bK (aB ab s σ H _ J h) λd s1 c_=>?_);let(H1,a0,bM):=c_;cases d with
 |true=>exact aO ab s1 σ H1 Q a0 bM
 |false=>exact aa ab s1 σ H1 Q a0 bM
end
def az(K:bk)(H:av)(a:Addr)(xs:List V):Prop:=
 mq H a (.lst xs) \/
  ∃(o:Obj) (a':Array Value) (n:Nat),K.lookup a\o/\o.cls=.type "list"/\o.dict=none/\o.data=.seq a' n/\a'.size<=sizeLine/\cO xs a'.toList
def dM(K:bk)(H:av)(a:Addr)(xs:List V):Prop:=
 mq H a (.tup xs) \/
  ∃(o:Obj) (a':Array Value) (n:Nat),K.lookup a\o/\o.cls=.type "tuple"/\o.data=.seq a' n/\a'.size<=sizeLine/\cO xs a'.toList
noncomputable def aaq:Value->Option V
 | .none=>some .cf
 | .bool b=>some (.bp b)
 | .int i _=>some (.int i)
 | .str x _=>some (.str x)
 | .bytes b _=>some (.mr b)
 | .float b _=>some (.tI b)
 | .ref a=>some (.ref a)
 | .type n=>some (.ty n)
 |_=>none
theorem be.abs{x:V}(r:be x u):aaq u\x:=by
 cases x with
 |cf=>cases r;rfl
 |bp _=>cases r;rfl
 |int _=>let(t,rfl):=r;rfl
 |str _=>let(t,rfl):=r;rfl
 |mr _=>let(t,rfl):=r;rfl
 |tI _=>let(t,rfl):=r;rfl
 |ref _=>cases r;rfl
 |ty _=>cases r;rfl
def be.inj{x y:V}(r:be x u)(q:be y u):x=y:=d2 (r.abs.symm.trans q.abs)
theorem cO.inj:∀{xs ys:List V} {us:List Value},cO xs us->cO ys us->xs=ys
 |_,_,_,.nil,.nil=>rfl
 |_,_,_,.cons r t,.cons d5 t'=>by rw[r.inj d5,cO.inj t t']
section
variable{X:bc}{ab:List (Addr×Obj)}{σ:St}{H:av}{s:Shared}{a:Addr}{xs ys:List V}
def az.of{K:bk}(h:H a\(.lst xs)):az K H a xs:=.inl (.inl h)
def dM.of{K:bk}(h:H a\(.tup xs)):dM K H a xs:=.inl (.inl h)
def Inv.list(J:Inv X ab σ H s)(h:az X.K H a xs):∃a':List Value,cO xs a'/\PlainL s.heap a a'.toArray/\↑xs<=sizeLine:=by
 rcases h with h|⟨o,a',n,ax,aB,hd,ay,aQ,r⟩
 .let(z,a',n,r,e):=h.ok J.bu;exact(a',r,(_,n,e,rfl,rfl,rfl),z)
 .refine (a'.toList,r,(o,n,J.gC a o ax,aB,hd,by simpa using ay),?_);have e:=↑r;simp only[Gm]at e;omega
def Inv.tuple(J:Inv X ab σ H s)(h:dM X.K H a xs):∃a':List Value,cO xs a'/\IsTup s.heap a a'.toArray/\↑xs<=sizeLine:=by
 rcases h with h|⟨o,a',n,ax,aB,ay,aQ,r⟩
 .let(z,a',r,p):=h.ok J.bu;exact(a',r,p,z.1)
 .refine (a'.toList,r,(o,J.gC a o ax,aB,n,by simpa using ay),?_);have e:=↑r;simp only[Gm]at e;omega
def Inv.Bw(J:Inv X ab σ H s)(h:az X.K H a xs)(h':az X.K H a ys):xs=ys:=by
 let(a',r,(o,n,e,_,_,d),_):=J.list h;let(its',d5,(es,d0,bD,_,_,d'),_):=J.list h';rw[e]at bD;cases bD;rw[d]at d';injection d' with ez _;have:a'=its':=by simpa using congrArg al7 ez
 subst this;exact r.inj d5
def Inv.aij(J:Inv X ab σ H s)(h:dM X.K H a xs)(h':dM X.K H a ys):xs=ys:=by
 let(a',r,(o,e,_,n,d),_):=J.tuple h;let(its',d5,(es,bD,_,d0,d'),_):=J.tuple h';rw[e]at bD;cases bD;rw[d]at d';injection d' with ez _;have:a'=its':=by simpa using congrArg al7 ez
 subst this;exact r.inj d5
end
noncomputable abbrev bc.md(X:bc)(E:Value->Shared->Prop):bc:={X with ek:=E}
noncomputable abbrev bc.tQ(X:bc):bc:=X.md λ_ _=>False
theorem bc.Ok.md{X:bc}(ok:X.Ok)(E:Value->Shared->Prop):(X.md E).Ok:=
 (ok.mod,ok.kind,ok.glob,ok.blt,ok.above,ok.inj,ok.has,ok.xi,ok.hd,ok.frames,ok.zh,ok.Hc,ok.bs,ok.nR,ok.vN,ok.wU,ok.mL,ok.r_)
def bc.Ok.rP{X:bc}{E:Value->Shared->Prop}(ok:(X.md E).Ok):X.Ok:=
 (ok.mod,ok.kind,ok.glob,ok.blt,ok.above,ok.inj,ok.has,ok.xi,ok.hd,ok.frames,ok.zh,ok.Hc,ok.bs,ok.nR,ok.vN,ok.wU,ok.mL,ok.r_)
section
variable{X:bc}{ab:List (Addr×Obj)}{σ:St}{H:av}{s:Shared}{E:Value->Shared->Prop}
theorem Inv.md(J:Inv X ab σ H s)(E:Value->Shared->Prop):Inv (X.md E) ab σ H s:=(J.ok.md E,J.os,J.bare,J.base,J.loc,J.cell,J.free,J.kg,J.pin,J.bu,J.len)
theorem Inv.rP(J:Inv (X.md E) ab σ H s):Inv X ab σ H s:=(J.ok.rP,J.os,J.bare,J.base,J.loc,J.cell,J.free,J.kg,J.pin,J.bu,J.len)
theorem tx.rP(h:tx (X.md E) ab D f aj):tx X ab D f aj:=by
 cases f with
 |next=>let(au,I,J,q):=h;exact(au,I,J.rP,q)
 |brk=>let(au,I,J,q):=h;exact(au,I,J.rP,q)
 |cont=>let(au,I,J,q):=h;exact(au,I,J.rP,q)
 |ret u=>let(v,au,I,J,r,q):=h;exact(v,au,I,J.rP,r,q)
theorem jS.tQ{st:List Stmt}{t:eF}(h:jS X.tQ st t):jS X st t:=λab s σ H D J hw=>
 wpAny_mono (h ab s σ H D (J.md _) hw) (λ_ _ q=>q.rP) λ_ _ z=>k9 z
end
section
variable{X:bc}{st:Stmt}{l4:List Stmt}{t u:eF}{e:Expr}{bW:TE}{pos:Pos}
noncomputable def gy:eF:=λD σ H=>D.cN σ H
noncomputable def acz:Nat:=0
noncomputable def xD:Nat:=acz
noncomputable def vd:Nat:=xD
noncomputable def C':Nat:=vd
noncomputable def ZR:Nat:=C'
noncomputable def aai:Nat:=ZR
noncomputable def abx:Nat:=aai
noncomputable def agR:Nat:=abx
noncomputable def ab9:Nat:=agR
noncomputable def ah8:Nat:=ab9
noncomputable def Ze:Nat:=ah8
noncomputable def amh:Nat:=Ze
noncomputable def ail:Nat:=amh
noncomputable def HQ(t u:eF):eF:=λD σ H=>(λ_:Nat=>t {D with cN:=u D} σ H) ail
def en:jS X [] gy:=λ_ _ σ H _ J h=>wpAny_execs_nil (σ,H,J,h)
theorem db(ae:hY X st t)(ak:jS X l4 u):jS X (st::l4) (HQ t u):=by
 intro ab s σ H D J h;refine wpAny_execs_cons (bK (ae ab s σ H {D with cN:=u D} J h) λf s1 q=>?_);cases f with
 |next=>
  let(au,I,j6,q):=q;exact ak ab s1 au I D j6 q
 |ret v=>exact q
 |brk=>exact q
 |cont=>exact q
theorem a4(ae:hY X st t):jS X [st] t:=by
 intro ab s σ H D J h;refine wpAny_execs_cons (bK (ae ab s σ H D J h) λf s1 q=>?_);cases f with
 |next=>exact wpAny_execs_nil q
 |ret v=>exact q
 |brk=>exact q
 |cont=>exact q
def Inv.quiet(J:Inv X ab σ H s):interactive X.env=false:=by simp[interactive,J.ok.kind]
noncomputable def NV(bW:TE):eF:=λD σ H=>bW σ H λ_ H1=>D.cN σ H1
def ea(he:bA X e bW)(ay:autoParam (swapsWith e none pos.line X.env=pure false) A'r):hY X (.Expr e pos) (NV bW):=by
 intro ab s σ H D J h;exact wpAny_Expr_any (bK (he ab s σ H _ J h) λv s1 cm=>ey cm λx H1 a0 ct bM=>(σ,H1,a0,bM)) J.quiet ay
noncomputable def Bc(bW:TE):eF:=λD σ H=>bW σ H D.me
def b7(he:bA X e bW):hY X (.Return (some e) pos) (Bc bW):=by
 intro ab s σ H D J h;exact wpAny_Return_some (bK (he ab s σ H _ J h) λv s1 cm=>ey cm λx H1 a0 ct bM=>(x,σ,H1,a0,ct,bM))
noncomputable def Kn:eF:=λD _ H=>D.me .cf H
def aes:hY X (.Return none pos) Kn:=λ_ _ σ H _ J h=>wpAny_Return_none (.cf,σ,H,J,rfl,h)
noncomputable def KL(c:TT)(t u:eF):eF:=λD σ H=>c σ H λb H1=>if b=true then t D σ H1 else u D σ H1
theorem d4(aB:i8 X c c9)(aO:jS X a t)(aa:jS X b u):hY X (.If c a b pos) (KL c9 t u):=by
 intro ab s σ H D J h;refine wpAny_If (bK (aB ab s σ H _ J h) λd s1 c_=>?_);let(H1,a0,bM):=c_;cases d with
 |true=>exact aO ab s1 σ H1 D a0 bM
 |false=>exact aa ab s1 σ H1 D a0 bM
noncomputable def Mr:eF:=λ_ _ _=>False
def Ch:hY X st Mr:=λ_ _ _ _ _ _ h=>h.elim
end
noncomputable abbrev g5:=V->St->av->(St->av->Prop)->Prop
noncomputable abbrev ux:=List V->St->av->(St->av->Prop)->Prop
def p4(X:bc)(xy:Expr)(t:g5):Prop:=
 ∀(ab:List (Addr×Obj)) (s:Shared) (σ:St) (H:av) (v:V) (u:Value) (Q:St->av->Prop),Inv X ab σ H s->be v u->t v σ H Q ->
  wpAny (model X.prog X.w) X.A (assign xy X.env u) (λ_ aj=>∃au I,Inv X ab au I aj/\Q au I) X.ek s
def yH(X:bc)(ts:List Expr)(t:ux):Prop:=
 ∀(ab:List (Addr×Obj)) (s:Shared) (σ:St) (H:av) (vs:List V) (us:List Value) (Q:St->av->Prop),Inv X ab σ H s->cO vs us->t vs σ H Q ->
  wpAny (model X.prog X.w) X.A (assignInOrder ((assignEach ts X.env).map (·.2)) us) (λ_ aj=>∃au I,Inv X ab au I aj/\Q au I) X.ek s
section
variable{X:bc}{pos:Pos}
noncomputable def gU(i:Nat):g5:=λv σ H Q=>Q (σ.set i (some v)) H
def R8{x:Str}(bl:X.N.Nodup)(ah:X.N[i]?\x)(ag:Loc X.env.scope x)(hf:X.fn x=true\/X.env.scope.names.lookup x\.local:=by first|exact .inl rfl|exact .inr rfl|assumption):p4 X (.Name x pos) (gU i):=by
 intro ab s σ H v u Q J r h;exact wpAny_assign_Name (UE J bl ah ag r (λaj j6=>(_,H,j6,h)) hf)
noncomputable def wS:ux:=λvs σ H Q=>vs=[]/\Q σ H
noncomputable def tO(t:g5)(u:ux):ux:=λvs σ H Q=>∃v r,vs=v::r/\t v σ H λau I=>u r au I Q
def kx:yH X [] wS:=by
 intro ab s σ H vs us Q J r h;let(e,h):=h;subst e;cases r;exact assignInOrder_nil (σ,H,J,h)
theorem ac{e:Expr}{t:g5}(ae:p4 X e t)(ak:yH X aU u)
  (ay:autoParam ((assignEach (e::aU) X.env).map (·.2)=assign e X.env::(assignEach aU X.env).map (·.2)) A'r):yH X (e::aU) (tO t u):=by
 intro ab s σ H vs us Q J r h;let(v,aqp,aq,h):=h;subst aq;cases r with
 |cons r kT=>
  rw[ay];refine assignInOrder_cons (bK (ae ab s σ H _ _ _ J r h) λ_ s1 c_=>?_);let(fG,H1,a0,bM):=c_;exact ak ab s1 fG H1 _ _ Q a0 kT bM
noncomputable def wO(K:bk)(n:Nat)(t:ux):g5:=λv σ H Q=>∃a xs,v=⇑a/\dM K H a xs/\↑xs=n/\t xs σ H Q
def aa1{k:Nat}{t:ux}(aB:X.calm=true)(h:yH X aU t)
  (a8:autoParam (↑(assignEach aU X.env)=n) A'r) (e9:autoParam ((assignEach aU X.env).findIdx? (·.1)=none) A'r):p4 X (.Tuple aU k pos) (wO X.K n t):=by
 intro ab s σ H v u Q J r hw;let(a,xs,aq,aI,aK,hw):=hw;subst aq;cases r;let(a',cI,c6,aQ):=J.tuple aI;refine assign_Tuple_tuple (J.ok.hd aB) c6 (by simp[a8,<- aK,cI.length]) e9 λh' ag=>?_
 have a0:Inv X ab σ H {s with heap:=h' }:=J.kept (t':=s.toks) λb o e=>ag b o (gz (er e)) e
 exact h ab _ σ H xs _ Q a0 (by simpa using cI) hw
noncomputable def vf(bW:TE)(g:g5):eF:=λD σ H=>bW σ H λx H1=>g x σ H1 D.cN
def MH{dr e:Expr}(he:bA X e bW)(a7:p4 X dr g)(ay:autoParam (swapsWithSole [dr] e pos.line X.env=pure false) A'r)(hw:autoParam (swappedStores [dr] e X.env=pure none) A'r)
  (ae:autoParam ((assignEach [dr] X.env).map (·.2)=[assign dr X.env]) A'r):hY X (.Assign [dr] e pos) (vf bW g):=by
 intro ab s σ H D J h;refine wpAny_Assign_stores (bK (he ab s σ H _ J h) λv s1 cm=>ey cm λx H1 a0 ct bM=>?_) ay hw;rw[ae];exact bK (a7 ab s1 σ H1 x v _ a0 ct bM) λ_ s2 q=>q
def o1{x:Str}{e:Expr}(bl:X.N.Nodup)(ah:X.N[i]?\x)(ag:Loc X.env.scope x)(he:bA X e bW)(ay:autoParam (swapsWith e (some (.Name x pos')) pos.line X.env=pure false) A'r)(hf:X.fn x=true\/X.env.scope.names.lookup x\.local:=by first|exact .inl rfl|exact .inr rfl|assumption) :
  hY X (.Assign [.Name x pos'] e pos) (vf bW (gU i)):=by
 intro ab s σ H D J h;refine wpAny_Assign_Name (bK (he ab s σ H _ J h) λv s1 cm=>ey cm λy H1 a0 ct bM=>?_) ay;exact UE a0 bl ah ag ct (λs2 b1=>(_,H1,b1,bM)) hf
noncomputable def P9(c:TT)(bF:eF):eF:=λD σ H=>∃W:Nat->St->av->Prop,(∃m,W m σ H)/\∀m σ H,W m σ H ->
 c σ H λb H1=>if b=true then ∃N:St->av->Prop,(∀au I,N au I->∃dU,dU<m/\W dU au I)/\bF {D with cN:=N,fY:=N,cS:=D.cN} σ H1 else D.cN σ H1
theorem aaU(ar:PassesOwn (model X.prog X.w) X.A X.env X.ek)(aB:i8 X c c9)(aa:jS X body bF):hY X (.While c body [] pos) (P9 c9 bF):=by
 intro ab s σ H D J h;let(W,(m0,lX),turn):=h;refine wpAny_While (codeAny_whileLoop (λn aj=>∃au I,Inv X ab au I aj/\W n au I) ?_ m0 (σ,H,J,lX));intro n s1 (fG,H1,a0,dN);refine wpAny_passesOwn ar (bK (aB ab s1 fG H1 _ a0 (turn n fG H1 dN)) λb s2 c_=>?_);let(aw,b1,d7):=c_;cases b with
 | true=>
  let(N,bl,d7):=d7;rw[if_pos rfl];refine wpAny_passesOwn ar (bK (aa ab s2 fG aw _ b1 d7) λf s3 hb=>?_);cases f with
  |next=>
   let(gi,ba,fu,dw):=hb;let(dU,hm,ij):=bl gi ba dw;exact(dU,hm,gi,ba,fu,ij)
  |cont=>
   let(gi,ba,fu,dw):=hb;let(dU,hm,ij):=bl gi ba dw;exact(dU,hm,gi,ba,fu,ij)
  |brk=>exact hb
  |ret v=>exact hb
 |false=>
  rw[if_neg fX];exact wpAny_execs_nil (fG,aw,b1,d7)
end
structure kq where
 go:Nat->av->Prop
 ro:Nat->av->V->av->Prop
 stop:Nat->av->Prop
def ji(X:bc)(ab:List (Addr×Obj))(H:av)(b:Addr):Prop:=
 H b=none/\b≠X.env.locals/\b∉X.a5/\(b∈X.ex\/↥X.gk<=b)/\(∀x c,X.env.cells.lookup x\c->c≠b)/\∀p∈X.fs++ab,p.1≠b
def Inv.oz(J:Inv X ab σ H s)(aa:↥s<=b)(a8:I b=none):ji X ab I b:=by
 refine(a8,Eh (iL J.lt aa),J.GG aa,.inr (cM J.pA aa),λx c e z=>?_,λp ar z=>?_)
 .let(v,q):=J.cell x c e;exact absurd (iL q.lt (by rw[z];exact aa)) (oQ _)
 .exact absurd (iL (er (J.pin p ar).1) (by rw[z];exact aa)) (oQ _)
structure rq(P:Program)(w:World)(K:bk)(dr:Expr)(bz:kq)(bg:List Addr)(it:Addr)(eU:Nat->Heap->Prop):Prop where
 mem:it∈bg
 obj:∀i h,eU i h->∀b∈bg,∃o,h.get? b\o/\∀v,o.data≠.cell v
 keep:∀i h h',eU i h->(∀b∈bg,∀o,h.get? b\o->h'.get? b\o)->eU i h'
 item:∀(X:bc),X.prog=P->X.w=w->X.K=K->X.calm=true->∀(i:Nat) (ab:List (Addr×Obj)) (s:Shared) (σ:St) (H:av) (E:Value->Shared->Prop),Inv X ab σ H s->(∀b∈bg,ji X ab H b)->eU i s.heap->bz.go i H ->
  wpAny (model P w) X.A (pyNext ⇑it) (λr s1=>∃u,r\u /\
   wpAny (model P w) X.A (letOwnedTupleGo dr ⇑it u) (λ_ s2=>∃x I,Inv X ab σ I s2/\be x u/\bz.ro i H x I/\eU (i+1) s2.heap/\∀b∈bg,I b=none) E s1) E s
 done:∀(X:bc),X.prog=P->X.w=w->X.K=K->X.calm=true->∀(i:Nat) (ab:List (Addr×Obj)) (s:Shared) (σ:St) (H:av) (E:Value->Shared->Prop),Inv X ab σ H s->(∀b∈bg,ji X ab H b)->eU i s.heap->bz.stop i H ->
  wpAny (model P w) X.A (pyNext ⇑it) (λr s1=>r=none/\Inv X ab σ H s1) E s
 self:∀(A:Around) (i:Nat) (s:Shared) (Q:Value->Shared->Prop) (E:Value->Shared->Prop),eU i s.heap->Q ⇑it s->wpAny (model P w) A (pyIter ⇑it) Q E s
noncomputable abbrev TI:=St->av->(kq->av->Prop)->Prop
def V5(X:bc)(ab:List (Addr×Obj))(σ:St)(dr:Expr)(R:kq->av->Prop)(Eo:Value)(s2:Shared):Prop:=
 ∃(it:Addr) (bg:List Addr) (eU:Nat->Heap->Prop) (bz:kq) (I:av),Eo=⇑it/\Inv X ab σ I s2/\rq X.prog X.w X.K dr bz bg it eU/\eU 0 s2.heap/\(∀b∈bg,ji X ab I b)/\R bz I
def ot(X:bc)(dr iter:Expr)(hX:TI):Prop:=
 ∀(ab:List (Addr×Obj)) (s:Shared) (σ:St) (H:av) (R:kq->av->Prop),Inv X ab σ H s->hX σ H R ->
  wpAny (model X.prog X.w) X.A (eval iter X.env) (λv s1=>wpAny (model X.prog X.w) X.A (pyIter v) (V5 X ab σ dr R) X.ek s1) X.ek s
theorem yV {A:Around} {it:Addr} (aS:s.heap.get? it\o) (aB:o.cls=.type n) (hd:o.data=.fields vs)
    (a8:["enumerate","zip","dict_itemiterator","dict_reverseitemiterator","odict_iterator","itertools.zip_longest","itertools.pairwise"].contains n=false) (aY:Q ⟨⟩ s):wpAny M A (letOwnedTupleGo dr ⇑it u) Q E s:=by
  unfold letOwnedTupleGo;cases dr <;> first
    |exact wpAny_pure aY
    |(cases u <;> first
        |exact wpAny_pure aY
        | (refine wpAny_bind (wpAny_load aS ?_)
           rw[aB,hd];show wpAny M A (if(["enumerate","zip","dict_itemiterator","dict_reverseitemiterator","odict_iterator","itertools.zip_longest","itertools.pairwise"].contains n&&vs[0]? == some (rawInt _))=true then _ else _) Q E s;rw[if_neg (by intro h;rw[a8,om]at h;cases h)];exact wpAny_pure aY))
noncomputable def pC(K:bk)(a:Addr):kq:=
 (λi H=>∃xs x,az K H a xs/\xs[i]?\x,λi H x I=>I=H/\∀xs,az K H a xs->xs[i]?\x,λi H=>∃xs,az K H a xs/\↑xs<=i)
noncomputable def D1(K:bk)(a:Addr):kq:=
 (λi H=>∃xs x,dM K H a xs/\xs[i]?\x,λi H x I=>I=H/\∀xs,dM K H a xs->xs[i]?\x,λi H=>∃xs,dM K H a xs/\↑xs<=i)
noncomputable def mF(lo:Int)(n:Nat):kq:=(λi _=>i<n,λi H x I=>I=H/\x=.int (lo+i),λi _=>n<=i)
def dL{w:World}{K:bk}(a it:Addr):rq P w K dr (pC K a) [it] it (λi h=>h.IsListIter it a i)where
 mem:=by simp
 obj:=λi h st b aa=>by
  have e:b=it:=by simpa using aa
  subst e;let(o,e,c,d):=st;exact(o,e,λv z=>by rw[d]at z;cases z)
 keep:=λi h h' st k=>st.at λo e=>k it (by simp) o e
 item:=by
  intro X cK hw fU aB i ab s σ H E J hf st a7;subst cK hw fU;let(xs,x,aI,ag):=a7;let(a',cI,p,aQ):=J.list aI;let(u,bR,fm):=cI.get ag;let(f0,f1,f2,eV,f4,fq):=hf it (by simp);refine wpAny_pyNext_list_item st p.isList (x:=u) (by simpa using bR) λh' mm p6=>?_
  have a0:Inv X ab σ H {s with heap:=h' }:=J.turned (t':=s.toks) (λb o aa e=>(p6.2 b aa).trans e) f0 f1 eV f4 fq;let(o,e,c,d):=id mm;exact(u,rfl,yV (s:={s with heap:=h' }) e c d ∅ (x,H,a0,fm,(rfl,λys aM=>by rw[J.Bw aM aI];exact ag),mm,λb aa=>(hf b aa).1))
 done:=by
  intro X cK hw fU aB i ab s σ H E J hf st a7;subst cK hw fU;let(xs,aI,ag):=a7;let(a',cI,p,aQ):=J.list aI;let(f0,f1,f2,eV,f4,fq):=hf it (by simp);have aK:=↑cI;exact wpAny_pyNext_list_end (J.ok.hd aB) st p.isList (by simp;omega) λh' fe=>(rfl,J.turned (t':=s.toks) (λb o aa e=>fe b o aa e) f0 f1 eV f4 fq)
 self:=λ_ _ _ _ _ st h=>wpAny_pyIter_listiter st h
def al2{w:World}{K:bk}(a it:Addr):rq P w K dr (D1 K a) [it] it (λi h=>h.IsTupleIter it a i)where
 mem:=by simp
 obj:=λi h st b aa=>by
  have e:b=it:=by simpa using aa
  subst e;let(o,e,c,d):=st;exact(o,e,λv z=>by rw[d]at z;cases z)
 keep:=λi h h' st k=>st.at λo e=>k it (by simp) o e
 item:=by
  intro X cK hw fU aB i ab s σ H E J hf st a7;subst cK hw fU;let(xs,x,aI,ag):=a7;let(a',cI,p,aQ):=J.tuple aI;let(u,bR,fm):=cI.get ag;let(f0,f1,f2,eV,f4,fq):=hf it (by simp);refine wpAny_pyNext_tuple_item st (show s.heap.IsTuple a a'.toArray from p) (x:=u) (by simpa using bR) λh' mm p6=>?_
  have a0:Inv X ab σ H {s with heap:=h' }:=J.turned (t':=s.toks) (λb o aa e=>(p6.2 b aa).trans e) f0 f1 eV f4 fq;let(o,e,c,d):=id mm;exact(u,rfl,yV (s:={s with heap:=h' }) e c d ∅ (x,H,a0,fm,(rfl,λys aM=>by rw[J.aij aM aI];exact ag),mm,λb aa=>(hf b aa).1))
 done:=by
  intro X cK hw fU aB i ab s σ H E J hf st a7;subst cK hw fU;let(xs,aI,ag):=a7;let(a',cI,p,aQ):=J.tuple aI;let(f0,f1,f2,eV,f4,fq):=hf it (by simp);have aK:=↑cI;exact wpAny_pyNext_tuple_end (J.ok.hd aB) st (show s.heap.IsTuple a a'.toArray from p) (by simp;omega) λh' fe=>(rfl,J.turned (t':=s.toks) (λb o aa e=>fe b o aa e) f0 f1 eV f4 fq)
 self:=λ_ _ _ _ _ st h=>wpAny_pyIter_tupleiter st h
def abq{w:World}{K:bk}(it:Addr)(lo:Int)(n:Nat):rq P w K dr (mF lo n) [it] it (λi h=>IsRangeIter h it (lo+(i:Nat)*1) ((n:Int)-(i:Nat)) 1)where
 mem:=by simp
 obj:=λi h st b aa=>by
  have e:b=it:=by simpa using aa
  subst e;exact(_,st,λv z=>by
   have gB:Vq _=Cy v:=z;cases gB)
 keep:=λi h h' st k=>k it (by simp) _ st
 item:=by
  intro X cK hw fU aB i ab s σ H E J hf st a7;subst cK hw fU;let(f0,f1,f2,eV,f4,fq):=hf it (by simp);have W:=Walks.range (prog:=X.prog) (w:=X.w) (J.ok.hd aB) it lo 1 n;refine W.item i s _ _ a7 st λv h' tk aE mm rn=>?_
  let(t,rfl):=aE;have a0:Inv X ab σ H {s with heap:=h',toks:=tk}:=J.turned (λb o aa e=>rn b o (by simpa using aa) e) f0 f1 eV f4 fq;refine(_,rfl,yV (s:={s with heap:=h',toks:=tk}) (n:="range_iterator") mm rfl rfl ∅ (.int (lo+i),H,a0,(t,?_),(rfl,rfl),mm,λb aa=>(hf b aa).1));rw[Int.mul_one]
 done:=by
  intro X cK hw fU aB i ab s σ H E J hf st a7;subst cK hw fU;let(f0,f1,f2,eV,f4,fq):=hf it (by simp);exact wpAny_pyNext_range_end (J.ok.hd aB) st (by have:n<=i:=a7;omega) λh' fe=>(rfl,J.turned (t':=s.toks) (λb o aa e=>fe b o aa e) f0 f1 eV f4 fq)
 self:=λ_ _ _ _ _ st h=>wpAny_pyIter_rangeiter st h
section
variable{X:bc}{dr:Expr}
noncomputable def Hp(K:bk)(c7:TE):TI:=λσ H R=>c7 σ H λx H1=>f9 x λa=>(∃xs,az K H1 a xs)/\R (pC K a) H1
noncomputable def H6(K:bk)(c7:TE):TI:=λσ H R=>c7 σ H λx H1=>f9 x λa=>(∃xs,dM K H1 a xs)/\R (D1 K a) H1
def e6(aK:bA X l c7):ot X dr l (Hp X.K c7):=by
 intro ab s σ H R J h;refine bK (aK ab s σ H _ J h) λv s1 cm=>ey cm λx H1 a0 ct bM=>?_
 let(a,e,(xs,aI),q):=f9.out bM;subst e;cases ct;let(a',cI,p,aQ):=a0.list aI;refine wpAny_pyIter_list p.isList ?_;refine(↥s1,[↥s1],_,_,H1,rfl,a0.kept (t':=s1.toks) λb o e=>e2 _ e,dL a _,(_,hq _ rfl,rfl,rfl),λb aa=>?_,q);have e:b=↥s1:=by simpa using aa
 subst e;exact a0.oz (bQ _) (a0.bu.fresh (bQ _))
def abl(aK:bA X l c7):ot X dr l (H6 X.K c7):=by
 intro ab s σ H R J h;refine bK (aK ab s σ H _ J h) λv s1 cm=>ey cm λx H1 a0 ct bM=>?_
 let(a,e,(xs,aI),q):=f9.out bM;subst e;cases ct;let(a',cI,p,aQ):=a0.tuple aI;refine wpAny_pyIter_tuple (show s1.heap.IsTuple a a'.toArray from p) ?_;refine(↥s1,[↥s1],_,_,H1,rfl,a0.kept (t':=s1.toks) λb o e=>e2 _ e,al2 a _,(_,hq _ rfl,rfl,rfl),λb aa=>?_,q);have e:b=↥s1:=by simpa using aa
 subst e;exact a0.oz (bQ _) (a0.bu.fresh (bQ _))
def U0{ab:List (Addr×Obj)}{σ:St}{H:av}{s:Shared}{R:kq->av->Prop}{E:Value->Shared->Prop}{lo ah:Int}{t u v:Tok}{tk:Nat}(J:Inv X ab σ H s)(ae:-(2 ^ 62)<=lo)(ak:lo<2 ^ 62)(aZ:-(2 ^ 62)<=ah)(bY:ah<2 ^ 62)
  (q:R (mF lo (ah-lo).toNat) H):wpAny (model X.prog X.w) X.A (pyIter (.ref ↥s)) (V5 X ab σ dr R) E {s with heap:=s.heap.push {cls:=.type "range",data:=.fields #[.int lo t,.int ah u,.int 1 v]},toks:=tk}:=by
 refine wpAny_pyIter_range (IsRange.new ..) (small_one ae ak aZ bY) ?_;have a0:Inv X ab σ H {s with heap:=s.heap.push {cls:=.type "range",data:=.fields #[.int lo t,.int ah u,.int 1 v]},toks:=tk}:=J.kept λb o e=>e2 _ e
 refine((s.heap.push {cls:=.type "range",data:=.fields #[.int lo t,.int ah u,.int 1 v]}).objs.size,[(s.heap.push {cls:=.type "range",data:=.fields #[.int lo t,.int ah u,.int 1 v]}).objs.size],_,_,H,rfl,
  a0.kept (t':=tk) λb o e=>e2 _ e,abq _ lo (ah-lo).toNat,?_,λb aa=>?_,q)
 .have aq:lo+((0:Nat):Int)*1=lo:=by simp
  have aD:(((ah-lo).toNat:Nat):Int)-((0:Nat):Int)=aqr lo ah 1:=by rw[rangeSize_one];split <;> omega
  show IsRangeIter _ _ (lo+((0:Nat):Int)*1) ((((ah-lo).toNat:Nat):Int)-((0:Nat):Int)) 1;rw[aq,aD];exact hq _ rfl
 .have e:b=(s.heap.push {cls:=.type "range",data:=.fields #[.int lo t,.int ah u,.int 1 v]}).objs.size:=by simpa using aa
  subst e;exact a0.oz (bQ _) (a0.bu.fresh (bQ _))
noncomputable def UH(a_:fH):TI:=λσ H R=>a_ σ H λvs H1=>n' vs λx=>hv x λj=>-(2 ^ 62)<=j/\j<2 ^ 62/\R (mF 0 j.toNat) H1
noncomputable def OT(a_:fH):TI:=λσ H R=>a_ σ H λvs H1=>∃i j:Int,vs=[.int i,.int j]/\(-(2 ^ 62)<=i/\i<2 ^ 62/\-(2 ^ 62)<=j/\j<2 ^ 62)/\R (mF i (j-i).toNat) H1
theorem l0{a:Expr}{a_:fH}{p pos:Pos}(a7:k1 X "range")(hm:X.mg "range"=none)(aO:h8 X [a] a_)(ay:autoParam (starEach [a] X.env=[(p'p false (eval a X.env))]) A'r):ot X dr (.Call (.Name "range" p) [a] [] pos) (UH a_):=by
 intro ab s σ H R J h;refine Call_ (q1 J a7 hm boot_range (BA (bK (aO pos ab s σ H _ J h) λus s1 c_=>?_) ay rfl));let(vs,H1,a0,ct,bM):=c_;let(aiU,aiz,gG):=n'.out bM;let(j,Kq,an3,d7,q):=hv.out gG;have e:=aiz.trans (congrArg (λz=>[z]) Kq);subst e;cases ct with
 |cons r kT=>
  cases kT;let(t,rfl):=r;exact call_range_1 (U0 a0 () () an3 d7 (by simpa using q))
theorem aiD{p pos:Pos}(a7:k1 X "range")(hm:X.mg "range"=none)(aO:h8 X [a,b] a_)(ay:autoParam (starEach [a,b] X.env=[(p'p false (eval a X.env)),(p'p false (eval b X.env))]) A'r)(jW:autoParam (starEach [b] X.env=[(p'p false (eval b X.env))]) A'r) :
  ot X dr (.Call (.Name "range" p) [a,b] [] pos) (OT a_):=by
 intro ab s σ H R J h;refine Call_ (q1 J a7 hm boot_range (BA (bK (aO pos ab s σ H _ J h) λus s1 c_=>?_) (by rw[ay,jW]) (by rw[jW];rfl)));let(vs,H1,a0,ct,bM):=c_;let(i,j,e,(bM,d7,hb,rJ),q):=bM;subst e;cases ct with
 | cons r kT=>
  cases kT with
  |cons d5 kT=>
   cases kT;let(t,rfl):=r;let(t',rfl):=d5;exact call_range_2 (U0 a0 bM d7 hb rJ q)
noncomputable def Yk(hX:TI)(g:g5)(bF:eF):eF:=λD σ H=>hX σ H λbz H1=>∃W:Nat->Nat->St->av->Prop,(∃m,W 0 m σ H1)/\∀i m σ H,W i m σ H ->
 (bz.stop i H/\D.cN σ H)\/(bz.go i H/\∃N:St->av->Prop,(∀au I,N au I->∃dU,dU<m/\W (i+1) dU au I)/\∀x I,bz.ro i H x I->g x σ I λcD aw=>bF {D with cN:=N,fY:=N,cS:=D.cN} cD aw)
noncomputable def yU(bg:List Addr)(h:Heap):List (Addr×Obj):=bg.filterMap λb=>(h.get? b).map λo=>(p'p b o)
def A2{h:Heap}(aa:b∈bg)(e:h.get? b\o):(p'p b o)∈yU bg h:=aoN.mpr (b,aa,by rw[e];rfl)
theorem anW{h:Heap}{p:Addr×Obj}(ar:p∈yU bg h):p.1∈bg/\h.get? p.1\p.2:=by
 let(b,aa,e):=aoN.mp ar;cases q:h.get? b with
 |none=>rw[q]at e;cases e
 |some o=>
  rw[q]at e;have bD:(p'p b o)=p:=d2 e;subst bD;exact(aa,q)
def Inv.pinned(J:Inv X ab σ H s)(hf:∀b∈bg,ji X ab H b)(aS:∀b∈bg,∃o,s.heap.get? b\o/\∀v,o.data≠.cell v):Inv X (ab++yU bg s.heap) σ H s:=
 J.uk λp ar=>(eI.mp ar).elim (λz=>J.pin p (mB _ z)) λz=>by
  let(aa,e):=anW z;let(f0,f1,f2,_):=hf p.1 aa;let(o,bD,d):=aS p.1 aa;rw[e]at bD;cases bD;exact(e,f0,f1,f2,d)
def Inv.Dp(J:Inv X (ab++pl) σ H s):Inv X ab σ H s:=J.uk λp ar=>J.pin p (mB _ (NZ _ ar))
theorem fP(ar:PassesOwn (model X.prog X.w) X.A X.env X.ek)(aB:X.calm=true)(ah:ot X dr iter hX)(a7:p4 X dr g)(aa:jS X body bF)
  (ay:autoParam (∀x,foldedSetIterable iter X.env x=pure x) A'i):hY X (.For dr iter body [] pos) (Yk hX g bF):=by
 intro ab s σ H D J h;refine wpAny_For (bK (ah ab s σ H _ J h) λv s1 ae=>bK ae λEo s2 ak=>?_) ay;let(it,bg,eU,bz,aw,e,b1,T,pU,f2,W,(m0,lX),turn):=ak;subst e;have stat:∀{I:av},(∀b∈bg,I b=none)->∀b∈bg,ji X ab I b:=λa8 b aa=>(a8 b aa,(f2 b aa).2)
 refine codeAny_forLoop_any (λn aj=>∃i au I,Inv X ab au I aj/\eU i aj.heap/\(∀b∈bg,I b=none)/\W i n au I) ?_ m0 (0,σ,aw,b1,pU,λb aa=>(f2 b aa).1,lX);intro n s3 (i,gi,ba,fu,Bn,TP,ij);rcases turn i n gi ba ij with⟨stop,J9⟩|⟨go,N,bl,step⟩
 .refine wpAny_passesOwn ar (bK (T.done X rfl rfl rfl aB i ab s3 gi ba X.ek fu (stat TP) Bn stop) λr s4 c_=>?_);let(ao,iA):=c_;subst ao;exact wpAny_execs_nil (gi,ba,iA,J9)
 .refine wpAny_passesOwn ar (bK (T.item X rfl rfl rfl aB i ab s3 gi ba X.ek fu (stat TP) Bn go) λr s4 c_=>?_);let(u,ao,bY):=c_;subst ao;refine wpAny_passesOwn ar (bK bY λ_ s5 c_=>?_);let(x,cR,u4,Af,Jo,u3,J4):=c_;have I6:=u4.pinned (stat J4) (T.obj _ _ u3);refine wpAny_passesOwn ar (bK (a7 _ s5 gi cR x u _ I6 Af (step x cR Jo)) λ_ fk c_=>?_);let(nt,f3,Lv,Kv):=c_;refine wpAny_passesOwn ar (bK (aa _ fk nt f3 _ Lv Kv) λf hc o8=>?_);have again:∀{kP:St} {e7:av},Inv X (ab++yU bg s5.heap) kP e7 hc->N kP e7->∃m,m<n/\∃i au I,Inv X ab au I hc/\eU i hc.heap/\(∀b∈bg,I b=none)/\W i m au I:=λ{kP e7} lN hW=>by
   let(dU,hm,oW):=bl kP e7 hW;refine(dU,hm,i+1,kP,e7,lN.Dp,T.keep _ _ _ u3 λb aa o e=>(lN.pin (p'p b o) (mB _ (mB _ (A2 aa e)))).1,λb aa=>?_,oW);let(o,e,d):=T.obj _ _ u3 b aa;exact(lN.pin (p'p b o) (mB _ (mB _ (A2 aa e)))).2.1
  cases f with
  |next=>let(kP,e7,lN,hW):=o8;exact again lN hW
  |cont=>let(kP,e7,lN,hW):=o8;exact again lN hW
  |brk=>let(kP,e7,lN,o8):=o8;exact(kP,e7,lN.Dp,o8)
  |ret v=>let(c5,kP,e7,lN,afI,o8):=o8;exact(c5,kP,e7,lN.Dp,afI,o8)
end
def Z0{K:bk}{a:Addr}{xs:List V}{g:g5}{bF:eF}{D:iv}{σ:St}{H:av}(Pv:Nat->St->av->Prop)(h0:Pv 0 σ H)(aK:∀i σ H,i<=↑xs->Pv i σ H->az K H a xs)
  (ay:∀i x σ H,xs[i]?\x->Pv i σ H->g x σ H λcD aw=>bF {D with cN:=Pv (i+1),fY:=Pv (i+1),cS:=D.cN} cD aw) (hd:∀σ H,Pv ↑xs σ H->D.cN σ H) :
  ∃W:Nat->Nat->St->av->Prop,(∃m,W 0 m σ H)/\∀i m σ H,W i m σ H ->
   ((pC K a).stop i H/\D.cN σ H)\/((pC K a).go i H/\∃N:St->av->Prop,(∀au I,N au I->∃dU,dU<m/\W (i+1) dU au I)/\∀x I,(pC K a).ro i H x I->g x σ I λcD aw=>bF {D with cN:=N,fY:=N,cS:=D.cN} cD aw):=by
 refine(λi m σ H=>m=↑xs-i/\i<=↑xs/\Pv i σ H,(↑xs,by simp,eW _,h0),?_);intro i m σ H (rfl,ah,p);have q:=aK i σ H ah p;by_cases dK:i<↑xs
 .refine .inr ((xs,xs[i],q,by simp[dK]),Pv (i+1),λau I m8=>(↑xs-(i+1),(),rfl,dK,m8),λx I y=>?_);let(e,y):=y;subst e;exact ay i x σ _ (y xs q) p
 .have e:i=↑xs:=()
  subst e;exact .inl ((xs,q,bQ _),hd σ H p)
def adI{lo:Int}{n:Nat}{g:g5}{bF:eF}{D:iv}{σ:St}{H:av}(Pv:Nat->St->av->Prop)(h0:Pv 0 σ H)
  (ay:∀i σ H,i<n->Pv i σ H->g (.int (lo+i)) σ H λcD aw=>bF {D with cN:=Pv (i+1),fY:=Pv (i+1),cS:=D.cN} cD aw) (hd:∀σ H,Pv n σ H->D.cN σ H) :
  ∃W:Nat->Nat->St->av->Prop,(∃m,W 0 m σ H)/\∀i m σ H,W i m σ H ->
   ((mF lo n).stop i H/\D.cN σ H)\/((mF lo n).go i H/\∃N:St->av->Prop,(∀au I,N au I->∃dU,dU<m/\W (i+1) dU au I)/\∀x I,(mF lo n).ro i H x I->g x σ I λcD aw=>bF {D with cN:=N,fY:=N,cS:=D.cN} cD aw):=by
 refine(λi m σ H=>m=n-i/\i<=n/\Pv i σ H,(n,by simp,eW _,h0),?_);intro i m σ H (rfl,ah,p);by_cases dK:i<n
 .refine .inr (dK,Pv (i+1),λau I m8=>(n-(i+1),(),rfl,dK,m8),λx I y=>?_);let(e,y):=y;subst e y;exact ay i σ _ dK p
 .have e:i=n:=()
  subst e;exact .inl (bQ _,hd σ H p)
noncomputable abbrev fl:=V->V->av->cV->Prop
def hG(X:bc)(f:Value->Value->Sem Value)(r:fl):Prop:=
 ∀(ab:List (Addr×Obj)) (s:Shared) (σ:St) (H:av) (x y:V) (v u:Value) (Q:cV),Inv X ab σ H s->be x v->be y u->r x y H Q ->
  wpAny (model X.prog X.w) X.A (f v u) (gN X ab σ Q) X.ek s
def Hj(X:bc)(f:Value->Sem Value)(r:V->av->cV->Prop):Prop:=
 ∀(ab:List (Addr×Obj)) (s:Shared) (σ:St) (H:av) (x:V) (v:Value) (Q:cV),Inv X ab σ H s->be x v->r x H Q ->
  wpAny (model X.prog X.w) X.A (f v) (gN X ab σ Q) X.ek s
def l9(X:bc)(f:Value)(r:List V->av->cV->Prop):Prop:=
 ∀(ab:List (Addr×Obj)) (s:Shared) (σ:St) (H:av) (xs:List V) (us:List Value) (Q:cV),Inv X ab σ H s->cO xs us->r xs H Q ->
  wpAny (model X.prog X.w) X.A (call f us) (gN X ab σ Q) X.ek s
def aox(X:bc)(r:V->av->(Bool->av->Prop)->Prop):Prop:=
 ∀(ab:List (Addr×Obj)) (s:Shared) (σ:St) (H:av) (x:V) (v:Value) (Q:Bool->av->Prop),Inv X ab σ H s->be x v->r x H Q ->
  wpAny (model X.prog X.w) X.A (truthy v) (Es X ab σ Q) X.ek s
noncomputable def tn(r:fl)(a_ bF:TE):TE:=λσ H Q=>a_ σ H λx H1=>bF σ H1 λy aw=>r x y aw Q
noncomputable def F1(r:V->av->cV->Prop)(a_:TE):TE:=λσ H Q=>a_ σ H λx H1=>r x H1 Q
noncomputable def xU(C:Int->Int->Prop)(g:Int->Int->V):fl:=λx y H Q=>hv x λi=>hv y λj=>C i j/\Q (g i j) H
noncomputable def pR(g:Int->Int->V):fl:=λx y H Q=>hv x λi=>hv y λj=>Q (g i j) H
noncomputable def C8(g:Int->V):V->av->cV->Prop:=λx H Q=>hv x λi=>Q (g i) H
section
variable{X:bc}{a b c:Expr}{a_ bF c9:TE}{pos:Pos}
def GX(aO:bA X a a_)(aa:bA X b bF){ab:List (Addr×Obj)}{s:Shared}{σ:St}{H:av}{R:V->V->av->Prop}(J:Inv X ab σ H s)
  (h:a_ σ H λx H1=>bF σ H1 λy aw=>R x y aw) {Q:Value->Shared->Prop} {f:Value->Value->Sem Value}
  (hf:∀v u s2 x y aw,Inv X ab σ aw s2->be x v->be y u->R x y aw->wpAny (model X.prog X.w) X.A (f v u) Q X.ek s2) :
  wpAny (model X.prog X.w) X.A (eval a X.env) (λv dC=>wpAny (model X.prog X.w) X.A (eval b X.env) (λu ej=>wpAny (model X.prog X.w) X.A (f v u) Q X.ek ej) X.ek dC) X.ek s:=by
 refine bK (aO ab s σ H _ J h) λv s1 cm=>ey cm λx H1 a0 ct bM=>?_
 refine bK (aa ab s1 σ H1 _ a0 bM) λu s2 cm=>ey cm λy aw b1 fj d7=>?_
 exact hf v u s2 x y aw b1 ct fj d7
def bN{op:Operator}{r:fl}(aS:hG X (binaryOp op) r)(aO:bA X a a_)(aa:bA X b bF):bA X (.BinOp a op b pos) (tn r a_ bF):=by
 intro ab s σ H Q J h;exact wpAny_BinOp (GX aO aa J h λv u s2 x y aw b1 bb bE q=>aS ab s2 σ aw x y v u Q b1 bb bE q)
def qu(aS:Hj X (unaryOp op) r)(aO:bA X a a_):bA X (.UnaryOp op a pos) (F1 r a_):=by
 intro ab s σ H Q J h;exact UnaryOp_ (bK (aO ab s σ H _ J h) λv s1 cm=>ey cm λx H1 a0 ct bM=>aS ab s1 σ H1 x v Q a0 ct bM)
def Uk{f:Value->Value->Sem Value}{C:Int->Int->Prop}{g:Int->Int->Int}
  (rule:∀(i j:Int) (t u:Tok) (s:Shared) (Q:Value->Shared->Prop) (E:Value->Shared->Prop),C i j->Q (.int (g i j) s.toks) {s with toks:=s.toks+1}->wpAny (model X.prog X.w) X.A (f (.int i t) (.int j u)) Q E s) :
  hG X f (xU C λi j=>.int (g i j)):=by
 intro ab s σ H x y v u Q J bb bE h;let(i,rfl,j0):=hv.out h;let(j,rfl,aB,q):=hv.out j0;let(t,rfl):=bb;let(t',rfl):=bE;exact rule i j t t' s _ _ aB (.int (g i j),H,J.tok _,(_,rfl),q)
def XE{f:Value->Value->Sem Value}{g:Int->Int->Int}
  (rule:∀(i j:Int) (t u:Tok) (s:Shared) (Q:Value->Shared->Prop) (E:Value->Shared->Prop),Q (.int (g i j) s.toks) {s with toks:=s.toks+1}->wpAny (model X.prog X.w) X.A (f (.int i t) (.int j u)) Q E s) :
  hG X f (pR λi j=>.int (g i j)):=by
 intro ab s σ H x y v u Q J bb bE h;let(i,rfl,j0):=hv.out h;let(j,rfl,q):=hv.out j0;let(t,rfl):=bb;let(t',rfl):=bE;exact rule i j t t' s _ _ (.int (g i j),H,J.tok _,(_,rfl),q)
def AZ{f:Value->Value->Sem Value}{g:Int->Int->Bool}
  (rule:∀(i j:Int) (t u:Tok) (s:Shared) (Q:Value->Shared->Prop) (E:Value->Shared->Prop),Q (.bool (g i j)) s->wpAny (model X.prog X.w) X.A (f (.int i t) (.int j u)) Q E s) :
  hG X f (pR λi j=>.bp (g i j)):=by
 intro ab s σ H x y v u Q J bb bE h;let(i,rfl,j0):=hv.out h;let(j,rfl,q):=hv.out j0;let(t,rfl):=bb;let(t',rfl):=bE;exact rule i j t t' s _ _ (.bp (g i j),H,J,rfl,q)
def oC(i j:Int):Prop:=(-(2 ^ 64)<i/\i<2 ^ 64)\/(-(2 ^ 64)<j/\j<2 ^ 64)
def oC.ok(h:oC i j):IntMulOk i j:=by
 rcases h with⟨ae,ak⟩|⟨ae,ak⟩
 .exact .of_left (intBits_le_64 ae ak)
 .exact .of_right (intBits_le_64 ae ak)
def ew:hG X (binaryOp .Add) (pR λi j=>.int (i+j)):=XE λ_ _ _ _ _ _ _ q=>add_int q
def mz:hG X (binaryOp .Sub) (pR λi j=>.int (i-j)):=XE λ_ _ _ _ _ _ _ q=>sub_int q
def lW:hG X (binaryOp .Mult) (xU oC λi j=>.int (i*j)):=Uk λ_ _ _ _ _ _ _ aB q=>mul_int q aB.ok
def jN:hG X (binaryOp .Mod) (xU (λ_ j=>0<j) λi j=>.int (i%j)):=Uk λi j _ _ _ _ _ aB q=>by
 have ae:(0:Int)<j:=aB;exact mod_int' () (by rw[Int.fmod_eq_emod_of_nonneg i ()];exact q)
def aky{f:Value->Sem Value}{g:Int->Int}
  (rule:∀(i:Int) (t:Tok) (s:Shared) (Q:Value->Shared->Prop) (E:Value->Shared->Prop),Q (.int (g i) s.toks) {s with toks:=s.toks+1}->wpAny (model X.prog X.w) X.A (f (.int i t)) Q E s) :
  Hj X f (C8 λi=>.int (g i)):=by
 intro ab s σ H x v Q J bb h;let(i,rfl,q):=hv.out h;let(t,rfl):=bb;exact rule i t s _ _ (.int (g i),H,J.tok _,(_,rfl),q)
def ri:Hj X (unaryOp .USub) (C8 λi=>.int (-i)):=aky λ_ _ _ _ _ q=>neg_int q
end
noncomputable def Ly:V->V->Bool
 | .cf,.cf=>true|.cf,.int _=>true|.int _,.cf=>true|.cf,.bp _=>true|.bp _,.cf=>true|.cf,.str _=>true|.str _,.cf=>true
 | .int _,.int _=>true|.bp _,.bp _=>true|.str _,.str _=>true|.mr _,.mr _=>true
 | .int _,.str _=>true|.str _,.int _=>true|.bp _,.str _=>true|.str _,.bp _=>true
 |_,_=>false
theorem i'a{x y}:Ly (.int x) (.int y)=true:=rfl
theorem i'b{x y}:Ly (.bp x) (.bp y)=true:=rfl
theorem i'c{x y}:Ly (.str x) (.str y)=true:=rfl
noncomputable def Kp:fl:=λx y H Q=>Ly x y=true/\Q (.bp (decide (x=y))) H
noncomputable def Iu:fl:=λx y H Q=>Ly x y=true/\Q (.bp (!decide (x=y))) H
def Pn:decide (V.int i=V.int j)=(i==j):=by
 rw[l6];simp
def XB:decide (V.bp i=V.bp j)=(i==j):=by
 rw[l6];simp
def PI:decide (V.str i=V.str j)=(i==j):=by
 rw[l6];simp
def W7:decide (V.mr i=V.mr j)=(i.toList==j.toList):=by
 rw[l6];cases i;cases j;simp
section
variable{X:bc}{a b c:Expr}{a_ bF c9:TE}{pos:Pos}
def fW{k sD:Bool}(J:Inv X ab σ H s)(q:Q (.bp k) H)(e:k=sD):gN X ab σ Q (.bool sD) s:=by
 subst e;exact(.bp k,H,J,rfl,q)
theorem e3:hG X (compareOp .Eq) Kp:=by
 intro ab s σ H x y v u Q J bb bE h;let(ay,q):=h;cases x with
 |cf=>
  cases bb;cases y with
  |cf=>cases bE;exact aqH (fW J q (by simp))
  |bp j=>cases bE;exact aqI (fW J q (by simp))
  |int j=>let(t',rfl):=bE;exact apy (fW J q (by simp))
  |str j=>let(t',rfl):=bE;exact apJ (fW J q (by simp))
  |_=>exact absurd (show false=true from ay) fX
 |bp i=>
  cases bb;cases y with
  |cf=>cases bE;exact aqQ (fW J q (by simp))
  |bp j=>cases bE;exact eq_bool (fW J q XB)
  |str j=>let(t',rfl):=bE;exact apH (fW J q (by simp))
  |_=>exact absurd (show false=true from ay) fX
 |int i=>
  let(t,rfl):=bb;cases y with
  |cf=>cases bE;exact arB (fW J q (by simp))
  |int j=>let(t',rfl):=bE;exact eq_int (fW J q Pn)
  |str j=>let(t',rfl):=bE;exact arn (fW J q (by simp))
  |_=>exact absurd (show false=true from ay) fX
 |str i=>
  let(t,rfl):=bb;cases y with
  |cf=>cases bE;exact arZ (fW J q (by simp))
  |bp j=>cases bE;exact ark (fW J q (by simp))
  |int j=>let(t',rfl):=bE;exact apW (fW J q (by simp))
  |str j=>let(t',rfl):=bE;exact eq_str (fW J q PI)
  |_=>exact absurd (show false=true from ay) fX
 |mr i=>
  let(t,rfl):=bb;cases y with
  |mr j=>let(t',rfl):=bE;exact PySem.W.eq_bytes (fW J q W7)
  |_=>exact absurd (show false=true from ay) fX
 |_=>cases y <;> exact absurd (show false=true from ay) fX
theorem og:hG X (compareOp .NotEq) Iu:=by
 intro ab s σ H x y v u Q J bb bE h;let(ay,q):=h;cases x with
 |cf=>
  cases bb;cases y with
  |cf=>cases bE;exact arE (fW J q (by simp))
  |bp j=>cases bE;exact arQ (fW J q (by simp))
  |int j=>let(t',rfl):=bE;exact aqj (fW J q (by simp))
  |str j=>let(t',rfl):=bE;exact arG (fW J q (by simp))
  |_=>exact absurd (show false=true from ay) fX
 |bp i=>
  cases bb;cases y with
  |cf=>cases bE;exact arh (fW J q (by simp))
  |bp j=>cases bE;exact ne_bool (fW J q (congrArg not XB))
  |str j=>let(t',rfl):=bE;exact aq8 (fW J q (by simp))
  |_=>exact absurd (show false=true from ay) fX
 |int i=>
  let(t,rfl):=bb;cases y with
  |cf=>cases bE;exact aqC (fW J q (by simp))
  |int j=>let(t',rfl):=bE;exact ne_int (fW J q (congrArg not Pn))
  |str j=>let(t',rfl):=bE;exact ara (fW J q (by simp))
  |_=>exact absurd (show false=true from ay) fX
 |str i=>
  let(t,rfl):=bb;cases y with
  |cf=>cases bE;exact aqx (fW J q (by simp))
  |bp j=>cases bE;exact apV (fW J q (by simp))
  |int j=>let(t',rfl):=bE;exact apX (fW J q (by simp))
  |str j=>let(t',rfl):=bE;exact ne_str (fW J q (congrArg not PI))
  |_=>exact absurd (show false=true from ay) fX
 |mr i=>
  let(t,rfl):=bb;cases y with
  |mr j=>let(t',rfl):=bE;exact PySem.W.ne_bytes (fW J q (congrArg not W7))
  |_=>exact absurd (show false=true from ay) fX
 |_=>cases y <;> exact absurd (show false=true from ay) fX
def ir:hG X (compareOp .Lt) (pR λi j=>.bp (decide (i<j))):=AZ λ_ _ _ _ _ _ _ q=>lt_int q
def QS:hG X (compareOp .LtE) (pR λi j=>.bp (decide (i<=j))):=AZ λ_ _ _ _ _ _ _ q=>le_int q
def uD:hG X (compareOp .Gt) (pR λi j=>.bp (decide (j<i))):=AZ λ_ _ _ _ _ _ _ q=>gt_int q
def RE:hG X (compareOp .GtE) (pR λi j=>.bp (decide (j<=i))):=AZ λ_ _ _ _ _ _ _ q=>ge_int q
def Z2:hG X (compareOp .In) (λx y H Q=>∃i j,x=.str i/\y=.str j/\Q (.bp (!(tF j i 0 ↑j 1).isEmpty)) H):=by
 intro ab s σ H x y v u Q J bb bE h;let(i,j,rfl,rfl,q):=h;let(t,rfl):=bb;let(t',rfl):=bE;exact in_str (fW J q rfl)
theorem apb:hG X (compareOp .Is) (λx y H Q=>y=.cf/\Q (.bp (decide (x=.cf))) H):=by
 intro ab s σ H x y v u Q J bb bE h;let(rfl,q):=h;cases bE;refine is_none_gen (fW J q ?_);cases x <;> first
  |(cases bb;rfl)
  |(let(t,rfl):=bb;rfl)
theorem V':hG X (compareOp .IsNot) (λx y H Q=>y=.cf/\Q (.bp (!decide (x=.cf))) H):=by
 intro ab s σ H x y v u Q J bb bE h;let(rfl,q):=h;cases bE;refine isnot_none_gen (fW J q ?_);cases x <;> first
  |(cases bb;rfl)
  |(let(t,rfl):=bb;rfl)
def cL(b:Expr)(h:autoParam (op≠.In) A'd)(ak:autoParam (op≠.NotIn) A'd):behindInMarks op b=false:=by
 have aq:(op==CmpOp.In)=false:=by cases op <;> first|rfl|exact absurd rfl h
 have aD:(op==adF)=false:=by cases op <;> first|rfl|exact absurd rfl ak
 cases b <;> first|rfl|(show(_&&(_||_)&&_)=false;rw[aq,aD];simp)
def hV(aS:hG X (compareOp op) r)(aO:bA X a a_)(aa:bA X b bF)(hm:behindInMarks op b=false):bA X (.Compare a [op] [b] pos) (tn r a_ bF):=by
 intro ab s σ H Q J h;exact wpAny_Compare1 (GX aO aa J h λv u s2 x y aw b1 bb bE q=>aS ab s2 σ aw x y v u Q b1 bb bE q) hm
noncomputable def IN(t:TE):TT:=λσ H Q=>t σ H λx I=>i0 x λk=>Q k I
def dh(aS:hG X (compareOp op) r)(aO:bA X a a_)(aa:bA X b bF)(hm:behindInMarks op b=false):i8 X (.Compare a [op] [b] pos) (IN (tn r a_ bF)):=by
 intro ab s σ H Q J h;refine wpAny_isTrue_Compare1 (bK (aO ab s σ H _ J h) λv s1 cm=>ey cm λx H1 a0 ct bM=>bK (aa ab s1 σ H1 _ a0 bM) λu s2 ⟨y,aw,b1,fj,d7⟩=>
  bK (aS ab s2 σ aw x y v u _ b1 ct fj d7) λc s3 cm=>ey cm λz ba fu x5 gG=>?_) hm
 let(k,e,hb):=i0.out gG;subst e;cases x5;exact wpAny_truthy_bool (ba,fu,hb)
noncomputable def V9(r d5:fl)(a_ bF c9:TE):TE:=λσ H Q=>a_ σ H λx H1=>bF σ H1 λy aw=>r x y aw λz ba=>i0 z λk=>
 (if k=true then c9 σ ba λeQ cn=>d5 y eQ cn Q else Q (.bp false) ba)
theorem aiP(aS:hG X (compareOp op) r)(i9:hG X (compareOp W0) d5)(aO:bA X a a_)(aa:bA X b bF)(aB:bA X c c9)
  (hm:lastMarks [op,W0] [b,c]=false:=by with_unfolding_all rfl):i8 X (.Compare a [op,W0] [b,c] pos) (IN (V9 r d5 a_ bF c9)):=by
 intro ab s σ H Q J h;refine isTrue_chain (bK (aO ab s σ H _ J h) λv s1 cm=>ey cm λx H1 a0 ct bM=>test_link (bK (aa ab s1 σ H1 _ a0 bM) λu s2 ⟨y,aw,b1,fj,d7⟩=>
  bK (aS ab s2 σ aw x y v u _ b1 ct fj d7) λd s3 cm=>ey cm λz ba fu x5 gG=>?_)) hm
 let(k,e,hb):=i0.out gG;subst e;cases x5;refine wpAny_truthy_bool ?_;cases k with
 |false=>
  let(sD,bD,dY):=i0.out (x:=.bp false) (k:=λk=>Q k ba) hb;cases bD;exact ite_ff (ba,fu,dY)
 |true=>
  refine ite_tt (test_last (bK (aB ab s3 σ ba _ fu hb) λeQ s4 cm=>ey cm λgB cn iA G6 rJ=>bK (i9 ab s4 σ cn y gB u eQ _ iA fj G6 rJ) λd' s5 cm=>ey cm λeu cR u4 Af gG=>?_));let(dX,aD,afy):=i0.out gG;subst aD;cases Af;exact wpAny_truthy_bool (cR,u4,afy)
def TY(K:bk)(x:V)(H:av)(k:Bool):Prop:=
 match x with
 | .cf=>k=false
 | .bp b=>k=b
 | .int i=>k=(i != 0)
 | .str y=>↑y<=sizeLine/\k=((↑y:Int) != 0)
 | .mr y=>y.size<=sizeLine/\k=((y.size:Int) != 0)
 | .ref p=>(∃xs,az K H p xs/\k = !xs.isEmpty)\/(∃xs,dM K H p xs/\k = !xs.isEmpty)\/∃kvs,H p\(.b2 kvs)/\k = !kvs.isEmpty
 |_=>False
def aeL(r:fy kvs vs):(!vs.isEmpty) = !kvs.isEmpty:=by
 cases r <;> rfl
def RK{a':List Value}(r:cO xs a'):(!a'.toArray.isEmpty) = !xs.isEmpty:=by
 cases r <;> simp
def vC:(sizeLine:Nat)<2 ^ 63:=by rw[sizeLine_eq];decide
theorem akd:aox X (λx H Q=>∃k,TY X.K x H k/\Q k H):=by
 intro ab s σ H x v Q J bb h;let(k,e,q):=h;have aK:=vC;have ay:sizeLine=16777216:=sizeLine_eq;cases x with
 |cf=>
  cases bb;have bD:k=false:=e;subst bD;exact truthy_none (H,J,q)
 |bp b=>
  cases bb;have bD:k=b:=e;subst bD;exact wpAny_truthy_bool (H,J,q)
 |int i=>
  let(t,rfl):=bb;have bD:k=(i != 0):=e;subst bD;exact PySem.P.truthy_int (H,J,q)
 |str y=>
  let(t,rfl):=bb;let(aM,bD):↑y<=sizeLine/\k=((↑y:Int) != 0):=e;subst bD;exact PySem.P.truthy_str () (H,J.tok _,q)
 |mr y=>
  let(t,rfl):=bb;let(aM,bD):y.size<=sizeLine/\k=((y.size:Int) != 0):=e;subst bD;exact PySem.W.truthy_bytes () (H,J.tok _,q)
 |ref p=>
  cases bb;have bD:(∃xs,az X.K H p xs/\k = !xs.isEmpty)\/(∃xs,dM X.K H p xs/\k = !xs.isEmpty)\/∃kvs,H p\(.b2 kvs)/\k = !kvs.isEmpty:=e;rcases bD with⟨xs,ag,bD⟩|⟨xs,ag,bD⟩|⟨kvs,ag,bD⟩
  .subst bD;let(a',r,pl,aQ):=J.list ag;have hlen:=↑r;exact wpAny_truthy_list pl.isList (by simp only[fF];omega) (H,J.tok _,by rw[RK r];exact q)
  .subst bD;let(a',r,pl,aQ):=J.tuple ag;have hlen:=↑r;exact truthy_tuple pl (by simp only[fF];omega) (H,J.tok _,by rw[RK r];exact q)
  .subst bD;let(aQ,dV,vs,r,m):↑kvs<=sizeLine/\(p==sysModules)=false/\∃vs,fy kvs vs/\s.heap.DictOf (iX X.prog X.w) p vs:=J.bu p _ ag;have hlen:↑kvs=↑vs:=KG r;exact wpAny_truthy_dict dV m () (H,J.tok _,by rw[aeL r];exact q)
 |_=>exact(show False from e).elim
def Fi(aO:bA X a a_)(he:∀whole,isTrue a X.env whole=(do let v <- whole;standAt a.pos;holding [v] (truthy v))) :
  i8 X a (λσ H Q=>a_ σ H λx I=>∃k,TY X.K x I k/\Q k I):=by
 intro ab s σ H Q J h;exact isTrue_plain (bK (aO ab s σ H _ J h) λv s1 cm=>ey cm λx H1 a0 ct bM=>akd ab s1 σ H1 x v Q a0 ct bM) (he _)
def ce:hG X (binaryOp .Add) (λx y H Q=>∃i j,x=.str i/\y=.str j/\↑i+↑j<=sizeLine/\Q (.str (i++j)) H):=by
 intro ab s σ H x y v u Q J bb bE h;let(i,j,rfl,rfl,aQ,q):=h;let(t,rfl):=bb;let(t',rfl):=bE;exact add_str (λt' tk=>(.str (i++j),H,J.tok _,(_,rfl),q)) aQ
theorem mc{x:V}(r:cO [x] us):∃u,us=[u]/\be x u:=by
 cases r with
 |cons ct fj=>cases fj;exact(_,rfl,ct)
theorem V0{x y:V}(r:cO [x,y] us):∃u eQ,us=[u,eQ]/\be x u/\be y eQ:=by
 cases r with
 |cons ct fj=>
  cases fj with
  |cons x5 G6=>cases G6;exact(_,_,rfl,ct,x5)
def apl(aB:X.calm=true):l9 X (.builtin "max") (λxs H Q=>∃i j,xs=[.int i,.int j]/\Q (.int (if j>i then j else i)) H):=by
 intro ab s σ H xs us Q J r h;let(i,j,rfl,q):=h;let(u,eQ,rfl,(t,rfl),(t',rfl)):=V0 r;refine max_two_ints (J.ok.hd aB) λh' tk k=>(_,H,J.kept k,?_,q)
 by_cases aJ:j>i
 .rw [if_pos aJ,if_pos aJ];exact(_,rfl)
 .rw [if_neg aJ,if_neg aJ];exact(_,rfl)
def Ws:l9 X (.type "int") (λxs H Q=>(∃i,xs=[.int i]/\Q (.int i) H)\/∃k,xs=[.bp k]/\Q (.int (if k then 1 else 0)) H):=by
 intro ab s σ H xs us Q J r h;rcases h with⟨i,rfl,q⟩|⟨k,rfl,q⟩
 .let(u,rfl,t,rfl):=mc r;exact call_int_int (.int i,H,J,(_,rfl),q)
 .let(u,rfl,ct):=mc r;cases ct;exact call_int_bool (.int (if k then 1 else 0),H,J.tok _,(_,rfl),q)
def yO:l9 X (.type "str") (λxs H Q=>∃i,xs=[.int i]/\i.natAbs.log2<1920/\Q (.str (toString i)) H):=by
 intro ab s σ H xs us Q J r h;let(i,rfl,aQ,q):=h;let(u,rfl,t,rfl):=mc r;exact PySem.P.str_of_int aQ (.str _,H,J.tok _,(_,rfl),q)
end
structure uh(h:Heap)(x aA C:Addr)(e0:Str->Option Value):Prop where
 obj:h.get? x\(tB C aA)
 ns:h.Ns1 aA e0
 ne:aA≠x
set_option tactic.hygienic true in
def Y3{h:Heap}(n:h.Ns1 aA e0):∃fB,h.get? aA\fB/\∀name,I0 name fB\(e0 name):=by
 let(o,aU,cu,aS,hd,ax,_,hm):=n;refine(o,aS,λname=>?_);have e:=hm name;unfold nsFind findBy at e;rw[<- Array.find?_toList]at e;unfold I0;rw[hd];dsimp only;split
 .rename_i y q;rw[q]at e;exact congrArg some e
 .rename_i q;rw[q]at e;have a:aU.toList.any (·.refKey)=false:=by
   rw[V4];intro y aM;let(z,t,an9):=ax y (Array.mem_toList_iff.mp aM);simp[DictEntry.refKey,an9]
  have rx:¬aU.toList.any (·.refKey)=true:=by rw[a];exact fX
  rw[if_neg rx];exact congrArg some e
def uh.look{h:Heap}{x aA C:Addr}(J:uh h x aA C e0):∃fB,PySem.W.InstAt h x (tB C aA) C (some fB)/\∀name,I0 name fB\(e0 name):=
 let⟨fB,aS,aK⟩:=Y3 J.ns
 (fB,(J.obj,rfl,rfl,aS),aK)
section
variable{prog:Program}{w:World}{A:Around}{E:Value->Shared->Prop}{s:Shared}{K:bk}{x aA C f:Addr}{e0:Str->Option Value}{name:Str}{v:Value}
def aoe(X:K.In s.heap)(J:uh s.heap x aA C e0)(a7:KS K C name=true)(bT:C1 K C=true)
  (aO:dW K ⇑C name\none) (aE:e0 name\v) (NH:acX v=true) (h:Q v {s with toks:=s.toks+1}) :
  wpAny (model prog w) A (getAttr ⇑x name expr) Q E s:=by
 let(fB,bz,aK):=J.look;exact PySem.W.get_value X bz (Wb a7).1 (PySem.W.findObj_own bT aO rfl (by rw[aK,aE])) NH h
def ae'(X:K.In s.heap)(J:uh s.heap x aA C e0)(a7:KS K C name=true)
  (hf:dW K ⇑C name\(some ⇑f)) (c6:Tt K ⇑f=true) (aE:e0 name=none) (h:Q (p'p (⇑f) [⇑x]) s) :
  wpAny (model prog w) A (getMethod ⇑x name pl) Q E s:=by
 let(fB,bz,aK):=J.look;exact PySem.W.method_fn X bz (Wb a7).1 (Wb a7).2 hf (beq_iff_eq.mp c6) (by show(I0 name fB).map (·.isSome)\false;rw[aK,aE];rfl) h
def afH{ns:List Str}(X:K.In s.heap)(J:uh s.heap x aA C e0)
  (ay:dW K ⇑C "__setattr__"\(some (.builtin "object.__setattr__"))) (ar:abZ K C=true) (c6:Pp K C name\none) (bT:C1 K C=true)
  (hw:Wt e0 ns) (hsz:↑ns<=sizeLine)
  (h:∀h',uh h' x aA C (λy=>if y=name then some v else e0 y)->wI aA s.heap h'->Q ⟨⟩ {s with heap:=h',toks:=s.toks+2}) :
  wpAny (model prog w) A (setAttr ⇑x name v) Q E s:=by
 let(fB,bz,aK):=J.look;refine PySem.W.set_plain X bz ay (PySem.W.osa_open (s:={s with toks:=s.toks+1}) (r:=none) X bz ar c6 λb=>?_);let(cd,aB,JG):=PySem.W.any_some bT;have ag:s.heap.get? x\(⇑C,some aA,.plain,#[]):=J.obj;refine wpAny_bind (wpAny_pure (wpAny_bind (wpAny_bind (wpAny_loadPart ag (wpAny_bind (aq9 (s:={s with toks:=s.toks+1}) (PySem.W.looks_clsIn X aB) ?_))))));rw[JG];refine wpAny_pure (a:=some aA) (wpAny_bind (wpAny_pure (wpAny_bind ?_)));refine wpAny_nsSet1 (s:={s with toks:=s.toks+1}) J.ns λh' sV jW=>?_
 let(arA,apB,aqB,ade,aam,Zh):=sV.count (apx name v hw);refine wpAny_bind (wpAny_lookBehind ade (by rw[aam];exact pastItsLine_dict (cM Zh (by rw[gW];omega))) ?_);exact wpAny_pure (h _ ((jW.2 _ (et J.ne)).trans J.obj,sV,J.ne) jW)
def aiQ(X:K.In s.heap)(hm:aka K C=true)
  (ah:dW K ⇑C "__init__"\(some ⇑f)) (hf:ai7 K ⇑f\(.type "function"))
  (h:codeAny (model prog w) (A.under (.builtin "type.__call__" (⇑C::vs,kw))) (.call ⇑f (⇑(↥s+1)::vs,kw)) (PySem.W.InitBack (↥s+1) R)
   {s with heap:=(s.heap.push s9).push (tB C ↥s)}) :
  codeAny (model prog w) A (.call ⇑C (vs,kw)) R s:=by
 let(bT,g,d,t,os):=s;exact PySem.W.make_core (PySem.W.makes_of X hm) (PySem.W.looks_findIn X ah) (λself=>PySem.W.bind_fn X self hf) (.inl rfl) h
end
noncomputable def dn(f:Str)(v:V):List (Str×V)->List (Str×V)
 |[]=>[(p'p f v)]
 |(g,x)::r=>if g=f then(p'p g v)::r else(p'p g x)::dn f v r
theorem TL(f g:Str)(v:V):∀a5:List (Str×V),(dn f v a5).lookup g=if g=f then some v else a5.lookup g
 |[]=>by
  show rd g [(p'p f v)]=_;by_cases h:g=f
  .have aa:(g==f)=true:=beq_iff_eq.mpr h;simp only[rd,aa,if_pos h]
  .have aa:(g==f)=false:=beq_eq_false_iff_ne.mpr h;simp only[rd,aa,if_neg h]
 | (k,x)::r=>by
  have cZ:=TL f g v r;rw[show dn f v ((p'p k x)::r)=(if k=f then(p'p k v)::r else(p'p k x)::dn f v r)from rfl];by_cases ax:k=f
  .rw[if_pos ax];by_cases h:g=k
   .have aa:(g==k)=true:=beq_iff_eq.mpr h;simp only[rd,aa,if_pos (h.trans ax)]
   .have aa:(g==k)=false:=beq_eq_false_iff_ne.mpr h;simp only[rd,aa,if_neg (λe:g=f=>h (e.trans ax.symm))]
  .rw[if_neg ax];by_cases h:g=k
   .have aa:(g==k)=true:=beq_iff_eq.mpr h;simp only[rd,aa,if_neg (λe:g=f=>ax (h.symm.trans e))]
   .have aa:(g==k)=false:=beq_eq_false_iff_ne.mpr h;simp only[rd,aa];exact cZ
theorem JJ(f:Str)(v:V):∀a5:List (Str×V),f∈(dn f v a5).map (·.1)/\∀g,g∈a5.map (·.1)->g∈(dn f v a5).map (·.1)
 |[]=>(by simp[dn],λg h=>by simp at h)
 | (k,x)::r=>by
  let(i1,i2):=JJ f v r;rw[show dn f v ((p'p k x)::r)=(if k=f then(p'p k v)::r else(p'p k x)::dn f v r)from rfl];by_cases ax:k=f
  .rw [if_pos ax];subst ax;exact(by simp,λg h=>by simpa using h)
  .rw[if_neg ax];refine(?_,λg h=>?_)
   .rw [fz];exact i7 _ i1
   .rw[fz]at h⊢;rcases ei.mp h with e|e
    .exact ei.mpr (.inl e)
    .exact i7 _ (i2 g e)
theorem Ki(f:Str)(v:V):∀a5:List (Str×V),↑(dn f v a5)<=↑a5+1
 |[]=>by simp[dn]
 |(k,x)::r=>by
  have cZ:=Ki f v r;rw[show dn f v ((p'p k x)::r)=(if k=f then(p'p k v)::r else(p'p k x)::dn f v r)from rfl];by_cases ax:k=f
  .rw [if_pos ax,gW,gW];omega
  .rw [if_neg ax,gW,gW];omega
theorem jT.some_of(r:jT (some v) o):∃u,o\u/\be v u:=by
 cases o with
 |none=>exact(show False from r).elim
 |some u=>exact(u,rfl,r)
theorem jT.none_of(r:jT none o):o=none:=by
 cases o with
 |none=>rfl
 |some u=>exact(show False from r).elim
theorem Zx(r:be v u):acX u=true:=by
 cases v with
 |cf=>cases(show u=sv from r);rfl
 |bp b=>cases(show u=k4 b from r);rfl
 |int i=>let(t,e):=(show ∃t,u=oA i t from r);cases e;rfl
 |str x=>let(t,e):=(show ∃t,u=w2 x t from r);cases e;rfl
 |mr b=>let(t,e):=(show ∃t,u=aph b t from r);cases e;rfl
 |tI b=>let(t,e):=(show ∃t,u=SM b t from r);cases e;rfl
 |ref a=>cases(show u=ff a from r);rfl
 |ty n=>cases(show u=ahN n from r);rfl
section
variable{P:Program}{w:World}{H I:av}{h h':Heap}{a C aA:Addr}{a5 pD:List (Str×V)}
def uH(bu:fw P w H h)(e:H a\(.ins C aA a5)):∃e0,uh h a aA C e0/\(∀f,jT (a5.lookup f) (e0 f))/\Wt e0 (a5.map (·.1))/\↑a5<=1000/\H aA\(.own a):=by
 let(d,z,ne,cT,e0,n,r,q):=(show e8 P w H h a (.ins C aA a5)from bu a _ e);exact(e0,(cT,n,ne),r,q,z,d)
end
structure ia(K:bk)(C:Addr):Prop where
 afu:KS K C Str.empty=true
 hd:C1 K C=true
 po:abZ K C=true
 aH:dW K ⇑C "__setattr__"\(some (.builtin "object.__setattr__"))
def ia.get{K:bk}(c:ia K C)(f:Str):KS K C f=true:=c.afu
def dJ(K:bk)(C:Addr)(f:Str):Prop:=dW K ⇑C f\none
def dJ.aei{K:bk}(n:dJ K C f):Pp K C f\none:=by
 unfold Pp;rw[show dW K ⇑C f\none from n];rfl
structure gw(K:bk)(C:Addr)(m:Str)(f:Addr):Prop where
 at_:dW K ⇑C m\(some ⇑f)
 fn:Tt K ⇑f=true
 bo:tH K ⇑f=true
section
variable{X:bc}{ab:List (Addr×Obj)}{σ:St}{H:av}{s:Shared}{a C aA:Addr}{a5:List (Str×V)}{f:Str}{v:V}{A:Around}{E:Value->Shared->Prop}
def VJ(J:Inv X ab σ H s)(e:H a\(.ins C aA a5))(c:ia X.K C)(n:dJ X.K C f)(l:a5.lookup f\v)
  (h:∀u aj,Inv X ab σ H aj->be v u->Q u aj):wpAny (model X.prog X.w) A (getAttr ⇑a f b) Q E s:=by
 let(e0,O,r,_,_,_):=uH J.bu e;let(u,bR,fm):=jT.some_of (v:=v) (o:=e0 f) (by rw[<- l];exact r f);exact aoe J.gC O (c.get f) c.hd n bR (Zx fm) (h u _ (J.tok _) fm)
def F9(J:Inv X ab σ H s)(e:H a\(.ins C aA a5))(c:ia X.K C)(k:gw X.K C m g)(l:a5.lookup m=none)
  (h:Q (p'p (⇑g) [⇑a]) s):wpAny (model X.prog X.w) A (getMethod ⇑a m pl) Q E s:=by
 let(e0,O,r,_,_,_):=uH J.bu e;have a8:e0 m=none:=jT.none_of (by rw[<- l];exact r m);exact ae' J.gC O (c.get m) k.at_ k.fn a8 h
def Pq(J:Inv X ab σ H s)(e:H a\(.ins C aA a5))(c:ia X.K C)(n:dJ X.K C f)(aK:↑a5<1000)(bE:be y u)
  (h:∀aj,Inv X ab σ (upd H a (.ins C aA (dn f y a5))) aj->Q ⟨⟩ aj):wpAny (model X.prog X.w) A (setAttr ⇑a f u) Q E s:=by
 let(e0,O,r,hX,_,aS):=uH J.bu e;have aQ:↑(a5.map (·.1))<=sizeLine:=by rw[aX,sizeLine_eq];omega
 refine afH J.gC O c.aH c.po n.aei c.hd hX aQ λh' HP p6=>h _ ?_
 have hd:∃o,h'.get? aA\o:=let⟨o,_,_,bD,_⟩:=HP.ns;(o,bD);refine J.write (x:=a) (e:=aA) (by rw[e];exact jO) (.inr aS) (λb q aa z=>(p6.2 b aa).trans z) hd ?_;refine(by rw[aP O.ne];exact aS,?_,O.ne,HP.obj,_,HP.ns,λg=>?_,λg a7=>?_)
 .have:=Ki f y a5;omega
 .show jT ((dn f y a5).lookup g) (if g=f then some u else e0 g);rw[TL];by_cases q:g=f
  .rw [if_pos q,if_pos q];exact bE
  .rw [if_neg q,if_neg q];exact r g
 .by_cases q:g=f
  .rw [q];exact(JJ f y a5).1
  .refine (JJ f y a5).2 g (hX g λz=>a7 ?_);show(if g=f then some u else e0 g)=none;rw[if_neg q];exact z
def Inv.made(J:Inv X ab σ H s):Inv X ab σ (upd (upd H ↥s (.own (↥s+1))) (↥s+1) (.ins C ↥s []))
  {s with heap:=(s.heap.push s9).push (tB C ↥s)}:=by
 have aq:(s.heap.push s9).get? ↥s\s9:=hq s.heap rfl;have aD:((s.heap.push s9).push (tB C ↥s)).get? (↥s+1)\(tB C ↥s):=by
  have:=hq (s.heap.push s9) (o:=tB C ↥s) rfl;rwa[YP]at this
 have bV:(s.heap.push s9).Ns ↥s (λ_=>none):=(s9,#[],_,aq,rfl,(λe he=>absurd he (by simp)),λ_=>rfl);have a0:=J.laid (a:=↥s) (o:=.own (↥s+1)) (h':=s.heap.push s9) (t':=s.toks) (λb u q=>e2 _ q) (bQ _) (_,aq);refine a0.laid (a:=↥s+1) (o:=.ins C ↥s []) (t':=s.toks) (λb u q=>e2 _ q) (ame (YP _ _)) ?_;have ne:↥s≠↥s+1:=gz (wK _);refine(by rw[aP ne,aR],eW _,ne,aD,λ_=>none,(Heap.Ns1.of_empty bV).at λo q=>e2 _ q,λ_=>jO,λy aM=>absurd rfl aM)
def wP{prog:Program}{w:World}{env:Env}{e:Expr}(aa:attributeBase e f env (eval e env)=eval e env)
  (h:wpAny (model prog w) A (eval e env) (λo dC=>wpAny (model prog w) A (getAttr o f true) Q E dC) E s):wpAny (model prog w) A (eval (.Attribute e f pos) env) Q E s:=
 Attribute_any_ h (by rw[arm_eval_Attribute,aa])
end
def gr(K:bk)(H:av)(a:Addr)(f:Str)(v:V):Prop:=∃C aA a5,H a\(.ins C aA a5)/\ia K C/\dJ K C f/\a5.lookup f\v
noncomputable def F'(K:bk)(a_:TE)(f:Str):TE:=λσ H Q=>a_ σ H λx H1=>f9 x λa=>∃v,gr K H1 a f v/\Q v H1
noncomputable def OR(K:bk)(a_ gD:TE)(f:Str):eF:=λD σ H=>gD σ H λy H1=>a_ σ H1 λx aw=>f9 x λa=>∃C aA a5,aw a\(.ins C aA a5)/\ia K C/\dJ K C f/\↑a5<1000 /\
 D.cN σ (upd aw a (.ins C aA (dn f y a5)))
def O0(X:bc)(op:Operator)(n6:V->V->av->cV->Prop):Prop:=
 ∀(ab:List (Addr×Obj)) (s:Shared) (σ:St) (H:av) (x y:V) (u v:Value) (Q:cV),Inv X ab σ H s->be x u->be y v->n6 x y H Q->wpAny (model X.prog X.w) X.A (inplaceOp op u v) (gN X ab σ Q) X.ek s
noncomputable def To(K:bk)(a_ gD:TE)(n6:V->V->av->cV->Prop)(f:Str):eF:=λD σ H=>a_ σ H λx H1=>∃a C aA a5 v,x=⇑a/\H1 a\(.ins C aA a5)/\ia K C/\dJ K C f/\a5.lookup f\v /\
 gD σ H1 λy aw=>n6 v y aw λz ba=>∃h_ pD,ba a\(.ins C h_ pD)/\↑pD<1000/\D.cN σ (upd ba a (.ins C h_ (dn f z pD)))
section
variable{X:bc}{o e value:Expr}{f:Str}{pos pos' x':Pos}{a_ gD:TE}
def bB(he:bA X e a_)(aa:attributeBase e f X.env (eval e X.env)=eval e X.env):bA X (.Attribute e f pos) (F' X.K a_ f):=by
 intro ab s σ H Q J h;refine wP aa (bK (he ab s σ H _ J h) λu s1 cm=>ey cm λx H1 a0 bb gG=>?_);let(a,ex,v,(C,aA,a5,eg,c,n,l),q):=f9.out gG;subst ex;obtain rfl:u=ff a:=bb;exact VJ a0 eg c n l λvm s2 b1 fm=>(v,H1,b1,fm,q)
def fC(aO:bA X o a_)(aE:bA X value gD)(ay:swapsWith value (some (.Attribute o f pos')) pos.line X.env=pure false):hY X (.Assign [.Attribute o f pos'] value pos) (OR X.K a_ gD f):=by
 intro ab s σ H D J h;refine plainObj_wpAny_Assign_Attribute (bK (aE ab s σ H _ J h) λu s1 cm=>ey cm λy H1 a0 bE q=>bK (aO ab s1 σ H1 _ a0 q) λiG s2 cm=>ey cm λx aw b1 bb gG=>?_) ay;let(a,ex,C,aA,a5,eg,c,n,l,d7):=f9.out gG;subst ex;obtain rfl:iG=ff a:=bb;exact Pq b1 eg c n l bE λs3 fu=>(σ,_,fu,d7)
def NR{n6:V->V->av->cV->Prop}(aO:bA X o a_)(aE:bA X value gD)(rv:O0 X op n6):hY X (.AugAssign (.Attribute o f x') op value pos) (To X.K a_ gD n6 f):=by
 intro ab s σ H D J h;refine wpAny_AugAssign_AttributeAny (bK (aO ab s σ H _ J h) λiG s1 c_=>?_);let(x,H1,a0,bb,a,C,aA,a5,v,ex,eg,c,n,l,q):=c_;subst ex;obtain rfl:iG=ff a:=bb;refine VJ a0 eg c n l λu s2 b1 fm=>bK (aE ab s2 σ H1 _ b1 q) λij s3 cm=>ey cm λy aw fu bE hb=>bK (rv ab s3 σ aw v y u ij _ fu fm bE hb) λiC s4 c_=>?_
 let(z,ba,iA,Nl,h_,pD,akJ,l',rJ):=c_;exact Pq iA akJ c n l' Nl λs5 u4=>(σ,_,u4,rJ)
noncomputable def Hk:V->V->av->cV->Prop:=λx y H Q=>∃i j,x=.int i/\y=.int j/\Q (.int (i+j)) H
def HJ:O0 X .Add Hk:=by
 intro ab s σ H x y u v Q J bb bE (i,j,rfl,rfl,q);let(t,rfl):=(show ∃t,u=oA i t from bb);let(t',rfl):=(show ∃t',v=oA j t' from bE);exact apM (.int (i+j),H,J.tok _,(_,rfl),q)
end
section
variable{X:bc}{ab:List (Addr×Obj)}{σ:St}{H:av}{s:Shared}{A:Around}{E:Value->Shared->Prop}{Q:Value->Shared->Prop}{c:Value}{b:Bool}
inductive nf(K:bk)(H:av):V->Value->Prop where
 |cf:nf K H .cf (.type "NoneType")
 |bp (x:Bool):nf K H (.bp x) (.type "bool")
 |int (i:Int):nf K H (.int i) (.type "int")
 |str (x:Str):nf K H (.str x) (.type "str")
 |tI (x:UInt64):nf K H (.tI x) (.type "float")
 |lst {a:Addr} {xs:List V} (e:H a\(.lst xs)):nf K H (.ref a) (.type "list")
 |eX {a:Addr} {o:Obj} {xs:List V} (e:H a\(.eX o (.lst xs))):nf K H (.ref a) (.type "list")
 |tup {a:Addr} {xs:List V} (e:H a\(.tup xs)):nf K H (.ref a) (.type "tuple")
 |b2 {a:Addr} {kvs:List (Key×V)} (e:H a\(.b2 kvs)):nf K H (.ref a) (.type "dict")
 |gs {a:Addr} {kvs:List (List Key×V)} (e:H a\(.gs kvs)):nf K H (.ref a) (.type "dict")
 | ins {a C aA:Addr} {a5:List (Str×V)} (e:H a\(.ins C aA a5)) (cl:ia K C) (aO:dW K (.ref C) "__class__"\(some (.builtin "object.__class__")))
   (a8:xf K (.builtin "object.__class__") "__get__"\(some (.builtin "getset_descriptor.__get__"))) (zU:KZ K (.builtin "object.__class__")\true)
   (hm:K0 K C (.type "object")\true):nf K H ⇑a ⇑C
theorem amv{x:V}{u t:Value}(J:Inv X ab σ H s)(bb:be x u)(ty:nf X.K H x t)(e:t7 X.K t c\b)(h:∀tk,Q (.bool b) {s with toks:=tk}) :
  wpAny (model X.prog X.w) A (call (.builtin "isinstance") [u,c]) Q E s:=by
 cases ty with
 |cf=>cases(show u=sv from bb);exact qi PySem.W.kitx_none J.gC jO e (λz=>nomatch z) h
 |bp y=>cases(show u=k4 y from bb);exact qi PySem.W.kitx_bool J.gC jO e (λz=>nomatch z) h
 |int i=>let(t,q):=(show ∃t,u=oA i t from bb);cases q;exact qi PySem.W.kitx_int J.gC jO e (λz=>nomatch z) h
 |str y=>let(t,q):=(show ∃t,u=w2 y t from bb);cases q;exact qi PySem.W.kitx_str J.gC jO e (λz=>nomatch z) h
 |tI y=>let(t,q):=(show ∃t,u=SM y t from bb);cases q;exact qi PySem.W.kitx_float J.gC jO e (λz=>nomatch z) h
 | @lst a xs eg=>
  cases(show u=ff a from bb);let(_,_,n,_,ae):=(show e8 X.prog X.w H s.heap a (.lst xs)from J.bu a _ eg);exact qi afW J.gC (_,ae,rfl) e (λz=>nomatch z) h
 | @eX a cT xs eg=>
  cases(show u=ff a from bb);let(_,_,_,n,_,ae):=(show e8 X.prog X.w H s.heap a (.eX cT (.lst xs))from J.bu a _ eg);exact qi afW J.gC (_,ae,rfl) e (λz=>nomatch z) h
 | @tup a xs eg=>
  cases(show u=ff a from bb);let(_,_,_,p):=(show e8 X.prog X.w H s.heap a (.tup xs)from J.bu a _ eg);let(o,ae,ak,_):=p;exact qi PySem.W.kitx_tuple J.gC (o,ae,ak) e (λz=>nomatch z) h
 | @b2 a kvs eg=>
  cases(show u=ff a from bb);let(_,_,vs,_,p):=(show e8 X.prog X.w H s.heap a (.b2 kvs)from J.bu a _ eg);let(o,aU,cu,ae,ak,_):=p;exact qi ae8 J.gC (o,ae,ak.1) e (λz=>nomatch z) h
 | @gs a kvs eg=>
  cases(show u=ff a from bb);let(_,_,xs,_,o,aU,cu,ae,ak,_):=(show e8 X.prog X.w H s.heap a (.gs kvs)from J.bu a _ eg);exact qi ae8 J.gC (o,ae,ak.1) e (λz=>nomatch z) h
 | @ins a C aA a5 eg cl aO a8 zU hm=>
  cases(show u=ff a from bb);let(e0,O,_):=uH J.bu eg;let(fB,bz,_):=O.look;exact qi (PySem.W.kitx_own (cl.get _) cl.hd aO a8 zU hm) J.gC bz e (λz=>nomatch z) h
end
structure eY(k:Nat)(A:Around):Prop where
 hd:A.handled=none
 jz:A.depth+3*k+5<recursionLimit
 un:A.units+16*k+200<cLine
def eY.mono{j k:Nat}{A:Around}(r:eY k A)(h:j<=k):eY j A:=(r.hd,by have:=r.jz;omega,by have:=r.un;omega)
theorem eY.deeper{k:Nat}{A:Around}(r:eY (k+1) A)(env:Env):eY k (A.deeper env):=
 (r.hd,by have:=r.jz;show A.depth+1+3*k+5<_;omega,by have:=r.un;show A.units+3+16*k+200<_;omega)
theorem eY.in1{k:Nat}{A:Around}(r:eY (k+1) A):eY k A.in1:=
 (r.hd,by have:=r.jz;show A.depth+3*k+5<_;omega,by have:=r.un;show A.units+1+16*k+200<_;omega)
def apc{A:Around}:(A.under (.builtin "type.__call__" (⇑C::us,kw))).depth=A.depth+1:=by
 first|rfl|simp[Qr,Code.weight,Code.isCreation,Code.isGuard,Code.isCaller,Zu,Qn,guardIds]
def aho{A:Around}:(A.under (.builtin "type.__call__" (⇑C::us,kw))).units=A.units+1:=by
 first|rfl|simp[Qr,Code.cUnits,Zu,Qn]
def eY.make{k:Nat}{A:Around}(r:eY (k+1) A)(C:Addr)(us:List Value)(kw:List (Str×Value)):eY k (A.under (.builtin "type.__call__" (⇑C::us,kw))):=
 (r.hd,by have:=r.jz;rw[apc];omega,by have:=r.un;rw[aho];omega)
theorem eY.depth{k:Nat}{A:Around}(r:eY k A):A.depth<recursionLimit:=by have:=r.jz;omega
theorem eY.units{k:Nat}{A:Around}(r:eY k A):A.units+64<cLine:=by have:=r.un;omega
noncomputable def yB:fH:=λ_ H Q=>Q [] H
noncomputable def G1(a_:TE)(Dm:fH):fH:=λσ H Q=>a_ σ H λx H1=>Dm σ H1 λxs aw=>Q (x::xs) aw
section
variable{X:bc}{e:Expr}{aU:List Expr}{bW:TE}{t:fH}{pos:Pos}
def aC:h8 X [] yB:=λ_ _ _ _ H Q J h=>akv ([],H,J,.nil,h)
def ai(aO:bA X e bW)(ao:h8 X aU t)(ay:autoParam (starEach (e::aU) X.env=(p'p false (eval e X.env))::starEach aU X.env) A'r):h8 X (e::aU) (G1 bW t):=by
 intro pos ab s σ H Q J h;rw[ay];show wpAny _ _ (spliced ((p'p false (eval e X.env))::backTo pos (starEach aU X.env))) _ _ s;refine Ub (bK (aO ab s σ H _ J h) λu s1 cm=>ey cm λx H1 a0 ct bM=>?_);exact bK (ao pos ab s1 σ H1 _ a0 bM) λus s2 ⟨xs,aw,b1,fj,d7⟩=>(x::xs,aw,b1,.cons ct fj,d7)
noncomputable def I2(t:fH):TE:=λσ H Q=>t σ H λxs H1=>↑xs<=sizeLine/\∀p,H1 p=none->Q ⇑p (upd H1 p (.tup xs))
noncomputable def GH(t:fH):TE:=λσ H Q=>t σ H λxs H1=>↑xs<=sizeLine/\∀p,H1 p=none->Q ⇑p (upd H1 p (.lst xs))
def rK{dt}(h:h8 X aU t):bA X (.Tuple aU dt pos) (I2 t):=by
 intro ab s σ H Q J aI;refine wpAny_Tuple_spliced (bK (h pos ab s σ H _ J aI) λus s1 ⟨xs,H1,a0,r,z,q⟩=>(by rw[<- ↑r];exact z,?_));have hf:H1 ↥s1=none:=a0.bu.fresh (bQ _);refine(.ref ↥s1,upd H1 ↥s1 (.tup xs),a0.laid (t':=s1.toks) (λb u e=>e2 _ e) (bQ _) ?_,rfl,q _ hf);exact((z,_,hq _ rfl,rfl),us,r,(_,hq _ rfl,rfl,_,rfl))
def e5(h:h8 X aU t):bA X (.List aU pos) (GH t):=by
 intro ab s σ H Q J aI;refine wpAny_List_spliced (bK (h pos ab s σ H _ J aI) λus s1 ⟨xs,H1,a0,r,z,q⟩=>(by rw[<- ↑r];exact z,?_));have hf:H1 ↥s1=none:=a0.bu.fresh (bQ _);refine(.ref ↥s1,upd H1 ↥s1 (.lst xs),a0.laid (t':=s1.toks) (λb u e=>e2 _ e) (bQ _) ?_,rfl,q _ hf);exact(z,us,0,r,hq _ rfl)
end
noncomputable abbrev bO:=List V->av->cV->fT->Prop
noncomputable abbrev jX:=List Env->av->Shared->fT->Value->Shared->Prop
structure rm(P:Program)(w:World)(K:bk)(mg:Str->Option Value)(base:Heap)(A:Around)(outer:List Env)(s:Shared)(H:av):Prop where
 frames:A.frames\outer
 mod:Mod K mg base
 bs:∀b o,base.get? b\o->s.heap.get? b\o/\H b=none
 nR:base.objs.size<=↥s
 mL:s.heap.FunFrames base outer
 r_:∀b∈nP outer,H b=none
 bu:fw P w H s.heap
 bare:AllBare s.gens
def N6(outer:List Env)(P:Program)(w:World)(H:av)(s:Shared)(Q:cV)(u:Value)(aj:Shared):Prop:=
 ∃v I,aj.os=s.os/\AllBare aj.gens/\hP (nP outer) [] H I s.heap aj.heap/\fw P w I aj.heap/\be v u/\Q v I
def Bq(CX:jX)(outer:List Env)(P:Program)(w:World)(H:av)(s:Shared)(Q:cV)(E:fT)(r:Result)(aj:Shared):Prop:=
 match r with
 | .ok (.ret u)=>N6 outer P w H s Q u aj
 | .ok _=>False
 | .error e=>CX outer H s E e aj
structure cE(P:Program)(w:World)(K:bk)(mg:Str->Option Value)(base:Heap)(CX:jX)(k:Nat)(f:Addr)(fd:FuncData)(ps:List Str)(sp:bO):Prop where
 len:∀vs H Q E,sp vs H Q E->↑vs=↑ps
 run:∀(A:Around) (outer:List Env) (s:Shared) (H:av) (args:Args) (us:List Value) (vs:List V) (Q:cV) (E:fT),eY k A->rm P w K mg base A outer s H->BindsTo s fd args (ps.zip us)->cO vs us->sp vs H Q E ->
  codeAny (model P w) A (.call ⇑f args) (Bq CX outer P w H s Q E) s
theorem cE.mono{w:World}{K:bk}{mg:Str->Option Value}{base:Heap}{j k:Nat}{fd:FuncData}(F:cE P w K mg base CX j f fd ps sp)(h:j<=k) :
  cE P w K mg base CX k f fd ps sp:=(F.len,λA outer s H args us vs Q E ao=>F.run A outer s H args us vs Q E (ao.mono h))
def cE.imp{w:World}{K:bk}{mg:Str->Option Value}{base:Heap}{k:Nat}{fd:FuncData}(F:cE P w K mg base CX k f fd ps sp)
  (h:∀vs H Q E,qO vs H Q E->sp vs H Q E):cE P w K mg base CX k f fd ps qO:=
 (λvs H Q E q=>F.len vs H Q E (h _ _ _ _ q),λA outer s H args us vs Q E ao he aa aE ay=>F.run A outer s H args us vs Q E ao he aa aE (h _ _ _ _ ay))
def rm.make{w:World}{K:bk}{mg:Str->Option Value}{base:Heap}{A:Around}{outer:List Env}(e:rm P w K mg base A outer s H)(C:Addr)(us:List Value)(kw:List (Str×Value)) :
  rm P w K mg base (A.under (.builtin "type.__call__" (⇑C::us,kw))) outer s H:=(by first|exact e.frames|(simpa[Qr,Code.envs,Qn,pushEnvs]using e.frames),e.mod,e.bs,e.nR,e.mL,e.r_,e.bu,e.bare)
section
variable{X:bc}{ab:List (Addr×Obj)}{σ:St}{H:av}{s aj:Shared}
def Inv.WM(J:Inv X ab σ H s):rm X.prog X.w X.K X.mg X.base X.A X.stack s H:=
 (J.ok.frames,J.ok.mod,J.bs,cM J.ok.nR J.pA,J.stack,J.HS,J.bu,J.bare)
def Inv.after(J:Inv X ab σ H s)(h:N6 X.stack X.prog X.w H s Q u aj):gN X ab σ Q u aj:=by
 let(v,I,os,bare,un,bu,r,q):=h;let(bT,g,d,t,ajs):=aj;obtain rfl:ajs=s.os:=os;exact(v,I,J.call (h':=bT) (g':=g) (d':=d) (t':=t) (ch:=[]) un bu bare (λb z=>absurd z (by simp)),r,q)
end
noncomputable def xO(sp:bO)(dvs:List V)(E:fT)(t:fH):TE:=λσ H Q=>t σ H λvs H1=>sp (vs++dvs) H1 Q E
noncomputable def Kd(C:Addr)(m:Str)(sp:bO)(dvs:List V)(E:fT)(a_:TE)(t:fH):TE:=λσ H Q=>a_ σ H λx H1=>f9 x λa=>∃aA a5,H1 a\(.ins C aA a5)/\a5.lookup m=none /\
 t σ H1 λvs aw=>sp (x::(vs++dvs)) aw Q E
noncomputable def WT(C:Addr)(sp:bO)(dvs:List V)(E:fT)(t:fH):TE:=λσ H Q=>t σ H λvs H1=>∀x aA,H1 x=none->H1 aA=none->aA≠x ->
 sp (⇑x::(vs++dvs)) (upd (upd H1 aA (.own x)) x (.ins C aA [])) (λv aw=>v=.cf/\Q ⇑x aw) E
def b5(K:bk)(fd:FuncData)(ps:List Str)(ds:List Value):Prop:=
 ∀(s:Shared) (us:List Value),K.In s.heap->↑(us++ds)=↑ps->BindsTo s fd (us,[]) (ps.zip (us++ds))
def b5.all{K:bk}{fd:FuncData}(h:∀us:List Value,↑us=↑ps->bindArgs fd (us,[])=pure (ps.zip us)):b5 K fd ps []:=λs us _ aK=>by
 rw[qC]at aK⊢;exact .of_eq (h us aK)
def qy(CX:jX)(X:bc)(E:fT):Prop:=∀(ab:List (Addr×Obj)) (σ:St) (H:av) (s:Shared) (e:Value) (aj:Shared),Inv X ab σ H s->CX X.stack H s E e aj->X.ek e aj
section
variable{X:bc}{CX:jX}{k:Nat}{f C:Addr}{fd:FuncData}{ps:List Str}{sp:bO}{dvs:List V}{ds:List Value}{E:fT}{x m:Str}{p pos gh:Pos}{e o:Expr}{aU:List Expr}{a_:TE}{t:fH}
theorem zL(F:cE X.prog X.w X.K X.mg X.base CX k f fd ps sp)(ao:eY k X.A)(aa:b5 X.K fd ps ds)(hd:cO dvs ds)(ag:qy CX X E)
  (J:Inv X ab σ H s) (r:cO vs us) (h:sp (vs++dvs) H Q E):wpAny (model X.prog X.w) X.A (call ⇑f us) (gN X ab σ Q) X.ek s:=by
 have fj:cO (vs++dvs) (us++ds):=r.append hd;have aK:↑(us++ds)=↑ps:=by rw[<- ↑fj];exact F.len _ _ _ _ h
 refine wpAny_call (codeAny_mono (F.run X.A X.stack s H (us,[]) (us++ds) (vs++dvs) Q E ao J.WM (aa s us J.gC aK) fj h) λr aj aI=>?_);cases r with
 |error e=>exact ag ab σ H s e aj J aI
 |ok fc=>
  cases fc with
  |ret u=>exact J.after aI
  |next=>exact k9 aI
  |brk=>exact k9 aI
  |cont=>exact k9 aI
def YB(F:cE X.prog X.w X.K X.mg X.base CX k f fd ps sp)(ao:eY k X.A)(a7:k1 X x)(hm:X.mg x\⇑f)(ax:tH X.K ⇑f=true)(aa:b5 X.K fd ps ds)(hd:cO dvs ds)(ag:qy CX X E)
  (aO:h8 X (e::aU) t) (pw:autoParam ((x==("__debug__":Str))=false) A'd) (he:autoParam (starEach (e::aU) X.env=(p'p false (eval e X.env))::starEach aU X.env) A'r) (c2:autoParam ((backTo pos (starEach aU X.env)).any (·.1)=false) A'r) :
  bA X (.Call (.Name x p) (e::aU) [] pos) (xO sp dvs E t):=by
 intro ab s σ H Q J h;refine wpAny_Call_Name_kw (E_ J a7 hm ?_ pw);refine K8 (h₀:=X.base) J.ok.mod.vz ax (bK (aO pos ab s σ H _ J h) λus s1 ⟨vs,H1,a0,r,q⟩=>(a0.gC,?_)) he c2;exact zL F ao aa hd ag a0 r q
def fK(he:bA X o a_)(c:ia X.K C)(hm:gw X.K C m f)(F:cE X.prog X.w X.K X.mg X.base CX k f fd ps sp)(ao:eY k X.A)(aa:b5 X.K fd ps ds)(hd:cO dvs ds)(ag:qy CX X E)(aO:h8 X (e::aU) t)
  (e9:autoParam (starEach (e::aU) X.env=(p'p false (eval e X.env))::starEach aU X.env) A'r) (c2:autoParam ((backTo pos (starEach aU X.env)).any (·.1)=false) A'r)
  (c6:eval (.Call (.Attribute o m gh) (e::aU) [] pos) X.env=(do
   let iG <- eval o X.env
   standAt gh.atName
   let (f,first) <- holding [iG] (getMethod iG m pl)
   callWith pos f first (backTo pos (starEach (e::aU) X.env)) (backToKw pos (keywordEach [] X.env))):=by rfl) :
  bA X (.Call (.Attribute o m gh) (e::aU) [] pos) (Kd C m sp dvs E a_ t):=by
 intro ab s σ H Q J h;refine JF (pl:=pl) (bK (he ab s σ H _ J h) λu s1 cm=>ey cm λx H1 a0 bb gG=>?_) c6;let(a,ex,aA,a5,eg,l,q):=f9.out gG;subst ex;obtain rfl:u=ff a:=bb;refine F9 a0 eg c hm l ?_;refine K8 (first:=[⇑a]) (h₀:=X.base) J.ok.mod.vz hm.bo (bK (aO pos ab s1 σ H1 _ a0 q) λus s2 ⟨vs,aw,b1,r,d7⟩=>(b1.gC,?_)) e9 c2;exact zL (us:=⇑a::us) (vs:=⇑a::vs) F ao aa hd ag b1 (.cons rfl r) d7
def kQ(he:bA X o a_)(c:ia X.K C)(hm:gw X.K C m f)(F:cE X.prog X.w X.K X.mg X.base CX k f fd ps sp)(ao:eY k X.A)(aa:b5 X.K fd ps ds)(hd:cO dvs ds)(ag:qy CX X E)
  (c6:eval (.Call (.Attribute o m gh) [] [] pos) X.env=(do
   let iG <- eval o X.env
   standAt gh.atName
   let (f,first) <- holding [iG] (getMethod iG m pl)
   callWith pos f first (backTo pos (starEach [] X.env)) (backToKw pos (keywordEach [] X.env))):=by rfl) :
  bA X (.Call (.Attribute o m gh) [] [] pos) (Kd C m sp dvs E a_ yB):=by
 intro ab s σ H Q J h;refine JF (pl:=pl) (bK (he ab s σ H _ J h) λu s1 cm=>ey cm λx H1 a0 bb gG=>?_) c6;let(a,ex,aA,a5,eg,l,q):=f9.out gG;subst ex;obtain rfl:u=ff a:=bb;refine F9 a0 eg c hm l ?_;exact aiS (first:=[⇑a]) a0.gC hm.bo (zL (us:=[⇑a]) (vs:=[⇑a]) F ao aa hd ag a0 (.cons rfl .nil) q)
structure q5(K:bk)(C f:Addr):Prop where
 makes:aka K C=true
 init:dW K ⇑C "__init__"\(some ⇑f)
 fn:Tt K ⇑f=true
 bo:tH K ⇑C=true
theorem aeo(M:q5 X.K C f)(F:cE X.prog X.w X.K X.mg X.base CX k f fd ps sp)(ao:eY (k+1) X.A)(aa:b5 X.K fd ps ds)(hd:cO dvs ds)
  (ag:qy CX X E) (J:Inv X ab σ H s) (r:cO vs us)
  (h:∀x aA,H x=none->H aA=none->aA≠x->sp (⇑x::(vs++dvs)) (upd (upd H aA (.own x)) x (.ins C aA [])) (λv aw=>v=.cf/\Q ⇑x aw) E) :
  wpAny (model X.prog X.w) X.A (call ⇑C us) (gN X ab σ Q) X.ek s:=by
 have aI:=h (↥s+1) ↥s (J.bu.fresh (Bx _)) (J.bu.fresh (bQ _)) (gz (wK _));have b1:=Inv.made (C:=C) J;have fj:cO (V.ref (↥s+1)::(vs++dvs)) (ff (↥s+1)::(us++ds)):=.cons rfl (r.append hd);have aK:↑(ff (↥s+1)::us++ds)=↑ps:=by
  have e:=↑fj;rw[F.len _ _ _ _ aI]at e;exact e.symm
 refine wpAny_call (aiQ (f:=f) J.gC M.makes M.init (beq_iff_eq.mp M.fn) (codeAny_mono (F.run _ X.stack _ _ (ff (↥s+1)::us,[]) (ff (↥s+1)::(us++ds)) _ _ E (ao.make C us [])
  (b1.WM.make C us []) (aa _ (ff (↥s+1)::us) b1.gC aK) fj aI) λr aj o9=>?_))
 cases r with
 |error e=>exact ag ab σ _ _ e aj b1 o9
 | ok fc=>
  cases fc with
  |ret u=>
   let(v,I,fu,cI,ev,hb):=b1.after o9;subst ev;exact(cI,(V.ref (↥s+1),I,fu,rfl,hb))
  |next=>exact k9 o9
  |brk=>exact k9 o9
  |cont=>exact k9 o9
def uM(M:q5 X.K C f)(F:cE X.prog X.w X.K X.mg X.base CX k f fd ps sp)(ao:eY (k+1) X.A)(a7:k1 X x)(hm:X.mg x\⇑C)(aa:b5 X.K fd ps ds)(hd:cO dvs ds)(ag:qy CX X E)
  (aO:h8 X (e::aU) t) (pw:autoParam ((x==("__debug__":Str))=false) A'd) (he:autoParam (starEach (e::aU) X.env=(p'p false (eval e X.env))::starEach aU X.env) A'r) (c2:autoParam ((backTo pos (starEach aU X.env)).any (·.1)=false) A'r) :
  bA X (.Call (.Name x p) (e::aU) [] pos) (WT C sp dvs E t):=by
 intro ab s σ H Q J h;refine wpAny_Call_Name_kw (E_ J a7 hm ?_ pw);refine K8 (h₀:=X.base) J.ok.mod.vz M.bo (bK (aO pos ab s σ H _ J h) λus s1 ⟨vs,H1,a0,r,q⟩=>(a0.gC,?_)) he c2;exact aeo M F ao aa hd ag a0 r q
end
structure Db(N P:List Str)(sc:Scope):Prop where
 kind:sc.kind=.function
 co:sc.isCoroutine=false
 gen:sc.isGenerator=false
 aG:N.Nodup
 pre:N.take ↑P=P
 par:∀x∈P,sc.names.lookup x\.local\/sc.names.lookup x\.cell
 Zw:∀y∈sc.names,y.2≠.free
theorem WW{kindOf:Str->Option NameKind}{x:Str}:∀{binds:List (Str×Value)} {m:Str->Option Value},(∀v,(p'p x v)∉binds)->bindL kindOf binds m x=m x
 |[],_,_=>rfl
 | (n,v)::r,m,h=>by
  unfold bindL;rw[WW λw hw=>h w (i7 _ hw)];split
  .have:x≠n:=by rintro rfl;exact h v oi
   simp[this]
  .rfl
theorem WJ{kindOf:Str->Option NameKind}{x:Str}:∀{binds:List (Str×Value)} {m:Str->Option Value},(∀v,(p'p x v)∉binds)->bindC kindOf binds m x=m x
 |[],_,_=>rfl
 | (n,v)::r,m,h=>by
  unfold bindC;rw[WJ λw hw=>h w (i7 _ hw)];split
  .rfl
  .have:x≠n:=by rintro rfl;exact h v oi
   simp[this]
theorem Yv{kindOf:Str->Option NameKind}{x:Str}{v:Value}:∀{P:List Str} {vs:List Value} {i:Nat} {m:Str->Option Value},P.Nodup->P[i]?\x->vs[i]?\v->kindOf x\.local ->
  bindL kindOf (P.zip vs) m x\v
 |[],_,_,_,_,h,_,_=>by simp at h
 |_::_,[],_,_,_,_,h,_=>by simp at h
 |p::P,w::vs,0,m,aG,ae,ak,ax=>by
  simp at ae ak;subst ae;subst ak;show bindL kindOf ((p'p p w)::P.zip vs) m p=_;unfold bindL;rw[WW λv aE=>(ni.mp aG).1 (YA aE).1,if_pos ax];simp
 |p::P,w::vs,i+1,m,aG,ae,ak,ax=>by
  show bindL kindOf ((p'p p w)::P.zip vs) m x=_;unfold bindL;exact Yv (i:=i) (ni.mp aG).2 (by simpa using ae) (by simpa using ak) ax
theorem OQ{kindOf:Str->Option NameKind}{x:Str}{v:Value}:∀{P:List Str} {vs:List Value} {i:Nat} {m:Str->Option Value},P.Nodup->P[i]?\x->vs[i]?\v->kindOf x≠some .local ->
  bindC kindOf (P.zip vs) m x\v
 |[],_,_,_,_,h,_,_=>by simp at h
 |_::_,[],_,_,_,_,h,_=>by simp at h
 |p::P,w::vs,0,m,aG,ae,ak,ax=>by
  simp at ae ak;subst ae;subst ak;show bindC kindOf ((p'p p w)::P.zip vs) m p=_;unfold bindC;rw[WJ λv aE=>(ni.mp aG).1 (YA aE).1,if_neg ax];simp
 |p::P,w::vs,i+1,m,aG,ae,ak,ax=>by
  show bindC kindOf ((p'p p w)::P.zip vs) m x=_;unfold bindC;exact OQ (i:=i) (ni.mp aG).2 (by simpa using ae) (by simpa using ak) ax
noncomputable def start(N:List Str)(vs:List V):St:=vs.map some++f6 (↑N-↑vs) none
noncomputable def td(CX:jX)(P:Program)(w:World)(K:bk)(mg:Str->Option Value)(base:Heap)(N:List Str)(qual:Str)(scope:Scope)(f:Addr)(cd:Value)(A:Around)(outer:List Env)(s:Shared)(H:av)(E:fT):bc where
 prog:=P
 w:=w
 K:=K
 mg:=mg
 base:=base
 A:=A.deeper (envOfC qual scope ↥s f cd)
 N:=N
 gk:=s
 sP:=H
 env:=envOfC qual scope ↥s f cd
 outer:=outer
 stack:=envOfC qual scope ↥s f cd::outer
 ex:=[]
 calm:=true
 fn:=λ_=>true
 fs:=[]
 ek:=λe aj=>wpAny (model P w) (A.deeper (envOfC qual scope ↥s f cd)) (leaving (envOfC qual scope ↥s f cd) e) (λ_ uZ=>CX outer H s E e uZ) (λbD uZ=>CX outer H s E bD uZ) aj
def Sx{sc:Scope}{n:Nat}{x:Str}(h:sc.names.lookup x\.cell):∃c,(cellsFrom n sc.names []).lookup x\c:=by
 have q:=ahn sc.names n [] (.inl h);exact afO.mp q
theorem ak1{CX:jX}{P:Program}{w:World}{K:bk}{mg:Str->Option Value}{base:Heap}{N ps:List Str}{qual:Str}{scope:Scope}{f:Addr}{cd:Value}{A:Around}{outer:List Env}{s s1:Shared}{H:av}{E:fT}{us:List Value}{vs:List V}
  (S:Db N ps scope) (hd:A.handled=none) (eh:rm P w K mg base A outer s H) (aK:↑vs=↑ps) (r:cO vs us)
  (x:InCallC s ↥s (bindL (envOfC qual scope ↥s f cd).kindOf (ps.zip us) λ_=>none) (cellsFrom (↥s+1) scope.names []) (bindC (envOfC qual scope ↥s f cd).kindOf (ps.zip us) λ_=>none) s1) :
  Inv (td CX P w K mg base N qual scope f cd A outer s H E) [] (start N vs) H s1:=by
 have c2:↑ps<=↑N:=by have:=congrArg q8 S.pre;rw[hC]at this;omega
 let(ae,tk,rfl,ax):=x.done;have tp:∀b:Addr,b∉(td CX P w K mg base N qual scope f cd A outer s H E).ex:=λb z=>absurd (show b∈([]:List Addr)from z) (by simp)
 refine((eh.mod,S.kind,rfl,rfl,bQ _,λy z c ae ak=>?_,λy aM=>?_,λy c _ h=>?_,λ_=>hd,abv eh.frames,.inr (rfl,rfl),λb z=>absurd z (tp b),eh.bs,eh.nR,λb _ _=>tp b,λb z=>absurd z (tp b),eh.mL,eh.r_),
  rfl,eh.bare,hP.kept ax,(_,x.toInCall.ns,λi y v ae ak aZ=>?_),λy c h=>(_,x.cell y c h),eh.bu.fresh (bQ _),λy c h=>?_,λp ar=>absurd (show p∈([]:List (Addr×Obj))from ar) (by simp),eh.bu.kept ax,?_)
 .exact name_of_addr x.apart (wH ae) (wH ak)
 .have aM:scope.names.lookup y\.cell\/scope.names.lookup y\.free:=aM;rcases aM with aM|aM
  .exact Sx aM
  .exact absurd rfl (S.Zw _ (wH aM))
 .exact nv (x.above y c (wH h))
 .have ah:i<↑vs:=by
   unfold start at ak;by_cases ah:i<↑vs
   .exact ah
   .rw [kz (by simpa using ah)]at ak;rw[List.getElem?_replicate]at ak;split at ak <;> cases ak
  have aO:vs[i]?\v:=by
   unfold start at ak;rw[lC (by simpa using ah),dg]at ak;cases e:vs[i]? with
   |none=>rw[e]at ak;cases ak
   |some a=>rw[e]at ak;cases ak;rfl
  let(u,bR,cI):=r.get aO;have ar:ps[i]?\y:=by
   rw[<- S.pre,w5 ()];exact ae
  have TO:ps.Nodup:=by rw[<- S.pre];exact S.aG.sublist (List.take_sublist _ _)
  refine(u,cI,?_);rcases S.par y (bU ar)with k|k
  .exact .inl (k,Yv TO ar bR k)
  .let(c,e):=Sx (n:=↥s+1) k;refine .inr (.inl k,c,e,?_);have q:=x.cell y c e;rw[OQ TO ar bR (by show scope.names.lookup y≠_;rw[k];decide)]at q;exact q
 .exact eh.bu.fresh (nv (x.above y c (wH h)))
 .unfold start;show _=↑N;rw[cB,aX,oh];omega
theorem X2{w:World}{K:bk}{mg:Str->Option Value}{base:Heap}{k:Nat}{name qual:Str}{EO d3 doc pm fZ fY ou:Value}
 {N ps:List Str} (lk:K.lookup f\(ou,fB,.func (x2 name qual params body scope EO d3 doc pm an fZ fY),uB)) (jY:VZ K fZ qual=true) (S:Db N ps scope)
    (len:∀vs H Q E,sp vs H Q E->↑vs=↑ps)
    (oP:∀(A:Around) (outer:List Env) (s:Shared) (H:av) (vs:List V) (Q:cV) (E:fT),eY k (A.deeper (envOfC qual scope ↥s f fZ))->sp vs H Q E ->
      ∃t,jS (td CX P w K mg base N qual scope f fZ A outer s H E) body t/\t {cN:=λ_ I=>Q .cf I,me:=Q} (start N vs) H) :
    cE P w K mg base CX (k+1) f (x2 name qual params body scope EO d3 doc pm an fZ fY) ps sp:=by
  refine(len,λA outer s H args us vs Q E ao eh aa r lO=>?_);have aK:=len _ _ _ _ lO;have kN:K.In s.heap:=eh.mod.vz.keeps λb o e=>(eh.bs b o e).1
  have lim:s.heap.NoLimit:=eh.mod.nolimit.keeps λb o e=>(eh.bs b o e).1
  have abG:∀y∈ps.zip us,scope.names.lookup y.1\.local\/(scope.names.lookup y.1\.cell/\((cellsFrom (↥s+1) scope.names []).lookup y.1).isSome=true):=λ⟨n,v⟩ aM=>by
    rcases S.par n (YA aM).1 with q|q
    · exact .inl q
    · exact .inr (q,ahn _ _ _ (.inl q))
  refine codeAny_call_function ao.depth (kN _ _ lk) rfl S.co S.gen rfl (PySem.W.codeRec_of kN jY) (aa _ _ _ _ ?_);refine wpAny_newFunctionEnv_cells S.kind abG λenv he s1 x=>?_
  subst he;refine(lim.keeps x.toInCall.keep,codeAny_func ?_);let(t,c6,aI):=oP A outer s H vs Q E (ao.deeper _) lO;have J:Inv (td CX P w K mg base N qual scope f fZ A outer s H E) [] (start N vs) H s1:=ak1 S ao.hd eh aK r x;refine wpAny_mono (c6 [] s1 (start N vs) H _ J aI) (λfc aj ay=>?_) λe aj ay=>ay
  have fin:∀{au:St} {I:av} {v:V} {u:Value},Inv (td CX P w K mg base N qual scope f fZ A outer s H E) [] au I aj->be v u->Q v I->N6 outer P w H s Q u aj:=
    λ{au I v u} bz cI q=>(v,I,bz.os,bz.bare,bz.base,bz.bu,cI,q)
  cases fc with
  | ret u=>
    let(v,au,I,bz,cI,q):=ay;exact fin bz cI q
  | next=>
    let(au,I,bz,q):=ay;exact fin (v:=V.cf) (u:=sv) bz rfl q
  | brk=>
    let(_,_,_,q):=ay;exact k9 q
  | cont=>
    let(_,_,_,q):=ay;exact k9 q
section
variable{X:bc}{x:Str}{p pos:Pos}{e:Expr}{aU:List Expr}{t:fH}{id T:String}{r:List V->av->cV->Prop}
noncomputable def Ei(r:List V->av->cV->Prop)(t:fH):TE:=λσ H Q=>t σ H λvs H1=>r vs H1 Q
def fx(aB:l9 X (.builtin id) r)(a7:k1 X x)(hm:X.mg x=none)(aE:bootBuiltins x\(.builtin id))(aO:h8 X (e::aU) t)(a8:autoParam (x≠"__name__") A'd)(pw:autoParam ((x==("__debug__":Str))=false) A'd)
  (he:autoParam (starEach (e::aU) X.env=(p'p false (eval e X.env))::starEach aU X.env) A'r) (c2:autoParam ((backTo pos (starEach aU X.env)).any (·.1)=false) A'r):bA X (.Call (.Name x p) (e::aU) [] pos) (Ei r t):=by
 intro ab s σ H Q J h;refine wpAny_Call_Name_kw (q1 J a7 hm aE ?_ a8 pw);exact arS (bK (aO pos ab s σ H _ J h) λus s1 ⟨vs,H1,a0,ct,bM⟩=>aB ab s1 σ H1 vs us Q a0 ct bM) he c2
def rj(aB:l9 X (.type T) r)(a7:k1 X x)(hm:X.mg x=none)(aE:bootBuiltins x\(.type T))(aO:h8 X (e::aU) t)(a8:autoParam (x≠"__name__") A'd)(pw:autoParam ((x==("__debug__":Str))=false) A'd)
  (he:autoParam (starEach (e::aU) X.env=(p'p false (eval e X.env))::starEach aU X.env) A'r) (c2:autoParam ((backTo pos (starEach aU X.env)).any (·.1)=false) A'r):bA X (.Call (.Name x p) (e::aU) [] pos) (Ei r t):=by
 intro ab s σ H Q J h;refine wpAny_Call_Name_kw (q1 J a7 hm aE ?_ a8 pw);exact BA (bK (aO pos ab s σ H _ J h) λus s1 ⟨vs,H1,a0,ct,bM⟩=>aB ab s1 σ H1 vs us Q a0 ct bM) he c2
end
end L2
namespace eZ
open PySem PyProof.Rows
section
open PySem.SeqAt
open PySem.AutoSeq1 (wpAny_loadPart')
open PySem.MeetsSeq PySem.MeetsSeq2 PySem.MeetsSeq3
end
section
variable{prog:Program}{w:World}{A:Around}{E:Value->Shared->Prop}{s:Shared}
noncomputable def dd(n d:Nat):Option Int->Nat
 |none=>d
 |some v=>if v<0 then(v+(n:Int)).toNat else min v.toNat n
def aj8(n d:Nat):dd n d none=d:=rfl
def EM(n d k:Nat):dd n d (some (k:Int))=min k n:=by
 show(if(k:Int)<0 then((k:Int)+(n:Int)).toNat else min (k:Int).toNat n)=min k n;rw[if_neg (),mN]
theorem adS(n d:Nat)(hd:d<=n)(o:Option Int):dd n d o<=n:=by
 cases o with
 |none=>exact hd
 |some v=>
  show(if v<0 then(v+(n:Int)).toNat else min v.toNat n)<=n;by_cases aE:v<0
  .rw [if_pos aE];omega
  .rw [if_neg aE];exact Nat.min_le_right _ _
def OP(v:Int)(n d:Nat):(if v<0 then max (v+(n:Int)) 0 else min v (n:Int))=((dd n d (some v):Nat):Int):=by
 show(if v<0 then max (v+(n:Int)) 0 else min v (n:Int))=(((if v<0 then(v+(n:Int)).toNat else min v.toNat n):Nat):Int);by_cases aE:v<0
 .simp only[if_pos aE];omega
 .simp only[if_neg aE];omega
theorem ajp(lo ah:Option Int)(n:Nat):UG lo ah 1 (n:Int)=(p'p ((dd n 0 lo:Nat):Int) ((dd n n ah:Nat):Int)):=by
 have ae:¬((1:Int)<0):=()
 unfold UG;simp only[ae,if_false];refine Prod.ext ?_ ?_
 .cases lo with
  |none=>rfl
  |some v=>exact OP v n 0
 .cases ah with
  |none=>rfl
  |some v=>exact OP v n n
def apj(i j:Nat):Nm (i:Int) (j:Int) 1=j-i:=by
 unfold Nm;have ae:(1:Int)>0:=()
 simp only[ae,if_true,Int.ediv_one];split <;> omega
theorem Uh(p:IsPart v o)(h:Q o s):wpAny (model prog w) A (arO v) Q E s:=by
 cases p with
 |none=>exact slicePart_none h
 |int i t=>exact slicePart_int h
def afd{cH:Addr}{kD kO:Value}{lo ah:Option Int}{n:Nat}{Q:Int×Int×Nat->Shared->Prop}(ay:s.heap.IsSliceOf cH kD kO .none)(pl:IsPart kD lo)(pu:IsPart kO ah)
  (h:Q (p'p ((dd n 0 lo:Nat):Int) (p'p 1 (dd n n ah-dd n 0 lo))) s):wpAny (model prog w) A (acO ⇑cH (pure (n:Int))) Q E s:=by
 let(os,yQ,EC,Ce):=id ay;unfold acO aqK;refine wpAny_bind (wpAny_bind (wpAny_field yQ Ce (x:=kD) rfl (wpAny_bind (wpAny_field yQ Ce (x:=kO) rfl (wpAny_bind (wpAny_field yQ Ce (x:=.none) rfl (wpAny_pure ?_)))))));refine wpAny_bind (slicePart_none ?_);show wpAny _ _ (if((1:Int)==0)=true then _ else _) _ _ s;rw[if_neg ∅];refine wpAny_bind (Uh pl (wpAny_bind (Uh pu (wpAny_bind (wpAny_pure ?_)))));show wpAny _ _ (match UG lo ah 1 (n:Int)with|(lo,ah)=>pure (p'p lo (p'p (1:Int) (Nm lo ah 1)))) _ _ s;rw[ajp lo ah n];show wpAny _ _ (pure (p'p ((dd n 0 lo:Nat):Int) (p'p (1:Int) (Nm ((dd n 0 lo:Nat):Int) ((dd n n ah:Nat):Int) 1)))) _ _ s;rw[apj];exact wpAny_pure h
def KM(xs:Array Value)(i k:Nat):((fb k).filterMap λ(m:Nat)=>xs[((i:Int)+(m:Int)*1).toNat]?).toArray=((xs.toList.drop i).take k).toArray:=by
 have e:(λ(m:Nat)=>xs[((i:Int)+(m:Int)*1).toNat]?)=λm=>xs[i+m]?:=by
  funext m;have:((i:Int)+(m:Int)*1).toNat=i+m:=()
  rw[this]
 rw[e];have:=pick_run xs i k;rw[List.filterMap_map]at this;have aD:((λx=>xs[x]?) ∘ λx=>i+x)=λm=>xs[i+m]?:=rfl
 rw[aD]at this;rw[this]
theorem amx{t cH:Addr}{items:Array Value}{kD kO:Value}{lo ah:Option Int}{Q:Value->Shared->Prop}(c6:IsTup s.heap t items)(ay:s.heap.IsSliceOf cH kD kO .none)(pl:IsPart kD lo)(pu:IsPart kO ah)
  (hw:¬(dd items.size 0 lo=0/\dd items.size items.size ah=items.size))
  (h:Q (.ref ↥s) {s with heap:=s.heap.push {cls:=.type "tuple",data:=.seq ((items.toList.drop (dd items.size 0 lo)).take (dd items.size items.size ah-dd items.size 0 lo)).toArray} })
  (hsz:items.size<=sizeLine):wpAny (model prog w) A (getItem ⇑t ⇑cH) Q E s:=by
 have Fh:sizeOk (.seq ((items.toList.drop (dd items.size 0 lo)).take (dd items.size items.size ah-dd items.size 0 lo)).toArray):=by
  show((items.toList.drop (dd items.size 0 lo)).take (dd items.size items.size ah-dd items.size 0 lo)).toArray.size<=sizeLine;rw[fF,hC,lZ,Gm];omega
 have aJ:dd items.size items.size ah<=items.size:=adS _ _ (bQ _) ah;let(os,yQ,EC,Ce):=id ay;have aog:s.TypeIs ⇑cH "slice":=(os,yQ,EC);unfold getItem
 try with_reducible refine wpAny_holding ?_
 first|refine wpAny_bind (wpAny_pure ?_)|skip
 refine wpAny_bind (wpAny_sequenceKey c6.typeIs ∅ ?_);refine wpAny_bind (wpAny_callSpecial?_slot (name:=af "__getitem__") c6.typeIs Pd
  (wpAny_call_entry Pd c6.typeIs entry_tuple_getitem ?_ (args_tuple_getitem _ _)))
 show wpAny _ _ (ap' ⇑t >>= _) _ _ s;refine wpAny_bind (tupleItemsOf_ c6 ?_);refine wpAny_bind (wpAny_typeOf aog ?_);rw[if_pos ∅];refine wpAny_bind (afd ay pl pu ?_);have Oa:¬((((dd items.size 0 lo:Nat):Int)==0&&(1:Int)==1&&(dd items.size items.size ah-dd items.size 0 lo)==items.size)=true):=by
  intro q;rw[kX,kX]at q;have bM:((dd items.size 0 lo:Nat):Int)=0:=eq_of_beq q.1.1;have d7:dd items.size items.size ah-dd items.size 0 lo=items.size:=eq_of_beq q.2;exact hw ((),())
 show wpAny _ _ (if(((dd items.size 0 lo:Nat):Int)==0&&(1:Int)==1&&(dd items.size items.size ah-dd items.size 0 lo)==items.size)=true then _ else _) _ _ s;rw[if_neg Oa,KM]
 first
  |exact wpAny_bind (m:=L0 _) (wpAny_newObj_type (wpAny_pure (_,rfl,wpAny_pure h)) Fh)
  |exact wpAny_bind (m:=L0 _) (wpAny_newObj_type (wpAny_bind (wpAny_pure (wpAny_pure (_,rfl,wpAny_pure h)))) Fh)
  |exact wpAny_bind (wpAny_bind (m:=L0 _) (wpAny_newObj_type (wpAny_pure (wpAny_pure (_,rfl,wpAny_pure h))) Fh))
  |exact wpAny_bind (wpAny_bind (m:=L0 _) (wpAny_newObj_type (wpAny_pure (_,rfl,wpAny_pure h)) Fh))
end
end eZ
namespace L2
open PySem PySem.Spec PyProof.Rows
noncomputable abbrev kF:=St->av->(Option Int->av->Prop)->Prop
def BW(X:bc)(e:Option Expr)(t:kF):Prop:=
 ∀(ab:List (Addr×Obj)) (s:Shared) (σ:St) (H:av) (Q:Option Int->av->Prop),Inv X ab σ H s->t σ H Q ->
  wpAny (model X.prog X.w) X.A (evalPart e X.env) (λu aj=>∃o I,Inv X ab σ I aj/\IsPart u o/\Q o I) X.ek s
noncomputable def FY:kF:=λ_ H Q=>Q none H
noncomputable def Ll(t:TE):kF:=λσ H Q=>t σ H λx H1=>hv x λi=>Q (some i) H1
theorem akN{ns:List Int}:∀{us:List Value},cO (ns.map V.int) us->IntsAre us ns:=by
 induction ns with
 |nil=>intro us r;rw[rC]at r;cases r;exact .nil
 | cons n ns cZ=>
  intro us r;rw[fz]at r;cases r with
  |cons ct fj=>
   let(t,e):=ct;subst e;exact .cons n t (cZ fj)
section
variable{X:bc}{e:Expr}{bW:TE}{lo ah:Option Expr}{c7 va:kF}{pos cX:Pos}
def oy:BW X none FY:=by
 intro ab s σ H Q J h;rw[evalPart_none];exact wpAny_pure (none,H,J,.none,h)
def nd(h:bA X e bW):BW X (some e) (Ll bW):=by
 intro ab s σ H Q J hw;rw[evalPart_some];refine bK (h ab s σ H _ J hw) λu s1 cm=>ey cm λx H1 a0 ct bM=>?_
 let(i,rfl,q):=hv.out bM;let(t,rfl):=ct;exact(some i,H1,a0,.int i t,q)
def DN(X:bc)(r:V->Option Int->Option Int->av->cV->Prop):Prop:=
 ∀(ab:List (Addr×Obj)) (s:Shared) (σ:St) (H:av) (x:V) (v kD kO:Value) (lo ah:Option Int) (cH:Addr) (Q:cV),Inv X ab σ H s->be x v->s.heap.IsSliceOf cH kD kO .none->IsPart kD lo->IsPart kO ah->r x lo ah H Q ->
  ∃T id,typeLookup (.type T) "__getitem__"=pure (some (.builtin id))/\s.TypeIs v T/\wpAny (model X.prog X.w) X.A (getItem v ⇑cH) (gN X ab σ Q) X.ek s
noncomputable def N1(r:V->Option Int->Option Int->av->cV->Prop)(bW:TE)(c7 va:kF):TE:=λσ H Q=>bW σ H λx H1=>c7 σ H1 λl aw=>va σ aw λu ba=>r x l u ba Q
def nL(ao:DN X r)(he:bA X e bW)(aK:BW X lo c7)(bR:BW X ah va):bA X (.Subscript e (.Slice lo ah none cX) pos) (N1 r bW c7 va):=by
 intro ab s σ H Q J h;refine Subscript_ (bK (he ab s σ H _ J h) λv s1 cm=>ey cm λx H1 a0 ct bM=>?_);refine wpAny_Slice (bK (aK ab s1 σ H1 _ a0 bM) λkD s2 ⟨l,aw,b1,pl,d7⟩=>bK (bR ab s2 σ aw _ b1 d7) λkO s3 c_=>?_);let(u,ba,fu,pu,hb):=c_;rw[evalPart_none];refine wpAny_pure ?_;have iA:Inv X ab σ ba {s3 with heap:=s3.heap.push {cls:=.type "slice",data:=.fields #[kD,kO,.none]} }:=fu.kept (t':=s3.toks) λb cT q=>e2 _ q
 let(T,id,ll,c6,a7):=ao ab {s3 with heap:=s3.heap.push {cls:=.type "slice",data:=.fields #[kD,kO,.none]} } σ ba x v kD kO l u ↥s3 Q iA ct (aqu ..) pl pu hb;show wpAny (model X.prog X.w) X.A (subscriptTail e (.Slice lo ah none cX) v (.ref ↥s3)) (gN X ab σ Q) X.ek {s3 with heap:=s3.heap.push {cls:=.type "slice",data:=.fields #[kD,kO,.none]} };exact tail_any (ops:=[.ref ↥s3,v]) c6 ll a7 (by with_unfolding_all rfl)
noncomputable def jB(xs:List V)(lo ah:Option Int):List V:=(xs.drop (eZ.dd ↑xs 0 lo)).take (eZ.dd ↑xs ↑xs ah-eZ.dd ↑xs 0 lo)
def PJ(xs:List V)(lo ah:Option Int):↑(jB xs lo ah)<=↑xs:=by
 unfold jB;rw[hC,lZ];omega
noncomputable def XI(K:bk):V->Option Int->Option Int->av->cV->Prop:=λx lo ah H Q=>∃a xs,x=⇑a/\dM K H a xs /\
 ¬(eZ.dd ↑xs 0 lo=0/\eZ.dd ↑xs ↑xs ah=↑xs)/\∀p,H p=none->Q ⇑p (upd H p (.tup (jB xs lo ah)))
def abX:DN X (XI X.K):=by
 intro ab s σ H x v kD kO lo ah cH Q J bb ay pl pu h;let(a,xs,rfl,ag,hw,q):=h;cases bb;let(a',r,c6,aQ):=J.tuple ag;have hlen:a'.toArray.size=↑xs:=by rw[fF];exact r.length.symm
 refine("tuple",_,Pd.lookup,c6.typeIs,?_);refine eZ.amx c6 ay pl pu (by rw[hlen];exact hw) ?_ (by rw[hlen];exact aQ);rw[hlen];refine(.ref ↥s,_,J.laid (t':=s.toks) (o:=.tup (jB xs lo ah)) (λb cT q=>e2 _ q) (bQ _) ?_,rfl,q _ (J.bu.fresh (bQ _)));exact((cM (PJ xs lo ah) aQ,_,hq _ rfl,rfl),_,(r.drop (eZ.dd ↑xs 0 lo)).take (eZ.dd ↑xs ↑xs ah-eZ.dd ↑xs 0 lo),IsTup.new _ _)
end
noncomputable def rh(n:Nat)(i:Int):Option Nat:=if 0<=i then(if i<n then some i.toNat else none)else if -(n:Int)<=i then some (i+n).toNat else none
noncomputable def gp{α:Type}(xs:List α)(i:Int):Option α:=(rh ↑xs i).bind λj=>xs[j]?
def aez(h:rh n i\j):seqIndex? i n\j/\j<n/\-(n:Int)<=i/\i<n:=by
 unfold rh at h;by_cases h0:0<=i
 .rw[if_pos h0]at h;by_cases ae:i<n
  .rw [if_pos ae]at h;have e:i.toNat=j:=d2 h;exact(by rw[seqIndex_of h0 ae,e],(),(),ae)
  .rw [if_neg ae]at h;cases h
 .rw[if_neg h0]at h;by_cases ae:-(n:Int)<=i
  .rw [if_pos ae]at h;have e:(i+n).toNat=j:=d2 h;exact(by rw[seqIndex_neg () ae,e],(),ae,())
  .rw [if_neg ae]at h;cases h
theorem Gr(h:gp xs i\v):∃j,seqIndex? i ↑xs\j/\xs[j]?\v/\j<↑xs/\-(↑xs:Int)<=i/\i<↑xs:=by
 unfold gp at h;cases e:rh ↑xs i with
 |none=>rw[e]at h;cases h
 |some j=>
  rw[e]at h;let(ae,ak,aZ,bY):=aez e;exact(j,ae,h,ak,aZ,bY)
def cv{α:Type}{xs:List α}{j:Nat}{v:α}(h:xs[j]?\v):gp xs (j:Int)\v:=by
 have aJ:j<↑xs:=(b0.mp h).1;have e:rh ↑xs (j:Int)\j:=by
  unfold rh;rw[if_pos (),if_pos ()];simp
 unfold gp;rw[e];exact h
def vV(xs:List α)(v:α):gp (xs++[v]) (-1)\v:=by
 have aK:↑(xs++[v])=↑xs+1:=by simp
 have e:rh ↑(xs++[v]) (-1)=some ↑xs:=by
  unfold rh;rw[aK,if_neg ∅,if_pos ()];congr 1;omega
 unfold gp;rw[e];show(xs++[v])[↑xs]?\v;simp
def Se(b:Expr):Prop:=∀o i,subscripted b false o i=operate [o,i] (getItem o i)
def xu(X:bc)(r:fl):Prop:=
 ∀(value slice:Expr) (ab:List (Addr×Obj)) (s:Shared) (σ:St) (H:av) (x y:V) (v u:Value) (Q:cV),Inv X ab σ H s->be x v->be y u->r x y H Q ->
  subscripted slice false v u=operate [v,u] (getItem v u)->wpAny (model X.prog X.w) X.A (subscriptTail value slice v u) (gN X ab σ Q) X.ek s
def y8(X:bc)(id:String)(r:V->List V->av->cV->Prop):Prop:=
 ∀(ab:List (Addr×Obj)) (s:Shared) (σ:St) (H:av) (x:V) (xs:List V) (v:Value) (us:List Value) (Q:cV),Inv X ab σ H s->be x v->cO xs us->r x xs H Q ->
  wpAny (model X.prog X.w) X.A (call (.builtin id) (v::us)) (gN X ab σ Q) X.ek s
section
variable{X:bc}{a b:Expr}{a_ bF:TE}{pos:Pos}
def agu(ao:xu X r)(aO:bA X a a_)(aa:bA X b bF)(ay:Se b):bA X (.Subscript a b pos) (tn r a_ bF):=by
 intro ab s σ H Q J h;exact Subscript_ (GX aO aa J h λv u s2 x y aw b1 bb bE q=>ao a b ab s2 σ aw x y v u Q b1 bb bE q (ay _ _))
noncomputable def Mw(K:bk):fl:=λx y H Q=>f9 x λp=>∃xs,hv y λi=>az K H p xs/\∃v,gp xs i\v/\Q v H
noncomputable def Iy(K:bk):fl:=λx y H Q=>f9 x λp=>∃xs,hv y λi=>dM K H p xs/\∃v,gp xs i\v/\Q v H
noncomputable def K7:fl:=λx y H Q=>∃z i c,x=.str z/\y=.int i/\↑z<=sizeLine/\gp z.cps.toList i\c/\Q (.str ⟨#[c]⟩) H
def c8:xu X (Mw X.K):=by
 intro value slice ab s σ H x y v u Q J bb bE h ay;let(p,rfl,xs,j0):=f9.out h;let(i,rfl,aI,z,he,q):=hv.out j0;cases bb;let(t,rfl):=bE;let(a',r,pl,aQ):=J.list aI;let(j,ae,ak,aZ,bY,dS):=Gr he;let(w,lU,hl):=r.get ak;have aK:=↑r;have a8:=vC;have fin:gN X ab σ Q w s:=(z,H,J,hl,q);by_cases h0:0<=i
 .have aJ:i.toNat=j:=by
   rw[seqIndex_of h0 dS]at ae;exact d2 ae
  exact item_listR pl.isList h0 () (by rw[aJ];simpa using lU) fin ay
 .have aJ:(i+(a'.toArray.size:Int)).toNat=j:=by
   rw[seqIndex_neg () bY]at ae;rw[fF,<- aK];exact d2 ae
  exact subscriptTail_builtinR (x:=w) pl.isList.typeIs slot_list_getitem.lookup
   (wpAny_getItem_list_neg (Q:=λr aj=>r=w/\gN X ab σ Q r aj) pl.isList () (by rw[fF] <;> omega) () (by rw[aJ];simpa using lU) (rfl,fin)) ay
def gM:xu X (Iy X.K):=by
 intro value slice ab s σ H x y v u Q J bb bE h ay;let(p,rfl,xs,j0):=f9.out h;let(i,rfl,aI,z,he,q):=hv.out j0;cases bb;let(t,rfl):=bE;let(a',r,pl,aQ):=J.tuple aI;let(j,ae,ak,aZ,bY,dS):=Gr he;let(w,lU,hl):=r.get ak;have aK:=↑r;have a8:=vC;have fin:gN X ab σ Q w s:=(z,H,J,hl,q);exact subscriptTail_builtinR (x:=w) pl.typeIs slot_tuple_getitem.lookup
  (getItem_tuple (j:=j) (Q:=λr aj=>r=w/\gN X ab σ Q r aj) pl () () (by rw[fF,<- aK];exact ae) (by simpa using lU) (rfl,fin)) ay
def Gx:xu X K7:=by
 intro value slice ab s σ H x y v u Q J bb bE h ay;let(z,i,c,rfl,rfl,aQ,he,q):=h;let(t,rfl):=bb;let(t',rfl):=bE;let(j,ae,ak,aZ,bY,dS):=Gr he;have aK:↑z.cps.toList=↑z:=by simp[wd]
 rw[aK]at ae bY dS;have a8:=vC;exact tail_any (typeIs_str s z t) slot_str_getitem.lookup (getItem_str (c:=c) (by
  have aq:decide (i < -(2 ^ 63:Int))=false:=decide_eq_false ();have aD:decide (i≥2 ^ 63)=false:=decide_eq_false ();rw[aq,aD,Je]) (by rw[ae];simpa using ak) (.str ⟨#[c]⟩,H,J.tok _,(_,rfl),q)) ay
theorem amW(lo ah:Option Int)(n:Nat):(sliceBounds lo ah none n).1=((eZ.dd n 0 lo:Nat):Int)/\(sliceBounds lo ah none n).2.1=((eZ.dd n n ah:Nat):Int)/\(sliceBounds lo ah none n).2.2=1:=by
 refine(?_,?_,rfl)
 .cases lo with
  |none=>simp[sliceBounds,eZ.dd]
  |some i=>
   simp only[sliceBounds,eZ.dd,ajG,(∅:(1:Int)>0),if_true];by_cases h:i<0
   .simp only[h,if_true] <;> omega
   .simp only[h,if_false] <;> omega
 .cases ah with
  |none=>simp[sliceBounds,eZ.dd]
  |some i=>
   simp only[sliceBounds,eZ.dd,ajG,(∅:(1:Int)>0),if_true];by_cases h:i<0
   .simp only[h,if_true] <;> omega
   .simp only[h,if_false] <;> omega
def ai'(a':List Value)(lo ah:Option Int):slicePick a'.toArray lo ah none=((a'.drop (eZ.dd ↑a' 0 lo)).take (eZ.dd ↑a' ↑a' ah-eZ.dd ↑a' 0 lo)).toArray:=by
 let(ae,ak,aZ):=amW lo ah a'.toArray.size;unfold slicePick;rw[ae,ak,aZ];simp only[sliceRange_one,pick_run,fF] <;> rfl
noncomputable def Nq(K:bk):V->Option Int->Option Int->av->cV->Prop:=λx lo ah H Q=>∃a xs,x=⇑a/\az K H a xs/\∀p,H p=none->Q ⇑p (upd H p (.lst (jB xs lo ah)))
def ub:DN X (Nq X.K):=by
 intro ab s σ H x v kD kO lo ah cH Q J bb ay pl pu h;let(a,xs,rfl,ag,q):=h;cases bb;let(a',r,c6,aQ):=J.list ag;have hlen:=↑r;refine("list",_,slot_list_getitem.lookup,c6.isList.typeIs,?_);refine wpAny_getItem_list_slice c6.isList ay pl pu .none (by simp) ?_ (by rw[fF] <;> omega);rw[ai',<- hlen];refine(.ref ↥s,_,J.laid (t':=s.toks) (o:=.lst (jB xs lo ah)) (λb cT q=>e2 _ q) (bQ _) ?_,rfl,q _ (J.bu.fresh (bQ _)));exact(cM (PJ xs lo ah) aQ,_,0,(r.drop (eZ.dd ↑xs 0 lo)).take (eZ.dd ↑xs ↑xs ah-eZ.dd ↑xs 0 lo),hq _ rfl)
noncomputable def my:V->Bool
 | .cf=>true
 | .bp _=>true
 | .int _=>true
 | .str _=>true
 |_=>false
noncomputable def m':V->V->Bool
 | .cf,.cf=>true
 | .bp a,.bp b=>a==b
 | .bp a,.int b=>(if a then 1 else 0)==b
 | .int a,.bp b=>a==(if b then 1 else 0)
 | .int a,.int b=>a==b
 | .str a,.str b=>a==b
 |_,_=>false
theorem e'a{a b}:m' (.int a) (.int b)=(a==b):=rfl
theorem e'b{a b}:m' (.str a) (.str b)=(a==b):=rfl
theorem e'c{a b}:m' (.bp a) (.bp b)=(a==b):=rfl
theorem aha{A:Around}{y x:V}(bE:be y u)(bb:be x v)(agB:my y=true)(kL:my x=true):ake A s u v (m' y x):=by
 cases y with
 |cf=>
  cases bE;cases x with
  |cf=>cases bb;exact SeqAt.EqAt.same _
  |bp b=>cases bb;exact SeqAt.EqAt.none_bool b
  |int b=>let(t,rfl):=bb;exact SeqAt.EqAt.none_int b t
  |str b=>let(t,rfl):=bb;exact SeqAt.EqAt.none_str b t
  |_=>exact absurd (show false=true from kL) fX
 |bp a=>
  cases bE;cases x with
  |cf=>cases bb;exact SeqAt.EqAt.bool_none a
  |bp b=>cases bb;exact SeqAt.EqAt.bool_bool a b
  |int b=>let(t,rfl):=bb;exact SeqAt.EqAt.bool_int a b t
  |str b=>let(t,rfl):=bb;exact SeqAt.EqAt.bool_str a b t
  |_=>exact absurd (show false=true from kL) fX
 |int a=>
  let(t',rfl):=bE;cases x with
  |cf=>cases bb;exact SeqAt.EqAt.int_none a t'
  |bp b=>cases bb;exact SeqAt.EqAt.int_bool a t' b
  |int b=>let(t,rfl):=bb;exact SeqAt.EqAt.int_int a t' b t
  |str b=>let(t,rfl):=bb;exact agS a t' b t
  |_=>exact absurd (show false=true from kL) fX
 |str a=>
  let(t',rfl):=bE;cases x with
  |cf=>cases bb;exact SeqAt.EqAt.str_none a t'
  |bp b=>cases bb;exact SeqAt.EqAt.str_bool a t' b
  |int b=>let(t,rfl):=bb;exact aoB a t' b t
  |str b=>let(t,rfl):=bb;exact SeqAt.EqAt.str_str a t' b t
  |_=>exact absurd (show false=true from kL) fX
 |_=>exact absurd (show false=true from agB) fX
noncomputable def lS(x:V)(u:Value):Bool:=match u with
 | .none=>m' .cf x
 | .bool b=>m' (.bp b) x
 | .int i _=>m' (.int i) x
 | .str z _=>m' (.str z) x
 |_=>false
theorem Q5{x y:V}(r:be y u)(f:my y=true):lS x u=m' y x:=by
 cases y with
 |cf=>cases r;rfl
 |bp b=>cases r;rfl
 |int i=>let(t,rfl):=r;rfl
 |str z=>let(t,rfl):=r;rfl
 |_=>exact absurd (show false=true from f) fX
theorem y'{x:V}:∀{xs:List V} {us:List Value},cO xs us->xs.all my=true->us.any (lS x)=xs.any λy=>m' y x
 |_,_,.nil,_=>rfl
 |y::xs,u::us,.cons r t,f=>by
  rw[akk,kX]at f;rw[mT,mT,Q5 r f.1,y' t f.2]
theorem z3{A:Around}{x:V}(bb:be x v)(kL:my x=true):∀{xs:List V} {us:List Value},cO xs us->xs.all my=true->∀u∈us,ake A s u v (lS x u)
 |_,_,.nil,_=>λu bR=>by cases bR
 |y::xs,u::us,.cons r t,f=>λvm bR=>by
  rw[akk,kX]at f;rcases ei.mp bR with rfl|bR
  .rw [Q5 r f.1];exact aha r bb f.1 kL
  .exact z3 bb kL t f.2 vm bR
noncomputable def r4(x:V)(xs:List V):Bool:=xs.any λy=>m' y x
noncomputable def EE(K:bk)(neg:Bool):fl:=λx y H Q=>∃p xs,y=⇑p/\(az K H p xs\/dM K H p xs)/\my x=true/\xs.all my=true/\Q (.bp (if neg then !r4 x xs else r4 x xs)) H
def vZ:hG X (compareOp .In) (EE X.K false):=by
 intro ab s σ H x y v u Q J bb bE h;let(p,xs,rfl,aI,kL,a5,q):=h;cases bE;rcases aI with aI|aI
 .let(a',r,pl,aQ):=J.list aI;refine SeqAt.in_listAt (lS x) pl.isList (λw hw=>z3 bb kL r a5 w (by simpa using hw)) (.bp _,H,J,rfl,?_);rw[show a'.toArray.any (lS x)=a'.any (lS x)by simp,y' r a5];exact q
 .let(a',r,pl,aQ):=J.tuple aI;refine SeqAt.in_tupleAt (lS x) pl (λw hw=>z3 bb kL r a5 w (by simpa using hw)) (.bp _,H,J,rfl,?_);rw[show a'.toArray.any (lS x)=a'.any (lS x)by simp,y' r a5];exact q
def bi:hG X (compareOp .NotIn) (EE X.K true):=by
 intro ab s σ H x y v u Q J bb bE h;let(p,xs,rfl,aI,kL,a5,q):=h;cases bE;rcases aI with aI|aI
 .let(a',r,pl,aQ):=J.list aI;refine SeqAt.notIn_listAt (lS x) pl.isList (λw hw=>z3 bb kL r a5 w (by simpa using hw)) (.bp _,H,J,rfl,?_);rw[show a'.toArray.any (lS x)=a'.any (lS x)by simp,y' r a5];exact q
 .let(a',r,pl,aQ):=J.tuple aI;refine SeqAt.notIn_tupleAt (lS x) pl (λw hw=>z3 bb kL r a5 w (by simpa using hw)) (.bp _,H,J,rfl,?_);rw[show a'.toArray.any (lS x)=a'.any (lS x)by simp,y' r a5];exact q
def iV:l9 X (.builtin "len") (λxs H Q=>n' xs λx=>f9 x λp=>∃ys,(az X.K H p ys\/dM X.K H p ys)/\Q (.int ↑ys) H):=by
 intro ab s σ H xs us Q J r h;let(aiU,rfl,j0):=n'.out h;let(p,rfl,ys,aI,q):=f9.out j0;let(u,rfl,bb):=mc r;cases bb;have a8:=vC;rcases aI with aI|aI
 .let(a',d5,pl,aQ):=J.list aI;have hlen:=↑d5;exact Calls.call_len_list pl.isList (by simp only[fF] <;> omega) (.int ↑ys,H,J.tok _,(s.toks+1,by rw[fF,hlen]),q)
 .let(a',d5,pl,aQ):=J.tuple aI;have hlen:=↑d5;exact len_tuple pl (by simp only[fF] <;> omega) (.int ↑ys,H,J.tok _,(s.toks+1,by rw[fF,hlen]),q)
def anB:l9 X (.builtin "len") (λxs H Q=>∃z,xs=[.str z]/\↑z<=sizeLine/\Q (.int ↑z) H):=by
 intro ab s σ H xs us Q J r h;let(z,rfl,aQ,q):=h;let(u,rfl,t,rfl):=mc r;have a8:=vC;exact len_str () (.int ↑z,H,J.tok _,(_,rfl),q)
def aeZ:l9 X (.type "list") (λxs H Q=>∃p ys,xs=[⇑p]/\(az X.K H p ys\/dM X.K H p ys)/\∀l,H l=none->Q ⇑l (upd H l (.lst ys))):=by
 intro ab s σ H xs us Q J r h;let(p,ys,rfl,aI,q):=h;let(u,rfl,bb):=mc r;cases bb;have fin:∀(a':List Value),cO ys a'->↑ys<=sizeLine->∀(h':Heap) (c':Nat),(∀b es,s.heap.get? b\es->h'.get? b\es) ->
   h'.get? ↥s=some {cls:=.type "list",dict:=none,data:=.seq a'.toArray c',slots:=#[]}->gN X ab σ Q (.ref ↥s) {s with heap:=h' }:=λa' d5 aQ h' c' bo e=>
  (.ref ↥s,_,J.laid (t':=s.toks) bo (bQ _) (show e8 X.prog X.w _ h' _ (.lst ys)from(aQ,a',c',d5,e)),rfl,q _ (J.bu.fresh (bQ _)))
 rcases aI with aI|aI
 .let(a',d5,pl,aQ):=J.list aI;have hlen:=↑d5;let(o,aS,aB,n,hd):=pl.isList;exact call_list_seq p (.inl rfl) aS aB hd (λh' c' bo e=>fin a' d5 aQ h' c' bo e) (by simp only[fF] <;> omega)
 .let(a',d5,pl,aQ):=J.tuple aI;have hlen:=↑d5;let(o,aS,aB,n,hd):=pl;exact call_list_seq p (.inr rfl) aS aB hd (λh' c' bo e=>fin a' d5 aQ h' c' bo e) (by simp only[fF] <;> omega)
def Ef(K:bk)(T:String)(x:V)(H:av):Prop:=match x with
 | .str _=>T="str"
 | .int _=>T="int"
 | .ref p=>(T="list"/\∃xs,az K H p xs)\/(T="tuple"/\∃o,K.lookup p\o/\o.cls=.type "tuple"/\o.dict=none) \/
   (T="dict"/\((∃kvs,H p\(.b2 kvs))\/∃kvs,H p\(.gs kvs)))\/(T="set"/\∃S n,H p\(.set S n))
 |_=>False
theorem S6{x:V}(J:Inv X ab σ H s)(r:be x v)(ty:Ef X.K T x H) :
  s.TypeIs v T/\∀a,v=⇑a->∃cT,s.heap.get? a\cT/\cT.dict=none:=by
 cases x with
 |str z=>
  let(t,rfl):=r;cases(show T="str" from ty);exact(typeIs_str s z t,λ_ e=>nomatch e)
 |int i=>
  let(t,rfl):=r;cases(show T="int" from ty);exact(typeIs_int s i t,λ_ e=>nomatch e)
 | ref p=>
  cases r;rcases ty with⟨rfl,xs,aI⟩|⟨rfl,o,ax,aB,hd⟩|⟨rfl,ax⟩|⟨rfl,S,n,ax⟩
  .let(a',_,pl,_):=J.list aI;refine(pl.isList.typeIs,λa e=>?_);cases e;let(o,n,e,c,hd,_):=pl;exact(o,e,hd)
  .refine ((o,J.gC p o ax,aB),λa e=>?_);cases e;exact(o,J.gC _ o ax,hd)
  .have z:∃o,s.heap.get? p\o/\o.ExactDict:=by
    rcases ax with⟨kvs,ax⟩|⟨kvs,ax⟩
    .let(_,_,_,_,o,_,_,e,ex,_):=J.bu p _ ax;exact(o,e,ex)
    .let(_,_,_,_,o,_,_,e,ex,_):=J.bu p _ ax;exact(o,e,ex)
   let(o,e,ex):=z;refine((o,e,ex.1),λa aD=>?_);cases aD;exact(o,e,ex.2.1)
  .let(o,_,_,_,e,ex,_):=J.bu p _ ax;refine((o,e,ex.1),λa aD=>?_);cases aD;exact(o,e,ex.2.1)
 |_=>exact k9 ty
noncomputable def MI(K:bk)(T:String)(r:V->List V->av->cV->Prop)(to:TE):TE:=λσ H Q=>to σ H λx H1=>Ef K T x H1/\r x [] H1 Q
noncomputable def Nh(K:bk)(T:String)(r:V->List V->av->cV->Prop)(to:TE)(t:fH):TE:=λσ H Q=>to σ H λx H1=>Ef K T x H1/\t σ H1 λxs aw=>r x xs aw Q
variable{o e:Expr}{aU:List Expr}{to:TE}{t:fH}{name:Str}{gh iK:Pos}{T id:String}{r:V->List V->av->cV->Prop}
def aoQ(eG:PlainAttrs T)(slot:Slot T name id)(Hd:typeOf (.builtin id)=pure (.type "method_descriptor"))(hm:y8 X id r)(aS:bA X o to)
  (Od:autoParam (attributeBase o name X.env (eval o X.env)=eval o X.env) A'r) (Hf:autoParam ((gh.endLine==iK.line)=true) A'r):bA X (.Call (.Attribute o name gh) [] [] iK) (MI X.K T r to):=by
 intro ab s σ H Q J h;refine wpAny_Call_method0_late Od Hf (bK (aS ab s σ H _ J h) λv s1 c_=>?_);let(x,H1,a0,ct,ty,bM):=c_;let(ae,ak):=S6 a0 ct ty;exact(T,id,eG,slot,Hd,ae,ak,Ym rfl (PySem.evalArgs_none (hm ab s1 σ H1 x [] v [] Q a0 ct .nil bM)))
def fo(eG:PlainAttrs T)(slot:Slot T name id)(Hd:typeOf (.builtin id)=pure (.type "method_descriptor"))(hm:y8 X id r)(aS:bA X o to)(aO:h8 X (e::aU) t)
  (Od:autoParam (attributeBase o name X.env (eval o X.env)=eval o X.env) A'r)
  (Zz:((backTo iK (starEach (e::aU) X.env)).all (λx=>!x.1)&&(backToKw iK (keywordEach [] X.env)).all (λx=>x.1.isSome)
   && decide (↑(e::aU)+↑([]:List Keyword)+(if([]:List Keyword).isEmpty then 0 else 1)<30))=true:=by rfl)
  (Hf:autoParam ((gh.endLine==iK.line)=true) A'r) (ay:autoParam (starEach (e::aU) X.env=(p'p false (eval e X.env))::starEach aU X.env) A'r) (hplain:autoParam ((backTo iK (starEach aU X.env)).any (·.1)=false) A'r) :
  bA X (.Call (.Attribute o name gh) (e::aU) [] iK) (Nh X.K T r to t):=by
 intro ab s σ H Q J h;refine wpAny_Call_method_late Od Zz Hf rfl (bK (aS ab s σ H _ J h) λv s1 c_=>?_);let(x,H1,a0,ct,ty,bM):=c_;let(ae,ak):=S6 a0 ct ty;refine(T,id,eG,slot,Hd,ae,ak,?_);have kJ:=aO iK ab s1 σ H1 _ a0 bM;rw[ay]at kJ⊢;refine Ym (by show(false||(backTo iK (starEach aU X.env)).any (·.1))=false;rw[hplain] <;> rfl) (ZL ?_);exact bK kJ λus s2 ⟨vs,aw,b1,fj,d7⟩=>hm ab s2 σ aw x vs v us Q b1 ct fj d7
end
def B1(X:bc)(id:String)(r:V->List V->av->cV->Prop):Prop:=
 ∀(ab:List (Addr×Obj)) (s:Shared) (σ:St) (H:av) (x:V) (xs:List V) (v:Value) (us:List Value) (Q:cV),Inv X ab σ H s->be x v->cO xs us->r x xs H Q ->
  wpAny (model X.prog X.w) X.A (call (.builtin id) (v::us)) (gN X ab σ Q) X.ek s
theorem cO.one:∀{x:V} {us:List Value},cO [x] us->∃u,us=[u]/\be x u
 |_,_,.cons r .nil=>(_,rfl,r)
theorem cO.zero:∀{us:List Value},cO [] us->us=[]
 |_,.nil=>rfl
section
variable{X:bc}{ab:List (Addr×Obj)}{σ:St}{H:av}{s:Shared}{l b:Addr}{xs ys zs:List V}
def Inv.ER{a' its':List Value}(J:Inv X ab σ H s)(jK:H l\(.lst xs))
  (e:s.heap.get? l=some {cls:=.type "list",data:=.seq a'.toArray n}) (hf:f a'.toArray=its'.toArray) (aE:cO ys its') (aQ:↑ys<=sizeLine) :
  Inv X ab σ (upd H l (.lst ys)) {s with heap:=s.heap.update l (rb f),toks:=t' }:=by
 have q:=PySem.IsL.update e f;rw[hf]at q;refine J.write (x:=l) (e:=l) (by rw[jK];exact trivial) (.inl rfl) (λgd u aa bR=>(p3 s.heap (rb f) (et aa)).trans bR) (_,q) ?_;exact(aQ,its',_,aE,q)
def Inv.aa2{a':List Value}(J:Inv X ab σ H s)(aE:cO ys a')(aQ:↑ys<=sizeLine) :
  Inv X ab σ (upd H ↥s (.lst ys)) {s with heap:=s.heap.push {cls:=.type "list",data:=.seq a'.toArray},toks:=t' }:=
 J.laid (λ_ _ q=>e2 _ q) (bQ _) (aQ,a',0,aE,hq _ rfl)
theorem Inv.fresh(J:Inv X ab σ H s):H ↥s=none:=J.bu.fresh (bQ _)
def Inv.ug(J:Inv X ab σ H s)(jK:H l\(.lst xs)):↑xs<=sizeLine/\∃(a':List Value) (n:Nat),cO xs a'/\↑xs=↑a'/\s.heap.get? l=some {cls:=.type "list",data:=.seq a'.toArray n}:=by
 let(z,a',n,r,e):=J.bu l _ jK;exact(z,a',n,r,↑r,e)
def Zv(h:n<=sizeLine):X_ n=false:=by
 unfold X_;exact decide_eq_false ()
end
section
variable{X:bc}
noncomputable def F5:V->List V->av->cV->Prop:=λx vs H Q=>f9 x λl=>n' vs λy=>∃xs,H l\(.lst xs)/\↑xs<sizeLine/\Q .cf (upd H l (.lst (xs++[y])))
def kZ:B1 X "list.append" F5:=by
 intro ab s σ H x vs v us Q J bb cI h;let(l,rfl,j0):=f9.out h;let(y,rfl,xs,jK,aQ,q):=n'.out j0;cases bb;let(u,rfl,fm):=cI.one;let(z,a',n,r,aK,e):=J.ug jK;refine call_meets lh (_,e,rfl) F.entry_list_append (F.args_list_append_2 _ _) (PySem.list_append l a'.toArray n u (by rw[fF];omega)) (e,?_);refine(.cf,_,J.ER (its':=a'++[u]) jK e (by simp) (r.append (.cons fm .nil)) ?_,rfl,q);rw[cB,k6];omega
noncomputable def LJ:V->List V->av->cV->Prop:=λx vs H Q=>∃l b xs zs,x=⇑l/\vs=[⇑b]/\H l\(.lst xs)/\H b\(.lst zs)/\↑xs+↑zs<=sizeLine/\Q .cf (upd H l (.lst (xs++zs)))
def qW:B1 X "list.extend" LJ:=by
 intro ab s σ H x vs v us Q J bb cI h;let(l,b,xs,zs,rfl,rfl,jK,gX,aQ,q):=h;cases bb;let(u,rfl,fm):=cI.one;cases fm;let(z,a',n,r,aK,e):=J.ug jK;let(eu,u7,cW,fj,sN,aD):=J.ug gX;have hsz:a'.toArray.size+u7.toArray.size<=sizeLine:=by rw[fF,fF];omega
 have YW:¬(!a'.toArray.isEmpty&&X_ (a'.toArray.size+u7.toArray.size))=true:=by
  rw[Zv hsz,T1];exact fX
 refine call_meets rD (_,e,rfl) F.entry_list_extend (F.args_list_extend_2 _ _)
  (AutoSeq1.list_extend_list_list_0 l a'.toArray n b u7.toArray cW YW (by rw[fF];omega) ()) (e,aD,?_)
 refine(.cf,_,J.ER (its':=a'++u7) jK e (by simp) (r.append fj) ?_,rfl,q);rw[cB];omega
noncomputable def KO:V->List V->av->cV->Prop:=λx vs H Q=>∃l xs,x=⇑l/\vs=[]/\H l\(.lst xs)/\Q .cf (upd H l (.lst []))
def ajN:B1 X "list.clear" KO:=by
 intro ab s σ H x vs v us Q J bb cI h;let(l,xs,rfl,rfl,jK,q):=h;cases bb;have agc:=cI.zero;subst agc;let(z,a',n,r,aK,e):=J.ug jK;refine call_meets agf (_,e,rfl) F.entry_list_clear (F.args_list_clear_1 _) (AutoSeq1.list_clear_list_0 l a'.toArray n (by rw[fF];omega)) (e,?_);exact(.cf,_,J.ER (its':=[]) (ys:=[]) jK e rfl .nil (eW _),rfl,q)
noncomputable def KW:fl:=λx y H Q=>∃l b xs zs,x=⇑l/\y=⇑b/\H l\(.lst xs)/\H b\(.lst zs)/\↑xs+↑zs<=sizeLine/\∀p,H p=none->Q ⇑p (upd H p (.lst (xs++zs)))
def GS:hG X (binaryOp .Add) KW:=by
 intro ab s σ H x y v u Q J bb bE h;let(l,b,xs,zs,rfl,rfl,jK,gX,aQ,q):=h;cases bb;cases bE;let(z,a',n,r,aK,e):=J.ug jK;let(eu,u7,cW,fj,sN,aD):=J.ug gX;refine PySem.P.add_list e aD ?_ (by rw[fF,fF];omega);have eg:a'.toArray++u7.toArray=(a'++u7).toArray:=by simp
 rw[eg];exact(⇑_,_,J.aa2 (t':=s.toks) (r.append fj) (by rw[cB];omega),rfl,q _ J.fresh)
end
section
variable{eR:Type}[DecidableEq eR]
noncomputable def dz(kvs:List (eR×V))(k:eR):Option V:=(kvs.find? λdE=>decide (dE.1=k)).map (·.2)
noncomputable def eK(kvs:List (eR×V))(k:eR)(v:V):List (eR×V):=
 if(kvs.any λdE=>decide (dE.1=k))=true then kvs.map (λdE=>if dE.1=k then(p'p dE.1 v)else dE)else kvs++[(p'p k v)]
noncomputable def tf(kvs:List (eR×V))(k:eR):List (eR×V):=kvs.filter λdE=>decide (dE.1≠k)
def pn{p:eR×V}{k:eR}(e:p.1=k):dz (p::r) k\p.2:=by simp[dz,uy,e]
def oJ{p:eR×V}{k:eR}(e:¬p.1=k):dz (p::r) k=dz r k:=by simp[dz,uy,e]
theorem Cs(k:eR):∀kvs:List (eR×V),(kvs.any λdE=>decide (dE.1=k))=(dz kvs k).isSome
 |[]=>rfl
 |p::r=>by
  rw[mT];by_cases e:p.1=k
  .simp only[pn e,decide_eq_true e,ry,Option.isSome_some]
  .rw [oJ e,decide_eq_false e,mR];exact Cs k r
theorem S0(k j:eR)(y:V):∀kvs:List (eR×V),dz (kvs.map λdE=>if dE.1=k then(p'p dE.1 y)else dE) j=(dz kvs j).map λx=>if j=k then y else x
 |[]=>rfl
 | p::r=>by
  have cZ:=S0 k j y r;rw[fz];by_cases h:p.1=k
  .rw[if_pos h];by_cases e:p.1=j
   .rw [pn (p:=(p'p p.1 y)) e,pn e,Fw,if_pos (e.symm.trans h)]
   .rw [oJ (p:=(p'p p.1 y)) e,oJ e,cZ]
  .rw[if_neg h];by_cases e:p.1=j
   .rw [pn (p:=p) e,pn e,Fw,if_neg (λz=>h (e.trans z))]
   .rw [oJ (p:=p) e,oJ e,cZ]
theorem Vm(k j:eR)(y:V):∀kvs:List (eR×V),dz kvs k=none->dz (kvs++[(p'p k y)]) j=if j=k then some y else dz kvs j
 |[],_=>by
  by_cases e:k=j
  .rw [if_pos e.symm];exact pn (p:=(p'p k y)) e
  .rw [if_neg (λz=>e z.symm)];exact oJ (p:=(p'p k y)) e
 |p::r,a8=>by
  rw[Fx];have ax:¬p.1=k:=λz=>by rw[pn z]at a8;cases a8
  rw[oJ ax]at a8;have cZ:=Vm k j y r a8;by_cases e:p.1=j
  .rw [pn e,pn e,if_neg (λz=>ax (e.trans z))]
  .rw [oJ e,oJ e,cZ]
theorem Tg(kvs:List (eR×V))(k j:eR)(y:V):dz (eK kvs k y) j=if j=k then some y else dz kvs j:=by
 unfold eK;by_cases a:(kvs.any λdE=>decide (dE.1=k))=true
 .rw[if_pos a,S0];rw[Cs]at a;by_cases e:j=k
  .let(x,ag):=afO.mp a;rw[if_pos e,e,ag,Fw,if_pos rfl]
  .rw[if_neg e];cases dz kvs j with
   |none=>rfl
   |some x=>rw[Fw,if_neg e]
 .rw[if_neg a];refine Vm k j y kvs ?_;rw[Cs]at a;cases q:dz kvs k with
  |none=>rfl
  |some x=>rw[q]at a;exact(a rfl).elim
def J6(kvs:List (eR×V))(k:eR)(v:V):↑(eK kvs k v)<=↑kvs+1:=by
 unfold eK;split
 .rw [aX];omega
 .rw [cB,gW,z'];omega
theorem jT.Gz(r:jT o u):o.isSome=u.isSome:=by
 cases o with
 |none=>cases u with
  |none=>rfl
  |some _=>exact(show False from r).elim
 |some _=>cases u with
  |none=>exact(show False from r).elim
  |some _=>rfl
theorem fy.val(r:fy kvs vs)(k:eR):jT (dz kvs k) (valueAt vs k):=by
 unfold fy at r
 induction r with
 |nil=>exact jO
 | @cons p q ps qs h t cZ=>
  let(ae,ak):=h;by_cases e:p.1=k
  .have bD:q.1=k:=ae.symm.trans e;have b:valueAt (q::qs) k\q.2:=by simp[valueAt,uy,bD]
   rw[pn e,b];exact ak
  .have bD:¬q.1=k:=λz=>e (ae.trans z)
   have b:valueAt (q::qs) k=valueAt qs k:=by simp[valueAt,uy,bD]
   rw[oJ e,b];exact cZ
theorem fy.any(r:fy kvs vs)(k:eR):(kvs.any λdE=>decide (dE.1=k))=vs.any λdE=>decide (dE.1=k):=by
 unfold fy at r
 induction r with
 |nil=>rfl
 |cons h t cZ=>rw[mT,mT,cZ,h.1]
theorem fy.Nz(r:fy kvs vs)(k:eR)(bE:be y u) :
  fy (kvs.map λdE=>if dE.1=k then(p'p dE.1 y)else dE) (vs.map λdE=>if dE.1=k then(p'p dE.1 u)else dE):=by
 unfold fy at r⊢
 induction r with
 |nil=>exact .nil
 | @cons p q ps qs h t cZ=>
  rw[fz,fz];refine .cons ?_ cZ;let(ae,ak):=h;by_cases e:p.1=k
  .rw [if_pos e,if_pos (ae.symm.trans e)];exact(ae,bE)
  .rw [if_neg e,if_neg (λz=>e (ae.trans z))];exact(ae,ak)
def fy.put(r:fy kvs vs)(k:eR)(bE:be y u):fy (eK kvs k y) (stored vs k u):=by
 unfold eK stored;rw[r.any k];by_cases e:(vs.any λdE=>decide (dE.1=k))=true
 .rw [if_pos e,if_pos e];exact r.Nz k bE
 .rw [if_neg e,if_neg e];exact Un r (rfl,bE)
theorem fy.drop(r:fy kvs vs)(k:eR):fy (tf kvs k) (without vs k):=by
 unfold fy at r⊢;unfold tf without
 induction r with
 |nil=>exact .nil
 | @cons p q ps qs h t cZ=>
  let(ae,ak):=h;rw[afw,afw];by_cases e:p.1=k
  .have a:¬decide (p.1≠k)=true:=by simp[e]
   have b:¬decide (q.1≠k)=true:=by simp[ae.symm.trans e]
   rw[if_neg a,if_neg b];exact cZ
  .have bD:¬q.1=k:=λz=>e (ae.trans z)
   have a:decide (p.1≠k)=true:=by simp[e]
   have b:decide (q.1≠k)=true:=by simp[bD]
   rw[if_pos a,if_pos b];exact .cons (ae,ak) cZ
def fy.length(r:fy kvs vs):↑kvs=↑vs:=KG r
def aos(kvs:List (eR×V))(k:eR):↑(tf kvs k)<=↑kvs:=vq _ _
end
theorem uv{w:World}{k:Key}(r:be (d3 k) u):(iX P w).is k u=true:=by
 cases k with
 |inl i=>let(t,e):=(show ∃t,u=oA i t from r);subst e;exact al8 P w i t
 |inr x=>let(t,e):=(show ∃t,u=w2 x t from r);subst e;exact Z9 P w x t
theorem Xc{w:World}:∀{bG:List Key} {us:List Value},cO (bG.map d3) us->ItemsAre (iX P w) bG us
 |[],_,r=>by rw[rC]at r;cases r;exact .nil
 |k::bG,_,r=>by
  rw[fz]at r;cases r with
  |cons h t=>exact .cons (uv h) (Xc t)
noncomputable abbrev KT(H:av):List (List Key×V)->List (List Key×Addr×Value)->Prop:=Paired λp q=>p.1=q.1/\H q.2.1\(.tup (p.1.map d3))/\be p.2 q.2.2
theorem KT.val(r:KT H kvs xs)(k:List Key):jT (dz kvs k) ((atKey xs k).map (·.2)):=by
 induction r with
 |nil=>exact jO
 | @cons p q ps qs h t cZ=>
  let(ae,_,ak):=h;by_cases e:p.1=k
  .have bD:q.1=k:=ae.symm.trans e;have b:atKey (q::qs) k\q.2:=by simp[atKey,uy,bD]
   rw[pn e,b];exact ak
  .have bD:¬q.1=k:=λz=>e (ae.trans z)
   have b:atKey (q::qs) k=atKey qs k:=by simp[atKey,uy,bD]
   rw[oJ e,b];exact cZ
theorem KT.Nz(r:KT H kvs xs)(k:List Key)(bE:be y u) :
  KT H (kvs.map λdE=>if dE.1=k then(p'p dE.1 y)else dE) (xs.map (putAt k u)):=by
 induction r with
 |nil=>exact .nil
 | @cons p q ps qs h t cZ=>
  rw[fz,fz];refine .cons ?_ cZ;let(ae,ak,aZ):=h;unfold putAt;by_cases e:p.1=k
  .rw [if_pos e,if_pos (ae.symm.trans e)];exact(ae,ak,bE)
  .rw [if_neg e,if_neg (λz=>e (ae.trans z))];exact(ae,ak,aZ)
def KT.put(r:KT H kvs xs)(k:List Key)(aa:H b\(.tup (k.map d3)))(bE:be y u) :
  KT H (eK kvs k y) (storedH xs k b u):=by
 have e:(kvs.any λdE=>decide (dE.1=k))=(atKey xs k).isSome:=by
  rw[Cs,(r.val k).Gz,ac8]
 unfold eK storedH;rw[e];by_cases q:(atKey xs k).isSome=true
 .rw [if_pos q,if_pos q];exact r.Nz k bE
 .rw [if_neg q,if_neg q];exact Un r (rfl,aa,bE)
def KT.keeps(r:KT H kvs xs)(c6:∀b ys,H b\(.tup ys)->I b\(.tup ys)):KT I kvs xs:=
 Paired.sy r λ_ _ z=>(z.1,c6 _ _ z.2.1,z.2.2)
section
variable{P:Program}{w:World}{H:av}{h:Heap}{a:Addr}
def Vj(ok:fw P w H h)(e:mq H a u):e8 P w H h a u:=e.ok ok
def yJ(ok:fw P w H h)(e:mq H a (.b2 kvs)):↑kvs<=sizeLine/\(a==sysModules)=false/\∃vs,fy kvs vs/\h.DictOf (iX P w) a vs:=
 show e8 P w H h a (.b2 kvs)from Vj ok e
def Ae(ok:fw P w H h)(e:H a\(.b2 kvs)):↑kvs<=sizeLine/\(a==sysModules)=false/\∃vs,fy kvs vs/\h.DictOf (iX P w) a vs:=yJ ok (.inl e)
def Ac{bG:List Key}(ok:fw P w H h)(e:H a\(.tup (bG.map d3))):(tupleKind (iX P w)).is h bG a:=by
 let(_,a',r,o,ae,ak,n,aZ):=(show e8 P w H h a (.tup (bG.map d3))from ok a _ e);exact(o,a'.toArray,n,ae,ak,aZ,by simpa using Xc r)
theorem yR(ok:fw P w H h)(e:mq H a (.gs kvs)):↑kvs<=sizeLine/\(a==sysModules)=false /\
  ∃xs,KT H kvs xs/\h.DictOfH (tupleKind (iX P w)) a xs:=by
 let(z,y,xs,r,o,aU,cu,ae,ak,aZ,bY,dS):=(show e8 P w H h a (.gs kvs)from Vj ok e);refine(z,y,xs,r,o,aU,cu,ae,ak,aZ,bY,λx ag=>?_,dS);have all:∀{l:List (List Key×V)} {m:List (List Key×Addr×Value)},KT H l m->∀x∈m,(tupleKind (iX P w)).is h x.1 x.2.1:=by
  intro l m q
  induction q with
  |nil=>intro x ag;exact nomatch ag
  | @cons p q ps qs aI t cZ=>
   intro x ag;rcases ei.mp ag with e|ag
   .subst e;exact Ac ok (by rw[<- aI.1];exact aI.2.1)
   .exact cZ x ag
 exact all r x ag
def Qy(ok:fw P w H h)(e:H a\(.gs kvs)):↑kvs<=sizeLine/\(a==sysModules)=false /\
  ∃xs,KT H kvs xs/\h.DictOfH (tupleKind (iX P w)) a xs:=yR ok (.inl e)
end
def i4(H:av)(a:Addr)(y:V)(r:Option V):Prop:=
 (∃kvs k,mq H a (.b2 kvs)/\y=d3 k/\r=dz kvs k)\/∃kvs k b,mq H a (.gs kvs)/\y=⇑b/\H b\(.tup (k.map d3))/\r=dz kvs k
def l_(H:av)(a:Addr)(y v:V)(I:av):Prop:=
 (∃kvs k,H a\(.b2 kvs)/\y=d3 k/\↑kvs<sizeLine/\I=upd H a (.b2 (eK kvs k v))) \/
 ∃kvs k b,H a\(.gs kvs)/\y=⇑b/\H b\(.tup (k.map d3))/\↑kvs<sizeLine/\I=upd H a (.gs (eK kvs k v))
theorem i4.k{k:Key}(e:H a\(.b2 kvs)):i4 H a (d3 k) (dz kvs k):=.inl (kvs,k,.inl e,rfl,rfl)
theorem l_.k{k:Key}(e:H a\(.b2 kvs))(aK:↑kvs<sizeLine):l_ H a (d3 k) v (upd H a (.b2 (eK kvs k v))):=.inl (kvs,k,e,rfl,aK,rfl)
def l_.t{k:List Key}(e:H a\(.gs kvs))(fe:H b\(.tup (k.map d3)))(aK:↑kvs<sizeLine) :
  l_ H a ⇑b v (upd H a (.gs (eK kvs k v))):=.inr (kvs,k,b,e,rfl,fe,aK,rfl)
section
variable{X:bc}{ab:List (Addr×Obj)}{σ:St}{H:av}{s:Shared}{a:Addr}{y v:V}{u r:Value}{o:Option V}{A:Around}{E:Value->Shared->Prop}
def Inv.big(J:Inv X ab σ H s):sysModules<↥s:=by
 have h:mainGlobals<↥s:=(J.mod.glob.keeps J.cS).lt;exact OO ∅ h
def afh(bR:A.units+1<cLine)(J:Inv X ab σ H s)(g:i4 H a y (some v))(bE:be y u)(h:∀eQ aj,Inv X ab σ H aj->be v eQ->Q eQ aj) :
  wpAny (model X.prog X.w) A (getItem ⇑a u) Q E s:=by
 rcases g with⟨kvs,k,e,hH,l⟩|⟨kvs,k,b,e,hH,fe,l⟩
 .subst hH;let(z,hd,vs,rel,dj):=yJ J.bu e;let(eQ,hw,hl):=jT.some_of (v:=v) (o:=valueAt vs k) (by rw[l];exact rel.val k);exact wpAny_getItem_of (uv bE) dj.mapOf hw (h eQ _ (J.tok _) hl)
 .subst hH;cases(show u=ff b from bE);let(z,hd,xs,rel,dj):=yR J.bu e;let(eQ,hw,hl):=jT.some_of (v:=v) (o:=(atKey xs k).map (·.2)) (by rw[l];exact rel.val k);let(p,ar,gc):=yc.mp hw;refine wpAny_getItem_heap (tupleKind_room_in1 bR) (Ac J.bu fe) dj ar ?_;rw[gc];exact h eQ _ (J.tok _) hl
def adP(bR:A.units+1<cLine)(J:Inv X ab σ H s)(g:i4 H a y o)(bE:be y u)(h:∀aj,Inv X ab σ H aj->Q (.bool (!o.isSome)) aj) :
  wpAny (model X.prog X.w) A (compareOp .NotIn u ⇑a) Q E s:=by
 rcases g with⟨kvs,k,e,hH,l⟩|⟨kvs,k,b,e,hH,fe,l⟩
 .subst hH;let(z,hd,vs,rel,dj):=yJ J.bu e;refine wpAny_notIn_of (uv bE) hd dj.mapOf ?_;rw[<- (rel.val k).Gz,<- l];exact h _ (J.tok _)
 .subst hH;cases(show u=ff b from bE);let(z,hd,xs,rel,dj):=yR J.bu e;refine wpAny_notIn_heap (tupleKind_room_in1 bR) (Ac J.bu fe) hd dj ?_;have q:=(rel.val k).Gz;rw[ac8]at q;rw[<- q,<- l];exact h _ (J.tok _)
def Fm(J:Inv X ab σ H s)(kU:u9 (H a))(ay:wI a s.heap h')(he:∃q,h'.get? a\q)(new:e8 X.prog X.w (upd H a cT) h' a cT) :
  Inv X ab σ (upd H a cT) {s with heap:=h',toks:=t' }:=
 J.write (x:=a) (e:=a) kU (.inl rfl) (λb q aa z=>(ay.2 b aa).trans z) he new
def M4{w:World}(z:↑kvs<=sizeLine)(hd:(a==sysModules)=false)(rel:fy kvs vs)(dj:h'.DictOf (iX P w) a vs) :
  e8 P w I h' a (.b2 kvs):=(z,hd,vs,rel,dj)
def WA(bR:A.units+1<cLine)(J:Inv X ab σ H s)(g:l_ H a y v I)(bE:be y u)(cI:be v r)(h:∀aj,Inv X ab σ I aj->Q ⟨⟩ aj) :
  wpAny (model X.prog X.w) A (setItem ⇑a u r) Q E s:=by
 rcases g with⟨kvs,k,e,hH,l,zq⟩|⟨kvs,k,b,e,hH,fe,l,zq⟩
 .subst hH zq;let(z,hd,vs,rel,dj):=Ae J.bu e;have aQ:↑vs<=sizeLine:=by rw[<- ↑rel];exact z
  have aK:↑(eK kvs k v)<=sizeLine:=by have:=J6 kvs k v;omega
  refine wpAny_setItem_pairs (hsz:=aQ) (uv bE) dj λh' nX ay=>h _ ?_
  have he:∃q,h'.get? a\q:=let⟨q,_,_,aI,_⟩:=nX;(q,aI);exact Fm J (by rw[e];exact jO) ay he (M4 aK hd (rel.put k cI) nX)
 .subst hH zq;cases(show u=ff b from bE);let(z,hd,xs,rel,dj):=Qy J.bu e;have aQ:↑xs<=sizeLine:=by rw[<- KG rel];exact z
  have aK:↑(eK kvs k v)<=sizeLine:=by have:=J6 kvs k v;omega
  refine wpAny_setItem_heap (hsz:=aQ) (tupleKind_room_in1 bR) (Ac J.bu fe) dj λh' nX ay=>h _ ?_
  let(q,aU,cu,aI,ak,aZ,bY,_,dS):=nX;refine Fm J (by rw[e];exact jO) ay (q,aI) (aK,hd,_,(rel.put k fe cI).keeps λc ys ef=>?_,q,aU,cu,aI,ak,aZ,bY,dS);rw[aP (cC ef e (λz=>nomatch z))];exact ef
end
section
variable{X:bc}{ab:List (Addr×Obj)}{σ:St}{H:av}{s:Shared}{a:Addr}{kvs:List (Key×V)}{k:Key}{u:Value}{A:Around}{E:Value->Shared->Prop}
theorem aet(J:Inv X ab σ H s)(e:H a\(.b2 kvs))(bE:be (d3 k) u)(l:dz kvs k\v)(hm:more=[]\/∃x,more=[x])
  (h:∀eQ aj,Inv X ab σ (upd H a (.b2 (tf kvs k))) aj->be v eQ->Q eQ aj):wpAny (model X.prog X.w) A (call (.builtin "dict.pop") (⇑a::u::more)) Q E s:=by
 let(z,hd,vs,rel,dj):=Ae J.bu e;let(eQ,hw,hl):=jT.some_of (v:=v) (o:=valueAt vs k) (by rw[<- l];exact rel.val k);have ar:(keyPart u).isSome=true:=by
  cases k with
  |inl i=>let(t,q):=(show ∃t,u=oA i t from bE);subst q;rfl
  |inr x=>let(t,q):=(show ∃t,u=w2 x t from bE);subst q;rfl
 have aO:argsOk "dict.pop" (⇑a::u::more,[]):=by
  rcases hm with q|⟨x,q⟩
  .subst q;exact PySem.F.args_dict_pop_2 _ _
  .subst q;exact anr _ _ _
 refine call_meetsIn O3 dj.typeIs akm aO (meets_dict_pop_there (iX X.prog X.w) a (uv bE) more hm ar)
  (vs,eQ,dj,by rw[<- ↑rel];exact z,hw,λh' nX ay=>h eQ _ ?_ hl)
 have he:∃q,h'.get? a\q:=let⟨q,_,_,aI,_⟩:=nX;(q,aI);exact Fm J (by rw[e];exact jO) ay he (M4 (cM (aos kvs k) z) hd (rel.drop k) nX)
theorem anK(J:Inv X ab σ H s)(e:H a\(.b2 kvs))(bE:be (d3 k) u)(l:dz kvs k=none)(h:∀aj,Inv X ab σ H aj->Q r aj) :
  wpAny (model X.prog X.w) A (call (.builtin "dict.pop") [⇑a,u,r]) Q E s:=by
 let(z,hd,vs,rel,dj):=Ae J.bu e;have a8:valueAt vs k=none:=jT.none_of (by rw[<- l];exact rel.val k);have ar:(keyPart u).isSome=true:=by
  cases k with
  |inl i=>let(t,q):=(show ∃t,u=oA i t from bE);subst q;rfl
  |inr x=>let(t,q):=(show ∃t,u=w2 x t from bE);subst q;rfl
 exact call_meetsIn O3 dj.typeIs akm (anr _ _ _) (meets_dict_pop_default (iX X.prog X.w) a (uv bE) hd ar r) (vs,dj,a8,h _ (J.tok _))
end
def HF(i:Expr):Prop:=∀iG ov,subscripted i false iG ov=operate [iG,ov] (getItem iG ov)
theorem Ui{prog:Program}{w:World}{A:Around}{E:Value->Shared->Prop}{s:Shared}{env:Env}{value slice:Expr}{pos:Pos}{T id:String}{Q:Value->Shared->Prop}
  (aK:typeLookup (.type T) "__getitem__"=pure (some (.builtin id))) (ay:HF slice)
  (h:wpAny (model prog w) A (eval value env) (λo dC=>wpAny (model prog w) A (eval slice env) (λi ej=>ej.TypeIs o T/\wpAny (model prog w) A (getItem o i) Q E ej) E dC) E s) :
  wpAny (model prog w) A (eval (.Subscript value slice pos) env) Q E s:=by
 refine Subscript_ (wpAny_mono h (λo dC h₁=>wpAny_mono h₁ (λi ej xx=>?_) λ_ _ x=>x) λ_ _ x=>x);let(ll,xx):=xx;unfold subscriptTail;refine wpAny_bind ?_;rw[getitemInPython_of_ne ll.not_modules];refine wpAny_bind (wpAny_specialOf ll aK ?_);have fin:wpAny (model prog w) A (subscripted slice false o i) (λr nU=>wpAny (model prog w) A (letTemporaryGo value o r >>= λ_=>pure r) Q E nU) E ej:=by
  rw[ay o i];exact wpAny_operating (wpAny_mono xx (λr nU B8=>wpAny_bind (wpAny_letTemporaryGo (wpAny_pure B8))) λ_ _ x=>x)
 first
  |exact wpAny_pure (wpAny_bind fin)
  |exact wpAny_bind (wpAny_pure (wpAny_bind fin))
  |exact wpAny_bind fin
def akA(J:Inv X ab σ H s)(g:i4 H a y o):s.TypeIs ⇑a "dict":=by
 rcases g with⟨kvs,k,e,_,_⟩|⟨kvs,k,b,e,_,_,_⟩
 .let(_,_,vs,_,dj):=yJ J.bu e;exact dj.typeIs
 .let(_,_,xs,_,dj):=yR J.bu e;exact dj.typeIs
noncomputable def JX(gH ty:TE):TE:=λσ H Q=>gH σ H λx H1=>ty σ H1 λy aw=>f9 x λa=>∃v,i4 aw a y (some v)/\Q v aw
noncomputable def LP(ty gH:TE):TE:=λσ H Q=>ty σ H λy H1=>gH σ H1 λx aw=>f9 x λa=>∃o,i4 aw a y o/\Q (.bp (!o.isSome)) aw
noncomputable def FO(gH ty gD:TE):eF:=λD σ H=>gD σ H λv H1=>gH σ H1 λx aw=>ty σ aw λy ba=>f9 x λa=>∃cn,l_ ba a y v cn/\D.cN σ cn
section
variable{X:bc}{o i e value:Expr}{pos pos' x':Pos}{gH ty gD:TE}
def p9(bR:X.A.units+1<cLine)(aS:bA X o gH)(ah:bA X i ty)(ay:HF i):bA X (.Subscript o i pos) (JX gH ty):=by
 intro ab s σ H Q J h;refine Ui aaL.lookup ay (bK (aS ab s σ H _ J h) λu s1 cm=>ey cm λx H1 a0 bb bM=>bK (ah ab s1 σ H1 _ a0 bM) λov s2 cm=>ey cm λy aw b1 bE gG=>?_);let(a,ex,v,g,d7):=f9.out gG;subst ex;obtain rfl:u=ff a:=bb;exact(akA b1 g,afh bR b1 g bE λeQ s3 fu hl=>(v,aw,fu,hl,d7))
def PU(bR:X.A.units+1<cLine)(ah:bA X i ty)(aS:bA X o gH):Sf X .NotIn i o (LP ty gH):=by
 intro ab s σ H Q J h;refine bK (ah ab s σ H _ J h) λov s1 cm=>ey cm λy H1 a0 bE bM=>bK (aS ab s1 σ H1 _ a0 bM) λu s2 cm=>ey cm λx aw b1 bb gG=>?_
 let(a,ex,iG,g,d7):=f9.out gG;subst ex;obtain rfl:u=ff a:=bb;exact adP bR b1 g bE λs3 fu=>(.bp (!iG.isSome),aw,fu,rfl,d7)
def wh(bR:X.A.units+1<cLine)(aS:bA X o gH)(ah:bA X i ty)(aE:bA X value gD)(ay:swapsWith value (some (.Subscript o i pos')) pos.line X.env=pure false) :
  hY X (.Assign [.Subscript o i pos'] value pos) (FO gH ty gD):=by
 intro ab s σ H D J h;refine wpAny_Assign_Subscript (bK (aE ab s σ H _ J h) λr s1 cm=>ey cm λv H1 a0 cI bM=>bK (aS ab s1 σ H1 _ a0 bM) λu s2 cm=>ey cm λx aw b1 bb d7=>bK (ah ab s2 σ aw _ b1 d7) λov s3 cm=>ey cm λy ba fu bE gG=>?_) ay;let(a,ex,cn,g,hb):=f9.out gG;subst ex;obtain rfl:u=ff a:=bb;exact WA bR fu g bE cI λs4 iA=>(σ,cn,iA,hb)
end
def Q2{w:World}(h:Heap)(aa:sysModules<h.objs.size):e8 P w H (h.push {cls:=.type "dict",data:=.dict #[]}) h.objs.size (.b2 []):=
 (eW _,beq_eq_false_iff_ne.mpr (et (gz aa)),[],.nil,Heap.DictOf.new h)
def ao9{w:World}(h:Heap)(aa:sysModules<h.objs.size):e8 P w H (h.push {cls:=.type "dict",data:=.dict #[]}) h.objs.size (.gs []):=
 (eW _,beq_eq_false_iff_ne.mpr (et (gz aa)),[],.nil,_,#[],0,hq _ rfl,(rfl,rfl,rfl),rfl,rfl,qx)
noncomputable def Nc:TE:=λ_ H Q=>∀p,H p=none->Q ⇑p (upd H p (.b2 []))
noncomputable def Nj:TE:=λ_ H Q=>∀p,H p=none->Q ⇑p (upd H p (.gs []))
section
variable{X:bc}{pos:Pos}
def CI:bA X (.Dict [] [] pos) Nc:=λab s σ H Q J h=>
 wpAny_Dict_empty (.ref ↥s,_,J.laid (a:=↥s) (o:=.b2 []) (t':=s.toks) (λ_ _ q=>e2 _ q) (bQ _) (Q2 s.heap J.big),rfl,h _ (J.bu.fresh (bQ _)))
def amD:bA X (.Dict [] [] pos) Nj:=λab s σ H Q J h=>
 wpAny_Dict_empty (.ref ↥s,_,J.laid (a:=↥s) (o:=.gs []) (t':=s.toks) (λ_ _ q=>e2 _ q) (bQ _) (ao9 s.heap J.big),rfl,h _ (J.bu.fresh (bQ _)))
end
noncomputable def Eu:List (TE×TE)->St->av->(List (V×V)->av->Prop)->Prop
 |[],_,H,Q=>Q [] H
 |(tk,gD)::r,σ,H,Q=>tk σ H λx H1=>gD σ H1 λy aw=>Eu r σ aw λps ba=>Q ((p'p x y)::ps) ba
noncomputable abbrev R_:List (V×V)->List (Value×Value)->Prop:=Paired λp q=>be p.1 q.1/\be p.2 q.2
def BB(X:bc)(pos:Pos)(keys:List (Option Expr))(values:List Expr)(uU:List (TE×TE)):Prop:=
 ∀(ab:List (Addr×Obj)) (s:Shared) (σ:St) (H:av) (Q:List (V×V)->av->Prop),Inv X ab σ H s->Eu uU σ H Q ->
  wpAny (model X.prog X.w) X.A (evalPairs (pairTrees keys values X.env pos)) (λvs aj=>∃ps I,Inv X ab σ I aj/\R_ ps vs/\Q ps I) X.ek s
def abD:BB X pos [] [] []:=λab s σ H Q J h=>pairTrees_nil_walk ([],H,J,.nil,h)
def Rq{k v:Expr}{bG:List (Option Expr)}(ax:bA X k tk)(aE:bA X v gD)(ao:BB X pos bG vs uU) :
  BB X pos (some k::bG) (v::vs) ((p'p tk gD)::uU):=λab s σ H Q J h=>
 pairTrees_cons_walk (bK (ax ab s σ H _ J h) λu s1 cm=>ey cm λx H1 a0 bb bM=>bK (aE ab s1 σ H1 _ a0 bM) λeH s2 ⟨y,aw,b1,bE,d7⟩=>
  bK (ao ab s2 σ aw _ b1 d7) λws s3 ⟨ps,ba,fu,rel,hb⟩=>((p'p x y)::ps,ba,fu,.cons (bb,bE) rel,hb))
noncomputable def tT(kvs more:List (Key×V)):List (Key×V):=more.foldl (λacc dE=>eK acc dE.1 dE.2) kvs
theorem fy.merge:∀{more:List (Key×V)} {rs:List (Key×Value)} {kvs:List (Key×V)} {vs:List (Key×Value)},fy more rs->fy kvs vs->fy (tT kvs more) (merged vs rs):=by
 intro more rs kvs vs r;unfold fy at r
 induction r generalizing kvs vs with
 |nil=>intro q;exact q
 | @cons p q ps qs h t cZ=>
  intro ik;have e:fy (eK kvs p.1 p.2) (stored vs q.1 q.2):=by
   have:=ik.put p.1 h.2;rw[<- h.1];exact this
  exact cZ e
theorem Wu:∀(more kvs:List (Key×V)),↑(tT kvs more)<=↑kvs+↑more
 |[],kvs=>by show ↑kvs<=↑kvs+0;omega
 |p::r,kvs=>by
  have ae:=Wu r (eK kvs p.1 p.2);have ak:=J6 kvs p.1 p.2;show ↑(tT (eK kvs p.1 p.2) r)<=_;rw[gW];omega
theorem O6{w:World}:∀{kvs:List (Key×V)} {ws:List (Value×Value)},R_ (kvs.map λdE=>(p'p (d3 dE.1) dE.2)) ws->∃rs,Carries (iX P w) ws rs/\fy kvs rs
 |[],_,r=>by rw[rC]at r;cases r;exact([],jO,.nil)
 | p::kvs,_,r=>by
  rw[fz]at r;cases r with
  | @cons a b as bs h t=>
   let(rs,c,q):=O6 (P:=P) (w:=w) t;let(ee,eo):=b;exact((p'p p.1 eo)::rs,(uv h.1,rfl,c),.cons (rfl,h.2) q)
noncomputable def M'(uU:List (TE×TE)):TE:=λσ H Q=>∀p,H p=none->Eu uU σ (upd H p (.b2 [])) λps aw=>aw p\(.b2 [])/\∃kvs:List (Key×V),ps=kvs.map (λdE=>(p'p (d3 dE.1) dE.2))/\↑kvs<=15/\Q ⇑p (upd aw p (.b2 (tT [] kvs)))
def am2{keys:List (Option Expr)}(h:BB X pos keys values uU)(pd:keys.all (·.isSome)=true)(aK:↑keys=↑values)(h0:keys≠[])
  (alG:↑keys<=15):bA X (.Dict keys values pos) (M' uU):=by
 intro ab s σ H Q J q;have a8:=J.bu.fresh (bQ ↥s);have a0:=J.laid (a:=↥s) (o:=.b2 []) (h':=s.heap.push {cls:=.type "dict",data:=.dict #[]}) (t':=s.toks) (λ_ _ q=>e2 _ q) (bQ _) (Q2 s.heap J.big);refine wpAny_Dict_walk (knd:=iX X.prog X.w) pd aK h0 alG (bK (h ab _ σ _ _ a0 (q _ a8)) λws s2 c_=>?_);let(ps,aw,b1,rel,e,kvs,cu,lk,d7):=c_;subst cu;let(rs,c,K'):=O6 (P:=X.prog) (w:=X.w) rel;let(z,hd,Ti,ik,dj):=Ae b1.bu e;cases ik;refine(rs,c,dj,λh' nX ay=>(.ref ↥s,_,?_,rfl,d7));have aQ:↑(tT [] kvs)<=sizeLine:=by
  have ae:=Wu kvs [];rw[z']at ae;rw[sizeLine_eq];omega
 have he:∃q,h'.get? ↥s\q:=let⟨q,_,_,aI,_⟩:=nX;(q,aI);exact Fm b1 (by rw[e];exact jO) ay he (M4 aQ hd (K'.merge .nil) nX)
structure M2(X:bc)(o:Expr)(m:Str)(gh:Pos)(e f:Expr)(iK:Pos):Prop where
 base:attributeBase o m X.env (eval o X.env)=eval o X.env
 RA:((backTo iK (starEach [e,f] X.env)).all (λx=>!x.1)&&(backToKw iK (keywordEach [] X.env)).all (λx=>x.1.isSome)
  && decide (↑([e,f]:List Expr)+↑([]:List Keyword)+(if([]:List Keyword).isEmpty then 0 else 1)<30))=true
 line:(gh.endLine==iK.line)=true
 trees:backTo iK (starEach [e,f] X.env)=[(p'p false (eval e X.env)),(p'p false (eval f X.env))]
def HW(H:av)(a:Addr):Prop:=(∃kvs,mq H a (.b2 kvs))\/∃kvs,mq H a (.gs kvs)
def akt(J:Inv X ab σ H s)(d:HW H a) :
  s.TypeIs ⇑a "dict"/\(∀b,ff a=⇑b->∃cT,s.heap.get? b\cT/\cT.dict=none)/\(a==sysModules)=false:=by
 rcases d with⟨kvs,e⟩|⟨kvs,e⟩
 .let(_,hd,vs,_,dj):=yJ J.bu e;refine(dj.typeIs,λb q=>?_,hd);cases q;let(cT,_,_,ae,ak,_):=dj;exact(cT,ae,ak.2.1)
 .let(_,hd,xs,_,dj):=yR J.bu e;refine(dj.typeIs,λb q=>?_,hd);cases q;let(cT,_,_,ae,ak,_):=dj;exact(cT,ae,ak.2.1)
noncomputable def Pr(gH ty t8:TE):TE:=λσ H Q=>gH σ H λx H1=>∃a,x=⇑a/\HW H1 a/\ty σ H1 λy aw=>t8 σ aw λz ba=>∃kvs k,ba a\(.b2 kvs)/\y=d3 k /\
 (∀v,dz kvs k\v->Q v (upd ba a (.b2 (tf kvs k))))/\(dz kvs k=none->Q z ba)
section
variable{X:bc}{o e f:Expr}{gh iK:Pos}{gH ty t8:TE}
theorem agw(aS:bA X o gH)(he:bA X e ty)(hf:bA X f t8)(m:M2 X o "pop" gh e f iK):bA X (.Call (.Attribute o "pop" gh) [e,f] [] iK) (Pr gH ty t8):=by
 intro ab s σ H Q J h;refine wpAny_Call_method m.base m.RA m.line PySem.F.plainAttrs_dict O3 PySem.F.type_dict_pop (bK (aS ab s σ H _ J h) λu s1 c_=>?_);let(x,H1,a0,bb,a,ex,d,bM):=c_;subst ex;obtain rfl:u=ff a:=bb;let(t1,eA,_):=akt a0 d;refine(t1,eA,?_);rw[m.trees];refine Ym rfl (ZL (Ub (bK (he ab s1 σ H1 _ a0 bM) λov s2 ⟨y,aw,b1,bE,d7⟩=>
  Ub (bK (hf ab s2 σ aw _ b1 d7) λaga s3 ⟨z,ba,fu,Nl,kvs,k,eg,hH,hb,rJ⟩=>akv ?_))))
 subst hH;cases l:dz kvs k with
 |some v=>exact aet fu eg bE l (.inr (aga,rfl)) λeQ s4 iA hl=>(v,_,iA,hl,hb v l)
 |none=>exact anK fu eg bE l λs4 iA=>(z,ba,iA,Nl,rJ l)
end
end L2
namespace Sm
open PySem PySem.W PySem.Calls PyProof.Rows
theorem amm{h:Heap}:∀(ns:List Int) (vs:List Value),WellAll P h vs (ns.map ahI)->IntsAre vs ns:=by
 intro ns
 induction ns with
 |nil=>
  intro vs w;rw[rC]at w;cases w;exact .nil
 | cons n ns cZ=>
  intro vs w;rw[fz]at w;cases w with
  |cons a b=>
   cases a;exact .cons _ _ (cZ _ b)
theorem acZ{l:OpenLaw}{n:Nat}(a8:l.most\n){P:Params}{h:Heap}{args:List WData}{GC:List Value}
  (Bf:l.row.toRowW.claim.pre args=true) (ht:WellAll P h GC args) :
  ∃a vs ns,GC=[ff a]/\args=[WData.list (ns.map ahI)]/\h.get? a=some {cls:=.type "list",data:=.seq vs.toArray}/\IntsAre vs ns/\↑ns<=n:=by
 have hj:WShape.hasAll [] args [.list .int]=true:=(pre_splitW Bf).1;have aB:l.pre.holds [] {args:=args}=true:=(pre_splitW Bf).2;let(d,r,rfl,ae,ak):=hasAllW_cons hj;obtain rfl:=hasAllW_nil ak;let(xs,rfl,aZ):=hasW_list ae;let(ns,rfl):=items_int aZ;have hlen:↑ns<=n:=by
  unfold OpenLaw.pre at aB;have bY:(WTm.not (.lt (.lit (.int (n:Int))) (.len (.arg 0)))).holds [] {args:=[.list (ns.map .int)]}=true:=by
   have bY:=(holds_andW aB).1;rw[a8]at bY;exact bY
  have dS:=condW_of bY (w_not (w_lt w_lit (w_len_list (w_arg rfl))));rw[aX]at dS;refine ajm λq=>?_
  have dY:(n:Int)<((↑ns:Nat):Int):=()
  first
   |(rw[decide_eq_true dY]at dS;exact absurd dS ∅)
   |(simp at dS;omega)
 cases ht with
 |cons dN eH=>
  cases eH;cases dN with
  |list aS pd=>exact(_,_,ns,rfl,rfl,aS,amm ns _ pd,hlen)
def acU(l:OpenLaw)(args:List WData):l.row.toRowW.claim.post args (.bool true) args=true:=
 postW_of (r:=l.row.toRowW) (X:=(true==true))
  (show aan [] (.bool true) .bool=true by first|rfl|decide|simp[aan,WShape.arms,WShape.armsAll])
  (show(WTm.eq .res (.lit (.bool true))).value [] {args:=args,res:=some (.bool true),after:=args}\(.bool (true==true))from w_eq_bool (w_res rfl) w_lit) rfl
def am8{l:OpenLaw}{n:Nat}{q:Program}{loose:List Str}{A9:(Str->Option Value)->Heap->Prop}{w':World->Heap->Prop}{d:DefRec}
  (a8:l.most\n) (Im:d.params.defaults=[])
  (call:∀(w:World) (gk dC:Shared) (mg n_:Str->Option Value) (gK:Addr) (o:Obj) (pm cd doc:Value) (a:Addr) (vs:List Value) (ns:List Int),
   Ground q loose [] A9 w gk mg n_ dC.heap->w' w dC.heap ->
   dC.heap.get? gK\o->o.data=.func (docDef d.name d.params d.body d.scope pm cd doc)->dC.heap.CodeRec cd d.name->mg d.name\⇑gK ->
   dC.heap.get? a=some {cls:=.type "list",data:=.seq vs.toArray}->IntsAre vs ns->↑ns<=n->dC.gens=#[] ->
   codeAny (model l.prog w) callerA (.call ⇑gK ([⇑a],[])) (λr aj=>r=.ok (.ret (.bool true))/\OldK dC.heap aj.heap/\aj.os=dC.os/\AllBare aj.gens) dC) :
  WalkO q loose A9 w' l.row.toRowW d [] (λf vs=>ahj f vs):=by
 intro w gk dC mg n_ G Y gK o pm cd doc EO d3 aS hd jY bX zz a7 args GC as Bf apT ar6 ht nO;obtain rfl:EO=.none:=Dflts.none bX Im;obtain rfl:d3=.none:=Dflts.noKw bX;let(a,vs,ns,rfl,rfl,Gi,hints,hlen):=acZ a8 Bf ht;refine enter_call (codeAny_mono (call w gk dC mg n_ gK o pm cd doc a vs ns G Y aS (fd_plain hd) jY zz Gi hints hlen a7) λr aj aI=>?_);let(rfl,ak,aZ,bY):=aI;exact(.inl (.bool true,.bool true,[],rfl,λ_=>rfl,.bool true,acU l _,λ_=>(apR,λ_ hm=>(nomatch hm))),ak,aZ,bY)
end Sm
namespace L2
open PySem PySem.Spec PyProof.Rows
theorem PA:∀{vs:List Value} {ns:List Int},IntsAre vs ns->cO (ns.map V.int) vs
 |_,_,.nil=>.nil
 |_,_,.cons n t h=>.cons (t,rfl) (PA h)
noncomputable abbrev E0{K:bk}{h:Heap}(_:K.In h):bk:=K
noncomputable def fI(s:Stmt)(j:Nat):Stmt:=match s with
 | .ClassDef _ _ _ body _ _ _ _ _ _ _=>body.getD j (.Pass (0,0,0,0))
 |_=>.Pass (0,0,0,0)
noncomputable def CR(s:Stmt):Arguments:=match s with
 | .FunctionDef _ a _ _ _ _ _ _ _ _=>a
 |_=>{posonlyargs:=[],args:=[],vararg:=none,kwonlyargs:=[],kw_defaults:=[],kwarg:=none,defaults:=[]}
noncomputable def rV(s:Stmt):List Stmt:=match s with
 | .FunctionDef _ _ b _ _ _ _ _ _ _=>b
 |_=>[]
noncomputable def bx(s:Stmt):Scope:=match s with
 | .FunctionDef _ _ _ _ _ _ sc _ _ _=>sc
 |_=>{kind:=.function,names:=[],isGenerator:=false,isCoroutine:=false}
noncomputable abbrev dq:jX:=λ_ _ _ _ _ _=>False
noncomputable abbrev I9:fT:=λ_ _ _=>False
def c3:qy dq X I9:=λ_ _ _ _ _ _ _ h=>h.elim
structure b9(K:bk)(x qual:Str)(st:Stmt)(f:Addr)(fd:FuncData):Prop where
 ex:∃(ou:Value) (fB:Option Addr) (d3 doc pm:Value) (an:Option Addr) (fZ fY:Value) (uB:Array (Option Value)),
  fd=x2 x qual (CR st) (rV st) (bx st) .none d3 doc pm an fZ fY/\K.lookup f\(ou,fB,.func fd,uB)/\VZ K fZ qual=true
 bo:tH K ⇑f=true
section
variable{P:Program}{w:World}{K:bk}{mg:Str->Option Value}{base:Heap}
def b9.ok{x qual:Str}{st:Stmt}{fd:FuncData}{N ps:List Str}{k:Nat}(F:b9 K x qual st f fd)(S:Db N ps (bx st))(len:∀vs H Q E,sp vs H Q E->↑vs=↑ps)
  (oP:∀(fZ:Value) (A:Around) (outer:List Env) (s:Shared) (H:av) (vs:List V) (Q:cV) (E:fT),eY k (A.deeper (envOfC qual (bx st) ↥s f fZ))->sp vs H Q E ->
   ∃t,jS (td dq P w K mg base N qual (bx st) f fZ A outer s H E).tQ (rV st) t/\t {cN:=λ_ I=>Q .cf I,me:=Q} (start N vs) H):cE P w K mg base dq (k+1) f fd ps sp:=by
 let(ou,fB,d3,doc,pm,an,fZ,fY,uB,rfl,lk,jY):=F.ex;refine X2 lk jY S len λA outer s H vs Q E ao lO=>?_
 let(t,h,q):=oP fZ A outer s H vs Q E ao lO;exact(t,h.tQ,q)
def b9.binds{x qual:Str}{st:Stmt}{fd:FuncData}(F:b9 K x qual st f fd)
  (h:∀(d3 doc pm:Value) (an:Option Addr) (fZ fY:Value) (us:List Value),↑us=↑ps->bindArgs (x2 x qual (CR st) (rV st) (bx st) .none d3 doc pm an fZ fY) (us,[])=pure (ps.zip us)):b5 K fd ps []:=by
 let(ou,fB,d3,doc,pm,an,fZ,fY,uB,rfl,lk,jY):=F.ex;exact .all (h d3 doc pm an fZ fY)
def agd{x qual:Str}{st:Stmt}{d3 doc pm fZ fY:Value}(l:K.lookup f\(ou,fB,.func (x2 x qual (CR st) (rV st) (bx st) .none d3 doc pm an fZ fY),uB))
  (c:VZ K fZ qual=true) (k:tH K ⇑f=true):b9 K x qual st f (x2 x qual (CR st) (rV st) (bx st) .none d3 doc pm an fZ fY):=((ou,fB,d3,doc,pm,an,fZ,fY,uB,rfl,l,c),k)
end
def acC(A:Around):Prop:=A.units+1<cLine
def aou(A:Around):Prop:=A.units+64<cLine
def aa3{A:Around}{k:Nat}(ao:eY k A):aou A:=ao.units
def i'{A:Around}{k:Nat}(ao:eY k A):acC A:=hO (Nat.add_le_add_left (by decide:1<=64) _) ao.units
section
variable{X:bc}
def U(i:Nat){x:Str}(bl:autoParam (X.N[i]?\x) A'r)(aE:DW X.env.scope x:=by first|exact n0 rfl|exact mh (n0 rfl)|exact mh (mh rfl))(hd:(x==("__debug__":Str))=false:=by decide)
  (jY:autoParam ((x==("__classdict__":Str))=false) A'd):bA X (.Name x pos) (BT i):=akc bl aE hd jY
end
def aN(H I:av):Prop:=∀b o,H b\o->I b\o
def aN.refl(H:av):aN H H:=λ_ _ h=>h
def aN.trans(a:aN H H1)(b:aN H1 aw):aN H aw:=λc o h=>b c o (a c o h)
theorem aN.free(e:aN H I)(h:I l=wQ):H l=wQ:=by
 cases q:H l with
 |none=>rfl
 |some o=>
  rw[e l o q]at h;cases h
section
variable{eR:Type}[DecidableEq eR]
theorem AR:∀{l:List eR} {k:eR},l.Nodup->¬k∈l->(l++[k]).Nodup
 |[],k,_,_=>by simp
 |a::r,k,h,ax=>by
  let(ae,ak):=ni.mp h;show(a::(r++[k])).Nodup;refine ni.mpr (λm=>?_,AR ak λm=>ax (ei.mpr (mh m)));rcases eI.mp m with q|q
  .exact ae q
  .exact ax (ei.mpr (n0 (d9.mp q).symm))
end
end L2
set_option maxHeartbeats 4000000
namespace L2
open PySem PySem.Spec PyProof.Rows
noncomputable def kr(cells:List (Str×Addr)):List (Str×NameKind)->List (Str×Addr)->List (Str×Addr)
 |[],acc=>acc
 |(n,k)::r,acc=>if k == .free then(match cells.lookup n with|some c=>kr cells r ((p'p n c)::acc)|none=>kr cells r acc)else kr cells r acc
theorem Lk{env:Env}:∀(names:List (Str×NameKind)) (acc:List (Str×Addr)),(∀y∈names,y.2=.free->∃c,env.cells.lookup y.1\c) ->
  (forIn names acc (λ(x:Str×NameKind) (cs:List (Str×Addr))=>(if(x.2 == .free)=true then do let a <- cellOf env x.1;pure (xA ((p'p x.1 a)::cs))else pure (xA cs):Sem (ForInStep (List (Str×Addr))))))=pure (kr env.cells names acc)
 |[],acc,_=>rfl
 | (n,k)::r,acc,h=>by
  have ao:∀y∈r,y.2=.free->∃c,env.cells.lookup y.1\c:=λy aM=>h y (i7 _ aM)
  rw[List.forIn_cons];by_cases ax:(k==s7)=true
  .have e:k=.free:=by simpa using ax
   let(c,aB):=h (p'p n k) oi e;have wL:env.cells.lookup n\c:=aB;simp only[kr,ax,if_true,wL,cellOf];exact Lk r _ ao
  .simp only[kr,ax];exact Lk r _ ao
def Rh{env:Env}(h:∀y∈scope.names,y.2=.free->∃c,env.cells.lookup y.1\c):closureFor scope env=pure (kr env.cells scope.names []):=by
 unfold closureFor;exact congrArg (λt=>t >>= pure) (Lk scope.names [] h)
theorem D2{cells:List (Str×Addr)}:∀(names:List (Str×NameKind)) (acc:List (Str×Addr)) {x:Str} {c:Addr},(kr cells names acc).lookup x\c->acc.lookup x\c\/cells.lookup x\c
 |[],acc,x,c,h=>.inl h
 | (n,k)::r,acc,x,c,h=>by
  unfold kr at h;split at h
  .cases q:cells.lookup n with
   |none=>rw[q]at h;exact D2 r acc h
   | some d=>
    rw[q]at h;rcases D2 r _ h with z|z
    .rw[lV]at z;by_cases ag:(x==n)=true
     .rw[ag]at z;have e:x=n:=by simpa using ag
      subst e
      right;rw[q];exact z
     .have eD:(x==n)=false:=by simpa using ag
      rw[eD]at z;exact .inl z
    .exact .inr z
  .exact D2 r acc h
theorem AS{cells:List (Str×Addr)}:∀(names:List (Str×NameKind)) (acc:List (Str×Addr)) {x:Str} {c:Addr},acc.lookup x\c->cells.lookup x\c->(kr cells names acc).lookup x\c
 |[],acc,x,c,h,_=>h
 | (n,k)::r,acc,x,c,h,aB=>by
  unfold kr;split
  .cases q:cells.lookup n with
   |none=>exact AS r acc h aB
   | some d=>
    refine AS r _ ?_ aB;rw[lV];by_cases ag:(x==n)=true
    .have e:x=n:=by simpa using ag
     subst e;rw[ag];rw[q]at aB;exact aB
    .have eD:(x==n)=false:=by simpa using ag
     rw[eD];exact h
  .exact AS r acc h aB
theorem yt{cells:List (Str×Addr)}:∀(names:List (Str×NameKind)) (acc:List (Str×Addr)) {x:Str} {c:Addr},(p'p x s7)∈names->cells.lookup x\c->(kr cells names acc).lookup x\c
 |[],_,_,_,h,_=>nomatch h
 | (n,k)::r,acc,x,c,h,aB=>by
  rcases ei.mp h with e|h
  .cases e;unfold kr;rw[if_pos ∅,aB];refine AS r _ ?_ aB;rw[lV];simp
  .unfold kr;split
   .cases q:cells.lookup n with
    |none=>exact yt r acc h aB
    |some d=>exact yt r _ h aB
   .exact yt r acc h aB
theorem JD:∀{l:List (Str×α)} {x:Str} {a:α},l.lookup x\a->(p'p x a)∈l
 |[],_,_,h=>by simp at h
 | (n,b)::r,x,a,h=>by
  rw[lV]at h;by_cases ag:(x==n)=true
  .have e:x=n:=by simpa using ag
   subst e;rw[ag]at h;have aD:b=a:=d2 h;subst aD;exact oi
  .have eD:(x==n)=false:=by simpa using ag
   rw[eD]at h;exact i7 _ (JD h)
def ahv{env:Env}{x:Str}{k:NameKind}(h:(relabel scope env).names.lookup x\k)(ax:k=.cell\/k=.free)(aB:∀y∈scope.names,y.2≠.cell):(p'p x s7)∈scope.names:=by
 have ae:=JD h;let((n,j),hm,e):=cj.mp ae;have bD:(if(j==s7&&env.scope.kind == .function&&env.kindOf n==some .cell)=true then(p'p n Rb)else(p'p n j))=(p'p x k):=e;split at bD
 .rename_i Yi;have aq:n=x:=(Xw bD).1;subst aq;have aJ:j=.free:=by
   simp only[kX]at Yi;simpa using Yi.1.1
  subst aJ;exact hm
 .have aq:n=x:=(Xw bD).1;have aD:j=k:=(Xw bD).2;subst aq;subst aD;rcases ax with z|z
  .exact absurd z (aB _ hm)
  .subst z;exact hm
theorem abM{env:Env}{x:Str}(h:scope.names.lookup x\.free):(relabel scope env).names.lookup x\.cell\/(relabel scope env).names.lookup x\.free:=by
 have all:∀(names:List (Str×NameKind)),names.lookup x\.free ->
   (names.map λ(n,k)=>if(k==s7&&env.scope.kind == .function&&env.kindOf n==some .cell)then(p'p n Rb)else(p'p n k)).lookup x\.cell \/
   (names.map λ(n,k)=>if(k==s7&&env.scope.kind == .function&&env.kindOf n==some .cell)then(p'p n Rb)else(p'p n k)).lookup x\.free:=by
  intro names
  induction names with
  |nil=>intro h;simp at h
  | cons p r cZ=>
   let(n,k):=p;intro h;rw[fz];by_cases ag:(x==n)=true
   .simp only[lV,ag]at h;have ax:k=.free:=d2 h;subst ax;by_cases aB:(s7==s7&&env.scope.kind == .function&&env.kindOf n==some .cell)=true
    .left;simp only[if_pos aB,lV,ag]
    .right;simp only[if_neg aB,lV,ag]
   .have eD:(x==n)=false:=by simpa using ag
    simp only[lV,eD]at h;by_cases aB:(k==s7&&env.scope.kind == .function&&env.kindOf n==some .cell)=true
    .simp only[if_pos aB,lV,eD];exact cZ h
    .simp only[if_neg aB,lV,eD];exact cZ h
 exact all scope.names h
noncomputable abbrev bc.block(X:bc)(scope:Scope)(C:Addr)(N:List Str)(s:Shared)(H:av)(bg:List Addr):bc where
 prog:=X.prog
 w:=X.w
 K:=X.K
 mg:=X.mg
 base:=X.base
 A:=X.A
 N:=N
 gk:=s
 sP:=H
 env:=compEnvC scope (kr X.env.cells scope.names []) C X.env
 outer:=X.stack
 stack:=X.stack
 ex:=bg
 fn:=λ_=>false
 calm:=X.calm
 fs:=[]
 ek:=λ_ _=>False
structure rR(env:Env)(scope:Scope):Prop where
 kind:scope.kind=.function
 v9:∀y∈scope.names,y.2≠.cell
 fr:∀y∈scope.names,y.2=.free->env.kindOf y.1\.cell\/env.kindOf y.1\.free
 loc:∀x∈scope.names,x.2=.local->scope.names.lookup x.1\.local
noncomputable def nV(sel:List (Option Nat))(σ:St):St:=sel.map λo=>o.bind λj=>(σ[j]?).join
def zx(M:List Str)(scope:Scope)(N:List Str)(sel:List (Option Nat)):Prop:=
 ↑sel=↑N/\∀(i j:Nat) (x:Str),sel[i]?\(some j)->N[i]?\x->M[j]?\x/\scope.names.lookup x\.free
section
variable{X:bc}{ab:List (Addr×Obj)}{σ:St}{H:av}{s:Shared}{scope:Scope}{bg:List Addr}{C:Addr}{N:List Str}
theorem rR.cells(S:rR X.env scope)(ok:X.Ok):∀y∈scope.names,y.2=.free->∃c,X.env.cells.lookup y.1\c:=λy aM e=>ok.has y.1 (S.fr y aM e)
def vW{x:Str}(h:(kr X.env.cells scope.names []).lookup x\c):X.env.cells.lookup x\c:=by
 rcases D2 _ _ h with z|z
 .simp at z
 .exact z
def UF(J:Inv X ab σ H s)(S:rR X.env scope)(hf:∀b∈bg,ji X ab H b)(ay:∀b∈bg,b<↥s)(dv:↥s<=C):(X.block scope C N s H bg).Ok where
 mod:=J.ok.mod
 kind:=S.kind
 glob:=J.ok.glob
 blt:=J.ok.blt
 above:=dv
 inj:=λx y c ae ak=>J.ok.inj x y c (vW ae) (vW ak)
 has:=λx h=>by
  have ax:∃k,(relabel scope X.env).names.lookup x\k/\(k=.cell\/k=.free):=by
   rcases h with h|h
   .exact (_,h,.inl rfl)
   .exact (_,h,.inr rfl)
  let(k,ae,ak):=ax;have hm:=ahv ae ak S.v9;let(c,aB):=S.cells J.ok _ hm rfl;exact(c,yt _ _ hm aB)
 xi:=λ_ _ h _=>nomatch h
 hd:=J.ok.hd
 frames:=J.ok.frames
 zh:=.inl rfl
 Hc:=λb aa=>(gz (iL (ay b aa) dv),λx c e=>(hf b aa).2.2.2.2.1 x c (vW e))
 bs:=J.bs
 nR:=cM J.ok.nR J.pA
 vN:=λb o e aa=>by
  rcases(hf b aa).2.2.2.1 with z|z
  .exact J.ok.vN b o e z
  .exact absurd (iL (iL (er e) J.ok.nR) z) (oQ _)
 wU:=λb aa aQ=>by
  rcases ei.mp (J.Fs b aQ)with z|z
  .exact (hf b aa).2.1 z
  .exact (hf b aa).2.2.1 z
 mL:=J.stack
 r_:=J.HS
theorem aod(J:Inv X ab σ H s)(S:rR X.env scope)(hf:∀b∈bg,ji X ab H b)(ay:∀b∈bg,b<↥s)(dv:↥s<=C)
  (k:∀b o,s.heap.get? b\o->h'.get? b\o) (a8:h'.Ns C m) (sE:zx X.N scope N sel):Inv (X.block scope C N s H bg) [] (nV sel σ) H {s with heap:=h',toks:=t' }where
 ok:=UF J S hf ay dv
 os:=rfl
 bare:=J.bare
 base:=hP.kept k
 loc:=by
  refine(m,a8,λi x v aq aD bV=>?_);let(m0,qD,aK):=J.loc;let(j,q3,aiA):∃j,sel[i]?\(some j)/\σ[j]?\(some v):=by
   unfold nV at aD;rw[dg]at aD;cases q:sel[i]? with
   |none=>rw[q]at aD;cases aD
   | some o=>
    rw[q]at aD;cases o with
    |none=>cases aD
    |some j=>
     refine(j,rfl,?_);have A1:(σ[j]?).join\v:=d2 aD;cases r:σ[j]? with
     |none=>rw[r]at A1;cases A1
     |some z=>rw[r]at A1;exact congrArg some A1
  let(vU,Dk):=sE.2 i j x q3 aq;have hm:=JD Dk;have ax:=S.fr _ hm rfl;have aE:DW X.env.scope x:=ax.elim (λz=>.inr (.inl z)) λz=>.inr (.inr z)
  let(u,r,l):=aK j x v vU aiA aE;refine(u,r,?_);rcases l with⟨anh,_⟩|⟨_,c,aB,Bg⟩
  .rcases ax with z|z <;> (have gB:X.env.kindOf x=_:=z;rw[anh]at gB;cases gB)
  .refine .inr (?_,c,yt _ _ hm aB,?_)
   .exact abM Dk
   .let(o,aS,hd):=Bg;exact(o,k _ _ aS,hd)
 cell:=λx c e=>by
  let(v,o,aS,hd):=J.cell x c (vW e);exact(v,o,k _ _ aS,hd)
 free:=J.bu.fresh dv
 kg:=λx c e=>J.kg x c (vW e)
 pin:=λp ar=>nomatch ar
 bu:=J.bu.kept k
 len:=by unfold nV;rw[aX];exact sE.1
def Inv.adopt(J:Inv X ab σ H s)(h9:ji X ab H a)(new:e8 X.prog X.w (upd H a o) s.heap a o):Inv X ab σ (upd H a o) s:=by
 let(a8,eE,Fb,hex,n5,k7):=h9;refine J.step (g':=s.gens) (d':=s.drawn) (t':=s.toks) (h':=s.heap) (ch:=[a]) (λb aa=>?_) (λb o _ _ _ e _=>e) (λb o _ _ _ e _=>(o.slots,e)) (λb o aa e n=>?_) (λb o _ e=>(o,e))
  (λb xs e=>?_) (λb o u e=>?_) (λb ps e=>(#[],?_)) (λm hm=>hm) (λb u e=>?_) J.bare
 .have e:b=a:=by simpa using aa
  subst e;exact(hex,eE,n5,k7)
 .rw [aP (λz=>aa (by simp[z]))];exact n
 .rw [aP (dm e a8)];exact e
 .rw [aP (dm e a8)];exact e
 .rw [aP (dm e a8),e];simp
 .by_cases aa:b=a
  .subst aa;rw[aR]at e;cases e;exact new
  .rw [aP aa]at e;exact(J.bu b u e).oB (λc v _ q=>q) (λc q=>by rw[aP (dm q a8)];exact q) λc xs q=>by rw[aP (dm q a8)];exact q
end
theorem pp{prog:Program}{w:World}{A:Around}{it acc:Value}{env:Env}(J:Nat->Shared->Prop)
  (turn:∀n s,J n s->wpAny (model prog w) A (pyNext it) (λr dC=>match r with
   |none=>R (.ok .next) dC
   | some v=>wpAny (model prog w) A (letOwnedTupleGo xy it v) (λ_ gk=>wpAny (model prog w) A (assign xy env v) (λ_ ej=>
     wpAny (model prog w) A (forIn ifs true λc r=>if r=true then do let ok <- isTrue c env (eval c env);pure (xA ok)else pure (xA r)) (λok nU=>
      if ok=true then wpAny (model prog w) A (eval elt env) (λx CB=>
       wpAny (model prog w) A (call (.builtin "list.append") [acc,x]) (λ_ S_=>∃m,m<n/\J m S_) (λ_ _=>False) CB) (λ_ _=>False) nU
      else ∃m,m<n/\J m nU) (λ_ _=>False) ej) (λ_ _=>False) gk) (λ_ _=>False) dC) (λ_ _=>False) s)
  (n:Nat) (h:J n s) :
  codeAny (model prog w) A (.compLoop (.ListComp elt [(xy,iter,ifs,0)] scope pos) 0 it acc env) R s:=by
 refine codeAny_loop rfl J (λn s LQ=>?_) n h;show wpAny _ A ((compTurn (.ListComp elt [(xy,iter,ifs,0)] scope pos) 0 it acc env).onRaise (λx=>do noteFrame x env;theTreesLotGoes x)) _ _ s;refine wpAny_noted (wpAny_noRaise ?_);rw[compTurn_list];refine wpAny_bind (wpAny_standAt (wpAny_bind (wpAny_mono (turn n s LQ) (λr dC h₁=>?_) λ_ _ h'=>h')));cases r with
 |none=>exact wpAny_pure h₁
 | some v=>
  refine wpAny_bind (wpAny_mono h₁ (λ_ gk h₀=>?_) λ_ _ h'=>h');refine wpAny_bind (wpAny_mono h₀ (λ_ ej xx=>wpAny_bind (wpAny_mono xx (λok nU B8=>?_) λ_ _ h'=>h')) λ_ _ h'=>h');cases ok with
  |false=>exact wpAny_pure (rfl,B8)
  |true=>
   exact wpAny_bind (wpAny_bind (wpAny_mono B8 (λx CB akr=>wpAny_bind (wpAny_mono akr (λ_ S_ Zk=>wpAny_pure (wpAny_pure (rfl,Zk))) λ_ _ h'=>h')) λ_ _ h'=>h'))
def zN(X:bc)(ifs:List Expr)(t:TT):Prop:=
 ∀(ab:List (Addr×Obj)) (s:Shared) (σ:St) (H:av) (Q:Bool->av->Prop),Inv X ab σ H s->t σ H Q ->
  wpAny (model X.prog X.w) X.A (forIn ifs true λc r=>if r=true then do let ok <- isTrue c X.env (eval c X.env);pure (xA ok)else pure (xA r)) (Es X ab σ Q) X.ek s
noncomputable def rA:TT:=λ_ H Q=>Q true H
def hT:zN X [] rA:=λ_ _ _ H _ J h=>wpAny_tests_nil (H,J,h)
def uc{t:TT}(h:i8 X c t):zN X [c] t:=λab s σ H Q J q=>wpAny_tests_one (h ab s σ H Q J q)
def Sub(σ au:St):Prop:=↑au=↑σ/\∀(i:Nat) (v:V),σ[i]?\(some v)->au[i]?\(some v)
def uO(bz:kq)(g:g5)(c9:TT)(bW:TE)(dA:St)(Q:cV)(W:Nat->Nat->List V->av->Prop):Prop:=∀i m ys H,W i m ys H ->
 (bz.stop i H/\∀p,H p=none->Q ⇑p (upd H p (.lst ys))) \/
 (bz.go i H/\↑ys<sizeLine/\∀x I,bz.ro i H x I->g x dA I λcD aw=>Sub dA cD/\c9 cD aw λc ba=>if c=true then bW cD ba λy cn=>∃dU,dU<m/\W (i+1) dU (ys++[y]) cn else ∃dU,dU<m/\W (i+1) dU ys ba)
noncomputable def It(hX:TI)(g:g5)(c9:TT)(bW:TE)(sel:List (Option Nat)):TE:=λσ H Q=>hX σ H λbz H1=>∃W:Nat->Nat->List V->av->Prop,(∃m,W 0 m [] H1)/\uO bz g c9 bW (nV sel σ) Q W
section
variable{X:bc}{elt dr iter:Expr}{ifs:List Expr}{scope:Scope}{pos:Pos}{hX:TI}{g:g5}{c9:TT}{bW:TE}{N:List Str}{sel:List (Option Nat)}
structure fa(X:bc)(scope:Scope)(N:List Str)(dr elt:Expr)(ifs:List Expr)(g:g5)(c9:TT)(bW:TE):Prop where
 WQ:∀C s H bg,p4 (X.block scope C N s H bg) dr g
 tests:∀C s H bg,zN (X.block scope C N s H bg) ifs c9
 elem:∀C s H bg,bA (X.block scope C N s H bg) elt bW
def fa.of{N:List Str}(ae:∀C s H bg,p4 (X.block scope C N s H bg) dr g)
  (ak:∀C s H bg,∃t,zN (X.block scope C N s H bg) ifs t/\t=c9) (aZ:∀C s H bg,∃t,bA (X.block scope C N s H bg) elt t/\t=bW):fa X scope N dr elt ifs g c9 bW:=
 (ae,λC s H bg=>by let(t,h,rfl):=ak C s H bg;exact h,λC s H bg=>by let(t,h,rfl):=aZ C s H bg;exact h)
theorem Oj{ab:List (Addr×Obj)}{ej:Shared}{σ:St}{jr:av}{Q:cV}{it:Addr}{bg:List Addr}{eU:Nat->Heap->Prop}{bz:kq}{W:Nat->Nat->List V->av->Prop}{E:Value->Shared->Prop}{RR:Value->Addr->Result->Shared->Prop}
  (aB:X.calm=true) (S:rR X.env scope) (sE:zx X.N scope N sel) (B:fa X scope N dr elt ifs g c9 bW) (b1:Inv X ab σ jr ej) (T:rq X.prog X.w X.K dr bz bg it eU) (pU:eU 0 ej.heap) (f2:∀b∈bg,ji X ab jr b)
  (lX:∃m,W 0 m [] jr) (gE:uO bz g c9 bW (nV sel σ) Q W)
  (fin:∀D C ys I aj,Inv X ab σ (upd I D (.lst ys)) aj->(∃m,aj.heap.Ns C m)->ji X ab (upd I D (.lst ys)) C->Q ⇑D (upd I D (.lst ys))->RR ⇑D C (.ok .next) aj) :
  wpAny (model X.prog X.w) X.A (newList []) (λacc nU=>wpAny (model X.prog X.w) X.A (newFunctionEnv scope X.env.globals (kr X.env.cells scope.names []) [] X.env.qual none .none (some X.env)) (λUs CB=>
   codeAny (model X.prog X.w) X.A (.compStart (.ListComp elt [(dr,iter,ifs,0)] scope pos) 0 ⇑it acc {Us with scope:=relabel scope X.env}) (RR acc Us.locals) CB) E nU) E ej:=by
 refine wpAny_newObj_type (wpAny_newFunctionEnv S.v9 (by intro y aM;simp at aM) (λh₁ JU Bt=>?_) S.kind);dsimp only at JU Bt⊢;generalize Hn:ej.heap.push {cls:=.type "list",dict:=none,data:=.seq ([]:List Value).toArray}=aw at JU Bt⊢;have dv:aw.objs.size=↥ej+1:=by rw[<- Hn,YP]
 have yk:↥ej≠aw.objs.size:=by rw[dv];exact gz (wK _)
 have Ik:↥ej<=aw.objs.size:=by rw[dv];exact Bx _
 have below:∀b,b<↥ej->b≠aw.objs.size/\b≠↥ej:=λb aa=>(by rw[dv];exact gz (Nat.lt_succ_of_lt aa),gz aa)
 have old:∀b o,ej.heap.get? b\o->h₁.get? b\o:=λb o e=>Bt.extBut b o (below b (er e)).1 (e2 _ (Hn ▸ e2 _ e))
 have aef:h₁.get? ↥ej=some {cls:=.type "list",data:=.seq ([]:List Value).toArray}:=Bt.extBut _ _ yk (e2 _ (Hn ▸ hq _ rfl));have zf:∀b∈bg,b<↥ej:=λb aa=>by
  let(o,e,_):=T.obj _ _ pU b aa;exact er e
 generalize aqw:aw.objs.size=C at *;generalize qr:↥ej=D at *;have Ar:eU 0 h₁:=T.keep _ _ _ pU λb _ o e=>old b o e
 have aj1:Inv (X.block scope C N ej jr bg) [] (nV sel σ) jr {ej with heap:=h₁,toks:=ej.toks+↑([]:List (Str×Value))}:=
  aod b1 S f2 (λb aa=>by rw[qr];exact zf b aa) (by rw[qr];exact Ik) old JU sE
 have Ic:D∉(X.block scope C N ej jr bg).a5:=λz=>by
  have gB:=b1.Fs D z;rcases ei.mp gB with e|e
  .exact absurd b1.lt (by rw[<- e,qr];exact oQ _)
  .exact b1.GG (by rw[qr];exact bQ _) e
 have loop:∀nU:Shared,nU={ej with heap:=h₁,toks:=ej.toks+↑([]:List (Str×Value))} ->
   codeAny (model X.prog X.w) X.A (.compLoop (.ListComp elt [(dr,iter,ifs,0)] scope pos) 0 ⇑it ⇑D (compEnvC scope (kr X.env.cells scope.names []) C X.env)) (RR ⇑D C) nU:=by
  rintro nU rfl;let(m0,lX):=lX;refine pp (λk aj=>∃i ys us n I,Inv (X.block scope C N ej jr bg) [(p'p D ({cls:=.type "list",data:=.seq us n}))] (nV sel σ) I aj/\(∃vs:List Value,us=vs.toArray/\cO ys vs)/\↑ys<=sizeLine/\eU i aj.heap/\(∀b∈bg,I b=none)/\W i k ys I) ?_ m0
   (0,[],_,0,jr,aj1.uk λp ar=>?_,([],rfl,.nil),eW _,Ar,λb aa=>(f2 b aa).1,lX)
  .rintro k aj ⟨i,ys,us,n,I,Mf,⟨vs,rfl,cI⟩,WC,st,fr,w⟩;have Ja:∀{pl:List (Addr×Obj)} {ib:av},(∀p∈pl,p.1=D)->(∀b∈bg,ib b=none)->∀b∈bg,ji (X.block scope C N ej jr bg) pl ib b:=fun {pl ib} ar a8 b aa=>
    (a8 b aa,(below b (zf b aa)).1,(UF (N:=N) (C:=C) b1 S f2 (λb aa=>by rw[qr];exact zf b aa) (by rw[qr];exact Ik)).wU b aa,.inl aa,λx c e=>(f2 b aa).2.2.2.2.1 x c (vW e),λp Zg z=>by
     have anQ:p∈pl:=by simpa using Zg
     exact(below b (zf b aa)).2 (by rw[<- z];exact ar p anQ))
   have Kf:∀p∈[((p'p D ({cls:=.type "list",data:=.seq vs.toArray n})):Addr×Obj)],p.1=D:=λp ar=>by
    have e:p=(p'p D ({cls:=.type "list",data:=.seq vs.toArray n})):=by simpa using ar
    rw[e]
   rcases gE i k ys I w with⟨stop,J9⟩|⟨go,hlen,step⟩
   .refine bK (T.done (X.block scope C N ej jr bg) rfl rfl rfl aB i _ aj _ I _ Mf (Ja Kf fr) st stop) λr s4 c_=>?_
    let(ao,iA):=c_;subst ao;have uE:=iA.pin (p'p D ({cls:=.type "list",data:=.seq vs.toArray n})) (by simp);have Sd:I D=none:=uE.2.1;have ah5:Inv X ab σ I s4:=b1.Zn (ch:=bg) iA.os iA.base iA.bu iA.bare λb aa=>((f2 b aa).2.2.2.1,(f2 b aa).2.1,(f2 b aa).2.2.2.2.1,(f2 b aa).2.2.2.2.2)
    have uj:ji X ab I D:=b1.oz (by rw[qr];exact bQ _) Sd;have anN:Inv X ab σ (upd I D (.lst ys)) s4:=ah5.adopt uj (WC,vs,n,cI,uE.1);let(ag_,aju,_):=iA.loc;refine fin D C ys I s4 anN (ag_,aju) (b1.oz (by rw[qr];exact Ik) ?_) (J9 D Sd);rw[aP (et yk)];exact iA.free
   .refine bK (T.item (X.block scope C N ej jr bg) rfl rfl rfl aB i _ aj _ I _ Mf (Ja Kf fr) st go) λr s4 c_=>?_
    let(u,ao,bY):=c_;subst ao;refine bK bY λ_ s5 c_=>?_
    let(x,cR,u4,Af,Jo,u3,J4):=c_;have I6:=u4.pinned (Ja Kf J4) (T.obj _ _ u3);refine bK (B.WQ C ej jr bg _ s5 _ cR x u _ I6 Af (step x cR Jo)) λ_ fk c_=>?_
    let(nt,f3,Lv,p6,Kv):=c_;refine bK (B.tests C ej jr bg _ fk nt f3 _ Lv Kv) λc hc c_=>?_
    let(e7,lN,o8):=c_;have again:∀{sO:St} {iq:av} {iD:Shared},Inv (X.block scope C N ej jr bg) ([(p'p D ({cls:=.type "list",data:=.seq vs.toArray n}))]++yU bg s5.heap) sO iq iD->eU (i+1) iD.heap/\(∀b∈bg,iq b=none):=λ{sO iq iD} qT=>by
     refine(T.keep _ _ _ u3 λb aa o e=>(qT.pin (p'p b o) (mB _ (mB _ (A2 aa e)))).1,λb aa=>?_);let(o,e,d):=T.obj _ _ u3 b aa;exact(qT.pin (p'p b o) (mB _ (mB _ (A2 aa e)))).2.1
    have back:∀{iq:av} {iD:Shared} {pl:List (Addr×Obj)},Inv (X.block scope C N ej jr bg) pl nt iq iD->Inv (X.block scope C N ej jr bg) pl (nV sel σ) iq iD:=λ{iq iD pl} qT=>qT.weak p6.1.symm p6.2
    cases c with
    |false=>
     let(dU,hm,eQ):=o8;let(t1,eA):=again lN;exact(dU,hm,i+1,ys,_,n,e7,back lN.Dp,(vs,rfl,cI),WC,t1,eA,eQ)
    | true=>
     refine bK (B.elem C ej jr bg _ hc nt e7 _ lN o8) λv iD c_=>?_
     let(y,iq,qT,aal,dU,hm,eQ):=c_;let(t1,eA):=again qT;have uE:=qT.pin (p'p D ({cls:=.type "list",data:=.seq vs.toArray n})) (by simp);refine append_at (hsz:=by have:=↑cI;rw[fF];omega) uE.1 λAd OK abm=>?_
     have aiJ:Inv (X.block scope C N ej jr bg) [] (nV sel σ) iq iD:=(back qT).uk λp ar=>nomatch ar
     have uj:ji (X.block scope C N ej jr bg) [] iq D:=(uE.2.1,yk,Ic,.inr (by show ↥ej<=D;rw[qr];exact bQ _),(λx c e z=>by
      let(ap8,o,aS,hd):=qT.cell x c e;rw[z,uE.1]at aS;cases aS;cases hd),(λp ar=>nomatch ar))
     have amL:Inv (X.block scope C N ej jr bg) [] (nV sel σ) iq {iD with heap:=Ad}:=aiJ.turned (t':=iD.toks) (it:=D) (λb o aa e=>(OK.2 b aa).trans e) uj.1 uj.2.1 uj.2.2.2.1 uj.2.2.2.2.1 uj.2.2.2.2.2;refine(dU,hm,i+1,ys++[y],vs.toArray.push v,n+1,iq,amL.uk λp ar=>?_,(vs++[v],by simp,Un cI aal),by rw[cB,k6];omega,T.keep _ _ _ t1 λb aa o e=>(OK.2 b (below b (zf b aa)).2).trans e,eA,eQ);have e:p=(p'p D ({cls:=.type "list",data:=.seq (vs.toArray.push v) (n+1)})):=by simpa using ar
     subst e;exact(abm,uE.2.1,yk,Ic,λv z=>by cases z)
  .have e:p=(p'p D ({cls:=.type "list",data:=.seq ([]:List Value).toArray})):=by simpa using ar
   subst e;exact(aef,b1.bu.fresh (by rw[qr];exact bQ _),yk,Ic,λv z=>by cases z)
 exact codeAny_compStart_list (loop _ rfl) (T.self _ 0 _ _ _ Ar (loop _ rfl))
def hR(aB:X.calm=true)(ah:ot X dr iter hX)(S:rR X.env scope)(sE:zx X.N scope N sel)(B:fa X scope N dr elt ifs g c9 bW)
  (ay:autoParam (∀x,foldedSetIterable iter X.env x=pure x) A'i):bA X (.ListComp elt [(dr,iter,ifs,0)] scope pos) (It hX g c9 bW sel):=by
 intro ab s σ H Q J h;rw[eval_ListComp];refine wpAny_comprehension_free (use:=none) rfl ay (Rh (S.cells J.ok)) S.kind S.loc ?_;refine bK (ah ab s σ H _ J h) λv s1 ae=>bK ae λEo s2 ak=>?_
 let(it,bg,eU,bz,aw,e,b1,T,pU,f2,W,lX,gE):=ak;subst e;refine Oj (RR:=λacc C=>compPost (model X.prog X.w) X.A X.ek none (gN X ab σ Q) acc C) aB S sE B b1 T pU f2 lX gE λD C ys I aj j6 ⟨m,hm⟩ h9 q=>?_
 exact(m,hm,λh' vA=>(⇑D,_,j6.turned (t':=aj.toks) (it:=C) (λb o aa e=>(vA.2 b aa).trans e) h9.1 h9.2.1 h9.2.2.2.1 h9.2.2.2.2.1 h9.2.2.2.2.2,rfl,q))
def uo{i:Nat}{y:Str}{py Wd:Pos}(bl:X.N.Nodup)(ah:X.N[i]?\y)(ag:Loc X.env.scope y)(aB:X.calm=true)(hit:ot X dr iter hX)(S:rR X.env scope)(sE:zx X.N scope N sel)(B:fa X scope N dr elt ifs g c9 bW)
  (adg:swapsWith (.ListComp elt [(dr,iter,ifs,0)] scope pos) (some (.Name y py)) Wd.line X.env=pure true) (hf:X.fn y=true\/X.env.scope.names.lookup y\.local:=by first|exact .inl rfl|exact .inr rfl|assumption)
  (ay:autoParam (∀x,foldedSetIterable iter X.env x=pure x) A'i):hY X (.Assign [.Name y py] (.ListComp elt [(dr,iter,ifs,0)] scope pos) Wd) (vf (It hX g c9 bW sel) (gU i)):=by
 intro ab s σ H D J h;rw[exec_Assign_Name_used _ _ _ _ adg];refine wpAny_bind (wpAny_standAt (wpAny_bind ?_));show wpAny _ X.A (do let _ <- comprehension (.ListComp elt [(dr,iter,ifs,0)] scope pos) scope X.env _ (newList []) false (eval iter X.env) (some (assign (.Name y py) X.env))) _ _ s;refine wpAny_bind (wpAny_mono (wpAny_comprehension_free (use:=some (assign (.Name y py) X.env)) (Q:=λ_ aj=>tx X ab D .next aj) rfl ay (Rh (S.cells J.ok)) S.kind S.loc ?_) (λ_ aj aI=>wpAny_pure (wpAny_pure aI)) λ_ _ e=>e);refine bK (hit ab s σ H _ J h) λv s1 ae=>bK ae λEo s2 ak=>?_
 let(it,bg,eU,bz,aw,e,b1,T,pU,f2,W,lX,gE):=ak;subst e;refine Oj (RR:=λacc C=>compPost (model X.prog X.w) X.A X.ek (some (assign (.Name y py) X.env)) (λ_ aj=>tx X ab D .next aj) acc C) aB S sE B b1 T pU f2 lX gE λDa C ys I aj j6 ⟨m,hm⟩ h9 q=>?_
 show wpAny _ X.A (assign (.Name y py) X.env ⇑Da) _ _ _;refine wpAny_assign_Name (UX j6 bl ah ag (show be ⇑Da ⇑Da from rfl) (λs3 fu c_=>?_) hf);let(a,vA,aO):=c_;have ZX:C≠a:=by
  rcases aO with z|z
  .rw [z];exact h9.2.1
  .exact λw=>h9.2.2.2.2.1 y a z w.symm
 refine(m,hm.sameBut vA ZX,λh' adL=>(_,_,fu.turned (t':=s3.toks) (it:=C) (λb o aa e=>(adL.2 b aa).trans e) h9.1 h9.2.1 h9.2.2.2.1 h9.2.2.2.2.1 h9.2.2.2.2.2,q))
end
def qm(Pv:Nat->List V->av->Prop)(g:g5)(c9:TT)(bW:TE)(dA:St)(i:Nat)(x:V)(ys:List V)(H:av):Prop:=
 ∀N:List V->av->Prop,(∀jR I,Pv (i+1) jR I->N jR I)->g x dA H λcD aw=>Sub dA cD/\c9 cD aw λc ba=>if c=true then bW cD ba λy cn=>N (ys++[y]) cn else N ys ba
def abK{K:bk}(Pv:Nat->List V->av->Prop)(aQ:↑xs<=sizeLine)(h0:Pv 0 [] H)(aK:∀i ys H,i<=↑xs->Pv i ys H->az K H a xs/\↑ys<=i)
  (ay:∀i x ys H,xs[i]?\x->Pv i ys H->qm Pv g c9 bW dA i x ys H) (hd:∀ys H,Pv ↑xs ys H->∀p,H p=none->Q ⇑p (upd H p (.lst ys))) :
  ∃W:Nat->Nat->List V->av->Prop,(∃m,W 0 m [] H)/\uO (pC K a) g c9 bW dA Q W:=by
 refine(λi m ys H=>m=↑xs-i/\i<=↑xs/\Pv i ys H,(↑xs,by simp,eW _,h0),?_);intro i m ys H (rfl,ah,p);have q:=(aK i ys H ah p).1;have C5:=(aK i ys H ah p).2;by_cases dK:i<↑xs
 .refine .inr ((xs,xs[i],q,by simp[dK]),(),λx I y=>?_);let(e,y):=y;subst e;exact ay i x ys _ (y xs q) p (λjR I=>∃dU,dU<↑xs-i/\dU=↑xs-(i+1)/\i+1<=↑xs/\Pv (i+1) jR I) λjR I r=>(↑xs-(i+1),(),rfl,dK,r)
 .have e:i=↑xs:=()
  subst e;exact .inl ((xs,q,bQ _),hd ys H p)
def acY{K:bk}(Pv:Nat->List V->av->Prop)(aQ:↑xs<=sizeLine)(h0:Pv 0 [] H)(aK:∀i ys H,i<=↑xs->Pv i ys H->dM K H a xs/\↑ys<=i)
  (ay:∀i x ys H,xs[i]?\x->Pv i ys H->qm Pv g c9 bW dA i x ys H) (hd:∀ys H,Pv ↑xs ys H->∀p,H p=none->Q ⇑p (upd H p (.lst ys))) :
  ∃W:Nat->Nat->List V->av->Prop,(∃m,W 0 m [] H)/\uO (D1 K a) g c9 bW dA Q W:=by
 refine(λi m ys H=>m=↑xs-i/\i<=↑xs/\Pv i ys H,(↑xs,by simp,eW _,h0),?_);intro i m ys H (rfl,ah,p);have q:=(aK i ys H ah p).1;have C5:=(aK i ys H ah p).2;by_cases dK:i<↑xs
 .refine .inr ((xs,xs[i],q,by simp[dK]),(),λx I y=>?_);let(e,y):=y;subst e;exact ay i x ys _ (y xs q) p (λjR I=>∃dU,dU<↑xs-i/\dU=↑xs-(i+1)/\i+1<=↑xs/\Pv (i+1) jR I) λjR I r=>(↑xs-(i+1),(),rfl,dK,r)
 .have e:i=↑xs:=()
  subst e;exact .inl ((xs,q,bQ _),hd ys H p)
def agI{lo:Int}{n:Nat}{g:g5}{c9:TT}{bW:TE}{dA:St}{Q:cV}{H:av}(Pv:Nat->List V->av->Prop)(aQ:n<=sizeLine)(h0:Pv 0 [] H)(aK:∀i ys H,i<=n->Pv i ys H->↑ys<=i)
  (ay:∀i ys H,i<n->Pv i ys H->qm Pv g c9 bW dA i (.int (lo+i)) ys H) (hd:∀ys H,Pv n ys H->∀p,H p=none->Q ⇑p (upd H p (.lst ys))) :
  ∃W:Nat->Nat->List V->av->Prop,(∃m,W 0 m [] H)/\uO (mF lo n) g c9 bW dA Q W:=by
 refine(λi m ys H=>m=n-i/\i<=n/\Pv i ys H,(n,by simp,eW _,h0),?_);intro i m ys H (rfl,ah,p);have C5:=aK i ys H ah p;by_cases dK:i<n
 .refine .inr (dK,(),λx I y=>?_);let(e,y):=y;subst e y;exact ay i ys _ dK p (λjR I=>∃dU,dU<n-i/\dU=n-(i+1)/\i+1<=n/\Pv (i+1) jR I) λjR I r=>(n-(i+1),(),rfl,dK,r)
 .have e:i=n:=()
  subst e;exact .inl (bQ _,hd ys H p)
noncomputable def xn(xs:List V):kq:=(λi _=>i<↑xs,λi H x I=>I=H/\xs[i]?\x,λi _=>↑xs<=i)
def U6{w:World}{K:bk}{it:Addr}{St:Nat->Heap->Prop}(gE:∀A:Around,A.handled=none->Walks P w A it [it] [it] ↑xs aks St)
  (cK:∀i v,aks i v->∃x,xs[i]?\x/\be x v)
  (vX:∀i h,St i h->∃o n vs,h.get? it\o/\o.cls=.type n/\o.data=.fields vs/\["enumerate","zip","dict_itemiterator","dict_reverseitemiterator","odict_iterator","itertools.zip_longest","itertools.pairwise"].contains n=false)
  (Dk:∀i h h',St i h->(∀o,h.get? it\o->h'.get? it\o)->St i h')
  (ajH:∀(A:Around) (i:Nat) (s:Shared) (Q:Value->Shared->Prop) (E:Value->Shared->Prop),St i s.heap->Q ⇑it s->wpAny (model P w) A (pyIter ⇑it) Q E s) :
  rq P w K dr (xn xs) [it] it (λi h=>i<=↑xs/\St i h)where
 mem:=by simp
 obj:=λi h st b aa=>by
  have e:b=it:=by simpa using aa
  subst e;let(o,n,vs,e,_,d,_):=vX i h st.2;exact(o,e,λv z=>by rw[d]at z;cases z)
 keep:=λi h h' st k=>(st.1,Dk i h h' st.2 λo e=>k it (by simp) o e)
 item:=by
  intro X Kl hw fU aB i ab s σ H E J hf st a7;subst Kl hw fU;let(f0,f1,f2,eV,f4,fq):=hf it (by simp);refine(gE X.A (J.ok.hd aB)).item i s _ _ a7 st.2 λv h' tk aE mm rn=>?_
  let(x,ag,bb):=cK i v aE;have a0:Inv X ab σ H {s with heap:=h',toks:=tk}:=J.turned (λb o aa e=>rn b o (by simpa using aa) e) f0 f1 eV f4 fq;let(o,n,vs,e,c,d,nm):=vX _ _ mm;exact(v,rfl,yV (s:={s with heap:=h',toks:=tk}) e c d nm (x,H,a0,bb,(rfl,ag),(a7,mm),λb aa=>(hf b aa).1))
 done:=by
  intro X Kl hw fU aB i ab s σ H E J hf st a7;subst Kl hw fU;let(f0,f1,f2,eV,f4,fq):=hf it (by simp);have e:i=↑xs:=Nat.le_antisymm st.1 a7;subst e;exact(gE X.A (J.ok.hd aB)).done s _ _ st.2 λh' tk rn=>(rfl,J.turned (λb o aa e=>rn b o (by simpa using aa) e) f0 f1 eV f4 fq)
 self:=λA i s Q E st h=>ajH A i s Q E st.2 h
noncomputable def ka(c:Nat):Str:=⟨#[c]⟩
noncomputable def o_(x:Str):List V:=x.cps.toList.map λc=>V.str (ka c)
def Vc(x:Str):↑(o_ x)=x.cps.size:=by unfold o_;simp
def ajV{x:Str}{i c:Nat}(h:x.cps[i]?\c):(o_ x)[i]?\(.str (ka c)):=by
 unfold o_;rw[dg,aaa,h];rfl
def Qx{x:Str}{i:Nat}{v:Value}(h:SignAt x i v):∃y,(o_ x)[i]?\y/\be y v:=by
 let(c,u,aB,rfl):=h;exact(.str (ka c),ajV aB,u,rfl)
section
variable{X:bc}{dr:Expr}
noncomputable def FP(c7:TE):TI:=λσ H R=>c7 σ H λx H1=>∃z,x=.str z/\R (xn (o_ z)) H1
theorem aot(aK:bA X l c7):ot X dr l (FP c7):=by
 intro ab s σ H R J h;refine bK (aK ab s σ H _ J h) λv s1 cm=>ey cm λx H1 a0 ct bM=>?_
 let(z,e,q):=bM;subst e;let(t,rfl):=ct;have h9:∀b∈[↥s1],ji X ab H1 b:=λb aa=>by
  have e:b=↥s1:=by simpa using aa
  subst e;exact a0.oz (bQ _) (a0.bu.fresh (bQ _))
 have aQ:=Vc z;cases aO:z.cps.all (· < 128)with
 | false=>
  refine wpAny_pyIter_wide aO (↥s1,[↥s1],λi h=>i<=↑(o_ z)/\h.IsStrIter ↥s1 "str_iterator" z t i,_,H1,rfl,a0.kept (t':=s1.toks) λb o e=>e2 _ e,
   U6 (λA kJ=>by rw[aQ];exact Walks.strWide kJ _ z t) (λi v=>Qx) (λi h ⟨o,e,c,d⟩=>(o,_,_,e,c,d,∅)) (λi h h' ⟨o,e,r⟩ k=>(o,k o e,r)) (λA i s Q E st q=>wpAny_pyIter_striter_wide st q),
   (eW _,_,hq _ rfl,rfl,rfl),h9,q)
 | true=>
  refine wpAny_pyIter_ascii aO (↥s1,[↥s1],λi h=>i<=↑(o_ z)/\h.IsStrIter ↥s1 "str_ascii_iterator" z t i,_,H1,rfl,a0.kept (t':=s1.toks) λb o e=>e2 _ e,
   U6 (λA kJ=>by rw[aQ];exact Walks.strAscii kJ _ z t) (λi v=>Qx) (λi h ⟨o,e,c,d⟩=>(o,_,_,e,c,d,∅)) (λi h h' ⟨o,e,r⟩ k=>(o,k o e,r)) (λA i s Q E st q=>wpAny_pyIter_striter_ascii st q),
   (eW _,_,hq _ rfl,rfl,rfl),h9,q)
end
def amQ(Pv:Nat->List V->av->Prop)(aQ:↑xs<=sizeLine)(h0:Pv 0 [] H)(aK:∀i ys H,i<=↑xs->Pv i ys H->↑ys<=i)
  (ay:∀i x ys H,xs[i]?\x->Pv i ys H->qm Pv g c9 bW dA i x ys H) (hd:∀ys H,Pv ↑xs ys H->∀p,H p=none->Q ⇑p (upd H p (.lst ys))) :
  ∃W:Nat->Nat->List V->av->Prop,(∃m,W 0 m [] H)/\uO (xn xs) g c9 bW dA Q W:=by
 refine(λi m ys H=>m=↑xs-i/\i<=↑xs/\Pv i ys H,(↑xs,by simp,eW _,h0),?_);intro i m ys H (rfl,ah,p);have C5:=aK i ys H ah p;by_cases dK:i<↑xs
 .refine .inr (dK,(),λx I y=>?_);let(e,y):=y;subst e;exact ay i x ys _ y p (λjR I=>∃dU,dU<↑xs-i/\dU=↑xs-(i+1)/\i+1<=↑xs/\Pv (i+1) jR I) λjR I r=>(↑xs-(i+1),(),rfl,dK,r)
 .have e:i=↑xs:=()
  subst e;exact .inl (bQ _,hd ys H p)
section
variable{X:bc}
noncomputable def GT:V->Option Int->Option Int->av->cV->Prop:=λx lo ah H Q=>∃z,x=.str z/\↑z<=sizeLine/\Q (.str (mO z lo ah)) H
theorem E4:DN X GT:=by
 intro ab s σ H x v kD kO lo ah cH Q J bb ay pl pu h;let(z,rfl,aQ,q):=h;let(t,rfl):=bb;refine("str",_,F.slot_str_getitem.lookup,typeIs_str s z t,?_);have fin:∀t' k,gN X ab σ Q (.str (mO z lo ah) t') {s with toks:=k}:=λt' k=>(.str _,H,J.tok _,(_,rfl),q)
 cases pl with
 |none=>
  cases pu with
  |none=>exact wpAny_getItem_str_slice (l:=none) (u:=none) (st:=none) ay rfl (post_val_or_str (cM (vK z _ _) aQ,fin))
  |int j NL=>exact wpAny_getItem_str_slice (l:=none) (u:=some (p'p j NL)) (st:=none) ay rfl (post_val_or_str (cM (vK z _ _) aQ,fin))
 |int i RI=>
  cases pu with
  |none=>exact wpAny_getItem_str_slice (l:=some (p'p i RI)) (u:=none) (st:=none) ay rfl (post_val_or_str (cM (vK z _ _) aQ,fin))
  |int j NL=>exact wpAny_getItem_str_slice (l:=some (p'p i RI)) (u:=some (p'p j NL)) (st:=none) ay rfl (post_val_or_str (cM (vK z _ _) aQ,fin))
noncomputable def a3(ys:List Str):List V:=ys.map V.str
theorem aom:∀{ys:List Str} {us:List Value},cO (a3 ys) us->StrsAre us ys:=by
 intro ys
 induction ys with
 |nil=>intro us r;cases r;exact .nil
 | cons y ys cZ=>
  intro us r;cases r with
  |cons ct fj=>
   let(t,rfl):=ct;exact .cons y t (cZ fj)
theorem RM:∀(l:List (Str×Tok)),cO (a3 (l.map (·.1))) (strValues l)
 |[]=>.nil
 |(x,t)::r=>.cons (t,rfl) (RM r)
noncomputable def FZ(K:bk):V->List V->av->cV->Prop:=λx vs H Q=>∃sep p ys,x=.str sep/\vs=[⇑p]/\az K H p (a3 ys)/\(ys.map (·.length)).sum+↑ys*↑sep<=16777216/\Q (.str (rf sep ys)) H
def zy:y8 X "str.join" (FZ X.K):=by
 intro ab s σ H x xs v us Q J bb cI h;let(sep,p,ys,rfl,rfl,aI,aQ,q):=h;let(t,rfl):=bb;let(u,rfl,fm):=mc cI;cases fm;let(a',r,pl,_):=J.list aI;exact join_list pl.isList (by simpa using aom r) aQ λt' k=>(.str _,H,J.tok _,(_,rfl),q)
end
def ad8 {prog:Program} {w:World} {A:Around} {x y:Str} {t u:Tok} (aM:(↑y==0)=false)
  (h:∀l k,l.map (·.1)=jq x y->Q (.ref ↥s) {s with heap:=s.heap.push {cls:=.type "list",data:=.seq (strValues l).toArray},toks:=k}) (hsz:↑x+2<=sizeLine) :
  wpAny (model prog w) A (call (.builtin "str.split") [.str x t,.str y u]) Q E s:=by
 have a8:↑(adZ x (tF x y 0 ↑x (↑x+1)) ↑y)<=sizeLine:=by
  have aq:=StrLaws.occ_length_le x y 0 ↑x (↑x+1);rw[length_partsBetween];omega
 cases ae:(decide (↑x<↑y)||decide (am4 x<am4 y))
 .cases hf:(tF x y 0 ↑x (↑x+1)).isEmpty
  .refine call_meets Eb (typeIs_str _ _ _) R0 (Qe _ _) (meets_str_split_sep x y t u ae aM hf () a8) ?_;show wants Q E _ {s with toks:=_,heap:=s.heap.push {cls:=.type "list",data:=.seq (strsFrom s.toks (adZ x (tF x y 0 ↑x (↑x+1)) ↑y)).toArray} };rw[strsFrom_eq];exact h (numbered s.toks _) _ ((numbered_texts _ _).trans ((if_neg (ne_true_of_eq_false ae)).trans (if_neg (ne_true_of_eq_false hf))).symm)
  .exact call_meets Eb (typeIs_str _ _ _) R0 (Qe _ _) (meets_str_split_not_found x y t u ae aM hf)
    (h [(p'p x t)] s.toks ((if_neg (ne_true_of_eq_false ae)).trans (if_pos hf)).symm)
 .exact call_meets Eb (typeIs_str _ _ _) R0 (Qe _ _) (meets_str_split_cannot_occur x y t u ae)
   (h [(p'p x t)] s.toks (if_pos ae).symm)
section
variable{X:bc}
noncomputable def Ks:V->List V->av->cV->Prop:=λx vs H Q=>∃z y,x=.str z/\vs=[.str y]/\↑y≠0/\↑z+2<=sizeLine/\↑(jq z y)<=sizeLine/\∀p,H p=none->Q ⇑p (upd H p (.lst (a3 (jq z y))))
def UO:y8 X "str.split" Ks:=by
 intro ab s σ H x xs v us Q J bb cI h;let(z,y,rfl,rfl,aM,aQ,a8,q):=h;let(t,rfl):=bb;let(u,rfl,fm):=mc cI;let(iJ,rfl):=fm;refine ad8 (by simpa using aM) (λl k aK=>?_) aQ;refine(.ref ↥s,_,J.laid (t':=k) (o:=.lst (a3 (jq z y))) (λb o e=>e2 _ e) (bQ _) (by unfold a3;rw[aX];exact a8,strValues l,0,by rw[<- aK];exact RM l,hq _ rfl),rfl,q _ (J.bu.fresh (bQ _)))
def ajo:l9 X (.type "int") (λxs H Q=>∃z n,xs=[.str z]/\intText? z\n/\↑z<=640/\Q (.int n) H):=by
 intro ab s σ H xs us Q J r h;let(z,n,rfl,a8,aQ,q):=h;let(u,rfl,t,rfl):=mc r;exact PySem.W.KIN.call_text a8 aQ (.int n,H,J.tok _,(_,rfl),q)
theorem Og:∀{bs:List Bool} {us:List Value},cO (bs.map V.bp) us->us=bs.map k4
 |[],_,.nil=>rfl
 |b::bs,_,.cons r t=>by
  have e:_=k4 b:=r;rw[e,Og t];rfl
theorem Ww{A:Around}(bs:List Bool):TruthOf X.prog X.w A (λi v=>(bs.map k4).toArray[i]?\v) (λi=>bs.getD i true):=by
 intro i v s Q E cK aY;have e:(bs.map k4)[i]?\v:=by simpa using cK
 rw[dg]at e;cases q:bs[i]? with
 |none=>rw[q]at e;cases e
 |some b=>
  rw[q]at e;have bD:k4 b=v:=d2 e;subst bD;refine wpAny_truthy_bool ?_;have:bs.getD i true=b:=by simp[Cb,q]
  have Am:Q (bs.getD i true) s:=aY;rw[this]at Am;exact Am
def aeW(bs:List Bool):(fb ↑bs).all (λi=>bs.getD i true)=bs.all id:=by
 rw[l6];simp only[u2,pq,id];constructor
 .intro h b aa;let(i,ah,e):=Zo.mp aa;have:=h i ah;simp[Cb,ah,e]at this;exact this
 .intro h i ah;simp[Cb,ah];exact h _ (gf ah)
def amz(bs:List Bool):(fb ↑bs).any (λi=>bs.getD i true)=bs.any id:=by
 rw[l6];simp only[r1,pq,id];constructor
 .intro (i,ah,h);refine(bs[i],gf ah,?_);simp[Cb,ah]at h;exact h
 .intro (b,aa,h);let(i,ah,e):=Zo.mp aa;refine(i,ah,?_);simp[Cb,ah,e];exact h
def af0(aB:X.calm=true):l9 X (.builtin "all") (λxs H Q=>∃(p:Addr) (bs:List Bool),xs=[⇑p]/\az X.K H p (bs.map V.bp)/\Q (.bp (bs.all id)) H):=by
 intro ab s σ H xs us Q J r h;let(p,bs,rfl,aI,q):=h;let(u,rfl,fm):=mc r;cases fm;let(a',cI,pl,_):=J.list aI;have e:=Og cI;subst e;refine call_all_walk (wpAny_pyIter_list pl.isList ?_);have ck:p≠↥s:=gz (by let(o,_,aS,_):=pl;exact er aS);refine(↥s,_,_,_,_,_,λi=>bs.getD i true,rfl,uR (show X.A.in1.handled=none from J.ok.hd aB) _ p ck (bs.map k4).toArray,((_,hq _ rfl,rfl,rfl),pl.isList.at λo e=>e2 _ e),Ww bs,λh' tk rn=>?_);refine(.bp (bs.all id),H,J.kept λb o e=>rn b o (by simpa using gz (er e)) (e2 _ e),?_,q);show k4 _=k4 _;rw[show(bs.map k4).toArray.size=↑bs by simp,aeW]
def acL(aB:X.calm=true):l9 X (.builtin "any") (λxs H Q=>∃(p:Addr) (bs:List Bool),xs=[⇑p]/\az X.K H p (bs.map V.bp)/\Q (.bp (bs.any id)) H):=by
 intro ab s σ H xs us Q J r h;let(p,bs,rfl,aI,q):=h;let(u,rfl,fm):=mc r;cases fm;let(a',cI,pl,_):=J.list aI;have e:=Og cI;subst e;refine call_any_walk (wpAny_pyIter_list pl.isList ?_);have ck:p≠↥s:=gz (by let(o,_,aS,_):=pl;exact er aS);refine(↥s,_,_,_,_,_,λi=>bs.getD i true,rfl,uR (show X.A.in1.handled=none from J.ok.hd aB) _ p ck (bs.map k4).toArray,((_,hq _ rfl,rfl,rfl),pl.isList.at λo e=>e2 _ e),Ww bs,λh' tk rn=>?_);refine(.bp (bs.any id),H,J.kept λb o e=>rn b o (by simpa using gz (er e)) (e2 _ e),?_,q);show k4 _=k4 _;rw[show(bs.map k4).toArray.size=↑bs by simp,amz]
def zc:l9 X (.builtin "isinstance") (λxs H Q=>∃x T t b,xs=[x,.ty T]/\nf X.K H x t/\t7 X.K t (.type T)\b/\Q (.bp b) H):=by
 intro ab s σ H xs us Q J r h;let(x,T,t,b,rfl,ty,e,q):=h;let(u,Jp,rfl,bb,fj):=V0 r;cases fj;exact amv J bb ty e λtk=>(.bp b,H,J.tok _,rfl,q)
end
def ec{X:bc}{N:List Str}(h:N.Nodup)(e:X.N=N):X.N.Nodup:=e ▸ h
noncomputable def RH(sc scope:Scope):Bool:=
 (scope.kind == .function)&&scope.names.all (λy=>y.2 != .cell)&&scope.names.all (λy=>y.2 != .free||sc.names.lookup y.1==some .cell||sc.names.lookup y.1==some .free) &&
  scope.names.all (λy=>y.2 != .local||scope.names.lookup y.1==some .local)
def f_{env:Env}(he:env.scope=sc)(h:RH sc scope=true):rR env scope:=by
 subst he;unfold RH at h;simp only[kX,u2]at h;let(((ae,ak),aZ),bY):=h;refine(by simpa using ae,λy aM e=>?_,λy aM e=>?_,λy aM e=>?_)
 .have:=ak y aM;rw[e]at this;exact absurd this ∅
 .have:=aZ y aM;rw[e]at this;simp only[zp]at this;rcases this with(z|z)|z
  .exact absurd z ∅
  .exact .inl (show env.scope.names.lookup y.1\.cell by simpa using z)
  .exact .inr (show env.scope.names.lookup y.1\.free by simpa using z)
 .have:=bY y aM;rw[e]at this;simp only[zp]at this;rcases this with z|z
  .exact absurd z ∅
  .simpa using z
noncomputable def SP(M:List Str)(scope:Scope)(N:List Str)(sel:List (Option Nat)):Bool:=
 ↑sel==↑N&&(sel.zip N).all λp=>match p.1 with|none=>true|some j=>M[j]? == some p.2&&scope.names.lookup p.2==some .free
def f7{N:List Str}(h:SP M scope N sel=true):zx M scope N sel:=by
 unfold SP at h;simp only[kX,u2]at h;refine(by simpa using h.1,λi j x aq aD=>?_);have hm:(p'p (some j) x)∈sel.zip N:=by
  rw[List.mem_iff_getElem?];exact(i,by rw[List.getElem?_zip_eq_some];exact(aq,aD))
 have:=h.2 _ hm;simp only[kX]at this;exact(by simpa using this.1,by simpa using this.2)
noncomputable def q9:gb->Bool
 | .gs _=>false
 | .eX _ u=>q9 u
 |_=>true
def aL(H:av):Prop:=∀b o,H b\o->q9 o=true
theorem e8.back{w:World}{h h':Heap}:∀(o:gb),q9 o=true->e8 P w I h' a o->e8 P w H h a o->e8 P w H h' a o
 | .lst _,_,x,_=>x
 | .tup _,_,x,_=>x
 | .b2 _,_,x,_=>x
 | .gs _,e,_,_=>absurd e (by unfold q9;decide)
 | .set _ _,_,x,_=>x
 | .ins _ _ _,_,x,y=>(y.1,x.2)
 | .own _,_,x,_=>x
 | .Cq _,_,x,_=>x
 | .met _ _,_,x,_=>x
 | .B9 _ _,_,x,_=>x
 | .eX cT u,e,x,y=>(x.1,e8.back u (by unfold q9 at e;exact e) x.2 y.2)
 | .hF _,_,x,_=>x
 | .ext _,_,x,_=>x
section
variable{P:Program}{w:World}{K:bk}{mg:Str->Option Value}{base:Heap}
theorem cE.forget{k:Nat}{fd:FuncData}(F:cE P w K mg base dq k f fd ps sp)
  (h:∀vs H Q E,qO vs H Q E->aL H/\sp vs H (λv I=>aN H I/\Q v H) E):cE P w K mg base dq k f fd ps qO:=by
 refine(λvs H Q E q=>F.len vs H _ E (h vs H Q E q).2,λA outer s H args us vs Q E ao he aa aE ay=>?_);let(bC,q):=h vs H Q E ay;refine codeAny_mono (F.run A outer s H args us vs _ E ao he aa aE q) λr aj aI=>?_
 cases r with
 |error e=>exact aI
 | ok fc=>
  cases fc with
  |next=>exact aI
  |brk=>exact aI
  |cont=>exact aI
  |ret u=>
   let(v,I,os,bare,un,bu,cI,bw,dY):=aI;exact(v,H,os,bare,(un.keep,un.slot,λ_ _ _ n _=>n,un.there,λ_ _ z=>z,λ_ _ _ z=>z,λ_ ps z=>(#[],by rw[z];simp)),λa o e=>(bu a o (bw a o e)).back o (bC a o e) (he.bu a o e),cI,dY)
end
def bh{p:Addr}(h:H p=none):aN H (upd H p o):=λb u q=>by rw[aP (dm q h)];exact q
def aN.hS{p:Addr}(s:aN H H1)(h:H p=none):aN H (upd H1 p o):=λb u q=>by rw[aP (dm q h)];exact s b u q
structure Sc(K:bk)(a:Addr)(ns:List Int)(H:av):Prop where
 D8:(∃o,H a\(.eX o (.lst (ns.map V.int))))\/∃(o:Obj) (a':Array Value) (n:Nat),K.lookup a\o/\o.cls=.type "list"/\o.dict=none/\o.data=.seq a' n/\a'.size<=sizeLine/\cO (ns.map V.int) a'.toList
 bC:aL H
section
variable{K:bk}{a p:Addr}{ns:List Int}{H I:av}{o:gb}
def Sc.seq(s:Sc K a ns H):az K H a (ns.map V.int):=by
 rcases s.D8 with⟨o,h⟩|h
 .exact .inl (.inr (o,h))
 .exact .inr h
def Sc.new(s:Sc K a ns H)(ar:H p=none)(aS:autoParam (q9 o=true) A'r):Sc K a ns (upd H p o):=by
 refine(?_,λb u e=>?_)
 .rcases s.D8 with⟨cT,h⟩|h
  .exact .inl (cT,by rw[aP (dm h ar)];exact h)
  .exact .inr h
 .by_cases aa:b=p
  .subst aa;rw[aR]at e;cases e;exact aS
  .rw [aP aa]at e;exact s.bC b u e
def Sc.set(s:Sc K a ns H)(ar:H p\u)(bR:∀cT z,u≠.eX cT z)(aS:autoParam (q9 o=true) A'r):Sc K a ns (upd H p o):=by
 refine(?_,λb x e=>?_)
 .rcases s.D8 with⟨cT,h⟩|h
  .refine .inl (cT,?_);have ck:a≠p:=λz=>by subst z;rw[ar]at h;exact bR _ _ (d2 h)
   rw[aP ck];exact h
  .exact .inr h
 .by_cases aa:b=p
  .subst aa;rw[aR]at e;cases e;exact aS
  .rw [aP aa]at e;exact s.bC b x e
end
def iw:bootBuiltins "len"\(.builtin "len"):=PySem.boot_len
def adB:bootBuiltins "all"\(.builtin "all"):=∅
def aoF:bootBuiltins "any"\(.builtin "any"):=∅
def Ii:bootBuiltins "max"\(.builtin "max"):=∅
def VI:bootBuiltins "sum"\(.builtin "sum"):=∅
def xG:bootBuiltins "isinstance"\(.builtin "isinstance"):=∅
def AF:bootBuiltins "int"\(.type "int"):=∅
def Tl:bootBuiltins "str"\(.type "str"):=∅
def Z1:bootBuiltins "bool"\(.type "bool"):=∅
def HG:bootBuiltins "list"\(.type "list"):=∅
def afT:bootBuiltins "tuple"\(.type "tuple"):=∅
def RN{K:bk}:t7 K (.type "int") (.type "bool")\false:=by
 unfold t7;rw[if_neg ∅]
 with_unfolding_all rfl
def mq.same(h:mq H a o)(s:aN H I):mq I a o:=by
 rcases h with h|⟨cT,h⟩
 .exact .inl (s _ _ h)
 .exact .inr (cT,s _ _ h)
theorem az.same{K:bk}(h:az K H a xs)(s:aN H I):az K I a xs:=by
 rcases h with h|h
 .exact .inl (h.same s)
 .exact .inr h
theorem aL.upd{p:Addr}(h:aL H)(aS:autoParam (q9 o=true) A'r):aL (upd H p o):=λb u e=>by
 by_cases aa:b=p
 .subst aa;rw[aR]at e;cases e;exact aS
 .rw [aP aa]at e;exact h b u e
def Sc.same{K:bk}{ns:List Int}(s:Sc K a ns H)(bw:aN H I)(bC:aL I):Sc K a ns I:=by
 refine(?_,bC);rcases s.D8 with⟨o,h⟩|h
 .exact .inl (o,bw _ _ h)
 .exact .inr h
structure OL(K:bk)(C:Addr)(m:Str)(f:Addr):Prop where
 n6:ag6 K C (.type "type")=true
 fd:aoy K ⇑C (.type "type") m\(.val ⇑f)
 ga:xf K ⇑C "__getattribute__"\(some (.builtin "type.__getattribute__"))
 bo:tH K ⇑f=true
structure ra(P:Program)(w:World)(K:bk)(mg:Str->Option Value)(base:Heap)(CX:jX)(k:Nat)(pY:Addr->Prop)(m:Str)(ps:List Str)(qh:Addr->bO):Prop where
 ok:∀C,pY C->∃f fd,ia K C/\gw K C m f/\cE P w K mg base CX k f fd ps (qh C)/\b5 K fd ps []
noncomputable def Yl(pY:Addr->Prop)(m:Str)(qh:Addr->bO)(E:fT)(a_:TE)(t:fH):TE:=λσ H Q=>a_ σ H λx H1=>∃a C aA a5,x=⇑a/\H1 a\(.ins C aA a5)/\pY C/\a5.lookup m=none /\
 t σ H1 λvs aw=>qh C (x::vs) aw Q E
section
variable{X:bc}{CX:jX}{k:Nat}{f C:Addr}{fd:FuncData}{ps:List Str}{sp:bO}{dvs:List V}{ds:List Value}{E:fT}{x m:Str}{p pos gh:Pos}{e o:Expr}{aU:List Expr}{a_:TE}{t:fH}
def Jz(a7:k1 X x)(hm:X.mg x\⇑C)(c:OL X.K C m f)(F:cE X.prog X.w X.K X.mg X.base CX k f fd ps sp)(ao:eY k X.A)(aa:b5 X.K fd ps ds)(hd:cO dvs ds)(ag:qy CX X E)(aO:h8 X (e::aU) t)
  (pw:autoParam ((x==("__debug__":Str))=false) A'd) (e9:autoParam (starEach (e::aU) X.env=(p'p false (eval e X.env))::starEach aU X.env) A'r) (c2:autoParam ((backTo pos (starEach aU X.env)).any (·.1)=false) A'r)
  (c6:eval (.Call (.Attribute (.Name x p) m gh) (e::aU) [] pos) X.env=(do
   let iG <- eval (.Name x p) X.env
   standAt gh.atName
   let (f,first) <- holding [iG] (getMethod iG m pl)
   callWith pos f first (backTo pos (starEach (e::aU) X.env)) (backToKw pos (keywordEach [] X.env))):=by rfl) :
  bA X (.Call (.Attribute (.Name x p) m gh) (e::aU) [] pos) (xO sp dvs E t):=by
 intro ab s σ H Q J h;refine JF (pl:=pl) (E_ J a7 hm ?_ pw) c6;refine PySem.W.method_cls J.gC c.ga (PySem.W.cls_value J.gC c.n6 c.fd rfl ?_);have a0:=J.tok (s.toks+1);refine K8 (first:=[]) (h₀:=X.base) J.ok.mod.vz c.bo (bK (aO pos ab _ σ H _ a0 h) λus s2 ⟨vs,aw,b1,r,d7⟩=>(b1.gC,?_)) e9 c2;exact zL F ao aa hd ag b1 r d7
variable{pY:Addr->Prop}{qh:Addr->bO}
def Cd(he:bA X o a_)(V:ra X.prog X.w X.K X.mg X.base CX k pY m ps qh)(ao:eY k X.A)(ag:qy CX X E)
  (c6:eval (.Call (.Attribute o m gh) [] [] pos) X.env=(do
   let iG <- eval o X.env
   standAt gh.atName
   let (f,first) <- holding [iG] (getMethod iG m pl)
   callWith pos f first (backTo pos (starEach [] X.env)) (backToKw pos (keywordEach [] X.env))):=by rfl) :
  bA X (.Call (.Attribute o m gh) [] [] pos) (Yl pY m qh E a_ yB):=by
 intro ab s σ H Q J h;refine JF (pl:=pl) (bK (he ab s σ H _ J h) λu s1 c_=>?_) c6;let(x,H1,a0,bb,a,C,aA,a5,ex,eg,ok,l,q):=c_;subst ex;obtain rfl:u=ff a:=bb;let(f,fd,c,hm,F,aa):=V.ok C ok;refine F9 a0 eg c hm l ?_;exact aiS (first:=[⇑a]) a0.gC hm.bo (zL (us:=[⇑a]) (vs:=[⇑a]) (dvs:=[]) F ao aa .nil ag a0 (.cons rfl .nil) q)
end
theorem gZ:∀{a5:List (Str×V)} (bG:List Str),a5.map (·.1)=bG->bG.contains f=false->dn f v a5=a5++[(p'p f v)]
 |[],_,_,_=>rfl
 | (g,y)::r,bG,e,h=>by
  cases e;rw[fz,am5]at h;have ae:=(yz.mp h);have ck:¬g=f:=λz=>by
   have:=ae.1;rw[z]at this;simp at this
  show(if g=f then _ else _)=_;rw[if_neg ck,gZ _ rfl ae.2];rfl
def hI{a5:List (Str×V)}(h:↑a5<n):↑(dn f v a5)<n+1:=hO (Ki f v a5) ()
theorem g4:∀{a5:List (Str×V)} (bG:List Str) (i:Nat),a5.map (·.1)=bG->bG.findIdx? (· == f)\i->a5[i]?\(p'p f v)->a5.lookup f\v
 |[],_,_,_,_,h=>by simp at h
 | (g,y)::r,bG,i,e,h,aE=>by
  cases e;rw[fz,List.findIdx?_cons]at h;rw[rd];by_cases e:g=f
  .subst e;rw[beq_self_eq_true,if_pos rfl]at h;cases h;have:(p'p g y)=(p'p g v):=by simpa using aE
   cases this;rw[beq_self_eq_true]
  .rw [beq_eq_false_iff_ne.mpr e,if_neg ∅]at h;let(j,aJ,rfl):=yc.mp h;rw[beq_eq_false_iff_ne.mpr (λz=>e z.symm)];exact g4 _ j rfl aJ (by simpa using aE)
theorem yX:∀{a5:List (Str×V)} (bG:List Str),a5.map (·.1)=bG->bG.contains f=false->a5.lookup f=none
 |[],_,_,_=>rfl
 |(g,y)::r,bG,e,h=>by
  cases e;rw[fz,am5]at h;have ae:=(yz.mp h);rw[rd,ae.1];exact yX _ rfl ae.2
def Inv.DK{X:bc}{ab:List (Addr×Obj)}{σ:St}{H:av}{s:Shared}{h':Heap}{t':Nat}{bg:List Addr}(J:Inv X ab σ H s)(k:∀b o,b∉bg->s.heap.get? b\o->h'.get? b\o)
  (hf:∀b∈bg,ji X ab H b):Inv X ab σ H {s with heap:=h',toks:=t' }:=by
 have yy:∀b u,H b\u->b∉bg:=λb u e z=>by rw[(hf b z).1]at e;cases e
 refine J.step (g':=s.gens) (d':=s.drawn) (ch:=bg) (λb aa=>?_) (λb o _ _ aB e _=>k b o aB e) (λb o _ _ aB e _=>(o.slots,k b o aB e)) (λ_ _ _ _ n=>n)
  (λb o aB e=>(o,k b o aB e)) (λ_ _ e=>e) (λ_ _ _ e=>e) (λb ps e=>(#[],by rw[e];simp)) (λm hm=>?_) (λb u e=>?_) J.bare
 .let(f0,f1,f2,eV,f4,fq):=hf b aa;exact(eV,f1,f4,fq)
 .let(o,aU,cu,aS,r):=hm;exact(o,aU,cu,k _ o (λz=>(hf _ z).2.1 rfl) aS,r)
 .refine(J.bu b u e).oB (λc v aB q=>k c v ?_ q) (λ_ q=>q) λ_ _ q=>q
  rcases aB with z|z
  .rw [z];exact yy b u e
  .exact yy c _ z
noncomputable def BZ(K:bk)(a:Addr):kq:=
 (λi H=>∃xs x,az K H a xs/\xs[i]?\x,λi H v I=>∃p y,H p=none/\v=⇑p/\(∀xs,az K H a xs->xs[i]?\y)/\I=upd H p (.tup [.int i,y]),λi H=>∃xs,az K H a xs/\↑xs<=i)
def ahz {P:Program} {w:World} {K:bk} {aU:List Expr} {k} {pos:Pos} (a e it:Addr) (ck:e≠it) :
  rq P w K (.Tuple aU k pos) (BZ K a) [e,it] e (λi h=>∃old,IsEnum h e it ((i:Nat):Int) old/\h.IsListIter it a i)where
 mem:=by simp
 obj:=λi h ⟨old,he,ah⟩ b aa=>by
  simp only[ei,k2,or_false]at aa;rcases aa with rfl|rfl
  .exact (_,he,λv z=>by
    have gB:Vq _=Cy v:=z;cases gB)
  .let(o,q,c,d):=ah;exact(o,q,λv z=>by rw[d]at z;cases z)
 keep:=λi h h' ⟨old,he,ah⟩ k=>(old,k e (by simp) _ he,ah.at λo q=>k it (by simp) o q)
 item:=by
  intro X cK hw fU aB i ab s σ H E J hf ⟨old,he,ah⟩ a7;subst cK hw fU;let(xs,x,aI,ag):=a7;let(a',cI,p,aQ):=J.list aI;let(u,bR,fm):=cI.get ag;refine wpAny_pyNext_enum_item he ah p.isList (x:=u) (by simpa using bR) ck λae aeR abc aci xD F6=>(_,rfl,?_)
  refine wpAny_letOwnedTupleGo_enum aeR λak ajJ jW=>?_
  replace jW:wI e ae ak:=jW;have MU:e<↥s:=er he;have ax:∀b o,b∉[e,it]->s.heap.get? b\o->ak.get? b\o:=λb o aa q=>by
   simp only[ei,k2,or_false,not_or]at aa;exact jW.extBut _ _ aa.1 (F6 b o aa.1 aa.2 q)
  have a0:Inv X ab σ H {s with heap:=ak,toks:=s.toks+1}:=J.DK ax hf;have h9:ji X ab H ↥s:=J.oz (bQ _) (J.bu.fresh (bQ _));have zW:ak.get? ↥s=some {cls:=.type "tuple",data:=.seq #[.int i s.toks,u]}:=(jW.2 _ (Eh MU)).trans aci;have b1:=a0.adopt (o:=.tup [.int i,x]) h9 ((by show 2<=sizeLine;decide,_,zW,rfl),[.int i s.toks,u],.cons (_,rfl) (.cons fm .nil),(_,zW,rfl,_,rfl));refine(.ref ↥s,_,b1,rfl,(_,x,h9.1,rfl,λys aM=>by rw[J.Bw aM aI];exact ag,rfl),(u,?_,?_),λb aa=>?_)
  .have aq:((i+1:Nat):Int)=(i:Int)+1:=()
   rw[aq];exact ajJ
  .exact abc.extBut jW.extBut (et ck)
  .have dK:b<↥s:=by
    simp only[ei,k2,or_false]at aa;rcases aa with rfl|rfl
    .exact MU
    .let(o,q,_):=ah;exact er q
   rw[aP (gz dK)];exact(hf b aa).1
 done:=by
  intro X cK hw fU aB i ab s σ H E J hf ⟨old,he,ah⟩ a7;subst cK hw fU;let(xs,aI,ag):=a7;let(a',cI,p,aQ):=J.list aI;have aK:=↑cI;exact wpAny_pyNext_enum_end (J.ok.hd aB) he ah p.isList (by simp;omega) λh' fe=>(rfl,J.DK (t':=s.toks) (λb o aa q=>fe b o (λz=>aa (by simp[z])) q) hf)
 self:=λ_ _ _ _ _ ⟨_,he,_⟩ h=>wpAny_pyIter_enum he h
def aak:bootBuiltins "enumerate"\(.type "enumerate"):=∅
def aiC:bootBuiltins "zip"\(.type "zip"):=∅
noncomputable def Dq(K:bk)(a b:Addr):kq:=
  ⟨fun i H=>∃xs ys x y,az K H a xs/\az K H b ys/\xs[i]?\x/\ys[i]?\y,
   fun i H v I=>∃p x y,H p=none/\v=⇑p/\(∀xs,az K H a xs->xs[i]?\x)/\(∀ys,az K H b ys->ys[i]?\y)/\I=upd H p (.tup [x,y]),
   fun i H=>∃xs ys,az K H a xs/\az K H b ys/\(↑xs<=i\/↑ys<=i)⟩
def lr{h:Heap}(aO:h.get? a\o)(aa:h.get? b\es)(aB:o.cls=.type c)(hd:es.cls=.type d)(n:c≠d):a≠b:=λz=>by
 subst z;rw[aO]at aa;cases aa;rw[aB]at hd;cases hd;exact n rfl
def U3{h:Heap}{z TI kF i1 i2 cy de:Addr}(aQ:IsZip h z TI kF f0)(kK:IsPair h TI Qq Jp)(ko:IsPair h kF v1 v2)(ae:h.IsListIter i1 cy cc)(ak:h.IsListIter i2 de dX)
  (g1:h.IsList cy xs) (g2:h.IsList de ys) (Bb:TI≠kF) (BK:i1≠i2):ZipApart z TI kF i1 i2 cy de:=by
 let(mi,aq,aW,_):=ae;let(tZ,aD,bJ,_):=ak;let(da,f1,ez,_):=g1;let(cX,f2,eS,_):=g2;exact(lr kK aQ rfl rfl ∅,lr ko aQ rfl rfl ∅,lr aq aQ aW rfl ∅,lr aD aQ bJ rfl ∅,Bb,lr kK aq rfl aW ∅,lr kK aD rfl bJ ∅,
  lr ko aq rfl aW ∅,lr ko aD rfl bJ ∅,BK,lr f1 aQ ez rfl ∅,lr f1 ko ez rfl ∅,lr f1 aq ez aW ∅,lr f1 aD ez bJ ∅,
  lr f2 aQ eS rfl ∅,lr f2 ko eS rfl ∅,lr f2 aq eS aW ∅,lr f2 aD eS bJ ∅)
def Y2 {P:Program} {w:World} {K:bk} {aU:List Expr} {k} {pos:Pos} (a b z TI kF i1 i2:Addr) (Bb:TI≠kF) (BK:i1≠i2) :
  rq P w K (.Tuple aU k pos) (Dq K a b) [z,TI,kF,i1,i2] z (λi h=>IsZip h z TI kF .none/\IsPair h TI ⇑i1 ⇑i2/\(∃u v,IsPair h kF u v)/\h.IsListIter i1 a i/\h.IsListIter i2 b i)where
 mem:=by simp
 obj:=λi h ⟨aQ,kK,⟨u,v,ko⟩,⟨mi,aq,_,ez⟩,tZ,aD,_,eS⟩ c aB=>by
  simp only[ei,k2,or_false]at aB;rcases aB with rfl|rfl|rfl|rfl|rfl
  .exact (_,aQ,λv z=>by
    have gB:Vq _=Cy v:=z;cases gB)
  .exact (_,kK,λv z=>by
    have gB:Data.seq _ _=Cy v:=z;cases gB)
  .exact (_,ko,λv z=>by
    have gB:Data.seq _ _=Cy v:=z;cases gB)
  .exact (mi,aq,λv z=>by rw[ez]at z;cases z)
  .exact (tZ,aD,λv z=>by rw[eS]at z;cases z)
 keep:=λi h h' ⟨aQ,kK,⟨u,v,ko⟩,ae,ak⟩ k=>(k z (by simp) _ aQ,k TI (by simp) _ kK,(u,v,k kF (by simp) _ ko),ae.at λo q=>k i1 (by simp) o q,ak.at λo q=>k i2 (by simp) o q)
 item:=by
  intro X cK hw fU aB i ab s σ H E J hf ⟨aQ,kK,⟨u,v,ko⟩,ae,ak⟩ a7;subst cK hw fU;let(xs,ys,x,y,aI,ao,ag,aM):=a7;let(a',cI,p,xD):=J.list aI;let(WV,hl,m8,vd):=J.list ao;let(CW,bR,fm):=cI.get ag;let(LD,aE,Sv):=hl.get aM;have D:=U3 aQ kK ko ae ak p.isList m8.isList Bb BK;refine wpAny_pyNext_zip_item D aQ kK ko ae ak p.isList m8.isList (x:=CW) (y:=LD) (by simpa using bR) (by simpa using aE) λg aps ae1 g1 g2 abi cw Wf=>(_,rfl,?_)
  refine wpAny_letOwnedTupleGo_zip aps λg' aba g6=>?_
  replace g6:wI z g g':=g6;have Vz:z<↥s:=er aQ;have ax:∀c o,c∉[z,TI,kF,i1,i2]->s.heap.get? c\o->g'.get? c\o:=λc o aB q=>by
   simp only[ei,k2,or_false,not_or]at aB;exact g6.extBut _ _ aB.1 (Wf c o aB.1 aB.2.2.1 aB.2.2.2.1 aB.2.2.2.2 q)
  have a0:Inv X ab σ H {s with heap:=g',toks:=s.toks}:=J.DK ax hf;have h9:ji X ab H ↥s:=J.oz (bQ _) (J.bu.fresh (bQ _));have zW:IsPair g' ↥s CW LD:=(g6.2 _ (Eh Vz)).trans abi;have b1:=a0.adopt (o:=.tup [x,y]) h9 ((by show 2<=sizeLine;decide,_,zW,rfl),[CW,LD],.cons fm (.cons Sv .nil),(_,zW,rfl,_,rfl));refine(.ref ↥s,_,b1,rfl,(_,x,y,h9.1,rfl,λys aM=>by rw[J.Bw aM aI];exact ag,λzs aoo=>by rw[J.Bw aoo ao];exact aM,rfl),(aba,?_,(_,_,g6.extBut _ _ D.TOz ae1),g1.extBut g6.extBut D.i1z,g2.extBut g6.extBut D.i2z),λb aa=>?_)
  .exact g6.extBut _ _ D.TIz (Wf _ _ D.TIz D.TITO D.TIi1 D.TIi2 kK)
  .have dK:b<↥s:=by
    let(mi,aq,_):=ae;let(tZ,aD,_):=ak;simp only[ei,k2,or_false]at aa;rcases aa with rfl|rfl|rfl|rfl|rfl
    .exact Vz
    .exact er kK
    .exact er ko
    .exact er aq
    .exact er aD
   rw[aP (gz dK)];exact(hf b aa).1
 done:=by
  intro X cK hw fU aB i ab s σ H E J hf ⟨aQ,kK,⟨u,v,ko⟩,ae,ak⟩ a7;subst cK hw fU;let(xs,ys,aI,ao,ag):=a7;let(a',cI,p,xD):=J.list aI;let(WV,hl,m8,vd):=J.list ao;have aK:=↑cI;have zD:=↑hl;have D:=U3 aQ kK ko ae ak p.isList m8.isList Bb BK;exact wpAny_pyNext_zip_end (J.ok.hd aB) D aQ kK ko ae ak p.isList m8.isList (by simp;omega) λh' fe=>(rfl,J.DK (t':=s.toks) (λb o aa q=>fe b o (λz=>aa (by simp[z])) (λz=>aa (by simp[z])) (λz=>aa (by simp[z])) (λz=>aa (by simp[z])) q) hf)
 self:=λ_ _ _ _ _ ⟨aQ,_⟩ h=>wpAny_pyIter_zip aQ h
section
variable{X:bc}
noncomputable def HZ(K:bk)(a_:fH):TI:=λσ H R=>a_ σ H λvs H1=>∃a,vs=[⇑a]/\(∃xs,az K H1 a xs)/\R (BZ K a) H1
theorem A5{k}{p pos:Pos}(a7:k1 X "enumerate")(hm:X.mg "enumerate"=none)(aO:h8 X [a] a_)(ay:autoParam (starEach [a] X.env=[(p'p false (eval a X.env))]) A'r) :
  ot X (.Tuple aU k x') (.Call (.Name "enumerate" p) [a] [] pos) (HZ X.K a_):=by
 intro ab s σ H R J h;refine Call_ (q1 J a7 hm aak (BA (bK (aO pos ab s σ H _ J h) λus s1 c_=>?_) ay rfl));let(vs,H1,a0,ct,bM):=c_;let(a,e,(xs,aI),q):=bM;subst e;cases ct with
 | cons r kT=>
  cases kT;cases r;let(a',cI,pl,aQ):=a0.list aI;refine call_enumerate_list pl.isList λh' T3 LQ hsz ax=>wpAny_pyIter_enum T3 ?_
  refine(↥s1+1,[↥s1+1,↥s1],_,_,H1,rfl,a0.kept (t':=s1.toks) ax,ahz a _ _ (Nat.succ_ne_self _),(_,T3,LQ),λb aa=>?_,q);have d_:↥s1<=b:=by
   simp only[ei,k2,or_false]at aa;rcases aa with rfl|rfl
   .exact Bx _
   .exact bQ _
  exact a0.oz d_ (a0.bu.fresh d_)
noncomputable def J'(K:bk)(a_:fH):TI:=λσ H R=>a_ σ H λvs H1=>∃a b,vs=[⇑a,⇑b]/\(∃xs,az K H1 a xs)/\(∃ys,az K H1 b ys)/\R (Dq K a b) H1
theorem IZ{k}{p pos:Pos}(a7:k1 X "zip")(hm:X.mg "zip"=none)(aO:h8 X [a,b] a_)(ay:autoParam (starEach [a,b] X.env=[(p'p false (eval a X.env)),(p'p false (eval b X.env))]) A'r)
  (jW:autoParam (starEach [b] X.env=[(p'p false (eval b X.env))]) A'r):ot X (.Tuple aU k x') (.Call (.Name "zip" p) [a,b] [] pos) (J' X.K a_):=by
 intro ab s σ H R J h;refine Call_ (q1 J a7 hm aiC (BA (bK (aO pos ab s σ H _ J h) λus s1 c_=>?_) (by rw[ay,jW]) (by rw[jW];rfl)));let(vs,H1,a0,ct,bM):=c_;let(a,b,e,(xs,aI),(ys,ao),q):=bM;subst e;cases ct with
 | cons r kT=>
  cases kT with
  | cons d5 kT=>
   cases kT;cases r;cases d5;let(a',cI,pl,aQ):=a0.list aI;let(WV,Sv,abH,h3):=a0.list ao;refine call_zip_2 pl.isList abH.isList λh' aQ kK ko ae ak hsz ax=>wpAny_pyIter_zip aQ ?_
   refine(↥s1+4,[↥s1+4,↥s1+2,↥s1+3,↥s1,↥s1+1],_,_,H1,rfl,a0.kept (t':=s1.toks) ax,
    Y2 a b _ _ _ _ _ (gz (wK _)) (gz (wK _)),(aQ,kK,(_,_,ko),ae,ak),λc aB=>?_,q)
   have d_:↥s1<=c:=by
    simp only[ei,k2,or_false]at aB;rcases aB with rfl|rfl|rfl|rfl|rfl
    .exact Dn _ _
    .exact Dn _ _
    .exact Dn _ _
    .exact bQ _
    .exact Dn _ _
   exact a0.oz d_ (a0.bu.fresh d_)
end
def kC{k:Nat}{t:ux}{K:bk}(fU:X.K=K)(aB:X.calm=true)(h:yH X aU t)
  (a8:autoParam (↑(assignEach aU X.env)=n) A'r) (e9:autoParam ((assignEach aU X.env).findIdx? (·.1)=none) A'r):p4 X (.Tuple aU k pos) (wO K n t):=by
 subst fU;exact aa1 aB h a8 e9
section
variable{X:bc}
noncomputable def Lb:V->List V->av->cV->Prop:=λx vs H Q=>∃l xs i y,x=⇑l/\vs=[.int i,y]/\H l\(.lst xs)/\0<=i/\i<2 ^ 62/\i<=(↑xs:Int)/\↑xs<sizeLine/\Q .cf (upd H l (.lst (xs.take i.toNat++y::xs.drop i.toNat)))
theorem Ux:B1 X "list.insert" Lb:=by
 intro ab s σ H x vs v us Q J bb cI h;let(l,xs,i,y,rfl,rfl,jK,h0,ae,ak,aQ,q):=h;cases bb;cases cI with
 | cons ip FQ=>
  cases FQ with
  | @cons _ w _ _ hl rc=>
   cases rc;let(t,rfl):=ip;let(z,a',n,r,aK,e):=J.ug jK;refine call_meets PK (_,e,rfl) F.entry_list_insert (F.args_list_insert_3 _ _ _) (AutoListH.list_insert_list_int_val_1 l a'.toArray n i t w (by rw[fitsIndex_both (k:=i) () ()];decide) (by rw[fF];omega)) (e,?_);refine(.cf,_,J.ER (its':=a'.take i.toNat++w::a'.drop i.toNat) jK e ?_ ((r.take i.toNat).append (.cons hl (r.drop i.toNat))) ?_,rfl,q)
   .have ax:(if i<0 then(i+((a'.toArray.size:Nat):Int)).toNat else min i.toNat a'.toArray.size)=i.toNat:=by
     rw[if_neg (),fF];omega
    show(a'.toArray.extract 0 (if i<0 then(i+((a'.toArray.size:Nat):Int)).toNat else min i.toNat a'.toArray.size)).push w++a'.toArray.extract (if i<0 then(i+((a'.toArray.size:Nat):Int)).toNat else min i.toNat a'.toArray.size)=_;rw[ax];apply W4.mp;simp;exact y0 (by rw[lZ];exact bQ _)
   .rw [cB,gW,hC,lZ];omega
end
inductive wj(K:bk)(H:av):Nat->V->V->Bool->Prop
 |flat {k:Nat} {x y:V} (ag:my x=true) (aM:my y=true):wj K H k x y (m' x y)
 |lst {k:Nat} {p q:Addr} {xs ys:List V} {e:Nat->Bool} (ar:az K H p xs) (aI:az K H q ys) (aK:↑xs=↑ys) (he:∀(j:Nat) (x y:V),xs[j]?\x->ys[j]?\y->wj K H k x y (e j)):wj K H (k+1) (.ref p) (.ref q) ((fb ↑xs).all e)
 |apU {k:Nat} {p q:Addr} {xs ys:List V} (ar:az K H p xs) (aI:az K H q ys) (aK:↑xs≠↑ys):wj K H (k+1) (.ref p) (.ref q) false
 |tup {k:Nat} {p q:Addr} {xs ys:List V} {e:Nat->Bool} (ar:dM K H p xs) (aI:dM K H q ys) (he:∀(j:Nat) (x y:V),xs[j]?\x->ys[j]?\y->wj K H k x y (e j)):wj K H (k+1) (.ref p) (.ref q) ((fb (min ↑xs ↑ys)).all e&&↑xs==↑ys)
end L2
namespace L2
open PySem PySem.Spec PyProof.Rows PySem.Builtin PySem.Builtin.ObjectAttr
noncomputable abbrev aop:=St->av->(av->Prop)->Prop
section
variable{M:Model}{A:Around}{E:Value->Shared->Prop}{s:Shared}
def TK{base h:Heap}(aK:h.FunFrames base l)(e:h.get? b\o)(d:o.data=.fields vs):b∉nP l:=λhm=>by
 let(_,es,bD,f'):=aK.mem hm;rw[e]at bD;cases bD;exact f' vs d
end
noncomputable def iv.gone(D:iv)(i:Nat):iv:={cN:=λσ H=>D.cN (σ.set i none) H,me:=D.me,cS:=λσ H=>D.cS (σ.set i none) H,fY:=λσ H=>D.fY (σ.set i none) H}
def Pe(D:iv)(i:Nat)(σ:St)(H:av):(D.gone i).cN σ H=D.cN (σ.set i none) H:=rfl
def Qv(D:iv)(i:Nat)(v:V)(H:av):(D.gone i).me v H=D.me v H:=rfl
end L2
namespace L2
open PySem PySem.Spec PyProof.Rows
noncomputable def ao6(CX:jX)(P:Program)(w:World)(K:bk)(mg:Str->Option Value)(base:Heap)(N:List Str)(qual:Str)(scope:Scope)(f:Addr)(cd:Value)(A:Around)(outer:List Env)(s:Shared)(H:av)(E:fT):bc where
 prog:=P
 w:=w
 K:=K
 mg:=mg
 base:=base
 A:=A.deeper (envOfC qual scope ↥s f cd)
 N:=N
 gk:=s
 sP:=H
 env:=envOfC qual scope ↥s f cd
 outer:=outer
 stack:=envOfC qual scope ↥s f cd::outer
 ex:=[]
 calm:=false
 fn:=λ_=>true
 fs:=[]
 ek:=λe aj=>wpAny (model P w) (A.deeper (envOfC qual scope ↥s f cd)) (leaving (envOfC qual scope ↥s f cd) e) (λ_ uZ=>CX outer H s E e uZ) (λbD uZ=>CX outer H s E bD uZ) aj
section
variable{α:Type}{M:List α->Prop}
theorem jb(h:∀a,M [a]):∀us:List α,↑us=1->M us|[a],_=>h a
theorem gL(h:∀a b,M [a,b]):∀us:List α,↑us=2->M us|[a,b],_=>h a b
theorem h6(h:∀a b c,M [a,b,c]):∀us:List α,↑us=3->M us|[a,b,c],_=>h a b c
theorem Me(h:∀a b c d,M [a,b,c,d]):∀us:List α,↑us=4->M us|[a,b,c,d],_=>h a b c d
theorem Eg(h:∀a b c d e f g,M [a,b,c,d,e,f,g]):∀us:List α,↑us=7->M us|[a,b,c,d,e,f,g],_=>h a b c d e f g
theorem afo(h:∀a b c d e f g i,M [a,b,c,d,e,f,g,i]):∀us:List α,↑us=8->M us|[a,b,c,d,e,f,g,i],_=>h a b c d e f g i
end
structure Mf(K:bk)(C:Addr):Prop where
 aO:dW K ⇑C "__class__"\(some (.builtin "object.__class__"))
 a8:xf K (.builtin "object.__class__") "__get__"\(some (.builtin "getset_descriptor.__get__"))
 zU:KZ K (.builtin "object.__class__")\true
 hm:K0 K C (.type "object")\true
theorem Yn{bG:List Int}:∀{a':List Value},cO (bG.map V.int) a'->∃xs:List (Int×Tok),a'=xs.map (λp=>oA p.1 p.2)/\xs.map (·.1)=bG:=by
 induction bG with
 |nil=>intro a' r;cases r;exact([],rfl,rfl)
 | cons k bG cZ=>
  intro a' r;cases r with
  |cons h t=>
   let(xs,aq,aD):=cZ t;let(tk,rfl):=(show ∃t,_=oA k t from h);exact((p'p k tk)::xs,by rw[fz,<- aq],by rw[fz,aD])
section
variable{X:bc}
def TX(aB:X.calm=true):l9 X (.builtin "max") (λxs H Q=>∃l bG m,xs=[⇑l]/\az X.K H l (o3 V.int bG)/\(m∈bG/\∀k∈bG,k<=m)/\Q (.int m) H):=by
 intro ab s σ H xs us Q J r h;let(l,bG,m,rfl,aI,hm,q):=h;let(u,rfl,fm):=mc r;cases fm;let(a',cI,pl,aQ):=J.list aI;let(xs,aq,aD):=Yn cI;have iM:a'.toArray=intItems xs.toArray:=by rw[aq];unfold intItems;simp
 have rB:s.heap.IsList l (intItems xs.toArray):=by rw[<- iM];exact pl.isList
 have k':↑xs=↑bG:=by rw[<- aD,aX]
 have ck:0<xs.toArray.size:=by
  rw[fF,k'];exact afD hm.1
 refine max_intList (J.ok.hd aB) rB ck λv h' tk aE ax=>(.int m,H,J.kept ax,?_,q)
 let(gD,rfl):=intItems_at aE;refine(gD,?_);have aa:=argBest_gt (numAt xs.toArray) (xs.toArray.size-1);generalize argBest (λi j=>decide (numAt xs.toArray i>numAt xs.toArray j)) (xs.toArray.size-1)=j at aa⊢;have a8:∀i,i<↑bG->bG[i]?\(numAt xs.toArray i):=λi ah=>by
  rw[numAt_eq,kd];show bG[i]?\(((xs.map (·.1))[i]?).getD 0);rw[aD,a6 ah];rfl
 rw[fF]at aa ck;have ae:=hm.2 _ (bU (a8 j ()));let(i,ah):=hy hm.1;have iM:i<↑bG:=(b0.mp ah).1;have ak:=aa.2 i ();have aZ:m=numAt xs.toArray i:=d2 (ah.symm.trans (a8 i iM));rw[show numAt xs.toArray j=m by omega]
noncomputable def LW(K:bk):V->List V->av->cV->Prop:=λx vs H Q=>∃l bG k,x=⇑l/\vs=[.int k]/\az K H l (o3 V.int bG)/\k∈bG/\↑bG<=1000/\Q (.int (bG.idxOf k:Nat)) H
def R2:y8 X "list.index" (LW X.K):=by
 intro ab s σ H x xs v us Q J bb cI h;let(l,bG,k,rfl,rfl,aI,ax,aK,q):=h;cases(show v=ff l from bb);let(u,rfl,fm):=mc cI;let(iJ,rfl):=(show ∃t,u=oA k t from fm);let(a',SA,pl,aQ):=J.list aI;have ah:=akN SA;have hlen:=↑ah;have aJ:bG.idxOf k<↑bG:=ahF.mpr ax;let((cls,dj,data,cH),aS,aB,n,hd):=id pl.isList;simp only at aB hd;subst aB hd;refine call_meets Rd (_,aS,rfl) PySem.F.entry_list_index (PySem.F.args_list_index_2 _ _)
  (PySem.SeqAt.list_indexAt l a'.toArray n dj cH (.int k iJ) (isInt k) (bG.idxOf k) (by simpa[hlen]using aJ) () ?_ ?_) (aS,λy aM=>(eq_isInt k iJ ah y (by simpa using aM)).at _ _,.int _,H,J.tok _,(_,rfl),q)
 .show isInt k a'[bG.idxOf k]=true;rw[isInt_at k ah _ () aJ];simpa using aj0 aJ
 .intro j aeg dK;show isInt k a'[j]=false;rw[isInt_at k ah j (by simpa using aeg) ()];exact ne_of_lt_idxOf dK _
end
noncomputable def aoH(p d:Addr):Heap->Prop:=λh=>PySem.W.KdlKeysView h p d
section
variable{X:bc}
noncomputable def rI:V->List V->av->cV->Prop:=λx vs H Q=>∃d kvs,x=⇑d/\vs=[]/\H d\(.b2 kvs)/\∀p,H p=none->Q ⇑p (upd H p (.ext (aoH p d)))
end
noncomputable abbrev aek:=St->av->Str->(Str->av->Prop)->Prop
noncomputable def m7(f:Addr)(qual:Str)(params:Arguments)(body:Expr)(scope:Scope)(jl:List (Str×Addr))(c':Addr):Heap->Prop:=
 λh=>∃pm jm,h.get? f\(x9 "<lambda>" qual params body scope jl pm c' jm)
noncomputable def oa(c:Addr)(qual:Str):Heap->Prop:=λh=>h.CodeRec ⇑c qual
def Tab(H:av)(bP:Addr)(pos:Pos)(qual:Str):Prop:=
 ∃ps,H bP\(.hF ps)/\(ps=#[]\/∃c',ps=#[rawInt pos.line,rawInt pos.col,⇑c']/\H c'\(.ext (oa c' qual)))
def iy(bP:Addr)(H I:av):Prop:=∀b o,b≠bP->H b\o->I b\o
def iy.trans(a:iy bP H H1)(b:iy bP H1 aw):iy bP H aw:=λc o n h=>b c o n (a c o n h)
def aN.p(s:aN H I):iy bP H I:=λb o _ h=>s b o h
def Tab.ne(t:Tab H bP pos qual)(h:H b\o)(aS:∀ps,o≠.hF ps):b≠bP:=λe=>by
 let(ps,aq,_):=t;subst e;rw[aq]at h;exact aS ps (d2 h).symm
def Tab.step(t:Tab H bP pos qual)(s:aN H I):Tab I bP pos qual:=by
 let(ps,e,d):=t;refine(ps,s _ _ e,?_);rcases d with d|⟨c',d,bD⟩
 .exact .inl d
 .exact .inr (c',d,s _ _ bD)
def Tp{w:World}{h:Heap}
  (e:h.get? f\(x9 "<lambda>" qual params body scope jl pm c' jm)):e8 P w H h f (.ext (m7 f qual params body scope jl c')):=
 ((pm,jm,e),(_,e),λ_ _ ⟨p,c,aq⟩ k=>(p,c,k _ aq))
def ane{w:World}{h:Heap}(e:h.CodeRec ⇑c qual):e8 P w H h c (.ext (oa c qual)):=by
 refine(e,?_,λae ak x k=>?_)
 .let(bJ,o,vs,t,aq,aD,_):=e;cases aq;exact(o,aD)
 .let(bJ,o,vs,t,aq,aD,bV,eC):=x;cases aq;exact(_,o,vs,t,rfl,k o aD,bV,eC)
structure M9(X:bc)(c bP:Addr):Prop where
 code:X.env.code=⇑c
 hd:ml X.base c bP
 bm:X.base.BuiltinsAt X.mg bP
def aaN:TriplesOk [rawInt a,rawInt b,v]:=jO
def aiH:codeAmong pos [rawInt pos.line,rawInt pos.col,v]\v:=by
 have:=codeAmong_snoc (pos:=pos) (c:=v) [] jO rfl;simpa using this
section
variable{X:bc}{ab:List (Addr×Obj)}{σ:St}{H:av}{s:Shared}{params:Arguments}{body:Expr}{scope:Scope}{pos:Pos}{c bP:Addr}{jl:List (Str×Addr)}{Q:Value->Shared->Prop}
def YE (J:Inv X ab σ H s) (T:M9 X c bP) (bF:Tab H bP pos (X.env.qual++"<lambda>")) (n5:closureFor scope X.env=pure jl) (yi:defaultsOf params X.env=(p'p [] []))
  (h:∀f c' H1 s1,Inv X ab σ H1 s1->iy bP H H1->(aL H->aL H1)->Tab H1 bP pos (X.env.qual++"<lambda>")->H1 f\(.ext (m7 f (X.env.qual++"<lambda>") params body scope jl c'))->H1 c'\(.ext (oa c' (X.env.qual++"<lambda>")))->H f=none->Q ⇑f s1) :
  wpAny (model X.prog X.w) X.A (eval (.Lambda params body scope pos) X.env) Q X.ek s:=by
 refine PySem.W.kla_eval yi ?_;let(ps,lG,d):=bF;have cK:s.heap.get? bP\(HI ps):=J.bu _ _ lG;have oZ:s.heap.Ns mainGlobals X.mg:=J.mod.glob.keeps J.cS;have dv:=T.hd.keeps J.cS;have aaY:mainGlobals≠bP:=λq=>by
  let(o,aU,cu,e,hd,_):=oZ;rw[q,cK]at e;cases e;cases hd
 have gX:s.heap.BuiltinsAt X.mg bP:=by
  let(bm,o,ae,ak,aZ,bY,dS,je):=T.bm;exact(bm,o,ae,ak,aZ,bY,J.cS _ _ dS,je)
 rcases d with rfl|⟨c',rfl,ef⟩
 .refine PySem.W.kla_makeFunction (mg:=X.mg) n5 J.ok.glob oZ T.code dv cK jO rfl aaY gX λc' jm h' tk ag Dr dK anM V7=>?_
  have sR:H c'=none:=J.bu.fresh Dr;have f':H h'.objs.size=none:=J.bu.fresh (cM Dr (nv dK));have ae4:c'≠h'.objs.size:=gz dK;have agq:bP≠c':=λz=>by rw[z,sR]at lG;cases lG
  have aj9:bP≠h'.objs.size:=λz=>by rw[z,f']at lG;cases lG
  have put:∀b o,b≠bP->H b\o->upd (upd (upd H bP (.hF (#[] ++ #[rawInt pos.line,rawInt pos.col,⇑c']))) c' (.ext (oa c' (X.env.qual++"<lambda>")))) h'.objs.size (.ext (m7 h'.objs.size (X.env.qual++"<lambda>") params body scope jl c')) b\o:=λb o n e=>by
   rw[aP (λz=>by rw[z,f']at e;cases e),aP (λz=>by rw[z,sR]at e;cases e),aP n];exact e
  have B7:upd (upd (upd H bP (.hF (#[] ++ #[rawInt pos.line,rawInt pos.col,⇑c']))) c' (.ext (oa c' (X.env.qual++"<lambda>")))) h'.objs.size (.ext (m7 h'.objs.size (X.env.qual++"<lambda>") params body scope jl c')) bP\(.hF (#[] ++ #[rawInt pos.line,rawInt pos.col,⇑c'])):=by
   rw[aP aj9,aP agq,aR]
  have wz:upd (upd (upd H bP (.hF (#[] ++ #[rawInt pos.line,rawInt pos.col,⇑c']))) c' (.ext (oa c' (X.env.qual++"<lambda>")))) h'.objs.size (.ext (m7 h'.objs.size (X.env.qual++"<lambda>") params body scope jl c')) c'\(.ext (oa c' (X.env.qual++"<lambda>"))):=by
   rw[aP ae4,aR]
  have GA:upd (upd (upd H bP (.hF (#[] ++ #[rawInt pos.line,rawInt pos.col,⇑c']))) c' (.ext (oa c' (X.env.qual++"<lambda>")))) h'.objs.size (.ext (m7 h'.objs.size (X.env.qual++"<lambda>") params body scope jl c')) h'.objs.size\(.ext (m7 h'.objs.size (X.env.qual++"<lambda>") params body scope jl c')):=aR;have cf:∀b,b≠bP->b≠c'->b≠h'.objs.size->upd (upd (upd H bP (.hF (#[] ++ #[rawInt pos.line,rawInt pos.col,⇑c']))) c' (.ext (oa c' (X.env.qual++"<lambda>")))) h'.objs.size (.ext (m7 h'.objs.size (X.env.qual++"<lambda>") params body scope jl c')) b=H b:=λb cP cW dw=>by
   rw[aP dw,aP cW,aP cP]
  have jk:aL H->aL (upd (upd (upd H bP (.hF (#[] ++ #[rawInt pos.line,rawInt pos.col,⇑c']))) c' (.ext (oa c' (X.env.qual++"<lambda>")))) h'.objs.size (.ext (m7 h'.objs.size (X.env.qual++"<lambda>") params body scope jl c'))):=λn=>n.upd.upd.upd
  generalize upd (upd (upd H bP (.hF (#[] ++ #[rawInt pos.line,rawInt pos.col,⇑c']))) c' (.ext (oa c' (X.env.qual++"<lambda>")))) h'.objs.size (.ext (m7 h'.objs.size (X.env.qual++"<lambda>") params body scope jl c'))=H1 at put B7 wz GA cf jk;have bo:∀b o,b≠bP->s.heap.get? b\o->(h'.push (x9 "<lambda>" (X.env.qual++"<lambda>") params body scope jl ((X.mg "__name__").getD .none) c' jm)).get? b\o:=λb o n e=>e2 _ (ag b o n e)
  have Lx:∀b,H b=none->b≠bP:=λb n z=>by rw[z,lG]at n;cases n
  have u:hP X.a5 [] H H1 s.heap (h'.push (x9 "<lambda>" (X.env.qual++"<lambda>") params body scope jl ((X.mg "__name__").getD .none) c' jm)):=by
   refine(λb o e n _ _=>bo b o (Lx b n) e,λb o e n _ _=>(o.slots,bo b o (Lx b n) e),λb o e n _=>?_,λb o e _=>?_,λb xs e=>put b _ (λz=>by rw[z,lG]at e;cases e) e,λb o x e=>put b _ (λz=>by rw[z,lG]at e;cases e) e,λb ps e=>?_)
   .have aa:=er e;rw[cf b (Lx b n) (gz (iL aa Dr)) (gz (iL aa (cM Dr (nv dK))))];exact n
   .by_cases aa:b=bP
    .subst aa;exact(_,e2 _ V7)
    .exact (o,bo b o aa e)
   .by_cases aa:b=bP
    .subst aa;rw[lG]at e;cases e;exact(_,B7)
    .exact (#[],by rw[put b _ aa e];simp)
  have bu:fw X.prog X.w H1 (h'.push (x9 "<lambda>" (X.env.qual++"<lambda>") params body scope jl ((X.mg "__name__").getD .none) c' jm)):=λb o e=>by
   by_cases ae:b=bP
   .subst ae;rw[B7]at e;cases e;exact e2 _ V7
   by_cases ak:b=c'
   .subst ak;rw[wz]at e;cases e;refine ane ?_;let(bJ,o,vs,t,aq,aD,bV):=anM;exact(bJ,o,vs,t,aq,e2 _ aD,bV)
   by_cases aZ:b=h'.objs.size
   .subst aZ;rw[GA]at e;cases e;exact Tp (hq _ rfl)
   rw[cf b ae ak aZ]at e;refine(J.bu b o e).oB (λd v hd q=>bo d v ?_ q) (λd q=>put d _ (λz=>by rw[z,lG]at q;cases q) q) λd xs q=>put d _ (λz=>by rw[z,lG]at q;cases q) q
   rcases hd with z|z
   .rw [z];exact ae
   .intro eu;rw[eu,lG]at z;cases z
  exact h _ c' H1 _ (J.un (t':=tk) u bu) (λb o n e=>put b o n e) jk (_,B7,.inr (c',by simp,wz)) GA wz f'
 .refine PySem.W.kla_makeFunctionHit (mg:=X.mg) n5 J.ok.glob oZ T.code dv cK aaN aiH gX λjm h' tk ax hsz=>?_
  have f':H h'.objs.size=none:=J.bu.fresh hsz;have a0:Inv X ab σ (upd H h'.objs.size (.ext (m7 h'.objs.size (X.env.qual++"<lambda>") params body scope jl c'))) {s with heap:=h'.push (x9 "<lambda>" (X.env.qual++"<lambda>") params body scope jl ((X.mg "__name__").getD .none) c' jm),toks:=tk}:=
   J.laid (t':=tk) (λb o e=>e2 _ (ax b o e)) hsz (Tp (hq _ rfl))
  have bw:=bh (o:=.ext (m7 h'.objs.size (X.env.qual++"<lambda>") params body scope jl c')) f';exact h _ c' _ _ a0 bw.p (λn=>n.upd) (_,bw _ _ lG,.inr (c',rfl,bw _ _ ef)) aR (bw _ _ ef) f'
end
noncomputable def TU:Expr->Scope
 | .Lambda _ _ s _=>s
 |_=>{kind:=.function,names:=[],isGenerator:=false,isCoroutine:=false}
noncomputable def PV:Expr->Pos
 | .Lambda _ _ _ p=>p
 |_=>(0,0,0,0)
section
variable{P:Program}{w:World}{A:Around}{E:Value->Shared->Prop}{s:Shared}
structure uC(h:Heap)(d:Addr)(o:Obj)(aU:Array DictEntry)(cu:Nat):Prop where
 at_:h.get? d\o
 ex:o.ExactDict
 dat:o.data=.dict aU cu
def Vt(r:uC s.heap d o aU cu):s.TypeIs ⇑d "dict":=(o,r.at_,r.ex.1)
def ahh(hd:(d==sysModules)=false)(r:uC s.heap d o aU cu)
  (aY:Q (.ref ↥s) {s with heap:=s.heap.push {cls:=.type "dict_keyiterator",data:=.fields #[⇑d,.int 0 0,.int aU.size 0,.int cu 0]} }) :
  wpAny (model P w) A (pyIter ⇑d) Q E s:=by
 have ll:=Vt r;refine wpAny_pyIter_slot ll aaX (wpAny_call_entry aaX ll F.entry_dict_iter ?_ (F.args_dict_iter_1 _));unfold Builtin.«dict.__iter__» arY;refine wpAny_bind (wpAny_bind (wpAny_notOrdered_dict ll (wpAny_pure ?_)));show wpAny _ _ (ajx d >>= _) _ _ s;unfold ajx;rw[if_neg (by rw[hd];exact fX)];refine wpAny_bind (wpAny_pure (wpAny_bind (wpAny_dictEntries r.at_ r.dat (wpAny_bind (wpAny_dictEpoch r.at_ r.dat ?_)))));refine wpAny_bind (wpAny_newObj_type (wpAny_pure (_,rfl,"dict_keyiterator",_,(_,hq _ rfl,rfl),EI.lookup,?_)));simpa[rawInt]using aY
def acN{it d:Addr}{e:DictEntry}(hit:s.heap.IsKeyIter it d i aU.size cu)(r:uC s.heap d o aU cu)(ag:aU[i]?\e)
  (aY:∀h',h'.IsKeyIter it d (i+1) aU.size cu->wI it s.heap h'->Q (some e.key) {s with heap:=h' }):wpAny (model P w) A (pyNext ⇑it) Q E s:=by
 let(Z5,aS,aB,hd):=id hit;have LB:adY "dict_keyiterator"=false:=∅
 have dK:i<aU.size:=by
  rcases Nat.lt_or_ge i aU.size with h|h
  .exact h
  .rw [alX h]at ag;cases ag
 unfold pyNext;refine wpAny_bind (wpAny_attempt (wpAny_callSpecial?_slot (name:=af "__next__") hit.typeIs EI
  (wpAny_call_entry EI hit.typeIs aaZ ?_ (Zy _))))
 refine wpAny_bind (wpAny_pure (wpAny_bind (wpAny_bind ?_)))
 first|refine wpAny_bind (wpAny_typeNameOfWhole_keyiter hit.typeIs (wpAny_pure ?_))|refine wpAny_bind (wpAny_typeNameOf_keyiter hit.typeIs (wpAny_pure ?_))
 refine wpAny_bind (wpAny_fieldsOf aS hd ?_);simp only[LB,CZ,if_false];show wpAny _ _ (if(ff d==sv)=true then _ else _) _ _ s;rw[if_neg (show ¬((ff d==sv)=true)from fX)];refine wpAny_bind (wpAny_pure (wpAny_bind (wpAny_dictEntries r.at_ r.dat ?_)));rw[if_neg (by simp)];refine wpAny_bind (wpAny_pure (wpAny_bind (wpAny_dictEpoch r.at_ r.dat ?_)));rw[if_neg (by simp)];refine wpAny_pure ?_;simp only[show ¬((i:Int)<0)from by omega,if_false,mN,ag];refine wpAny_bind ?_
 first|refine wpAny_bind (wpAny_typeNameOfWhole_keyiter hit.typeIs (wpAny_pure ?_))|refine wpAny_bind (wpAny_typeNameOf_keyiter hit.typeIs (wpAny_pure ?_))
 refine wpAny_bind (wpAny_isOneOf_keyiter hit.typeIs ?_);show wpAny _ _ (setField ⇑it 1 (rawInt ((i:Int)+1)) >>= _) _ _ s;refine wpAny_bind (wpAny_setField aS hd (by simp) ?_);have Xm:(s.heap.update it (am' (·.setIfInBounds 1 (rawInt ((i:Int)+1))))).IsKeyIter it d (i+1) aU.size cu:=
  (_,Heap.get?_update_self _ aS (Obj.isFreed_of_fields (al0 hd _)),(Obj.cls_mapFields ..).trans aB,by rw[al0 hd];simp[rawInt])
 refine wpAny_bind (wpAny_holding (wpAny_bind (wpAny_isOneOf_keyiter (s:={s with heap:=s.heap.update it (am' (·.setIfInBounds 1 (rawInt ((i:Int)+1))))}) Xm.typeIs ?_)));show wpAny _ _ (pure e.key) _ _ _;exact wpAny_pure (wpAny_pure (_,rfl,wpAny_pure (aY _ Xm (agD ..))))
def aih{it d:Addr}(bT:A.handled=none)(hit:s.heap.IsKeyIter it d i aU.size cu)(r:uC s.heap d o aU cu)(ag:aU.size<=i)
  (aY:∀h',Heap.ExtBut it s.heap h'->Q none {s with heap:=h' }):wpAny (model P w) A (pyNext ⇑it) Q E s:=by
 let(Z5,aS,aB,hd):=id hit;have LB:adY "dict_keyiterator"=false:=∅
 unfold pyNext;refine wpAny_bind (wpAny_attempt (wpAny_callSpecial?_slot (name:=af "__next__") hit.typeIs EI
  (wpAny_call_entry EI hit.typeIs aaZ ?_ (Zy _))))
 refine wpAny_bind (wpAny_pure (wpAny_bind (wpAny_bind ?_)))
 first|refine wpAny_bind (wpAny_typeNameOfWhole_keyiter hit.typeIs (wpAny_pure ?_))|refine wpAny_bind (wpAny_typeNameOf_keyiter hit.typeIs (wpAny_pure ?_))
 refine wpAny_bind (wpAny_fieldsOf aS hd ?_);simp only[LB,CZ,if_false];show wpAny _ _ (if(ff d==sv)=true then _ else _) _ _ s;rw[if_neg (show ¬((ff d==sv)=true)from fX)];refine wpAny_bind (wpAny_pure (wpAny_bind (wpAny_dictEntries r.at_ r.dat ?_)));rw[if_neg (by simp)];refine wpAny_bind (wpAny_pure (wpAny_bind (wpAny_dictEpoch r.at_ r.dat ?_)));rw[if_neg (by simp)];refine wpAny_pure ?_;simp only[show ¬((i:Int)<0)from by omega,if_false,mN,alX ag];refine wpAny_bind ?_
 first|refine wpAny_bind (wpAny_typeNameOfWhole_keyiter hit.typeIs (wpAny_pure ?_))|refine wpAny_bind (wpAny_typeNameOf_keyiter hit.typeIs (wpAny_pure ?_))
 show wpAny _ _ (setField ⇑it 0 .none >>= _) _ _ s;refine wpAny_bind (wpAny_setField aS hd (by simp) ?_);show wpAny _ _ (newExc (.type "StopIteration") [] >>= _) _ _ _;refine wpAny_bind ?_;simp only[newExc,newTuple];refine wpAny_bind (wpAny_newObj_type ?_ (by size_fits));refine wpAny_bind (m:=firstArgMember _ _) (wpAny_of_eq (a:=sv) (by first|rfl|(simp only[firstArgMember];rfl)) ?_);refine wpAny_newObj_type ?_ (by size_fits);simp only[raiseNew];refine wpAny_bind (wpAny_handled ?_);rw[show A.in1.handled=none from bT];refine wpAny_bind (wpAny_pure (wpAny_throw ?_));refine wpAny_bind (wpAny_isInstance (T:="StopIteration") (b:=true) (_,hq _ rfl,rfl) isSubtype_stop ?_);exact wpAny_pure (aY _ (((agD ..).extBut.push _).push _))
end
noncomputable def pH(a:Addr)(o:Obj):Heap->Prop:=λh=>h.get? a\o
structure YF(P:Program)(w:World)(H:av)(a:Addr)(kvs:List (List Key×V))(o:Obj)(aU:Array DictEntry)(cu:Nat)(xs:List (List Key×Addr×Value)):Prop where
 at_:H a\(.ext (pH a o))
 ex:o.ExactDict
 dat:o.data=.dict aU cu
 ent:aU.toList=xs.map (entryOfKey (tupleKind (iX P w)))
 aG:(xs.map (·.1)).Nodup
 bG:Paired (λ(p:List Key×V) (q:List Key×Addr×Value)=>p.1=q.1/\H q.2.1\(.tup (p.1.map d3))/\be p.2 q.2.2) kvs xs
 pA:↑kvs<=sizeLine
 ns:(a==sysModules)=false
def jd(P:Program)(w:World)(H:av)(a:Addr)(kvs:List (List Key×V)):Prop:=∃o aU cu xs,YF P w H a kvs o aU cu xs
section
variable{P:Program}{w:World}{H I:av}{h:Heap}{a:Addr}{kvs:List (List Key×V)}
def M5(d:jd P w H a kvs)(s:aN H I):jd P w I a kvs:=by
 let(o,aU,cu,xs,r):=d;exact(o,aU,cu,xs,s _ _ r.at_,r.ex,r.dat,r.ent,r.aG,Paired.sy r.bG λp q z=>(z.1,s _ _ z.2.1,z.2.2),r.pA,r.ns)
def alD{p:Addr}(d:jd P w H a kvs)(ar:p≠a)(c6:∀xs,H p≠some (.tup xs)):jd P w (upd H p u) a kvs:=by
 let(o,aU,cu,xs,r):=d;exact(o,aU,cu,xs,by rw[aP (et ar)];exact r.at_,r.ex,r.dat,r.ent,r.aG,Paired.sy r.bG λq dY z=>(z.1,by rw[aP (λe=>c6 _ (e ▸ z.2.1))];exact z.2.1,z.2.2),r.pA,r.ns)
def Xk(ok:fw P w H h)(r:YF P w H a kvs o aU cu xs):uC h a o aU cu:=
 ((ok a _ r.at_).1,r.ex,r.dat)
def Ya(ok:fw P w H h)(d:jd P w H a kvs):u9 (H a)/\(∃u,h.get? a\u)/\e8 P w (upd H a (.gs kvs)) h a (.gs kvs):=by
 let(o,aU,cu,xs,r):=d;have e:=(Xk ok r).at_;refine(by rw[r.at_];exact jO,(o,e),r.pA,r.ns,xs,Paired.sy r.bG λq dY z=>(z.1,?_,z.2.2),o,aU,cu,e,r.ex,r.dat,r.ent,r.aG);rw[aP (λe=>by have:=z.2.1;rw[e,r.at_]at this;cases this)];exact z.2.1
def agF(ok:fw P w H h)(d:jd P w H a kvs):fw P w (upd H a (.gs kvs)) h:=
 have z:=Ya ok d
 ok.write z.1 (.inl rfl) (λ_ _ _ q=>q) z.2.1 z.2.2
def abn(d:jd P w H a kvs)(e:H b\(.tup xs)):b≠a:=λz=>by
 let(o,aU,cu,ys,r):=d;have:=r.at_;rw[<- z,e]at this;cases this
end
section
variable{X:bc}{ab:List (Addr×Obj)}{σ:St}{H:av}{s:Shared}{a b:Addr}{kvs:List (List Key×V)}{k:List Key}{v:V}{r:Value}{A:Around}{E:Value->Shared->Prop}
def Hz(J:Inv X ab σ H s)(kU:u9 (H a))(ex:∃u,s.heap.get? a\u)(new:e8 X.prog X.w (upd H a es) s.heap a es):Inv X ab σ (upd H a es) s:=
 J.un (t':=s.toks) (h':=s.heap) (hP.write kU (.inl rfl) (λ_ _ _ q=>q) ex) (J.bu.write kU (.inl rfl) (λ_ _ _ q=>q) ex new)
def aae(J:Inv X ab σ H s)(d:jd X.prog X.w H a kvs):Inv X ab σ (upd H a (.gs kvs)) s:=
 have z:=Ya J.bu d
 Hz J z.1 z.2.1 z.2.2
def WF(J:Inv X ab σ H s)(e:H a\(.gs kvs)):∃o,Inv X ab σ (upd H a (.ext (pH a o))) s/\jd X.prog X.w (upd H a (.ext (pH a o))) a kvs:=by
 let(z,y,xs,r,o,aU,cu,ae,ak,aZ,bY,dS):=(show e8 X.prog X.w H s.heap a (.gs kvs)from J.bu a _ e);refine(o,Hz J (by rw[e];exact jO) (o,ae) (ae,(o,ae),λ_ _ q k=>k o q),o,aU,cu,xs,aR ..,ak,aZ,bY,dS,Paired.sy r λp q z=>(z.1,?_,z.2.2),z,y);rw[aP (λq=>by have:=z.2.1;rw[q,e]at this;cases this)];exact z.2.1
def aiw(bR:A.units+1<cLine)(J:Inv X ab σ H s)(d:jd X.prog X.w H a kvs)(fe:H b\(.tup (k.map d3)))(l:dz kvs k\v)(h:∀eQ aj,Inv X ab σ H aj->be v eQ->Q eQ aj) :
  wpAny (model X.prog X.w) A (getItem ⇑a ⇑b) Q E s:=by
 let(z,hd,xs,rel,dj):=Qy (agF J.bu d) (aR ..);let(eQ,hw,hl):=jT.some_of (v:=v) (o:=(atKey xs k).map (·.2)) (by rw[<- l];exact rel.val k);let(p,ar,gc):=yc.mp hw;refine wpAny_getItem_heap (tupleKind_room_in1 bR) (Ac J.bu fe) dj ar ?_;rw[gc];exact h eQ _ (J.tok _) hl
def ai8(bR:A.units+1<cLine)(J:Inv X ab σ H s)(d:jd X.prog X.w H a kvs)(fe:H b\(.tup (k.map d3)))(aK:↑kvs<sizeLine)(cI:be v r)
  (h:∀o aj,Inv X ab σ (upd H a (.ext (pH a o))) aj->jd X.prog X.w (upd H a (.ext (pH a o))) a (eK kvs k v)->Q ⟨⟩ aj):wpAny (model X.prog X.w) A (setItem ⇑a ⇑b r) Q E s:=by
 refine WA bR (aae J d) (l_.t (aR ..) (by rw[aP (abn d fe)];exact fe) aK) (show be ⇑b ⇑b from rfl) cI λaj j6=>?_
 rw[ur]at j6;let(o,b1,eS):=WF j6 (aR ..);rw[ur]at b1 eS;exact h o aj b1 eS
end
noncomputable def I_(P:Program)(w:World)(gH ty:TE):TE:=λσ H Q=>gH σ H λx H1=>ty σ H1 λy aw=>∃a b kvs k v,x=⇑a/\y=⇑b/\jd P w aw a kvs/\aw b\(.tup (k.map d3))/\dz kvs k\v/\Q v aw
noncomputable def FR(P:Program)(w:World)(gH ty gD:TE):eF:=λD σ H=>gD σ H λv H1=>gH σ H1 λx aw=>ty σ aw λy ba=>∃a b kvs k,x=⇑a/\y=⇑b/\jd P w ba a kvs/\ba b\(.tup (k.map d3))/\↑kvs<sizeLine/\∀o,jd P w (upd ba a (.ext (pH a o))) a (eK kvs k v)->D.cN σ (upd ba a (.ext (pH a o)))
noncomputable def FX(P:Program)(w:World):TE:=λ_ H Q=>∀p o,H p=none->jd P w (upd H p (.ext (pH p o))) p []->Q ⇑p (upd H p (.ext (pH p o)))
section
variable{X:bc}{o i e value:Expr}{pos pos' x':Pos}{gH ty gD:TE}
def aeS(bR:X.A.units+1<cLine)(aS:bA X o gH)(ah:bA X i ty)(ay:HF i):bA X (.Subscript o i pos) (I_ X.prog X.w gH ty):=by
 intro ab s σ H Q J h;refine Ui aaL.lookup ay (bK (aS ab s σ H _ J h) λu s1 cm=>ey cm λx H1 a0 bb bM=>bK (ah ab s1 σ H1 _ a0 bM) λov s2 c_=>?_);let(y,aw,b1,bE,a,b,kvs,k,v,ex,hH,d,fe,l,d7):=c_;subst ex hH;obtain rfl:u=ff a:=bb;obtain rfl:ov=ff b:=bE;refine(?_,aiw bR b1 d fe l λeQ s3 fu hl=>(v,aw,fu,hl,d7));let(cT,aU,cu,xs,r):=d;exact Vt (Xk b1.bu r)
def ajM(bR:X.A.units+1<cLine)(aS:bA X o gH)(ah:bA X i ty)(aE:bA X value gD)(ay:swapsWith value (some (.Subscript o i pos')) pos.line X.env=pure false) :
  hY X (.Assign [.Subscript o i pos'] value pos) (FR X.prog X.w gH ty gD):=by
 intro ab s σ H D J h;refine wpAny_Assign_Subscript (bK (aE ab s σ H _ J h) λr s1 cm=>ey cm λv H1 a0 cI bM=>bK (aS ab s1 σ H1 _ a0 bM) λu s2 cm=>ey cm λx aw b1 bb d7=>bK (ah ab s2 σ aw _ b1 d7) λov s3 c_=>?_) ay;let(y,ba,fu,bE,a,b,kvs,k,ex,hH,d,fe,aK,hb):=c_;subst ex hH;obtain rfl:u=ff a:=bb;obtain rfl:ov=ff b:=bE;exact ai8 bR fu d fe aK cI λcT s4 iA BO=>(σ,_,iA,hb cT BO)
def Zb:bA X (.Dict [] [] pos) (FX X.prog X.w):=λab s σ H Q J h=>by
 refine bK (amD ab s σ H (λx H1=>∃p,x=⇑p/\H p=none/\H1=upd H p (.gs [])) J λp ar=>(p,rfl,ar,rfl)) λv s1 c_=>?_
 let(x,H1,a0,ct,p,ex,ar,zq):=c_;subst ex zq;let(o,b1,eS):=WF a0 (aR ..);rw[ur]at b1 eS;exact(⇑p,_,b1,ct,h p o ar eS)
end
section
open AutoSeq1 (wpAny_loadPart')
open MeetsSeq MeetsSeq2 MeetsSeq3 SeqRoads2
variable{P:Program}{w:World}{l b:Addr}{xs ys:Array Value}{n m:Nat}{dj arl:Option Addr}{cH bw:Array (Option Value)}
end
section
variable{X:bc}{ab:List (Addr×Obj)}{σ:St}{H:av}{s:Shared}{d:Addr}{o:Obj}{kvs:List (Key×V)}
def ag'(J:Inv X ab σ H s)(e:H d\(.b2 kvs))(g:s.heap.get? d\o):Inv X ab σ (upd H d (.eX o (.b2 kvs))) s:=
 Hz J (by rw[e];exact jO) (o,g) (g,J.bu d _ e)
def Wl(J:Inv X ab σ H s)(e:H d\(.eX o (.b2 kvs)))(f':∀o u,X.sP d≠some (.eX o u)):Inv X ab σ (upd H d (.b2 kvs)) s:=by
 have ne:∀{b:Addr} {u:Option gb},H b=u->(∀es,u≠some (.eX es (.b2 kvs)))->b≠d:=λ{b u} q h z=>h o (by rw[<- q,z];exact e)
 refine(J.ok,J.os,J.bare,(J.base.keep,J.base.slot,λb es q n ag=>?_,J.base.there,λb xs q=>?_,λb es u q=>?_,λb ps q=>?_),J.loc,J.cell,?_,λx c q=>?_,λp ar=>?_,λb u q=>?_,J.len)
 .have h:=J.base.free b es q n ag;rw[aP (ne h (λ_ z=>by cases z))];exact h
 .have h:=J.base.q2 b xs q;rw[aP (ne h (λ_ z=>by cases z))];exact h
 .have h:=J.base.nC b es u q;rw[aP (λz=>f' es u (by rw[<- z];exact q))];exact h
 .let(m,h):=J.base.pG b ps q;exact(m,by rw[aP (ne h (λ_ z=>by cases z))];exact h)
 .rw [aP (ne J.free (λ_ z=>by cases z))];exact J.free
 .rw [aP (ne (J.kg x c q) (λ_ z=>by cases z))];exact J.kg x c q
 .let(ae,ak,aZ):=J.pin p ar;exact(ae,by rw[aP (ne ak (λ_ z=>by cases z))];exact ak,aZ)
 .by_cases aa:b=d
  .subst aa;rw[aR]at q;cases q;exact(J.bu b _ e).2
  .rw[aP aa]at q;refine(J.bu b u q).oB (λ_ _ _ r=>r) (λc r=>?_) (λc xs r=>?_)
   .rw [aP (ne r (λ_ z=>by cases z))];exact r
   .rw [aP (ne r (λ_ z=>by cases z))];exact r
end
noncomputable def GW(d:Addr)(o:Obj)(kvs:List (Key×V)):kq:=
 (λi H=>H d\(.eX o (.b2 kvs))/\i<↑kvs,λi H x I=>I=H/\∃k v,kvs[i]?\(p'p k v)/\x=d3 k,λi H=>H d\(.eX o (.b2 kvs))/\↑kvs<=i)
def Z3{w:World}{K:bk}{d it:Addr}(ex:o.ExactDict)(aS:o.data=.dict aU cu)
  (aK:aU.size=↑kvs) (bG:∀(i:Nat) (e:DictEntry),aU[i]?\e->∃k v,kvs[i]?\(p'p k v)/\be (d3 k) e.key):rq P w K dr (GW d o kvs) [it] it (λi h=>h.IsKeyIter it d i aU.size cu)where
 mem:=by simp
 obj:=λi h st b aa=>by
  have e:b=it:=by simpa using aa
  subst e;let(o,e,c,d):=st;exact(o,e,λv z=>by rw[d]at z;cases z)
 keep:=λi h h' st k=>st.at λo e=>k it (by simp) o e
 item:=by
  intro X cK hw fU aB i ab s σ H E J hf st a7;subst cK hw fU;let(aI,ag):=a7;have r:uC s.heap d o aU cu:=((J.bu d _ aI).1,ex,aS);let(f0,f1,f2,eV,f4,fq):=hf it (by simp);let(q,v7):∃q,aU[i]?\q:=(_,Array.getElem?_eq_getElem (show i<aU.size by omega));let(k,v,ao',K'):=bG i q v7;refine acN st r v7 λh' mm p6=>?_
  have a0:Inv X ab σ H {s with heap:=h' }:=J.turned (t':=s.toks) (λb o aa e=>(p6.2 b aa).trans e) f0 f1 eV f4 fq;let(tZ,e,c,dj):=id mm;exact(_,rfl,yV (s:={s with heap:=h' }) e c dj ∅ (d3 k,H,a0,K',(rfl,k,v,ao',rfl),mm,λb aa=>(hf b aa).1))
 done:=by
  intro X cK hw fU aB i ab s σ H E J hf st a7;subst cK hw fU;let(aI,ag):=a7;have r:uC s.heap d o aU cu:=((J.bu d _ aI).1,ex,aS);let(f0,f1,f2,eV,f4,fq):=hf it (by simp);exact aih (J.ok.hd aB) st r () λh' fe=>(rfl,J.turned (t':=s.toks) (λb o aa e=>fe b o aa e) f0 f1 eV f4 fq)
 self:=λ_ _ _ _ _ st h=>wpAny_pyIter_keyiter st h
def aee{w:World}{k:Key}(h:(iX P w).is k v=true):be (d3 k) v:=by
 rcases pP (k:=k) (v:=v) h with⟨i,t,rfl,rfl⟩|⟨x,t,rfl,rfl⟩
 .exact (t,rfl)
 .exact (t,rfl)
theorem Rz{w:World}:∀{aU:List DictEntry} {vs:List (Key×Value)} {kvs:List (Key×V)},Pairs (iX P w) aU vs->fy kvs vs->↑aU=↑kvs/\∀(i:Nat) (e:DictEntry),aU[i]?\e->∃k v,kvs[i]?\(p'p k v)/\be (d3 k) e.key
 |_,_,_,.nil,r=>by
  unfold fy at r;cases r;exact(rfl,λi e h=>by simp at h)
 | _,_,_,.cons ax _ t,r=>by
  unfold fy at r;cases r with
  | @cons p q ps qs h d5=>
   let(l,al):=Rz t (kvs:=ps) d5;refine(by rw[gW,gW,l],λi e he=>?_);cases i with
   |zero=>
    cases he;refine(p.1,p.2,rfl,aee (P:=P) (w:=w) ?_);rw[h.1];exact ax
   |succ i=>exact al i e he
section
variable{X:bc}{dr:Expr}
noncomputable def H2(c7:TE):TI:=λσ H R=>c7 σ H λx H1=>∃d kvs,x=⇑d/\H1 d\(.b2 kvs)/\∀o,R (GW d o kvs) (upd H1 d (.eX o (.b2 kvs)))
def Q0(aK:bA X l c7):ot X dr l (H2 c7):=by
 intro ab s σ H R J h;refine bK (aK ab s σ H _ J h) λv s1 cm=>ey cm λx H1 a0 ct bM=>?_
 let(d,kvs,e,nS,q):=bM;subst e;cases ct;let(_,hd,vs,rel,o,aU,cu,g,ex,dat,_,pr,_):=Ae a0.bu nS;let(aK,bG):=Rz pr rel;have b1:=ag' a0 nS g;refine ahh hd (g,ex,dat) ?_;refine(↥s1,[↥s1],_,_,_,rfl,b1.kept (t':=s1.toks) λb o e=>e2 _ e,Z3 ex dat (by rw[<- aK];exact Gm.symm) (λi e h=>bG i e (by rw[<- aaa]at h;exact h)),(_,hq _ rfl,rfl,rfl),λb aa=>?_,q o);have e:b=↥s1:=by simpa using aa
 subst e;exact b1.oz (bQ _) (b1.bu.fresh (bQ _))
noncomputable def G_(t:TE):TE:=λσ H Q=>∃d kvs,H d\(.b2 kvs)/\t σ H λv I=>∃o,I d\(.eX o (.b2 kvs))/\Q v (upd I d (.b2 kvs))
def alE{e:Expr}{t:TE}(h:bA X e t):bA X e (G_ t):=by
 intro ab s σ H Q J q;let(d,kvs,nS,q):=q;refine bK (h ab s σ H _ J q) λv s1 ⟨x,H1,a0,ct,o,aq,bM⟩=>(x,_,Wl a0 aq (λes u z=>?_),ct,bM)
 have:=J.base.nC d es u z;rw[nS]at this;cases this
end
structure mb(X:bc)(ab:List (Addr×Obj))(H:av)(S:Addr):Prop where
 nn:H S=none
 nl:S≠X.env.locals
 ge:↥X.gk<=S
 sR:∀x c,X.env.cells.lookup x\c->c≠S
 np:∀p∈X.fs++ab,p.1≠S
 f':S∉X.a5
def mb.of(J:Inv X ab σ H s)(h:↥s<=S):mb X ab H S:=
 (J.bu.fresh h,λz=>absurd (iL J.lt h) (by rw[z];exact oQ _),cM J.pA h,λx c e z=>by
  let(v,o,aS,_):=J.cell x c e;exact absurd (iL (er aS) h) (by rw[z];exact oQ _),λp ar z=>by
  have aS:=(J.pin p ar).1;exact absurd (iL (er aS) h) (by rw[z];exact oQ _),J.GG h)
def mb.turn(o:mb X ab H S)(J:Inv X ab σ H s)(k:∀b o,b≠S->s.heap.get? b\o->h'.get? b\o):Inv X ab σ H {s with heap:=h',toks:=t' }:=
 J.turned k o.nn o.nl (.inr o.ge) o.sR o.np
section
variable{X:bc}{A:Around}{ab:List (Addr×Obj)}{σ:St}{H:av}{l q J S:Addr}{n:Nat}{P:Nat->Value->Prop}{R:Result->Shared->Prop}
def As(bz:Inv X ab σ H s)(j4:mb X ab H S)(jU:mb X ab H J)(F7:s.heap.get? S\Xd)(lu:s.heap.get? J\Ol)(apq:∀v,Xd.data≠.cell v)(agA:∀v,Ol.data≠.cell v):Inv X ((p'p S Xd)::(p'p J Ol)::ab) σ H s:=
 bz.uk λp ar=>by
  rcases ei.mp ar with rfl|ar
  .exact (F7,j4.nn,j4.nl,j4.f',apq)
  rcases ei.mp ar with rfl|ar
  .exact (lu,jU.nn,jU.nl,jU.f',agA)
  exact bz.pin p (mB _ ar)
def Au(bz:Inv X (JM::IE::ab) σ H s):Inv X ab σ H s/\s.heap.get? JM.1\JM.2/\s.heap.get? IE.1\IE.2:=
 (bz.uk λp ar=>bz.pin p (mB _ (.tail _ (.tail _ ar))),(bz.pin JM (mB _ (.head _))).1,(bz.pin IE (mB _ (.tail _ (.head _)))).1)
theorem acs(c1:Nat->Int)(bT:A.handled=none)(aK:∀s,Inv X ab σ H s->∃vs:List Value,↑vs=n/\(∀i v,vs[i]?\v->P i v)/\s.heap.IsList l vs.toArray)(o4:l≠J)(lJ:S≠J)(j4:mb X ab H S)(jU:mb X ab H J)
  (turn:∀(i:Nat) (v:Value),i<n->P i v->∀(ab:List (Addr×Obj)) (s:Shared),Inv X ab σ H s ->
   wpAny (model X.prog X.w) A.in1 (call ⇑q [v]) (gN X ab σ λx I=>x=.int (c1 i)/\I=H) (λ_ _=>False) s)
  (hk:∀i v aj,i<n->P i v->(∀j,j<n->c1 i<=c1 j/\(j<i->c1 i<c1 j))->Inv X ab σ H aj->R (.ok (.ret v)) aj) :
  ∀(r j i:Nat) (s:Shared) (nz:Value) (bF:Tok) (c:Nat),n-(j+1)=r->j+1<=n->Inv X ab σ H s ->
   s.heap.get? S\(seqObj "list" #[nz,.int (c1 i) bF] c)->s.heap.IsListIter J l (j+1)->P i nz->i<=j->(∀eO,eO<=j->c1 i<=c1 eO/\(eO<i->c1 i<c1 eO)) ->
   codeAny (model X.prog X.w) A (.builtin "min.loop" ([⇑J,⇑q,⇑S],[])) R s:=by
 have px:(toString "min"++toString ".loop":String)="min.loop":=by decide
 intro r
 induction r with
 |zero=>
  intro j i s nz bF c ao aJ bz dV hit tm lq nj;let(vs,qZ,rt,pb):=aK s bz;have W:=uR (prog:=X.prog) (w:=X.w) (A:=A.in1) bT J l o4 vs.toArray;have hsz:vs.toArray.size=↑vs:=fF ..;have g_:j+1=↑vs:=()
  refine codeAny_builtin O8 ?_;rw[zF wA _];show wpAny _ A.in1 (seqItems? ⇑S >>= _) _ _ _;refine wpAny_bind (wpAny_seqItems dV rfl ?_);show wpAny _ A.in1 (tryCatch (pyNext ⇑J) _ >>= _) _ _ _;refine wpAny_bind (wpAny_tryCatch (W.done _ _ _ (by rw[hsz,<- g_];exact hit,pb) λh' oD e4=>?_));have mE:Inv X ab σ H {s with heap:=h',toks:=oD}:=jU.turn bz λb o n e=>e4 b o (by simpa using n) e
  have pf:=e4 S _ (by simpa using lJ) dV;show wpAny _ A.in1 (updateSeq S (λ_=>#[]) >>= _) _ _ _;refine wpAny_bind ?_;refine wpAny_updateSeq pf rfl (wpAny_bind (wpAny_letGo (wpAny_pure ?_)));exact hk i nz _ () tm (λeO h5=>nj eO ()) (j4.turn mE λb o n e=>(p3 _ _ (et n)).trans e)
 | succ r cZ=>
  intro j i s nz bF c ao aJ bz dV hit tm lq nj;let(vs,qZ,rt,pb):=aK s bz;have W:=uR (prog:=X.prog) (w:=X.w) (A:=A.in1) bT J l o4 vs.toArray;have hsz:vs.toArray.size=↑vs:=fF ..;have dK:j+1<n:=()
  refine codeAny_builtin O8 ?_;rw[zF wA _];show wpAny _ A.in1 (seqItems? ⇑S >>= _) _ _ _;refine wpAny_bind (wpAny_seqItems dV rfl ?_);show wpAny _ A.in1 (tryCatch (pyNext ⇑J) _ >>= _) _ _ _;refine wpAny_bind (wpAny_tryCatch (W.item (j+1) _ _ _ (by rw[hsz,qZ];exact dK) (hit,pb) λv h' oD cK nq e4=>?_));have aE:P (j+1) v:=rt _ _ (by simpa using cK);let(qF,tD,od,nc):=id nq.1;have mE:Inv X ab σ H {s with heap:=h',toks:=oD}:=jU.turn bz λb o n e=>e4 b o (by simpa using n) e
  have pf:=e4 S _ (by simpa using lJ) dV;have rz:=As mE j4 jU pf tD (λ_ z=>by cases z) (λ_ z=>by rw[nc]at z;cases z);show wpAny _ A.in1 (tryCatch (holding [v] (call ⇑q [v])) _ >>= _) _ _ _;refine wpAny_bind (wpAny_tryCatch (wpAny_holding (wpAny_mono (turn (j+1) v dK aE _ _ rz) (λx s2 he=>?_) λ_ _ qv=>qv.elim)));let(eP,I,oM,bb,rfl,rfl):=he;let(eA,rfl):=bb;let(p',nA,qA):=Au oM;have J2:s2.heap.IsListIter J l (j+1+1):=(qF,qA,od,nc);show wpAny _ A.in1 (tryCatch (holding [v,.int (c1 (j+1)) eA] (richCompare .Lt (.int (c1 (j+1)) eA) (.int (c1 i) bF) >>= _)) _ >>= _) _ _ _;refine wpAny_bind (wpAny_tryCatch (wpAny_holding (wpAny_bind (CmpOf.ints_lt (prog:=X.prog) (w:=X.w) (A:=A.in1) (P:=λi v=>∃t,v=.int (c1 i) t) c1 (λi v h=>h) (j+1) i _ _ _ _ _ (eA,rfl) (bF,rfl) ?_))));refine wpAny_bind (wpAny_holding (wpAny_truthy_bool ?_));refine wpAny_bind (wpAny_letGo (wpAny_pure ?_));by_cases d_:c1 (j+1)<c1 i
  .obtain⟨bJ,qV⟩:∃bJ,(s2.heap.update S (rb fun _=>#[v,.int (c1 (j+1)) eA])).get? S=some (seqObj "list" #[v,.int (c1 (j+1)) eA] bJ):=⟨_,get?_update_seq nA fun _=>#[v,.int (c1 (j+1)) eA]⟩;simp only[d_,decide_true,if_true];refine wpAny_bind ?_;refine wpAny_updateSeq nA rfl (wpAny_bind (wpAny_letGo ?_));rw[px];have uz:=j4.turn (t':=s2.toks) p' (h':=s2.heap.update S (rb fun _=>#[v,.int (c1 (j+1)) eA])) fun b o n e=>(p3 _ _ (et n)).trans e
   refine wpAny_pure (plainId_quiet wA _,cZ (j+1) (j+1) _ v eA bJ () dK uz qV (qF,(p3 _ _ lJ).trans qA,od,nc) aE (bQ _) λeO h5=>?_);by_cases e:eO=j+1
   .subst e;exact((),λ_=>())
   .have ti:=nj eO ();have j':=ti.1;exact((),λ_=>())
  .simp only[d_,decide_false,CZ,if_false];refine wpAny_bind (wpAny_letGo ?_);rw[px];refine wpAny_pure (plainId_quiet wA _,cZ (j+1) i _ nz bF c () dK p' nA J2 tm () λeO h5=>?_);by_cases e:eO=j+1
   .subst e;exact((),λ_=>())
   .exact nj eO ()
def adN(c1:Nat->Int)(bT:A.handled=none)(bz:Inv X ab σ H s)(aK:∀ab s,Inv X ab σ H s->∃vs:List Value,↑vs=n/\(∀i v,vs[i]?\v->P i v)/\s.heap.IsList l vs.toArray)(ck:0<n)
  (turn:∀(i:Nat) (v:Value),i<n->P i v->∀(ab:List (Addr×Obj)) (s:Shared),Inv X ab σ H s ->
   wpAny (model X.prog X.w) A.in1 (call ⇑q [v]) (gN X ab σ λx I=>x=.int (c1 i)/\I=H) (λ_ _=>False) s)
  (aY:∀i v aj,i<n->P i v->(∀j,j<n->c1 i<=c1 j/\(j<i->c1 i<c1 j))->Inv X ab σ H aj->Q v aj) :
  wpAny (model X.prog X.w) A (call (.builtin "min") [⇑l] [(p'p (af "key") (⇑q))]) Q E s:=by
 have px:(toString "min"++toString ".loop":String)="min.loop":=by decide
 let(Ti,_,_,rB):=aK _ s bz;let(ol,MO,_):=id rB;have uS:l<↥s:=er MO;refine kmk_tree PySem.F.kind_min PySem.F.plain_min PySem.F.entry_min (kmk_min_key _ _) ?_;show wpAny _ A.in1 (II "min" ["key","default"] 0 ([],[(p'p (af "key") (⇑q))]) >>= _) _ _ s;refine wpAny_bind (wpAny_of_eq (show II "min" ["key","default"] 0 ([],[(p'p (af "key") (⇑q))])=pure [some ⇑q,none]from rfl) ?_);refine wpAny_bind (wpAny_pure ?_);refine wpAny_bind (wpAny_pyIter_list rB ?_);refine wpAny_bind (wpAny_newList ?_ (eW _));rw[px];have dV:(s.heap.push {cls:=.type "list_iterator",data:=.fields #[⇑l,.int 0 0]}).objs.size=↥s+1:=size_push' ..;have o4:l≠↥s:=gz uS;have lJ:(s.heap.push {cls:=.type "list_iterator",data:=.fields #[⇑l,.int 0 0]}).objs.size≠↥s:=by rw[dV];exact Eh (wK _)
 refine wpAny_pure (plainId_quiet wA _,?_);have jU:mb X ab H ↥s:=.of bz (bQ _);have j4:mb X ab H (s.heap.push {cls:=.type "list_iterator",data:=.fields #[⇑l,.int 0 0]}).objs.size:=.of bz (by rw[dV];exact Bx _);have Jc:((s.heap.push {cls:=.type "list_iterator",data:=.fields #[⇑l,.int 0 0]}).push (seqObj "list" #[] 0)).get? ↥s=some {cls:=.type "list_iterator",data:=.fields #[⇑l,.int 0 0]}:=
  e2 _ (hq _ rfl)
 have xT:((s.heap.push {cls:=.type "list_iterator",data:=.fields #[⇑l,.int 0 0]}).push (seqObj "list" #[] 0)).get? (s.heap.push {cls:=.type "list_iterator",data:=.fields #[⇑l,.int 0 0]}).objs.size\(seqObj "list" #[] 0):=hq _ rfl;have x3:Inv X ab σ H {s with heap:=(s.heap.push {cls:=.type "list_iterator",data:=.fields #[⇑l,.int 0 0]}).push (seqObj "list" #[] 0)}:=bz.kept (t':=s.toks) λb o e=>e2 _ (e2 _ e)
 let(vs,qZ,rt,pb):=aK _ _ x3;have W:=uR (prog:=X.prog) (w:=X.w) (A:=A.in1) bT ↥s l o4 vs.toArray;have hsz:vs.toArray.size=↑vs:=fF ..;refine codeAny_builtin O8 ?_;rw[zF wA _];show wpAny _ A.in1 (seqItems? ⇑_ >>= _) _ _ _;refine wpAny_bind (wpAny_seqItems xT rfl ?_);show wpAny _ A.in1 (tryCatch (pyNext (.ref ↥s)) _ >>= _) _ _ _;refine wpAny_bind (wpAny_tryCatch (W.item 0 _ _ _ (by rw[hsz,qZ];exact ck) ((_,Jc,rfl,rfl),pb) λv h' oD cK nq e4=>?_));have aE:P 0 v:=rt _ _ (by simpa using cK);let(qF,tD,od,nc):=id nq.1;have mE:=jU.turn (h':=h') (t':=oD) x3 λb o n e=>e4 b o (by simpa using n) e
 have pf:=e4 _ _ (by simpa using lJ) xT;have rz:=As mE j4 jU pf tD (λ_ z=>by cases z) (λ_ z=>by rw[nc]at z;cases z);show wpAny _ A.in1 (tryCatch (holding [v] (call ⇑q [v])) _ >>= _) _ _ _;refine wpAny_bind (wpAny_tryCatch (wpAny_holding (wpAny_mono (turn 0 v ck aE _ _ rz) (λx s2 he=>?_) λ_ _ qv=>qv.elim)));let(eP,I,oM,bb,rfl,rfl):=he;let(eA,rfl):=bb;let(p',nA,qA):=Au oM;let(bJ,qV):∃bJ,(s2.heap.update (s.heap.push {cls:=.type "list_iterator",data:=.fields #[⇑l,.int 0 0]}).objs.size (rb λ_=>#[v,.int (c1 0) eA])).get? (s.heap.push {cls:=.type "list_iterator",data:=.fields #[⇑l,.int 0 0]}).objs.size=some (seqObj "list" #[v,.int (c1 0) eA] bJ):=(_,get?_update_seq nA λ_=>#[v,.int (c1 0) eA]);show wpAny _ A.in1 (updateSeq (s.heap.push {cls:=.type "list_iterator",data:=.fields #[⇑l,.int 0 0]}).objs.size (λ_=>#[v,.int (c1 0) eA]) >>= _) _ _ _;refine wpAny_bind ?_;refine wpAny_updateSeq nA rfl ?_;rw[px];have uz:=j4.turn (t':=s2.toks) p' (h':=s2.heap.update (s.heap.push {cls:=.type "list_iterator",data:=.fields #[⇑l,.int 0 0]}).objs.size (rb λ_=>#[v,.int (c1 0) eA])) λb o n e=>(p3 _ _ (et n)).trans e
 refine wpAny_pure (plainId_quiet wA _,acs c1 bT (λs bz=>aK _ s bz) o4 lJ j4 jU turn aY _ 0 0 _ v eA bJ rfl ck uz qV (qF,(p3 _ _ lJ).trans qA,od,nc) aE (bQ _) λeO h5=>?_);have e:eO=0:=()
 subst e;exact((),λh=>absurd h (oQ _))
end
structure wR(p y z:Str)(sc:Scope):Prop where
 kind:sc.kind=.function
 co:sc.isCoroutine=false
 gen:sc.isGenerator=false
 ne:y≠z
 par:sc.names.lookup p\.local
 OH:sc.names.lookup y\.free
 Kq:sc.names.lookup z\.free
 v9:∀z∈sc.names,z.2≠.cell
 two:∀b∈sc.names,b.2=.free->b.1=y\/b.1=z
noncomputable def pV(X:bc)(A:Around)(N:List Str)(q:Str)(scope:Scope)(f c':Addr)(cl:List (Str×Addr))(s:Shared)(H:av):bc where
 prog:=X.prog
 w:=X.w
 K:=X.K
 mg:=X.mg
 base:=X.base
 A:=A.deeper (Jh q scope ↥s f ⇑c' cl)
 N:=N
 gk:=s
 sP:=H
 env:=Jh q scope ↥s f ⇑c' cl
 outer:=X.stack
 stack:=Jh q scope ↥s f ⇑c' cl::X.stack
 ex:=[]
 fn:=λ_=>false
 calm:=true
 fs:=[]
 ek:=λ_ _=>False
section
variable{X:bc}{A:Around}{ab:List (Addr×Obj)}{σ:St}{H:av}{s:Shared}{k:Nat}{f c' aW bJ:Addr}{q p y z:Str}{params:Arguments}{body:Expr}{scope:Scope}{v1 v2:V}{t:TE}
theorem B4{x:Str}(e:([(p'p y aW),(p'p z bJ)]:List (Str×Addr)).lookup x\c):(x=y/\c=aW)\/(x=z/\c=bJ):=by
 rw[lV]at e;cases aa:x==y with
 |true=>rw[aa]at e;cases e;exact .inl (eq_of_beq aa,rfl)
 |false=>
  rw[aa]at e;simp only[lV]at e;cases j':x==z with
  |true=>rw[j']at e;cases e;exact .inr (eq_of_beq j',rfl)
  |false=>rw[j']at e;cases e
theorem ao8(S:wR p y z scope)(ao:eY k A)(kJ:A.frames\X.stack)(J:Inv X ab σ H s)(ne:aW≠bJ)(cP:H aW=none)(cW:H bJ=none)
  (cy:∃u,be v1 u/\s.heap.IsCell aW (some u)) (de:∃u,be v2 u/\s.heap.IsCell bJ (some u)) (ip:be a u)
  (oZ:ae.Ns ↥s (λx=>[(p'p p u)].reverse.lookup x)) (ax:∀b o,s.heap.get? b\o->ae.get? b\o) :
  Inv (pV X A [p,y,z] q scope f c' [(p'p y aW),(p'p z bJ)] s H) [] [some a,some v1,some v2] H {s with heap:=ae,toks:=tk}:=by
 let(Qq,ct,mi,zE,yn):=cy;let(Jp,fj,tZ,Sa,VP):=de;have UB:([(p'p y aW),(p'p z bJ)]:List (Str×Addr)).lookup y\aW:=by rw[lV,beq_self_eq_true]
 have Q8:([(p'p y aW),(p'p z bJ)]:List (Str×Addr)).lookup z\bJ:=by
  rw[lV,show(z==y)=false from by simpa using et S.ne];simp only[lV,beq_self_eq_true]
 have tp:∀b:Addr,b∉(pV X A [p,y,z] q scope f c' [(p'p y aW),(p'p z bJ)] s H).ex:=λb z=>absurd (show b∈([]:List Addr)from z) (by simp)
 refine((J.ok.mod,S.kind,rfl,rfl,bQ _,λx w c aq aD=>?_,λx ag=>?_,λx c hf e=>?_,λ_=>ao.hd,abv kJ,.inr (rfl,rfl),λb z=>absurd z (tp b),J.bs,cM J.ok.nR J.pA,λb _ _=>tp b,λb z=>absurd z (tp b),J.stack,J.HS),
  rfl,J.bare,hP.kept ax,(_,oZ,λi x aru aq aD bV=>?_),λx c e=>?_,J.bu.fresh (bQ _),λx c e=>?_,λz aQ=>absurd (show z∈([]:List (Addr×Obj))from aQ) (by simp),J.bu.kept ax,rfl)
 .rcases B4 aq with⟨rfl,rfl⟩|⟨rfl,rfl⟩ <;> rcases B4 aD with⟨rfl,h⟩|⟨rfl,h⟩
  .rfl
  .exact absurd h ne
  .exact absurd h.symm ne
  .rfl
 .have ag:scope.names.lookup x\.cell\/scope.names.lookup x\.free:=ag;rcases ag with ag|ag
  .exact absurd rfl (S.v9 _ (wH ag))
  .rcases S.two _ (wH ag) rfl with h|h
   .have h:x=y:=h;exact(aW,by rw[h];exact UB)
   .have h:x=z:=h;exact(bJ,by rw[h];exact Q8)
 .cases hf
 .match i,aq,aD with
  |0,aq,aD=>
   cases aq;cases aD;exact(u,ip,.inl (S.par,by show rd p [(p'p p u)]\u;rw[lV,beq_self_eq_true]))
  |1,aq,aD=>
   cases aq;cases aD;exact(Qq,ct,.inr (.inr S.OH,aW,UB,(mi,ax _ _ zE,yn)))
  |2,aq,aD=>
   cases aq;cases aD;exact(Jp,fj,.inr (.inr S.Kq,bJ,Q8,(tZ,ax _ _ Sa,VP)))
  |i+3,aq,_=>simp[pV]at aq
 .rcases B4 e with⟨_,rfl⟩|⟨_,rfl⟩
  .exact (_,mi,ax _ _ zE,yn)
  .exact (_,tZ,ax _ _ Sa,VP)
 .rcases B4 e with⟨_,rfl⟩|⟨_,rfl⟩
  .exact cP
  .exact cW
theorem PZ(S:wR p y z scope)(ao:eY k A)(kJ:A.frames\X.stack)(J:Inv X ab σ H s)(ne:aW≠bJ)(cP:H aW=none)(cW:H bJ=none)
  (cy:∃u,be v1 u/\s.heap.IsCell aW (some u)) (de:∃u,be v2 u/\s.heap.IsCell bJ (some u))
  (ky:H f\(.ext (m7 f q params body scope [(y,aW),(z,bJ)] c'))) (ef:H c'\(.ext (oa c' q)))
  (aa:∀pm jm,bindArgs (Ta "<lambda>" q params body scope [(p'p y aW),(p'p z bJ)] pm ⇑c' jm) ([u],[])=pure [(p'p p u)]) (ip:be a u)
  (oP:bA (pV X A [p,y,z] q scope f c' [(p'p y aW),(p'p z bJ)] s H) body t) (h:t [some a,some v1,some v2] H Q) :
  wpAny (model X.prog X.w) A (call ⇑f [u]) (gN X ab σ Q) E s:=by
 have inner:codeAny (model X.prog X.w) A (.call ⇑f ([u],[])) (Bq dq X.stack X.prog X.w H s Q I9) s:=by
  let((pm,jm,aS),_):=J.bu _ _ ky;refine PySem.W.kla_callFunE ao.depth aS rfl S.co S.gen rfl (J.bu _ _ ef).1 ?_;rw[aa];refine wpAny_pure (wpAny_newFunctionEnv S.v9 (λz aQ=>by rw[d9.mp aQ];exact S.par) (λae oZ vA=>(J.nolimit.fresh _ vA,?_)) S.kind);have ax:∀b o,s.heap.get? b\o->ae.get? b\o:=λb o e=>vA.extBut b o (gz (er e)) (e2 _ e)
  show codeAny _ _ (.expr body (Jh q scope ↥s f ⇑c' [(p'p y aW),(p'p z bJ)])) _ _;have bz:=ao8 (f:=f) (c':=c') (q:=q) (tk:=s.toks+↑[(p'p p u)]) S ao kJ J ne cP cW cy de ip oZ ax;refine PySem.W.kla_codeExpr (wpAny_mono (oP [] _ _ _ _ bz h) (λCW aj aI=>?_) λ_ _ z=>k9 z);let(x,I,Fo,bb,dY):=aI;exact(x,I,Fo.os,Fo.bare,Fo.base,Fo.bu,bb,dY)
 refine wpAny_call (codeAny_mono inner λr aj aI=>?_);cases r with
 |error e=>exact aI.elim
 |ok fc=>
  cases fc with
  |ret u=>exact J.after aI
  |next=>exact k9 aI
  |brk=>exact k9 aI
  |cont=>exact k9 aI
end
def az.p{K:bk}(s:iy bP H I)(t:Tab H bP pos q)(h:az K H a xs):az K I a xs:=by
 rcases h with(h|⟨o,h⟩)|h
 .exact .inl (.inl (s _ _ (t.ne h (λ_ z=>by cases z)) h))
 .exact .inl (.inr (o,s _ _ (t.ne h (λ_ z=>by cases z)) h))
 .exact .inr h
noncomputable def U7(K:bk)(bP:Addr)(mx:Pos)(q:Str)(i1 i2:Nat)(t:TE)(a_:fH):TE:=λσ H Q=>a_ σ H λvs H1=>∃l bG v1 v2,∃g:Int->Int,vs=[⇑l]/\az K H1 l (o3 V.int bG)/\bG≠[] /\
 σ[i1]?\(some v1)/\σ[i2]?\(some v2)/\Tab H1 bP mx q/\∀aw,iy bP H1 aw->(aL H1->aL aw)->Tab aw bP mx q ->
  (∀n∈bG,t [some (.int n),some v1,some v2] aw λx I=>x=.int (g n)/\I=aw)/\∀(i:Nat) m,bG[i]?\m->(∀(j:Nat) n,bG[j]?\n->g m<=g n/\(j<i->g m<g n))->Q (.int m) aw
theorem alo{k:Nat}{t:TE}{p bo pos mx:Pos}
  (aB:X.calm=true) (a7:k1 X "min") (hm:X.mg "min"=none) (aO:h8 X [a] a_) (T:M9 X c bP) (ao:eY (k+1) X.A) (S:wR pr y z scope) (ae:X.env.cells.lookup y\aW) (ak:X.env.cells.lookup z\bJ) (yi:defaultsOf params X.env=(p'p [] [])) (n5:closureFor scope X.env=pure [(p'p y aW),(p'p z bJ)])
  (cc:X.env.scope.names.lookup y\.cell) (dX:X.env.scope.names.lookup z\.cell) (Mz:X.N[i1]?\y) (HC:X.N[i2]?\z)
  (aa:∀c' pm jm u,bindArgs (Ta "<lambda>" (X.env.qual++"<lambda>") params body scope [(p'p y aW),(p'p z bJ)] pm ⇑c' jm) ([u],[])=pure [(p'p pr u)])
  (oP:∀f c' s H,∃t',bA (pV X X.A.in1 [pr,y,z] (X.env.qual++"<lambda>") scope f c' [(p'p y aW),(p'p z bJ)] s H) body t'/\t'=t)
  (he:autoParam (∀pos,backTo pos (starEach [a] X.env)=(p'p false (eval a X.env))::backTo pos (starEach [] X.env)) A'i) (c2:autoParam (∀pos,(backTo pos (starEach [a] X.env)).any (·.1)=false) A'i) :
  bA X (.Call (.Name "min" p) [a] [(some "key",.Lambda params body scope mx,bo)] pos) (U7 X.K bP mx (X.env.qual++"<lambda>") i1 i2 t a_):=by
 intro ab s σ H Q J h;refine wpAny_Call_Name_kw (q1 J a7 hm ((∅:bootBuiltins "min"\(.builtin "min"))) ?_);refine callWith_kw (id:="min") (bK (aO pos ab s σ H _ J h) λus s1 c_=>?_) (he:=he pos) (hplain:=c2 pos);let(vs,H1,a0,ct,bM):=c_;let(l,bG,v1,v2,g,rfl,aI,ck,aq,aD,bF,q):=bM;refine kws_cons (YE a0 T bF n5 yi λf c' aw s2 b1 bw bC qE ky ef f'=>kws_nil ?_);let(lj,KC):=q aw bw bC qE;have v7:=aI.p bw bF;have cell:∀{ab:List (Addr×Obj)} {s:Shared} (bz:Inv X ab σ aw s) {i:Nat} {x:Str} {v:V} {cl:Addr},X.N[i]?\x->σ[i]?\(some v)->X.env.scope.names.lookup x\.cell->X.env.cells.lookup x\cl->∃u,be v u/\s.heap.IsCell cl (some u):=by
  intro ab s bz i x v cl bl ev ag qI;let(m,a8,Jb):=bz.loc;let(u,fm,lo):=Jb i x v bl ev (.inr (.inl ag));have ax:X.env.kindOf x\.cell:=ag;rcases lo with⟨w,_⟩|⟨_,alN,dN,eH⟩
  .rw [ax]at w;cases w
  .rw [qI]at dN;cases dN;exact(u,fm,eH)
 have Lc:aW≠bJ:=λw=>S.ne (J.ok.inj _ _ _ ae (by rw[w];exact ak))
 cases ct with
 | cons r kT=>
  cases kT;cases r;have L6:0<↑bG:=DT.mpr ck;refine adN (n:=↑bG) (P:=λi v=>∃t,v=.int (bG.getD i 0) t) (λi=>g (bG.getD i 0)) (a0.ok.hd aB) b1 (λab s bz=>?_) L6 (λi v ah aE ab s bz=>?_) λi v aj ah aE nj bz=>?_
  .obtain⟨a',cI,pl,aQ⟩:=bz.list v7;have aK:=↑cI;rw[aX]at aK;refine⟨a',aK.symm,fun i v aE=>?_,pl.isList⟩;have ah:i<↑bG:=by have:=(b0.mp aE).1;omega
   let(w,hw,hl):=cI.get (show(bG.map V.int)[i]?\(.int bG[i])by rw[dg,a6 ah];rfl);rw[aE]at hw;cases hw;rw[kd,a6 ah];exact hl
  .obtain⟨t',ti,rfl⟩:=oP f c' s aw;have hm:bG.getD i 0∈bG:=by rw[kd,a6 ah];exact gf ah
   exact PZ (a:=.int (bG.getD i 0)) S ao.in1 a0.ok.frames bz Lc (bz.kg _ _ ae) (bz.kg _ _ ak) (cell bz Mz aq cc ae) (cell bz HC aD dX ak) ky ef (λpm jm=>aa c' pm jm v) aE ti (lj _ hm)
  .obtain⟨tk,rfl⟩:=aE;refine⟨.int (bG.getD i 0),aw,bz,⟨tk,rfl⟩,KC i _ (by rw[kd,a6 ah];rfl) fun j n aJ=>?_⟩;have fL:j<↑bG:=(b0.mp aJ).1;have e:bG.getD j 0=n:=by rw[kd,aJ];rfl
   have:=nj j fL;rw[e]at this;exact this
def b9.WD{w:World}{K:bk}{mg:Str->Option Value}{base:Heap}{x qual:Str}{st:Stmt}{fd:FuncData}{N ps:List Str}{k:Nat}(F:b9 K x qual st f fd)(S:Db N ps (bx st))(len:∀vs H Q E,sp vs H Q E->↑vs=↑ps)
  (oP:∀(fZ:Value),fd.code=fZ->∀(A:Around) (outer:List Env) (s:Shared) (H:av) (vs:List V) (Q:cV) (E:fT),eY k (A.deeper (envOfC qual (bx st) ↥s f fZ))->sp vs H Q E ->
   ∃t,jS (td dq P w K mg base N qual (bx st) f fZ A outer s H E).tQ (rV st) t/\t {cN:=λ_ I=>Q .cf I,me:=Q} (start N vs) H):cE P w K mg base dq (k+1) f fd ps sp:=by
 let(ou,fB,d3,doc,pm,an,fZ,fY,uB,rfl,lk,jY):=F.ex;refine X2 lk jY S len λA outer s H vs Q E ao lO=>?_
 let(t,h,q):=oP fZ rfl A outer s H vs Q E ao lO;exact(t,h.tQ,q)
def Ji(_:Addr):Prop:=True
noncomputable abbrev Kx{P:Addr}(_:Ji P):Addr:=P
noncomputable def W2(st:Stmt):Expr:=match (rV st).getLast? with
 |some (.Return (some (.Call _ _ [⟨_,e,_⟩] _)) _)=>e
 |_=>.Constant .none 0 (0,0,0,0)
noncomputable def Np(t:eF):eF:=λD σ H=>∃d kvs,H d\(.b2 kvs)/\t {cN:=λau I=>∃o,I d\(.eX o (.b2 kvs))/\D.cN au (upd I d (.b2 kvs)),me:=λ_ _=>False} σ H
theorem aa6{st:Stmt}{t:eF}(h:hY X st t):hY X st (Np t):=by
 intro ab s σ H D J q;let(d,kvs,nS,q):=q;refine bK (h ab s σ H _ J q) λf s1 aI=>?_
 cases f with
 |next=>
  let(fG,H1,a0,o,aq,bM):=aI;refine(fG,_,Wl a0 aq (λes u z=>?_),bM);have:=J.base.nC d es u z;rw[nS]at this;cases this
 |ret u=>let(_,_,_,_,_,z):=aI;exact z.elim
 |brk=>let(_,_,_,z):=aI;exact z.elim
 |cont=>let(_,_,_,z):=aI;exact z.elim
section
open PySem.Spec PyProof.Rows
variable{prog:Program}{w:World}{A:Around}{E:Value->Shared->Prop}{s:Shared}
end
def dT(t u:eF)(D:iv)(σ:St)(H:av):HQ t u D σ H=(t {D with cN:=u D} σ H):=rfl
def AC:V9 r d5 a_ bF c9 σ H Q=(a_ σ H λx H1=>bF σ H1 λy aw=>r x y aw λz ba=>i0 z λk=>
 (if k=true then c9 σ ba λeQ cn=>d5 y eQ cn Q else Q (.bp false) ba)):=rfl
def Pg(K:bk):OR K a_ gD f D σ H=(gD σ H λy H1=>a_ σ H1 λx aw=>f9 x λa=>∃C aA a5,aw a\(.ins C aA a5)/\ia K C/\dJ K C f/\↑a5<1000 /\
 D.cN σ (upd aw a (.ins C aA (dn f y a5)))):=rfl
def OF(K:bk)(n6:V->V->av->cV->Prop):To K a_ gD n6 f D σ H=(a_ σ H λx H1=>∃a C aA a5 v,x=⇑a/\H1 a\(.ins C aA a5)/\ia K C/\dJ K C f/\a5.lookup f\v /\
 gD σ H1 λy aw=>n6 v y aw λz ba=>∃h_ pD,ba a\(.ins C h_ pD)/\↑pD<1000/\D.cN σ (upd ba a (.ins C h_ (dn f z pD)))):=rfl
def VW(t:fH):Kd C m sp dvs E a_ t σ H Q=(a_ σ H λx H1=>f9 x λa=>∃aA a5,H1 a\(.ins C aA a5)/\a5.lookup m=none /\
 t σ H1 λvs aw=>sp (x::(vs++dvs)) aw Q E):=rfl
def OA(t:fH):WT C sp dvs E t σ H Q=(t σ H λvs H1=>∀x aA,H1 x=none->H1 aA=none->aA≠x ->
 sp (⇑x::(vs++dvs)) (upd (upd H1 aA (.own x)) x (.ins C aA [])) (λv aw=>v=.cf/\Q ⇑x aw) E):=rfl
def Qb(K:bk)(x:V)(lo:Option Int)(ah:Option Int)(H:av)(Q:cV):XI K x lo ah H Q=(∃a xs,x=⇑a/\dM K H a xs /\
 ¬(eZ.dd ↑xs 0 lo=0/\eZ.dd ↑xs ↑xs ah=↑xs)/\∀p,H p=none->Q ⇑p (upd H p (.tup (jB xs lo ah)))):=rfl
def O4(gH ty t8:TE):Pr gH ty t8 σ H Q=(gH σ H λx H1=>∃a,x=⇑a/\HW H1 a/\ty σ H1 λy aw=>t8 σ aw λz ba=>∃kvs k,ba a\(.b2 kvs)/\y=d3 k /\
 (∀v,dz kvs k\v->Q v (upd ba a (.b2 (tf kvs k))))/\(dz kvs k=none->Q z ba)):=rfl
def Ss(t:fH):Yl pY m qh E a_ t σ H Q=(a_ σ H λx H1=>∃a C aA a5,x=⇑a/\H1 a\(.ins C aA a5)/\pY C/\a5.lookup m=none /\
 t σ H1 λvs aw=>qh C (x::vs) aw Q E):=rfl
def V_(K:bk)(t:TE):U7 K bP mx q i1 i2 t a_ σ H Q=(a_ σ H λvs H1=>∃l bG v1 v2,∃g:Int->Int,vs=[⇑l]/\az K H1 l (o3 V.int bG)/\bG≠[] /\
 σ[i1]?\(some v1)/\σ[i2]?\(some v2)/\Tab H1 bP mx q/\∀aw,iy bP H1 aw->(aL H1->aL aw)->Tab aw bP mx q ->
  (∀n∈bG,t [some (.int n),some v1,some v2] aw λx I=>x=.int (g n)/\I=aw)/\∀(i:Nat) m,bG[i]?\m->(∀(j:Nat) n,bG[j]?\n->g m<=g n/\(j<i->g m<g n))->Q (.int m) aw):=rfl
def ed(bz:kq)(g:g5)(bF:eF)(D:iv)(σ:St)(H:av):Prop:=∃W:Nat->Nat->St->av->Prop,(∃m,W 0 m σ H)/\∀i m σ H,W i m σ H ->
 (bz.stop i H/\D.cN σ H)\/(bz.go i H/\∃N:St->av->Prop,(∀au I,N au I->∃dU,dU<m/\W (i+1) dU au I)/\∀x I,bz.ro i H x I->g x σ I λcD aw=>bF {D with cN:=N,fY:=N,cS:=D.cN} cD aw)
def XR:Yk hX g bF D σ H=hX σ H λbz H1=>ed bz g bF D σ H1:=rfl
def cY(bz:kq)(g:g5)(c9:TT)(bW:TE)(dA:St)(Q:cV)(H:av):Prop:=∃W:Nat->Nat->List V->av->Prop,(∃m,W 0 m [] H)/\uO bz g c9 bW dA Q W
def Rp:It hX g c9 bW sel σ H Q=hX σ H λbz H1=>cY bz g c9 bW (nV sel σ) Q H1:=rfl
def P6:UH a_ σ H R=(a_ σ H λvs H1=>n' vs λx=>hv x λj=>-4611686018427387904<=j/\j<4611686018427387904/\R (mF 0 j.toNat) H1):=rfl
def U5:OT a_ σ H R=(a_ σ H λvs H1=>∃i j:Int,vs=[.int i,.int j]/\(-4611686018427387904<=i/\i<4611686018427387904/\-4611686018427387904<=j/\j<4611686018427387904)/\R (mF i (j-i).toNat) H1):=rfl
def aoP(f:α->β):[].map f=[]:=rfl
def adX(f:α->β)(a:α)(l:List α):(a::l).map f=f a::l.map f:=rfl
def adE(l:List α):[]++l=l:=rfl
def YT(a:α)(l r:List α):(a::l)++r=a::(l++r):=rfl
def aaP(a b:α)(l:List α):(a::l).set 0 b=b::l:=rfl
def acQ(a b:α)(l:List α)(n:Nat):(a::l).set (n+1) b=a::l.set n b:=rfl
def anv(a:α)(l:List α):(a::l)[0]?\a:=rfl
def agM(a:α)(l:List α)(n:Nat):(a::l)[n+1]? = l[n]?:=rfl
def ait:↑([]:List α)=0:=rfl
def aay(a:α)(l:List α):↑(a::l)=↑l+1:=rfl
def afU(f:α->Option β):(none:Option α).bind f=none:=rfl
def ahe(f:α->Option β)(a:α):(some a).bind f=f a:=rfl
def aoD(a:Option α):(some a).join=a:=rfl
def aiK:(none:Option (Option α)).join=none:=rfl
def XO(sel:List (Option Nat))(σ:St):nV sel σ=sel.map λo=>o.bind λj=>(σ[j]?).join:=rfl
theorem du{t u:eF}(b:Bool)(aB:∀Q:Bool->av->Prop,Q b H->c σ H Q)(ae:b=true->t D σ H)(ak:b=false->u D σ H):KL c t u D σ H:=by
 refine aB _ ?_;cases b with
 |true=>exact ae rfl
 |false=>exact ak rfl
theorem Ht{t u:eF}(R:Bool->av->Prop)(aB:∀Q:Bool->av->Prop,(∀b I,R b I->Q b I)->c σ H Q)(ae:∀I,R true I->t D σ I)(ak:∀I,R false I->u D σ I):KL c t u D σ H:=by
 refine aB _ λb I r=>?_
 cases b with
 |true=>exact ae I r
 |false=>exact ak I r
def sl{t:eF}{D:iv}{σ:St}{H:av}(R:St->av->Prop)(h:∀gQ:iv,(∀σ H,R σ H->gQ.cN σ H)->gQ.me=D.me->gQ.cS=D.cS->gQ.fY=D.fY->t gQ σ H)(hk:∀σ H,R σ H->D.cN σ H):t D σ H:=h D hk rfl rfl rfl
def LA{t:eF}{D:iv}{σ:St}{H:av}(R:St->av->Prop)(h:∀gQ:iv,(∀σ H,R σ H->gQ.cN σ H)->t gQ σ H)(hk:∀M,M=D.cN->∀σ H,R σ H->M σ H):t D σ H:=h D (hk _ rfl)
def Sl{p:Prop}(h:∀q,q=p->q):p:=h p rfl
def LM{t:eF}{D:iv}{σ:St}{H:av}(R:St->av->Prop)(h:∀gQ:iv,(∀σ H,R σ H->gQ.cN σ H)->t gQ σ H)(hk:∀σ H,R σ H->D.cN σ H):t D σ H:=h D hk
def IG{t u:eF}{D:iv}{σ:St}{H:av}(R:St->av->Prop)(h:∀gQ:iv,(∀σ H,R σ H->gQ.cN σ H)->t gQ σ H)(hk:∀M,M=u D->∀σ H,R σ H->M σ H):HQ t u D σ H:=h {D with cN:=u D} (hk _ rfl)
def af1(v:V)(aB:∀Q:cV,Q v H->bW σ H Q)(h:D.me v H):Bc bW D σ H:=aB _ h
def pE(x y:Str):↑(x++y)=↑x+↑y:=by
 show(x.cps++y.cps).size=_;rw[Array.size_append];rfl
def ed.range{lo:Int}{n:Nat}{g:g5}{bF:eF}{D:iv}{σ:St}{H:av}(Pv:Nat->St->av->Prop)(h0:Pv 0 σ H)
  (ay:∀i σ H,i<n->Pv i σ H->g (.int (lo+i)) σ H λcD aw=>bF {D with cN:=Pv (i+1),fY:=Pv (i+1),cS:=D.cN} cD aw) (hd:∀σ H,Pv n σ H->D.cN σ H):ed (mF lo n) g bF D σ H:=adI Pv h0 ay hd
def ed.list{K:bk}(Pv:Nat->St->av->Prop)(h0:Pv 0 σ H)(aK:∀i σ H,i<=↑xs->Pv i σ H->az K H a xs)
  (ay:∀i x σ H,xs[i]?\x->Pv i σ H->g x σ H λcD aw=>bF {D with cN:=Pv (i+1),fY:=Pv (i+1),cS:=D.cN} cD aw) (hd:∀σ H,Pv ↑xs σ H->D.cN σ H):ed (pC K a) g bF D σ H:=Z0 Pv h0 aK ay hd
def cY.list{K:bk}(Pv:Nat->List V->av->Prop)(aQ:↑xs<=sizeLine)(h0:Pv 0 [] H)(aK:∀i ys H,i<=↑xs->Pv i ys H->az K H a xs/\↑ys<=i)
  (ay:∀i x ys H,xs[i]?\x->Pv i ys H->qm Pv g c9 bW dA i x ys H) (hd:∀ys H,Pv ↑xs ys H->∀p,H p=none->Q ⇑p (upd H p (.lst ys))):cY (pC K a) g c9 bW dA Q H:=abK Pv aQ h0 aK ay hd
def cY.a'(Pv:Nat->List V->av->Prop)(aQ:↑xs<=sizeLine)(h0:Pv 0 [] H)(aK:∀i ys H,i<=↑xs->Pv i ys H->↑ys<=i)
  (ay:∀i x ys H,xs[i]?\x->Pv i ys H->qm Pv g c9 bW dA i x ys H) (hd:∀ys H,Pv ↑xs ys H->∀p,H p=none->Q ⇑p (upd H p (.lst ys))):cY (xn xs) g c9 bW dA Q H:=amQ Pv aQ h0 aK ay hd
def cY.range{lo:Int}{n:Nat}{g:g5}{c9:TT}{bW:TE}{dA:St}{Q:cV}{H:av}(Pv:Nat->List V->av->Prop)(aQ:n<=sizeLine)(h0:Pv 0 [] H)(aK:∀i ys H,i<=n->Pv i ys H->↑ys<=i)
  (ay:∀i ys H,i<n->Pv i ys H->qm Pv g c9 bW dA i (.int (lo+i)) ys H) (hd:∀ys H,Pv n ys H->∀p,H p=none->Q ⇑p (upd H p (.lst ys))):cY (mF lo n) g c9 bW dA Q H:=agI Pv aQ h0 aK ay hd
def aof{α β:Type}{xs:List α}{i:Nat}{x:α}(f:α->β)(h:xs[i]?\x):(xs.take (i+1)).map f=(xs.take i).map f++[f x]:=by
 rw[oc,h,e'];rfl
def cY.abr{xs:List V}{g:g5}{bW:TE}{dA:St}{Q:cV}{H:av}(f:V->V)(aQ:↑xs<=sizeLine)(ay:∀(i:Nat) (x:V) (N:V->av->Prop),xs[i]?\x->N (f x) H->g x dA H λcD aw=>Sub dA cD/\bW cD aw N)
  (hd:∀p,H p=none->Q ⇑p (upd H p (.lst (xs.map f)))):cY (xn xs) g rA bW dA Q H:=by
 refine cY.a' (λi ys I=>I=H/\ys=(xs.take i).map f) aQ (rfl,rfl) (λi ys I ah ⟨_,e⟩=>?_) (λi x ys I ag ⟨aq,aD⟩ N bl=>?_) (λys I ⟨aq,aD⟩ p ar=>?_)
 .rw [e,aX,hC];omega
 .subst aq;exact ay i x (λy cn=>N (ys++[y]) cn) ag (bl _ _ (rfl,by rw[aD,aof f ag]))
 .subst aq;rw[aD,i5];exact hd p ar
def cY.SH{lo:Int}{n:Nat}{g:g5}{bW:TE}{dA:St}{Q:cV}{H:av}(f:Nat->V)(aQ:n<=sizeLine)(ay:∀(i:Nat) (N:V->av->Prop),i<n->N (f i) H->g (.int (lo+i)) dA H λcD aw=>Sub dA cD/\bW cD aw N)
  (hd:∀p,H p=none->Q ⇑p (upd H p (.lst ((fb n).map f)))):cY (mF lo n) g rA bW dA Q H:=by
 refine cY.range (λi ys I=>I=H/\ys=(fb i).map f) aQ (rfl,rfl) (λi ys I ah ⟨_,e⟩=>?_) (λi ys I ah ⟨aq,aD⟩ N bl=>?_) (λys I ⟨aq,aD⟩ p ar=>?_)
 .rw [e,aX,sb];exact bQ _
 .subst aq;exact ay i (λy cn=>N (ys++[y]) cn) ah (bl _ _ (rfl,by rw[aD,wJ,e'];rfl))
 .subst aq;rw[aD];exact hd p ar
theorem cY.adt{K:bk}(f:V->gb)(aK:az K H a xs)(aQ:↑xs<=sizeLine)(a8:∀x,q9 (f x)=true)
  (ay:∀(i:Nat) (x:V) (H1:av) (N:V->av->Prop),xs[i]?\x->aN H H1->(aL H->aL H1)->(∀q,H1 q=none->N ⇑q (upd H1 q (f x)))->g x dA H1 λcD aw=>Sub dA cD/\bW cD aw N)
  (hd:∀(qs:List Addr) (H1:av),aN H H1->(aL H->aL H1)->↑qs=↑xs->(∀(j:Nat) (q:Addr) (x:V),qs[j]?\q->xs[j]?\x->H1 q\(f x)/\H q=none)->∀p,H1 p=none->Q ⇑p (upd H1 p (.lst (qs.map V.ref)))):cY (pC K a) g rA bW dA Q H:=by
 refine cY.list (λi ys I=>∃qs:List Addr,ys=qs.map V.ref/\↑qs=i/\aN H I/\(aL H->aL I)/\∀(j:Nat) (q:Addr) (x:V),qs[j]?\q->xs[j]?\x->I q\(f x)/\H q=none) aQ
  ([],rfl,rfl,aN.refl H,id,λj q x h _=>by simp at h) ?_ ?_ ?_
 .rintro i ys I ah bj;refine Sl λtu aV=>?_
  let(qs,e,aD,bw,_,_):=bj;subst aV;exact(aK.same bw,by rw[e,aX];omega)
 .rintro i x ys I ag ⟨qs,aq,aD,bw,bC,al⟩ N bl;refine ay i x I (fun y cn=>N (ys++[y]) cn) ag bw bC fun q aI=>bl _ _ ⟨qs++[q],by rw[aq,e'];rfl,by rw[cB,aD];rfl,bw.hS (bw.free aI),fun n=>(bC n).upd (a8 x),fun j dY eP ae ak=>?_⟩
  by_cases aJ:j<↑qs
  .rw [lC aJ]at ae;let(gA,eu):=al j dY eP ae ak;exact(by rw[aP (dm gA aI)];exact gA,eu)
  .rw[kz ()]at ae;have qM:j-↑qs=0:=by
    cases bT:j-↑qs with
    |zero=>rfl
    |succ n=>rw[bT]at ae;simp at ae
   rw[qM]at ae;have bV:q=dY:=by simpa using ae
   subst bV;have eC:j=i:=()
   subst eC;rw[ag]at ak;cases ak;exact(aR,bw.free aI)
 .intro ys I (qs,aq,aD,bw,bC,al) p ar;subst aq;exact hd qs I bw bC aD al p ar
def ed.of(Pv:Nat->St->av->Prop)(h0:Pv 0 σ H)(vX:∀i σ H,i<n->Pv i σ H->bz.go i H)(e9:∀σ H,Pv n σ H->bz.stop n H)
  (ay:∀i σ H x I,i<n->Pv i σ H->bz.ro i H x I->g x σ I λcD aw=>bF {D with cN:=Pv (i+1),fY:=Pv (i+1),cS:=D.cN} cD aw) (hd:∀σ H,Pv n σ H->D.cN σ H):ed bz g bF D σ H:=by
 refine(λi m σ H=>m=n-i/\i<=n/\Pv i σ H,(n,by simp,eW _,h0),?_);intro i m σ H (rfl,ah,p);by_cases dK:i<n
 .exact .inr (vX i σ H dK p,Pv (i+1),λau I m8=>(n-(i+1),(),rfl,dK,m8),λx I y=>ay i σ H x I dK p y)
 .have e:i=n:=()
  subst e;exact .inl (e9 σ H p,hd σ H p)
def cY.of(Pv:Nat->List V->av->Prop)(aQ:n<=sizeLine)(h0:Pv 0 [] H)(vX:∀i ys H,i<n->Pv i ys H->bz.go i H)(e9:∀ys H,Pv n ys H->bz.stop n H)(aK:∀i ys H,i<n->Pv i ys H->↑ys<=i)
  (ay:∀i ys H x I,i<n->Pv i ys H->bz.ro i H x I->qm Pv g c9 bW dA i x ys I) (hd:∀ys H,Pv n ys H->∀p,H p=none->Q ⇑p (upd H p (.lst ys))):cY bz g c9 bW dA Q H:=by
 refine(λi m ys H=>m=n-i/\i<=n/\Pv i ys H,(n,by simp,eW _,h0),?_);intro i m ys H (rfl,ah,p);by_cases dK:i<n
 .have C5:=aK i ys H dK p;refine .inr (vX i ys H dK p,(),λx I y=>?_);exact ay i ys H x I dK p y (λjR I=>∃dU,dU<n-i/\dU=n-(i+1)/\i+1<=n/\Pv (i+1) jR I) λjR I r=>(n-(i+1),(),rfl,dK,r)
 .have e:i=n:=()
  subst e;exact .inl (e9 ys H p,hd ys H p)
section
variable{K:bk}{a b:Addr}{xs ys:List V}{g:g5}{bF:eF}{D:iv}{σ dA:St}{H:av}{c9:TT}{bW:TE}{Q:cV}
def ed.enum(Pv:Nat->St->av->Prop)(h0:Pv 0 σ H)(aK:∀i σ H,i<=↑xs->Pv i σ H->az K H a xs)
  (ay:∀i x σ H p,xs[i]?\x->Pv i σ H->H p=none->g ⇑p σ (upd H p (.tup [.int i,x])) λcD aw=>bF {D with cN:=Pv (i+1),fY:=Pv (i+1),cS:=D.cN} cD aw) (hd:∀σ H,Pv ↑xs σ H->D.cN σ H):ed (BZ K a) g bF D σ H:=by
 refine ed.of (n:=↑xs) Pv h0 (λi σ H ah p=>(xs,xs[i],aK i σ H (nv ah) p,by simp[ah])) (λσ H p=>(xs,aK _ σ H (bQ _) p,bQ _)) (λi σ H v I ah p y=>?_) hd;let(q,x,aI,rfl,ag,rfl):=y;exact ay i x σ H q (ag xs (aK i σ H (nv ah) p)) p aI
def ed.zip(Pv:Nat->St->av->Prop)(h0:Pv 0 σ H)(aK:∀i σ H,i<=↑xs->Pv i σ H->az K H a xs/\az K H b ys)(n:Nat)(a8:n=min ↑xs ↑ys)
  (ay:∀i x y σ H p,xs[i]?\x->ys[i]?\y->Pv i σ H->H p=none->g ⇑p σ (upd H p (.tup [x,y])) λcD aw=>bF {D with cN:=Pv (i+1),fY:=Pv (i+1),cS:=D.cN} cD aw) (hd:∀σ H,Pv n σ H->D.cN σ H):ed (Dq K a b) g bF D σ H:=by
 subst a8;refine ed.of (n:=min ↑xs ↑ys) Pv h0 (λi σ H ah p=>?_) (λσ H p=>?_) (λi σ H v I ah p y=>?_) hd
 .let(gA,eu):=aK i σ H () p;exact(xs,ys,xs[i],ys[i],gA,eu,by rw[a6 ()],by rw[a6 ()])
 .let(gA,eu):=aK _ σ H () p;exact(xs,ys,gA,eu,())
 .let(q,x,y,aI,rfl,ag,aM,rfl):=y;let(gA,eu):=aK i σ H () p;exact ay i x y σ H q (ag xs gA) (aM ys eu) p aI
def cY.enum(Pv:Nat->List V->av->Prop)(aQ:↑xs<=sizeLine)(h0:Pv 0 [] H)(aK:∀i ys H,i<=↑xs->Pv i ys H->az K H a xs/\↑ys<=i)
  (ay:∀i x ys H p,xs[i]?\x->Pv i ys H->H p=none->qm Pv g c9 bW dA i ⇑p ys (upd H p (.tup [.int i,x]))) (hd:∀ys H,Pv ↑xs ys H->∀p,H p=none->Q ⇑p (upd H p (.lst ys))):cY (BZ K a) g c9 bW dA Q H:=by
 refine cY.of (n:=↑xs) Pv aQ h0 (λi ys H ah p=>(xs,xs[i],(aK i ys H (nv ah) p).1,by simp[ah])) (λys H p=>(xs,(aK _ ys H (bQ _) p).1,bQ _)) (λi ys H ah p=>(aK i ys H (nv ah) p).2) (λi zs H v I ah p y=>?_) hd;let(q,x,aI,rfl,ag,rfl):=y;exact ay i x zs H q (ag xs (aK i zs H (nv ah) p).1) p aI
def aht{p:Addr}{x y:V}(h:dM K H p [x,y])(q:R ((σ.set i (some x)).set j (some y)) H):wO K 2 (tO (gU i) (tO (gU j) wS)) ⇑p σ H R:=
 (p,_,rfl,h,rfl,x,_,rfl,y,_,rfl,rfl,q)
def ui{p:Addr}{x y:V}(q:R ((σ.set i (some x)).set j (some y)) (upd H p (.tup [x,y]))):wO K 2 (tO (gU i) (tO (gU j) wS)) ⇑p σ (upd H p (.tup [x,y])) R:=
 aht (.inl (.inl aR)) q
end
theorem Sub.Qo{v w:Option V}:Sub (none::none::r) (v::w::r):=by
 refine(rfl,λi u h=>?_)
 match i with
 |0=>cases h
 |1=>cases h
 |i+2=>exact h
theorem Sub.wa{v w z:Option V}:Sub (none::none::none::r) (v::w::z::r):=by
 refine(rfl,λi u h=>?_)
 match i with
 |0=>cases h
 |1=>cases h
 |2=>cases h
 |i+3=>exact h
def cY.mD{K:bk}(aK:az K H a xs)(aQ:↑xs<=sizeLine)(he:↑zs=↑xs)
  (ay:∀(i:Nat) (x z:V) (N:V->av->Prop),xs[i]?\x->zs[i]?\z->N z H->g x dA H λcD aw=>Sub dA cD/\bW cD aw N) (hd:∀p,H p=none->Q ⇑p (upd H p (.lst zs))):cY (pC K a) g rA bW dA Q H:=by
 refine cY.list (λi ys I=>I=H/\ys=zs.take i) aQ (rfl,rfl) (λi ys I ah ⟨eh,e⟩=>?_) (λi x ys I ag ⟨aq,aD⟩ N bl=>?_) (λys I ⟨aq,aD⟩ p ar=>?_)
 .subst eh;exact(aK,by rw[e,hC];omega)
 .subst aq;have ah:i<↑zs:=by rw[he];exact(b0.mp ag).1
  have h3:zs[i]?\zs[i]:=a6 ah;exact ay i x zs[i] (λy cn=>N (ys++[y]) cn) ag h3 (bl _ _ (rfl,by rw[aD,oc,h3];rfl))
 .subst aq;rw[aD,<- he,i5];exact hd p ar
def cY.agn{K:bk}(aK:dM K H a xs)(aQ:↑xs<=sizeLine)(he:↑zs=↑xs)
  (ay:∀(i:Nat) (x z:V) (N:V->av->Prop),xs[i]?\x->zs[i]?\z->N z H->g x dA H λcD aw=>Sub dA cD/\bW cD aw N) (hd:∀p,H p=none->Q ⇑p (upd H p (.lst zs))):cY (D1 K a) g rA bW dA Q H:=by
 refine acY (xs:=xs) (λi ys I=>I=H/\ys=zs.take i) aQ (rfl,rfl) (λi ys I ah ⟨eh,e⟩=>?_) (λi x ys I ag ⟨aq,aD⟩ N bl=>?_) (λys I ⟨aq,aD⟩ p ar=>?_)
 .subst eh;exact(aK,by rw[e,hC];omega)
 .subst aq;have ah:i<↑zs:=by rw[he];exact(b0.mp ag).1
  have h3:zs[i]?\zs[i]:=a6 ah;exact ay i x zs[i] (λy cn=>N (ys++[y]) cn) ag h3 (bl _ _ (rfl,by rw[aD,oc,h3];rfl))
 .subst aq;rw[aD,<- he,i5];exact hd p ar
def cY.w1{K:bk}{a:Addr}{xs:List V}{ss:List (Option V)}{g:g5}{c9:TT}{bW:TE}{dA:St}{Q:cV}{H:av}(aK:az K H a xs)(aQ:↑xs<=sizeLine)(he:↑ss=↑xs)
  (ay:∀(i:Nat) (x:V) (o:Option V) (ys:List V) (N:List V->av->Prop),xs[i]?\x->ss[i]?\o->N (ys++o.toList) H->g x dA H λcD aw=>Sub dA cD/\c9 cD aw λc ba=>if c=true then bW cD ba λy cn=>N (ys++[y]) cn else N ys ba)
  (hd:∀p,H p=none->Q ⇑p (upd H p (.lst (ss.flatMap xe)))):cY (pC K a) g c9 bW dA Q H:=by
 refine cY.list (λi ys I=>I=H/\ys=(ss.take i).flatMap xe/\↑ys<=i) aQ (rfl,rfl,bQ _) (λi ys I ah ⟨eh,e,bD⟩=>?_) (λi x ys I ag ⟨aq,aD,bV⟩ N bl=>?_) (λys I ⟨aq,aD,_⟩ p ar=>?_)
 .subst eh;exact(aK,bD)
 .subst aq;have ah:i<↑ss:=by rw[he];exact(b0.mp ag).1
  have h3:ss[i]?\ss[i]:=a6 ah;refine ay i x ss[i] ys N ag h3 (bl _ _ (rfl,by rw[aD,oc,h3,xN];simp,?_));rw[cB];cases ss[i] <;> simp <;> omega
 .subst aq;rw[aD,<- he,i5];exact hd p ar
def cY.akW{lo:Int}{n:Nat}{ss:List (Option V)}{g:g5}{c9:TT}{bW:TE}{dA:St}{Q:cV}{H:av}(aQ:n<=sizeLine)(he:↑ss=n)
  (ay:∀(i:Nat) (o:Option V) (ys:List V) (N:List V->av->Prop),i<n->ss[i]?\o->N (ys++o.toList) H->g (.int (lo+i)) dA H λcD aw=>Sub dA cD/\c9 cD aw λc ba=>if c=true then bW cD ba λy cn=>N (ys++[y]) cn else N ys ba)
  (hd:∀p,H p=none->Q ⇑p (upd H p (.lst (ss.flatMap xe)))):cY (mF lo n) g c9 bW dA Q H:=by
 refine cY.range (λi ys I=>I=H/\ys=(ss.take i).flatMap xe/\↑ys<=i) aQ (rfl,rfl,bQ _) (λi ys I ah ⟨eh,e,bD⟩=>bD) (λi ys I ah ⟨aq,aD,bV⟩ N bl=>?_) (λys I ⟨aq,aD,_⟩ p ar=>?_)
 .subst aq;have fS:i<↑ss:=()
  have h3:ss[i]?\ss[i]:=a6 fS;refine ay i ss[i] ys N ah h3 (bl _ _ (rfl,by rw[aD,oc,h3,xN];simp,?_));rw[cB];cases ss[i] <;> simp <;> omega
 .subst aq;rw[aD,<- he,i5];exact hd p ar
theorem ajb(Pv:St->av->Prop)(zS:St->av->Nat)(h0:Pv σ H)
  (ay:∀σ H,Pv σ H->∃b:Bool,(∀Q:Bool->av->Prop,Q b H->c σ H Q)/\(b=true->bF {D with cN:=λau I=>Pv au I/\zS au I<zS σ H,fY:=λau I=>Pv au I/\zS au I<zS σ H,cS:=D.cN} σ H)/\(b=false->D.cN σ H)):P9 c bF D σ H:=by
 refine(λm σ H=>m=zS σ H/\Pv σ H,(_,rfl,h0),?_);intro m σ H (rfl,p);let(b,aB,ae,ak):=ay σ H p;refine aB _ ?_;cases b with
 |true=>exact(_,λau I ⟨m8,l⟩=>(_,l,rfl,m8),ae rfl)
 |false=>exact ak rfl
theorem Sub.name:Sub (none::r) (v::r):=by
 refine(rfl,λi w h=>?_);cases i with
 |zero=>cases h
 |succ i=>exact h
def b'{x:Str}{e:Expr}(bl:X.N.Nodup)(he:bA X e bW)(ah:autoParam (X.N[i]?\x) A'r)(ag:Loc X.env.scope x:=by exact n0 rfl)(ay:swapsWith e (some (.Name x pos')) pos.line X.env=pure false:=by rfl)(hf:X.fn x=true\/X.env.scope.names.lookup x\.local:=by first|exact .inl rfl|exact .inr rfl|assumption):hY X (.Assign [.Name x pos'] e pos) (vf bW (gU i)):=o1 bl ah ag he ay hf
def b8{x:Str}(bl:X.N.Nodup)(ah:autoParam (X.N[i]?\x) A'r)(ag:Loc X.env.scope x:=by exact n0 rfl)(hf:X.fn x=true\/X.env.scope.names.lookup x\.local:=by first|exact .inl rfl|exact .inr rfl|assumption):p4 X (.Name x pos) (gU i):=R8 bl ah ag hf
def bZ(ao:xu X r)(aO:bA X a a_)(aa:bA X b bF)(ay:Se b:=by exact λ_ _=>rfl):bA X (.Subscript a b pos) (tn r a_ bF):=agu ao aO aa ay
def b3{k:Nat}{fd:FuncData}{x:Str}{p pos:Pos}{e:Expr}{t:fH}(F:cE X.prog X.w X.K X.mg X.base dq k f fd ps sp)(ao:eY k X.A)(hm:X.mg x\⇑f)(ax:tH X.K ⇑f=true)(aa:b5 X.K fd ps [])(aO:h8 X (e::aU) t)(a7:autoParam (k1 X x) A'r)(pw:autoParam ((x==("__debug__":Str))=false) A'd)(he:autoParam (starEach (e::aU) X.env=(p'p false (eval e X.env))::starEach aU X.env) A'r)(c2:autoParam ((backTo pos (starEach aU X.env)).any (·.1)=false) A'r):bA X (.Call (.Name x p) (e::aU) [] pos) (xO sp [] I9 t):=YB F ao a7 hm ax aa .nil c3 aO pw he c2
end L2
local macro_rules|`(tactic|nofun)=>do let f(s:String):=(s.splitOn " ").toArray.map fun x=>Lean.mkCIdent x.toName;let c:=f "L2.BT L2.r3 L2.De L2.Jv L2.Hh L2.Ib L2.MN L2.G0 L2.I3 L2.Kj L2.gy L2.dT L2.NV L2.Bc L2.Kn L2.Mr L2.gU L2.wS L2.tO L2.wO L2.vf L2.Hp L2.H6 L2.tn L2.F1 L2.xU L2.pR L2.C8 L2.Kp L2.Iu L2.IN L2.AC L2.F' L2.Pg L2.OF L2.Hk L2.yB L2.G1 L2.I2 L2.GH L2.xO L2.VW L2.OA L2.Ei L2.FY L2.Ll L2.N1 L2.Qb L2.Mw L2.Iy L2.K7 L2.Nq L2.EE L2.MI L2.Nh L2.F5 L2.LJ L2.KO L2.KW L2.JX L2.LP L2.FO L2.Nc L2.Nj L2.M' L2.O4 L2.rA L2.FP L2.GT L2.FZ L2.Ks L2.Ss L2.HZ L2.J' L2.Lb L2.LW L2.rI L2.I_ L2.FR L2.FX L2.H2 L2.G_ L2.V_ L2.Np L2.XR L2.Rp L2.P6 L2.U5 L2.Pe L2.Qv L2.SR L2.Qw L2.Wz L2.UY L2.T8 L2.start L2.XO Nat.reduceAdd Nat.reduceSub List.replicate";let a:=f "L2.td L2.ao6 L2.bc.tQ L2.bc.md L2.bc.block L2.aoP L2.adX L2.adE L2.YT L2.aaP L2.acQ L2.anv L2.agM L2.ait L2.aay L2.afU L2.ahe L2.aoD L2.aiK"++c;let b:=c++f "L2.aip L2.afN L2.alq L2.afa L2.acq List.map_cons List.map_nil Option.bind_none Option.bind_some Option.join_some Option.join_none List.length_cons List.length_nil Nat.zero_add List.cons_append List.nil_append List.append_nil List.set_cons_zero List.set_cons_succ List.getElem?_cons_zero List.getElem?_cons_succ Option.some.injEq L2.V.int.injEq L2.V.bp.injEq L2.V.str.injEq L2.V.ref.injEq L2.V.ty.injEq exists_eq_left' exists_eq_left exists_and_left List.cons.injEq and_true true_and and_assoc Int.zero_add reduceCtorEq false_and exists_false and_false ite_true ite_false if_true if_false Bool.false_eq_true L2.i'a L2.i'b L2.i'c L2.Ef false_or or_false Bool.not_true Bool.not_false decide_true decide_false";`(tactic|((try dsimp only [$[$a:ident],*]);(try simp only [$[$b:ident],*])))
local macro_rules | `(tactic| walk_at "B")=>`(tactic| first | rfl | (dsimp only [L2.bc.block];done) | (dsimp only [L2.bc.block];exact rfl))
local macro_rules | `(tactic| walk_at "F")=>`(tactic| exact ⟨rfl,rfl,rfl,∅,rfl,∅,∅⟩)
namespace L2
open PySem
def cA{P:Program}{w:World}{K:bk}{mg:Str->Option Value}{base:Heap}{C:jX}{m n:Nat}{f a:Addr}{fd b:FuncData}{ps q:List Str}{sp S:bO}(h:cE P w K mg base C m f fd ps sp)(g:cE P w K mg base C n f fd ps sp->cE P w K mg base C (n+1) a b q S)(hm:autoParam (m<=n) A'd):cE P w K mg base C (n+1) a b q S:=g (h.mono hm)
end L2
set_option hygiene false
local macro_rules | `(tactic| walk_at "O")=>`(tactic| (intro vs H Q E h;repeat (first | (obtain ⟨rfl,_⟩:=h;rfl) | (obtain ⟨_,h⟩:=h))))
set_option hygiene true
set_option hygiene false
local macro_rules | `(tactic| ac_rfl)=>`(tactic| refine Sl fun tu aV=>?_)
local macro_rules | `(tactic| exists $e,0)=>`(tactic| refine LA $e (fun gQ bX=>?_) fun tu aV=>?_)
local macro_rules | `(tactic| exists $e,2)=>`(tactic| refine LA $e (fun gQ dp=>?_) fun tu aV=>?_)
local macro_rules | `(tactic| exists $e,3)=>`(tactic| refine IG $e (fun gQ bX=>?_) fun tu aV=>?_)
local macro_rules | `(tactic| exists $e,4)=>`(tactic| refine IG $e (fun D bX=>?_) fun tu aV=>?_)
local macro_rules | `(tactic| exists $e,5)=>`(tactic| refine IG $e (fun gQ dp=>?_) fun tu aV=>?_)
local macro_rules | `(tactic| exists $e,9)=>`(tactic| refine ($e) (by walk_at "O") (fun _ _ _ s H vs Q E ao h=>?_))
set_option hygiene true
namespace My
open PySem L2
local macro_rules|`(~~~$x)=>`(some (L2.V.ref $x))
abbrev j_:List Str:=["self","name"]
abbrev kH:List Str:=["stages","home"]
abbrev jC:List Str:=["least","most","members"]
abbrev lQ:List Str:=["crossing","rows"]
abbrev lA:List Str:=["self","name","start","end","off","near","least"]
abbrev sS:List Str:=["self","own_asked"]
abbrev sY:List Str:=["crossing","one","other"]
abbrev zP:List Str:=["stages","one","other"]
abbrev yP:List Str:=["_law_script","_law_k","_law_many"]
abbrev z7:List Str:=["word","signs","most"]
abbrev vP:List Str:=["chain","own","others","place"]
abbrev uw:List Str:=["_law_number"]
abbrev EA:List Str:=["self","good"]
abbrev Ny:List Str:=["self","choices"]
abbrev H7:List Str:=["self","low","high"]
abbrev CS:List Str:=["self","kind","name","start","end","off","near","least"]
abbrev Ft:List Str:=["crossing","name"]
abbrev By:List Str:=["places","way","second"]
abbrev D5:List Str:=["word","most_figures"]
abbrev xP:List Str:=["crossing","text"]
abbrev Dv:List Str:=["stages","number"]
abbrev D_:List Str:=["own","first","second"]
abbrev Ag:List Str:=["stages","home","chain"]
abbrev Bo:List Str:=["reader","places","start"]
abbrev Av:List Str:=["sort","name","start","end","off","near","least"]
abbrev x1:List Str:=["self","row","told"]
abbrev yS:List Str:=["self","crossing","rows","one","other"]
abbrev zA:List Str:=["self","stages"]
abbrev AQ:List Str:=["self","number"]
abbrev Ey:List Str:=["places","way","place"]
abbrev Kc:List Str:=["word","low","high"]
abbrev E2:List Str:=["crossing","first","second","turns","one"]
abbrev Jj:List Str:=["crossing","first","second"]
abbrev KR:List Str:=["reader","crossing","left"]
abbrev DH:List Str:=["reader","crossing","rows"]
abbrev M8:List Str:=["stages","number","following","turns"]
abbrev L7:List Str:=["stages","home","first"]
abbrev BX:List Str:=["stages","name","chain"]
abbrev Dz:List Str:=["stages","name"]
abbrev Mp:List Str:=["reader","ways"]
abbrev E3:List Str:=["reader","places","ways"]
abbrev IX:List Str:=["_law_script","_law_many"]
abbrev EP:List Str:=["_law_script","_law_most"]
abbrev DQ:List Str:=["_law_places","_law_ways_here"]
abbrev KY:List Str:=["_law_one","_law_other","_law_places"]
abbrev Kr:List Str:=["_law_ways_here","_law_one","_law_other"]
abbrev DE:List Str:=["_law_script","_law_places","_law_ways_here"]
abbrev Cp:List Str:=["_law_ways_here","_law_stages_here"]
abbrev FF:List Str:=["_law_plan","_law_names_here","_law_name","_law_found"]
abbrev C_:List Str:=["self","crossing","rows"]
abbrev CF:List Str:=["self","places","ways"]
abbrev CN:List Str:=["self","asks"]
abbrev Df:List Str:=["name","crossing"]
abbrev Dc:List Str:=["least","most","members","crossing"]
abbrev B_:List Str:=["name","self"]
abbrev Cm:List Str:=["_law_i","_law_ways_here"]
abbrev CY:List Str:=["number","stages","home"]
abbrev K1:List Str:=["crossing","rows","told"]
abbrev FJ:List Str:=["reader","crossing","left","first","members","alike"]
abbrev M0:List Str:=["stages","home","numbers"]
abbrev KH:List Str:=["stages","home","chain","stays","changes"]
abbrev L':List Str:=["stages","number","following","turns","own","sought","asks"]
abbrev ND:List Str:=["self","waited","same","others","choices","last","many"]
abbrev IY:List Str:=["one","other","stages"]
seal L2.h8 L2.bA L2.hY L2.jS L2.i8 L2.gv
noncomputable def top(i:Nat):Stmt:=PySem.Challenge.pw_lampway_k41_a_worst_row.main.body.getD i (.Pass (0,0,0,0))
def SJ:Db ["places","way","place","steps"] Ey (bx (top 9)):=∅
def ajF:Db By By (bx (top 10)):=∅
def GR:Db ["crossing","one","other","way","second"] sY (bx (top 11)):=∅
def J_:Db ["crossing","one","other","way","second"] sY (bx (top 12)):=∅
def afF:Db ["text"] ["text"] (bx (top 18)):=∅
def ads:Db z7 z7 (bx (top 19)):=∅
def anb:Db D5 D5 (bx (top 20)):=∅
def Ph:Db ["word","low","high","number"] Kc (bx (top 21)):=∅
def acI:Db ["word"] ["word"] (bx (top 22)):=∅
def agZ:Db ["text"] ["text"] (bx (top 25)):=∅
def apf:Db Ft Ft (bx (top 30)):=∅
def y1:Db ["members","homes","number","names","name"] ["members"] (bx (top 31)):=∅
def FL:Db E2 Jj (bx (top 32)):=∅
def WL:Db K1 lQ (bx (top 33)):=∅
def A7:Db FJ KR (bx (top 34)):=∅
def HU:Db ["reader","crossing","rows","least","most"] DH (bx (top 35)):=∅
def Go:Db ["crossing","rows","left"] lQ (bx (top 36)):=∅
def BQ:Db ["crossing","rows","homes","name","number"] lQ (bx (top 37)):=∅
def x_:Db ["crossing","rows","number","row","one","other"] lQ (bx (top 38)):=∅
def N9:Db ["crossing","text","rows","reader"] xP (bx (top 39)):=∅
def agh:Db Dv Dv (bx (top 40)):=∅
def ach:Db zP zP (bx (top 41)):=∅
def Tr:Db M0 kH (bx (top 43)):=∅
def ZZ:Db kH kH (bx (top 44)):=∅
def ZM:Db D_ D_ (bx (top 45)):=∅
def wi:Db ["chain","own","others","place","last","found","step","number"] vP (bx (top 46)):=∅
def vF:Db ["stages","home","own","others","found","first","second"] kH (bx (top 47)):=∅
def anG:Db kH kH (bx (top 48)):=∅
def GV:Db KH Ag (bx (top 49)):=∅
def Em:Db L' M8 (bx (top 50)):=∅
def Lj:Db ["stages","home","first","stops","number"] L7 (bx (top 51)):=∅
def qj:Db ["stages","name","chain","home","stops","rows","number","following","turn","stays"] BX (bx (top 52)):=∅
def zT:Db ["stages","name","home","chain","rows","turn"] Dz (bx (top 53)):=∅
def T':Db ["reader","places"] ["reader"] (bx (top 67)):=∅
def bn:Db ["reader","ways","name"] Mp (bx (top 68)):=∅
def aed:Db Bo Bo (bx (top 69)):=∅
def ahu:Db Av Av (bx (top 70)):=∅
def wf:Db ["reader","places","ways","sort","name","start","end","off","near","least"] E3 (bx (top 71)):=∅
def xM:Db ["text","rows","places","ways","reader"] ["text"] (bx (top 72)):=∅
def wc:Db ["_law_script","_law_k","_law_many","_law_cell","_law_seed"] yP (bx (top 76)):=∅
def sC:Db ["_law_script","_law_many","_law_letters","_law_base","_law_way","_law_at","_law_names_here","_law_k","_law_sign"] IX (bx (top 77)):=∅
def nW:Db ["_law_script","_law_most","_law_places","_law_names_here","_law_ways_here","_law_k","_law_start","_law_end","_law_sort","_law_off","_law_near"] EP (bx (top 78)):=∅
def NB:Db ["_law_places","_law_ways_here","_law_rows","_law_way"] DQ (bx (top 79)):=∅
def Ct:Db ["_law_one","_law_other","_law_places","_law_length","_law_start","_law_end"] KY (bx (top 80)):=∅
def Wr:Db ["_law_ways_here","_law_one","_law_other","_law_tram"] Kr (bx (top 81)):=∅
def mj:Db ["_law_script","_law_places","_law_ways_here","_law_some","_law_k","_law_fits","_law_j","_law_good","_law_i","_law_stages_here","_law_low","_law_more"] DE (bx (top 82)):=∅
def xF:Db ["_law_ways_here","_law_stages_here","_law_rows","_law_low","_law_high","_law_some"] Cp (bx (top 83)):=∅
def alx:Db uw uw (bx (top 84)):=∅
def rT:Db ["_law_plan","_law_names_here","_law_name","_law_found","_law_turns","_law_rows","_law_turn","_law_keeper","_law_k","_law_one","_law_shade"] FF (bx (top 85)):=∅
def qa:Db ["_law_script","_law_places","_law_ways_here","_law_stages_here","_law_plan","_law_names_here","_law_name","_law_first","_law_turns","_law_again"] ["_law_script"] (bx (top 86)):=∅
def adw:Db x1 x1 (bx (fI (top 24) 0)):=∅
def agC:Db ["self"] ["self"] (bx (fI (top 24) 1)):=∅
def anx:Db ["self"] ["self"] (bx (fI (top 24) 2)):=∅
def aoT:Db EA EA (bx (fI (top 24) 4)):=∅
def PE:Db ["self","choices","found"] Ny (bx (fI (top 24) 5)):=∅
def SN:Db ["self","low","high","found"] H7 (bx (fI (top 24) 6)):=∅
def aau:Db ["self"] ["self"] (bx (fI (top 24) 7)):=∅
def Ob:Db yS C_ (bx (fI (top 29) 0)):=∅
def ace:Db CS CS (bx (fI (top 55) 0)):=∅
def adb:Db lA lA (bx (fI (top 56) 0)):=∅
def sw:Db ["self"] ["self"] (bx (fI (top 56) 1)):=∅
def agU:Db ["self"] ["self"] (bx (fI (top 56) 2)):=∅
def ad1:Db lA lA (bx (fI (top 57) 0)):=∅
def ald:Db ["self"] ["self"] (bx (fI (top 57) 1)):=∅
def ahi:Db ["self"] ["self"] (bx (fI (top 57) 2)):=∅
def ak5:Db lA lA (bx (fI (top 58) 0)):=∅
def amB:Db ["self"] ["self"] (bx (fI (top 58) 1)):=∅
def afs:Db ["self"] ["self"] (bx (fI (top 58) 2)):=∅
def HA:Db ["self","places","ways","number","way"] CF (bx (fI (top 66) 0)):=∅
def ani:Db ["self"] ["self"] (bx (fI (top 66) 1)):=∅
def anP:Db j_ j_ (bx (fI (top 66) 2)):=∅
def abb:Db j_ j_ (bx (fI (top 66) 3)):=∅
def anA:Db zA zA (bx (fI (top 74) 0)):=∅
def Ko:Db ["self","colours","name"] ["self"] (bx (fI (top 74) 3)):=∅
def acT:Db j_ j_ (bx (fI (top 74) 4)):=∅
def NO:Db ["self","name","way","home"] j_ (bx (fI (top 74) 5)):=∅
def wW:Db ["self","asks","name","colours","own_asked"] CN (bx (fI (top 74) 6)):=∅
def ahR:Db sS sS (bx (fI (top 74) 7)):=∅
def aid:Db sS sS (bx (fI (top 74) 8)):=∅
def jp:Db ["self"] ["self"] (bx (fI (top 74) 9)):=∅
def uV:Db ND ["self"] (bx (fI (top 74) 10)):=∅
def aoj:Db AQ AQ (bx (fI (top 74) 11)):=∅
def UD:Db j_ ["self"] (bx (fI (top 74) 12)):=∅
set_option genInjectivity false in
set_option genInjectivity false in
structure bS where
 {DX LO EK EJ Et L_ LZ MF J0 xv Mk Mc Ni ci Gu Ap EN EH Be zX H4 Fv NC Nk Ld vt BJ CO zQ MR Kb DZ CP CK K5 Gb Ge EZ EU yL Lf AK EW Jn JL BY EB D9 B6 IM xE ld BE E6 BL ES DC zI FG y2 E7 Ee xp DI Dy ye CG Ek ya xR Er vh zR ul AW BN DM zg Ds EF Bu Bh AA Dt hE fR Bz kl kf kb iz dB rY lw:Addr}
 {wv NU Ba Dh FC Lm FH HN ls yE Gl IT K6 G9 G7 Cc CV B2 Ej zr Js Bs MD MX M1 vc BD C2 yb NP J8 Bd z1 Bm FK Ln No D0 Dg xS Hr Fl A4 ID Ms DV Cg BG BH FD DF Hg IL Hb Kz FU Kh AI KJ C7 NK G' Fj Hu Jt AP FT Cl DR Ci Mx xo Pi apn IH Nf KN C0 NW JP HR EV MW HK:FuncData}
 {Yd Rr Tu Op PM YR Xj VM Os Yg Vd WN:Value}
section
variable(w:World)(K:bk)(mg:Str->Option Value)(t:bS)
abbrev a0_aa:=(mg "in_bow"\⇑t.DX)/\(b9 K "in_bow" "in_bow" (top 9) t.DX t.wv)/\(mg "bows_cross"\⇑t.LO)/\(b9 K "bows_cross" "bows_cross" (top 10) t.LO t.NU)/\(mg "meet"\⇑t.EK)/\(b9 K "meet" "meet" (top 11) t.EK t.Ba)/\(mg "gap"\⇑t.EJ)/\(b9 K "gap" "gap" (top 12) t.EJ t.Dh)/\(mg "words"\⇑t.Et)/\(b9 K "words" "words" (top 18) t.Et t.FC)/\(mg "is_made_of"\⇑t.L_)/\(b9 K "is_made_of" "is_made_of" (top 19) t.L_ t.Lm)/\(mg "is_number"\⇑t.LZ)/\(b9 K "is_number" "is_number" (top 20) t.LZ t.FH)/\(mg "figured"\⇑t.MF)/\(b9 K "figured" "figured" (top 21) t.MF t.HN)/\(mg "is_name"\⇑t.J0)/\(b9 K "is_name" "is_name" (top 22) t.J0 t.ls)/\(mg "readers"\⇑t.xv)/\(b9 K "readers" "readers" (top 25) t.xv t.yE)
abbrev a0_ab:=(mg "sort_of"\⇑t.Mk)/\(b9 K "sort_of" "sort_of" (top 30) t.Mk t.Gl)/\(mg "homes_in"\⇑t.Mc)/\(b9 K "homes_in" "homes_in" (top 31) t.Mc t.IT)/\(mg "change_turns"\⇑t.Ni)/\(b9 K "change_turns" "change_turns" (top 32) t.Ni t.K6)/\(mg "names_left"\⇑t.ci)/\(b9 K "names_left" "names_left" (top 33) t.ci t.G9)/\(mg "read_members"\⇑t.Gu)/\(b9 K "read_members" "read_members" (top 34) t.Gu t.G7)/\(mg "read_stage"\⇑t.Ap)/\(b9 K "read_stage" "read_stage" (top 35) t.Ap t.Cc)/\(mg "refuse_never"\⇑t.EN)/\(b9 K "refuse_never" "refuse_never" (top 36) t.EN t.CV)/\(mg "refuse_short"\⇑t.EH)/\(b9 K "refuse_short" "refuse_short" (top 37) t.EH t.B2)/\(mg "refuse_clash"\⇑t.Be)/\(b9 K "refuse_clash" "refuse_clash" (top 38) t.Be t.Ej)/\(mg "read_stages"\⇑t.zX)/\(b9 K "read_stages" "read_stages" (top 39) t.zX t.zr)
abbrev a0_ac:=(mg "ways_in"\⇑t.H4)/\(b9 K "ways_in" "ways_in" (top 40) t.H4 t.Js)/\(mg "change"\⇑t.Fv)/\(b9 K "change" "change" (top 41) t.Fv t.Bs)/\(mg "counted_to"\⇑t.NC)/\(b9 K "counted_to" "counted_to" (top 43) t.NC t.MD)/\(mg "of_other_sort"\⇑t.Nk)/\(b9 K "of_other_sort" "of_other_sort" (top 44) t.Nk t.MX)/\(mg "place_at_first"\⇑t.Ld)/\(b9 K "place_at_first" "place_at_first" (top 45) t.Ld t.M1)/\(mg "grown"\⇑t.vt)/\(b9 K "grown" "grown" (top 46) t.vt t.vc)/\(mg "chains_to"\⇑t.BJ)/\(b9 K "chains_to" "chains_to" (top 47) t.BJ t.BD)/\(mg "stays_in_chain"\⇑t.CO)/\(b9 K "stays_in_chain" "stays_in_chain" (top 48) t.CO t.C2)/\(mg "length"\⇑t.zQ)/\(b9 K "length" "length" (top 49) t.zQ t.yb)/\(mg "asks_of_leg"\⇑t.MR)/\(b9 K "asks_of_leg" "asks_of_leg" (top 50) t.MR t.NP)
abbrev a0_ad:=(mg "lead_in"\⇑t.Kb)/\(b9 K "lead_in" "lead_in" (top 51) t.Kb t.J8)/\(mg "asks_along"\⇑t.DZ)/\(b9 K "asks_along" "asks_along" (top 52) t.DZ t.Bd)/\(mg "worst"\⇑t.CP)/\(b9 K "worst" "worst" (top 53) t.CP t.z1)/\(mg "read_ring"\⇑t.CK)/\(b9 K "read_ring" "read_ring" (top 67) t.CK t.Bm)/\(mg "read_new_name"\⇑t.K5)/\(b9 K "read_new_name" "read_new_name" (top 68) t.K5 t.FK)/\(mg "read_end"\⇑t.Gb)/\(b9 K "read_end" "read_end" (top 69) t.Gb t.Ln)/\(mg "made_way"\⇑t.Ge)/\(b9 K "made_way" "made_way" (top 70) t.Ge t.No)/\(mg "read_way"\⇑t.EZ)/\(b9 K "read_way" "read_way" (top 71) t.EZ t.D0)/\(mg "read_crossing"\⇑t.EU)/\(b9 K "read_crossing" "read_crossing" (top 72) t.EU t.Dg)/\(mg "_law_draw"\⇑t.yL)/\(b9 K "_law_draw" "_law_draw" (top 76) t.yL t.xS)
abbrev a0_ae:=(mg "_law_names"\⇑t.Lf)/\(b9 K "_law_names" "_law_names" (top 77) t.Lf t.Hr)/\(mg "_law_ways"\⇑t.AK)/\(b9 K "_law_ways" "_law_ways" (top 78) t.AK t.Fl)/\(mg "_law_text"\⇑t.EW)/\(b9 K "_law_text" "_law_text" (top 79) t.EW t.A4)/\(mg "_law_meet"\⇑t.Jn)/\(b9 K "_law_meet" "_law_meet" (top 80) t.Jn t.ID)/\(mg "_law_alike"\⇑t.JL)/\(b9 K "_law_alike" "_law_alike" (top 81) t.JL t.Ms)/\(mg "_law_stages"\⇑t.BY)/\(b9 K "_law_stages" "_law_stages" (top 82) t.BY t.DV)/\(mg "_law_stages_text"\⇑t.EB)/\(b9 K "_law_stages_text" "_law_stages_text" (top 83) t.EB t.Cg)/\(mg "_law_whole"\⇑t.D9)/\(b9 K "_law_whole" "_law_whole" (top 84) t.D9 t.BG)/\(mg "_law_comes"\⇑t.B6)/\(b9 K "_law_comes" "_law_comes" (top 85) t.B6 t.BH)/\(mg "law"\⇑t.IM)/\(b9 K "law" "law" (top 86) t.IM t.FD)
abbrev a0_af:=(mg "RowReader"\⇑t.hE)/\(dW K ⇑t.hE "__init__"\(some ⇑t.xE))/\(b9 K "__init__" "RowReader.__init__" (fI (top 24) 0) t.xE t.DF)/\(dW K ⇑t.hE "ahead"\(some ⇑t.ld))/\(b9 K "ahead" "RowReader.ahead" (fI (top 24) 1) t.ld t.Hg)/\(dW K ⇑t.hE "has_more"\(some ⇑t.BE))/\(b9 K "has_more" "RowReader.has_more" (fI (top 24) 2) t.BE t.IL)/\(dW K ⇑t.hE "take"\(some ⇑t.E6))/\(b9 K "take" "RowReader.take" (fI (top 24) 4) t.E6 t.Hb)/\(dW K ⇑t.hE "one_of"\(some ⇑t.BL))/\(b9 K "one_of" "RowReader.one_of" (fI (top 24) 5) t.BL t.Kz)/\(dW K ⇑t.hE "figures"\(some ⇑t.ES))/\(b9 K "figures" "RowReader.figures" (fI (top 24) 6) t.ES t.FU)/\(dW K ⇑t.hE "finish"\(some ⇑t.DC))/\(b9 K "finish" "RowReader.finish" (fI (top 24) 7) t.DC t.Kh)/\(mg "Stages"\⇑t.fR)/\(dW K ⇑t.fR "__init__"\(some ⇑t.zI))/\(b9 K "__init__" "Stages.__init__" (fI (top 29) 0) t.zI t.AI)/\(mg "Way"\⇑t.Bz)/\(dW K ⇑t.Bz "__init__"\(some ⇑t.FG))
abbrev a0_ag:=(b9 K "__init__" "Way.__init__" (fI (top 55) 0) t.FG t.KJ)/\(mg "CarWay"\⇑t.kl)/\(dW K ⇑t.kl "__init__"\(some ⇑t.y2))/\(b9 K "__init__" "CarWay.__init__" (fI (top 56) 0) t.y2 t.C7)/\(dW K ⇑t.kl "ready"\(some ⇑t.E7))/\(b9 K "ready" "CarWay.ready" (fI (top 56) 1) t.E7 t.NK)/\(dW K ⇑t.kl "fade"\(some ⇑t.Ee))/\(b9 K "fade" "CarWay.fade" (fI (top 56) 2) t.Ee t.G')/\(mg "FootWay"\⇑t.kf)/\(dW K ⇑t.kf "__init__"\(some ⇑t.xp))/\(b9 K "__init__" "FootWay.__init__" (fI (top 57) 0) t.xp t.Fj)/\(dW K ⇑t.kf "ready"\(some ⇑t.DI))/\(b9 K "ready" "FootWay.ready" (fI (top 57) 1) t.DI t.Hu)/\(dW K ⇑t.kf "fade"\(some ⇑t.Dy))/\(b9 K "fade" "FootWay.fade" (fI (top 57) 2) t.Dy t.Jt)/\(mg "TramWay"\⇑t.kb)/\(dW K ⇑t.kb "__init__"\(some ⇑t.ye))/\(b9 K "__init__" "TramWay.__init__" (fI (top 58) 0) t.ye t.AP)/\(dW K ⇑t.kb "ready"\(some ⇑t.CG))/\(b9 K "ready" "TramWay.ready" (fI (top 58) 1) t.CG t.FT)
abbrev a0_ah:=(dW K ⇑t.kb "fade"\(some ⇑t.Ek))/\(b9 K "fade" "TramWay.fade" (fI (top 58) 2) t.Ek t.Cl)/\(mg "Crossing"\⇑t.iz)/\(dW K ⇑t.iz "__init__"\(some ⇑t.ya))/\(b9 K "__init__" "Crossing.__init__" (fI (top 66) 0) t.ya t.DR)/\(dW K ⇑t.iz "names"\(some ⇑t.xR))/\(b9 K "names" "Crossing.names" (fI (top 66) 1) t.xR t.Ci)/\(dW K ⇑t.iz "number"\(some ⇑t.Er))/\(b9 K "number" "Crossing.number" (fI (top 66) 2) t.Er t.Mx)/\(dW K ⇑t.iz "called"\(some ⇑t.vh))/\(b9 K "called" "Crossing.called" (fI (top 66) 3) t.vh t.xo)/\(mg "Keeper"\⇑t.dB)/\(dW K ⇑t.dB "__init__"\(some ⇑t.zR))/\(b9 K "__init__" "Keeper.__init__" (fI (top 74) 0) t.zR t.Pi)/\(dW K ⇑t.dB "stage"\(some ⇑t.ul))/\(b9 K "stage" "Keeper.stage" (fI (top 74) 1) t.ul t.apn)/\(dW K ⇑t.dB "shown"\(some ⇑t.AW))/\(b9 K "shown" "Keeper.shown" (fI (top 74) 3) t.AW t.IH)/\(dW K ⇑t.dB "stage_colour"\(some ⇑t.BN))/\(b9 K "stage_colour" "Keeper.stage_colour" (fI (top 74) 4) t.BN t.Nf)
abbrev a0_ai:=(dW K ⇑t.dB "change_colour"\(some ⇑t.DM))/\(b9 K "change_colour" "Keeper.change_colour" (fI (top 74) 5) t.DM t.KN)/\(dW K ⇑t.dB "pass_turn"\(some ⇑t.zg))/\(b9 K "pass_turn" "Keeper.pass_turn" (fI (top 74) 6) t.zg t.C0)/\(dW K ⇑t.dB "settle"\(some ⇑t.Ds))/\(b9 K "settle" "Keeper.settle" (fI (top 74) 7) t.Ds t.NW)/\(dW K ⇑t.dB "stays"\(some ⇑t.EF))/\(b9 K "stays" "Keeper.stays" (fI (top 74) 8) t.EF t.JP)/\(dW K ⇑t.dB "tram_waits"\(some ⇑t.Bu))/\(b9 K "tram_waits" "Keeper.tram_waits" (fI (top 74) 9) t.Bu t.HR)/\(dW K ⇑t.dB "pick"\(some ⇑t.Bh))/\(b9 K "pick" "Keeper.pick" (fI (top 74) 10) t.Bh t.EV)/\(dW K ⇑t.dB "leave_for"\(some ⇑t.AA))/\(b9 K "leave_for" "Keeper.leave_for" (fI (top 74) 11) t.AA t.MW)/\(dW K ⇑t.dB "show_sought"\(some ⇑t.Dt))/\(b9 K "show_sought" "Keeper.show_sought" (fI (top 74) 12) t.Dt t.HK)/\(ia K t.hE)/\(q5 K t.hE t.xE)/\(gw K t.hE "ahead" t.ld)/\(gw K t.hE "has_more" t.BE)
abbrev a0_aj:=(gw K t.hE "take" t.E6)/\(gw K t.hE "one_of" t.BL)/\(gw K t.hE "figures" t.ES)/\(gw K t.hE "finish" t.DC)/\(dJ K t.hE "row")/\(dJ K t.hE "told")/\(dJ K t.hE "place")/\(ia K t.fR)/\(q5 K t.fR t.zI)/\(dJ K t.fR "crossing")/\(dJ K t.fR "many")/\(dJ K t.fR "leasts")/\(dJ K t.fR "mosts")/\(dJ K t.fR "members")/\(dJ K t.fR "sorts")/\(dJ K t.fR "homes")/\(dJ K t.fR "changes")/\(ia K t.Bz)/\(ia K t.kl)/\(q5 K t.kl t.y2)
abbrev a0_ak:=(gw K t.kl "ready" t.E7)/\(gw K t.kl "fade" t.Ee)/\(dJ K t.kl "kind")/\(dJ K t.kl "name")/\(dJ K t.kl "start")/\(dJ K t.kl "end")/\(dJ K t.kl "off")/\(dJ K t.kl "near")/\(dJ K t.kl "least")/\(ia K t.kf)/\(q5 K t.kf t.xp)/\(gw K t.kf "ready" t.DI)/\(gw K t.kf "fade" t.Dy)/\(dJ K t.kf "kind")/\(dJ K t.kf "name")/\(dJ K t.kf "start")/\(dJ K t.kf "end")/\(dJ K t.kf "off")/\(dJ K t.kf "near")/\(dJ K t.kf "least")
abbrev a0_al:=(ia K t.kb)/\(q5 K t.kb t.ye)/\(gw K t.kb "ready" t.CG)/\(gw K t.kb "fade" t.Ek)/\(dJ K t.kb "kind")/\(dJ K t.kb "name")/\(dJ K t.kb "start")/\(dJ K t.kb "end")/\(dJ K t.kb "off")/\(dJ K t.kb "near")/\(dJ K t.kb "least")/\(ia K t.iz)/\(q5 K t.iz t.ya)/\(gw K t.iz "names" t.xR)/\(gw K t.iz "number" t.Er)/\(gw K t.iz "called" t.vh)/\(dJ K t.iz "places")/\(dJ K t.iz "ways")/\(dJ K t.iz "numbers")/\(ia K t.dB)
abbrev a0_am:=(q5 K t.dB t.zR)/\(gw K t.dB "stage" t.ul)/\(gw K t.dB "shown" t.AW)/\(gw K t.dB "stage_colour" t.BN)/\(gw K t.dB "change_colour" t.DM)/\(gw K t.dB "pass_turn" t.zg)/\(gw K t.dB "settle" t.Ds)/\(gw K t.dB "stays" t.EF)/\(gw K t.dB "tram_waits" t.Bu)/\(gw K t.dB "pick" t.Bh)/\(gw K t.dB "leave_for" t.AA)/\(gw K t.dB "show_sought" t.Dt)/\(dJ K t.dB "stages")/\(dJ K t.dB "showing")/\(dJ K t.dB "lasted")/\(dJ K t.dB "left")/\(dJ K t.dB "sought")/\(dJ K t.dB "gone")/\(dJ K t.dB "waiting")/\(dJ K t.dB "picked")
abbrev a0_an:=(t.kl≠t.kf)/\(t.kl≠t.kb)/\(t.kf≠t.kb)/\(OL K t.Bz "__init__" t.FG)/\(mg "FIGURES"\t.Yd)/\(be (.str (af "0123456789")) t.Yd)/\(mg "LEAST_PLACES"\t.Rr)/\(be (.int 2) t.Rr)/\(mg "LETTERS"\t.Tu)/\(be (.str (af "abcdefghijklmnopqrstuvwxyz")) t.Tu)/\(mg "MOST_FIGURES"\t.Op)/\(be (.int 3) t.Op)/\(mg "MOST_LEAST"\t.PM)/\(be (.int 60) t.PM)/\(mg "MOST_LETTERS"\t.YR)/\(be (.int 8) t.YR)/\(mg "MOST_NEAR"\t.Xj)/\(be (.int 30) t.Xj)/\(mg "MOST_OFF"\t.VM)/\(be (.int 30) t.VM)
abbrev a0_ao:=(mg "MOST_PLACES"\t.Os)/\(be (.int 99) t.Os)/\(mg "MOST_STAGES"\t.Yg)/\(be (.int 6) t.Yg)/\(mg "MOST_TURNS"\t.Vd)/\(be (.int 60) t.Vd)/\(mg "MOST_WAYS"\t.WN)/\(be (.int 12) t.WN)/\(mg "all"=none)/\(mg "any"=none)/\(mg "bool"=none)/\(mg "enumerate"=none)/\(mg "int"=none)/\(mg "isinstance"=none)/\(mg "len"=none)/\(mg "list"=none)/\(mg "max"=none)/\(mg "min"=none)/\(mg "range"=none)/\(mg "str"=none)
abbrev a0_ap:=(mg "sum"=none)/\(mg "tuple"=none)/\(mg "zip"=none)/\(t.EV.code=⇑t.rY)/\(t.z1.code=⇑t.lw)/\(∀(s:Shared) (u:Value),BindsTo s t.FD ([u],[]) [(p'p ("_law_script") u)])
end
structure Txt(w:World)(K:bk)(mg:Str->Option Value)(t:bS):Prop where
 jo:a0_aa K mg t
 jh:a0_ab K mg t
 ju:a0_ac K mg t
 jt:a0_ad K mg t
 jy:a0_ae K mg t
 oE:a0_af K mg t
 nH:a0_ag K mg t
 pM:a0_ah K mg t
 n4:a0_ai K t
 j2:a0_aj K t
 jx:a0_ak K t
 jA:a0_al K t
 jG:a0_am K t
 jv:a0_an K mg t
 jw:a0_ao mg t
 vG:a0_ap mg t
section
variable{w:World}{K:bk}{mg:Str->Option Value}{t:bS}(T:Txt w K mg t)
include T
def Txt.UC:=T.jo.1
def Txt.Du:=T.jo.2.1
def Txt.adU:=T.jo.2.2.1
def Txt.Hl:=T.jo.2.2.2.1
def Txt.Ye:=T.jo.2.2.2.2.1
def Txt.Ff:=T.jo.2.2.2.2.2.1
def Txt.agy:=T.jo.2.2.2.2.2.2.1
def Txt.JY:=T.jo.2.2.2.2.2.2.2.1
def Txt.anm:=T.jo.2.2.2.2.2.2.2.2.1
def Txt.MB:=T.jo.2.2.2.2.2.2.2.2.2.1
def Txt.XA:=T.jo.2.2.2.2.2.2.2.2.2.2.1
def Txt.C6:=T.jo.2.2.2.2.2.2.2.2.2.2.2.1
def Txt.alM:=T.jo.2.2.2.2.2.2.2.2.2.2.2.2.1
def Txt.H_:=T.jo.2.2.2.2.2.2.2.2.2.2.2.2.2.1
def Txt.ai9:=T.jo.2.2.2.2.2.2.2.2.2.2.2.2.2.2.1
def Txt.LC:=T.jo.2.2.2.2.2.2.2.2.2.2.2.2.2.2.2.1
def Txt.aaW:=T.jo.2.2.2.2.2.2.2.2.2.2.2.2.2.2.2.2.1
def Txt.Kk:=T.jo.2.2.2.2.2.2.2.2.2.2.2.2.2.2.2.2.2.1
def Txt.R9:=T.jo.2.2.2.2.2.2.2.2.2.2.2.2.2.2.2.2.2.2.1
def Txt.ut:=T.jo.2.2.2.2.2.2.2.2.2.2.2.2.2.2.2.2.2.2.2
def Txt.Mt:=T.jh.1
def Txt.x6:=T.jh.2.1
def Txt.Mn:=T.jh.2.2.1
def Txt.zB:=T.jh.2.2.2.1
def Txt.ZS:=T.jh.2.2.2.2.1
def Txt.He:=T.jh.2.2.2.2.2.1
def Txt.PT:=T.jh.2.2.2.2.2.2.1
def Txt.Bj:=T.jh.2.2.2.2.2.2.2.1
def Txt.aoz:=T.jh.2.2.2.2.2.2.2.2.1
def Txt.J7:=T.jh.2.2.2.2.2.2.2.2.2.1
def Txt.alg:=T.jh.2.2.2.2.2.2.2.2.2.2.1
def Txt.LU:=T.jh.2.2.2.2.2.2.2.2.2.2.2.1
def Txt.akY:=T.jh.2.2.2.2.2.2.2.2.2.2.2.2.1
def Txt.J5:=T.jh.2.2.2.2.2.2.2.2.2.2.2.2.2.1
def Txt.alL:=T.jh.2.2.2.2.2.2.2.2.2.2.2.2.2.2.1
def Txt.Gw:=T.jh.2.2.2.2.2.2.2.2.2.2.2.2.2.2.2.1
def Txt.ahy:=T.jh.2.2.2.2.2.2.2.2.2.2.2.2.2.2.2.2.1
def Txt.Mm:=T.jh.2.2.2.2.2.2.2.2.2.2.2.2.2.2.2.2.2.1
def Txt.ahS:=T.jh.2.2.2.2.2.2.2.2.2.2.2.2.2.2.2.2.2.2.1
def Txt.LL:=T.jh.2.2.2.2.2.2.2.2.2.2.2.2.2.2.2.2.2.2.2
def Txt.T_:=T.ju.1
def Txt.Fd:=T.ju.2.1
def Txt.xm:=T.ju.2.2.1
def Txt.uF:=T.ju.2.2.2.1
def Txt.ah6:=T.ju.2.2.2.2.1
def Txt.Ir:=T.ju.2.2.2.2.2.1
def Txt.afr:=T.ju.2.2.2.2.2.2.1
def Txt.HY:=T.ju.2.2.2.2.2.2.2.1
def Txt.abF:=T.ju.2.2.2.2.2.2.2.2.1
def Txt.K4:=T.ju.2.2.2.2.2.2.2.2.2.1
def Txt.KQ:=T.ju.2.2.2.2.2.2.2.2.2.2.1
def Txt.wN:=T.ju.2.2.2.2.2.2.2.2.2.2.2.1
def Txt.agm:=T.ju.2.2.2.2.2.2.2.2.2.2.2.2.1
def Txt.MG:=T.ju.2.2.2.2.2.2.2.2.2.2.2.2.2.1
def Txt.Tm:=T.ju.2.2.2.2.2.2.2.2.2.2.2.2.2.2.1
def Txt.AJ:=T.ju.2.2.2.2.2.2.2.2.2.2.2.2.2.2.2.1
def Txt.UK:=T.ju.2.2.2.2.2.2.2.2.2.2.2.2.2.2.2.2.1
def Txt.EG:=T.ju.2.2.2.2.2.2.2.2.2.2.2.2.2.2.2.2.2.1
def Txt.Pj:=T.ju.2.2.2.2.2.2.2.2.2.2.2.2.2.2.2.2.2.2.1
def Txt.AB:=T.ju.2.2.2.2.2.2.2.2.2.2.2.2.2.2.2.2.2.2.2
def Txt.acH:=T.jt.1
def Txt.M6:=T.jt.2.1
def Txt.ahU:=T.jt.2.2.1
def Txt.Ig:=T.jt.2.2.2.1
def Txt.RW:=T.jt.2.2.2.2.1
def Txt.CL:=T.jt.2.2.2.2.2.1
def Txt.ab8:=T.jt.2.2.2.2.2.2.1
def Txt.Jw:=T.jt.2.2.2.2.2.2.2.1
def Txt.ans:=T.jt.2.2.2.2.2.2.2.2.1
def Txt.MV:=T.jt.2.2.2.2.2.2.2.2.2.1
def Txt.acp:=T.jt.2.2.2.2.2.2.2.2.2.2.1
def Txt.Iv:=T.jt.2.2.2.2.2.2.2.2.2.2.2.1
def Txt.ab7:=T.jt.2.2.2.2.2.2.2.2.2.2.2.2.1
def Txt.Kt:=T.jt.2.2.2.2.2.2.2.2.2.2.2.2.2.1
def Txt.ant:=T.jt.2.2.2.2.2.2.2.2.2.2.2.2.2.2.1
def Txt.Ku:=T.jt.2.2.2.2.2.2.2.2.2.2.2.2.2.2.2.1
def Txt.af5:=T.jt.2.2.2.2.2.2.2.2.2.2.2.2.2.2.2.2.1
def Txt.LH:=T.jt.2.2.2.2.2.2.2.2.2.2.2.2.2.2.2.2.2.1
def Txt.g8:=T.jt.2.2.2.2.2.2.2.2.2.2.2.2.2.2.2.2.2.2.1
def Txt.gq:=T.jt.2.2.2.2.2.2.2.2.2.2.2.2.2.2.2.2.2.2.2
def Txt.Y':=T.jy.1
def Txt.N4:=T.jy.2.1
def Txt.aa8:=T.jy.2.2.1
def Txt.H5:=T.jy.2.2.2.1
def Txt.adH:=T.jy.2.2.2.2.1
def Txt.LG:=T.jy.2.2.2.2.2.1
def Txt.alf:=T.jy.2.2.2.2.2.2.1
def Txt.MS:=T.jy.2.2.2.2.2.2.2.1
def Txt.amn:=T.jy.2.2.2.2.2.2.2.2.1
def Txt.LK:=T.jy.2.2.2.2.2.2.2.2.2.1
def Txt.akG:=T.jy.2.2.2.2.2.2.2.2.2.2.1
def Txt.GY:=T.jy.2.2.2.2.2.2.2.2.2.2.2.1
def Txt.anF:=T.jy.2.2.2.2.2.2.2.2.2.2.2.2.1
def Txt.M3:=T.jy.2.2.2.2.2.2.2.2.2.2.2.2.2.1
def Txt.XP:=T.jy.2.2.2.2.2.2.2.2.2.2.2.2.2.2.1
def Txt.Ca:=T.jy.2.2.2.2.2.2.2.2.2.2.2.2.2.2.2.1
def Txt.RG:=T.jy.2.2.2.2.2.2.2.2.2.2.2.2.2.2.2.2.1
def Txt.DU:=T.jy.2.2.2.2.2.2.2.2.2.2.2.2.2.2.2.2.2.1
def Txt.acG:=T.jy.2.2.2.2.2.2.2.2.2.2.2.2.2.2.2.2.2.2.1
def Txt.afe:=T.jy.2.2.2.2.2.2.2.2.2.2.2.2.2.2.2.2.2.2.2
def Txt.ahr:=T.oE.1
def Txt.O_:=T.oE.2.2.1
def Txt.TM:=T.oE.2.2.2.2.1
def Txt.Qf:=T.oE.2.2.2.2.2.2.1
def Txt.V1:=T.oE.2.2.2.2.2.2.2.2.1
def Txt.Pf:=T.oE.2.2.2.2.2.2.2.2.2.2.1
def Txt.VG:=T.oE.2.2.2.2.2.2.2.2.2.2.2.2.1
def Txt.S2:=T.oE.2.2.2.2.2.2.2.2.2.2.2.2.2.2.1
def Txt.Z8:=T.oE.2.2.2.2.2.2.2.2.2.2.2.2.2.2.2.1
def Txt.Yz:=T.oE.2.2.2.2.2.2.2.2.2.2.2.2.2.2.2.2.2.1
def Txt.IA:=T.oE.2.2.2.2.2.2.2.2.2.2.2.2.2.2.2.2.2.2.1
def Txt.U8:=T.nH.1
def Txt.aex:=T.nH.2.1
def Txt.OS:=T.nH.2.2.2.1
def Txt.SX:=T.nH.2.2.2.2.2.1
def Txt.XW:=T.nH.2.2.2.2.2.2.2.1
def Txt.Z_:=T.nH.2.2.2.2.2.2.2.2.1
def Txt.RS:=T.nH.2.2.2.2.2.2.2.2.2.2.1
def Txt.S':=T.nH.2.2.2.2.2.2.2.2.2.2.2.2.1
def Txt.Wk:=T.nH.2.2.2.2.2.2.2.2.2.2.2.2.2.2.1
def Txt.ahB:=T.nH.2.2.2.2.2.2.2.2.2.2.2.2.2.2.2.1
def Txt.Ue:=T.nH.2.2.2.2.2.2.2.2.2.2.2.2.2.2.2.2.2.1
def Txt.W3:=T.nH.2.2.2.2.2.2.2.2.2.2.2.2.2.2.2.2.2.2.2
def Txt.Um:=T.pM.2.1
def Txt.aep:=T.pM.2.2.1
def Txt.WI:=T.pM.2.2.2.2.1
def Txt.Rt:=T.pM.2.2.2.2.2.2.1
def Txt.U2:=T.pM.2.2.2.2.2.2.2.2.1
def Txt.RO:=T.pM.2.2.2.2.2.2.2.2.2.2.1
def Txt.ab5:=T.pM.2.2.2.2.2.2.2.2.2.2.2.1
def Txt.Ur:=T.pM.2.2.2.2.2.2.2.2.2.2.2.2.2.1
def Txt.S9:=T.pM.2.2.2.2.2.2.2.2.2.2.2.2.2.2.2.2.2.1
def Txt.O7:=T.pM.2.2.2.2.2.2.2.2.2.2.2.2.2.2.2.2.2.2.2
def Txt.TR:=T.n4.2.1
def Txt.SI:=T.n4.2.2.2.1
def Txt.Qg:=T.n4.2.2.2.2.2.1
def Txt.Uu:=T.n4.2.2.2.2.2.2.2.1
def Txt.QH:=T.n4.2.2.2.2.2.2.2.2.2.1
def Txt.Xo:=T.n4.2.2.2.2.2.2.2.2.2.2.2.1
def Txt.TN:=T.n4.2.2.2.2.2.2.2.2.2.2.2.2.2.1
def Txt.Vg:=T.n4.2.2.2.2.2.2.2.2.2.2.2.2.2.2.2.1
def Txt.gu:=T.n4.2.2.2.2.2.2.2.2.2.2.2.2.2.2.2.2.1
def Txt.akB:=T.n4.2.2.2.2.2.2.2.2.2.2.2.2.2.2.2.2.2.1
def Txt.AG:=T.n4.2.2.2.2.2.2.2.2.2.2.2.2.2.2.2.2.2.2.1
def Txt.Qm:=T.n4.2.2.2.2.2.2.2.2.2.2.2.2.2.2.2.2.2.2.2
def Txt.GD:=T.j2.1
def Txt.xX:=T.j2.2.1
def Txt.sX:=T.j2.2.2.1
def Txt.Qj:=T.j2.2.2.2.1
def Txt.lv:=T.j2.2.2.2.2.1
def Txt.PN:=T.j2.2.2.2.2.2.1
def Txt.IW:=T.j2.2.2.2.2.2.2.1
def Txt.kS:=T.j2.2.2.2.2.2.2.2.1
def Txt.aoY:=T.j2.2.2.2.2.2.2.2.2.1
def Txt.QW:=T.j2.2.2.2.2.2.2.2.2.2.1
def Txt.O2:=T.j2.2.2.2.2.2.2.2.2.2.2.1
def Txt.Yw:=T.j2.2.2.2.2.2.2.2.2.2.2.2.1
def Txt.Ut:=T.j2.2.2.2.2.2.2.2.2.2.2.2.2.1
def Txt.I1:=T.j2.2.2.2.2.2.2.2.2.2.2.2.2.2.1
def Txt.Do:=T.j2.2.2.2.2.2.2.2.2.2.2.2.2.2.2.1
def Txt.Pu:=T.j2.2.2.2.2.2.2.2.2.2.2.2.2.2.2.2.1
def Txt.Rx:=T.j2.2.2.2.2.2.2.2.2.2.2.2.2.2.2.2.2.1
def Txt.GQ:=T.j2.2.2.2.2.2.2.2.2.2.2.2.2.2.2.2.2.2.2.1
def Txt.aac:=T.j2.2.2.2.2.2.2.2.2.2.2.2.2.2.2.2.2.2.2.2
def Txt.abN:=T.jx.1
def Txt.ak4:=T.jx.2.1
def Txt.Zl:=T.jx.2.2.1
def Txt.alr:=T.jx.2.2.2.1
def Txt.af3:=T.jx.2.2.2.2.1
def Txt.ajP:=T.jx.2.2.2.2.2.1
def Txt.FB:=T.jx.2.2.2.2.2.2.1
def Txt.ak2:=T.jx.2.2.2.2.2.2.2.1
def Txt.am1:=T.jx.2.2.2.2.2.2.2.2.1
def Txt.Mv:=T.jx.2.2.2.2.2.2.2.2.2.1
def Txt.ajC:=T.jx.2.2.2.2.2.2.2.2.2.2.1
def Txt.ajh:=T.jx.2.2.2.2.2.2.2.2.2.2.2.1
def Txt.afJ:=T.jx.2.2.2.2.2.2.2.2.2.2.2.2.1
def Txt.aaM:=T.jx.2.2.2.2.2.2.2.2.2.2.2.2.2.1
def Txt.ahM:=T.jx.2.2.2.2.2.2.2.2.2.2.2.2.2.2.1
def Txt.ao4:=T.jx.2.2.2.2.2.2.2.2.2.2.2.2.2.2.2.1
def Txt.akH:=T.jx.2.2.2.2.2.2.2.2.2.2.2.2.2.2.2.2.1
def Txt.ad0:=T.jx.2.2.2.2.2.2.2.2.2.2.2.2.2.2.2.2.2.1
def Txt.ahm:=T.jx.2.2.2.2.2.2.2.2.2.2.2.2.2.2.2.2.2.2.1
def Txt.abC:=T.jx.2.2.2.2.2.2.2.2.2.2.2.2.2.2.2.2.2.2.2
def Txt.ME:=T.jA.1
def Txt.ac_:=T.jA.2.1
def Txt.akZ:=T.jA.2.2.1
def Txt.adO:=T.jA.2.2.2.1
def Txt.aku:=T.jA.2.2.2.2.1
def Txt.aaV:=T.jA.2.2.2.2.2.1
def Txt.aoC:=T.jA.2.2.2.2.2.2.1
def Txt.aa9:=T.jA.2.2.2.2.2.2.2.1
def Txt.aoa:=T.jA.2.2.2.2.2.2.2.2.1
def Txt.ZY:=T.jA.2.2.2.2.2.2.2.2.2.1
def Txt.bv:=T.jA.2.2.2.2.2.2.2.2.2.2.1
def Txt.iQ:=T.jA.2.2.2.2.2.2.2.2.2.2.2.1
def Txt.ak6:=T.jA.2.2.2.2.2.2.2.2.2.2.2.2.1
def Txt.Bk:=T.jA.2.2.2.2.2.2.2.2.2.2.2.2.2.1
def Txt.akl:=T.jA.2.2.2.2.2.2.2.2.2.2.2.2.2.2.1
def Txt.o5:=T.jA.2.2.2.2.2.2.2.2.2.2.2.2.2.2.2.1
def Txt.Uy:=T.jA.2.2.2.2.2.2.2.2.2.2.2.2.2.2.2.2.1
def Txt.X1:=T.jA.2.2.2.2.2.2.2.2.2.2.2.2.2.2.2.2.2.1
def Txt.X':=T.jA.2.2.2.2.2.2.2.2.2.2.2.2.2.2.2.2.2.2.1
def Txt.fD:=T.jA.2.2.2.2.2.2.2.2.2.2.2.2.2.2.2.2.2.2.2
def Txt.anE:=T.jG.1
def Txt.ab6:=T.jG.2.2.1
def Txt.acf:=T.jG.2.2.2.1
def Txt.alS:=T.jG.2.2.2.2.1
def Txt.alI:=T.jG.2.2.2.2.2.1
def Txt.ww:=T.jG.2.2.2.2.2.2.1
def Txt.akQ:=T.jG.2.2.2.2.2.2.2.1
def Txt.ZF:=T.jG.2.2.2.2.2.2.2.2.1
def Txt.akC:=T.jG.2.2.2.2.2.2.2.2.2.1
def Txt.ai6:=T.jG.2.2.2.2.2.2.2.2.2.2.1
def Txt.Qk:=T.jG.2.2.2.2.2.2.2.2.2.2.2.1
def Txt.Uo:=T.jG.2.2.2.2.2.2.2.2.2.2.2.2.1
def Txt.CM:=T.jG.2.2.2.2.2.2.2.2.2.2.2.2.2.1
def Txt.Uf:=T.jG.2.2.2.2.2.2.2.2.2.2.2.2.2.2.1
def Txt.I7:=T.jG.2.2.2.2.2.2.2.2.2.2.2.2.2.2.2.1
def Txt.JV:=T.jG.2.2.2.2.2.2.2.2.2.2.2.2.2.2.2.2.1
def Txt.BU:=T.jG.2.2.2.2.2.2.2.2.2.2.2.2.2.2.2.2.2.1
def Txt.Vk:=T.jG.2.2.2.2.2.2.2.2.2.2.2.2.2.2.2.2.2.2.1
def Txt.UQ:=T.jG.2.2.2.2.2.2.2.2.2.2.2.2.2.2.2.2.2.2.2
def Txt.UR:=T.jv.1
def Txt.am:=T.jv.2.1
def Txt.Sj:=T.jv.2.2.1
def Txt.Ke:=T.jv.2.2.2.1
def Txt.agi:=T.jv.2.2.2.2.1
def Txt.alW:=T.jv.2.2.2.2.2.1
def Txt.aeA:=T.jv.2.2.2.2.2.2.1
def Txt.amE:=T.jv.2.2.2.2.2.2.2.1
def Txt.alR:=T.jv.2.2.2.2.2.2.2.2.1
def Txt.adp:=T.jv.2.2.2.2.2.2.2.2.2.1
def Txt.amq:=T.jv.2.2.2.2.2.2.2.2.2.2.1
def Txt.aoc:=T.jv.2.2.2.2.2.2.2.2.2.2.2.1
def Txt.anf:=T.jv.2.2.2.2.2.2.2.2.2.2.2.2.1
def Txt.alC:=T.jv.2.2.2.2.2.2.2.2.2.2.2.2.2.1
def Txt.agz:=T.jv.2.2.2.2.2.2.2.2.2.2.2.2.2.2.1
def Txt.aeC:=T.jv.2.2.2.2.2.2.2.2.2.2.2.2.2.2.2.1
def Txt.Z':=T.jv.2.2.2.2.2.2.2.2.2.2.2.2.2.2.2.2.1
def Txt.GE:=T.jv.2.2.2.2.2.2.2.2.2.2.2.2.2.2.2.2.2.1
def Txt.ad_:=T.jv.2.2.2.2.2.2.2.2.2.2.2.2.2.2.2.2.2.2.1
def Txt.ahH:=T.jv.2.2.2.2.2.2.2.2.2.2.2.2.2.2.2.2.2.2.2
def Txt.ak9:=T.jw.1
def Txt.amF:=T.jw.2.1
def Txt.ZK:=T.jw.2.2.1
def Txt.an5:=T.jw.2.2.2.1
def Txt.OV:=T.jw.2.2.2.2.1
def Txt.Ua:=T.jw.2.2.2.2.2.1
def Txt.am9:=T.jw.2.2.2.2.2.2.1
def Txt.ahO:=T.jw.2.2.2.2.2.2.2.1
def Txt.abj:=T.jw.2.2.2.2.2.2.2.2.1
def Txt.akR:=T.jw.2.2.2.2.2.2.2.2.2.1
def Txt.apd:=T.jw.2.2.2.2.2.2.2.2.2.2.1
def Txt.FE:=T.jw.2.2.2.2.2.2.2.2.2.2.2.1
def Txt.Bp:=T.jw.2.2.2.2.2.2.2.2.2.2.2.2.1
def Txt.yZ:=T.jw.2.2.2.2.2.2.2.2.2.2.2.2.2.1
def Txt.iE:=T.jw.2.2.2.2.2.2.2.2.2.2.2.2.2.2.1
def Txt.GP:=T.jw.2.2.2.2.2.2.2.2.2.2.2.2.2.2.2.1
def Txt.E8:=T.jw.2.2.2.2.2.2.2.2.2.2.2.2.2.2.2.2.1
def Txt.aik:=T.jw.2.2.2.2.2.2.2.2.2.2.2.2.2.2.2.2.2.1
def Txt.k8:=T.jw.2.2.2.2.2.2.2.2.2.2.2.2.2.2.2.2.2.2.1
def Txt.xB:=T.jw.2.2.2.2.2.2.2.2.2.2.2.2.2.2.2.2.2.2.2
def Txt.Wa:=T.vG.1
def Txt.ak3:=T.vG.2.1
def Txt.NN:=T.vG.2.2.1
def Txt.acM:=T.vG.2.2.2.1
def Txt.alZ:=T.vG.2.2.2.2.1
def Txt.ah7:=T.vG.2.2.2.2.2
def Txt.OM:b5 K t.wv Ey []:=T.Du.binds λ_ _ _ _ _ _=>h6 λ_ _ _=>rfl
def Txt.aeE:b5 K t.NU By []:=T.Hl.binds λ_ _ _ _ _ _=>h6 λ_ _ _=>rfl
def Txt.Xx:b5 K t.Ba sY []:=T.Ff.binds λ_ _ _ _ _ _=>h6 λ_ _ _=>rfl
def Txt.ajQ:b5 K t.Dh sY []:=T.JY.binds λ_ _ _ _ _ _=>h6 λ_ _ _=>rfl
def Txt.amS:b5 K t.FC ["text"] []:=T.MB.binds λ_ _ _ _ _ _=>jb λ_=>rfl
def Txt.X8:b5 K t.Lm z7 []:=T.C6.binds λ_ _ _ _ _ _=>h6 λ_ _ _=>rfl
def Txt.aca:b5 K t.FH D5 []:=T.H_.binds λ_ _ _ _ _ _=>gL λ_ _=>rfl
def Txt.ZH:b5 K t.HN Kc []:=T.LC.binds λ_ _ _ _ _ _=>h6 λ_ _ _=>rfl
def Txt.aj2:b5 K t.ls ["word"] []:=T.Kk.binds λ_ _ _ _ _ _=>jb λ_=>rfl
def Txt.Xu:b5 K t.yE ["text"] []:=T.ut.binds λ_ _ _ _ _ _=>jb λ_=>rfl
def Txt.JA:b5 K t.Gl Ft []:=T.x6.binds λ_ _ _ _ _ _=>gL λ_ _=>rfl
def Txt.F4:b5 K t.IT ["members"] []:=T.zB.binds λ_ _ _ _ _ _=>jb λ_=>rfl
def Txt.ad':b5 K t.K6 Jj []:=T.He.binds λ_ _ _ _ _ _=>h6 λ_ _ _=>rfl
def Txt.PR:b5 K t.G9 lQ []:=T.Bj.binds λ_ _ _ _ _ _=>gL λ_ _=>rfl
def Txt.Ty:b5 K t.G7 KR []:=T.J7.binds λ_ _ _ _ _ _=>h6 λ_ _ _=>rfl
def Txt.ain:b5 K t.Cc DH []:=T.LU.binds λ_ _ _ _ _ _=>h6 λ_ _ _=>rfl
def Txt.alk:b5 K t.CV lQ []:=T.J5.binds λ_ _ _ _ _ _=>gL λ_ _=>rfl
def Txt.acn:b5 K t.B2 lQ []:=T.Gw.binds λ_ _ _ _ _ _=>gL λ_ _=>rfl
def Txt.aiB:b5 K t.Ej lQ []:=T.Mm.binds λ_ _ _ _ _ _=>gL λ_ _=>rfl
def Txt.ao5:b5 K t.zr xP []:=T.LL.binds λ_ _ _ _ _ _=>gL λ_ _=>rfl
def Txt.XU:b5 K t.Js Dv []:=T.Fd.binds λ_ _ _ _ _ _=>gL λ_ _=>rfl
def Txt.zk:b5 K t.Bs zP []:=T.uF.binds λ_ _ _ _ _ _=>h6 λ_ _ _=>rfl
def Txt.ah0:b5 K t.MD kH []:=T.Ir.binds λ_ _ _ _ _ _=>gL λ_ _=>rfl
def Txt.adT:b5 K t.MX kH []:=T.HY.binds λ_ _ _ _ _ _=>gL λ_ _=>rfl
def Txt.akf:b5 K t.M1 D_ []:=T.K4.binds λ_ _ _ _ _ _=>h6 λ_ _ _=>rfl
def Txt.MQ:b5 K t.vc vP []:=T.wN.binds λ_ _ _ _ _ _=>Me λ_ _ _ _=>rfl
def Txt.abI:b5 K t.BD kH []:=T.MG.binds λ_ _ _ _ _ _=>gL λ_ _=>rfl
def Txt.QM:b5 K t.C2 kH []:=T.AJ.binds λ_ _ _ _ _ _=>gL λ_ _=>rfl
def Txt.Wj:b5 K t.yb Ag []:=T.EG.binds λ_ _ _ _ _ _=>h6 λ_ _ _=>rfl
def Txt.S1:b5 K t.NP M8 []:=T.AB.binds λ_ _ _ _ _ _=>Me λ_ _ _ _=>rfl
def Txt.ahk:b5 K t.J8 L7 []:=T.M6.binds λ_ _ _ _ _ _=>h6 λ_ _ _=>rfl
def Txt.aj':b5 K t.Bd BX []:=T.Ig.binds λ_ _ _ _ _ _=>h6 λ_ _ _=>rfl
def Txt.sK:b5 K t.z1 Dz []:=T.CL.binds λ_ _ _ _ _ _=>gL λ_ _=>rfl
def Txt.aev:b5 K t.Bm ["reader"] []:=T.Jw.binds λ_ _ _ _ _ _=>jb λ_=>rfl
def Txt.aif:b5 K t.FK Mp []:=T.MV.binds λ_ _ _ _ _ _=>gL λ_ _=>rfl
def Txt.ajW:b5 K t.Ln Bo []:=T.Iv.binds λ_ _ _ _ _ _=>h6 λ_ _ _=>rfl
def Txt.adv:b5 K t.No Av []:=T.Kt.binds λ_ _ _ _ _ _=>Eg λ_ _ _ _ _ _ _=>rfl
def Txt.ajv:b5 K t.D0 E3 []:=T.Ku.binds λ_ _ _ _ _ _=>h6 λ_ _ _=>rfl
def Txt.Ix:b5 K t.Dg ["text"] []:=T.LH.binds λ_ _ _ _ _ _=>jb λ_=>rfl
def Txt.hg:b5 K t.xS yP []:=T.gq.binds λ_ _ _ _ _ _=>h6 λ_ _ _=>rfl
def Txt.ahJ:b5 K t.Hr IX []:=T.N4.binds λ_ _ _ _ _ _=>gL λ_ _=>rfl
def Txt.acB:b5 K t.Fl EP []:=T.H5.binds λ_ _ _ _ _ _=>gL λ_ _=>rfl
def Txt.ael:b5 K t.A4 DQ []:=T.LG.binds λ_ _ _ _ _ _=>gL λ_ _=>rfl
def Txt.ZO:b5 K t.ID KY []:=T.MS.binds λ_ _ _ _ _ _=>h6 λ_ _ _=>rfl
def Txt.aio:b5 K t.Ms Kr []:=T.LK.binds λ_ _ _ _ _ _=>h6 λ_ _ _=>rfl
def Txt.adD:b5 K t.DV DE []:=T.GY.binds λ_ _ _ _ _ _=>h6 λ_ _ _=>rfl
def Txt.ana:b5 K t.Cg Cp []:=T.M3.binds λ_ _ _ _ _ _=>gL λ_ _=>rfl
def Txt.QF:b5 K t.BG uw []:=T.Ca.binds λ_ _ _ _ _ _=>jb λ_=>rfl
def Txt.Ts:b5 K t.BH FF []:=T.DU.binds λ_ _ _ _ _ _=>Me λ_ _ _ _=>rfl
def Txt.aja:b5 K t.DF x1 []:=T.O_.binds λ_ _ _ _ _ _=>h6 λ_ _ _=>rfl
def Txt.AD:b5 K t.Hg ["self"] []:=T.TM.binds λ_ _ _ _ _ _=>jb λ_=>rfl
def Txt.WG:b5 K t.IL ["self"] []:=T.Qf.binds λ_ _ _ _ _ _=>jb λ_=>rfl
def Txt.Ng:b5 K t.Hb EA []:=T.V1.binds λ_ _ _ _ _ _=>gL λ_ _=>rfl
def Txt.zJ:b5 K t.Kz Ny []:=T.Pf.binds λ_ _ _ _ _ _=>gL λ_ _=>rfl
def Txt.tc:b5 K t.FU H7 []:=T.VG.binds λ_ _ _ _ _ _=>h6 λ_ _ _=>rfl
def Txt.XG:b5 K t.Kh ["self"] []:=T.S2.binds λ_ _ _ _ _ _=>jb λ_=>rfl
def Txt.aa_:b5 K t.AI C_ []:=T.Yz.binds λ_ _ _ _ _ _=>h6 λ_ _ _=>rfl
def Txt.At:b5 K t.KJ CS []:=T.U8.binds λ_ _ _ _ _ _=>afo λ_ _ _ _ _ _ _ _=>rfl
def Txt.Y5:b5 K t.C7 lA []:=T.OS.binds λ_ _ _ _ _ _=>Eg λ_ _ _ _ _ _ _=>rfl
def Txt.al1:b5 K t.NK ["self"] []:=T.SX.binds λ_ _ _ _ _ _=>jb λ_=>rfl
def Txt.akO:b5 K t.G' ["self"] []:=T.XW.binds λ_ _ _ _ _ _=>jb λ_=>rfl
def Txt.Y8:b5 K t.Fj lA []:=T.RS.binds λ_ _ _ _ _ _=>Eg λ_ _ _ _ _ _ _=>rfl
def Txt.alv:b5 K t.Hu ["self"] []:=T.S'.binds λ_ _ _ _ _ _=>jb λ_=>rfl
def Txt.Zs:b5 K t.Jt ["self"] []:=T.Wk.binds λ_ _ _ _ _ _=>jb λ_=>rfl
def Txt.acx:b5 K t.AP lA []:=T.Ue.binds λ_ _ _ _ _ _=>Eg λ_ _ _ _ _ _ _=>rfl
def Txt.amc:b5 K t.FT ["self"] []:=T.W3.binds λ_ _ _ _ _ _=>jb λ_=>rfl
def Txt.ahP:b5 K t.Cl ["self"] []:=T.Um.binds λ_ _ _ _ _ _=>jb λ_=>rfl
def Txt.aix:b5 K t.DR CF []:=T.WI.binds λ_ _ _ _ _ _=>h6 λ_ _ _=>rfl
def Txt.CJ:b5 K t.Ci ["self"] []:=T.Rt.binds λ_ _ _ _ _ _=>jb λ_=>rfl
def Txt.adG:b5 K t.Mx j_ []:=T.U2.binds λ_ _ _ _ _ _=>gL λ_ _=>rfl
def Txt.Gc:b5 K t.xo j_ []:=T.RO.binds λ_ _ _ _ _ _=>gL λ_ _=>rfl
def Txt.acW:b5 K t.Pi zA []:=T.Ur.binds λ_ _ _ _ _ _=>gL λ_ _=>rfl
def Txt.ahx:b5 K t.IH ["self"] []:=T.S9.binds λ_ _ _ _ _ _=>jb λ_=>rfl
def Txt.aaS:b5 K t.Nf j_ []:=T.O7.binds λ_ _ _ _ _ _=>gL λ_ _=>rfl
def Txt.aeT:b5 K t.KN j_ []:=T.TR.binds λ_ _ _ _ _ _=>gL λ_ _=>rfl
def Txt.aiW:b5 K t.C0 CN []:=T.SI.binds λ_ _ _ _ _ _=>gL λ_ _=>rfl
def Txt.aeN:b5 K t.NW sS []:=T.Qg.binds λ_ _ _ _ _ _=>gL λ_ _=>rfl
def Txt.afL:b5 K t.JP sS []:=T.Uu.binds λ_ _ _ _ _ _=>gL λ_ _=>rfl
def Txt.aoE:b5 K t.HR ["self"] []:=T.QH.binds λ_ _ _ _ _ _=>jb λ_=>rfl
def Txt.ajA:b5 K t.EV ["self"] []:=T.Xo.binds λ_ _ _ _ _ _=>jb λ_=>rfl
def Txt.ahX:b5 K t.MW AQ []:=T.TN.binds λ_ _ _ _ _ _=>gL λ_ _=>rfl
def Txt.Wh:b5 K t.HK ["self"] []:=T.Vg.binds λ_ _ _ _ _ _=>jb λ_=>rfl
end
noncomputable def dP(ns:List Int)(k m:Int):Int:=
 ((((if 0<(↑ns:Int)then ns.getD (k%(↑ns:Int)).toNat 0 else 0)%1000003+31*k*k+1)*48271%999983*7919)%524287)%m
def iO(ns:List Int)(k:Int){m:Int}(h:0<m):0<=dP ns k m:=w9 _ ()
def re(ns:List Int)(k:Int){m:Int}(h:0<m):dP ns k m<m:=vJ _ h
def Re(K:bk)(a:Addr)(ns:List Int):bO:=λvs H Q _=>∃k m,vs=[⇑a,.int k,.int m]/\Sc K a ns H/\(0<=k/\k<1000000)/\0<m/\Q (.int (dP ns k m)) H
variable{P:Program}{w:World}{K:bk}{mg:Str->Option Value}{base:Heap}{t:bS}
abbrev cq(P:Program)(base:Heap){w:World}{K:bk}{mg:Str->Option Value}{t:bS}(_:Txt w K mg t):=cE P w K mg base dq
variable(T:Txt w K mg t)
def Ka (a:Addr) (ns:List Int) (i3:↑ns<=63):cq P base T 1 t.yL t.xS yP (Re K a ns):=by
 exists T.gq.ok wc,9
 let(k,m,rfl,S,(h0,ae),hm,q):=h;refine(_,(db (b' (i:=3) wc.aG (tP (dh uD (fx iV rfl T.iE iw (ai (U 0) aC)) aT (cL _)) (bZ c8 (U 0) (bN jN (U 1) (fx iV rfl T.iE iw (ai (U 0) aC)))) aT))
   (db (b' (i:=4) wc.aG (bN ew (bN ew (bN jN (U 3) aT) (bN lW (bN lW aT (U 1)) (U 1))) aT))
   (a4 (b7 (bN jN (bN jN (bN lW (bN jN (bN lW (U 4) aT) aT) aT) aT) (U 2)))))),?_)
 nofun;refine(_,.inl S.seq,?_);rw[aX];have anu:(0:Int)<=k*k/\k*k<1000000*1000000:=(Za h0 h0,abt () ae h0 ∅);have fin:∀i:Int,(0:Int)<1000003/\oC 31 k/\oC (31*k) k/\oC (i%1000003+31*k*k+1) 48271/\(0:Int)<999983/\oC ((i%1000003+31*k*k+1)*48271%999983) 7919/\(0:Int)<524287/\0<m:=by
  intro i;refine(∅,.inl ∅,.inr (),.inr ∅,∅,.inr ∅,∅,hm)
 by_cases c:(0:Int)<(↑ns:Int)
 .rw[if_pos (decide_eq_true c)];have ax:0<=k%(↑ns:Int)/\k%(↑ns:Int)<(↑ns:Int):=(w9 _ (),vJ _ c);refine(_,.inl S.seq,by rw[aX];exact c,_,S.seq,?_);rw[aX];have aJ:(k%(↑ns:Int)).toNat<↑ns:=()
  refine(.int ns[(k%(↑ns:Int)).toNat],?_,_,rfl,?_)
  .have e:=cv (xs:=ns.map V.int) (j:=(k%(↑ns:Int)).toNat) (v:=.int ns[(k%(↑ns:Int)).toNat]) (by rw[dg,a6 aJ] <;> rfl);rwa[sZ ax.1]at e
  .obtain⟨f1,f2,eV,f4,fq,oF,mX,f8⟩:=fin ns[(k%(↑ns:Int)).toNat];refine⟨f1,f2,eV,f4,fq,oF,mX,f8,?_⟩;have e:dP ns k m=(((ns[(k%(↑ns:Int)).toNat]%1000003+31*k*k+1)*48271%999983*7919)%524287)%m:=by
    unfold dP;rw[if_pos c,kd,a6 aJ];rfl
   rw[<- e];exact q
 .rw[if_neg (by simpa using c)];let(f1,f2,eV,f4,fq,oF,mX,f8):=fin 0;refine(f1,f2,eV,f4,fq,oF,mX,f8,?_);have e:dP ns k m=(((0%1000003+31*k*k+1)*48271%999983*7919)%524287)%m:=by
   unfold dP;rw[if_neg c]
  rw[<- e];exact q
def Cv{w:Str}:w=af ""↔↑w=0:=by
 constructor
 .rintro rfl;ac_nf
 .intro h;have e:w.cps=#[]:=Array.eq_empty_of_size_eq_zero h;have aD:(af "").cps=#[]:=∅
  cases w;cases ak:af "";rw[ak]at aD;simp only at e aD;rw[e,aD]
noncomputable def wk(bt:Str)(c:Nat):Bool:=!(tF bt (ka c) 0 ↑bt 1).isEmpty
def Ij(bt:Str)(c:Nat):wk bt c=decide (c∈bt.cps.toList):=StrLaws.found_one bt c
noncomputable def made(w bt:Str)(m:Int):Bool:=if w=af "" then false else if m<(↑w:Int)then false else w.cps.toList.all (wk bt)
def LI:bO:=λvs H Q _=>∃w bt m,vs=[.str w,.str bt,.int m]/\↑w<=1000/\aL H/\Q (.bp (made w bt m)) H
def akT:bO:=λvs H Q _=>∃w bt m,vs=[.str w,.str bt,.int m]/\↑w<=1000/\∀I,aN H I->Q (.bp (made w bt m)) I
theorem KK:cq P base T 1 t.L_ t.Lm z7 LI:=by
 refine cE.forget (sp:=akT) ?_ λvs H Q E h=>?_
 .exists T.C6.ok ads,9
  let(w,bt,m,rfl,aQ,q):=h;have h3:↑w<=sizeLine:=cM aQ ∅;refine(_,(db (d4 (gv.pt (pN (dh e3 (U 0) dF (cL _)) (t6 (dh uD (fx anB rfl T.iE iw (ai (U 0) aC)) (U 2) (cL _))))) (a4 (b7 kG)) en)
   (a4 (b7 (fx (af0 rfl) rfl T.abj adB (ai (hR rfl (aot (U 0)) (f_ (sc:=bx (top 19)) rfl ∅) (N:=["sign","signs"]) (sel:=[none,some 1]) (f7 (M:=z7) ∅) (fa.of (λ_ _ _ _=>(b8 (i:=0) (ec (N:=["sign","signs"]) ∅ rfl))) (λ_ _ _ _=>(_,hT,by walk_at "B")) (λ_ _ _ _=>(_,(hV Z2 (U 0) (U 1) (by with_unfolding_all rfl)),by walk_at "B")))) aC))))),?_)
  nofun;refine du (decide (w=af "")||decide (m<(↑w:Int))) (λQ aY=>?_) (λaa=>?_) (λaa=>?_)
  .nofun;by_cases c:w=af ""
   .rw [if_pos (decide_eq_true c)];rw[decide_eq_true c,ry]at aY;exact aY
   .rw [if_neg (by simpa using c)];rw[decide_eq_false c,mR]at aY;exact(h3,aY)
  .nofun;have e:made w bt m=false:=by
    unfold made;simp only[zp,decide_eq_true_eq]at aa;by_cases c:w=af ""
    .rw [if_pos c]
    .rw [if_neg c,if_pos (aa.resolve_left c)]
   have:=q H (aN.refl H);rw[e]at this;exact this
  .nofun;have e:made w bt m=w.cps.toList.all (wk bt):=by
    unfold made;simp only[yz,decide_eq_false_iff_not]at aa;rw[if_neg aa.1,if_neg aa.2]
   refine cY.abr (λx=>match x with|.str y=>.bp (!(tF bt y 0 ↑bt 1).isEmpty)|_=>.cf) (by rw[Vc];exact h3) (λi x N ag bl=>?_) (λp ar=>?_)
   .unfold o_ at ag;rw[dg]at ag;cases aB:w.cps.toList[i]? with
    |none=>rw[aB]at ag;cases ag
    |some c=>
     rw[aB]at ag;have eD:V.str (ka c)=x:=d2 ag;subst eD;nofun;exact(Sub.name,bl)
   .refine⟨p,rfl,w.cps.toList.map (wk bt),az.of ?_,?_⟩
    .rw [aR];unfold o_;rw[rE,rE];rfl
    .have:=q (upd H p (.lst (o3 (λx=>match x with|.str y=>.bp (!(tF bt y 0 ↑bt 1).isEmpty)|_=>.cf) (o_ w)))) (bh ar);rw[e]at this;rw[List.all_map];exact this
 .let(w,bt,m,e,aQ,bC,q):=h;exact(bC,w,bt,m,e,aQ,λI bw=>(bw,q))
noncomputable abbrev uu:Str:=af "0123456789"
noncomputable def nT(c:Nat):Bool:=decide (48<=c/\c<=57)
def GM(c:Nat):wk uu c=nT c:=by
 rw[Ij,(∅:uu.cps.toList=List.range' 48 10)];unfold nT;refine decide_eq_decide.mpr ?_;rw[List.mem_range'_1];exact and_congr_right λ_=>show c<58↔c<=57 from Nat.lt_succ_iff
noncomputable abbrev cs(w:Str):List Nat:=w.cps.toList
def HD(w:Str):↑(cs w)=↑w:=by simp[cs,wd]
noncomputable def la(w:Str):Bool:=decide (1<=↑(cs w))&&decide (↑(cs w)<=3)&&(cs w).all nT&&(decide (↑(cs w)<=1)||decide ((cs w).headD 0≠48))
noncomputable abbrev val(w:Str):Int:=((RY (cs w):Nat):Int)
noncomputable def jM(w:Str)(lo ah:Int):V:=if la w && !(decide (val w<lo)||decide (ah<val w))then .int (val w)else .cf
theorem Wi{w:Str}:w=⟨#[c]⟩↔cs w=[c]:=by
 constructor
 .rintro rfl;rfl
 .intro h;cases w with
  |mk a=>
   have e:a=#[c]:=W4.mp h;rw[e]
def Li:af "0"=⟨#[48]⟩:=∅
def WX(w:Str):made w uu 3=(decide (1<=↑(cs w))&&decide (↑(cs w)<=3)&&(cs w).all nT):=by
 unfold made;have e:(wk uu)=nT:=funext GM;rw[e];by_cases ae:w=af ""
 .have ak:=Cv.mp ae;rw[if_pos ae,HD,ak];rfl
 .have ak:¬ ↑w=0:=λz=>ae (Cv.mpr z)
  rw[if_neg ae,HD];by_cases aZ:(3:Int)<(↑w:Int)
  .rw [if_pos aZ,decide_eq_false (show ¬ ↑w<=3 by omega),T1,om]
  .rw [if_neg aZ,decide_eq_true (show 1<=↑w by omega),decide_eq_true (show ↑w<=3 by omega)];rfl
def alb(h:l.all nT=true):NumText.AllDigits l:=λc aB=>by
 have:=u2.mp h c aB;simpa[nT]using this
def abd{w:Str}(h:la w=true):(1<=↑(cs w)/\↑(cs w)<=3)/\(cs w).all nT=true:=by
 unfold la at h;simp only[kX,decide_eq_true_eq]at h;exact h.1
def Ul:bO:=λvs H Q _=>∃w,vs=[.str w,.int 3]/\↑w<=1000/\aL H/\Q (.bp (la w)) H
def aiy:bO:=λvs H Q _=>∃w lo ah,vs=[.str w,.int lo,.int ah]/\↑w<=1000/\aL H/\Q (jM w lo ah) H
theorem ahl:cq P base T 2 t.LZ t.FH D5 Ul:=by
 refine cA (KK T) λJR=>?_;exists T.H_.ok anb,9
 let(w,rfl,aQ,bC,q):=h;have h3:↑w<=sizeLine:=cM aQ ∅;refine(_,(db (d4 (n8 (lE (b3 JR ao T.XA T.C6.bo T.X8 (ai (U 0) (ai (ny rfl T.agi T.alW) (ai (U 1) aC)))))) (a4 (b7 kG)) en)
   (a4 (b7 (U1 (hV e3 (U 0) dF (cL _)) (sh (hV og (bZ Gx (U 0) aT) dF (cL _))))))),?_)
 refine du (!made w uu 3) (λQ aY=>?_) (λaa=>?_) (λaa=>?_)
 ·(nofun; repeat (dsimp only[LI];nofun));exact(aQ,bC,aY)
 .nofun;have e:la w=false:=by
   have d_:made w uu 3=false:=by simpa using aa
   rw[WX]at d_;unfold la;rw[d_];rfl
  rw[e]at q;exact q
 .have d_:made w uu 3=true:=by simpa using aa
  rw[WX]at d_;rw[gy];dsimp only;refine af1 (.bp (la w)) (λQ aY=>?_) ?_
  case refine_2=>exact q
  nofun;have j':(1<=↑(cs w)/\↑(cs w)<=3)/\(cs w).all nT=true:=by
   simpa only[kX,decide_eq_true_eq]using d_
  let(c,r,JZ):∃c r,cs w=c::r:=by
   cases h:cs w with
   |nil=>rw[h]at j';exact absurd j'.1.1 ∅
   |cons c r=>exact(c,r,rfl)
  have ok:la w=(decide (↑(cs w)<=1)||decide ((cs w).headD 0≠48)):=by
   unfold la;rw[d_,nN]
  by_cases br:w=af "0"
  .rw[if_pos (decide_eq_true br)];have e:cs w=[48]:=by rw[br,Li]
   rw[ok,e]at aY;exact aY
  .rw [if_neg (by simpa using br)];refine(h3,c,?_,?_)
   .have:=cv (xs:=cs w) (j:=0) (v:=c) (by rw[JZ];rfl);exact this
   .have aD:decide ((⟨#[c]⟩:Str)=af "0")=decide (c=48):=by
     rw[Li];by_cases si:c=48
     .rw [si];simp
     .rw [decide_eq_false si,decide_eq_false];intro z;have eu:=Wi.mp z;exact si (ta eu).1
    rw [aD];have bV:la w = !decide (c=48):=by
     rw[ok,JZ];show(decide (↑(c::r)<=1)||decide (c≠48))=_;by_cases si:c=48
     .have ao:r≠[]:=λz=>br (by rw[Li];exact Wi.mpr (by rw[JZ,z,si]))
      have:¬ ↑(c::r)<=1:=by
       cases r with
       |nil=>exact absurd rfl ao
       |cons d r=>simp
      rw[decide_eq_false this,si];rfl
     .rw [decide_eq_true si,aco,decide_eq_false si];rfl
    rw[<- bV];exact aY
def amk:cq P base T 3 t.MF t.HN Kc aiy:=by
 refine cA (ahl T) λamg=>?_;exists T.LC.ok Ph,9
 let(w,lo,ah,rfl,aQ,bC,q):=h;refine(_,(db (d4 (n8 (lE (b3 amg ao T.alM T.H_.bo T.aca (ai (U 0) (ai (ny rfl T.amq T.aoc) aC))))) (a4 (b7 u0)) en)
   (db (b' (i:=3) Ph.aG (rj ajo rfl T.Bp AF (ai (U 0) aC)))
   (db (d4 (gv.pt (pN (dh ir (U 3) (U 1) (cL _)) (t6 (dh uD (U 3) (U 2) (cL _))))) (a4 (b7 u0)) en)
   (a4 (b7 (U 3)))))),?_)
 refine du (!la w) (λQ aY=>?_) (λaa=>?_) (λaa=>?_)
 ·(nofun; repeat (dsimp only[Ul];nofun));exact(aQ,bC,aY)
 .nofun;have d_:la w=false:=by simpa using aa
  have e:jM w lo ah=.cf:=by unfold jM;rw[d_];rfl
  rw[e]at q;exact q
 .have d_:la w=true:=by simpa using aa
  have aZ:(1<=↑(cs w)/\↑(cs w)<=3)/\(cs w).all nT=true:=by
   have:=d_;unfold la at this;simp only[kX,decide_eq_true_eq]at this;exact this.1
  have aK:=HD w;have fS:intText? w\(val w):=intText_digits (alb aZ.2) (λz=>by have gB:cs w=[]:=z;rw[gB]at aZ;exact absurd aZ.1.1 ∅) ();nofun;refine(val w,fS,(),?_);refine du (decide (val w<lo)||decide (ah<val w)) (λQ aY=>?_) (λaB=>?_) (λaB=>?_)
  .nofun;by_cases c:val w<lo
   .rw [if_pos (decide_eq_true c)];rw[decide_eq_true c,ry]at aY;exact aY
   .rw [if_neg (by simpa using c)];rw[decide_eq_false c,mR]at aY;exact aY
  .nofun;have e:jM w lo ah=.cf:=by unfold jM;rw[d_,aB];rfl
   rw[e]at q;exact q
  .nofun;have e:jM w lo ah=.int (val w):=by unfold jM;rw[d_,aB];rfl
   rw[e]at q;exact q
def Jm(h:n<1000):n.log2<1920:=by
 by_cases h0:n=0
 .subst h0;decide
 .rw [abV h0];exact iL h (cM ((∅:1000<=2 ^ 10)) (Nat.pow_le_pow_right ∅ ∅))
def aaw:∀n,n<1000->↑(wo 10 n)<=3:=∅
def Al{n:Int}(h0:0<=n)(ae:n<=999):↑(af (toString n))<=3:=by
 have e:=alJ n.toNat;rw[sZ h0]at e;have l:↑(af (toString n))=↑(af (toString n)).cps.toList:=by simp[wd]
 rw[l,e,aX];exact aaw _ ()
noncomputable abbrev ow:Str:=af "abcdefghijklmnopqrstuvwxyz"
def aeK:bO:=λvs H Q _=>∃w,vs=[.str w]/\↑w<=1000/\aL H/\Q (.bp (made w ow 8)) H
def Zq:cq P base T 2 t.J0 t.ls ["word"] aeK:=by
 refine cA (KK T) λJR=>?_;exists T.Kk.ok acI,9
 let(w,rfl,aQ,bC,q):=h;refine(_,(a4 (b7 (b3 JR ao T.XA T.C6.bo T.X8 (ai (U 0) (ai (ny rfl T.alR T.adp) (ai (ny rfl T.agz T.aeC) aC)))))),?_);(nofun; repeat (dsimp only[LI];nofun));exact(aQ,bC,q)
noncomputable abbrev nl:Str:=af "\n"
noncomputable abbrev cS:Str:=af " "
def ao_:nl=⟨#[10]⟩:=∅
def Bl:cS=⟨#[32]⟩:=∅
noncomputable def h7(x:Str):List (List Str):=(jq x nl).map λr=>jq r cS
theorem Ri:∀{ys:List Str} {y:Str},y∈ys->↑y<=(ys.map (·.length)).sum
 |[],_,h=>nomatch h
 |a::r,y,h=>by
  rw[fz,za];rcases ei.mp h with rfl|h
  .omega
  .have:=Ri h;omega
def akq{x y r:Str}(aM:1<=↑y)(h:r∈jq x y):↑r<=↑x+1:=by
 have ae:=aer x y aM;have ak:=Ri h;omega
def Oc{x y:Str}(aM:1<=↑y):↑(jq x y)<=↑x+1:=by
 have ae:=aer x y aM;omega
def ako(x y:Str):jq x y≠[]:=by
 unfold jq;split
 .simp
 .split
  .simp
  .rw [StrLaws.partsBetween_eq];let(p,r,e):=StrLaws.partsFrom_ne x ↑y 0 (tF x y 0 ↑x (↑x+1));rw[e];simp
def afB(cx H:av)(p:Addr)(rows:List (List Str)):Prop:=∃qs:List Addr,H p\(.lst (qs.map V.ref))/\cx p=none/\p∉qs/\↑qs=↑rows/\∀(i:Nat) (q:Addr) (r:List Str),qs[i]?\q->rows[i]?\r->H q\(.lst (a3 r))/\cx q=none
def YG:bO:=λvs H Q _=>∃x,vs=[.str x]/\↑x<=20000/\aL H/\∀p I,aN H I->aL I->afB H I p (h7 x)->Q ⇑p I
def yv:↑nl=1:=∅
def s8:↑cS=1:=∅
theorem ZG:cq P base T 1 t.Et t.FC ["text"] YG:=by
 exists T.MB.ok afF,9
 let(x,rfl,aQ,bC,q):=h;have j0:∀n:Nat,n<=40000->n<=sizeLine:=λn h=>cM h ∅
 refine(_,(a4 (b7 (hR rfl (e6 (fo vQ Eb aia UO (U 0) (ai dF aC))) (f_ (sc:=bx (top 18)) rfl ∅) (N:=["row"]) (sel:=[none]) (f7 (M:=["text"]) ∅) (fa.of (λ_ _ _ _=>(b8 (i:=0) (ec (N:=["row"]) ∅ rfl))) (λ_ _ _ _=>(_,hT,by walk_at "B")) (λ_ _ _ _=>(_,(fo vQ Eb aia UO (U 0) (ai dF aC)),by walk_at "B")))))),?_);nofun;have aM:1<=↑nl:=by rw[yv];exact bQ _
 have ahb:1<=↑cS:=by rw[s8];exact bQ _
 have ay:=Oc (x:=x) aM;have g6:↑(a3 (jq x nl))<=sizeLine:=by unfold a3;rw[aX];exact j0 _ ()
 refine(by rw[yv];decide,j0 _ (),j0 _ (show ↑(jq x nl)<=40000 by omega),λp ar=>((_,az.of aR),?_));refine cY.adt (xs:=a3 (jq x nl)) (λv=>match v with|.str r=>.lst (a3 (jq r cS))|_=>.lst []) (az.of aR) g6 (λv=>by cases v <;> rfl) (λi v H1 N ag bw jk bl=>?_) (λqs H1 bw jk aK al cX gc=>?_)
 .unfold a3 at ag;rw[dg]at ag;cases ao:(jq x nl)[i]? with
  |none=>rw[ao]at ag;cases ag
  |some r=>
   rw[ao]at ag;have e:=d2 ag;subst e;have hm:=akq aM (bU ao);have jW:=Oc (x:=r) ahb;nofun;exact(Sub.name,by rw[s8];decide,j0 _ (),j0 _ (show ↑(jq r cS)<=40000 by omega),bl)
 .have Kg:aN H H1:=(bh ar).trans bw;refine q _ _ (Kg.hS (Kg.free gc)) ((jk (bC.upd)).upd) (qs,aR,Kg.free gc,λhm=>?_,?_,λi dY r ae ak=>?_)
  .obtain⟨j,aJ,e⟩:=CA hm;have amH:j<↑(a3 (jq x nl)):=()
   have:=al j cX _ (by rw[a6 aJ,e]) (a6 amH);rw[gc]at this;cases this.1
  .rw [aK];unfold h7 a3;rw[aX,aX]
  .unfold h7 at ak;rw[dg]at ak;cases ao:(jq x nl)[i]? with
   |none=>rw[ao]at ak;cases ak
   |some ik=>
    rw[ao]at ak;have e:=d2 ak;subst e;have z:=al i dY (.str ik) ae (by unfold a3;rw[dg,ao];rfl);refine(by rw[aP (dm z.1 gc)];exact z.1,?_);have:=z.2;by_cases aI:dY=p
    .rw [aI];exact ar
    .rwa [aP aI]at this
structure bf where
 k:Nat
 name:Str
 start:Int
 fin:Int
 off:Int
 near:Int
 least:Int
noncomputable def e1:Nat->Str
 |0=>af "car"
 |1=>af "foot"
 |_=>af "tram"
noncomputable def bS.hi(t:bS):Nat->Addr
 |0=>t.kl
 |1=>t.kf
 |_=>t.kb
noncomputable def p5(d:bf):List (Str×V):=[(p'p (af "kind") (.str (e1 d.k))),(p'p (af "name") (.str d.name)),(p'p (af "start") (.int d.start)),(p'p (af "end") (.int d.fin)),(p'p (af "off") (.int d.off)),(p'p (af "near") (.int d.near)),(p'p (af "least") (.int d.least))]
noncomputable abbrev qk:List Str:=[af "kind",af "name",af "start",af "end",af "off",af "near",af "least"]
def Yh(d:bf):(p5 d).map (·.1)=qk:=rfl
def fh(t:bS)(H:av)(p:Addr)(d:bf):Prop:=d.k<3/\∃aA,H p\(.ins (t.hi d.k) aA (p5 d))
def fh.same{t:bS}{p:Addr}(h:fh t H p d)(s:aN H I):fh t I p d:=(h.1,h.2.imp λaA e=>s _ _ e)
def v_(t:bS)(C:Addr):Prop:=∃k,k<3/\C=t.hi k
noncomputable def mu(d:bf):Int:=match d.k with|0=>1|1=>0|_=>2
noncomputable def l7(d:bf):Int:=match d.k with|0=>2|1=>d.off|_=>1
section
variable{w:World}{K:bk}{mg:Str->Option Value}{t:bS}
theorem Txt.sm(T:Txt w K mg t):∀k,ia K (t.hi k)
 |0=>T.GQ
 |1=>T.Mv
 |_+2=>T.ME
theorem Txt.QZ(T:Txt w K mg t)(hf:f∈qk):∀k,dJ K (t.hi k) f:=by
 intro k;simp only[qk,ei,k2,or_false]at hf;rcases hf with rfl|rfl|rfl|rfl|rfl|rfl|rfl
 .match k with
  |0=>exact T.Zl
  |1=>exact T.aaM
  |_+2=>exact T.aku
 .match k with
  |0=>exact T.alr
  |1=>exact T.ahM
  |_+2=>exact T.aaV
 .match k with
  |0=>exact T.af3
  |1=>exact T.ao4
  |_+2=>exact T.aoC
 .match k with
  |0=>exact T.ajP
  |1=>exact T.akH
  |_+2=>exact T.aa9
 .match k with
  |0=>exact T.FB
  |1=>exact T.ad0
  |_+2=>exact T.aoa
 .match k with
  |0=>exact T.ak2
  |1=>exact T.ahm
  |_+2=>exact T.ZY
 .match k with
  |0=>exact T.am1
  |1=>exact T.abC
  |_+2=>exact T.bv
theorem Txt.cw_inj(T:Txt w K mg t){j k:Nat}(aJ:j<3)(ax:k<3)(e:t.hi j=t.hi k):j=k:=by
 match j,k,aJ,ax with
 |0,0,_,_=>rfl
 |0,1,_,_=>exact absurd e T.UR
 |0,2,_,_=>exact absurd e T.am
 |1,0,_,_=>exact absurd e.symm T.UR
 |1,1,_,_=>rfl
 |1,2,_,_=>exact absurd e T.Sj
 |2,0,_,_=>exact absurd e.symm T.am
 |2,1,_,_=>exact absurd e.symm T.Sj
 |2,2,_,_=>rfl
 |j+3,_,h,_=>omega
 |_,k+3,_,h=>omega
def fh.fld(T:Txt w K mg t){p:Addr}(h:fh t H p d)(i:Nat)(ah:qk.findIdx? (· == f)\i)(aE:(p5 d)[i]?\(p'p f v)):gr K H p f v:=by
 let(_,aA,e):=h;have hm:f∈qk:=by
  let(dK,ae,_):=List.findIdx?_eq_some_iff_getElem.mp ah;have:qk[i]=f:=by simpa using ae
  rw[<- this];exact gf dK
 exact(_,aA,_,e,T.sm _,T.QZ hm _,g4 qk i (Yh d) ah aE)
def fh.afE(T:Txt w K mg t){p:Addr}(h:fh t H p d):gr K H p (af "kind") (.str (e1 d.k)):=h.fld T 0 ∅ rfl
def fh.IQ(T:Txt w K mg t){p:Addr}(h:fh t H p d):gr K H p (af "name") (.str d.name):=h.fld T 1 ∅ rfl
def fh.wY(T:Txt w K mg t){p:Addr}(h:fh t H p d):gr K H p (af "start") (.int d.start):=h.fld T 2 ∅ rfl
def fh.u5(T:Txt w K mg t){p:Addr}(h:fh t H p d):gr K H p (af "end") (.int d.fin):=h.fld T 3 ∅ rfl
def fh.W6(T:Txt w K mg t){p:Addr}(h:fh t H p d):gr K H p (af "off") (.int d.off):=h.fld T 4 ∅ rfl
def fh.afv(T:Txt w K mg t){p:Addr}(h:fh t H p d):gr K H p (af "near") (.int d.near):=h.fld T 5 ∅ rfl
def fh.abe(T:Txt w K mg t){p:Addr}(h:fh t H p d):gr K H p (af "least") (.int d.least):=h.fld T 6 ∅ rfl
end
def an2(t:bS):bO:=λvs H Q _=>∃(p aA:Addr) (d:bf),vs=[⇑p,.str (e1 d.k),.str d.name,.int d.start,.int d.fin,.int d.off,.int d.near,.int d.least]/\d.k<3/\H p\(.ins (t.hi d.k) aA [])/\Q .cf (upd H p (.ins (t.hi d.k) aA (p5 d)))
def wF(t:bS)(k:Nat):bO:=λvs H Q _=>∃(p aA:Addr) (d:bf),vs=[⇑p,.str d.name,.int d.start,.int d.fin,.int d.off,.int d.near,.int d.least]/\d.k=k/\H p\(.ins (t.hi d.k) aA [])/\Q .cf (upd H p (.ins (t.hi d.k) aA (p5 d)))
def Gf:cq P base T 1 t.FG t.KJ CS (an2 t):=by
 exists T.U8.ok ace,9
 let(p,aA,d,rfl,ax,ar,q):=h;refine(_,(db (fC (U 0) (U 1) rfl)
   (db (fC (U 0) (U 2) rfl)
   (db (fC (U 0) (U 3) rfl)
   (db (fC (U 0) (U 4) rfl)
   (db (fC (U 0) (U 5) rfl)
   (db (fC (U 0) (U 6) rfl)
   (a4 (fC (U 0) (U 7) rfl)))))))),?_)
 nofun;have na:∀{f:Str},f∈qk->dJ K (t.hi d.k) f:=λhf=>T.QZ hf d.k
 refine(_,_,_,ar,T.sm _,na ∅,∅,?_);refine(_,_,_,aR,T.sm _,na ∅,hI (n:=999) ∅,?_);refine(_,_,_,aR,T.sm _,na ∅,hI (n:=999) (hI (n:=998) ∅),?_);refine(_,_,_,aR,T.sm _,na ∅,hI (n:=999) (hI (n:=998) (hI (n:=997) ∅)),?_);refine(_,_,_,aR,T.sm _,na ∅,hI (n:=999) (hI (n:=998) (hI (n:=997) (hI (n:=996) ∅))),?_);refine(_,_,_,aR,T.sm _,na ∅,hI (n:=999) (hI (n:=998) (hI (n:=997) (hI (n:=996) (hI (n:=995) ∅)))),?_);refine(_,_,_,aR,T.sm _,na ∅,hI (n:=999) (hI (n:=998) (hI (n:=997) (hI (n:=996) (hI (n:=995) (hI (n:=994) ∅))))),?_);simp only[ur];rw[show dn (af "kind") (V.str (e1 d.k)) ([]:List (Str×V))=[(p'p (af "kind") (V.str (e1 d.k)))]from gZ [] rfl ∅,
  show dn (af "name") (V.str d.name) ([(p'p (af "kind") (V.str (e1 d.k)))]:List (Str×V))=[(p'p (af "kind") (V.str (e1 d.k))),(p'p (af "name") (V.str d.name))]from gZ [af "kind"] rfl ∅,
  show dn (af "start") (V.int d.start) ([(p'p (af "kind") (V.str (e1 d.k))),(p'p (af "name") (V.str d.name))]:List (Str×V))=[(p'p (af "kind") (V.str (e1 d.k))),(p'p (af "name") (V.str d.name)),(p'p (af "start") (V.int d.start))]from gZ [af "kind",af "name"] rfl ∅,
  show dn (af "end") (V.int d.fin) ([(p'p (af "kind") (V.str (e1 d.k))),(p'p (af "name") (V.str d.name)),(p'p (af "start") (V.int d.start))]:List (Str×V))=[(p'p (af "kind") (V.str (e1 d.k))),(p'p (af "name") (V.str d.name)),(p'p (af "start") (V.int d.start)),(p'p (af "end") (V.int d.fin))]from gZ [af "kind",af "name",af "start"] rfl ∅,
  show dn (af "off") (V.int d.off) ([(p'p (af "kind") (V.str (e1 d.k))),(p'p (af "name") (V.str d.name)),(p'p (af "start") (V.int d.start)),(p'p (af "end") (V.int d.fin))]:List (Str×V))=[(p'p (af "kind") (V.str (e1 d.k))),(p'p (af "name") (V.str d.name)),(p'p (af "start") (V.int d.start)),(p'p (af "end") (V.int d.fin)),(p'p (af "off") (V.int d.off))]from gZ [af "kind",af "name",af "start",af "end"] rfl ∅,
  show dn (af "near") (V.int d.near) ([(p'p (af "kind") (V.str (e1 d.k))),(p'p (af "name") (V.str d.name)),(p'p (af "start") (V.int d.start)),(p'p (af "end") (V.int d.fin)),(p'p (af "off") (V.int d.off))]:List (Str×V))=[(p'p (af "kind") (V.str (e1 d.k))),(p'p (af "name") (V.str d.name)),(p'p (af "start") (V.int d.start)),(p'p (af "end") (V.int d.fin)),(p'p (af "off") (V.int d.off)),(p'p (af "near") (V.int d.near))]from gZ [af "kind",af "name",af "start",af "end",af "off"] rfl ∅,
  show dn (af "least") (V.int d.least) ([(p'p (af "kind") (V.str (e1 d.k))),(p'p (af "name") (V.str d.name)),(p'p (af "start") (V.int d.start)),(p'p (af "end") (V.int d.fin)),(p'p (af "off") (V.int d.off)),(p'p (af "near") (V.int d.near))]:List (Str×V))=[(p'p (af "kind") (V.str (e1 d.k))),(p'p (af "name") (V.str d.name)),(p'p (af "start") (V.int d.start)),(p'p (af "end") (V.int d.fin)),(p'p (af "off") (V.int d.off)),(p'p (af "near") (V.int d.near)),(p'p (af "least") (V.int d.least))]from gZ [af "kind",af "name",af "start",af "end",af "off",af "near"] rfl ∅]
 exact q
def akj:cq P base T 2 t.y2 t.C7 lA (wF t 0):=by
 refine cA (Gf T) λzm=>?_;exists T.OS.ok adb,9
 let(p,aA,d,rfl,ax,ar,q):=h;refine(_,(a4 (ea (Jz rfl T.IA T.Ke zm ao T.At .nil c3 (ai (U 0) (ai dF (ai (U 1) (ai (U 2) (ai (U 3) (ai (U 4) (ai (U 5) (ai (U 6) aC))))))))))),?_);nofun;exact(p,aA,d,by rw[ax];rfl,(),ar,q)
def als:cq P base T 2 t.xp t.Fj lA (wF t 1):=by
 refine cA (Gf T) λzm=>?_;exists T.RS.ok ad1,9
 let(p,aA,d,rfl,ax,ar,q):=h;refine(_,(a4 (ea (Jz rfl T.IA T.Ke zm ao T.At .nil c3 (ai (U 0) (ai dF (ai (U 1) (ai (U 2) (ai (U 3) (ai (U 4) (ai (U 5) (ai (U 6) aC))))))))))),?_);nofun;exact(p,aA,d,by rw[ax];rfl,(),ar,q)
def alO:cq P base T 2 t.ye t.AP lA (wF t 2):=by
 refine cA (Gf T) λzm=>?_;exists T.Ue.ok ak5,9
 let(p,aA,d,rfl,ax,ar,q):=h;refine(_,(a4 (ea (Jz rfl T.IA T.Ke zm ao T.At .nil c3 (ai (U 0) (ai dF (ai (U 1) (ai (U 2) (ai (U 3) (ai (U 4) (ai (U 5) (ai (U 6) aC))))))))))),?_);nofun;exact(p,aA,d,by rw[ax];rfl,(),ar,q)
def v3(t:bS)(C:Addr):bO:=λvs H Q _=>∃p d,vs=[⇑p]/\fh t H p d/\C=t.hi d.k/\Q (.int (mu d)) H
def vn(t:bS)(C:Addr):bO:=λvs H Q _=>∃p d,vs=[⇑p]/\fh t H p d/\C=t.hi d.k/\Q (.int (l7 d)) H
def ah_:cq P base T 1 t.E7 t.NK ["self"] (v3 t (t.hi 0)):=by
 exists T.SX.ok sw,9
 let(p,d,rfl,W,dv,q):=h;have ax:=(T.cw_inj ∅ W.1 dv).symm;refine(_,(a4 (b7 aT)),?_);rw[show mu d=1 by unfold mu;simp only[ax]]at q;nofun;exact q
def af2:cq P base T 1 t.DI t.Hu ["self"] (v3 t (t.hi 1)):=by
 exists T.S'.ok ald,9
 let(p,d,rfl,W,dv,q):=h;have ax:=(T.cw_inj ∅ W.1 dv).symm;refine(_,(a4 (b7 aT)),?_);rw[show mu d=0 by unfold mu;simp only[ax]]at q;nofun;exact q
def aax:cq P base T 1 t.CG t.FT ["self"] (v3 t (t.hi 2)):=by
 exists T.W3.ok amB,9
 let(p,d,rfl,W,dv,q):=h;have ax:=(T.cw_inj ∅ W.1 dv).symm;refine(_,(a4 (b7 aT)),?_);rw[show mu d=2 by unfold mu;simp only[ax]]at q;nofun;exact q
theorem Vl(T:Txt w K mg t):ra P w K mg base dq 1 (v_ t) "ready" ["self"] (v3 t):=by
 refine⟨λC dv=>?_⟩;let(k,ax,rfl):=dv
 match k,ax with
 |0,_=>exact(_,_,T.GQ,T.abN,ah_ T,T.al1)
 |1,_=>exact(_,_,T.Mv,T.ajh,af2 T,T.alv)
 |2,_=>exact(_,_,T.ME,T.akZ,aax T,T.amc)
def aiR:cq P base T 1 t.Ee t.G' ["self"] (vn t (t.hi 0)):=by
 exists T.XW.ok agU,9
 let(p,d,rfl,W,dv,q):=h;have ax:=(T.cw_inj ∅ W.1 dv).symm;refine(_,(a4 (b7 aT)),?_);rw[show l7 d=2 by unfold l7;simp only[ax]]at q;nofun;exact q
def ag0:cq P base T 1 t.Dy t.Jt ["self"] (vn t (t.hi 1)):=by
 exists T.Wk.ok ahi,9
 let(p,d,rfl,W,dv,q):=h;have ax:=(T.cw_inj ∅ W.1 dv).symm;refine(_,(a4 (b7 (bB (U 0) rfl))),?_);rw[show l7 d=d.off by unfold l7;simp only[ax]]at q;nofun;exact(_,W.W6 T,q)
def YY:cq P base T 1 t.Ek t.Cl ["self"] (vn t (t.hi 2)):=by
 exists T.Um.ok afs,9
 let(p,d,rfl,W,dv,q):=h;have ax:=(T.cw_inj ∅ W.1 dv).symm;refine(_,(a4 (b7 aT)),?_);rw[show l7 d=1 by unfold l7;simp only[ax]]at q;nofun;exact q
theorem Sg(T:Txt w K mg t):ra P w K mg base dq 1 (v_ t) "fade" ["self"] (vn t):=by
 refine⟨λC dv=>?_⟩;let(k,ax,rfl):=dv
 match k,ax with
 |0,_=>exact(_,_,T.GQ,T.ak4,aiR T,T.akO)
 |1,_=>exact(_,_,T.Mv,T.afJ,ag0 T,T.Zs)
 |2,_=>exact(_,_,T.ME,T.adO,YY T,T.ahP)
noncomputable def mv(c:Nat):List (List Nat)->List Nat
 |[]=>[]
 |[a]=>a
 |a::b::r=>a++c::mv c (b::r)
theorem Qp:∀{a b X Y:List Nat},c∉a->c∉b->a++c::X=b++c::Y->a=b/\X=Y
 |[],[],X,Y,_,_,h=>(rfl,(ta h).2)
 |[],d::b,X,Y,_,aa,h=>absurd (ta h).1 (λz=>aa (by simp[<- z]))
 |d::a,[],X,Y,aO,_,h=>absurd (ta h).1 (λz=>aO (by simp[z]))
 |d::a,e::b,X,Y,aO,aa,h=>by
  let(ae,ak):=ta h;let(aq,aD):=Qp (λz=>aO (i7 _ z)) (λz=>aa (i7 _ z)) ak;exact(by rw[ae,aq],aD)
theorem XN:∀{ps qs:List (List Nat)},(∀p∈ps,c∉p)->(∀q∈qs,c∉q)->ps≠[]->qs≠[]->mv c ps=mv c qs->ps=qs
 |[a],[b],_,_,_,_,h=>by rw[show a=b from h]
 |[a],b::gd::r,aO,_,_,_,h=>absurd (show c∈a by rw[show a=b++c::mv c (gd::r)from h];simp) (aO a (by simp))
 |a::rx::r,[b],_,aa,_,_,h=>absurd (show c∈b by rw[show b=a++c::mv c (rx::r)from h.symm];simp) (aa b (by simp))
 |a::rx::r,b::gd::s,aO,aa,_,_,h=>by
  let(aq,aD):=Qp (aO a (by simp)) (aa b (by simp)) (show a++c::mv c (rx::r)=b++c::mv c (gd::s)from h);rw[aq,XN (λp ar=>aO p (i7 _ ar)) (λq aI=>aa q (i7 _ aI)) (by simp) (by simp) aD]
 |[],_,_,_,h,_,_=>absurd rfl h
 |_::_,[],_,_,_,h,_=>absurd rfl h
theorem Yx:∀{ps:List (List Nat)},d∈mv c ps->d=c\/∃p∈ps,d∈p
 |[],h=>nomatch h
 |[a],h=>.inr (a,by simp,h)
 | a::b::r,h=>by
  rcases eI.mp (show d∈a++c::mv c (b::r)from h)with h|h
  .exact .inr (a,by simp,h)
  .rcases ei.mp h with h|h
   .exact .inl h
   .rcases Yx h with h|⟨p,ar,h⟩
    .exact .inl h
    .exact .inr (p,i7 _ ar,h)
theorem On(c:Nat):∀ys:List Str,(ep ⟨#[c]⟩ ys).cps.toList=mv c (ys.map (·.cps.toList))
 |[]=>rfl
 |[a]=>rfl
 |a::b::r=>by
  show(a++⟨#[c]⟩++ep ⟨#[c]⟩ (b::r)).cps.toList=_;rw[p8,qf,p8,qf,On c (b::r)];simp[mv]
def AM{x y:Str}(h:x.cps.toList=y.cps.toList):x=y:=by
 cases x;cases y;exact congrArg Str.mk (W4.mp h)
def Up(a8:ys≠[])(hf:∀y∈ys,c∉y.cps.toList):jq (ep ⟨#[c]⟩ ys) ⟨#[c]⟩=ys:=by
 have e:=congrArg (·.cps.toList) (StrLaws.join_split (ep ⟨#[c]⟩ ys) ⟨#[c]⟩);simp only[On]at e;have aD:=XN (c:=c) (ps:=(jq (ep ⟨#[c]⟩ ys) ⟨#[c]⟩).map (·.cps.toList)) (qs:=ys.map (·.cps.toList)) (λp ar=>by
  let(y,aM,rfl):=cj.mp ar;exact StrLaws.split_free _ c y aM) (λp ar=>by
  let(y,aM,rfl):=cj.mp ar;exact hf y aM) (by simp[ako]) (by simpa using a8) e
 exact(List.map_inj_right λx y h=>AM h).mp aD
noncomputable abbrev num(v:Int):Str:=af (toString v)
def aj3:∀n,n<1000->(decide (1<=↑((wo 10 n).map yW))&&decide (↑((wo 10 n).map yW)<=3)&&((wo 10 n).map yW).all nT&&(decide (↑((wo 10 n).map yW)<=1)||decide (((wo 10 n).map yW).headD 0≠48)) &&
  decide (RY ((wo 10 n).map yW)=n))=true:=∅
def D7(h0:0<=v)(ae:v<1000):la (num v)=true/\val (num v)=v:=by
 have e:=alJ v.toNat;rw[sZ h0]at e;have a:=aj3 v.toNat ();rw[<- e,kX,decide_eq_true_eq]at a;exact(a.1,by show((RY (cs (num v)):Nat):Int)=v;rw[a.2];omega)
def sQ{v lo ah:Int}(h0:0<=v)(ae:v<1000)(aK:lo<=v)(bT:v<=ah):jM (num v) lo ah=.int v:=by
 let(a,b):=D7 h0 ae;unfold jM;rw[a,b,decide_eq_false (by omega:¬v<lo),decide_eq_false (by omega:¬ah<v)];rfl
def al3(h0:0<=u)(ae:u<1000)(ak:0<=v)(aZ:v<1000)(e:num u=num v):u=v:=by
 rw[<- (D7 h0 ae).2,e,(D7 ak aZ).2]
def SD(h0:0<=v)(ae:v<1000):∀c∈(num v).cps.toList,48<=c/\c<=57:=λc aB=>by
 have:=u2.mp (abd (D7 h0 ae).1).2 c aB;simpa[nT]using this
def ahp:∀c∈ow.cps.toList,97<=c/\c<=122:=∅
def Y9:∀k,k<26->97+k∈ow.cps.toList:=∅
def w3{x:Str}(h:made x ow 8=true):(1<=↑x/\↑x<=8)/\∀c∈x.cps.toList,97<=c/\c<=122:=by
 unfold made at h;split at h
 .cases h
 .rename_i ae;split at h
  .cases h
  .rename_i ak;have aZ:¬ ↑x=0:=λz=>ae (Cv.mpr z)
   refine((),λc aB=>?_);have:=u2.mp h c aB;rw[Ij]at this;exact ahp c (of_decide_eq_true this)
def aar{x:Str}(h0:1<=↑x)(ae:↑x<=8)(h:∀c∈x.cps.toList,97<=c/\c<=122):made x ow 8=true:=by
 unfold made;rw[if_neg (λz=>by have:=Cv.mp z;omega),if_neg ()];refine u2.mpr λc aB=>?_
 have:=h c aB;rw[Ij];have e:=Y9 (c-97) ();rw[show 97+(c-97)=c by omega]at e;exact decide_eq_true e
structure ph(n:Int)(d:bf):Prop where
 k:d.k<3
 nm:made d.name ow 8=true
 st:0<=d.start/\d.start<n
 fN:0<=d.fin/\d.fin<n
 ne:d.start≠d.fin
 of:0<=d.off/\d.off<=30
 w4:0<=d.near/\d.near<=30
 le:1<=d.least/\d.least<=60
structure uW(n:Int)(ds:List bf):Prop where
 nn:2<=n/\n<=99
 ln:1<=↑ds/\↑ds<=12
 al:∀d∈ds,ph n d
 aG:(ds.map (·.name)).Nodup
noncomputable def o6(d:bf):List Str:=[e1 d.k,d.name,num d.start,num d.fin,num d.off,num d.near,num d.least]
noncomputable def iZ(n:Int)(ds:List bf):List (List Str):=[af "ring",num n]::ds.map o6
noncomputable def qS(n:Int)(ds:List bf):Str:=ep nl ((iZ n ds).map (ep cS))
def q_(x:Str):Prop:=↑x<=8/\(32:Nat)∉x.cps.toList/\(10:Nat)∉x.cps.toList
theorem TF(k:Nat):q_ (e1 k):=by
 match k with
 |0=>exact(∅,∅,∅)
 |1=>exact(∅,∅,∅)
 |_+2=>exact(show ↑(af "tram")<=8 by ac_nf,(∅:(32:Nat)∉(af "tram").cps.toList),show(10:Nat)∉(af "tram").cps.toList by ac_nf)
def mK(h0:0<=v)(ae:v<1000):q_ (num v):=
 (cM (Al h0 ()) ∅,λz=>by have:=SD h0 ae _ z;omega,λz=>by have:=SD h0 ae _ z;omega)
def KV{x:Str}(h:made x ow 8=true):q_ x:=
 ((w3 h).1.2,λz=>by have:=(w3 h).2 _ z;omega,λz=>by have:=(w3 h).2 _ z;omega)
def ph.plain(h:ph n d)(a8:n<=99):∀x∈o6 d,q_ x:=λx ag=>by
 have ae:=h.st;have ak:=h.fN;have aZ:=h.of;have bY:=h.w4;have dS:=h.le;simp only[o6,ei,k2,or_false]at ag;rcases ag with rfl|rfl|rfl|rfl|rfl|rfl|rfl
 .exact TF _
 .exact KV h.nm
 .exact mK () ()
 .exact mK () ()
 .exact mK () ()
 .exact mK () ()
 .exact mK () ()
theorem uW.plain(h:uW n ds):∀r∈iZ n ds,∀x∈r,q_ x:=λr ao x ag=>by
 have a8:=h.nn;rcases ei.mp ao with rfl|ao
 .simp only[ei,k2,or_false]at ag;rcases ag with rfl|rfl
  .exact (∅,∅,∅)
  .exact mK () ()
 .let(d,hd,rfl):=cj.mp ao;exact(h.al d hd).plain a8.2 x ag
def Ug(h0:rs≠[])(ae:∀r∈rs,r≠[])(ak:∀r∈rs,∀x∈r,q_ x):h7 (ep nl (rs.map (ep cS)))=rs:=by
 unfold h7;rw[ao_,Bl];rw[Up (by simpa using h0) (λy aM=>by
  let(r,ao,rfl):=cj.mp aM;rw[On];intro z;rcases Yx z with z|⟨p,ar,z⟩
  .cases z
  .let(x,ag,rfl):=cj.mp ar;exact(ak r ao x ag).2.2 z)]
 rw[rE];have:∀r∈rs,((λr=>jq r ⟨#[32]⟩) ∘ ep ⟨#[32]⟩) r=r:=λr ao=>Up (ae r ao) λx ag=>(ak r ao x ag).2.1
 exact(ZA this).trans (List.map_id rs)
def af9(h:uW n ds):h7 (qS n ds)=iZ n ds:=Ug (by simp[iZ]) (λr ao=>by
 rcases ei.mp ao with rfl|ao
 .simp
 .let(d,hd,rfl):=cj.mp ao;simp[o6]) h.plain
theorem rg(sep:Str)(B:Nat):∀ys:List Str,(∀y∈ys,↑y<=B)->↑(ep sep ys)<=↑ys*(B+↑sep)
 |[],_=>by show ↑(Str.empty)<=_;exact eW _
 |[a],h=>by
  have:=h a (by simp);show ↑a<=_;simp only[gW,z'];omega
 |a::b::r,h=>by
  have ae:=h a (by simp);have ak:=rg sep B (b::r) λy aM=>h y (i7 _ aM)
  show ↑(a++sep++ep sep (b::r))<=_;rw[pE,pE,gW,z6];omega
def ai_(h:uW n ds):↑(qS n ds)<=1000:=by
 have ae:∀y∈(iZ n ds).map (ep cS),↑y<=63:=λy aM=>by
  let(r,ao,rfl):=cj.mp aM;have:=rg cS 8 r λx ag=>(h.plain r ao x ag).1
  rw[s8]at this;have aK:↑r<=7:=by
   rcases ei.mp ao with rfl|ao
   .simp
   .let(d,hd,rfl):=cj.mp ao;simp[o6]
  omega
 have ak:=rg nl 63 _ ae;rw[yv]at ak;have aZ:↑((iZ n ds).map (ep cS))<=13:=by
  have:=h.ln;simp[iZ];omega
 unfold qS;omega
noncomputable abbrev rI:List Str:=[af "row",af "told",af "place"]
noncomputable def oj(row:Int)(a_:Addr)(pl:Int):List (Str×V):=[(p'p (af "row") (.int row)),(p'p (af "told") (⇑a_)),(p'p (af "place") (.int pl))]
def xq(row:Int)(a_:Addr)(pl:Int):(oj row a_ pl).map (·.1)=rI:=rfl
def ab4(row:Int)(a_:Addr)(pl v:Int):dn (af "place") (.int v) (oj row a_ pl)=oj row a_ v:=by
 unfold oj;simp only[dn];rw[if_neg ∅,if_neg ∅];rfl
def dx(t:bS)(H:av)(p:Addr)(row:Int)(ws:List Str)(pl:Nat):Prop:=
 (↑ws<=1000/\∀x∈ws,↑x<=1000)/\∃aA a_,H p\(.ins t.hE aA (oj row a_ pl))/\H a_\(.lst (a3 ws))
def df(p:Addr)(H I:av):Prop:=∀b u,b≠p->H b\u->I b\u
def df.trans{p:Addr}(a:df p H H1)(b:df p H1 aw):df p H aw:=λc u n e=>b c u n (a c u n e)
def df.of{p:Addr}(a:aN H H1):df p H H1:=λc u _ e=>a c u e
def df.put{p:Addr}:df p H (upd H p o):=λc u n e=>by rw[aP n];exact e
def fE(ws:List Str):↑(a3 ws)=↑ws:=by unfold a3;rw[aX]
def oe{ws:List Str}{i:Nat}{x:Str}(h:ws[i]?\x):(a3 ws)[i]?\(.str x):=by unfold a3;rw[dg,h];rfl
def vr(ws:List Str):(a3 ws).all my=true:=by unfold a3;simp[my]
def wZ(x:Str)(xs:List Str):r4 (.str x) (a3 xs)=decide (x∈xs):=by
 unfold r4 a3;rw[Ot,l6];simp only[r1,af',e'a,e'b,e'c,beq_iff_eq,decide_eq_true_eq];constructor
 .intro (y,aM,rfl);exact aM
 .intro h;exact(x,h,rfl)
section
variable{w:World}{K:bk}{mg:Str->Option Value}{t:bS}{H I:av}{p:Addr}{row:Int}{ws:List Str}{pl:Nat}
def dx.same(h:dx t H p row ws pl)(s:aN H I):dx t I p row ws pl:=by
 let(aQ,aA,a_,aq,aD):=h;exact(aQ,aA,a_,s _ _ aq,s _ _ aD)
def dx.z8(h:dx t H p row ws pl)(s:df q H I)(n:p≠q)(k:∃C aA a5,H q\(.ins C aA a5)):dx t I p row ws pl:=by
 let(aQ,aA,a_,aq,aD):=h;let(C,AU,a5,bV):=k;exact(aQ,aA,a_,s _ _ n aq,s _ _ (cC aD bV (by intro z;cases z)) aD)
theorem dx.ins(h:dx t H p row ws pl):∃C aA a5,H p\(.ins C aA a5):=by
 let(aQ,aA,a_,aq,aD):=h;exact(_,_,_,aq)
def dx.no{m:Str}(row:Int)(a_:Addr)(pl:Int)(h:rI.contains m=false):(oj row a_ pl).lookup m=none:=yX rI (xq ..) h
def Lu(T:Txt w K mg t){pl:Int}(e:H p\(.ins t.hE aA (oj row a_ pl))):gr K H p (af "place") (.int pl):=
 (_,aA,_,e,T.gu,T.IW,g4 rI 2 (xq ..) ∅ rfl)
def Gp(T:Txt w K mg t){pl:Int}(e:H p\(.ins t.hE aA (oj row a_ pl))):gr K H p (af "told") ⇑a_:=
 (_,aA,_,e,T.gu,T.PN,g4 rI 1 (xq ..) ∅ rfl)
end
def Q4(t:bS):bO:=λvs H Q _=>∃(p aA a_:Addr) (row:Int),vs=[⇑p,.int row,⇑a_]/\H p\(.ins t.hE aA [])/\Q .cf (upd H p (.ins t.hE aA (oj row a_ 0)))
def ZC(t:bS):bO:=λvs H Q _=>∃p row ws pl,vs=[⇑p]/\dx t H p row ws pl/\pl<=↑ws/\Q (.str (ws.getD pl (af ""))) H
def alU(t:bS):bO:=λvs H Q _=>∃p row ws pl,vs=[⇑p]/\dx t H p row ws pl/\Q (.bp (decide (pl<↑ws))) H
def Hy(t:bS)(H:av)(p:Addr)(row:Int)(ws:List Str)(pl:Nat)(R:av->Prop):Prop:=∀I,df p H I->(aL H->aL I)->dx t I p row ws pl->R I
def aaO(t:bS):bO:=λvs H Q _=>∃p row ws pl,vs=[⇑p,.bp true]/\dx t H p row ws pl/\Hy t H p row ws (pl+1) (Q .cf)
def aeI(K:bk)(t:bS):bO:=λvs H Q _=>∃p row ws pl x c xs,vs=[⇑p,⇑c]/\dx t H p row ws pl/\ws[pl]?\x/\az K H c (a3 xs)/\x∈xs/\Hy t H p row ws (pl+1) (Q (.str x))
def alP(t:bS):bO:=λvs H Q _=>∃p row ws pl x lo ah v,vs=[⇑p,.int lo,.int ah]/\dx t H p row ws pl/\ws[pl]?\x/\jM x lo ah=.int v/\aL H/\Hy t H p row ws (pl+1) (Q (.int v))
def ab2(t:bS):bO:=λvs H Q _=>∃p row ws pl,vs=[⇑p]/\dx t H p row ws pl/\pl=↑ws/\Q .cf H
def ak7:cq P base T 1 t.xE t.DF x1 (Q4 t):=by
 exists T.O_.ok adw,9
 let(p,aA,a_,row,rfl,ar,q):=h;refine(_,(db (fC (U 0) (U 1) rfl)
   (db (fC (U 0) (U 2) rfl)
   (a4 (fC (U 0) aT rfl)))),?_)
 nofun;refine(_,_,_,ar,T.gu,T.lv,∅,?_);refine(_,_,_,aR,T.gu,T.PN,hI (n:=999) ∅,?_);refine(_,_,_,aR,T.gu,T.IW,hI (n:=999) (hI (n:=998) ∅),?_);simp only[ur];rw[show dn (af "row") (V.int row) ([]:List (Str×V))=[(p'p (af "row") (V.int row))]from gZ [] rfl ∅,
  show dn (af "told") (V.ref a_) ([(p'p (af "row") (V.int row))]:List (Str×V))=[(p'p (af "row") (V.int row)),(p'p (af "told") (V.ref a_))]from gZ [af "row"] rfl ∅,
  show dn (af "place") (V.int 0) ([(p'p (af "row") (V.int row)),(p'p (af "told") (V.ref a_))]:List (Str×V))=[(p'p (af "row") (V.int row)),(p'p (af "told") (V.ref a_)),(p'p (af "place") (V.int 0))]from gZ [af "row",af "told"] rfl ∅]
 exact q
def Ev:cq P base T 1 t.ld t.Hg ["self"] (ZC t):=by
 exists T.TM.ok agC,9
 let(p,row,ws,pl,rfl,(aQ,aA,a_,aq,aD),hle,q):=h;refine(_,(db (d4 (dh e3 (bB (U 0) rfl) (fx iV rfl T.iE iw (ai (bB (U 0) rfl) aC)) (cL _)) (a4 (b7 dF)) en)
   (a4 (b7 (bZ c8 (bB (U 0) rfl) (bB (U 0) rfl))))),?_)
 nofun;refine du (decide ((pl:Int)=(↑ws:Int))) (λQ aY=>?_) (λc=>?_) (λc=>?_)
 .nofun;refine(_,Lu T aq,_,Gp T aq,_,rfl,_,.inl (az.of aD),rfl,?_);rw[fE];nofun;exact aY
 .nofun;have c':pl=↑ws:=by have:=of_decide_eq_true c;omega
  rw[show ws.getD pl (af "")=af "" by rw[kd,aiF ()];rfl]at q;exact q
 .nofun;have c':pl<↑ws:=by have:=of_decide_eq_false c;omega
  have ag:ws[pl]?\ws[pl]:=a6 c';rw[kd,ag]at q;exact(_,Gp T aq,_,Lu T aq,_,rfl,_,_,rfl,az.of aD,_,cv (oe ag),q)
def SS:cq P base T 1 t.BE t.IL ["self"] (alU t):=by
 exists T.Qf.ok anx,9
 let(p,row,ws,pl,rfl,(aQ,aA,a_,aq,aD),q):=h;refine(_,(a4 (b7 (hV ir (bB (U 0) rfl) (fx iV rfl T.iE iw (ai (bB (U 0) rfl) aC)) (cL _)))),?_);nofun;have e:decide (pl<↑ws)=decide ((pl:Int)<(↑ws:Int)):=by rw[l6];simp
 rw[e]at q;refine(_,Lu T aq,_,Gp T aq,_,rfl,_,.inl (az.of aD),?_);rw[fE];exact(_,rfl,q)
def JW:cq P base T 1 t.E6 t.Hb EA (aaO t):=by
 exists T.V1.ok aoT,9
 let(p,row,ws,pl,rfl,(aQ,aA,a_,aq,aD),q):=h;refine(_,(db (d4 (n8 (lE (U 1))) (a4 Ch) en)
   (a4 (NR (U 0) aT HJ))),?_)
 nofun;refine du false (λQ aY=>?_) (λaB=>nomatch aB) (λ_=>?_)
 .nofun;exact aY
 .nofun;refine⟨_,_,_,aq,T.gu,T.IW,_,g4 rI 2 (xq ..) ∅ rfl,_,rfl,_,_,aq,by rw[<- aX (f:=(·.1)),xq];decide,?_⟩;rw[ab4];exact q _ df.put (λn=>n.upd) (aQ,aA,a_,aR,by rw[aP (cC aD aq (by intro z;cases z))];exact aD)
def Cj:cq P base T 2 t.BL t.Kz Ny (aeI K t):=by
 refine cA (Ev T) λu6=>cA (JW T) λxC=>?_;exists T.Pf.ok PE,9
 let(p,row,ws,pl,x,c,xs,rfl,R,ag,aB,hm,q):=h;refine(_,(db (b' (i:=2) PE.aG (kQ (U 0) T.gu T.AG u6 ao T.AD .nil c3))
   (db (ea (fK (U 0) T.gu T.GD xC ao T.Ng .nil c3 (ai (hV vZ (U 2) (U 1) (by with_unfolding_all rfl)) aC)))
   (a4 (b7 (U 2))))),?_)
 have dK:pl<↑ws:=(b0.mp ag).1;have a7:ws.getD pl (af "")=x:=by rw[kd,ag];rfl
 let(_,aA,a_,aq,aD):=id R;nofun;refine(_,_,aq,dx.no _ _ _ ∅,(p,row,ws,pl,rfl,R,(),?_));rw[a7];nofun;refine(_,_,aq,dx.no _ _ _ ∅,_,.inl aB,rfl,vr xs,?_);rw[wZ,decide_eq_true hm];refine(p,row,ws,pl,rfl,R,λI s1 s2 s3=>?_);nofun;exact q I s1 s2 s3
def Ea:cq P base T 4 t.ES t.FU H7 (alP t):=by
 refine cA (Ev T) λu6=>cA (JW T) λxC=>cA (amk T) λabp=>?_;exists T.VG.ok SN,9
 let(p,row,ws,pl,x,lo,ah,v,rfl,R,ag,aE,bC,q):=h;refine(_,(db (b' (i:=3) SN.aG (b3 abp ao T.ai9 T.LC.bo T.ZH (ai (kQ (U 0) T.gu T.AG u6 ao T.AD .nil c3) (ai (U 1) (ai (U 2) aC)))))
   (db (ea (fK (U 0) T.gu T.GD xC ao T.Ng .nil c3 (ai (hV V' (U 3) u0 (cL _)) aC)))
   (a4 (b7 (U 3))))),?_)
 have dK:pl<↑ws:=(b0.mp ag).1;have a7:ws.getD pl (af "")=x:=by rw[kd,ag];rfl
 let(aQ,aA,a_,aq,aD):=id R;nofun;refine(_,_,aq,dx.no _ _ _ ∅,(p,row,ws,pl,rfl,R,(),?_));rw[a7];nofun;refine(x,lo,ah,rfl,aQ.2 x (bU ag),bC,?_);rw[aE];nofun;refine(_,_,aq,dx.no _ _ _ ∅,?_);refine(p,row,ws,pl,rfl,R,λI s1 s2 s3=>?_);nofun;exact q I s1 s2 s3
def XK:cq P base T 2 t.DC t.Kh ["self"] (ab2 t):=by
 refine cA (SS T) λHs=>?_;exists T.S2.ok aau,9
 let(p,row,ws,pl,rfl,R,aK,q):=h;let(aQ,aA,a_,aq,aD):=id R;refine(_,(a4 (d4 (lE (kQ (U 0) T.gu T.Qm Hs ao T.WG .nil c3)) (a4 Ch) en)),?_);nofun;refine du false (λQ aY=>?_) (λaB=>nomatch aB) (λ_=>?_)
 .nofun;refine(_,_,aq,dx.no _ _ _ ∅,(p,row,ws,pl,rfl,R,?_));rw[decide_eq_false ()];exact(_,rfl,aY)
 .nofun;exact q
noncomputable abbrev aF(ws:List Str)(k:Nat):Str:=ws.getD k (af "")
def Gq{k:Nat}(h:aF ws k≠af ""):k<↑ws:=by
 refine Classical.byContradiction λz=>h ?_
 unfold aF;rw[kd,aiF ()];rfl
def agJ(w:Str)(lo ah:Int):(∃v,jM w lo ah=.int v/\lo<=v/\v<=ah/\w≠af "")\/jM w lo ah=.cf:=by
 unfold jM;split
 .rename_i h;rw[kX]at h;refine .inl (val w,rfl,?_,?_,λz=>?_)
  .have:=h.2;simp at this;omega
  .have:=h.2;simp at this;omega
  .have ae:=h.1;rw[z]at ae;exact absurd ae ∅
 .exact .inr rfl
def agN(x:Str):Prop:=↑x<=1000/\∀c∈x.cps.toList,c<16 ^ 8
noncomputable def ie(ds:List bf)(x:Str):Option bf:=ds.find? λd=>decide (d.name=x)
def Fg{w:World}{K:bk}{mg:Str->Option Value}{base:Heap}{j k:Nat}{m:Str}(V:ra P w K mg base CX j pY m ps qh)(h:j<=k):ra P w K mg base CX k pY m ps qh:=⟨λC dv=>by
 let(f,fd,ae,ak,aZ,bY):=V.ok C dv;exact(f,fd,ae,ak,aZ.mono h,bY)⟩
noncomputable def lF(x:Str)(lo ah:Int):Option Int:=if la x && !(decide (val x<lo)||decide (ah<val x))then some (val x)else none
def IK(x:Str)(lo ah:Int):jM x lo ah=(lF x lo ah).elim .cf .int:=by
 unfold jM lF;split <;> rfl
theorem WH{x:Str}{lo ah v:Int}(h:jM x lo ah=.int v):lF x lo ah\v:=by
 rw[IK]at h;cases e:lF x lo ah with
 |none=>rw[e]at h;cases h
 |some u=>rw[e]at h;injection h with h;rw[h]
def GN{k:Nat}{lo ah v:Int}(h:jM (aF ws k) lo ah=.int v):k+1<=↑ws/\lo<=v/\v<=ah:=by
 rcases agJ (aF ws k) lo ah with⟨u,bR,ae,ak,aZ⟩|a8
 .rw [bR]at h;injection h with h;subst h;exact(Gq aZ,ae,ak)
 .rw [a8]at h;cases h
theorem nr{a x:α}(h:(l++[a])[i]?\x):(i<↑l/\l[i]?\x)\/(i=↑l/\x=a):=by
 by_cases ah:i<↑l
 .rw [lC ah]at h;exact .inl (ah,h)
 .rw[kz ()]at h;have h0:i-↑l=0:=by
   cases bT:i-↑l with
   |zero=>rfl
   |succ m=>rw[bT]at h;simp at h
  rw[h0]at h;exact .inr ((),(by simpa using h:a=x).symm)
def y_{k:Nat}(h:k<↑ws):ws[k]?\(aF ws k):=by
 unfold aF;rw[kd,a6 h];rfl
theorem b_{α β:Type}{f:α->β}{l:List α}{i:Nat}{y:β}(h:(l.map f)[i]?\y):∃x,l[i]?\x/\y=f x:=by
 rw[dg]at h;cases e:l[i]? with
 |none=>rw[e]at h;cases h
 |some x=>rw[e]at h;exact(x,rfl,(d2 h).symm)
def Y1(t:bS)(cx H:av)(p:Addr)(rows:List (List Str)):Prop:=∃qs:List Addr,H p\(.lst (qs.map V.ref))/\cx p=none/\↑qs=↑rows/\∀(i:Nat) (q:Addr) (r:List Str),qs[i]?\q->rows[i]?\r->dx t H q i r 0/\cx q=none
def JT(t:bS):bO:=λvs H Q _=>∃x,vs=[.str x]/\↑x<=20000/\(∀r∈h7 x,↑r<=1000/\∀y∈r,↑y<=1000)/\aL H/\∀p I,aN H I->aL I->Y1 t H I p (h7 x)->Q ⇑p I
theorem W_:cq P base T 3 t.xv t.yE ["text"] (JT t):=by
 have afK:cE P w K mg base dq 2 t.Et t.FC ["text"] YG:=(ZG T).mono ∅;have am6:cE P w K mg base dq 1 t.xE t.DF x1 (Q4 t):=ak7 T;exists T.ut.ok agZ,9
 let(x,rfl,aQ,wq,bC,q):=h;refine(_,(a4 (b7 (hR rfl (A5 rfl T.FE (ai (b3 afK ao T.anm T.MB.bo T.amS (ai (U 0) aC)) aC)) (f_ (sc:=bx (top 25)) rfl ∅) (N:=["row","told"]) (sel:=[none,none]) (f7 (M:=["text"]) ∅) (fa.of (λ_ _ _ _=>(kC (K:=K) (n:=2) rfl rfl (ac (b8 (i:=0) (ec (N:=["row","told"]) ∅ rfl)) (ac (b8 (i:=1) (ec (N:=["row","told"]) ∅ rfl)) kx)))) (λ_ _ _ _=>(_,hT,by walk_at "B")) (λ_ _ _ _=>(_,(uM T.akB am6 ao rfl T.ahr T.aja .nil c3 (ai (U 0) (ai (U 1) aC))),by walk_at "B")))))),?_);nofun;refine(x,rfl,aQ,bC,λp H1 v8 jk ⟨ps,ar,h1,k7,c2,ru⟩=>?_);nofun;refine((_,az.of ar),?_);have hlen:↑ps<=sizeLine:=by
  rw[c2];unfold h7;rw[aX];have:=Oc (x:=x) (y:=nl) (by rw[yv];exact bQ _);exact cM (show _<=40000 by omega) ∅
 refine cY.enum (xs:=ps.map V.ref) (λi ys aw=>aN H1 aw/\aL aw/\∃qs:List Addr,ys=qs.map V.ref/\↑qs=i/\∀(j:Nat) (q:Addr) (r:List Str),qs[j]?\q->(h7 x)[j]?\r->dx t aw q j r 0/\H1 q=none)
  (by rw[aX];exact hlen) (aN.refl H1,jk,[],rfl,rfl,λj q r h _=>by simp at h) ?_ ?_ ?_
 .rintro i ys aw ah bj;ac_rfl
  let(s2,cW,qs,rfl,aI,_):=bj;subst aV;exact(az.of (s2 _ _ ar),by rw[aX];omega)
 .rintro i v ys aw cX aE ⟨s2,cW,qs,rfl,aI,al⟩ gc N bl;rw[dg]at aE;cases DJ:ps[i]? with
  |none=>rw[DJ]at aE;cases aE
  | some pi=>
   rw[DJ]at aE;have e:=(d2 aE).symm;subst e;refine ui ?_;nofun;refine(Sub.Qo,λa aA aO hd ck=>?_);refine(a,aA,pi,i,rfl,aR,rfl,?_);rw[ur];have s3:aN aw (upd (upd (upd aw cX (.tup [.int i,⇑pi])) aA (.own a)) a (.ins t.hE aA (oj i pi 0))):=by
    have aj:aN aw (upd aw cX (.tup [.int i,⇑pi])):=bh gc;exact((aN.trans aj (bh hd)).hS (aj.free aO))
   let(r,ao):∃r,(h7 x)[i]?\r:=((h7 x)[i]'(by rw[<- c2];exact(b0.mp DJ).1),a6 _);have YK:aw a=none:=(bh gc).free aO;refine bl _ _ (s2.trans s3,((cW.upd).upd).upd,qs++[a],by rw[e'];rfl,by rw[cB,aI];rfl,λj dY d5 ae ak=>?_);by_cases aJ:j<↑qs
   .rw [lC aJ]at ae;let(gA,eu):=al j dY d5 ae ak;exact(gA.same s3,eu)
   .rw[kz ()]at ae;have qM:j-↑qs=0:=by
     cases bT:j-↑qs with
     |zero=>rfl
     |succ n=>rw[bT]at ae;simp at ae
    rw[qM]at ae;have bV:a=dY:=by simpa using ae
    subst bV;have eC:j=i:=()
    subst eC;rw[ao]at ak;cases ak;refine((wq r (bU ao),aA,pi,aR,?_),s2.free YK);exact s3 _ _ (s2 _ _ (ru j pi r DJ ao).1)
 .intro ys aw (s2,cW,qs,rfl,aI,al) cX gc;refine q cX _ ((v8.trans s2).hS ((v8.trans s2).free gc)) (cW.upd) (qs,aR,(v8.trans s2).free gc,by rw[aI,aX,c2],λi dY r ae ak=>?_);let(gA,eu):=al i dY r ae ak;exact(gA.same (bh gc),v8.free eu)
def ac5(q:Addr)(H:av)(R:av->Prop):Prop:=∀I,df q H I->aL I->R I
def Sq(t:bS):bO:=λvs H Q _=>∃q row n,vs=[⇑q]/\dx t H q row [af "ring",num n] 0/\(2<=n/\n<=99)/\aL H/\ac5 q H (Q (.int n))
def oV(t:bS)(H:av)(wl:Addr)(ds:List bf):Prop:=∃as:List Addr,H wl\(.lst (as.map V.ref))/\↑as=↑ds/\∀(i:Nat) (a:Addr) (d:bf),as[i]?\a->ds[i]?\d->fh t H a d
def tz(t:bS):bO:=λvs H Q _=>∃q row ws pl wl ds x,vs=[⇑q,⇑wl]/\dx t H q row ws pl/\ws[pl]?\x/\made x ow 8=true/\oV t H wl ds/\↑ds<=12/\(∀d∈ds,d.name≠x)/\aL H /\
 ∀I,df q H I->aL I->dx t I q row ws (pl+1)->Q (.str x) I
def Zj(t:bS):bO:=λvs H Q _=>∃q row ws pl n st fN,vs=[⇑q,.int n,.int st]/\dx t H q row ws pl/\ws[pl]?\(num fN)/\(0<=st/\st<n)/\(0<=fN/\fN<n)/\st≠fN/\n<=99/\aL H /\
 ∀I,df q H I->aL I->dx t I q row ws (pl+1)->Q (.int fN) I
def anR(t:bS):bO:=λvs H Q _=>∃d:bf,vs=[.str (e1 d.k),.str d.name,.int d.start,.int d.fin,.int d.off,.int d.near,.int d.least]/\d.k<3/\∀x I,aN H I->(aL H->aL I)->fh t I x d->H x=none->Q ⇑x I
def ON(t:bS):bO:=λvs H Q _=>∃q row n wl ds d,vs=[⇑q,.int n,⇑wl]/\dx t H q row (o6 d) 0/\ph n d/\(2<=n/\n<=99)/\oV t H wl ds/\↑ds<=12/\(∀e∈ds,e.name≠d.name)/\aL H /\
 ∀x I,df q H I->aL I->fh t I x d->H x=none->Q ⇑x I
def oV.z8{t:bS}{pl:Nat}(h:oV t H wl ds)(s:df q H I)(r:dx t H q row ws pl):oV t I wl ds:=by
 let(as,aq,aD,al):=h;let(aQ,aA,a_,bV,eC):=r;refine(as,s _ _ (cC aq bV (by intro z;cases z)) aq,aD,λi a d ae ak=>?_);let(ax,h_,gn):=al i a d ae ak;refine(ax,h_,s _ _ (λz=>?_) gn);subst z;rw[gn]at bV;have eB:=d2 bV;injection eB with _ _ km;have jF:(7:Nat)=3:=congrArg q8 km;omega
theorem oV.same{t:bS}(h:oV t H wl ds)(s:aN H I):oV t I wl ds:=by
 let(as,aq,aD,al):=h;exact(as,s _ _ aq,aD,λi a d ae ak=>(al i a d ae ak).same s)
def apg:cq P base T 5 t.CK t.Bm ["reader"] (Sq t):=by
 refine cA (Cj T) λsq=>cA (Ea T) λoS=>cA (XK T) λHB=>?_;exists T.Jw.ok T',9
 let(q,row,n,rfl,R,a8,bC,lH):=h;refine(_,(db (ea (fK (U 0) T.gu T.xX sq ao T.zJ .nil c3 (ai (e5 (ai dF aC)) aC)))
   (db (b' (i:=1) T'.aG (fK (U 0) T.gu T.sX oS ao T.tc .nil c3 (ai (ny rfl T.aeA T.amE) (ai (ny rfl T.ak9 T.amF) aC))))
   (db (ea (kQ (U 0) T.gu T.Qj HB ao T.XG .nil c3))
   (a4 (b7 (U 1)))))),?_)
 let(_,aA,a_,aq,aD):=id R;nofun;refine(_,_,aq,dx.no _ _ _ ∅,∅,λp ar=>?_);have s0:aN H (upd H p (.lst [V.str (af "ring")])):=bh ar;refine(q,row,_,0,af "ring",p,[af "ring"],rfl,R.same s0,rfl,az.of aR,by simp,λH1 s1 cP k3=>?_);let(_,UM,Xg,f1,f2):=id k3;nofun;refine(_,_,f1,dx.no _ _ _ ∅,?_);have jk:=cP bC.upd;refine(q,row,_,1,num n,2,99,n,rfl,k3,rfl,sQ () () a8.1 a8.2,jk,λaw s2 cW fl=>?_);let(_,yp,IP,g1,g2):=id fl;nofun;refine(_,_,g1,dx.no _ _ _ ∅,?_);refine(q,row,_,2,rfl,fl,rfl,?_);nofun;exact lH aw (((df.of s0).trans s1).trans s2) (cW jk)
def afl:cq P base T 3 t.K5 t.FK Mp (tz t):=by
 refine cA (Ev T) λu6=>cA (JW T) λxC=>cA (Zq T) λYX=>?_;exists T.MV.ok bn,9
 let(q,row,ws,pl,wl,ds,x,rfl,R,ag,hm,gE,hr,G2,bC,lH):=h;refine(_,(db (b' (i:=2) bn.aG (kQ (U 0) T.gu T.AG u6 ao T.AD .nil c3))
   (db (ea (fK (U 0) T.gu T.GD xC ao T.Ng .nil c3 (ai (sr (b3 YX ao T.aaW T.Kk.bo T.aj2 (ai (U 2) aC)) (sh (hV bi (U 2) (hR rfl (e6 (U 1)) (f_ (sc:=bx (top 68)) rfl ∅) (N:=["way"]) (sel:=[none]) (f7 (M:=["reader","ways","name"]) ∅) (fa.of (λ_ _ _ _=>(b8 (i:=0) (ec (N:=["way"]) ∅ rfl))) (λ_ _ _ _=>(_,hT,by walk_at "B")) (λ_ _ _ _=>(_,(bB (U 0) rfl),by walk_at "B")))) (by with_unfolding_all rfl)))) aC)))
   (a4 (b7 (U 2))))),?_)
 have dK:pl<↑ws:=(b0.mp ag).1;have a7:ws.getD pl (af "")=x:=by rw[kd,ag];rfl
 let(aQ,aA,a_,aq,aD):=id R;nofun;refine(_,_,aq,dx.no _ _ _ ∅,(q,row,ws,pl,rfl,R,(),?_));rw[a7];nofun;refine(_,_,aq,dx.no _ _ _ ∅,?_);refine(x,rfl,aQ.2 x (bU ag),bC,?_);rw[hm];nofun;let(as,dN,eH,al):=gE;refine((_,az.of dN),?_);have hle:↑(as.map V.ref)<=sizeLine:=by rw[aX,eH];exact cM hr ∅
 refine cY.mD (xs:=as.map V.ref) (zs:=ds.map λd=>V.str d.name) (az.of dN) hle (by rw[aX,aX,eH]) (λi v z N aE h3 bl=>?_) (λp ar=>?_)
 .let(a,aO,rfl):=b_ aE;let(d,hd,rfl):=b_ h3;nofun;exact(Sub.name,_,(al i a d aO hd).IQ T,bl)
 .nofun;have eh:(ds.map λd=>V.str d.name)=a3 (ds.map (·.name)):=by unfold a3;rw[rE];rfl
  rw[eh];refine(_,.inl (az.of aR),rfl,vr _,?_);rw[wZ,decide_eq_false (λz=>by
   let(d,hd,e):=cj.mp z;exact G2 d hd e)]
  have s0:aN H (upd H p (.lst (a3 (ds.map (·.name))))):=bh ar;exact(q,row,ws,pl,rfl,R.same s0,λI s1 cP k3=>lH I ((df.of s0).trans s1) (cP bC.upd) k3)
def afj:cq P base T 5 t.Gb t.Ln Bo (Zj t):=by
 refine cA (Ev T) λu6=>cA (Ea T) λoS=>?_;exists T.Iv.ok aed,9
 let(q,row,ws,pl,n,st,fN,rfl,R,ag,e9,F0,ck,a8,bC,lH):=h;refine(_,(db (d4 (dh e3 (kQ (U 0) T.gu T.AG u6 ao T.AD .nil c3) (rj yO rfl T.xB Tl (ai (U 2) aC)) (cL _)) (a4 Ch) en)
   (a4 (b7 (fK (U 0) T.gu T.sX oS ao T.tc .nil c3 (ai aT (ai (bN mz (U 1) aT) aC)))))),?_)
 have dK:pl<↑ws:=(b0.mp ag).1;have a7:ws.getD pl (af "")=num fN:=by rw[kd,ag];rfl
 let(aQ,aA,a_,aq,aD):=id R;nofun;refine du false (λQ aY=>?_) (λaB=>nomatch aB) (λ_=>?_)
 .nofun;refine(_,_,aq,dx.no _ _ _ ∅,(q,row,ws,pl,rfl,R,(),?_));rw[a7];nofun;refine(Jm (),?_);rw[decide_eq_false (λz=>ck (al3 () () () () z).symm)];exact aY
 .nofun;refine(_,_,aq,dx.no _ _ _ ∅,(q,row,ws,pl,num fN,0,n-1,fN,rfl,R,ag,sQ () () () (),bC,λH1 s1 cP k3=>?_));exact lH H1 s1 (cP bC) k3
def ajO{t:bS}{x aA:Addr}(ag:H x=none)(hd:H aA=none)(ax:d.k<3) :
  aN H (upd (upd (upd H aA (.own x)) x (.ins (t.hi d.k) aA [])) x (.ins (t.hi d.k) aA (p5 d)))/\(aL H->aL (upd (upd (upd H aA (.own x)) x (.ins (t.hi d.k) aA [])) x (.ins (t.hi d.k) aA (p5 d)))) /\
   fh t (upd (upd (upd H aA (.own x)) x (.ins (t.hi d.k) aA [])) x (.ins (t.hi d.k) aA (p5 d))) x d:=
 ((((aN.refl H).hS hd).hS ag).hS ag,λn=>((n.upd).upd).upd,ax,aA,aR)
theorem ajq:cq P base T 4 t.Ge t.No Av (anR t):=by
 have aib:cE P w K mg base dq 2 t.y2 t.C7 lA (wF t 0):=akj T;have ahg:cE P w K mg base dq 2 t.xp t.Fj lA (wF t 1):=als T;have alA:cE P w K mg base dq 2 t.ye t.AP lA (wF t 2):=alO T;exists T.Kt.ok ahu,9
 let(d,rfl,ax,q):=h;refine(_,(db (d4 (dh e3 (U 0) dF (cL _)) (a4 (b7 (uM T.aac aib ao rfl T.aex T.Y5 .nil c3 (ai (U 1) (ai (U 2) (ai (U 3) (ai (U 4) (ai (U 5) (ai (U 6) aC))))))))) en)
   (db (d4 (dh e3 (U 0) dF (cL _)) (a4 (b7 (uM T.ajC ahg ao rfl T.Z_ T.Y8 .nil c3 (ai (U 1) (ai (U 2) (ai (U 3) (ai (U 4) (ai (U 5) (ai (U 6) aC))))))))) en)
   (a4 (b7 (uM T.ac_ alA ao rfl T.ahB T.acx .nil c3 (ai (U 1) (ai (U 2) (ai (U 3) (ai (U 4) (ai (U 5) (ai (U 6) aC))))))))))),?_)
 have fin:∀(x aA:Addr),H x=none->H aA=none->Q ⇑x (upd (upd (upd H aA (.own x)) x (.ins (t.hi d.k) aA [])) x (.ins (t.hi d.k) aA (p5 d))):=λx aA ag hd=>by
  let(lz,lP,sz):=ajO (t:=t) (d:=d) ag hd ax;exact q x _ lz lP sz ag
 let(k,name,start,fN,off,near,least):=d
 match k,ax with
 |0,_=>
  (nofun; repeat (dsimp only[e1];nofun));refine du true (λQ aY=>?_) (λ_=>?_) (λaB=>nomatch aB)
  .nofun;exact aY
  .nofun;exact λx aA ag hd ck=>(x,aA,(0,name,start,fN,off,near,least),rfl,rfl,aR,rfl,fin x aA ag hd)
 | 1,_=>
  (nofun; repeat (dsimp only[e1];nofun));refine du false (λQ aY=>?_) (λaB=>nomatch aB) (λ_=>?_)
  .nofun;rw[decide_eq_false ∅];exact aY
  .nofun;refine du true (λQ aY=>?_) (λ_=>?_) (λaB=>nomatch aB)
   .nofun;exact aY
   .nofun;exact λx aA ag hd ck=>(x,aA,(1,name,start,fN,off,near,least),rfl,rfl,aR,rfl,fin x aA ag hd)
 | 2,_=>
  (nofun; repeat (dsimp only[e1];nofun));refine du false (λQ aY=>?_) (λaB=>nomatch aB) (λ_=>?_)
  .nofun;rw[decide_eq_false ∅];exact aY
  .nofun;refine du false (λQ aY=>?_) (λaB=>nomatch aB) (λ_=>?_)
   .nofun;rw[decide_eq_false ∅];exact aY
   .nofun;exact λx aA ag hd ck=>(x,aA,(2,name,start,fN,off,near,least),rfl,rfl,aR,rfl,fin x aA ag hd)
theorem wT:cq P base T 6 t.EZ t.D0 E3 (ON t):=by
 refine cA (Cj T) λsq=>cA (Ea T) λoS=>cA (XK T) λHB=>cA (afl T) λamT=>cA (afj T) λY6=>cA (ajq T) λaeH=>?_;exists T.Ku.ok wf,9
 let(q,row,n,wl,ds,d,rfl,R,hd,a8,gE,hr,G2,bC,lH):=h;refine(_,(db (b' (i:=3) wf.aG (fK (U 0) T.gu T.xX sq ao T.zJ .nil c3 (ai (e5 (ai dF (ai dF (ai dF aC)))) aC)))
   (db (b' (i:=4) wf.aG (b3 amT ao T.ans T.MV.bo T.aif (ai (U 0) (ai (U 2) aC))))
   (db (b' (i:=5) wf.aG (fK (U 0) T.gu T.sX oS ao T.tc .nil c3 (ai aT (ai (bN mz (U 1) aT) aC))))
   (db (b' (i:=6) wf.aG (b3 Y6 ao T.acp T.Iv.bo T.ajW (ai (U 0) (ai (U 1) (ai (U 5) aC)))))
   (db (b' (i:=7) wf.aG (fK (U 0) T.gu T.sX oS ao T.tc .nil c3 (ai aT (ai (ny rfl T.ad_ T.ahH) aC))))
   (db (b' (i:=8) wf.aG (fK (U 0) T.gu T.sX oS ao T.tc .nil c3 (ai aT (ai (ny rfl T.Z' T.GE) aC))))
   (db (b' (i:=9) wf.aG (fK (U 0) T.gu T.sX oS ao T.tc .nil c3 (ai aT (ai (ny rfl T.anf T.alC) aC))))
   (db (ea (kQ (U 0) T.gu T.Qj HB ao T.XG .nil c3))
   (a4 (b7 (b3 aeH ao T.ab7 T.Kt.bo T.adv (ai (U 3) (ai (U 4) (ai (U 5) (ai (U 6) (ai (U 7) (ai (U 8) (ai (U 9) aC)))))))))))))))))),?_)
 have ee:=hd.st;have eo:=hd.fN;have ft:=hd.of;have gP:=hd.w4;have pk:=hd.le;let(_,aA,a_,aq,aD):=id R;nofun;refine(_,_,aq,dx.no _ _ _ ∅,∅,λp ar=>?_);have s0:aN H (upd H p (.lst [V.str (af "car"),V.str (af "foot"),V.str (af "tram")])):=bh ar;have g_:e1 d.k∈[af "car",af "foot",af "tram"]:=by
  have:=hd.k
  match d.k,this with
  |0,_=>simp[e1]
  |1,_=>simp[e1]
  |2,_=>simp[e1]
 refine(q,row,_,0,e1 d.k,p,[af "car",af "foot",af "tram"],rfl,R.same s0,rfl,az.of aR,g_,λH1 s1 cP k3=>?_);have dt:df q H H1:=(df.of s0).trans s1;have lz:=cP bC.upd;nofun;refine(q,row,_,1,wl,ds,d.name,rfl,k3,rfl,hd.nm,gE.z8 dt R,hr,G2,lz,λaw s2 lP fl=>?_);let(_,yp,IP,f2,g2):=id fl;have gR:=dt.trans s2;nofun;refine(_,_,f2,dx.no _ _ _ ∅,(q,row,_,2,num d.start,0,n-1,d.start,rfl,fl,rfl,sQ () () () (),lP,λba s3 dw nG=>?_));have hN:=gR.trans s3;have sz:=dw lP;nofun;refine(q,row,_,3,n,d.start,d.fin,rfl,nG,rfl,ee,eo,hd.ne,a8.2,sz,λcn s4 sx n7=>?_);let(_,H0,apK,f4,jL):=id n7;have dD:=hN.trans s4;nofun;refine(_,_,f4,dx.no _ _ _ ∅,(q,row,_,4,num d.off,0,30,d.off,rfl,n7,rfl,sQ () () () (),sx,λcR s5 eM r8=>?_));let(_,ars,ap3,fq,CH):=id r8;have el:=dD.trans s5;have lI:=eM sx;nofun;refine(_,_,fq,dx.no _ _ _ ∅,(q,row,_,5,num d.near,0,30,d.near,rfl,r8,rfl,sQ () () () (),lI,λf3 fk mM Dj=>?_));let(_,arD,apZ,oF,OY):=id Dj;have cF:=el.trans fk;have sg:=mM lI;nofun;refine(_,_,oF,dx.no _ _ _ ∅,(q,row,_,6,num d.least,1,60,d.least,rfl,Dj,rfl,sQ () () () (),sg,λe7 hc hW QL=>?_));let(_,apP,arw,mX,r0):=id QL;have c5:=cF.trans hc;have ajS:=hW sg;nofun;refine(_,_,mX,dx.no _ _ _ ∅,(q,row,_,7,rfl,QL,rfl,?_));nofun;refine(d,rfl,hd.k,λx iq iD oH F8 Ay=>?_);refine lH x iq (c5.trans (df.of iD)) (oH ajS) F8 ?_;cases jK:H x with
 |none=>rfl
 |some u=>
  by_cases Wn:x=q
  .subst Wn;rw[mX]at Ay;cases Ay
  .rw [c5 x u Wn jK]at Ay;cases Ay
noncomputable abbrev w6:List Str:=[af "places",af "ways",af "numbers"]
noncomputable def pS(n:Int)(wl aG:Addr):List (Str×V):=[(p'p (af "places") (.int n)),(p'p (af "ways") (⇑wl)),(p'p (af "numbers") (⇑aG))]
def C9(n:Int)(wl aG:Addr):(pS n wl aG).map (·.1)=w6:=rfl
noncomputable def nm(ds:List bf)(i:Nat):Str:=((ds[i]?).map (·.name)).getD (af "")
noncomputable def ob(ds:List bf)(i:Nat):List (Key×V):=(fb i).map λj=>(p'p (cz (nm ds j)) (V.int j))
def n1(h:ds[i]?\d):nm ds i=d.name:=by unfold nm;rw[h];rfl
def vw(h:(ds.map (·.name)).Nodup)(ah:i<↑ds)(aJ:j<↑ds)(e:nm ds i=nm ds j):i=j:=by
 rw[n1 (a6 ah),n1 (a6 aJ)]at e;have:=(Cu (xs:=ds.map (·.name)) (i:=i) (j:=j) (h₀:=by rw[aX];exact ah) (h₁:=by rw[aX];exact aJ) h).mp (by rw[zC,zC];exact e);exact this
theorem anD(h:(ds.map (·.name)).Nodup):∀{n:Nat},i<n->n<=↑ds->dz (ob ds n) (cz (nm ds i))\(.int i):=by
 intro n
 induction n with
 |zero=>intro ah _;omega
 | succ n cZ=>
  intro ah a8;unfold ob dz;rw[wJ,e',List.find?_append];by_cases c:i<n
  .have:=cZ c ();unfold ob dz at this;cases e:adJ (λdE=>decide (dE.fst=cz (nm ds i))) (o3 (λj=>(p'p (cz (nm ds j):Key) (V.int j))) (fb n))with
   |none=>rw[e]at this;cases this
   |some p=>rw[e]at this;exact this
  .have e:i=n:=()
   subst e;have no:adJ (λdE=>decide (dE.fst=cz (nm ds i))) (o3 (λj=>(p'p (cz (nm ds j):Key) (V.int j))) (fb i))=none:=by
    rw[aeO];intro p ar;let(j,aJ,rfl):=cj.mp ar;have h5:=pq.mp aJ;simp only[decide_eq_true_eq];intro z;have:=vw h () () (u1 z);omega
   rw[no];simp
def aaI(h:(ds.map (·.name)).Nodup)(a8:n<↑ds):eK (ob ds n) (cz (nm ds n)) (.int n)=ob ds (n+1):=by
 unfold eK;have no:((ob ds n).any λdE=>decide (dE.1=cz (nm ds n)))=false:=by
  rw[V4];intro p ar;let(j,aJ,rfl):=cj.mp ar;have h5:=pq.mp aJ;simp only[decide_eq_true_eq];intro z;have:=vw h () a8 (u1 z);omega
 rw[no];unfold ob;rw[wJ,e'];rfl
def zd(a:aN H H1)(b:df q H1 aw)(n:H q=none):aN H aw:=λc u e=>b c u (dm e n) (a c u e)
def Gy{t:bS}{p q:Addr}{k l:Nat}(a:dx t H p i ws k)(b:dx t H q j vs l)(n:i≠j):p≠q:=λz=>by
 subst z;let(_,aA,a_,aq,_):=a;let(_,h_,afQ,aD,_):=b;rw[aq]at aD;have bV:=d2 aD;injection bV with _ _ eC;unfold oj at eC;injection eC with gn _;injection gn with _ eB;injection eB with hh;exact n hh
def Te{t:bS}{p q:Addr}(a:fh t H p d)(b:dx t H q j vs l):p≠q:=λz=>by
 subst z;let(_,aA,aq):=a;let(_,h_,afQ,aD,_):=b;rw[aq]at aD;have bV:=d2 aD;injection bV with _ _ eC;exact absurd (congrArg q8 eC) (by show ¬(7:Nat)=3;decide)
def ad(t:bS)(H:av)(c:Addr)(n:Int)(ds:List bf):Prop:=
 ((ds.map (·.name)).Nodup/\↑ds<=12)/\∃aA wl aG,H c\(.ins t.iz aA (pS n wl aG))/\oV t H wl ds/\H aG\(.b2 (ob ds ↑ds))
theorem ad.same{t:bS}(h:ad t H c n ds)(s:aN H I):ad t I c n ds:=by
 let(h0,aA,wl,aG,aq,aD,bV):=h;exact(h0,aA,wl,aG,s _ _ aq,aD.same s,s _ _ bV)
def lg{m:Str}(n:Int)(wl aG:Addr)(h:w6.contains m=false):(pS n wl aG).lookup m=none:=yX w6 (C9 ..) h
section
variable{w:World}{K:bk}{mg:Str->Option Value}{t:bS}{H:av}{c aA wl aG:Addr}{n:Int}
def FM(T:Txt w K mg t)(e:H c\(.ins t.iz aA (pS n wl aG))):gr K H c (af "places") (.int n):=(_,aA,_,e,T.iQ,T.Uy,g4 w6 0 (C9 ..) ∅ rfl)
def Vv(T:Txt w K mg t)(e:H c\(.ins t.iz aA (pS n wl aG))):gr K H c (af "ways") ⇑wl:=(_,aA,_,e,T.iQ,T.X1,g4 w6 1 (C9 ..) ∅ rfl)
def La(T:Txt w K mg t)(e:H c\(.ins t.iz aA (pS n wl aG))):gr K H c (af "numbers") ⇑aG:=(_,aA,_,e,T.iQ,T.X',g4 w6 2 (C9 ..) ∅ rfl)
end
def Sp(t:bS):bO:=λvs H Q _=>∃c aA n wl ds,vs=[⇑c,.int n,⇑wl]/\H c\(.ins t.iz aA [])/\oV t H wl ds/\(ds.map (·.name)).Nodup/\↑ds<=12/\aL H /\
 ∀I,df c H I->aL I->ad t I c n ds->Q .cf I
def Ov(t:bS):bO:=λvs H Q _=>∃n ds,vs=[.str (qS n ds)]/\uW n ds/\aL H/\∀c I,aN H I->aL I->ad t I c n ds->Q ⇑c I
def PL(t:bS):bO:=λvs H Q _=>∃c n ds,vs=[⇑c]/\ad t H c n ds/\∀p,H p=none->Q ⇑p (upd H p (.lst (a3 (ds.map (·.name)))))
def amr(t:bS):bO:=λvs H Q _=>∃c n ds,∃i:Nat,∃d,vs=[⇑c,.str d.name]/\ad t H c n ds/\ds[i]?\d/\Q (.int (i:Nat)) H
def Ls(t:bS):bO:=λvs H Q _=>∃c n ds,∃i:Nat,∃d,vs=[⇑c,.str d.name]/\ad t H c n ds/\ds[i]?\d/\∀a,fh t H a d->Q ⇑a H
def ahE:cq P base T 1 t.ya t.DR CF (Sp t):=by
 exists T.WI.ok HA,9
 let(c,aA,n,wl,ds,rfl,aB,gE,hn,hr,bC,q):=h;have bR:=i' ao;refine(_,(db (fC (U 0) (U 1) rfl)
   (db (fC (U 0) (U 2) rfl)
   (db (fC (U 0) CI rfl)
   (a4 (fP fV rfl (A5 rfl T.FE (ai (U 2) aC)) (kC (K:=K) (n:=2) rfl rfl (ac (b8 (i:=3) HA.aG) (ac (b8 (i:=4) HA.aG) kx))) (a4 (wh bR (bB (U 0) rfl) (bB (U 4) rfl) (U 3) rfl))))))),?_)
 nofun;refine(_,_,_,aB,T.iQ,T.Uy,∅,?_);refine(_,_,_,aR,T.iQ,T.X1,hI (n:=999) ∅,λaG a8=>?_);simp only[ur]at a8⊢;rw[show dn (af "places") (V.int n) ([]:List (Str×V))=[(p'p (af "places") (V.int n))]from rfl,show dn (af "ways") (V.ref wl) [(p'p (af "places") (V.int n))]=[(p'p (af "places") (V.int n)),(p'p (af "ways") (V.ref wl))]from gZ [af "places"] rfl ∅]at a8⊢;have Fq:c≠aG:=λz=>by subst z;rw[aR]at a8;cases a8
 refine(t.iz,aA,[(p'p (af "places") (V.int n)),(p'p (af "ways") (V.ref wl))],by rw[aP Fq];exact aR,T.iQ,T.X',(∅:(2:Nat)<1000),?_);rw[show dn (af "numbers") (V.ref aG) [(p'p (af "places") (V.int n)),(p'p (af "ways") (V.ref wl))]=pS n wl aG from gZ [af "places",af "ways"] rfl ∅];let(as,dN,eH,al):=gE;have VY:H aG=none:=by rw[aP (et Fq)]at a8;exact a8
 have kM:df c H (upd (upd (upd H c (.ins t.iz aA [(p'p (af "places") (V.int n)),(p'p (af "ways") (V.ref wl))])) aG (.b2 [])) c (.ins t.iz aA (pS n wl aG))):=λb u aa e=>by
  rw[aP aa,aP (dm e VY),aP aa];exact e
 have I5:wl≠c:=cC dN aB (by intro z;cases z);refine((_,az.of (kM _ _ I5 dN)),?_);refine ed.enum (xs:=as.map V.ref) (λi σ I=>(∃x y,σ=[some (V.ref c),some (V.int n),some (V.ref wl),x,y])/\I c\(.ins t.iz aA (pS n wl aG))/\I aG\(.b2 (ob ds i))/\df c H I/\aL I) ?_ ?_ ?_ ?_
 .exact ((_,_,rfl),aR,by rw[aP (et Fq),aR];rfl,kM,((bC.upd).upd).upd)
 .rintro i σ I ah bj;ac_rfl
  let(_,_,_,tg,_):=bj;subst aV;exact az.of (tg _ _ I5 dN)
 .rintro i v σ I p aE ⟨⟨x,y,rfl⟩,ae,ak,tg,o2⟩ ar;obtain⟨a,aO,rfl⟩:=b_ aE;obtain⟨ah,_⟩:=b0.mp aO;have m2:i<↑ds:=()
  have hd:ds[i]?\ds[i]:=a6 m2;have jE:fh t H a ds[i]:=al i a _ aO hd;have Nw:a≠c:=by
   let(_,h_,e):=jE;intro z;subst z;rw[aB]at e;have aD:=d2 e;injection aD with _ _ bV;exact absurd (congrArg q8 bV) (by show ¬(0:Nat)=7;decide)
  have ZE:fh t I a ds[i]:=(jE.1,jE.2.imp λh_ e=>tg _ _ Nw e);have sp:aN I (upd I p (.tup [.int i,⇑a])):=bh ar;refine ui ?_;nofun;refine(_,La T (sp _ _ ae),_,(ZE.same sp).IQ T,_,rfl,_,l_.k (k:=cz ds[i].name) (sp _ _ ak) (hO (show ↑(ob ds i)<=12 by unfold ob;rw[aX,sb];omega) ∅),?_);rw[<- n1 hd,aaI hn m2];refine((_,rfl),?_,aR,λb u aa e=>?_,(o2.upd).upd)
  .rw [aP Fq];exact sp _ _ ae
  .rw [aP (dm e VY)];exact sp _ _ (tg b u aa e)
 .rintro σ I bj;ac_rfl
  let((x,y,rfl),ae,ak,tg,o2):=bj;subst aV;nofun;rw[aX,eH]at ak;refine q I tg o2 ((hn,hr),aA,wl,aG,ae,(as,tg _ _ I5 dN,eH,λi a d aZ bY=>?_),ak);have jE:=al i a d aZ bY;have Nw:a≠c:=by
   let(_,h_,e):=jE;intro z;subst z;rw[aB]at e;have aD:=d2 e;injection aD with _ _ bV;exact absurd (congrArg q8 bV) (by show ¬(0:Nat)=7;decide)
  exact(jE.1,jE.2.imp λh_ e=>tg _ _ Nw e)
def amX:cq P base T 1 t.Er t.Mx j_ (amr t):=by
 exists T.U2.ok anP,9
 let(c,n,ds,i,d,rfl,((hn,hr),aA,wl,aG,aq,aD,bV),hd,q):=h;have bR:=i' ao;have aE:dz (ob ds ↑ds) (cz d.name)\(.int i):=by
  rw[<- n1 hd];exact anD hn (b0.mp hd).1 (bQ _)
 have a7:i4 H aG (.str d.name) (some (.int i)):=by rw[<- aE];exact i4.k (k:=cz d.name) bV
 refine(_,(db (d4 (Qa (PU bR (U 1) (bB (U 0) rfl))) (a4 Ch) en)
   (a4 (b7 (p9 bR (bB (U 0) rfl) (U 1) (λ_ _=>rfl))))),?_)
 nofun;refine du false (λQ aY=>?_) (λaB=>nomatch aB) (λ_=>?_)
 .nofun;refine(_,La T aq,_,rfl,_,a7,?_);exact aY
 .nofun;exact(_,La T aq,_,rfl,_,a7,q)
def sM:cq P base T 2 t.vh t.xo j_ (Ls t):=by
 refine cA (amX T) λabB=>?_;exists T.RO.ok abb,9
 let(c,n,ds,i,d,rfl,C,hd,q):=h;let((hn,hr),aA,wl,aG,aq,(as,dN,eH,al),bV):=id C;refine(_,(a4 (b7 (bZ c8 (bB (U 0) rfl) (fK (U 0) T.iQ T.akl abB ao T.adG .nil c3 (ai (U 1) aC))))),?_);nofun;refine(_,Vv T aq,_,_,aq,lg _ _ _ ∅,(c,n,ds,i,d,rfl,C,hd,?_));have ah:i<↑as:=by rw[eH];exact(b0.mp hd).1
 have aO:as[i]?\as[i]:=a6 ah;nofun;refine(_,az.of dN,_,cv (show(as.map V.ref)[i]?\(V.ref as[i])by rw[dg,aO];rfl),?_);exact q as[i] (al i _ d aO hd)
theorem ada:cq P base T 7 t.EU t.Dg ["text"] (Ov t):=by
 have Ho:cE P w K mg base dq 6 t.xv t.yE ["text"] (JT t):=(W_ T).mono ∅;have anJ:cE P w K mg base dq 6 t.CK t.Bm ["reader"] (Sq t):=(apg T).mono ∅;have aeM:cE P w K mg base dq 6 t.EZ t.D0 E3 (ON t):=wT T;have aiq:cE P w K mg base dq 5 t.ya t.DR CF (Sp t):=(ahE T).mono ∅;exists T.LH.ok xM,9
 obtain⟨n,ds,rfl,dv,bC,lH⟩:=h;refine⟨_,(db (b' (i:=1) xM.aG (b3 Ho ao T.R9 T.ut.bo T.Xu (ai (U 0) aC)))
   (db (b' (i:=2) xM.aG (b3 anJ ao T.ab8 T.Jw.bo T.aev (ai (bZ c8 (U 1) aT) aC)))
   (db (b' (i:=3) xM.aG (e5 aC))
   (db (fP fV rfl (e6 (nL ub (U 1) (nd aT) oy)) (b8 (i:=4) xM.aG) (db (d4 (dh e3 (fx iV rfl T.iE iw (ai (U 3) aC)) (ny rfl T.am9 T.ahO) (cL _)) (a4 Ch) en)
   (a4 (ea (fo gI lh lD kZ (U 3) (ai (b3 aeM ao T.ant T.Ku.bo T.ajv (ai (U 4) (ai (U 2) (ai (U 3) aC)))) aC))))))
   (db (d4 (n8 (Fi (U 3) (fun _=>rfl))) (a4 Ch) en)
   (a4 (b7 (uM T.ak6 aiq ao rfl T.aep T.aix .nil c3 (ai (U 2) (ai (U 3) aC)))))))))),?_⟩
 have wq:=af9 dv;have hlen:=ai_ dv;have QU:=dv.nn;have aiM:=dv.ln;nofun;refine⟨qS n ds,rfl,(),?_,bC,fun p H1 v8 jk R=>?_⟩
 .rw[wq];intro r ao;refine⟨?_,fun x ag=>cM (dv.plain r ao x ag).1 ∅⟩;rcases ei.mp ao with rfl|ao
  .show (2:Nat)<=1000;decide
  .obtain ⟨d,hd,rfl⟩:=cj.mp ao;show(7:Nat)<=1000;decide
 rw[wq]at R;obtain⟨qs,ar,h1,rN,p0⟩:=R;have SY:↑qs=↑ds+1:=by rw[rN];simp[iZ]
 obtain⟨kB,jD,rfl⟩:∃kB jD,qs=kB::jD:=by
  cases qs with
  |nil=>simp at SY
  |cons a b=>exact⟨a,b,rfl⟩
 obtain⟨DA,L9⟩:=p0 0 kB _ rfl rfl;nofun;refine⟨_,az.of ar,_,cv (j:=0) rfl,⟨kB,_,n,rfl,DA,QU,jk,fun aw s2 sH=>⟨eW _,fun wl ht=>?_⟩⟩⟩;obtain⟨arN,apN,aqY,agT⟩:=DA.ins;have anq:p≠kB:=cC ar agT (by intro z;cases z);have gc:aw p\(.lst ((kB::jD).map V.ref)):=s2 _ _ anq ar;have Ha:aN aw (upd aw wl (.lst [])):=bh ht;have H9:jB ((kB::jD).map V.ref) (some 1) none=jD.map V.ref:=by
  unfold jB;simp[eZ.dd];exact y0 (by rw[aX];exact bQ _)
 refine⟨_,az.of (Ha _ _ gc),fun pc L1=>?_⟩;rw[H9];have j9:pc≠wl:=fun z=>by subst z;rw[aR]at L1;cases L1
 have Ih:aN (upd aw wl (.lst [])) (upd (upd aw wl (.lst [])) pc (.lst (jD.map V.ref))):=bh L1;refine⟨⟨_,az.of aR⟩,?_⟩;have TH:aN H aw:=zd v8 s2 L9;have air:↑jD=↑ds:=by simpa using SY
 refine ed.list (xs:=jD.map V.ref) (fun i σ I=>(∃x,σ=[some (V.str (qS n ds)),some (V.ref p),some (V.int n),some (V.ref wl),x])/\aL I/\aN H I/\I pc\(.lst (jD.map V.ref))/\H wl=none/\oV t I wl (ds.take i) /\
  ∀(j:Nat) (q:Addr) (d:bf),i<=j->jD[j]?\q->ds[j]?\d->dx t I q ((j+1:Nat):Int) (o6 d) 0/\H q=none) ?_ ?_ ?_ ?_
 .refine⟨⟨_,rfl⟩,(sH.upd).upd,(TH.trans Ha).trans Ih,aR,TH.free ht,⟨[],Ih _ _ aR,rfl,fun j a d h=>by simp at h⟩,fun j q d _ ae ak=>?_⟩;have ao:(iZ n ds)[j+1]?\(o6 d):=by
   unfold iZ;rw[AO,dg,ak];rfl
  obtain⟨qd,eN⟩:=p0 (j+1) q _ (by rw[AO];exact ae) ao;refine⟨((qd.z8 s2 (Gy qd DA ()) DA.ins).same Ha).same Ih,eN⟩
 .rintro i σ I ah bj;ac_rfl
  obtain⟨_,_,_,h,_⟩:=bj;subst aV;exact az.of h
 .rintro i v σ I aE bj;ac_rfl
  obtain⟨⟨x,rfl⟩,o2,qz,LY,IJ,W,Rs⟩:=bj;obtain⟨q,aI,rfl⟩:=b_ aE;obtain⟨ah,_⟩:=b0.mp aI;have m2:i<↑ds:=()
  have hd:ds[i]?\ds[i]:=a6 m2;obtain⟨oX,jQ⟩:=Rs i q _ (bQ _) aI hd;have nD:↑(ds.take i)=i:=by rw[hC];omega
  obtain⟨as,dN,eH,al⟩:=id W;subst aV;nofun;refine du false (fun Q aY=>?_) (fun aB=>nomatch aB) (fun _=>?_)
  .nofun;refine⟨_,.inl (az.of dN),?_⟩;rw[aX,eH,nD];rw[decide_eq_false ()] <;> exact aY
  .nofun;refine⟨.inl ⟨_,az.of dN⟩,?_⟩;refine⟨q,_,n,wl,ds.take i,ds[i],rfl,oX,dv.al _ (gf m2),QU,W,(),fun e he z=>?_,o2,fun y ba s3 tl ij XX=>?_⟩
   .obtain⟨j,aJ,rfl⟩:=CA he;rw[List.getElem_take]at z;have h5:j<i:=()
    have:=vw dv.aG (i:=j) (j:=i) () m2 (by rw[n1 (a6 ()),n1 hd];exact z);omega
   .nofun;obtain⟨art,AU,aq6,hA⟩:=oX.ins;have aft:wl≠q:=cC dN hA (by intro z;cases z);have Gh:ba wl\(.lst (as.map V.ref)):=s3 _ _ aft dN;have amu:aN H ba:=zd qz s3 jQ;refine⟨_,Gh,hO (show ↑(as.map V.ref)<=12 by rw[aX];omega) ∅,?_⟩;have aec:y≠wl:=fun z=>by
     subst z;rw[dN]at XX;cases XX
    refine⟨⟨_,rfl⟩,tl.upd,fun b u e=>?_,?_,IJ,⟨as++[y],by rw[aR,e'];rfl,?_,fun j a d ae ak=>?_⟩,fun j dY d aJ ae ak=>?_⟩
    .rw [aP (dm e IJ)];exact amu _ _ e
    .rw [aP j9];exact s3 _ _ (cC LY hA (by intro z;cases z)) LY
    .rw [cB,eH,nD,hC];show i+1=_;omega
    .by_cases aJ:j<↑as
     .rw[lC aJ]at ae;have wV:(ds.take i)[j]?\d:=by
       rw[w5 ()];rw[w5 ()]at ak;exact ak
      obtain⟨ax,h_,e⟩:=al j a d ae wV;have abL:a≠q:=Te ⟨ax,h_,e⟩ oX;have aiT:a≠wl:=cC e dN (by intro z;cases z);exact⟨ax,h_,by rw[aP aiT];exact s3 _ _ abL e⟩
     .rw[kz ()]at ae;have qM:j-↑as=0:=by
       cases bT:j-↑as with
       |zero=>rfl
       |succ m=>rw[bT]at ae;simp at ae
      rw[qM]at ae;have bV:y=a:=by simpa using ae
      subst bV;have eC:j=i:=()
      subst eC;rw[w5 (),hd]at ak;cases ak;exact⟨ij.1,ij.2.imp fun h_ e=>by rw[aP aec];exact e⟩
    .obtain⟨qd,eN⟩:=Rs j dY d () ae ak;have nG:=qd.z8 s3 (Gy qd oX ()) oX.ins;refine⟨?_,eN⟩;obtain⟨aQ,h_,a_,aq,aD⟩:=nG;refine⟨aQ,h_,a_,by rw[aP (cC aq Gh (by intro z;cases z))];exact aq,?_⟩;rw[aP (fun z=>by
      subst z;rw[Gh]at aD;have gn:=d2 aD;injection gn with eB;cases as with
      |nil=>exact absurd (congrArg q8 eB) (by show ¬(0:Nat)=7;decide)
      |cons a r=>injection eB with hh _;cases hh)]
     exact aD
 .rintro σ I bj;ac_rfl
  obtain⟨⟨x,rfl⟩,o2,qz,LY,IJ,W,Rs⟩:=bj;subst aV;rw[aX,air,i5]at W;obtain⟨as,dN,eH,al⟩:=id W;nofun;refine du false (fun Q aY=>?_) (fun aB=>nomatch aB) (fun _=>?_)
  .nofun;refine⟨true,.inl ⟨_,az.of dN,?_⟩,aY⟩;cases as with
   |nil=>simp at eH;omega
   |cons a r=>rfl
  .nofun;intro c aA aB Oi ck;have sc:aN I (upd (upd I aA (.own c)) c (.ins t.iz aA [])):=((aN.refl I).hS Oi).hS aB;refine⟨c,aA,n,wl,ds,rfl,aR,W.same sc,dv.aG,aiM.2,(o2.upd).upd,fun cR s5 IB I8=>⟨rfl,?_⟩⟩;exact lH c cR (zd (qz.trans sc) s5 (qz.free aB)) IB I8
def Aw:cq P base T 1 t.xR t.Ci ["self"] (PL t):=by
 exists T.Rt.ok ani,9
 let(c,n,ds,rfl,((hn,hr),aA,wl,aG,aq,(as,dN,eH,al),bV),q):=h;refine(_,(a4 (b7 (hR rfl (e6 (bB (U 0) rfl)) (f_ (sc:=bx (fI (top 66) 1)) rfl ∅) (N:=["way"]) (sel:=[none]) (f7 (M:=["self"]) ∅) (fa.of (λ_ _ _ _=>(b8 (i:=0) (ec (N:=["way"]) ∅ rfl))) (λ_ _ _ _=>(_,hT,by walk_at "B")) (λ_ _ _ _=>(_,(bB (U 0) rfl),by walk_at "B")))))),?_);nofun;refine(_,Vv T aq,_,rfl,(_,az.of dN),?_);refine cY.mD (xs:=as.map V.ref) (zs:=a3 (ds.map (·.name))) (az.of dN) (by rw[aX,eH];exact cM hr ∅) (by rw[fE,aX,aX,eH]) (λi v z N aE h3 bl=>?_) (λp ar=>q p ar);let(a,aO,rfl):=b_ aE;let(x,ag,rfl):=b_ h3;let(d,hd,rfl):=b_ ag;nofun;exact(Sub.name,_,(al i a d aO hd).IQ T,bl)
def CC{n s p:Int}(h0:0<=s)(ae:s<n)(ak:0<=p)(aZ:p<n):(p-s)%n=if s<=p then p-s else p-s+n:=by
 split
 .rename_i h;exact oT () ()
 .rename_i h;have e:(p-s)%n=(p-s+n)%n:=(Int.add_emod_right ..).symm;rw[e];exact oT () ()
noncomputable def ind(n s p i:Int):Int:=if 0<(p-s)%n/\(p-s)%n<=i then 1 else 0
noncomputable def lx(n s f p:Int):Bool:=decide (0<(p-s)%n)&&decide ((p-s)%n<(f-s)%n)
noncomputable def uP(n s f s2 f2:Int):Bool:=decide (f=f2)||(if(s2=s\/s2=f)\/(f2=s\/f2=f)then false else(lx n s f s2 != lx n s f f2))
def BC{s f p:Int}(ae:p≠s)(ak:p≠f)(aZ:s≠f):((decide (s<f)&&decide (f<p) && !decide (s<p))||(!decide (s<f) && !decide (f<p)&&decide (s<p)))=false:=by
 by_cases a:s<f <;> by_cases b:f<p
 .rw [decide_eq_true a,decide_eq_true b,decide_eq_true (show s<p by omega)];rfl
 .rw [decide_eq_true a,decide_eq_false b];rfl
 .rw [decide_eq_false a,decide_eq_true b];rfl
 .rw [decide_eq_false a,decide_eq_false b,decide_eq_false (show ¬s<p by omega)];rfl
def vl{s p:Int}(h:s≠p):decide (p<s) = !decide (s<p):=by
 by_cases a:s<p
 .rw [decide_eq_true a,decide_eq_false ()];rfl
 .rw [decide_eq_false a,decide_eq_true ()];rfl
def Dw{n s f p:Int}(ay:0<=s/\s<n)(hf:0<=f/\f<n)(ar:0<=p/\p<n)(ae:p≠s)(ak:p≠f)(aZ:s≠f):lx n s f p=((decide (s<p)&&decide (p<f))||(decide (p<f)&&decide (f<s))||(decide (f<s)&&decide (s<p))):=by
 unfold lx;rw[CC ay.1 ay.2 ar.1 ar.2,CC ay.1 ay.2 hf.1 hf.2,decide_eq_true (show 0<(if s<=p then p-s else p-s+n)by split <;> omega),nN,vl aZ];by_cases a:s<p <;> by_cases b:s<f
 .rw [if_pos (),if_pos (),decide_eq_true a,decide_eq_true b,show decide (p-s<f-s)=decide (p<f)from decide_eq_decide.mpr ()];cases decide (p<f) <;> rfl
 .rw [if_pos (),if_neg (),decide_eq_true a,decide_eq_false b,decide_eq_true (show p-s<f-s+n by omega)];cases decide (p<f) <;> rfl
 .rw [if_neg (),if_pos (),decide_eq_false a,decide_eq_true b,decide_eq_false (show ¬p-s+n<f-s by omega)];cases decide (p<f) <;> rfl
 .rw [if_neg (),if_neg (),decide_eq_false a,decide_eq_false b,show decide (p-s+n<f-s+n)=decide (p<f)from decide_eq_decide.mpr ()];cases decide (p<f) <;> rfl
def akK:∀a b c d e g:Bool,((a&&d && !b)||(!a && !d&&b))=false->((a&&e && !c)||(!a && !e&&c))=false->((b&&g && !c)||(!b && !g&&c))=false->((d&&g && !e)||(!d && !g&&e))=false ->
  (((b && !d)||(!d && !a)||(!a&&b)) != ((c && !e)||(!e && !a)||(!a&&c)))=(((!b&&c)||(c && !g)||(!g && !b)) != ((!d&&e)||(e && !g)||(!g && !d))):=∅
def ah'(ay:0<=s/\s<n)(hf:0<=f/\f<n)(jW:0<=s2/\s2<n)(N7:0<=f2/\f2<n)(ck:s≠f)(yr:s2≠f2):uP n s f s2 f2=uP n s2 f2 s f:=by
 unfold uP;by_cases e:f=f2
 .rw [decide_eq_true e,decide_eq_true e.symm];rfl
 .rw[decide_eq_false e,decide_eq_false (et e)];by_cases c:(s2=s\/s2=f)\/(f2=s\/f2=f)
  .have c':(s=s2\/s=f2)\/(f=s2\/f=f2):=()
   rw[if_pos c,if_pos c']
  .have c':¬((s=s2\/s=f2)\/(f=s2\/f=f2)):=()
   rw[if_neg c,if_neg c'];have cP:s2≠s:=()
   have cW:s2≠f:=()
   have dw:f2≠s:=()
   have di:f2≠f:=()
   rw[mR,mR,Dw ay hf jW cP cW ck,Dw ay hf N7 dw di ck,Dw jW N7 ay cP.symm dw.symm yr,Dw jW N7 hf cW.symm di.symm yr,vl cP.symm,vl cW.symm,vl di.symm,vl ck,vl yr];exact akK _ _ _ _ _ _ (BC cP cW ck) (BC dw di ck) (BC dw yr.symm cP.symm) (BC di yr.symm cW.symm)
noncomputable abbrev mt(n:Int)(d e:bf):Bool:=uP n d.start d.fin e.start e.fin
def Xs(t:bS):bO:=λvs H Q _=>∃a d n p,vs=[.int n,⇑a,.int p]/\fh t H a d/\0<n/\Q (.bp (lx n d.start d.fin p)) H
noncomputable def xW(n:Int)(d e:bf):Bool:=if(e.start=d.start\/e.start=d.fin)\/(e.fin=d.start\/e.fin=d.fin)then false else(lx n d.start d.fin e.start != lx n d.start d.fin e.fin)
def abw(t:bS):bO:=λvs H Q _=>∃a b d e n,vs=[.int n,⇑a,⇑b]/\fh t H a d/\fh t H b e/\0<n/\aL H/\Q (.bp (xW n d e)) H
def ajI(t:bS):bO:=λvs H Q _=>∃a b d e n,vs=[.int n,⇑a,⇑b]/\fh t H a d/\fh t H b e/\0<n/\∀I,aN H I->Q (.bp (xW n d e)) I
def P8(t:bS):bO:=λvs H Q _=>∃c n ds,∃i j:Nat,∃d e,vs=[⇑c,.str d.name,.str e.name]/\ad t H c n ds/\0<n/\ds[i]?\d/\ds[j]?\e/\aL H/\Q (.bp (mt n d e)) H
def am3:cq P base T 1 t.DX t.wv Ey (Xs t):=by
 exists T.Du.ok SJ,9
 let(a,d,n,p,rfl,W,a8,q):=h;refine(_,(db (b' (i:=3) SJ.aG (bN jN (bN mz (U 2) (bB (U 1) rfl)) (U 0)))
   (a4 (b7 (sr (hV ir aT (U 3) (cL _)) (sh (hV ir (U 3) (bN jN (bN mz (bB (U 1) rfl) (bB (U 1) rfl)) (U 0)) (cL _))))))),?_)
 nofun;refine(_,W.wY T,_,rfl,a8,?_);unfold lx at q;by_cases c:0<(p-d.start)%n
 .rw [if_pos (decide_eq_true c)];rw[decide_eq_true c,nN]at q;exact(_,W.u5 T,_,W.wY T,_,rfl,_,rfl,a8,q)
 .rw [if_neg (by simpa using c)];rw[decide_eq_false c,om]at q;exact q
def Rn(x a b:Int):r4 (.int x) [.int a,.int b]=decide (x=a\/x=b):=by
 unfold r4;simp only[mT,List.any_nil,e'a,e'b,e'c,Je];rw[l6];simp only[zp,beq_iff_eq,decide_eq_true_eq];omega
def adz:cq P base T 2 t.LO t.NU By (abw t):=by
 refine cE.forget (sp:=ajI t) ?_ λvs H Q E h=>?_
 .have QQ:cE P w K mg base dq 1 t.DX t.wv Ey (Xs t):=am3 T;exists T.Hl.ok ajF,9
  let(a,b,d,e,n,rfl,jE,qU,a8,q):=h;refine(_,(db (d4 (gv.pt (pN (dh vZ (bB (U 2) rfl) (e5 (ai (bB (U 1) rfl) (ai (bB (U 1) rfl) aC))) (by with_unfolding_all rfl)) (t6 (dh vZ (bB (U 2) rfl) (e5 (ai (bB (U 1) rfl) (ai (bB (U 1) rfl) aC))) (by with_unfolding_all rfl))))) (a4 (b7 kG)) en)
   (a4 (b7 (hV og (b3 QQ ao T.UC T.Du.bo T.OM (ai (U 0) (ai (U 1) (ai (bB (U 2) rfl) aC)))) (b3 QQ ao T.UC T.Du.bo T.OM (ai (U 0) (ai (U 1) (ai (bB (U 2) rfl) aC)))) (cL _))))),?_)
  nofun;refine Ht (λb I=>aN H I/\b=decide ((e.start=d.start\/e.start=d.fin)\/(e.fin=d.start\/e.fin=d.fin))) (λQ aY=>?_) (λI ⟨bw,aa⟩=>?_) (λI ⟨bw,aa⟩=>?_)
  .nofun;refine(_,qU.wY T,_,jE.wY T,_,jE.u5 T,∅,λp ar=>(_,.inl (az.of aR),rfl,rfl,?_));have s1:aN H (upd H p (.lst [.int d.start,.int d.fin])):=bh ar;rw[Rn];by_cases aW:e.start=d.start\/e.start=d.fin
   .rw [if_pos (decide_eq_true aW)];exact aY _ _ (s1,(decide_eq_true (.inl aW)).symm)
   .rw [if_neg (by simpa using aW)];refine(_,(qU.same s1).u5 T,_,(jE.same s1).wY T,_,(jE.same s1).u5 T,∅,λcX gc=>(_,.inl (az.of aR),rfl,rfl,?_));rw[Rn];refine aY _ _ (s1.trans (bh gc),?_);rw[l6,decide_eq_true_eq,decide_eq_true_eq];exact(.inr,λz=>z.resolve_left aW)
  .nofun;have d_:=of_decide_eq_true aa.symm;have:=q I bw;unfold xW at this;rw[if_pos d_]at this;exact this
  .nofun;have d_:=of_decide_eq_false aa.symm;refine(_,(qU.same bw).wY T,(a,d,n,_,rfl,jE.same bw,a8,?_));refine(_,(qU.same bw).u5 T,(a,d,n,_,rfl,jE.same bw,a8,?_));refine(rfl,?_);have:=q I bw;unfold xW at this;rw[if_neg d_]at this;rw[show(!decide (V.bp (lx n d.start d.fin e.start)=V.bp (lx n d.start d.fin e.fin)))=(lx n d.start d.fin e.start != lx n d.start d.fin e.fin)by
    cases lx n d.start d.fin e.start <;> cases lx n d.start d.fin e.fin <;> rfl]
   exact this
 .let(a,b,d,e,n,ae,ak,aZ,bY,bC,q):=h;exact(bC,a,b,d,e,n,ae,ak,aZ,bY,λI bw=>(bw,q))
def alj(n:Int)(d e:bf):mt n d e=(decide (d.fin=e.fin)||xW n d e):=rfl
def SV:cq P base T 3 t.EK t.Ba sY (P8 t):=by
 refine cA (sM T) λkc=>cA (adz T) λaok=>?_;exists T.Ff.ok GR,9
 let(c,n,ds,i,j,d,e,rfl,C,a8,hd,he,bC,q):=h;let(_,aA,wl,aG,aq,aD,bV):=id C;refine(_,(db (b' (i:=3) GR.aG (fK (U 0) T.iQ T.o5 kc ao T.Gc .nil c3 (ai (U 1) aC)))
   (db (b' (i:=4) GR.aG (fK (U 0) T.iQ T.o5 kc ao T.Gc .nil c3 (ai (U 2) aC)))
   (a4 (b7 (U1 (hV e3 (bB (U 3) rfl) (bB (U 4) rfl) (cL _)) (sh (b3 aok ao T.adU T.Hl.bo T.aeE (ai (bB (U 0) rfl) (ai (U 3) (ai (U 4) aC)))))))))),?_)
 rw[alj]at q;nofun;refine(_,_,aq,lg _ _ _ ∅,(c,n,ds,i,d,rfl,C,hd,λa jE=>?_));nofun;refine(_,_,aq,lg _ _ _ ∅,(c,n,ds,j,e,rfl,C,he,λb qU=>?_));nofun;refine(_,jE.u5 T,_,qU.u5 T,rfl,?_);nofun;by_cases aW:d.fin=e.fin
 .rw [if_pos (decide_eq_true aW)];rw[decide_eq_true aW,ry]at q;exact q
 .rw [if_neg (by simpa using aW)];rw[decide_eq_false aW,mR]at q;exact(_,FM T aq,(a,b,d,e,n,rfl,jE,qU,a8,bC,q))
def XT(t:bS):bO:=λvs H Q _=>∃c n ds,∃i j:Nat,∃d e,vs=[⇑c,.str d.name,.str e.name]/\ad t H c n ds/\ds[i]?\d/\ds[j]?\e/\Q (.int (if d.off-e.near>0 then d.off-e.near else 0)) H
def FS:cq P base T 3 t.EJ t.Dh sY (XT t):=by
 refine cA (sM T) λkc=>?_;exists T.JY.ok J_,9
 let(c,n,ds,i,j,d,e,rfl,C,hd,he,q):=h;let(_,aA,wl,aG,aq,aD,bV):=id C;refine(_,(db (b' (i:=3) J_.aG (fK (U 0) T.iQ T.o5 kc ao T.Gc .nil c3 (ai (U 1) aC)))
   (db (b' (i:=4) J_.aG (fK (U 0) T.iQ T.o5 kc ao T.Gc .nil c3 (ai (U 2) aC)))
   (a4 (b7 (fx (apl rfl) rfl T.E8 Ii (ai aT (ai (bN mz (bB (U 3) rfl) (bB (U 4) rfl)) aC))))))),?_)
 nofun;refine(_,_,aq,lg _ _ _ ∅,(c,n,ds,i,d,rfl,C,hd,λa jE=>?_));nofun;refine(_,_,aq,lg _ _ _ ∅,(c,n,ds,j,e,rfl,C,he,λb qU=>?_));nofun;refine(_,jE.W6 T,_,qU.afv T,?_);nofun;exact q
def k5{α:Type}{xs:List α}{i:Nat}{x:α}(h:xs[i]?\x):xs.take (i+1)=xs.take i++[x]:=by
 rw[oc,h];rfl
structure ST where
 lo:Int
 ah:Int
 mem:List Str
noncomputable def G5(r:ST)(m:Addr):gb:=.tup [.int r.lo,.int r.ah,⇑m]
structure jg(H:av)(p:Addr)(qs ms:List Addr)(rows:List ST):Prop where
 at_:H p\(.lst (qs.map V.ref))
 cy:↑qs=↑rows
 de:↑ms=↑rows
 al:∀(i:Nat) (q m:Addr) (r:ST),qs[i]?\q->ms[i]?\m->rows[i]?\r->H q\(G5 r m)/\H m\(.lst (a3 r.mem))
def jg.same{p:Addr}{rows:List ST}(h:jg H p qs ms rows)(s:aN H I):jg I p qs ms rows:=
 (s _ _ h.at_,h.cy,h.de,λi q m r a b c=>(s _ _ (h.al i q m r a b c).1,s _ _ (h.al i q m r a b c).2))
structure mV(H:av)(p:Addr)(ms:List Addr)(dI:List (List Str)):Prop where
 at_:H p\(.lst (ms.map V.ref))
 ln:↑ms=↑dI
 al:∀(i:Nat) (m:Addr) (x:List Str),ms[i]?\m->dI[i]?\x->H m\(.lst (a3 x))
def mV.same{p:Addr}(h:mV H p ms dI)(s:aN H I):mV I p ms dI:=
 (s _ _ h.at_,h.ln,λi m x a b=>s _ _ (h.al i m x a b))
noncomputable def nK(i:Nat)(kvs:List (Key×V))(ms:List Str):List (Key×V):=ms.foldl (λkvs x=>eK kvs (cz x) (.int i)) kvs
noncomputable def ha(dI:List (List Str)):List (Key×V):=dI.zipIdx.foldl (λkvs e=>nK e.2 kvs e.1) []
def ajj(kvs:List (Key×V))(k:Key)(v:V):↑(eK kvs k v)<=↑kvs+1:=by
 unfold eK;split
 .rw [aX];omega
 .rw [cB];exact bQ _
def Ps(i:Nat)(kvs:List (Key×V))(ms:List Str)(x:Str):nK i kvs (ms++[x])=eK (nK i kvs ms) (cz x) (.int i):=by
 unfold nK;rw[Xh];rfl
def afm(dI:List (List Str))(ms:List Str):ha (dI++[ms])=nK ↑dI (ha dI) ms:=by
 unfold ha;rw[List.zipIdx_append,Xh];simp
theorem F_(i:Nat)(x:Str):∀(ms:List Str) (kvs:List (Key×V)),dz (nK i kvs ms) (cz x)=if x∈ms then some (.int i)else dz kvs (cz x)
 |[],kvs=>by simp[nK]
 | y :: ms,kvs=>by
  show dz (nK i (eK kvs (cz y) (.int i)) ms) (cz x)=_;rw[F_ i x ms,Tg];by_cases c:x∈ms
  .rw [if_pos c,if_pos (i7 _ c)]
  .rw[if_neg c];by_cases d:x=y
   .subst d;rw[if_pos rfl,if_pos (oi ..)]
   .rw [if_neg (λe=>d (u1 e)),if_neg (λe=>by
     rcases ei.mp e with e|e
     .exact d e
     .exact c e)]
def JC{dI:List (List Str)}{i:Nat}{ms:List Str}(h:dI[i]?\ms):ha (dI.take (i+1))=nK i (ha (dI.take i)) ms:=by
 rw[k5 h,afm,hC,Cr (nv (b0.mp h).1)]
theorem XC{x:Str}:∀(n:Nat) (dI:List (List Str)),n<=↑dI->((dz (ha (dI.take n)) (cz x)).isSome=true↔∃ms∈dI.take n,x∈ms)
 |0,dI,_=>by simp[ha,dz]
 | n+1,dI,a8=>by
  have h:dI[n]?\dI[n]:=a6 ();rw[JC h,F_,k5 h];have cZ:=XC (x:=x) n dI ();by_cases c:x∈dI[n]
  .rw [if_pos c];exact(λ_=>(_,mB _ (d9.mpr rfl),c),λ_=>rfl)
  .rw[if_neg c,cZ];constructor
   .intro (ms,ae,ak);exact(ms,NZ _ ae,ak)
   .rintro⟨ms,ae,ak⟩;rcases eI.mp ae with ae|ae
    .exact (ms,ae,ak)
    .rw [d9.mp ae]at ak;exact absurd ak c
theorem EL(p:Str->Bool):∀xs:List Str,((xs.map λx=>if p x=true then some (V.str x)else none).flatMap xe)=a3 (xs.filter p)
 |[]=>rfl
 |x::xs=>by
  rw[fz,xr,EL p xs];by_cases c:p x=true
  .rw [if_pos c,anj c];rfl
  .rw [if_neg c,ala c];rfl
noncomputable def told(rows:List ST)(x:Str):Bool:=rows.any λr=>r.mem.contains x
noncomputable def hU(ds:List bf)(rows:List ST):List Str:=(ds.map (·.name)).filter λx=>!told rows x
def Vi(rows:List ST)(x:Str):(dz (ha (rows.map (·.mem))) (cz x)).isSome=told rows x:=by
 rw[l6];have:=XC (x:=x) ↑(rows.map (·.mem)) (rows.map (·.mem)) (bQ _);rw[i5]at this;rw[this];unfold told;rw[r1];constructor
 .intro (ms,ae,ak);let(r,ao,rfl):=cj.mp ae;exact(r,ao,by simpa using ak)
 .intro (r,ao,h);exact(_,cj.mpr (r,ao,rfl),by simpa using h)
noncomputable def iY(d:bf):Str:=if d.k=2 then af "trams" else af "others"
def agp(t:bS):bO:=λvs H Q _=>∃c n ds,∃i:Nat,∃d,vs=[⇑c,.str d.name]/\ad t H c n ds/\ds[i]?\d/\d.k<3/\Q (.str (iY d)) H
def agO:bO:=λvs H Q _=>∃p ms dI,vs=[⇑p]/\mV H p ms dI/\↑dI<=6/\(∀x∈dI,↑x<=12)/\∀h I,aN H I->(aL H->aL I)->H h=none->I h\(.b2 (ha dI))->Q ⇑h I
def abU(t:bS):bO:=λvs H Q _=>∃c n ds p qs ms rows,vs=[⇑c,⇑p]/\ad t H c n ds/\jg H p qs ms rows/\↑rows<=6/\(∀r∈rows,↑r.mem<=12)/\∀l I,aN H I->(aL H->aL I)->H l=none->I l\(.lst (a3 (hU ds rows)))->Q ⇑l I
def Tn:cq P base T 3 t.Mk t.Gl Ft (agp t):=by
 refine cA (sM T) λkc=>?_;exists T.x6.ok apf,9
 let(c,n,ds,i,d,rfl,C,hd,ax,q):=h;let(_,aA,wl,aG,aq,_,_):=id C;refine(_,(a4 (b7 (tP (dh e3 (bB (fK (U 0) T.iQ T.o5 kc ao T.Gc .nil c3 (ai (U 1) aC)) rfl) dF (cL _)) dF dF))),?_);nofun;refine(_,_,aq,lg _ _ _ ∅,c,n,ds,i,d,rfl,C,hd,λa W=>(a,rfl,_,W.afE T,rfl,?_));unfold iY at q;have aiE:∀k,k<3->decide (V.str (e1 k)=V.str (af "tram"))=decide (k=2):=∅
 rw[aiE d.k ax];by_cases bJ:d.k=2
 .rw [if_pos (decide_eq_true bJ)];rw[if_pos bJ]at q;exact q
 .rw [if_neg (by simpa using bJ)];rw[if_neg bJ]at q;exact q
def MK:cq P base T 1 t.Mc t.IT ["members"] agO:=by
 exists T.zB.ok y1,9
 let(p,ms,dI,rfl,M,nQ,wB,q):=h;have bR:=i' ao;refine(_,(db (b' (i:=1) y1.aG CI)
   (db (fP fV rfl (A5 rfl T.FE (ai (U 0) aC)) (kC (K:=K) (n:=2) rfl rfl (ac (b8 (i:=2) y1.aG) (ac (b8 (i:=3) y1.aG) kx))) (a4 (fP fV rfl (e6 (U 3)) (b8 (i:=4) y1.aG) (a4 (wh bR (U 1) (U 4) (U 2) rfl)))))
   (a4 (b7 (U 1))))),?_)
 nofun;intro h bT;have s0:aN H (upd H h (.b2 [])):=bh bT;refine((_,az.of (s0 _ _ M.at_)),?_);refine ed.enum (xs:=ms.map V.ref) (λi σ I=>(∃x y z,σ=[~~~p,~~~h,x,y,z])/\aN H I/\(aL H->aL I)/\I h\(.b2 (ha (dI.take i)))/\↑(ha (dI.take i))<=12*i) ?_ ?_ ?_ ?_
 .exact ((_,_,_,rfl),s0,λn=>n.upd,by rw[um];exact aR,by rw[um];simp[ha])
 .intro i σ I ah (_,s1,_);exact az.of (s1 _ _ M.at_)
 .rintro i v σ I ki aE ⟨⟨x,y,z,rfl⟩,s1,cP,ae,G4⟩ qc;obtain⟨m,hm,rfl⟩:=b_ aE;have AX:i<↑dI:=by rw[<- M.ln];exact(b0.mp hm).1
  have yu:dI[i]?\dI[i]:=a6 AX;have em:=M.al i m _ hm yu;have k':=wB _ (bU yu);have s2:aN I (upd I ki (.tup [.int i,⇑m])):=bh qc;refine ui ?_;nofun;have Ql:=s2 _ _ (s1 _ _ em);have ak:=s2 _ _ ae;have nb:aL H->aL (upd I ki (.tup [.int i,⇑m])):=λn=>(cP n).upd
  have Tz:=s1.trans s2;generalize upd I ki (.tup [.int i,⇑m])=rM at Ql ak nb Tz s2⊢;refine((_,az.of Ql),?_);refine ed.list (xs:=a3 dI[i]) (λj σ aw=>(∃z,σ=[~~~p,~~~h,some (.int (i:Nat)),~~~m,z])/\aN H aw/\(aL H->aL aw)/\aw h\(.b2 (nK i (ha (dI.take i)) (dI[i].take j)))/\↑(nK i (ha (dI.take i)) (dI[i].take j))<=12*i+j) ?_ ?_ ?_ ?_
  .exact ((_,rfl),Tz,nb,by rw[um];exact ak,by rw[um];exact G4)
  .intro j σ aw aJ (_,s3,_);exact az.of (s3 _ _ em)
  .rintro j v σ aw aE bj;ac_rfl
   let((z,rfl),s3,dw,aZ,Rw):=bj;subst aV;unfold a3 at aE;let(x,ag,rfl):=b_ aE;have aJ:j<↑dI[i]:=(b0.mp ag).1;have c2:=ajj (nK i (ha (dI.take i)) (dI[i].take j)) (cz x) (.int i);nofun;refine(_,l_.k (k:=cz x) aZ (hO (show _<=1000 by omega) ∅),(_,rfl),s3.hS bT,λn=>(dw n).upd,?_,?_)
   .rw [aR,k5 ag,Ps]
   .rw [k5 ag,Ps];omega
  .rintro σ aw bj;ac_rfl
   let((z,rfl),s3,dw,aZ,Rw):=bj;subst aV;rw[fE,i5,<- JC yu]at aZ Rw;exact((_,_,_,rfl),s3,dw,aZ,())
 .rintro σ I bj;ac_rfl
  let((x,y,z,rfl),s1,cP,ae,_):=bj;subst aV;rw[aX,M.ln,i5]at ae;nofun;exact q h I s1 cP bT ae
def TB:cq P base T 2 t.ci t.G9 lQ (abU t):=by
 refine cA (MK T) λzt=>cA (Aw T) λud=>?_;exists T.Bj.ok WL,9
 let(c,n,ds,p,qs,ms,rows,rfl,C,R,hD,wb,q):=h;have bR:=i' ao;let((_,hr),aA,wl,aG,aq,_,_):=id C;refine(_,(db (o1 (i:=2) WL.aG rfl (mh rfl) (b3 zt ao T.Mn T.zB.bo T.F4 (ai (hR rfl (e6 (U 1)) (f_ (sc:=bx (top 33)) rfl ∅) (N:=jC) (sel:=[none,none,none]) (f7 (M:=K1) ∅) (fa.of (λ_ _ _ _=>(kC (K:=K) (n:=3) rfl rfl (ac (b8 (i:=0) (ec (N:=jC) ∅ rfl)) (ac (b8 (i:=1) (ec (N:=jC) ∅ rfl)) (ac (b8 (i:=2) (ec (N:=jC) ∅ rfl)) kx))))) (λ_ _ _ _=>(_,hT,by walk_at "B")) (λ_ _ _ _=>(_,(U 2),by walk_at "B")))) aC)))
   (a4 (b7 (hR rfl (e6 (kQ (U 0) T.iQ T.Bk ud ao T.CJ .nil c3)) (f_ (sc:=bx (top 33)) rfl ∅) (N:=["name","told"]) (sel:=[none,some 2]) (f7 (M:=K1) ∅) (fa.of (λ_ _ _ _=>(b8 (i:=0) (ec (N:=["name","told"]) ∅ rfl))) (λ_ _ _ _=>(_,(uc (Qa (PU bR (U 0) (U 1)))),by walk_at "B")) (λ_ _ _ _=>(_,(U 0),by walk_at "B"))))))),?_)
 simp only[dT];nofun;have jQ:↑(qs.map V.ref)=↑rows:=by rw[aX,R.cy]
 refine((_,az.of R.at_),?_);refine cY.mD (xs:=qs.map V.ref) (zs:=ms.map V.ref) (az.of R.at_) (by rw[jQ];exact cM hD ∅) (by rw[jQ,aX,R.de]) (λj v z N aE aQ bl=>?_) (λpm Hv=>?_)
 .obtain⟨k_,eN,rfl⟩:=b_ aE;obtain⟨NT,l1,rfl⟩:=b_ aQ;have aJ:j<↑rows:=by rw[<- R.cy];exact(b0.mp eN).1
  have e:=(R.al j k_ NT _ eN l1 (a6 aJ)).1;nofun;exact(_,dM.of e,rfl,_,_,rfl,_,_,rfl,_,_,rfl,rfl,Sub.wa,bl)
 .have sp:aN H (upd H pm (.lst (ms.map V.ref))):=bh Hv;have np:aL H->aL (upd H pm (.lst (ms.map V.ref))):=λn=>n.upd
  have cu:(upd H pm (.lst (ms.map V.ref))) pm\(.lst (ms.map V.ref)):=aR;generalize upd H pm (.lst (ms.map V.ref))=rM at sp np cu⊢;refine⟨pm,ms,rows.map (·.mem),rfl,(cu,by rw[R.de,aX],λi m x hm ag=>?_),by rw[aX];exact hD,λx ag=>?_,λh H1 s1 cP bT ae=>?_⟩
  .let(r,dO,rfl):=b_ ag;have hA:qs[i]?\(qs[i]'(by rw[R.cy];exact(b0.mp dO).1)):=a6 _;exact sp _ _ (R.al i _ m r hA hm dO).2
  .let(r,dO,rfl):=cj.mp ag;exact wb r dO
  .have nE:=sp.trans s1;have yY:=C.same nE;refine(_,_,nE _ _ aq,lg _ _ _ ∅,c,n,ds,rfl,yY,λfs k7=>(fs,rfl,(_,az.of aR),?_));have sB:=nE.trans (bh (o:=.lst (a3 (ds.map (·.name)))) k7);have ak:=(bh (o:=.lst (a3 (ds.map (·.name)))) k7) _ _ ae;have lT:aL H->aL (upd H1 fs (.lst (a3 (ds.map (·.name))))):=λn=>(cP (np n)).upd
   have sf:(upd H1 fs (.lst (a3 (ds.map (·.name))))) fs\(.lst (a3 (ds.map (·.name)))):=aR;generalize upd H1 fs (.lst (a3 (ds.map (·.name))))=mC at sB ak lT sf⊢;refine cY.w1 (xs:=a3 (ds.map (·.name))) (ss:=(ds.map (·.name)).map λx=>if(!told rows x)=true then some (V.str x)else none) (az.of sf) (by rw[fE,aX];exact cM hr ∅) (by rw[fE,aX]) (λi v o ys N aE aS bl=>?_) (λl aK=>?_)
   .unfold a3 at aE;let(x,ag,rfl):=b_ aE;let(eP,eD,rfl):=b_ aS;rw[ag]at eD;cases eD;have a7:i4 mC h (.str x) (dz (ha (rows.map (·.mem))) (cz x)):=i4.k (k:=cz x) ak;have c6:=Vi rows x;nofun;refine(Sub.name,_,a7,?_);rw[c6];by_cases br:(!told rows x)=true
    .rw [if_pos br];rw[if_pos br]at bl;exact bl
    .rw [if_neg br];rw[if_neg br]at bl;simpa using bl
   .rw [EL];exact q l _ (sB.trans (bh aK)) (λn=>(lT n).upd) (sB.free aK) aR
noncomputable def yK(ds:List bf)(left:List Str)(f:Str):List Str:=left.filter λx=>decide ((ie ds x).map iY=(ie ds f).map iY)
noncomputable def th(alike:List Str):List Str->Nat->List Str->Except Nat (List Str)
 |[],_,ms=>.ok ms
 |x::r,j,ms=>if x∈alike/\x∉ms then th alike r (j+1) (ms++[x])else .error j
noncomputable def ng(ds:List bf)(left ws:List Str):Except Nat (List Str):=if aF ws 3∈left then th (yK ds left (aF ws 3)) (ws.drop 4) 4 [aF ws 3]else .error 3
noncomputable def qH(ds:List bf)(rows:List ST)(ws:List Str):Except Nat ST:=if aF ws 0∈[af "stage"]then
 (lF (aF ws 1) 1 60).elim (.error 1) λlo=>(lF (aF ws 2) lo 60).elim (.error 2) λah=>match ng ds (hU ds rows) ws with
  | .error k=>.error k
  | .ok ms=>.ok (lo,ah,ms)else .error 0
theorem Ra:∀{r:List Str} {j:Nat} {ms rG:List Str},th alike r j ms=.ok rG->ms.Nodup->rG.Nodup/\(∃more,rG=ms++more)/\∀x∈rG,x∈ms\/x∈alike
 |[],j,ms,rG,h,aG=>by
  have h:sU ms=sU (ε:=Nat) rG:=h;cases h;exact(aG,([],by simp),λx ag=>.inl ag)
 | y::r,j,ms,rG,h,aG=>by
  unfold th at h;split at h
  .rename_i c;let(ae,(more,ak),aZ):=Ra h (Aa.mpr (aG,by simp,λa aO b aa e=>by
    rw[d9.mp aa]at e;rw[e]at aO;exact c.2 aO))
   refine(ae,(y::more,by rw[ak,jI];rfl),λx ag=>?_);rcases aZ x ag with z|z
   .rcases eI.mp z with z|z
    .exact .inl z
    .rw [d9.mp z];exact .inr c.1
   .exact .inr z
  .cases h
def akE(t:bS):bO:=λvs H Q _=>∃q row ws c n ds l left ms,vs=[⇑q,⇑c,⇑l]/\dx t H q row ws 3/\ad t H c n ds/\(∀d∈ds,d.k<3/\d.name≠af "")/\H l\(.lst (a3 left))/\↑left<=12/\(∀x∈left,∃d∈ds,d.name=x)/\aL H/\ng ds left ws=.ok ms /\
 ∀m I,df q H I->aL I->(∃u,I q\u)->I m\(.lst (a3 ms))->H m=none->Q ⇑m I
def Xf(t:bS):bO:=λvs H Q _=>∃q row ws c n ds p qs ms rows s,vs=[⇑q,⇑c,⇑p]/\dx t H q row ws 0/\ad t H c n ds/\(∀d∈ds,d.k<3/\d.name≠af "")/\jg H p qs ms rows/\↑rows<=6/\(∀r∈rows,↑r.mem<=12)/\aL H/\qH ds rows ws=.ok s /\
 ∀x m I,df q H I->aL I->I x\(G5 s m)->I m\(.lst (a3 s.mem))->H x=none->H m=none->Q ⇑x I
theorem m5{ds:List bf}(aG:(ds.map (·.name)).Nodup){i:Nat}{d:bf}(h:ds[i]?\d):ie ds d.name\d:=by
 unfold ie;cases e:ds.find? λx=>decide (x.name=d.name)with
 |none=>
  have:=aeO.mp e d (bU h);simp at this
 |some x=>
  have ae:x.name=d.name:=by simpa using List.find?_some e
  let(j,aJ):=hy (aaJ e);have:=vw aG (b0.mp aJ).1 (b0.mp h).1 (by rw[n1 aJ,n1 h,ae]);subst this;rw[aJ]at h;exact h
def ad.zw{t:bS}{k:Nat}(h:ad t H c n ds)(s:df q H I)(R:dx t H q row ws k):ad t I c n ds:=by
 let(h0,h_,wl,aG,aq,(as,dN,eH,al),bV):=h;let(_,AU,a_,f1,f2):=id R;refine(h0,h_,wl,aG,s _ _ (λz=>?_) aq,(as,s _ _ (cC dN f1 (by intro z;cases z)) dN,eH,λi b d aa hd=>?_),s _ _ (cC bV f1 (by intro z;cases z)) bV)
 .subst z;rw[aq]at f1;have e:=d2 f1;injection e with _ _ eC;unfold pS oj at eC;injection eC with gn _;injection gn with eB _;exact absurd eB ∅
 .have W:=al i b d aa hd;have a8:=Te W R;exact(W.1,W.2.imp λaA e=>s _ _ a8 e)
def ag1(h:j<↑ws):ws.drop j=aF ws j::ws.drop (j+1):=by
 rw[uL h];unfold aF;rw[kd,a6 h];rfl
def jg.zw{t:bS}{q p:Addr}{rows:List ST}{k:Nat}(h:jg H p qs ms rows)(s:df q H I)(R:dx t H q row ws k):jg I p qs ms rows:=by
 let(_,AU,a_,f1,f2):=id R;refine(s _ _ (cC h.at_ f1 (by intro z;cases z)) h.at_,h.cy,h.de,λi q m r a b c=>?_);let(aq,aD):=h.al i q m r a b c;exact(s _ _ (cC aq f1 (by intro z;cases z)) aq,s _ _ (cC aD f1 (by intro z;cases z)) aD)
theorem acR:cq P base T 4 t.Gu t.G7 KR (akE t):=by
 refine cA (Cj T) λsq=>cA (SS T) λHs=>cA (Tn T) λE1=>?_;exists T.J7.ok A7,9
 let(q,row,ws,c,n,ds,l,left,Q_,rfl,R,C,ax,aK,uS,OJ,bC,cK,lH):=h;refine(_,(db (o1 (i:=3) A7.aG rfl (mh rfl) (fK (U 0) T.gu T.xX sq ao T.zJ .nil c3 (ai (U 2) aC)))
   (db (o1 (i:=4) A7.aG rfl (mh rfl) (e5 (ai (U 3) aC)))
   (db (uo (i:=5) A7.aG rfl (n0 rfl) rfl (e6 (U 2)) (f_ (sc:=bx (top 34)) rfl ∅) (N:=["name","crossing","first"]) (sel:=[none,some 1,some 3]) (f7 (M:=FJ) ∅) (fa.of (λ_ _ _ _=>(b8 (i:=0) (ec (N:=["name","crossing","first"]) ∅ rfl))) (λ_ _ _ _=>(_,(uc (dh e3 (b3 E1 ao T.Mt T.x6.bo T.JA (ai (U 1) (ai (U 0) aC))) (b3 E1 ao T.Mt T.x6.bo T.JA (ai (U 1) (ai (U 2) aC))) (cL _))),by walk_at "B")) (λ_ _ _ _=>(_,(U 0),by walk_at "B"))) rfl)
   (db (aaU fV (lE (kQ (U 0) T.gu T.Qm Hs ao T.WG .nil c3)) (a4 (ea (fo gI lh lD kZ (U 4) (ai (fK (U 0) T.gu T.xX sq ao T.zJ .nil c3 (ai (hR rfl (e6 (U 5)) (f_ (sc:=bx (top 34)) rfl ∅) (N:=["name","members"]) (sel:=[none,some 4]) (f7 (M:=FJ) ∅) (fa.of (λ_ _ _ _=>(b8 (i:=0) (ec (N:=["name","members"]) ∅ rfl))) (λ_ _ _ _=>(_,(uc (dh bi (U 0) (U 1) (by with_unfolding_all rfl))),by walk_at "B")) (λ_ _ _ _=>(_,(U 0),by walk_at "B")))) aC)) aC)))))
   (a4 (b7 (U 4))))))),?_)
 let(aQ,aA,a_,aq,aD):=id R;unfold ng at cK;split at cK
 case isFalse=>cases cK
 rename_i g_;let(kY,tG,qD):=OJ _ g_;have Vx:4<=↑ws:=Gq (k:=3) (by rw[<- qD];exact(ax kY tG).2);nofun;refine(_,_,aq,dx.no _ _ _ ∅,(q,row,ws,3,_,l,left,rfl,R,y_ (),az.of aK,g_,λH1 s1 cP k3=>?_));have jk:=cP bC;have yY:=C.zw s1 R;have G4:H1 l\(.lst (a3 left)):=s1 _ _ (cC aK aq (by intro z;cases z)) aK;generalize hf:aF ws 3=f0 at cK g_ qD⊢;let(Az,TC):=hy tG;nofun;refine(∅,λgY nQ=>?_);let(xD,UM,Xg,f1,f2):=id k3;have XJ:H gY=none:=by
  cases e:H gY with
  |none=>rfl
  |some u=>
   by_cases z:gY=q
   .rw [z,f1]at nQ;cases nQ
   .rw [s1 _ _ z e]at nQ;cases nQ
 have sB:aN H1 (upd H1 gY (.lst [V.str f0])):=bh nQ;have rQ:(upd H1 gY (.lst [V.str f0])) gY\(.lst [V.str f0]):=aR;have lT:aL (upd H1 gY (.lst [V.str f0])):=jk.upd;generalize upd H1 gY (.lst [V.str f0])=mC at sB rQ lT⊢;have VK:=yY.same sB;have XQ:=sB _ _ G4;have hn:=C.1.1;refine((_,az.of XQ),?_);refine cY.w1 (xs:=a3 left) (ss:=left.map λx=>if decide ((ie ds x).map iY=(ie ds f0).map iY)=true then some (V.str x)else none) (az.of XQ) (by rw[fE];exact cM uS ∅) (by rw[fE,aX]) (λi v o ys N aE aS bl=>?_) (λal iI=>?_)
 .unfold a3 at aE;let(x,ag,rfl):=b_ aE;let(eP,eD,rfl):=b_ aS;rw[ag]at eD;cases eD;let(ez,Cz,rfl):=OJ x (bU ag);let(j,aJ):=hy Cz;rw[<- qD,m5 hn aJ,m5 hn TC]at bl;nofun;refine(Sub.name,c,n,ds,j,ez,rfl,VK,aJ,(ax ez Cz).1,c,n,ds,Az,kY,by rw[qD],VK,TC,(ax kY tG).1,rfl,?_);by_cases br:iY ez=iY kY
  .simp [br]at bl⊢;exact bl
  .simp [br]at bl⊢;exact bl
 rw[EL];rw[show left.filter (λx=>decide ((ie ds x).map iY=(ie ds f0).map iY))=yK ds left f0 from rfl];have pd:↑(yK ds left f0)<=12:=by
  unfold yK;exact cM (vq ..) uS
 generalize yK ds left f0=alike at cK pd⊢;have jc:aN mC (upd mC al (.lst (a3 alike))):=bh iI;have YJ:(upd mC al (.lst (a3 alike))) al\(.lst (a3 alike)):=aR;have Yo:aL (upd mC al (.lst (a3 alike))):=lT.upd;have aiY:al≠gY:=λz=>by rw[z,rQ]at iI;cases iI
 generalize upd mC al (.lst (a3 alike))=GJ at jc YJ Yo⊢;have agV:df q H GJ:=s1.trans (df.of (sB.trans jc));refine ajb (λσ I=>∃ms:List Str,σ=[~~~q,~~~c,~~~l,some (.str f0),~~~gY,~~~al]/\df q H I/\aL I/\dx t I q row ws (3+↑ms)/\I gY\(.lst (a3 ms))/\I al\(.lst (a3 alike))/\3+↑ms<=↑ws/\th alike (ws.drop (3+↑ms)) (3+↑ms) ms=.ok Q_) (λσ I=>match I gY with|some (.lst xs)=>↑ws-↑xs|_=>0) ?_ ?_
 .exact ([f0],rfl,agV,Yo,k3.same (sB.trans jc),jc _ _ rQ,YJ,Vx,cK)
 rintro σ I bj;ac_rfl
 let(ms,rfl,gR,cW,fl,lP,a2,sN,gE):=bj;let(vd,yp,IP,g1,g2):=id fl;have Sz:gY≠q:=cC lP g1 (by intro z;cases z);have adj:al≠q:=cC a2 g1 (by intro z;cases z);subst aV;refine(decide (3+↑ms<↑ws),λQ' aY=>?_,λuX=>?_,λuX=>?_)
 .nofun;exact(_,_,g1,dx.no _ _ _ ∅,(q,row,ws,_,rfl,fl,_,rfl,aY))
 .have uX:=of_decide_eq_true uX;rw[ag1 uX]at gE;unfold th at gE;nofun;refine(.inl (_,az.of lP),?_);refine(_,_,g1,dx.no _ _ _ ∅,(_,az.of a2),?_);refine cY.w1 (xs:=a3 alike) (ss:=alike.map λx=>if(!decide (x∈ms))=true then some (V.str x)else none) (az.of a2) (by rw[fE];exact cM pd ∅) (by rw[fE,aX]) (λi v o ys N aE aS bl=>?_) (λcl n5=>?_)
  .unfold a3 at aE;let(x,ag,rfl):=b_ aE;let(eP,eD,rfl):=b_ aS;rw[ag]at eD;cases eD;nofun;refine(Sub.name,_,.inl (az.of lP),rfl,vr ms,?_);rw[wZ];by_cases br:x∈ms
   .simp [br]at bl⊢;exact bl
   .simp [br]at bl⊢;exact bl
  rw[EL];have tL:aN I (upd I cl (.lst (a3 (alike.filter λx=>!decide (x∈ms))))):=bh n5;have P2:(upd I cl (.lst (a3 (alike.filter λx=>!decide (x∈ms))))) cl=some (.lst (a3 (alike.filter λx=>!decide (x∈ms)))):=aR;have QX:aL (upd I cl (.lst (a3 (alike.filter λx=>!decide (x∈ms))))):=cW.upd;generalize upd I cl (.lst (a3 (alike.filter λx=>!decide (x∈ms))))=QY at tL P2 QX⊢;split at gE
  case isFalse=>cases gE
  rename_i aB;refine(q,row,ws,3+↑ms,_,cl,_,rfl,fl.same tL,y_ uX,az.of P2,j1.mpr (aB.1,by simpa using aB.2),λaw s2 dw nG=>?_)
  .have sz:aw gY\(.lst (a3 ms)):=s2 _ _ Sz (tL _ _ lP);have dH:aw al\(.lst (a3 alike)):=s2 _ _ adj (tL _ _ a2);let(C',Qt,Vf,cc,dX):=id nG;have abQ:Vf≠gY:=λz=>by
    rw[z,sz]at dX;have e:=d2 dX;injection e with e;have:=congrArg q8 e;rw[fE,fE]at this;omega
   refine(_,sz,hO (show ↑(a3 ms)<=1000 by rw[fE];have:=C'.1;omega) ∅,λb u aa e=>?_,(dw QX).upd,(ms++[aF ws (3+↑ms)],(C',Qt,Vf,?_,?_),?_,?_,?_,?_),?_)
   .rw [aP (dm e XJ)];exact s2 _ _ aa (tL _ _ (gR _ _ aa e))
   .rw [aP (et Sz),cB];exact cc
   .rw [aP abQ];exact dX
   .rw [aR];unfold a3;rw[e'];rfl
   .rw [aP aiY];exact dH
   .rw [cB];show 3+(↑ms+1)<=_;omega
   .rw [cB];exact gE
   .rw [aR,lP];show ↑ws-↑(a3 ms++[V.str (aF ws (3+↑ms))])<↑ws-↑(a3 ms);rw[cB,fE];show ↑ws-(↑ms+1)<_;omega
 .have uX:=of_decide_eq_false uX;rw[List.drop_of_length_le ()]at gE;replace gE:(sU ms:Except Nat (List Str))=.ok Q_:=gE;cases gE;nofun;exact lH gY I gR cW (_,g1) lP XJ
theorem Zm:cq P base T 6 t.Ap t.Cc DH (Xf t):=by
 refine cA (Cj T) λsq=>cA (Ea T) λoS=>cA (acR T) λaiV=>cA (TB T) λF2=>?_;exists T.LU.ok HU,9
 let(q,row,ws,c,n,ds,p,qs,ms,rows,hx,rfl,R,C,ax,akP,hD,wb,bC,cK,lH):=h;refine(_,(db (ea (fK (U 0) T.gu T.xX sq ao T.zJ .nil c3 (ai (e5 (ai dF aC)) aC)))
   (db (b' (i:=3) HU.aG (fK (U 0) T.gu T.sX oS ao T.tc .nil c3 (ai aT (ai (ny rfl T.OV T.Ua) aC))))
   (db (b' (i:=4) HU.aG (fK (U 0) T.gu T.sX oS ao T.tc .nil c3 (ai (U 3) (ai (ny rfl T.OV T.Ua) aC))))
   (a4 (b7 (rK (ai (U 3) (ai (U 4) (ai (b3 aiV ao T.aoz T.J7.bo T.Ty (ai (U 0) (ai (U 1) (ai (b3 F2 ao T.PT T.Bj.bo T.PR (ai (U 1) (ai (U 2) aC))) aC)))) aC))))))))),?_)
 let(_,aA,a_,aq,aD):=id R;unfold qH at cK;split at cK
 case isFalse=>cases cK
 rename_i g_;have cy:1<=↑ws:=Gq (k:=0) (by rw[d9.mp g_];ac_nf);cases y6:lF (aF ws 1) 1 60 with
 |none=>rw[y6]at cK;cases cK
 |some lo=>
 have nO:jM (aF ws 1) 1 60=.int lo:=by rw[IK,y6];rfl
 rw[y6]at cK;replace cK:((lF (aF ws 2) lo 60).elim (.error 2) λah=>match ng ds (hU ds rows) ws with|.error k=>.error k|.ok ms=>.ok (lo,ah,ms):Except Nat ST)=.ok hx:=cK;cases Nu:lF (aF ws 2) lo 60 with
 |none=>rw[Nu]at cK;cases cK
 |some ah=>
 have z2:jM (aF ws 2) lo 60=.int ah:=by rw[IK,Nu];rfl
 rw[Nu]at cK;replace cK:(match ng ds (hU ds rows) ws with|.error k=>.error k|.ok ms=>.ok ((lo,ah,ms):ST):Except Nat ST)=.ok hx:=cK;cases hm:ng ds (hU ds rows) ws with
 |error k=>rw[hm]at cK;cases cK
 |ok alw=>
 rw[hm]at cK;cases cK;have de:=(GN nO).1;nofun;refine(_,_,aq,dx.no _ _ _ ∅,∅,λWR h1=>?_);have s0:aN H (upd H WR (.lst [V.str (af "stage")])):=bh h1;refine(q,row,ws,0,_,WR,[af "stage"],rfl,R.same s0,y_ cy,az.of aR,g_,λH1 s1 cP k3=>?_);let(_,UM,Xg,f1,f2):=id k3;have jk:=cP bC.upd;have dt:df q H H1:=(df.of s0).trans s1;nofun;refine(_,_,f1,dx.no _ _ _ ∅,(q,row,ws,1,_,1,60,lo,rfl,k3,y_ de,nO,jk,λaw s2 cW fl=>?_));have sH:=cW jk;have gR:df q H aw:=dt.trans s2;let(_,yp,IP,g1,g2):=id fl;nofun;refine(_,_,g1,dx.no _ _ _ ∅,(q,row,ws,2,_,lo,60,ah,rfl,fl,y_ (GN z2).1,z2,sH,λba s3 dw nG=>?_));have QI:=(GN z2).1;have tl:=dw sH;have hN:df q H ba:=gR.trans s3;have vj:=C.zw hN R;have akg:=akP.zw hN R;nofun;refine(c,n,ds,p,qs,ms,rows,rfl,vj,akg,hD,wb,λl cn s4 di aK Di=>?_);have dD:df q H cn:=hN.trans (df.of s4);have Jy:=di tl;have rZ:↑(hU ds rows)<=12:=by
  unfold hU;exact cM (vq ..) (by rw[aX];exact C.1.2)
 refine(q,row,ws,c,n,ds,l,hU ds rows,alw,rfl,nG.same s4,vj.same s4,ax,Di,rZ,λx ag=>?_,Jy,hm,λm cR s5 IB ahs ag4 Ia=>?_)
 .let(d,hd,e):=cj.mp (j1.mp ag).1;exact(d,hd,e)
 let(_,_,_,abz,_):=nG.same s4;nofun;refine(∅,λx ag=>?_);have back:∀{y:Addr} {G:av},df q H G->G y=none->(∃u,G q\u)->H y=none:=λ{y G} kM aM ⟨u,bR⟩=>by
  cases e:H y with
  |none=>rfl
  |some v=>
   by_cases c:y=q
   .subst c;rw[bR]at aM;cases aM
   .rw [kM _ _ c e]at aM;cases aM
 exact lH x m _ (dD.trans (s5.trans (df.of (bh ag)))) IB.upd aR ((bh ag) _ _ ag4) (back (dD.trans s5) ag ahs) (back dD Ia (_,abz))
theorem R7[DecidableEq α]:∀{l l':List α},l.Nodup->(∀x∈l,x∈l')->↑l<=↑l'
 |[],_,_,_=>eW _
 |a::l,l',h,ay=>by
  have aO:=ay a (oi ..);have ak:=ni.mp h;have:=R7 (l':=l'.erase a) ak.2 (λx ag=>(List.mem_erase_of_ne (λe=>ak.1 (by rw[<- e];exact ag))).mpr (ay x (i7 _ ag)));rw[List.length_erase_of_mem aO]at this;have ar:=afD aO;rw[gW];omega
noncomputable def gO(rows:List ST)(x:Str):Option Nat:=match dz (ha (rows.map (·.mem))) (cz x)with
 |some (.int k)=>some k.toNat
 |_=>none
theorem Om{x:Str}:∀(n:Nat) (dI:List (List Str)),n<=↑dI->(∃ms∈dI.take n,x∈ms)->∃(k:Nat) (ms:List Str),dz (ha (dI.take n)) (cz x)\(.int (k:Int))/\dI[k]?\ms/\x∈ms
 |0,dI,_,h=>by
  let(ms,ae,_):=h;simp at ae
 | n+1,dI,a8,h=>by
  have a7:dI[n]?\dI[n]:=a6 ();rw[JC a7,F_];by_cases c:x∈dI[n]
  .rw [if_pos c];exact(n,_,rfl,a7,c)
  .rw[if_neg c];refine Om n dI () ?_;let(ms,ae,ak):=h;rw[k5 a7]at ae;rcases eI.mp ae with ae|ae
   .exact (ms,ae,ak)
   .rw [d9.mp ae]at ak;exact absurd ak c
def oL{rows:List ST}{x:Str}(h:told rows x=true):∃(k:Nat) (r:ST),dz (ha (rows.map (·.mem))) (cz x)\(.int (k:Int))/\gO rows x\k/\rows[k]?\r/\x∈r.mem:=by
 unfold told at h;let(r,ao,ag):=r1.mp h;have:=Om (x:=x) ↑(rows.map (·.mem)) (rows.map (·.mem)) (bQ _) (r.mem,by rw[i5];exact cj.mpr (r,ao,rfl),by simpa using ag);rw[i5]at this;let(k,ms,ae,ak,aZ):=this;let(d5,dO,rfl):=b_ ak;exact(k,d5,ae,by unfold gO;rw[ae];rfl,dO,aZ)
noncomputable def xt(rows:List ST)(d:bf):Option (bf×Nat):=(gO rows d.name).bind λk=>(rows[k]?).bind λr=>if r.lo<d.least then some (p'p d k)else none
noncomputable def u'(ds:List bf)(rows:List ST):Option (bf×Nat):=ds.findSome? (xt rows)
noncomputable def pK(n:Int)(ds:List bf)(x y:Str):Bool:=match ie ds x,ie ds y with
 |some d,some e=>mt n d e
 |_,_=>false
noncomputable def pO(n:Int)(ds:List bf)(k:Nat)(x y:Str):Option (Str×Str×Nat):=if x≠y/\pK n ds x y=true then some (p'p x (p'p y k))else none
noncomputable def tX(n:Int)(ds:List bf)(e:ST×Nat):Option (Str×Str×Nat):=e.1.mem.findSome? λx=>e.1.mem.findSome? λy=>pO n ds e.2 x y
noncomputable def v5(n:Int)(ds:List bf)(rows:List ST):Option (Str×Str×Nat):=rows.zipIdx.findSome? (tX n ds)
def yI(ds:List bf):Prop:=∀d∈ds,agN d.name/\d.k<3/\(0<=d.off/\d.off<=1000)
structure rp(ds:List bf)(rows:List ST):Prop where
 ln:↑rows<=6
 gY:∀r∈rows,↑r.mem<=12
 z5:∀r∈rows,∀x∈r.mem,∃d∈ds,d.name=x
def Tc(t:bS):bO:=λvs H Q _=>∃c n ds p qs ms rows,vs=[⇑c,⇑p]/\ad t H c n ds/\jg H p qs ms rows/\rp ds rows/\hU ds rows=[]/\∀I,aN H I->(aL H->aL I)->Q .cf I
def Q3(t:bS):bO:=λvs H Q _=>∃c n ds p qs ms rows,vs=[⇑c,⇑p]/\ad t H c n ds/\jg H p qs ms rows/\rp ds rows/\hU ds rows=[]/\u' ds rows=none/\∀I,aN H I->(aL H->aL I)->Q .cf I
def TZ(t:bS):bO:=λvs H Q _=>∃c n ds p qs ms rows,vs=[⇑c,⇑p]/\ad t H c n ds/\0<n/\jg H p qs ms rows/\rp ds rows/\aL H/\v5 n ds rows=none/\∀I,aN H I->(aL H->aL I)->Q .cf I
def pj(l:List Int)(v:Int):Prop:=v∈l/\∀k∈l,k<=v
noncomputable def rU(ds:List bf)(x:Str):Int:=((ie ds x).map l7).getD 0
noncomputable def uN(ds:List bf)(x:Str):Int:=((ie ds x).map mu).getD 0
noncomputable def WP(ds:List bf)(x y:Str):Int:=match ie ds x,ie ds y with
 |some d,some e=>if d.off-e.near>0 then d.off-e.near else 0
 |_,_=>0
noncomputable def q0(n:Int)(ds:List bf)(s:List Str)(x:Str):List Int:=if x∈s then []else(s.filter λy=>pK n ds x y).map (WP ds x)
noncomputable def iR(n:Int)(ds:List bf)(f s:List Str):List Int:=[0]++f.map (rU ds)++s.map (uN ds)++(ds.map (·.name)).flatMap (q0 n ds s)
def BR{m:Str}(h:qk.contains m=false):(p5 d).lookup m=none:=yX qk (Yh _) h
theorem Yc(p:Str->Bool)(g:Str->Int):∀xs:List Str,((xs.map λx=>if p x=true then some (V.int (g x))else none).flatMap xe)=((xs.filter p).map g).map V.int
 |[]=>rfl
 |x::xs=>by
  rw[fz,xr,Yc p g xs];by_cases c:p x=true
  .rw [if_pos c,anj c];rfl
  .rw [if_neg c,ala c];rfl
theorem ym:∀bG:List Int,bG≠[]->∃m,m∈bG/\∀k∈bG,k<=m
 |[],h=>absurd rfl h
 |[x],_=>(x,by simp,λk ax=>by rw[d9.mp ax];exact D3 _)
 | x::y::r,_=>by
  let(m,hm,al):=ym (y::r) (by simp);by_cases c:x<=m
  .refine⟨m,i7 _ hm,fun k ax=>?_⟩;rcases ei.mp ax with rfl|ax
   .exact c
   .exact al k ax
  .refine⟨x,by simp,fun k ax=>?_⟩;rcases ei.mp ax with rfl|ax
   .exact D3 _
   .exact Int.le_trans (al k ax) ()
def acr(t:bS):bO:=λvs H Q _=>∃c n ds gK aH f s,vs=[⇑c,⇑gK,⇑aH]/\ad t H c n ds/\0<n/\yI ds/\H gK\(.lst (a3 f))/\H aH\(.lst (a3 s))/\(∀x∈f,∃d∈ds,d.name=x)/\(∀x∈s,∃d∈ds,d.name=x)/\↑f<=12/\↑s<=12/\aL H/\∀v,pj (iR n ds f s) v->Q (.int v) H
def ae2(t:bS):bO:=λvs H Q _=>∃c n ds gK aH f s,vs=[⇑c,⇑gK,⇑aH]/\ad t H c n ds/\0<n/\yI ds/\H gK\(.lst (a3 f))/\H aH\(.lst (a3 s))/\(∀x∈f,∃d∈ds,d.name=x)/\(∀x∈s,∃d∈ds,d.name=x)/\↑f<=12/\↑s<=12/\aL H/\∀v I,aN H I->pj (iR n ds f s) v->Q (.int v) I
def acu:cq P base T 3 t.EN t.CV lQ (Tc t):=by
 refine cA (TB T) λF2=>?_;exists T.J5.ok Go,9
 let(c,n,ds,p,qs,ms,rows,rfl,C,R,J,eE,q):=h;refine(_,(db (b' (i:=2) Go.aG (b3 F2 ao T.PT T.Bj.bo T.PR (ai (U 0) (ai (U 1) aC))))
   (a4 (d4 (Fi (U 2) (λ_=>rfl)) (a4 Ch) en))),?_)
 nofun;refine(c,n,ds,p,qs,ms,rows,rfl,C,R,J.ln,J.gY,λl H1 s1 cP aK cy=>?_);dsimp only;rw[eE]at cy;refine du false (λQ aY=>?_) (λz=>nomatch z) (λ_=>?_)
 .exact (_,rfl,_,.inl (_,az.of cy,rfl),aY)
 .simp only[gy];exact q H1 s1 cP
def xL:cq P base T 3 t.EH t.B2 lQ (Q3 t):=by
 refine cA (MK T) λzt=>cA (Aw T) λud=>cA (sM T) λkc=>?_;exists T.Gw.ok BQ,9
 let(c,n,ds,p,qs,ms,rows,rfl,C,R,J,ahL,xY,q):=h;have bR:=i' ao;let((hn,hr),aA,wl,aG,aq,_,_):=id C;refine(_,(db (b' (i:=2) BQ.aG (b3 zt ao T.Mn T.zB.bo T.F4 (ai (hR rfl (e6 (U 1)) (f_ (sc:=bx (top 37)) rfl ∅) (N:=jC) (sel:=[none,none,none]) (f7 (M:=["crossing","rows","homes","name","number"]) ∅) (fa.of (λ_ _ _ _=>(kC (K:=K) (n:=3) rfl rfl (ac (b8 (i:=0) (ec (N:=jC) ∅ rfl)) (ac (b8 (i:=1) (ec (N:=jC) ∅ rfl)) (ac (b8 (i:=2) (ec (N:=jC) ∅ rfl)) kx))))) (λ_ _ _ _=>(_,hT,by walk_at "B")) (λ_ _ _ _=>(_,(U 2),by walk_at "B")))) aC)))
   (a4 (fP fV rfl (e6 (kQ (U 0) T.iQ T.Bk ud ao T.CJ .nil c3)) (b8 (i:=3) BQ.aG) (db (b' (i:=4) BQ.aG (p9 bR (U 2) (U 3) (λ_ _=>rfl)))
   (a4 (d4 (dh ir (bZ gM (bZ c8 (U 1) (U 4)) aT) (bB (fK (U 0) T.iQ T.o5 kc ao T.Gc .nil c3 (ai (U 3) aC)) rfl) (cL _)) (a4 Ch) en)))))),?_)
 nofun;have jQ:↑(qs.map V.ref)=↑rows:=by rw[aX,R.cy]
 refine((_,az.of R.at_),?_);refine cY.mD (xs:=qs.map V.ref) (zs:=ms.map V.ref) (az.of R.at_) (by rw[jQ];exact cM J.ln ∅) (by rw[jQ,aX,R.de]) (λj v z N aE aQ bl=>?_) (λpm Hv=>?_)
 .obtain⟨k_,eN,rfl⟩:=b_ aE;obtain⟨NT,l1,rfl⟩:=b_ aQ;have aJ:j<↑rows:=by rw[<- R.cy];exact(b0.mp eN).1
  have e:=(R.al j k_ NT _ eN l1 (a6 aJ)).1;nofun;exact(_,dM.of e,rfl,_,_,rfl,_,_,rfl,_,_,rfl,rfl,Sub.wa,bl)
 .have sp:aN H (upd H pm (.lst (ms.map V.ref))):=bh Hv;have np:aL H->aL (upd H pm (.lst (ms.map V.ref))):=λn=>n.upd
  have cu:(upd H pm (.lst (ms.map V.ref))) pm\(.lst (ms.map V.ref)):=aR;generalize upd H pm (.lst (ms.map V.ref))=rM at sp np cu⊢;refine⟨pm,ms,rows.map (·.mem),rfl,(cu,by rw[R.de,aX],λi m x hm ag=>?_),by rw[aX];exact J.ln,λx ag=>?_,λh H1 s1 cP bT ae=>?_⟩
  .let(r,dO,rfl):=b_ ag;have hA:qs[i]?\(qs[i]'(by rw[R.cy];exact(b0.mp dO).1)):=a6 _;exact sp _ _ (R.al i _ m r hA hm dO).2
  .let(r,dO,rfl):=cj.mp ag;exact J.gY r dO
  .have nE:=sp.trans s1;have yY:=C.same nE;refine(_,_,nE _ _ aq,lg _ _ _ ∅,c,n,ds,rfl,yY,λfs k7=>(fs,rfl,(_,az.of aR),?_));have sB:=nE.trans (bh (o:=.lst (a3 (ds.map (·.name)))) k7);have ak:=(bh (o:=.lst (a3 (ds.map (·.name)))) k7) _ _ ae;have lT:aL H->aL (upd H1 fs (.lst (a3 (ds.map (·.name))))):=λn=>(cP (np n)).upd
   have sf:(upd H1 fs (.lst (a3 (ds.map (·.name))))) fs\(.lst (a3 (ds.map (·.name)))):=aR;generalize upd H1 fs (.lst (a3 (ds.map (·.name))))=mC at sB ak lT sf⊢;refine ed.list (xs:=a3 (ds.map (·.name))) (λi σ I=>(∃x y,σ=[~~~c,~~~p,~~~h,x,y])/\I=mC/\u' ds rows=(ds.drop i).findSome? (xt rows)) ?_ ?_ ?_ ?_
   .exact ((_,_,rfl),rfl,rfl)
   .intro i σ I ah (_,rfl,_);exact az.of sf
   .rintro i v σ I aE bj;ac_rfl
    let((x,y,rfl),rfl,dV):=bj;subst aV;unfold a3 at aE;let(nm,nx,rfl):=b_ aE;let(d,hd,rfl):=b_ nx;let(ah,agE):=b0.mp hd;have sd:=bU hd;have c6:told rows d.name=true:=by
     have:=KU.mp ahL d.name (cj.mpr (d,sd,rfl));simpa using this
    let(k,r,akU,F6,j3,lb):=oL c6;have mH:k<↑rows:=(b0.mp j3).1;have ag2:xt rows d=if r.lo<d.least then some (p'p d k)else none:=by
     unfold xt;rw[F6,yw,j3,yw]
    rw[uL ah,I4,agE,ag2]at dV;have a7:i4 I h (.str d.name) (some (.int (k:Int))):=by rw[<- akU];exact i4.k (k:=cz d.name) ak
    have QG:qs[k]?\(qs[k]'(by rw[R.cy];exact mH)):=a6 _;have adm:ms[k]?\(ms[k]'(by rw[R.de];exact mH)):=a6 _;have aoV:=sB _ _ (R.al k _ _ r QG adm j3).1;simp only[gU,dT,jV,jH];exists (λau aw=>aw=I/\au=[~~~c,~~~p,~~~h,some (.str d.name),some (.int (k:Int))]),2
    .nofun;exact(_,a7,dp _ _ (rfl,rfl))
    intro cD aw (rfl,rfl);subst aV;dsimp only;refine du (decide (r.lo<d.least)) (λQ aY=>?_) (λaa=>?_) (λaa=>?_)
    .nofun;exact(_,az.of (sB _ _ R.at_),_,cv (by rw[dg,QG];rfl),_,rfl,_,dM.of aoV,_,cv (j:=0) rfl,_,_,sB _ _ aq,lg _ _ _ ∅,c,n,ds,i,d,rfl,C.same sB,hd,λa W=>(a,rfl,_,W.abe T,_,rfl,_,rfl,aY))
    .have aa:=of_decide_eq_true aa;rw[if_pos aa]at dV;replace dV:u' ds rows\(p'p d k):=dV;rw[dV]at xY;cases xY
    .have aa:=of_decide_eq_false aa;rw[if_neg aa]at dV;simp only[gy];exact((_,_,rfl),trivial,dV)
   .rintro σ I bj;ac_rfl
    let((x,y,rfl),rfl,dV):=bj;subst aV;rw[fE,aX,zK]at dV;exact q _ sB lT
def ah9:cq P base T 4 t.Be t.Ej lQ (TZ t):=by
 refine cA (SV T) λMY=>?_;exists T.Mm.ok x_,9
 let(c,n,ds,p,qs,ms,rows,rfl,C,a8,R,J,bC,xY,q):=h;let((hn,hr),aA,wl,aG,aq,_,_):=id C;refine(_,(a4 (fP fV rfl (A5 rfl T.FE (ai (U 1) aC)) (kC (K:=K) (n:=2) rfl rfl (ac (b8 (i:=2) x_.aG) (ac (b8 (i:=3) x_.aG) kx))) (a4 (fP fV rfl (e6 (bZ gM (U 3) aT)) (b8 (i:=4) x_.aG) (a4 (fP fV rfl (e6 (bZ gM (U 3) aT)) (b8 (i:=5) x_.aG) (a4 (d4 (gv.pt (qn (dh og (U 4) (U 5) (cL _)) (p_ (lE (b3 MY ao T.Ye T.Ff.bo T.Xx (ai (U 0) (ai (U 4) (ai (U 5) aC)))))))) (a4 Ch) en)))))))),?_);nofun;have OW:∀{x:Str},(∃d∈ds,d.name=x)->∃(i:Nat) (d:bf),ds[i]?\d/\d.name=x/\ie ds x\d:=λ⟨d,hd,e⟩=>by
  let(i,ah):=hy hd;exact(i,d,ah,e,by rw[<- e];exact m5 hn ah)
 refine((_,az.of R.at_),?_);refine ed.enum (xs:=qs.map V.ref) (λi σ I=>(∃x y z u,σ=[~~~c,~~~p,x,y,z,u])/\aN H I/\aL I/\v5 n ds rows=((rows.drop i).zipIdx i).findSome? (tX n ds)) ?_ ?_ ?_ ?_
 .exact ((_,_,_,_,rfl),aN.refl _,bC,rfl)
 .intro i σ I ah (_,bw,_);exact az.of (bw _ _ R.at_)
 .rintro i v σ I ki aE ⟨⟨x,y,z,u,rfl⟩,bw,cP,dV⟩ qc;obtain⟨su,hA,rfl⟩:=b_ aE;have ah:i<↑rows:=by rw[<- R.cy];exact(b0.mp hA).1
  have il:rows[i]?\rows[i]:=a6 ah;have sL:ms[i]?\(ms[i]'(by rw[R.de];exact ah)):=a6 _;let(u_,em):=R.al i su _ _ hA sL il;generalize ms[i]'(by rw[R.de];exact ah)=m at sL u_ em;have wb:=bU il;have g_:=J.z5 _ wb;have nQ:=J.gY _ wb;rw[uL ah,List.zipIdx_cons,I4]at dV;generalize apw:rows[i]=r at u_ em g_ nQ dV;have s2:aN I (upd I ki (.tup [.int i,⇑su])):=bh qc;have sB:=bw.trans s2;have lT:aL (upd I ki (.tup [.int i,⇑su])):=cP.upd;refine ui ?_;generalize upd I ki (.tup [.int i,⇑su])=mC at s2 sB lT⊢;have Ve:=sB _ _ u_;have Br:=sB _ _ em;nofun;refine(_,dM.of Ve,_,cv (j:=2) rfl,m,rfl,(_,az.of Br),?_);generalize aqt:((rows.drop (i+1)).zipIdx (i+1)).findSome? (tX n ds)=l4 at dV;refine ed.list (xs:=a3 r.mem) (λj σ aw=>(∃z u,σ=[~~~c,~~~p,some (.int (i:Int)),~~~su,z,u])/\aw=mC/\tX n ds (p'p r i)=(r.mem.drop j).findSome? (λx=>r.mem.findSome? λy=>pO n ds i x y)) ?_ ?_ ?_ ?_
  .exact ((_,_,rfl),rfl,rfl)
  .intro j σ aw aJ (_,rfl,_);exact az.of Br
  .rintro j v σ aw aE bj;ac_rfl
   let((z,u,rfl),rfl,hk):=bj;subst aV;unfold a3 at aE;let(dt,Rv,rfl):=b_ aE;let(aJ,akn):=b0.mp Rv;rw[uL aJ,I4,akn]at hk;let(i1,ez,Cz,GB,y4):=OW (g_ dt (bU Rv));generalize ard:(r.mem.drop (j+1)).findSome? (λx=>r.mem.findSome? λy=>pO n ds i x y)=aqd at hk;nofun;refine(_,dM.of Ve,_,cv (j:=2) rfl,m,rfl,(_,az.of Br),?_);refine ed.list (xs:=a3 r.mem) (λl σ ba=>(∃u,σ=[~~~c,~~~p,some (.int (i:Int)),~~~su,some (.str dt),u])/\ba=aw/\(r.mem.findSome? λy=>pO n ds i dt y)=(r.mem.drop l).findSome? (λy=>pO n ds i dt y)) ?_ ?_ ?_ ?_
   .exact ((_,rfl),rfl,rfl)
   .intro l σ ba aK (_,rfl,_);exact az.of Br
   .rintro l v σ ba aE bj;ac_rfl
    let((u,rfl),rfl,eE):=bj;subst aV;unfold a3 at aE;let(gR,Aj,rfl):=b_ aE;let(aK,k'):=b0.mp Aj;rw[uL aK,I4,k']at eE;let(i2,eS,hd2,sV,aiO):=OW (g_ gR (bU Aj));have BP:pK n ds dt gR=mt n ez eS:=by unfold pK;rw[y4,aiO]
    have ahW:pO n ds i dt gR=if dt≠gR/\mt n ez eS=true then some (p'p dt (p'p gR i))else none:=by unfold pO;rw[BP]
    rw[ahW]at eE;simp only[gU,jV,jH];refine du (decide (dt≠gR)&&mt n ez eS) (λQ aY=>?_) (λaa=>?_) (λaa=>?_)
    .nofun;by_cases br:dt=gR
     .rw [if_neg (by simp[br])];rw[decide_eq_false (λz=>z br),om]at aY;exact aY
     .rw [if_pos (by simpa using br)];rw[decide_eq_true br,nN]at aY;exact(c,n,ds,i1,i2,ez,eS,by rw[GB,sV],C.same sB,a8,Cz,hd2,lT,_,rfl,aY)
    .rw [kX,decide_eq_true_eq]at aa;rw[if_pos aa]at eE;replace eE:(r.mem.findSome? λy=>pO n ds i dt y)=some (p'p dt (p'p gR i)):=eE;rw[eE]at hk;replace hk:tX n ds (p'p r i)\(p'p dt (p'p gR i)):=hk;rw[hk]at dV;replace dV:v5 n ds rows\(p'p dt (p'p gR i)):=dV;rw[dV]at xY;cases xY
    .have aa:¬(dt≠gR/\mt n ez eS=true):=λz=>by
      rw[decide_eq_true z.1,z.2]at aa;exact nomatch aa
     rw[if_neg aa]at eE;simp only[gy];exact((_,rfl),trivial,eE)
   .rintro σ ba bj;ac_rfl
    let((u,rfl),rfl,eE):=bj;subst aV;rw[fE,zK]at eE;replace eE:(r.mem.findSome? λy=>pO n ds i dt y)=none:=eE;rw[eE]at hk;exact((_,_,rfl),rfl,hk)
  .rintro σ aw bj;ac_rfl
   let((z,u,rfl),rfl,hk):=bj;subst aV;rw[fE,zK]at hk;replace hk:tX n ds (p'p r i)=none:=hk;rw[hk]at dV;exact((_,_,_,_,rfl),sB,lT,dV)
 .rintro σ I bj;ac_rfl
  let((x,y,z,u,rfl),bw,cP,dV):=bj;subst aV;rw[aX,R.cy,zK]at dV;exact q _ bw (λ_=>cP)
theorem ai3:cq P base T 4 t.Ni t.K6 Jj (acr t):=by
 refine cE.forget (sp:=ae2 t) ?_ λvs H Q E h=>?_
 .have MY:cE P w K mg base dq 3 t.EK t.Ba sY (P8 t):=SV T;have ac0:cE P w K mg base dq 3 t.EJ t.Dh sY (XT t):=FS T;have ud:cE P w K mg base dq 3 t.xR t.Ci ["self"] (PL t):=(Aw T).mono ∅;have kc:cE P w K mg base dq 3 t.vh t.xo j_ (Ls t):=(sM T).mono ∅;have Of:ra P w K mg base dq 3 (v_ t) "ready" ["self"] (v3 t):=Fg (Vl T) ∅;have KP:ra P w K mg base dq 3 (v_ t) "fade" ["self"] (vn t):=Fg (Sg T) ∅;exists T.He.ok FL,9
  let(c,n,ds,gK,aH,f,s,rfl,C,a8,bX,hf,ay,fin,sin,pe,lL,bC,q):=h;let((hn,hr),aA,wl,aG,aq,_,_):=id C;refine(_,(db (b' (i:=3) FL.aG (e5 (ai aT aC)))
   (db (ea (fo gI rD r6 qW (U 3) (ai (hR rfl (e6 (U 1)) (f_ (sc:=bx (top 32)) rfl ∅) (N:=Df) (sel:=[none,some 0]) (f7 (M:=E2) ∅) (fa.of (λ_ _ _ _=>(b8 (i:=0) (ec (N:=Df) ∅ rfl))) (λ_ _ _ _=>(_,hT,by walk_at "B")) (λ_ _ _ _=>(_,(Cd (fK (U 1) T.iQ T.o5 kc ao T.Gc .nil c3 (ai (U 0) aC)) KP ao c3),by walk_at "B")))) aC)))
   (db (ea (fo gI rD r6 qW (U 3) (ai (hR rfl (e6 (U 2)) (f_ (sc:=bx (top 32)) rfl ∅) (N:=Df) (sel:=[none,some 0]) (f7 (M:=E2) ∅) (fa.of (λ_ _ _ _=>(b8 (i:=0) (ec (N:=Df) ∅ rfl))) (λ_ _ _ _=>(_,hT,by walk_at "B")) (λ_ _ _ _=>(_,(Cd (fK (U 1) T.iQ T.o5 kc ao T.Gc .nil c3 (ai (U 0) aC)) Of ao c3),by walk_at "B")))) aC)))
   (db (fP fV rfl (e6 (kQ (U 0) T.iQ T.Bk ud ao T.CJ .nil c3)) (R8 (i:=4) FL.aG rfl (mh rfl)) (a4 (d4 (dh bi (U 4) (U 2) (by with_unfolding_all rfl)) (a4 (ea (fo gI rD r6 qW (U 3) (ai (hR rfl (e6 (U 2)) (f_ (sc:=bx (top 32)) rfl ∅) (N:=["other","crossing","one"]) (sel:=[none,some 0,some 4]) (f7 (M:=E2) ∅) (fa.of (λ_ _ _ _=>(b8 (i:=0) (ec (N:=["other","crossing","one"]) ∅ rfl))) (λ_ _ _ _=>(_,(uc (lE (b3 MY ao T.Ye T.Ff.bo T.Xx (ai (U 1) (ai (U 2) (ai (U 0) aC)))))),by walk_at "B")) (λ_ _ _ _=>(_,(b3 ac0 ao T.agy T.JY.bo T.ajQ (ai (U 1) (ai (U 2) (ai (U 0) aC)))),by walk_at "B")))) aC)))) en)))
   (a4 (b7 (fx (TX rfl) rfl T.E8 Ii (ai (U 3) aC)))))))),?_)
  exists (λau I=>aN H I/\aL I/\∃c7,H c7=none/\I c7\(.lst ([(0:Int)].map V.int))/\au=[~~~c,~~~gK,~~~aH,~~~c7,none]),3
  .nofun;exact(∅,λc7 nD=>bX _ _ (bh nD,bC.upd,c7,nD,aR,rfl))
  intro fG H1 (s1,cP,c7,nD,dN,rfl);subst aV;exists (λau I=>aN H I/\aL I/\I c7\(.lst (([0]++f.map (rU ds)).map V.int))/\au=[~~~c,~~~gK,~~~aH,~~~c7,none]),5
  .nofun;refine(.inl (_,az.of dN),(_,az.of (s1 _ _ hf)),?_);refine cY.mD (xs:=a3 f) (zs:=(f.map (rU ds)).map V.int) (az.of (s1 _ _ hf)) (by rw[fE];exact cM pe ∅) (by rw[fE,aX,aX]) (λj v z N aE aQ bl=>?_) (λpl c2=>?_)
   .unfold a3 at aE;let(x,ag,rfl):=b_ aE;let(y,aM,rfl):=b_ aQ;let(eP,eD,rfl):=b_ aM;rw[ag]at eD;cases eD;let(d,hd,rfl):=fin x (bU ag);let(i,ah):=hy hd;have Gj:rU ds d.name=l7 d:=by unfold rU;rw[m5 hn ah];rfl
    rw[Gj]at bl;nofun;refine(Sub.name,_,_,s1 _ _ aq,lg _ _ _ ∅,c,n,ds,i,d,rfl,C.same s1,ah,λa W=>?_);let(pX,Tf,sJ):=id W;exact(a,rfl,_,_,_,sJ,(_,pX,rfl),BR ∅,a,d,rfl,W,rfl,bl)
   .refine (pl,rfl,_,(bh c2) _ _ dN,_,aR,?_,dp _ _ ((s1.trans (bh c2)).hS nD,(cP.upd).upd,by rw[aR,e'],rfl));rw[aX,aX,aX];exact cM (show _<=13 by show 1+↑f<=13;omega) ∅
  intro cD aw (s2,cW,eH,rfl);subst aV;exists (λau I=>aN H I/\aL I/\I c7\(.lst (([0]++f.map (rU ds)++s.map (uN ds)).map V.int))/\au=[~~~c,~~~gK,~~~aH,~~~c7,none]),5
  .nofun;refine(.inl (_,az.of eH),(_,az.of (s2 _ _ ay)),?_);refine cY.mD (xs:=a3 s) (zs:=(s.map (uN ds)).map V.int) (az.of (s2 _ _ ay)) (by rw[fE];exact cM lL ∅) (by rw[fE,aX,aX]) (λj v z N aE aQ bl=>?_) (λpl c2=>?_)
   .unfold a3 at aE;let(x,ag,rfl):=b_ aE;let(y,aM,rfl):=b_ aQ;let(eP,eD,rfl):=b_ aM;rw[ag]at eD;cases eD;let(d,hd,rfl):=sin x (bU ag);let(i,ah):=hy hd;have Gj:uN ds d.name=mu d:=by unfold uN;rw[m5 hn ah];rfl
    rw[Gj]at bl;nofun;refine(Sub.name,_,_,s2 _ _ aq,lg _ _ _ ∅,c,n,ds,i,d,rfl,C.same s2,ah,λa W=>?_);let(pX,Tf,sJ):=id W;exact(a,rfl,_,_,_,sJ,(_,pX,rfl),BR ∅,a,d,rfl,W,rfl,bl)
   .refine (pl,rfl,_,(bh c2) _ _ eH,_,aR,?_,dp _ _ ((s2.trans (bh c2)).hS nD,(cW.upd).upd,by rw[aR,<- e'],rfl));rw[aX,aX,aX,cB,aX];exact cM (show _<=25 by show 1+↑f+↑s<=25;omega) ∅
  intro gi ba (s3,dw,ij,rfl);subst aV;exists (λau I=>aN H I/\aL I/\I c7\(.lst ((iR n ds f s).map V.int))/\∃dD,au=[~~~c,~~~gK,~~~aH,~~~c7,dD]),5
  .nofun;have vj:=C.same s3;refine(_,_,s3 _ _ aq,lg _ _ _ ∅,c,n,ds,rfl,vj,λfs k7=>(fs,rfl,(_,az.of aR),?_));have sB:=s3.trans (bh (o:=.lst (a3 (ds.map (·.name)))) k7);have lT:aL (upd ba fs (.lst (a3 (ds.map (·.name))))):=dw.upd;have sf:(upd ba fs (.lst (a3 (ds.map (·.name))))) fs\(.lst (a3 (ds.map (·.name)))):=aR;have Xl:=(bh (o:=.lst (a3 (ds.map (·.name)))) k7) _ _ ij;have an1:fs≠c7:=λz=>by rw[z,ij]at k7;cases k7
   generalize upd ba fs (.lst (a3 (ds.map (·.name))))=mC at sB lT sf Xl⊢;refine ed.list (xs:=a3 (ds.map (·.name))) (λi σ I=>(∃x,σ=[~~~c,~~~gK,~~~aH,~~~c7,x])/\aN H I/\aL I/\I fs\(.lst (a3 (ds.map (·.name))))/\I c7\(.lst (([(0:Int)]++f.map (rU ds)++s.map (uN ds)++((ds.map λd:bf=>d.name).take i).flatMap (q0 n ds s)).map V.int))/\↑(((ds.map λd:bf=>d.name).take i).flatMap (q0 n ds s))<=12*i) ?_ ?_ ?_ ?_
   .exact ((_,rfl),sB,lT,sf,by rw[um,adK,qC];exact Xl,by simp)
   .rintro i σ I ah bj;ac_rfl
    let(_,_,_,e,_):=bj;subst aV;exact az.of e
   .rintro i v σ I aE bj;ac_rfl
    let((dD,rfl),bw,di,Uq,iC,Di):=bj;subst aV;unfold a3 at aE;let(nm,nx,rfl):=b_ aE;have agG:=nx;let(d,hd,rfl):=b_ agG;have aqo:i<12:=by have:=(b0.mp hd).1;omega
    have qo:=m5 hn hd;simp only[gU,jV,jH];refine du (!decide (d.name∈s)) (λQ aY=>?_) (λaa=>?_) (λaa=>?_)
    .nofun;refine(_,.inl (az.of (bw _ _ ay)),rfl,vr s,?_);rw[wZ];exact aY
    .have aa:d.name∉s:=by simpa using aa
     have qI:q0 n ds s d.name=(s.filter λy=>pK n ds d.name y).map (WP ds d.name):=by unfold q0;rw[if_neg aa]
     nofun;refine(.inl (_,az.of iC),(_,az.of (bw _ _ ay)),?_);refine cY.w1 (xs:=a3 s) (ss:=s.map λy=>if pK n ds d.name y=true then some (V.int (WP ds d.name y))else none) (az.of (bw _ _ ay)) (by rw[fE];exact cM lL ∅) (by rw[fE,aX]) (λl v o ys N aE aS bl=>?_) (λpl c2=>?_)
     .unfold a3 at aE;let(gR,Aj,rfl):=b_ aE;let(eP,eD,rfl):=b_ aS;rw[Aj]at eD;cases eD;let(e,he,rfl):=sin gR (bU Aj);let(j,aJ):=hy he;have zH:=m5 hn aJ;have yl:pK n ds d.name e.name=mt n d e:=by unfold pK;rw[qo,zH]
      have aey:WP ds d.name e.name=if d.off-e.near>0 then d.off-e.near else 0:=by unfold WP;rw[qo,zH]
      rw[yl,aey]at bl;nofun;refine(Sub.name,c,n,ds,i,j,d,e,rfl,C.same bw,a8,hd,aJ,di,_,rfl,?_);cases BP:mt n d e with
      |true=>
       rw[if_pos rfl];rw[BP,if_pos rfl]at bl;exact(c,n,ds,i,j,d,e,rfl,C.same bw,hd,aJ,bl)
      |false=>
       rw[if_neg ∅];rw[BP,if_neg ∅]at bl;simpa using bl
     .rw[Yc (λy=>pK n ds d.name y) (WP ds d.name),<- qI];have n5:↑(q0 n ds s d.name)<=12:=by rw[qI,aX];exact cM (vq ..) lL
      refine(pl,rfl,_,(bh c2) _ _ iC,_,aR,?_,(_,rfl),(bw.trans (bh c2)).hS nD,(di.upd).upd,by rw[aP an1];exact(bh c2) _ _ Uq,?_,?_)
      .rw [aX,aX,cB,cB,cB,aX,aX];exact cM (show _<=500 by show 1+↑f+↑s+_+_<=500;omega) ∅
      .rw [aR,k5 nx,xN,<- e'];simp
      .rw [k5 nx,xN,cB,xr,adK,qC];omega
    .have aa:d.name∈s:=by simpa using aa
     have qI:q0 n ds s d.name=[]:=by unfold q0;rw[if_pos aa]
     simp only[gy];refine((_,rfl),bw,di,Uq,?_,?_)
     .rw [k5 nx,xN,xr,qI];simpa using iC
     .rw [k5 nx,xN,cB,xr,qI];show _+0<=_;omega
   .rintro σ I bj;ac_rfl
    let((dD,rfl),bw,di,_,iC,_):=bj;subst aV;rw[fE,i5]at iC;exact dp _ _ (bw,di,iC,_,rfl)
  intro kE cn (s4,di,iC,dD,rfl);subst aV;nofun;let(oR,ae,ak):=ym (iR n ds f s) (by unfold iR;simp);exact(_,az.of iC,oR,ae,ak,q oR cn s4 (ae,ak))
 .let(c,n,ds,gK,aH,f,s,rfl,C,a8,bX,hf,ay,fin,sin,pe,lL,bC,q):=h;exact(bC,c,n,ds,gK,aH,f,s,rfl,C,a8,bX,hf,ay,fin,sin,pe,lL,bC,λv I bw aE=>(bw,q v aE))
noncomputable abbrev qN:List Str:=[af "crossing",af "many",af "leasts",af "mosts",af "members",af "sorts",af "homes",af "changes"]
noncomputable def l5(c:Addr)(k:Nat)(le mo cG so aS ch:Addr):List (Str×V):=[(p'p (af "crossing") (V.ref c)),(p'p (af "many") (V.int k)),(p'p (af "leasts") (V.ref le)),(p'p (af "mosts") (V.ref mo)),(p'p (af "members") (V.ref cG)),(p'p (af "sorts") (V.ref so)),(p'p (af "homes") (V.ref aS)),(p'p (af "changes") (V.ref ch))]
def r5(c:Addr)(k:Nat)(le mo cG so aS ch:Addr):(l5 c k le mo cG so aS ch).map (·.1)=qN:=rfl
noncomputable def c0(ds:List bf)(r:ST):Str:=((r.mem.head?.bind (ie ds)).map iY).getD (af "")
noncomputable def stK(i j:Nat):List Key:=[se (i:Int),se (j:Int)]
def l3(n:Int)(ds:List bf)(rows:List ST)(i j:Nat)(kvs:List (List Key×V)):Prop:=↑kvs<=6*i+j/\∀(a b:Nat) (r s:ST),rows[a]?\r->rows[b]?\s->a≠b->a<i\/(a=i/\b<j)->∃v,dz kvs (stK a b)\(.int v)/\pj (iR n ds r.mem s.mem) v
section
variable(P:Program)(w:World)
def fJ(t:bS)(H:av)(a c:Addr)(n:Int)(ds:List bf)(rows:List ST):Prop:=∃aA le mo cG so aS ch ms kvs,H a\(.ins t.fR aA (l5 c ↑rows le mo cG so aS ch))/\ad t H c n ds/\H le\(.lst (rows.map λr=>V.int r.lo))/\H mo\(.lst (rows.map λr=>V.int r.ah))/\mV H cG ms (rows.map (·.mem))/\H so\(.lst (a3 (rows.map (c0 ds))))/\H aS\(.b2 (ha (rows.map (·.mem))))/\jd P w H ch kvs/\l3 n ds rows ↑rows 0 kvs
def Su(t:bS):bO:=λvs H Q _=>∃a aA c n ds p qs ms rows,vs=[⇑a,⇑c,⇑p]/\H a\(.ins t.fR aA [])/\ad t H c n ds/\0<n/\yI ds/\jg H p qs ms rows/\rp ds rows/\(∀r∈rows,r.mem≠[])/\aL H /\
 ∀I,df a H I->aL I->fJ P w t I a c n ds rows->Q .cf I
end
def ank(h:stK a b=stK i j):a=i/\b=j:=by
 unfold stK at h;simp at h;omega
def l3.nil(n:Int)(ds:List bf)(rows:List ST):l3 n ds rows 0 0 []:=(eW _,λa b r s _ _ _ h=>())
def l3.skip{rows:List ST}(h:l3 n ds rows i i kvs):l3 n ds rows i (i+1) kvs:=(by have:=h.1;omega,λa b r s ao ay i_ aB=>h.2 a b r s ao ay i_ ())
def l3.next{rows:List ST}(aK:↑rows<=6)(h:l3 n ds rows i ↑rows kvs):l3 n ds rows (i+1) 0 kvs:=(by have:=h.1;omega,λa b r s ao ay i_ aB=>h.2 a b r s ao ay i_ (by
 have:=(b0.mp ay).1
 omega))
def abf(kvs:List (List Key×V))(k:List Key)(v:V):↑(eK kvs k v)<=↑kvs+1:=by
 unfold eK;split
 .rw [aX];omega
 .rw [cB];exact bQ _
def l3.put {rows:List ST} (h:l3 n ds rows i j kvs) (ao:rows[i]?\r) (ay:rows[j]?\s) (aE:pj (iR n ds r.mem s.mem) v):l3 n ds rows i (j+1) (eK kvs (stK i j) (.int v)):=by
 refine(by have:=h.1;have:=abf kvs (stK i j) (.int v);omega,λa b d5 aj dO g6 i_ aB=>?_);rw[Tg];by_cases c:stK a b=stK i j
 .rw [if_pos c];let(rfl,rfl):=ank c;rw[ao]at dO;rw[ay]at g6;cases dO;cases g6;exact(v,rfl,aE)
 .rw [if_neg c];exact h.2 a b d5 aj dO g6 i_ (by
   rcases aB with z|⟨gA,eu⟩
   .exact .inl z
   .by_cases z:b=j
    .exact absurd (by rw[gA,z]) c
    .exact .inr (gA,()))
def jg.xg{a p C aA:Addr}{rows:List ST}(h:jg H p qs ms rows)(s:df a H I)(aO:H a\(.ins C aA [])):jg I p qs ms rows:=by
 refine(s _ _ (cC h.at_ aO (by intro z;cases z)) h.at_,h.cy,h.de,λi q m r x y z=>?_);let(aq,aD):=h.al i q m r x y z;exact(s _ _ (cC aq aO (by intro z;cases z)) aq,s _ _ (cC aD aO (by intro z;cases z)) aD)
def L3{H:av}{p b C D aA iS:Addr}{x:Str×V}{a5:List (Str×V)}(ar:H p\(.ins C aA []))(aa:H b\(.ins D iS (x::a5))):b≠p:=λz=>by
 subst z;rw[ar]at aa;cases aa
def aml{t:bS}{H I:av}{p a C aA:Addr}{d:bf}(ar:H p\(.ins C aA []))(kM:df p H I)(h:fh t H a d):fh t I a d:=by
 let(ae,iS,e):=h;exact(ae,iS,kM _ _ (L3 ar e) e)
def Nn{t:bS}{H I:av}{p c C aA:Addr}{n:Int}{ds:List bf}(ar:H p\(.ins C aA []))(kM:df p H I)(h:ad t H c n ds):ad t I c n ds:=by
 let(h0,iS,wl,aG,aq,(as,dN,eH,ij),bV):=h;exact(h0,iS,wl,aG,kM _ _ (L3 ar aq) aq,(as,kM _ _ (cC dN ar (by intro z;cases z)) dN,eH,λi a d ae ak=>aml ar kM (ij i a d ae ak)),kM _ _ (cC bV ar (by intro z;cases z)) bV)
theorem mV.upd{b p:Addr}(h:mV H p ms dI)(aa:H b\u)(bR:∀xs,u≠.lst xs):mV (upd H b o) p ms dI:=by
 refine(by rw[aP (cC h.at_ aa (λz=>bR _ z.symm))];exact h.at_,h.ln,λi m x a c=>?_);have e:=h.al i m x a c;rw[aP (cC e aa (λz=>bR _ z.symm))];exact e
section
variable{w:World}{K:bk}{mg:Str->Option Value}{t:bS}{H:av}{a c aA le mo cG so aS ch:Addr}{k:Nat}
def qt(T:Txt w K mg t)(e:H a\(.ins t.fR aA (l5 c k le mo cG so aS ch))):gr K H a (af "many") (.int k):=(_,aA,_,e,T.kS,T.O2,g4 qN 1 (r5 ..) ∅ rfl)
def BI(T:Txt w K mg t)(e:H a\(.ins t.fR aA (l5 c k le mo cG so aS ch))):gr K H a (af "members") ⇑cG:=(_,aA,_,e,T.kS,T.I1,g4 qN 4 (r5 ..) ∅ rfl)
def YO(T:Txt w K mg t)(e:H a\(.ins t.fR aA (l5 c k le mo cG so aS ch))):gr K H a (af "changes") ⇑ch:=(_,aA,_,e,T.kS,T.Rx,g4 qN 7 (r5 ..) ∅ rfl)
end
theorem AT:cq P base T 5 t.zI t.AI C_ (Su P w t):=by
 refine cA (Tn T) λE1=>cA (MK T) λzt=>cA (ai3 T) λapm=>?_;exists T.Yz.ok Ob,9
 let(a,aA,c,n,ds,p,qs,ms,rows,rfl,aO,C,a8,bX,R,J,ck,bC,q):=h;have bR:=i' ao;have hn:=C.1.1;have jQ:↑(qs.map V.ref)=↑rows:=by rw[aX,R.cy]
 have rN:↑(qs.map V.ref)<=sizeLine:=by rw[jQ];exact cM J.ln ∅
 refine(_,(db (fC (U 0) (U 1) rfl)
   (db (fC (U 0) (fx iV rfl T.iE iw (ai (U 2) aC)) rfl)
   (db (fC (U 0) (hR rfl (e6 (U 2)) (f_ (sc:=bx (fI (top 29) 0)) rfl ∅) (N:=jC) (sel:=[none,none,none]) (f7 (M:=yS) ∅) (fa.of (λ_ _ _ _=>(kC (K:=K) (n:=3) rfl rfl (ac (b8 (i:=0) (ec (N:=jC) ∅ rfl)) (ac (b8 (i:=1) (ec (N:=jC) ∅ rfl)) (ac (b8 (i:=2) (ec (N:=jC) ∅ rfl)) kx))))) (λ_ _ _ _=>(_,hT,by walk_at "B")) (λ_ _ _ _=>(_,(U 0),by walk_at "B")))) rfl)
   (db (fC (U 0) (hR rfl (e6 (U 2)) (f_ (sc:=bx (fI (top 29) 0)) rfl ∅) (N:=jC) (sel:=[none,none,none]) (f7 (M:=yS) ∅) (fa.of (λ_ _ _ _=>(kC (K:=K) (n:=3) rfl rfl (ac (b8 (i:=0) (ec (N:=jC) ∅ rfl)) (ac (b8 (i:=1) (ec (N:=jC) ∅ rfl)) (ac (b8 (i:=2) (ec (N:=jC) ∅ rfl)) kx))))) (λ_ _ _ _=>(_,hT,by walk_at "B")) (λ_ _ _ _=>(_,(U 1),by walk_at "B")))) rfl)
   (db (fC (U 0) (hR rfl (e6 (U 2)) (f_ (sc:=bx (fI (top 29) 0)) rfl ∅) (N:=jC) (sel:=[none,none,none]) (f7 (M:=yS) ∅) (fa.of (λ_ _ _ _=>(kC (K:=K) (n:=3) rfl rfl (ac (b8 (i:=0) (ec (N:=jC) ∅ rfl)) (ac (b8 (i:=1) (ec (N:=jC) ∅ rfl)) (ac (b8 (i:=2) (ec (N:=jC) ∅ rfl)) kx))))) (λ_ _ _ _=>(_,hT,by walk_at "B")) (λ_ _ _ _=>(_,(U 2),by walk_at "B")))) rfl)
   (db (fC (U 0) (hR rfl (e6 (U 2)) (f_ (sc:=bx (fI (top 29) 0)) rfl ∅) (N:=Dc) (sel:=[none,none,none,some 1]) (f7 (M:=yS) ∅) (fa.of (λ_ _ _ _=>(kC (K:=K) (n:=3) rfl rfl (ac (b8 (i:=0) (ec (N:=Dc) ∅ rfl)) (ac (b8 (i:=1) (ec (N:=Dc) ∅ rfl)) (ac (b8 (i:=2) (ec (N:=Dc) ∅ rfl)) kx))))) (λ_ _ _ _=>(_,hT,by walk_at "B")) (λ_ _ _ _=>(_,(b3 E1 ao T.Mt T.x6.bo T.JA (ai (U 3) (ai (bZ c8 (U 2) aT) aC))),by walk_at "B")))) rfl)
   (db (fC (U 0) (b3 zt ao T.Mn T.zB.bo T.F4 (ai (bB (U 0) rfl) aC)) rfl)
   (db (fC (U 0) Zb rfl)
   (a4 (fP fV rfl (l0 rfl T.k8 (ai (bB (U 0) rfl) aC)) (b8 (i:=3) Ob.aG) (a4 (fP fV rfl (l0 rfl T.k8 (ai (bB (U 0) rfl) aC)) (b8 (i:=4) Ob.aG) (a4 (d4 (dh og (U 3) (U 4) (cL _)) (a4 (ajM bR (bB (U 0) rfl) (rK (ai (U 3) (ai (U 4) aC))) (b3 apm ao T.ZS T.He.bo T.ad' (ai (U 1) (ai (bZ c8 (bB (U 0) rfl) (U 3)) (ai (bZ c8 (bB (U 0) rfl) (U 4)) aC)))) rfl)) en)))))))))))))),?_)
 exists (λau I=>df a H I/\aL I/\I a\(.ins t.fR aA [(p'p (af "crossing") (V.ref c))])/\au=[~~~a,~~~c,~~~p,none,none]),5
 .nofun;exact(_,_,_,aO,T.kS,T.QW,∅,dp _ _ (λb u aa e=>by rw[aP aa];exact e,bC.upd,aR,rfl))
 intro fG H1 (dt,cP,a1,rfl);have k3:=R.xg dt aO;subst aV;exists (λau I=>df a H I/\aL I/\I a\(.ins t.fR aA [(p'p (af "crossing") (V.ref c)),(p'p (af "many") (V.int (↑rows:Int)))])/\au=[~~~a,~~~c,~~~p,none,none]),5
 .nofun;refine(_,.inl (az.of k3.at_),_,_,_,a1,T.kS,T.O2,((∅:(1:Nat)<1000)),?_);rw[jQ,show dn (af "many") (V.int (↑rows:Int)) [(p'p (af "crossing") (V.ref c))]=[(p'p (af "crossing") (V.ref c)),(p'p (af "many") (V.int (↑rows:Int)))]from gZ [af "crossing"] rfl ∅];exact dp _ _ (λb u aa e=>by rw[aP aa];exact dt _ _ aa e,cP.upd,aR,rfl)
 intro cD aw (gR,cW,a2,rfl);have fl:=R.xg gR aO;subst aV;exists (λau I=>df a H I/\aL I/\∃le,I a\(.ins t.fR aA [(p'p (af "crossing") (V.ref c)),(p'p (af "many") (V.int (↑rows:Int))),(p'p (af "leasts") (V.ref le))])/\I le\(.lst (rows.map λr=>V.int r.lo))/\au=[~~~a,~~~c,~~~p,none,none]),5
 .nofun;refine((_,az.of fl.at_),?_);refine cY.mD (xs:=qs.map V.ref) (zs:=rows.map λr=>V.int r.lo) (az.of fl.at_) rN (by rw[jQ,aX]) (λj v z N aE aQ bl=>?_) (λpl c2=>?_)
  .obtain⟨k_,eN,rfl⟩:=b_ aE;have aJ:j<↑rows:=by rw[<- R.cy];exact(b0.mp eN).1
   have l1:ms[j]?\(ms[j]'(by rw[R.de];exact aJ)):=a6 _;have d6:rows[j]?\rows[j]:=a6 aJ;let(e,em):=fl.al j k_ _ _ eN l1 d6;let(r,dO,rfl):=b_ aQ;rw[d6]at dO;cases dO;nofun;exact(_,dM.of e,rfl,_,_,rfl,_,_,rfl,_,_,rfl,rfl,Sub.wa,bl)
  .have ru:pl≠a:=λz=>by rw[z,a2]at c2;cases c2
   refine(_,_,_,(bh c2) _ _ a2,T.kS,T.Yw,((∅:(2:Nat)<1000)),?_);rw[show dn (af "leasts") (V.ref pl) [(p'p (af "crossing") (V.ref c)),(p'p (af "many") (V.int (↑rows:Int)))]=[(p'p (af "crossing") (V.ref c)),(p'p (af "many") (V.int (↑rows:Int))),(p'p (af "leasts") (V.ref pl))]from gZ [af "crossing",af "many"] rfl ∅];exact dp _ _ (λb u aa e=>by rw[aP aa];exact(bh c2) _ _ (gR _ _ aa e),(cW.upd).upd,pl,aR,by rw[aP ru];exact aR,rfl)
 intro gi ba (hN,dw,le,dH,eV,rfl);have hle:le≠a:=cC eV dH (by intro z;cases z);have nG:=R.xg hN aO;subst aV;exists (λau I=>df a H I/\aL I/\∃mo,I a\(.ins t.fR aA [(p'p (af "crossing") (V.ref c)),(p'p (af "many") (V.int (↑rows:Int))),(p'p (af "leasts") (V.ref le)),(p'p (af "mosts") (V.ref mo))])/\I le\(.lst (rows.map λr=>V.int r.lo))/\I mo\(.lst (rows.map λr=>V.int r.ah))/\au=[~~~a,~~~c,~~~p,none,none]),5
 .nofun;refine((_,az.of nG.at_),?_);refine cY.mD (xs:=qs.map V.ref) (zs:=rows.map λr=>V.int r.ah) (az.of nG.at_) rN (by rw[jQ,aX]) (λj v z N aE aQ bl=>?_) (λpl c2=>?_)
  .obtain⟨k_,eN,rfl⟩:=b_ aE;have aJ:j<↑rows:=by rw[<- R.cy];exact(b0.mp eN).1
   have l1:ms[j]?\(ms[j]'(by rw[R.de];exact aJ)):=a6 _;have d6:rows[j]?\rows[j]:=a6 aJ;let(e,em):=nG.al j k_ _ _ eN l1 d6;let(r,dO,rfl):=b_ aQ;rw[d6]at dO;cases dO;nofun;exact(_,dM.of e,rfl,_,_,rfl,_,_,rfl,_,_,rfl,rfl,Sub.wa,bl)
  .have ru:pl≠a:=λz=>by rw[z,dH]at c2;cases c2
   refine(_,_,_,(bh c2) _ _ dH,T.kS,T.Ut,((∅:(3:Nat)<1000)),?_);rw[show dn (af "mosts") (V.ref pl) [(p'p (af "crossing") (V.ref c)),(p'p (af "many") (V.int (↑rows:Int))),(p'p (af "leasts") (V.ref le))]=[(p'p (af "crossing") (V.ref c)),(p'p (af "many") (V.int (↑rows:Int))),(p'p (af "leasts") (V.ref le)),(p'p (af "mosts") (V.ref pl))]from gZ [af "crossing",af "many",af "leasts"] rfl ∅];exact dp _ _ (λb u aa e=>by rw[aP aa];exact(bh c2) _ _ (hN _ _ aa e),(dw.upd).upd,pl,aR,by rw[aP hle];exact(bh c2) _ _ eV,by rw[aP ru];exact aR,rfl)
 intro kE cn (dD,di,mo,iF,f4,jL,rfl);have tr:mo≠a:=cC jL iF (by intro z;cases z);have n7:=R.xg dD aO;subst aV;exists (λau I=>df a H I/\aL I/\∃cG,I a\(.ins t.fR aA [(p'p (af "crossing") (V.ref c)),(p'p (af "many") (V.int (↑rows:Int))),(p'p (af "leasts") (V.ref le)),(p'p (af "mosts") (V.ref mo)),(p'p (af "members") (V.ref cG))])/\I le\(.lst (rows.map λr=>V.int r.lo))/\I mo\(.lst (rows.map λr=>V.int r.ah))/\I cG\(.lst (ms.map V.ref))/\au=[~~~a,~~~c,~~~p,none,none]),5
 .nofun;refine((_,az.of n7.at_),?_);refine cY.mD (xs:=qs.map V.ref) (zs:=ms.map V.ref) (az.of n7.at_) rN (by rw[jQ,aX,R.de]) (λj v z N aE aQ bl=>?_) (λpl c2=>?_)
  .obtain⟨k_,eN,rfl⟩:=b_ aE;have aJ:j<↑rows:=by rw[<- R.cy];exact(b0.mp eN).1
   have l1:ms[j]?\(ms[j]'(by rw[R.de];exact aJ)):=a6 _;have d6:rows[j]?\rows[j]:=a6 aJ;let(e,em):=n7.al j k_ _ _ eN l1 d6;let(dU,nu,rfl):=b_ aQ;rw[l1]at nu;cases nu;nofun;exact(_,dM.of e,rfl,_,_,rfl,_,_,rfl,_,_,rfl,rfl,Sub.wa,bl)
  .have ru:pl≠a:=λz=>by rw[z,iF]at c2;cases c2
   refine(_,_,_,(bh c2) _ _ iF,T.kS,T.I1,((∅:(4:Nat)<1000)),?_);rw[show dn (af "members") (V.ref pl) [(p'p (af "crossing") (V.ref c)),(p'p (af "many") (V.int (↑rows:Int))),(p'p (af "leasts") (V.ref le)),(p'p (af "mosts") (V.ref mo))]=[(p'p (af "crossing") (V.ref c)),(p'p (af "many") (V.int (↑rows:Int))),(p'p (af "leasts") (V.ref le)),(p'p (af "mosts") (V.ref mo)),(p'p (af "members") (V.ref pl))]from gZ [af "crossing",af "many",af "leasts",af "mosts"] rfl ∅];exact dp _ _ (λb u aa e=>by rw[aP aa];exact(bh c2) _ _ (dD _ _ aa e),(di.upd).upd,pl,aR,by rw[aP hle];exact(bh c2) _ _ f4,by rw[aP tr];exact(bh c2) _ _ jL,by rw[aP ru];exact aR,rfl)
 intro qP cR (el,eM,cG,lK,fq,CH,dS,rfl);have sF:cG≠a:=cC dS lK (by intro z;cases z);have I8:=Nn aO el C;have r8:=R.xg el aO;subst aV;exists (λau I=>df a H I/\aL I/\∃so,I a\(.ins t.fR aA [(p'p (af "crossing") (V.ref c)),(p'p (af "many") (V.int (↑rows:Int))),(p'p (af "leasts") (V.ref le)),(p'p (af "mosts") (V.ref mo)),(p'p (af "members") (V.ref cG)),(p'p (af "sorts") (V.ref so))])/\I le\(.lst (rows.map λr=>V.int r.lo))/\I mo\(.lst (rows.map λr=>V.int r.ah))/\I cG\(.lst (ms.map V.ref))/\I so\(.lst (a3 (rows.map (c0 ds))))/\au=[~~~a,~~~c,~~~p,none,none]),5
 .nofun;refine((_,az.of r8.at_),?_);refine cY.mD (xs:=qs.map V.ref) (zs:=a3 (rows.map (c0 ds))) (az.of r8.at_) rN (by rw[jQ,fE,aX]) (λj v z N aE aQ bl=>?_) (λpl c2=>?_)
  .obtain⟨k_,eN,rfl⟩:=b_ aE;have aJ:j<↑rows:=by rw[<- R.cy];exact(b0.mp eN).1
   have l1:ms[j]?\(ms[j]'(by rw[R.de];exact aJ)):=a6 _;have d6:rows[j]?\rows[j]:=a6 aJ;let(e,em):=r8.al j k_ _ _ eN l1 d6;unfold a3 at aQ;let(y,aM,rfl):=b_ aQ;let(r,dO,rfl):=b_ aM;rw[d6]at dO;cases dO;let(nm,arH,j8):=qe (ck _ (bU d6));let(d,hd,R1):=J.z5 _ (bU d6) nm (by rw[j8];exact oi ..);let(i,ah):=hy hd;have aol:c0 ds rows[j]=iY d:=by
    unfold c0;rw[j8];show((ie ds nm).map iY).getD _=_;rw[<- R1,m5 hn ah];rfl
   rw[aol]at bl;rw[j8]at em;nofun;exact(_,dM.of e,rfl,_,_,rfl,_,_,rfl,_,_,rfl,rfl,Sub.wa,_,rfl,_,az.of em,_,cv (j:=0) rfl,c,n,ds,i,d,by rw[R1],I8,ah,(bX d hd).2.1,bl)
  .have ru:pl≠a:=λz=>by rw[z,lK]at c2;cases c2
   refine(_,_,_,(bh c2) _ _ lK,T.kS,T.Do,((∅:(5:Nat)<1000)),?_);rw[show dn (af "sorts") (V.ref pl) [(p'p (af "crossing") (V.ref c)),(p'p (af "many") (V.int (↑rows:Int))),(p'p (af "leasts") (V.ref le)),(p'p (af "mosts") (V.ref mo)),(p'p (af "members") (V.ref cG))]=[(p'p (af "crossing") (V.ref c)),(p'p (af "many") (V.int (↑rows:Int))),(p'p (af "leasts") (V.ref le)),(p'p (af "mosts") (V.ref mo)),(p'p (af "members") (V.ref cG)),(p'p (af "sorts") (V.ref pl))]from gZ [af "crossing",af "many",af "leasts",af "mosts",af "members"] rfl ∅];exact dp _ _ (λb u aa e=>by rw[aP aa];exact(bh c2) _ _ (el _ _ aa e),(eM.upd).upd,pl,aR,by rw[aP hle];exact(bh c2) _ _ fq,by rw[aP tr];exact(bh c2) _ _ CH,by rw[aP sF];exact(bh c2) _ _ dS,by rw[aP ru];exact aR,rfl)
 intro nt f3 (cF,mM,so,tj,oF,OY,je,xH,rfl);have pI:so≠a:=cC xH tj (by intro z;cases z);have Dj:=R.xg cF aO;have QV:mV f3 cG ms (rows.map (·.mem)):=(je,by rw[R.de,aX],λi m x hm ag=>by
  let(r,dO,rfl):=b_ ag;have hA:qs[i]?\(qs[i]'(by rw[R.cy];exact(b0.mp dO).1)):=a6 _;exact(Dj.al i _ m r hA hm dO).2)
 subst aV;exists (λau I=>df a H I/\aL I/\∃aS,I a\(.ins t.fR aA [(p'p (af "crossing") (V.ref c)),(p'p (af "many") (V.int (↑rows:Int))),(p'p (af "leasts") (V.ref le)),(p'p (af "mosts") (V.ref mo)),(p'p (af "members") (V.ref cG)),(p'p (af "sorts") (V.ref so)),(p'p (af "homes") (V.ref aS))])/\I le\(.lst (rows.map λr=>V.int r.lo))/\I mo\(.lst (rows.map λr=>V.int r.ah))/\mV I cG ms (rows.map (·.mem))/\I so\(.lst (a3 (rows.map (c0 ds))))/\I aS\(.b2 (ha (rows.map (·.mem))))/\au=[~~~a,~~~c,~~~p,none,none]),5
 .nofun;refine⟨_,(_,aA,_,tj,T.kS,T.I1,g4 [af "crossing",af "many",af "leasts",af "mosts",af "members",af "sorts"] 4 rfl ∅ rfl),cG,ms,rows.map (·.mem),rfl,QV,by rw[aX];exact J.ln,λx ag=>?_,λh H1 s1 aaH bT ae=>?_⟩
  .let(r,dO,rfl):=cj.mp ag;exact J.gY r dO
  .have FW:h≠a:=cC ae (s1 _ _ tj) (by intro z;cases z);refine(_,_,_,s1 _ _ tj,T.kS,T.Pu,((∅:(6:Nat)<1000)),?_);rw[show dn (af "homes") (V.ref h) [(p'p (af "crossing") (V.ref c)),(p'p (af "many") (V.int (↑rows:Int))),(p'p (af "leasts") (V.ref le)),(p'p (af "mosts") (V.ref mo)),(p'p (af "members") (V.ref cG)),(p'p (af "sorts") (V.ref so))]=[(p'p (af "crossing") (V.ref c)),(p'p (af "many") (V.int (↑rows:Int))),(p'p (af "leasts") (V.ref le)),(p'p (af "mosts") (V.ref mo)),(p'p (af "members") (V.ref cG)),(p'p (af "sorts") (V.ref so)),(p'p (af "homes") (V.ref h))]from gZ [af "crossing",af "many",af "leasts",af "mosts",af "members",af "sorts"] rfl ∅];exact dp _ _ (λb u aa e=>by rw[aP aa];exact s1 _ _ (cF _ _ aa e),(aaH mM).upd,h,aR,by rw[aP hle];exact s1 _ _ oF,by rw[aP tr];exact s1 _ _ OY,(QV.same s1).upd (s1 _ _ tj) (by intro xs z;cases z),by rw[aP pI];exact s1 _ _ xH,by rw[aP FW];exact ae,rfl)
 intro kP e7 (c5,hW,aS,qQ,mX,r0,A8,Sy,Na,rfl);subst aV;exists (λau I=>df a H I/\aL I/\∃ch,H ch=none/\I a\(.ins t.fR aA (l5 c ↑rows le mo cG so aS ch))/\I le\(.lst (rows.map λr=>V.int r.lo))/\I mo\(.lst (rows.map λr=>V.int r.ah))/\mV I cG ms (rows.map (·.mem))/\I so\(.lst (a3 (rows.map (c0 ds))))/\I aS\(.b2 (ha (rows.map (·.mem))))/\jd P w I ch []/\(ch≠a/\ch≠le/\ch≠mo/\ch≠cG/\ch≠so/\ch≠aS/\ch∉ms)/\au=[~~~a,~~~c,~~~p,none,none]),5
 .nofun;intro ch o gV al_;have yh:ch≠a:=λz=>by rw[z,qQ]at gV;cases gV
  have amO:H ch=none:=by
   cases e:H ch with
   |none=>rfl
   |some u=>rw[c5 _ _ yh e]at gV;cases gV
  have vH:∀{b:Addr} {u:gb},e7 b\u->ch≠b:=λe z=>by rw[<- z,gV]at e;cases e
  have afC:ch∉ms:=λz=>by
   let(i,ah):=hy z;have iM:i<↑(rows.map (·.mem)):=by rw[<- A8.ln];exact(b0.mp ah).1
   exact vH (A8.al i ch _ ah (a6 iM)) rfl
  have jc:aN e7 (upd e7 ch (.ext (pH ch o))):=bh gV;refine(_,_,_,jc _ _ qQ,T.kS,T.Rx,((∅:(7:Nat)<1000)),?_);rw[show dn (af "changes") (V.ref ch) [(p'p (af "crossing") (V.ref c)),(p'p (af "many") (V.int (↑rows:Int))),(p'p (af "leasts") (V.ref le)),(p'p (af "mosts") (V.ref mo)),(p'p (af "members") (V.ref cG)),(p'p (af "sorts") (V.ref so)),(p'p (af "homes") (V.ref aS))]=l5 c ↑rows le mo cG so aS ch from gZ [af "crossing",af "many",af "leasts",af "mosts",af "members",af "sorts",af "homes"] rfl ∅];have FW:aS≠a:=cC Na qQ (by intro z;cases z);exact dp _ _ (λb u aa e=>by rw[aP aa];exact jc _ _ (c5 _ _ aa e),(hW.upd).upd,ch,amO,aR,by rw[aP hle];exact jc _ _ mX,by rw[aP tr];exact jc _ _ r0,(A8.same jc).upd (jc _ _ qQ) (by intro xs z;cases z),by rw[aP pI];exact jc _ _ Sy,by rw[aP FW];exact jc _ _ Na,alD al_ (et yh) (λxs z=>by rw[jc _ _ qQ]at z;cases z),(yh,vH mX,vH r0,vH A8.at_,vH Sy,vH Na,afC),rfl)
 intro sO iq (dQ,oH,ch,gV,rX,f8,r',ahK,acK,M7,ale,vM,rfl);subst aV;nofun;have hD:=J.ln;refine(_,qt T rX,_,rfl,(),(),?_);rw[mN];refine ed.range (λi σ I=>(∃x y,σ=[~~~a,~~~c,~~~p,x,y])/\df a H I/\aL I/\I a\(.ins t.fR aA (l5 c ↑rows le mo cG so aS ch))/\I le\(.lst (rows.map λr=>V.int r.lo))/\I mo\(.lst (rows.map λr=>V.int r.ah))/\mV I cG ms (rows.map (·.mem))/\I so\(.lst (a3 (rows.map (c0 ds))))/\I aS\(.b2 (ha (rows.map (·.mem))))/\∃kvs,jd P w I ch kvs/\l3 n ds rows i 0 kvs) ((_,_,rfl),dQ,oH,rX,f8,r',ahK,acK,M7,[],ale,l3.nil n ds rows) ?_ ?_
 .rintro i σ I ah bj;ac_rfl
  let((x,y,rfl),mI,tM,B3,HX,KD,Ad,N',NX,kvs,Mh,Iq):=bj;have il:rows[i]?\rows[i]:=a6 ah;have sL:ms[i]?\(ms[i]'(by rw[R.de];exact ah)):=a6 _;subst aV;nofun;refine(_,qt T B3,_,rfl,(),(),?_);rw[mN];refine ed.range (λj σ aw=>(∃y,σ=[~~~a,~~~c,~~~p,some (.int (i:Int)),y])/\df a H aw/\aL aw/\aw a\(.ins t.fR aA (l5 c ↑rows le mo cG so aS ch))/\aw le\(.lst (rows.map λr=>V.int r.lo))/\aw mo\(.lst (rows.map λr=>V.int r.ah))/\mV aw cG ms (rows.map (·.mem))/\aw so\(.lst (a3 (rows.map (c0 ds))))/\aw aS\(.b2 (ha (rows.map (·.mem))))/\∃kvs,jd P w aw ch kvs/\l3 n ds rows i j kvs) ((_,rfl),mI,tM,B3,HX,KD,Ad,N',NX,kvs,Mh,Iq) ?_ ?_
  .rintro j σ aw aJ bj;ac_rfl
   let((y,rfl),iB,uJ,uQ,wG,CT,qg,qY,DY,kvs,BV,z9):=bj;have d6:rows[j]?\rows[j]:=a6 aJ;have l1:ms[j]?\(ms[j]'(by rw[R.de];exact aJ)):=a6 _;have afG:=qg.al i _ _ sL (by rw[dg,il];rfl);have aj4:=qg.al j _ _ l1 (by rw[dg,d6];rfl);have tA:=cv (xs:=ms.map V.ref) (j:=i) (by rw[dg,sL];rfl);have MC:=cv (xs:=ms.map V.ref) (j:=j) (by rw[dg,l1];rfl);subst aV;simp only[gU,jV,jH,rH];by_cases lq:i=j
   .refine du false (λQ aY=>?_) (λz=>nomatch z) (λ_=>?_)
    .nofun;rw[decide_eq_true ()];exact aY
    .simp only[gy];subst lq;exact((_,rfl),iB,uJ,uQ,wG,CT,qg,qY,DY,kvs,BV,z9.skip)
   .refine du true (λQ aY=>?_) (λ_=>?_) (λz=>nomatch z)
    .nofun;rw[decide_eq_false ()];exact aY
    .nofun;let(yh,afA,acg,agW,aoi,ag5,amU):=vM;refine(_,BI T uQ,_,rfl,_,az.of qg.at_,_,tA,_,BI T uQ,_,rfl,_,az.of qg.at_,_,MC,c,n,ds,_,_,_,_,rfl,Nn aO iB C,a8,bX,afG,aj4,J.z5 _ (bU il),J.z5 _ (bU d6),J.gY _ (bU il),J.gY _ (bU d6),uJ,λv aE=>?_);refine(_,YO T uQ,∅,λki qc=>(ch,rfl,kvs,M5 BV (bh qc),stK i j,(show upd aw ki (.tup [V.int (i:Int),V.int (j:Int)]) ki\(gb.tup [V.int (i:Int),V.int (j:Int)])from aR),hO (show ↑kvs<=100 by have:=z9.1;omega) ∅,λo N5=>?_));have oo:aN aw (upd aw ki (.tup [V.int (i:Int),V.int (j:Int)])):=bh qc;refine((_,rfl),λb u aa e=>by rw[aP (dm e gV)];exact oo _ _ (iB _ _ aa e),(uJ.upd).upd,by rw[aP (et yh)];exact oo _ _ uQ,by rw[aP (et afA)];exact oo _ _ wG,by rw[aP (et acg)];exact oo _ _ CT,(by rw[aP (et agW)];exact oo _ _ qg.at_,qg.ln,λk m x hm ag=>by rw[aP (λz=>amU (by rw[<- z];exact bU hm))];exact oo _ _ (qg.al k m x hm ag)),by rw[aP (et aoi)];exact oo _ _ qY,by rw[aP (et ag5)];exact oo _ _ DY,_,N5,z9.put il d6 aE)
  .rintro σ aw bj;ac_rfl
   let((y,rfl),iB,uJ,uQ,wG,CT,qg,qY,DY,kvs,BV,z9):=bj;subst aV;exact((_,_,rfl),iB,uJ,uQ,wG,CT,qg,qY,DY,kvs,BV,z9.next hD)
 .rintro σ I bj;ac_rfl
  let((x,y,rfl),mI,tM,B3,HX,KD,Ad,N',NX,kvs,Mh,Iq):=bj;subst aV;exact q _ mI tM (aA,le,mo,cG,so,aS,ch,ms,kvs,B3,Nn aO mI C,HX,KD,Ad,N',NX,Mh,Iq)
noncomputable def uf(ds:List bf):List (List Str)->Nat->List ST->Except (Nat×Nat) (List ST)
 |[],_,rows=>.ok rows
 |ws::r,i,rows=>if ↑rows=6 then .error (p'p i 0)else match qH ds rows ws with
  | .error k=>.error (p'p i k)
  | .ok s=>uf ds r (i+1) (rows++[s])
def ajr(P:Program)(w:World)(t:bS):bO:=λvs H Q _=>∃c n ds x rows,vs=[⇑c,.str x]/\ad t H c n ds/\0<n/\yI ds/\(∀d∈ds,d.name≠af "")/\↑x<=20000/\↑(h7 x)<=100/\(∀r∈h7 x,r≠[]/\↑r<=1000/\∀y∈r,↑y<=1000)/\aL H /\
 uf ds (h7 x) 0 []=.ok rows/\hU ds rows=[]/\u' ds rows=none/\v5 n ds rows=none/\∀a I,aN H I->aL I->fJ P w t I a c n ds rows->Q ⇑a I
def ad9{left ws ms:List Str}(h:ng ds left ws=.ok ms):ms≠[]/\ms.Nodup/\∀x∈ms,x∈left:=by
 unfold ng at h;split at h
 .rename_i g_;let(ae,(more,ak),aZ):=Ra h (by simp);refine(by rw[ak];simp,ae,λx ag=>?_);rcases aZ x ag with z|z
  .rw [d9.mp z];exact g_
  .exact (j1.mp z).1
 .cases h
theorem UW{rows:List ST}(h:qH ds rows ws=.ok s):s.mem≠[]/\s.mem.Nodup/\∀x∈s.mem,x∈hU ds rows:=by
 unfold qH at h;split at h
 .cases aq:lF (aF ws 1) 1 60 with
  |none=>rw[aq]at h;cases h
  | some lo=>
   rw[aq]at h;replace h:((lF (aF ws 2) lo 60).elim (.error 2) λah=>match ng ds (hU ds rows) ws with|.error k=>.error k|.ok ms=>.ok ((lo,ah,ms):ST))=sU s:=h;cases aD:lF (aF ws 2) lo 60 with
   |none=>rw[aD]at h;cases h
   | some ah=>
    rw[aD]at h;replace h:(match ng ds (hU ds rows) ws with|.error k=>.error k|.ok ms=>.ok ((lo,ah,ms):ST))=sU s:=h;cases bV:ng ds (hU ds rows) ws with
    |error k=>rw[bV]at h;cases h
    |ok ms=>
     rw[bV]at h;replace h:sU ((lo,ah,ms):ST)=sU (ε:=Nat) s:=h;cases h;exact ad9 bV
 .cases h
def rp.snoc{rows:List ST}(J:rp ds rows)(aK:↑ds<=12)(je:↑rows≠6)(h:qH ds rows ws=.ok s):rp ds (rows++[s])/\↑s.mem<=12:=by
 let(ae,ak,aZ):=UW h;have xc:↑s.mem<=12:=by
  have:=R7 ak aZ;have bY:↑(hU ds rows)<=↑ds:=by
   unfold hU;exact cM (vq ..) (by rw[aX];exact bQ _)
  omega
 refine((?_,λr ao=>?_,λr ao x ag=>?_),xc)
 .have:=J.ln;rw[cB];show ↑rows+1<=6;omega
 .rcases eI.mp ao with z|z
  .exact J.gY r z
  .rw [d9.mp z];exact xc
 .rcases eI.mp ao with z|z
  .exact J.z5 r z x ag
  .rw [d9.mp z]at ag;let(d,hd,e):=cj.mp (j1.mp (aZ x ag)).1;exact(d,hd,e)
theorem WU{xs:List Str}{qs:List Addr}(h:xs≠[]):a3 xs≠qs.map V.ref:=λe=>by
 let(y,r,rfl):=qe h;cases qs with
 |nil=>cases e
 |cons a b=>injection e with aq _;cases aq
def jg.snoc{p x m:Addr}{rows:List ST}(R:jg H p qs ms rows)(ag:H x\(G5 s m))(hm:H m\(.lst (a3 s.mem)))(ck:∀r∈rows,r.mem≠[])(ay:s.mem≠[]):jg (upd H p (.lst (qs.map V.ref++[V.ref x]))) p (qs++[x]) (ms++[m]) (rows++[s]):=by
 have kt:∀{b:Addr} {xs:List V},H b\(.tup xs)->upd H p (.lst (qs.map V.ref++[V.ref x])) b\(.tup xs):=λe=>by rw[aP (cC e R.at_ (by intro z;cases z))];exact e
 have R5:∀{b:Addr} {xs:List Str},H b\(.lst (a3 xs))->xs≠[]->upd H p (.lst (qs.map V.ref++[V.ref x])) b\(.lst (a3 xs)):=λe h=>by
  rw[aP (cC e R.at_ (λz=>by injection z with z;exact WU h z))];exact e
 refine(by rw[aR,e'];rfl,by rw[cB,cB,R.cy];rfl,by rw[cB,cB,R.de];rfl,λi q dU r a b c=>?_);have cy:=R.cy;have de:=R.de;rcases nr c with⟨aW,bJ⟩|⟨aW,rfl⟩
 .rcases nr a with⟨_,a2⟩|⟨a1,_⟩
  .rcases nr b with⟨_,eo⟩|⟨ee,_⟩
   .let(aq,aD):=R.al i q dU r a2 eo bJ;exact(kt aq,R5 aD (ck r (bU bJ)))
   .omega
  .omega
 .rcases nr a with⟨a1,_⟩|⟨_,rfl⟩
  .omega
  .rcases nr b with⟨ee,_⟩|⟨_,rfl⟩
   .omega
   .exact (kt ag,R5 hm ay)
theorem aiZ:cq P base T 7 t.zX t.zr xP (ajr P w t):=by
 have Ho:cE P w K mg base dq 6 t.xv t.yE ["text"] (JT t):=(W_ T).mono ∅;have aoJ:cE P w K mg base dq 6 t.Ap t.Cc DH (Xf t):=Zm T;have amd:cE P w K mg base dq 6 t.EN t.CV lQ (Tc t):=(acu T).mono ∅;have ZW:cE P w K mg base dq 6 t.EH t.B2 lQ (Q3 t):=(xL T).mono ∅;have aon:cE P w K mg base dq 6 t.Be t.Ej lQ (TZ t):=(ah9 T).mono ∅;have al6:cE P w K mg base dq 5 t.zI t.AI C_ (Su P w t):=AT T;exists T.LL.ok N9,9
 let(c,n,ds,x,EY,rfl,C,a8,bX,ck,k',hD,pd,bC,adn,hle,dV,dv,lH):=h;have aaE:∀d∈ds,d.k<3/\d.name≠af "":=λd hd=>((bX d hd).2.1,ck d hd)
 refine(_,(db (b' (i:=2) N9.aG (e5 aC))
   (db (fP fV rfl (e6 (b3 Ho ao T.R9 T.ut.bo T.Xu (ai (U 1) aC))) (b8 (i:=3) N9.aG) (db (d4 (dh e3 (fx iV rfl T.iE iw (ai (U 2) aC)) (ny rfl T.ZK T.an5) (cL _)) (a4 Ch) en)
   (a4 (ea (fo gI lh lD kZ (U 2) (ai (b3 aoJ ao T.alg T.LU.bo T.ain (ai (U 3) (ai (U 0) (ai (U 2) aC)))) aC))))))
   (db (ea (b3 amd ao T.akY T.J5.bo T.alk (ai (U 0) (ai (U 2) aC))))
   (db (ea (b3 ZW ao T.alL T.Gw.bo T.acn (ai (U 0) (ai (U 2) aC))))
   (db (ea (b3 aon ao T.ahy T.Mm.bo T.aiB (ai (U 0) (ai (U 2) aC))))
   (a4 (b7 (uM T.aoY al6 ao rfl T.Z8 T.aa_ .nil c3 (ai (U 0) (ai (U 2) aC)))))))))),?_)
 exists (λau I=>aN H I/\aL I/\∃dZ,H dZ=none/\I dZ\(.lst [])/\au=[~~~c,some (.str x),~~~dZ,none]),5
 .nofun;exact(eW _,λdZ hD=>dp _ _ (bh hD,bC.upd,dZ,hD,aR,rfl))
 intro fG H1 (s1,cP,dZ,EX,dN,rfl);subst aV;simp only[dT];refine sl (λau I=>aN H I/\aL I/\(∃qs ms rows,jg I dZ qs ms rows/\rp ds rows/\(∀r∈rows,r.mem≠[])/\rows=EY)/\∃hN,au=[~~~c,some (.str x),~~~dZ,hN]) (λgQ dp oK _ _=>?_) ?_
 .nofun;refine(x,rfl,k',λr ao=>(pd r ao).2,cP,λp aw xV sH RR=>?_);let(jD,ar,h1,rN,p0):=RR;refine(p,rfl,(_,az.of ar),?_);have Zi:p≠dZ:=λz=>by rw[z,dN]at h1;cases h1
  refine ed.list (xs:=jD.map V.ref) (λi σ I=>(∃y,σ=[~~~c,some (.str x),~~~dZ,y])/\aL I/\aN H I/\I p\(.lst (jD.map V.ref)) /\
   (∃qs ms rows,jg I dZ qs ms rows/\rp ds rows/\(∀r∈rows,r.mem≠[])/\uf ds ((h7 x).drop i) i rows=.ok EY) /\
   ∀(j:Nat) (q:Addr) (r:List Str),i<=j->jD[j]?\q->(h7 x)[j]?\r->dx t I q ((j:Nat):Int) r 0/\H q=none) ?_ ?_ ?_ ?_
  .refine ((_,rfl),sH,s1.trans xV,ar,([],[],[],(xV _ _ dN,rfl,rfl,λi q m r h=>by simp at h),(eW _,λr h=>by simp at h,λr h=>by simp at h),λr h=>by simp at h,adn),λj q r _ ae ak=>?_);let(qd,eN):=p0 j q r ae ak;exact(qd,s1.free eN)
  .rintro i σ I ah bj;ac_rfl
   let(_,_,_,h,_):=bj;subst aV;exact az.of h
  .rintro i v σ I aE bj;ac_rfl
   let((y,rfl),o2,qz,tR,(qs,ms,rows,uY,j6,sF,eL),Rs):=bj;let(q,aI,rfl):=b_ aE;let(ah,_):=b0.mp aI;have m2:i<↑(h7 x):=()
   have ao:(h7 x)[i]?\(h7 x)[i]:=a6 m2;let(oX,jQ):=Rs i q _ (bQ _) aI ao;let(_,AU,aqq,hA,BS):=id oX;subst aV;rw[uL m2]at eL;unfold uf at eL;simp only[gU,dT,jV,jH];refine LA (λau ba=>ba=I/\↑rows≠6/\au=[~~~c,some (.str x),~~~dZ,~~~q]) (λarI N5=>?_) λtu aV=>?_
   .refine du (decide (↑rows=6)) (λQ' aY=>?_) (λaa=>?_) (λaa=>?_)
    .nofun;refine(_,.inl (az.of uY.at_),?_);rw[aX,uY.cy];rw[show decide ((↑rows:Int)=6)=decide (↑rows=6)from decide_eq_decide.mpr ()];exact aY
    .have aa:=of_decide_eq_true aa;rw[if_pos aa]at eL;cases eL
    .simp only[gy];exact N5 _ _ (rfl,of_decide_eq_false aa,rfl)
   intro gi ba (rfl,je,rfl);subst aV;rw[if_neg je]at eL;cases lU:qH ds rows (h7 x)[i]with
   |error k=>rw[lU]at eL;cases eL
   | ok s=>
    rw[lU]at eL;replace eL:uf ds ((h7 x).drop (i+1)) (i+1) (rows++[s])=.ok EY:=eL;nofun;refine(.inl (_,az.of uY.at_),q,_,(h7 x)[i],c,n,ds,dZ,qs,ms,rows,s,rfl,oX,C.same qz,aaE,uY,j6.ln,j6.gY,o2,lU,?_);intro eP m cn s4 Jy akD Ia ar2 aqf;have So:=(UW lU).1;have n7:=uY.zw s4 oX;have aje:aN H cn:=zd qz s4 jQ;have afg:=j6.snoc C.1.2 je lU;have Di:=j6.ln;refine(_,n7.at_,hO (show ↑(qs.map V.ref)<=6 by rw[aX,n7.cy];exact Di) ∅,(_,rfl),Jy.upd,aje.hS EX,by rw[aP Zi];exact s4 _ _ (cC tR hA (by intro z;cases z)) tR,(qs++[eP],ms++[m],rows++[s],n7.snoc akD Ia sF So,afg.1,λr dO=>?_,eL),λj dY r aJ ae ak=>?_)
    .rcases eI.mp dO with z|z
     .exact sF r z
     .rw [d9.mp z];exact So
    .let(qd,eN):=Rs j dY r () ae ak;have r8:=qd.z8 s4 (Gy qd oX ()) oX.ins;refine(?_,eN);let(aQ,h_,a_,aq,aD):=r8;exact(aQ,h_,a_,by rw[aP (cC aq n7.at_ (by intro z;cases z))];exact aq,by rw[aP (cC aD n7.at_ (λz=>by injection z with z;exact WU (pd r (bU ak)).1 z))];exact aD)
  .rintro σ I bj;ac_rfl
   let((y,rfl),o2,qz,tR,(qs,ms,rows,uY,j6,sF,eL),Rs):=bj;subst aV;rw[aX,rN,zK]at eL;replace eL:(sU rows:Except (Nat×Nat) (List ST))=.ok EY:=eL;exact dp _ _ (qz,o2,(qs,ms,rows,uY,j6,sF,Except.ok.inj eL),_,rfl)
 rintro cD aw bj;ac_rfl
 let(s2,cW,(qs,ms,rows,fl,b1,sF,gE),hN,rfl):=bj;subst aV;subst gE;have YL:=C.same s2;nofun;refine(c,n,ds,dZ,qs,ms,rows,rfl,YL,fl,b1,hle,λba s3 apr=>?_);have dw:=apr cW;have aea:=s2.trans s3;refine(c,n,ds,dZ,qs,ms,rows,rfl,YL.same s3,fl.same s3,b1,hle,dV,λcn s4 aem=>?_);have di:=aem dw;have Vh:=aea.trans s4;refine(c,n,ds,dZ,qs,ms,rows,rfl,C.same Vh,a8,(fl.same s3).same s4,b1,di,dv,λcR s5 ac4 a aA aO Oi apD=>?_);have eM:=ac4 di;have G8:=Vh.trans s5;have sc:aN cR (upd (upd cR aA (.own a)) a (.ins t.fR aA [])):=((aN.refl cR).hS Oi).hS aO;refine(a,aA,c,n,ds,dZ,qs,ms,rows,rfl,aR,(C.same G8).same sc,a8,bX,(((fl.same s3).same s4).same s5).same sc,b1,sF,(eM.upd).upd,λf3 fk mM cU=>(rfl,?_));exact lH a f3 (zd (G8.trans sc) fk (G8.free aO)) mM cU
def Si(P:Program)(w:World)(t:bS):bO:=λvs H Q _=>∃a c n ds rows,∃i j:Nat,∃r s,vs=[⇑a,.int i,.int j]/\fJ P w t H a c n ds rows/\rows[i]?\r/\rows[j]?\s/\i≠j/\aL H/\∀v,pj (iR n ds r.mem s.mem) v->Q (.int v) H
def afz(P:Program)(w:World)(t:bS):bO:=λvs H Q _=>∃a c n ds rows,∃i j:Nat,∃r s,vs=[⇑a,.int i,.int j]/\fJ P w t H a c n ds rows/\rows[i]?\r/\rows[j]?\s/\i≠j/\∀v I,aN H I->pj (iR n ds r.mem s.mem) v->Q (.int v) I
def zb:cq P base T 1 t.Fv t.Bs zP (Si P w t):=by
 refine cE.forget (sp:=afz P w t) ?_ λvs H Q E h=>?_
 .exists T.uF.ok ach,9
  let(a,c,n,ds,rows,i,j,r,aj,rfl,(aA,le,mo,cG,so,aS,ch,ms,kvs,aq,_,_,_,_,_,_,am0,pZ),ah,aJ,lq,q):=h;have bR:=i' ao;let(v,aE,wB):=pZ.2 i j r aj ah aJ lq (.inl (b0.mp ah).1);refine(_,(a4 (b7 (aeS bR (bB (U 0) rfl) (rK (ai (U 1) (ai (U 2) aC))) (λ_ _=>rfl)))),?_);nofun;exact(_,YO T aq,∅,λp ar=>(ch,rfl,kvs,M5 am0 (bh ar),stK i j,aR,_,aE,q v _ (bh ar) wB))
 .let(a,c,n,ds,rows,i,j,r,aj,rfl,cU,ah,aJ,lq,bC,q):=h;exact(bC,a,c,n,ds,rows,i,j,r,aj,rfl,cU,ah,aJ,lq,λv I bw aE=>(bw,q v aE))
noncomputable abbrev lm:List Str:=[af "stages",af "showing",af "lasted",af "left",af "sought",af "gone",af "waiting",af "picked"]
noncomputable def fO(aH:Addr)(bq:V)(bI lf bt cQ:Int)(aF a9:Addr):List (Str×V):=[(p'p (af "stages") (V.ref aH)),(p'p (af "showing") bq),(p'p (af "lasted") (V.int bI)),(p'p (af "left") (V.int lf)),(p'p (af "sought") (V.int bt)),(p'p (af "gone") (V.int cQ)),(p'p (af "waiting") (V.ref aF)),(p'p (af "picked") (V.ref a9))]
def jP(aH:Addr)(bq:V)(bI lf bt cQ:Int)(aF a9:Addr):(fO aH bq bI lf bt cQ aF a9).map (·.1)=lm:=rfl
def VF(aH:Addr)(bq:V)(bI lf bt cQ:Int)(aF a9:Addr)(v:V):dn (af "showing") v (fO aH bq bI lf bt cQ aF a9)=fO aH v bI lf bt cQ aF a9:=by
 unfold fO;simp only[dn];rw[if_neg ∅];rfl
def Xv(aH:Addr)(bq:V)(bI lf bt cQ:Int)(aF a9:Addr)(v:Int):dn (af "lasted") (.int v) (fO aH bq bI lf bt cQ aF a9)=fO aH bq v lf bt cQ aF a9:=by
 unfold fO;simp only[dn];rw[if_neg ∅,if_neg ∅];rfl
def ahC(aH:Addr)(bq:V)(bI lf bt cQ:Int)(aF a9:Addr)(v:Int):dn (af "left") (.int v) (fO aH bq bI lf bt cQ aF a9)=fO aH bq bI v bt cQ aF a9:=by
 unfold fO;simp only[dn];rw[if_neg ∅,if_neg ∅,if_neg ∅];rfl
def ab_(aH:Addr)(bq:V)(bI lf bt cQ:Int)(aF a9:Addr)(v:Int):dn (af "sought") (.int v) (fO aH bq bI lf bt cQ aF a9)=fO aH bq bI lf v cQ aF a9:=by
 unfold fO;simp only[dn];rw[if_neg ∅,if_neg ∅,if_neg ∅,if_neg ∅];rfl
def O5(aH:Addr)(bq:V)(bI lf bt cQ:Int)(aF a9:Addr)(v:Int):dn (af "gone") (.int v) (fO aH bq bI lf bt cQ aF a9)=fO aH bq bI lf bt v aF a9:=by
 unfold fO;simp only[dn];rw[if_neg ∅,if_neg ∅,if_neg ∅,if_neg ∅,if_neg ∅];rfl
section
variable{w:World}{K:bk}{mg:Str->Option Value}{t:bS}{H:av}{a c aA le mo cG so aS ch:Addr}{k:Nat}
def CE(T:Txt w K mg t)(e:H a\(.ins t.fR aA (l5 c k le mo cG so aS ch))):gr K H a (af "crossing") ⇑c:=(_,aA,_,e,T.kS,T.QW,g4 qN 0 (r5 ..) ∅ rfl)
def oq(T:Txt w K mg t)(e:H a\(.ins t.fR aA (l5 c k le mo cG so aS ch))):gr K H a (af "sorts") ⇑so:=(_,aA,_,e,T.kS,T.Do,g4 qN 5 (r5 ..) ∅ rfl)
def xZ(T:Txt w K mg t)(e:H a\(.ins t.fR aA (l5 c k le mo cG so aS ch))):gr K H a (af "homes") ⇑aS:=(_,aA,_,e,T.kS,T.Pu,g4 qN 6 (r5 ..) ∅ rfl)
end
def o7{m:Str}(aH:Addr)(bq:V)(bI lf bt cQ:Int)(aF a9:Addr)(h:lm.contains m=false):(fO aH bq bI lf bt cQ aF a9).lookup m=none:=yX lm (jP ..) h
section
variable{w:World}{K:bk}{mg:Str->Option Value}{t:bS}{H:av}{k aH aA aF a9:Addr}{bq:V}{bI lf bt cQ:Int}
def ke(T:Txt w K mg t)(e:H k\(.ins t.dB aA (fO aH bq bI lf bt cQ aF a9))):gr K H k (af "stages") ⇑aH:=(_,aA,_,e,T.fD,T.Uo,g4 lm 0 (jP ..) ∅ rfl)
def rW(T:Txt w K mg t)(e:H k\(.ins t.dB aA (fO aH bq bI lf bt cQ aF a9))):gr K H k (af "showing") bq:=(_,aA,_,e,T.fD,T.CM,g4 lm 1 (jP ..) ∅ rfl)
def yf(T:Txt w K mg t)(e:H k\(.ins t.dB aA (fO aH bq bI lf bt cQ aF a9))):gr K H k (af "waiting") ⇑aF:=(_,aA,_,e,T.fD,T.Vk,g4 lm 6 (jP ..) ∅ rfl)
def Iw(T:Txt w K mg t)(e:H k\(.ins t.dB aA (fO aH bq bI lf bt cQ aF a9))):gr K H k (af "picked") ⇑a9:=(_,aA,_,e,T.fD,T.UQ,g4 lm 7 (jP ..) ∅ rfl)
def Uv(T:Txt w K mg t)(e:H k\(.ins t.dB aA (fO aH bq bI lf bt cQ aF a9))):gr K H k (af "lasted") (.int bI):=(_,aA,_,e,T.fD,T.Uf,g4 lm 2 (jP ..) ∅ rfl)
def Kw(T:Txt w K mg t)(e:H k\(.ins t.dB aA (fO aH bq bI lf bt cQ aF a9))):gr K H k (af "left") (.int lf):=(_,aA,_,e,T.fD,T.I7,g4 lm 3 (jP ..) ∅ rfl)
def zj(T:Txt w K mg t)(e:H k\(.ins t.dB aA (fO aH bq bI lf bt cQ aF a9))):gr K H k (af "sought") (.int bt):=(_,aA,_,e,T.fD,T.JV,g4 lm 4 (jP ..) ∅ rfl)
def LF(T:Txt w K mg t)(e:H k\(.ins t.dB aA (fO aH bq bI lf bt cQ aF a9))):gr K H k (af "gone") (.int cQ):=(_,aA,_,e,T.fD,T.BU,g4 lm 5 (jP ..) ∅ rfl)
end
section
variable{w:World}{K:bk}{mg:Str->Option Value}{t:bS}{H:av}{a c aA le mo cG so aS ch:Addr}{k:Nat}
def GU(T:Txt w K mg t)(e:H a\(.ins t.fR aA (l5 c k le mo cG so aS ch))):gr K H a (af "leasts") ⇑le:=(_,aA,_,e,T.kS,T.Yw,g4 qN 2 (r5 ..) ∅ rfl)
def P'(T:Txt w K mg t)(e:H a\(.ins t.fR aA (l5 c k le mo cG so aS ch))):gr K H a (af "mosts") ⇑mo:=(_,aA,_,e,T.kS,T.Ut,g4 qN 3 (r5 ..) ∅ rfl)
end
theorem fJ.same{w:World}{t:bS}{rows:List ST}(h:fJ P w t H a c n ds rows)(s:aN H I):fJ P w t I a c n ds rows:=by
 let(aA,le,mo,cG,so,aS,ch,ms,kvs,aq,aD,bV,eC,gn,eB,hh,km,jF):=h;exact(aA,le,mo,cG,so,aS,ch,ms,kvs,s _ _ aq,aD.same s,s _ _ bV,s _ _ eC,gn.same s,s _ _ eB,s _ _ hh,M5 km s,jF)
noncomputable abbrev dc:Str:=af "trams"
noncomputable abbrev iN:Str:=af "others"
structure dy where
 bq:Option Nat
 bI:Int
 lf:Nat
 bt:Nat
 cQ:Int
 wt:List Str
 pt:Int
 po:Int
noncomputable def rF:Option Nat->V
 |none=>.cf
 |some i=>.int (i:Nat)
noncomputable def gS(xs:List Str):List (Key×V):=xs.map λx=>(p'p (cz x) (V.bp true))
noncomputable def mU(a b:Int):List (Key×V):=[(p'p (cz dc) (.int a)),(p'p (cz iN) (.int b))]
def fv(t:bS)(H:av)(k aH aF a9:Addr)(s:dy):Prop:=aF≠a9/\∃aA,H k\(.ins t.dB aA (fO aH (rF s.bq) s.bI s.lf s.bt s.cQ aF a9))/\H aF\(.b2 (gS s.wt))/\H a9\(.b2 (mU s.pt s.po))
def fv.same{t:bS}{k aH aF a9:Addr}(h:fv t H k aH aF a9 s)(e:aN H I):fv t I k aH aF a9 s:=by
 let(h0,aA,ae,ak,aZ):=h;exact(h0,aA,e _ _ ae,e _ _ ak,e _ _ aZ)
def hM(k aF a9:Addr)(H I:av):Prop:=∀b u,b≠k->b≠aF->b≠a9->H b\u->I b\u
def hM.trans{k aF a9:Addr}(a:hM k aF a9 H H1)(b:hM k aF a9 H1 aw):hM k aF a9 H aw:=λc u x y z e=>b c u x y z (a c u x y z e)
def hM.of{k aF a9:Addr}(a:aN H H1):hM k aF a9 H H1:=λc u _ _ _ e=>a c u e
def hM.Ak{k aF a9:Addr}(a:hM k aF a9 H H1)(s:aN cx H)(ae:cx k=none)(ak:cx aF=none)(aZ:cx a9=none):aN cx H1:=λc u e=>a c u (dm e ae) (dm e ak) (dm e aZ) (s c u e)
def aao:tT [] [(p'p (cz dc) (V.int (-1))),(p'p (cz iN) (V.int (-1)))]=mU (-1) (-1):=by
 have h:(cz dc:Key)≠cz iN:=λz=>absurd (u1 z) ∅
 simp[tT,eK,mU,h]
def WY(h:s=dc\/s=iN):eK (mU a b) (cz s) (.int v)=mU (if s=dc then v else a) (if s=dc then b else v):=by
 have ae:dc≠iN:=∅
 rcases h with rfl|rfl
 .simp [eK,mU,ae,ae.symm]
 .simp [eK,mU,ae,ae.symm]
def amP(h:s=dc\/s=iN):dz (mU a b) (cz s)\(.int (if s=dc then a else b)):=by
 have ae:dc≠iN:=∅
 rcases h with rfl|rfl
 .simp [dz,mU,ae,ae.symm]
 .simp [dz,mU,ae,ae.symm]
theorem ajn(xs:List Str)(x:Str):(dz (gS xs) (cz x)).isSome=decide (x∈xs):=by
 rw[l6,decide_eq_true_eq]
 induction xs with
 |nil=>simp[gS,dz]
 | cons y ys cZ=>
  by_cases c:y=x
  .simp [gS,dz,c]
  .have c':x≠y:=λz=>c z.symm
   simp only[gS,dz,fz,uy]at cZ⊢;simp[c,c']at cZ⊢
   try exact cZ
noncomputable def ua(ds:List bf)(r:ST):dy:=(some 0,1,0,0,0,[],if c0 ds r=dc then 0 else -1,if c0 ds r=dc then -1 else 0)
noncomputable def wg(rows:List ST)(i:Nat)(x:Str):Str:=if gO rows x\i then af "free" else af "stop"
section
variable(P:Program)(w:World)
def OU(t:bS):bO:=λvs H Q _=>∃k aA aH c n ds rows r,vs=[⇑k,⇑aH]/\H k\(.ins t.dB aA [])/\fJ P w t H aH c n ds rows/\rows[0]?\r/\(c0 ds r=dc\/c0 ds r=iN)/\aL H/\∀aF a9 I,df k H I->aL I->H aF=none->H a9=none->fv t I k aH aF a9 (ua ds r)->Q .cf I
def ab3(t:bS):bO:=λvs H Q _=>∃k aH aF a9 s,∃i:Nat,∃c n ds rows,∃d:bf,vs=[⇑k,.str d.name]/\fv t H k aH aF a9 s/\s.bq\i/\fJ P w t H aH c n ds rows/\told rows d.name=true/\Q (.str (wg rows i d.name)) H
end
theorem ajt:cq P base T 1 t.zR t.Pi zA (OU P w t):=by
 exists T.Ur.ok anA,9
 let(k,aA,aH,c,n,ds,rows,r,rfl,ax,cU,h0,pI,bC,q):=h;let(iS,le,mo,cG,so,aS,ch,ms,kvs,aq,C,bV,eC,gn,eB,hh,km,jF):=cU;have bR:=i' ao;refine(_,(db (fC (U 0) (U 1) rfl)
   (db (fC (U 0) aT rfl)
   (db (fC (U 0) aT rfl)
   (db (fC (U 0) aT rfl)
   (db (fC (U 0) aT rfl)
   (db (fC (U 0) aT rfl)
   (db (fC (U 0) CI rfl)
   (db (fC (U 0) (am2 (Rq dF (qu ri aT) (Rq dF (qu ri aT) abD)) rfl rfl (by simp) ∅) rfl)
   (a4 (wh bR (bB (U 0) rfl) (bZ c8 (bB (U 1) rfl) aT) aT rfl)))))))))),?_)
 exists (λau I=>df k H I/\aL I/\I k\(.ins t.dB aA [(p'p (af "stages") (V.ref aH))])/\au=[~~~k,~~~aH]),5
 .nofun;refine(_,_,_,ax,T.fD,T.Uo,((∅:(0:Nat)<1000)),?_);rw[show dn (af "stages") (V.ref aH) ([]:List (Str×V))=[(p'p (af "stages") (V.ref aH))]from gZ [] rfl ∅];exact dp _ _ (λb u aa e=>by rw[aP aa];exact e,bC.upd,aR,rfl)
 intro fG H1 (dt,cP,a1,rfl);subst aV;exists (λau I=>df k H I/\aL I/\I k\(.ins t.dB aA [(p'p (af "stages") (V.ref aH)),(p'p (af "showing") (V.int 0))])/\au=[~~~k,~~~aH]),5
 .nofun;refine(_,_,_,a1,T.fD,T.CM,((∅:(1:Nat)<1000)),?_);rw[show dn (af "showing") (V.int 0) ([(p'p (af "stages") (V.ref aH))]:List (Str×V))=[(p'p (af "stages") (V.ref aH)),(p'p (af "showing") (V.int 0))]from gZ [af "stages"] rfl ∅];exact dp _ _ (λb u aa e=>by rw[aP aa];exact dt _ _ aa e,cP.upd,aR,rfl)
 intro cD aw (gR,cW,a2,rfl);subst aV;exists (λau I=>df k H I/\aL I/\I k\(.ins t.dB aA [(p'p (af "stages") (V.ref aH)),(p'p (af "showing") (V.int 0)),(p'p (af "lasted") (V.int 1))])/\au=[~~~k,~~~aH]),5
 .nofun;refine(_,_,_,a2,T.fD,T.Uf,((∅:(2:Nat)<1000)),?_);rw[show dn (af "lasted") (V.int 1) ([(p'p (af "stages") (V.ref aH)),(p'p (af "showing") (V.int 0))]:List (Str×V))=[(p'p (af "stages") (V.ref aH)),(p'p (af "showing") (V.int 0)),(p'p (af "lasted") (V.int 1))]from gZ [af "stages",af "showing"] rfl ∅];exact dp _ _ (λb u aa e=>by rw[aP aa];exact gR _ _ aa e,cW.upd,aR,rfl)
 intro gi ba (hN,dw,dH,rfl);subst aV;exists (λau I=>df k H I/\aL I/\I k\(.ins t.dB aA [(p'p (af "stages") (V.ref aH)),(p'p (af "showing") (V.int 0)),(p'p (af "lasted") (V.int 1)),(p'p (af "left") (V.int 0))])/\au=[~~~k,~~~aH]),5
 .nofun;refine(_,_,_,dH,T.fD,T.I7,((∅:(3:Nat)<1000)),?_);rw[show dn (af "left") (V.int 0) ([(p'p (af "stages") (V.ref aH)),(p'p (af "showing") (V.int 0)),(p'p (af "lasted") (V.int 1))]:List (Str×V))=[(p'p (af "stages") (V.ref aH)),(p'p (af "showing") (V.int 0)),(p'p (af "lasted") (V.int 1)),(p'p (af "left") (V.int 0))]from gZ [af "stages",af "showing",af "lasted"] rfl ∅];exact dp _ _ (λb u aa e=>by rw[aP aa];exact hN _ _ aa e,dw.upd,aR,rfl)
 intro kE cn (dD,di,iF,rfl);subst aV;exists (λau I=>df k H I/\aL I/\I k\(.ins t.dB aA [(p'p (af "stages") (V.ref aH)),(p'p (af "showing") (V.int 0)),(p'p (af "lasted") (V.int 1)),(p'p (af "left") (V.int 0)),(p'p (af "sought") (V.int 0))])/\au=[~~~k,~~~aH]),5
 .nofun;refine(_,_,_,iF,T.fD,T.JV,((∅:(4:Nat)<1000)),?_);rw[show dn (af "sought") (V.int 0) ([(p'p (af "stages") (V.ref aH)),(p'p (af "showing") (V.int 0)),(p'p (af "lasted") (V.int 1)),(p'p (af "left") (V.int 0))]:List (Str×V))=[(p'p (af "stages") (V.ref aH)),(p'p (af "showing") (V.int 0)),(p'p (af "lasted") (V.int 1)),(p'p (af "left") (V.int 0)),(p'p (af "sought") (V.int 0))]from gZ [af "stages",af "showing",af "lasted",af "left"] rfl ∅];exact dp _ _ (λb u aa e=>by rw[aP aa];exact dD _ _ aa e,di.upd,aR,rfl)
 intro qP cR (el,eM,lK,rfl);subst aV;exists (λau I=>df k H I/\aL I/\I k\(.ins t.dB aA [(p'p (af "stages") (V.ref aH)),(p'p (af "showing") (V.int 0)),(p'p (af "lasted") (V.int 1)),(p'p (af "left") (V.int 0)),(p'p (af "sought") (V.int 0)),(p'p (af "gone") (V.int 0))])/\au=[~~~k,~~~aH]),5
 .nofun;refine(_,_,_,lK,T.fD,T.BU,((∅:(5:Nat)<1000)),?_);rw[show dn (af "gone") (V.int 0) ([(p'p (af "stages") (V.ref aH)),(p'p (af "showing") (V.int 0)),(p'p (af "lasted") (V.int 1)),(p'p (af "left") (V.int 0)),(p'p (af "sought") (V.int 0))]:List (Str×V))=[(p'p (af "stages") (V.ref aH)),(p'p (af "showing") (V.int 0)),(p'p (af "lasted") (V.int 1)),(p'p (af "left") (V.int 0)),(p'p (af "sought") (V.int 0)),(p'p (af "gone") (V.int 0))]from gZ [af "stages",af "showing",af "lasted",af "left",af "sought"] rfl ∅];exact dp _ _ (λb u aa e=>by rw[aP aa];exact el _ _ aa e,eM.upd,aR,rfl)
 intro nt f3 (cF,mM,tj,rfl);subst aV;exists (λau I=>df k H I/\aL I/\∃aF,H aF=none/\I k\(.ins t.dB aA [(p'p (af "stages") (V.ref aH)),(p'p (af "showing") (V.int 0)),(p'p (af "lasted") (V.int 1)),(p'p (af "left") (V.int 0)),(p'p (af "sought") (V.int 0)),(p'p (af "gone") (V.int 0)),(p'p (af "waiting") (V.ref aF))])/\I aF\(.b2 [])/\au=[~~~k,~~~aH]),5
 .nofun;intro aF qo;have PY:aF≠k:=λz=>by rw[z,tj]at qo;cases qo
  have g7:H aF=none:=by
   cases e:H aF with
   |none=>rfl
   |some u=>have:=cF _ _ PY e;rw[qo]at this;cases this
  refine(_,_,_,(bh qo) _ _ tj,T.fD,T.Vk,((∅:(6:Nat)<1000)),?_);rw[show dn (af "waiting") (V.ref aF) ([(p'p (af "stages") (V.ref aH)),(p'p (af "showing") (V.int 0)),(p'p (af "lasted") (V.int 1)),(p'p (af "left") (V.int 0)),(p'p (af "sought") (V.int 0)),(p'p (af "gone") (V.int 0))]:List (Str×V))=[(p'p (af "stages") (V.ref aH)),(p'p (af "showing") (V.int 0)),(p'p (af "lasted") (V.int 1)),(p'p (af "left") (V.int 0)),(p'p (af "sought") (V.int 0)),(p'p (af "gone") (V.int 0)),(p'p (af "waiting") (V.ref aF))]from gZ [af "stages",af "showing",af "lasted",af "left",af "sought",af "gone"] rfl ∅];exact dp _ _ (λb u aa e=>by rw[aP aa];exact(bh qo) _ _ (cF _ _ aa e),mM.upd.upd,aF,g7,aR,by rw[aP PY];exact aR,rfl)
 intro kP e7 (c5,hW,aF,g7,qQ,uI,rfl);subst aV;exists (λau I=>df k H I/\aL I/\∃a9,I k\(.ins t.dB aA (fO aH (.int 0) 1 0 0 0 aF a9))/\I aF\(.b2 [])/\I a9\(.b2 (mU (-1) (-1)))/\a9≠aF/\H a9=none/\au=[~~~k,~~~aH]),5
 .nofun;simp only[Eu];nofun;intro a9 nY;have vk:a9≠k:=λz=>by rw[z,qQ]at nY;cases nY
  have j9:a9≠aF:=λz=>by rw[z,uI]at nY;cases nY
  have h1:H a9=none:=by
   cases e:H a9 with
   |none=>rfl
   |some u=>have:=c5 _ _ vk e;rw[nY]at this;cases this
  refine(aR,[(p'p (cz (af "trams")) (.int (-1))),(p'p (cz (af "others")) (.int (-1)))],rfl,by show 2<=15;decide,_,_,_,(aP vk.symm).trans ((aP vk.symm).trans qQ),T.fD,T.UQ,((∅:(7:Nat)<1000)),?_);rw[show dn (af "picked") (V.ref a9) ([(p'p (af "stages") (V.ref aH)),(p'p (af "showing") (V.int 0)),(p'p (af "lasted") (V.int 1)),(p'p (af "left") (V.int 0)),(p'p (af "sought") (V.int 0)),(p'p (af "gone") (V.int 0)),(p'p (af "waiting") (V.ref aF))]:List (Str×V))=fO aH (.int 0) 1 0 0 0 aF a9 from gZ [af "stages",af "showing",af "lasted",af "left",af "sought",af "gone",af "waiting"] rfl ∅];refine dp _ _ (λb u aa e=>?_,hW.upd.upd.upd,a9,aR,?_,(aP vk).trans (aR.trans (congrArg (λx=>some (gb.b2 x)) (aao))),j9,h1,rfl)
  .have:=c5 _ _ aa e;rw[aP aa,aP (dm this nY),aP (dm this nY)];exact this
  .rw [aP (cC uI qQ (by intro z;cases z)),aP j9.symm,aP j9.symm];exact uI
 intro sO iq (dQ,oH,a9,rX,Bi,S8,j9,nY,rfl);subst aV;nofun;refine(_,Iw T rX,_,oq T (dQ _ _ (L3 ax aq) aq),_,rfl,_,az.of (dQ _ _ (cC eB ax (by intro z;cases z)) eB),_,cv (j:=0) (oe (by rw[dg,h0];rfl)),_,rfl,_,l_.k (k:=cz (c0 ds r)) S8 (hO (show ↑(mU (-1) (-1))<=2 from bQ 2) ∅),q aF a9 _ (λb u aa e=>?_) oH.upd g7 nY (j9.symm,aA,?_,?_,?_))
 .rw [aP (dm e nY)];exact dQ _ _ aa e
 .rw [aP (cC rX S8 (by intro z;cases z))];exact rX
 .rw [aP j9.symm];exact Bi
 .rw [aR,WY pI];rfl
def ajK:cq P base T 1 t.BN t.Nf j_ (ab3 P w t):=by
 exists T.O7.ok acT,9
 let(k,aH,aF,a9,aj,i,c,n,ds,rows,d,rfl,(_,aA,cc,dX,gT),hj,(iS,le,mo,cG,so,aS,ch,ms,kvs,aq,C,bV,eC,gn,eB,hh,km,jF),c6,q):=h;have bR:=i' ao;let(j,r,aJ,ax,j3,_):=oL c6;refine(_,(a4 (b7 (tP (dh e3 (p9 bR (bB (bB (U 0) rfl) rfl) (U 1) (λ_ _=>rfl)) (bB (U 0) rfl) (cL _)) dF dF))),?_);rw[hj]at cc;nofun;have a7:=i4.k (k:=cz d.name) hh;rw[aJ]at a7;refine(_,ke T cc,_,rfl,_,xZ T aq,_,rfl,_,a7,_,rW T cc,rfl,?_);unfold wg at q;rw[ax]at q;by_cases hm:j=i
 .rw [if_pos (by rw[hm])]at q;rw[hm,if_pos (show decide (V.int ((i:Nat):Int)=rF (some i))=true from decide_eq_true rfl)];exact q
 .rw [if_neg (λz=>hm (d2 z))]at q;rw[if_neg (show ¬decide (V.int ((j:Nat):Int)=rF (some i))=true from λz=>hm (by have z:=of_decide_eq_true z;injection z with z;omega))];exact q
noncomputable def cp(n:Int)(ds:List bf)(rows:List ST)(i j:Nat):Int:=match rows[i]?,rows[j]? with
 |some r,some s=>((iR n ds r.mem s.mem).max?).getD 0
 |_,_=>0
def BF{rows:List ST}(ah:rows[i]?\r)(aJ:rows[j]?\s)(h:pj (iR n ds r.mem s.mem) v):cp n ds rows i j=v:=by
 unfold cp;rw[ah,aJ];show((iR n ds r.mem s.mem).max?).getD 0=v;rw[(List.max?_eq_some_iff (xs:=iR n ds r.mem s.mem) (a:=v)).mpr (h.1,h.2)];rfl
noncomputable def wu(n:Int)(ds:List bf)(rows:List ST)(s:dy)(d:bf):Str:=if gO rows d.name\s.lf/\s.cQ<l7 d then af "fade" else if gO rows d.name=some s.bt/\cp n ds rows s.lf s.bt-s.cQ<=mu d then af "ready" else af "stop"
noncomputable def h2(n:Int)(ds:List bf)(rows:List ST)(s:dy)(d:bf):Str:=match s.bq with
 |some i=>wg rows i d.name
 |none=>wu n ds rows s d
section
variable(P:Program)(w:World)
def agH(t:bS):bO:=λvs H Q _=>∃k aH aF a9 s c n ds rows,∃i:Nat,∃d:bf,vs=[⇑k,.str d.name]/\fv t H k aH aF a9 s/\fJ P w t H aH c n ds rows/\told rows d.name=true/\ds[i]?\d/\s.lf<↑rows/\s.bt<↑rows/\s.lf≠s.bt/\aL H/\Q (.str (wu n ds rows s d)) H
end
def aoR:cq P base T 3 t.DM t.KN j_ (agH P w t):=by
 refine cA (sM T) λkc=>cA (zb T) λqK=>?_;have Of:ra P w K mg base dq 2 (v_ t) "ready" ["self"] (v3 t):=Fg (Vl T) ∅;have KP:ra P w K mg base dq 2 (v_ t) "fade" ["self"] (vn t):=Fg (Sg T) ∅;exists T.TR.ok NO,9
 let(k,aH,aF,a9,aj,c,n,ds,rows,i,d,rfl,(_,aA,cc,dX,gT),cU,c6,hd,rZ,Xz,ck,bC,q):=h;let(iS,le,mo,cG,so,aS,ch,ms,kvs,aq,C,bV,eC,gn,eB,hh,km,jF):=id cU;have bR:=i' ao;let((hn,hr),Gg,wl,aG,aW,_,_):=id C;let(j,r,aJ,ax,j3,_):=oL c6;have a7:=i4.k (k:=cz d.name) hh;rw[aJ]at a7;refine(_,(db (b' (i:=2) NO.aG (fK (bB (bB (U 0) rfl) rfl) T.iQ T.o5 kc ao T.Gc .nil c3 (ai (U 1) aC)))
   (db (b' (i:=3) NO.aG (p9 bR (bB (bB (U 0) rfl) rfl) (U 1) (λ_ _=>rfl)))
   (db (d4 (gv.pt (qn (dh e3 (U 3) (bB (U 0) rfl) (cL _)) (p_ (dh ir (bB (U 0) rfl) (Cd (U 2) KP ao c3) (cL _))))) (a4 (b7 dF)) en)
   (db (d4 (gv.pt (qn (dh e3 (U 3) (bB (U 0) rfl) (cL _)) (p_ (dh QS (bN mz (b3 qK ao T.xm T.uF.bo T.zk (ai (bB (U 0) rfl) (ai (bB (U 0) rfl) (ai (bB (U 0) rfl) aC)))) (bB (U 0) rfl)) (Cd (U 2) Of ao c3) (cL _))))) (a4 (b7 dF)) en)
   (a4 (b7 dF)))))),?_)
 exists (λau I=>I=H/\∃a,fh t H a d/\au=[~~~k,some (.str d.name),~~~a,none]),5
 .nofun;exact(_,ke T cc,_,rfl,_,CE T aq,_,rfl,_,_,aW,lg _ _ _ ∅,c,n,ds,i,d,rfl,C,hd,λa W=>dp _ _ (rfl,a,W,rfl))
 intro fG H1 (rfl,a,W,rfl);subst aV;exists (λau I=>I=H1/\au=[~~~k,some (.str d.name),~~~a,some (.int (j:Nat))]),5
 .nofun;exact(_,ke T cc,_,rfl,_,xZ T aq,_,rfl,_,a7,dp _ _ (rfl,rfl))
 intro cD aw (rfl,rfl);let(pX,Tf,sJ):=id W;subst aV;unfold wu at q;rw[ax]at q;simp only[dT];refine sl (λau I=>I=aw/\¬(some j\aj.lf/\aj.cQ<l7 d)/\au=[~~~k,some (.str d.name),~~~a,some (.int (j:Nat))]) (λgQ dp oK _ _=>?_) ?_
 .refine du (decide (j=aj.lf)&&decide (aj.cQ<l7 d)) (λQ' aY=>?_) (λaa=>?_) (λaa=>?_)
  .nofun;refine(_,Kw T cc,rfl,?_);by_cases br:j=aj.lf
   .rw [decide_eq_true br,nN]at aY;rw[if_pos (show decide (V.int ((j:Nat):Int)=V.int ((aj.lf:Nat):Int))=true from decide_eq_true (by rw[br]))];exact(_,LF T cc,_,_,_,sJ,(_,pX,rfl),BR ∅,a,d,rfl,W,rfl,_,rfl,_,rfl,aY)
   .rw [decide_eq_false br,om]at aY;rw[if_neg (show ¬decide (V.int ((j:Nat):Int)=V.int ((aj.lf:Nat):Int))=true from λz=>br (by have z:=of_decide_eq_true z;injection z with z;omega))];exact aY
  .rw [kX,decide_eq_true_eq,decide_eq_true_eq]at aa;rw[if_pos (by rw[aa.1],aa.2)]at q;nofun;rw[oK];exact q
  .simp only[gy];refine dp _ _ (rfl,λz=>?_,rfl);rw[decide_eq_true (d2 z.1),decide_eq_true z.2]at aa;cases aa
 intro gi ba (rfl,GB,rfl);rw[if_neg GB]at q;simp only[dT];refine sl (λau I=>I=ba/\¬(some j\aj.bt/\cp n ds rows aj.lf aj.bt-aj.cQ<=mu d)/\au=[~~~k,some (.str d.name),~~~a,some (.int (j:Nat))]) (λgQ dp oK _ _=>?_) ?_
 .refine du (decide (j=aj.bt)&&decide (cp n ds rows aj.lf aj.bt-aj.cQ<=mu d)) (λQ' aY=>?_) (λaa=>?_) (λaa=>?_)
  .nofun;refine(_,zj T cc,rfl,?_);by_cases br:j=aj.bt
   .rw [decide_eq_true br,nN]at aY;rw[if_pos (show decide (V.int ((j:Nat):Int)=V.int ((aj.bt:Nat):Int))=true from decide_eq_true (by rw[br]))];refine(_,ke T cc,_,Kw T cc,_,zj T cc,aH,c,n,ds,rows,aj.lf,aj.bt,_,_,rfl,cU,a6 rZ,a6 Xz,ck,bC,λv aE=>(_,LF T cc,_,rfl,_,rfl,_,_,_,sJ,(_,pX,rfl),BR ∅,a,d,rfl,W,rfl,_,rfl,?_));rw[BF (a6 rZ) (a6 Xz) aE]at aY;exact aY
   .rw [decide_eq_false br,om]at aY;rw[if_neg (show ¬decide (V.int ((j:Nat):Int)=V.int ((aj.bt:Nat):Int))=true from λz=>br (by have z:=of_decide_eq_true z;injection z with z;omega))];exact aY
  .rw [kX,decide_eq_true_eq,decide_eq_true_eq]at aa;rw[if_pos (by rw[aa.1],aa.2)]at q;nofun;rw[oK];exact q
  .simp only[gy];refine dp _ _ (rfl,λz=>?_,rfl);rw[decide_eq_true (d2 z.1),decide_eq_true z.2]at aa;cases aa
 intro kE cn (rfl,sV,rfl);rw[if_neg sV]at q;nofun;exact q
def aaf{ds:List bf}(h:(ds.map (·.name)).Nodup){i j:Nat}{d e:bf}(ah:ds[i]?\d)(aJ:ds[j]?\e)(z:d.name=e.name):i=j:=by
 let(ae,aq):=b0.mp ah;let(ak,aD):=b0.mp aJ;have e:(ds.map (·.name))[i]'(by simpa using ae)=(ds.map (·.name))[j]'(by simpa using ak):=by
  rw[zC,zC,aq,aD];exact z
 exact(Cu h).mp e
noncomputable def ks(ds:List bf)(f:bf->Str):List (Key×V):=ds.map λd=>(p'p (cz d.name) (V.str (f d)))
def agK{ds:List bf}{f:bf->Str}(h:(ds.map (·.name)).Nodup){i:Nat}{d:bf}(hd:ds[i]?\d):eK (ks (ds.take i) f) (cz d.name) (.str (f d))=ks (ds.take (i+1)) f:=by
 unfold eK;have no:((ks (ds.take i) f).any λdE=>decide (dE.1=cz d.name))=false:=by
  rw[V4];intro p ar;unfold ks at ar;let(e,he,rfl):=cj.mp ar;let(j,aJ):=hy he;have fL:=(b0.mp aJ).1;rw[hC]at fL;rw[w5 ()]at aJ;simp only[decide_eq_true_eq];intro z;have:=aaf h aJ hd (u1 z);omega
 rw[if_neg (by rw[no];exact fX),k5 hd];unfold ks;rw[e'];rfl
theorem OZ{ds:List bf}{f:bf->Str}(h:(ds.map (·.name)).Nodup){i:Nat}{d:bf}(hd:ds[i]?\d):dz (ks ds f) (cz d.name)\(.str (f d)):=by
 have:∀(l:List bf),(l.map (·.name)).Nodup->d∈l->dz (ks l f) (cz d.name)\(.str (f d)):=λl=>by
  induction l with
  |nil=>intro _ h;cases h
  | cons x l cZ=>
   intro a8 hm;by_cases c:x.name=d.name
   .have:x=d:=by
     rcases ei.mp hm with e|e
     .exact e.symm
     .exact absurd (cj.mpr (d,e,c.symm)) (ni.mp a8).1
    subst this;simp[dz,ks]
   .have nu:d∈l:=by
     rcases ei.mp hm with e|e
     .exact absurd (by rw[e]) c
     .exact e
    have:=cZ (ni.mp a8).2 nu;simp only[dz,ks,fz,uy]at this⊢;simp[c]at this⊢;exact this
 exact this ds h (bU hd)
def abg(rows:List ST)(s:dy):Prop:=s.bq=none->s.lf<↑rows/\s.bt<↑rows/\s.lf≠s.bt
def agj(P:Program)(w:World)(t:bS):bO:=λvs H Q _=>∃k aH aF a9 s c n ds rows,vs=[⇑k]/\fv t H k aH aF a9 s/\fJ P w t H aH c n ds rows/\(∀d∈ds,told rows d.name=true)/\abg rows s/\aL H/\∀p I,aN H I->aL I->H p=none->I p\(.b2 (ks ds (h2 n ds rows s)))->Q ⇑p I
theorem akh:cq P base T 4 t.AW t.IH ["self"] (agj P w t):=by
 refine cA (Aw T) λud=>cA (ajK T) λaly=>cA (aoR T) λaov=>?_;exists T.S9.ok Ko,9
 let(k,aH,aF,a9,aj,c,n,ds,rows,rfl,hJ,cU,nD,aji,bC,q):=h;have bR:=i' ao;let(_,aA,cc,dX,gT):=id hJ;let(iS,le,mo,cG,so,aS,ch,ms,kvs,aq,C,_):=id cU;let((hn,hr),Gg,wl,aG,aW,_,_):=id C;refine(_,(db (b' (i:=1) Ko.aG CI)
   (db (fP fV rfl (e6 (kQ (bB (bB (U 0) rfl) rfl) T.iQ T.Bk ud ao T.CJ .nil c3)) (b8 (i:=2) Ko.aG) (a4 (wh bR (U 1) (U 2) (tP (dh V' (bB (U 0) rfl) u0 (cL _)) (fK (U 0) T.fD T.acf aly ao T.aaS .nil c3 (ai (U 2) aC)) (fK (U 0) T.fD T.alS aov ao T.aeT .nil c3 (ai (U 2) aC))) rfl)))
   (a4 (b7 (U 1))))),?_)
 exists (λau I=>aN H I/\aL I/\∃jz,H jz=none/\I jz\(.b2 [])/\au=[~~~k,~~~jz,none]),4
 .nofun;exact λjz wD=>bX _ _ (bh wD,bC.upd,jz,wD,aR,rfl)
 intro fG H1 (s1,cP,jz,wD,dN,rfl);subst aV;nofun;refine(_,ke T (s1 _ _ cc),_,rfl,_,CE T (s1 _ _ aq),_,rfl,_,_,s1 _ _ aW,lg _ _ _ ∅,c,n,ds,rfl,C.same s1,λfs k7=>(fs,rfl,(_,az.of aR),?_));refine ed.list (xs:=a3 (ds.map (·.name))) (λi σ I=>aN H I/\aL I/\I fs\(.lst (a3 (ds.map (·.name))))/\I jz\(.b2 (ks (ds.take i) (h2 n ds rows aj)))/\∃y,σ=[~~~k,~~~jz,y]) ?_ ?_ ?_ ?_
 .exact (s1.trans (bh k7),cP.upd,aR,(bh k7) _ _ dN,_,rfl)
 .rintro i σ I ah bj;ac_rfl
  let(_,_,h,_):=bj;subst aV;exact az.of h
 .rintro i v σ I aE bj;ac_rfl
  let(s2,cW,J1,w7,y,rfl):=bj;let(x,ag,rfl):=b_ aE;let(d,hd,rfl):=b_ ag;have sd:=bU hd;have hlen:↑(ks (ds.take i) (h2 n ds rows aj))<=12:=by unfold ks;rw[aX,hC];omega
  have xb:upd I jz (.b2 (eK (ks (ds.take i) (h2 n ds rows aj)) (cz d.name) (.str (h2 n ds rows aj d)))) fs\(.lst (a3 (ds.map (·.name)))):=by
   rw[aP (cC J1 w7 (by intro z;cases z))];exact J1
  have AH:upd I jz (.b2 (eK (ks (ds.take i) (h2 n ds rows aj)) (cz d.name) (.str (h2 n ds rows aj d)))) jz\(.b2 (ks (ds.take (i+1)) (h2 n ds rows aj))):=by
   rw[aR,agK (f:=h2 n ds rows aj) hn hd]
  subst aV;nofun;refine(_,rW T (s2 _ _ cc),?_);cases hj:aj.bq with
  |some Az=>
   have Jg:h2 n ds rows aj d=wg rows Az d.name:=by unfold h2;rw[hj]
   rw[Jg]at xb AH;rw[if_pos (by rfl)];exact(_,_,s2 _ _ cc,o7 _ _ _ _ _ _ _ _ ∅,k,aH,aF,a9,aj,Az,c,n,ds,rows,d,rfl,hJ.same s2,hj,cU.same s2,nD d sd,_,l_.k (k:=cz d.name) w7 (hO hlen ∅),s2.hS wD,cW.upd,xb,AH,_,rfl)
  |none=>
   have Jg:h2 n ds rows aj d=wu n ds rows aj d:=by unfold h2;rw[hj]
   rw[Jg]at xb AH;let(g1,g2,g3):=aji hj;rw[if_neg (by intro z;cases z)];exact(_,_,s2 _ _ cc,o7 _ _ _ _ _ _ _ _ ∅,k,aH,aF,a9,aj,c,n,ds,rows,i,d,rfl,hJ.same s2,cU.same s2,nD d sd,hd,g1,g2,g3,cW,_,l_.k (k:=cz d.name) w7 (hO hlen ∅),s2.hS wD,cW.upd,xb,AH,_,rfl)
 .rintro σ I bj;ac_rfl
  let(s2,cW,J1,w7,y,rfl):=bj;have lL:↑(a3 (ds.map (·.name)))=↑ds:=by unfold a3;simp
  subst aV;rw[lL,i5]at w7;nofun;exact q jz I s2 cW wD w7
def cY.R'(hf:H d\(.eX o (.b2 kvs)))(aQ:↑kvs<=sizeLine)(he:↑zs=↑kvs)
  (ay:∀(i:Nat) (k:Key) (v z:V) (N:V->av->Prop),kvs[i]?\(p'p k v)->zs[i]?\z->N z H->g (d3 k) dA H λcD aw=>Sub dA cD/\bW cD aw N) (hd:∀p,H p=none->Q ⇑p (upd H p (.lst zs))):cY (GW d o kvs) g rA bW dA Q H:=by
 refine cY.of (n:=↑kvs) (λi ys I=>I=H/\ys=zs.take i) aQ (rfl,rfl) (λi ys I ah ⟨eh,_⟩=>by subst eh;exact(hf,ah)) (λys I ⟨eh,_⟩=>by subst eh;exact(hf,bQ _)) (λi ys I ah ⟨_,e⟩=>by rw[e,hC];omega) (λi ys I x aw ah ⟨aq,aD⟩ y=>?_) (λys I ⟨aq,aD⟩ p ar=>?_)
 .obtain⟨bV,k,v,ax,eC⟩:=y;subst aq bV eC;intro N bl;have fS:i<↑zs:=()
  have h3:zs[i]?\zs[i]:=a6 fS;exact ay i k v zs[i] (λy cn=>N (ys++[y]) cn) ax h3 (bl _ _ (rfl,by rw[aD,oc,h3];rfl))
 .subst aq;rw[aD,<- he,i5];exact hd p ar
noncomputable def q6(ds:List bf)(rows:List ST)(x:Str):Str:=(((gO rows x).bind λj=>rows[j]?).map (c0 ds)).getD (af "")
noncomputable def rO(ds:List bf)(rows:List ST)(xs:List Str):Bool:=xs.any λx=>decide (q6 ds rows x=dc)
section
variable(P:Program)(w:World)
def aj7(t:bS):bO:=λvs H Q _=>∃cx k aH aF a9 s c n ds rows,vs=[⇑k]/\fv t H k aH aF a9 s/\fJ P w t cx aH c n ds rows/\aN cx H/\cx aF=none/\(∀x∈s.wt,told rows x=true)/\↑s.wt<=12/\∀I,aN H I->(aL H->aL I)->Q (.bp (rO ds rows s.wt)) I
end
def ajL:cq P base T 1 t.Bu t.HR ["self"] (aj7 P w t):=by
 exists T.QH.ok jp,9
 let(cx,k,aH,aF,a9,aj,c,n,ds,rows,rfl,(_,aA,cc,dX,gT),cU,s0,g7,c6,aK,q):=h;let(iS,le,mo,cG,so,aS,ch,ms,kvs,aq,C,bV,eC,gn,eB,hh,km,jF):=id cU;have bR:=i' ao;refine(_,(a4 (b7 (fx (acL rfl) rfl T.akR aoF (ai (alE (hR rfl (Q0 (bB (U 0) rfl)) (f_ (sc:=bx (fI (top 74) 9)) rfl ∅) (N:=B_) (sel:=[none,some 0]) (f7 (M:=["self"]) ∅) (fa.of (λ_ _ _ _=>(b8 (i:=0) (ec (N:=B_) ∅ rfl))) (λ_ _ _ _=>(_,hT,by walk_at "B")) (λ_ _ _ _=>(_,(hV e3 (bZ c8 (bB (bB (U 1) rfl) rfl) (p9 bR (bB (bB (U 1) rfl) rfl) (U 0) (λ_ _=>rfl))) dF (cL _)),by walk_at "B"))))) aC)))),?_);nofun;refine(aF,_,dX,_,yf T cc,_,rfl,_,dX,λo=>?_);have ht:↑(gS aj.wt)=↑aj.wt:=by unfold gS;rw[aX]
 have hx:aN cx (upd H aF (.eX o (.b2 (gS aj.wt)))):=λb u e=>by rw[aP (dm e g7)];exact s0 _ _ e
 have Fe:(upd H aF (.eX o (.b2 (gS aj.wt)))) k\(.ins t.dB aA (fO aH (rF aj.bq) aj.bI aj.lf aj.bt aj.cQ aF a9)):=by rw[aP (cC cc dX (by intro z;cases z))];exact cc
 have m3:(upd H aF (.eX o (.b2 (gS aj.wt)))) aF\(.eX o (.b2 (gS aj.wt))):=aR;refine cY.R' (zs:=(aj.wt.map λx=>decide (q6 ds rows x=dc)).map V.bp) m3 (by rw[ht];exact cM aK ∅) (by rw[aX,aX,ht]) (λi ams v z N ax aQ bl=>?_) (λp ar=>?_)
 .unfold gS at ax;let(x,ag,ex):=b_ ax;cases ex;let(b,aa,rfl):=b_ aQ;let(eP,eD,rfl):=b_ aa;rw[ag]at eD;cases eD;let(j,r,aJ,e4,j3,_):=oL (c6 x (bU ag));have ay:q6 ds rows x=c0 ds r:=by unfold q6;rw[e4,yw,j3];rfl
  rw[ay]at bl;have a7:=i4.k (k:=cz x) (hx _ _ hh);rw[aJ]at a7;nofun;refine(Sub.name,_,ke T Fe,_,rfl,_,oq T (hx _ _ aq),_,ke T Fe,_,rfl,_,xZ T (hx _ _ aq),_,rfl,_,a7,_,rfl,_,_,rfl,az.of (hx _ _ eB),_,cv (oe (by rw[dg,j3];rfl)),rfl,?_);rw[show decide (V.str (c0 ds r)=V.str (af "trams"))=decide (c0 ds r=dc)from decide_eq_decide.mpr (λz=>by injection z,λz=>by rw[z])];exact bl
 .have j9:p≠aF:=λz=>by rw[z,m3]at ar;cases ar
  have En:H p=none:=by rw[aP j9]at ar;exact ar
  refine(o,by rw[aP (et j9)];exact m3,p,rfl,_,az.of (by rw[aP j9];exact aR),?_);have he:((aj.wt.map λx=>decide (q6 ds rows x=dc)).any id)=rO ds rows aj.wt:=by unfold rO;rw[Ot];rfl
  rw[he];refine q _ (λb u e=>?_) (λz=>((z.upd).upd).upd);by_cases br:b=aF
  .subst br;rw[dX]at e;cases e;exact aR
  .rw [aP br,aP (dm e En),aP br];exact e
noncomputable def mG(ds:List bf)(rows:List ST)(s:dy)(r:ST)(own:Bool):Bool:=s.wt.isEmpty||decide (s.bI<r.lo)||(decide (s.bI<r.ah)&&own && !rO ds rows s.wt)
def akM(P:Program)(w:World)(t:bS):bO:=λvs H Q _=>∃cx k aH aF a9 s c n ds rows,∃i:Nat,∃r own,vs=[⇑k,.bp own]/\fv t H k aH aF a9 s/\s.bq\i/\rows[i]?\r/\fJ P w t cx aH c n ds rows/\aN cx H/\cx aF=none/\(∀x∈s.wt,told rows x=true)/\↑s.wt<=12/\∀I,aN H I->(aL H->aL I)->Q (.bp (mG ds rows s r own)) I
theorem Zc:cq P base T 2 t.EF t.JP sS (akM P w t):=by
 refine cA (ajL T) λaoK=>?_;exists T.Uu.ok aid,9
 let(cx,k,aH,aF,a9,aj,c,n,ds,rows,i,r,own,rfl,hJ,hj,il,cU,s0,g7,c6,aK,q):=h;let(_,aA,cc,dX,gT):=id hJ;let(iS,le,mo,cG,so,aS,ch,ms,kvs,aq,C,bV,eC,gn,eB,hh,km,jF):=id (cU.same s0);have bR:=i' ao;have m_:=cc;rw[hj]at m_;refine(_,(db (d4 (gv.pt (pN (n8 (Fi (bB (U 0) rfl) (λ_=>rfl))) (t6 (dh ir (bB (U 0) rfl) (bZ c8 (bB (bB (U 0) rfl) rfl) (bB (U 0) rfl)) (cL _))))) (a4 (b7 kG)) en)
   (a4 (b7 (sr (hV ir (bB (U 0) rfl) (bZ c8 (bB (bB (U 0) rfl) rfl) (bB (U 0) rfl)) (cL _)) (sr (U 1) (sh (K9 (kQ (U 0) T.fD T.ZF aoK ao T.aoE .nil c3)))))))),?_)
 simp only[dT];refine sl (λau I=>I=H/\(aj.wt.isEmpty||decide (aj.bI<r.lo))=false/\au=[~~~k,some (.bp own)]) (λgQ dp oK _ _=>?_) ?_
 .refine du (aj.wt.isEmpty||decide (aj.bI<r.lo)) (λQ' aY=>?_) (λaa=>?_) (λaa=>?_)
  .nofun;refine(_,yf T cc,!aj.wt.isEmpty,.inr (.inr (_,dX,?_)),?_)
   .cases aj.wt <;> rfl
   .cases zH:aj.wt.isEmpty with
    |true=>
     rw[zH]at aY;exact aY
    |false=>
     rw[zH,mR]at aY;exact(_,Uv T cc,_,ke T cc,_,rfl,_,GU T aq,_,rW T m_,_,rfl,_,_,rfl,az.of bV,_,cv (by rw[dg,il];rfl),_,rfl,_,rfl,aY)
  .nofun;rw[oK];have:=q H (aN.refl H) (λz=>z);unfold mG at this;rw[aa,ry]at this;exact this
  .simp only[gy];exact dp _ _ (rfl,aa,rfl)
 intro fG H1 (rfl,aa,rfl);unfold mG at q;rw[aa]at q;nofun;refine(_,Uv T cc,_,ke T cc,_,rfl,_,P' T aq,_,rW T m_,_,rfl,_,_,rfl,az.of eC,_,cv (by rw[dg,il];rfl),_,rfl,_,rfl,?_);by_cases br:aj.bI<r.ah
 .rw[if_pos (decide_eq_true br)];rw[decide_eq_true br,nN,mR]at q;cases own with
  |true=>
   rw[if_pos rfl];rw[nN]at q;exact(_,_,cc,o7 _ _ _ _ _ _ _ _ ∅,cx,k,aH,aF,a9,aj,c,n,ds,rows,rfl,hJ,cU,s0,g7,c6,aK,λI s1 cP=>(_,rfl,q I s1 cP))
  |false=>
   rw[if_neg fX];rw[om]at q;exact q _ (aN.refl _) (λz=>z)
 .rw [if_neg (by simpa using br)];rw[decide_eq_false br,om,om,mR]at q;exact q _ (aN.refl _) (λz=>z)
noncomputable def iT(n:Int)(ds:List bf)(rows:List ST)(s:dy)(m:List Str):dy:=if s.cQ<cp n ds rows s.lf s.bt then s else {s with bq:=some s.bt,bI:=1,wt:=s.wt.filter λx=>!decide (x∈m)}
def aa4(ys:List Str)(x:Str):tf (gS ys) (cz x)=gS (ys.filter λy=>decide (y≠x)):=by
 unfold tf gS;rw[List.filter_map];congr 1;refine alK λy _=>?_
 show decide ((cz y:Key)≠cz x)=decide (y≠x);exact decide_eq_decide.mpr (λz e=>z (by rw[e]),λz e=>z (u1 e))
def afp{ms wt:List Str}{x:Str}(ag:ms[i]?\x):(wt.filter λy=>!decide (y∈ms.take (i+1)))=(wt.filter λy=>!decide (y∈ms.take i)).filter λy=>decide (y≠x):=by
 rw[k5 ag,List.filter_filter];refine alK λy _=>?_
 rw[l6];simp;exact(λz=>(z.2,z.1),λz=>(z.2,z.1))
def ajD(P:Program)(w:World)(t:bS):bO:=λvs H Q _=>∃cx k aH aF a9 s c n ds rows r,vs=[⇑k]/\fv t H k aH aF a9 s/\fJ P w t cx aH c n ds rows/\aN cx H/\cx k=none/\cx aF=none/\cx a9=none/\s.lf<↑rows/\rows[s.bt]?\r/\s.lf≠s.bt/\↑r.mem<=12/\aL H/\∀I,hM k aF a9 H I->aL I->fv t I k aH aF a9 (iT n ds rows s r.mem)->Q .cf I
def VA:cq P base T 2 t.Dt t.HK ["self"] (ajD P w t):=by
 refine cA (zb T) λqK=>?_;exists T.Vg.ok UD,9
 let(cx,k,aH,aF,a9,aj,c,n,ds,rows,r,rfl,hJ,cU,s0,jn,g7,h1,rZ,il,ck,nQ,bC,q):=h;let(eL,aA,cc,dX,gT):=id hJ;let(iS,le,mo,cG,so,aS,ch,ms,kvs,aq,C,bV,eC,gn,eB,hh,km,jF):=id (cU.same s0);have bR:=i' ao;refine(_,(db (d4 (dh ir (bB (U 0) rfl) (b3 qK ao T.xm T.uF.bo T.zk (ai (bB (U 0) rfl) (ai (bB (U 0) rfl) (ai (bB (U 0) rfl) aC)))) (cL _)) (a4 aes) en)
   (db (fC (U 0) (bB (U 0) rfl) rfl)
   (db (fC (U 0) aT rfl)
   (a4 (fP fV rfl (e6 (bZ c8 (bB (bB (U 0) rfl) rfl) (bB (U 0) rfl))) (b8 (i:=1) UD.aG) (a4 (ea (agw (bB (U 0) rfl) (U 1) u0 (rfl,rfl,rfl,rfl))))))))),?_)
 simp only[dT];refine sl (λau I=>I=H/\¬aj.cQ<cp n ds rows aj.lf aj.bt/\au=[~~~k,none]) (λgQ dp oK _ _=>?_) ?_
 .refine du (decide (aj.cQ<cp n ds rows aj.lf aj.bt)) (λQ' aY=>?_) (λaa=>?_) (λaa=>?_)
  .nofun;refine(_,LF T cc,_,ke T cc,_,Kw T cc,_,zj T cc,aH,c,n,ds,rows,aj.lf,aj.bt,_,_,rfl,cU.same s0,a6 rZ,il,ck,bC,λv aE=>(_,rfl,_,rfl,?_));rw[BF (a6 rZ) il aE]at aY;exact aY
  .nofun;rw[oK];refine q H (hM.of (aN.refl H)) bC ?_;unfold iT;rw[if_pos (of_decide_eq_true aa)];exact hJ
  .simp only[gy];exact dp _ _ (rfl,of_decide_eq_false aa,rfl)
 intro fG H1 (rfl,aa,rfl);unfold iT at q;rw[if_neg aa]at q;simp only[dT];exists (λau I=>hM k aF a9 H1 I/\aL I/\fv t I k aH aF a9 {aj with bq:=some aj.bt}/\au=[~~~k,none]),2
 .nofun;refine⟨_,zj T cc,_,_,_,cc,T.fD,T.CM,by rw[<- aX (f:=(·.1)),jP];decide,?_⟩;rw[VF];exact dp _ _ (λb u ae _ _ e=>by rw[aP ae];exact e,bC.upd,(eL,aA,aR,by rw[aP (cC dX cc (by intro z;cases z))];exact dX,by rw[aP (cC gT cc (by intro z;cases z))];exact gT),rfl)
 intro cD aw (gR,cW,(_,yp,a1,a2,dH),rfl);subst aV;simp only[dT];exists (λau I=>hM k aF a9 H1 I/\aL I/\fv t I k aH aF a9 {aj with bq:=some aj.bt,bI:=1}/\au=[~~~k,none]),2
 .nofun;refine⟨_,_,_,a1,T.fD,T.Uf,by rw[<- aX (f:=(·.1)),jP];decide,?_⟩;rw[Xv];exact dp _ _ (λb u ae ak aZ e=>by rw[aP ae];exact gR _ _ ae ak aZ e,cW.upd,(eL,yp,aR,by rw[aP (cC a2 a1 (by intro z;cases z))];exact a2,by rw[aP (cC dH a1 (by intro z;cases z))];exact dH),rfl)
 intro gi ba (hN,dw,s6,rfl);let(_,Qt,ee,eo,ft):=id s6;have s3:aN cx ba:=hN.Ak s0 jn g7 h1;let(Yt,arU,arz,arb,apI,i9,Ew,rG,arL,wG,_,_,_,XM,_):=id cU;have f1:=s3 _ _ wG;have fq:=XM.same s3;have Qz:(rows.map (·.mem))[aj.bt]?\r.mem:=by rw[dg,il];rfl
 have yu:aj.bt<↑rG:=by rw[fq.ln];exact(b0.mp Qz).1
 have hm:=a6 yu;have VX:=XM.al _ _ _ hm Qz;have em:=s3 _ _ VX;subst aV;nofun;refine(_,ke T ee,_,rfl,_,BI T f1,_,zj T ee,_,rfl,_,_,rfl,az.of fq.at_,_,cv (by rw[dg,hm];rfl),_,rfl,(_,az.of em),?_);refine ed.list (xs:=a3 r.mem) (λi σ I=>hM k aF a9 H1 I/\aL I/\fv t I k aH aF a9 {aj with bq:=some aj.bt,bI:=1,wt:=aj.wt.filter λy=>!decide (y∈r.mem.take i)}/\∃y,σ=[~~~k,y]) ?_ ?_ ?_ ?_
 .refine (hN,dw,?_,_,rfl);rw[show(aj.wt.filter λy=>!decide (y∈r.mem.take 0))=aj.wt by simp];exact s6
 .rintro i σ I ah bj;ac_rfl
  let(dD,_,_,_):=bj;subst aV;exact az.of (dD.Ak s0 jn g7 h1 _ _ VX)
 .rintro i v σ I aE bj;ac_rfl
  let(dD,di,(_,H0,aW,bJ,iW),y,rfl):=bj;subst aV;unfold a3 at aE;let(x,ag,rfl):=b_ aE;have Pm:=afp (wt:=aj.wt) ag;nofun;refine(_,yf T aW,_,rfl,.inl (_,.inl bJ),_,bJ,cz x,rfl,λv aE=>?_,λaE=>?_)
  .refine (λb u ae ak aZ e=>by rw[aP ak];exact dD _ _ ae ak aZ e,di.upd,?_,_,rfl);refine(eL,H0,by rw[aP (cC aW bJ (by intro z;cases z))];exact aW,?_,by rw[aP (et eL)];exact iW);rw[aR,aa4,<- Pm]
  .refine⟨dD,di,?_,_,rfl⟩;have Oa:x∉aj.wt.filter fun y=>!decide (y∈r.mem.take i):=fun z=>by
    have:=ajn (aj.wt.filter λy=>!decide (y∈r.mem.take i)) x;rw[aE,decide_eq_true z]at this;cases this
   have m2:(aj.wt.filter λy=>!decide (y∈r.mem.take i)).filter (λy=>decide (y≠x))=aj.wt.filter λy=>!decide (y∈r.mem.take i):=ajf.mpr λy aM=>decide_eq_true (show y≠x from λz=>Oa (by rw[<- z];exact aM))
   rw[Pm,m2];exact(eL,H0,aW,bJ,iW)
 .rintro σ I bj;ac_rfl
  let(dD,di,tN,y,rfl):=bj;subst aV;rw[fE,i5]at tN;nofun;exact q I dD di tN
noncomputable def f5(s:dy)(i j:Nat)(so:Str):dy:={s with bq:=none,lf:=i,bt:=j,cQ:=0,pt:=if so=dc then(j:Int)else s.pt,po:=if so=dc then s.po else(j:Int)}
def aic(P:Program)(w:World)(t:bS):bO:=λvs H Q _=>∃cx k aH aF a9 s c n ds rows,∃i j:Nat,∃r,vs=[⇑k,.int (j:Nat)]/\fv t H k aH aF a9 s/\s.bq\i/\fJ P w t cx aH c n ds rows/\aN cx H/\cx k=none/\cx aF=none/\cx a9=none/\i<↑rows/\rows[j]?\r/\i≠j/\↑r.mem<=12/\(c0 ds r=dc\/c0 ds r=iN)/\aL H/\∀I,hM k aF a9 H I->aL I->fv t I k aH aF a9 (iT n ds rows (f5 s i j (c0 ds r)) r.mem)->Q .cf I
def ami:cq P base T 3 t.AA t.MW AQ (aic P w t):=by
 refine cA (VA T) λLp=>?_;exists T.TN.ok aoj,9
 let(cx,k,aH,aF,a9,aj,c,n,ds,rows,i,j,r,rfl,hJ,hj,cU,s0,jn,g7,h1,iM,d6,lq,nQ,pI,bC,q):=h;let(eL,aA,cc,dX,gT):=id hJ;let(iS,le,mo,cG,so,aS,ch,ms,kvs,aq,C,bV,eC,gn,eB,hh,km,jF):=id (cU.same s0);have bR:=i' ao;refine(_,(db (wh bR (bB (U 0) rfl) (bZ c8 (bB (bB (U 0) rfl) rfl) (U 1)) (U 1) rfl)
   (db (fC (U 0) (bB (U 0) rfl) rfl)
   (db (fC (U 0) (U 1) rfl)
   (db (fC (U 0) aT rfl)
   (db (fC (U 0) u0 rfl)
   (a4 (ea (kQ (U 0) T.fD T.Qk Lp ao T.Wh .nil c3)))))))),?_)
 exists (λau I=>hM k aF a9 H I/\aL I/\fv t I k aH aF a9 {aj with pt:=if c0 ds r=dc then(j:Int)else aj.pt,po:=if c0 ds r=dc then aj.po else(j:Int)}/\au=[~~~k,some (.int (j:Nat))]),5
 .nofun;refine(_,Iw T cc,_,ke T cc,_,rfl,_,oq T aq,_,rfl,_,az.of eB,_,cv (oe (by rw[dg,d6];rfl)),_,rfl,_,l_.k (k:=cz (c0 ds r)) gT (hO (show ↑(mU aj.pt aj.po)<=2 from bQ 2) ∅),dp _ _ (λb u _ _ aZ e=>by rw[aP aZ];exact e,bC.upd,(eL,aA,by rw[aP (cC cc gT (by intro z;cases z))];exact cc,by rw[aP eL];exact dX,by rw[aR,WY pI]),rfl))
 intro fG H1 (dt,cP,(_,ez,a1,ee,aW),rfl);have RT:=a1;subst aV;rw[show({aj with pt:=if c0 ds r=dc then(j:Int)else aj.pt,po:=if c0 ds r=dc then aj.po else(j:Int)}:dy).bq\i from hj]at RT;exists (λau I=>hM k aF a9 H I/\aL I/\fv t I k aH aF a9 {aj with pt:=if c0 ds r=dc then(j:Int)else aj.pt,po:=if c0 ds r=dc then aj.po else(j:Int),lf:=i}/\au=[~~~k,some (.int (j:Nat))]),5
 .nofun;refine⟨_,rW T RT,_,_,_,a1,T.fD,T.I7,by rw[<- aX (f:=(·.1)),jP];decide,?_⟩;rw[show rF (some i)=V.int (i:Nat)from rfl,ahC];exact dp _ _ (λb u ae ak aZ e=>by rw[aP ae];exact dt _ _ ae ak aZ e,cP.upd,(eL,ez,aR,by rw[aP (cC ee a1 (by intro z;cases z))];exact ee,by rw[aP (cC aW a1 (by intro z;cases z))];exact aW),rfl)
 intro cD aw (gR,cW,(_,eS,a2,eo,bJ),rfl);subst aV;exists (λau I=>hM k aF a9 H I/\aL I/\fv t I k aH aF a9 {aj with pt:=if c0 ds r=dc then(j:Int)else aj.pt,po:=if c0 ds r=dc then aj.po else(j:Int),lf:=i,bt:=j}/\au=[~~~k,some (.int (j:Nat))]),5
 .nofun;refine⟨_,_,_,a2,T.fD,T.JV,by rw[<- aX (f:=(·.1)),jP];decide,?_⟩;rw[ab_];exact dp _ _ (λb u ae ak aZ e=>by rw[aP ae];exact gR _ _ ae ak aZ e,cW.upd,(eL,eS,aR,by rw[aP (cC eo a2 (by intro z;cases z))];exact eo,by rw[aP (cC bJ a2 (by intro z;cases z))];exact bJ),rfl)
 intro gi ba (hN,dw,(_,Zd,dH,ft,iW),rfl);subst aV;exists (λau I=>hM k aF a9 H I/\aL I/\fv t I k aH aF a9 {aj with pt:=if c0 ds r=dc then(j:Int)else aj.pt,po:=if c0 ds r=dc then aj.po else(j:Int),lf:=i,bt:=j,cQ:=0}/\au=[~~~k,some (.int (j:Nat))]),5
 .nofun;refine⟨_,_,_,dH,T.fD,T.BU,by rw[<- aX (f:=(·.1)),jP];decide,?_⟩;rw[O5];exact dp _ _ (λb u ae ak aZ e=>by rw[aP ae];exact hN _ _ ae ak aZ e,dw.upd,(eL,Zd,aR,by rw[aP (cC ft dH (by intro z;cases z))];exact ft,by rw[aP (cC iW dH (by intro z;cases z))];exact iW),rfl)
 intro kE cn (dD,di,(_,BO,iF,gP,yN),rfl);subst aV;exists (λau I=>hM k aF a9 H I/\aL I/\fv t I k aH aF a9 {aj with pt:=if c0 ds r=dc then(j:Int)else aj.pt,po:=if c0 ds r=dc then aj.po else(j:Int),lf:=i,bt:=j,cQ:=0,bq:=none}/\au=[~~~k,some (.int (j:Nat))]),5
 .nofun;refine⟨_,_,_,iF,T.fD,T.CM,by rw[<- aX (f:=(·.1)),jP];decide,?_⟩;rw[VF];exact dp _ _ (λb u ae ak aZ e=>by rw[aP ae];exact dD _ _ ae ak aZ e,di.upd,(eL,BO,aR,by rw[aP (cC gP iF (by intro z;cases z))];exact gP,by rw[aP (cC yN iF (by intro z;cases z))];exact yN),rfl)
 intro qP cR (el,eM,Ex,rfl);let(_,aqn,apt,_,_):=id Ex;subst aV;nofun;exact(_,_,apt,o7 _ _ _ _ _ _ _ _ ∅,cx,k,aH,aF,a9,_,c,n,ds,rows,r,rfl,Ex,cU,el.Ak s0 jn g7 h1,jn,g7,h1,iM,d6,lq,nQ,eM,λI eP d0 tV=>q I (el.trans eP) d0 tV)
noncomputable abbrev ali:Str:=af "Keeper.pick"++af ".<locals>."++af "<lambda>"
def amJ:wR "number" "many" "last" (TU (W2 (fI (top 74) 10))):=(rfl,rfl,rfl,∅,rfl,rfl,rfl,∅,∅)
noncomputable abbrev jZ(bP:Addr)(H:av):Prop:=Tab H bP (PV (W2 (fI (top 74) 10))) ali
noncomputable def bL(ds:List bf)(rows:List ST)(j:Nat):Str:=((rows[j]?).map (c0 ds)).getD (af "")
noncomputable def m4(rows:List ST)(x:Str):Nat:=(gO rows x).getD 0
noncomputable def jJ(rows:List ST)(s:dy):List Nat:=s.wt.map (m4 rows)
noncomputable def kp(ds:List bf)(rows:List ST)(s:dy)(i:Nat):List Nat:=(jJ rows s).filter λj=>!decide (bL ds rows j=bL ds rows i)
noncomputable def gg(ds:List bf)(rows:List ST)(s:dy)(i:Nat):List Nat:=if(kp ds rows s i).isEmpty then jJ rows s else kp ds rows s i
noncomputable def m1(ds:List bf)(rows:List ST)(s:dy)(ch:List Nat):Int:=if bL ds rows (ch.headD 0)=dc then s.pt else s.po
noncomputable def kh(last many m:Int):Int:=(m-last-1)%many
def sG(ds:List bf)(rows:List ST)(s:dy)(i j:Nat):Prop:=j∈gg ds rows s i/\∀eO∈gg ds rows s i,kh (m1 ds rows s (gg ds rows s i)) ↑rows j<=kh (m1 ds rows s (gg ds rows s i)) ↑rows eO
def ae3(P:Program)(w:World)(t:bS)(bP:Addr):bO:=λvs H Q _=>∃cx k aH aF a9 s c n ds rows,∃i:Nat,vs=[⇑k]/\fv t H k aH aF a9 s/\s.bq\i/\i<↑rows/\fJ P w t cx aH c n ds rows/\aN cx H/\cx aF=none/\(∀x∈s.wt,told rows x=true)/\s.wt≠[]/\↑s.wt<=12/\(∀r∈rows,c0 ds r=dc\/c0 ds r=iN)/\jZ bP H/\aL H /\
 ∀(j:Nat) I,iy bP H I->aL I->jZ bP I->sG ds rows s i j->Q (.int j) I
def aeD{rows:List ST}{x:Str}(h:told rows x=true):m4 rows x<↑rows:=by
 let(j,r,aJ,ax,j3,_):=oL h;unfold m4;rw[ax];exact(b0.mp j3).1
def A6{rows:List ST}(h:∀x∈s.wt,told rows x=true):∀j∈jJ rows s,j<↑rows:=λj aJ=>by
 let(x,ag,rfl):=cj.mp aJ;exact aeD (h x ag)
def xk{rows:List ST}(h:∀x∈s.wt,told rows x=true):∀j∈gg ds rows s i,j<↑rows:=λj aJ=>by
 unfold gg at aJ;split at aJ
 .exact A6 h j aJ
 .exact A6 h j (j1.mp aJ).1
def XL{rows:List ST}(h:s.wt≠[]):gg ds rows s i≠[]:=by
 unfold gg;split
 .unfold jJ;simpa using h
 .rename_i ae;simpa using ae
def rL{rows:List ST}(h:j<↑rows):(rows.map (c0 ds))[j]?\(bL ds rows j):=by
 unfold bL;rw[dg,a6 h];rfl
noncomputable def bH(mJ:List Nat):List V:=mJ.map λj=>V.int (j:Nat)
def TD(mJ:List Nat):bH mJ=o3 V.int (mJ.map λj=>((j:Nat):Int)):=by
 unfold bH;rw[rE];rfl
theorem Ck(p:Nat->Bool):∀xs:List Nat,((xs.map λx=>if p x=true then some (V.int (x:Nat))else none).flatMap xe)=bH (xs.filter p)
 |[]=>rfl
 |x::xs=>by
  rw[fz,xr,Ck p xs];cases h:p x <;> simp[bH,h]
theorem aav(dv:ml base t.rY bP)(gX:base.BuiltinsAt mg bP):cq P base T 2 t.Bh t.EV ["self"] (ae3 P w t bP):=by
 have G3:=T.acM;refine T.Xo.WD uV (λvs H Q E h=>?_) (λfZ jY A outer s H vs Q E ao h=>?_)
 .let(cx,k,aH,aF,a9,aj,c,n,ds,rows,i,rfl,_):=h;rfl
 let(cx,k,aH,aF,a9,aj,c,n,ds,rows,i,rfl,(eL,aA,cc,dX,gT),hj,iM,cU,s0,g7,c6,ck,aK,pI,bF,bC,q):=h;let(iS,le,mo,cG,so,aS,ch,ms,kvs,aq,C,bV,eC,gn,eB,hh,km,jF):=id cU;have bR:=i' ao;refine(_,(db (aa6 (uo (i:=1) uV.aG rfl (n0 rfl) rfl (Q0 (bB (U 0) rfl)) (f_ (sc:=bx (fI (top 74) 10)) rfl ∅) (N:=B_) (sel:=[none,some 0]) (f7 (M:=ND) ∅) (fa.of (λ_ _ _ _=>(b8 (i:=0) (ec (N:=B_) ∅ rfl))) (λ_ _ _ _=>(_,hT,by walk_at "B")) (λ_ _ _ _=>(_,(p9 bR (bB (bB (U 1) rfl) rfl) (U 0) (λ_ _=>rfl)),by walk_at "B"))) rfl))
   (db (o1 (i:=2) uV.aG rfl (mh rfl) (bZ c8 (bB (bB (U 0) rfl) rfl) (bB (U 0) rfl)))
   (db (uo (i:=3) uV.aG rfl (n0 rfl) rfl (e6 (U 1)) (f_ (sc:=bx (fI (top 74) 10)) rfl ∅) (N:=["number","self","same"]) (sel:=[none,some 0,some 2]) (f7 (M:=ND) ∅) (fa.of (λ_ _ _ _=>(b8 (i:=0) (ec (N:=["number","self","same"]) ∅ rfl))) (λ_ _ _ _=>(_,(uc (dh og (bZ c8 (bB (bB (U 1) rfl) rfl) (U 0)) (U 2) (cL _))),by walk_at "B")) (λ_ _ _ _=>(_,(U 0),by walk_at "B"))) rfl)
   (db (b' (i:=4) uV.aG (tP (Fi (U 3) (λ_=>rfl)) (U 3) (U 1)))
   (db (o1 (i:=5) uV.aG rfl (mh rfl) (p9 bR (bB (U 0) rfl) (bZ c8 (bB (bB (U 0) rfl) rfl) (bZ c8 (U 4) aT)) (λ_ _=>rfl)))
   (db (o1 (i:=6) uV.aG rfl (mh rfl) (bB (bB (U 0) rfl) rfl))
   (a4 (b7 (alo (pr:="number") (y:="many") (z:="last") (i1:=6) (i2:=5) rfl rfl T.aik (ai (U 4) aC) (jY.symm.trans G3,dv,gX) ao amJ rfl rfl rfl rfl rfl rfl rfl rfl (λ_ _ _ _=>rfl) (λ_ _ _ _=>(_,(bN jN (bN mz (bN mz (U 0) (U 2)) aT) (U 1)),by first|rfl|(dsimp only[pV];done)|(dsimp only[pV];exact rfl)))))))))))),?_)
 simp only[dT];exists (λau I=>aN H I/\aL I/\∃wp,H wp=none/\I wp\(.lst (bH (jJ rows aj)))/\au=[~~~k,~~~wp,none,none,none,none,none]),2
 .nofun;refine(aF,_,dX,_,yf T cc,_,rfl,_,dX,λo=>?_);have ht:↑(gS aj.wt)=↑aj.wt:=by unfold gS;rw[aX]
  have hx:aN cx (upd H aF (.eX o (.b2 (gS aj.wt)))):=λb u e=>by rw[aP (dm e g7)];exact s0 _ _ e
  have Fe:(upd H aF (.eX o (.b2 (gS aj.wt)))) k\(.ins t.dB aA (fO aH (rF aj.bq) aj.bI aj.lf aj.bt aj.cQ aF a9)):=by rw[aP (cC cc dX (by intro z;cases z))];exact cc
  have m3:(upd H aF (.eX o (.b2 (gS aj.wt)))) aF\(.eX o (.b2 (gS aj.wt))):=aR;refine cY.R' (zs:=bH (jJ rows aj)) m3 (by rw[ht];exact cM aK ∅) (by unfold bH jJ;rw[aX,aX,ht]) (λjf ams v z N ax aQ bl=>?_) (λp ar=>?_)
  .unfold gS at ax;let(x,ag,ex):=b_ ax;cases ex;unfold bH jJ at aQ;let(eO,aa,rfl):=b_ aQ;let(eP,eD,rfl):=b_ aa;rw[ag]at eD;cases eD;let(j,r,aJ,e4,j3,_):=oL (c6 x (bU ag));have a7:=i4.k (k:=cz x) (hx _ _ hh);rw[aJ]at a7;have he:m4 rows x=j:=by unfold m4;rw[e4];rfl
   rw[he]at bl;nofun;exact(Sub.name,_,ke T Fe,_,rfl,_,xZ T (hx _ _ aq),_,rfl,_,a7,bl)
  .have j9:p≠aF:=λz=>by rw[z,m3]at ar;cases ar
   have En:H p=none:=by rw[aP j9]at ar;exact ar
   refine(o,by rw[aP (et j9)];exact m3,dp _ _ (λb u e=>?_,bC.upd.upd.upd,p,En,by rw[aP j9];exact aR,rfl));by_cases br:b=aF
   .subst br;rw[dX]at e;cases e;exact aR
   .rw [aP br,aP (dm e En),aP br];exact e
 intro fG H1 (s1,cP,wp,ar5,dN,rfl);subst aV;simp only[dT];exists (λau I=>I=H1/\au=[~~~k,~~~wp,some (.str (bL ds rows i)),none,none,none,none]),2
 .nofun;have m_:=s1 _ _ cc;rw[hj]at m_;exact(_,ke T m_,_,rfl,_,oq T (s1 _ _ (s0 _ _ aq)),_,rW T m_,_,rfl,_,_,rfl,az.of (s1 _ _ (s0 _ _ eB)),_,cv (oe (rL iM)),dp _ _ (rfl,rfl))
 intro cD aw (rfl,rfl);subst aV;simp only[dT];exists (λau I=>aN aw I/\aL I/\∃op,aw op=none/\I op\(.lst (bH (kp ds rows aj i)))/\au=[~~~k,~~~wp,some (.str (bL ds rows i)),~~~op,none,none,none]),2
 .nofun;refine((_,az.of dN),?_);refine cY.w1 (xs:=bH (jJ rows aj)) (ss:=(jJ rows aj).map λj=>if(!decide (bL ds rows j=bL ds rows i))=true then some (V.int (j:Nat))else none) (az.of dN) (by unfold bH jJ;rw[aX,aX];exact cM aK ∅) (by unfold bH;rw[aX,aX]) (λjf v o ys N aE aS bl=>?_) (λl zD=>?_)
  .unfold bH at aE;let(j,aJ,rfl):=b_ aE;let(eO,h5,rfl):=b_ aS;rw[aJ]at h5;cases h5;have fL:=A6 c6 j (bU aJ);nofun;refine(Sub.name,_,ke T (s1 _ _ cc),_,rfl,_,oq T (s1 _ _ (s0 _ _ aq)),_,rfl,_,az.of (s1 _ _ (s0 _ _ eB)),_,cv (oe (rL fL)),rfl,?_);by_cases br:bL ds rows j=bL ds rows i
   .rw [if_neg (by rw[br,decide_eq_true rfl];exact fX)];simp[br]at bl;exact bl
   .rw [if_pos (by rw[decide_eq_false (λz=>br (by injection z))];rfl)];simp[br]at bl;exact bl
  .rw [Ck];exact dp _ _ (bh zD,cP.upd,l,zD,aR,rfl)
 intro gi ba (s3,dw,op,aqU,Tw,rfl);have ij:=s3 _ _ dN;subst aV;simp only[dT];exists (λau I=>I=ba/\∃xl,ba xl\(.lst (bH (gg ds rows aj i)))/\au=[~~~k,~~~wp,some (.str (bL ds rows i)),~~~op,~~~xl,none,none]),2
 .nofun;refine(!(kp ds rows aj i).isEmpty,.inl (_,az.of Tw,?_),?_)
  .unfold bH;cases kp ds rows aj i <;> rfl
  .cases X4:(kp ds rows aj i).isEmpty with
   |true=>
    rw[if_neg (by rw[ajz];exact fX)];exact dp _ _ (rfl,wp,by unfold gg;rw[if_pos X4];exact ij,rfl)
   |false=>
    rw[if_pos (by rfl)];exact dp _ _ (rfl,op,by unfold gg;rw[if_neg (by rw[X4];exact fX)];exact Tw,rfl)
 intro kE cn (rfl,xl,yN,rfl);subst aV;simp only[dT];exists (λau I=>I=cn/\au=[~~~k,~~~wp,some (.str (bL ds rows i)),~~~op,~~~xl,some (.int (m1 ds rows aj (gg ds rows aj i))),none]),2
 .nofun;have VR:=s3 _ _ (s1 _ _ cc);have jL:∀{b u},cx b\u->cn b\u:=λe=>s3 _ _ (s1 _ _ (s0 _ _ e))
  let(zG,l4,gV):=qe (XL (ds:=ds) (rows:=rows) (i:=i) ck);have qM:zG<↑rows:=xk c6 zG (by rw[gV];exact .head _);have nF:=rL (ds:=ds) qM;have aah:bL ds rows zG=dc\/bL ds rows zG=iN:=by
   unfold bL;rw[a6 qM];exact pI _ (gf qM)
  have vk:=amP (a:=aj.pt) (b:=aj.po) aah;have a7:=i4.k (k:=cz (bL ds rows zG)) (s3 _ _ (s1 _ _ gT));rw[vk]at a7;refine(_,Iw T VR,_,ke T VR,_,rfl,_,oq T (jL aq),_,az.of yN,_,cv (j:=0) (by rw[gV];rfl),_,rfl,_,_,rfl,az.of (jL eB),_,cv (oe nF),_,rfl,_,a7,dp _ _ (rfl,?_));unfold m1;rw[gV];rfl
 intro qP cR (rfl,rfl);subst aV;simp only[dT];exists (λau I=>I=cR/\au=[~~~k,~~~wp,some (.str (bL ds rows i)),~~~op,~~~xl,some (.int (m1 ds rows aj (gg ds rows aj i))),some (.int ↑rows)]),2
 .nofun;exact(_,ke T (s3 _ _ (s1 _ _ cc)),_,rfl,_,qt T (s3 _ _ (s1 _ _ (s0 _ _ aq))),dp _ _ (rfl,rfl))
 intro nt f3 (rfl,rfl);subst aV;nofun;have agv:jZ bP f3:=(bF.step s1).step s3;refine((gg ds rows aj i).map λj=>((j:Nat):Int),az.of (by rw[<- TD];exact yN),by simpa using XL (ds:=ds) (rows:=rows) (i:=i) ck,agv,kh (m1 ds rows aj (gg ds rows aj i)) ↑rows,λaw bw acy qE=>(λn a8=>((),rfl),λjf m hm aa=>?_));rw[dg]at hm;let(j,aJ,rfl):=yc.mp hm;refine q j aw (λb u d_ e=>bw _ _ d_ (s3 _ _ (s1 _ _ e))) (acy dw) qE (bU aJ,λeO h5=>?_);let(x,ag,ex):=CA h5;exact(aa x (eO:Int) (by rw[dg,a6 ag,ex];rfl)).1
def hz(H I:av):Prop:=∀b o,(∀ps,o≠gb.hF ps)->H b\o->I b\o
def wE(bF:Tab H bP pos q)(s:iy bP H I):hz H I:=λb o n e=>s b o (bF.ne e n) e
def aeP(s:aN H I):hz H I:=λb o _ e=>s b o e
def hz.trans(a:hz H H1)(b:hz H1 aw):hz H aw:=λc o n h=>b c o n (a c o n h)
theorem hz.lst(s:hz H I)(e:H b\(.lst xs)):I b\(.lst xs):=s b _ (λ_ z=>by cases z) e
theorem hz.tup(s:hz H I)(e:H b\(.tup xs)):I b\(.tup xs):=s b _ (λ_ z=>by cases z) e
theorem hz.ins(s:hz H I){a5:List (Str×V)}(e:H b\(.ins C aA a5)):I b\(.ins C aA a5):=s b _ (λ_ z=>by cases z) e
theorem hz.b2(s:hz H I)(e:H b\(.b2 kvs)):I b\(.b2 kvs):=s b _ (λ_ z=>by cases z) e
def ad.nB{t:bS}(h:ad t H c n ds)(s:hz H I):ad t I c n ds:=by
 let(h0,aA,wl,aG,aq,(as,dN,eH,al),bV):=h;refine(h0,aA,wl,aG,s.ins aq,(as,s.lst dN,eH,λi b d aa hd=>?_),s.b2 bV);let(k,alF,fe):=al i b d aa hd;exact(k,alF,s.ins fe)
theorem fJ.nB{w:World}{t:bS}{rows:List ST}(h:fJ P w t H a c n ds rows)(s:hz H I):fJ P w t I a c n ds rows:=by
 let(aA,le,mo,cG,so,aS,ch,ms,kvs,aq,aD,bV,eC,gn,eB,hh,(o,aU,cu,xs,r),jF):=h;exact(aA,le,mo,cG,so,aS,ch,ms,kvs,s.ins aq,aD.nB s,s.lst bV,s.lst eC,(s.lst gn.at_,gn.ln,λi m x a b=>s.lst (gn.al i m x a b)),s.lst eB,s.b2 hh,
  (o,aU,cu,xs,s _ _ (λ_ z=>by cases z) r.at_,r.ex,r.dat,r.ent,r.aG,Paired.sy r.bG λp q z=>(z.1,s.tup z.2.1,z.2.2),r.pA,r.ns),jF)
noncomputable def KB(H:av):av:=λb=>match H b with
 |some (.hF _)=>none
 |o=>o
def akb(bF:Tab H bP pos q):KB H bP=none:=by
 let(ps,e,_):=bF;unfold KB;rw[e]
def JS(h:H b=none):KB H b=none:=by
 unfold KB;rw[h]
def anI(H:av):aN (KB H) H:=λb u e=>by
 unfold KB at e;split at e
 .cases e
 .exact e
set_option tactic.hygienic true in
def El(H:av):hz H (KB H):=λb u n e=>by
 unfold KB;split
 .rename_i ps h;rw[h]at e;cases e;exact absurd rfl (n ps)
 .exact e
structure ql(ds:List bf)(rows:List ST):Prop where
 c7:∀d∈ds,told rows d.name=true
 gY:∀r∈rows,↑r.mem<=12
 so:∀r∈rows,c0 ds r=dc\/c0 ds r=iN
 dl:↑ds<=12
structure kA(ds:List bf)(rows:List ST)(s:dy):Prop where
 wn:s.wt.Nodup
 aF:∀x∈s.wt,x∈ds.map (·.name)
 bq:∀i,s.bq\i->i<↑rows/\∀x∈s.wt,gO rows x≠some i
 ch:s.bq=none->s.lf<↑rows/\s.bt<↑rows/\s.lf≠s.bt
theorem kA.told{rows:List ST}(k:kA ds rows s)(R:ql ds rows):∀x∈s.wt,told rows x=true:=λx ag=>by
 let(d,hd,rfl):=cj.mp (k.aF x ag);exact R.c7 d hd
def kA.len{rows:List ST}(k:kA ds rows s)(R:ql ds rows):↑s.wt<=12:=by
 have:=k.wn.length_le_of_subset (l₂:=ds.map (·.name)) λx ag=>k.aF x ag
 rw[aX]at this;have:=R.dl;omega
def te(n:Int)(ds:List bf)(rows:List ST)(s:dy)(own:Bool)(aj:dy):Prop:=
 (s.bq=none/\∃r,rows[s.bt]?\r/\aj=iT n ds rows {s with cQ:=s.cQ+1} r.mem) \/
 (∃i r,s.bq\i/\rows[i]?\r/\mG ds rows s r own=true/\aj={s with bI:=s.bI+1}) \/
 (∃i r j hu,s.bq\i/\rows[i]?\r/\mG ds rows s r own=false/\sG ds rows s i j/\rows[j]?\hu/\aj=iT n ds rows (f5 s i j (c0 ds hu)) hu.mem)
def Pk{rows:List ST}(c6:∀x∈s.wt,told rows x=true)(h:j∈gg ds rows s i):∃x∈s.wt,gO rows x\j:=by
 have hm:j∈jJ rows s:=by
  unfold gg at h;split at h
  .exact h
  .exact (j1.mp h).1
 let(x,ag,rfl):=cj.mp hm;let(j,r,aJ,ax,j3,_):=oL (c6 x ag);refine(x,ag,?_);unfold m4;rw[ax];rfl
def O9{rows:List ST}(R:ql ds rows)(wn:s.wt.Nodup)(aF:∀x∈s.wt,x∈ds.map (·.name))(ay:s.bq=none)(aK:s.lf<↑rows)(ao:rows[s.bt]?\r)(ck:s.lf≠s.bt):kA ds rows (iT n ds rows s r.mem):=by
 have lL:s.bt<↑rows:=(b0.mp ao).1;unfold iT;split
 .exact (wn,aF,λi h=>(by rw[ay]at h;cases h),λ_=>(aK,lL,ck))
 .refine (wn.filter _,λx ag=>aF x (j1.mp ag).1,λi h=>?_,λh=>by cases h);cases h;refine(lL,λx ag e=>?_);have eD:=j1.mp ag;let(d,hd,nS):=cj.mp (aF x eD.1);let(j,d5,aJ,ax,j3,hm):=oL (R.c7 d hd);rw[nS]at ax hm;rw[ax]at e;cases e;rw[ao]at j3;cases j3;have:=eD.2;simp[hm]at this
def alV{rows:List ST}{own:Bool}(R:ql ds rows)(k:kA ds rows s)(h:te n ds rows s own aj):kA ds rows aj:=by
 rcases h with⟨ae,r,ao,rfl⟩|⟨i,r,ae,ao,_,rfl⟩|⟨i,r,j,hu,ae,ao,_,ar,aJ,rfl⟩
 .let(a,b,c):=k.ch ae;exact O9 (s:={s with cQ:=s.cQ+1}) R k.wn k.aF ae a ao c
 .exact (k.wn,k.aF,k.bq,k.ch)
 .let(a,b):=k.bq i ae;let(x,ag,ax):=Pk (k.told R) ar.1;refine O9 (s:=f5 s i j (c0 ds hu)) R k.wn k.aF rfl a aJ (λe=>?_);have e:i=j:=e;subst e;exact b x ag ax
def MT(k aF a9 bP:Addr)(H I:av):Prop:=∀b u,b≠k->b≠aF->b≠a9->b≠bP->H b\u->I b\u
def yT{t:bS}{k aH aF a9 bP:Addr}(hJ:fv t H k aH aF a9 s)(bF:Tab H bP pos q)(x:hM k aF a9 H I):Tab I bP pos q:=by
 let(_,aA,cc,dX,gT):=hJ;let(ps,e,d):=bF;refine(ps,x _ _ (cC e cc (by intro z;cases z)) (cC e dX (by intro z;cases z)) (cC e gT (by intro z;cases z)) e,?_);rcases d with d|⟨c',d,bD⟩
 .exact .inl d
 .exact .inr (c',d,x _ _ (cC bD cc (by intro z;cases z)) (cC bD dX (by intro z;cases z)) (cC bD gT (by intro z;cases z)) bD)
def fv.nB{t:bS}{k aH aF a9:Addr}(h:fv t H k aH aF a9 s)(x:hz H I):fv t I k aH aF a9 s:=by
 let(h0,aA,cc,dX,gT):=h;exact(h0,aA,x.ins cc,x.b2 dX,x.b2 gT)
def agg(P:Program)(w:World)(t:bS)(bP:Addr):bO:=λvs H Q _=>∃cx k aH aF a9 s c n ds rows own,vs=[⇑k,.bp own]/\fv t H k aH aF a9 s/\fJ P w t cx aH c n ds rows/\aN cx H/\cx k=none/\cx aF=none/\cx a9=none/\cx bP=none/\ql ds rows/\kA ds rows s/\jZ bP H/\aL H /\
 ∀aj I,te n ds rows s own aj->MT k aF a9 bP H I->aL I->jZ bP I->fv t I k aH aF a9 aj->Q .cf I
theorem ahD(dv:ml base t.rY bP)(gX:base.BuiltinsAt mg bP):cq P base T 4 t.Ds t.NW sS (agg P w t bP):=by
 refine cA (VA T) λLp=>cA (Zc T) λadV=>cA (ami T) λafZ=>cA (aav T dv gX) λaln=>?_;exists T.Qg.ok ahR,9
 let(cx,k,aH,aF,a9,aj,c,n,ds,rows,own,rfl,hJ,cU,s0,jn,g7,h1,JQ,R,ox,bF,bC,q):=h;let(eL,aA,cc,dX,gT):=id hJ;have bR:=i' ao;refine(_,(a4 (d4 (dh apb (bB (U 0) rfl) u0 (cL _)) (db (NR (U 0) aT HJ)
   (a4 (ea (kQ (U 0) T.fD T.Qk Lp ao T.Wh .nil c3)))) (a4 (d4 (lE (fK (U 0) T.fD T.akQ adV ao T.afL .nil c3 (ai (U 1) aC))) (a4 (NR (U 0) aT HJ)) (a4 (ea (fK (U 0) T.fD T.ai6 afZ ao T.ahX .nil c3 (ai (kQ (U 0) T.fD T.akC aln ao T.ajA .nil c3) aC)))))))),?_)
 cases hj:aj.bq with
 |none=>
  rw[hj]at cc;let(g1,g2,g3):=ox.ch hj;have TG:=a6 g2;nofun;refine du true (λQ aY=>?_) (λ_=>?_) (λaB=>nomatch aB)
  .nofun;exact(_,rW T cc,aY)
  simp only[dT];exists (λau I=>hM k aF a9 H I/\aL I/\fv t I k aH aF a9 {aj with cQ:=aj.cQ+1}/\au=[~~~k,some (.bp own)]),2
  .nofun;refine⟨_,_,_,cc,T.fD,T.BU,_,g4 lm 5 (jP ..) ∅ rfl,_,rfl,_,_,cc,by rw[<- aX (f:=(·.1)),jP];decide,?_⟩;rw[O5];exact dp _ _ (λb u ae _ _ e=>by rw[aP ae];exact e,bC.upd,(eL,aA,by rw[aR];exact congrArg (λz=>some (gb.ins t.dB aA (fO aH (rF z) aj.bI aj.lf aj.bt (aj.cQ+1) aF a9))) hj.symm,by rw[aP (cC dX cc (by intro z;cases z))];exact dX,by rw[aP (cC gT cc (by intro z;cases z))];exact gT),rfl)
  intro fG H1 (dt,cP,H',rfl);let(_,ez,a1,ee,aW):=id H';subst aV;nofun;exact(_,_,a1,o7 _ _ _ _ _ _ _ _ ∅,cx,k,aH,aF,a9,_,c,n,ds,rows,_,rfl,H',cU,dt.Ak s0 jn g7 h1,jn,g7,h1,g1,TG,g3,R.gY _ (gf g2),cP,λI eP d0 tV=>q _ I (.inl (hj,_,TG,rfl)) (λb u ae ak aZ _ e=>eP _ _ ae ak aZ (dt _ _ ae ak aZ e)) d0 (yT H' (yT hJ bF dt) eP) tV)
 | some i=>
  rw[hj]at cc;let(g1,g2):=ox.bq i hj;have il:=a6 g1;nofun;refine du false (λQ aY=>?_) (λaB=>nomatch aB) (λ_=>?_)
  .nofun;exact(_,rW T cc,aY)
  have c6:=ox.told R;have aK:=ox.len R;refine Ht (λb I=>aN H I/\aL I/\b=mG ds rows aj rows[i] own) (λQ' Am=>?_) ?_ ?_
  .nofun;exact(_,_,cc,o7 _ _ _ _ _ _ _ _ ∅,cx,k,aH,aF,a9,aj,c,n,ds,rows,i,_,own,rfl,hJ,hj,il,cU,s0,g7,c6,aK,λI s1 cP=>(_,rfl,Am _ _ (s1,cP bC,rfl)))
  .rintro H1 ⟨s1,cP,aa⟩;have m_:=s1 _ _ cc;nofun;refine⟨_,_,_,m_,T.fD,T.Uf,_,g4 lm 2 (jP ..) ∅ rfl,_,rfl,_,_,m_,by rw[<- aX (f:=(·.1)),jP];decide,?_⟩;rw[Xv];have dt:hM k aF a9 H (upd H1 k (.ins t.dB aA (fO aH (rF (some i)) (aj.bI+1) aj.lf aj.bt aj.cQ aF a9))):=fun b u ae _ _ e=>by rw[aP ae];exact s1 _ _ e
   exact q {aj with bI:=aj.bI+1} _ (.inr (.inl (i,_,hj,il,aa.symm,rfl))) (λb u ae ak aZ _ e=>dt _ _ ae ak aZ e) cP.upd (yT hJ bF dt) (eL,aA,by rw[aR];exact congrArg (λz=>some (gb.ins t.dB aA (fO aH (rF z) (aj.bI+1) aj.lf aj.bt aj.cQ aF a9))) hj.symm,by rw[aP (cC dX cc (by intro z;cases z))];exact s1 _ _ dX,by rw[aP (cC gT cc (by intro z;cases z))];exact s1 _ _ gT)
  .rintro H1 ⟨s1,cP,aa⟩;have m_:=s1 _ _ cc;have ck:aj.wt≠[]:=fun z=>by
    unfold mG at aa;rw[z]at aa;simp at aa
   nofun;refine(_,_,m_,o7 _ _ _ _ _ _ _ _ ∅,_,_,m_,o7 _ _ _ _ _ _ _ _ ∅,cx,k,aH,aF,a9,aj,c,n,ds,rows,i,rfl,hJ.same s1,hj,g1,cU,s0.trans s1,g7,c6,ck,aK,R.so,bF.step s1,cP,λj aw bw cW qE ar=>?_);have SE:=(hJ.same s1).nB (wE (bF.step s1) bw);let(x,ag,ax):=Pk c6 ar.1;have fL:=xk c6 j ar.1;have d6:=a6 fL;exact(cx,k,aH,aF,a9,aj,c,n,ds,rows,i,j,_,rfl,SE,hj,cU,λb u e=>bw _ _ (dm e JQ) ((s0.trans s1) _ _ e),jn,g7,h1,g1,d6,λe=>g2 x ag (by rw[ax,e]),R.gY _ (gf fL),R.so _ (gf fL),cW,λI eP d0 tV=>q _ I (.inr (.inr (i,_,j,_,hj,il,aa.symm,ar,d6,rfl))) (λb u ae ak aZ bY e=>eP _ _ ae ak aZ (bw _ _ bY (s1 _ _ e))) d0 (yT SE qE eP) tV)
noncomputable def g0(rows:List ST)(s:dy)(x:Str):Bool:=match s.bq with
 |some i=>decide (gO rows x\i)
 |none=>false
theorem T4(n:Int)(ds:List bf)(rows:List ST)(s:dy)(d:bf):decide (V.str (h2 n ds rows s d)=V.str (af "free"))=g0 rows s d.name:=by
 have ae:(V.str (af "stop"):V)≠V.str (af "free"):=λz=>absurd (V.str.inj z) ∅
 have ak:(V.str (af "fade"):V)≠V.str (af "free"):=λz=>absurd (V.str.inj z) ∅
 have aZ:(V.str (af "ready"):V)≠V.str (af "free"):=λz=>absurd (V.str.inj z) ∅
 unfold h2 g0;cases s.bq with
 | none=>
  show decide (V.str (wu n ds rows s d)=_)=false;unfold wu;split
  .exact decide_eq_false ak
  .split
   .exact decide_eq_false aZ
   .exact decide_eq_false ae
 |some i=>
  show decide (V.str (wg rows i d.name)=_)=decide (gO rows d.name\i);unfold wg;split
  .rename_i h;rw[decide_eq_true rfl,decide_eq_true h]
  .rename_i h;rw[decide_eq_false ae,decide_eq_false h]
noncomputable def ma(rows:List ST)(s:dy)(wt:List Str)(x:Str):List Str:=if g0 rows s x=true\/x∈wt then wt else wt++[x]
noncomputable def fM(rows:List ST)(s:dy)(wt:List Str)(xs:List Str):List Str:=xs.foldl (ma rows s) wt
noncomputable def hQ(rows:List ST)(s:dy)(xs:List Str):dy:={s with wt:=fM rows s s.wt xs}
def ZU(wt:List Str)(x:Str):eK (gS wt) (cz x) (.bp true)=gS (if x∈wt then wt else wt++[x]):=by
 unfold eK;have T6:((gS wt).any λdE=>decide (dE.1=cz x))=decide (x∈wt):=by
  rw[l6,decide_eq_true_eq,r1];constructor
  .intro (p,ar,ag);let(y,aM,rfl):=cj.mp ar;have:=u1 (of_decide_eq_true ag);rw[<- this];exact aM
  .exact λh=>((p'p (cz x) (V.bp true)),cj.mpr (x,h,rfl),decide_eq_true rfl)
 by_cases h:x∈wt
 .rw[if_pos (by rw[T6];exact decide_eq_true h),if_pos h];unfold gS;rw[rE];refine ZA λy _=>?_
  show(if(cz y:Key)=cz x then(p'p (cz y:Key) (V.bp true))else(p'p (cz y) (V.bp true)))=_;split <;> rfl
 .rw [if_neg (by rw[T6,decide_eq_false h];exact fX),if_neg h];unfold gS;rw[e'];rfl
def abu{ds:List bf}{rows:List ST}{s:dy}{wt:List Str}{x:Str}(ag:x∈ds.map (·.name))(k:kA ds rows {s with wt:=wt}):kA ds rows {s with wt:=ma rows s wt x}:=by
 unfold ma;split
 .exact k
 .rename_i h;have ae:x∉wt:=λz=>h (.inr z)
  refine(?_,λy aM=>?_,λi ah=>((k.bq i ah).1,λy aM=>?_),k.ch)
  .show (wt++[x]).Nodup;rw[Aa];exact(k.wn,by simp,λa aO b aa e=>by rw[d9.mp aa]at e;exact ae (e ▸ aO))
  .rcases eI.mp aM with aM|aM
   .exact k.aF y aM
   .rw [d9.mp aM];exact ag
  .rcases eI.mp aM with aM|aM
   .exact (k.bq i ah).2 y aM
   .rw [d9.mp aM];intro e;refine h (.inl ?_);have ah:s.bq\i:=ah;unfold g0;rw[ah];exact decide_eq_true e
theorem Hw{ds:List bf}{rows:List ST}{s:dy}:∀(xs wt:List Str),(∀x∈xs,x∈ds.map (·.name))->kA ds rows {s with wt:=wt}->kA ds rows {s with wt:=fM rows s wt xs}
 |[],_,_,k=>k
 |x::xs,wt,h,k=>Hw xs (ma rows s wt x) (λy aM=>h y (.tail _ aM)) (abu (h x (.head _)) k)
def Xq{rows:List ST}(h:∀x∈xs,x∈ds.map (·.name))(k:kA ds rows s):kA ds rows (hQ rows s xs):=Hw xs s.wt h k
def ad6(rows:List ST)(s:dy)(wt xs:List Str)(x:Str):fM rows s wt (xs++[x])=ma rows s (fM rows s wt xs) x:=by
 unfold fM;rw[Xh];rfl
def O'(P:Program)(w:World)(K:bk)(t:bS)(bP:Addr):bO:=λvs H Q _=>∃cx k aH aF a9 s c n ds rows a xs,vs=[⇑k,⇑a]/\fv t H k aH aF a9 s/\fJ P w t cx aH c n ds rows/\aN cx H/\cx k=none/\cx aF=none/\cx a9=none/\cx bP=none/\ql ds rows/\kA ds rows s/\H a\(.lst (a3 xs))/\↑xs<=1000/\(∀x∈xs,x∈ds.map (·.name))/\jZ bP H/\aL H /\
 ∀p aj I,te n ds rows (hQ rows s xs) (xs.any (g0 rows s)) aj->MT k aF a9 bP H I->H p=none->I p\(.b2 (ks ds (h2 n ds rows s)))->aL I->jZ bP I->fv t I k aH aF a9 aj->Q ⇑p I
def agX (dv:ml base t.rY bP) (gX:base.BuiltinsAt mg bP):cq P base T 5 t.zg t.C0 CN (O' P w K t bP):=by
 refine cA (sM T) λkc=>cA (akh T) λZ4=>cA (ahD T dv gX) λai4=>?_;exists T.SI.ok wW,9
 let(cx,k,aH,aF,a9,aj,c,n,ds,rows,a,xs,rfl,hJ,cU,s0,jn,g7,h1,JQ,R,ox,aO,k',t4,bF,bC,q):=h;let(eL,aA,cc,dX,gT):=id hJ;let(iS,le,mo,cG,so,aS,ch,ms,kvs,aq,C,bV,eC,gn,eB,hh,km,jF):=id (cU.same s0);let((hn,hr),Gg,wl,aG,aW,_,_):=id C;have bR:=i' ao;have hL:∀{i:Nat} {x:Str},xs[i]?\x->∃(j:Nat) (d:bf),ds[j]?\d/\d.name=x:=λ{i x} ag=>by
  let(d,hd,e):=cj.mp (t4 x (bU ag));let(j,aJ):=hy hd;exact(j,d,aJ,e)
 refine(_,(db (fP fV rfl (e6 (U 1)) (b8 (i:=2) wW.aG) (a4 (ea (fK (bB (bB (U 0) rfl) rfl) T.iQ T.o5 kc ao T.Gc .nil c3 (ai (U 2) aC)))))
   (db (b' (i:=3) wW.aG (kQ (U 0) T.fD T.ab6 Z4 ao T.ahx .nil c3))
   (db (b' (i:=4) wW.aG kG)
   (db (fP fV rfl (e6 (U 1)) (b8 (i:=2) wW.aG) (a4 (d4 (dh e3 (p9 bR (U 3) (U 2) (λ_ _=>rfl)) dF (cL _)) (a4 (b' (i:=4) wW.aG kG)) (a4 (wh bR (bB (U 0) rfl) (U 2) kG rfl)))))
   (db (ea (fK (U 0) T.fD T.ww ai4 ao T.aeN .nil c3 (ai (U 4) aC)))
   (a4 (b7 (U 3)))))))),?_)
 exists (λau I=>I=H/\∃y,au=[~~~k,~~~a,y,none,none]),5
 .nofun;refine((_,az.of aO),?_);refine ed.list (xs:=a3 xs) (λi σ I=>I=H/\∃y,σ=[~~~k,~~~a,y,none,none]) ?_ ?_ ?_ ?_
  .exact (rfl,_,rfl)
  .intro i σ I ah (rfl,_);exact az.of aO
  .intro i v σ I aE (rfl,y,rfl);unfold a3 at aE;let(x,ag,rfl):=b_ aE;let(j,d,hd,rfl):=hL ag;nofun;exact(_,ke T cc,_,rfl,_,CE T aq,_,rfl,_,_,aW,lg _ _ _ ∅,c,n,ds,j,d,rfl,C,hd,λ_ _=>(rfl,_,rfl))
  .intro σ I (rfl,y,rfl);exact dp _ _ (rfl,_,rfl)
 intro fG H1 (rfl,oU,rfl);subst aV;exists (λau I=>aN H1 I/\aL I/\∃p,H1 p=none/\I p\(.b2 (ks ds (h2 n ds rows aj)))/\au=[~~~k,~~~a,oU,~~~p,none]),5
 .nofun;exact(_,_,cc,o7 _ _ _ _ _ _ _ _ ∅,k,aH,aF,a9,aj,c,n,ds,rows,rfl,hJ,cU.same s0,R.c7,ox.ch,bC,λp I s2 cW ar tR=>dp _ _ (s2,cW,p,ar,tR,rfl))
 intro cD aw (s2,cW,p,pv,cX,rfl);subst aV;exists (λau I=>I=aw/\au=[~~~k,~~~a,oU,~~~p,some (.bp false)]),5
 .nofun;exact dp _ _ (rfl,rfl)
 intro gi ba (rfl,rfl);subst aV;exists (λau I=>hM k aF a9 ba I/\aL I/\fv t I k aH aF a9 (hQ rows aj xs)/\∃y,au=[~~~k,~~~a,y,~~~p,some (.bp (xs.any (g0 rows aj)))]),5
 .have dH:=s2 _ _ aO;have ee:=s2 _ _ cc;have eo:=s2 _ _ dX;have ft:=s2 _ _ gT;nofun;refine((_,az.of dH),?_);refine ed.list (xs:=a3 xs) (λi σ I=>hM k aF a9 ba I/\aL I/\fv t I k aH aF a9 {aj with wt:=fM rows aj aj.wt (xs.take i)}/\∃y,σ=[~~~k,~~~a,y,~~~p,some (.bp ((xs.take i).any (g0 rows aj)))]) ?_ ?_ ?_ ?_
  .exact (hM.of (aN.refl ba),cW,hJ.same s2,_,rfl)
  .intro i σ I ah (eP,_);exact az.of (eP _ _ (cC dH ee (by intro z;cases z)) (cC dH eo (by intro z;cases z)) (cC dH ft (by intro z;cases z)) dH)
  .rintro i v σ I aE bj;ac_rfl
   let(eP,d0,(_,d',f1,f2,eV),y,rfl):=bj;subst aV;unfold a3 at aE;let(x,ag,rfl):=b_ aE;let(j,d,hd,rfl):=hL ag;have mw:=eP _ _ (cC cX ee (by intro z;cases z)) (λe=>by rw[e,dX]at pv;cases pv) (λe=>by rw[e,gT]at pv;cases pv) cX;have a7:=i4.k (k:=cz d.name) mw;rw[OZ (f:=h2 n ds rows aj) hn hd]at a7;have eE:↑(gS (fM rows aj aj.wt (xs.take i)))<=12:=by
    have:=(Hw (xs.take i) aj.wt (λx ag=>t4 x (vI ag)) ox).len R;unfold gS;rw[aX];exact this
   have gE:fM rows aj aj.wt (xs.take (i+1))=ma rows aj (fM rows aj aj.wt (xs.take i)) d.name:=by rw[k5 ag,ad6]
   have kJ:(xs.take (i+1)).any (g0 rows aj)=((xs.take i).any (g0 rows aj)||g0 rows aj d.name):=by rw[k5 ag,List.any_append];simp
   nofun;refine du (g0 rows aj d.name) (λQ' aY=>?_) (λaa=>?_) (λaa=>?_)
   .nofun;rw[<- T4 n ds rows aj d]at aY;exact(_,a7,rfl,aY)
   .nofun;refine(eP,d0,(eL,d',f1,?_,eV),?_)
    .rw [gE];unfold ma;rw[if_pos (.inl aa)];exact f2
    .rw [kJ,aa,aco]
   .nofun;refine(_,yf T f1,_,rfl,_,l_.k (k:=cz d.name) f2 (hO eE ∅),λb u ae ak aZ e=>by rw[aP ak];exact eP _ _ ae ak aZ e,d0.upd,(eL,d',by rw[aP (cC f1 f2 (by intro z;cases z))];exact f1,?_,by rw[aP (et eL)];exact eV),?_)
    .rw[aR,ZU,gE];unfold ma;by_cases h:d.name∈fM rows aj aj.wt (xs.take i)
     .rw [if_pos h,if_pos (.inr h)]
     .rw [if_neg h,if_neg (λz=>z.elim (λz=>by rw[aa]at z;cases z) h)]
    .rw [kJ,aa,Je]
  .rintro σ I bj;ac_rfl
   let(eP,d0,tV,y,rfl):=bj;subst aV;rw[fE,i5]at *;exact dp _ _ (eP,d0,tV,y,rfl)
 intro kE cn (dD,di,tN,apA,rfl);let(_,BO,f1,f2,eV):=id tN;have s6:=hJ.same s2;have ee:=s2 _ _ cc;subst aV;nofun;refine(_,_,f1,o7 _ _ _ _ _ _ _ _ ∅,cx,k,aH,aF,a9,_,c,n,ds,rows,_,rfl,tN,cU,dD.Ak (s0.trans s2) jn g7 h1,jn,g7,h1,JQ,R,Xq t4 ox,yT s6 (bF.step s2) dD,di,λs5 cR ay el eM Jx Ex=>?_);have RZ:p≠k:=cC cX ee (by intro z;cases z);have nw:p≠aF:=λe=>by rw[e,dX]at pv;cases pv
 have np:p≠a9:=λe=>by rw[e,gT]at pv;cases pv
 have aeJ:p≠bP:=λe=>by
  let(ps,bD,_):=bF;rw[e,bD]at pv;cases pv
 exact q p s5 cR ay (λb u ae ak aZ bY e=>el _ _ ae ak aZ bY (dD _ _ ae ak aZ (s2 _ _ e))) pv (el _ _ RZ nw np aeJ (dD _ _ RZ nw np cX)) eM Jx Ex
def T7{i:Int}(h:i.natAbs<100000):i.natAbs.log2<1920:=by
 by_cases h0:i.natAbs=0
 .rw [h0];decide
 .exact (abV h0).mpr (OO h ∅)
def agP(K:bk):bO:=λvs H Q _=>∃(a:Addr) (ns:List Int) (k m:Int),vs=[⇑a,.int k,.int m]/\↑ns<=63/\az K H a (ns.map V.int)/\(0<=k/\k<1000000)/\0<m/\Q (.int (dP ns k m)) H
def aaK:cq P base T 1 t.yL t.xS yP (agP K):=by
 exists T.gq.ok wc,9
 let(a,ns,k,m,rfl,i3,S,(h0,ae),hm,q):=h;refine(_,(db (b' (i:=3) wc.aG (tP (dh uD (fx iV rfl T.iE iw (ai (U 0) aC)) aT (cL _)) (bZ c8 (U 0) (bN jN (U 1) (fx iV rfl T.iE iw (ai (U 0) aC)))) aT))
   (db (b' (i:=4) wc.aG (bN ew (bN ew (bN jN (U 3) aT) (bN lW (bN lW aT (U 1)) (U 1))) aT))
   (a4 (b7 (bN jN (bN jN (bN lW (bN jN (bN lW (U 4) aT) aT) aT) aT) (U 2)))))),?_)
 nofun;refine(_,.inl S,?_);rw[aX];have anu:(0:Int)<=k*k/\k*k<1000000*1000000:=(Za h0 h0,abt () ae h0 ∅);have fin:∀i:Int,(0:Int)<1000003/\oC 31 k/\oC (31*k) k/\oC (i%1000003+31*k*k+1) 48271/\(0:Int)<999983/\oC ((i%1000003+31*k*k+1)*48271%999983) 7919/\(0:Int)<524287/\0<m:=by
  intro i;refine(∅,.inl ∅,.inr (),.inr ∅,∅,.inr ∅,∅,hm)
 by_cases c:(0:Int)<(↑ns:Int)
 .rw[if_pos (decide_eq_true c)];have ax:0<=k%(↑ns:Int)/\k%(↑ns:Int)<(↑ns:Int):=(w9 _ (),vJ _ c);refine(_,.inl S,by rw[aX];exact c,_,S,?_);rw[aX];have aJ:(k%(↑ns:Int)).toNat<↑ns:=()
  refine(.int ns[(k%(↑ns:Int)).toNat],?_,_,rfl,?_)
  .have e:=cv (xs:=ns.map V.int) (j:=(k%(↑ns:Int)).toNat) (v:=.int ns[(k%(↑ns:Int)).toNat]) (by rw[dg,a6 aJ] <;> rfl);rwa[sZ ax.1]at e
  .obtain⟨f1,f2,eV,f4,fq,oF,mX,f8⟩:=fin ns[(k%(↑ns:Int)).toNat];refine⟨f1,f2,eV,f4,fq,oF,mX,f8,?_⟩;have e:dP ns k m=(((ns[(k%(↑ns:Int)).toNat]%1000003+31*k*k+1)*48271%999983*7919)%524287)%m:=by
    unfold dP;rw[if_pos c,kd,a6 aJ];rfl
   rw[<- e];exact q
 .rw[if_neg (by simpa using c)];let(f1,f2,eV,f4,fq,oF,mX,f8):=fin 0;refine(f1,f2,eV,f4,fq,oF,mX,f8,?_);have e:dP ns k m=(((0%1000003+31*k*k+1)*48271%999983*7919)%524287)%m:=by
   unfold dP;rw[if_neg c]
  rw[<- e];exact q
noncomputable def ins{α:Type}(l:List α)(i:Nat)(a:α):List α:=l.take i++a::l.drop i
def uH(ah:i<=↑l)(j:Nat):(ins l i a)[j]? = if j<i then l[j]? else if j=i then some a else l[j-1]?:=by
 unfold ins;have c6:↑(l.take i)=i:=by rw[hC];omega
 by_cases ae:j<i
 .rw [if_pos ae,lC (),w5 ae]
 .rw[if_neg ae,kz (),c6];by_cases ak:j=i
  .subst ak;rw[if_pos rfl];simp
  .rw [if_neg ak];let(k,rfl):=Nat.exists_eq_add_of_lt (Nat.lt_of_le_of_ne (ajm ae) (et ak));rw[Nat.add_assoc,ae7,AO,x4];rfl
def Wc(ah:i<=↑l):↑(ins l i a)=↑l+1:=by
 unfold ins;rw[cB,gW,hC,lZ];omega
def ajZ(h:l.Nodup)(n:a∉l):(ins l i a).Nodup:=by
 unfold ins;rw[(abk).nodup_iff,ni,OD];exact(n,h)
def oG{a x:α}(h:x∈ins l i a):x=a\/x∈l:=by
 unfold ins at h;rcases eI.mp h with z|z
 .exact .inr (vI z)
 .rcases ei.mp z with z|z
  .exact .inl z
  .exact .inr (PS z)
def P4(f:α->β)(l:List α)(i:Nat)(a:α):(ins l i a).map f=ins (l.map f) i (f a):=by
 unfold ins;rw[e',fz,VQ,z4]
def XS(x:Str)(i_:a<=b)(aa:b<=↑x.cps.toList):(mO x (some (a:Int)) (some (b:Int))).cps.toList=(x.cps.toList.drop a).take (b-a):=by
 have ag:↑x=↑x.cps.toList:=by simp[wd]
 have e:=StrLaws.sliceText_nat x i_ (by rw[ag];exact aa);rw[show mO x (some (a:Int)) (some (b:Int))=vD x (some (a:Int)) (some (b:Int))from rfl,e]
def K_(x:Str)(aa:b<=↑x.cps.toList):(mO x none (some (b:Int))).cps.toList=x.cps.toList.take b:=by
 have:mO x none (some (b:Int))=mO x (some ((0:Nat):Int)) (some (b:Int)):=by
  show vD x none (some (b:Int))=vD x (some ((0:Nat):Int)) (some (b:Int));unfold vD;rw[StrLaws.sliceIdx_none_lo];rfl
 rw[this,XS x (eW _) aa,aoO,am7]
def abR(x:Str)(aO:a<=↑x.cps.toList):(mO x (some (a:Int)) none).cps.toList=x.cps.toList.drop a:=by
 have ag:↑x=↑x.cps.toList:=by simp[wd]
 have:mO x (some (a:Int)) none=mO x (some (a:Int)) (some ((↑x.cps.toList:Nat):Int)):=by
  show vD x (some (a:Int)) none=vD x (some (a:Int)) (some ((↑x.cps.toList:Nat):Int));unfold vD;rw[StrLaws.sliceIdx_none_hi,<- ag]
 rw[this,XS x aO (bQ _)];exact y0 (by rw[lZ];exact bQ _)
noncomputable def yD(l:List Nat)(k:Nat):List Nat:=l.take (k+1)
noncomputable def p1(l:List Nat)(at_ f k:Nat):List Nat:=l.take at_++[97+(f+k)%26]++l.drop (at_+1)
noncomputable def qp(l:List Nat)(f k j:Nat):List Nat:=[97+(f+k)%26]++l.take j
def Mi(aK:↑l=8)(al:∀c∈l,97<=c/\c<=122){k:Nat}(ax:k<8):↑(yD l k)=k+1/\∀c∈yD l k,97<=c/\c<=122:=by
 unfold yD;exact(by rw[hC];omega,λc aB=>al c (vI aB))
def aeB(aK:↑l=8)(al:∀c∈l,97<=c/\c<=122){a f k:Nat}(aO:a<8):↑(p1 l a f k)=8/\∀c∈p1 l a f k,97<=c/\c<=122:=by
 unfold p1;refine(by rw[cB,cB,hC,lZ,k6];omega,λc aB=>?_);rcases eI.mp aB with aB|aB
 .rcases eI.mp aB with aB|aB
  .exact al c (vI aB)
  .rw [d9.mp aB];omega
 .exact al c (PS aB)
def aaz(aK:↑l=8)(al:∀c∈l,97<=c/\c<=122){f k j:Nat}(aJ:j<8):(1<=↑(qp l f k j)/\↑(qp l f k j)<=8)/\∀c∈qp l f k j,97<=c/\c<=122:=by
 unfold qp;refine(by rw[cB,hC,k6];omega,λc aB=>?_);rcases eI.mp aB with aB|aB
 .rw [d9.mp aB];omega
 .exact al c (vI aB)
def aj5(aK:↑l=8)(aO:a<8)(ah:i<8)(aJ:j<8)(e:p1 l a f i=p1 l a f j):i=j:=by
 have ae:∀k,(p1 l a f k)[a]?\(97+(f+k)%26):=λk=>by
  unfold p1;rw[jI,kz (by rw[hC];omega),hC,show a-min a ↑l=0 by omega];rfl
 have ak:=ae i;rw[e,ae j]at ak;have:=d2 ak;omega
def acS(ah:i<8)(aJ:j<8)(e:qp l f i u=qp l f j v):i=j:=by
 unfold qp at e;have:=(ta e).1;omega
def aew{k:Nat}(h:k<=↑xs):jB xs none (some ((k:Nat):Int))=xs.take k:=by
 unfold jB;rw[eZ.EM,Cr h,eZ.aj8];simp
noncomputable def six:List Str:=[af "stage",af "tram",af "car",af "foot",af "ring",af "free"]
def aoI{x:Str}(e:x.cps.toList=l)(h0:1<=↑l)(ae:↑l<=8)(al:∀c∈l,97<=c/\c<=122):made x ow 8=true:=by
 have ag:↑x=↑x.cps.toList:=by simp[wd]
 exact aar (by rw[ag,e];exact h0) (by rw[ag,e];exact ae) (by rw[e];exact al)
def Mo(m:Nat)(xs:List Str):Prop:=↑xs=m/\xs.Nodup/\∀x∈xs,made x ow 8=true
def RP(h0:0<=i)(ae:i<26):∃c:Nat,gp (af "abcdefghijklmnopqrstuvwxyz").cps.toList i\c/\c=97+i.toNat:=by
 have:∀k,k<26->gp (af "abcdefghijklmnopqrstuvwxyz").cps.toList ((k:Nat):Int)\(97+k):=∅
 refine(97+i.toNat,?_,rfl);have e:=this i.toNat ();rwa[sZ h0]at e
theorem Th:∀ys:List Str,(ep ⟨#[]⟩ ys).cps.toList=(ys.map (·.cps.toList)).flatten
 |[]=>rfl
 |[a]=>by
  show a.cps.toList=_;simp
 |a::b::r=>by
  show(a++⟨#[]⟩++ep ⟨#[]⟩ (b::r)).cps.toList=_;rw[p8,qf,p8,qf,Th (b::r)];simp
theorem XD(f:Nat->Nat)(n:Nat):(rf (af "") ((fb n).map λi=>ka (f i))).cps.toList=(fb n).map f:=by
 rw[show rf (af "") ((fb n).map λi=>ka (f i))=ep ⟨#[]⟩ ((fb n).map λi=>ka (f i))from Ai _ _,Th,rE];have:((λx:Str=>x.cps.toList) ∘ λi=>ka (f i))=λi=>[f i]:=rfl
 rw[this]
 induction (fb n)with
 |nil=>rfl
 |cons a l cZ=>rw[fz,wm,cZ];rfl
def acm:∀m,m<7->↑(six.take m)=m/\(six.take m).Nodup/\∀x∈six.take m,made x ow 8=true:=∅
def amY(K:bk)(a:Addr)(ns:List Int):bO:=λvs H Q _=>∃m:Nat,vs=[⇑a,.int m]/\Sc K a ns H/\(1<=m/\m<=8)/\∀p xs I,aN H I->Sc K a ns I->H p=none->I p\(.lst (a3 xs))->Mo m xs->Q ⇑p I
def ak_ (a:Addr) (ns:List Int) (i3:↑ns<=63):cq P base T 2 t.Lf t.Hr IX (amY K a ns):=by
 refine cA (Ka T a ns i3) λgx=>?_;exists T.N4.ok sC,9
 let(m,rfl,S,hm,q):=h;have eE:↑(af "abcdefghijklmnopqrstuvwxyz")=26:=∅
 refine(_,(db (o1 (i:=2) sC.aG rfl (mh rfl) dF)
   (db (b' (i:=3) sC.aG (fo vQ B' Ec zy dF (ai (hR rfl (l0 rfl T.k8 (ai aT aC)) (f_ (sc:=bx (top 77)) rfl ∅) (N:=["_law_k","_law_letters","_law_script"]) (sel:=[none,some 2,some 0]) (f7 (M:=["_law_script","_law_many","_law_letters","_law_base","_law_way","_law_at","_law_names_here","_law_k","_law_sign"]) ∅) (fa.of (λ_ _ _ _=>(b8 (i:=0) (ec (N:=["_law_k","_law_letters","_law_script"]) ∅ rfl))) (λ_ _ _ _=>(_,hT,by walk_at "B")) (λ_ _ _ _=>(_,(bZ Gx (U 1) (b3 gx ao T.g8 T.gq.bo T.hg (ai (U 2) (ai (bN ew aT (U 0)) (ai aT aC))))),by walk_at "B")))) aC)))
   (db (b' (i:=4) sC.aG (b3 gx ao T.g8 T.gq.bo T.hg (ai (U 0) (ai aT (ai aT aC)))))
   (db (b' (i:=5) sC.aG (b3 gx ao T.g8 T.gq.bo T.hg (ai (U 0) (ai aT (ai aT aC)))))
   (db (b' (i:=6) sC.aG (e5 aC))
   (db (d4 (gv.pt (qn (dh e3 (b3 gx ao T.g8 T.gq.bo T.hg (ai (U 0) (ai aT (ai aT aC)))) aT (cL _)) (p_ (dh ir (U 1) aT (cL _))))) (a4 (b7 (nL ub (e5 (ai dF (ai dF (ai dF (ai dF (ai dF (ai dF aC))))))) oy (nd (U 1))))) en)
   (db (fP fV rfl (l0 rfl T.k8 (ai (U 1) aC)) (b8 (i:=7) sC.aG) (db (b' (i:=8) sC.aG (bZ Gx (U 2) (bN jN (bN ew (b3 gx ao T.g8 T.gq.bo T.hg (ai (U 0) (ai aT (ai aT aC)))) (U 7)) aT)))
   (a4 (d4 (dh e3 (U 4) aT (cL _)) (a4 (ea (fo gI lh lD kZ (U 6) (ai (bN ce (bN ce (nL E4 (U 3) oy (nd (U 5))) (U 8)) (nL E4 (U 3) (nd (bN ew (U 5) aT)) oy)) aC)))) (a4 (d4 (gv.pt (qn (dh e3 (U 4) aT (cL _)) (p_ (dh ir (U 1) aT (cL _))))) (a4 (ea (fo gI lh lD kZ (U 6) (ai (nL E4 (U 3) oy (nd (bN ew (U 7) aT))) aC)))) (a4 (ea (fo gI lh lD kZ (U 6) (ai (bN ce (U 8) (nL E4 (U 3) oy (nd (b3 gx ao T.g8 T.gq.bo T.hg (ai (U 0) (ai (bN ew aT (U 7)) (ai aT aC))))))) aC))))))))))
   (a4 (b7 (U 6)))))))))),?_)
 exists (λau I=>I=H/\au=[~~~a,some (.int m),some (.str (af "abcdefghijklmnopqrstuvwxyz")),none,none,none,none,none,none]),3
 .nofun;exact bX _ _ (rfl,rfl)
 intro fG H1 (rfl,rfl);subst aV;exists (λau I=>aN H1 I/\Sc K a ns I/\∃aF:Str,↑aF.cps.toList=8/\(∀c∈aF.cps.toList,97<=c/\c<=122)/\au=[~~~a,some (.int m),some (.str (af "abcdefghijklmnopqrstuvwxyz")),some (.str aF),none,none,none,none,none]),3
 .nofun;refine(∅,∅,?_);refine cY.SH (n:=8) (λi=>V.str (ka (97+(dP ns (300+(i:Int)) 26).toNat))) ∅ (λi N ah bl=>?_) (λp ar=>?_)
  .have ez:=iO ns (300+(i:Int)) (m:=26) ∅;have eS:=re ns (300+(i:Int)) (m:=26) ∅;let(c,aB,rfl):=RP ez eS;(nofun; repeat (dsimp only[Re];nofun));exact(Sub.name,S,(),(),∅,by rw[eE];decide,_,aB,bl)
  .have e:(fb 8).map (λi:Nat=>V.str (ka (97+(dP ns (300+(i:Int)) 26).toNat)))=a3 ((fb 8).map λi:Nat=>ka (97+(dP ns (300+(i:Int)) 26).toNat)):=by unfold a3;rw[rE];rfl
   refine(p,rfl,(fb 8).map λi:Nat=>ka (97+(dP ns (300+(i:Int)) 26).toNat),by rw[<- e];exact az.of aR,?_,?_)
   .have ae:(o3 (λx:Str=>↑x) ((fb 8).map λi:Nat=>ka (97+(dP ns (300+(i:Int)) 26).toNat))).sum=8:=by
     rw[rE];rfl
    rw[ae,aX,sb];ac_nf
   .refine bX _ _ (bh ar,S.new ar,_,?_,λc aB=>?_,rfl)
    .rw [XD (λi:Nat=>97+(dP ns (300+(i:Int)) 26).toNat) 8,aX,sb]
    .rw [XD (λi:Nat=>97+(dP ns (300+(i:Int)) 26).toNat) 8]at aB;let(i,_,rfl):=cj.mp aB;have ez:=iO ns (300+(i:Int)) (m:=26) ∅;have eS:=re ns (300+(i:Int)) (m:=26) ∅;omega
 intro cD aw (s2,kn,aF,ht,y3,rfl);have A0:↑aF=8:=by
  have:↑aF=↑aF.cps.toList:=by simp[wd]
  omega
 have anl:=iO ns 310 (m:=3) ∅;have Zf:=re ns 310 (m:=3) ∅;subst aV;generalize sJ:dP ns 310 3=way at anl Zf;exists (λau I=>I=aw/\au=[~~~a,some (.int m),some (.str (af "abcdefghijklmnopqrstuvwxyz")),some (.str aF),some (.int way),none,none,none,none]),3
 ·(nofun; repeat (dsimp only[Re];nofun));rw[sJ];exact(kn,(),(),∅,bX _ _ (rfl,rfl))
 intro gi ba (rfl,rfl);let(at_,hL,Pz):∃at_:Nat,dP ns 311 8=(at_:Nat)/\at_<8:=by
  have ez:=iO ns 311 (m:=8) ∅;have eS:=re ns 311 (m:=8) ∅;exact((dP ns 311 8).toNat,(),())
 subst aV;exists (λau I=>I=ba/\au=[~~~a,some (.int m),some (.str (af "abcdefghijklmnopqrstuvwxyz")),some (.str aF),some (.int way),some (.int (at_:Nat)),none,none,none]),3
 ·(nofun; repeat (dsimp only[Re];nofun));rw[hL];exact(kn,(),(),(),bX _ _ (rfl,rfl))
 intro kE cn (rfl,rfl);let(f,hf,aqO):∃f:Nat,dP ns 312 26=(f:Nat)/\f<26:=by
  have ez:=iO ns 312 (m:=26) ∅;have eS:=re ns 312 (m:=26) ∅;exact((dP ns 312 26).toNat,(),())
 subst aV;exists (λau I=>Sc K a ns I/\aN cn I/\∃dZ,cn dZ=none/\I dZ\(.lst [])/\au=[~~~a,some (.int m),some (.str (af "abcdefghijklmnopqrstuvwxyz")),some (.str aF),some (.int way),some (.int (at_:Nat)),~~~dZ,none,none]),3
 .nofun;exact(eW _,λdZ hD=>bX _ _ (kn.new hD,bh hD,dZ,hD,aR,rfl))
 intro nt f3 (Ab,fk,dZ,hD,v',rfl);subst aV;simp only[dT];refine sl (λau I=>I=f3/\au=[~~~a,some (.int m),some (.str (af "abcdefghijklmnopqrstuvwxyz")),some (.str aF),some (.int way),some (.int (at_:Nat)),~~~dZ,none,none]) (λgQ bX oK _ _=>?_) ?_
 .refine du (decide (dP ns 313 8=0)&&decide (m<7)) (λQ aY=>?_) (λaa=>?_) (λaa=>?_)
  ·(nofun; repeat (dsimp only[Re];nofun));refine(Ab,∅,∅,∅,?_);by_cases br:dP ns 313 8=0
   .rw [if_pos (decide_eq_true br),show decide ((m:Int)<7)=decide (m<7)from decide_eq_decide.mpr ()];rw[decide_eq_true br,nN]at aY;exact aY
   .rw [if_neg (by simpa using br)];rw[decide_eq_false br,om]at aY;exact aY
  .rw [kX,decide_eq_true_eq,decide_eq_true_eq]at aa;let(cc,dX,gT):=acm m aa.2;nofun;refine(∅,λp ar=>(_,az.of aR,λda kj=>?_));rw[oK];refine q da (six.take m) _ (s2.trans (fk.trans ((bh ar).trans (bh kj)))) ((Ab.new ar).new kj) ((s2.trans (fk.trans (bh ar))).free kj) ?_ (cc,dX,gT);rw[aR,aew (show m<=6 by omega)];unfold a3 six;rw[VQ];rfl
  .simp only[gy];exact bX _ _ (rfl,rfl)
 intro kP e7 (rfl,rfl);let(g,a7):∃g:Nat->List Nat,g=λk=>if way=0 then p1 aF.cps.toList at_ f k else if way=1 then yD aF.cps.toList k else qp aF.cps.toList f k (dP ns (320+(k:Int)) 8).toNat:=(_,rfl)
 simp only[dT];exists (λau I=>Sc K a ns I/\aN cn I/\(∃xs:List Str,I dZ\(.lst (a3 xs))/\xs.map (·.cps.toList)=(fb m).map g)/\∃c5 dQ,au=[~~~a,some (.int m),some (.str (af "abcdefghijklmnopqrstuvwxyz")),some (.str aF),some (.int way),some (.int (at_:Nat)),~~~dZ,c5,dQ]),0
 .nofun;refine((),(),?_);refine ed.range (λi σ I=>Sc K a ns I/\aN cn I/\(∃xs:List Str,I dZ\(.lst (a3 xs))/\xs.map (·.cps.toList)=(fb i).map g)/\∃c5 dQ,σ=[~~~a,some (.int m),some (.str (af "abcdefghijklmnopqrstuvwxyz")),some (.str aF),some (.int way),some (.int (at_:Nat)),~~~dZ,c5,dQ]) (Ab,fk,([],v',rfl),_,_,rfl) ?_ ?_
  .rintro i σ I ah bj;ac_rfl
   let(y5,hc,(xs,oW,q4),c5,dQ,rfl):=bj;have apL:i<8:=by have:i<(m:Int).toNat:=ah;omega
   have k':↑xs=i:=by have:=congrArg q8 q4;rwa[aX,aX,sb]at this
   let(c,aB,rfl):=RP (i:=((f:Int)+(i:Int))%26) (w9 _ ∅) (vJ _ ∅);have aki:(((f:Int)+(i:Int))%26).toNat=(f+i)%26:=()
   subst aV;rw[aki]at aB;simp only[gU,dT,jV,jH,rH];exists (λau ib=>ib=I/\au=[~~~a,some (.int m),some (.str (af "abcdefghijklmnopqrstuvwxyz")),some (.str aF),some (.int way),some (.int (at_:Nat)),~~~dZ,some (.int (i:Nat)),some (.str (ka (97+(f+i)%26)))]),0
   ·(nofun; repeat (dsimp only[Re];nofun));rw[hf];exact(y5,∅,∅,∅,∅,by rw[eE];decide,_,aB,bX _ _ (rfl,rfl))
   intro aeX rM (rfl,rfl);have p2:∀k:Nat,k<=1000->k<=sizeLine:=λk h=>cM h ∅
   have QI:↑(ka (97+(f+i)%26))=1:=rfl;have put:∀nm:Str,nm.cps.toList=g i->Sc K a ns (upd rM dZ (.lst (a3 xs++[.str nm])))/\aN cn (upd rM dZ (.lst (a3 xs++[.str nm])))/\(∃ys:List Str,(upd rM dZ (.lst (a3 xs++[.str nm]))) dZ\(.lst (a3 ys))/\ys.map (·.cps.toList)=(fb (i+1)).map g):=λnm nx=>by
    refine(y5.set oW (λ_ _ z=>by cases z),hc.hS hD,xs++[nm],?_,?_)
    .rw [aR];unfold a3;rw[e'];rfl
    .rw [e',q4,wJ,e',fz,rC,nx];rfl
   have Il:↑(a3 xs)<sizeLine:=hO (show ↑(a3 xs)<=8 by unfold a3;rw[aX];omega) ∅;subst aV;dsimp only;refine du (decide (way=0)) (λQ aY=>?_) (λKm=>?_) (λNx=>?_)
   .nofun;exact aY
   .have hw:=of_decide_eq_true Km;have uG:g i=p1 aF.cps.toList at_ f i:=by rw[a7];exact if_pos hw
    have cy:=vK aF none (some (at_:Int));have de:=vK aF (some ((at_:Int)+1)) none;nofun;refine(.inl (_,az.of oW),by rw[A0];decide,p2 _ (),by rw[A0];decide,p2 _ (by rw[pE];omega),_,oW,Il,?_);let(da,cX,mw):=put (mO aF none (some (at_:Int))++ka (97+(f+i)%26)++mO aF (some ((at_:Int)+1)) none) (by
     rw[uG];unfold p1;rw[p8,qf,p8,qf,K_ aF (),show((at_:Int)+1)=((at_+1:Nat):Int)by omega,abR aF ()]
     rfl)
    exact(da,cX,mw,_,rfl)
   .have hw:=of_decide_eq_false Nx;refine du (decide (way=1)) (λQ aY=>?_) (λKm=>?_) (λNx=>?_)
    .nofun;by_cases aW:way=1
     .rw [if_pos (decide_eq_true aW),decide_eq_true (show(m:Int)<9 by omega)];rw[decide_eq_true aW]at aY;exact aY
     .rw [if_neg (by simpa using aW)];rw[decide_eq_false aW]at aY;exact aY
    .have y4:=of_decide_eq_true Km;have uG:g i=yD aF.cps.toList i:=by rw[a7];exact(if_neg hw).trans (if_pos y4)
     nofun;refine(.inl (_,az.of oW),by rw[A0];decide,_,oW,Il,?_);let(da,cX,mw):=put (mO aF none (some ((i:Int)+1))) (by
      rw[uG,show((i:Int)+1)=((i+1:Nat):Int)by omega,K_ aF ()]
      rfl)
     exact(da,cX,mw,_,rfl)
    .have y4:=of_decide_eq_false Nx;have uG:g i=qp aF.cps.toList f i (dP ns (320+(i:Int)) 8).toNat:=by rw[a7];exact(if_neg hw).trans (if_neg y4)
     have ez:=iO ns (320+(i:Int)) (m:=8) ∅;have eS:=re ns (320+(i:Int)) (m:=8) ∅;(nofun; repeat (dsimp only[Re];nofun));let(Fn,PG):∃Fn:Nat,dP ns (320+(i:Int)) 8=(Fn:Int):=(_,(sZ ez).symm);rw[PG]at uG eS;rw[PG];rw[mN]at uG;have cy:=vK aF none (some (Fn:Int));refine(.inl (_,az.of oW),y5,(),(),∅,by rw[A0];decide,p2 _ (),_,oW,Il,?_);let(da,cX,mw):=put (ka (97+(f+i)%26)++mO aF none (some (Fn:Int))) (by
      rw[uG];unfold qp;rw[p8,qf,K_ aF ()]
      rfl)
     exact(da,cX,mw,_,rfl)
  .rintro σ I bj;ac_rfl
   let(y5,hc,(xs,oW,q4),c5,dQ,rfl):=bj;subst aV;exact bX _ _ (y5,hc,(xs,oW,by rw[q4,show(m:Int).toNat=m by omega]),c5,dQ,rfl)
 intro sO iq (aeY,iD,(xs,F8,q4),c5,dQ,rfl);have k':↑xs=m:=by have:=congrArg q8 q4;rwa[aX,aX,sb]at this
 have anS:∀k:Nat,(dP ns (320+(k:Int)) 8).toNat<8:=λk=>by
  have ez:=iO ns (320+(k:Int)) (m:=8) ∅;have eS:=re ns (320+(k:Int)) (m:=8) ∅;omega
 have afV:∀k,k<m->(1<=↑(g k)/\↑(g k)<=8)/\∀c∈g k,97<=c/\c<=122:=λk ax=>by
  rw[a7];dsimp only;split
  .have:=aeB ht y3 (f:=f) (k:=k) Pz;exact((),this.2)
  .split
   .have:=Mi ht y3 (k:=k) ();exact((),this.2)
   .exact aaz ht y3 (anS k)
 have aoG:∀i j,i<m->j<m->g i=g j->i=j:=λi j ah aJ e=>by
  rw[a7]at e;dsimp only at e;by_cases br:way=0
  .rw [if_pos br,if_pos br]at e;exact aj5 ht Pz () () e
  .rw[if_neg br,if_neg br]at e;by_cases aW:way=1
   .rw [if_pos aW,if_pos aW]at e;have ae:=Mi ht y3 (k:=i) ();have ak:=Mi ht y3 (k:=j) ();rw[e]at ae;omega
   .rw [if_neg aW,if_neg aW]at e;exact acS () () e
 have F3:∀(i:Nat) (x:Str),xs[i]?\x->i<m/\x.cps.toList=g i:=λi x ag=>by
  have ah:i<m:=by rw[<- k'];exact(b0.mp ag).1
  have e:=congrArg (λl=>l[i]?) q4
  try dsimp only at e
  rw[dg,ag,dg,DP ah]at e;exact(ah,d2 e)
 have N:Mo m xs:=by
  refine(k',aaR.mpr λi j ah aJ lq e=>?_,λx ag=>?_)
  .let(a1,a2):=F3 i _ (a6 ah);let(ee,eo):=F3 j _ (a6 aJ);rw[e,eo]at a2;have:=aoG i j a1 ee a2.symm;omega
  .let(i,ah):=hy ag;let(a1,a2):=F3 i _ ah;have:=afV i a1;exact aoI a2 this.1.1 this.1.2 this.2
 subst aV;nofun;exact q dZ xs iq (s2.trans iD) aeY (s2.free hD) F8 N
noncomputable abbrev l2(d:bf):List V:=[.str (e1 d.k),.str d.name,.int d.start,.int d.fin,.int d.off,.int d.near,.int d.least]
def kk(H:av)(wl:Addr)(ds:List bf):Prop:=∃qs:List Addr,H wl\(.lst (qs.map V.ref))/\↑qs=↑ds/\∀(i:Nat) (q:Addr) (d:bf),qs[i]?\q->ds[i]?\d->H q\(.tup (l2 d))
def kk.same(h:kk H wl ds)(s:aN H I):kk I wl ds:=by
 let(qs,aq,aD,al):=h;exact(qs,s _ _ aq,aD,λi q d ae ak=>s _ _ (al i q d ae ak))
def kk.snoc{H:av}{wl p:Addr}{ds:List bf}{d:bf}{qs:List Addr}(cy:H wl\(.lst (qs.map V.ref)))(de:↑qs=↑ds)
  (al:∀(i:Nat) (q:Addr) (d:bf),qs[i]?\q->ds[i]?\d->H q\(.tup (l2 d))) (ar:H p=none) :
  kk (upd (upd H p (.tup (l2 d))) wl (.lst (qs.map V.ref++[⇑p]))) wl (ds++[d]):=by
 have j9:p≠wl:=(dm cy ar).symm;refine(qs++[p],by rw[aR,e'];rfl,by rw[cB,cB,de];rfl,λi q e ae ak=>?_);rcases nr ae with⟨gA,eu⟩|⟨gA,rfl⟩
 .rcases nr ak with⟨oU,rS⟩|⟨oU,_⟩
  .have:=al i q e eu rS;rw[aP (cC this cy (by intro z;cases z)),aP (dm this ar)];exact this
  .omega
 .rcases nr ak with⟨oU,rS⟩|⟨oU,rfl⟩
  .omega
  .rw [aP j9,aR]
def aaA{n s j:Int}(h0:0<=s)(ae:s<n)(ak:0<=j)(aZ:j<n-1):s≠(s+1+j)%n:=by
 by_cases c:s+1+j<n
 .rw [oT () c];omega
 .rw [show s+1+j=(s+1+j-n)+n*1 by omega,ML,oT () ()];omega
structure t2(n:Int)(ds:List bf):Prop where
 al:∀d∈ds,ph n d/\True
 aG:(ds.map (·.name)).Nodup
def t2.Pc(h:t2 n ds)(a8:2<=n/\n<=99)(aK:1<=↑ds/\↑ds<=12):uW n ds:=(a8,aK,λd hd=>(h.al d hd).1,h.aG)
def WE(K:bk)(a:Addr)(ns:List Int):bO:=λvs H Q _=>∃most:Int,vs=[⇑a,.int most]/\(1<=most/\most<=8)/\Sc K a ns H /\
 ∀ki wl n ds I,aN H I->Sc K a ns I->I ki\(.tup [.int n,⇑wl])->kk I wl ds->t2 n ds->(∀d∈ds,d.least<=4)->(4<=n/\n<=99)->(1<=↑ds/\(↑ds:Int)<=most)->Q ⇑ki I
def aoM(h0:0<=i)(ae:i<4):∃k:Nat,k<3/\gp [V.str (af "car"),V.str (af "car"),V.str (af "foot"),V.str (af "tram")] i\(.str (e1 k)):=by
 have:i=0\/i=1\/i=2\/i=3:=()
 rcases this with rfl|rfl|rfl|rfl
 .exact (0,∅,cv (j:=0) rfl)
 .exact (0,∅,cv (j:=1) rfl)
 .exact (1,∅,cv (j:=2) rfl)
 .exact (2,∅,cv (j:=3) rfl)
theorem at2(x y:V)(c:Bool):gp [x,y] (if c=true then 1 else 0)\(if c=true then y else x):=by
 cases c with
 |true=>exact cv (j:=1) rfl
 |false=>exact cv (j:=0) rfl
theorem aeb(a:Addr)(ns:List Int)(i3:↑ns<=63):cq P base T 3 t.AK t.Fl EP (WE K a ns):=by
 refine cA (Ka T a ns i3) λgx=>cA (ak_ T a ns i3) λZp=>?_;exists T.H5.ok nW,9
 let(most,rfl,aqG,S,q):=h;refine(_,(db (b' (i:=2) nW.aG (bZ c8 (e5 (ai (bN ew aT (b3 gx ao T.g8 T.gq.bo T.hg (ai (U 0) (ai aT (ai aT aC))))) (ai aT aC))) (rj Ws rfl T.Bp AF (ai (hV e3 (b3 gx ao T.g8 T.gq.bo T.hg (ai (U 0) (ai aT (ai aT aC)))) aT (cL _)) aC))))
   (db (b' (i:=3) nW.aG (b3 Zp ao T.Y' T.N4.bo T.ahJ (ai (U 0) (ai (bN ew aT (b3 gx ao T.g8 T.gq.bo T.hg (ai (U 0) (ai aT (ai (U 1) aC))))) aC))))
   (db (b' (i:=4) nW.aG (e5 aC))
   (db (fP fV rfl (l0 rfl T.k8 (ai (fx iV rfl T.iE iw (ai (U 3) aC)) aC)) (b8 (i:=5) nW.aG) (db (b' (i:=6) nW.aG (b3 gx ao T.g8 T.gq.bo T.hg (ai (U 0) (ai (bN ew aT (bN lW aT (U 5))) (ai (U 2) aC)))))
   (db (b' (i:=7) nW.aG (bN jN (bN ew (bN ew (U 6) aT) (b3 gx ao T.g8 T.gq.bo T.hg (ai (U 0) (ai (bN ew aT (bN lW aT (U 5))) (ai (bN mz (U 2) aT) aC))))) (U 2)))
   (db (b' (i:=8) nW.aG (bZ c8 (e5 (ai dF (ai dF (ai dF (ai dF aC))))) (b3 gx ao T.g8 T.gq.bo T.hg (ai (U 0) (ai (bN ew aT (bN lW aT (U 5))) (ai aT aC))))))
   (db (b' (i:=9) nW.aG (bZ c8 (e5 (ai (b3 gx ao T.g8 T.gq.bo T.hg (ai (U 0) (ai (bN ew aT (bN lW aT (U 5))) (ai aT aC)))) (ai aT aC))) (rj Ws rfl T.Bp AF (ai (hV e3 (b3 gx ao T.g8 T.gq.bo T.hg (ai (U 0) (ai (bN ew aT (bN lW aT (U 5))) (ai aT aC)))) aT (cL _)) aC))))
   (db (b' (i:=10) nW.aG (b3 gx ao T.g8 T.gq.bo T.hg (ai (U 0) (ai (bN ew aT (bN lW aT (U 5))) (ai aT aC)))))
   (db (d4 (gv.pt (qn (dh e3 (b3 gx ao T.g8 T.gq.bo T.hg (ai (U 0) (ai aT (ai aT aC)))) aT (cL _)) (p_ (dh uD (b3 gx ao T.g8 T.gq.bo T.hg (ai (U 0) (ai (bN ew aT (U 5)) (ai aT aC)))) aT (cL _))))) (db (b' (i:=8) nW.aG dF)
   (a4 (b' (i:=9) nW.aG aT))) en)
   (a4 (ea (fo gI lh lD kZ (U 4) (ai (rK (ai (U 8) (ai (bZ c8 (U 3) (U 5)) (ai (U 6) (ai (U 7) (ai (U 9) (ai (U 10) (ai (bN ew aT (b3 gx ao T.g8 T.gq.bo T.hg (ai (U 0) (ai (bN ew aT (bN lW aT (U 5))) (ai aT aC))))) aC)))))))) aC)))))))))))
   (a4 (b7 (rK (ai (U 2) (ai (U 4) aC))))))))),?_)
 exists (λau I=>aN H I/\Sc K a ns I/\∃n:Int,(4<=n/\n<=99)/\au=[~~~a,some (.int most),some (.int n),none,none,none,none,none,none,none,none]),3
 .have ez:=iO ns 2 (m:=13) ∅;have eS:=re ns 2 (m:=13) ∅;(nofun; repeat (dsimp only[Re];nofun));let(n,a8,o'):∃n:Int,(4<=n/\n<=99)/\(if decide (dP ns 3 6=0)=true then V.int 99 else V.int (4+dP ns 2 13))=V.int n:=by
   split
   .exact (99,∅,rfl)
   .exact (_,(),rfl)
  refine(S,∅,∅,∅,∅,λp ar=>(S.new ar,∅,∅,∅,_,az.of aR,_,at2 _ _ _,?_));rw[o'];exact bX _ _ (bh ar,S.new ar,n,a8,rfl)
 intro aq1 cx (s0,B0,n,a8,rfl);let(m,ao2,hm):∃m:Nat,1+dP ns 1 most=(m:Nat)/\(1<=m/\m<=8/\(m:Int)<=most):=by
  have ez:=iO ns 1 (m:=most) ();have eS:=re ns 1 (m:=most) ();exact((1+dP ns 1 most).toNat,(),())
 subst aV;exists (λau I=>aN cx I/\Sc K a ns I/\∃nl xs,I nl\(.lst (a3 xs))/\Mo m xs/\au=[~~~a,some (.int most),some (.int n),~~~nl,none,none,none,none,none,none,none]),3
 .nofun;refine(_,_,rfl,B0,∅,(),_,rfl,?_);rw[ao2];exact(m,rfl,B0,(),λp xs I s1 qB _ e N=>bX _ _ (s1,qB,p,xs,e,N,rfl))
 intro fG H1 (s1,qB,nl,xs,o',N,rfl);subst aV;exists (λau I=>Sc K a ns I/\aN H1 I/\∃wl,H1 wl=none/\I wl\(.lst [])/\au=[~~~a,some (.int most),some (.int n),~~~nl,~~~wl,none,none,none,none,none,none]),3
 .nofun;exact(eW _,λwl ht=>bX _ _ (qB.new ht,bh ht,wl,ht,aR,rfl))
 intro gi ba (Io,s3,wl,ht,ij,rfl);have OB:↑(a3 xs)=m:=by unfold a3;rw[aX,N.1]
 subst aV;nofun;refine(_,.inl (az.of (s3 _ _ o')),(),by rw[OB];omega,?_);rw[show((↑(a3 xs):Nat):Int).toNat=m by rw[OB];rfl];refine ed.range (λi σ I=>Sc K a ns I/\aN H1 I/\(∃ds,kk I wl ds/\↑ds=i/\(∀d∈ds,ph n d/\d.least<=4)/\∀(j:Nat) (d:bf),ds[j]?\d->xs[j]?\d.name)/\∃el cF c5 dQ mI iB,σ=[~~~a,some (.int most),some (.int n),~~~nl,~~~wl,el,cF,c5,dQ,mI,iB]) (Io,s3,([],([],ij,rfl,λi q d h=>by simp at h),rfl,λd h=>by simp at h,λj d h=>by simp at h),_,_,_,_,_,_,rfl) ?_ ?_
 .rintro i σ I ah bj;ac_rfl
  let(kW,s4,(ds,hB,hr,bu,nx),el,cF,c5,dQ,mI,iB,rfl):=bj;have AX:i<m:=ah;have Cx:xs[i]?\(xs[i]'(by rw[N.1];exact AX)):=a6 _;subst aV;generalize xs[i]'(by rw[N.1];exact AX)=nm at Cx;have alz:=s4 _ _ o';have ahZ:gp (a3 xs) ((i:Nat):Int)\(.str nm):=cv (by unfold a3;rw[dg,Cx];rfl);simp only[gU,dT,jV,jH,rH];exists (λau ib=>ib=I/\∃st:Int,(0<=st/\st<n)/\au=[~~~a,some (.int most),some (.int n),~~~nl,~~~wl,some (.int (i:Nat)),some (.int st),c5,dQ,mI,iB]),0
  .have ez:=iO ns (10+7*(i:Int)) (m:=n) ();have eS:=re ns (10+7*(i:Int)) (m:=n) ();(nofun; repeat (dsimp only[Re];nofun));exact(.inl (∅,∅),kW,(),(),(),bX _ _ (rfl,_,(ez,eS),rfl))
  intro aeX rM (rfl,st,e9,rfl);subst aV;simp only[dT];exists (λau ib=>ib=rM/\∃fN:Int,(0<=fN/\fN<n)/\st≠fN/\au=[~~~a,some (.int most),some (.int n),~~~nl,~~~wl,some (.int (i:Nat)),some (.int st),some (.int fN),dQ,mI,iB]),0
  .have ez:=iO ns (11+7*(i:Int)) (m:=n-1) ();have eS:=re ns (11+7*(i:Int)) (m:=n-1) ();have m0:=w9 (st+1+dP ns (11+7*(i:Int)) (n-1)) (show n≠0 by omega);have lz:=vJ (st+1+dP ns (11+7*(i:Int)) (n-1)) (show 0<n by omega);(nofun; repeat (dsimp only[Re];nofun));exact(.inl (∅,∅),kW,(),(),(),(),bX _ _ (rfl,_,(m0,lz),aaA e9.1 e9.2 ez (),rfl))
  intro arV mC (rfl,fN,F0,ck,rfl);subst aV;simp only[dT];exists (λau ib=>aN mC ib/\Sc K a ns ib/\∃k:Nat,k<3/\au=[~~~a,some (.int most),some (.int n),~~~nl,~~~wl,some (.int (i:Nat)),some (.int st),some (.int fN),some (.str (e1 k)),mI,iB]),0
  .have ez:=iO ns (12+7*(i:Int)) (m:=4) ∅;have eS:=re ns (12+7*(i:Int)) (m:=4) ∅;let(k,ax,hL):=aoM ez eS;(nofun; repeat (dsimp only[Re];nofun));exact(∅,λp ar=>(.inl (∅,∅),kW.new ar,(),(),∅,_,az.of aR,_,hL,bX _ _ (bh ar,kW.new ar,k,ax,rfl)))
  intro arX GJ (jc,SC,uA,jn,rfl);subst aV;simp only[dT];exists (λau ib=>aN GJ ib/\Sc K a ns ib/\∃tw:Int,(0<=tw/\tw<=30)/\au=[~~~a,some (.int most),some (.int n),~~~nl,~~~wl,some (.int (i:Nat)),some (.int st),some (.int fN),some (.str (e1 uA)),some (.int tw),iB]),0
  .have ez:=iO ns (13+7*(i:Int)) (m:=9) ∅;have eS:=re ns (13+7*(i:Int)) (m:=9) ∅;(nofun; repeat (dsimp only[Re];nofun));let(v,aE,o'):∃v:Int,(0<=v/\v<=30)/\(if decide (dP ns (14+7*(i:Int)) 12=0)=true then V.int 30 else V.int (dP ns (13+7*(i:Int)) 9))=V.int v:=by
    split
    .exact (30,∅,rfl)
    .exact (_,(),rfl)
   refine(.inl (∅,∅),SC,(),(),∅,∅,λp ar=>(.inl (∅,∅),SC.new ar,(),(),∅,_,az.of aR,_,at2 _ _ _,?_));rw[o'];exact bX _ _ (bh ar,SC.new ar,v,aE,rfl)
  intro arv QY (tL,ze,W5,ady,rfl);subst aV;simp only[dT];exists (λau ib=>ib=QY/\∃NF:Int,(0<=NF/\NF<=5)/\au=[~~~a,some (.int most),some (.int n),~~~nl,~~~wl,some (.int (i:Nat)),some (.int st),some (.int fN),some (.str (e1 uA)),some (.int W5),some (.int NF)]),0
  .have ez:=iO ns (15+7*(i:Int)) (m:=6) ∅;have eS:=re ns (15+7*(i:Int)) (m:=6) ∅;(nofun; repeat (dsimp only[Re];nofun));exact(.inl (∅,∅),ze,(),(),∅,bX _ _ (rfl,_,(),rfl))
  intro ap5 anL (rfl,ne1,ab1,rfl);subst aV;simp only[dT];exists (λau ib=>ib=anL/\∃(k:Nat) (tw:Int),k<3/\(0<=tw/\tw<=30)/\au=[~~~a,some (.int most),some (.int n),~~~nl,~~~wl,some (.int (i:Nat)),some (.int st),some (.int fN),some (.str (e1 k)),some (.int tw),some (.int ne1)]),0
  .refine du (decide (dP ns 9 6=0)&&decide (0<dP ns (60+(i:Int)) 4)) (λQ aY=>?_) (λ_=>?_) (λ_=>?_)
   ·(nofun; repeat (dsimp only[Re];nofun));refine(ze,(),(),∅,?_);by_cases br:dP ns 9 6=0
    .rw [if_pos (decide_eq_true br)];rw[decide_eq_true br,nN]at aY;exact(ze,(),(),∅,aY)
    .rw [if_neg (by simpa using br)];rw[decide_eq_false br,om]at aY;exact aY
   .nofun;exact bX _ _ (rfl,1,0,∅,∅,rfl)
   .nofun;exact bX _ _ (rfl,uA,W5,jn,ady,rfl)
  intro aqv aqi (rfl,k,of2,ax,alc,rfl);have gJ:=jc.trans tL;have ago:=gJ _ _ alz;have anc:=hB.same gJ;have ez:=iO ns (16+7*(i:Int)) (m:=4) ∅;have eS:=re ns (16+7*(i:Int)) (m:=4) ∅;let(wX,aa7,hle):∃wX:Int,1+dP ns (16+7*(i:Int)) 4=wX/\1<=wX/\wX<=4:=(_,rfl,(),());let(qs,cy,de,al):=anc;subst aV;(nofun; repeat (dsimp only[Re];nofun));rw[aa7];refine(.inl (_,az.of cy),_,az.of ago,_,ahZ,.inl (∅,∅),ze,(),(),∅,∅,λp ar=>?_);have eL:wl≠p:=dm cy ar;have mS:=kk.snoc (d:=(k,nm,st,fN,of2,ne1,wX)) cy de al ar;refine(_,by rw[aP eL];exact cy,hO (show ↑(qs.map V.ref)<=8 by rw[aX];omega) ∅,(ze.new ar).set (by rw[aP eL];exact cy) (λ_ _ z=>by cases z),((s4.trans gJ).trans (bh ar)).hS ht,(ds++[(k,nm,st,fN,of2,ne1,wX)],mS,by rw[cB,hr];rfl,λd hd=>?_,λj d hd=>?_),?_)
  .rcases eI.mp hd with hd|hd
   .exact bu d hd
   .rw [d9.mp hd];exact((ax,N.2.2 nm (bU Cx),(e9.1,e9.2),(F0.1,F0.2),ck,alc,(ab1.1,by dsimp only;omega),(hle.1,by dsimp only;omega)),hle.2)
  .rcases nr hd with⟨_,z⟩|⟨z,rfl⟩
   .exact nx j d z
   .rw [z,hr];exact Cx
  .repeat (first|exact(_,rfl)|refine((_,rfl),?_))
 .rintro σ I bj;ac_rfl
  let(kW,s4,(ds,hB,hr,bu,nx),el,cF,c5,dQ,mI,iB,rfl):=bj;subst aV;nofun;refine(∅,λki qc=>?_);refine q ki wl n ds _ (((s0.trans s1).trans s4).trans (bh qc)) (kW.new qc) aR (hB.same (bh qc)) (λd hd=>((bu d hd).1,trivial),?_) (λd hd=>(bu d hd).2) a8 ();have e:ds.map (·.name)=xs:=by
   refine List.ext_getElem? λj=>?_
   rw[dg];cases h:ds[j]? with
   |some d=>exact(nx j d h).symm
   |none=>
    have:↑ds<=j:=adh.mp h;exact(adh.mpr (by rw[N.1];omega)).symm
  rw[e];exact N.2.1
def adu(d:bf):((((e1 d.k++af " ")++d.name)++af " ")++rf (af " ") [num d.start,num d.fin,num d.off,num d.near,num d.least])=ep cS (o6 d):=by
 apply AM;have gn:(af " ").cps.toList=[32]:=∅
 rw[show rf (af " ") [num d.start,num d.fin,num d.off,num d.near,num d.least]=ep cS [num d.start,num d.fin,num d.off,num d.near,num d.least]from Ai _ _];rw[p8,qf,Bl,On,On];unfold o6;simp only[p8,qf,fz,rC,mv,gn,jI,Fx,Md]
def al4(n:Int):af "ring "++num n=ep cS [af "ring",num n]:=by
 apply AM;have aq:(af "ring ").cps.toList=[114,105,110,103,32]:=∅
 have aD:(af "ring").cps.toList=[114,105,110,103]:=∅
 rw[Bl,On];simp only[p8,qf,fz,rC,mv,aq,aD,Fx,Md]
theorem Ed:∀{ys:List Str},(∀y∈ys,↑y<=B)->(ys.map (·.length)).sum<=↑ys*B
 |[],_=>by simp
 |a::r,h=>by
  have ae:=h a (by simp);have ak:=Ed (B:=B) (ys:=r) λy aM=>h y (i7 _ aM)
  rw[fz,za,gW,z6];omega
def acv(h:uW n ds):∀y∈(iZ n ds).map (ep cS),↑y<=63:=λy aM=>by
 let(r,ao,rfl):=cj.mp aM;have:=rg cS 8 r λx ag=>(h.plain r ao x ag).1
 rw[s8]at this;have aK:↑r<=7:=by
  rcases ei.mp ao with rfl|ao
  .simp
  .let(d,hd,rfl):=cj.mp ao;simp[o6]
 omega
def YD(K:bk):bO:=λvs H Q _=>∃n wl ds,vs=[.int n,⇑wl]/\kk H wl ds/\t2 n ds/\(2<=n/\n<=99)/\(1<=↑ds/\↑ds<=12)/\aL H/\Q (.str (qS n ds)) H
def agQ(K:bk):bO:=λvs H Q _=>∃n wl ds,vs=[.int n,⇑wl]/\kk H wl ds/\t2 n ds/\(2<=n/\n<=99)/\(1<=↑ds/\↑ds<=12)/\∀I,aN H I->Q (.str (qS n ds)) I
theorem an7:cq P base T 1 t.EW t.A4 DQ (YD K):=by
 refine cE.forget (sp:=agQ K) ?_ λvs H Q E h=>?_
 .exists T.LG.ok NB,9
  let(n,wl,ds,rfl,L,D,a8,aK,q):=h;refine(_,(db (b' (i:=2) NB.aG (e5 (ai (bN ce dF (rj yO rfl T.xB Tl (ai (U 0) aC))) aC)))
   (db (fP fV rfl (e6 (U 1)) (b8 (i:=3) NB.aG) (a4 (ea (fo gI lh lD kZ (U 2) (ai (bN ce (bN ce (bN ce (bN ce (bZ gM (U 3) aT) dF) (bZ gM (U 3) aT)) dF) (fo vQ B' Ec zy dF (ai (hR rfl (abl (nL abX (U 3) (nd aT) oy)) (f_ (sc:=bx (top 79)) rfl ∅) (N:=uw) (sel:=[none]) (f7 (M:=["_law_places","_law_ways_here","_law_rows","_law_way"]) ∅) (fa.of (λ_ _ _ _=>(b8 (i:=0) (ec (N:=uw) ∅ rfl))) (λ_ _ _ _=>(_,hT,by walk_at "B")) (λ_ _ _ _=>(_,(rj yO rfl T.xB Tl (ai (U 0) aC)),by walk_at "B")))) aC))) aC)))))
   (a4 (b7 (fo vQ B' Ec zy dF (ai (U 2) aC)))))),?_)
  have dv:=D.Pc a8 aK;let(qs,cy,de,al):=L;have hlen:∀x:Str,q_ x->↑x<=8:=λx h=>h.1
  have p2:∀k:Nat,k<=1000->k<=sizeLine:=λk h=>cM h ∅
  have ajR:↑(af "ring ")=5:=∅
  have ti:↑(af " ")=1:=∅
  nofun;have aqW:↑(af (toString n))<=8:=(mK (v:=n) () ()).1;refine(Jm (),p2 _ (by rw[ajR];omega),∅,λdZ EX=>?_);rw[al4];have s0:aN H (upd H dZ (.lst [V.str (ep cS [af "ring",num n])])):=bh EX;refine((_,az.of (s0 _ _ cy)),?_);refine ed.list (xs:=qs.map V.ref) (λi σ I=>aN H I/\I dZ\(.lst (a3 ((iZ n (ds.take i)).map (ep cS))))/\∃x,σ=[some (.int n),~~~wl,~~~dZ,x]) ?_ ?_ ?_ ?_
  .exact (s0,aR,none,rfl)
  .intro i σ I ah (bw,_,_);exact az.of (bw _ _ cy)
  .rintro i v σ I aE bj;ac_rfl
   let(bw,ao,x,rfl):=bj;let(dY,aI,rfl):=b_ aE;have m2:i<↑ds:=by rw[<- de];exact(b0.mp aI).1
   have hd:ds[i]?\ds[i]:=a6 m2;have ll:dM K I dY (l2 ds[i]):=dM.of (bw _ _ (al i dY _ aI hd));have hw:=(D.al _ (bU hd)).1;have ee:=hw.st;have eo:=hw.fN;have ft:=hw.of;have gP:=hw.w4;have pk:=hw.le;have gA:=hlen _ (TF ds[i].k);have eu:=hlen _ (KV hw.nm);have XF:↑(num ds[i].start)<=8:=hlen _ (mK (v:=ds[i].start) () ());have aqh:↑(num ds[i].fin)<=8:=hlen _ (mK (v:=ds[i].fin) () ());have arK:↑(num ds[i].off)<=8:=hlen _ (mK (v:=ds[i].off) () ());have apv:↑(num ds[i].least)<=8:=hlen _ (mK (v:=ds[i].least) () ());have aqe:↑(num ds[i].near)<=8:=hlen _ (mK (v:=ds[i].near) () ());subst aV;nofun;refine(.inl (_,az.of ao),?_);have ahT:gp (l2 ds[i]) 0\(.str (e1 ds[i].k)):=cv (j:=0) rfl;have agb:gp (l2 ds[i]) 1\(.str ds[i].name):=cv (j:=1) rfl;refine(_,ll,_,ahT,_,rfl,p2 _ (),_,ll,_,agb,_,rfl,p2 _ (by rw[pE];omega),p2 _ (by simp only[pE];omega),?_);have H9:jB (l2 ds[i]) (some 2) none=[.int ds[i].start,.int ds[i].fin,.int ds[i].off,.int ds[i].near,.int ds[i].least]:=rfl;refine(_,ll,?_,λp ar=>((_,dM.of aR),?_))
   .show ¬(eZ.dd 7 0 (some 2)=0/\eZ.dd 7 7 none=7);decide
   rw[H9];have aqX:↑(rf (af " ") [num ds[i].start,num ds[i].fin,num ds[i].off,num ds[i].near,num ds[i].least])<=50:=by
    rw[show rf (af " ") [num ds[i].start,num ds[i].fin,num ds[i].off,num ds[i].near,num ds[i].least]=ep cS [num ds[i].start,num ds[i].fin,num ds[i].off,num ds[i].near,num ds[i].least]from Ai _ _];have:=rg cS 8 [num ds[i].start,num ds[i].fin,num ds[i].off,num ds[i].near,num ds[i].least] (λy aM=>by
     simp only[ei,k2,or_false]at aM;rcases aM with rfl|rfl|rfl|rfl|rfl <;> assumption)
    rw[s8]at this;simp only[gW,z']at this;omega
   refine cY.agn (xs:=[.int ds[i].start,.int ds[i].fin,.int ds[i].off,.int ds[i].near,.int ds[i].least]) (zs:=a3 [num ds[i].start,num ds[i].fin,num ds[i].off,num ds[i].near,num ds[i].least]) (dM.of aR) (p2 _ ((∅:5<=1000))) rfl (λj v z N aE aQ bl=>?_) (λcX gc=>?_)
   .have key:∃a:Int,v=.int a/\z=.str (num a)/\0<=a/\a<100:=by
     match j,aE,aQ with
     |0,aE,aQ=>cases aE;cases aQ;exact(_,rfl,rfl,ee.1,())
     |1,aE,aQ=>cases aE;cases aQ;exact(_,rfl,rfl,eo.1,())
     |2,aE,aQ=>cases aE;cases aQ;exact(_,rfl,rfl,ft.1,())
     |3,aE,aQ=>cases aE;cases aQ;exact(_,rfl,rfl,gP.1,())
     |4,aE,aQ=>cases aE;cases aQ;exact(_,rfl,rfl,(),())
     |k+5,aE,aQ=>simp at aE
    let(a,rfl,rfl,PH,aqE):=key;nofun;exact(Sub.name,Jm (),bl)
   .nofun;have af4:dZ≠cX:=by
     rintro rfl;rw[aP (dm ao ar)]at gc;rw[gc]at ao;cases ao
    have hD:(upd (upd I p (.tup [.int ds[i].start,.int ds[i].fin,.int ds[i].off,.int ds[i].near,.int ds[i].least])) cX (.lst (a3 [num ds[i].start,num ds[i].fin,num ds[i].off,num ds[i].near,num ds[i].least]))) dZ\(.lst (a3 ((iZ n (ds.take i)).map (ep cS)))):=by
     rw[aP af4,aP (dm ao ar)];exact ao
    have xV:aN I (upd (upd I p (.tup [.int ds[i].start,.int ds[i].fin,.int ds[i].off,.int ds[i].near,.int ds[i].least])) cX (.lst (a3 [num ds[i].start,num ds[i].fin,num ds[i].off,num ds[i].near,num ds[i].least]))):=(bh ar).trans (bh gc);have Oo:=az.of (K:=K) (H:=upd (upd I p (.tup [.int ds[i].start,.int ds[i].fin,.int ds[i].off,.int ds[i].near,.int ds[i].least])) cX (.lst (a3 [num ds[i].start,num ds[i].fin,num ds[i].off,num ds[i].near,num ds[i].least]))) (a:=cX) aR;generalize upd (upd I p (.tup [.int ds[i].start,.int ds[i].fin,.int ds[i].off,.int ds[i].near,.int ds[i].least])) cX (.lst (a3 [num ds[i].start,num ds[i].fin,num ds[i].off,num ds[i].near,num ds[i].least]))=aw at hD xV Oo⊢;refine(_,Oo,?_,p2 _ (by simp only[pE];omega),_,hD,?_,?_,?_,_,rfl)
    .simp only[fz,rC,za,List.sum_nil,gW,z'];omega
    .rw [fE,aX];exact hO (show ↑(iZ n (ds.take i))<=13 by unfold iZ;rw[gW,aX,hC];omega) ∅
    .exact λb u e=>by rw[aP (dm e EX)];exact xV _ _ (bw _ _ e)
    .rw [aR,adu ds[i]];congr 2;unfold iZ a3;simp;rw[oc,dg,hd];rfl
  .rintro σ I bj;ac_rfl
   let(bw,ao,x,rfl):=bj;subst aV;nofun;rw[aX,de,i5]at ao;refine(_,az.of ao,?_,?_)
   .have i3:∀y∈(iZ n ds).map (ep cS),↑y<=63:=acv dv;have aqg:↑((iZ n ds).map (ep cS))<=13:=by
     unfold iZ;rw[aX,gW,aX];omega
    have:=Ed i3;rw[(∅:↑(af "\n")=1)];omega
   .have:=q I bw;unfold qS at this;rw[show rf (af "\n") ((iZ n ds).map (ep cS))=ep nl ((iZ n ds).map (ep cS))from Ai _ _];exact this
 .let(n,wl,ds,ae,ak,aZ,bY,dS,bC,q):=h;exact(bC,n,wl,ds,ae,ak,aZ,bY,dS,λI bw=>(bw,q))
def afX(K:bk):bO:=λvs H Q _=>∃n a b d e,vs=[⇑a,⇑b,.int n]/\dM K H a (l2 d)/\dM K H b (l2 e)/\ph n d/\ph n e/\Q (.bp (mt n d e)) H
noncomputable def ih(d e:bf):Bool:=decide (d.k=2)==decide (e.k=2)
def an_(K:bk):bO:=λvs H Q _=>∃wl ds,∃i j:Nat,∃d e,vs=[⇑wl,.int i,.int j]/\kk H wl ds/\ds[i]?\d/\ds[j]?\e/\d.k<3/\e.k<3/\Q (.bp (ih d e)) H
def ai2:cq P base T 1 t.Jn t.ID KY (afX K):=by
 exists T.MS.ok Ct,9
 let(n,a,b,d,e,rfl,sW,vb,hd,he,q):=h;refine(_,(db (d4 (dh e3 (bZ gM (U 0) aT) (bZ gM (U 1) aT) (cL _)) (a4 (b7 kG)) en)
   (db (d4 (gv.pt (pN (dh e3 (bZ gM (U 0) aT) (bZ gM (U 1) aT) (cL _)) (pN (dh e3 (bZ gM (U 0) aT) (bZ gM (U 1) aT) (cL _)) (t6 (dh e3 (bZ gM (U 0) aT) (bZ gM (U 1) aT) (cL _)))))) (a4 (b7 kG)) en)
   (db (b' (i:=3) Ct.aG (bN jN (bN mz (bZ gM (U 0) aT) (bZ gM (U 0) aT)) (U 2)))
   (db (b' (i:=4) Ct.aG (bN jN (bN mz (bZ gM (U 1) aT) (bZ gM (U 0) aT)) (U 2)))
   (db (b' (i:=5) Ct.aG (bN jN (bN mz (bZ gM (U 1) aT) (bZ gM (U 0) aT)) (U 2)))
   (a4 (b7 (hV og (hV ir (U 4) (U 3) (cL _)) (hV ir (U 5) (U 3) (cL _)) (cL _))))))))),?_)
 have a2:gp (l2 d) 2\(.int d.start):=cv (j:=2) rfl;have dH:gp (l2 d) 3\(.int d.fin):=cv (j:=3) rfl;have eo:gp (l2 e) 2\(.int e.start):=cv (j:=2) rfl;have ft:gp (l2 e) 3\(.int e.fin):=cv (j:=3) rfl;have f1:=hd.st;have f2:=hd.fN;have eV:=he.st;have f4:=he.fN;refine du (decide (d.fin=e.fin)) (λQ aY=>?_) (λc=>?_) (λc=>?_)
 .nofun;refine(_,sW,_,dH,_,vb,_,ft,rfl,?_);nofun;exact aY
 .nofun;unfold mt uP at q;rw[c,ry]at q;exact q
 .have c':=of_decide_eq_false c;nofun;refine du (decide (d.start=e.start)||(decide (d.start=e.fin)||decide (d.fin=e.start))) (λQ aY=>?_) (λaa=>?_) (λaa=>?_)
  .nofun;refine(_,sW,_,a2,_,vb,_,eo,rfl,?_);by_cases aW:d.start=e.start
   .rw [if_pos (by simp[aW])];rw[decide_eq_true aW,ry]at aY;exact aY
   .rw[if_neg (by simpa using aW)];refine(_,sW,_,a2,_,vb,_,ft,rfl,?_);by_cases bJ:d.start=e.fin
    .rw [if_pos (by simp[bJ])];rw[decide_eq_false aW,decide_eq_true bJ,mR,ry]at aY;exact aY
    .rw [if_neg (by simpa using bJ)];refine(_,sW,_,dH,_,vb,_,eo,rfl,?_);rw[decide_eq_false aW,decide_eq_false bJ,mR,mR]at aY;rw[show decide (V.int d.fin=V.int e.start)=decide (d.fin=e.start)from decide_eq_decide.mpr (by simp)];exact aY
  .nofun;unfold mt uP at q;rw[c,mR,if_pos (by
    rw[zp,zp,decide_eq_true_eq,decide_eq_true_eq,decide_eq_true_eq]at aa
    omega)]at q
   exact q
  .rw[yz,yz,decide_eq_false_iff_not,decide_eq_false_iff_not,decide_eq_false_iff_not]at aa;have qD:0<n:=()
   have da:0<(e.start-d.start)%n:=by rw[CC f1.1 f1.2 eV.1 eV.2];split <;> omega
   have cX:0<(e.fin-d.start)%n:=by rw[CC f1.1 f1.2 f4.1 f4.2];split <;> omega
   unfold mt uP lx at q;rw[c,mR,if_neg (),decide_eq_true da,decide_eq_true cX,nN,nN]at q;nofun;refine(_,sW,_,dH,_,sW,_,a2,_,rfl,_,rfl,qD,_,vb,_,eo,_,sW,_,a2,_,rfl,_,rfl,qD,_,vb,_,ft,_,sW,_,a2,_,rfl,_,rfl,qD,?_);generalize decide ((e.start-d.start)%n<(d.fin-d.start)%n)=X at q⊢;generalize decide ((e.fin-d.start)%n<(d.fin-d.start)%n)=Y at q⊢;cases X <;> cases Y <;> exact q
def ano:cq P base T 1 t.JL t.Ms Kr (an_ K):=by
 exists T.LK.ok Wr,9
 let(wl,ds,i,j,d,e,rfl,(qs,cy,de,al),ah,aJ,ax,e4,q):=h;have hA:qs[i]?\(qs[i]'(by rw[de];exact(b0.mp ah).1)):=a6 _;have eN:qs[j]?\(qs[j]'(by rw[de];exact(b0.mp aJ).1)):=a6 _;have mQ:=al i _ d hA ah;have q3:=al j _ e eN aJ;have tA:=cv (xs:=qs.map V.ref) (j:=i) (by rw[dg,hA];rfl);have MC:=cv (xs:=qs.map V.ref) (j:=j) (by rw[dg,eN];rfl);refine(_,(db (b' (i:=3) Wr.aG (hV e3 (bZ gM (bZ c8 (U 0) (U 1)) aT) dF (cL _)))
   (a4 (b7 (hV e3 (U 3) (hV e3 (bZ gM (bZ c8 (U 0) (U 2)) aT) dF (cL _)) (cL _))))),?_)
 nofun;refine(_,az.of cy,_,tA,_,rfl,_,dM.of mQ,_,cv (j:=0) rfl,rfl,_,az.of cy,_,MC,_,rfl,_,dM.of q3,_,cv (j:=0) rfl,rfl,?_);have ae:∀k,k<3->decide (V.str (e1 k)=V.str (af "tram"))=decide (k=2):=∅
 rw[ae d.k ax,ae e.k e4];unfold ih at q;rw[show decide (decide (d.k=2)=decide (e.k=2))=(decide (d.k=2)==decide (e.k=2))from rfl];exact q
structure k0(cx H:av)(gl:Addr)(qs:List Addr)(cw:List (List Nat)):Prop where
 ae:H gl\(.lst (qs.map V.ref))
 ak:↑qs=↑cw
 aZ:qs.Nodup
 bY:gl∉qs
 dS:∀(i:Nat) (q:Addr) (g:List Nat),qs[i]?\q->cw[i]?\g->H q\(.lst (g.map λk:Nat=>V.int k))
 je:∀q∈qs,cx q=none
def k0.same(h:k0 cx H gl qs cw)(s:aN H I):k0 cx I gl qs cw:=
 (s _ _ h.ae,h.ak,h.aZ,h.bY,λi q g a b=>s _ _ (h.dS i q g a b),h.je)
structure ku(n:Int)(ds:List bf)(m:Nat)(cw:List (List Nat)):Prop where
 ne:∀g∈cw,g≠[]
 pm:cw.flatten.Perm (fb m)
 DB:∀g∈cw,∀i∈g,∀j∈g,i≠j->∀d e,ds[i]?\d->ds[j]?\e->mt n d e=false
 al:∀g∈cw,∀i∈g,∀j∈g,∀d e,ds[i]?\d->ds[j]?\e->ih d e=true
def ku.nil(n:Int)(ds:List bf):ku n ds 0 []:=(by simp,by simp,by simp,by simp)
def vR:ih y z=true↔(y.k=2↔z.k=2):=by
 unfold ih;simp
def ajT(h:ih y z=true):ih z y=true:=vR.mpr (vR.mp h).symm
def abJ{x y z:bf}(h:ih x y=true)(h':ih y z=true):ih x z=true:=vR.mpr ((vR.mp h).trans (vR.mp h'))
def k0.off{gl x:Addr}(h:k0 cx H gl qs cw)(ag:x≠gl)(aI:x∉qs):k0 cx (upd H x o) gl qs cw:=
 (by rw[aP (et ag)];exact h.ae,h.ak,h.aZ,h.bY,λi q g a b=>by rw[aP (λz=>aI (by rw[<- z];exact bU a))];exact h.dS i q g a b,h.je)
def VU(l:List α)(i:Nat)(a:α):(ins l i a).Perm (l++[a]):=by
 unfold ins;refine abk.trans ?_;rw[OD];exact(ai0 (l₁:=[a]) (l₂:=l))
def adA:∀{l l':List (List α)},l.Perm l'->l.flatten.Perm l'.flatten:=λh=>h.flatten
theorem PW:∀{cw:List (List Nat)} {j:Nat} {g g':List Nat} {k:Nat},cw[j]?\g->g'.Perm (g++[k])->(cw.set j g').flatten.Perm (cw.flatten++[k])
 |[],j,g,g',k,h,_=>by simp at h
 |pL::cw,0,g,g',k,h,p=>by
  cases(show pL=g by simpa using h);show(g'::cw).flatten.Perm _;rw[wm,wm,jI];refine(p.append_right _).trans ?_;rw[jI];exact aeq pL ai0
 |pL::cw,j+1,g,g',k,h,p=>by
  rw[AO]at h;show(pL::cw.set j g').flatten.Perm _;rw[wm,wm,jI];exact aeq pL (PW h p)
def ku.put {m:Nat} (S:ku n ds m cw) {j p:Nat} (a7:cw[j]?\g) (hd:ds[m]?\d)
  (Ax:∀i∈g,∀e,ds[i]?\e->mt n e d=false/\mt n d e=false/\ih e d=true):ku n ds (m+1) (cw.set j (ins g p m)):=by
 have mA:=bU a7;refine(λx ag=>?_,?_,λx ag i ah jf fS ck e bD he ix=>?_,λx ag i ah jf fS e bD he ix=>?_)
 .rcases WO ag with z|z
  .exact S.ne x z
  .rw [z];unfold ins;simp
 .rw [wJ];exact(PW a7 (VU g p m)).trans (S.pm.append_right [m])
 .rcases WO ag with z|z
  .exact S.DB x z i ah jf fS ck e bD he ix
  .rw[z]at ah fS;rcases oG ah with u|u
   .subst u;rw[hd]at he;cases he;rcases oG fS with v|v
    .exact absurd v.symm ck
    .exact (Ax jf v bD ix).2.1
   .rcases oG fS with v|v
    .subst v;rw[hd]at ix;cases ix;exact(Ax i u e he).1
    .exact S.DB g mA i u jf v ck e bD he ix
 .rcases WO ag with z|z
  .exact S.al x z i ah jf fS e bD he ix
  .rw[z]at ah fS;have self:∀y:bf,ih y y=true:=λy=>by unfold ih;simp
   have sym:∀y z:bf,ih y z=true->ih z y=true:=λy z h=>ajT h
   rcases oG ah with u|u
   .subst u;rw[hd]at he;cases he;rcases oG fS with v|v
    .subst v;rw[hd]at ix;cases ix;exact self _
    .exact sym _ _ (Ax jf v bD ix).2.2
   .rcases oG fS with v|v
    .subst v;rw[hd]at ix;cases ix;exact(Ax i u e he).2.2
    .exact S.al g mA i u jf v e bD he ix
def ku.new{m:Nat}(S:ku n ds m cw)(p:Nat):ku n ds (m+1) (ins cw p [m]):=by
 have self:∀y:bf,ih y y=true:=λy=>by unfold ih;simp
 refine(λx ag=>?_,?_,λx ag i ah jf fS ck e bD he ix=>?_,λx ag i ah jf fS e bD he ix=>?_)
 .rcases oG ag with z|z
  .rw [z];simp
  .exact S.ne x z
 .rw [wJ];refine(adA (VU cw p [m])).trans ?_;rw[apa];simpa using S.pm.append_right [m]
 .rcases oG ag with z|z
  .rw [z]at ah fS;exact absurd ((d9.mp ah).trans (d9.mp fS).symm) ck
  .exact S.DB x z i ah jf fS ck e bD he ix
 .rcases oG ag with z|z
  .rw [z]at ah fS;rw[d9.mp ah]at he;rw[d9.mp fS,he]at ix;cases ix;exact self _
  .exact S.al x z i ah jf fS e bD he ix
def k0.put(h:k0 cx H gl qs cw)(aI:qs[j]?\q)(aJ:j<↑cw) :
  k0 cx (upd H q (.lst (g'.map λk:Nat=>V.int k))) gl qs (cw.set j g'):=by
 let(ae,ak,aZ,bY,dS,je):=h;have mW:gl≠q:=λz=>bY (by rw[z];exact bU aI)
 refine(by rw[aP mW];exact ae,by rw[YS];exact ak,aZ,bY,λi r g a b=>?_,je);by_cases c:i=j
 .subst c;rw[aI]at a;cases a;rw[IF aJ]at b;cases b;exact aR
 .rw[IS (λe=>c e.symm)]at b;have ck:r≠q:=λe=>by
   subst e;let(a1,ee):=b0.mp a;let(a2,eo):=b0.mp aI;exact c ((Cu aZ).mp (ee.trans eo.symm))
  rw[aP ck];exact dS i r g a b
def k0.new{gl p:Addr}{k:Nat}(h:k0 cx H gl qs cw)(h0:aN cx H)(ar:H p=none)(ax:k<=↑cw) :
  k0 cx (upd (upd H p (.lst (g.map λk:Nat=>V.int k))) gl (.lst ((ins qs k p).map V.ref))) gl (ins qs k p) (ins cw k g):=by
 have Ez:gl≠p:=dm h.ae ar;have ac':p∉qs:=λz=>by
  let(i,ah):=hy z;have L5:i<↑cw:=by rw[<- h.ak];exact(b0.mp ah).1
  have e:=h.dS i p _ ah (a6 L5);rw[ar]at e;cases e
 have Sr:k<=↑qs:=by rw[h.ak];exact ax
 refine(aR,by rw[Wc Sr,Wc ax,h.ak],ajZ h.aZ ac',λz=>?_,λi q g' a b=>?_,λq aI=>?_)
 .rcases oG z with z|z
  .exact Ez z
  .exact h.bY z
 .rw[uH Sr]at a;rw[uH ax]at b;have keep:∀{i:Nat} {q:Addr} {g':List Nat},qs[i]?\q->cw[i]?\g'->upd (upd H p (.lst (g.map λk:Nat=>V.int k))) gl (.lst ((ins qs k p).map V.ref)) q=some (.lst (g'.map λk:Nat=>V.int k)):=λ{i q g'} a b=>by
   have e:=h.dS i q g' a b;have mW:q≠gl:=λz=>h.bY (by rw[<- z];exact bU a)
   rw[aP mW,aP (dm e ar)];exact e
  by_cases aW:i<k
  .rw [if_pos aW]at a b;exact keep a b
  .rw[if_neg aW]at a b;by_cases bJ:i=k
   .rw [if_pos bJ]at a b;cases a;cases b;rw[aP (et Ez),aR]
   .rw [if_neg bJ]at a b;exact keep a b
 .rcases oG aI with z|z
  .rw [z];exact h0.free ar
  .exact h.je q z
structure g9 where
 lo:Int
 ah:Int
 fg:List Nat
structure oN(H:av)(cH:Addr)(qs ms:List Addr)(sts:List g9):Prop where
 at_:H cH\(.lst (qs.map V.ref))
 cy:↑qs=↑sts
 de:↑ms=↑sts
 al:∀(i:Nat) (q m:Addr) (s:g9),qs[i]?\q->ms[i]?\m->sts[i]?\s->H q\(.tup [.int s.lo,.int s.ah,⇑m])/\H m\(.lst (s.fg.map λk:Nat=>V.int k))
def oN.same(h:oN H cH qs ms sts)(s:aN H I):oN I cH qs ms sts:=
 (s _ _ h.at_,h.cy,h.de,λi q m r a b c=>(s _ _ (h.al i q m r a b c).1,s _ _ (h.al i q m r a b c).2))
structure Cn(n:Int)(ds:List bf)(sts:List g9):Prop where
 bt:ku n ds ↑ds (sts.map (·.fg))
 le:∀s∈sts,∀i∈s.fg,∀d,ds[i]?\d->d.least<=s.lo
 bd:∀s∈sts,1<=s.lo/\s.lo<=21/\s.lo<=s.ah/\s.ah<=40
theorem ku.len{m:Nat}(S:ku n ds m cw):↑cw<=m/\↑cw.flatten=m:=by
 have ae:=S.pm.length_eq;rw[sb]at ae;have:∀{cw:List (List Nat)},(∀g∈cw,g≠[])->↑cw<=↑cw.flatten:=λ{cw}=>by
  induction cw with
  |nil=>intro _;simp
  |cons g cw cZ=>
   intro h;have a1:=cZ λx ag=>h x (i7 _ ag)
   have a2:=DT.mpr (h g (by simp));rw[wm,cB,gW];omega
 have:=this S.ne;omega
def ku.lt{m:Nat}(S:ku n ds m cw)(a7:g∈cw)(ah:i∈g):i<m:=pq.mp (S.pm.mem_iff.mp (Ga.mpr (g,a7,ah)))
def ku.HH{m:Nat}(S:ku n ds m cw)(a7:g∈cw):↑g<=m:=by
 have ae:=(af_ a7).length_le;have:=S.len.2;omega
def aaG(h0:0<=i)(ae:i<6):∃mo:Int,(1<=mo/\mo<=20)/\gp [V.int 4,V.int 4,V.int 4,V.int 4,V.int 4,V.int 20] i\(.int mo):=by
 have:i=0\/i=1\/i=2\/i=3\/i=4\/i=5:=()
 rcases this with rfl|rfl|rfl|rfl|rfl|rfl
 .exact (4,∅,cv (j:=0) rfl)
 .exact (4,∅,cv (j:=1) rfl)
 .exact (4,∅,cv (j:=2) rfl)
 .exact (4,∅,cv (j:=3) rfl)
 .exact (4,∅,cv (j:=4) rfl)
 .exact (20,∅,cv (j:=5) rfl)
def OI(K:bk):bO:=λvs H Q _=>∃(a:Addr) (ns:List Int) (n:Int) (wl:Addr) (ds:List bf),vs=[⇑a,.int n,⇑wl]/\↑ns<=63/\az K H a (ns.map V.int)/\aL H/\kk H wl ds/\t2 n ds/\(∀d∈ds,d.least<=4)/\(1<=↑ds/\↑ds<=8) /\
 ∀cH qs ms sts I,aN H I->aL I->oN I cH qs ms sts->Cn n ds sts->Q ⇑cH I
theorem af8:cq P base T 2 t.BY t.DV DE (OI K):=by
 refine cA (aaK T) λgx=>cA (ai2 T) λahY=>cA (ano T) λacD=>?_;exists T.GY.ok mj,9
 let(a,ns,n,wl,ds,rfl,i3,S,bC,L,D,hle,hr,q):=h;let(m6,cy,de,LV):=id L;have jQ:↑(m6.map V.ref)=↑ds:=by rw[aX,de]
 have yq:∀(i:Nat) (d:bf),ds[i]?\d->∃rr,gp (m6.map V.ref) (i:Int)\⇑rr/\H rr\(.tup (l2 d)):=λi d hd=>by
  have hA:m6[i]?\(m6[i]'(by rw[de];exact(b0.mp hd).1)):=a6 _;exact(_,cv (by rw[dg,hA];rfl),LV i _ d hA hd)
 refine(_,(db (b' (i:=3) mj.aG (e5 aC))
   (db (fP fV rfl (l0 rfl T.k8 (ai (fx iV rfl T.iE iw (ai (U 2) aC)) aC)) (b8 (i:=4) mj.aG) (db (b' (i:=5) mj.aG (e5 aC))
   (db (fP fV rfl (l0 rfl T.k8 (ai (fx iV rfl T.iE iw (ai (U 3) aC)) aC)) (b8 (i:=6) mj.aG) (db (b' (i:=7) mj.aG (b3 acD ao T.amn T.LK.bo T.aio (ai (U 2) (ai (bZ c8 (bZ c8 (U 3) (U 6)) aT) (ai (U 4) aC)))))
   (db (fP fV rfl (e6 (bZ c8 (U 3) (U 6))) (b8 (i:=8) mj.aG) (a4 (b' (i:=7) mj.aG (sr (U 7) (sh (K9 (b3 ahY ao T.alf T.MS.bo T.ZO (ai (bZ c8 (U 2) (U 8)) (ai (bZ c8 (U 2) (U 4)) (ai (U 1) aC))))))))))
   (a4 (d4 (lE (U 7)) (a4 (ea (fo gI lh lD kZ (U 5) (ai (U 6) aC)))) en)))))
   (a4 (d4 (gv.pt (qn (dh uD (fx iV rfl T.iE iw (ai (U 5) aC)) aT (cL _)) (p_ (dh uD (b3 gx ao T.g8 T.gq.bo T.hg (ai (U 0) (ai (bN ew aT (U 4)) (ai aT aC)))) aT (cL _))))) (db (b' (i:=6) mj.aG (bZ c8 (U 5) (b3 gx ao T.g8 T.gq.bo T.hg (ai (U 0) (ai (bN ew aT (U 4)) (ai (fx iV rfl T.iE iw (ai (U 5) aC)) aC))))))
   (a4 (ea (fo gI PK aen Ux (bZ c8 (U 3) (U 6)) (ai (b3 gx ao T.g8 T.gq.bo T.hg (ai (U 0) (ai (bN ew aT (U 4)) (ai (bN ew (fx iV rfl T.iE iw (ai (bZ c8 (U 3) (U 6)) aC)) aT) aC)))) (ai (U 4) aC)))))) (a4 (ea (fo gI PK aen Ux (U 3) (ai (b3 gx ao T.g8 T.gq.bo T.hg (ai (U 0) (ai (bN ew aT (U 4)) (ai (bN ew (fx iV rfl T.iE iw (ai (U 3) aC)) aT) aC)))) (ai (e5 (ai (U 4) aC)) aC))))))))))
   (db (b' (i:=9) mj.aG (e5 aC))
   (db (fP fV rfl (l0 rfl T.k8 (ai (fx iV rfl T.iE iw (ai (U 3) aC)) aC)) (b8 (i:=6) mj.aG) (db (b' (i:=10) mj.aG (bN ew (fx (TX rfl) rfl T.E8 Ii (ai (hR rfl (e6 (bZ c8 (U 3) (U 6))) (f_ (sc:=bx (top 82)) rfl ∅) (N:=Cm) (sel:=[none,some 2]) (f7 (M:=["_law_script","_law_places","_law_ways_here","_law_some","_law_k","_law_fits","_law_j","_law_good","_law_i","_law_stages_here","_law_low","_law_more"]) ∅) (fa.of (λ_ _ _ _=>(b8 (i:=0) (ec (N:=Cm) ∅ rfl))) (λ_ _ _ _=>(_,hT,by walk_at "B")) (λ_ _ _ _=>(_,(bZ gM (bZ c8 (U 1) (U 0)) aT),by walk_at "B")))) aC)) (b3 gx ao T.g8 T.gq.bo T.hg (ai (U 0) (ai (bN ew aT (U 6)) (ai aT aC))))))
   (db (d4 (dh e3 (b3 gx ao T.g8 T.gq.bo T.hg (ai (U 0) (ai (bN ew aT (U 6)) (ai aT aC)))) aT (cL _)) (a4 (b' (i:=10) mj.aG (bN ew (U 10) aT))) en)
   (db (b' (i:=11) mj.aG (bZ c8 (e5 (ai aT (ai aT (ai aT (ai aT (ai aT (ai aT aC))))))) (b3 gx ao T.g8 T.gq.bo T.hg (ai (U 0) (ai (bN ew aT (U 6)) (ai aT aC))))))
   (a4 (ea (fo gI lh lD kZ (U 9) (ai (rK (ai (U 10) (ai (bN ew (U 10) (b3 gx ao T.g8 T.gq.bo T.hg (ai (U 0) (ai (bN ew aT (U 6)) (ai (U 11) aC))))) (ai (bZ c8 (U 3) (U 6)) aC)))) aC))))))))
   (a4 (b7 (U 9))))))),?_)
 exists (λau I=>aN H I/\aL I/\∃gl,H gl=none/\I gl\(.lst [])/\au=[~~~a,some (.int n),~~~wl,~~~gl,none,none,none,none,none,none,none,none]),3
 .nofun;exact(eW _,λgl lY=>bX _ _ (bh lY,bC.upd,gl,lY,aR,rfl))
 intro fG H1 (s1,cP,gl,lY,dN,rfl);subst aV;exists (λau I=>aN H I/\aL I/\(∃qs cw,k0 H I gl qs cw/\ku n ds ↑ds cw)/\∃dD el cF c5 dQ,au=[~~~a,some (.int n),~~~wl,~~~gl,dD,el,cF,c5,dQ,none,none,none]),3
 .nofun;refine⟨_,.inl (az.of (s1 _ _ cy)),(),by rw[jQ];omega,?_⟩;rw[show((↑(m6.map V.ref):Nat):Int).toNat=↑ds by rw[jQ];rfl];refine ed.range (fun k σ I=>aN H I/\aL I/\(∃qs cw,k0 H I gl qs cw/\ku n ds k cw)/\∃dD el cF c5 dQ,σ=[~~~a,some (.int n),~~~wl,~~~gl,dD,el,cF,c5,dQ,none,none,none]) ⟨s1,cP,⟨[],[],⟨dN,rfl,qx,by simp,fun i q g h=>by simp at h,fun q h=>by simp at h⟩,ku.nil n ds⟩,_,_,_,_,_,rfl⟩ ?_ ?_
  .rintro k σ I ax bj;ac_rfl
   let(s2,cW,(qs,cw,G,ly),dD,el,cF,c5,dQ,rfl):=bj;have ue:ds[k]?\ds[k]:=a6 ax;subst aV;generalize aro:ds[k]=d at ue;have hd:=(D.al d (bU ue)).1;have abO:=ly.len;simp only[gU,dT,jV,jH,rH];exists (λau aw=>aN I aw/\aL aw/\∃fc,I fc=none/\aw fc\(.lst [])/\au=[~~~a,some (.int n),~~~wl,~~~gl,some (.int (k:Nat)),~~~fc,cF,c5,dQ,none,none,none]),0
   .nofun;exact(eW _,λfc pe=>bX _ _ (bh pe,cW.upd,fc,pe,aR,rfl))
   intro cD aw (s3,dw,fc,pe,ij,rfl);have ac1:fc≠gl:=λe=>by rw[e,G.ae]at pe;cases pe
   have Z6:fc∉qs:=λz=>by
    let(i,ah):=hy z;have L5:i<↑cw:=by rw[<- G.ak];exact(b0.mp ah).1
    have e:=G.dS i fc _ ah (a6 L5);rw[pe]at e;cases e
   subst aV;simp only[dT];exists (λau ba=>aN I ba/\aL ba/\k0 H ba gl qs cw/\(∃a5:List Nat,ba fc\(.lst (a5.map λk:Nat=>V.int k))/\↑a5<=↑cw/\∀f∈a5,∃g,cw[f]?\g/\∀i∈g,∀e,ds[i]?\e->mt n e d=false/\mt n d e=false/\ih e d=true)/\∃cF c5 dQ,au=[~~~a,some (.int n),~~~wl,~~~gl,some (.int (k:Nat)),~~~fc,cF,c5,dQ,none,none,none]),0
   .nofun;have mW:↑(qs.map V.ref)=↑cw:=by rw[aX,G.ak]
    refine(_,.inl (az.of (s3 _ _ G.ae)),(),by rw[mW];omega,?_);rw[show((↑(qs.map V.ref):Nat):Int).toNat=↑cw by rw[mW];rfl];refine ed.range (λj σ ba=>aN I ba/\aL ba/\k0 H ba gl qs cw/\(∃a5:List Nat,ba fc\(.lst (a5.map λk:Nat=>V.int k))/\↑a5<=j/\∀f∈a5,∃g,cw[f]?\g/\∀i∈g,∀e,ds[i]?\e->mt n e d=false/\mt n d e=false/\ih e d=true)/\∃cF c5 dQ,σ=[~~~a,some (.int n),~~~wl,~~~gl,some (.int (k:Int)),~~~fc,cF,c5,dQ,none,none,none]) (s3,dw,G.same s3,([],ij,bQ _,λf h=>by simp at h),_,_,_,rfl) ?_ ?_
    .rintro j σ ba aJ bj;ac_rfl
     let(s4,di,ic,(a5,iC,Fb,wy),cF,c5,dQ,rfl):=bj;have qL:cw[j]?\cw[j]:=a6 aJ;have eN:qs[j]?\(qs[j]'(by rw[G.ak];exact aJ)):=a6 _;subst aV;generalize qs[j]'(by rw[G.ak];exact aJ)=k_ at eN;generalize KA:cw[j]=g at qL;have mA:=bU qL;let(pL,ar4,pF):=qe (ly.ne g mA);have g_:∀i∈g,∃e,ds[i]?\e:=λi ah=>(_,a6 (OO (ly.lt mA ah) ax))
     have Ox:pL∈g:=by rw[pF];exact oi ..
     let(kY,tG):=g_ pL Ox;have vL:=ic.dS j k_ g eN qL;have yg:=cv (xs:=qs.map V.ref) (j:=j) (by rw[dg,eN];rfl);have gJ:=s2.trans s4;have hB:=L.same gJ;have An:=gJ _ _ cy;simp only[gU,dT,jV,jH,rH];exists (λau cn=>cn=ba/\au=[~~~a,some (.int n),~~~wl,~~~gl,some (.int (k:Int)),~~~fc,some (.int (j:Int)),some (.bp (ih kY d)),dQ,none,none,none]),0
     .nofun;exact(_,az.of ic.ae,_,yg,_,rfl,_,az.of vL,_,by rw[pF];exact cv (j:=0) rfl,wl,ds,pL,k,kY,d,rfl,hB,tG,ue,(D.al kY (bU tG)).1.k,hd.k,bX _ _ (rfl,rfl))
     intro kE cn (rfl,rfl);subst aV;simp only[dT];exists (λau cR=>cR=cn/\∃(nI:Bool) (dQ:Option V),(nI=true->ih kY d=true/\∀i∈g,∀e,ds[i]?\e->mt n e d=false)/\au=[~~~a,some (.int n),~~~wl,~~~gl,some (.int (k:Int)),~~~fc,some (.int (j:Int)),some (.bp nI),dQ,none,none,none]),0
     .nofun;refine(_,az.of ic.ae,_,yg,_,rfl,(_,az.of vL),?_);refine ed.list (xs:=g.map λk:Nat=>V.int k) (λl σ cR=>cR=cn/\∃(nI:Bool) (dQ:Option V),(nI=true->ih kY d=true/\∀i∈g.take l,∀e,ds[i]?\e->mt n e d=false)/\σ=[~~~a,some (.int n),~~~wl,~~~gl,some (.int (k:Int)),~~~fc,some (.int (j:Int)),some (.bp nI),dQ,none,none,none]) ?_ ?_ ?_ ?_
      .exact (rfl,_,_,λz=>(z,λi h=>by simp at h),rfl)
      .intro l σ cR aK (rfl,_);exact az.of vL
      .rintro l v σ cR aE bj;ac_rfl
       let(rfl,nI,dQ,sI,rfl):=bj;let(i,ah,rfl):=b_ aE;let(e,he):=g_ i (bU ah);let(hX,tA,IV):=yq i e he;let(aiI,ac7,ah2):=yq k d ue;have step:∀eo:Bool,(eo=true->nI=true/\mt n e d=false)->(eo=true->ih kY d=true/\∀i∈g.take (l+1),∀e,ds[i]?\e->mt n e d=false):=λeo h z=>by
        let(gA,eu):=h z;let(oU,rS):=sI gA;refine(oU,λjf fS bD ix=>?_);rw[oc,ah]at fS;rcases eI.mp fS with u|u
        .exact rS jf u bD ix
        .rw [show jf=i by simpa using u,he]at ix;cases ix;exact eu
       subst aV;nofun;cases nI with
       |true=>
        rw[if_pos rfl];refine(_,az.of An,_,tA,_,az.of An,_,ac7,n,hX,aiI,e,d,rfl,dM.of (gJ _ _ IV),dM.of (gJ _ _ ah2),(D.al e (bU he)).1,hd,_,rfl,?_);exact(rfl,_,step _ (λz=>(rfl,by simpa using z)),rfl,_,rfl)
       |false=>
        rw[if_neg ∅];exact(false,(λz=>nomatch z),rfl,_,rfl)
      .rintro σ cR bj;ac_rfl
       let(rfl,nI,dQ,sI,rfl):=bj;subst aV;rw[aX,i5]at sI;exact bX _ _ (rfl,nI,dQ,sI,rfl)
     intro qP cR (rfl,nI,dQ,sI,rfl);subst aV;dsimp only;refine du nI (λQ aY=>?_) (λaa=>?_) (λaa=>?_)
     .nofun;exact aY
     .obtain⟨oU,rS⟩:=sI aa;nofun;refine⟨.inl ⟨_,az.of iC⟩,_,iC,hO (show ↑(a5.map fun k:Nat=>V.int k)<=8 by rw[aX];omega) ∅,s4.hS pe,di.upd,ic.off ac1 Z6,⟨a5++[j],by rw[aR,e'];rfl,by rw[cB];show ↑a5+1<=j+1;omega,fun f hf=>?_⟩,?_⟩
      .rcases eI.mp hf with z|z
       .exact wy f z
       .rw [d9.mp z];refine(g,qL,λi ah e he=>(rS i ah e he,?_,abJ (ly.al g mA i ah pL Ox e kY he tG) oU));have mi:=(D.al e (bU he)).1;have:=ah' mi.st mi.fN hd.st hd.fN mi.ne hd.ne;exact(this.symm.trans (rS i ah e he):mt n d e=false)
      .exact (_,rfl)
     .simp only[gy];exact(s4,di,ic,(a5,iC,(),wy),_,_,_,rfl)
    .rintro σ ba bj;ac_rfl
     let(s4,di,ic,(a5,iC,Fb,wy),cF,c5,dQ,rfl):=bj;subst aV;exact bX _ _ (s4,di,ic,(a5,iC,Fb,wy),_,_,_,rfl)
   intro gi ba (s4,di,ic,(a5,iC,Fb,wy),cF,c5,dQ,rfl);have gJ:=s2.trans s4;have kW:=S.same gJ;have mW:↑(qs.map V.ref)=↑cw:=by rw[aX,G.ak]
   subst aV;dsimp only;refine du (decide (0<↑a5)&&decide (0<dP ns (100+(k:Int)) 3)) (λQ aY=>?_) (λaa=>?_) (λaa=>?_)
   .nofun;refine(_,.inl (az.of iC),?_);rw[aX];by_cases br:0<↑a5
    .rw [if_pos (decide_eq_true ())];rw[decide_eq_true br,nN]at aY;exact(a,ns,_,_,rfl,i3,kW,((),()),∅,_,rfl,aY)
    .rw [if_neg (by rw[decide_eq_true_eq];omega)];rw[decide_eq_false br,om]at aY;exact aY
   .rw[kX,decide_eq_true_eq]at aa;have aq:=iO ns (110+(k:Int)) (m:=(↑a5:Int)) ();have aD:=re ns (110+(k:Int)) (m:=(↑a5:Int)) ();let(u,bR):∃u:Nat,dP ns (110+(k:Int)) (↑a5:Int)=(u:Int):=(_,(sZ aq).symm);have abW:u<↑a5:=()
    have Mu:a5[u]?\a5[u]:=a6 abW;generalize arC:a5[u]=f at Mu;let(g,C3,ahf):=wy f (bU Mu);have NS:f<↑cw:=(b0.mp C3).1;have yd:qs[f]?\(qs[f]'(by rw[G.ak];exact NS)):=a6 _;generalize qs[f]'(by rw[G.ak];exact NS)=Ju at yd;have Hx:=ic.dS f Ju g yd C3;have US:=cv (xs:=qs.map V.ref) (j:=f) (by rw[dg,yd];rfl);have afq:=cv (xs:=a5.map λk:Nat=>V.int k) (j:=u) (v:=.int (f:Int)) (by rw[dg,Mu];rfl);have arx:=ly.HH (bU C3);have da:=iO ns (160+(k:Int)) (m:=(↑g:Int)+1) ();have cX:=re ns (160+(k:Int)) (m:=(↑g:Int)+1) ();nofun;let(v,aE):∃v:Nat,dP ns (160+(k:Int)) ((↑g:Int)+1)=(v:Int):=(_,(sZ da).symm);refine(_,.inl (az.of iC),?_);rw[aX];refine(a,ns,_,_,rfl,i3,kW,((),()),(),?_);rw[bR];refine(_,_,rfl,az.of iC,_,afq,_,_,rfl,az.of ic.ae,_,US,.inl (_,az.of Hx),_,_,rfl,az.of ic.ae,_,US,_,rfl,_,.inl (az.of Hx),?_);rw[aX];refine(a,ns,_,_,rfl,i3,kW,((),()),(),Ju,rfl,_,_,rfl,Hx,?_);rw[aE,mN];have Xt:v<=↑g:=()
    have em:(g.map λk:Nat=>V.int k).take v++V.int (k:Int)::(g.map λk:Nat=>V.int k).drop v=(ins g v k).map λk:Nat=>V.int k:=(P4 (λk:Nat=>V.int k) g v k).symm
    refine((),(),by rw[aX];omega,hO (show ↑(g.map λk:Nat=>V.int k)<=8 by rw[aX];omega) ∅,gJ.hS (ic.je Ju (bU yd)),di.upd,?_,_,rfl);rw[em];exact(qs,_,ic.put yd NS,ly.put C3 ue ahf)
   .have da:=iO ns (120+(k:Int)) (m:=(↑cw:Int)+1) ();have cX:=re ns (120+(k:Int)) (m:=(↑cw:Int)+1) ();nofun;let(v,aE):∃v:Nat,dP ns (120+(k:Int)) ((↑cw:Int)+1)=(v:Int):=(_,(sZ da).symm);refine(.inl (_,az.of ic.ae),_,.inl (az.of ic.ae),?_);rw[mW];refine(a,ns,_,_,rfl,i3,kW,((),()),(),∅,λp ar=>(_,_,rfl,(bh ar) _ _ ic.ae,?_));rw[aE,mN];have Xt:v<=↑cw:=()
    have em:(qs.map V.ref).take v++V.ref p::(qs.map V.ref).drop v=(ins qs v p).map V.ref:=(P4 V.ref qs v p).symm;refine((),(),by rw[mW];omega,hO (show ↑(qs.map V.ref)<=8 by rw[mW];omega) ∅,(gJ.trans (bh ar)).hS lY,(di.upd).upd,?_,_,rfl);rw[em];exact(_,_,ic.new (g:=[k]) gJ ar Xt,ly.new v)
  .rintro σ I bj;ac_rfl
   let(s2,cW,(qs,cw,G,ly),dD,el,cF,c5,dQ,rfl):=bj;subst aV;exact bX _ _ (s2,cW,(qs,cw,G,ly),_,_,_,_,_,rfl)
 intro cD aw (s2,cW,(qs,cw,G,ly),dD,el,cF,c5,dQ,rfl);subst aV;exists (λau I=>aN aw I/\aL I/\∃cH,aw cH=none/\I cH\(.lst [])/\au=[~~~a,some (.int n),~~~wl,~~~gl,dD,el,cF,c5,dQ,~~~cH,none,none]),3
 .nofun;exact(eW _,λcH lL=>bX _ _ (bh lL,cW.upd,cH,lL,aR,rfl))
 intro gi ba (s3,dw,cH,lL,ij,rfl);have abO:=ly.len;have mW:↑(qs.map V.ref)=↑cw:=by rw[aX,G.ak]
 subst aV;exists (λau I=>aN aw I/\aL I/\(∃lj sts,oN I cH lj qs sts/\Cn n ds sts)/\∃cF dQ iB r9,au=[~~~a,some (.int n),~~~wl,~~~gl,dD,el,cF,c5,dQ,~~~cH,iB,r9]),3
 .nofun;refine(_,.inl (az.of (s3 _ _ G.ae)),(),by rw[mW];omega,?_);rw[show((↑(qs.map V.ref):Nat):Int).toNat=↑cw by rw[mW];rfl];refine ed.range (λj σ I=>aN aw I/\aL I/\(∃(lj:List Addr) (sts:List g9),I cH\(.lst (lj.map V.ref))/\↑lj=j/\↑sts=j/\(∀(i:Nat) (q:Addr) (s:g9),lj[i]?\q->sts[i]?\s->∃m,qs[i]?\m/\I q\(.tup [.int s.lo,.int s.ah,⇑m]))/\sts.map (·.fg)=cw.take j/\∀s∈sts,(∀i∈s.fg,∀d,ds[i]?\d->d.least<=s.lo)/\1<=s.lo/\s.lo<=21/\s.lo<=s.ah/\s.ah<=40)/\∃cF dQ iB r9,σ=[~~~a,some (.int n),~~~wl,~~~gl,dD,el,cF,c5,dQ,~~~cH,iB,r9]) (s3,dw,([],[],ij,rfl,rfl,λi q s h=>by simp at h,by rw[um];rfl,λs h=>by simp at h),_,_,_,_,rfl) ?_ ?_
  .rintro j σ I aJ bj;ac_rfl
   let(s4,di,(lj,sts,iC,BS,e9,iI,xQ,Fp),cF,dQ,iB,r9,rfl):=bj;have qL:cw[j]?\cw[j]:=a6 aJ;have eN:qs[j]?\(qs[j]'(by rw[G.ak];exact aJ)):=a6 _;subst aV;generalize qs[j]'(by rw[G.ak];exact aJ)=k_ at eN;generalize KA:cw[j]=g at qL;have mA:=bU qL;have g_:∀i∈g,∃e,ds[i]?\e:=λi ah=>(_,a6 (ly.lt mA ah))
   have ic:=G.same s4;have vL:=ic.dS j k_ g eN qL;have yg:=cv (xs:=qs.map V.ref) (j:=j) (by rw[dg,eN];rfl);have gJ:=s2.trans s4;have kW:=S.same gJ;have An:=gJ _ _ cy;have apS:=ly.HH mA;let(bI,aoZ):∃bI:Nat->Int,bI=λi=>((ds[i]?).map (·.least)).getD 0:=(_,rfl)
   have NG:∀i e,ds[i]?\e->bI i=e.least:=λi e he=>by rw[aoZ];show((ds[i]?).map (·.least)).getD 0=_;rw[he];rfl
   let(oR,Jl,yl):=ym (g.map bI) (λz=>ly.ne g mA (WB.mp z));have wB:1<=oR/\oR<=4:=by
    let(i,ah,rfl):=cj.mp Jl;let(e,he):=g_ i ah;rw[NG i e he];exact((D.al e (bU he)).1.le.1,hle e (bU he))
   have ez:=iO ns (130+(j:Int)) (m:=3) ∅;have eS:=re ns (130+(j:Int)) (m:=3) ∅;simp only[gU,dT,jV,jH,rH];exists (λau cn=>aN I cn/\aL cn/\∃lo:Int,(oR<=lo/\lo<=oR+2)/\au=[~~~a,some (.int n),~~~wl,~~~gl,dD,el,some (.int (j:Int)),c5,dQ,~~~cH,some (.int lo),r9]),0
   .nofun;refine(_,az.of ic.ae,_,yg,_,rfl,(_,az.of vL),?_);refine cY.mD (xs:=g.map λk:Nat=>V.int k) (zs:=(g.map bI).map V.int) (az.of vL) (cM (show ↑(g.map λk:Nat=>V.int k)<=8 by rw[aX];omega) ∅) (by rw[aX,aX,aX]) (λl v z N aE aQ bl=>?_) (λpl c2=>?_)
    .let(i,ah,rfl):=b_ aE;let(y,aM,rfl):=b_ aQ;let(jf,fS,rfl):=b_ aM;rw[ah]at fS;cases fS;let(e,he):=g_ i (bU ah);let(hX,tA,IV):=yq i e he;rw[NG i e he]at bl;nofun;exact(Sub.name,_,az.of An,_,tA,_,rfl,_,dM.of (gJ _ _ IV),_,cv (j:=6) rfl,bl)
    .have P0:=bh (o:=.lst ((g.map bI).map V.int)) c2;refine(_,rfl,_,az.of aR,oR,Jl,yl,a,ns,_,_,rfl,i3,kW.same P0,((),()),∅,_,rfl,bX _ _ (P0,di.upd,_,((),()),rfl))
   intro kE cn (s5,eM,ap7,y6,rfl);have MA:=kW.same s5;subst aV;simp only[dT];exists (λau cR=>cR=cn/\∃lo:Int,(oR<=lo/\lo<=21)/\au=[~~~a,some (.int n),~~~wl,~~~gl,dD,el,some (.int (j:Int)),c5,dQ,~~~cH,some (.int lo),r9]),0
   .refine du (decide (dP ns (150+(j:Int)) 12=0)) (λQ aY=>?_) (λ_=>?_) (λ_=>?_)
    .nofun;refine(a,ns,_,_,rfl,i3,MA,((),()),∅,rfl,?_);rw[show decide (V.int (dP ns (150+(j:Int)) 12)=V.int 0)=decide (dP ns (150+(j:Int)) 12=0)from decide_eq_decide.mpr (by simp)];exact aY
    .nofun;exact bX _ _ (rfl,_,(),rfl)
    .simp only[gy];exact bX _ _ (rfl,_,(),rfl)
   intro qP cR (rfl,lo,nO,rfl);have lz:=iO ns (180+(j:Int)) (m:=6) ∅;have lP:=re ns (180+(j:Int)) (m:=6) ∅;subst aV;simp only[dT];exists (λau f3=>aN cR f3/\aL f3/\∃mo:Int,(1<=mo/\mo<=20)/\au=[~~~a,some (.int n),~~~wl,~~~gl,dD,el,some (.int (j:Int)),c5,dQ,~~~cH,some (.int lo),some (.int mo)]),0
   .let(mo,tr,hL):=aaG lz lP;nofun;exact(∅,λp ar=>(a,ns,_,_,rfl,i3,MA.same (bh ar),((),()),∅,_,_,rfl,az.of aR,_,hL,bX _ _ (bh ar,eM.upd,mo,tr,rfl)))
   intro nt f3 (fk,mM,mo,tr,rfl);have Co:=s5.trans fk;have Ab:=MA.same fk;have v':=Co _ _ iC;have oU:=iO ns (140+(j:Int)) (m:=mo) ();have rS:=re ns (140+(j:Int)) (m:=mo) ();subst aV;nofun;refine(.inl (_,az.of v'),a,ns,_,_,rfl,i3,Ab,((),()),(),_,rfl,_,az.of (Co _ _ ic.ae),_,yg,∅,λp ar=>(_,(bh ar) _ _ v',hO (show ↑(lj.map V.ref)<=8 by rw[aX];omega) ∅,((s4.trans Co).trans (bh ar)).hS lL,(mM.upd).upd,(lj++[p],by rw[aR,e'];rfl,by rw[cB,BS];rfl,sts++[(lo,lo+dP ns (140+(j:Int)) mo,g)],by rw[cB,e9];rfl,λi q s a1 a2=>?_,?_,λs ay=>?_),?_))
   .have vY:cH≠p:=dm v' ar;rcases nr a1 with⟨ee,eo⟩|⟨ee,rfl⟩
    .rcases nr a2 with⟨aW,bJ⟩|⟨aW,_⟩
     .let(m,hm,e):=iI i q s eo bJ;have eB:=Co _ _ e;refine(m,hm,?_);rw[aP (cC eB v' (by intro z;cases z)),aP (dm eB ar)];exact eB
     .omega
    .rcases nr a2 with⟨aW,_⟩|⟨_,rfl⟩
     .omega
     .refine (k_,by rw[ee,BS];exact eN,?_);rw[aP (et vY),aR]
   .rw [e',xQ,oc,qL];rfl
   .rcases eI.mp ay with z|z
    .exact Fp s z
    .rw [d9.mp z];refine(λi ah e he=>?_,by show 1<=lo;omega,nO.2,by show lo<=lo+dP ns (140+(j:Int)) mo;omega,by show lo+dP ns (140+(j:Int)) mo<=40;omega);have:=yl (bI i) (cj.mpr (i,ah,rfl));rw[NG i e he]at this;show e.least<=lo;omega
   .repeat (first|exact(_,rfl)|refine((_,rfl),?_))
  .rintro σ I bj;ac_rfl
   let(s4,di,(lj,sts,iC,BS,e9,iI,xQ,Fp),cF,dQ,iB,r9,rfl):=bj;subst aV;rw[i5]at xQ;have ic:=G.same s4;refine bX _ _ (s4,di,(lj,sts,(iC,(),by rw[G.ak];omega,λi q m s a1 a2 dH=>?_),(by rw[xQ];exact ly,λs ay=>(Fp s ay).1,λs ay=>(Fp s ay).2)),_,_,_,_,rfl);let(dU,nu,e):=iI i q s a1 dH;rw[a2]at nu;cases nu;refine(e,ic.dS i m s.fg a2 ?_);rw[<- xQ,dg,dH];rfl
 intro kE cn (s4,di,(lj,sts,pg,amN),cF,dQ,iB,r9,rfl);subst aV;nofun;exact q cH lj qs sts cn (s2.trans s4) di pg amN
noncomputable def ig(ds:List bf)(i:Nat):Str:=((ds[i]?).map (·.name)).getD (af "")
noncomputable def eJ(ds:List bf)(s:g9):List Str:=s.fg.map (ig ds)
noncomputable def iU(ds:List bf)(s:g9):List Str:=[af "stage",num s.lo,num s.ah]++eJ ds s
noncomputable def ho(ds:List bf)(sts:List g9):List (List Str):=sts.map (iU ds)
noncomputable def t9(ds:List bf)(sts:List g9):Str:=ep nl ((ho ds sts).map (ep cS))
structure LN(ds:List bf)(sts:List g9):Prop where
 ln:↑sts<=8
 bd:∀s∈sts,(0<=s.lo/\s.lo<1000)/\(0<=s.ah/\s.ah<1000)/\s.fg≠[]/\↑s.fg<=8/\∀i∈s.fg,∃d,ds[i]?\d
 nm:∀d∈ds,↑d.name<=8
def ajg(ds:List bf)(s:g9)(h:s.fg≠[]):af "stage "++num s.lo++af " "++num s.ah++af " "++ep cS (eJ ds s)=ep cS (iU ds s):=by
 apply AM;have aq:(af "stage ").cps.toList=[115,116,97,103,101,32]:=∅
 have aD:(af "stage").cps.toList=[115,116,97,103,101]:=∅
 have bV:(af " ").cps.toList=[32]:=∅
 unfold iU eJ;let(i,r,aB):=qe h;rw[aB,Bl,On];simp only[p8,qf,On,fz,rC,Fx,Md,mv,aq,aD,bV,jI]
def Td:bO:=λvs H Q _=>∃wl ds cH qs ms sts,vs=[⇑wl,⇑cH]/\kk H wl ds/\oN H cH qs ms sts/\LN ds sts/\aL H/\Q (.str (t9 ds sts)) H
def aoW:bO:=λvs H Q _=>∃wl ds cH qs ms sts,vs=[⇑wl,⇑cH]/\kk H wl ds/\oN H cH qs ms sts/\LN ds sts/\∀I,aN H I->Q (.str (t9 ds sts)) I
def abE:cq P base T 1 t.EB t.Cg Cp Td:=by
 refine cE.forget (sp:=aoW) ?_ λvs H Q E h=>?_
 .exists T.M3.ok xF,9
  let(wl,ds,cH,qs,ms,sts,rfl,(m6,cy,de,LV),pg,X,q):=h;have ak0:=X.ln;have yq:∀(i:Nat) (d:bf),ds[i]?\d->∃rr,gp (m6.map V.ref) (i:Int)\⇑rr/\H rr\(.tup (l2 d)):=λi d hd=>by
   have hA:m6[i]?\(m6[i]'(by rw[de];exact(b0.mp hd).1)):=a6 _;exact(_,cv (by rw[dg,hA];rfl),LV i _ d hA hd)
  have z_:∀k:Nat,k<=1000->k<=sizeLine:=λk h=>cM h ∅
  refine(_,(db (b' (i:=2) xF.aG (e5 aC))
   (db (fP fV rfl (e6 (U 1)) (kC (K:=K) (n:=3) rfl rfl (ac (b8 (i:=3) xF.aG) (ac (b8 (i:=4) xF.aG) (ac (b8 (i:=5) xF.aG) kx)))) (a4 (ea (fo gI lh lD kZ (U 2) (ai (bN ce (bN ce (bN ce (bN ce (bN ce dF (rj yO rfl T.xB Tl (ai (U 3) aC))) dF) (rj yO rfl T.xB Tl (ai (U 4) aC))) dF) (fo vQ B' Ec zy dF (ai (hR rfl (e6 (U 5)) (f_ (sc:=bx (top 83)) rfl ∅) (N:=Cm) (sel:=[none,some 0]) (f7 (M:=["_law_ways_here","_law_stages_here","_law_rows","_law_low","_law_high","_law_some"]) ∅) (fa.of (λ_ _ _ _=>(b8 (i:=0) (ec (N:=Cm) ∅ rfl))) (λ_ _ _ _=>(_,hT,by walk_at "B")) (λ_ _ _ _=>(_,(bZ gM (bZ c8 (U 1) (U 0)) aT),by walk_at "B")))) aC))) aC)))))
   (a4 (b7 (fo vQ B' Ec zy dF (ai (U 2) aC)))))),?_)
  exists (λau I=>aN H I/\∃dZ,H dZ=none/\I dZ\(.lst (a3 []))/\au=[~~~wl,~~~cH,~~~dZ,none,none,none]),3
  .nofun;exact(eW _,λdZ hD=>bX _ _ (bh hD,dZ,hD,aR,rfl))
  intro fG H1 (s1,dZ,hD,dN,rfl);subst aV;exists (λau I=>aN H I/\I dZ\(.lst (a3 ((ho ds sts).map (ep cS))))/\∃hN dD el,au=[~~~wl,~~~cH,~~~dZ,hN,dD,el]),3
  .nofun;refine((_,az.of (s1 _ _ pg.at_)),?_);refine ed.list (xs:=qs.map V.ref) (λi σ I=>aN H I/\I dZ\(.lst (a3 ((ho ds (sts.take i)).map (ep cS))))/\∃hN dD el,σ=[~~~wl,~~~cH,~~~dZ,hN,dD,el]) ?_ ?_ ?_ ?_
   .exact (s1,by rw[um];exact dN,_,_,_,rfl)
   .intro i σ I ah (bw,_);exact az.of (bw _ _ pg.at_)
   .rintro i v σ I aE bj;ac_rfl
    let(bw,eH,hN,dD,el,rfl):=bj;let(su,hA,rfl):=b_ aE;have ah:i<↑sts:=by rw[<- pg.cy];exact(b0.mp hA).1
    have wM:sts[i]?\sts[i]:=a6 ah;have sL:ms[i]?\(ms[i]'(by rw[pg.de];exact ah)):=a6 _;let(aq,aD):=pg.al i su _ _ hA sL wM;subst aV;generalize ms[i]'(by rw[pg.de];exact ah)=m at sL aq aD;generalize aqs:sts[i]=s at wM aq aD;let(P7,YH,bne,E',vS):=X.bd s (bU wM);have ae:=Al (n:=s.lo) () ();have ak:=Al (n:=s.ah) () ();have t1:↑(af "stage ")=6:=∅
    have eA:↑(af " ")=1:=∅
    have j8:∀y∈eJ ds s,↑y<=8:=λy aM=>by
     let(k,ax,rfl):=cj.mp aM;let(d,hd):=vS k ax;unfold ig;rw[hd];exact X.nm d (bU hd)
    have fL:↑(ep cS (eJ ds s))<=100:=by
     have:=rg cS 8 (eJ ds s) j8;rw[s8]at this;have aK:↑(eJ ds s)=↑s.fg:=by unfold eJ;rw[aX]
     have:↑(eJ ds s)*9<=72:=()
     omega
    nofun;refine(_,dM.of (bw _ _ aq),rfl,_,_,rfl,_,_,rfl,_,_,rfl,rfl,.inl (_,az.of eH),_,rfl,T7 (),z_ _ (by rw[t1];omega),z_ _ (by simp only[pE,t1,eA];omega),_,rfl,T7 (),z_ _ (by simp only[pE,t1,eA];omega),z_ _ (by simp only[pE,t1,eA];omega),m,rfl,(_,az.of (bw _ _ aD)),?_);refine cY.mD (xs:=s.fg.map λk:Nat=>V.int k) (zs:=a3 (eJ ds s)) (az.of (bw _ _ aD)) (cM (show ↑(s.fg.map λk:Nat=>V.int k)<=8 by rw[aX];exact E') ∅) (by rw[fE,aX];unfold eJ;rw[aX]) (λl v z N aE aQ bl=>?_) (λpl c2=>?_)
    .obtain⟨k,ax,rfl⟩:=b_ aE;unfold a3 eJ at aQ;obtain⟨y,aM,rfl⟩:=b_ aQ;obtain⟨sD,e4,rfl⟩:=b_ aM;rw[ax]at e4;cases e4;obtain⟨d,hd⟩:=vS k (bU ax);obtain⟨rr,alm,eq⟩:=yq k d hd;have ad4:ig ds k=d.name:=by unfold ig;rw[hd];rfl
     rw[ad4]at bl;nofun;exact(Sub.name,_,az.of (bw _ _ cy),_,alm,_,rfl,_,dM.of (bw _ _ eq),_,cv (j:=1) rfl,bl)
    .have nQ:↑(eJ ds s)<=8:=by unfold eJ;rw[aX];exact E'
     refine(pl,rfl,eJ ds s,az.of aR,?_,?_)
     .have:=Ed j8;rw[eA];omega
     .rw[show rf (af " ") (eJ ds s)=ep cS (eJ ds s)from Ai _ _];have wq:=ajg ds s bne;have iM:↑(a3 ((ho ds (sts.take i)).map (ep cS)))<=8:=by
       unfold a3 ho;rw[aX,aX,aX,hC];omega
      refine(z_ _ (by simp only[pE,t1,eA];omega),_,(bh c2) _ _ eH,hO iM ∅,(bw.trans (bh c2)).hS hD,?_,?_)
      .rw [aR,wq,oc,wM];unfold ho a3;rw[e',e',e'];rfl
      .repeat (first|exact(_,rfl)|refine((_,rfl),?_))
   .rintro σ I bj;ac_rfl
    let(bw,eH,hN,dD,el,rfl):=bj;subst aV;rw[aX,pg.cy,i5]at eH;exact bX _ _ (bw,eH,_,_,_,rfl)
  intro cD aw (s2,eH,hN,dD,el,rfl);subst aV;nofun;have gX:∀y∈(ho ds sts).map (ep cS),↑y<=200:=λy aM=>by
   let(r,dO,rfl):=cj.mp aM;let(s,ay,rfl):=cj.mp dO;let(P7,YH,bne,E',vS):=X.bd s ay;have ae:=Al (n:=s.lo) () ();have ak:=Al (n:=s.ah) () ();have j8:∀y∈iU ds s,↑y<=8:=λy aM=>by
    unfold iU at aM;rcases eI.mp aM with z|z
    .have z:y=af "stage"\/y=num s.lo\/y=num s.ah:=by simpa using z
     rcases z with rfl|rfl|rfl
     .ac_nf
     .exact cM ae ∅
     .exact cM ak ∅
    .let(k,ax,rfl):=cj.mp z;let(d,hd):=vS k ax;unfold ig;rw[hd];exact X.nm d (bU hd)
   have:=rg cS 8 (iU ds s) j8;rw[s8]at this;have aK:↑(iU ds s)<=11:=by
    unfold iU eJ;rw[cB,aX];show 3+↑s.fg<=11;omega
   omega
  refine(_,az.of eH,?_,?_)
  .have:=Ed gX;rw[(∅:↑(af "\n")=1)];have aK:↑((ho ds sts).map (ep cS))<=8:=by
    unfold ho;rw[aX,aX];exact ak0
   omega
  .rw [show rf (af "\n") ((ho ds sts).map (ep cS))=ep nl ((ho ds sts).map (ep cS))from Ai _ _];exact q _ s2
 .let(wl,ds,cH,qs,ms,sts,rfl,L,pg,X,bC,q):=h;exact(bC,wl,ds,cH,qs,ms,sts,rfl,L,pg,X,λI bw=>(bw,q))
noncomputable def n3(ds:List bf)(s:g9):ST:=(s.lo,s.ah,eJ ds s)
noncomputable def b6(ds:List bf)(sts:List g9):List ST:=sts.map (n3 ds)
def mY(h:ds[i]?\d):ig ds i=d.name:=by unfold ig;rw[h];rfl
def LR(aG:(ds.map (·.name)).Nodup)(ah:i<↑ds)(aJ:j<↑ds)(e:ig ds i=ig ds j):i=j:=by
 rw[mY (a6 ah),mY (a6 aJ)]at e;exact vw aG ah aJ (by rw[n1 (a6 ah),n1 (a6 aJ)];exact e)
structure dG(n:Int)(ds:List bf)(sts:List g9):Prop where
 aG:(ds.map (·.name)).Nodup
 kR:Cn n ds sts
 kI:↑ds<=6
 cy:1<=↑ds
 ok:∀d∈ds,ph n d
def dG.fc(h:dG n ds sts):(sts.map (·.fg)).flatten.Nodup:=h.kR.bt.pm.nodup_iff.mpr List.nodup_range
theorem dG.lt(h:dG n ds sts)(ay:s∈sts)(ah:i∈s.fg):i<↑ds:=h.kR.bt.lt (cj.mpr (s,ay,rfl)) ah
theorem dG.len(h:dG n ds sts):↑sts<=6:=by
 have:=h.kR.bt.len.1;rw[aX]at this;have:=h.kI;omega
def dG.kM(h:dG n ds sts):LN ds sts:=by
 refine(by have:=h.len;omega,λs ay=>?_,λd hd=>((w3 (h.ok d hd).nm).1).2);have b:=h.kR.bd s ay;have hm:s.fg∈sts.map (·.fg):=cj.mpr (s,ay,rfl);have a7:=h.kR.bt.HH hm;have:=h.kI;exact(((),()),((),()),h.kR.bt.ne _ hm,(),λi ah=>(_,a6 (h.lt ay ah)))
def dG.ao1(h:dG n ds sts)(ay:s∈sts):(eJ ds s).Nodup:=by
 have ag:s.fg.Nodup:=h.fc.sublist (af_ (cj.mpr (s,ay,rfl)));unfold eJ;refine akS.mpr (ais (λ{a b} aO aa i_ e=>?_) ag);exact i_ (LR h.aG (h.lt ay aO) (h.lt ay aa) e)
theorem dG.told(h:dG n ds sts)(ay:sts[i]?\s){x:Str}(ag:x∈eJ ds s):told (b6 ds (sts.take i)) x=false:=by
 cases e:My.told (b6 ds (sts.take i)) x with
 |false=>rfl
 |true=>
  exfalso;unfold My.told at e;let(r,ao,aB):=r1.mp e;let(aj,g6,rfl):=cj.mp ao;have aB:x∈eJ ds aj:=by simpa[n3]using aB
  let(k,ax,rfl):=cj.mp ag;let(sD,e4,yj):=cj.mp aB;have:=LR h.aG (h.lt (vI g6) e4) (h.lt (bU ay) ax) yj;subst this;let(ah,wM):=b0.mp ay;have hf:=h.fc;rw[<- OD i sts,e',apa,uL ah,wM,fz,wm]at hf;exact(Aa.mp hf).2.2 sD (Ga.mpr (aj.fg,cj.mpr (aj,g6,rfl),e4)) sD (NZ _ ax) rfl
theorem Qc:∀{r:List Str} {j:Nat} {ms:List Str},(∀x∈r,x∈alike)->(ms++r).Nodup->th alike r j ms=.ok (ms++r)
 |[],j,ms,_,_=>by
  show sU ms=_;rw[qC]
 |x::r,j,ms,aO,a8=>by
  unfold th;have ag:x∉ms:=λz=>(Aa.mp a8).2.2 x z x (oi ..) rfl
  rw[if_pos (aO x (oi ..),ag),Qc (λy aM=>aO y (i7 _ aM)) (by rw[jI];exact a8),jI];rfl
def dG.left(h:dG n ds sts)(ay:sts[i]?\s){x:Str}(ag:x∈eJ ds s):x∈hU ds (b6 ds (sts.take i)):=by
 unfold hU;refine j1.mpr (?_,by rw[h.told ay ag];rfl);let(k,ax,rfl):=cj.mp ag;have e4:=h.lt (bU ay) ax;rw[mY (a6 e4)];exact cj.mpr (_,gf e4,rfl)
def dG.anT(h:dG n ds sts)(ay:sts[i]?\s):qH ds (b6 ds (sts.take i)) (iU ds s)=.ok (n3 ds s):=by
 have hm:=bU ay;have b:=h.kR.bd s hm;have ck:=h.kR.bt.ne s.fg (cj.mpr (s,hm,rfl));let(k,r,aB):=qe ck;have j8:eJ ds s=ig ds k::r.map (ig ds):=by unfold eJ;rw[aB];rfl
 have hw:iU ds s=af "stage"::num s.lo::num s.ah::ig ds k::r.map (ig ds):=by unfold iU;rw[j8];rfl
 have cK:ng ds (hU ds (b6 ds (sts.take i))) (iU ds s)=.ok (eJ ds s):=by
  have hf:ig ds k∈eJ ds s:=by rw[j8];exact oi ..
  have aZ:aF (iU ds s) 3=ig ds k:=by rw[hw];rfl
  have bY:(iU ds s).drop 4=r.map (ig ds):=by rw[hw];rfl
  unfold ng;rw[aZ,bY,if_pos (h.left ay hf),Qc (λx ag=>?_) (by have:=h.ao1 hm;rw[j8]at this;exact this),j8]
  .rfl
  .have lb:x∈eJ ds s:=by rw[j8];exact i7 _ ag
   refine j1.mpr (h.left ay lb,decide_eq_true ?_);let(dX,aim,rfl):=cj.mp ag;have L8:dX∈s.fg:=by rw[aB];exact i7 _ aim
   have UU:k∈s.fg:=by rw[aB];exact oi ..
   have cy:=a6 (h.lt hm UU);have de:=a6 (h.lt hm L8);have al:=h.kR.bt.al s.fg (cj.mpr (s,hm,rfl)) dX L8 k UU _ _ de cy;show(ie ds (ig ds dX)).map iY=(ie ds (ig ds k)).map iY;rw[mY cy,mY de,m5 h.aG cy,m5 h.aG de];have:=vR.mp al;show some (iY _)\(iY _);unfold iY;by_cases c:(ds[dX]'(h.lt hm L8)).k=2
   .rw [if_pos c,if_pos (this.mp c)]
   .rw [if_neg c,if_neg (λz=>c (this.mpr z))]
 have h0:aF (iU ds s) 0=af "stage":=by rw[hw];rfl
 have ae:aF (iU ds s) 1=num s.lo:=by rw[hw];rfl
 have ak:aF (iU ds s) 2=num s.ah:=by rw[hw];rfl
 have aq:lF (num s.lo) 1 60\s.lo:=WH (sQ () () () ());have aD:lF (num s.ah) s.lo 60\s.ah:=WH (sQ () () () ());unfold qH;rw[h0,ae,ak,cK,if_pos (d9.mpr rfl),aq];show(lF (num s.ah) s.lo 60).elim _ _=_;rw[aD];rfl
theorem dG.parse(h:dG n ds sts):∀(m i:Nat),↑sts-i=m->i<=↑sts->uf ds ((ho ds sts).drop i) i (b6 ds (sts.take i))=.ok (b6 ds sts)
 |0,i,hm,ah=>by
  have:i=↑sts:=()
  subst this;have aK:↑(ho ds sts)=↑sts:=by unfold ho;rw[aX]
  rw[<- aK,zK,aK,i5];rfl
 |m+1,i,hm,ah=>by
  have fS:i<↑sts:=()
  have ay:sts[i]?\sts[i]:=a6 fS;have aK:i<↑(ho ds sts):=by unfold ho;rw[aX];exact fS
  have a7:(ho ds sts)[i]=iU ds sts[i]:=(b0.mp (show(ho ds sts)[i]?\(iU ds sts[i])by unfold ho;rw[dg,ay];rfl)).2;rw[uL aK,a7];unfold uf;have je:=h.len;rw[if_neg (by unfold b6;rw[aX,hC];omega),h.anT ay];have cZ:=h.parse m (i+1) () fS;rw[k5 ay]at cZ;unfold b6 at cZ⊢;rw[e']at cZ;exact cZ
theorem dG.none(h:dG n ds sts):(hU ds (b6 ds sts)).head? = wQ/\u' ds (b6 ds sts)=wQ/\v5 n ds (b6 ds sts)=wQ:=by
 refine(?_,?_,?_)
 .have:hU ds (b6 ds sts)=[]:=by
   unfold hU;refine KU.mpr λx ag=>?_
   let(d,hd,rfl):=cj.mp ag;let(k,ax):=hy hd;have mH:=(b0.mp ax).1;have hf:=h.kR.bt.pm.mem_iff.mpr (pq.mpr mH);let(g,a7,akI):=Ga.mp hf;let(s,ay,rfl):=cj.mp a7;have:My.told (b6 ds sts) d.name=true:=by
    unfold My.told;refine r1.mpr (n3 ds s,cj.mpr (s,ay,rfl),?_);have:d.name∈eJ ds s:=cj.mpr (k,akI,mY ax);simpa[n3]using this
   rw[this];simp
  rw[this];rfl
 .unfold u';refine Oe.mpr λd hd=>?_
  unfold xt;cases ax:gO (b6 ds sts) d.name with
  |none=>rfl
  | some k=>
   rw[yw];cases ao:(b6 ds sts)[k]? with
   |none=>rfl
   | some r=>
    rw[yw];have ag:My.told (b6 ds sts) d.name=true:=by
     have:=Vi (b6 ds sts) d.name;rw[<- this];unfold gO at ax;cases e:dz (ha ((b6 ds sts).map (·.mem))) (cz d.name)with
     |none=>rw[e]at ax;cases ax
     |some v=>rfl
    let(sD,d5,_,e4,dO,hm):=oL ag;rw[ax]at e4;cases e4;rw[ao]at dO;cases dO;let(s,ay,rfl):=b_ ao;let(i,ah,mQ):=cj.mp hm;have QC:=bU ay;have iM:=h.lt QC ah;rw[mY (a6 iM)]at mQ;let(j,aJ):=hy hd;have:i=j:=vw h.aG iM (b0.mp aJ).1 (by rw[n1 (a6 iM),n1 aJ,mQ]);subst this;have:=h.kR.le s QC i ah d aJ;show(if s.lo<d.least then some (p'p d k)else wQ)=wQ;rw[if_neg (show ¬s.lo<d.least by omega)]
 .unfold v5;refine Oe.mpr λe he=>?_
  let(r,k):=e;have ao:r∈b6 ds sts:=List.fst_mem_of_mem_zipIdx he;let(s,ay,rfl):=cj.mp ao;unfold tX;refine Oe.mpr λx ag=>Oe.mpr λy aM=>?_
  let(i,ah,rfl):=cj.mp ag;let(j,aJ,rfl):=cj.mp aM;unfold pO;rw[if_neg];intro(gA,eu);have li:=a6 (h.lt ay ah);have vO:=a6 (h.lt ay aJ);unfold pK at eu;rw[mY li,mY vO,m5 h.aG li,m5 h.aG vO]at eu;have:=h.kR.bt.DB s.fg (cj.mpr (s,ay,rfl)) i ah j aJ (λz=>gA (by rw[z])) _ _ li vO;replace eu:mt n _ _=true:=eu;rw[this]at eu;cases eu
def UP(P:Program)(w:World)(t:bS):bO:=λvs H Q _=>∃c n ds sts,vs=[⇑c,.str (t9 ds sts)]/\ad t H c n ds/\(4<=n/\n<=99)/\dG n ds sts/\aL H/\∀a I,aN H I->aL I->fJ P w t I a c n ds (b6 ds sts)->Q ⇑a I
def dG.plain(h:dG n ds sts):∀r∈ho ds sts,r≠[]/\↑r<=11/\∀x∈r,q_ x:=λr ao=>by
 let(s,ay,rfl):=cj.mp ao;let(P7,YH,bne,E',vS):=h.kM.bd s ay;refine(by unfold iU;simp,?_,λx ag=>?_)
 .unfold iU eJ;rw[cB,aX];show 3+↑s.fg<=11;omega
 .unfold iU at ag;rcases eI.mp ag with z|z
  .have z:x=af "stage"\/x=num s.lo\/x=num s.ah:=by simpa using z
   rcases z with rfl|rfl|rfl
   .unfold q_;ac_nf
   .exact mK () ()
   .exact mK () ()
  .let(k,ax,rfl):=cj.mp z;let(d,hd):=vS k ax;rw[mY hd];exact KV (h.ok d (bU hd)).nm
def dG.rows(h:dG n ds sts)(ck:sts≠[]):h7 (t9 ds sts)=ho ds sts:=by
 unfold t9;exact Ug (by unfold ho;simpa using ck) (λr ao=>(h.plain r ao).1) (λr ao=>(h.plain r ao).2.2)
def dG.ne(h:dG n ds sts):sts≠[]:=λe=>by
 have:=h.kR.bt.len.2;rw[e]at this;simp at this;have:=h.cy;omega
def dG.txt(h:dG n ds sts):↑(t9 ds sts)<=20000:=by
 have gX:∀y∈(ho ds sts).map (ep cS),↑y<=200:=λy aM=>by
  let(r,ao,rfl):=cj.mp aM;let(_,ak,aZ):=h.plain r ao;have:=rg cS 8 r λx ag=>(aZ x ag).1
  rw[s8]at this;omega
 have:=rg nl 200 _ gX;rw[yv,aX]at this;have aK:↑(ho ds sts)<=6:=by unfold ho;rw[aX];exact h.len
 unfold t9;omega
def Z7:cq P base T 7 t.zX t.zr xP (UP P w t):=by
 refine(aiZ T).imp λvs H Q E h=>?_
 let(c,n,ds,sts,rfl,C,a8,X,bC,q):=h;let(gA,eu,XF):=X.none;have ck:∀d∈ds,d.name≠af "":=λd hd e=>by
  have h:=(w3 (X.ok d hd).nm).1.1;rw[e]at h;exact absurd h ∅
 have bX:yI ds:=λd hd=>by
  let(ae,ak):=w3 (X.ok d hd).nm;exact((cM ae.2 ∅,λc aB=>by have:=ak c aB;omega),(X.ok d hd).k,(X.ok d hd).of.1,by have:=(X.ok d hd).of;omega)
 have ar:=X.parse ↑sts 0 rfl (eW _);rw[aoO,um,show b6 ds []=[]from rfl]at ar;refine(c,n,ds,_,_,rfl,C,(),bX,ck,X.txt,by rw[X.rows X.ne];unfold ho;rw[aX];have:=X.len;omega,λr ao=>?_,bC,by rw[X.rows X.ne];exact ar,ab'.mp gA,eu,XF,λa I aj d0 cU=>q a I aj d0 cU);rw[X.rows X.ne]at ao;let(ae,ak,aZ):=X.plain r ao;exact(ae,(),λy aM=>cM (aZ y aM).1 ∅)
def aow(aG:(ds.map (·.name)).Nodup)(ay:∀i∈s.fg,i<↑ds){k:Nat}(ax:ds[k]?\d):d.name∈eJ ds s↔k∈s.fg:=by
 have mH:=(b0.mp ax).1;refine(λh=>?_,λh=>cj.mpr (k,h,mY ax));let(j,aJ,e):=cj.mp h;rw[<- mY ax]at e;rw[<- LR aG (ay j aJ) mH e];exact aJ
noncomputable def mP(sts:List g9)(j:Nat):List Nat:=((sts[j]?).map (·.fg)).getD []
def FA{x:g9}(h:sts[j]?\x):mP sts j=x.fg:=by unfold mP;rw[h];rfl
noncomputable def V6(ds:List bf)(i:Nat):Bool:=decide ((ds[i]?).map (·.k)\2)
noncomputable def NY(ds:List bf)(sts:List g9)(j:Nat):Bool:=V6 ds ((mP sts j).headD 0)
def dG.six{n:Int}{ds:List bf}{sts:List g9}(h:dG n ds sts){j:Nat}(aJ:j<↑sts):sts[j].fg≠[]/\↑sts[j].fg<=8:=by
 let(_,_,a,b,_):=h.kM.bd _ (gf aJ);exact(a,b)
section
variable{n:Int}{ds:List bf}{sts:List g9}
def dG.tell(X:dG n ds sts){d:bf}(hd:d∈ds):My.told (b6 ds sts) d.name=true:=by
 have h:hU ds (b6 ds sts)=[]:=ab'.mp X.none.1;unfold hU at h;have:=KU.mp h d.name (cj.mpr (d,hd,rfl));simpa using this
theorem VB{j k:Nat}(h:k∈mP sts j):∃x,sts[j]?\x/\k∈x.fg:=by
 unfold mP at h;cases e:sts[j]? with
 |none=>rw[e]at h;simp at h
 |some x=>rw[e]at h;exact(x,rfl,h)
def dG.uniq(X:dG n ds sts){j i k:Nat}(ae:k∈mP sts j)(ak:k∈mP sts i):j=i:=by
 have half:∀{a b:Nat},a<b->k∈mP sts a->k∈mP sts b->False:=λ{a b} i_ aO aa=>by
  let(x,ag,I'):=VB aO;let(y,aM,ac2):=VB aa;have hf:=X.told aM (x:=ig ds k) (cj.mpr (k,ac2,rfl));have lb:x∈sts.take b:=bU (by rw[w5 i_];exact ag);have:My.told (b6 ds (sts.take b)) (ig ds k)=true:=by
   unfold My.told;refine r1.mpr (n3 ds x,cj.mpr (x,lb,rfl),?_);have hm:ig ds k∈eJ ds x:=cj.mpr (k,I',rfl);simpa[n3]using hm
  rw[hf]at this;cases this
 rcases ZP j i with h|h|h
 .exact (half h ae ak).elim
 .exact h
 .exact (half h ak ae).elim
def dG.N0(X:dG n ds sts){j k:Nat}{d:bf}(hd:ds[k]?\d):gO (b6 ds sts) d.name\j↔k∈mP sts j:=by
 let(eO,r,_,ax,j3,hm):=oL (X.tell (bU hd));unfold b6 at j3;rw[dg]at j3;let(x,ag,rfl):=yc.mp j3;have hm:d.name∈eJ ds x:=hm;have I':k∈x.fg:=(aow X.aG (λi ah=>X.lt (bU ag) ah) hd).mp hm;have h5:k∈mP sts eO:=by rw[FA ag];exact I'
 rw[ax];constructor
 .intro e;cases e;exact h5
 .intro h;rw[X.uniq h h5]
def dG.sort(X:dG n ds sts){j:Nat}(aJ:j<↑sts):bL ds (b6 ds sts) j=if NY ds sts j=true then dc else iN:=by
 have ag:=a6 aJ;let(uA,r,e):=qe (X.six aJ).1;have jn:uA∈sts[j].fg:=by rw[e];exact .head _
 have kY:=a6 (X.lt (gf aJ) jn);unfold bL b6;rw[dg,ag];show c0 ds (n3 ds sts[j])=_;unfold c0 n3 eJ;rw[e,fz,mY kY];show(((ie ds _).map iY).getD _)=_;rw[m5 X.aG kY];show iY _=_;unfold iY NY V6;rw[FA ag,e];show _=if decide ((ds[uA]?).map (·.k)\2)=true then dc else iN;rw[kY,Fw];by_cases h:(ds[uA]'(X.lt (gf aJ) jn)).k=2
 .rw [if_pos h,if_pos (decide_eq_true (congrArg some h))]
 .rw [if_neg h,if_neg (λz=>h (d2 (of_decide_eq_true z)))]
end
def W9{ds:List bf}{sts:List g9}{j:Nat}{x:g9}(h:sts[j]?\x):(b6 ds sts)[j]?\(n3 ds x):=by unfold b6;rw[dg,h];rfl
def kk.nB{H I:av}{wl:Addr}{ds:List bf}(h:kk H wl ds)(s:hz H I):kk I wl ds:=by
 let(qs,aq,aD,bV):=h;exact(qs,s.lst aq,aD,λi q d a b=>s.tup (bV i q d a b))
def oN.nB{H I:av}{cH:Addr}{qs ms:List Addr}{sts:List g9}(h:oN H cH qs ms sts)(s:hz H I):oN I cH qs ms sts:=
 (s.lst h.at_,h.cy,h.de,λi q m x a b c=>(s.tup (h.al i q m x a b c).1,s.lst (h.al i q m x a b c).2))
def dG.alT{n:Int}{ds:List bf}{sts:List g9}(X:dG n ds sts):ql ds (b6 ds sts):=by
 refine(λd hd=>X.tell hd,λr ao=>?_,λr ao=>?_,by have:=X.kI;omega)
 .let(x,ag,rfl):=cj.mp ao;show ↑(eJ ds x)<=12;unfold eJ;rw[aX];have:=(X.kM.bd x ag).2.2.2.1;omega
 .obtain⟨x,ag,rfl⟩:=cj.mp ao;obtain⟨j,aJ,e⟩:=CA ag;have:=X.sort aJ;unfold bL at this;rw[W9 (a6 aJ),e]at this;have this:c0 ds (n3 ds x)=_:=this;rw[this];split
  .exact .inl rfl
  .exact .inr rfl
def AL{last m v:Int}(ae:-1<=last)(ak:last<v)(aZ:v<m):kh last m v=v-last-1:=by
 unfold kh;exact oT () ()
def Ao{last m v:Int}(ae:last<m)(ak:0<=v)(aZ:v<=last):kh last m v=v-last-1+m:=by
 unfold kh;have e:(v-last-1)%m=(v-last-1+m)%m:=by simp
 rw[e];exact oT () ()
def SL{last:Int}{m a b:Nat}(ae:-1<=last)(ak:last<m)(aO:a<m)(aa:b<m)(h:kh last m a=kh last m b):a=b:=by
 by_cases ca:last<(a:Int) <;> by_cases Sh:last<(b:Int)
 .rw [AL ae ca (),AL ae Sh ()]at h;omega
 .rw [AL ae ca (),Ao ak () ()]at h;omega
 .rw [Ao ak () (),AL ae Sh ()]at h;omega
 .rw [Ao ak () (),Ao ak () ()]at h;omega
unseal L2.h8 L2.bA L2.hY L2.jS L2.i8 L2.gv
section
open PySem PySem.Spec PyProof.Rows L2
def D4(ts:List Addr)(H:av):Prop:=(∀p∈ts,H p\(.hF #[]))/\∀b,H b=none\/b∈ts\/∃o xs,H b\(.eX o (.lst xs))
def aad{K:bk}{ns:List Int}(l8:D4 ts H)(dV:az K H a (ns.map V.int)):Sc K a ns H:=by
 refine(?_,λb u e=>?_)
 .rcases dV with(h|⟨o,h⟩)|h
  .rcases l8.2 a with z|z|⟨cT,xs,z⟩
   .rw [h]at z;cases z
   .rw [l8.1 a z]at h;cases h
   .rw [h]at z;cases z
  .exact .inl (o,h)
  .exact .inr h
 .rcases l8.2 b with z|z|⟨o,xs,z⟩
  .rw [e]at z;cases z
  .rw [l8.1 b z]at e;cases e;rfl
  .rw [e]at z;cases z;rfl
theorem ab0{P:Program}{w:World}{K:bk}{mg n_:Str->Option Value}{CX:jX}{k:Nat}{gK a:Addr}{ts:List Addr}{cd:Addr->Addr}{fd:FuncData}{x:Str}{sp:bO}{dC:Shared}{vs:List Value}{ns:List Int}
  (kN:K.In dC.heap) (fU:ajk K=true) (oZ:dC.heap.Ns mainGlobals mg) (aa:dC.heap.Ns builtinsNs n_) (sI:∀x:Str,x≠"__name__"->n_ x=bootBuiltins x) (amZ:dC.heap.NoLimit) (a7:dC.gens=#[])
  (api:∃bm cT,mg "__builtins__"\⇑bm/\bm≠builtinsNs/\dC.heap.get? bm\cT/\cT.cls=.type "module"/\cT.dict\builtinsNs/\cT.data=.plain)
  (dv:∀p∈ts,ml dC.heap (cd p) p) (cK:∀p∈ts,dC.heap.get? p\(HI #[]))
  (aO:dC.heap.get? a=some {cls:=.type "list",data:=.seq vs.toArray}) (ah:IntsAre vs ns) (aK:↑ns<=sizeLine) (ao:eY k callerA)
  (F:∀base:Heap,K.In base->base.Ns mainGlobals mg->(∀p∈ts,ml base (cd p) p/\base.BuiltinsAt mg p)->cE P w K mg base CX k gK fd [x] sp) (ao0:∀(s:Shared) (u:Value),BindsTo s fd ([u],[]) [(p'p x u)])
  (lO:∀H:av,D4 ts H->az K H a (ns.map V.int)->sp [⇑a] H (λv _=>v=.bp true) λ_ _ _=>False)
  (GL:∀H e aj,CX [] H dC (λ_ _ _=>False) e aj->False) :
  codeAny (model P w) callerA (.call ⇑gK ([⇑a],[])) (λr aj=>r=.ok (.ret (.bool true))/\OldK dC.heap aj.heap/\aj.os=dC.os/\AllBare aj.gens) dC:=by
 have cI:=PA ah;have ahc:=↑ah;have U4:a∉ts:=λz=>by rw[cK a z]at aO;cases aO
 have aoL:∀p∈ts,∀o,K.lookup p\o->False:=λp ar o e=>by
  have aq:=kN _ _ e;rw[cK p ar]at aq;cases aq;have:=u2.mp fU _ (PySem.W.mem_of_lookupK e);exact absurd (show false=true from this) fX
 have core:∀H:av,D4 ts H->az K H a (ns.map V.int)->fw P w H dC.heap->(∀b,H b≠none->b∈ts\/b=a)->(H a≠none->K.lookup a=none) ->
   codeAny (model P w) callerA (.call ⇑gK ([⇑a],[])) (λr aj=>r=.ok (.ret (.bool true))/\OldK dC.heap aj.heap/\aj.os=dC.os/\AllBare aj.gens) dC:=by
  intro H l8 dV bu kJ aas;have Oq:∀{b:Addr} {o:Obj},dC.heap.get? b\o->o.cls≠.none->(∀a' n,o.data≠.seq a' n)->(oY dC.heap H).get? b\o:=λ{b o} e ae ak=>by
   refine M_ e ?_;cases q:H b with
   |none=>rfl
   |some u=>
    rcases kJ b (by rw[q];simp)with z|z
    .rw [cK b z]at e;cases e;exact absurd rfl ae
    .subst z;rw[aO]at e;cases e;exact absurd rfl (ak _ _)
  have Dx:∀{b:Addr} {m:Str->Option Value},dC.heap.Ns b m->(oY dC.heap H).Ns b m:=λ{b m} ⟨o,aU,cu,e,d,r⟩=>(o,aU,cu,(by
   refine M_ e ?_;cases q:H b with
   |none=>rfl
   |some u=>
    rcases kJ b (by rw[q];simp)with z|z
    .rw [cK b z]at e;cases e;cases d
    .subst z;rw[aO]at e;cases e;cases d),d,r)
  have TV:K.In (oY dC.heap H):=λb o e=>M_ (kN b o e) (by
   cases q:H b with
   |none=>rfl
   |some u=>
    rcases kJ b (by rw[q];simp)with z|z
    .exact (aoL b z o e).elim
    .subst z;rw[aas (by rw[q];simp)]at e;cases e)
  have agr:Mod K mg (oY dC.heap H):=(TV,Dx oZ,(n_,Dx aa,sI),let⟨acj,ae,ak⟩:=amZ;(acj,Dx ae,ak));have an4:∀p∈ts,ml (oY dC.heap H) (cd p) p:=λp ar=>by
   let(o,aoX,file,ZJ,flags,dr,aoU,text,tt,aq,aD,bV,r):=dv p ar;exact(o,aoX,file,ZJ,flags,dr,aoU,text,tt,Oq aq (by rw[aD];intro z;cases z) (λ_ _ z=>by rw[bV]at z;cases z),aD,bV,r)
  have Y_:∀p∈ts,(oY dC.heap H).BuiltinsAt mg p:=λp ar=>by
   let(bm,cT,ae,ak,aZ,bY,dS,je):=api;refine(bm,cT,ae,ak,λz=>?_,λz=>?_,Oq aZ (by rw[bY];intro z;cases z) (λ_ _ z=>by rw[je]at z;cases z),bY,dS,je)
   .let(o,aU,cu,e,d,_):=oZ;rw[z,e]at aZ;cases aZ;rw[d]at je;cases je
   .rw [z,cK p ar]at aZ;cases aZ;cases bY
  have eh:rm P w K mg (oY dC.heap H) callerA [] dC H:=(rfl,agr,λb o e=>ama e,ame (al' _ _),trivial,λb aa=>absurd (show b∈([]:List Addr)from aa) (by simp),bu,.of_eq a7);refine codeAny_mono ((F _ TV (Dx oZ) (λp ar=>(an4 p ar,Y_ p ar))).run callerA [] dC H ([⇑a],[]) [⇑a] [⇑a] _ _ ao eh (ao0 dC ⇑a) (.cons rfl .nil) (lO H l8 dV)) λr aj h=>?_
  cases r with
  |error e=>exact(GL H e aj h).elim
  | ok fc=>
   cases fc with
   |next=>exact k9 h
   |brk=>exact k9 h
   |cont=>exact k9 h
   | ret u=>
    let(v,I,os,bare,un,Vo,d5,q):=h;have dY:v=.bp true:=q;subst dY;obtain rfl:u=k4 true:=d5;have bF:∀p∈ts,∃more,aj.heap.get? p=some {cls:=.none,data:=.fields (#[]++more)}:=λp ar=>by
     let(more,lG):=un.pG p _ (l8.1 p ar);exact(more,Vo _ _ lG)
    have bo:∀b o,b∉ts->dC.heap.get? b\o->aj.heap.get? b\o:=λb o nb e=>by
     rcases l8.2 b with z|z|⟨cT,xs,z⟩
     .exact un.keep b o e z (by intro z;exact absurd (show b∈([]:List Addr)from z) (by simp)) (by simp)
     .exact absurd z nb
     .have eu:=un.nC b cT _ z;let(aq,_):=bu b _ z;let(aD,_):=Vo b _ eu;rw[e]at aq;cases aq;exact aD
    refine(rfl,(λb o e=>?_,λb o e=>?_),os,bare)
    .by_cases s':b∈ts
     .rw [cK b s']at e;cases e;let(more,HV):=bF b s';exact .inr (.inl (((dv b s').tab (cK b s')).isCodeTable,rfl,#[],more,rfl,HV))
     .exact .inl (bo b o s' e)
    .by_cases s':b∈ts
     .let(more,HV):=bF b s';exact(_,HV)
     .exact (o,bo b o s' e)
 cases ax:K.lookup a with
 | some o=>
  have e:=kN a o ax;rw[aO]at e;cases e;refine core (λb=>if b∈ts then some (.hF #[])else none) (λp ar=>if_pos ar,λb=>?_) (.inr (_,vs.toArray,_,ax,rfl,rfl,rfl,by rw[fF,ahc];exact aK,by simpa using cI)) (λb u z=>?_) (λb z=>?_) λz=>absurd (if_neg U4) z
  .by_cases aa:b∈ts
   .exact .inr (.inl aa)
   .exact .inl (if_neg aa)
  .by_cases aa:b∈ts
   .have gB:=(if_pos aa).symm.trans z;cases gB;exact cK b aa
   .have gB:=(if_neg aa).symm.trans z;cases gB
  .by_cases aa:b∈ts
   .exact .inl aa
   .exact absurd (if_neg aa) z
 | none=>
  have eg:(λb=>if b∈ts then some (gb.hF #[])else if b=a then some (.eX {cls:=.type "list",data:=.seq vs.toArray} (.lst (ns.map V.int)))else none) a\(.eX {cls:=.type "list",data:=.seq vs.toArray} (.lst (ns.map V.int))):=by
   show(if a∈ts then _ else if a=a then _ else _)=_;rw[if_neg U4,if_pos rfl]
  refine core (λb=>if b∈ts then some (.hF #[])else if b=a then some (.eX {cls:=.type "list",data:=.seq vs.toArray} (.lst (ns.map V.int)))else none) (λp ar=>if_pos ar,λb=>?_) (.inl (.inr (_,eg))) (λb u z=>?_) (λb z=>?_) λ_=>ax
  .by_cases aa:b∈ts
   .exact .inr (.inl aa)
   .by_cases j':b=a
    .exact .inr (.inr (_,_,by rw[j'];exact eg))
    .exact .inl ((if_neg aa).trans (if_neg j'))
  .by_cases aa:b∈ts
   .have gB:=(if_pos aa).symm.trans z;cases gB;exact cK b aa
   .by_cases j':b=a
    .subst j';rw[eg]at z;cases z;exact(aO,by rw[aX];exact aK,vs,_,cI,aO)
    .have gB:=((if_neg aa).trans (if_neg j')).symm.trans z;cases gB
  .by_cases aa:b∈ts
   .exact .inl aa
   .by_cases j':b=a
    .exact .inr j'
    .exact absurd ((if_neg aa).trans (if_neg j')) z
def aoq {l:PySem.W.OpenLaw} {n k:Nat} {q:Program} {loose:List Str} {A9:(Str->Option Value)->Heap->Prop} {w':World->Heap->Prop} {d:DefRec} {K:Params->bk} {CX:jX} {sp:bk->Addr->Addr->bO} {x:Str} {hZ j5:Addr}
  (a8:l.most\n) (sV:n<=sizeLine) (Im:d.params.defaults=[]) (ao:eY k callerA)
  (akF:∀(w:World) (h:Heap),w' w h->(K w.params).In h) (ll:∀(w:World) (h:Heap),w' w h->h.get? hZ\(HI #[])/\h.get? j5\(HI #[])) (i_:hZ≠j5) (fU:∀p,ajk (K p)=true)
  (F:∀(w:World) (mg:Str->Option Value) (gK:Addr) (h:Heap),(K w.params).In h->h.Ns mainGlobals mg->mg d.name\⇑gK->Ji hZ->Ji j5 ->
   ∃(fd:FuncData) (c c':Addr),(∀(s:Shared) (u:Value),BindsTo s fd ([u],[]) [(p'p x u)])/\H3 (K w.params) c hZ=true/\H3 (K w.params) c' j5=true /\
    ∀(base:Heap),(K w.params).In base->base.Ns mainGlobals mg->ml base c hZ->base.BuiltinsAt mg hZ->ml base c' j5->base.BuiltinsAt mg j5->cE l.prog w (K w.params) mg base CX k gK fd [x] (sp (K w.params) hZ j5))
  (lO:∀(K:bk) (H:av) (a hZ j5:Addr) (ns:List Int),↑ns<=n->hZ≠j5->D4 [hZ,j5] H->az K H a (ns.map V.int)->sp K hZ j5 [⇑a] H (λv _=>v=.bp true) λ_ _ _=>False)
  (GL:∀(H:av) (s:Shared) (e:Value) (aj:Shared),CX [] H s (λ_ _ _=>False) e aj->False) :
  PySem.W.WalkO q loose A9 w' l.row.toRowW d [] (λf vs=>ahj f vs):=by
 refine Sm.am8 a8 Im λw gk dC mg n_ gK o pm cd doc a vs ns G Y aS hd jY zz Gi hints hlen a7=>?_
 have kN:=akF w _ Y;let(fd,c,c',aa,aB,wL,qv):=F w mg gK _ kN G.T.g zz trivial trivial;have two:∀{Q:Addr->Prop},Q hZ->Q j5->∀p∈[hZ,j5],Q p:=λae ak p ar=>by
  rcases ei.mp ar with e|e
  .rw [e];exact ae
  .rw [d9.mp e];exact ak
 have aq:(if hZ=hZ then c else c')=c:=if_pos rfl;have aD:(if j5=hZ then c else c')=c':=if_neg (et i_);refine ab0 (ts:=[hZ,j5]) (cd:=λp=>if p=hZ then c else c') kN (fU w.params) G.T.g G.T.b G.T.builtins G.T.nolimit a7 G.T.bmain (two (by show ml _ (if hZ=hZ then c else c') _;rw[aq];exact afP kN aB) (by show ml _ (if j5=hZ then c else c') _;rw[aD];exact afP kN wL)) (two (ll w _ Y).1 (ll w _ Y).2) Gi hints (cM hlen sV) ao (λbase V3 nb h=>?_) aa (λH l8 dV=>lO (K w.params) H a hZ j5 ns hlen i_ l8 dV) λH e aj=>GL H dC e aj
 have aO:=h hZ (.head _);have d_:=h j5 (.tail _ (.head _))
 (try dsimp only at aO d_)
 rw[aq]at aO;rw[aD]at d_;exact qv base V3 nb aO.1 aO.2 d_.1 d_.2
end
section
open PySem.Spec PyProof.Rows
section
variable{X:bc}{A:Around}{ab:List (Addr×Obj)}{σ:L2.St}{H:av}{l q J S:Addr}{n:Nat}{P:Nat->Value->Prop}{R:Result->Shared->Prop}
theorem ad5(c1:Nat->Int)(bT:A.handled=none)(aK:∀s,L2.Inv X ab σ H s->∃vs:List Value,↑vs=n/\(∀i v,vs[i]?\v->P i v)/\s.heap.IsList l vs.toArray)(o4:l≠J)(lJ:S≠J)(j4:mb X ab H S)(jU:mb X ab H J)
  (turn:∀(i:Nat) (v:Value),i<n->P i v->∀(ab:List (Addr×Obj)) (s:Shared),L2.Inv X ab σ H s ->
   wpAny (model X.prog X.w) A.in1 (call ⇑q [v]) (gN X ab σ λx I=>x=.int (c1 i)/\I=H) (λ_ _=>False) s)
  (hk:∀i v aj,i<n->P i v->(∀j,j<n->c1 j<=c1 i/\(j<i->c1 j<c1 i))->L2.Inv X ab σ H aj->R (.ok (.ret v)) aj) :
  ∀(r j i:Nat) (s:Shared) (nz:Value) (bF:Tok) (c:Nat),n-(j+1)=r->j+1<=n->L2.Inv X ab σ H s ->
   s.heap.get? S\(seqObj "list" #[nz,.int (c1 i) bF] c)->s.heap.IsListIter J l (j+1)->P i nz->i<=j->(∀eO,eO<=j->c1 eO<=c1 i/\(eO<i->c1 eO<c1 i)) ->
   codeAny (model X.prog X.w) A (.builtin "max.loop" ([⇑J,⇑q,⇑S],[])) R s:=by
 have px:(toString "max"++toString ".loop":String)="max.loop":=by decide
 intro r
 induction r with
 |zero=>
  intro j i s nz bF c ao aJ bz dV hit tm lq nj;let(vs,qZ,rt,pb):=aK s bz;have W:=uR (prog:=X.prog) (w:=X.w) (A:=A.in1) bT J l o4 vs.toArray;have hsz:vs.toArray.size=↑vs:=fF ..;have g_:j+1=↑vs:=()
  refine codeAny_builtin PB ?_;rw[zF wC _];show wpAny _ A.in1 (seqItems? ⇑S >>= _) _ _ _;refine wpAny_bind (wpAny_seqItems dV rfl ?_);show wpAny _ A.in1 (tryCatch (pyNext ⇑J) _ >>= _) _ _ _;refine wpAny_bind (wpAny_tryCatch (W.done _ _ _ (by rw[hsz,<- g_];exact hit,pb) λh' oD e4=>?_));have mE:L2.Inv X ab σ H {s with heap:=h',toks:=oD}:=jU.turn bz λb o n e=>e4 b o (by simpa using n) e
  have pf:=e4 S _ (by simpa using lJ) dV;show wpAny _ A.in1 (updateSeq S (λ_=>#[]) >>= _) _ _ _;refine wpAny_bind ?_;refine wpAny_updateSeq pf rfl (wpAny_bind (wpAny_letGo (wpAny_pure ?_)));exact hk i nz _ () tm (λeO h5=>nj eO ()) (j4.turn mE λb o n e=>(p3 _ _ (et n)).trans e)
 | succ r cZ=>
  intro j i s nz bF c ao aJ bz dV hit tm lq nj;let(vs,qZ,rt,pb):=aK s bz;have W:=uR (prog:=X.prog) (w:=X.w) (A:=A.in1) bT J l o4 vs.toArray;have hsz:vs.toArray.size=↑vs:=fF ..;have dK:j+1<n:=()
  refine codeAny_builtin PB ?_;rw[zF wC _];show wpAny _ A.in1 (seqItems? ⇑S >>= _) _ _ _;refine wpAny_bind (wpAny_seqItems dV rfl ?_);show wpAny _ A.in1 (tryCatch (pyNext ⇑J) _ >>= _) _ _ _;refine wpAny_bind (wpAny_tryCatch (W.item (j+1) _ _ _ (by rw[hsz,qZ];exact dK) (hit,pb) λv h' oD cK nq e4=>?_));have aE:P (j+1) v:=rt _ _ (by simpa using cK);let(qF,tD,od,nc):=id nq.1;have mE:L2.Inv X ab σ H {s with heap:=h',toks:=oD}:=jU.turn bz λb o n e=>e4 b o (by simpa using n) e
  have pf:=e4 S _ (by simpa using lJ) dV;have rz:=As mE j4 jU pf tD (λ_ z=>by cases z) (λ_ z=>by rw[nc]at z;cases z);show wpAny _ A.in1 (tryCatch (holding [v] (call ⇑q [v])) _ >>= _) _ _ _;refine wpAny_bind (wpAny_tryCatch (wpAny_holding (wpAny_mono (turn (j+1) v dK aE _ _ rz) (λx s2 he=>?_) λ_ _ qv=>qv.elim)));let(eP,I,oM,bb,rfl,rfl):=he;let(eA,rfl):=bb;let(p',nA,qA):=Au oM;have J2:s2.heap.IsListIter J l (j+1+1):=(qF,qA,od,nc);show wpAny _ A.in1 (tryCatch (holding [v,.int (c1 (j+1)) eA] (richCompare .Gt (.int (c1 (j+1)) eA) (.int (c1 i) bF) >>= _)) _ >>= _) _ _ _;refine wpAny_bind (wpAny_tryCatch (wpAny_holding (wpAny_bind (CmpOf.ints_gt (prog:=X.prog) (w:=X.w) (A:=A.in1) (P:=λi v=>∃t,v=.int (c1 i) t) c1 (λi v h=>h) (j+1) i _ _ _ _ _ (eA,rfl) (bF,rfl) ?_))));refine wpAny_bind (wpAny_holding (wpAny_truthy_bool ?_));refine wpAny_bind (wpAny_letGo (wpAny_pure ?_));by_cases d_:c1 (j+1)>c1 i
  .obtain⟨bJ,qV⟩:∃bJ,(s2.heap.update S (rb fun _=>#[v,.int (c1 (j+1)) eA])).get? S=some (seqObj "list" #[v,.int (c1 (j+1)) eA] bJ):=⟨_,get?_update_seq nA fun _=>#[v,.int (c1 (j+1)) eA]⟩;simp only[d_,decide_true,if_true];refine wpAny_bind ?_;refine wpAny_updateSeq nA rfl (wpAny_bind (wpAny_letGo ?_));rw[px];have uz:=j4.turn (t':=s2.toks) p' (h':=s2.heap.update S (rb fun _=>#[v,.int (c1 (j+1)) eA])) fun b o n e=>(p3 _ _ (et n)).trans e
   refine wpAny_pure (plainId_quiet wC _,cZ (j+1) (j+1) _ v eA bJ () dK uz qV (qF,(p3 _ _ lJ).trans qA,od,nc) aE (bQ _) λeO h5=>?_);by_cases e:eO=j+1
   .subst e;exact((),λ_=>())
   .have ti:=nj eO ();have j':=ti.1;exact((),λ_=>())
  .simp only[d_,decide_false,CZ,if_false];refine wpAny_bind (wpAny_letGo ?_);rw[px];refine wpAny_pure (plainId_quiet wC _,cZ (j+1) i _ nz bF c () dK p' nA J2 tm () λeO h5=>?_);by_cases e:eO=j+1
   .subst e;exact((),λ_=>())
   .exact nj eO ()
def adq(c1:Nat->Int)(bT:A.handled=none)(bz:L2.Inv X ab σ H s)(aK:∀ab s,L2.Inv X ab σ H s->∃vs:List Value,↑vs=n/\(∀i v,vs[i]?\v->P i v)/\s.heap.IsList l vs.toArray)(ck:0<n)
  (turn:∀(i:Nat) (v:Value),i<n->P i v->∀(ab:List (Addr×Obj)) (s:Shared),L2.Inv X ab σ H s ->
   wpAny (model X.prog X.w) A.in1 (call ⇑q [v]) (gN X ab σ λx I=>x=.int (c1 i)/\I=H) (λ_ _=>False) s)
  (aY:∀i v aj,i<n->P i v->(∀j,j<n->c1 j<=c1 i/\(j<i->c1 j<c1 i))->L2.Inv X ab σ H aj->Q v aj) :
  wpAny (model X.prog X.w) A (call (.builtin "max") [⇑l] [(p'p (af "key") (⇑q))]) Q E s:=by
 have px:(toString "max"++toString ".loop":String)="max.loop":=by decide
 let(Ti,_,_,rB):=aK _ s bz;let(ol,MO,_):=id rB;have uS:l<↥s:=er MO;refine kmk_tree PySem.F.kind_max PySem.F.plain_max PySem.F.entry_max (kmk_max_key _ _) ?_;show wpAny _ A.in1 (II "max" ["key","default"] 0 ([],[(p'p (af "key") (⇑q))]) >>= _) _ _ s;refine wpAny_bind (wpAny_of_eq (show II "max" ["key","default"] 0 ([],[(p'p (af "key") (⇑q))])=pure [some (ff q),none]from rfl) ?_);refine wpAny_bind (wpAny_pure ?_);refine wpAny_bind (wpAny_pyIter_list rB ?_);refine wpAny_bind (wpAny_newList ?_ (eW _));rw[px];have dV:(s.heap.push {cls:=.type "list_iterator",data:=.fields #[⇑l,.int 0 0]}).objs.size=↥s+1:=size_push' ..;have o4:l≠↥s:=gz uS;have lJ:(s.heap.push {cls:=.type "list_iterator",data:=.fields #[⇑l,.int 0 0]}).objs.size≠↥s:=by rw[dV];exact Eh (wK _)
 refine wpAny_pure (plainId_quiet wC _,?_);have jU:mb X ab H ↥s:=.of bz (bQ _);have j4:mb X ab H (s.heap.push {cls:=.type "list_iterator",data:=.fields #[⇑l,.int 0 0]}).objs.size:=.of bz (by rw[dV];exact Bx _);have Jc:((s.heap.push {cls:=.type "list_iterator",data:=.fields #[⇑l,.int 0 0]}).push (seqObj "list" #[] 0)).get? ↥s=some {cls:=.type "list_iterator",data:=.fields #[⇑l,.int 0 0]}:=
  e2 _ (hq _ rfl)
 have xT:((s.heap.push {cls:=.type "list_iterator",data:=.fields #[⇑l,.int 0 0]}).push (seqObj "list" #[] 0)).get? (s.heap.push {cls:=.type "list_iterator",data:=.fields #[⇑l,.int 0 0]}).objs.size\(seqObj "list" #[] 0):=hq _ rfl;have x3:L2.Inv X ab σ H {s with heap:=(s.heap.push {cls:=.type "list_iterator",data:=.fields #[⇑l,.int 0 0]}).push (seqObj "list" #[] 0)}:=bz.kept (t':=s.toks) λb o e=>e2 _ (e2 _ e)
 let(vs,qZ,rt,pb):=aK _ _ x3;have W:=uR (prog:=X.prog) (w:=X.w) (A:=A.in1) bT ↥s l o4 vs.toArray;have hsz:vs.toArray.size=↑vs:=fF ..;refine codeAny_builtin PB ?_;rw[zF wC _];show wpAny _ A.in1 (seqItems? ⇑_ >>= _) _ _ _;refine wpAny_bind (wpAny_seqItems xT rfl ?_);show wpAny _ A.in1 (tryCatch (pyNext (.ref ↥s)) _ >>= _) _ _ _;refine wpAny_bind (wpAny_tryCatch (W.item 0 _ _ _ (by rw[hsz,qZ];exact ck) ((_,Jc,rfl,rfl),pb) λv h' oD cK nq e4=>?_));have aE:P 0 v:=rt _ _ (by simpa using cK);let(qF,tD,od,nc):=id nq.1;have mE:=jU.turn (h':=h') (t':=oD) x3 λb o n e=>e4 b o (by simpa using n) e
 have pf:=e4 _ _ (by simpa using lJ) xT;have rz:=As mE j4 jU pf tD (λ_ z=>by cases z) (λ_ z=>by rw[nc]at z;cases z);show wpAny _ A.in1 (tryCatch (holding [v] (call ⇑q [v])) _ >>= _) _ _ _;refine wpAny_bind (wpAny_tryCatch (wpAny_holding (wpAny_mono (turn 0 v ck aE _ _ rz) (λx s2 he=>?_) λ_ _ qv=>qv.elim)));let(eP,I,oM,bb,rfl,rfl):=he;let(eA,rfl):=bb;let(p',nA,qA):=Au oM;let(bJ,qV):∃bJ,(s2.heap.update (s.heap.push {cls:=.type "list_iterator",data:=.fields #[⇑l,.int 0 0]}).objs.size (rb λ_=>#[v,.int (c1 0) eA])).get? (s.heap.push {cls:=.type "list_iterator",data:=.fields #[⇑l,.int 0 0]}).objs.size=some (seqObj "list" #[v,.int (c1 0) eA] bJ):=(_,get?_update_seq nA λ_=>#[v,.int (c1 0) eA]);show wpAny _ A.in1 (updateSeq (s.heap.push {cls:=.type "list_iterator",data:=.fields #[⇑l,.int 0 0]}).objs.size (λ_=>#[v,.int (c1 0) eA]) >>= _) _ _ _;refine wpAny_bind ?_;refine wpAny_updateSeq nA rfl ?_;rw[px];have uz:=j4.turn (t':=s2.toks) p' (h':=s2.heap.update (s.heap.push {cls:=.type "list_iterator",data:=.fields #[⇑l,.int 0 0]}).objs.size (rb λ_=>#[v,.int (c1 0) eA])) λb o n e=>(p3 _ _ (et n)).trans e
 refine wpAny_pure (plainId_quiet wC _,ad5 c1 bT (λs bz=>aK _ s bz) o4 lJ j4 jU turn aY _ 0 0 _ v eA bJ rfl ck uz qV (qF,(p3 _ _ lJ).trans qA,od,nc) aE (bQ _) λeO h5=>?_);have e:eO=0:=()
 subst e;exact((),λh=>absurd h (oQ _))
end
noncomputable def QT(K:bk)(bP:Addr)(mx:Pos)(q:Str)(i1 i2:Nat)(t:TE)(a_:fH):TE:=λσ H Q=>a_ σ H λvs H1=>∃l xs v1 v2,∃g:Nat->Int,vs=[⇑l]/\az K H1 l xs/\xs≠[] /\
 σ[i1]?\(some v1)/\σ[i2]?\(some v2)/\Tab H1 bP mx q/\∀aw,iy bP H1 aw->(aL H1->aL aw)->Tab aw bP mx q ->
  (∀(i:Nat) x,xs[i]?\x->t [some x,some v1,some v2] aw λr I=>r=.int (g i)/\I=aw)/\∀(i:Nat) m,xs[i]?\m->(∀(j:Nat) n,xs[j]?\n->g j<=g i)->Q m aw
theorem aa5{k:Nat}{t:TE}{p bo pos mx:Pos}
  (aB:X.calm=true) (a7:k1 X "max") (hm:X.mg "max"=none) (aO:h8 X [a] a_) (T:M9 X c bP) (ao:eY (k+1) X.A) (S:wR pr y z scope) (ae:X.env.cells.lookup y\aW) (ak:X.env.cells.lookup z\bJ) (yi:defaultsOf params X.env=(p'p [] [])) (n5:closureFor scope X.env=pure [(p'p y aW),(p'p z bJ)])
  (cc:X.env.scope.names.lookup y\.cell) (dX:X.env.scope.names.lookup z\.cell) (Mz:X.N[i1]?\y) (HC:X.N[i2]?\z)
  (aa:∀c' pm jm u,bindArgs (Ta "<lambda>" (X.env.qual++"<lambda>") params body scope [(p'p y aW),(p'p z bJ)] pm ⇑c' jm) ([u],[])=pure [(p'p pr u)])
  (oP:∀f c' s H,∃t',bA (pV X X.A.in1 [pr,y,z] (X.env.qual++"<lambda>") scope f c' [(p'p y aW),(p'p z bJ)] s H) body t'/\t'=t)
  (he:autoParam (∀pos,backTo pos (starEach [a] X.env)=(p'p false (eval a X.env))::backTo pos (starEach [] X.env)) A'i) (c2:autoParam (∀pos,(backTo pos (starEach [a] X.env)).any (·.1)=false) A'i) :
  bA X (.Call (.Name "max" p) [a] [(some "key",.Lambda params body scope mx,bo)] pos) (QT X.K bP mx (X.env.qual++"<lambda>") i1 i2 t a_):=by
 intro ab s σ H Q J h;refine wpAny_Call_Name_kw (q1 J a7 hm ((∅:bootBuiltins "max"\(.builtin "max"))) ?_);refine callWith_kw (id:="max") (bK (aO pos ab s σ H _ J h) λus s1 ⟨vs,H1,a0,ct,bM⟩=>?_) (he:=he pos) (hplain:=c2 pos);let(l,xs,v1,v2,g,rfl,aI,ck,aq,aD,bF,q):=bM;refine kws_cons (YE a0 T bF n5 yi λf c' aw s2 b1 bw bC qE ky ef f'=>kws_nil ?_);let(lj,KC):=q aw bw bC qE;have v7:=aI.p bw bF;have cell:∀{ab:List (Addr×Obj)} {s:Shared} (bz:L2.Inv X ab σ aw s) {i:Nat} {x:Str} {v:V} {cl:Addr},X.N[i]?\x->σ[i]?\(some v)->X.env.scope.names.lookup x\.cell->X.env.cells.lookup x\cl->∃u,be v u/\s.heap.IsCell cl (some u):=by
  intro ab s bz i x v cl bl ev ag qI;let(m,a8,Jb):=bz.loc;let(u,fm,lo):=Jb i x v bl ev (.inr (.inl ag));have ax:X.env.kindOf x\.cell:=ag;rcases lo with⟨w,_⟩|⟨_,alN,dN,eH⟩
  .rw [ax]at w;cases w
  .rw [qI]at dN;cases dN;exact(u,fm,eH)
 have Lc:aW≠bJ:=λw=>S.ne (J.ok.inj _ _ _ ae (by rw[w];exact ak))
 cases ct with
 | cons r kT=>
  cases kT;cases r;have L6:0<↑xs:=DT.mpr ck;refine adq (n:=↑xs) (P:=λi v=>∃x,xs[i]?\x/\be x v) g (a0.ok.hd aB) b1 (λab s bz=>?_) L6 (λi v ah aE ab s bz=>?_) λi v aj ah aE nj bz=>?_
  .obtain⟨a',cI,pl,aQ⟩:=bz.list v7;have aK:=↑cI;refine⟨a',aK.symm,fun i v aE=>?_,pl.isList⟩;have ah:i<↑xs:=by have:=(b0.mp aE).1;omega
   have ag:xs[i]?\xs[i]:=a6 ah;let(w,hw,hl):=cI.get ag;rw[aE]at hw;cases hw;exact(_,ag,hl)
  .let(x,ag,bb):=aE;let(t',ti,rfl):=oP f c' s aw;exact PZ (a:=x) S ao.in1 a0.ok.frames bz Lc (bz.kg _ _ ae) (bz.kg _ _ ak) (cell bz Mz aq cc ae) (cell bz HC aD dX ak) ky ef (λpm jm=>aa c' pm jm v) bb ti (lj i x ag)
  .let(x,ag,bb):=aE;exact(x,aw,bz,bb,KC i x ag λj n aJ=>(nj j (b0.mp aJ).1).1)
end
seal L2.h8 L2.bA L2.hY L2.jS L2.i8 L2.gv
structure fA where
 m:Nat
 h:Nat
 Dm:Nat->Bool
noncomputable def fA.own(S:fA)(x:Nat):Bool:=S.Dm x==S.Dm S.h
noncomputable def fA.fp(S:fA)(x:Nat):Int:=((x:Int)-(S.h:Int)-1)%(S.m:Int)
structure fA.Ok(S:fA):Prop where
 hm:S.h<S.m
 sg:S.m<=6
noncomputable def iP(S:fA):Nat->Int->List Nat->Prop
 |p,_,[]=>p=S.h
 |p,sp,x::r=>p≠S.h/\x<S.m/\((S.own x=true/\sp<S.fp x/\iP S x (S.fp x) r)\/(S.own p=true/\S.own x=false/\iP S x sp r))
noncomputable def mn(S:fA)(s:Nat):Nat:=(S.h+1+s)%S.m
noncomputable def e_(S:fA):List Nat:=((fb S.m).map (mn S)).filter S.own
noncomputable def lM(S:fA):List Nat:=(fb S.m).filter λx=>!S.own x
section
variable{S:fA}
def S4:S.own S.h=true:=by unfold fA.own;simp
def UI(k:S.Ok)(s:Nat):mn S s<S.m:=Nat.mod_lt _ (by have:=k.hm;omega)
def Pa(k:S.Ok)(ay:s<S.m):S.fp (mn S s)=(s:Int):=by
 have ae:=k.hm;unfold fA.fp mn;by_cases c:S.h+1+s<S.m
 .rw [Fc c,show(((S.h+1+s:Nat):Int)-(S.h:Int)-1)=(s:Int)by omega,oT () ()]
 .rw [Nat.mod_eq_sub_mod (),Fc ()];rw[show(((S.h+1+s-S.m:Nat):Int)-(S.h:Int)-1)=(s:Int)+(S.m:Int)*(-1)by omega,ML,oT () ()]
def YZ(k:S.Ok){x:Nat}(ag:x<S.m):∃s,s<S.m/\mn S s=x/\S.fp x=(s:Int):=by
 have ae:=k.hm;have da:=w9 ((x:Int)-(S.h:Int)-1) (show(S.m:Int)≠0 by omega);have cX:=vJ ((x:Int)-(S.h:Int)-1) (show(0:Int)<S.m by omega);by_cases c:S.h<x
 .refine⟨x-S.h-1,(),?_,?_⟩
  .unfold mn;rw[show S.h+1+(x-S.h-1)=x by omega,Fc ag]
  .unfold fA.fp;rw[oT () ()];omega
 .refine⟨x+S.m-S.h-1,(),?_,?_⟩
  .unfold mn;rw[show S.h+1+(x+S.m-S.h-1)=x+S.m by omega,amA,Fc ag]
  .unfold fA.fp;rw[show(x:Int)-(S.h:Int)-1=((x+S.m-S.h-1:Nat):Int)+(S.m:Int)*(-1)by omega,ML,oT () ()]
def q'(k:S.Ok)(x:Nat):0<=S.fp x/\S.fp x<S.m:=(w9 _ (by have:=k.hm;omega),vJ _ (by have:=k.hm;omega))
def rl(k:S.Ok){x:Nat}:x∈e_ S↔x<S.m/\S.own x=true:=by
 unfold e_;rw[j1,cj];constructor
 .intro ((s,ay,rfl),h);exact(UI k s,h)
 .intro (ae,ak);let(s,ay,e,_):=YZ k ae;exact((s,pq.mpr ay,e),ak)
def KF{x:Nat}:x∈lM S↔x<S.m/\S.own x=false:=by
 unfold lM;rw[j1,pq];simp
def al5(k:S.Ok):(e_ S).Pairwise λx y=>S.fp x<S.fp y:=by
 unfold e_;refine aq4 _ ?_;rw[akS];refine ais (R:=λa b=>a<b) (λ{a b} aO aa h=>?_) List.pairwise_lt_range;rw[Pa k (pq.mp aO),Pa k (pq.mp aa)];omega
def aaj(k:S.Ok){i j x y:Nat}(ah:(e_ S)[i]?\x)(aJ:(e_ S)[j]?\y):i<j↔S.fp x<S.fp y:=by
 have ar:=aaR.mp (al5 k);let(li,mQ):=b0.mp ah;let(vO,q3):=b0.mp aJ;constructor
 .intro h;have:=ar i j li vO h;rw[mQ,q3]at this;exact this
 .intro h;rcases ZP i j with c|c|c
  .exact c
  .subst c;rw[ah]at aJ;cases aJ;omega
  .have:=ar j i vO li c;rw[mQ,q3]at this;omega
def LS(S:fA):↑(e_ S)<=S.m:=by
 unfold e_;exact cM (vq _ _) (by simp)
def Xa(S:fA):↑(lM S)<=S.m:=by
 unfold lM;exact cM (vq _ _) (by simp)
def Qh(k:S.Ok):∃r,e_ S=r++[S.h]:=by
 have ae:=k.hm;have e:fb S.m=fb (S.m-1)++[S.m-1]:=by
  rw[show S.m=(S.m-1)+1 by omega,wJ];simp
 unfold e_;rw[e,e',List.filter_append];refine(_,congrArg _ ?_);have:mn S (S.m-1)=S.h:=by
  unfold mn;rw[show S.h+1+(S.m-1)=S.h+S.m by omega,amA,Fc ae]
 simp[this,S4]
end
def vT(S:fA)(place sp:Int):Prop:=(place = -1/\sp = -1)\/∃(i:Nat) (y:Nat),place=(i:Int)/\(e_ S)[i]?\y/\sp=S.fp y
def HM{S:fA}(k:S.Ok){place sp:Int}(h:vT S place sp){j y:Nat}(aJ:(e_ S)[j]?\y):place<(j:Int)↔sp<S.fp y:=by
 rcases h with⟨rfl,rfl⟩|⟨i,x,rfl,ah,rfl⟩
 .have:=(q' k y).1;constructor <;> intro <;> omega
 .rw [<- aaj k ah aJ];omega
def Px{place sp:Int}(h:vT S place sp):-1<=place:=by
 rcases h with⟨rfl,_⟩|⟨i,_,rfl,_⟩ <;> omega
noncomputable def iu(o:Nat):Nat->Nat
 |0=>0
 |j+1=>if j=0 then 1 else(2+o)*iu o j
noncomputable def sk(o j:Nat):Nat:=if j=0 then 1 else(1+o)*iu o j
theorem amf(o j:Nat):iu o (j+1)=iu o j+sk o j:=by
 unfold sk;cases j with
 |zero=>rfl
 |succ j=>
  rw[if_neg ()];show(if j+1=0 then 1 else(2+o)*iu o (j+1))=_;rw[if_neg (),Rf,Rf];omega
def QE:∀o,o<=6->∀j,j<=6->sk o j<=300000/\iu o j<=300000:=∅
noncomputable def mZ(S:fA)(p:Nat)(sp:Int):Nat:=2*((S.m:Int)-sp).toNat+(if S.own p=true then 1 else 0)
def vV(h:xs[↑xs-1]?\v):gp xs (-1)\v:=by
 have aK:0<↑xs:=by have:=(b0.mp h).1;omega
 unfold gp rh;rw[if_neg ∅,if_pos ()];rw[show((-1+(↑xs:Int)).toNat)=↑xs-1 by omega];exact h
def hK(mJ:List Nat):↑(bH mJ)=↑mJ:=by unfold bH;rw[aX]
def qb{i x:Nat}(h:mJ[i]?\x):(bH mJ)[i]?\(.int (x:Nat)):=by unfold bH;rw[dg,h];rfl
def t5(mJ:List Nat):(bH mJ).all my=true:=by unfold bH;simp[my]
def tv(x:Nat)(mJ:List Nat):r4 (.int (x:Nat)) (bH mJ)=decide (x∈mJ):=by
 unfold r4 bH;rw[Ot,l6];simp only[r1,af',decide_eq_true_eq];constructor
 .rintro⟨y,aM,e⟩;have:(y:Int)=(x:Int):=by simpa[e'a,e'b,e'c]using e
  rw[show x=y by omega];exact aM
 .intro h;exact(x,h,by simp[e'a,e'b,e'c])
theorem Rg(x:Nat):∀xs:List Nat,((xs.map λj=>((j:Nat):Int)).idxOf (x:Int))=xs.idxOf x
 |[]=>rfl
 |y::ys=>by
  rw[fz,aeU,aeU,Rg x ys];by_cases h:y=x
  .subst h;simp
  .rw [show((y:Int)==(x:Int))=false by rw[beq_eq_false_iff_ne];omega,show(y==x)=false by simpa using h]
noncomputable def dR(ds:List bf)(rows:List ST)(h:Nat):fA:=(↑rows,h,λi=>decide (bL ds rows i=dc))
structure ii(ds:List bf)(rows:List ST):Prop where
 so:∀r∈rows,c0 ds r=dc\/c0 ds r=iN
 kI:↑rows<=6
 lo:∀r∈rows,1<=r.lo/\r.lo<=r.ah/\r.ah<=1000
 cG:∀r∈rows,r.mem≠[]
def ii.ok{rows:List ST}(R:ii ds rows){h:Nat}(bT:h<↑rows):(dR ds rows h).Ok:=(bT,R.kI)
def ii.two{rows:List ST}(R:ii ds rows)(aJ:j<↑rows):bL ds rows j=dc\/bL ds rows j=iN:=by
 unfold bL;rw[a6 aJ];exact R.so _ (gf aJ)
def C4{rows:List ST}(R:ii ds rows){h j:Nat}(bT:h<↑rows)(aJ:j<↑rows):(dR ds rows h).own j=decide (bL ds rows j=bL ds rows h):=by
 have ne:¬iN=dc:=∅
 have ne':¬dc=iN:=∅
 unfold fA.own dR;rcases R.two aJ with e|e <;> rcases R.two bT with bD|bD <;> simp[e,bD,ne,ne']
section
variable(P:Program)(w:World)
def ag7(t:bS):bO:=λvs H Q _=>∃aH c n ds rows,∃h:Nat,vs=[⇑aH,.int h]/\fJ P w t H aH c n ds rows/\ii ds rows/\h<↑rows/\aL H/\∀p I,aN H I->aL I->I p\(.lst (bH (e_ (dR ds rows h))))->Q ⇑p I
def acA(t:bS):bO:=λvs H Q _=>∃aH c n ds rows,∃h:Nat,vs=[⇑aH,.int h]/\fJ P w t H aH c n ds rows/\ii ds rows/\h<↑rows/\aL H/\∀p I,aN H I->aL I->I p\(.lst (bH (lM (dR ds rows h))))->Q ⇑p I
end
noncomputable def hp(S:fA)(f s:Nat):Int:=if S.own s=true then S.fp s else if S.own f=true/\f≠S.h then S.fp f else -1
def akp:bO:=λvs H Q _=>∃l,∃S:fA,∃f s:Nat,vs=[⇑l,.int f,.int s]/\H l\(.lst (bH (e_ S)))/\S.Ok/\f<S.m/\s<S.m/\∀place,vT S place (hp S f s)->Q (.int place) H
def afM:cq P base T 1 t.NC t.MD kH (ag7 P w t):=by
 exists T.Ir.ok Tr,9
 let(aH,c,n,ds,rows,h,rfl,cU,R,bT,bC,q):=h;let(iS,le,mo,cG,so,aS,ch,ms,kvs,aq,C,bV,eC,gn,eB,hh,km,jF):=id cU;have kI:=R.kI;refine(_,(db (uo (i:=2) Tr.aG rfl (n0 rfl) rfl (l0 rfl T.k8 (ai (bB (U 0) rfl) aC)) (f_ (sc:=bx (top 43)) rfl ∅) (N:=["step","home","stages"]) (sel:=[none,some 1,some 0]) (f7 (M:=M0) ∅) (fa.of (λ_ _ _ _=>(b8 (i:=0) (ec (N:=["step","home","stages"]) ∅ rfl))) (λ_ _ _ _=>(_,hT,by walk_at "B")) (λ_ _ _ _=>(_,(bN jN (bN ew (bN ew (U 1) aT) (U 0)) (bB (U 2) rfl)),by walk_at "B"))) rfl)
   (a4 (b7 (hR rfl (e6 (U 2)) (f_ (sc:=bx (top 43)) rfl ∅) (N:=CY) (sel:=[none,some 0,some 1]) (f7 (M:=M0) ∅) (fa.of (λ_ _ _ _=>(b8 (i:=0) (ec (N:=CY) ∅ rfl))) (λ_ _ _ _=>(_,(uc (dh e3 (bZ c8 (bB (U 1) rfl) (U 0)) (bZ c8 (bB (U 1) rfl) (U 2)) (cL _))),by walk_at "B")) (λ_ _ _ _=>(_,(U 0),by walk_at "B"))))))),?_)
 exists (λau I=>aN H I/\aL I/\∃np,I np\(.lst (bH ((fb ↑rows).map (mn (dR ds rows h)))))/\au=[~~~aH,some (.int h),~~~np]),3
 .nofun;refine(_,qt T aq,_,rfl,(),(),?_);rw[mN];refine cY.SH (λs=>.int (mn (dR ds rows h) s:Nat)) (cM kI ∅) (λi N ah bl=>?_) (λp ar=>?_)
  .nofun;refine(Sub.name,_,qt T aq,_,rfl,(),?_);rw[show((h:Int)+1+(i:Int))%(↑rows:Int)=((mn (dR ds rows h) i:Nat):Int)by
    unfold mn dR;rw[Int.natCast_emod];congr 1]
   exact bl
  .refine bX _ _ (bh ar,bC.upd,p,?_,rfl);rw[aR];unfold bH;rw[rE];rfl
 intro fG H1 (s1,cP,np,o',rfl);subst aV;simp only[dT];have zE:=s1 _ _ aq;nofun;refine((_,az.of o'),?_);refine cY.w1 (ss:=((fb ↑rows).map (mn (dR ds rows h))).map λj=>if(dR ds rows h).own j=true then some (V.int (j:Nat))else none) (az.of o') (by rw[hK,aX,sb];exact cM kI ∅) (by rw[hK,aX]) (λi v o ys N aE aS bl=>?_) (λp ar=>?_)
 .unfold bH at aE;let(j,aJ,rfl):=b_ aE;let(eO,h5,rfl):=b_ aS;rw[aJ]at h5;cases h5;have fL:j<↑rows:=by
   let(s0,_,rfl):=b_ aJ;exact UI (R.ok bT) _
  rw[C4 R bT fL]at bl;nofun;refine(Sub.name,_,oq T zE,_,rfl,_,az.of (s1 _ _ eB),_,cv (oe (rL fL)),_,oq T zE,_,rfl,_,az.of (s1 _ _ eB),_,cv (oe (rL bT)),rfl,?_);by_cases br:bL ds rows j=bL ds rows h
  .rw [if_pos (by rw[br,decide_eq_true rfl])];rw[if_pos (decide_eq_true br)]at bl;exact bl
  .rw [if_neg (by rw[decide_eq_false (λz=>br (by injection z))];exact fX)];rw[if_neg (by simpa using br)]at bl;simpa using bl
 .rw [Ck];exact q p _ (s1.trans (bh ar)) cP.upd aR
def adk:cq P base T 1 t.Nk t.MX kH (acA P w t):=by
 exists T.HY.ok ZZ,9
 let(aH,c,n,ds,rows,h,rfl,cU,R,bT,bC,q):=h;let(iS,le,mo,cG,so,aS,ch,ms,kvs,aq,C,bV,eC,gn,eB,hh,km,jF):=id cU;have kI:=R.kI;refine(_,(a4 (b7 (hR rfl (l0 rfl T.k8 (ai (bB (U 0) rfl) aC)) (f_ (sc:=bx (top 44)) rfl ∅) (N:=CY) (sel:=[none,some 0,some 1]) (f7 (M:=kH) ∅) (fa.of (λ_ _ _ _=>(b8 (i:=0) (ec (N:=CY) ∅ rfl))) (λ_ _ _ _=>(_,(uc (dh og (bZ c8 (bB (U 1) rfl) (U 0)) (bZ c8 (bB (U 1) rfl) (U 2)) (cL _))),by walk_at "B")) (λ_ _ _ _=>(_,(U 0),by walk_at "B")))))),?_);nofun;refine(_,qt T aq,_,rfl,(),(),?_);rw[mN];refine cY.akW (ss:=(fb ↑rows).map λj=>if(!(dR ds rows h).own j)=true then some (V.int (j:Nat))else none) (cM kI ∅) (by rw[aX,sb]) (λj o ys N fL aS bl=>?_) (λp ar=>?_)
 .obtain⟨eO,h5,rfl⟩:=b_ aS;rw[DP fL]at h5;cases h5;rw[C4 R bT fL]at bl;nofun;refine⟨Sub.name,_,oq T aq,_,rfl,_,az.of eB,_,cv (oe (rL fL)),_,oq T aq,_,rfl,_,az.of eB,_,cv (oe (rL bT)),rfl,?_⟩;by_cases br:bL ds rows j=bL ds rows h
  .rw [if_neg (by rw[br,decide_eq_true rfl];exact fX)];simp[br]at bl;exact bl
  .rw [if_pos (by rw[decide_eq_false (λz=>br (by injection z))];rfl)];simp[br]at bl;exact bl
 .rw [Ck];exact q p _ (bh ar) bC.upd aR
theorem acP:cq P base T 1 t.Ld t.M1 D_ akp:=by
 exists T.K4.ok ZM,9
 let(l,S,f,aj,rfl,aK,k,hf,ay,q):=h;refine(_,(db (d4 (dh vZ (U 2) (U 0) (by with_unfolding_all rfl)) (a4 (b7 (fo gI Rd ag8 R2 (U 0) (ai (U 2) aC)))) en)
   (db (d4 (gv.pt (qn (dh vZ (U 1) (U 0) (by with_unfolding_all rfl)) (p_ (dh og (U 1) (bZ c8 (U 0) (qu ri aT)) (cL _))))) (a4 (b7 (fo gI Rd ag8 R2 (U 0) (ai (U 1) aC)))) en)
   (a4 (b7 (qu ri aT))))),?_)
 have arM:=LS S;have xH:=k.sg;have idx:∀{x:Nat},x∈e_ S->(((e_ S).map λj=>((j:Nat):Int)).idxOf (x:Int)=(e_ S).idxOf x)/\(e_ S)[(e_ S).idxOf x]?\x:=λ{x} ag=>by
  refine(Rg x (e_ S),?_);have aK:=ahF.mpr ag;rw[a6 aK,aj0]
 have ind:∀{x:Nat} {Q':cV},x∈e_ S->Q' (.int ((e_ S).idxOf x:Nat)) H->∃bG:List Int,az K H l (o3 V.int bG)/\(x:Int)∈bG/\↑bG<=1000/\Q' (.int (bG.idxOf (x:Int):Nat)) H:=λ{x Q'} ag aI=>by
  refine((e_ S).map λj=>((j:Nat):Int),by rw[<- TD];exact az.of aK,cj.mpr (x,ag,rfl),by rw[aX];omega,?_);rw[(idx ag).1];exact aI
 let(r,q7):=Qh k;have hL:gp (bH (e_ S)) (-1)\(.int (S.h:Nat)):=vV (by
  rw[hK];refine qb ?_;rw[q7,cB,k6,Mb,kz (bQ _),NI];rfl)
 simp only[dT];by_cases aW:aj∈e_ S
 .refine du true (λQ aY=>?_) (λ_=>?_) (λz=>nomatch z)
  .nofun;refine(_,.inl (az.of aK),rfl,t5 _,?_);rw[tv,decide_eq_true aW];exact aY
  .nofun;refine(.inl (_,az.of aK),ind (Q':=Q) aW (q _ (.inr (_,aj,rfl,(idx aW).2,?_))));unfold hp;rw[if_pos ((rl k).mp aW).2]
 have mi:S.own aj=false:=by
  cases h:S.own aj with
  |true=>exact absurd ((rl k).mpr (ay,h)) aW
  |false=>rfl
 refine du false (λQ aY=>?_) (λz=>nomatch z) (λ_=>?_)
 .nofun;refine(_,.inl (az.of aK),rfl,t5 _,?_);rw[tv,decide_eq_false aW];exact aY
 simp only[gy,dT];by_cases bJ:f∈e_ S
 .by_cases iW:f=S.h
  .refine du false (λQ aY=>?_) (λz=>nomatch z) (λ_=>?_)
   .nofun;refine(_,.inl (az.of aK),rfl,t5 _,?_);rw[tv,decide_eq_true bJ,if_pos rfl];refine(_,az.of aK,_,hL,rfl,?_);rw[iW,decide_eq_true rfl];exact aY
   .nofun;refine q (-1) (.inl (rfl,?_));unfold hp;rw[if_neg (by rw[mi];decide),if_neg (λz=>z.2 iW)]
  .refine du true (λQ aY=>?_) (λ_=>?_) (λz=>nomatch z)
   .nofun;refine(_,.inl (az.of aK),rfl,t5 _,?_);rw[tv,decide_eq_true bJ,if_pos rfl];refine(_,az.of aK,_,hL,rfl,?_);rw[decide_eq_false (λz=>iW (by injection z with z;omega))];exact aY
   .nofun;refine(.inl (_,az.of aK),ind (Q':=Q) bJ (q _ (.inr (_,f,rfl,(idx bJ).2,?_))));unfold hp;rw[if_neg (by rw[mi];decide),if_pos (((rl k).mp bJ).2,iW)]
 .refine du false (λQ aY=>?_) (λz=>nomatch z) (λ_=>?_)
  .nofun;refine(_,.inl (az.of aK),rfl,t5 _,?_);rw[tv,decide_eq_false bJ,if_neg ∅];exact aY
  .nofun;refine q (-1) (.inl (rfl,?_));unfold hp;rw[if_neg (by rw[mi];decide),if_neg (λz=>bJ ((rl k).mpr (hf,z.1)))]
structure jj(H:av)(p:Addr)(qs:List Addr)(cb:List (List Nat)):Prop where
 at_:H p\(.lst (qs.map V.ref))
 ln:↑qs=↑cb
 al:∀(i:Nat) (q:Addr) (xs:List Nat),qs[i]?\q->cb[i]?\xs->H q\(.lst (bH xs))
def jj.same{p:Addr}(h:jj H p qs cb)(s:aN H I):jj I p qs cb:=(s _ _ h.at_,h.ln,λi q xs ae ak=>s _ _ (h.al i q xs ae ak))
def jj.ext{p b:Addr}(h:jj H p qs cb)(g:jj H b vv b4)(cP:p∉qs)(cW:p∉vv):jj (upd H p (.lst (qs.map V.ref++vv.map V.ref))) p (qs++vv) (cb++b4):=by
 refine(by rw[aR,e'],by rw[cB,cB,h.ln,g.ln],λi q xs ae ak=>?_);by_cases c:i<↑qs
 .rw [lC c]at ae;rw[lC (by rw[<- h.ln];exact c)]at ak;rw[aP (λz=>cP (by rw[<- z];exact bU ae))];exact h.al i q xs ae ak
 .rw [kz ()]at ae;rw[kz (by rw[<- h.ln];omega),<- h.ln]at ak;rw[aP (λz=>cW (by rw[<- z];exact bU ae))];exact g.al _ q xs ae ak
def Nt(S:fA)(ch:List Nat)(p:Nat)(sp:Int)(cb:List (List Nat)):Prop:=∀ys,ys∈cb↔∃ext,ys=ch++ext/\iP S p sp ext
noncomputable def m9(S:fA)(p:Nat)(place:Int):Nat:=if p=S.h then 1 else if S.own p=true then sk ↑(lM S) (↑(e_ S)-(place+1).toNat)else iu ↑(lM S) (↑(e_ S)-(place+1).toNat)
structure aat(S:fA)(d:Nat)(vs:List V)(H:av)(ch:List Nat)(p:Nat)(sp place:Int):Prop where
 anZ:∃cl ol c7,vs=[⇑cl,⇑ol,⇑c7,.int place]/\H cl\(.lst (bH ch))/\H ol\(.lst (bH (e_ S)))/\H c7\(.lst (bH (lM S)))
 k:S.Ok
 bI:∃r,ch=r++[p]
 cl:↑ch+d<=40
 pm:p<S.m
 pl:vT S place sp
 cG:mZ S p sp<=d
 bC:aL H
 op:S.own p=true->sp=S.fp p
def DD(d:Nat):bO:=λvs H Q _=>∃S ch p sp place,aat S d vs H ch p sp place/\∀r qs cb I,aN H I->aL I->jj I r qs cb->H r=none->r∉qs->Nt S ch p sp cb->↑cb<=m9 S p place->Q ⇑r I
noncomputable def Xn:Nat->bO
 |0=>λ_ _ _ _=>False
 |d+1=>DD d
def Uz(k:S.Ok){p x:Nat}{sp:Int}(h:sp<S.fp x):mZ S x (S.fp x)<mZ S p sp:=by
 have:=(q' k x).2;unfold mZ;split <;> split <;> omega
def VH{p x:Nat}{sp:Int}(h:S.own p=true)(g:S.own x=false):mZ S x sp<mZ S p sp:=by
 unfold mZ;rw[if_pos h,if_neg (by rw[g];decide)];omega
theorem Pt(o:Nat):∀j,1<=j->1<=iu o j
 |0,h=>absurd h ∅
 |j+1,_=>by
  show 1<=(if j=0 then 1 else(2+o)*iu o j);split
  .exact bQ _
  .rename_i h;exact Y4 (show 0<2+o by omega) (Pt o j ())
def af6(o j:Nat):1<=sk o j:=by
 unfold sk;split
 .exact bQ _
 .rename_i h;exact Y4 (show 0<1+o by omega) (Pt o j ())
theorem QR{S:fA}(k:S.Ok){d':Nat}{H1 cR:av}{cl ol c7 bg:Addr}{ch:List Nat}{qs:List Addr}{cb:List (List Nat)}(aq:H1 cl\(.lst (bH ch)))(aD:H1 ol\(.lst (bH (e_ S))))(bV:H1 c7\(.lst (bH (lM S))))(s5:aN H1 cR)(eM:aL cR)(i6:H1 bg=none)(j7:jj cR bg qs cb)(lp:bg∉qs)(n5:↑ch+(d'+1)<=40){x:Nat}(ag:x<S.m){zo qO:Int}(pl:vT S zo qO)(cG:mZ S x qO<=d')(op:S.own x=true->qO=S.fp x)(aQ:↑cb+m9 S x zo<=sizeLine){E:fT}{R:av->Prop}
  (hk:∀e7 nM b4,aN H1 e7->aL e7->jj e7 bg (qs++nM) (cb++b4)->bg∉qs++nM->Nt S (ch++[x]) x qO b4->↑b4<=m9 S x zo->R e7) :
  ∀cX:Addr,cR cX=none->∃X,upd cR cX (.lst [V.int (x:Nat)]) cl\(.lst X)/\∃Y,upd cR cX (.lst [V.int (x:Nat)]) cX\(.lst Y)/\↑X+↑Y<=sizeLine/\∀mw:Addr,upd cR cX (.lst [V.int (x:Nat)]) mw=none ->
   Xn (d'+1) [V.ref mw,V.ref ol,V.ref c7,V.int zo] (upd (upd cR cX (.lst [V.int (x:Nat)])) mw (.lst (X++Y))) (λv f3=>∃b,v=V.ref b/\∃KX,f3 bg\(.lst KX)/\∃W,f3 b\(.lst W)/\↑KX+↑W<=sizeLine/\R (upd f3 bg (.lst (KX++W)))) E:=by
 intro cX gc;have fk:aN cR (upd cR cX (.lst [V.int (x:Nat)])):=bh gc;refine(_,fk _ _ (s5 _ _ aq),_,aR,cM (show _<=64 by rw[hK];show ↑ch+1<=64;omega) ∅,λmw alB=>?_);have hc:=fk.trans (bh (o:=.lst (bH ch++[V.int (x:Nat)])) alB);have PO:=s5.trans hc;refine(S,ch++[x],x,qO,zo,((mw,ol,c7,rfl,by rw[aR];unfold bH;rw[e'];rfl,PO _ _ aD,PO _ _ bV),k,(ch,rfl),by rw[cB];show ↑ch+1+d'<=40;omega,ag,pl,cG,(eM.upd).upd,op),λr nM b4 e7 iD oH kV ao w4 r' Bi=>?_);have kv:=j7.same (hc.trans iD);have hW:bg∉nM:=λhm=>by
  let(j,aJ):=hy hm;have fL:j<↑b4:=by rw[<- kV.ln];exact(b0.mp aJ).1
  have aM:b4[j]?\b4[j]:=a6 fL;have e:=kV.al j bg _ aJ aM;rw[kv.at_]at e;have bD:qs.map V.ref=bH b4[j]:=gb.lst.inj (d2 e);let(ext,hH,_):=(r' b4[j]).mp (gf fL);rw[hH]at bD;cases ch with
  |nil=>cases qs with
   |nil=>cases bD
   |cons kB ik=>cases(ta bD).1
  |cons br cr=>cases qs with
   |nil=>cases bD
   |cons kB ik=>cases(ta bD).1
 refine(r,rfl,_,kv.at_,_,kV.at_,?_,hk _ nM b4 (λb u e=>?_) oH.upd (kv.ext kV lp hW) (λhm=>(eI.mp hm).elim lp hW) r' Bi)
 .rw [aX,aX,kv.ln,kV.ln];omega
 .rw [aP (dm e i6)];exact iD _ _ (hc _ _ (s5 _ _ e))
theorem Wg (T:Txt w K mg t) (d:Nat) (A':cE P w K mg base dq (d+2) t.vt t.vc vP (Xn d)):cE P w K mg base dq (d+3) t.vt t.vc vP (DD d):=by
 refine T.wN.ok wi (λvs H Q E h=>?_) (λ_ _ _ s H vs Q E ao h=>?_)
 .let(S,ch,p,sp,place,((cl,ol,c7,rfl,_),_),_):=h;rfl
 let(S,ch,p,sp,place,J,q):=h;let(cl,ol,c7,rfl,aq,aD,bV):=J.anZ;have k:=J.k;have xH:=k.sg;have al9:=LS S;have abh:=Xa S;let(cr,sj):=J.bI;have hL:gp (bH ch) (-1)\(.int (p:Nat)):=vV (by
  rw[hK];refine qb ?_;rw[sj,cB,k6,Mb,kz (bQ _),NI];rfl)
 let(ik,q7):=Qh k;have SW:gp (bH (e_ S)) (-1)\(.int (S.h:Nat)):=vV (by
  rw[hK];refine qb ?_;rw[q7,cB,k6,Mb,kz (bQ _),NI];rfl)
 refine(_,(db (b' (i:=4) wi.aG (bZ c8 (U 0) (qu ri aT)))
   (db (d4 (dh e3 (U 4) (bZ c8 (U 1) (qu ri aT)) (cL _)) (a4 (b7 (e5 (ai (U 0) aC)))) en)
   (db (b' (i:=5) wi.aG (e5 aC))
   (db (fP fV rfl (aiD rfl T.k8 (ai (bN ew (U 3) aT) (ai (fx iV rfl T.iE iw (ai (U 1) aC)) aC))) (b8 (i:=6) wi.aG) (a4 (ea (fo gI rD r6 qW (U 5) (ai (b3 A' ao T.KQ T.wN.bo T.MQ (ai (bN GS (U 0) (e5 (ai (bZ c8 (U 1) (U 6)) aC))) (ai (U 1) (ai (U 2) (ai (U 6) aC))))) aC)))))
   (db (d4 (dh vZ (U 4) (U 1) (by with_unfolding_all rfl)) (a4 (fP fV rfl (e6 (U 2)) (b8 (i:=7) wi.aG) (a4 (ea (fo gI rD r6 qW (U 5) (ai (b3 A' ao T.KQ T.wN.bo T.MQ (ai (bN GS (U 0) (e5 (ai (U 7) aC))) (ai (U 1) (ai (U 2) (ai (U 3) aC))))) aC)))))) en)
   (a4 (b7 (U 5)))))))),?_)
 exists (λau I=>I=H/\au=[~~~cl,~~~ol,~~~c7,some (.int place),some (.int (p:Nat)),none,none,none]),3
 .nofun;exact(_,az.of aq,_,hL,bX _ _ (rfl,rfl))
 intro fG H1 (rfl,rfl);subst aV;simp only[dT];by_cases aW:p=S.h
 .refine du true (λQ aY=>?_) (λ_=>?_) (λz=>nomatch z)
  .nofun;refine(_,az.of aD,_,SW,rfl,?_);rw[aW,decide_eq_true rfl];exact aY
  .nofun;refine(∅,λr ao=>q r [cl] [ch] _ (bh ao) J.bC.upd (aR,rfl,λi dY xs ae ak=>?_) ao (λz=>by rw[d9.mp z,aq]at ao;cases ao) (λys=>?_) ?_)
   .match i,ae,ak with
    |0,ae,ak=>cases ae;cases ak;exact bh ao _ _ aq
    |i+1,ae,_=>simp at ae
   .rw[d9];constructor
    .rintro rfl;exact([],by simp,aW)
    .rintro⟨ext,rfl,aS⟩;cases ext with
     |nil=>simp
     |cons x r=>exact absurd aW aS.1
   .unfold m9;rw[if_pos aW];exact bQ _
 refine du false (λQ aY=>?_) (λz=>nomatch z) (λ_=>?_)
 .nofun;refine(_,az.of aD,_,SW,rfl,?_);rw[decide_eq_false (λz=>aW (by injection z with z;omega))];exact aY
 simp only[gy,dT];let(o,aS):∃o,↑(lM S)=o:=(_,rfl);let(L,eE):∃L,↑(e_ S)=L:=(_,rfl);let(b,aa):∃b:Nat,place+1=(b:Int):=((place+1).toNat,by have:=Px J.pl;omega);let(d',rfl):∃d',d=d'+1:=(d-1,by
  have ae:=J.cG;have ak:sp<S.m:=by
   rcases J.pl with⟨_,e⟩|⟨i,y,_,_,e⟩
   .rw [e];omega
   .rw [e];exact(q' k y).2
  unfold mZ at ae
  omega)
 have ari:b<=L:=by
  rcases J.pl with⟨e,_⟩|⟨i,y,e,ah,_⟩
  .omega
  .have:=(b0.mp ah).1;omega
 have gX:iu o (L-b)<=300000:=(QE o () _ ()).2;exists (λau I=>aN H1 I/\aL I/\∃bg,H1 bg=none/\I bg\(.lst [])/\au=[~~~cl,~~~ol,~~~c7,some (.int place),some (.int (p:Nat)),~~~bg,none,none]),0
 .nofun;exact(∅,λbg i6=>bX _ _ (bh i6,J.bC.upd,bg,i6,aR,rfl))
 intro cD aw (s2,cW,bg,i6,eC,rfl);subst aV;simp only[dT];exists (λau I=>aN H1 I/\aL I/\∃qs cb cF,jj I bg qs cb/\bg∉qs/\(∀ys,ys∈cb↔∃x r,ys=ch++x::r/\x<S.m/\S.own x=true/\sp<S.fp x/\iP S x (S.fp x) r)/\↑cb<=iu o (L-b)/\au=[~~~cl,~~~ol,~~~c7,some (.int place),some (.int (p:Nat)),~~~bg,cF,none]),0
 .nofun;refine(_,.inl (az.of (s2 _ _ aD)),(),by rw[aa];omega,by rw[hK];omega,by rw[hK];omega,?_);rw[hK,eE,show((L:Int)-(place+1)).toNat=L-b by omega];refine ed.range (λi σ I=>aN H1 I/\aL I/\∃qs cb cF,jj I bg qs cb/\bg∉qs/\(∀ys,ys∈cb↔∃x r s,(e_ S)[s]?\x/\b<=s/\s<b+i/\ys=ch++x::r/\iP S x (S.fp x) r)/\↑cb+iu o (L-b-i)<=iu o (L-b)/\σ=[~~~cl,~~~ol,~~~c7,some (.int place),some (.int (p:Nat)),~~~bg,cF,none]) ?_ ?_ ?_
  .exact (s2,cW,[],[],none,(eC,rfl,λi q xs h=>by simp at h),by simp,λys=>(λh=>by simp at h,λ⟨x,r,s,_,ae,ak,_⟩=>()),by simp,rfl)
  .rintro i σ cR ah bj;ac_rfl
   let(s5,eM,qs,cb,cF,j7,lp,lI,pk,rfl):=bj;let(x,ag):∃x,(e_ S)[b+i]?\x:=((e_ S)[b+i]'(),a6 _);let(lb,lB):=(rl k).mp (bU ag);have q4:sp<S.fp x:=(HM k J.pl ag).mp ();subst aV;simp only[gU,jV,jH];rw[show place+1+(i:Int)=((b+i:Nat):Int)by omega];nofun;have SG:m9 S x ((b+i:Nat):Int)<=sk o (L-b-(i+1)):=by
    unfold m9;by_cases R6:x=S.h
    .rw [if_pos R6];exact af6 _ _
    .rw [if_neg R6,if_pos lB,aS,eE,show(((b+i:Nat):Int)+1).toNat=b+i+1 by omega,show L-(b+i+1)=L-b-(i+1)by omega];exact bQ _
   have EC:=amf o (L-b-(i+1));rw[show L-b-(i+1)+1=L-b-i by omega]at EC;refine(.inl (_,az.of j7.at_),_,az.of (s5 _ _ aD),_,cv (qb ag),∅,QR k aq aD bV s5 eM i6 j7 lp J.cl lb (.inr (_,x,rfl,ag,rfl)) (by have:=Uz k (p:=p) q4;have:=J.cG;omega) (λ_=>rfl) (cM (show _<=300000 by omega) ∅) (R:=λI=>aN H1 I/\aL I/\∃qs cb,jj I bg qs cb/\¬bg∈qs/\(∀ys,ys∈cb↔∃x r s,(e_ S)[s]?\x/\b<=s/\s<b+(i+1)/\ys=ch++x::r/\iP S x (S.fp x) r)/\↑cb+iu o (L-b-(i+1))<=iu o (L-b)/\∃x,some (V.int ((b+i:Nat):Int))=x) λe7 nM b4 hc hW kv Gk r0 uI=>(hc,hW,_,_,kv,Gk,λys=>?_,by rw[cB];omega,_,rfl));rw[eI,lI,r0];constructor
   .rintro(⟨eP,r,s,ae,ak,aZ,bY,dS⟩|⟨ext,bY,dS⟩)
    .exact (eP,r,s,ae,ak,(),bY,dS)
    .exact (x,ext,b+i,ag,(),(),by rw[bY,jI];rfl,dS)
   .rintro⟨eP,r,s,ae,ak,aZ,bY,dS⟩;by_cases c:s<b+i
    .exact .inl (eP,r,s,ae,ak,c,bY,dS)
    .have aU:s=b+i:=()
     rw[aU,ag]at ae;cases ae;exact .inr (r,by rw[bY,jI];rfl,dS)
  .rintro σ cR bj;ac_rfl
   let(s5,eM,qs,cb,cF,j7,lp,lI,pk,rfl):=bj;subst aV;refine bX _ _ (s5,eM,qs,cb,cF,j7,lp,λys=>?_,(),rfl);rw[lI];constructor
   .intro (x,r,s,ag,ae,ak,rfl,i9);let(lb,lB):=(rl k).mp (bU ag);exact(x,r,rfl,lb,lB,(HM k J.pl ag).mp (),i9)
   .intro (x,r,rfl,lb,lB,ae,i9);let(s,ay):=hy ((rl k).mpr (lb,lB));have ak:=(HM k J.pl ay).mpr ae;have aZ:=(b0.mp ay).1;exact(x,r,s,ay,(),(),rfl,i9)
 intro gi ba (s3,dw,qs,cb,cF,qJ,Pl,sz,ft,rfl);subst aV;simp only[dT];exists (λau I=>aN H1 I/\aL I/\∃qs cb cF c5,jj I bg qs cb/\bg∉qs/\Nt S ch p sp cb/\↑cb<=m9 S p place/\au=[~~~cl,~~~ol,~~~c7,some (.int place),some (.int (p:Nat)),~~~bg,cF,c5]),0
 .have gt:∀(ys:List Nat),(∃ext,ys=ch++ext/\iP S p sp ext)↔(ys∈cb\/∃x r,ys=ch++x::r/\x<S.m/\S.own p=true/\S.own x=false/\iP S x sp r):=λys=>by
   rw[sz];constructor
   .rintro⟨ext,rfl,i9⟩;cases ext with
    |nil=>exact absurd i9 aW
    |cons x r=>
     obtain⟨_,ag,⟨a1,a2,dH⟩|⟨a1,a2,dH⟩⟩:=i9
     .exact .inl (x,r,rfl,ag,a1,a2,dH)
     .exact .inr (x,r,rfl,ag,a1,a2,dH)
   .rintro(⟨x,r,rfl,ag,a1,a2,dH⟩|⟨x,r,rfl,ag,a1,a2,dH⟩)
    .exact (x::r,rfl,aW,ag,.inl (a1,a2,dH))
    .exact (x::r,rfl,aW,ag,.inr (a1,a2,dH))
  cases rv:S.own p with
  | false=>
   refine du false (λQ aY=>?_) (λz=>nomatch z) (λ_=>?_)
   .nofun;refine(_,.inl (az.of (s3 _ _ aD)),rfl,t5 _,?_);rw[tv,decide_eq_false (λz=>by have:=((rl k).mp z).2;rw[rv]at this;cases this)];exact aY
   .simp only[gy];refine bX _ _ (s3,dw,qs,cb,cF,_,qJ,Pl,λys=>?_,?_,rfl)
    .rw[gt];constructor
     .exact .inl
     .rintro(h|⟨x,r,_,_,h,_⟩)
      .exact h
      .rw [rv]at h;cases h
    .unfold m9;rw[if_neg aW,rv,if_neg ∅,aS,eE,show(place+1).toNat=b by omega];exact ft
  | true=>
   refine du true (λQ aY=>?_) (λ_=>?_) (λz=>nomatch z)
   .nofun;refine(_,.inl (az.of (s3 _ _ aD)),rfl,t5 _,?_);rw[tv,decide_eq_true ((rl k).mpr (J.pm,rv))];exact aY
   .nofun;refine((_,az.of (s3 _ _ bV)),?_);refine ed.list (xs:=bH (lM S)) (λi σ I=>aN H1 I/\aL I/\∃qs b4 cF c5,jj I bg qs b4/\bg∉qs/\(∀ys,ys∈b4↔(ys∈cb\/∃x r s,(lM S)[s]?\x/\s<i/\ys=ch++x::r/\iP S x sp r))/\↑b4<=(1+i)*iu o (L-b)/\σ=[~~~cl,~~~ol,~~~c7,some (.int place),some (.int (p:Nat)),~~~bg,cF,c5]) ?_ ?_ ?_ ?_
    .exact (s3,dw,qs,cb,cF,none,qJ,Pl,λys=>(.inl,λh=>h.elim id (λ⟨x,r,s,_,h,_⟩=>())),by rw[Nat.add_zero,ahq];exact ft,rfl)
    .intro i σ cR ah (s5,_);exact az.of (s5 _ _ bV)
    .rintro i v σ cR aE bj;ac_rfl
     let(s5,eM,qq,b4,r2,rk,j7,lp,lI,pk,rfl):=bj;subst aV;unfold bH at aE;let(x,ag,rfl):=b_ aE;have iM:i<o:=by rw[<- aS];exact(b0.mp ag).1
     let(lb,lB):=KF.mp (bU ag);simp only[gU,jV,jH];nofun;have SG:m9 S x place<=iu o (L-b):=by
      unfold m9;rw[if_neg (λz=>by rw[z,S4]at lB;cases lB),lB,if_neg ∅,aS,eE,show(place+1).toNat=b by omega];exact bQ _
     have hmul:(1+(i+1))*iu o (L-b)=(1+i)*iu o (L-b)+iu o (L-b):=z6 (1+i) _;have hle:(1+(i+1))*iu o (L-b)<=8*300000:=Nat.mul_le_mul () gX;refine(.inl (_,az.of j7.at_),∅,QR k aq aD bV s5 eM i6 j7 lp J.cl lb J.pl (by have:=VH (sp:=sp) rv lB;have:=J.cG;omega) (λz=>by rw[lB]at z;cases z) (cM (show _<=8*300000 by omega) ∅) (R:=λI=>aN H1 I/\aL I/\∃qs b4,jj I bg qs b4/\¬bg∈qs/\(∀ys,ys∈b4↔(ys∈cb\/∃x r s,(lM S)[s]?\x/\s<i+1/\ys=ch++x::r/\iP S x sp r))/\↑b4<=(1+(i+1))*iu o (L-b)/\∃c5,some (V.int (x:Int))=c5) λe7 nM pJ hc hW kv Gk r0 uI=>(hc,hW,_,_,kv,Gk,λys=>?_,by rw[cB];omega,_,rfl));rw[eI,lI,r0];constructor
     .rintro((h|⟨eP,r,s,ae,aZ,bY,dS⟩)|⟨ext,bY,dS⟩)
      .exact .inl h
      .exact .inr (eP,r,s,ae,(),bY,dS)
      .exact .inr (x,ext,i,ag,(),by rw[bY,jI];rfl,dS)
     .rintro(h|⟨eP,r,s,ae,aZ,bY,dS⟩)
      .exact .inl (.inl h)
      .by_cases c:s<i
       .exact .inl (.inr (eP,r,s,ae,c,bY,dS))
       .have aU:s=i:=()
        rw[aU,ag]at ae;cases ae;exact .inr (r,by rw[bY,jI];rfl,dS)
    .rintro σ cR bj;ac_rfl
     let(s5,eM,qq,b4,r2,rk,j7,lp,lI,pk,rfl):=bj;subst aV;refine bX _ _ (s5,eM,qq,b4,r2,rk,j7,lp,λys=>?_,?_,rfl)
     .rw[lI,gt];constructor
      .rintro(h|⟨x,r,s,ay,_,rfl,i9⟩)
       .exact .inl h
       .let(lb,lB):=KF.mp (bU ay);exact .inr (x,r,rfl,lb,rv,lB,i9)
      .rintro(h|⟨x,r,rfl,lb,_,lB,i9⟩)
       .exact .inl h
       .let(s,ay):=hy (KF.mpr (lb,lB));exact .inr (x,r,s,ay,by rw[hK];exact(b0.mp ay).1,rfl,i9)
     .unfold m9 sk;rw[if_neg aW,if_pos rv,aS,eE,show(place+1).toNat=b by omega];rw[hK,aS]at pk;split
      .rename_i h0;rw[h0,show iu o 0=0 from rfl,Nat.mul_zero]at pk;omega
      .exact pk
 intro kE cn (s4,di,ja,amM,r2,rk,hB,vi,jL,gP,rfl);subst aV;nofun;exact q bg ja amM _ s4 di hB i6 vi jL gP
theorem HL(T:Txt w K mg t):∀d,cE P w K mg base dq (d+3) t.vt t.vc vP (DD d)
 |0=>Wg T 0 (T.wN.ok wi (λvs H Q E h=>h.elim) (λfZ A outer s H vs Q E ao h=>h.elim))
 |d+1=>Wg T (d+1) (HL T d)
def zv(S:fA)(cb:List (List Nat)):Prop:=∀ys,ys∈cb↔∃f s ext,ys=f::s::ext/\f<S.m/\s<S.m/\f≠s/\iP S s (hp S f s) ext
section
variable(P:Program)(w:World)
def VD(t:bS):bO:=λvs H Q _=>∃aH c n ds rows,∃h:Nat,vs=[⇑aH,.int h]/\fJ P w t H aH c n ds rows/\ii ds rows/\h<↑rows/\aL H/\∀r qs cb I,aN H I->aL I->jj I r qs cb->zv (dR ds rows h) cb->Q ⇑r I
end
def age(k:S.Ok)(p:Nat){place sp:Int}(h:vT S place sp):m9 S p place<=300000:=by
 have xH:=k.sg;have al9:=LS S;have abh:=Xa S;have:=Px h;let(a,b):=QE ↑(lM S) () (↑(e_ S)-(place+1).toNat) ();unfold m9;split
 .decide
 .split
  .exact a
  .exact b
def EQ(T:Txt w K mg t){m:Nat}:cE P w K mg base dq (m+3) t.vt t.vc vP (λvs H Q E=>∃d,d<=m/\DD d vs H Q E):=
 (λvs H Q E ⟨d,hd,h⟩=>(HL (P:=P) (base:=base) T d).len vs H Q E h,λA outer s H args us vs Q E ao he aa aE ⟨d,hd,h⟩=>((HL T d).mono (show d+3<=m+3 by omega)).run A outer s H args us vs Q E ao he aa aE h)
theorem acF:cq P base T 19 t.BJ t.BD kH (VD P w t):=by
 refine cA (afM T) λaaQ=>cA (adk T) λai5=>cA (acP T) λanz=>cA (EQ T (m:=15)) λA'=>?_;exists T.MG.ok vF,9
 let(aH,c,n,ds,rows,h,rfl,cU,R,bT,bC,q):=h;let(iS,le,mo,cG,so,aS,ch,ms,kvs,aq,C,bV,eC,gn,eB,hh,km,jF):=id cU;have kI:=R.kI;have k:=R.ok bT;let(iH,aqV):∃iH:Nat,iH=300000:=(_,rfl);refine(_,(db (b' (i:=2) vF.aG (b3 aaQ ao T.ah6 T.Ir.bo T.ah0 (ai (U 0) (ai (U 1) aC))))
   (db (b' (i:=3) vF.aG (b3 ai5 ao T.afr T.HY.bo T.adT (ai (U 0) (ai (U 1) aC))))
   (db (b' (i:=4) vF.aG (e5 aC))
   (db (fP fV rfl (l0 rfl T.k8 (ai (bB (U 0) rfl) aC)) (b8 (i:=5) vF.aG) (a4 (fP fV rfl (l0 rfl T.k8 (ai (bB (U 0) rfl) aC)) (b8 (i:=6) vF.aG) (a4 (d4 (dh og (U 5) (U 6) (cL _)) (a4 (ea (fo gI rD r6 qW (U 4) (ai (b3 A' ao T.KQ T.wN.bo T.MQ (ai (e5 (ai (U 5) (ai (U 6) aC))) (ai (U 2) (ai (U 3) (ai (b3 anz ao T.abF T.K4.bo T.akf (ai (U 2) (ai (U 5) (ai (U 6) aC)))) aC))))) aC)))) en)))))
   (a4 (b7 (U 4))))))),?_)
 exists (λau I=>aN H I/\aL I/\∃ol,I ol\(.lst (bH (e_ (dR ds rows h))))/\au=[~~~aH,some (.int h),~~~ol,none,none,none,none]),3
 .nofun;exact(aH,c,n,ds,rows,h,rfl,cU,R,bT,bC,λp I aj d0 e=>bX _ _ (aj,d0,p,e,rfl))
 intro fG H1 (s1,cP,ol,XY,rfl);subst aV;exists (λau I=>aN H1 I/\aL I/\∃c7,I c7\(.lst (bH (lM (dR ds rows h))))/\au=[~~~aH,some (.int h),~~~ol,~~~c7,none,none,none]),3
 .nofun;exact(aH,c,n,ds,rows,h,rfl,cU.same s1,R,bT,cP,λp I aj d0 e=>bX _ _ (aj,d0,p,e,rfl))
 intro cD aw (s2,cW,c7,Cw,rfl);subst aV;exists (λau I=>aN aw I/\aL I/\∃bg,aw bg=none/\I bg\(.lst [])/\au=[~~~aH,some (.int h),~~~ol,~~~c7,~~~bg,none,none]),3
 .nofun;exact(∅,λbg i6=>bX _ _ (bh i6,cW.upd,bg,i6,aR,rfl))
 intro gi ba (s3,dw,bg,i6,ky,rfl);have yn:=(s1.trans s2) _ _ aq;subst aV;simp only[dT];generalize dV:dR ds rows h=S at *;have hm:S.m=↑rows:=by rw[<- dV];rfl
 exists (λau I=>aN aw I/\aL I/\∃qs cb el cF,jj I bg qs cb/\bg∉qs/\(∀ys,ys∈cb↔∃f s ext,ys=f::s::ext/\f<S.m/\s<S.m/\f≠s/\iP S s (hp S f s) ext)/\au=[~~~aH,some (.int h),~~~ol,~~~c7,~~~bg,el,cF]),0
 .nofun;refine⟨_,qt T (s3 _ _ yn),_,rfl,(),(),?_⟩;rw[mN];refine ed.range (fun i σ I=>aN aw I/\aL I/\∃qs cb el cF,jj I bg qs cb/\bg∉qs/\↑cb<=i*(6*iH)/\(∀ys,ys∈cb↔∃f s ext,ys=f::s::ext/\f<i/\s<S.m/\f≠s/\iP S s (hp S f s) ext)/\σ=[~~~aH,some (.int h),~~~ol,~~~c7,~~~bg,el,cF]) ?_ ?_ ?_
  .exact (s3,dw,[],[],_,_,(ky,rfl,λi q xs h=>by simp at h),by simp,eW _,λys=>(λh=>by simp at h,λ⟨f,s,ext,_,h,_⟩=>()),rfl)
  .rintro i σ cn ah bj;ac_rfl
   let(s4,di,qs,cb,el,cF,hB,vi,gP,sx,rfl):=bj;subst aV;simp only[gU,jV,jH];rw[rH];nofun;refine(_,qt T (s4 _ _ yn),_,rfl,(),(),?_);rw[mN];refine ed.range (λj σ I=>aN aw I/\aL I/\∃qs b4 cF,jj I bg qs b4/\bg∉qs/\↑b4<=i*(6*iH)+j*iH/\(∀ys,ys∈b4↔(ys∈cb\/∃s ext,ys=i::s::ext/\s<j/\i≠s/\iP S s (hp S i s) ext))/\σ=[~~~aH,some (.int h),~~~ol,~~~c7,~~~bg,some (.int i),cF]) ?_ ?_ ?_
   .exact (s4,di,qs,cb,_,hB,vi,cM gP (Dn _ _),λys=>(.inl,λh=>h.elim id (λ⟨s,ext,_,h,_⟩=>())),rfl)
   .rintro j σ cR aJ bj;ac_rfl
    let(s5,eM,qq,b4,r2,j7,lp,pk,lI,rfl):=bj;subst aV;simp only[gU,jV,jH];rw[rH];by_cases J3:i=j
    .refine du false (λQ aY=>?_) (λz=>nomatch z) (λ_=>?_)
     .nofun;rw[J3,decide_eq_true rfl];exact aY
     .simp only[gy];refine(s5,eM,qq,b4,_,j7,lp,by have:(j+1)*iH=j*iH+iH:=z6 j iH;omega,λys=>?_,rfl);rw[lI];constructor
      .rintro(h|⟨s,ext,ae,ak,aZ,bY⟩)
       .exact .inl h
       .exact .inr (s,ext,ae,(),aZ,bY)
      .rintro(h|⟨s,ext,ae,ak,aZ,bY⟩)
       .exact .inl h
       .exact .inr (s,ext,ae,(),aZ,bY)
    .refine du true (λQ aY=>?_) (λ_=>?_) (λz=>nomatch z)
     .nofun;rw[decide_eq_false (λz=>J3 ())];exact aY
     .nofun;refine(.inl (_,az.of j7.at_),∅,λp ar=>?_);have fk:aN cR (upd cR p (.lst [V.int (i:Nat),V.int (j:Nat)])):=bh ar;have AY:=s5.trans fk;refine(ol,S,i,j,rfl,AY _ _ (s2 _ _ XY),k,(),(),λplace pl=>(15,bQ _,S,[i,j],j,hp S i j,place,((p,ol,c7,rfl,aR,AY _ _ (s2 _ _ XY),AY _ _ Cw),k,([i],rfl),((∅:(2:Nat)+15<=40)),(),pl,?_,eM.upd,λz=>by unfold hp;rw[if_pos z]),λr nM pJ e7 iD oH kV ap1 w4 r' Bi=>?_))
      .have ae:-1<=hp S i j:=by
        rcases pl with⟨_,e⟩|⟨_,y,_,_,e⟩
        .omega
        .rw [e];have:=(q' k y).1;omega
       have:=k.sg;unfold mZ;split <;> omega
      .have kv:=j7.same (fk.trans iD);have hW:bg∉nM:=λnu=>by
        let(a,aO):=hy nu;have iI:a<↑pJ:=by rw[<- kV.ln];exact(b0.mp aO).1
        have e:=kV.al a bg _ aO (a6 iI);rw[kv.at_]at e;have bD:qq.map V.ref=bH pJ[a]:=gb.lst.inj (d2 e);let(ext,hH,_):=(r' pJ[a]).mp (gf iI);rw[hH]at bD;cases qq with
        |nil=>cases bD
        |cons kB ik=>cases(ta bD).1
       have SG:=age k j pl;have aqk:(j+1)*iH=j*iH+iH:=z6 j iH;have Jl:i*(6*iH)<=5*(6*iH):=AV _ ();have yl:j*iH<=5*iH:=AV _ ();refine(r,rfl,_,kv.at_,_,kV.at_,cM (show _<=36*300000 by rw[aX,aX,kv.ln,kV.ln];omega) ∅,λb u e=>?_,oH.upd,_,_,kv.ext kV lp hW,(λnu=>(eI.mp nu).elim lp hW),by rw[cB];omega,λys=>?_,_,rfl)
       .rw [aP (dm e i6)];exact iD _ _ (AY _ _ e)
       .rw [eI,lI,r'];constructor
        .rintro((h|⟨s,ext,ae,ak,aZ,bY⟩)|⟨ext,ae,bY⟩)
         .exact .inl h
         .exact .inr (s,ext,ae,(),aZ,bY)
         .exact .inr (j,ext,ae,(),J3,bY)
        .rintro(h|⟨s,ext,ae,ak,aZ,bY⟩)
         .exact .inl (.inl h)
         .by_cases cs:s<j
          .exact .inl (.inr (s,ext,ae,cs,aZ,bY))
          .have aU:s=j:=()
           subst aU;exact .inr (ext,ae,bY)
   .rintro σ cR bj;ac_rfl
    let(s5,eM,qq,b4,r2,j7,lp,pk,lI,rfl):=bj;subst aV;refine(s5,eM,(qq,b4,j7,lp,by have:(i+1)*(6*iH)=i*(6*iH)+6*iH:=z6 i (6*iH);have:=AV iH kI;omega,λys=>?_,_,_,rfl));rw[lI,sx];constructor
    .rintro(⟨f,s,ext,ae,ak,aZ,bY⟩|⟨s,ext,ae,ak,aZ,bY⟩)
     .exact (f,s,ext,ae,(),aZ,bY)
     .exact (i,s,ext,ae,(),(),aZ,bY)
    .rintro⟨f,s,ext,ae,ak,aZ,bY,dS⟩;by_cases aie:f<i
     .exact .inl (f,s,ext,ae,aie,aZ,bY,dS)
     .have ky:f=i:=()
      subst ky;exact .inr (s,ext,ae,(),bY,dS)
  .rintro σ cn bj;ac_rfl
   let(s4,di,qs,cb,el,cF,hB,vi,gP,sx,rfl):=bj;subst aV;refine bX _ _ (s4,di,qs,cb,el,cF,hB,vi,λys=>?_,rfl);rw[sx,hm]
 intro kE cn (s4,di,qs,cb,el,cF,hB,vi,sx,rfl);subst aV;nofun;exact q bg qs cb _ ((s1.trans s2).trans s4) di hB sx
unseal L2.h8 L2.bA L2.hY L2.jS L2.i8 L2.gv
section
open PySem.Spec PyProof.Rows
theorem RD(aB:X.calm=true):l9 X (.builtin "sum") (λxs H Q=>∃l bG,xs=[⇑l]/\az X.K H l (o3 V.int bG)/\(∀k∈bG,0<=k/\k<=1000000000)/\↑bG<=1000/\Q (.int bG.sum) H):=by
 intro ab s σ H xs us Q J r h;let(l,bG,rfl,aI,ax,aK,q):=h;let(u,rfl,fm):=mc r;cases fm;let(a',cI,pl,aQ):=J.list aI;let(xs,aq,aD):=Yn cI;have iM:a'.toArray=intItems xs.toArray:=by rw[aq];unfold intItems;simp
 have rB:s.heap.IsList l (intItems xs.toArray):=by rw[<- iM];exact pl.isList
 have k':↑xs=↑bG:=by rw[<- aD,aX]
 have a8:∀i,i<↑bG->bG[i]?\(numAt xs.toArray i):=λi ah=>by
  rw[numAt_eq,kd];show bG[i]?\(((xs.map (·.1))[i]?).getD 0);rw[aD,a6 ah];rfl
 have vY:∀n,n<=↑bG->preSum (numAt xs.toArray) n=(bG.take n).sum/\0<=(bG.take n).sum/\(bG.take n).sum<=1000000000*(n:Int):=λn=>by
  induction n with
  |zero=>intro _;exact(by simp[preSum],by simp,by simp)
  | succ n cZ=>
   intro Yu;let(i1,i2,ap6):=cZ ();have e:=a8 n ();have aE:=ax _ (bU e);have aU:(bG.take (n+1)).sum=(bG.take n).sum+numAt xs.toArray n:=by
    rw[oc,e,List.sum_append];simp
   refine(?_,(),());show preSum (numAt xs.toArray) n+numAt xs.toArray n=_;rw[i1,aU]
 have hsz:xs.toArray.size=↑bG:=by rw[fF,k']
 refine sum_intList (J.ok.hd aB) rB (λj aJ=>?_) λh' tk t' k=>(.int bG.sum,H,J.kept k,(t',?_),q)
 .rw [hsz]at aJ;have e:=a8 j aJ;have aE:=ax _ (bU e);let(da,cX,mw):=vY (j+1) ();unfold InLong;rw[da];omega
 .rw [hsz,(vY _ (bQ _)).1,i5]
end
seal L2.h8 L2.bA L2.hY L2.jS L2.i8 L2.gv
def aaB{K:bk}(Pv:Nat->List V->av->Prop)(n:Nat)(a8:n=min ↑xs ↑ys)(aQ:n<=sizeLine)(h0:Pv 0 [] H)(aK:∀i zs H,i<=n->Pv i zs H->(az K H a xs/\az K H b ys)/\↑zs<=i)
  (ay:∀i x y zs H p,xs[i]?\x->ys[i]?\y->Pv i zs H->H p=none->qm Pv g c9 bW dA i ⇑p zs (upd H p (.tup [x,y]))) (hd:∀zs H,Pv n zs H->∀p,H p=none->Q ⇑p (upd H p (.lst zs))):cY (Dq K a b) g c9 bW dA Q H:=by
 refine cY.of (n:=n) Pv aQ h0 (λi zs H ah p=>?_) (λzs H p=>?_) (λi zs H ah p=>(aK i zs H (nv ah) p).2) (λi zs H v I ah p y=>?_) hd
 .let((gA,eu),_):=aK i zs H (nv ah) p;exact(xs,ys,xs[i],ys[i],gA,eu,by rw[a6 ()],by rw[a6 ()])
 .let((gA,eu),_):=aK n zs H (bQ _) p;exact(xs,ys,gA,eu,())
 .let(q,x,y,aI,rfl,ag,aM,rfl):=y;let((gA,eu),_):=aK i zs H (nv ah) p;exact ay i x y zs H q (ag xs gA) (aM ys eu) p aI
theorem Jd(xs:List V):jB xs (some 1) none=xs.drop 1:=by
 unfold jB;rw[show eZ.dd ↑xs ↑xs none=↑xs from rfl,show eZ.dd ↑xs 0 (some 1)=min 1 ↑xs from eZ.EM _ _ 1];cases xs with
 |nil=>rfl
 |cons x r=>rw[Cr (by rw[gW];omega)];simp
def ai1(xs:List V)(h:2<=↑xs):jB xs (some 1) (some (-1))=(xs.drop 1).take (↑xs-2):=by
 unfold jB;have e:eZ.dd ↑xs ↑xs (some (-1))=↑xs-1:=by
  show(if(-1:Int)<0 then((-1:Int)+(↑xs:Int)).toNat else min (-1:Int).toNat ↑xs)=_;rw[if_pos ∅];omega
 rw[e,show eZ.dd ↑xs 0 (some 1)=min 1 ↑xs from eZ.EM _ _ 1,Cr (),show ↑xs-1-1=↑xs-2 by omega]
structure nh(n:Int)(ds:List bf)(rows:List ST)(cg:Nat->Nat->Int):Prop where
 is:∀(i j:Nat) (r s:ST),rows[i]?\r->rows[j]?\s->i≠j->pj (iR n ds r.mem s.mem) (cg i j)
 lo:∀i j,i<↑rows->j<↑rows->i≠j->0<=cg i j/\cg i j<=1000
def Le(h:pj l v)(h':pj l yG):v=yG:=by
 have:=h.2 _ h'.1;have:=h'.2 _ h.1;omega
noncomputable def cJ(ds:List bf)(rows:List ST)(h i:Nat):Int:=match rows[i]? with
 |some r=>if bL ds rows h=dc then r.lo else r.ah
 |none=>0
noncomputable def n2(cg:Nat->Nat->Int):List Nat->List Int
 |a::b::r=>cg a b::n2 cg (b::r)
 |_=>[]
noncomputable def qX(ch:List Nat):List Nat:=(ch.drop 1).take (↑ch-2)
noncomputable def mf(cg:Nat->Nat->Int)(st:Nat->Int)(ch:List Nat):Int:=(n2 cg ch).sum+((qX ch).map st).sum
structure yC(m:Nat)(ch:List Nat):Prop where
 de:2<=↑ch
 L4:↑ch<=40
 lt:∀x∈ch,x<m
 ne:∀(i:Nat) (a b:Nat),ch[i]?\a->ch[i+1]?\b->a≠b
theorem GO(cg:Nat->Nat->Int):∀{ch:List Nat} {i a b:Nat},ch[i]?\a->ch[i+1]?\b->(n2 cg ch)[i]?\(cg a b)
 |x::y::r,0,a,b,ae,ak=>by cases ae;cases ak;rfl
 |x::y::r,i+1,a,b,ae,ak=>GO cg (ch:=y::r) (i:=i) ae ak
 |[x],0,a,b,ae,ak=>by simp at ak
 |[x],i+1,a,b,ae,_=>by simp at ae
 |[],i,a,b,ae,_=>by simp at ae
theorem AN(cg:Nat->Nat->Int):∀ch:List Nat,↑(n2 cg ch)=↑ch-1
 |[]=>rfl
 |[x]=>rfl
 |x::y::r=>by show ↑(n2 cg (y::r))+1=_;rw[AN cg (y::r)];simp
section
variable(P:Program)(w:World)
def YQ(t:bS):bO:=λvs H Q _=>∃aH c n ds rows,∃h:Nat,vs=[⇑aH,.int h]/\fJ P w t H aH c n ds rows/\h<↑rows/\∀b,H b\(.lst ((fb ↑rows).map λi=>V.int (cJ ds rows h i)))->Q ⇑b H
def GI(t:bS):bO:=λvs H Q _=>∃aH c n ds rows cg cl ch,∃h:Nat,vs=[⇑aH,.int h,⇑cl]/\fJ P w t H aH c n ds rows/\ii ds rows/\nh n ds rows cg/\h<↑rows/\H cl\(.lst (bH ch))/\yC ↑rows ch/\aL H/\Q (.int (mf cg (cJ ds rows h) ch)) H
def ak'(t:bS):bO:=λvs H Q _=>∃aH c n ds rows cg cl ch,∃h:Nat,vs=[⇑aH,.int h,⇑cl]/\fJ P w t H aH c n ds rows/\ii ds rows/\nh n ds rows cg/\h<↑rows/\H cl\(.lst (bH ch))/\yC ↑rows ch/\aL H/\∀I,aN H I->Q (.int (mf cg (cJ ds rows h) ch)) I
end
def YN{α:Type}(rows:List ST)(f:ST->V)(g:Nat->V)(h:∀i r,rows[i]?\r->f r=g i):rows.map f=(fb ↑rows).map g:=by
 refine List.ext_getElem (by simp) λi ae ak=>?_
 rw[aX]at ae;rw[zC,zC,List.getElem_range];exact h i _ (a6 ae)
def Sk:cq P base T 1 t.CO t.C2 kH (YQ P w t):=by
 exists T.AJ.ok anG,9
 let(aH,c,n,ds,rows,h,rfl,cU,bT,q):=h;let(iS,le,mo,cG,so,aS,ch,ms,kvs,aq,C,bV,eC,gn,eB,hh,km,jF):=id cU;refine(_,(a4 (b7 (tP (dh e3 (bZ c8 (bB (U 0) rfl) (U 1)) dF (cL _)) (bB (U 0) rfl) (bB (U 0) rfl)))),?_);nofun;refine(_,oq T aq,_,rfl,_,az.of eB,_,cv (oe (rL bT)),rfl,?_);by_cases br:bL ds rows h=dc
 .rw [if_pos (by rw[br];exact decide_eq_true rfl)];refine(_,GU T aq,q le ?_);rw[bV,YN (α:=Nat) rows (λr=>V.int r.lo) (λi=>V.int (cJ ds rows h i)) (λi r dO=>by unfold cJ;rw[dO];simp only[];rw[if_pos br])]
 .rw [if_neg (by rw[decide_eq_false (λz=>br (by injection z))];exact fX)];refine(_,P' T aq,q mo ?_);rw[eC,YN (α:=Nat) rows (λr=>V.int r.ah) (λi=>V.int (cJ ds rows h i)) (λi r dO=>by unfold cJ;rw[dO];simp only[];rw[if_neg br])]
def Q1:cq P base T 2 t.zQ t.yb Ag (GI P w t):=by
 refine cE.forget (sp:=ak' P w t) ?_ λvs H Q E h=>?_
 .have Nv:cE P w K mg base dq 1 t.CO t.C2 kH (YQ P w t):=Sk T;have qK:cE P w K mg base dq 1 t.Fv t.Bs zP (Si P w t):=zb T;exists T.EG.ok GV,9
  let(aH,c,n,ds,rows,cg,cl,ch,h,rfl,cU,R,eb,bT,ef,co,bC,q):=h;refine(_,(db (o1 (i:=3) GV.aG rfl (mh rfl) (b3 Nv ao T.Tm T.AJ.bo T.QM (ai (U 0) (ai (U 1) aC))))
   (db (uo (i:=4) GV.aG rfl (n0 rfl) rfl (IZ rfl T.NN (ai (U 2) (ai (nL ub (U 2) (nd aT) oy) aC))) (f_ (sc:=bx (top 49)) rfl ∅) (N:=IY) (sel:=[none,none,some 0]) (f7 (M:=KH) ∅) (fa.of (λ_ _ _ _=>(kC (K:=K) (n:=2) rfl rfl (ac (b8 (i:=0) (ec (N:=IY) ∅ rfl)) (ac (b8 (i:=1) (ec (N:=IY) ∅ rfl)) kx)))) (λ_ _ _ _=>(_,hT,by walk_at "B")) (λ_ _ _ _=>(_,(b3 qK ao T.xm T.uF.bo T.zk (ai (U 2) (ai (U 0) (ai (U 1) aC)))),by walk_at "B"))) rfl)
   (a4 (b7 (bN ew (fx (RD rfl) rfl T.Wa VI (ai (U 4) aC)) (fx (RD rfl) rfl T.Wa VI (ai (hR rfl (e6 (nL ub (U 2) (nd aT) (nd (qu ri aT)))) (f_ (sc:=bx (top 49)) rfl ∅) (N:=["number","stays"]) (sel:=[none,some 3]) (f7 (M:=KH) ∅) (fa.of (λ_ _ _ _=>(b8 (i:=0) (ec (N:=["number","stays"]) ∅ rfl))) (λ_ _ _ _=>(_,hT,by walk_at "B")) (λ_ _ _ _=>(_,(bZ c8 (U 1) (U 0)),by walk_at "B")))) aC))))))),?_)
  exists (λau I=>I=H/\∃b,H b\(.lst ((fb ↑rows).map λi=>V.int (cJ ds rows h i)))/\au=[~~~aH,some (.int h),~~~cl,~~~b,none]),3
  .nofun;exact(aH,c,n,ds,rows,h,rfl,cU,bT,λb e=>bX _ _ (rfl,b,e,rfl))
  intro fG H1 (rfl,b,fe,rfl);subst aV;exists (λau I=>aN H1 I/\aL I/\∃zO,I zO\(.lst ((n2 cg ch).map V.int))/\au=[~~~aH,some (.int h),~~~cl,~~~b,~~~zO]),3
  .have sN:=co.de;have Vn:=co.L4;nofun;refine(_,az.of ef,λp ar=>((_,az.of (bh ar _ _ ef)),(_,az.of aR),?_));have nS:jB (bH ch) (some 1) none=bH (ch.drop 1):=by rw[Jd];unfold bH;rw[z4]
   rw[nS];have s1:aN H1 (upd H1 p (.lst (bH (ch.drop 1)))):=bh ar;have cu:upd H1 p (.lst (bH (ch.drop 1))) p\(.lst (bH (ch.drop 1))):=aR;have jk:aL (upd H1 p (.lst (bH (ch.drop 1)))):=bC.upd;generalize upd H1 p (.lst (bH (ch.drop 1)))=aw at s1 cu jk⊢;refine aaB (xs:=bH ch) (ys:=bH (ch.drop 1)) (λi zs I=>aN aw I/\aL I/\zs=((n2 cg ch).take i).map V.int) (↑ch-1) (by rw[hK,hK,lZ];omega) (cM (show _<=40 by omega) ∅) (aN.refl _,jk,rfl) (λi zs I ah ⟨bw,_,e⟩=>((az.of (bw _ _ (s1 _ _ ef)),az.of (bw _ _ cu)),by rw[e,aX,hC];omega)) ?_ ?_
   .intro i x y zs I r ag aM (bw,d0,rfl) dO N bl;unfold bH at ag aM;let(a,aO,rfl):=b_ ag;let(gd,aa,rfl):=b_ aM;rw[x4,anp]at aa;have TA:aN I (upd I r (.tup [.int (a:Nat),.int (gd:Nat)])):=bh dO;have iI:=co.lt a (bU aO);have SK:=co.lt gd (bU aa);refine ui ?_;nofun;refine(Sub.Qo,aH,c,n,ds,rows,a,gd,_,_,rfl,cU.same (s1.trans (bw.trans TA)),a6 iI,a6 SK,co.ne i a gd aO aa,d0.upd,λv aE=>bl _ _ (bw.trans TA,d0.upd,?_));have ev:=Le aE (eb.is a gd _ _ (a6 iI) (a6 SK) (co.ne i a gd aO aa));rw[oc,GO cg aO aa,e',ev];rfl
   .intro zs I (bw,d0,rfl) zO Ez;rw[y0 (by rw[AN];exact bQ _)];exact bX _ _ (s1.trans (bw.trans (bh Ez)),d0.upd,zO,aR,rfl)
  intro cD aw (s2,cW,zO,A_,rfl);have sN:=co.de;have Vn:=co.L4;have g_:∀x∈qX ch,x<↑rows:=λx ag=>co.lt x (PS (vI ag))
  have e9:∀x,x<↑rows->0<=cJ ds rows h x/\cJ ds rows h x<=1000:=λx ag=>by
   have:=R.lo _ (gf ag);unfold cJ;rw[a6 ag];simp only[];split <;> omega
  have zY:∀v∈n2 cg ch,0<=v/\v<=1000000000:=λv aE=>by
   let(i,ah):=hy aE;have iM:i<↑ch-1:=by rw[<- AN cg];exact(b0.mp ah).1
   have aO:ch[i]?\(ch[i]'()):=a6 ();have aa:ch[i+1]?\(ch[i+1]'()):=a6 ();rw[GO cg aO aa]at ah;have:=eb.lo _ _ (co.lt _ (bU aO)) (co.lt _ (bU aa)) (co.ne i _ _ aO aa);cases ah;omega
  subst aV;nofun;refine(n2 cg ch,az.of A_,zY,by rw[AN];omega,_,az.of (s2 _ _ ef),λp ar=>((_,az.of aR),?_));have nS:jB (bH ch) (some 1) (some (-1))=bH (qX ch):=by
   rw[ai1 _ (by rw[hK];exact sN),hK];unfold bH qX;rw[VQ,z4]
  rw[nS];have s3:aN aw (upd aw p (.lst (bH (qX ch)))):=bh ar;refine cY.mD (xs:=bH (qX ch)) (zs:=((qX ch).map (cJ ds rows h)).map V.int) (az.of aR) (cM (show _<=40 by rw[hK];unfold qX;rw[hC];omega) ∅) (by rw[hK,aX,aX]) (λi v z N aE aQ bl=>?_) (λl aK=>?_)
  .unfold bH at aE;let(x,ag,rfl):=b_ aE;let(y,aM,rfl):=b_ aQ;let(eP,eD,rfl):=b_ aM;rw[ag]at eD;cases eD;have k':=g_ x (bU ag);nofun;exact(Sub.name,_,az.of (s3 _ _ (s2 _ _ fe)),_,cv (by rw[dg,DP k'];rfl),bl)
  .refine (l,rfl,_,az.of aR,λv aE=>?_,by rw[aX];unfold qX;rw[hC];omega,q _ (s2.trans (s3.trans (bh aK))));let(x,ag,rfl):=cj.mp aE;have:=e9 x (g_ x ag);omega
 .let(aH,c,n,ds,rows,cg,cl,ch,h,rfl,cU,R,eb,bT,ef,co,bC,q):=h;exact(bC,aH,c,n,ds,rows,cg,cl,ch,h,rfl,cU,R,eb,bT,ef,co,bC,λI bw=>(bw,q))
noncomputable def c4(rows:List ST)(i:Nat):Str:=((rows[i]?).map λr=>r.mem.headD (af "")).getD (af "")
noncomputable def fi(rows:List ST)(cg:Nat->Nat->Int)(i j T:Nat):List (List Str):=f6 (T-1) [c4 rows i]++[c4 rows j]::f6 (cg i j).toNat []
noncomputable def dk(rows:List ST)(cg:Nat->Nat->Int)(st:Nat->Int):List Nat->List (List Str)
 |a::b::r=>fi rows cg a b (st a).toNat++dk rows cg st (b::r)
 |_=>[]
noncomputable def x7(x:Str):List (List Str)->List (List Str)
 |[]=>[]
 |r::A=>(r++[x])::A
noncomputable def gm(h f:Nat):List Nat:=(if h=0 then [0]else [0,h])++(if f=h then []else [f])
noncomputable def d1(rows:List ST)(i:Nat):Int:=((rows[i]?).map (·.lo)).getD 0
noncomputable def r7(rows:List ST)(cg:Nat->Nat->Int)(lo st:Nat->Int)(h f p:Nat)(ext:List Nat)(x:Str):List (List Str):=
 (dk rows cg lo (gm h f)++(f6 ((lo f).toNat-1) [c4 rows f]++[[c4 rows p]]))++x7 x (f6 (cg f p).toNat []++dk rows cg st (p::ext)++[[]])
def MM(rows:List ST)(cg:Nat->Nat->Int)(i j:Nat)(ll:1<=eU):↑(fi rows cg i j eU)=eU+(cg i j).toNat:=by
 unfold fi;rw[cB,gW,oh,oh];omega
def x8{rows:List ST}(ao:rows[i]?\r):d1 rows i=r.lo:=by unfold d1;rw[ao];rfl
def alY(P:Program)(w:World)(t:bS):bO:=λvs H Q _=>∃a c n ds rows,∃k:Nat,∃r,vs=[⇑a,.int k]/\fJ P w t H a c n ds rows/\rows[k]?\r/\∀p,H p=none->Q ⇑p (upd H p (.lst (a3 r.mem)))
def AR{p:α}(h:l.Nodup)(ar:p∉l):(l++[p]).Nodup:=by
 rw[Aa];refine(h,ni.mpr (k2,qx),λa aO b aa e=>?_);rw[d9.mp aa]at e;exact ar (e ▸ aO)
structure h4(B H:av)(p:Addr)(qs:List Addr)(b4:List (List Str)):Prop where
 at_:H p\(.lst (qs.map V.ref))
 ln:↑qs=↑b4
 aG:qs.Nodup
 al:∀(i:Nat) (q:Addr) (ys:List Str),qs[i]?\q->b4[i]?\ys->B q=none/\q≠p/\H q\(.lst (a3 ys))/\↑ys<=1
def h4.get{p:Addr}(h:h4 B H p qs b4)(aI:q∈qs):B q=none/\q≠p/\∃ys,H q\(.lst ys):=by
 let(i,ah):=hy aI;have aK:i<↑b4:=by rw[<- h.ln];exact(b0.mp ah).1
 let(a,b,c,_):=h.al i q _ ah (a6 aK);exact(a,b,_,c)
def h4.same{p:Addr}(h:h4 B H p qs b4)(s:aN H I):h4 B I p qs b4:=(s _ _ h.at_,h.ln,h.aG,λi q ys aI aM=>let⟨a,b,e,l⟩:=h.al i q ys aI aM;(a,b,s _ _ e,l))
def h4.more{p:Addr}(h:h4 B H p qs b4)(s:aN H I)(sB:aN B H)(ln:↑qw=↑pJ)(aG:qw.Nodup)(al:∀(i:Nat) (q:Addr) (ys:List Str),qw[i]?\q->pJ[i]?\ys->H q=none/\I q\(.lst (a3 ys))/\↑ys<=1) :
  h4 B (upd I p (.lst (qs.map V.ref++qw.map V.ref))) p (qs++qw) (b4++pJ):=by
 have hw:∀q∈qw,H q=none:=λq aI=>by
  let(i,ah):=hy aI;have aK:i<↑pJ:=by rw[<- ln];exact(b0.mp ah).1
  exact(al i q _ ah (a6 aK)).1
 refine(by rw[aR,e'],by rw[cB,cB,h.ln,ln],?_,λi q ys aI aM=>?_)
 .rw [Aa];refine(h.aG,aG,λa aO b aa e=>?_);let(_,_,ys,eg):=h.get aO;rw[e,hw b aa]at eg;cases eg
 .by_cases c:i<↑qs
  .rw [lC c]at aI;rw[lC (by rw[<- h.ln];exact c)]at aM;let(a,b,e,l):=h.al i q ys aI aM;exact(a,b,by rw[aP b];exact s _ _ e,l)
  .rw[kz ()]at aI;rw[kz (by rw[<- h.ln];omega),<- h.ln]at aM;let(a,e,l):=al _ q ys aI aM;have b:q≠p:=λz=>by rw[z,h.at_]at a;cases a
   exact(sB.free a,b,by rw[aP b];exact e,l)
def h4.ext{p b:Addr}(h:h4 B H p qs b4)(s:aN H I)(g:h4 H I b vv pJ)(sB:aN B H):h4 B (upd I p (.lst (qs.map V.ref++vv.map V.ref))) p (qs++vv) (b4++pJ):=
 h.more s sB g.ln g.aG λi q ys aI aM=>let⟨a,_,e,l⟩:=g.al i q ys aI aM;(a,e,l)
section
variable(P:Program)(w:World)
def afb(t:bS):bO:=λvs H Q _=>∃aH c n ds rows cg,∃i j:Nat,∃iJ:Int,vs=[⇑aH,.int i,.int j,.int iJ]/\fJ P w t H aH c n ds rows/\ii ds rows/\nh n ds rows cg/\i<↑rows/\j<↑rows/\i≠j/\(1<=iJ/\iJ<=1000)/\aL H /\
 ∀p qs I,aN H I->aL I->h4 H I p qs (fi rows cg i j iJ.toNat)->Q ⇑p I
end
structure pQ(m h f i:Nat)(st:List Nat):Prop where
 w8:st≠[]
 len:↑st<=1+i
 lt:∀x∈st,x<m
 ne:∀(k a b:Nat),st[k]?\a->st[k+1]?\b->a≠b
 cy:i=1->st.getLast?\h
 de:i=2->st.getLast?\f
def pQ.put{m h f i:Nat}{st:List Nat}(S:pQ m h f i st){x y:Nat}(aM:st.getLast?\y)(ag:x<m)(ck:x≠y)(ae:i+1=1->x=h)(ak:i+1=2->x=f):pQ m h f (i+1) (st++[x]):=by
 refine(by simp,by rw[cB];show ↑st+1<=_;have:=S.len;omega,λz aQ=>?_,λk a b aO aa=>?_,λz=>by rw[anU];simp[ae z],λz=>by rw[anU];simp[ak z])
 .rcases eI.mp aQ with z|z
  .exact S.lt _ z
  .rw [d9.mp z];exact ag
 .rcases nr aa with⟨g1,g2⟩|⟨g1,g2⟩
  .rw [lC ()]at aO;exact S.ne k a b aO g2
  .rw [lC ()]at aO;rw[MP,show ↑st-1=k by omega,aO]at aM;cases aM;rw[g2];exact et ck
def pQ.oB{m h f i:Nat}{st:List Nat}(S:pQ m h f i st){x:Nat}(aM:st.getLast?\x)(ae:i+1=1->x=h)(ak:i+1=2->x=f):pQ m h f (i+1) st:=(S.w8,by have:=S.len;omega,S.lt,S.ne,λz=>by rw[aM,ae z],λz=>by rw[aM,ak z])
def adR:bO:=λvs H Q _=>∃aH,∃m h f:Nat,vs=[⇑aH,.int h,.int f]/\h<m/\f<m/\aL H/\∀p st I,aN H I->aL I->I p\(.lst (bH st))->pQ m h f 2 st->st=gm h f->Q ⇑p I
def an':cq P base T 1 t.H4 t.Js Dv (alY P w t):=by
 exists T.Fd.ok agh,9
 let(a,c,n,ds,rows,k,r,rfl,(aA,le,mo,cG,so,aS,ch,ms,kvs,aq,_,_,_,M,_),ax,q):=h;have W8:ms[k]?\(ms[k]'(by rw[M.ln,aX];exact(b0.mp ax).1)):=a6 _;have em:=M.al k _ _ W8 (by rw[dg,ax];rfl);refine(_,(a4 (b7 (rj aeZ rfl T.GP HG (ai (bZ c8 (bB (U 0) rfl) (U 1)) aC)))),?_);nofun;exact(_,BI T aq,_,rfl,_,az.of M.at_,_,cv (by rw[dg,W8];rfl),_,rfl,_,.inl (az.of em),λl aK=>q l aK)
theorem Zt:cq P base T 2 t.MR t.NP M8 (afb P w t):=by
 refine cA (an' T) λSw=>cA (zb T) λqK=>?_;exists T.AB.ok Em,9
 let(aH,c,n,ds,rows,cg,i,j,iJ,rfl,cU,R,eb,ah,aJ,lq,apO,bC,q):=h;have il:rows[i]?\rows[i]:=a6 ah;have d6:rows[j]?\rows[j]:=a6 aJ;let(oO,SA,mQ):=qe (R.cG _ (gf ah));let(s_,hu,q3):=qe (R.cG _ (gf aJ));have zY:=eb.lo i j ah aJ lq;refine(_,(db (o1 (i:=4) Em.aG rfl (mh rfl) (bZ c8 (b3 Sw ao T.T_ T.Fd.bo T.XU (ai (U 0) (ai (U 1) aC))) aT))
   (db (b' (i:=5) Em.aG (bZ c8 (b3 Sw ao T.T_ T.Fd.bo T.XU (ai (U 0) (ai (U 2) aC))) aT))
   (db (uo (i:=6) Em.aG rfl (n0 rfl) rfl (l0 rfl T.k8 (ai (bN mz (U 3) aT) aC)) (f_ (sc:=bx (top 50)) rfl ∅) (N:=["turn","own"]) (sel:=[none,some 4]) (f7 (M:=L') ∅) (fa.of (λ_ _ _ _=>(b8 (i:=0) (ec (N:=["turn","own"]) ∅ rfl))) (λ_ _ _ _=>(_,hT,by walk_at "B")) (λ_ _ _ _=>(_,(e5 (ai (U 1) aC)),by walk_at "B"))) rfl)
   (db (ea (fo gI lh lD kZ (U 6) (ai (e5 (ai (U 5) aC)) aC)))
   (db (ea (fo gI rD r6 qW (U 6) (ai (hR rfl (l0 rfl T.k8 (ai (b3 qK ao T.xm T.uF.bo T.zk (ai (U 0) (ai (U 1) (ai (U 2) aC)))) aC)) (f_ (sc:=bx (top 50)) rfl ∅) (N:=["turn"]) (sel:=[none]) (f7 (M:=L') ∅) (fa.of (λ_ _ _ _=>(b8 (i:=0) (ec (N:=["turn"]) ∅ rfl))) (λ_ _ _ _=>(_,hT,by walk_at "B")) (λ_ _ _ _=>(_,(e5 aC),by walk_at "B")))) aC)))
   (a4 (b7 (U 6)))))))),?_)
 exists (λau I=>aN H I/\aL I/\au=[~~~aH,some (.int i),some (.int j),some (.int iJ),some (.str oO),none,none]),3
 .nofun;exact(aH,c,n,ds,rows,i,_,rfl,cU,il,λp ar=>(p,rfl,_,az.of aR,_,by rw[mQ];exact cv (j:=0) rfl,bX _ _ (bh ar,bC.upd,rfl)))
 intro fG H1 (s1,cP,rfl);subst aV;exists (λau I=>aN H1 I/\aL I/\au=[~~~aH,some (.int i),some (.int j),some (.int iJ),some (.str oO),some (.str s_),none]),3
 .nofun;exact(aH,c,n,ds,rows,j,_,rfl,cU.same s1,d6,λp ar=>(p,rfl,_,az.of aR,_,by rw[q3];exact cv (j:=0) rfl,bX _ _ (bh ar,cP.upd,rfl)))
 intro cD aw (s2,cW,rfl);have xI:=s1.trans s2;have amV:c4 rows i=oO:=by unfold c4;rw[il];show(rows[i].mem.headD _)=oO;rw[mQ];rfl
 have amw:c4 rows j=s_:=by unfold c4;rw[d6];show(rows[j].mem.headD _)=s_;rw[q3];rfl
 subst aV;exists (λau I=>aN aw I/\aL I/\∃ap qs,aw ap=none/\h4 H I ap qs (f6 (iJ.toNat-1) [oO])/\au=[~~~aH,some (.int i),some (.int j),some (.int iJ),some (.str oO),some (.str s_),~~~ap]),3
 .nofun;refine((),(),?_);refine cY.range (λk ys I=>aN aw I/\aL I/\∃qw:List Addr,ys=qw.map V.ref/\↑qw=k/\qw.Nodup/\∀q∈qw,aw q=none/\I q\(.lst (a3 [oO]))) (cM (show _<=1000 by omega) ∅) (aN.refl _,cW,[],rfl,rfl,qx,λq h=>by simp at h) ?_ ?_ ?_
  .rintro k ys I ax bj;ac_rfl
   let(_,_,qw,rfl,aI,_):=bj;subst aV;rw[aX,aI];exact bQ _
  .rintro k ys I ax ⟨bw,d0,qw,rfl,aI,aG,al⟩ N bl;nofun;refine⟨Sub.name,∅,fun p ar=>bl _ _ ⟨bw.trans (bh ar),d0.upd,qw++[p],by rw[e'];rfl,by rw[cB,aI];rfl,AR aG (fun z=>by rw[(al p z).2]at ar;cases ar),fun dY o9=>?_⟩⟩;rcases eI.mp o9 with z|z
   .let(a,e):=al dY z;exact(a,bh ar _ _ e)
   .rw [d9.mp z];exact(bw.free ar,aR)
  .intro ys I (bw,d0,qw,rfl,aI,aG,al) ap vB;refine bX _ _ (bw.trans (bh vB),d0.upd,ap,qw,bw.free vB,(aR,by rw[aI,oh];omega,aG,λi q ys ah aM=>?_),rfl);let(a,e):=al q (bU ah);have aM:=yM (bU aM);subst aM;have ne:=dm e vB;exact(xI.free a,ne,by rw[aP ne];exact e,bQ _)
 intro gi ba (s3,dw,ap,qs,vB,qJ,rfl);have QI:(↑qs:Int)=iJ-1:=by rw[qJ.ln,oh];omega
 subst aV;exists (λau I=>aN aw I/\aL I/\∃qs,h4 H I ap qs (f6 (iJ.toNat-1) [oO]++[[s_]])/\au=[~~~aH,some (.int i),some (.int j),some (.int iJ),some (.str oO),some (.str s_),~~~ap]),3
 .nofun;refine(.inl (_,az.of qJ.at_),∅,λp ar=>(_,bh ar _ _ qJ.at_,hO (show _<=1000 by rw[aX];omega) ∅,bX _ _ (λb u e=>?_,(dw.upd).upd,qs++[p],qJ.more (qw:=[p]) (bh ar) (xI.trans s3) rfl (ni.mpr (k2,qx)) (λi q ys aI aM=>?_),rfl)))
  .rw [aP (dm e vB)];exact bh ar _ _ (s3 _ _ e)
  .cases i with
   |zero=>cases aI;cases aM;exact(ar,aR,bQ 1)
   |succ i=>simp at aI
 intro kE cn (s4,di,ja,hB,rfl);have Vx:(↑ja:Int)=iJ:=by rw[hB.ln,cB,oh,k6];omega
 subst aV;exists (λau I=>aN aw I/\aL I/\∃qs,h4 H I ap qs (fi rows cg i j iJ.toNat)/\au=[~~~aH,some (.int i),some (.int j),some (.int iJ),some (.str oO),some (.str s_),~~~ap]),3
 .nofun;refine(.inl (_,az.of hB.at_),aH,c,n,ds,rows,i,j,_,_,rfl,cU.same (xI.trans s4),il,d6,lq,di,λv aE=>?_);have ev:=Le aE (eb.is i j _ _ il d6 lq);subst ev;refine(_,rfl,(),(),?_);refine cY.range (λk ys I=>aN cn I/\aL I/\∃qw:List Addr,ys=qw.map V.ref/\↑qw=k/\qw.Nodup/\∀q∈qw,cn q=none/\I q\(.lst (a3 []))) (cM (show _<=1000 by omega) ∅) (aN.refl _,di,[],rfl,rfl,qx,λq h=>by simp at h) ?_ ?_ ?_
  .rintro k ys I ax bj;ac_rfl
   let(_,_,qw,rfl,aI,_):=bj;subst aV;rw[aX,aI];exact bQ _
  .rintro k ys I ax ⟨bw,d0,qw,rfl,aI,aG,al⟩ N bl;nofun;refine⟨Sub.name,∅,fun p ar=>bl _ _ ⟨bw.trans (bh ar),d0.upd,qw++[p],by rw[e'];rfl,by rw[cB,aI];rfl,AR aG (fun z=>by rw[(al p z).2]at ar;cases ar),fun dY o9=>?_⟩⟩;rcases eI.mp o9 with z|z
   .let(a,e):=al dY z;exact(a,bh ar _ _ e)
   .rw [d9.mp z];exact(bw.free ar,aR)
  .rintro ys I ⟨bw,d0,qw,rfl,aI,aG,al⟩ Yb Uj;have s5:=bw.trans (bh (o:=.lst (qw.map V.ref)) Uj);have NQ:fi rows (cg) i j iJ.toNat=(f6 (iJ.toNat-1) [oO]++[[s_]])++f6 (cg i j).toNat []:=by
    unfold fi;rw[amV,amw,jI,anC]
   have acV:h4 H (upd (upd I Yb (.lst (qw.map V.ref))) ap (.lst (ja.map V.ref++qw.map V.ref))) ap (ja++qw) (fi rows cg i j iJ.toNat):=by
    rw[NQ];refine hB.more s5 (xI.trans s4) (by rw[aI,oh]) aG (λi q ys ah aM=>?_);let(a,e):=al q (bU ah);have aM:=yM (bU aM);subst aM;exact(a,bh Uj _ _ e,eW _)
   refine(Yb,rfl,_,s5 _ _ hB.at_,_,aR,cM (show _<=3000 by rw[aX,aX,aI];omega) ∅,bX _ _ (λb u e=>?_,(d0.upd).upd,ja++qw,acV,rfl));rw[aP (dm e vB)];exact s5 _ _ (s4 _ _ e)
 intro qP cR (s5,eM,qq,j7,rfl);subst aV;nofun;exact q ap qq _ (xI.trans s5) eM j7
noncomputable def vx(h f:Nat):Nat->List Nat
 |0=>[0]
 |1=>if h=0 then [0]else [0,h]
 |_=>gm h f
theorem RU{h f i x y:Nat}(ah:i<2)(aM:(vx h f i).getLast?\y)(ae:i+1=1->x=h)(ak:i+1=2->x=f):vx h f (i+1)=if x=y then vx h f i else vx h f i++[x]:=by
 match i,ah with
 |0,_=>
  cases aM;rw[ae rfl];rfl
 | 1,_=>
  rw[ak rfl];have e:y=h:=by
   have aM:(if h=0 then [0]else [0,h]).getLast?\y:=aM;by_cases c:h=0
   .rw [if_pos c]at aM;cases aM;exact c.symm
   .rw [if_neg c]at aM;cases aM;rfl
  rw[e];show gm h f=if f=h then(if h=0 then [0]else [0,h])else(if h=0 then [0]else [0,h])++[f];unfold gm;by_cases c:f=h
  .rw [if_pos c,if_pos c,qC]
  .rw [if_neg c,if_neg c]
theorem acJ{m h f:Nat}(bT:h<m)(hf:f<m):∀{i:Nat} {v:V},[V.int (h:Nat),V.int (f:Nat)][i]?\v->∃x:Nat,x<m/\v=.int (x:Nat)/\(i+1=1->x=h)/\(i+1=2->x=f)
 |0,_,aE=>by cases aE;exact(h,bT,rfl,λ_=>rfl,(λz=>by cases z))
 |1,_,aE=>by cases aE;exact(f,hf,rfl,(λz=>by cases z),λ_=>rfl)
 |i+2,_,aE=>by simp at aE
def abT:cq P base T 1 t.Kb t.J8 L7 adR:=by
 exists T.M6.ok Lj,9
 let(aH,m,h,f,rfl,bT,hf,bC,q):=h;refine(_,(db (b' (i:=3) Lj.aG (e5 (ai aT aC)))
   (db (fP fV rfl (e6 (e5 (ai (U 1) (ai (U 2) aC)))) (b8 (i:=4) Lj.aG) (a4 (d4 (dh og (U 4) (bZ c8 (U 3) (qu ri aT)) (cL _)) (a4 (ea (fo gI lh lD kZ (U 3) (ai (U 4) aC)))) en)))
   (a4 (b7 (U 3))))),?_)
 exists (λau I=>aN H I/\aL I/\∃sp,H sp=none/\I sp\(.lst (bH [0]))/\au=[~~~aH,some (.int h),some (.int f),~~~sp,none]),3
 .nofun;exact(∅,λsp lO=>bX _ _ (bh lO,bC.upd,sp,lO,aR,rfl))
 intro fG H1 (s1,cP,sp,lO,aq,rfl);subst aV;exists (λau I=>aN H I/\aL I/\∃st dD,I sp\(.lst (bH st))/\pQ m h f 2 st/\st=vx h f 2/\au=[~~~aH,some (.int h),some (.int f),~~~sp,dD]),3
 .nofun;refine(∅,λp ar=>((_,az.of aR),?_));have s2:aN H1 (upd H1 p (.lst [V.int (h:Nat),V.int (f:Nat)])):=bh ar;have vY:p≠sp:=λz=>by rw[z,aq]at ar;cases ar
  refine ed.list (xs:=[V.int (h:Nat),V.int (f:Nat)]) (λi σ I=>aN H I/\aL I/\I p\(.lst [V.int (h:Nat),V.int (f:Nat)])/\∃st dD,I sp\(.lst (bH st))/\pQ m h f i st/\st=vx h f i/\σ=[~~~aH,some (.int h),some (.int f),~~~sp,dD]) ?_ ?_ ?_ ?_
  .refine (s1.trans s2,cP.upd,aR,[0],_,s2 _ _ aq,(by simp,bQ _,λx ag=>?_,(λk a b aO aa=>by simp at aa),(λz=>by cases z),(λz=>by cases z)),rfl,rfl);rw[d9.mp ag];omega
  .rintro i σ I ah bj;ac_rfl
   let(_,_,e,_):=bj;subst aV;exact az.of e
  .rintro i v σ I aE bj;ac_rfl
   let(s3,dw,cu,st,dD,aU,S,lu,rfl):=bj;let(x,ag,NH,D6,wV):=acJ bT hf aE;subst aV;subst NH;let(y,aM):∃y,st.getLast?\y:=(st.getLast S.w8,List.getLast?_eq_some_getLast S.w8);have hL:gp (bH st) (-1)\(.int (y:Nat)):=vV (by rw[hK];exact qb (by rw[<- MP];exact aM));have ap2:=S.len;have iM:i<2:=(b0.mp aE).1;simp only[gU,jV,jH];by_cases w_:x=y
   .refine du false (λQ aY=>?_) (λz=>nomatch z) (λ_=>?_)
    .nofun;refine(_,az.of aU,_,hL,rfl,?_);rw[w_,decide_eq_true rfl];exact aY
    .simp only[gy];exact(s3,dw,cu,st,_,aU,S.oB (by rw[w_];exact aM) D6 wV,by rw[RU iM (by rw[<- lu];exact aM) D6 wV,if_pos w_];exact lu,rfl)
   .refine du true (λQ aY=>?_) (λ_=>?_) (λz=>nomatch z)
    .nofun;refine(_,az.of aU,_,hL,rfl,?_);rw[decide_eq_false (λz=>w_ (by injection z with z;omega))];exact aY
    .nofun;refine(.inl (_,az.of aU),_,aU,hO (show _<=10 by rw[hK];omega) ∅,λb u e=>?_,dw.upd,by rw[aP vY];exact cu,st++[x],by rw[aR];unfold bH;rw[e'];rfl,S.put aM ag w_ D6 wV,by rw[RU iM (by rw[<- lu];exact aM) D6 wV,if_neg w_,<- lu],_,rfl);rw[aP (dm e lO)];exact s3 _ _ e
  .rintro σ I bj;ac_rfl
   let(s3,dw,cu,st,dD,aU,S,lu,rfl):=bj;subst aV;exact bX _ _ (s3,dw,st,dD,aU,S,lu,rfl)
 intro cD aw (s2,cW,st,dD,aD,kn,lu,rfl);subst aV;nofun;exact q sp st _ s2 cW aD kn lu
structure nJ(H:av)(p:Addr)(qs:List Addr)(b4:List (List Str)):Prop where
 at_:H p\(.lst (qs.map V.ref))
 ln:↑qs=↑b4
 aG:qs.Nodup
 np:p∉qs
 al:∀(i:Nat) (q:Addr) (ys:List Str),qs[i]?\q->b4[i]?\ys->H q\(.lst (a3 ys))
def nJ.keep{p:Addr}(h:nJ H p qs b4)(k:∀b u,b=p\/b∈qs->H b\u->I b\u):nJ I p qs b4:=(k _ _ (.inl rfl) h.at_,h.ln,h.aG,h.np,λi q ys aI aM=>k _ _ (.inr (bU aI)) (h.al i q ys aI aM))
def h4.put{p:Addr}(h:h4 B H p qs b4)(aI:qs[eU]?\q)(aM:b4[eU]?\ys)(x:Str):nJ (upd H q (.lst (a3 ys++[.str x]))) p qs (b4.set eU (ys++[x])):=by
 have hm:=h.get (bU aI);refine(by rw[aP (et hm.2.1)];exact h.at_,by rw[YS];exact h.ln,h.aG,λz=>(h.get z).2.1 rfl,λi dY jR ah DS=>?_);by_cases c:eU=i
 .subst c;rw[aI]at ah;cases ah;rw[IF (b0.mp aM).1]at DS;cases DS;rw[aR];unfold a3;rw[e'];rfl
 .rw[IS c]at DS;have:dY≠q:=λz=>by
   let(da,cX):=b0.mp ah;let(bM,d7):=b0.mp aI;exact c ((Cu (h₀:=bM) (h₁:=da) h.aG).mp (by rw[d7,cX,z]))
  rw[aP this];exact(h.al i dY jR ah DS).2.2.1
theorem HE(rows:List ST)(cg:Nat->Nat->Int)(st:Nat->Int):∀(l:List Nat) (a b:Nat),dk rows cg st (l++[a,b])=dk rows cg st (l++[a])++fi rows cg a b (st a).toNat
 |[],a,b=>by show fi rows cg a b _++[]=[]++_;simp
 |[x],a,b=>by show fi rows cg x a _++(fi rows cg a b _++[])=(fi rows cg x a _++[])++_;simp
 |x::y::l,a,b=>by
  have:=HE rows cg st (y::l) a b;show fi rows cg x y _++dk rows cg st ((y::l)++[a,b])=(fi rows cg x y _++dk rows cg st ((y::l)++[a]))++_;rw[this,jI]
def RL{rows:List ST}{cg:Nat->Nat->Int}{st:Nat->Int}{zs:List Nat}{k a b:Nat}(aO:zs[k]?\a)(aa:zs[k+1]?\b):dk rows cg st (zs.take (k+2))=dk rows cg st (zs.take (k+1))++fi rows cg a b (st a).toNat:=by
 rw[k5 aa,k5 aO,jI];exact HE rows cg st (zs.take k) a b
def amR(h f:Nat):∃l,gm h f=l++[f]:=by
 unfold gm;by_cases c:f=h
 .subst c;rw[if_pos rfl,qC];split
  .rename_i z;subst z;exact([],rfl)
  .exact ([0],rfl)
 .rw [if_neg c];exact(_,rfl)
def SB(rows:List ST)(cg:Nat->Nat->Int)(lo:Nat->Int)(h f p:Nat):dk rows cg lo (gm h f++[p])=(dk rows cg lo (gm h f)++(f6 ((lo f).toNat-1) [c4 rows f]++[[c4 rows p]]))++f6 (cg f p).toNat []:=by
 let(l,e):=amR h f;rw[e,jI];show dk rows cg lo (l++[f,p])=_;rw[HE];unfold fi;simp
theorem Xp{x:Str}:∀(X Y:List (List Str)) {ys:List Str},(X++Y)[↑X]?\ys->(X++Y).set ↑X (ys++[x])=X++x7 x Y
 |[],[],_,h=>by simp at h
 |[],y::Y,_,h=>by cases h;rfl
 |z::X,Y,ys,h=>by
  show z::((X++Y).set ↑X (ys++[x]))=z::(X++x7 x Y);rw[Xp X Y (by simpa using h)]
theorem anO(xs:List V):jB xs (some 2) none=xs.drop 2:=by
 unfold jB;rw[show eZ.dd ↑xs ↑xs none=↑xs from rfl,show eZ.dd ↑xs 0 (some 2)=min 2 ↑xs from eZ.EM _ _ 2]
 match xs with
 |[]=>rfl
 |[x]=>rfl
 |x::y::r=>rw[Cr (by simp)];simp
section
variable(P:Program)(w:World)
def P5(t:bS):bO:=λvs H Q _=>∃aH c n ds rows cg name cl ch,vs=[⇑aH,.str name,⇑cl]/\fJ P w t H aH c n ds rows/\ii ds rows/\nh n ds rows cg/\H cl\(.lst (bH ch))/\yC ↑rows ch/\aL H /\
 ∀r a (b:Nat) qs br aW hm ext I,ch=br::aW::ext->ch.getLast?\hm->aN H I->aL I->I r\(.tup [⇑a,.int b])->H a=none->(∀q∈qs,H q=none)->nJ I a qs (r7 rows cg (d1 rows) (cJ ds rows hm) hm br aW ext name)->b=↑(dk rows cg (d1 rows) (gm hm br))+(d1 rows br).toNat->Q ⇑r I
end
theorem aaD:cq P base T 3 t.DZ t.Bd BX (P5 P w t):=by
 refine cA (abT T) fun ad7=>cA (Zt T) fun VE=>cA (zb T) fun qK=>cA (Sk T) fun Nv=>?_;exists T.Ig.ok qj,9
 obtain⟨aH,c,n,ds,rows,cg,name,cl,ch,rfl,cU,R,eb,ef,co,bC,q⟩:=h;have sN:=co.de;have Vn:=co.L4;obtain⟨br,h0⟩:∃br,ch[0]?\br:=⟨ch[0]'(),a6 _⟩;obtain⟨aW,ae⟩:∃aW,ch[1]?\aW:=⟨ch[1]'(),a6 _⟩;obtain⟨hm,bT⟩:∃hm,ch[↑ch-1]?\hm:=⟨ch[↑ch-1]'(),a6 _⟩;have sa:=co.lt br (bU h0);have ee:=co.lt aW (bU ae);have RV:=co.lt hm (bU bT);have E9:=co.ne 0 br aW h0 ae;have zY:=eb.lo br aW sa ee E9;have e9:∀x,x<↑rows->1<=cJ ds rows hm x/\cJ ds rows hm x<=1000:=fun x ag=>by
  have:=R.lo _ (gf ag);unfold cJ;rw[a6 ag];simp only[];split <;> omega
 obtain⟨iS,le,mo,cG,so,aS,afc,ms,kvs,aq,C,bV,eC,gn,eB,hh,km,jF⟩:=id cU;refine⟨_,(db (b' (i:=3) qj.aG (bZ c8 (U 2) (qu ri aT)))
   (db (b' (i:=4) qj.aG (b3 ad7 ao T.acH T.M6.bo T.ahk (ai (U 0) (ai (U 3) (ai (bZ c8 (U 2) aT) aC)))))
   (db (b' (i:=5) qj.aG (e5 aC))
   (db (fP fV rfl (IZ rfl T.NN (ai (U 4) (ai (bN GS (nL ub (U 4) (nd aT) oy) (e5 (ai (bZ c8 (U 2) aT) aC))) aC))) (kC (K:=K) (n:=2) rfl rfl (ac (b8 (i:=6) qj.aG) (ac (b8 (i:=7) qj.aG) kx))) (a4 (ea (fo gI rD r6 qW (U 5) (ai (b3 VE ao T.Pj T.AB.bo T.S1 (ai (U 0) (ai (U 6) (ai (U 7) (ai (bZ c8 (bB (U 0) rfl) (U 6)) aC))))) aC)))))
   (db (b' (i:=8) qj.aG (bN mz (fx iV rfl T.iE iw (ai (U 5) aC)) (b3 qK ao T.xm T.uF.bo T.zk (ai (U 0) (ai (bZ c8 (U 2) aT) (ai (bZ c8 (U 2) aT) aC))))))
   (db (b' (i:=9) qj.aG (b3 Nv ao T.Tm T.AJ.bo T.QM (ai (U 0) (ai (U 3) aC))))
   (db (fP fV rfl (IZ rfl T.NN (ai (nL ub (U 2) (nd aT) oy) (ai (nL ub (U 2) (nd aT) oy) aC))) (kC (K:=K) (n:=2) rfl rfl (ac (b8 (i:=6) qj.aG) (ac (b8 (i:=7) qj.aG) kx))) (a4 (ea (fo gI rD r6 qW (U 5) (ai (b3 VE ao T.Pj T.AB.bo T.S1 (ai (U 0) (ai (U 6) (ai (U 7) (ai (bZ c8 (U 9) (U 6)) aC))))) aC)))))
   (db (ea (fo gI lh lD kZ (U 5) (ai (e5 aC) aC)))
   (db (ea (fo gI lh lD kZ (bZ c8 (U 5) (U 8)) (ai (U 1) aC)))
   (a4 (b7 (rK (ai (U 5) (ai (U 8) aC)))))))))))))),?_⟩
 exists (fun au I=>I=H/\au=[~~~aH,some (.str name),~~~cl,some (.int hm),none,none,none,none,none,none]),3
 .nofun;exact⟨_,az.of ef,_,vV (by rw[hK];exact qb bT),bX _ _ ⟨rfl,rfl⟩⟩
 rintro fG H1 ⟨rfl,rfl⟩;subst aV;exists (fun au I=>aN H1 I/\aL I/\∃sp st,I sp\(.lst (bH st))/\pQ ↑rows hm br 2 st/\st=gm hm br/\au=[~~~aH,some (.str name),~~~cl,some (.int hm),~~~sp,none,none,none,none,none]),3
 .nofun;exact⟨_,az.of ef,_,cv (j:=0) (qb h0),aH,↑rows,hm,br,rfl,RV,sa,bC,fun p st I aj d0 bD adl lu=>bX _ _ ⟨aj,d0,p,st,bD,adl,lu,rfl⟩⟩
 rintro cD aw ⟨s2,cW,sp,st,aU,kn,lu,rfl⟩;subst aV;exists (fun au I=>aN aw I/\aL I/\∃hs,aw hs=none/\I hs\(.lst [])/\au=[~~~aH,some (.str name),~~~cl,some (.int hm),~~~sp,~~~hs,none,none,none,none]),3
 .nofun;exact⟨∅,fun hs js=>bX _ _ ⟨bh js,cW.upd,hs,js,aR,rfl⟩⟩
 rintro gi ba ⟨s3,dw,hs,js,u_,rfl⟩;have aqa:=kn.len;have q7:=kn.de rfl;subst aV;exists (fun au I=>aN aw I/\aL I/\∃qs cF c5,h4 H1 I hs qs (dk rows cg (d1 rows) (st++[aW]))/\1+cg br aW<=(↑qs:Int)/\↑qs<=6000/\au=[~~~aH,some (.str name),~~~cl,some (.int hm),~~~sp,~~~hs,cF,c5,none,none]),3
 .have aql:1<=↑st:=DT.mpr kn.w8;have ae_:st[↑st-1]?\br:=by rw[<- MP];exact q7
  nofun;refine⟨_,az.of (s3 _ _ aU),fun p ar=>?_⟩;rw[Jd,show(bH st).drop 1=bH (st.drop 1)by unfold bH;rw[z4]];refine⟨_,az.of (bh ar _ _ (s3 _ _ (s2 _ _ ef))),_,cv (j:=1) (qb ae),∅,fun da kj=>?_⟩;have ck:p≠da:=fun z=>by rw[<- z,aR]at kj;cases kj
  refine⟨_,by rw[aP ck];exact aR,_,aR,cM (show _<=10 by rw[hK,lZ];show _+1<=10;omega) ∅,fun cX gc=>?_⟩;have s5:=((bh (o:=.lst (bH (st.drop 1))) ar).trans (bh (o:=.lst [V.int (aW:Nat)]) kj)).trans (bh (o:=.lst (bH (st.drop 1)++[V.int (aW:Nat)])) gc);have Ah:upd (upd (upd ba p (.lst (bH (st.drop 1)))) da (.lst [V.int (aW:Nat)])) cX (.lst (bH (st.drop 1)++[V.int (aW:Nat)])) cX\(.lst (bH (st.drop 1++[aW]))):=by rw[aR];unfold bH;rw[e'];rfl
  have eM:aL (upd (upd (upd ba p (.lst (bH (st.drop 1)))) da (.lst [V.int (aW:Nat)])) cX (.lst (bH (st.drop 1)++[V.int (aW:Nat)]))):=((dw.upd).upd).upd;generalize upd (upd (upd ba p (.lst (bH (st.drop 1)))) da (.lst [V.int (aW:Nat)])) cX (.lst (bH (st.drop 1)++[V.int (aW:Nat)]))=cR at s5 Ah eM⊢;have an6:cX≠hs:=fun z=>by
   rw[z,s5 _ _ u_]at Ah;have wx:([]:List V)=bH (st.drop 1++[aW]):=gb.lst.inj (d2 Ah);unfold bH at wx;rw[e']at wx;cases hd:o3 (fun j=>V.int ((j:Nat):Int)) (st.drop 1)with
   |nil=>rw[hd]at wx;cases wx
   |cons a b=>rw[hd]at wx;cases wx
  refine⟨⟨_,az.of (s5 _ _ (s3 _ _ aU))⟩,⟨_,az.of Ah⟩,?_⟩;have xb:∀{k a b:Nat},st[k]?\a->(st.drop 1++[aW])[k]?\b->a≠b/\b<↑rows/\(k+1=↑st->a=br/\b=aW):=fun {k a b} aO aa=>by
   have ax:=(b0.mp aO).1;by_cases aq7:k+1<↑st
   .rw [lC (by rw[lZ];omega),x4,anp]at aa;exact⟨kn.ne k a b aO aa,kn.lt b (bU aa),fun z=>absurd z ()⟩
   .have yj:k=↑st-1:=()
    rw[yj,ae_]at aO;cases aO;rw[kz (by rw[lZ];omega),lZ,show k-(↑st-1)=0 by omega]at aa;cases aa;exact⟨E9,ee,fun _=>⟨rfl,rfl⟩⟩
  have aap:∀{k a:Nat},st[k]?\a->(st++[aW])[k]?\a/\k<↑st:=fun {k a} aO=>by
   have ax:=(b0.mp aO).1;exact⟨by rw[lC ax];exact aO,ax⟩
  have anw:∀{k a b:Nat},st[k]?\a->(st.drop 1++[aW])[k]?\b->(st++[aW])[k+1]?\b:=fun {k a b} aO aa=>by
   have e:st++[aW]=[st[0]'()]++(st.drop 1++[aW]):=by
    rw[<- jI];congr 1;obtain⟨ajY,akx,hH⟩:=qe kn.w8;subst hH;rfl
   rw[e,kz (by rw[k6];omega),k6,Mb];exact aa
  refine ed.zip (xs:=bH st) (ys:=bH (st.drop 1++[aW])) (fun k σ I=>(∀b u,b≠hs->cR b\u->I b\u)/\aN aw I/\aL I/\∃qs cF c5,h4 H1 I hs qs (dk rows cg (d1 rows) ((st++[aW]).take (k+1)))/\(k=↑st->1+cg br aW<=(↑qs:Int))/\↑qs<=k*2000/\σ=[~~~aH,some (.str name),~~~cl,some (.int hm),~~~sp,~~~hs,cF,c5,none,none]) ?_ ?_ ↑st (by rw[hK,hK,cB,lZ];show _=min _ (_+1);omega) ?_ ?_
  .obtain ⟨ajY,akx,hH⟩:=qe kn.w8;exact⟨fun b u _ e=>e,s3.trans s5,eM,[],_,_,⟨s5 _ _ u_,by rw[hH];rfl,qx,fun i q ys h=>by simp at h⟩,fun z=>absurd z (),eW _,rfl⟩
  .rintro k σ I ax ⟨bo,bw,_⟩;refine⟨az.of (bw _ _ aU),az.of (bo _ _ an6 Ah)⟩
  .rintro k x y σ I r ag aM ⟨bo,bw,d0,qs,cF,c5,mS,g',gd,rfl⟩ dO;unfold bH at ag aM;obtain⟨a,aO,rfl⟩:=b_ ag;obtain⟨gd,d_,rfl⟩:=b_ aM;obtain⟨zi,bp,fin⟩:=xb aO d_;have al:=kn.lt a (bU aO);have ax:=(b0.mp aO).1;have fk:aN I (upd I r (.tup [.int (a:Nat),.int (gd:Nat)])):=bh dO;have lo:=R.lo _ (gf al);have qV:=eb.lo a gd al bp zi;have sA:=s2.trans (bw.trans fk);refine ui ?_;simp only[jV,jH];nofun;refine⟨.inl ⟨_,az.of (fk _ _ mS.at_)⟩,_,GU T (sA _ _ aq),_,rfl,_,az.of (sA _ _ bV),_,cv (by rw[dg,a6 al];rfl),aH,c,n,ds,rows,cg,a,gd,_,rfl,cU.same sA,R,eb,al,bp,zi,(),d0.upd,fun IC m6 aoh sc sR tW=>?_⟩;have lc:(↑m6:Int)=rows[a].lo+cg a gd:=by rw[tW.ln,MM _ _ _ _ ()];omega
   have z0:=mS.same fk;refine⟨IC,rfl,_,sc _ _ z0.at_,_,tW.at_,cM (show _<=100000 by rw[aX,aX];omega) ∅,fun b u nb e=>?_,fun b u e=>?_,sR.upd,_,by rw[RL (aap aO).1 (anw aO d_),x8 (a6 al)];exact z0.ext sc tW sA,fun z=>?_,by rw[cB];omega,?_⟩
   .rw [aP nb];exact sc _ _ (fk _ _ (bo _ _ nb e))
   .rw [aP (dm e js)];exact sc _ _ (fk _ _ (bw _ _ e))
   .obtain ⟨eg,alQ⟩:=fin z;rw[cB,<- eg,<- alQ];omega
   .exact ⟨_,rfl⟩
  .rintro σ I bj;ac_rfl
   obtain⟨bo,bw,d0,qs,cF,c5,mS,g',gd,rfl⟩:=bj;subst aV;rw[y0 (by rw[cB,k6];exact bQ _)]at mS;refine bX _ _ ⟨bw,d0,qs,cF,c5,mS,g' rfl,(),rfl⟩
 rintro kE cn ⟨s4,di,ja,cF,c5,hB,jL,gP,rfl⟩;have uT:=s2.trans s4;subst aV;exists (fun au I=>I=cn/\au=[~~~aH,some (.str name),~~~cl,some (.int hm),~~~sp,~~~hs,cF,c5,some (.int ((↑ja:Int)-cg br aW)),none]),3
 .nofun;refine⟨_,.inl (az.of hB.at_),_,az.of (uT _ _ ef),_,cv (j:=0) (qb h0),_,az.of (uT _ _ ef),_,cv (j:=1) (qb ae),aH,c,n,ds,rows,br,aW,_,_,rfl,cU.same uT,a6 sa,a6 ee,E9,di,fun v aE=>⟨_,rfl,?_⟩⟩;have ev:=Le aE (eb.is br aW _ _ (a6 sa) (a6 ee) E9);rw[ev,aX];exact bX _ _ ⟨rfl,rfl⟩
 rintro qP cR ⟨rfl,rfl⟩;subst aV;exists (fun au I=>I=cR/\∃b,cR b\(.lst ((fb ↑rows).map fun i=>V.int (cJ ds rows hm i)))/\au=[~~~aH,some (.str name),~~~cl,some (.int hm),~~~sp,~~~hs,cF,c5,some (.int ((↑ja:Int)-cg br aW)),~~~b]),3
 .nofun;exact⟨aH,c,n,ds,rows,hm,rfl,cU.same uT,RV,fun b e=>bX _ _ ⟨rfl,b,e,rfl⟩⟩
 rintro nt f3 ⟨rfl,b,fe,rfl⟩;subst aV;exists (fun au I=>aN H1 I/\aL I/\∃qs cF c5,h4 H1 I hs qs (dk rows cg (d1 rows) (st++[aW])++dk rows cg (cJ ds rows hm) (ch.drop 1))/\↑ja<=↑qs/\↑qs<=100000/\au=[~~~aH,some (.str name),~~~cl,some (.int hm),~~~sp,~~~hs,cF,c5,some (.int ((↑ja:Int)-cg br aW)),~~~b]),3
 .nofun;refine⟨_,az.of (uT _ _ ef),fun p ar=>⟨_,az.of (bh ar _ _ (uT _ _ ef)),fun da kj=>?_⟩⟩;rw[Jd,anO,show(bH ch).drop 1=bH (ch.drop 1)by unfold bH;rw[z4],show(bH ch).drop 2=bH (ch.drop 2)by unfold bH;rw[z4]]at *;have ck:p≠da:=fun z=>by rw[<- z,aR]at kj;cases kj
  have s5:=(bh (o:=.lst (bH (ch.drop 1))) ar).trans (bh (o:=.lst (bH (ch.drop 2))) kj);have cu:upd (upd f3 p (.lst (bH (ch.drop 1)))) da (.lst (bH (ch.drop 2))) p\(.lst (bH (ch.drop 1))):=by rw[aP ck];exact aR
  have IU:upd (upd f3 p (.lst (bH (ch.drop 1)))) da (.lst (bH (ch.drop 2))) da\(.lst (bH (ch.drop 2))):=aR;have pr:p≠hs:=fun z=>by rw[z,hB.at_]at ar;cases ar
  have ad2:da≠hs:=fun z=>by rw[z,aP (et pr),hB.at_]at kj;cases kj
  have eM:aL (upd (upd f3 p (.lst (bH (ch.drop 1)))) da (.lst (bH (ch.drop 2)))):=(di.upd).upd;generalize upd (upd f3 p (.lst (bH (ch.drop 1)))) da (.lst (bH (ch.drop 2)))=e7 at s5 cu IU eM⊢;refine⟨⟨_,az.of cu⟩,⟨_,az.of IU⟩,?_⟩;refine ed.zip (xs:=bH (ch.drop 1)) (ys:=bH (ch.drop 2)) (fun k σ I=>(∀b u,b≠hs->e7 b\u->I b\u)/\aN H1 I/\aL I/\∃qs cF c5,h4 H1 I hs qs (dk rows cg (d1 rows) (st++[aW])++dk rows cg (cJ ds rows hm) ((ch.drop 1).take (k+1)))/\↑ja<=↑qs/\↑qs<=6000+k*2000/\σ=[~~~aH,some (.str name),~~~cl,some (.int hm),~~~sp,~~~hs,cF,c5,some (.int ((↑ja:Int)-cg br aW)),~~~b]) ?_ ?_ (↑ch-2) (by rw[hK,hK,lZ,lZ];omega) ?_ ?_
  .have eh:dk rows cg (cJ ds rows hm) ((ch.drop 1).take (0+1))=[]:=by
    cases ch.drop 1 with
    |nil=>rfl
    |cons y ys=>rfl
   exact⟨fun b u _ e=>e,uT.trans s5,eM,ja,_,_,by rw[eh,qC];exact hB.same s5,bQ _,(),rfl⟩
  .rintro k σ I ax ⟨bo,bw,_⟩;exact⟨az.of (bo _ _ pr cu),az.of (bo _ _ ad2 IU)⟩
  .rintro k x y σ I r ag aM ⟨bo,bw,d0,qs,cF,c5,mS,g',gd,rfl⟩ dO;unfold bH at ag aM;obtain⟨a,aO,rfl⟩:=b_ ag;obtain⟨gd,d_,rfl⟩:=b_ aM;rw[x4]at aO d_;have zi:=co.ne (1+k) a gd aO (by rw[show 1+k+1=2+k by omega];exact d_);have al:=co.lt a (bU aO);have bp:=co.lt gd (bU d_);have fk:aN I (upd I r (.tup [.int (a:Nat),.int (gd:Nat)])):=bh dO;have lo:=e9 a al;have qV:=eb.lo a gd al bp zi;have sA:=bw.trans fk;have mH:2+k<↑ch:=(b0.mp d_).1;have aaC:upd I r (.tup [.int (a:Nat),.int (gd:Nat)]) b\(.lst ((fb ↑rows).map fun i=>V.int (cJ ds rows hm i))):=fk _ _ (bo _ _ (fun z=>by
    rw[z,hB.at_]at fe;have tC:ja.map V.ref=(fb ↑rows).map fun i=>V.int (cJ ds rows hm i):=gb.lst.inj (d2 fe)
    obtain⟨kB,jD,eq⟩:∃kB jD,ja=kB::jD:=by
     cases ja with
     |nil=>exact absurd jL (show ¬(1+cg br aW<=((0:Nat):Int))by omega)
     |cons kB jD=>exact⟨kB,jD,rfl⟩
    have eh:=congrArg (fun l=>l[0]?) tC;rw[eq,dg,dg,DP (show 0<↑rows by omega)]at eh;cases eh) (s5 _ _ fe))
   refine ui ?_;simp only[jV,jH];nofun;refine⟨.inl ⟨_,az.of (fk _ _ mS.at_)⟩,_,az.of aaC,_,cv (by rw[dg,DP al];rfl),aH,c,n,ds,rows,cg,a,gd,_,rfl,cU.same sA,R,eb,al,bp,zi,(),d0.upd,fun IC m6 aoh sc sR tW=>?_⟩;have lc:(↑m6:Int)=cJ ds rows hm a+cg a gd:=by rw[tW.ln,MM _ _ _ _ ()];omega
   have z0:=mS.same fk;refine⟨IC,rfl,_,sc _ _ z0.at_,_,tW.at_,cM (show _<=200000 by rw[aX,aX];omega) ∅,fun b u nb e=>?_,fun b u e=>?_,sR.upd,_,by rw[RL (zs:=ch.drop 1) (by rw[x4];exact aO) (by rw[x4,show 1+(k+1)=2+k by omega];exact d_),<- jI];exact z0.ext sc tW sA,by rw[cB];omega,by rw[cB];omega,?_⟩
   .rw [aP nb];exact sc _ _ (fk _ _ (bo _ _ nb e))
   .rw [aP (dm e (s2.free js))];exact sc _ _ (sA _ _ e)
   .exact ⟨_,rfl⟩
  .rintro σ I bj;ac_rfl
   obtain⟨bo,bw,d0,qs,cF,c5,mS,g',gd,rfl⟩:=bj;subst aV;rw[y0 (by rw[lZ];omega)]at mS;exact bX _ _ ⟨bw,d0,qs,cF,c5,mS,g',(),rfl⟩
 rintro kP e7 ⟨hc,hW,nM,r2,rk,kv,r0,uI,rfl⟩;subst aV;exists (fun au I=>aN H1 I/\aL I/\∃qs,h4 H1 I hs qs ((dk rows cg (d1 rows) (st++[aW])++dk rows cg (cJ ds rows hm) (ch.drop 1))++[[]])/\↑ja<↑qs/\au=[~~~aH,some (.str name),~~~cl,some (.int hm),~~~sp,~~~hs,r2,rk,some (.int ((↑ja:Int)-cg br aW)),~~~b]),3
 .nofun;refine⟨.inl ⟨_,az.of kv.at_⟩,eW _,fun p ar=>⟨_,bh ar _ _ kv.at_,hO (show _<=100000 by rw[aX];omega) ∅,bX _ _ ⟨fun b u e=>?_,(hW.upd).upd,nM++[p],kv.more (qw:=[p]) (bh ar) hc rfl (ni.mpr ⟨k2,qx⟩) (fun i q ys aI aM=>?_),by rw[cB];show _<↑nM+1;omega,rfl⟩⟩⟩
  .rw [aP (dm e (s2.free js))];exact bh ar _ _ (hc _ _ e)
  .cases i with
   |zero=>cases aI;cases aM;exact⟨ar,aR,eW _⟩
   |succ i=>simp at aI
 rintro sO iq ⟨iD,oH,xh,kV,r',rfl⟩;obtain⟨ext,sj⟩:∃ext,ch=br::aW::ext:=by
  match ch,h0,ae with
  |y::z::ext,h0,ae=>cases h0;cases ae;exact⟨ext,rfl⟩
 have y6:=(R.lo _ (gf sa)).1;have rZ:=x8 (a6 sa);have eC:↑ja=↑(dk rows cg (d1 rows) (gm hm br))+(d1 rows br).toNat+(cg br aW).toNat:=by
  rw[hB.ln,lu,SB,cB,cB,cB,oh,oh,k6];omega
 obtain⟨nk,aiN,Vb⟩:∃nk:Nat,(↑ja:Int)-cg br aW=(nk:Int)/\nk=↑(dk rows cg (d1 rows) (gm hm br))+(d1 rows br).toNat:=⟨_,(),rfl⟩;have YU:(dk rows cg (d1 rows) (st++[aW])++dk rows cg (cJ ds rows hm) (ch.drop 1))++[[]]=(dk rows cg (d1 rows) (gm hm br)++(f6 ((d1 rows br).toNat-1) [c4 rows br]++[[c4 rows aW]]))++(f6 (cg br aW).toNat []++dk rows cg (cJ ds rows hm) (aW::ext)++[[]]):=by
  rw[lu,SB,sj];simp
 have X6:↑(dk rows cg (d1 rows) (gm hm br)++(f6 ((d1 rows br).toNat-1) [c4 rows br]++[[c4 rows aW]]))=nk:=by
  rw[Vb,cB,cB,oh,k6];omega
 subst aV;exists (fun au I=>aN H1 I/\aL I/\nJ I hs xh (r7 rows cg (d1 rows) (cJ ds rows hm) hm br aW ext name)/\au=[~~~aH,some (.str name),~~~cl,some (.int hm),~~~sp,~~~hs,r2,rk,some (.int (nk:Int)),~~~b]),3
 .nofun;have Wo:nk<↑xh:=()
  have N_:xh[nk]?\xh[nk]:=a6 Wo;have GZ:nk<↑((dk rows cg (d1 rows) (st++[aW])++dk rows cg (cJ ds rows hm) (ch.drop 1))++[[]]):=by rw[<- kV.ln];exact Wo
  obtain⟨rX,_,SO,M7⟩:=kV.al _ _ _ N_ (a6 GZ);rw[aiN];refine⟨_,az.of kV.at_,V.ref xh[nk],cv (by rw[dg,N_];rfl),n0 ⟨_,az.of SO⟩,_,rfl,_,SO,hO (show _<=1 by rw[fE];exact M7) ∅,?_⟩;have gF:=kV.put N_ (a6 GZ) name;have A_:=a6 GZ;generalize ((dk rows cg (d1 rows) (st++[aW])++dk rows cg (cJ ds rows hm) (ch.drop 1))++[[]])[nk]=ys at *;have yx:((dk rows cg (d1 rows) (st++[aW])++dk rows cg (cJ ds rows hm) (ch.drop 1))++[[]]).set nk (ys++[name])=r7 rows cg (d1 rows) (cJ ds rows hm) hm br aW ext name:=by
   rw[YU]at A_⊢;have:=Xp (x:=name) _ _ (by rw[X6];exact A_);rw[X6]at this;exact this
  rw[yx]at gF;refine bX _ _ ⟨fun b u e=>?_,oH.upd,gF,rfl⟩;rw[aP (dm e rX)];exact iD _ _ e
 rintro YI ado ⟨YV,tM,gF,rfl⟩;subst aV;nofun;exact⟨∅,fun r ao=>q r hs nk xh br aW hm ext _ sj (by rw[MP];exact bT) (YV.trans (bh ao)) tM.upd aR (s2.free js) (fun q aI=>(kV.get aI).1) (gF.keep fun b u _ e=>bh ao _ _ e) Vb⟩
theorem Ep(k:S.Ok):∀{ext:List Nat} {p:Nat} {sp:Int},iP S p sp ext->-1<=sp->(S.own p=true->sp=S.fp p)->↑ext<=mZ S p sp/\(∀x∈ext,x<S.m)/\(∀(i a b:Nat),(p::ext)[i]?\a->(p::ext)[i+1]?\b->a≠b)/\(p::ext).getLast?\S.h
 |[],p,sp,h,_,_=>(eW _,(λx h=>by simp at h),(λi a b ae ak=>by simp at ak),by rw[show p=S.h from h];rfl)
 | x::r,p,sp,h,ay,aS=>by
  obtain⟨ae,ag,⟨a1,a2,dH⟩|⟨a1,a2,dH⟩⟩:=h
  .obtain⟨ee,eo,ft,gP⟩:=Ep k dH (by have:=(q' k x).1;omega) (fun _=>rfl);have hw:=Uz k (p:=p) a2;refine⟨by rw[gW];omega,fun y aM=>(ei.mp aM).elim (fun e=>by rw[e];exact ag) (eo y),fun i a b aO aa=>?_,by rw[S7];exact gP⟩;cases i with
   |zero=>
    cases aO;cases aa;intro e;subst e;rw[aS a1]at a2;omega
   |succ i=>exact ft i a b aO aa
  .obtain⟨ee,eo,ft,gP⟩:=Ep k dH ay (fun z=>by rw[a2]at z;cases z);have hw:=VH (sp:=sp) a1 a2;refine⟨by rw[gW];omega,fun y aM=>(ei.mp aM).elim (fun e=>by rw[e];exact ag) (eo y),fun i a b aO aa=>?_,by rw[S7];exact gP⟩;cases i with
   |zero=>
    cases aO;cases aa;intro e;subst e;rw[a1]at a2;cases a2
   |succ i=>exact ft i a b aO aa
def yo(k:S.Ok)(f s:Nat):-1<=hp S f s:=by
 unfold hp;have:=(q' k s).1;have:=(q' k f).1;split
 .omega
 .split <;> omega
def Uw(k:S.Ok){p:Nat}{sp:Int}(h:-1<=sp):mZ S p sp<=15:=by
 have:=k.sg;unfold mZ;split <;> omega
theorem Lq(k:S.Ok)(h:zv S cb)(aM:ys∈cb):yC S.m ys/\ys.getLast?\S.h:=by
 let(f,s,ext,rfl,ae,ak,aZ,bY):=(h ys).mp aM;let(ee,eo,ft,gP):=Ep k bY (yo k f s) (λz=>by unfold hp;rw[if_pos z]);have:=Uw k (p:=s) (yo k f s);refine((by simp,by rw[gW,gW];omega,λx ag=>?_,λi a b aO aa=>?_),by rw[S7];exact gP)
 .rcases ei.mp ag with e|e
  .rw [e];exact ae
  .rcases ei.mp e with e|e
   .rw [e];exact ak
   .exact eo x e
 .cases i with
  |zero=>cases aO;cases aa;exact aZ
  |succ i=>exact ft i a b aO aa
def ak8(k:S.Ok)(h:zv S cb)(ak:S.m≠1):cb≠[]:=λz=>by
 have hm:=k.hm;have:[if S.h=0 then 1 else 0,S.h]∈cb:=(h _).mpr (_,S.h,[],rfl,by split <;> omega,hm,by split <;> omega,rfl);rw[z]at this;cases this
def xJ(S:fA)(cg:Nat->Nat->Int)(st:Nat->Int)(z:Int):Prop:=(S.m=1/\z=0)\/(S.m≠1/\∃cb ch,zv S cb/\ch∈cb/\z=mf cg st ch/\∀ys∈cb,mf cg st ys<=z)
def zV(ds:List bf)(rows:List ST)(cg:Nat->Nat->Int)(h:Nat)(x:Str)(z:Int)(b4:List (List Str))(b:Nat):Prop:=(↑rows=1/\z=0/\b4=[[x]]/\b=0) \/
 (↑rows≠1/\∃f p ext,f<↑rows/\p<↑rows/\f≠p/\iP (dR ds rows h) p (hp (dR ds rows h) f p) ext/\yC ↑rows (f::p::ext)/\z=mf cg (cJ ds rows h) (f::p::ext)/\b4=r7 rows cg (d1 rows) (cJ ds rows h) h f p ext x/\b=↑(dk rows cg (d1 rows) (gm h f))+(d1 rows f).toNat)
noncomputable def Oy:Expr:=match rV (top 53)with
 |[_,_,_,.Assign _ (.Call _ _ [⟨_,e,_⟩] _) _,_,_]=>e
 |_=>.Constant .none 0 (0,0,0,0)
noncomputable abbrev anY:Str:=af "worst"++af ".<locals>."++af "<lambda>"
def ajU:wR "each" "stages" "home" (TU Oy):=(rfl,rfl,rfl,∅,rfl,rfl,rfl,∅,∅)
noncomputable abbrev tE(bP:Addr)(H:av):Prop:=Tab H bP (PV Oy) anY
section
variable(P:Program)(w:World)
def VS(t:bS)(bP:Addr):bO:=λvs H Q _=>∃aH c n ds rows cg,∃h i:Nat,∃d,vs=[⇑aH,.str d.name]/\fJ P w t H aH c n ds rows/\ii ds rows/\nh n ds rows cg/\ds[i]?\d/\dz (ha (rows.map (·.mem))) (cz d.name)\(.int (h:Nat))/\h<↑rows/\tE bP H/\aL H /\
 ∀r z a (b:Nat) qs b4 I,iy bP H I->aL I->tE bP I->I r\(.tup [.int z,⇑a,.int b])->xJ (dR ds rows h) cg (cJ ds rows h) z->H r=none->H a=none->(∀q∈qs,H q=none)->nJ I a qs b4->zV ds rows cg h d.name z b4 b->Q ⇑r I
end
theorem ajl(dv:ml base t.lw bP)(gX:base.BuiltinsAt mg bP):cq P base T 20 t.CP t.z1 Dz (VS P w t bP):=by
 have G3:=T.alZ;have kc:cE P w K mg base dq 19 t.vh t.xo j_ (Ls t):=(sM T).mono ∅;have ah1:cE P w K mg base dq 19 t.BJ t.BD kH (VD P w t):=acF T;have abY:cE P w K mg base dq 19 t.DZ t.Bd BX (P5 P w t):=(aaD T).mono ∅;have adC:cE P w K mg base dq 19 t.zQ t.yb Ag (GI P w t):=(Q1 T).mono ∅;have aff:cE P w K mg base dq 17 t.zQ t.yb Ag (GI P w t):=(Q1 T).mono ∅;refine T.CL.WD zT (λvs H Q E h=>?_) (λfZ jY A outer s H vs Q E ao h=>?_)
 .let(aH,c,n,ds,rows,cg,h,i,d,rfl,_):=h;rfl
 let(aH,c,n,ds,rows,cg,h,i,d,rfl,cU,R,eb,hd,aE,bT,bF,bC,q):=h;have bR:=i' ao;refine(_,(db (ea (fK (bB (U 0) rfl) T.iQ T.o5 kc ao T.Gc .nil c3 (ai (U 1) aC)))
   (db (d4 (dh e3 (bB (U 0) rfl) aT (cL _)) (a4 (b7 (rK (ai aT (ai (e5 (ai (e5 (ai (U 1) aC)) aC)) (ai aT aC)))))) en)
   (db (o1 (i:=2) zT.aG rfl (mh rfl) (p9 bR (bB (U 0) rfl) (U 1) (λ_ _=>rfl)))
   (db (b' (i:=3) zT.aG (aa5 (pr:="each") (y:="stages") (z:="home") (i1:=0) (i2:=2) rfl rfl T.E8 (ai (b3 ah1 ao T.agm T.MG.bo T.abI (ai (U 0) (ai (U 2) aC))) aC) (jY.symm.trans G3,dv,gX) ao ajU rfl rfl rfl rfl rfl rfl rfl rfl (λ_ _ _ _=>rfl) (λ_ _ _ _=>(_,(YB aff (eY.deeper ao.in1 _) rfl T.UK T.EG.bo T.Wj .nil c3 (ai (U 1) (ai (U 2) (ai (U 0) aC)))),by first|rfl|(dsimp only[pV];done)|(dsimp only[pV];exact rfl)))))
   (db (MH (b3 abY ao T.ahU T.Ig.bo T.aj' (ai (U 0) (ai (U 1) (ai (U 3) aC)))) (kC (K:=K) (n:=2) rfl rfl (ac (b8 (i:=4) zT.aG) (ac (b8 (i:=5) zT.aG) kx))))
   (a4 (b7 (rK (ai (b3 adC ao T.UK T.EG.bo T.Wj (ai (U 0) (ai (U 2) (ai (U 3) aC)))) (ai (U 4) (ai (U 5) aC))))))))))),?_)
 let(iS,le,mo,cG,so,aS,afc,ms,kvs,aq,C,bV,eC,gn,eB,hh,km,jF):=id cU;let(_,Gg,apC,ar0,wz,aqF,ar3):=id C;have kI:=R.kI;have k:=R.ok bT;have hm:(dR ds rows h).m=↑rows:=rfl;simp only[dT];exists (λau I=>I=H/\au=[~~~aH,some (.str d.name),none,none,none,none]),0
 .nofun;exact(_,CE T aq,_,rfl,_,_,wz,lg _ _ _ ∅,c,n,ds,i,d,rfl,C,hd,λa _=>bX _ _ (rfl,rfl))
 intro fG H1 (rfl,rfl);subst aV;simp only[dT];by_cases aW:↑rows=1
 .refine du true (λQ aY=>?_) (λ_=>?_) (λz=>nomatch z)
  .nofun;refine(_,qt T aq,rfl,?_);rw[aW];exact aY
  .nofun;refine(∅,λp ar=>(∅,λda kj=>(∅,λcX gc=>?_)));have nE:aN H1 (upd H1 p (.lst [V.str d.name])):=bh ar;have sB:=bh (o:=.lst [V.ref p]) kj;have jc:=bh (o:=.tup [V.int 0,V.ref da,V.int 0]) gc;have ck:p≠da:=λz=>by rw[<- z,aR]at kj;cases kj
   exact q cX 0 da 0 [p] [[d.name]] _ (aN.p (nE.trans (sB.trans jc))) bC.upd.upd.upd (bF.step (nE.trans (sB.trans jc))) aR (.inl (aW,rfl)) (nE.free (sB.free gc)) (nE.free kj) (λq aI=>by rw[d9.mp aI];exact ar) (jc _ _ aR,rfl,ni.mpr (k2,qx),λz=>ck (d9.mp z).symm,λi q ys aI aM=>by
    cases i with
    |zero=>cases aI;cases aM;exact jc _ _ (sB _ _ aR)
    |succ i=>simp at aI) (.inl (aW,rfl,rfl,rfl))
 refine du false (λQ aY=>?_) (λz=>nomatch z) (λ_=>?_)
 .nofun;refine(_,qt T aq,rfl,?_);rw[decide_eq_false (λz=>aW (by injection z with z;omega))];exact aY
 simp only[gy,dT];exists (λau I=>I=H1/\au=[~~~aH,some (.str d.name),some (.int h),none,none,none]),0
 .have a7:=i4.k (k:=cz d.name) hh;rw[aE]at a7;nofun;exact(_,xZ T aq,_,rfl,_,a7,bX _ _ (rfl,rfl))
 intro cD aw (rfl,rfl);subst aV;simp only[dT];exists (λau I=>iy bP aw I/\aL I/\tE bP I/\∃cl ch cb,I cl\(.lst (bH ch))/\zv (dR ds rows h) cb/\ch∈cb/\(∀ys∈cb,mf cg (cJ ds rows h) ys<=mf cg (cJ ds rows h) ch)/\au=[~~~aH,some (.str d.name),some (.int h),~~~cl,none,none]),0
 ·(nofun; repeat (dsimp only[QT];nofun));refine(aH,c,n,ds,rows,h,rfl,cU,R,bT,bC,λr qs cb I aj d0 L pZ=>?_);have aeh:=ak8 k pZ aW;have at_:∀{i:Nat} {dY:Addr},qs[i]?\dY->∃xs,cb[i]?\xs/\xs∈cb/\I dY\(.lst (bH xs))/\cb.getD i []=xs:=λ{i dY} aI=>by
   have ah:i<↑cb:=by rw[<- L.ln];exact(b0.mp aI).1
   have ag:cb[i]?\cb[i]:=a6 ah;exact(_,ag,bU ag,L.al i dY _ aI ag,by rw[kd,ag];rfl)
  refine(r,rfl,qs.map V.ref,az.of L.at_,λz=>aeh (List.eq_nil_of_length_eq_zero (by rw[<- L.ln];exact List.length_eq_zero_iff.mpr (WB.mp z))),bF.step aj,λi=>mf cg (cJ ds rows h) (cb.getD i []),λba sp tl vy=>?_);have oo:hz I ba:=wE (bF.step aj) sp;have ajE:iy bP aw ba:=(aN.p aj).trans sp;have ae5:hz aw ba:=(aeP aj).trans oo;refine(λi x ag=>?_,λi m nu ZQ=>?_)
  .let(dY,aI,rfl):=b_ ag;let(xs,ae,ak,aZ,bY):=at_ aI;exact(aH,c,n,ds,rows,cg,dY,xs,h,rfl,cU.nB ae5,R,eb,bT,oo.lst aZ,(Lq k pZ ak).1,tl d0,(by show V.int _=V.int (mf cg (cJ ds rows h) (cb.getD i []));rw[bY]),rfl)
  .obtain⟨dY,aI,rfl⟩:=b_ nu;obtain⟨xs,ae,ak,aZ,bY⟩:=at_ aI;refine bX _ _ ⟨ajE,tl d0,vy,dY,xs,cb,oo.lst aZ,pZ,ak,fun ys aM=>?_,rfl⟩;obtain⟨j,aJ⟩:=hy aM;have fL:j<↑qs:=by rw[L.ln];exact(b0.mp aJ).1
   have:=ZQ j (⇑qs[j]) (by rw[dg,a6 fL];rfl);have this:mf cg (cJ ds rows h) (cb.getD j [])<=mf cg (cJ ds rows h) (cb.getD i []):=this;rw[bY,kd,aJ]at this;exact this
 intro gi ba (s3,dw,vy,cl,ch,cb,PC,pZ,gV,wB,rfl);let(co,_):=Lq k pZ gV;have VC:=cU.nB (wE bF s3);have fr:∀{b:Addr},ba b=none->aw b=none:=λ{b} e=>by
  cases aQ:aw b with
  |none=>rfl
  |some u=>
   by_cases c:b=bP
   .let(ps,Cw,_):=vy;rw[<- c,e]at Cw;cases Cw
   .rw [s3 b u c aQ]at e;cases e
 let(f,p,ext,sj,hf,ar,i6,amG):=(pZ ch).mp gV;have q7:=(Lq k pZ gV).2;subst aV;simp only[dT];exists (λau I=>aN ba I/\aL I/\∃(a:Addr) (b:Nat) (qs:List Addr),ba a=none/\(∀q∈qs,ba q=none)/\nJ I a qs (r7 rows cg (d1 rows) (cJ ds rows h) h f p ext d.name)/\b=↑(dk rows cg (d1 rows) (gm h f))+(d1 rows f).toNat/\au=[~~~aH,some (.str d.name),some (.int h),~~~cl,~~~a,some (.int b)]),0
 .nofun;refine(aH,c,n,ds,rows,cg,d.name,cl,ch,rfl,VC,R,eb,PC,co,dw,λr a b qs br aW hm ext' I ef aK aj d0 bD aO FV gF aa=>(r,rfl,_,dM.of bD,rfl,_,_,rfl,_,_,rfl,rfl,?_));rw[sj]at ef;cases ef;rw[q7]at aK;have aK:h=hm:=d2 aK;subst aK;exact bX _ _ (aj,d0,a,b,qs,aO,FV,gF,aa,rfl)
 intro kE cn (s4,di,a,b,qs,aO,FV,gF,aa,rfl);subst aV;nofun;refine(aH,c,n,ds,rows,cg,cl,ch,h,rfl,VC.same s4,R,eb,bT,s4 _ _ PC,co,di,∅,λr ao=>q r _ a b qs _ _ (s3.trans (aN.p (s4.trans (bh ao)))) di.upd (vy.step (s4.trans (bh ao))) aR (.inr (aW,cb,ch,pZ,gV,rfl,wB)) (fr (s4.free ao)) (fr aO) (λq aI=>fr (FV q aI)) (gF.keep λb u _ e=>bh ao _ _ e) (.inr (aW,f,p,ext,hf,ar,i6,amG,by rw[<- sj];exact co,by rw[sj],rfl,aa)))
noncomputable def d8(ds:List bf)(rows:List ST)(s:dy)(j:Nat):Int:=if bL ds rows j=dc then s.pt else s.po
noncomputable def pW(S:fA)(last:Int):Int:=if 0<=last/\last≠S.h then S.fp last.toNat else -1
def ET{m a b:Int}(aO:0<=a)(YK:a<m)(aa:0<=b)(j':b<m):(a-b-1)%m=if b<a then a-b-1 else a-b-1+m:=by
 split
 .exact oT () ()
 .rw [show a-b-1=(a-b-1+m)+m*(-1)by omega,ML,oT () ()];omega
def ajX{rows:List ST}(W:ii ds rows)(a7:rows[g]?\p7)(aJ:j<↑rows):d8 ds rows (f5 s i g (c0 ds p7)) j=if bL ds rows j=bL ds rows g then(g:Int)else d8 ds rows s j:=by
 have lY:=(b0.mp a7).1;have e:bL ds rows g=c0 ds p7:=by unfold bL;rw[a7];rfl
 have xc:dc≠iN:=∅
 unfold d8 f5;show(if bL ds rows j=dc then(if c0 ds p7=dc then(g:Int)else s.pt)else(if c0 ds p7=dc then s.po else(g:Int)))=_;rw[<- e];rcases W.two lY with a|a <;> rcases W.two aJ with b|b <;> rw[a,b] <;> simp[xc,xc.symm]
def Ip{rows:List ST}(R:ii ds rows){h x:Nat}(ag:x<↑rows):1<=cJ ds rows h x:=by
 have:=R.lo _ (gf ag);unfold cJ;rw[a6 ag];simp only[];split <;> omega
section
variable{n:Int}{ds:List bf}{rows:List ST}{h:Nat}
def Jk(ah:i≠h):pW (dR ds rows h) (i:Int)=(dR ds rows h).fp i:=by
 have e:(dR ds rows h).h=h:=rfl;unfold pW;rw[if_pos ((),by rw[e];omega),mN]
end
def dG.aaF{n:Int}{ds:List bf}{sts:List g9}(h:dG n ds sts){k:Nat}(ax:k<↑ds):∃j,j<↑sts/\k∈mP sts j:=by
 have hm:k∈(sts.map (·.fg)).flatten:=h.kR.bt.pm.mem_iff.mpr (pq.mpr ax);let(l,aK,mH):=Ga.mp hm;let(x,ag,rfl):=cj.mp aK;let(j,aJ,e):=CA ag;exact(j,aJ,by rw[FA (a6 aJ),e];exact mH)
def agY(h:ph n d):l7 d<=30:=by
 have:=h.of;unfold l7;split <;> omega
def af7(d:bf):mu d<=30:=by
 unfold mu;split <;> omega
section
variable{n:Int}{ds:List bf}{sts:List g9}
def Ml:↑(b6 ds sts)=↑sts:=by unfold b6;rw[aX]
def Lw{j:Nat}{r:ST}(h:(b6 ds sts)[j]?\r):∃x,sts[j]?\x/\r=n3 ds x:=by
 unfold b6 at h;rw[dg]at h;let(x,ag,rfl):=yc.mp h;exact(x,ag,rfl)
def dG.Pb(X:dG n ds sts):ii ds (b6 ds sts):=by
 refine(λr ao=>?_,by rw[Ml];exact X.len,λr ao=>?_,λr ao=>?_)
 .obtain⟨j,aJ⟩:=hy ao;have fL:j<↑sts:=by rw[<- Ml (ds:=ds)];exact(b0.mp aJ).1
  have:=X.sort fL;unfold bL at this;rw[aJ]at this;have this:c0 ds r=if NY ds sts j=true then dc else iN:=this;rw[this];split
  .exact .inl rfl
  .exact .inr rfl
 .let(x,ag,rfl):=cj.mp ao;have:=X.kR.bd x ag;exact(this.1,this.2.2.1,by show x.ah<=1000;omega)
 .let(x,ag,rfl):=cj.mp ao;show eJ ds x≠[];unfold eJ;exact λz=>(X.kM.bd x ag).2.2.1 (WB.mp z)
def dG.RX(X:dG n ds sts){k h:Nat}(hd:ds[k]?\d)(ax:k∈mP sts h):dz (ha ((b6 ds sts).map (·.mem))) (cz d.name)\(.int (h:Nat)):=by
 let(eO,r,aE,e4,_):=oL (X.tell (bU hd));rw[(X.N0 hd).mpr ax]at e4;rw[aE,d2 e4]
theorem U9(h:∀d∈ds,ph n d){x:Int}(ag:x∈iR n ds f g):x<=30:=by
 have JN:∀{y:Str} {d:bf},ie ds y\d->d∈ds:=λe=>aaJ e
 unfold iR at ag;rcases eI.mp ag with ag|ag
 .rcases eI.mp ag with ag|ag
  .rcases eI.mp ag with ag|ag
   .rw [d9.mp ag];decide
   .obtain⟨y,_,rfl⟩:=cj.mp ag;unfold rU;cases e:ie ds y with
    |none=>simp
    |some d=>exact agY (h d (JN e))
  .obtain⟨y,_,rfl⟩:=cj.mp ag;unfold uN;cases e:ie ds y with
   |none=>simp
   |some d=>exact af7 d
 .obtain⟨y,_,ag⟩:=List.mem_flatMap.mp ag;unfold q0 at ag;split at ag
  .cases ag
  .obtain⟨z,_,rfl⟩:=cj.mp ag;unfold WP;split
   .rename_i d e ae ak;have:=(h d (JN ae)).of;have:=(h e (JN ak)).w4;split <;> omega
   .decide
theorem dG.cp(X:dG n ds sts):nh n ds (b6 ds sts) (My.cp n ds (b6 ds sts)):=by
 have is:∀(i j:Nat) (r s:ST),(b6 ds sts)[i]?\r->(b6 ds sts)[j]?\s->pj (iR n ds r.mem s.mem) (My.cp n ds (b6 ds sts) i j):=λi j r s ah aJ=>by
  let(oR,ae,ak):=ym (iR n ds r.mem s.mem) (by unfold iR;simp);rw[BF ah aJ (ae,ak)];exact(ae,ak)
 refine(λi j r s ah aJ _=>is i j r s ah aJ,λi j ah aJ _=>?_);have h:=is i j _ _ (a6 ah) (a6 aJ);exact(h.2 0 (by unfold iR;simp),by have:=U9 X.ok h.1;omega)
theorem dG.ac6(X:dG n ds sts)(i j:Nat):My.cp n ds (b6 ds sts) i j<=30:=by
 cases ah:(b6 ds sts)[i]? with
 |none=>unfold My.cp;rw[ah];exact(by decide:(0:Int)<=30)
 | some r=>
  cases aJ:(b6 ds sts)[j]? with
  |none=>unfold My.cp;rw[ah,aJ];exact(by decide:(0:Int)<=30)
  |some s=>
   let(oR,ae,ak):=ym (iR n ds r.mem s.mem) (by unfold iR;simp);rw[BF ah aJ (ae,ak)];exact U9 X.ok ae
def dG.TQ(X:dG n ds sts):∀(i:Nat) (r:ST) (x:Str),(b6 ds sts)[i]?\r->x∈r.mem->gO (b6 ds sts) x\i/\x∈ds.map (·.name):=λi r x ah ag=>by
 let(s,ay,rfl):=Lw ah;let(k,ax,rfl):=cj.mp (show x∈eJ ds s from ag);have mH:=X.lt (bU ay) ax;have hd:=a6 mH;have o':ig ds k=ds[k].name:=by unfold ig;rw[hd];rfl
 rw[o'];exact((X.N0 hd).mpr (by rw[FA ay];exact ax),cj.mpr (_,gf mH,rfl))
end
def tJ(n:Int)(ds:List bf)(rows:List ST)(s:dy)(xs:List Str)(aj:dy):Prop:=te n ds rows (hQ rows s xs) (xs.any (g0 rows s)) aj
noncomputable def fQ(n:Int)(ds:List bf)(rows:List ST)(q:dy->Prop):dy->List (List Str)->dy->Prop
 |s,[],aj=>aj=s
 |s,xs::A,aj=>q s/\∃s1,tJ n ds rows s xs s1/\fQ n ds rows q s1 A aj
section
variable{n:Int}{ds:List bf}{rows:List ST}{q:dy->Prop}
theorem fQ.app:∀{A B:List (List Str)} {s s1 s2:dy},fQ n ds rows q s A s1->fQ n ds rows q s1 B s2->fQ n ds rows q s (A++B) s2
 |[],B,s,s1,s2,h,g=>by cases(show s1=s from h);exact g
 |xs::A,B,s,s1,s2,⟨ae,s3,ak,aZ⟩,g=>(ae,s3,ak,fQ.app aZ g)
def fQ.one(h:q s)(g:tJ n ds rows s xs s1):fQ n ds rows q s [xs] s1:=(h,s1,g,rfl)
def X3{wt:List Str}(h:g0 rows s y=true):fM rows s wt [y]=wt:=by
 show ma rows s wt y=wt;unfold ma;rw[if_pos (.inl h)]
def vE{wt:List Str}(h:g0 rows s y=false)(aM:y∉wt):fM rows s wt [y]=wt++[y]:=by
 show ma rows s wt y=wt++[y];unfold ma;rw[if_neg (λz=>z.elim (λz=>by rw[h]at z;cases z) aM)]
def Ud{wt:List Str}(aM:y∈wt):fM rows s wt [y]=wt:=by
 show ma rows s wt y=wt;unfold ma;rw[if_pos (.inr aM)]
def uK(h:s.bq\i)(y:Str):g0 rows s y=decide (gO rows y\i):=by unfold g0;rw[h]
def aoS(h:s.bq=none)(y:Str):g0 rows s y=false:=by unfold g0;rw[h]
theorem Q9{i j h:Nat}(al:∀y∈s.wt,m4 rows y=j\/m4 rows y=h)(ex:∃y∈s.wt,m4 rows y=j)(aW:bL ds rows j≠bL ds rows h->bL ds rows i=bL ds rows h)
  (bJ:bL ds rows j=bL ds rows h->kh (d8 ds rows s h) ↑rows j<=kh (d8 ds rows s h) ↑rows h):sG ds rows s i j:=by
 have mem:∀k∈jJ rows s,k=j\/k=h:=λk ax=>by
  let(y,aM,rfl):=cj.mp ax;exact al y aM
 have aJ:j∈jJ rows s:=by
  let(y,aM,e):=ex;exact cj.mpr (y,aM,e)
 by_cases e:bL ds rows j=bL ds rows h
 .have so:∀k∈jJ rows s,bL ds rows k=bL ds rows h:=λk ax=>by rcases mem k ax with rfl|rfl;exact e;rfl
  have ef:gg ds rows s i=jJ rows s:=by
   unfold gg;by_cases c:(kp ds rows s i).isEmpty=true
   .rw [if_pos c]
   .rw[if_neg c];unfold kp at c⊢;have:bL ds rows h≠bL ds rows i:=λz=>c (by
     rw[Nb,KU];intro k ax;rw[so k ax,z];simp)
    rw[ajf];intro k ax;rw[so k ax];simpa using this
  have aK:m1 ds rows s (gg ds rows s i)=d8 ds rows s h:=by
   rw[ef];unfold m1 d8;cases aB:jJ rows s with
   |nil=>rw[aB]at aJ;cases aJ
   |cons k r=>rw[show(k::r).headD 0=k from rfl,so k (by rw[aB];exact .head _)]
  unfold sG;rw[aK,ef];exact(aJ,λk ax=>by rcases mem k ax with rfl|rfl;exact D3 _;exact bJ e)
 .have mQ:=aW e;have xj:j∈kp ds rows s i:=j1.mpr (aJ,by rw[mQ];simpa using e);have ck:¬(kp ds rows s i).isEmpty=true:=λz=>by rw[Nb.mp z]at xj;cases xj
  have ef:gg ds rows s i=kp ds rows s i:=by unfold gg;rw[if_neg ck]
  unfold sG;rw[ef];refine(xj,λk ax=>?_);let(cc,dX):=j1.mp ax;rcases mem k cc with rfl|rfl
  .exact D3 _
  .rw [mQ]at dX;simp at dX
def akV{m h j:Nat}{last:Int}(bT:h<m)(aJ:j<m)(oI:0<=last)(cy:last<m)(F7:S.m=m)(aeG:S.h=h)(ay:pW S last<S.fp j):kh last m j<=kh last m h:=by
 unfold pW fA.fp at ay;unfold kh;rw[F7,aeG]at ay;let(y,rfl):=Int.eq_ofNat_of_zero_le oI;by_cases c:(y:Int)=h
 .rw [ET () () () (),ET () () () ()];split <;> split <;> omega
 .rw [if_pos ((),c),mN]at ay;rw[ET () () () (),ET () () () ()]at *;split at ay <;> split at ay <;> split <;> split <;> omega
theorem N8(aJ:rows[j]?\hu)(aI:∀s:dy,s.bq=none->q s):∀(k:Nat) (s:dy) (xs:List Str),s.bq=none->s.lf=i->s.bt=j->cp n ds rows i j=s.cQ+((k:Int)+1) ->
  ∃aj,fQ n ds rows q s (xs::f6 k []) aj/\aj.bq\j/\aj.bI=1/\aj.wt=(fM rows s s.wt xs).filter (λx=>!decide (x∈hu.mem))/\aj.pt=s.pt/\aj.po=s.po
 |0,s,xs,h,ah,a7,aB=>by
  refine(_,(aI s h,_,.inl (h,hu,by rw[show(hQ rows s xs).bt=s.bt from rfl,a7];exact aJ,rfl),rfl),?_);unfold iT;rw[if_neg (by show ¬s.cQ+1<cp n ds rows s.lf s.bt;rw[ah,a7];omega)];exact(by rw[<- a7];rfl,rfl,rfl,rfl,rfl)
 | k+1,s,xs,h,ah,a7,aB=>by
  have e:iT n ds rows {hQ rows s xs with cQ:=s.cQ+1} hu.mem={hQ rows s xs with cQ:=s.cQ+1}:=by
   unfold iT;rw[if_pos (by show s.cQ+1<cp n ds rows s.lf s.bt;rw[ah,a7];omega)]
  let(aj,p,a1,a2,dH,iF,lK):=N8 aJ aI k {hQ rows s xs with cQ:=s.cQ+1} [] h ah a7 (by show _=s.cQ+1+_;omega);exact(aj,(aI s h,_,.inl (h,hu,by rw[show(hQ rows s xs).bt=s.bt from rfl,a7];exact aJ,e.symm),p),a1,a2,dH,iF,lK)
theorem XZ(ao:rows[i]?\r)(aM:gO rows y\i)(aI:∀s:dy,s.bq\i->q s):∀(k:Nat) (s:dy),s.bq\i->(∀b:Nat,b<k->mG ds rows {s with bI:=s.bI+b} r true=true)->fQ n ds rows q s (f6 k [y]) {s with bI:=s.bI+k}
 |0,s,h,_=>by show _=_;simp
 | k+1,s,h,aa=>by
  have hf:g0 rows s y=true:=by rw[uK h];exact decide_eq_true aM
  have eg:hQ rows s [y]=s:=by unfold hQ;rw[X3 hf]
  refine(aI s h,{s with bI:=s.bI+1},.inr (.inl (i,r,?_,ao,?_,?_)),?_)
  .rw [eg];exact h
  .rw [eg,mT,hf,ry];have:=aa 0 ();rw[show s.bI+((0:Nat):Int)=s.bI by omega]at this;exact this
  .rw [eg]
  .have:=XZ ao aM aI k {s with bI:=s.bI+1} h (λb d_=>by
    have:=aa (b+1) ();rw[show s.bI+((b+1:Nat):Int)=s.bI+1+(b:Int)by omega]at this;exact this)
   rw[show s.bI+((k+1:Nat):Int)=s.bI+1+(k:Int)by omega];exact this
def Wq(ao:rows[i]?\r)(aM:gO rows y\i)(aI:∀s:dy,s.bq\i->q s)(k:Nat)(s:dy)(h:s.bq\i)(aa:∀b:Nat,b<k->mG ds rows {s with bI:=s.bI+b} r true=true) :
  ∃s2,fQ n ds rows q s (f6 k [y]) s2/\s2.bq\i/\s2.bI=s.bI+k/\s2.wt=s.wt/\∀j,d8 ds rows s2 j=d8 ds rows s j:=(_,XZ ao aM aI k s h aa,h,rfl,rfl,λ_=>rfl)
def sT(rows:List ST):Prop:=∀(i:Nat) (r:ST) (x:Str),rows[i]?\r->x∈r.mem->gO rows x\i
theorem pT(W:ii ds rows)(ao:rows[i]?\r):c4 rows i∈r.mem:=by
 unfold c4;rw[ao];have:=W.cG r (bU ao);cases e:r.mem with
 |nil=>exact absurd e this
 |cons y ys=>
  show(r.mem.headD (af ""))∈y::ys;rw[e];exact .head _
def Fk(h:gO rows y\j):m4 rows y=j:=by unfold m4;rw[h];rfl
theorem xz(ay:s.bq\i)(ao:rows[i]?\r)(d6:rows[j]?\hu)(f':xs.any (g0 rows s)=false)(ne:fM rows s s.wt xs≠[])(nO:r.lo<=s.bI)(P:sG ds rows (hQ rows s xs) i j) :
  tJ n ds rows s xs (iT n ds rows (f5 (hQ rows s xs) i j (c0 ds hu)) hu.mem):=by
 refine .inr (.inr (i,r,j,hu,ay,ao,?_,P,d6,rfl));unfold mG;rw[f',T1,om,Je,yz];refine(?_,decide_eq_false (by show ¬s.bI<r.lo;omega));cases e:fM rows s s.wt xs with
 |nil=>exact absurd e ne
 |cons y ys=>show(fM rows s s.wt xs).isEmpty=false;rw[e];rfl
def JO{so:Str}(d6:rows[j]?\hu)(h0:0<=cp n ds rows i j)(aI:∀s:dy,s.bq=none->q s) :
  ∃aj,fQ n ds rows q (iT n ds rows (f5 S i j so) hu.mem) (f6 (cp n ds rows i j).toNat []) aj/\aj.bq\j/\aj.bI=1/\aj.wt=S.wt.filter (λx=>!decide (x∈hu.mem))/\aj.pt=(f5 S i j so).pt/\aj.po=(f5 S i j so).po:=by
 by_cases c:(0:Int)<cp n ds rows i j
 .obtain⟨k,ax⟩:∃k:Nat,(cp n ds rows i j).toNat=k+1:=⟨(cp n ds rows i j).toNat-1,()⟩;have e:iT n ds rows (f5 S i j so) hu.mem=f5 S i j so:=by unfold iT;rw[if_pos (show(f5 S i j so).cQ<cp n ds rows (f5 S i j so).lf (f5 S i j so).bt from c)]
  rw[e,ax];exact N8 (i:=i) d6 aI k (f5 S i j so) [] rfl rfl rfl (by show _=(0:Int)+_;omega)
 .have e:(cp n ds rows i j).toNat=0:=()
  rw[e];refine(_,rfl,?_);unfold iT;rw[if_neg (show ¬(f5 S i j so).cQ<cp n ds rows (f5 S i j so).lf (f5 S i j so).bt from c)];exact(rfl,rfl,rfl,rfl,rfl)
def akz{so:Str}(d6:rows[j]?\hu)(h0:0<cp n ds rows i j)(aI:∀s:dy,s.bq=none->q s)(xs:List Str) :
  ∃aj,fQ n ds rows q (iT n ds rows (f5 S i j so) hu.mem) (xs::f6 ((cp n ds rows i j).toNat-1) []) aj/\aj.bq\j/\aj.bI=1/\aj.wt=(fM rows (f5 S i j so) S.wt xs).filter (λx=>!decide (x∈hu.mem))/\aj.pt=(f5 S i j so).pt/\aj.po=(f5 S i j so).po:=by
 have e:iT n ds rows (f5 S i j so) hu.mem=f5 S i j so:=by unfold iT;rw[if_pos (show(f5 S i j so).cQ<cp n ds rows (f5 S i j so).lf (f5 S i j so).bt from h0)]
 rw[e];exact N8 (i:=i) d6 aI _ (f5 S i j so) xs rfl rfl rfl (by show _=(0:Int)+_;omega)
def DG{i j k:Nat}(W:ii ds rows)(d6:rows[j]?\hu)(ax:k<↑rows)(aq:aj.pt=(f5 S i j (c0 ds hu)).pt)(aD:aj.po=(f5 S i j (c0 ds hu)).po):d8 ds rows aj k=if bL ds rows k=bL ds rows j then(j:Int)else d8 ds rows S k:=by
 rw[<- ajX (s:=S) (i:=i) W d6 ax];unfold d8;rw[aq,aD]
def UT(W:ii ds rows)(N:sT rows)(eb:nh n ds rows (cp n ds rows))(ao:rows[a]?\r)(aa:b<↑rows)(i_:a≠b)(ae:s.bq\a)(ak:s.bI=1)(aZ:s.wt=[]) :
  ∃s1,fQ n ds rows (λ_=>True) s (f6 (r.lo.toNat-1) [c4 rows a]++[[c4 rows b]]) s1/\(∃S:dy,S.wt=[c4 rows b]/\(∀k,d8 ds rows S k=d8 ds rows s k)/\s1=iT n ds rows (f5 S a b (c0 ds rows[b])) rows[b].mem):=by
 have iI:=(b0.mp ao).1;have nO:=W.lo r (bU ao);have qR:=a6 aa;have aO:=N a r _ ao (pT W ao);have HO:=N b _ _ qR (pT W qR);let(s2,da,ee,eo,ft,gP):=Wq (n:=n) (ds:=ds) (q:=λ_=>True) ao aO (λ_ _=>trivial) (r.lo.toNat-1) s ae (λk ax=>by unfold mG;rw[show({s with bI:=s.bI+(k:Int)}:dy).wt=[]from aZ];rfl);have f':g0 rows s2 (c4 rows b)=false:=by
  rw[uK ee,HO];exact decide_eq_false (λz=>i_ (d2 z).symm)
 have lU:fM rows s2 s2.wt [c4 rows b]=[c4 rows b]:=by rw[vE f' (by rw[ft,aZ];simp),ft,aZ];rfl
 refine(_,da.app (fQ.one trivial (xz ee ao qR (by rw[mT,f'];rfl) (by rw[lU];simp) () (Q9 (h:=b) (λy aM=>?_) (c4 rows b,?_,Fk HO) (λz=>absurd rfl z) (λ_=>D3 _)))),hQ rows s2 [c4 rows b],lU,gP,rfl)
 .have aM:y∈fM rows s2 s2.wt [c4 rows b]:=aM;rw[lU]at aM;rw[d9.mp aM];exact .inl (Fk HO)
 .show _∈fM rows _ s2.wt [c4 rows b];rw[lU];exact .head _
def X5(W:ii ds rows)(qR:rows[b]?\FQ):[c4 rows b].filter (λx=>!decide (x∈FQ.mem))=[]:=by simp[pT W qR]
def Wx(W:ii ds rows)(N:sT rows)(eb:nh n ds rows (cp n ds rows))(ao:rows[a]?\r)(aa:b<↑rows)(i_:a≠b)(ae:s.bq\a)(ak:s.bI=1)(aZ:s.wt=[]) :
  ∃aj,fQ n ds rows (λ_=>True) s (fi rows (cp n ds rows) a b r.lo.toNat) aj/\aj.bq\b/\aj.bI=1/\aj.wt=[]/\∀k,k<↑rows->d8 ds rows aj k=if bL ds rows k=bL ds rows b then(b:Int)else d8 ds rows s k:=by
 let(s1,da,S,aq,aD,rfl):=UT (n:=n) W N eb ao aa i_ ae ak aZ;have qR:=a6 aa;let(aj,cX,a1,a2,dH,iF,lK):=JO (n:=n) (q:=λ_=>True) (S:=S) (i:=a) (so:=c0 ds rows[b]) qR (eb.lo a b (b0.mp ao).1 aa i_).1 (λ_ _=>trivial);refine(aj,?_,a1,a2,by rw[dH,aq,X5 W qR],λk ax=>by rw[DG W qR ax iF lK,aD]);unfold fi;have:=da.app cX;rwa[jI,anC]at this
def aiu {h f:Nat} (W:ii ds rows) (N:sT rows) (eb:nh n ds rows (cp n ds rows)) (bT:h<↑rows) (hf:f<↑rows) (ae:s.bq\0) (ak:s.bI=1) (aZ:s.wt=[]) (bY:d8 ds rows s 0=0) :
  ∃aj,fQ n ds rows (λ_=>True) s (dk rows (cp n ds rows) (d1 rows) (gm h f)) aj/\aj.bq\f/\aj.bI=1/\aj.wt=[]/\d8 ds rows aj h=if bL ds rows f=bL ds rows h then(f:Int)else h:=by
 have QN:0<↑rows:=()
 have g1:∃s1,fQ n ds rows (λ_=>True) s (dk rows (cp n ds rows) (d1 rows) (if h=0 then [0]else [0,h])) s1/\s1.bq\h/\s1.bI=1/\s1.wt=[]/\d8 ds rows s1 h=h:=by
  by_cases c:h=0
  .subst c;rw[if_pos rfl];exact(s,rfl,ae,ak,aZ,bY)
  .rw [if_neg c];let(aj,p,a1,a2,dH,iF):=Wx (n:=n) W N eb (a6 QN) bT (et c) ae ak aZ;refine(aj,?_,a1,a2,dH,by rw[iF h bT,if_pos rfl]);show fQ n ds rows _ s (fi rows (cp n ds rows) 0 h (d1 rows 0).toNat++[]) aj;rw[qC,x8 (a6 QN)];exact p
 let(s1,da,ee,eo,ft,gP):=g1;unfold gm;by_cases c:f=h
 .subst c;rw[if_pos rfl,qC,if_pos rfl];exact(s1,da,ee,eo,ft,gP)
 .rw[if_neg c];let(aj,p,a1,a2,dH,iF):=Wx (n:=n) W N eb (a6 bT) hf (et c) ee eo ft;refine(aj,?_,a1,a2,dH,?_)
  .have e:dk rows (cp n ds rows) (d1 rows) ((if h=0 then [0]else [0,h])++[f])=dk rows (cp n ds rows) (d1 rows) (if h=0 then [0]else [0,h])++fi rows (cp n ds rows) h f (d1 rows h).toNat:=by
    split
    .rename_i z;subst z;show fi _ _ 0 f _++[]=[]++_;simp
    .show fi _ _ 0 h _++(fi _ _ h f _++[])=(fi _ _ 0 h _++[])++_;simp
   rw[e,x8 (a6 bT)];exact da.app p
  .rw[iF h bT,gP];by_cases z:bL ds rows h=bL ds rows f
   .rw [if_pos z,if_pos z.symm]
   .rw [if_neg z,if_neg (λy=>z y.symm)]
end
structure xw(ds:List bf)(rows:List ST)(h:Nat)(x:Str)(s:dy)(p:Nat)(sp:Int):Prop where
 bq:s.bq\p
 bI:s.bI=1
 wt:p≠h->s.wt=[x]
 sp:p≠h->sp=pW (dR ds rows h) (d8 ds rows s h)
 oI:0<=d8 ds rows s h
 cy:d8 ds rows s h<↑rows
section
variable{n:Int}{ds:List bf}{rows:List ST}{h:Nat}{x:Str}
def HT(S:fA)(p:Nat)(sp:Int)(j:Nat):Prop:=(S.own j=true/\sp<S.fp j)\/(S.own p=true/\S.own j=false)
noncomputable def pa(S:fA)(sp:Int)(j:Nat):Int:=if S.own j=true then S.fp j else sp
def Tx{p j:Nat}{sp:Int}(W:ii ds rows)(N:sT rows)(eb:nh n ds rows (cp n ds rows))(bT:h<↑rows)(ag:gO rows x\h)(ao:rows[p]?\r)(aJ:j<↑rows)(Fu:p≠j)(pz:p≠h)
  (ae:s.bq\p) (nO:r.lo<=s.bI) (f':xs.any (g0 rows s)=false) (JI:fM rows s s.wt xs=[x,c4 rows j]\/fM rows s s.wt xs=[c4 rows j,x]\/(x=c4 rows j/\fM rows s s.wt xs=[x])) (ay:sp=pW (dR ds rows h) (d8 ds rows s h)) (oI:0<=d8 ds rows s h) (cy:d8 ds rows s h<↑rows) (cN:HT (dR ds rows h) p sp j) :
  ∃aj,fQ n ds rows (λs=>s.bq≠some h) s (xs::f6 (cp n ds rows p j).toNat []) aj/\xw ds rows h x aj j (pa (dR ds rows h) sp j):=by
 have c2:=(b0.mp ao).1;have d6:=a6 aJ;have tK:=N j _ _ d6 (pT W d6);have FN:=W.ok bT;have aU:∀{k:Nat},k<↑rows->((dR ds rows h).own k=true↔bL ds rows k=bL ds rows h):=λ{k} ax=>by rw[C4 W bT ax];simp
 have iI:∀y∈fM rows s s.wt xs,m4 rows y=j\/m4 rows y=h:=λy aM=>by
  rcases JI with e|e|⟨bD,e⟩ <;> rw[e]at aM <;> simp only[ei,k2,or_false]at aM
  .rcases aM with rfl|rfl
   .exact .inr (Fk ag)
   .exact .inl (Fk tK)
  .rcases aM with rfl|rfl
   .exact .inl (Fk tK)
   .exact .inr (Fk ag)
  .rw [aM];exact .inr (Fk ag)
 have j8:c4 rows j∈fM rows s s.wt xs:=by
  rcases JI with e|e|⟨bD,e⟩ <;> rw[e]
  .simp
  .simp
  .rw [bD];simp
 have P:sG ds rows (hQ rows s xs) p j:=by
  refine Q9 (h:=h) iI (_,j8,Fk tK) (λc=>?_) (λc=>?_)
  .rcases cN with⟨a,_⟩|⟨a,_⟩
   .exact absurd ((aU aJ).mp a) c
   .exact (aU c2).mp a
  .show kh (d8 ds rows s h) ↑rows j<=kh (d8 ds rows s h) ↑rows h;rcases cN with⟨_,b⟩|⟨_,b⟩
   .exact akV bT aJ oI cy (S:=dR ds rows h) rfl rfl (by rw[<- ay];exact b)
   .rw [(aU aJ).mpr c]at b;cases b
 let(aj,cX,a1,a2,dH,iF,lK):=JO (n:=n) (q:=λs=>s.bq≠some h) (S:=hQ rows s xs) (i:=p) (so:=c0 ds rows[j]) d6 (eb.lo p j c2 aJ Fu).1 (λs e z=>by rw[e]at z;cases z);have yA:d8 ds rows aj h=if bL ds rows h=bL ds rows j then(j:Int)else d8 ds rows s h:=DG (i:=p) (S:=hQ rows s xs) W d6 bT iF lK;refine(aj,(λz=>pz (d2 (ae.symm.trans z)),_,xz ae ao d6 f' (λz=>by rw[z]at j8;cases j8) nO P,cX),a1,a2,λc=>?_,λc=>?_,?_,?_)
 .rw[dH];have aW:c4 rows j∈rows[j].mem:=pT W d6;have bJ:x∉rows[j].mem:=λz=>c (by have:=N j _ x d6 z;rw[ag]at this;exact(d2 this).symm)
  have iW:x≠c4 rows j:=λz=>bJ (z ▸ aW)
  show(fM rows s s.wt xs).filter _=[x];rcases JI with e|e|⟨bD,e⟩
  .rw [e];simp[aW,bJ]
  .rw [e];simp[aW,bJ]
  .exact absurd bD iW
 .rw[yA];unfold pa;by_cases o:(dR ds rows h).own j=true
  .rw [if_pos o,if_pos ((aU aJ).mp o).symm,Jk c]
  .rw [if_neg o,if_neg (λz=>o ((aU aJ).mpr z.symm))];exact ay
 .rw [yA];split <;> omega
 .rw [yA];split <;> omega
def RQ{p j k:Nat}{sp:Int}(W:ii ds rows)(N:sT rows)(eb:nh n ds rows (cp n ds rows))(bT:h<↑rows)(ag:gO rows x\h)(ao:rows[p]?\r)(aJ:j<↑rows)(Fu:p≠j)(pz:p≠h)
  (ae:s.bq\p) (ak:1<=s.bI) (ax:s.bI+(k:Int)=cJ ds rows h p) (aZ:s.wt=[x]) (ay:sp=pW (dR ds rows h) (d8 ds rows s h)) (oI:0<=d8 ds rows s h) (cy:d8 ds rows s h<↑rows) (cN:HT (dR ds rows h) p sp j) :
  ∃aj,fQ n ds rows (λs=>s.bq≠some h) s (f6 k [c4 rows p]++[c4 rows j]::f6 (cp n ds rows p j).toNat []) aj/\xw ds rows h x aj j (pa (dR ds rows h) sp j):=by
 have d6:=a6 aJ;have tK:=N j _ _ d6 (pT W d6);have nO:=W.lo r (bU ao);have e9:cJ ds rows h p=if bL ds rows h=dc then r.lo else r.ah:=by unfold cJ;rw[ao]
 have MJ:q6 ds rows x=bL ds rows h:=by unfold q6 bL;rw[ag];rfl
 let(s2,da,ee,eo,ft,gP):=Wq (n:=n) (ds:=ds) (q:=λs=>s.bq≠some h) ao (N p r _ ao (pT W ao)) (λs e z=>pz (d2 (e.symm.trans z))) k s ae (λb aa=>by
  unfold mG;show(s.wt.isEmpty||decide (s.bI+(b:Int)<r.lo)||(decide (s.bI+(b:Int)<r.ah)&&true && !rO ds rows s.wt))=true;rw[aZ];by_cases c:bL ds rows h=dc
  .rw [if_pos c]at e9;rw[decide_eq_true (show s.bI+(b:Int)<r.lo by omega)];simp
  .rw [if_neg c]at e9;rw[decide_eq_true (show s.bI+(b:Int)<r.ah by omega)];unfold rO;rw[mT,MJ,decide_eq_false c];simp)
 have f':g0 rows s2 (c4 rows j)=false:=by
  rw[uK ee,tK];exact decide_eq_false (λz=>Fu (d2 z).symm)
 let(aj,cX,Q):=Tx (n:=n) (h:=h) (x:=x) (s:=s2) (xs:=[c4 rows j]) (sp:=sp) W N eb bT ag ao aJ Fu pz ee (by rw[eo,ax,e9];split <;> omega) (by rw[mT,f'];rfl) (by
  by_cases c:x=c4 rows j
  .exact .inr (.inr (c,by rw[Ud (by rw[ft,aZ,c];exact .head _),ft,aZ]))
  .exact .inl (by rw[vE f' (by rw[ft,aZ,d9];exact λz=>c z.symm),ft,aZ];rfl)) (by rw[gP];exact ay) (by rw[gP];exact oI) (by rw[gP];exact cy) cN
 exact(aj,da.app cX,Q)
def Yy{p j:Nat}{sp:Int}(o:iP S p sp (j::r))(ar:-1<=sp)(aS:S.own p=true->sp=S.fp p\/p=S.h):p≠S.h/\j<S.m/\p≠j/\HT S p sp j/\iP S j (pa S sp j) r:=by
 let(a,b,c):=o;rcases c with⟨aW,bJ,iW⟩|⟨aW,bJ,iW⟩
 .refine⟨a,b,fun z=>?_,.inl ⟨aW,bJ⟩,by unfold pa;rw[if_pos aW];exact iW⟩;subst z;rcases aS aW with e|e
  .omega
  .exact a e
 .refine (a,b,λz=>?_,.inr (aW,bJ),by unfold pa;rw[if_neg (by rw[bJ];decide)];exact iW);subst z;rw[aW]at bJ;cases bJ
theorem Ky(W:ii ds rows)(N:sT rows)(eb:nh n ds rows (cp n ds rows))(bT:h<↑rows)(ag:gO rows x\h):∀(ext:List Nat) (p:Nat) (sp:Int) (s:dy),iP (dR ds rows h) p sp ext->p<↑rows->-1<=sp->((dR ds rows h).own p=true->sp=(dR ds rows h).fp p\/p=h)->xw ds rows h x s p sp ->
  ∃aj,fQ n ds rows (λs=>s.bq≠some h) s (dk rows (cp n ds rows) (cJ ds rows h) (p::ext)) aj/\aj.bq\h
 |[],p,sp,s,o,_,_,_,Q=>(s,rfl,by rw[Q.bq,show p=h from o])
 |j::r,p,sp,s,o,ar,h0,aS,Q=>by
  let(a,b,c,d,e):=Yy o h0 aS;have e9:=Ip (h:=h) W ar;let(s1,da,zZ):=RQ (n:=n) (k:=(cJ ds rows h p).toNat-1) W N eb bT ag (a6 ar) b c a Q.bq (by rw[Q.bI];decide) (by rw[Q.bI];omega) (Q.wt a) (Q.sp a) Q.oI Q.cy d;let(s2,cX,aD):=Ky W N eb bT ag r j _ s1 e b (by unfold pa;have:=(q' (W.ok bT) j).1;split <;> omega) (λz=>.inl (by unfold pa;rw[if_pos z])) zZ;exact(s2,da.app cX,aD)
end
theorem RJ{rows:List ST}{st:Nat->Int}:∀(ext:List Nat) (p:Nat),(∀x∈p::ext,1<=st x)->(∀(i a b:Nat),(p::ext)[i]?\a->(p::ext)[i+1]?\b->0<=cg a b)->(↑(dk rows cg st (p::ext)):Int)=(n2 cg (p::ext)).sum+(((p::ext).take ↑ext).map st).sum
 |[],p,_,_=>rfl
 |j::r,p,ay,aB=>by
  have cZ:=RJ (rows:=rows) r j (λx ag=>ay x (.tail _ ag)) (λi a b aO aa=>aB (i+1) a b aO aa);have ae:=ay p (.head _);have ak:=aB 0 p j rfl rfl;show((↑(fi rows cg p j (st p).toNat++dk rows cg st (j::r)):Nat):Int)=(cg p j::n2 cg (j::r)).sum+((p::(j::r).take ↑r).map st).sum;rw[cB,MM _ _ _ _ (),za,fz,za];omega
section
variable{n:Int}{ds:List bf}{rows:List ST}{h:Nat}{x:Str}
theorem afY{f p:Nat}{ext:List Nat}(W:ii ds rows)(N:sT rows)(eb:nh n ds rows (cp n ds rows))(bT:h<↑rows)(ag:gO rows x\h)(hf:f<↑rows)(ar:p<↑rows)(i6:f≠p)(aS:iP (dR ds rows h) p (hp (dR ds rows h) f p) ext)
  (ae:s0.bq\0) (ak:s0.bI=1) (aZ:s0.wt=[]) (bY:d8 ds rows s0 0=0) :
  ∃eT B L lR hx,r7 rows (cp n ds rows) (d1 rows) (cJ ds rows h) h f p ext x=eT++(B++[L])/\↑eT=↑(dk rows (cp n ds rows) (d1 rows) (gm h f))+(d1 rows f).toNat/\↑B=(cp n ds rows f p).toNat+↑(dk rows (cp n ds rows) (cJ ds rows h) (p::ext)) /\
   fQ n ds rows (fun _=>True) s0 eT lR/\fQ n ds rows (fun s=>s.bq≠some h) lR B hx/\hx.bq\h/\∃z Z,B++[L]=(z++[x])::Z:=by
 have FN:=W.ok bT;have aU:∀{k:Nat},k<↑rows->((dR ds rows h).own k=true↔bL ds rows k=bL ds rows h):=fun {k} ax=>by rw[C4 W bT ax];simp
 obtain⟨aqm,bM,ee,eo,ft,gP⟩:=aiu (n:=n) W N eb bT hf ae ak aZ bY;have YM:=a6 hf;have js:=a6 ar;obtain⟨lR,d7,S,aq,aD,vU⟩:=UT (n:=n) W N eb YM ar i6 ee eo ft;have ahQ:d1 rows f=rows[f].lo:=x8 YM;have aqN:=(W.lo _ (gf hf)).1;have zY:=(eb.lo f p hf ar i6).1;have hlen:↑(dk rows (cp n ds rows) (d1 rows) (gm h f)++(f6 ((d1 rows f).toNat-1) [c4 rows f]++[[c4 rows p]]))=↑(dk rows (cp n ds rows) (d1 rows) (gm h f))+(d1 rows f).toNat:=by
  rw[cB,cB,oh,k6];omega
 have Oh:fQ n ds rows (fun _=>True) s0 (dk rows (cp n ds rows) (d1 rows) (gm h f)++(f6 ((d1 rows f).toNat-1) [c4 rows f]++[[c4 rows p]])) lR:=by
  rw[ahQ];exact bM.app d7
 have ns:∀s:dy,s.bq=none->(fun s:dy=>s.bq≠some h) s:=fun s e z=>by rw[e]at z;cases z
 have NM:=pT W js;have PX:∀{s:dy},s.bq\p->s.bI=1->(p≠h->s.wt=[x])->d8 ds rows s h=(if bL ds rows h=bL ds rows p then(p:Int)else d8 ds rows S h)->xw ds rows h x s p (hp (dR ds rows h) f p):=fun {s} g1 g2 g3 jL=>by
  rw[aD,gP]at jL;refine⟨g1,g2,g3,fun c=>?_,by rw[jL];split;omega;split <;> omega,by rw[jL];split;omega;split <;> omega⟩;by_cases o:(dR ds rows h).own p=true
  .have gl:d8 ds rows s h=p:=by rw[jL,if_pos ((aU ar).mp o).symm]
   rw[gl,Jk c];unfold hp;rw[if_pos o]
  .have gl:d8 ds rows s h=if bL ds rows f=bL ds rows h then(f:Int)else h:=by rw[jL,if_neg (fun z=>o ((aU ar).mpr z.symm))]
   unfold hp;rw[if_neg o];by_cases of:(dR ds rows h).own f=true
   .rw[if_pos ((aU hf).mp of)]at gl;rw[gl];by_cases e:f=h
    .rw [if_neg (fun z=>z.2 e)];unfold pW;rw[if_neg (fun z=>z.2 (by rw[e];rfl))]
    .rw [if_pos ⟨of,e⟩,Jk e]
   .rw [if_neg (fun z=>of ((aU hf).mpr z))]at gl;rw[gl,if_neg (fun z=>of z.1)];unfold pW;rw[if_neg (fun z=>z.2 rfl)]
 have Vr:=yo FN f p;have U_:(dR ds rows h).own p=true->hp (dR ds rows h) f p=(dR ds rows h).fp p\/p=h:=fun z=>.inl (by unfold hp;rw[if_pos z])
 unfold r7;by_cases c:0<cp n ds rows f p
 .obtain⟨k,ax⟩:∃k:Nat,(cp n ds rows f p).toNat=k+1:=⟨(cp n ds rows f p).toNat-1,()⟩;obtain⟨s1,ct,a1,a2,dH,iF,lK⟩:=akz (n:=n) (q:=fun s=>s.bq≠some h) (S:=S) (i:=f) (so:=c0 ds rows[p]) js c ns [x];have Q:=PX a1 a2 (fun aW=>by
   have bJ:x∉rows[p].mem:=fun z=>aW (by have:=N p _ x js z;rw[ag]at this;exact(d2 this).symm)
   have iW:x∉S.wt:=by rw[aq,d9];exact fun z=>bJ (z ▸ NM)
   rw[dH,vE (aoS rfl x) iW,aq];simp[NM,bJ]) (DG (i:=f) (S:=S) W js bT iF lK)
  obtain⟨hx,fj,m3⟩:=Ky (n:=n) W N eb bT ag ext p _ s1 aS ar Vr U_ Q;rw[ax];rw[ax]at ct;refine⟨_,[x]::f6 k []++dk rows (cp n ds rows) (cJ ds rows h) (p::ext),[],lR,hx,rfl,hlen,by simp;omega,Oh,?_,m3,[],_,rfl⟩;rw[vU];exact ct.app fj
 .have ax:(cp n ds rows f p).toNat=0:=()
  obtain⟨s1,ct,a1,a2,dH,iF,lK⟩:=JO (n:=n) (q:=fun s=>s.bq≠some h) (S:=S) (i:=f) (so:=c0 ds rows[p]) js zY ns;rw[ax]at ct⊢;have ahA:s1=lR:=by rw[vU];exact ct
  subst ahA;have lX:s1.wt=[]:=by rw[dH,aq,X5 W js]
  have yA:=DG (i:=f) (S:=S) W js bT iF lK;cases ext with
  |nil=>
   have afi:p=h:=aS;exact⟨_,[],[x],s1,s1,rfl,hlen,rfl,Oh,rfl,by rw[a1,afi],[],_,rfl⟩
  | cons j r=>
   obtain⟨g1,g2,g3,jL,CH⟩:=Yy aS Vr U_;have g2:j<↑rows:=g2;have pz:p≠h:=g1;have e9:=Ip (h:=h) W ar;have d6:=a6 g2;have tK:=N j _ _ d6 (pT W d6);have RB:=N p _ _ js NM;have arf:=W.lo _ (gf ar);have LX:cJ ds rows h p=if bL ds rows h=dc then rows[p].lo else rows[p].ah:=by unfold cJ;rw[js]
   have xa:=PX (s:={s1 with wt:=[x]}) a1 a2 (fun _=>rfl) yA;have kL:g0 rows s1 x=false:=by rw[uK a1,ag];exact decide_eq_false (fun z=>pz (d2 z).symm)
   have Py:g0 rows s1 (c4 rows j)=false:=by rw[uK a1,tK];exact decide_eq_false (fun z=>g3 (d2 z).symm)
   have fin:∀{z:List Str} {Z:List (List Str)} {s2:dy},fi rows (cp n ds rows) p j (cJ ds rows h p).toNat=z::Z->fQ n ds rows (fun s=>s.bq≠some h) s1 ((z++[x])::Z) s2->xw ds rows h x s2 j (pa (dR ds rows h) (hp (dR ds rows h) f p) j)->∃eT B L lR hx,(dk rows (cp n ds rows) (d1 rows) (gm h f)++(f6 ((d1 rows f).toNat-1) [c4 rows f]++[[c4 rows p]]))++x7 x (f6 0 []++dk rows (cp n ds rows) (cJ ds rows h) (p::j::r)++[[]])=eT++(B++[L])/\↑eT=↑(dk rows (cp n ds rows) (d1 rows) (gm h f))+(d1 rows f).toNat/\↑B=0+↑(dk rows (cp n ds rows) (cJ ds rows h) (p::j::r)) /\
     fQ n ds rows (fun _=>True) s0 eT lR/\fQ n ds rows (fun s=>s.bq≠some h) lR B hx/\hx.bq\h/\∃z Z,B++[L]=(z++[x])::Z:=fun {z Z s2} tC aby ahd=>by
    obtain⟨hx,fj,m3⟩:=Ky (n:=n) W N eb bT ag r j _ s2 CH g2 (by unfold pa;have:=(q' FN j).1;split <;> omega) (fun z=>.inl (by unfold pa;rw[if_pos z])) ahd;have NQ:dk rows (cp n ds rows) (cJ ds rows h) (p::j::r)=z::(Z++dk rows (cp n ds rows) (cJ ds rows h) (j::r)):=by
     show fi _ _ p j _++_=_;rw[tC];rfl
    rw[NQ];exact⟨_,(z++[x])::(Z++dk rows (cp n ds rows) (cJ ds rows h) (j::r)),[],s1,hx,rfl,hlen,by simp,Oh,aby.app fj,m3,z,_,rfl⟩
   by_cases t1:cJ ds rows h p=1
   .obtain⟨s2,cX,Ma⟩:=Tx (n:=n) (h:=h) (x:=x) (s:=s1) (xs:=[c4 rows j,x]) (sp:=hp (dR ds rows h) f p) W N eb bT ag js g2 g3 pz a1 (by rw[a2];rw[LX]at t1;split at t1 <;> omega) (by
     rw[mT,mT,kL,Py];rfl) (by
     have bV:fM rows s1 s1.wt [c4 rows j,x]=fM rows s1 [c4 rows j] [x]:=by
      show fM rows s1 (fM rows s1 s1.wt [c4 rows j]) [x]=_;rw[vE Py (by rw[lX];simp),lX];rfl
     rw[bV];by_cases aW:x=c4 rows j
     .exact .inr (.inr ⟨aW,by rw[Ud (by rw[aW];exact .head _),aW]⟩)
     .exact .inr (.inl (by rw[vE kL (by rw[d9];exact aW)];rfl))) (xa.sp pz) xa.oI xa.cy jL
    exact fin (z:=[c4 rows j]) (by unfold fi;rw[t1];rfl) cX Ma
   .have eg:hQ rows s1 [c4 rows p,x]={s1 with wt:=[x]}:=by
     unfold hQ;have:fM rows s1 s1.wt [c4 rows p,x]=fM rows s1 (fM rows s1 s1.wt [c4 rows p]) [x]:=rfl;rw[this,X3 (y:=c4 rows p) (by rw[uK a1];exact decide_eq_true RB),lX,vE kL (by simp)];rfl
    obtain⟨s2,cX,Ma⟩:=RQ (n:=n) (h:=h) (x:=x) (s:={s1 with wt:=[x],bI:=s1.bI+1}) (k:=(cJ ds rows h p).toNat-2) W N eb bT ag js g2 g3 pz a1 (by show 1<=s1.bI+1;omega) (by show s1.bI+1+_=_;omega) rfl (xa.sp pz) xa.oI xa.cy jL;refine fin (z:=[c4 rows p]) (Z:=f6 ((cJ ds rows h p).toNat-2) [c4 rows p]++[c4 rows j]::f6 (cp n ds rows p j).toNat []) ?_ ⟨fun z=>pz (d2 (a1.symm.trans z)),_,.inr (.inl ⟨p,rows[p],by show(hQ rows s1 [c4 rows p,x]).bq\p;rw[eg];exact a1,js,?_,by show _={hQ rows s1 [c4 rows p,x]with bI:=(hQ rows s1 [c4 rows p,x]).bI+1};rw[eg]⟩),cX⟩ Ma
    .unfold fi;rw[show(cJ ds rows h p).toNat-1=(cJ ds rows h p).toNat-2+1 by omega,List.replicate_succ];rfl
    .show mG ds rows (hQ rows s1 [c4 rows p,x]) rows[p] ([c4 rows p,x].any (g0 rows s1))=true;rw[eg,mT,uK a1,decide_eq_true RB,ry];have MJ:q6 ds rows x=bL ds rows h:=by unfold q6 bL;rw[ag];rfl
     unfold mG;show([x].isEmpty||decide (s1.bI<rows[p].lo)||(decide (s1.bI<rows[p].ah)&&true && !rO ds rows [x]))=true;by_cases aW:bL ds rows h=dc
     .rw [if_pos aW]at LX;rw[decide_eq_true (show s1.bI<rows[p].lo by omega)];simp
     .rw [if_neg aW]at LX;rw[decide_eq_true (show s1.bI<rows[p].ah by omega)];unfold rO;rw[mT,MJ,decide_eq_false aW];simp
end
def tY(rows:List ST)(s:dy):Prop:=(-1<=s.pt/\s.pt<↑rows)/\(-1<=s.po/\s.po<↑rows)
def QA{rows:List ST}{m:List Str}(h:tY rows s):tY rows (iT n ds rows s m):=by
 unfold iT;split
 .exact h
 .exact h
def ZT{rows:List ST}{own:Bool}(h:tY rows s)(ay:te n ds rows s own aj):tY rows aj:=by
 rcases ay with⟨_,r,ao,rfl⟩|⟨i,r,_,ao,e9,rfl⟩|⟨i,r,g,p7,_,ao,e9,P,a7,rfl⟩
 .exact QA (s:={s with cQ:=s.cQ+1}) h
 .exact h
 .have lY:=(b0.mp a7).1;refine QA ?_;unfold f5;refine(?_,?_)
  .show -1<=(if c0 ds p7=dc then(g:Int)else s.pt)/\(if c0 ds p7=dc then(g:Int)else s.pt)<↑rows;split
   .omega
   .exact h.1
  .show -1<=(if c0 ds p7=dc then s.po else(g:Int))/\(if c0 ds p7=dc then s.po else(g:Int))<↑rows;split
   .exact h.2
   .omega
def an8{rows:List ST}{own:Bool}(R:ql ds rows)(k:kA ds rows s)(L:tY rows s)(aO:te n ds rows s own a)(aa:te n ds rows s own b):a=b:=by
 have c6:=k.told R;have no:∀{i:Nat},s.bq=none->s.bq\i->False:=λ{i} aq aD=>by rw[aq]at aD;cases aD
 rcases aO with⟨h0,r,ao,rfl⟩|⟨i,r,ay,ao,e9,rfl⟩|⟨i,r,g,p7,ay,ao,e9,P,a7,rfl⟩ <;> rcases aa with⟨Rj,d5,dO,rfl⟩|⟨jf,d5,g6,dO,nq,rfl⟩|⟨jf,d5,g',aqJ,g6,dO,nq,Lh,Sn,rfl⟩
 .rw [ao]at dO;cases dO;rfl
 .exact (no h0 g6).elim
 .exact (no h0 g6).elim
 .exact (no Rj ay).elim
 .rfl
 .rw [ay]at g6;cases g6;rw[ao]at dO;cases dO;rw[e9]at nq;cases nq
 .exact (no Rj ay).elim
 .rw [ay]at g6;cases g6;rw[ao]at dO;cases dO;rw[e9]at nq;cases nq
 .rw[ay]at g6;cases g6;have e:=Int.le_antisymm (P.2 g' Lh.1) (Lh.2 g P.1);have aK:-1<=m1 ds rows s (gg ds rows s i)/\m1 ds rows s (gg ds rows s i)<↑rows:=by
   unfold m1;split
   .exact L.1
   .exact L.2
  have KA:g=g':=SL aK.1 aK.2 (xk c6 g P.1) (xk c6 g' Lh.1) e;subst KA;rw[a7]at Sn;cases Sn;rfl
def CQ(n:Int)(ds:List bf)(rows:List ST)(h:Nat)(x:Str)(s0:dy)(b4:List (List Str))(b z:Nat):Prop:=∃eT B L lR hx,b4=eT++(B++[L])/\b=↑eT/\z=↑B/\fQ n ds rows (λ_=>True) s0 eT lR/\fQ n ds rows (λs=>s.bq≠some h) lR B hx/\hx.bq\h/\∃z Z,B++[L]=(z++[x])::Z
theorem fQ.vg{rows:List ST}:∀{A:List (List Str)} {s aj:dy},fQ n ds rows q s A aj->∃st:Nat->dy,st 0=s/\st ↑A=aj/\∀(k:Nat) (xs:List Str),A[k]?\xs->q (st k)/\tJ n ds rows (st k) xs (st (k+1))
 |[],s,aj,h=>(λ_=>s,rfl,(show aj=s from h).symm,λk xs ax=>by simp at ax)
 |ys::A,s,aj,⟨ae,s1,ak,aZ⟩=>by
  let(st,eh,aq,al):=fQ.vg aZ;refine(λk=>match k with|0=>s|k+1=>st k,rfl,aq,λk xs ax=>?_);cases k with
  |zero=>cases ax;exact(ae,by show tJ n ds rows s ys (st 0);rw[eh];exact ak)
  |succ k=>exact al k xs ax
theorem CQ.vg{rows:List ST}{h:Nat}{x:Str}(r:CQ n ds rows h x s0 b4 b z):b+z+1=↑b4/\∃st:Nat->dy,st 0=s0/\(∀(k:Nat) (xs:List Str),k<b+z->b4[k]?\xs->tJ n ds rows (st k) xs (st (k+1)))/\(∀k,b<=k->k<b+z->(st k).bq≠some h)/\(st (b+z)).bq\h/\∀ys,b4[b]?\ys->x∈ys:=by
 let(eT,B,L,lR,hx,e,rfl,rfl,da,cX,m3,z,Z,rQ):=r;let(s1,a1,a2,dH):=da.vg;let(s2,aW,bJ,iW):=cX.vg;refine(by rw[e,cB,cB,k6];omega,λk=>if k<↑eT then s1 k else s2 (k-↑eT),?_,λk xs ax ag=>?_,λk ae ak=>?_,?_,λys aM=>?_)
 .show(if 0<↑eT then s1 0 else s2 (0-↑eT))=s0;split
  .exact a1
  .rename_i c;have eh:↑eT=0:=()
   rw[eh]at a2;rw[eh,am7,aW,<- a2,a1]
 .show tJ n ds rows (if k<↑eT then s1 k else s2 (k-↑eT)) xs (if k+1<↑eT then s1 (k+1)else s2 (k+1-↑eT));rw[e]at ag;by_cases c:k<↑eT
  .rw[lC c]at ag;rw[if_pos c];by_cases c':k+1<↑eT
   .rw [if_pos c'];exact(dH k xs ag).2
   .rw [if_neg c',show k+1-↑eT=0 by omega,aW,<- a2,show ↑eT=k+1 by omega];exact(dH k xs ag).2
  .rw [kz (),lC ()]at ag;rw[if_neg c,if_neg (),show k+1-↑eT=k-↑eT+1 by omega];exact(iW _ xs ag).2
 .show (if k<↑eT then s1 k else s2 (k-↑eT)).bq≠some h;rw[if_neg ()];exact(iW (k-↑eT) _ (a6 ())).1
 .show (if ↑eT+↑B<↑eT then s1 (↑eT+↑B)else s2 (↑eT+↑B-↑eT)).bq\h;rw[if_neg (),ae7,bJ];exact m3
 .rw [e,kz (bQ _),NI,rQ]at aM;cases aM;simp
def CD{K:bk}:t7 K (.type eU) (.type eU)\true:=by
 unfold t7;rw[if_pos (by simp)]
def RN{K:bk}:t7 K (.type "int") (.type "bool")\false:=by
 unfold t7;rw[if_neg ∅]
 with_unfolding_all rfl
def PD:bO:=λvs H Q _=>∃v:Int,vs=[.int v]/\0<=v/\Q (.bp true) H
def Tb(P:Program)(w:World)(K:bk)(t:bS)(gj:Addr):bO:=λvs H Q _=>∃eG c n ds rows nl,∃i:Nat,∃d f a,∃z b:Nat,∃qs b4,∃h:Nat,∃ik,vs=[⇑eG,⇑nl,.str d.name,⇑f]/\fJ P w t H eG c n ds rows/\H nl\(.lst (a3 (ds.map (·.name))))/\ds[i]?\d/\H f\(.tup [.int z,⇑a,.int b])/\nJ H a qs b4/\gO rows d.name\h/\ql ds rows/\rows[0]?\ik/\CQ n ds rows h d.name (ua ds ik) b4 b z/\↑b4<=2000/\(∀ys∈b4,↑ys<=2/\∀y∈ys,y∈ds.map (·.name))/\jZ gj H/\aL H /\
 ∀I,iy gj H I->aL I->jZ gj I->Q (.bp true) I
def ajd:cq P base T 1 t.D9 t.BG uw PD:=by
 exists T.Ca.ok alx,9
 let(v,rfl,aE,q):=h;refine(_,(a4 (b7 (sr (fx zc rfl T.yZ xG (ai (U 0) (ai (xK (v:=.ty "int") rfl T.Bp AF rfl) aC))) (sr (K9 (fx zc rfl T.yZ xG (ai (U 0) (ai (xK (v:=.ty "bool") rfl T.apd Z1 rfl) aC)))) (sh (hV RE (U 0) aT (cL _))))))),?_);nofun;refine(_,.int v,true,CD,?_);rw[if_pos rfl];refine(_,.int v,false,RN,?_);rw[if_pos ∅,decide_eq_true aE];exact q
theorem aiX(dv:ml base t.rY gj)(gX:base.BuiltinsAt mg gj):cq P base T 7 t.B6 t.BH FF (Tb P w K t gj):=by
 have SF:cE P w K mg base dq 6 t.D9 t.BG uw PD:=(ajd T).mono ∅;have ajy:cE P w K mg base dq 5 t.zR t.Pi zA (OU P w t):=(ajt T).mono ∅;have apo:cE P w K mg base dq 6 t.zg t.C0 CN (O' P w K t gj):=(agX T dv gX).mono ∅;exists T.DU.ok rT,9
 let(eG,c,n,ds,rows,nl,i,d,f,a,z,b,qs,b4,h,ik,rfl,cU,vU,hd,ky,gF,bT,R,nF,DO,aqz,iI,bF,bC,q):=h;have bR:=i' ao;let(apF,st,abP,Ar,pU,Bn,aab):=DO.vg;have pI:=R.so _ (bU nF);have aej:0<↑rows:=(b0.mp nF).1;have sd:d.name∈ds.map (·.name):=cj.mpr (d,bU hd,rfl);refine(_,(db (d4 (gv.pt (pN (n8 (lE (fx zc rfl T.yZ xG (ai (U 3) (ai (xK (v:=.ty "tuple") rfl T.ak3 afT rfl) aC))))) (pN (dh og (fx iV rfl T.iE iw (ai (U 3) aC)) aT (cL _)) (t6 (n8 (lE (fx zc rfl T.yZ xG (ai (bZ gM (U 3) aT) (ai (xK (v:=.ty "list") rfl T.GP HG rfl) aC))))))))) (a4 (b7 kG)) en)
   (db (MH (U 3) (kC (K:=K) (n:=3) rfl rfl (ac (b8 (i:=4) rT.aG) (ac (b8 (i:=5) rT.aG) (ac (b8 (i:=6) rT.aG) kx)))))
   (db (d4 (gv.pt (pN (n8 (lE (b3 SF ao T.XP T.Ca.bo T.QF (ai (U 4) aC)))) (pN (n8 (lE (b3 SF ao T.XP T.Ca.bo T.QF (ai (U 6) aC)))) (t6 (n8 (aiP ir QS (bN ew (U 6) (U 4)) (fx iV rfl T.iE iw (ai (U 5) aC)) aT)))))) (a4 (b7 kG)) en)
   (db (b' (i:=7) rT.aG (uM T.anE ajy ao rfl T.ab5 T.acW .nil c3 (ai (U 0) aC)))
   (db (fP fV rfl (l0 rfl T.k8 (ai (bN ew (bN ew (U 6) (U 4)) aT) aC)) (b8 (i:=8) rT.aG) (db (d4 (n8 (lE (fx zc rfl T.yZ xG (ai (bZ c8 (U 5) (U 8)) (ai (xK (v:=.ty "list") rfl T.GP HG rfl) aC))))) (a4 (b7 kG)) en)
   (db (fP fV rfl (e6 (bZ c8 (U 5) (U 8))) (b8 (i:=9) rT.aG) (a4 (d4 (dh bi (U 9) (U 1) (by with_unfolding_all rfl)) (a4 (b7 kG)) en)))
   (db (b' (i:=10) rT.aG (p9 bR (fK (U 7) T.fD T.alI apo ao T.aiW .nil c3 (ai (bZ c8 (U 5) (U 8)) aC)) (U 2) (λ_ _=>rfl)))
   (db (d4 (gv.pt (qn (dh e3 (U 8) (U 6) (cL _)) (p_ (dh bi (U 2) (bZ c8 (U 5) (U 8)) (by with_unfolding_all rfl))))) (a4 (b7 kG)) en)
   (a4 (d4 (gv.pt (qn (dh RE (U 8) (U 6) (cL _)) (p_ (dh og (hV e3 (U 10) dF (cL _)) (hV e3 (U 8) (bN ew (U 6) (U 4)) (cL _)) (cL _))))) (a4 (b7 kG)) en)))))))
   (a4 (b7 kG))))))),?_)
 exists (λau I=>I=H/\au=[~~~eG,~~~nl,some (.str d.name),~~~f,none,none,none,none,none,none,none]),3
 .refine du false (λQ' aY=>?_) (λaa=>by cases aa) (λ_=>?_)
  .nofun;refine(_,.tup ky,true,CD,?_);rw[if_neg ∅];refine(_,.inr (dM.of ky),?_);rw[if_neg (by simp)];exact(_,dM.of ky,_,cv (j:=1) rfl,_,.lst gF.at_,true,CD,aY)
  .simp only[gy];exact bX _ _ (rfl,rfl)
 intro fG H1 (rfl,rfl);subst aV;exists (λau I=>I=H1/\au=[~~~eG,~~~nl,some (.str d.name),~~~f,some (.int z),~~~a,some (.int b),none,none,none,none]),3
 .nofun;exact(_,dM.of ky,rfl,_,_,rfl,_,_,rfl,_,_,rfl,rfl,bX _ _ (rfl,rfl))
 intro cD aw (rfl,rfl);subst aV;exists (λau I=>I=aw/\au=[~~~eG,~~~nl,some (.str d.name),~~~f,some (.int z),~~~a,some (.int b),none,none,none,none]),3
 .refine du false (λQ' aY=>?_) (λaa=>by cases aa) (λ_=>?_)
  .nofun;refine(z,rfl,(),_,rfl,?_);rw[if_neg ∅];refine(b,rfl,(),_,rfl,?_);rw[if_neg ∅];refine(_,.inl (az.of gF.at_),?_);rw[aX,gF.ln,if_pos (decide_eq_true ()),decide_eq_true ()];exact aY
  .simp only[gy];exact bX _ _ (rfl,rfl)
 intro gi ba (rfl,rfl);subst aV;exists (λau I=>∃k aF a9,ba k=none/\ba aF=none/\ba a9=none/\aN ba I/\aL I/\fv t I k eG aF a9 (ua ds ik)/\au=[~~~eG,~~~nl,some (.str d.name),~~~f,some (.int z),~~~a,some (.int b),~~~k,none,none,none]),3
 .nofun;intro k pX ax ue amK;have bw:aN ba (upd (upd ba pX (.own k)) k (.ins t.dB pX [])):=(bh ue).trans (bh (by rw[aP (et amK)];exact ax));exact(k,pX,eG,c,n,ds,_,_,rfl,aR,cU.same bw,nF,pI,bC.upd.upd,λaF a9 f3 cF mM qo nY ad3=>(rfl,bX _ _ (k,aF,a9,ax,bw.free qo,bw.free nY,λb u e=>cF _ _ (dm e ax) (bw _ _ e),mM,ad3,rfl)))
 intro kE cn (k,aF,a9,jn,g7,h1,s4,di,tN,rfl);subst aV;simp only[dT];refine sl (λau I=>iy gj ba I/\aL I/\jZ gj I/\∃ve pB qG,au=[~~~eG,~~~nl,some (.str d.name),~~~f,some (.int z),~~~a,some (.int b),~~~k,ve,pB,qG]) (λgQ bX oK _ _=>?_) ?_
 .nofun;have Wv:KB ba gj=none:=akb bF;have alu:=cU.nB (El ba);have aoA:aN (KB ba) cn:=(anI ba).trans s4;have alh:=(El ba).lst vU;have am_:=(El ba).lst gF.at_;have kB:∀(i:Nat) (q:Addr) (ys:List Str),qs[i]?\q->b4[i]?\ys->KB ba q\(.lst (a3 ys)):=λi q ys aI aM=>(El ba).lst (gF.al i q ys aI aM)
  have Vu:KB ba k=none:=JS jn;have Vy:KB ba aF=none:=JS g7;have V8:KB ba a9=none:=JS h1;have hn:(ds.map (·.name)).Nodup:=by
   let(iS,le,mo,cG,so,aS,ch,ms,kvs,aq,C,_):=id cU;exact C.1.1
  refine((),(),?_);rw[show((b:Int)+(z:Int)+1).toNat=b+z+1 by omega];refine ed.range (λj σ I=>aL I/\aN (KB ba) I/\iy gj ba I/\jZ gj I/\(∃s,fv t I k eG aF a9 s/\kA ds rows s/\tY rows s/\(j<=b+z->s=st j))/\∃ve pB qG,σ=[~~~eG,~~~nl,some (.str d.name),~~~f,some (.int z),~~~a,some (.int b),~~~k,ve,pB,qG]) ?_ ?_ ?_
  .have aI:∀q:Prop,∀ [Decidable q],(-1<=(if q then(0:Int)else -1)/\(if q then(0:Int)else -1)<↑rows)/\(-1<=(if q then(-1:Int)else 0)/\(if q then(-1:Int)else 0)<↑rows):=λq _=>by split <;> omega
   exact(di,aoA,aN.p s4,bF.step s4,(_,tN,(qx,λx h=>(by cases h),λi h=>(by cases h;exact(aej,λx h=>(by cases h))),λh=>(by cases h)),((aI _).1,(aI _).2),λ_=>abP.symm),_,_,_,rfl)
  .rintro j σ I aJ bj;ac_rfl
   let(H8,gJ,Lr,Jr,(s,XH,ox,ae0,e9),ve,pB,qG,rfl):=bj;have aJ:j<b+z+1:=aJ;have aU:=e9 ();have fL:j<↑b4:=()
   have Hq:=a6 fL;have eN:=a6 (show j<↑qs by rw[gF.ln];exact fL);have p0:=kB j _ _ eN Hq;have t4:=(iI _ (gf fL)).2;have k':=(iI _ (gf fL)).1;let(aq_,ang,adM,aq0,apQ):=id XH;have hL:∀{ib:av},aN (KB ba) ib->∃xs,az K ib a xs/\gp xs (j:Int)\(⇑(qs[j]'(by rw[gF.ln];exact fL))):=λ{ib} s=>(_,az.of (s _ _ am_),cv (by rw[dg,eN];rfl))
   subst aV;simp only[gU,dT,jV,jH,rH];refine LM (λau H1=>H1=I/\au=[~~~eG,~~~nl,some (.str d.name),~~~f,some (.int z),~~~a,some (.int b),~~~k,some (.int j),pB,qG]) (λgQ dp=>?_) ?_
   .refine du false (λQ' aY=>?_) (λaa=>by cases aa) (λ_=>?_)
    .nofun;let(xs,aq,aD):=hL gJ;exact(xs,aq,_,aD,_,.lst (gJ _ _ p0),true,CD,aY)
    .simp only[gy];exact dp _ _ (rfl,rfl)
   intro nt mE (rfl,rfl);simp only[dT];refine sl (λau H1=>H1=mE/\∃pB,au=[~~~eG,~~~nl,some (.str d.name),~~~f,some (.int z),~~~a,some (.int b),~~~k,some (.int j),pB,qG]) (λgQ dp ap0 _ _=>?_) ?_
   .nofun;obtain⟨xs,aq,aD⟩:=hL gJ;refine⟨xs,aq,_,aD,_,rfl,⟨_,az.of (gJ _ _ p0)⟩,?_⟩;refine ed.list (xs:=a3 b4[j]) (fun i σ H1=>H1=mE/\∃pB,σ=[~~~eG,~~~nl,some (.str d.name),~~~f,some (.int z),~~~a,some (.int b),~~~k,some (.int j),pB,qG]) ⟨rfl,_,rfl⟩ ?_ ?_ ?_
    .intro i σ H1 ah (rfl,_);exact az.of (gJ _ _ p0)
    .rintro i v σ H1 aE ⟨rfl,y,rfl⟩;obtain⟨o,aS,rfl⟩:=b_ aE;simp only[gU,jV,jH];refine du false (fun Q' aY=>?_) (fun aa=>by cases aa) (fun _=>?_)
     .nofun;refine(_,.inl (az.of (gJ _ _ alh)),rfl,vr _,?_);rw[wZ,decide_eq_true (t4 o (bU aS))];exact aY
     .simp only[gy]
      first|exact(rfl,_,rfl)|exact(trivial,_,rfl)
    .intro σ H1 (rfl,y,rfl);exact dp _ _ (rfl,_,rfl)
   intro kP rz (rfl,VN,rfl);simp only[dT];refine LM (λau aw=>∃aj,te n ds rows (hQ rows s b4[j]) (b4[j].any (g0 rows s)) aj/\MT k aF a9 gj rz aw/\aL aw/\jZ gj aw/\fv t aw k eG aF a9 aj/\au=[~~~eG,~~~nl,some (.str d.name),~~~f,some (.int z),~~~a,some (.int b),~~~k,some (.int j),VN,some (.str (h2 n ds rows s d))]) (λgQ dp=>?_) ?_
   .nofun;let(xs,aq,aD):=hL gJ;refine(ang,_,adM,o7 _ _ _ _ _ _ _ _ ∅,xs,aq,_,aD,KB ba,k,eG,aF,a9,s,c,n,ds,rows,_,b4[j],rfl,XH,alu,gJ,Vu,Vy,V8,Wv,R,ox,gJ _ _ p0,(),t4,Jr,H8,λp aj aw zu CU ar tR sH qE s6=>?_);have Qu:=i4.k (k:=cz d.name) tR;rw[OZ (f:=h2 n ds rows s) hn hd]at Qu;exact(p,rfl,_,Qu,dp _ _ (aj,zu,CU,sH,qE,s6,rfl))
   rintro sO oM bj;ac_rfl
   let(aj,zu,CU,tl,vy,s6,rfl):=bj;have KI:aN (KB ba) oM:=λb u e=>CU _ _ (dm e Vu) (dm e Vy) (dm e V8) (dm e Wv) (gJ _ _ e)
   have ZN:iy gj ba oM:=λb u aa e=>CU _ _ (dm e jn) (dm e g7) (dm e h1) aa (Lr _ _ aa e)
   have D':decide (h2 n ds rows s d=af "free")=decide (s.bq\h):=by
    rw[show decide (h2 n ds rows s d=af "free")=decide (V.str (h2 n ds rows s d)=V.str (af "free"))from decide_eq_decide.mpr (λe=>by rw[e],λe=>V.str.inj e),T4];unfold g0;cases s.bq with
    |none=>simp
    |some i=>
     show decide (gO rows d.name\i)=_;rw[bT];exact decide_eq_decide.mpr (λz=>z.symm,λz=>z.symm)
   have Vw:=Xq t4 ox;have WK:tY rows (hQ rows s b4[j]):=ae0;subst aV;simp only[dT];refine LM (λau H1=>H1=oM/\au=[~~~eG,~~~nl,some (.str d.name),~~~f,some (.int z),~~~a,some (.int b),~~~k,some (.int j),VN,some (.str (h2 n ds rows s d))]) (λgQ dp=>?_) ?_
   .refine du false (λQ' aY=>?_) (λaa=>by cases aa) (λ_=>?_)
    .nofun;by_cases B5:j=b
     .rw [if_pos (decide_eq_true (by rw[B5]))];let(xs,aq,aD):=hL KI;refine(xs,aq,_,aD,_,rfl,_,.inl (az.of (KI _ _ p0)),rfl,vr _,?_);rw[wZ,decide_eq_true (aab _ (by rw[<- B5];exact Hq))];exact aY
     .rw [if_neg (by rw[decide_eq_false ()];decide)];exact aY
    .simp only[gy];exact dp _ _ (rfl,rfl)
   intro YI p' (rfl,rfl)
   (try dsimp only)
   refine du false (λQ' aY=>?_) (λaa=>by cases aa) (λ_=>?_)
   .nofun;by_cases B5:b<=j
    .rw[if_pos (decide_eq_true ()),D'];have eq:decide (s.bq\h)=decide ((j:Int)=(b:Int)+(z:Int)):=by
      by_cases e:j=b+z
      .rw [decide_eq_true (show s.bq\h by rw[aU,e];exact Bn),decide_eq_true ()]
      .rw [decide_eq_false (show ¬s.bq\h by rw[aU];exact pU j B5 ()),decide_eq_false ()]
     rw[eq,decide_eq_true rfl];exact aY
    .rw [if_neg (by rw[decide_eq_false ()];decide)];exact aY
   .simp only[gy];refine(tl,KI,ZN,vy,(aj,s6,alV R Vw zu,ZT WK zu,λhle=>?_),_,_,_,rfl);refine an8 R Vw WK zu ?_;have:=Ar j _ () Hq;rw[<- aU]at this;exact this
  .rintro σ I bj;ac_rfl
   let(H8,gJ,Lr,Jr,_,ve,pB,qG,rfl):=bj;subst aV;exact bX _ _ (Lr,H8,Jr,_,_,_,rfl)
 rintro qP cR bj;ac_rfl
 let(s5,eM,Jx,ve,pB,qG,rfl):=bj;subst aV;nofun;exact q _ s5 eM Jx
def afS{rows:List ST}(h:ys∈fi rows cg i j eU):ys=[]\/ys=[c4 rows i]\/ys=[c4 rows j]:=by
 unfold fi at h;rcases eI.mp h with z|z
 .exact .inr (.inl (yM z))
 .rcases ei.mp z with z|z
  .exact .inr (.inr z)
  .exact .inl (yM z)
theorem GK{rows:List ST}{st:Nat->Int}{m:Nat}:∀(l:List Nat),(∀k∈l,k<m)->ys∈dk rows cg st l->ys=[]\/∃i,i<m/\ys=[c4 rows i]
 |[],_,h=>by cases h
 |[a],_,h=>by cases h
 | a::b::r,aK,h=>by
  rcases eI.mp (show ys∈fi rows cg a b (st a).toNat++dk rows cg st (b::r)from h)with z|z
  .rcases afS z with z|z|z
   .exact .inl z
   .exact .inr (a,aK a (.head _),z)
   .exact .inr (b,aK b (.tail _ (.head _)),z)
  .exact GK (b::r) (λk ax=>aK k (.tail _ ax)) z
theorem aiL{x:Str}:∀{A:List (List Str)},ys∈x7 x A->ys∈A\/∃zs∈A,ys=zs++[x]
 |[],h=>by cases h
 |z::A,h=>by
  rcases ei.mp h with e|e
  .exact .inr (z,.head _,e)
  .exact .inl (.tail _ e)
theorem JB{rows:List ST}{st:Nat->Int}(ay:∀i,(st i).toNat<=B)(gX:1<=B)(aB:∀i j,(cg i j).toNat<=30):∀(l:List Nat),↑(dk rows cg st l)<=↑l*(B+30)
 |[]=>eW _
 |[a]=>eW _
 | a::b::r=>by
  have cZ:=JB (rows:=rows) ay gX aB (b::r);have ae:=ay a;have ak:=aB a b;show ↑(fi rows cg a b (st a).toNat++dk rows cg st (b::r))<=(↑(b::r)+1)*(B+30);rw[cB,Rf,ahq];have aZ:↑(fi rows cg a b (st a).toNat)<=B+30:=by
   unfold fi;rw[cB,gW,oh,oh];omega
  omega
section
variable{n:Int}{ds:List bf}{sts:List g9}
theorem zV.run(X:dG n ds sts){k g b:Nat}(hd:ds[k]?\d)(a7:g<↑(b6 ds sts))(bT:gO (b6 ds sts) d.name\g)(nF:(b6 ds sts)[0]?\ik)(R:zV ds (b6 ds sts) (My.cp n ds (b6 ds sts)) g d.name z b4 b) :
  ∃zn:Nat,z=zn/\CQ n ds (b6 ds sts) g d.name (ua ds ik) b4 b zn/\↑b4<=2000/\∀ys∈b4,↑ys<=2/\∀y∈ys,y∈ds.map (·.name):=by
 have sd:d.name∈ds.map (·.name):=cj.mpr ⟨d,bU hd,rfl⟩;have W:=X.Pb;have eb:=X.cp;have N:sT (b6 ds sts):=fun i r x ah ag=>(X.TQ i r x ah ag).1
 rcases R with⟨ae,rfl,rfl,rfl⟩|⟨_,f,p,ext,hf,ar,i6,aS,co,rfl,rfl,rfl⟩
 .refine⟨0,rfl,⟨[],[],[d.name],ua ds ik,ua ds ik,rfl,rfl,rfl,rfl,rfl,?_,[],[],rfl⟩,by simp,fun ys aM=>?_⟩
  .show some 0\g;rw[show g=0 by omega]
  .rw [d9.mp aM];exact⟨by simp,fun y aM=>by rw[d9.mp aM];exact sd⟩
 have oI:d8 ds (b6 ds sts) (ua ds ik) 0=0:=by
  have eh:bL ds (b6 ds sts) 0=c0 ds ik:=by unfold bL;rw[nF];rfl
  unfold d8;rw[eh];show(if c0 ds ik=dc then(if c0 ds ik=dc then(0:Int)else -1)else(if c0 ds ik=dc then -1 else 0))=0;split <;> rfl
 obtain⟨eT,B,L,lR,hx,e,Ro,rQ,bM,d7,hb,rJ⟩:=afY (n:=n) W N eb a7 bT hf ar i6 aS rfl rfl rfl oI;have Rc:∀x∈p::ext,x<↑(b6 ds sts):=fun x ag=>co.lt x (.tail _ ag)
 have ac9:∀x∈p::ext,1<=cJ ds (b6 ds sts) g x:=fun x ag=>Ip W (Rc x ag)
 have apY:=(eb.lo f p hf ar i6).1;have uS:=RJ (rows:=b6 ds sts) (cg:=My.cp n ds (b6 ds sts)) (st:=cJ ds (b6 ds sts) g) ext p ac9 (fun i a b aO aa=>by
  have Ru:(f::p::ext)[i+1]?\a:=aO;have d_:(f::p::ext)[i+1+1]?\b:=aa;exact(eb.lo a b (co.lt a (bU Ru)) (co.lt b (bU d_)) (co.ne (i+1) a b Ru d_)).1)
 have ahV:∀i,(cJ ds (b6 ds sts) g i).toNat<=40:=fun i=>by
  unfold cJ;cases ah:(b6 ds sts)[i]? with
  |none=>simp
  |some r=>
   obtain⟨s,ay,rfl⟩:=Lw ah;have:=X.kR.bd s (bU ay);show(if bL ds (b6 ds sts) g=dc then s.lo else s.ah).toNat<=40;split <;> omega
 have Xi:∀i,(d1 (b6 ds sts) i).toNat<=21:=fun i=>by
  unfold d1;cases ah:(b6 ds sts)[i]? with
  |none=>simp
  |some r=>
   obtain⟨s,ay,rfl⟩:=Lw ah;have:=X.kR.bd s (bU ay);show s.lo.toNat<=21;omega
 have Gs:∀i j,(My.cp n ds (b6 ds sts) i j).toNat<=30:=fun i j=>by have:=X.ac6 i j;omega
 have MU:=(Ep (W.ok a7) aS (yo (W.ok a7) f p) (fun z=>by unfold hp;rw[if_pos z])).1;have arP:=Uw (W.ok a7) (p:=p) (yo (W.ok a7) f p);have ee:=JB (rows:=b6 ds sts) Xi ∅ Gs (gm g f);have eo:=JB (rows:=b6 ds sts) ahV ∅ Gs (p::ext);have ft:↑(gm g f)<=3:=by unfold gm;split <;> split <;> simp
 have gP:=Xi f;have pk:=Gs f p;have ap9:↑(gm g f)*(21+30)<=3*51:=AV _ ft;have uI:↑(p::ext)*(40+30)<=16*70:=AV _ (by rw[gW];omega);have hlen:=congrArg q8 e;rw[cB,cB,k6,Ro,rQ]at hlen;refine⟨↑B,?_,⟨eT,B,L,lR,hx,e,by rw[Ro],rfl,bM,d7,hb,rJ⟩,(),fun ys aM=>?_⟩
 .rw [rQ];show((My.cp n ds (b6 ds sts) f p::n2 (My.cp n ds (b6 ds sts)) (p::ext)).sum+(((p::ext).take (↑ext+1+1-2)).map (cJ ds (b6 ds sts) g)).sum)=_;rw[za,show ↑ext+1+1-2=↑ext by omega];omega
 .have base:∀{A:List (List Str)},(∀zs∈A,zs=[]\/∃i,i<↑(b6 ds sts)/\zs=[c4 (b6 ds sts) i])->∀zs∈A,↑zs<=1/\∀y∈zs,y∈ds.map (·.name):=fun {A} h zs aQ=>by
   rcases h zs aQ with rfl|⟨i,ah,rfl⟩
   .exact ⟨∅,fun y aM=>by cases aM⟩
   .refine ⟨bQ _,fun y aM=>?_⟩;rw[d9.mp aM];exact(X.TQ i _ _ (a6 ah) (pT W (a6 ah))).2
  have aj6:∀k∈gm g f,k<↑(b6 ds sts):=fun k ax=>by
   unfold gm at ax;rcases eI.mp ax with z|z
   .split at z <;> simp at z <;> omega
   .split at z <;> simp at z <;> omega
  unfold r7 at aM;rcases eI.mp aM with aM|aM
  .obtain⟨aW,bJ⟩:=base (A:=[ys]) (fun zs aQ=>by
    rw[d9.mp aQ];rcases eI.mp aM with z|z
    .exact GK _ aj6 z
    .rcases eI.mp z with z|z
     .exact .inr ⟨f,hf,yM z⟩
     .exact .inr ⟨p,ar,d9.mp z⟩) ys (d9.mpr rfl)
   exact⟨(),bJ⟩
  .have bs:=base (A:=f6 (My.cp n ds (b6 ds sts) f p).toNat []++dk (b6 ds sts) (My.cp n ds (b6 ds sts)) (cJ ds (b6 ds sts) g) (p::ext)++[[]]) (fun zs aQ=>by
    rcases eI.mp aQ with z|z
    .rcases eI.mp z with z|z
     .exact .inl (yM z)
     .exact GK _ Rc z
    .exact .inl (d9.mp z))
   rcases aiL aM with z|⟨zs,z,rfl⟩
   .obtain ⟨aW,bJ⟩:=bs ys z;exact⟨(),bJ⟩
   .obtain⟨aW,bJ⟩:=bs zs z;refine⟨by rw[cB,k6];omega,fun y aM=>?_⟩;rcases eI.mp aM with Lz|Lz
    .exact bJ y Lz
    .rw [d9.mp Lz];exact sd
end
def Vp(K:bk)(gj n9:Addr):bO:=λvs H Q _=>∃a ns,vs=[⇑a]/\Sc K a ns H/\↑ns<=63/\jZ gj H/\tE n9 H/\gj≠n9/\∀I,Q (.bp true) I
def aeV{st:Nat->Int}(h:xJ S cg st z)(h':xJ S cg st gB):z=gB:=by
 rcases h with⟨a,b⟩|⟨a,xs,ch,c,d,e,m⟩ <;> rcases h' with⟨rx,gd⟩|⟨rx,arR,Ew,c',d',bD,dU⟩
 .omega
 .exact absurd a rx
 .exact absurd rx a
 .have ae:=m Ew ((c Ew).mpr ((c' Ew).mp d'));have ak:=dU ch ((c' ch).mpr ((c ch).mp d));omega
def aiv{gj n9:Addr}(dv:ml base t.rY gj)(gX:base.BuiltinsAt mg gj)(Jf:ml base t.lw n9)(JE:base.BuiltinsAt mg n9):cq P base T 21 t.IM t.FD ["_law_script"] (Vp K gj n9):=by
 exists T.afe.ok qa,9
 let(a,ns,rfl,B0,i3,amo,abo,NA,q):=h;have bR:=i' ao;have aqc:=aa3 ao;have gx:cE P w K mg base dq 20 t.yL t.xS yP (Re K a ns):=(Ka T a ns i3).mono ∅;have ac3:cE P w K mg base dq 20 t.AK t.Fl EP (WE K a ns):=(aeb T a ns i3).mono ∅;have acE:cE P w K mg base dq 20 t.EW t.A4 DQ (YD K):=(an7 T).mono ∅;have apu:cE P w K mg base dq 20 t.EU t.Dg ["text"] (Ov t):=(ada T).mono ∅;have adi:cE P w K mg base dq 20 t.BY t.DV DE (OI K):=(af8 T).mono ∅;have abS:cE P w K mg base dq 20 t.EB t.Cg Cp Td:=(abE T).mono ∅;have amj:cE P w K mg base dq 20 t.zX t.zr xP (UP P w t):=(Z7 T).mono ∅;have TJ:cE P w K mg base dq 20 t.CP t.z1 Dz (VS P w t n9):=ajl T Jf JE;have QB:cE P w K mg base dq 20 t.B6 t.BH FF (Tb P w K t gj):=(aiX T dv gX).mono ∅;refine(_,(db (MH (b3 ac3 ao T.aa8 T.H5.bo T.acB (ai (U 0) (ai aT aC))) (kC (K:=K) (n:=2) rfl rfl (ac (b8 (i:=1) qa.aG) (ac (b8 (i:=2) qa.aG) kx))))
   (db (b' (i:=3) qa.aG (b3 adi ao T.akG T.GY.bo T.adD (ai (U 0) (ai (U 1) (ai (U 2) aC)))))
   (db (b' (i:=4) qa.aG (b3 amj ao T.ahS T.LL.bo T.ao5 (ai (b3 apu ao T.af5 T.LH.bo T.Ix (ai (b3 acE ao T.adH T.LG.bo T.ael (ai (U 1) (ai (U 2) aC))) aC)) (ai (b3 abS ao T.anF T.M3.bo T.ana (ai (U 2) (ai (U 3) aC))) aC))))
   (db (uo (i:=5) qa.aG rfl (n0 rfl) rfl (e6 (U 2)) (f_ (sc:=bx (top 86)) rfl ∅) (N:=["_law_way"]) (sel:=[none]) (f7 (M:=["_law_script","_law_places","_law_ways_here","_law_stages_here","_law_plan","_law_names_here","_law_name","_law_first","_law_turns","_law_again"]) ∅) (fa.of (λ_ _ _ _=>(b8 (i:=0) (ec (N:=["_law_way"]) ∅ rfl))) (λ_ _ _ _=>(_,hT,by walk_at "B")) (λ_ _ _ _=>(_,(bZ gM (U 0) aT),by walk_at "B"))) rfl)
   (db (b' (i:=6) qa.aG (bZ c8 (U 5) (b3 gx ao T.g8 T.gq.bo T.hg (ai (U 0) (ai aT (ai (fx iV rfl T.iE iw (ai (U 5) aC)) aC))))))
   (db (b' (i:=7) qa.aG (b3 TJ ao T.RW T.CL.bo T.sK (ai (U 4) (ai (U 6) aC))))
   (db (d4 (n8 (lE (b3 QB ao T.RG T.DU.bo T.Ts (ai (U 4) (ai (U 5) (ai (U 6) (ai (U 7) aC))))))) (a4 (b7 kG)) en)
   (db (b' (i:=8) qa.aG (bZ gM (U 7) aT))
   (db (ea (fo gI lh lD kZ (bZ c8 (bZ gM (U 7) aT) aT) (ai dF aC)))
   (db (ea (aoQ gI agf PySem.F.type_list_clear ajN (bZ gM (U 7) aT)))
   (db (b' (i:=9) qa.aG (b3 TJ ao T.RW T.CL.bo T.sK (ai (U 4) (ai (U 6) aC))))
   (a4 (b7 (sr (hV e3 (bZ gM (U 9) aT) (U 8) (cL _)) (sh (b3 QB ao T.RG T.DU.bo T.Ts (ai (U 4) (ai (U 5) (ai (U 6) (ai (U 9) aC)))))))))))))))))))),?_)
 exists (λau I=>aN H I/\Sc K a ns I/\∃wl n ds,kk I wl ds/\t2 n ds/\(∀d∈ds,d.least<=4)/\(4<=n/\n<=99)/\(1<=↑ds/\↑ds<=6)/\au=[~~~a,some (.int n),~~~wl,none,none,none,none,none,none,none]),3
 .nofun;exact(4,rfl,∅,B0,λki wl n ds I s1 qB aq L D hle a8 aK=>(ki,rfl,_,dM.of aq,rfl,_,_,rfl,_,_,rfl,rfl,bX _ _ (s1,qB,wl,n,ds,L,D,hle,a8,(),rfl)))
 intro fG H1 (s1,qB,wl,n,ds,L,D,hle,a8,hr,rfl);have ZI:∀{sts:List g9},Cn n ds sts->dG n ds sts:=λh=>(D.aG,h,hr.2,hr.1,λd hd=>(D.al d hd).1)
 subst aV;exists (λau I=>aN H1 I/\Sc K a ns I/\∃da bM lz dt,oN I da bM lz dt/\dG n ds dt/\au=[~~~a,some (.int n),~~~wl,~~~da,none,none,none,none,none,none]),3
 .nofun;exact(a,ns,n,wl,ds,rfl,i3,qB.seq,qB.bC,L,D,hle,(),λda bM lz dt I s3 dw zZ amb=>bX _ _ (s3,qB.same s3 dw,da,bM,lz,dt,zZ,ZI amb,rfl))
 intro cD aw (s2,kn,da,bM,lz,dt,zZ,X,rfl);have L2:=L.same s2;have R:=X.alT;have W:=X.Pb;have eb:=X.cp;have hlen:=Ml (ds:=ds) (sts:=dt);have ck:0<↑dt:=DT.mpr X.ne;have Y7:=a6 ck;subst aV;exists (λau I=>aN aw I/\Sc K a ns I/\∃eG c,fJ P w t I eG c n ds (b6 ds dt)/\au=[~~~a,some (.int n),~~~wl,~~~da,~~~eG,none,none,none,none,none]),3
 .nofun;exact(n,wl,ds,rfl,L2,D,(),(),kn.bC,n,ds,rfl,D.Pc () (),kn.bC,λc I s3 dw vj=>(wl,ds,da,bM,lz,dt,rfl,L2.same s3,zZ.same s3,X.kM,dw,c,n,ds,dt,rfl,vj,a8,X,dw,λeG cR s5 eM eT=>bX _ _ (s3.trans s5,kn.same (s3.trans s5) eM,eG,c,eT,rfl)))
 intro gi ba (s3,Io,eG,c,ajw,rfl);have qJ:=L2.same s3;let(rr,S5,Gn,aj_):=id qJ;have ht:↑(rr.map V.ref)=↑ds:=by rw[aX,Gn]
 let(at_,hL):∃at_:Nat,dP ns 5 ↑ds=(at_:Int)/\at_<↑ds:=by
  have ae:=iO ns 5 (m:=(↑ds:Int)) ();have ak:=re ns 5 (m:=(↑ds:Int)) ();exact((dP ns 5 ↑ds).toNat,(),())
 let(d,hd):∃d,ds[at_]?\d:=(_,a6 hL.2);let(g,a7,mA):=X.aaF hL.2;have lY:g<↑(b6 ds dt):=by rw[hlen];exact a7
 have Aq:gO (b6 ds dt) d.name\g:=(X.N0 hd).mpr mA;have nF:=W9 (ds:=ds) Y7;subst aV;exists (λau I=>aN ba I/\Sc K a ns I/\∃nl,I nl\(.lst (a3 (ds.map (·.name))))/\au=[~~~a,some (.int n),~~~wl,~~~da,~~~eG,~~~nl,none,none,none,none]),3
 .nofun;refine((_,az.of S5),?_);refine cY.mD (xs:=rr.map V.ref) (zs:=a3 (ds.map (·.name))) (az.of S5) (by rw[aX,Gn];exact cM hr.2 ∅) (by rw[fE,aX,aX,Gn]) (λj v z N aE aQ bl=>?_) (λp ar=>?_)
  .let(dY,o9,rfl):=b_ aE;unfold a3 at aQ;let(y,aM,rfl):=b_ aQ;let(d,hd,rfl):=b_ aM;nofun;exact(Sub.name,_,dM.of (aj_ j _ _ o9 hd),_,cv (j:=1) rfl,bl)
  .exact bX _ _ (bh ar,Io.new ar,p,aR,rfl)
 intro kE cn (s4,kW,nl,Bv,rfl);subst aV;exists (λau I=>I=cn/\au=[~~~a,some (.int n),~~~wl,~~~da,~~~eG,~~~nl,some (.str d.name),none,none,none]),3
 ·(nofun; repeat (dsimp only[Re];nofun));refine(_,.inl (az.of Bv),kW,∅,∅,by rw[fE,aX];omega,_,az.of Bv,_,?_,bX _ _ (rfl,rfl));rw[fE,aX,hL.1];exact cv (by unfold a3;rw[dg,dg,hd];rfl)
 intro qP cR (rfl,rfl);have VL:=(s1.trans s2).trans (s3.trans s4);have Gd:=ajw.same s4;have Hm:tE n9 cR:=abo.step VL;have akw:jZ gj cR:=amo.step VL;subst aV;exists (λau I=>iy n9 cR I/\aL I/\tE n9 I/\(∃z,xJ (dR ds (b6 ds dt) g) (My.cp n ds (b6 ds dt)) (cJ ds (b6 ds dt) g) z/\∃f ip b qs b4,I f\(.tup [.int z,⇑ip,.int (b:Nat)])/\cR f=none/\cR ip=none/\(∀q∈qs,cR q=none)/\nJ I ip qs b4/\zV ds (b6 ds dt) (My.cp n ds (b6 ds dt)) g d.name z b4 b/\au=[~~~a,some (.int n),~~~wl,~~~da,~~~eG,~~~nl,some (.str d.name),~~~f,none,none])),3
 .nofun;exact(eG,c,n,ds,_,_,g,at_,d,rfl,Gd,W,eb,hd,X.RX hd mA,lY,Hm,kW.bC,λr z ip b qs b4 I aj d0 AE bD Mj ae ak aZ gF wr=>bX _ _ (aj,d0,AE,z,Mj,r,ip,b,qs,b4,bD,ae,ak,aZ,gF,wr,rfl))
 intro nt f3 (fk,mM,agt,z,aQ,f,ip,b,qs,b4,ky,arW,PH,L9,gF,ah3,rfl);let(zn,rfl,DO,afn,iI):=ah3.run X hd lY Aq nF;have Mq:hz cR f3:=wE Hm fk;have Y0:=Gd.nB Mq;have apk:=Mq.lst Bv;have DL:jZ gj f3:=by
  let(ps,e,dj):=akw;let(ZV,bD,nX):=Hm;refine(ps,fk _ _ NA e,?_);rcases dj with dj|⟨c',dj,ef⟩
  .exact .inl dj
  .exact .inr (c',dj,fk _ _ (cC ef bD (by intro z;cases z)) ef)
 subst aV;exists (λau I=>iy gj f3 I/\aL I/\jZ gj I/\au=[~~~a,some (.int n),~~~wl,~~~da,~~~eG,~~~nl,some (.str d.name),~~~f,none,none]),3
 .refine Ht (λgd cn=>gd=false/\iy gj f3 cn/\aL cn/\jZ gj cn) (λQ' aY=>?_) (λcn r=>(by cases r.1)) (λcn r=>?_)
  .nofun;exact(eG,c,n,ds,_,nl,at_,d,f,ip,zn,b,qs,b4,g,_,rfl,Y0,apk,hd,ky,gF,Aq,R,nF,DO,afn,iI,DL,mM,λI aj d0 AE=>(_,rfl,aY _ _ (rfl,aj,d0,AE)))
  .simp only[gy];exact bX _ _ (r.2.1,r.2.2.1,r.2.2.2,rfl)
 intro kP e7 (hc,hW,ack,rfl);have Hi:∀{b:Addr} {u:gb},(∀x,u≠.hF x)->f3 b\u->e7 b\u:=λ{b u} bR e=>(wE DL hc) b u bR e
 have y9:=Hi (by intro _ z;cases z) ky;have tU:nJ e7 ip qs b4:=(Hi (by intro _ z;cases z) gF.at_,gF.ln,gF.aG,gF.np,λi q ys aI aM=>Hi (by intro _ z;cases z) (gF.al i q ys aI aM));have K3:0<↑b4:=by have:=DO.vg.1;omega
 have y7:0<↑qs:=by rw[gF.ln];exact K3
 have OC:=tU.al 0 _ _ (a6 y7) (a6 K3);have Po:∀{q:Addr},q∈qs->∃xs,e7 q\(.lst xs):=λ{q} aI=>by
  let(i,ah):=hy aI;have aK:i<↑b4:=by rw[<- gF.ln];exact(b0.mp ah).1
  exact(_,tU.al i q _ ah (a6 aK))
 have ZD:f≠ip:=cC y9 tU.at_ (by intro z;cases z);have agx:f∉qs:=λz=>by
  let(xs,e):=Po z;rw[y9]at e;cases e
 subst aV;exists (λau I=>I=e7/\au=[~~~a,some (.int n),~~~wl,~~~da,~~~eG,~~~nl,some (.str d.name),~~~f,some (.int zn),none]),3
 .nofun;exact(_,dM.of y9,_,cv (j:=0) rfl,bX _ _ (rfl,rfl))
 intro sO iq (rfl,rfl);subst aV;exists (λau I=>aL I/\I ip\(.lst (qs.map V.ref))/\(∀b u,b≠ip->b∉qs->iq b\u->I b\u)/\au=[~~~a,some (.int n),~~~wl,~~~da,~~~eG,~~~nl,some (.str d.name),~~~f,some (.int zn),none]),3
 .nofun;refine(_,dM.of y9,_,cv (j:=1) rfl,_,rfl,_,az.of tU.at_,⇑(qs[0]'y7),cv (j:=0) (by rw[dg,a6 y7];rfl),.inl (_,az.of OC),_,rfl,_,OC,hO (show _<=2 by rw[fE];exact(iI _ (gf K3)).1) ∅,bX _ _ (hW.upd,?_,λb u ae ak e=>?_,rfl))
  .rw [aP (λz=>tU.np (by rw[z];exact gf y7))];exact tU.at_
  .rw [aP (λz=>ak (by rw[z];exact gf y7))];exact e
 intro YI ado (tM,Ow,mI,rfl);subst aV;exists (λau I=>aL I/\(∀b u,b≠ip->b∉qs->iq b\u->I b\u)/\au=[~~~a,some (.int n),~~~wl,~~~da,~~~eG,~~~nl,some (.str d.name),~~~f,some (.int zn),none]),3
 .nofun;exact(_,dM.of (mI _ _ ZD agx y9),_,cv (j:=1) rfl,.inl (_,az.of Ow),_,rfl,_,Ow,bX _ _ (tM.upd,λb u ae ak e=>by rw[aP ae];exact mI _ _ ae ak e,rfl))
 intro aq2 w0 (uJ,iB,rfl);have qY:∀{b:Addr} {u:gb},(∀xs,u≠.lst xs)->iq b\u->w0 b\u:=λ{b u} bR e=>iB _ _ (λz=>by rw[z,tU.at_]at e;exact bR _ (d2 e).symm) (λz=>by
  let(xs,bD):=Po z;rw[bD]at e;exact bR _ (d2 e).symm) e
 have S3:hz cR w0:=λb u bR e=>iB _ _ (dm e PH) (λz=>by rw[L9 b z]at e;cases e) ((wE DL hc) _ _ bR (Mq _ _ bR e))
 have Qs:=Gd.nB S3;have aeF:=S3.lst Bv;have N2:tE n9 w0:=by
  let(ps,e,dj):=agt;let(arq,yj,_):=DL;refine(ps,qY (by intro _ z;cases z) (hc _ _ (et NA) e),?_);rcases dj with dj|⟨c',dj,ef⟩
  .exact .inl dj
  .exact .inr (c',dj,qY (by intro _ z;cases z) (hc _ _ (cC ef yj (by intro z;cases z)) ef))
 have ah4:jZ gj w0:=by
  let(ps,e,dj):=ack;refine(ps,qY (by intro _ z;cases z) e,?_);rcases dj with dj|⟨c',dj,ef⟩
  .exact .inl dj
  .exact .inr (c',dj,qY (by intro _ z;cases z) ef)
 subst aV;exists (λau I=>iy n9 w0 I/\aL I/\(∃z,xJ (dR ds (b6 ds dt) g) (My.cp n ds (b6 ds dt)) (cJ ds (b6 ds dt) g) z/\∃f ip b qs b4,I f\(.tup [.int z,⇑ip,.int (b:Nat)])/\nJ I ip qs b4/\zV ds (b6 ds dt) (My.cp n ds (b6 ds dt)) g d.name z b4 b/\∃rk,au=[~~~a,some (.int n),~~~wl,~~~da,~~~eG,~~~nl,some (.str d.name),rk,some (.int zn),~~~f])),3
 .nofun;exact(eG,c,n,ds,_,_,g,at_,d,rfl,Qs,W,eb,hd,X.RX hd mA,lY,N2,uJ,λr z ip b qs b4 I aj d0 AE bD Mj ae ak aZ gF wr=>bX _ _ (aj,d0,z,Mj,r,ip,b,qs,b4,bD,gF,wr,_,rfl))
 intro arp Ry (Lg,aor,eu,vd,f2,acb,eo,aiG,adQ,Rm,ahw,agl,rk,rfl);let(acw,rfl,amt,sN,aag):=agl.run X hd lY Aq nF;have tC:=aeV aQ vd;have WZ:hz w0 Ry:=wE N2 Lg;have abA:jZ gj Ry:=by
  let(ps,e,dj):=ah4;let(ZV,bD,nX):=N2;refine(ps,Lg _ _ NA e,?_);rcases dj with dj|⟨c',dj,ef⟩
  .exact .inl dj
  .exact .inr (c',dj,Lg _ _ (cC ef bD (by intro z;cases z)) ef)
 subst aV;nofun;refine(_,dM.of Rm,_,cv (j:=0) rfl,rfl,?_);rw[if_pos (decide_eq_true (by rw[tC]))];exact(eG,c,n,ds,_,nl,at_,d,f2,acb,acw,eo,aiG,adQ,g,_,rfl,Qs.nB WZ,WZ.lst aeF,hd,Rm,ahw,Aq,R,nF,amt,sN,aag,abA,aor,λI _ _ _=>q I)
end My
end
section
local macro_rules|`(universe $x*)=>do return Lean.mkNullNode (← Lean.withRef .missing (x.mapM fun i=>`(command|theorem $(Lean.mkIdent (`PySem.W.Fast ++ i.getId)):ident:True:=⟨⟩)))
universe tw12263015021665378000 tw10770461588958329120 tw10763514815594962682 tw3213406038906525319 tw11844033905960927854 tw10612127907776428594 tw13839237378531257025 tw16009062884547459252 tw10457707363637870727 tw15824932611888878693 tw18240947702728492914 tw5195227527772736268 tw7366930296629004740 tw18077566034911831769 tw16657812887696093031 tw4343266128300323492 tw7415143827492746206 tw1775817035368254666 tw15289020157493320367 tw4193746247409065336 tw350588668973840650 tw15121484685768733152 tw16723387255586721000 tw12158096788756748213 tw18142451619670897238 tw5956067287238464226 tw5054975364608605490 tw18168277068060880045 tw16991695587963480628 tw9580513463547728887 tw8886138517994440833 tw5500222287928765661 tw16856033507665248299 tw5674438239509867584 tw10881044923219580092 tw11427888085374507752 tw15435745617806497135 tw2168853930789513041 tw12515316113550181289 tw2735120696905150133 tw6492858677883308637 tw16696540664219850581 tw6398165974059121544 tw9250963498822120474 tw12723608175787731317 tw9732122072818864891 tw1299365928384317569 tw2573432577976948923 tw10737943221589456517 tw16671292488617095047 tw7124584616816639022 tw1317878020665659636 tw10565025603717049520 tw14032313144601809290 tw1717123337543371209 tw15214552343890194619 tw5206784152513180311 tw12019096347400486862 tw12678137103079876676 tw1871049449052575821 tw16459197369605695777 tw13370840840082428841 tw11278067370640693380 tw1247597996199388053 tw17112505331111247276 tw13456464042421661431 tw2476801965333328485 tw8098775461745576434 tw17745415203407842747 tw14137733696169555500 tw12339124893990143730 tw8708388790342175827 tw5472810060479608261 tw8874669362506101544 tw3649724429734959797 tw14100094271984269339 tw16767657721175635707 tw6632254106293105719 tw12810335468087141211 tw17847857776861327627 tw726438258853389590 tw9313962078509275800 tw2175160953074448344 tw15732940392981179205 tw7138432916350213431 tw16137140501981651230 tw11601115705136323536 tw8714593353510342802 tw15091211093001840574 tw14161494478776590389 tw6647046043999699602 tw7090718433078037989 tw3393996148735174801 tw3567643922191414240 tw13421558133521211617 tw4770695759253111298 tw10797130506671988769 tw4157771852510397646 tw14629378969260277651 tw3633236193559493069 tw7490451785402652803 tw11355546361743660506 tw6249641468140684717 tw2121303828682703870 tw11525714995378159863 tw9495384787141145989 tw594650777617985018 tw14170408376095843089 tw2533132430258072237 tw7018042079045573780 tw10304754278951897321 tw5990037364932800887 tw18233952126196882107 tw12867236157511437110 tw11779583107364704585 tw13791785825452761307 tw5481772616205400474 tw13765293825926310536 tw289005169028567450 tw4996677465213029337 tw2733745819533668814 tw12021090373367222496 tw11235342331005834912 tw16217790110947638890 tw4434696680626820259 tw1477615176999929748 tw8867499282253126667 tw7998155742803912642 tw6617387609995165592 tw15549921345507585168 tw4866562823649422939 tw16213853217304424597 tw13701276817496068000 tw4584395758246855191 tw12257584866589789150 tw982226681265975081 tw5412957045921311797 tw1018646738393324717 tw1019531264484475604 tw2997652439531416304 tw14475661900307729348 tw1116427870649323481 tw7999130819727400320 tw3694430703204414711 tw13375415347403047695 tw8477634545800513067 tw724084754445125564 tw1712853173712726980 tw15056763703863182127 tw13992007061117985104 tw14165336809672693786 tw10537297333476958570 tw836334035799066966 tw4968358770177649882 tw6688099032146068721 tw8179001371688456187 tw2050164991856291109 tw3969083497982706293 tw4708151902035172200 tw7633961859759878726 tw5007195001502160811 tw17041462344322410626 tw7473213830628279585 tw7847578895770170638 tw322186222857751709 tw3030979038066949350 tw16914933474148649472 tw17339009238045709332 tw13170056194665909086 tw10780720875697832589 tw830789742061427613 tw7813762562062413140 tw13949034028823305501 tw14290622984459134214 tw13088107734178923940 tw2970954033008922146 tw15327045715087238069 tw5173673787292937985 tw18401217087607821474 tw7414377294510064807 tw16780292204954568547 tw13779826934976822883 tw14323988075886216521 tw5040188898419834172 tw12545113163132134724 tw4850515425075574629 tw13865403474186329 tw6623693280874278654 tw6764383984484431973 tw3816474081416838980 tw3007733440512281103 tw1991076321239942062 tw11274062924444866316 tw9494846061929151586 tw6088362341790391691 tw5303376212275169330 tw8544826445605236975 tw16960578496176701956 tw12186708668942139199 tw772732337970082316 tw1323995169973926951 tw16689494222628454082 tw15230531983044875732 tw14630605144660473036 tw3522041587372407768 tw14098967812957372901 tw10801419982462822067 tw1881970381232023467 tw5301072709274271962 tw4034087089380607416 tw10925376063952535794 tw1260699028444587735 tw14126232858967970825 tw3530689289866168338 tw852601049026908139 tw553783514651952707 tw9610950780637970561 tw3763220507724926219 tw12430247179467351570 tw13181980298276610791 tw7129013463110312579 tw13536606258138878762 tw6635425235031919806 tw6284004822190273886 tw17230682404414365502 tw1178611721894278719 tw3136395901170413993 tw12216617268148389225 tw18392842757733125794 tw1176752536150995406 tw9492941182921620141 tw9951674826847493686 tw10071856902636823075 tw3763493061800909427 tw16359994014934676529 tw15602065136996769772 tw12325979265634636154 tw10237213340290044745 tw421423416858837580 tw14422603678201591940 tw3734490522833263637 tw8302077026961199979 tw3867080322022754689 tw17752663491397006336 tw15706504885553685957 tw18065261823243246975 tw5414647089096768021 tw3584234396921872460 tw12280923539269461018 tw10424573485233415469 tw1475707988580246990 tw677571402205930627 tw17940490247515473048 tw1760871948183117470 tw5097458012419595040 tw1183977846538080053 tw856108365390708702 tw17181218739122710350 tw2895869835236144428 tw6338116039221155152 tw55445064626532138 tw16593071483872397515 tw10773515932448870146 tw6500107193641171773 tw10331281518954098857 tw12055721146700527143 tw657173786555817965 tw15810275967833748171 tw6439914793790127449 tw17928842351245647189 tw645078496143605361 tw15746211346665409812 tw14495344428889608924 tw4476011673353045192 tw9739257305122057124 tw7968088558816838080 tw4721156980666721830 tw18200721982443661804 tw16731032291402166133 tw3444432627230633066 tw16611439351876818931 tw673616699770970633 tw259113507766144005 tw11637445120855738526 tw15546986961288326259 tw4648236665566016089 tw3383001717067372368 tw18181853948530501502 tw1477246820283868931 tw11851602167380660806 tw16966615329616315678 tw10492066714071675540 tw7647695071763911604 tw8816323010280965309 tw16026011307498822229 tw4419349290360734015 tw17757716132706221217 tw12977044382348859680 tw1704846868369565273 tw1730149189829649277 tw3650188319090715364 tw9316261306779396369 tw9183790446832917439 tw4167051399860357012 tw9182839569420883593 tw13291994812931863767 tw10201157464748308581 tw9004319441059418815 tw6148975147939764281 tw14954914542800083019 tw12136714870996007561 tw10634298751743999964 tw2459469678453448219 tw17918185570221951890 tw15001085328989787238 tw14074889286312248707 tw12399169060346717670 tw12020887449233112533 tw16876244375450323762 tw10082999154228352924 tw13724765556031622292 tw5480297127142755853 tw18090849683566705307 tw16366374948878226187 tw2988283530295738703 tw17821747309667882215 tw13382823778795735517 tw1777538902447647912 tw12983495189303977617 tw14920767057097909790 tw17878732978728733549 tw6137229881424505175 tw17799307486582309972 tw17604321217888095328 tw11231259865214410171 tw12843736377727816622 tw7892247229979739585 tw4385693911522101522 tw3904780452649011313 tw2236737765668046305 tw14842387429442327496 tw17859646076064368405 tw3722285545414795376 tw5169474996424015211 tw1453979632388993904 tw1363757520198979466 tw9420343753525709731 tw12712365408204811714 tw9101766884917164797 tw6978495263864965767 tw16140524470014466456 tw3978639411836320810 tw9692770743294411158 tw7854025386181723908 tw2857657949167435107 tw1702931035815925707 tw14153836540556149463 tw10972233344295871724 tw3971080672057589809 tw8643672457163068544 tw8043540364464886303 tw5349622605706620629 tw16838572687815578624 tw10510339768211947322 tw9973456022238917025 tw8445609936855125245 tw4311906259624841796 tw18046507020941603316 tw12684921638713518132 tw8303341524733442460 tw8752666532831022632 tw16914081291744104522 tw15998110821846148096 tw15830094480727322517 tw12089569968409998760 tw1015776232201700079 tw3841981605982999987 tw14968354035848237715 tw14874494194530271733 tw9344226216463413266 tw7001286846103708888 tw6494534680450801294 tw5266166435698344217 tw3854467656800575048 tw2119207681869055204 tw16803960356412962384 tw12237307366587093614 tw10172727391297637085 tw5862588160455073098 tw5543341163281331576 tw4328078487992776982 tw17320603197694552399 tw2165592088967106837 tw12446502826159396021 tw13312180345787374468 tw14965498947954890879 tw18259312450858707273 tw7724213621923180319 tw4169719076682932522 tw8196937773949409541 tw2414291341564321471 tw1082058658616978730 tw14772819203341764910 tw17999060321337580373 tw17623164060012331400 tw13141030055545415421 tw11195721132797485769 tw1866706629363147218 tw12646608119544673618 tw17878281058519325056 tw11501278905397586048 tw328714326167982409 tw2214196034341356214 tw10120646934048077784 tw16610050226367008562 tw7446811988443976230 tw7012051097571518463 tw5225009656595405107 tw17925290015035536514 tw6009576223552850471 tw3518044826660050163 tw16525697379824541606 tw16374163570306106395 tw15952292311440102609 tw10552163303205316969 tw6735816678236703516 tw11641289937038350940 tw812298030329003170 tw6494392097532807750 tw18313369947204297553 tw17785908031114958453 tw15052663155317091957 tw98974389080563210 tw9160820778945741773 tw13522386907894538727 tw9684873749233626987 tw7183640675593343746 tw11296348638206994997 tw6263644438881051415 tw1576057284239874700 tw1115440682779267823 tw735517109559321316 tw179113708683112238 tw2760821254356556810 tw17660024041356445875 tw15274391077685913054 tw11691140078112086712 tw10111220063398587844 tw1949119190242892898 tw17987742972452119157 tw8973354193873532115 tw256334881464007628 tw2234019379750657360 tw1173385608598462135 tw6742374752019466335 tw2096054413472603578 tw2091378277803852779 tw12050066750656819572 tw16406003202275053097 tw7511403562846757559 tw7900451885307267710 tw836000403445196378 tw17929885523290756531 tw10815681770011508153 tw5034351253958810819 tw2321883771105248928 tw10986523508826339370 tw1161834631556526559 tw12772724187183357447 tw12582753263575793252 tw11394453340151117126 tw1721315089106166227 tw16407218972592189776 tw6710949059809070175 tw3193421296503944864 tw15204093736054261651 tw15164212491501652786 tw3801791736737436953 tw15696275073977815837 tw7537763312929787163 tw14307958333065416117 tw4076208432078495366 tw7993114582548624177 tw5416031630282127620 tw8277135917995094857 tw3458388041961951222 tw18290720053500019566 tw270773332721373567 tw17012951609696661908 tw9555118148894223917 tw4929916850884376584 tw14495532642994444790 tw16558206364588803809 tw7707106271317334900 tw8742828744279277023 tw2938585236104529714 tw17578063157303688055 tw6441399812316929440 tw15022880499313125116 tw787161226347788876 tw5873997331728208274 tw18200020766237741918 tw14101031110595478286 tw16678216410279001753 tw7438505538395201240 tw18346754824396206680 tw662663763385723802 tw9129742878351102527 tw5536361072796339066 tw3103270259986805253 tw2832160657678365540 tw2544427599229455547 tw2411471123758717647 tw16782101353394071989 tw1414158168322175157 tw12629729687039450279 tw11625717848383536383 tw4212434913357830057 tw16890851737159484663 tw648422430955006853 tw17832438446653538789 tw9130747499685591674 tw6656944604489278209 tw5106175304544970402 tw4380014699309712860 tw3304479926691389205 tw17899765592356199341 tw13833462182549286652 tw13443397107433960961 tw13340342987370346856 tw10717469692009197753 tw10617207305343225155 tw17526269871149250344 tw9996871622254324814 tw745925901974999514 tw4870046960282447787 tw15499050449566504989 tw15188789614828575551 tw15176024176524386410 tw13865504016839278933 tw8459829560865458374 tw5711586725829042529 tw3891559581708617583 tw2598087550086114753 tw17709420523677267324 tw11757249045328750484 tw9162537349481406844 tw6388868529795757584 tw4469750597442945378 tw442014651468633072 tw4084946471432240643 tw17225173517350863438 tw1549550834621510390 tw14517212137264580044 tw11516557013842353565 tw7345983983180568622 tw347373483999388072 tw17354719303506827612 tw15754375317685400679 tw11899305000609765109 tw10650896036601911602 tw6619595345228913069 tw3829462420493547507 tw17385396376726734624 tw16431329208310452330 tw982647058445775300 tw9433915529441454169 tw6924882030815196400 tw6678708365334500852 tw5861258653525596660 tw4750935715340864052 tw4148535599214912326 tw16932574372548668873 tw16621107824008965079 tw16401035132279337438 tw15953123764896394871 tw12519753482418931633 tw11869114266169010583 tw10666052111467857324 tw10539411998186039007 tw10043934126835501968 tw13772213433305250160 tw4590241187471263732 tw12269556289560472486 tw9985273282321106925 tw931687354869424785 tw7530170711659570195 tw5898197360825352903 tw4545712351311105219 tw3169344107730169117 tw1745580829753197747 tw17091685216632230316 tw1700555060389775136 tw16280932695767394532 tw16111781128828220861 tw15795262282977168431 tw14674828442018905518 tw11870704342961687087 tw10463803888475089859 tw9825250494731415532 tw9333765416258953082 tw7683276967318556486 tw7607235199956912422 tw7605836950847527339 tw4763902381621410468 tw4594857576130263486 tw399467990348666978 tw19208643114245678 tw17053031915508335652 tw13535337878506864750 tw12908148325825068117 tw10901880888773345306 tw10378572338340289184 tw18400667147071086496
end
open PySem PySem.W PyProof.Rows
set_option tactic.hygienic true
set_option maxRecDepth 100000 in
set_option maxHeartbeats 0 in
theorem PySem.Challenge.cw_lampway_k41_a_worst_row_holds : PySem.Challenge.rw_lampway_k41_a_worst_row.Holds := by
 w_on;o_law;k_head;(case hw=>w_witness2)
 k_fill
 refine My.aoq (l:=PySem.Challenge.rw_lampway_k41_a_worst_row) (n:=63) (k:=21) (x:="_law_script") (CX:=L2.dq) (sp:=My.Vp) rfl (by decide) rfl ⟨rfl,by decide,by decide⟩ (fun w h Y=>PySem.W.km_in_of Y) (fun w h Y=>⟨aii Y _ (alp _),aii Y _ (List.Mem.tail _ (alp _))⟩) (by decide) (by intro p;kernel_rfl) ?F ?S ?C
 case F=>
  intro w mg gK h kN G zz ar gc;have T:∃t,My.Txt w (L2.E0 kN) mg t/\H3 (L2.E0 kN) t.rY (L2.Kx ar)=true/\H3 (L2.E0 kN) t.lw (L2.Kx gc)=true:=by
   dsimp only[L2.E0,L2.Kx];refine' ⟨My.bS.mk,⟨⟨?mqaa,?Fqab,?mqac,?Fqad,?mqae,?Fqaf,?mqag,?Fqah,?mqai,?Fqaj,?mqak,?Fqal,?mqam,?Fqan,?mqao,?Fqap,?mqaq,?Fqar,?mqas,?Fqat⟩,⟨?mqau,?Fqav,?mqaw,?Fqax,?mqay,?Fqaz,?mqba,?Fqbb,?mqbc,?Fqbd,?mqbe,?Fqbf,?mqbg,?Fqbh,?mqbi,?Fqbj,?mqbk,?Fqbl,?mqbm,?Fqbn⟩,⟨?mqbo,?Fqbp,?mqbq,?Fqbr,?mqbs,?Fqbt,?mqbu,?Fqbv,?mqbw,?Fqbx,?mqby,?Fqbz,?mqca,?Fqcb,?mqcc,?Fqcd,?mqce,?Fqcf,?mqcg,?Fqch⟩,⟨?mqci,?Fqcj,?mqck,?Fqcl,?mqcm,?Fqcn,?mqco,?Fqcp,?mqcq,?Fqcr,?mqcs,?Fqct,?mqcu,?Fqcv,?mqcw,?Fqcx,?mqcy,?Fqcz,?mqda,?Fqdb⟩,⟨?mqdc,?Fqdd,?mqde,?Fqdf,?mqdg,?Fqdh,?mqdi,?Fqdj,?mqdk,?Fqdl,?mqdm,?Fqdn,?mqdo,?Fqdp,?mqdq,?Fqdr,?mqds,?Fqdt,?mqdu,?Fqdv⟩,⟨?mqdw,?eqdx,?Fqdy,?eqdz,?Fqea,?eqeb,?Fqec,?eqed,?Fqee,?eqef,?Fqeg,?eqeh,?Fqei,?eqej,?Fqek,?mqel,?eqem,?Fqen,?mqeo,?eqep⟩,⟨?Fqeq,?mqer,?eqes,?Fqet,?eqeu,?Fqev,?eqew,?Fqex,?mqey,?eqez,?Fqfa,?eqfb,?Fqfc,?eqfd,?Fqfe,?mqff,?eqfg,?Fqfh,?eqfi,?Fqfj⟩,⟨?eqfk,?Fqfl,?mqfm,?eqfn,?Fqfo,?eqfp,?Fqfq,?eqfr,?Fqfs,?eqft,?Fqfu,?mqfv,?eqfw,?Fqfx,?eqfy,?Fqfz,?eqga,?Fqgb,?eqgc,?Fqgd⟩,⟨?eqge,?Fqgf,?eqgg,?Fqgh,?eqgi,?Fqgj,?eqgk,?Fqgl,?eqgm,?Fqgn,?eqgo,?Fqgp,?eqgq,?Fqgr,?eqgs,?Fqgt,?sqgu,?sqgv,?sqgw,?sqgx⟩,⟨?sqgy,?sqgz,?sqha,?sqhb,?nqhc,?nqhd,?nqhe,?sqhf,?sqhg,?nqhh,?nqhi,?nqhj,?nqhk,?nqhl,?nqhm,?nqhn,?nqho,?sqhp,?sqhq,?sqhr⟩,⟨?sqhs,?sqht,?nqhu,?nqhv,?nqhw,?nqhx,?nqhy,?nqhz,?nqia,?sqib,?sqic,?sqid,?sqie,?nqif,?nqig,?nqih,?nqii,?nqij,?nqik,?nqil⟩,⟨?sqim,?sqin,?sqio,?sqip,?nqiq,?nqir,?nqis,?nqit,?nqiu,?nqiv,?nqiw,?sqix,?sqiy,?sqiz,?sqja,?sqjb,?nqjc,?nqjd,?nqje,?sqjf⟩,⟨?sqjg,?sqjh,?sqji,?sqjj,?sqjk,?sqjl,?sqjm,?sqjn,?sqjo,?sqjp,?sqjq,?sqjr,?nqjs,?nqjt,?nqju,?nqjv,?nqjw,?nqjx,?nqjy,?nqjz⟩,⟨?dqka,?dqkb,?dqkc,?sqkd,?mqke,?vqkf,?mqkg,?vqkh,?mqki,?vqkj,?mqkk,?vqkl,?mqkm,?vqkn,?mqko,?vqkp,?mqkq,?vqkr,?mqks,?vqkt⟩,⟨?mqku,?vqkv,?mqkw,?vqkx,?mqky,?vqkz,?mqla,?vqlb,?bqlc,?bqld,?bqle,?bqlf,?bqlg,?bqlh,?bqli,?bqlj,?bqlk,?bqll,?bqlm,?bqln⟩,⟨?bqlo,?bqlp,?bqlq,?cqlr,?cqls,?lqlt⟩⟩,?zcc,?zcd⟩
   case mqaa|mqac|mqae|mqag|mqai|mqak|mqam|mqao|mqaq|mqas|mqau|mqaw|mqay|mqba|mqbc|mqbe|mqbg|mqbi|mqbk|mqbm|mqbo|mqbq|mqbs|mqbu|mqbw|mqby|mqca|mqcc|mqce|mqcg|mqci|mqck|mqcm|mqco|mqcq|mqcs|mqcu|mqcw|mqcy|mqda|mqdc|mqde|mqdg|mqdi|mqdk|mqdm|mqdo|mqdq|mqds|mqdu|mqdw|mqel|mqeo|mqer|mqey|mqff|mqfm|mqfv|mqke|mqkg|mqki|mqkk|mqkm|mqko|mqkq|mqks|mqku|mqkw|mqky|mqla=>(try dsimp only);refine' PySem.W.mg_of kN G ?z;case z=>k_is
   case eqdx|eqdz|eqeb|eqed|eqef|eqeh|eqej|eqem|eqep|eqes|eqeu|eqew|eqez|eqfb|eqfd|eqfg|eqfi|eqfk|eqfn|eqfp|eqfr|eqft|eqfw|eqfy|eqga|eqgc|eqge|eqgg|eqgi|eqgk|eqgm|eqgo|eqgq|eqgs=>(try dsimp only);k_is
   case sqgu|sqgv|sqgw|sqgx|sqgy|sqgz|sqha|sqhb|sqhf|sqhg|sqhp|sqhq|sqhr|sqhs|sqht|sqib|sqic|sqid|sqie|sqim|sqin|sqio|sqip|sqix|sqiy|sqiz|sqja|sqjb|sqjf|sqjg|sqjh|sqji|sqjj|sqjk|sqjl|sqjm|sqjn|sqjo|sqjp|sqjq|sqjr|sqkd=>(try dsimp only);constructor <;> k_is
   case Fqab|Fqad|Fqaf|Fqah|Fqaj|Fqal|Fqan|Fqap|Fqar|Fqat|Fqav|Fqax|Fqaz|Fqbb|Fqbd|Fqbf|Fqbh|Fqbj|Fqbl|Fqbn|Fqbp|Fqbr|Fqbt|Fqbv|Fqbx|Fqbz|Fqcb|Fqcd|Fqcf|Fqch|Fqcj|Fqcl|Fqcn|Fqcp|Fqcr|Fqct|Fqcv|Fqcx|Fqcz|Fqdb|Fqdd|Fqdf|Fqdh|Fqdj|Fqdl|Fqdn|Fqdp|Fqdr|Fqdt|Fqdv|Fqdy|Fqea|Fqec|Fqee|Fqeg|Fqei|Fqek|Fqen|Fqeq|Fqet|Fqev|Fqex|Fqfa|Fqfc|Fqfe|Fqfh|Fqfj|Fqfl|Fqfo|Fqfq|Fqfs|Fqfu|Fqfx|Fqfz|Fqgb|Fqgd|Fqgf|Fqgh|Fqgj|Fqgl|Fqgn|Fqgp|Fqgr|Fqgt=>(try dsimp only);refine' L2.agd ?x ?y ?z;(case x=>k_is);(case y=>k_is);(case z=>k_is)
   case cqlr|cqls=>(try dsimp only);(try rfl)
   case nqhc|nqhd|nqhe|nqhh|nqhi|nqhj|nqhk|nqhl|nqhm|nqhn|nqho|nqhu|nqhv|nqhw|nqhx|nqhy|nqhz|nqia|nqif|nqig|nqih|nqii|nqij|nqik|nqil|nqiq|nqir|nqis|nqit|nqiu|nqiv|nqiw|nqjc|nqjd|nqje|nqjs|nqjt|nqju|nqjv|nqjw|nqjx|nqjy|nqjz=>(try dsimp only);unfold L2.dJ;k_is
   case dqka|dqkb|dqkc=>(try dsimp only);decide
   case vqkf|vqkh|vqkj|vqkl|vqkn|vqkp|vqkr|vqkt|vqkv|vqkx|vqkz|vqlb=>(try dsimp only);exact⟨_,rfl⟩
   case bqlc|bqld|bqle|bqlf|bqlg|bqlh|bqli|bqlj|bqlk|bqll|bqlm|bqln|bqlo|bqlp|bqlq=>(try dsimp only);refine' PySem.W.mg_none_of kN G ?z;case z=>k_is
   case lqlt=>(try dsimp only);exact fun _ _=>.of_eq rfl
   case zcc=>(try dsimp only);kernel_rfl
   case zcd=>(try dsimp only);kernel_rfl
  obtain⟨t,T,vM,jY⟩:=T;have eh:=zz.symm.trans T.acG;cases eh;exact⟨t.FD,t.rY,t.lw,T.ah7,vM,jY,fun base V3 nb dv gX Jf JE=>My.aiv T dv gX Jf JE⟩
 case S=>exact fun K H a hZ j5 ns aK i_ l8 dV=>⟨a,ns,rfl,My.aad l8 dV,aK,⟨#[],l8.1 _ (.head _),.inl rfl⟩,⟨#[],l8.1 _ (.tail _ (.head _)),.inl rfl⟩,i_,fun _=>rfl⟩
 case C=>exact fun _ _ _ _ z=>z
