import PyProof.Rows.All
import Wide.All
import OpenK.AllK
import Wide.FinOn
import Lean
import PyProof.EqAt
import PyProof.EqKinds
import PyProof.TupleCall
import KE.KTryMore
import PyProof.NsDelKeeps
import PySem.Challenge.RW_lampway_k50_whole_road_counts
set_option compiler.extract_closed false
set_option Elab.async false
set_option linter.all false
set_option autoImplicit true
set_option genSizeOf false
set_option maxRecDepth 100000
local macro_rules | `(tactic| ac_nf)=>`(tactic| decide +kernel)
local macro_rules | `(tactic| omega)=>`(tactic| first | with_reducible assumption | lia | omega (splitDisjunctions := true))
open Array renaming find?_toList→arG,getElem?_eq_getElem→am0,getElem?_eq_none→afv,getElem?_eq_some_iff→Lq,getElem?_setIfInBounds_ne→U2,getElem?_toList→WR,length_toList→so,toList→apR,toList_append→og,toList_inj→abD
open Bool renaming and_eq_true→jP,and_false→al8,eq_iff_iff→m3,false_and→o6,false_eq_true→OP,false_ne_true→gu,false_or→nz,not_true→acN,or_eq_false_iff→z5,or_eq_true→yQ,or_false→aaa,or_true→FO,true_and→n0,true_or→vb
open Char renaming toNat→A0
open Except renaming ok→sO
open False renaming elim→j6
open ForInStep renaming yield→AW
open Int renaming emod_eq_of_lt→OQ,emod_lt_of_pos→ER,emod_nonneg→Eb,le_refl→tR,mul_lt_mul'→arQ,mul_nonneg→aiH,toNat_natCast→sz,toNat_of_nonneg→sa,zero_add→tj
open List renaming all_cons→aci,all_eq_true→oX,any_cons→zF,any_eq_false→KN,any_eq_true→uB,any_map→ae1,append_assoc→oj,append_nil→oE,cons_append→AP,contains_cons→Dn,drop_eq_getElem_cons→uJ,drop_length→w9,drop_zero→ajh,exists_cons_of_ne_nil→wd,filterMap_cons→Um,filter_congr→ahD,filter_cons→ahT,filter_cons_of_neg→ag2,filter_cons_of_pos→apy,filter_eq_nil_iff→Zl,find?→abV,find?_cons→oL,find?_eq_none→QF,findIdx?_eq_some_iff_getElem→Rd,findSome?_cons→Lf,findSome?_eq_none_iff→JD,flatMap_append→C2,flatMap_cons→AO,flatMap_nil→ade,flatten_append→aiS,flatten_cons→ym,foldl_append→q4,getD→DB,getD_eq_getElem?_getD→k5,getElem?_append_left→nD,getElem?_append_right→nj,getElem?_cons_succ→xw,getElem?_drop→S8,getElem?_eq_getElem→bq,getElem?_eq_none→Tq,getElem?_eq_none_iff→anL,getElem?_eq_some_iff→b3,getElem?_map→dF,getElem?_of_mem→iH,getElem?_set_ne→F2,getElem?_set_self→GJ,getElem?_take_of_lt→r7,getElem_inj→sP,getElem_map→vy,getElem_mem→mL,getElem_of_mem→O3,head?_eq_none_iff→ad4,length→sj,length_append→dx,length_cons→ih,length_drop→rp,length_filter_le→y6,length_map→aO,length_nil→yP,length_pos_iff→VX,length_pos_of_mem→aeR,length_range→xk,length_set→aqc,length_singleton→qf,length_take→hb,lookup→qw,lookup_cons→lj,map→tE,map_append→fg,map_congr_left→Dy,map_cons→e1,map_map→oN,map_nil→p_,map_take→Xt,mem_append→ff,mem_append_left→xu,mem_append_right→l3,mem_cons→e_,mem_cons_of_mem→il,mem_cons_self→m4,mem_filter→nu,mem_filterMap→ac2,mem_flatten→XM,mem_iff_getElem→am',mem_map→cj,mem_of_getElem?→ct,mem_of_mem_drop→Ds,mem_of_mem_take→yW,mem_or_eq_of_mem_set→WI,mem_range→sZ,mem_singleton→eg,nil_append→Qp,nodup_append→z8,nodup_cons→qp,nodup_nil→Hu,not_mem_nil→r1,of_mem_zip→U6,pairwise_iff_getElem→aoU,perm_append_comm→anF,perm_middle→ak3,range→gN,range_succ→Ah,replicate→Kn,set_cons_succ→jM,set_cons_zero→jF,size_toArray→eB,sublist_flatten_of_mem→ajX,sum_cons→Jw,take_add_one→qJ,take_append_drop→WL,take_length→hE,take_of_length_le→NP,take_sublist→adG,take_zero→tD
open List.Pairwise renaming imp_of_mem→avf,map→atk,nil→atZ
open List.Perm renaming append_left→aog
open List.cons renaming inj→Ay
open Nat renaming le_of_eq→FA,le_of_lt→nM,le_of_not_lt→alA,le_refl→b1,le_succ→xr,le_trans→c9,log2_lt→aqA,lt_irrefl→ly,lt_of_le_of_lt→fW,lt_of_lt_of_le→ic,lt_of_not_le→PS,lt_or_ge→I',lt_succ_self→Pc,lt_trans→aa4,lt_trichotomy→art,min_eq_left→amu,mod_add_div→ag7,mul_le_mul_left→ahi,mul_succ→anz,ne_of_gt→xQ,ne_of_lt→gs,not_lt→Za,reduceAdd→acJ,reduceSub→aq3,sub_self→Cr,succ_le_succ→Ss,succ_mul→aeH,toDigits→w',zero_le→e0
open Ne renaming symm→cT
open Option renaming bind_some→t2,getD_none→ah4,isSome_iff_exists→aoy,isSome_map→adH,map_eq_some_iff→CI,map_some→GW,none→v9,toList→DO
open Option.some renaming inj→dZ
open Or renaming inl→n2,inr→oJ
open Prod.mk renaming inj→RQ
open PyProof.Rows renaming callWith_builtin1→aoL,callWith_type1→SR,iadd_int→au_,isub_int→avp,slot_tuple_getitem→SU,split_weight→aqM
open PySem renaming Within→FX,call→ahx,frameOf→Hy,mem_of_lookup→xj
open PySem.Around renaming frames_deeper→agk,under→Ub,under_plainId→ZP
open PySem.Builtin.Builtins renaming bindParams→apN
open PySem.Builtin.Dict renaming dictSlotNone→atN,showsAll→acn
open PySem.Builtin.Dict_items renaming ownsTuple→ae5
open PySem.Builtin.List renaming listTooLong→aa1
open PySem.Builtin.Range renaming rangeSize→avq
open PySem.Builtin.Slice renaming sliceAdjust→WN,sliceApplied→arD,sliceFields→aum,slicePartIndex→atn,slicePlaces→NJ
open PySem.Builtin.Str renaming occurrences→uh,partsBetween→ajE,strKind→afF,tooLong→Q3
open PySem.Builtin.Tuple renaming tupleExact→PW,tupleItemsOf→avk
open PySem.Calls renaming Constant_str→ahZ,Name_function_global→aim,callWith_builtin→aaI,evalArgs_plain→ahI,spliced_cons→YV,spliced_nil→acO
open PySem.CmpOp renaming NotIn→aqX
open PySem.Code renaming frames→akw,isFrame→X9,quiet_builtin→aeZ
open PySem.Data renaming cell→X3,fields→TY
open PySem.EntryCells renaming newEntry→ah5
open PySem.EqMixed renaming eq_bool_str→atE,eq_int_str→auj,eq_str_bool→at0,eq_str_int→au0,ne_bool_str→at9,ne_int_str→aul,ne_str_bool→auy,ne_str_int→au5
open PySem.EqNone renaming eq_bool_none→atc,eq_int_none→aub,eq_none_bool→auR,eq_none_int→atP,eq_none_none→atf,eq_none_str→auK,eq_str_none→auI,ne_bool_none→auq,ne_int_none→atR,ne_none_bool→aud,ne_none_int→avg,ne_none_none→avo,ne_none_str→atW,ne_str_none→ave
open PySem.F renaming args_dict_keyiterator_next_1→adQ,args_dict_pop_3→adN,args_str_split_2→VR,entry_dict_keyiterator_next→ahL,entry_dict_pop→aqz,entry_min_loop→X',entry_str_split→Yk,excBase_ValueError→aqW,plainAttrs_dict→sg,plainAttrs_list→hJ,plainAttrs_str→vi,plain_min_loop→wz,slot_dict_clear→Xd,slot_dict_getitem→aiM,slot_dict_items→x9,slot_dict_iter→asY,slot_dict_keyiterator_next→Ga,slot_dict_pop→Y_,slot_list_append→kY,slot_list_clear→Ua,slot_list_extend→yG,slot_list_insert→Tj,slot_list_pop→Vv,slot_str_join→Df,slot_str_split→GO,type_dict_clear→amx,type_dict_items→zQ,type_list_append→lT,type_list_clear→aoI,type_list_extend→E5,type_list_insert→aiX,type_list_pop→akD,type_str_join→C7,type_str_split→abU
open PySem.Heap renaming MadeExcOf→aea,SameBut→w5,get?_none_of_le→aah,get?_push_of_some→ea,get?_push_size→hl,get?_update_other→lJ,get?_update_self→sb,lt_size→en,size_push→S2,size_update→ani
open PySem.Heap.IsSliceOf renaming new→au3
open PySem.Heap.Ns1 renaming of_empty→agx
open PySem.Heap.SameBut renaming update→agG
open PySem.NameKind renaming cell→UG,free→sT
open PySem.NumText renaming digitsVal→ZU
open PySem.Obj renaming data_mapFields→EK,isFreed_of_fields→ZX,mapFields→qc,mapSeq→s9
open PySem.Paired renaming length→Ic,snoc→Yc
open PySem.PassesOwn renaming never→fK
open PySem.SeqAt renaming EqAt→LA,RcAt→IK
open PySem.SeqAt.EqAt renaming int_str→ago,of_refs→Tv,same→Rl,str_int→akO
open PySem.SeqAt.RcNeAt renaming lists→auY,lists_lengths→auS,tuples→avc
open PySem.Str renaming cps_append→mx,ext'→ar8,join→eI,length→vY,ofString→ab
open PySem.StrLaws renaming glued_eq_join→y3,reprText_len→at5,sliceText→xR
open PySem.Txt renaming join→rS,slice→nh,slice_le→xg,split→jq,upper→xd
open PySem.Value renaming bool→kg,builtin→wJ,bytes→Hx,float→EN,int→mO,isInt→aoS,isStrOf→agW,none→i6,ref→dK,str→rh,type→IL
open PySem.W renaming CodeHd→pe,Frag→bg,InitBack→aj_,InstAt→H5,Looks→Oo,any_some→B7,bind_fn→ad8,callWith_K→x2,callWith_K0→asU,cellsFrom_some→aeE,clsIn→aqR,cls_value→aoG,codeHdIn→afI,codeIn→TH,emptyDict→k3,envX→OV,exmOne→KZ,findCls→aq',findIn→dn,fnOf→yN,handedIn→aom,hasDictIn→BX,instObj→uX,isFn→NX,keepIn→sD,kia_one→pR,kitOne→alO,kitx_dict→afN,kitx_list→afr,kla_fn→arh,kla_obj→BN,lookIn→EB,looks_clsIn→aaX,looks_findIn→Cu,looks_mroIn→ajL,makesIn→ado,methodCall_KW→wF,methodObj→abj,method_cls→afH,mroIn→yO,noTabs→am9,nsIn→ZT,plainGet→NS,plainGet_of→UQ,plainOver→anU,readsIn→amF,set_plain→af8,specialIn→xK,tabObj→Zb,takerIn→aaC,takesIn→Jp,typeIn→aa9
open PySem.W.KIN renaming signs_num→apn
open PySem.W.KOpn renaming upper_app→aup,upper_one→avr
open PySem.W.Looks renaming here→aj0,ld→atq
open PySem.W.WData renaming int→aeT
open PySem.W.WShape renaming has→apP
open PySem.Walks renaming list→Cs
open PySem.Within renaming cons→aqi
open Sum renaming inl→sm,inr→bx
open Sum.inr renaming inj→pP
open True renaming intro→hI
set_option tactic.hygienic false
section
local macro_rules|`(())=>`(by omega)
local macro_rules|`(∅)=>`(by first|decide +kernel|walk_at "F")
local macro_rules|`($x\$y)=>`($x=some $y)
local macro_rules|`(↑$x)=>`(($x).length)
local macro_rules|`(↥$x)=>`(($x).heap.objs.size)
local macro_rules|`(⇑$x)=>`(.ref $x)
open Prod renaming mk→p'p
local macro_rules|`(($x,$y,*))=>`(⟨$x,$y,*⟩)
def letPat:Nat->Lean.Term->Lean.MacroM (Lean.TSyntax `rcasesPat)
 |0,_=>Lean.Macro.throwUnsupported
 | n+1,p=>match p with
  | `(_)=>`(rcasesPat|_)
  | `($x:ident)=>`(rcasesPat|$x:ident)
  | `(($x,$y,*))=>do
   let q<-(#[x]++y.getElems).mapM fun z=>do
    let r<-letPat n z
    `(Lean.Parser.Tactic.rcasesPatLo|$r:rcasesPat)
   `(rcasesPat|⟨$q,*⟩)
  |_=>Lean.Macro.throwUnsupported
theorem g'g{p:Prop}(h:∀G:Prop,(p->G)->G):p:=h p id
local macro_rules|`(tactic|let $d:letDecl)=>do
  let d:=d.raw[0]
  let p<-letPat 9 ⟨d[0]⟩
  let v:Lean.Term:=⟨d[4]⟩
  let o<-if d[2].isNone then `(tactic|obtain $p:rcasesPat:=$v)else `(tactic|obtain $p:rcasesPat : $(⟨d[2][0][1]⟩) := $v)
  if v.raw.isIdent&&(d[0].find? (fun y=>y.isOfKind `null&&11<y.getNumArgs)).isSome then `(tactic|(refine g'g fun G g=>?_;$o;all_goals(refine g ?_;clear g G)))else return o
local macro_rules|`(tactic|intro $x*)=>do
  if x.all (fun y=>y.raw.isIdent||y.raw.isOfKind ``Lean.Parser.Term.hole)then Lean.Macro.throwUnsupported
  let q<-x.mapM fun y=>do `(rintroPat|$(<-letPat 9 y):rcasesPat)
  `(tactic|rintro $q*)
namespace L2
open PySem PySem.Spec PyProof.Rows
abbrev Key:=Sum Int Str
noncomputable def wV:Key->Value->Bool
 | .inl k,v=>aoS k v
 | .inr x,v=>agW x v
noncomputable def adT(w:World):Key->Int
 | .inl k=>hashInt k
 | .inr x=>hashStr w x
theorem pA:∀{k:Key} {v:Value},wV k v=true->(∃i t,k=sm i/\v=mO i t)\/(∃x t,k=bx x/\v=rh x t)
 | .inl i,v,h=>by
  let(t,e):=Value.isInt_shape (k:=i) (v:=v) h;exact .inl (i,t,rfl,e)
 | .inr x,v,h=>by
  let(t,e):=Value.isStrOf_shape (x:=x) (v:=v) h;exact .inr (x,t,rfl,e)
def ari(i:Int)(t:Tok):wV (.inl i) (.int i t)=true:=by simp[wV,aoS]
def ah2(x:Str)(t:Tok):wV (.inr x) (.str x t)=true:=by simp[wV,agW]
def ag8(a b:Int):decide ((sm a:Key)=sm b)=(a==b):=by
 by_cases e:a=b
 .subst e;simp
 .have h:¬(sm a:Key)=sm b:=λq=>e (Sum.inl.inj q)
  rw[decide_eq_false h];exact(beq_eq_false_iff_ne.mpr e).symm
def FS(a b:Str):decide ((bx a:Key)=bx b)=decide (a=b):=by
 by_cases e:a=b
 .subst e;simp
 .have h:¬(bx a:Key)=bx b:=λq=>e (pP q)
  rw[decide_eq_false h,decide_eq_false e]
def arq(a:Int)(b:Str):decide ((sm a:Key)=bx b)=false:=decide_eq_false (λq=>nomatch q)
def ai_(a:Str)(b:Int):decide ((bx a:Key)=sm b)=false:=decide_eq_false (λq=>nomatch q)
noncomputable def hK(prog:Program)(w:World):PySem.KeyKind prog w Key where
 is:=wV
 hash:=adT w
 inj:=λv a b aV U=>by
  rcases pA aV with⟨i,t,rfl,rfl⟩|⟨x,t,rfl,rfl⟩
  .rcases pA U with⟨j,u,rfl,e⟩|⟨y,u,rfl,e⟩
   .injection e with aq _;rw[aq]
   .exact nomatch e
  .rcases pA U with⟨j,u,rfl,e⟩|⟨y,u,rfl,e⟩
   .exact nomatch e
   .injection e with aq _;rw[aq]
 byValue:=λk v h=>by
  rcases pA h with⟨i,t,rfl,rfl⟩|⟨x,t,rfl,rfl⟩ <;> rfl
 pyHash:=λaQ h=>by
  rcases pA aQ with⟨i,t,rfl,rfl⟩|⟨x,t,rfl,rfl⟩
  .exact wpAny_pyHash_int h
  .exact wpAny_pyHash_str h
 eqBool:=λbp aQ h=>by
  rcases pA bp with⟨i,t,rfl,rfl⟩|⟨x,t,rfl,rfl⟩
  .rcases pA aQ with⟨j,u,rfl,rfl⟩|⟨y,u,rfl,rfl⟩
   .rw [ag8]at h;exact wpAny_eqBool_int h
   .rw [arq]at h;exact ago i t y u _ _ _ _ h
  .rcases pA aQ with⟨j,u,rfl,rfl⟩|⟨y,u,rfl,rfl⟩
   .rw [ai_]at h;exact akO x t j u _ _ _ _ h
   .rw [FS]at h;exact wpAny_eqBool_str h
 «strs»:=λk x t v h=>by
  rcases pA h with⟨i,u,rfl,e⟩|⟨y,u,rfl,e⟩
  .exact nomatch e
  .injection e with aq _;subst aq;cases v <;> rfl
def acw(prog:Program)(w:World)(i:Int)(t:Tok):(hK prog w).is (.inl i) (.int i t)=true:=ari i t
def amK(prog:Program)(w:World)(x:Str)(t:Tok):(hK prog w).is (.inr x) (.str x t)=true:=ah2 x t
inductive V where
 |b5|bC (b:Bool)|int (i:Int)|str (x:Str)|mu (b:Array UInt8)|uN (b:UInt64)|ref (a:Addr)|ty (n:String)
 deriving DecidableEq
def bP:V->Value->Prop
 | .b5,u=>u=i6
 | .bC b,u=>u=kg b
 | .int i,u=>∃t,u=mO i t
 | .str x,u=>∃t,u=rh x t
 | .mu b,u=>∃t,u=Hx b t
 | .uN b,u=>∃t,u=EN b t
 | .ref a,u=>u=dK a
 | .ty n,u=>u=IL n
abbrev cq:List V->List Value->Prop:=Paired bP
def cq.length(r:cq xs us):↑xs=↑us:=Ic r
theorem cq.get:∀{xs:List V} {us:List Value} {i:Nat} {x:V},cq xs us->xs[i]?\x->∃u,us[i]?\u/\bP x u
 |_,_,_,_,.nil,e=>by simp at e
 |_,_,0,_,.cons r _,e=>by simp at e;subst e;exact(_,rfl,r)
 |_,_,i+1,x,.cons _ t,e=>by
  let(u,af,aj):=cq.get (i:=i) (x:=x) t (by simpa using e);exact(u,by simpa using af,aj)
theorem cq.set{x:V}(r:bP x u):∀{xs:List V} {us:List Value} (i:Nat),cq xs us->cq (xs.set i x) (us.set i u)
 |_,_,_,.nil=>.nil
 |_,_,0,.cons _ t=>.cons r t
 |_,_,i+1,.cons q t=>.cons q (cq.set r i t)
theorem cq.append:∀{xs ys:List V} {us ws:List Value},cq xs us->cq ys ws->cq (xs++ys) (us++ws)
 |_,_,_,_,.nil,s=>s
 |_,_,_,_,.cons r t,s=>.cons r (cq.append t s)
theorem cq.take:∀{xs:List V} {us:List Value} (n:Nat),cq xs us->cq (xs.take n) (us.take n)
 |_,_,0,_=>.nil
 |_,_,_+1,.nil=>.nil
 |_,_,n+1,.cons r t=>.cons r (cq.take n t)
theorem cq.drop:∀{xs:List V} {us:List Value} (n:Nat),cq xs us->cq (xs.drop n) (us.drop n)
 |_,_,0,r=>r
 |_,_,_+1,.nil=>.nil
 |_,_,n+1,.cons _ t=>cq.drop n t
def iV:Option V->Option Value->Prop
 |some v,some u=>bP v u
 |none,none=>True
 |_,_=>False
def e7{fb:Type}:List (fb×V)->List (fb×Value)->Prop:=Paired λ(p:fb×V) (q:fb×Value)=>p.1=q.1/\bP p.2 q.2
noncomputable def df:Key->V
 | .inl i=>.int i
 | .inr x=>.str x
inductive dJ where
  |lst (xs:List V)
  |tup (xs:List V)
  |aY (kvs:List (Key×V))|gK (kvs:List (List Key×V))
  |set (S:Int->Bool) (n:Nat)
  |ins (C ak:Addr) (aT:List (Str×V))
  |own (x:Addr)
  |Ht (aT:List (Str×V))
  |met (f x:Addr)
  |DQ (lo ai:Int)
  |dg (o:Obj) (u:dJ)
  |hz (ps:Array Value)
  |ext (vV:Heap->Prop)
abbrev au:=Addr->Option dJ
noncomputable def upd(H:au)(a:Addr)(o:dJ):au:=λb=>if b=a then some o else H b
def aM:upd H a o a\o:=by unfold upd;rw[if_pos rfl]
def ax(h:b≠a):upd H a o b=H b:=by unfold upd;rw[if_neg h]
def vB:upd (upd H a o) a u=upd H a u:=by
 funext b;unfold upd;split <;> rfl
def bI{H:au}{a b:Addr}{o u:dJ}(h:H a\o)(h':H b\u)(d:o≠u):a≠b:=by
 intro e;subst e;rw[h]at h';exact d (dZ h')
def du{H:au}{a b:Addr}{o:dJ}(h:H a\o)(h':H b=none):a≠b:=by
 intro e;subst e;rw[h]at h';cases h'
section
variable(P:Program)(w:World)
def ce(H:au)(h:Heap)(a:Addr):dJ->Prop
 | .lst xs=>↑xs<=sizeLine/\∃(a':List Value) (n:Nat),cq xs a'/\h.get? a=some {cls:=.type "list",data:=.seq a'.toArray n}
 | .tup xs=>(↑xs<=sizeLine/\∃b0,h.get? a\b0/\b0.dict=none)/\∃a':List Value,cq xs a'/\IsTup h a a'.toArray
 | .aY kvs=>↑kvs<=sizeLine/\(a==sysModules)=false/\∃vs,e7 kvs vs/\h.DictOf (hK P w) a vs
 | .gK kvs=>↑kvs<=sizeLine/\(a==sysModules)=false/\∃xs:List (List Key×Addr×Value),
   Paired (λ(p:List Key×V) (q:List Key×Addr×Value)=>p.1=q.1/\H q.2.1\(.tup (p.1.map df))/\bP p.2 q.2.2) kvs xs /\
   ∃o aU ep,h.get? a\o/\o.ExactDict/\o.data=.dict aU ep/\aU.toList=xs.map (entryOfKey (tupleKind (hK P w)))/\(xs.map (·.1)).Nodup
 | .set S n=>h.SetOf (intKind P w) a S n
 | .ins C ak aT=>H ak\(.own a)/\↑aT<=1000/\ak≠a/\h.get? a\(uX C ak) /\
   ∃eo,h.Ns1 ak eo/\(∀f,iV (aT.lookup f) (eo f))/\FX eo (aT.map (·.1))
 | .own _=>∃o,h.get? a\o
 | .Ht aT=>∃eo,h.Ns1 a eo/\∀f,iV (aT.lookup f) (eo f)
 | .DQ lo ai=>∃t u v,h.get? a=some {cls:=.type "range",data:=.fields #[.int lo t,.int ai u,.int 1 v]}
 | .dg o u=>h.get? a\o/\ce H h a u
 | .hz ps=>h.get? a=some {cls:=.none,data:=.fields ps}
 | .met f x=>h.get? a\(abj (.ref f) (.ref x))
 | .ext vV=>vV h/\(∃o,h.get? a\o)/\∀af aj:Heap,vV af->(∀o,af.get? a\o->aj.get? a\o)->vV aj
def eW(H:au)(h:Heap):Prop:=∀a o,H a\o->ce P w H h a o
end
section
variable{P:Program}{w:World}{H H':au}{h h':Heap}{a:Addr}{o:dJ}
theorem ce.lt(x:ce P w H h a o):a<h.objs.size:=by
 cases o with
 |lst xs=>let(_,_,_,_,e):=x;exact en e
 |tup xs=>let(_,_,_,p):=x;exact p.lt
 |aY kvs=>let(_,_,_,_,o,_,_,e,_):=x;exact en e
 |gK kvs=>let(_,_,_,_,o,_,_,e,_):=x;exact en e
 |set S n=>let(o,_,_,_,e,_):=x;exact en e
 |ins C ak aT=>let(_,_,_,e,_):=x;exact en e
 |own y=>let(_,e):=x;exact en e
 |Ht aT=>let(_,(_,_,_,e,_),_):=x;exact en e
 |DQ lo ai=>let(_,_,_,e):=x;exact en e
 |dg b0 u=>let(e,_):=x;exact en e
 |hz ps=>exact en (show h.get? a\_ from x)
 |met f y=>exact en (show h.get? a\_ from x)
 |ext vV=>let(_,(_,e),_):=x;exact en e
theorem Paired.tu:∀{l₁:List α} {l₂:List β},Paired F l₁ l₂->(∀a b,F a b->G a b)->Paired G l₁ l₂
 |_,_,.nil,_=>.nil
 |_,_,.cons r t,f=>.cons (f _ _ r) (Paired.tu t f)
theorem ce.nE(x:ce P w H h a o)(k:∀b u,(b=a\/H b\(.own a))->h.get? b\u->h'.get? b\u)
  (aX:∀b,H b\(.own a)->H' b\(.own a)) (c4:∀b xs,H b\(.tup xs)->H' b\(.tup xs)):ce P w H' h' a o:=by
 induction o with
 |lst xs=>let(z,a',n,r,e):=x;exact(z,a',n,r,k _ _ (.inl rfl) e)
 |tup xs=>let((z,aoW,ak0,FR),a',r,b0,e,c):=x;exact((z,aoW,k _ _ (.inl rfl) ak0,FR),a',r,b0,k _ _ (.inl rfl) e,c)
 |aY kvs=>let(z,y,vs,r,b0,aU,ep,e,c):=x;exact(z,y,vs,r,b0,aU,ep,k _ _ (.inl rfl) e,c)
 |gK kvs=>
  let(z,y,xs,r,b0,aU,ep,e,c):=x;exact(z,y,xs,Paired.tu r λp q z=>(z.1,c4 _ _ z.2.1,z.2.2),b0,aU,ep,k _ _ (.inl rfl) e,c)
 |set S n=>let(b0,aU,ep,t,e,c):=x;exact(b0,aU,ep,t,k _ _ (.inl rfl) e,c)
 |ins C ak aT=>
  let(d,z,ne,e,eo,(bB,aU,ep,aA,c),r):=x;exact(aX _ d,z,ne,k _ _ (.inl rfl) e,eo,(bB,aU,ep,k _ _ (.inr d) aA,c),r)
 |own y=>let(b0,e):=x;exact(b0,k _ _ (.inl rfl) e)
 |Ht aT=>let(eo,(bB,aU,ep,e,c),r):=x;exact(eo,(bB,aU,ep,k _ _ (.inl rfl) e,c),r)
 |DQ lo ai=>let(t,u,v,e):=x;exact(t,u,v,k _ _ (.inl rfl) e)
 |dg b0 u cp=>let(e,q):=x;exact(k _ _ (.inl rfl) e,cp q)
 |hz ps=>
  have e:h.get? a=some {cls:=.none,data:=.fields ps}:=x;show h'.get? a=some {cls:=.none,data:=.fields ps};exact k a _ (.inl rfl) e
 |met f y=>
  have e:h.get? a\(abj ⇑f ⇑y):=x;show h'.get? a\(abj ⇑f ⇑y);exact k a _ (.inl rfl) e
 |ext vV=>let(p,(o,e),st):=x;exact(st _ _ p λo q=>k _ _ (.inl rfl) q,(o,k _ _ (.inl rfl) e),st)
theorem eW.lt(x:eW P w H h)(e:H a\o):a<h.objs.size:=(x a o e).lt
theorem eW.fresh(x:eW P w H h)(e:h.objs.size<=a):H a=none:=by
 cases q:H a with
 |none=>rfl
 |some u=>exact absurd (ic (x.lt q) e) (ly _)
def eW.kept(x:eW P w H h)(k:∀b u,h.get? b\u->h'.get? b\u):eW P w H h':=λa o e=>
 (x a o e).nE (λb u _ q=>k b u q) (λ_ q=>q) λ_ _ q=>q
def eW.laid(x:eW P w H h)(k:∀b u,h.get? b\u->h'.get? b\u)(ag:h.objs.size<=a)(new:ce P w (upd H a o) h' a o):eW P w (upd H a o) h':=λb u e=>by
 have a0:=x.fresh ag;by_cases U:b=a
 .subst U;rw[aM]at e;cases e;exact new
 .rw [ax U]at e;exact(x b u e).nE (λc v _ q=>k c v q) (λc q=>by rw[ax (du q a0)];exact q) λc xs q=>by rw[ax (du q a0)];exact q
end
def lX(H:au)(a:Addr)(u:dJ):Prop:=H a\u\/∃o,H a\(.dg o u)
def lX.ok{w:World}{h:Heap}(r:lX H a u)(x:eW P w H h):ce P w H h a u:=by
 rcases r with r|⟨o,r⟩
 .exact x a u r
 .let(_,q):=x a _ r;exact q
def n8:Option dJ->Prop
 |some (.lst _)=>True
 |some (.aY _)=>True
 |some (.gK _)=>True
 |some (.set _ _)=>True
 |some (.ins _ _ _)=>True
 |some (.ext _)=>True
 |_=>False
section
variable{P:Program}{w:World}{H:au}{h h':Heap}{x e:Addr}{eF:dJ}
def eW.write (ok:eW P w H h) (fV:n8 (H x)) (he:e=x\/H e\(.own x)) (k:∀b u,b≠e->h.get? b\u->h'.get? b\u) (wD:∃u,h'.get? e\u)
  (new:ce P w (upd H x eF) h' x eF):eW P w (upd H x eF) h':=λb u q=>by
 have y8:∀c y,H c\(.own y)->c≠x:=λc y r z=>by subst z;rw[r]at fV;exact fV
 have Mg:∀c xs,H c\(.tup xs)->c≠x:=λc xs r z=>by subst z;rw[r]at fV;exact fV
 by_cases U:b=x
 .subst U;rw[aM]at q;cases q;exact new
 .rw[ax U]at q;by_cases uF:b=e
  .have cW:H b\(.own x):=by
    rcases he with z|z
    .exact absurd (uF.trans z) U
    .rw [uF];exact z
   rw[q]at cW;cases cW;let(v,aQ):=wD;exact(v,by rw[uF];exact aQ)
  .refine(ok b u q).nE (λc v aw r=>k c v ?_ r) (λc r=>by rw[ax (y8 c b r)];exact r) λc xs r=>by rw[ax (Mg c xs r)];exact r
   rcases aw with rfl|aw
   .exact uF
   .rintro rfl;rcases he with z|z
    .exact y8 c b aw z
    .rw [aw]at z;cases z;exact U rfl
end
structure gM(aT ex:List Addr)(H H':au)(h h':Heap):Prop where
 keep:∀b o,h.get? b\o->H b=none->b∉aT->b∉ex->h'.get? b\o
 slot:∀b o,h.get? b\o->H b=none->b∈aT->b∉ex->∃bJ,h'.get? b=some {o with slots:=bJ}
 free:∀b o,h.get? b\o->H b=none->b∉ex->H' b=none
 there:∀b o,h.get? b\o->b∉ex->∃eF,h'.get? b\eF
 ph:∀b xs,H b\(.tup xs)->H' b\(.tup xs)
 mA:∀b o u,H b\(.dg o u)->H' b\(.dg o u)
 nB:∀b ps,H b\(.hz ps)->∃more,H' b\(.hz (ps++more))
section
variable{aT pZ ex at3:List Addr}{H H1 ar:au}{h af aj h':Heap}{a x e:Addr}{o:dJ}
def gM.any(u:gM aT ex H H1 h af)(q:h.get? b\b0)(n:H b=none)(ae:b∉ex):∃bJ,af.get? b=some {b0 with slots:=bJ}:=by
 by_cases U:b∈aT
 .exact u.slot b b0 q n U ae
 .exact (b0.slots,u.keep b b0 q n U ae)
def gM.kept(k:∀b u,h.get? b\u->h'.get? b\u):gM aT ex H H h h':=
 (λb b0 q _ _ _=>k b b0 q,λb b0 q _ _ _=>(b0.slots,k b b0 q),λ_ _ _ n _=>n,λb b0 q _=>(b0,k b b0 q),λ_ _ q=>q,λ_ _ _ q=>q,λ_ ps q=>(#[],by rw[q];simp))
def gM.refl:gM aT ex H H h h:=gM.kept λ_ _ q=>q
def gM.laid(k:∀b u,h.get? b\u->h'.get? b\u)(ag:h.objs.size<=a)(a0:H a=none):gM aT ex H (upd H a o) h h' where
 keep:=λb u q _ _ _=>k b u q
 slot:=λb u q _ _ _=>(u.slots,k b u q)
 free:=λb u q n _=>by rw[ax (gs (ic (en q) ag))];exact n
 there:=λb u q _=>(u,k b u q)
 ph:=λb xs q=>by rw[ax (du q a0)];exact q
 mA:=λb u xs q=>by rw[ax (du q a0)];exact q
 nB:=λb ps q=>(#[],by rw[ax (du q a0),q];simp)
def gM.write(fV:n8 (H x))(he:e=x\/H e\(.own x))(k:∀b u,b≠e->h.get? b\u->h'.get? b\u)(wD:∃u,h'.get? e\u):gM aT ex H (upd H x o) h h':=by
 have ae:∀b,H b=none->b≠x:=λb n z=>by subst z;rw[n]at fV;exact fV
 have U:∀b,H b=none->b≠e:=λb n z=>by
  subst z;rcases he with r|r
  .exact ae b n r
  .rw [n]at r;cases r
 have hm:∀b u,H b\u->¬n8 (some u)->b≠x:=λb u q nm z=>by subst z;rw[q]at fV;exact nm fV
 refine(λb u q n _ _=>k b u (U b n) q,λb u q n _ _=>(u.slots,k b u (U b n) q),λb u q n _=>by rw[ax (ae b n)];exact n,λb u q _=>?_,
  λb xs q=>by rw[ax (hm b _ q λz=>z)];exact q,λb u xs q=>by rw[ax (hm b _ q λz=>z)];exact q,λb ps q=>(#[],by rw[ax (hm b _ q λz=>z),q];simp))
 by_cases uF:b=e
 .subst uF;exact wD
 .exact (u,k b u uF q)
end
noncomputable def EX(h:Heap)(H:au):List Addr:=(gN h.objs.size).filter λa=>(H a).isSome
noncomputable def pE(h:Heap)(H:au):Heap:=PySem.W.hideAll h (EX h H)
def ag3(h:Heap)(H:au):(pE h H).objs.size=h.objs.size:=PySem.W.hideAll_size _ _
def J3{h:Heap}(e:h.get? b\o)(n:H b=none):(pE h H).get? b\o:=
 PySem.W.hideAll_get _ e λhm=>by
  have q:(H b).isSome=true:=(nu.mp hm).2;rw[n]at q;simp at q
theorem arl{h:Heap}(e:(pE h H).get? b\o):h.get? b\o/\H b=none:=by
 have br:h.get? b\o:=PySem.W.of_hideAll (EX h H) e;refine(br,?_);cases q:H b with
 |none=>rfl
 |some x=>
  have hm:b∈EX h H:=nu.mpr (sZ.mpr (en br),by simp[q]);have z:(pE h H).get? b=none:=PySem.W.hideAll_none (EX h H) hm;rw[z]at e;cases e
noncomputable def ake(g h:Heap)(L:Addr):List (Addr×Obj):=(gN h.objs.size).filterMap λa=>if a=L\/(g.get? a).isSome=true then none else(h.get? a).map λo=>(p'p a o)
noncomputable def rest(g h:Heap)(L d:Addr):List (Addr×Obj):=(ake g h L).filter λp=>decide (p.1≠d)
structure Mod(K:bg)(mg:Str->Option Value)(base:Heap):Prop where
 q0:K.In base
 glob:base.Ns mainGlobals mg
 blt:∃oq,base.Ns builtinsNs oq/\∀x:Str,x≠"__name__"->oq x=bootBuiltins x
 nolimit:base.NoLimit
structure a3 where
 prog:Program
 w:World
 K:bg
 mg:Str->Option Value
 base:Heap
 A:Around
 N:List Str
 gi:Shared
 th:au
 env:Env
 outer:List Env
 stack:List Env
 ex:List Addr
 fn:Str->Bool
 calm:Bool
 dv:List (Addr×Obj)
 dG:Value->Shared->Prop
noncomputable def i4(l:List Env):List Addr:=l.filterMap (·.frame)
noncomputable abbrev a3.aT(X:a3):List Addr:=i4 X.outer
def z6(sc:Scope)(x:Str):Prop:=sc.names.lookup x\.local\/sc.names.lookup x\.cell\/sc.names.lookup x\.free
def Loc(sc:Scope)(x:Str):Prop:=sc.names.lookup x\.local\/sc.names.lookup x\.cell
def arC(env:Env)(h:Heap)(m:Str->Option Value)(x:Str)(u:Value):Prop:=
 (env.kindOf x\.local/\m x\u)\/((env.kindOf x\.cell\/env.kindOf x\.free)/\∃c,env.cells.lookup x\c/\h.IsCell c (some u))
structure a3.Ok(X:a3):Prop where
 mod:Mod X.K X.mg X.base
 kind:X.env.scope.kind=.function
 glob:X.env.globals=mainGlobals
 blt:X.env.builtins=builtinsNs
 above:↥X.gi<=X.env.locals
 inj:∀x y c,X.env.cells.lookup x\c->X.env.cells.lookup y\c->x=y
 has:∀x,(X.env.kindOf x\.cell\/X.env.kindOf x\.free)->∃c,X.env.cells.lookup x\c
 rk:∀x c,X.fn x=true->X.env.cells.lookup x\c->↥X.gi<=c
 hd:X.calm=true->X.A.handled=none
 frames:X.A.frames\X.stack
 tv:X.stack=X.outer\/(X.stack=X.env::X.outer/\X.env.frame\X.env.locals)
 w1:∀b∈X.ex,b≠X.env.locals/\∀x c,X.env.cells.lookup x\c->c≠b
 bs:∀b o,X.base.get? b\o->X.gi.heap.get? b\o/\X.th b=none
 lP:X.base.objs.size<=↥X.gi
 qX:∀b o,X.base.get? b\o->b∉X.ex
 rL:∀b∈X.ex,b∉X.aT
 kX:X.gi.heap.FunFrames X.base X.outer
 pa:∀b∈X.aT,X.th b=none
structure Inv(X:a3)(aa:List (Addr×Obj))(σ:List (Option V))(H:au)(s:Shared):Prop where
 ok:X.Ok
 os:s.os=X.gi.os
 bare:AllBare s.gens
 base:gM X.aT X.ex X.th H X.gi.heap s.heap
 loc:∃m,s.heap.Ns X.env.locals m/\∀(i:Nat) (x:Str) (v:V),X.N[i]?\x->σ[i]?\(some v)->z6 X.env.scope x->∃u,bP v u/\arC X.env s.heap m x u
 cell:∀x c,X.env.cells.lookup x\c->∃v,s.heap.IsCell c v
 free:H X.env.locals=none
 i5:∀x c,X.env.cells.lookup x\c->H c=none
 pin:∀p∈X.dv++aa,s.heap.get? p.1\p.2/\H p.1=none/\p.1≠X.env.locals/\p.1∉X.aT/\∀v,p.2.data≠.cell v
 a6:eW X.prog X.w H s.heap
 len:↑σ=↑X.N
section
variable{X:a3}{aa:List (Addr×Obj)}{σ:List (Option V)}{H H':au}{s:Shared}{h':Heap}
def a3.Ok.AK(ok:X.Ok)(e:X.base.get? b\o):b∉X.aT:=λU=>by
 have:=(ok.kX.mem U).1;rw[e]at this;cases this
theorem Inv.bs(I:Inv X aa σ H s):∀b o,X.base.get? b\o->s.heap.get? b\o/\H b=none:=λb o e=>
 (I.base.keep b o (I.ok.bs b o e).1 (I.ok.bs b o e).2 (I.ok.AK e) (I.ok.qX b o e),I.base.free b o (I.ok.bs b o e).1 (I.ok.bs b o e).2 (I.ok.qX b o e))
def Inv.c6(I:Inv X aa σ H s):∀b o,X.base.get? b\o->s.heap.get? b\o:=λb o e=>(I.bs b o e).1
theorem Inv.mod(I:Inv X aa σ H s):Mod X.K X.mg X.base:=I.ok.mod
def Inv.eH(I:Inv X aa σ H s):X.K.In s.heap:=I.ok.mod.q0.keeps I.c6
theorem Inv.nolimit(I:Inv X aa σ H s):s.heap.NoLimit:=I.ok.mod.nolimit.keeps I.c6
def Inv.fr(I:Inv X aa σ H s):∃m,Fr X.base X.env.locals s.heap m:=
 let⟨m,a0,_⟩:=I.loc
 (m,a0,I.c6,c9 I.ok.lP I.ok.above)
theorem Inv.lt(I:Inv X aa σ H s):X.env.locals<↥s:=let⟨_,a0,_⟩:=I.loc;a0.lt
def Inv.mB(I:Inv X aa σ H s):↥X.gi<=↥s:=c9 I.ok.above (nM I.lt)
def Inv.NG(I:Inv X aa σ H s)(h:↥s<=a):a∉X.aT:=λU=>by
 let(_,o,aX,_):=I.ok.kX.mem U;exact absurd (ic (en aX) (c9 I.mB h)) (ly _)
def Inv.qV(I:Inv X aa σ H s):∀x c,X.env.cells.lookup x\c->c≠X.env.locals:=λx c e z=>by
 let(v,o,aX,hd):=I.cell x c e;let(m,(eF,aU,ep,tl,ro,_),_):=I.loc;rw[z,tl]at aX;cases aX;rw[ro]at hd;cases hd
theorem Inv.kX(I:Inv X aa σ H s):s.heap.FunFrames X.base X.outer:=by
 have all:∀(l:List Env),(∀b∈i4 l,b∈X.aT)->X.gi.heap.FunFrames X.base l->s.heap.FunFrames X.base l:=by
  intro l
  induction l with
  |nil=>intro _ _;trivial
  |cons env r cp=>
   intro aC aG;let(az,(L,o,hf,a0,aX,hd),ao):=aG;have fM:L∈X.aT:=aC L (by unfold i4;rw[Um,hf];exact m4);let(bJ,e):=I.base.slot L o aX (I.ok.pa L fM) fM λz=>I.ok.rL L z fM
   exact(az,(L,_,hf,a0,e,hd),cp (λb U=>aC b (by unfold i4;rw[Um,hf];exact il _ U)) ao)
 exact all X.outer (λ_ U=>U) I.ok.kX
theorem Inv.stack(I:Inv X aa σ H s):s.heap.FunFrames X.base X.stack:=by
 rcases I.ok.tv with e|⟨e,hf⟩
 .rw [e];exact I.kX
 .rw [e];let(m,a0,_):=I.loc;refine .cons (by rw[I.ok.kind];decide) hf a0 ?_ I.kX;exact aah (c9 I.ok.lP I.ok.above)
def Inv.E0(I:Inv X aa σ H s):∀b∈i4 X.stack,b∈X.env.locals::X.aT:=λb U=>by
 rcases I.ok.tv with e|⟨e,hf⟩
 .rw [e]at U;exact il _ U
 .rw [e]at U;unfold i4 at U;rw[Um,hf]at U;exact U
def Inv.BB(I:Inv X aa σ H s):∀b∈i4 X.stack,H b=none:=λb U=>by
 rcases e_.mp (I.E0 b U)with e|U
 .rw [e];exact I.free
 .let(_,o,aX,_):=I.ok.kX.mem U;exact I.base.free b o aX (I.ok.pa b U) λz=>I.ok.rL b z U
def Inv.step{g':Array GenState}{t':Nat}{d':Drawn}{ch:List Addr}(I:Inv X aa σ H s)
  (iG:∀b∈ch,(b∈X.ex\/↥X.gi<=b)/\b≠X.env.locals/\(∀x c,X.env.cells.lookup x\c->c≠b)/\∀p∈X.dv++aa,p.1≠b)
  (keep:∀b o,b≠X.env.locals->b∉X.aT->b∉ch->s.heap.get? b\o->H b=none->h'.get? b\o)
  (slot:∀b o,b≠X.env.locals->b∈X.aT->b∉ch->s.heap.get? b\o->H b=none->∃bJ,h'.get? b=some {o with slots:=bJ}) (free:∀b o,b∉ch->s.heap.get? b\o->H b=none->H' b=none)
  (there:∀b o,b∉ch->s.heap.get? b\o->∃eF,h'.get? b\eF)
  (ph:∀b xs,H b\(.tup xs)->H' b\(.tup xs)) (mA:∀b o u,H b\(.dg o u)->H' b\(.dg o u)) (nB:∀b ps,H b\(.hz ps)->∃more,H' b\(.hz (ps++more)))
  (ns:∀m,s.heap.Ns X.env.locals m->h'.Ns X.env.locals m) (a6:eW X.prog X.w H' h') (bj:AllBare g') :
  Inv X aa σ H' {s with heap:=h',gens:=g',drawn:=d',toks:=t' }:=by
 have xp:∀b o,X.gi.heap.get? b\o->b≠X.env.locals:=λb o e=>gs (ic (en e) I.ok.above)
 have Fj:∀b o,X.gi.heap.get? b\o->b∉X.ex->b∉ch:=λb o e ae U=>by
  rcases(iG b U).1 with z|z
  .exact ae z
  .exact absurd (ic (en e) z) (ly _)
 have cellK:∀x c,X.env.cells.lookup x\c->∀v,s.heap.IsCell c v->h'.IsCell c v:=λx c e v ⟨o,aX,hd⟩=>by
  have zx:c∉ch:=λz=>(iG c z).2.2.1 x c e rfl
  by_cases aw:c∈X.aT
  .let(bJ,q):=slot c o (I.qV x c e) aw zx aX (I.i5 x c e);exact(_,q,hd)
  .exact (o,keep c o (I.qV x c e) aw zx aX (I.i5 x c e),hd)
 refine(I.ok,I.os,bj,(λb o e n U ae=>?_,λb o e n U ae=>?_,λb o e n ae=>?_,λb o e ae=>?_,λb xs e=>ph b xs (I.base.ph b xs e),λb o xs e=>mA b o xs (I.base.mA b o xs e),λb ps e=>?_),?_,λx c e=>?_,?_,λx c e=>?_,λp ag=>?_,a6,I.len)
 .exact keep b o (xp b o e) U (Fj b o e ae) (I.base.keep b o e n U ae) (I.base.free b o e n ae)
 .let(bJ,aq):=I.base.slot b o e n U ae;let(Fq,aA):=slot b _ (xp b o e) U (Fj b o e ae) aq (I.base.free b o e n ae);exact(Fq,aA)
 .let(eF,aq):=I.base.there b o e ae;exact free b eF (Fj b o e ae) aq (I.base.free b o e n ae)
 .let(eF,aq):=I.base.there b o e ae;exact there b eF (Fj b o e ae) aq
 .let(iJ,aq):=I.base.nB b ps e;let(iQ,aA):=nB b _ aq;exact(iJ++iQ,by rw[aA,Array.append_assoc])
 .obtain⟨m,a0,aG⟩:=I.loc;refine⟨m,ns m a0,fun i x v aq aA bG=>?_⟩;obtain⟨u,r,l⟩:=aG i x v aq aA bG;refine⟨u,r,?_⟩;rcases l with l|⟨k,c,e,z⟩
  .exact .inl l
  .exact .inr (k,c,e,cellK x c e _ z)
 .let(v,z):=I.cell x c e;exact(v,cellK x c e v z)
 .let(m,(o,_,_,aX,_),_):=I.loc;exact free _ o (λz=>(iG _ z).2.1 rfl) aX I.free
 .let(v,o,aX,hd):=I.cell x c e;exact free c o (λz=>(iG c z).2.2.1 x c e rfl) aX (I.i5 x c e)
 .obtain⟨e,n,ne,f6,d⟩:=I.pin p ag;have zx:p.1∉ch:=fun z=>(iG p.1 z).2.2.2 p ag rfl
  exact(keep p.1 p.2 ne f6 zx e n,free p.1 p.2 zx e n,ne,f6,d)
def Inv.un{t':Nat}(I:Inv X aa σ H s)(u:gM X.aT [] H H' s.heap h')(a6:eW X.prog X.w H' h'):Inv X aa σ H' {s with heap:=h',toks:=t' }:=by
 let(m,(o,aU,ep,aX,r),_):=id I.loc;let(bJ,fM):=u.any aX I.free (by simp);exact I.step (g':=s.gens) (d':=s.drawn) (ch:=[]) (λ_ z=>nomatch z) (λb o _ U _ e n=>u.keep b o e n U (by simp)) (λb o _ U _ e n=>u.slot b o e n U (by simp)) (λb o _ e n=>u.free b o e n (by simp)) (λb o _ e=>u.there b o e (by simp)) u.ph u.mA u.nB (λc3 hm=>by
  let(eF,Bk,I7,tl,d7):=hm;rw[aX]at tl;cases tl;exact(_,Bk,I7,fM,d7)) a6 I.bare
def Inv.call{g':Array GenState}{t':Nat}{d':Drawn}{ch:List Addr}(I:Inv X aa σ H s)(u:gM (i4 X.stack) ch H H' s.heap h')(a6:eW X.prog X.w H' h')(bj:AllBare g')
  (iG:∀b∈ch,(b∈X.ex\/↥X.gi<=b)/\b≠X.env.locals/\(∀x c,X.env.cells.lookup x\c->c≠b)/\∀p∈X.dv++aa,p.1≠b) :
  Inv X aa σ H' {s with heap:=h',gens:=g',drawn:=d',toks:=t' }:=by
 let(m,(o,aU,ep,aX,r),_):=id I.loc;let(bJ,fM):=u.any aX I.free λz=>(iG _ z).2.1 rfl
 exact I.step (ch:=ch) iG (λb o fM U aw e n=>u.keep b o e n (λz=>(e_.mp (I.E0 b z)).elim fM U) aw) (λb o _ _ aw e n=>u.any e n aw) (λb o aw e n=>u.free b o e n aw) (λb o aw e=>u.there b o e aw) u.ph u.mA u.nB (λc3 hm=>by
  let(eF,Bk,I7,tl,d7):=hm;rw[aX]at tl;cases tl;exact(_,Bk,I7,fM,d7)) a6 bj
def Inv.turned{t':Nat}{it:Addr}(I:Inv X aa σ H s)(k:∀b o,b≠it->s.heap.get? b\o->h'.get? b\o)(a0:H it=none)(fM:it≠X.env.locals)
  (af:it∈X.ex\/↥X.gi<=it) (aj:∀x c,X.env.cells.lookup x\c->c≠it) (bb:∀p∈X.dv++aa,p.1≠it):Inv X aa σ H {s with heap:=h',toks:=t' }:=by
 have A3:∀b u,H b\u->b≠it:=λb u e z=>by rw[z,a0]at e;cases e
 refine I.step (g':=s.gens) (d':=s.drawn) (ch:=[it]) (λb U=>?_) (λb o _ _ aw e _=>k b o (λz=>aw (by simp[z])) e) (λb o _ _ aw e _=>(o.slots,k b o (λz=>aw (by simp[z])) e)) (λ_ _ _ _ n=>n)
  (λb o aw e=>(o,k b o (λz=>aw (by simp[z])) e)) (λ_ _ e=>e) (λ_ _ _ e=>e) (λb ps e=>(#[],by rw[e];simp)) (λm hm=>?_) (λb u e=>?_) I.bare
 .have e:b=it:=by simpa using U
  subst e;exact(af,fM,aj,bb)
 .let(o,aU,ep,aX,r):=hm;exact(o,aU,ep,k _ o (cT fM) aX,r)
 .refine(I.a6 b u e).nE (λc v aw q=>k c v ?_ q) (λ_ q=>q) λ_ _ q=>q
  rcases aw with z|z
  .rw [z];exact A3 b u e
  .exact A3 c _ z
def Inv.tok(I:Inv X aa σ H s)(t:Nat):Inv X aa σ H {s with toks:=t}:=I.un (h':=s.heap) (t':=t) gM.refl I.a6
theorem Inv.kept(I:Inv X aa σ H s)(k:∀b u,s.heap.get? b\u->h'.get? b\u):Inv X aa σ H {s with heap:=h',toks:=t' }:=I.un (gM.kept k) (I.a6.kept k)
theorem Inv.laid(I:Inv X aa σ H s)(k:∀b u,s.heap.get? b\u->h'.get? b\u)(ag:↥s<=a)(new:ce X.prog X.w (upd H a o) h' a o) :
  Inv X aa σ (upd H a o) {s with heap:=h',toks:=t' }:=I.un (gM.laid k ag (I.a6.fresh ag)) (I.a6.laid k ag new)
theorem Inv.write{x e:Addr}{o:dJ}{t':Nat}(I:Inv X aa σ H s)(fV:n8 (H x))(he:e=x\/H e\(.own x))(k:∀b u,b≠e->s.heap.get? b\u->h'.get? b\u)(wD:∃u,h'.get? e\u)
  (new:ce X.prog X.w (upd H x o) h' x o):Inv X aa σ (upd H x o) {s with heap:=h',toks:=t' }:=I.un (gM.write fV he k wD) (I.a6.write fV he k wD new)
def Inv.weak(I:Inv X aa σ H s)(aG:↑av=↑σ)(w:∀(i:Nat) v,av[i]?\(some v)->σ[i]?\(some v)):Inv X aa av H s:=
 (I.ok,I.os,I.bare,I.base,let⟨m,a0,GF⟩:=I.loc;(m,a0,λi x v aq aA bG=>GF i x v aq (w i v aA) bG),I.cell,I.free,I.i5,I.pin,I.a6,aG.trans I.len)
def Inv.uO(I:Inv X aa σ H s)(h:∀p∈A',s.heap.get? p.1\p.2/\H p.1=none/\p.1≠X.env.locals/\p.1∉X.aT/\∀v,p.2.data≠.cell v):Inv X A' σ H s:=
 (I.ok,I.os,I.bare,I.base,I.loc,I.cell,I.free,I.i5,λp ag=>(ff.mp ag).elim (λz=>I.pin p (xu _ z)) (h p),I.a6,I.len)
def H8{N:List Str}(bw:N.Nodup){i j:Nat}{x:Str}(a:N[i]?\x)(b:N[j]?\x):i=j:=by
 let(af,aq):=b3.mp a;let(aj,aA):=b3.mp b;exact(sP bw).mp (aq.trans aA.symm)
def T9 {M:Model} {A:Around} {E:Value->Shared->Prop} {i:Nat} {x:Str} {v:V} {u:Value} {Q:Unit->Shared->Prop} (I:Inv X aa σ H s) (bw:X.N.Nodup) (ai:X.N[i]?\x) (ae:Loc X.env.scope x) (r:bP v u)
  (h:∀s',Inv X aa (σ.set i (some v)) H s'->(∃a,w5 a s.heap s'.heap/\(a=X.env.locals\/X.env.cells.lookup x\a))->Q ⟨⟩ s') (hf:X.fn x=true\/X.env.scope.names.lookup x\.local:=by first|exact .inl rfl|exact .inr rfl|assumption):wpAny M A (storeName X.env x u) Q E s:=by
 let(m,a0,aG):=id I.loc;have aor:(X.env.scope.kind == .class||(X.env.scope.kind == .module&&X.env.locals != X.env.globals))=false:=by rw[I.ok.kind];rfl
 have An:i<↑σ:=by rw[I.len];exact(b3.mp ai).1
 have qV:=I.qV;have tracked:∀{a:Addr} {h':Heap},(∃o,s.heap.get? a\o/\H a=none)->w5 a s.heap h'->eW X.prog X.w H h':=λ{a h'} aV aC b b0 e=>by
  let(_,_,Vb):=aV;refine(I.a6 b b0 e).nE (λc ei aw q=>(aC.2 c ?_).trans q) (λ_ q=>q) λ_ _ q=>q
  rintro rfl;rcases aw with rfl|aw
  .rw [Vb]at e;cases e
  .rw [Vb]at aw;cases aw
 rcases ae with az|az
 .refine wpAny_storeName_local az a0 (λh' WC aC=>?_) aor;let(acS,_,_,acr,_):=id a0;refine h _ (I.ok,I.os,I.bare,(λb o e n U ae=>?_,λb o e n U ae=>?_,I.base.free,λb o e ae=>?_,I.base.ph,I.base.mA,I.base.nB),(_,WC,λj y gP aq aA bG=>?_),λy c e=>?_,I.free,I.i5,λp ag=>?_,tracked (acS,acr,I.free) aC,by simpa using I.len) (_,aC,.inl rfl)
  .exact (aC.2 b (gs (ic (en e) I.ok.above))).trans (I.base.keep b o e n U ae)
  .let(bJ,aq):=I.base.slot b o e n U ae;exact(bJ,(aC.2 b (gs (ic (en e) I.ok.above))).trans aq)
  .let(eF,aq):=I.base.there b o e ae;exact(eF,(aC.2 b (gs (ic (en e) I.ok.above))).trans aq)
  .by_cases aN:j=i
   .subst aN;rw[ai]at aq;cases aq;rw[GJ An]at aA;cases aA;exact(u,r,.inl (az,by simp))
   .rw[F2 (cT aN)]at aA;let(o_,d7,q):=aG j y gP aq aA bG;refine(o_,d7,?_);rcases q with⟨k,e⟩|⟨k,c,e,z⟩
    .refine .inl (k,?_);have:y≠x:=λe=>aN (H8 bw aq (e ▸ ai))
     simp[this,e]
    .exact .inr (k,c,e,z.sameBut aC (qV y c e))
  .let(ei,z):=I.cell y c e;exact(ei,z.sameBut aC (qV y c e))
  .let(e,n,ne,f6,d):=I.pin p ag;exact((aC.2 p.1 ne).trans e,n,ne,f6,d)
 .have LH:X.fn x=true:=by
   rcases hf with z|z
   .exact z
   .rw [z]at az;cases az
  let(c,aw):=I.ok.has x (.inl az);let(ei,z):=I.cell x c aw;refine wpAny_storeName_cell I.ok.kind az aw z (λh' tJ aC=>?_);let(oe,vj,amz):=id z;refine h {s with heap:=h' } (I.ok,I.os,I.bare,(λb o e n U ae=>?_,λb o e n U ae=>?_,I.base.free,λb o e ae=>?_,I.base.ph,I.base.mA,I.base.nB),(m,a0.sameBut aC (cT (qV x c aw)),λj y gP aq aA bG=>?_),λy c' e=>?_,I.free,I.i5,λp ag=>?_,tracked (oe,vj,I.i5 x c aw) aC,by simpa using I.len) (c,aC,.inr aw)
  .exact (aC.2 b (gs (ic (en e) (I.ok.rk x c LH aw)))).trans (I.base.keep b o e n U ae)
  .let(bJ,aq):=I.base.slot b o e n U ae;exact(bJ,(aC.2 b (gs (ic (en e) (I.ok.rk x c LH aw)))).trans aq)
  .let(eF,aq):=I.base.there b o e ae;exact(eF,(aC.2 b (gs (ic (en e) (I.ok.rk x c LH aw)))).trans aq)
  .by_cases aN:j=i
   .subst aN;rw[ai]at aq;cases aq;rw[GJ An]at aA;cases aA;exact(u,r,.inr (.inl az,c,aw,tJ))
   .rw[F2 (cT aN)]at aA;let(o_,d7,q):=aG j y gP aq aA bG;refine(o_,d7,?_);rcases q with q|⟨k,c',e,h9⟩
    .exact .inl q
    .refine .inr (k,c',e,h9.sameBut aC ?_);rintro rfl;exact aN (H8 bw aq (I.ok.inj _ _ _ e aw ▸ ai))
  .by_cases uK:c'=c
   .subst uK;exact(_,tJ)
   .let(ef,ew):=I.cell y c' e;exact(ef,ew.sameBut aC uK)
  .let(e,n,ne,f6,d):=I.pin p ag;refine((aC.2 p.1 ?_).trans e,n,ne,f6,d);intro q;rw[q,vj]at e;have cW:oe=p.2:=dZ e;exact d ei (by rw[<- cW];exact amz)
def A1{A:Around}{x:Str}(I:Inv X aa σ H s)(bw:X.N.Nodup)(ai:X.N[i]?\x)(ae:Loc X.env.scope x)(r:bP v u)
  (h:∀s',Inv X aa (σ.set i (some v)) H s'->Q ⟨⟩ s') (hf:X.fn x=true\/X.env.scope.names.lookup x\.local:=by first|exact .inl rfl|exact .inr rfl|assumption):wpAny M A (storeName X.env x u) Q E s:=
 T9 I bw ai ae r (λs' gF _=>h s' gF) hf
def Inv.zq(I:Inv X aa σ H s)(aX:s'.os=s.os)(u:gM (i4 X.stack) ch H H' s.heap s'.heap)(a6:eW X.prog X.w H' s'.heap)(bj:AllBare s'.gens)
  (iG:∀b∈ch,(b∈X.ex\/↥X.gi<=b)/\b≠X.env.locals/\(∀x c,X.env.cells.lookup x\c->c≠b)/\∀p∈X.dv++aa,p.1≠b):Inv X aa σ H' s':=by
 let(h',g',d',t',eF):=s';have e:eF=s.os:=aX;subst e;exact I.call (g':=g') (t':=t') (d':=d') u a6 bj iG
end
abbrev ee:=Value->Option Addr->au->Prop
abbrev St:=List (Option V)
abbrev cR:=V->au->Prop
abbrev TE:=St->au->cR->Prop
abbrev TT:=St->au->(Bool->au->Prop)->Prop
abbrev fG:=St->au->(List V->au->Prop)->Prop
structure iq where
 cc:St->au->Prop
 lB:cR
 c6:St->au->Prop:=λ_ _=>False
 fS:St->au->Prop:=λ_ _=>False
abbrev d6:=iq->St->au->Prop
def gY(X:a3)(aa:List (Addr×Obj))(σ:St)(Q:cR)(u:Value)(s':Shared):Prop:=∃v H',Inv X aa σ H' s'/\bP v u/\Q v H'
def eu{X:a3}{aa:List (Addr×Obj)}{σ:St}{Q:cR}{u:Value}{s':Shared}{C:Prop}(h:gY X aa σ Q u s')(k:∀v H',Inv X aa σ H' s'->bP v u->Q v H'->C):C:=by
 let(v,H',I,r,q):=h;exact k v H' I r q
def Gn(X:a3)(aa:List (Addr×Obj))(σ:St)(Q:Bool->au->Prop)(b:Bool)(s':Shared):Prop:=∃H',Inv X aa σ H' s'/\Q b H'
def aqE(X:a3)(aa:List (Addr×Obj))(σ:St)(Q:List V->au->Prop)(us:List Value)(s':Shared):Prop:=∃vs H',Inv X aa σ H' s'/\cq vs us/\Q vs H'
def pb(X:a3)(aa:List (Addr×Obj))(D:iq)(f:Flow)(s':Shared):Prop:=
 match f with
 | .next=>∃av H',Inv X aa av H' s'/\D.cc av H'
 | .brk=>∃av H',Inv X aa av H' s'/\D.c6 av H'
 | .cont=>∃av H',Inv X aa av H' s'/\D.fS av H'
 | .ret u=>∃v av H',Inv X aa av H' s'/\bP v u/\D.lB v H'
def bu(X:a3)(e:Expr)(t:TE):Prop:=
 ∀(aa:List (Addr×Obj)) (s:Shared) (σ:St) (H:au) (Q:cR),Inv X aa σ H s->t σ H Q->wpAny (model X.prog X.w) X.A (eval e X.env) (gY X aa σ Q) X.dG s
def iW(X:a3)(e:Expr)(t:TT):Prop:=
 ∀(aa:List (Addr×Obj)) (s:Shared) (σ:St) (H:au) (Q:Bool->au->Prop),Inv X aa σ H s->t σ H Q->wpAny (model X.prog X.w) X.A (isTrue e X.env (eval e X.env)) (Gn X aa σ Q) X.dG s
def gL(X:a3)(e:Expr)(t:TT):Prop:=
 ∀(whole:Sem Value) (aa:List (Addr×Obj)) (s:Shared) (σ:St) (H:au) (Q:Bool->au->Prop),Inv X aa σ H s->t σ H Q->wpAny (model X.prog X.w) X.A (isTrue e X.env whole) (Gn X aa σ Q) X.dG s
def gL.pt{e:Expr}{t:TT}(h:gL X e t):iW X e t:=h _
def ho(X:a3)(aU:List Expr)(t:fG):Prop:=
 ∀(pos:Pos) (aa:List (Addr×Obj)) (s:Shared) (σ:St) (H:au) (Q:List V->au->Prop),Inv X aa σ H s->t σ H Q->wpAny (model X.prog X.w) X.A (spliced (backTo pos (starEach aU X.env))) (aqE X aa σ Q) X.dG s
def fX(X:a3)(st:Stmt)(t:d6):Prop:=
 ∀(aa:List (Addr×Obj)) (s:Shared) (σ:St) (H:au) (D:iq),Inv X aa σ H s->t D σ H->wpAny (model X.prog X.w) X.A (exec st X.env) (pb X aa D) X.dG s
def hC(X:a3)(st:List Stmt)(t:d6):Prop:=
 ∀(aa:List (Addr×Obj)) (s:Shared) (σ:St) (H:au) (D:iq),Inv X aa σ H s->t D σ H->wpAny (model X.prog X.w) X.A (execs st X.env) (pb X aa D) X.dG s
def bE{t:Sem α}{A:Around}(h:wpAny M A t Q E s)(a9:∀a s,Q a s->jc a s):wpAny M A t jc E s:=wpAny_mono h a9 λ_ _ x=>x
section
variable{X:a3}
def tL(H:au)(Q:cR):Option (Option V)->Prop
 |some (some v)=>Q v H
 |_=>False
def aaT(H:au)(Q:cR)(v:V):tL H Q (some (some v))=Q v H:=rfl
theorem tL.out:∀{o:Option (Option V)},tL H Q o->∃v,o\(some v)/\Q v H
 |some (some v),h=>(v,rfl,h)
 |some none,h=>h.elim
 |none,h=>h.elim
def ae8(H:au)(Q:cR)(o:Option (Option V)):tL H Q o=∃v,o\(some v)/\Q v H:=propext (tL.out,λ⟨_,e,h⟩=>e ▸ h)
def ha(x:V)(k:Int->Prop):Prop:=match x with
 | .int i=>k i
 |_=>False
def Ts(i:Int)(k:Int->Prop):ha (.int i) k=k i:=rfl
theorem ha.out{x:V}{k:Int->Prop}(h:ha x k):∃i,x=.int i/\k i:=by
 cases x with
 |int i=>exact(i,rfl,h)
 |_=>exact h.elim
def apF(x:V)(k:Int->Prop):ha x k=∃i,x=.int i/\k i:=propext (ha.out,λ⟨_,e,h⟩=>e ▸ h)
def k7(x:V)(k:Bool->Prop):Prop:=match x with
 | .bC i=>k i
 |_=>False
def VC(i:Bool)(k:Bool->Prop):k7 (.bC i) k=k i:=rfl
theorem k7.out{x:V}{k:Bool->Prop}(h:k7 x k):∃i,x=.bC i/\k i:=by
 cases x with
 |bC i=>exact(i,rfl,h)
 |_=>exact h.elim
def amZ(x:V)(k:Bool->Prop):k7 x k=∃i,x=.bC i/\k i:=propext (k7.out,λ⟨_,e,h⟩=>e ▸ h)
def ap(x:V)(k:Addr->Prop):Prop:=match x with
 | .ref i=>k i
 |_=>False
def aaz(i:Addr)(k:Addr->Prop):ap ⇑i k=k i:=rfl
theorem ap.out{x:V}{k:Addr->Prop}(h:ap x k):∃i,x=⇑i/\k i:=by
 cases x with
 |ref i=>exact(i,rfl,h)
 |_=>exact h.elim
def akR(x:V)(k:Addr->Prop):ap x k=∃i,x=⇑i/\k i:=propext (ap.out,λ⟨_,e,h⟩=>e ▸ h)
def om(xs:List V)(k:V->Prop):Prop:=match xs with
 |[y]=>k y
 |_=>False
def QI(y:V)(k:V->Prop):om [y] k=k y:=rfl
theorem om.out:∀{xs:List V} {k:V->Prop},om xs k->∃y,xs=[y]/\k y
 |[y],_,h=>(y,rfl,h)
 |[],_,h=>h.elim
 |_::_::_,_,h=>h.elim
def arV(xs:List V)(k:V->Prop):om xs k=∃y,xs=[y]/\k y:=propext (om.out,λ⟨_,e,h⟩=>e ▸ h)
def CB(i:Nat):TE:=λσ H Q=>tL H Q σ[i]?
def sR(v:V):TE:=λ_ H Q=>Q v H
def aov{x:Str}(bw:X.N[i]?\x)(aQ:z6 X.env.scope x)(hd:(x==("__debug__":Str))=false:=by decide)(kz:(x==("__classdict__":Str))=false:=by decide):bu X (.Name x pos) (CB i):=by
 intro aa s σ H Q I h;let(v,e,h):=tL.out h;let(m,a0,aG):=I.loc;let(u,r,l):=aG i x v bw e aQ;have fin:gY X aa σ Q u s:=(v,H,I,r,h);rcases l with⟨az,hm⟩|⟨az,c,aw,xq⟩
 .exact wpAny_Name (wpAny_loadName_local I.ok.kind az a0 hm fin) hd
 .rcases az with az|az
  .exact wpAny_Name (wpAny_loadName_cell I.ok.kind az aw xq fin) hd
  .exact wpAny_Name (wpAny_loadName_free I.ok.kind az aw xq fin kz) hd
def aK{i j pos}:bu X (.Constant (.int i) j pos) (sR (.int i)):=λ_ _ _ H _ I h=>wpAny_Constant_int (.int i,H,I.tok _,(_,rfl),h)
def mN{b j pos}:bu X (.Constant (.bool b) j pos) (sR (.bC b)):=λ_ _ _ H _ I h=>Constant_bool (.bC b,H,I,rfl,h)
def uo{j pos}:bu X (.Constant .none j pos) (sR .b5):=λ_ _ _ H _ I h=>Constant_none (.b5,H,I,rfl,h)
def di{x j pos}:bu X (.Constant (.str x) j pos) (sR (.str x)):=λ_ _ _ H _ I h=>ahZ (.str x,H,I.tok _,(_,rfl),h)
def kK(X:a3)(x:Str):Prop:=X.env.kindOf x\.globalImplicit
def vd{x:Str}(I:Inv X aa σ H s)(bj:kK X x)(hm:X.mg x\u)(h:Q u s)
  (hd:(x==("__debug__":Str))=false:=by decide):wpAny (model X.prog X.w) X.A (eval (.Name x pos) X.env) Q E s:=
 aim I.ok.kind bj (Calls.loadGlobal_global (by rw[I.ok.glob];exact I.mod.glob.keeps I.c6) hm h) hd
def ye{x:Str}(I:Inv X aa σ H s)(bj:kK X x)(hm:X.mg x=none)(aQ:bootBuiltins x\u)(h:Q u s)
  (a0:x≠"__name__":=by decide) (hd:(x==("__debug__":Str))=false:=by decide):wpAny (model X.prog X.w) X.A (eval (.Name x pos) X.env) Q E s:=by
 let(oq,af,aj):=I.mod.blt;exact aim I.ok.kind bj (Calls.loadGlobal_builtin (by rw[I.ok.glob];exact I.mod.glob.keeps I.c6) hm (by rw[I.ok.blt];exact af.keeps I.c6) ((aj x a0).trans aQ) h) hd
def nd{x:Str}(bj:kK X x)(hm:X.mg x\u)(r:bP v u)(hd:(x==("__debug__":Str))=false:=by decide):bu X (.Name x pos) (sR v):=
 λ_ _ _ H _ I h=>vd I bj hm (v,H,I,r,h) hd
def agV{x:Str}(bj:kK X x)(hm:X.mg x=none)(aQ:bootBuiltins x\u)(r:bP v u)(a0:x≠"__name__":=by decide)(hd:(x==("__debug__":Str))=false:=by decide):bu X (.Name x pos) (sR v):=
 λ_ _ _ H _ I h=>ye I bj hm aQ (v,H,I,r,h) a0 hd
variable{a b:Expr}{bc bZ:TE}{pos:Pos}
def Xb(X:a3)(op:CmpOp)(a b:Expr)(t:TE):Prop:=
 ∀(aa:List (Addr×Obj)) (s:Shared) (σ:St) (H:au) (Q:cR),Inv X aa σ H s->t σ H Q ->
  wpAny (model X.prog X.w) X.A (eval a X.env) (λv dM=>wpAny (model X.prog X.w) X.A (eval b X.env) (λu ek=>wpAny (model X.prog X.w) X.A (compareOp op v u) (gY X aa σ Q) X.dG ek) X.dG dM) X.dG s
def afY(b:Expr)(h:op≠.In)(aj:op≠.NotIn):behindInMarks op b=false:=by
 have aq:(op==CmpOp.In)=false:=by cases op <;> first|rfl|exact absurd rfl h
 have aA:(op==aqX)=false:=by cases op <;> first|rfl|exact absurd rfl aj
 cases b <;> simp[behindInMarks,aq,aA]
def De(t:TE):TT:=λσ H Q=>t σ H λx H1=>k7 x λc=>Q c H1
def Mx{t:TE}(h:Xb X op a b t)(af:behindInMarks op b=false:=by first|exact afY _ ∅ ∅|rfl):iW X (.Compare a [op] [b] pos) (De t):=by
 intro aa s σ H Q I hw;refine wpAny_isTrue_Compare1 (bE (h aa s σ H _ I hw) λv s1 af=>bE af λu s2 aj=>bE aj λc s3 cn=>eu cn λx H1 aR bK bT=>?_) af;let(d,rfl,q):=k7.out bT;cases bK;exact wpAny_truthy_bool (H1,aR,q)
def pM{e:Expr}{t:TE}(h:bu X e t)(he:∀whole,isTrue e X.env whole=(do let v <- whole;standAt e.pos;holding [v] (truthy v)):=by intro _;rfl):iW X e (De t):=by
 intro aa s σ H Q I hw;refine isTrue_plain (bE (h aa s σ H _ I hw) λv s1 cn=>eu cn λx H1 aR bK bT=>?_) (he _);let(d,rfl,q):=k7.out bT;cases bK;exact wpAny_truthy_bool (H1,aR,q)
variable{oi Ge:TT}{rest:List Expr}
def M3(t u:TT):TT:=λσ H Q=>t σ H λc H1=>if c=true then u σ H1 Q else Q false H1
def Lj(t u:TT):TT:=λσ H Q=>t σ H λc H1=>if c=true then Q true H1 else u σ H1 Q
def Iq(t:TT):TT:=λσ H Q=>t σ H λc H1=>Q (!c) H1
theorem sJ(aV:iW X a oi):gL X (.BoolOp .And [a] pos) oi:=by
 intro zK aa s σ H Q I h;refine isTrue_and (bE (aV aa s σ H Q I h) λc s1 e=>?_);cases c with
 |true=>exact isTrue_and_nil e
 |false=>exact e
theorem uW(aV:iW X a oi):gL X (.BoolOp .Or [a] pos) oi:=by
 intro zK aa s σ H Q I h;refine isTrue_or (bE (aV aa s σ H Q I h) λc s1 e=>?_);cases c with
 |false=>exact isTrue_or_nil e
 |true=>exact e
theorem r4(aV:iW X a oi)(U:gL X (.BoolOp .And (b::rest) pos) Ge):gL X (.BoolOp .And (a::b::rest) pos) (M3 oi Ge):=by
 intro zK aa s σ H Q I h;refine isTrue_and (bE (aV aa s σ H _ I h) λc s1 cN=>?_);let(H1,aR,bT):=cN;cases c with
 |true=>exact U zK aa s1 σ H1 Q aR bT
 |false=>exact(H1,aR,bT)
theorem tm(aV:iW X a oi)(U:gL X (.BoolOp .Or (b::rest) pos) Ge):gL X (.BoolOp .Or (a::b::rest) pos) (Lj oi Ge):=by
 intro zK aa s σ H Q I h;refine isTrue_or (bE (aV aa s σ H _ I h) λc s1 cN=>?_);let(H1,aR,bT):=cN;cases c with
 |true=>exact(H1,aR,bT)
 |false=>exact U zK aa s1 σ H1 Q aR bT
def uL(aV:iW X a oi):iW X (.UnaryOp .Not a pos) (Iq oi):=by
 intro aa s σ H Q I h;exact isTrue_not (aV aa s σ H (λc H1=>Q (!c) H1) I h)
def Ni(bc bZ:TE):TE:=λσ H Q=>bc σ H λx H1=>k7 x λc=>if c=true then bZ σ H1 Q else Q (.bC false) H1
def M5(bc bZ:TE):TE:=λσ H Q=>bc σ H λx H1=>k7 x λc=>if c=true then Q (.bC true) H1 else bZ σ H1 Q
def Nq(bc:TE):TE:=λσ H Q=>bc σ H λx H1=>k7 x λc=>Q (.bC (!c)) H1
def vr{op}{t:TE}(h:bu X a t):bu X (.BoolOp op [a] pos) t:=λaa s σ H Q I hw=>BoolOp_one (h aa s σ H Q I hw)
theorem xm(aV:bu X a bc)(U:bu X (.BoolOp .And (b::rest) pos) bZ):bu X (.BoolOp .And (a::b::rest) pos) (Ni bc bZ):=by
 intro aa s σ H Q I h;refine BoolOp_and (bE (aV aa s σ H _ I h) λv s1 cn=>eu cn λx H1 aR bK bT=>?_);let(c,rfl,hV):=k7.out bT;cases bK;refine wpAny_truthy_bool ?_;cases c with
 |true=>exact U aa s1 σ H1 Q aR hV
 |false=>exact(.bC false,H1,aR,rfl,hV)
theorem aaN(aV:bu X a bc)(U:bu X (.BoolOp .Or (b::rest) pos) bZ):bu X (.BoolOp .Or (a::b::rest) pos) (M5 bc bZ):=by
 intro aa s σ H Q I h;refine BoolOp_or (bE (aV aa s σ H _ I h) λv s1 cn=>eu cn λx H1 aR bK bT=>?_);let(c,rfl,hV):=k7.out bT;cases bK;refine wpAny_truthy_bool ?_;cases c with
 |false=>exact U aa s1 σ H1 Q aR hV
 |true=>exact(.bC true,H1,aR,rfl,hV)
def Uy(aV:bu X a bc):bu X (.UnaryOp .Not a pos) (Nq bc):=by
 intro aa s σ H Q I h;refine UnaryOp_ (bE (aV aa s σ H _ I h) λv s1 cn=>eu cn λx H1 aR bK bT=>?_);let(c,rfl,hV):=k7.out bT;cases bK;exact not_of (wpAny_truthy_bool (.bC (!c),H1,aR,rfl,hV))
def Ma(t:TT)(bc bZ:TE):TE:=λσ H Q=>t σ H λc H1=>if c=true then bc σ H1 Q else bZ σ H1 Q
theorem vN(aw:iW X c oi)(aV:bu X a bc)(U:bu X b bZ):bu X (.IfExp c a b pos) (Ma oi bc bZ):=by
 intro aa s σ H Q I h;refine wpAny_IfExp (bE (aw aa s σ H _ I h) λd s1 cN=>?_);let(H1,aR,bT):=cN;cases d with
 |true=>exact aV aa s1 σ H1 Q aR bT
 |false=>exact U aa s1 σ H1 Q aR bT
end
def aE(K:bg)(H:au)(a:Addr)(xs:List V):Prop:=
 lX H a (.lst xs) \/
  ∃(o:Obj) (a':Array Value) (n:Nat),K.lookup a\o/\o.cls=.type "list"/\o.dict=none/\o.data=.seq a' n/\a'.size<=sizeLine/\cq xs a'.toList
def de(K:bg)(H:au)(a:Addr)(xs:List V):Prop:=
 lX H a (.tup xs) \/
  ∃(o:Obj) (a':Array Value) (n:Nat),K.lookup a\o/\o.cls=.type "tuple"/\o.data=.seq a' n/\a'.size<=sizeLine/\cq xs a'.toList
noncomputable def aeN:Value->Option V
 | .none=>some .b5
 | .bool b=>some (.bC b)
 | .int i _=>some (.int i)
 | .str x _=>some (.str x)
 | .bytes b _=>some (.mu b)
 | .float b _=>some (.uN b)
 | .ref a=>some (.ref a)
 | .type n=>some (.ty n)
 |_=>none
theorem bP.abs{x:V}(r:bP x u):aeN u\x:=by
 cases x with
 |b5=>cases r;rfl
 |bC _=>cases r;rfl
 |int _=>let(t,rfl):=r;rfl
 |str _=>let(t,rfl):=r;rfl
 |mu _=>let(t,rfl):=r;rfl
 |uN _=>let(t,rfl):=r;rfl
 |ref _=>cases r;rfl
 |ty _=>cases r;rfl
def bP.inj{x y:V}(r:bP x u)(q:bP y u):x=y:=dZ (r.abs.symm.trans q.abs)
theorem cq.inj:∀{xs ys:List V} {us:List Value},cq xs us->cq ys us->xs=ys
 |_,_,_,.nil,.nil=>rfl
 |_,_,_,.cons r t,.cons d7 t'=>by rw[r.inj d7,cq.inj t t']
section
variable{X:a3}{aa:List (Addr×Obj)}{σ:St}{H:au}{s:Shared}{a:Addr}{xs ys:List V}
def aE.of{K:bg}(h:H a\(.lst xs)):aE K H a xs:=.inl (.inl h)
def de.of{K:bg}(h:H a\(.tup xs)):de K H a xs:=.inl (.inl h)
def Inv.list(I:Inv X aa σ H s)(h:aE X.K H a xs):∃a':List Value,cq xs a'/\PlainL s.heap a a'.toArray/\↑xs<=sizeLine:=by
 rcases h with h|⟨o,a',n,az,aw,hd,aC,aH,r⟩
 .let(z,a',n,r,e):=h.ok I.a6;exact(a',r,(_,n,e,rfl,rfl,rfl),z)
 .refine (a'.toList,r,(o,n,I.eH a o az,aw,hd,by simpa using aC),?_);have e:=↑r;simp only[so]at e;omega
def Inv.tuple(I:Inv X aa σ H s)(h:de X.K H a xs):∃a':List Value,cq xs a'/\IsTup s.heap a a'.toArray/\↑xs<=sizeLine:=by
 rcases h with h|⟨o,a',n,az,aw,aC,aH,r⟩
 .let(z,a',r,p):=h.ok I.a6;exact(a',r,p,z.1)
 .refine (a'.toList,r,(o,I.eH a o az,aw,n,by simpa using aC),?_);have e:=↑r;simp only[so]at e;omega
def Inv.Ab(I:Inv X aa σ H s)(h:aE X.K H a xs)(h':aE X.K H a ys):xs=ys:=by
 let(a',r,(o,n,e,_,_,d),_):=I.list h;let(its',d7,(eF,gE,br,_,_,d'),_):=I.list h';rw[e]at br;cases br;rw[d]at d';injection d' with eN _;have:a'=its':=by simpa using congrArg apR eN
 subst this;exact r.inj d7
def Inv.Wi(I:Inv X aa σ H s)(h:de X.K H a xs)(h':de X.K H a ys):xs=ys:=by
 let(a',r,(o,e,_,n,d),_):=I.tuple h;let(its',d7,(eF,br,_,gE,d'),_):=I.tuple h';rw[e]at br;cases br;rw[d]at d';injection d' with eN _;have:a'=its':=by simpa using congrArg apR eN
 subst this;exact r.inj d7
end
noncomputable abbrev a3.j'(X:a3)(E:Value->Shared->Prop):a3:={X with dG:=E}
noncomputable abbrev a3.uc(X:a3):a3:=X.j' λ_ _=>False
theorem a3.Ok.j'{X:a3}(ok:X.Ok)(E:Value->Shared->Prop):(X.j' E).Ok:=
 (ok.mod,ok.kind,ok.glob,ok.blt,ok.above,ok.inj,ok.has,ok.rk,ok.hd,ok.frames,ok.tv,ok.w1,ok.bs,ok.lP,ok.qX,ok.rL,ok.kX,ok.pa)
def a3.Ok.pj{X:a3}{E:Value->Shared->Prop}(ok:(X.j' E).Ok):X.Ok:=
 (ok.mod,ok.kind,ok.glob,ok.blt,ok.above,ok.inj,ok.has,ok.rk,ok.hd,ok.frames,ok.tv,ok.w1,ok.bs,ok.lP,ok.qX,ok.rL,ok.kX,ok.pa)
section
variable{X:a3}{aa:List (Addr×Obj)}{σ:St}{H:au}{s:Shared}{E:Value->Shared->Prop}
theorem Inv.j'(I:Inv X aa σ H s)(E:Value->Shared->Prop):Inv (X.j' E) aa σ H s:=(I.ok.j' E,I.os,I.bare,I.base,I.loc,I.cell,I.free,I.i5,I.pin,I.a6,I.len)
theorem Inv.pj(I:Inv (X.j' E) aa σ H s):Inv X aa σ H s:=(I.ok.pj,I.os,I.bare,I.base,I.loc,I.cell,I.free,I.i5,I.pin,I.a6,I.len)
theorem pb.pj(h:pb (X.j' E) aa D f s'):pb X aa D f s':=by
 cases f with
 |next=>let(av,H',I,q):=h;exact(av,H',I.pj,q)
 |brk=>let(av,H',I,q):=h;exact(av,H',I.pj,q)
 |cont=>let(av,H',I,q):=h;exact(av,H',I.pj,q)
 |ret u=>let(v,av,H',I,r,q):=h;exact(v,av,H',I.pj,r,q)
theorem hC.uc{st:List Stmt}{t:d6}(h:hC X.uc st t):hC X st t:=λaa s σ H D I hw=>
 wpAny_mono (h aa s σ H D (I.j' _) hw) (λ_ _ q=>q.pj) λ_ _ z=>j6 z
end
section
variable{X:a3}{st:Stmt}{rest:List Stmt}{t u:d6}{e:Expr}{bV:TE}{pos:Pos}
def iR:d6:=λD σ H=>D.cc σ H
noncomputable def alu:Nat:=0
noncomputable def Ep:Nat:=alu
noncomputable def Te:Nat:=Ep
noncomputable def DA:Nat:=Te
noncomputable def adK:Nat:=DA
noncomputable def arL:Nat:=adK
noncomputable def acU:Nat:=arL
noncomputable def agz:Nat:=acU
noncomputable def anG:Nat:=agz
noncomputable def acC:Nat:=anG
noncomputable def akW:Nat:=acC
noncomputable def ai4:Nat:=akW
noncomputable def ac_:Nat:=ai4
def NZ(t u:d6):d6:=λD σ H=>(λ_:Nat=>t {D with cc:=u D} σ H) ac_
def eV:hC X [] iR:=λ_ _ σ H _ I h=>wpAny_execs_nil (σ,H,I,h)
theorem aP(af:fX X st t)(aj:hC X rest u):hC X (st::rest) (NZ t u):=by
 intro aa s σ H D I h;refine wpAny_execs_cons (bE (af aa s σ H {D with cc:=u D} I h) λf s1 q=>?_);cases f with
 |next=>
  let(av,H',gF,q):=q;exact aj aa s1 av H' D gF q
 |ret v=>exact q
 |brk=>exact q
 |cont=>exact q
theorem a4(af:fX X st t):hC X [st] t:=by
 intro aa s σ H D I h;refine wpAny_execs_cons (bE (af aa s σ H D I h) λf s1 q=>?_);cases f with
 |next=>exact wpAny_execs_nil q
 |ret v=>exact q
 |brk=>exact q
 |cont=>exact q
def Jc:d6:=λD σ H=>D.fS σ H
def ai0:fX X (.Continue pos) Jc:=λ_ _ σ H _ I h=>wpAny_Continue (σ,H,I,h)
def Inv.quiet(I:Inv X aa σ H s):interactive X.env=false:=by simp[interactive,I.ok.kind]
def I9(bV:TE):d6:=λD σ H=>bV σ H λ_ H1=>D.cc σ H1
def dV(he:bu X e bV)(aC:swapsWith e none pos.line X.env=pure false:=by rfl):fX X (.Expr e pos) (I9 bV):=by
 intro aa s σ H D I h;exact wpAny_Expr_any (bE (he aa s σ H _ I h) λv s1 cn=>eu cn λx H1 aR bK bT=>(σ,H1,aR,bT)) I.quiet aC
def GY(bV:TE):d6:=λD σ H=>bV σ H D.lB
def cA(he:bu X e bV):fX X (.Return (some e) pos) (GY bV):=by
 intro aa s σ H D I h;exact wpAny_Return_some (bE (he aa s σ H _ I h) λv s1 cn=>eu cn λx H1 aR bK bT=>(x,σ,H1,aR,bK,bT))
def NH:d6:=λD _ H=>D.lB .b5 H
def aiO:fX X (.Return none pos) NH:=λ_ _ σ H _ I h=>wpAny_Return_none (.b5,σ,H,I,rfl,h)
def IP(c:TT)(t u:d6):d6:=λD σ H=>c σ H λb H1=>if b=true then t D σ H1 else u D σ H1
theorem d5(aw:iW X c dW)(aV:hC X a t)(U:hC X b u):fX X (.If c a b pos) (IP dW t u):=by
 intro aa s σ H D I h;refine wpAny_If (bE (aw aa s σ H _ I h) λd s1 cN=>?_);let(H1,aR,bT):=cN;cases d with
 |true=>exact aV aa s1 σ H1 D aR bT
 |false=>exact U aa s1 σ H1 D aR bT
def Mv:d6:=λ_ _ _=>False
def qK:fX X st Mv:=λ_ _ _ _ _ _ h=>h.elim
end
abbrev hv:=V->St->au->(St->au->Prop)->Prop
abbrev ue:=List V->St->au->(St->au->Prop)->Prop
def pg(X:a3)(AH:Expr)(t:hv):Prop:=
 ∀(aa:List (Addr×Obj)) (s:Shared) (σ:St) (H:au) (v:V) (u:Value) (Q:St->au->Prop),Inv X aa σ H s->bP v u->t v σ H Q ->
  wpAny (model X.prog X.w) X.A (assign AH X.env u) (λ_ s'=>∃av H',Inv X aa av H' s'/\Q av H') X.dG s
def Aa(X:a3)(kl:List Expr)(t:ue):Prop:=
 ∀(aa:List (Addr×Obj)) (s:Shared) (σ:St) (H:au) (vs:List V) (us:List Value) (Q:St->au->Prop),Inv X aa σ H s->cq vs us->t vs σ H Q ->
  wpAny (model X.prog X.w) X.A (assignInOrder ((assignEach kl X.env).map (·.2)) us) (λ_ s'=>∃av H',Inv X aa av H' s'/\Q av H') X.dG s
abbrev Nm:=V->V->V->au->(au->Prop)->Prop
def S'(X:a3)(t:Nm):Prop:=
 ∀(aa:List (Addr×Obj)) (s:Shared) (σ:St) (H:au) (o i v:V) (dw hr u:Value) (Q:au->Prop),Inv X aa σ H s->bP o dw->bP i hr->bP v u->t o i v H Q ->
  wpAny (model X.prog X.w) X.A (setItem dw hr u) (λ_ s'=>∃H',Inv X aa σ H' s'/\Q H') X.dG s
abbrev MS:=V->V->au->cR->Prop
def XI(X:a3)(op:Operator)(t:MS):Prop:=
 ∀(aa:List (Addr×Obj)) (s:Shared) (σ:St) (H:au) (x y:V) (v u:Value) (Q:cR),Inv X aa σ H s->bP x v->bP y u->t x y H Q ->
  wpAny (model X.prog X.w) X.A (inplaceOp op v u) (gY X aa σ Q) X.dG s
section
variable{X:a3}{pos:Pos}
def gz(i:Nat):hv:=λv σ H Q=>Q (σ.set i (some v)) H
def S7{x:Str}(bw:X.N.Nodup)(ai:X.N[i]?\x)(ae:Loc X.env.scope x)(hf:X.fn x=true\/X.env.scope.names.lookup x\.local:=by first|exact .inl rfl|exact .inr rfl|assumption):pg X (.Name x pos) (gz i):=by
 intro aa s σ H v u Q I r h;exact wpAny_assign_Name (A1 I bw ai ae r (λs' gF=>(_,H,gF,h)) hf)
def y7:ue:=λvs σ H Q=>vs=[]/\Q σ H
def uP(t:hv)(u:ue):ue:=λvs σ H Q=>∃v r,vs=v::r/\t v σ H λav H'=>u r av H' Q
def mS:Aa X [] y7:=by
 intro aa s σ H vs us Q I r h;let(e,h):=h;subst e;cases r;exact assignInOrder_nil (σ,H,I,h)
theorem fJ{e:Expr}{t:hv}(af:pg X e t)(aj:Aa X aU u)
  (aC:(assignEach (e::aU) X.env).map (·.2)=assign e X.env::(assignEach aU X.env).map (·.2):=by rfl):Aa X (e::aU) (uP t u):=by
 intro aa s σ H vs us Q I r h;let(v,atY,aq,h):=h;subst aq;cases r with
 |cons r vl=>
  rw[aC];refine assignInOrder_cons (bE (af aa s σ H _ _ _ I r h) λ_ s1 cN=>?_);let(fO,H1,aR,bT):=cN;exact aj aa s1 fO H1 _ _ Q aR vl bT
def x3(K:bg)(n:Nat)(t:ue):hv:=λv σ H Q=>∃a xs,v=⇑a/\de K H a xs/\↑xs=n/\t xs σ H Q
def AT{k:Nat}{t:ue}(aw:X.calm=true)(h:Aa X aU t)
  (a0:↑(assignEach aU X.env)=n:=by rfl) (g7:(assignEach aU X.env).findIdx? (·.1)=none:=by rfl):pg X (.Tuple aU k pos) (x3 X.K n t):=by
 intro aa s σ H v u Q I r hw;let(a,xs,aq,ay,aG,hw):=hw;subst aq;cases r;let(a',cM,c4,aH):=I.tuple ay;refine assign_Tuple_tuple (I.ok.hd aw) c4 (by simp[a0,<- aG,cM.length]) g7 λh' ae=>?_
 have aR:Inv X aa σ H {s with heap:=h' }:=I.kept (t':=s.toks) λb o e=>ae b o (gs (en e)) e
 exact h aa _ σ H xs _ Q aR (by simpa using cM) hw
def Ov(to sL:TE)(t:Nm):hv:=λv σ H Q=>to σ H λo H1=>sL σ H1 λi ar=>t o i v ar λba=>Q σ ba
def VS{to sL:TE}{t:Nm}(aX:bu X o to)(ai:bu X i sL)(aC:S' X t)
  (aV:∀v,assign (.Subscript o i pos) X.env v=(do
   let dw <- holding [v] (eval o X.env)
   let hr <- holding [v,dw] (eval i X.env)
   standAt pos
   holding [v,dw,hr] (setItem dw hr v)
   release [v,dw,hr] []):=by intro _;rfl):pg X (.Subscript o i pos) (Ov to sL t):=by
 intro aa s σ H v u Q I r h;rw[aV];refine wpAny_bind (wpAny_holding (bE (aX aa s σ H _ I h) λdw s1 cn=>eu cn λx H1 aR bK bT=>?_));refine wpAny_bind (wpAny_holding (bE (ai aa s1 σ H1 _ aR bT) λhr s2 cn=>eu cn λy ar bz fc cX=>?_));refine wpAny_bind (wpAny_standAt (wpAny_bind (wpAny_holding (bE (aC aa s2 σ ar x y v dw hr u _ bz bK fc r cX) λ_ s3 cN=>?_))));let(ba,d4,fL):=cN;exact wpAny_release (σ,ba,d4,fL)
def wH(bV:TE)(g:hv):d6:=λD σ H=>bV σ H λx H1=>g x σ H1 D.cc
def F7{dD e:Expr}(he:bu X e bV)(bj:pg X dD g)(aC:swapsWithSole [dD] e pos.line X.env=pure false:=by rfl)(hw:swappedStores [dD] e X.env=pure none:=by rfl)
  (af:(assignEach [dD] X.env).map (·.2)=[assign dD X.env]:=by rfl):fX X (.Assign [dD] e pos) (wH bV g):=by
 intro aa s σ H D I h;refine wpAny_Assign_stores (bE (he aa s σ H _ I h) λv s1 cn=>eu cn λx H1 aR bK bT=>?_) aC hw;rw[af];exact bE (bj aa s1 σ H1 x v _ aR bK bT) λ_ s2 q=>q
def rH{x:Str}{e:Expr}(bw:X.N.Nodup)(ai:X.N[i]?\x)(ae:Loc X.env.scope x)(he:bu X e bV)(aC:swapsWith e (some (.Name x pos')) pos.line X.env=pure false:=by rfl)(hf:X.fn x=true\/X.env.scope.names.lookup x\.local:=by first|exact .inl rfl|exact .inr rfl|assumption) :
  fX X (.Assign [.Name x pos'] e pos) (wH bV (gz i)):=by
 intro aa s σ H D I h;refine wpAny_Assign_Name (bE (he aa s σ H _ I h) λv s1 cn=>eu cn λy H1 aR bK bT=>?_) aC;exact A1 aR bw ai ae bK (λs2 bz=>(_,H1,bz,bT)) hf
def MQ(i:Nat)(bV:TE)(sL:MS):d6:=λD σ H=>∃x,σ[i]?\(some x)/\bV σ H λy H1=>sL x y H1 λz ar=>D.cc (σ.set i (some z)) ar
def acV{x:Str}{e:Expr}(bw:X.N.Nodup)(ai:X.N[i]?\x)(ae:Loc X.env.scope x)(he:bu X e bV)(aX:XI X op sL)(hf:X.fn x=true\/X.env.scope.names.lookup x\.local:=by first|exact .inl rfl|exact .inr rfl|assumption) :
  fX X (.AugAssign (.Name x pos') op e pos) (MQ i bV sL):=by
 intro aa s σ H D I h;let(v,aq,h):=h;let(m,a0,aG):=I.loc;have aph:z6 X.env.scope x:=by rcases ae with k|k;exact .inl k;exact .inr (.inl k)
 let(u,r,l):=aG i x v ai aq aph;refine wpAny_AugAssign_Name ?_;have go:wpAny (model X.prog X.w) X.A (eval e X.env) (λw ek=>wpAny (model X.prog X.w) X.A (inplaceOp op u w) (λr mi=>wpAny (model X.prog X.w) X.A (storeName X.env x r) (λ_=>pb X aa D .next) X.dG mi) X.dG ek) X.dG s:=by
  refine bE (he aa s σ H _ I h) λw s1 cn=>eu cn λy H1 aR bK bT=>?_
  refine bE (aX aa s1 σ H1 v y u w _ aR r bK bT) λz s2 cn=>eu cn λat4 ar bz fc cX=>?_
  exact A1 bz bw ai ae fc (λs3 d4=>(_,ar,d4,cX)) hf
 rcases l with⟨az,hm⟩|⟨az,c,aw,xq⟩
 .exact wpAny_loadName_local I.ok.kind az a0 hm go
 .rcases az with az|az
  .exact wpAny_loadName_cell I.ok.kind az aw xq go
  .rcases ae with k|k
   .have:X.env.scope.names.lookup x\.free:=az;rw[k]at this;cases this
   .have:X.env.scope.names.lookup x\.free:=az;rw[k]at this;cases this
def Y0(f:Int->Int->Int):MS:=λx y H Q=>∃i j,x=.int i/\y=.int j/\Q (.int (f i j)) H
def ahz:XI X .Sub (Y0 λi j=>i-j):=by
 intro aa s σ H x y v u Q I bK fc h;let(i,j,aq,aA,q):=h;subst aq;subst aA;let(t,rfl):=bK;let(t',rfl):=fc;exact isub_int (.int _,H,I.tok _,(_,rfl),q)
def R5(c:TT)(bZ:d6):d6:=λD σ H=>∃W:Nat->St->au->Prop,(∃m,W m σ H)/\∀m σ H,W m σ H ->
 c σ H λb H1=>if b=true then ∃N:St->au->Prop,(∀av H',N av H'->∃c3,c3<m/\W c3 av H')/\bZ {D with cc:=N,fS:=N,c6:=D.cc} σ H1 else D.cc σ H1
theorem Sb(ag:PassesOwn (model X.prog X.w) X.A X.env X.dG)(aw:iW X c dW)(U:hC X body bZ):fX X (.While c body [] pos) (R5 dW bZ):=by
 intro aa s σ H D I h;let(W,(m0,pJ),turn):=h;refine wpAny_While (codeAny_whileLoop (λn s'=>∃av H',Inv X aa av H' s'/\W n av H') ?_ m0 (σ,H,I,pJ));intro n s1 (fO,H1,aR,dp);refine wpAny_passesOwn ag (bE (aw aa s1 fO H1 _ aR (turn n fO H1 dp)) λb s2 cN=>?_);let(ar,bz,cX):=cN;cases b with
 | true=>
  let(N,bw,cX):=cX;rw[if_pos rfl];refine wpAny_passesOwn ag (bE (U aa s2 fO ar _ bz cX) λf s3 fL=>?_);cases f with
  |next=>
   let(fR,ba,d4,c7):=fL;let(c3,hm,ik):=bw fR ba c7;exact(c3,hm,fR,ba,d4,ik)
  |cont=>
   let(fR,ba,d4,c7):=fL;let(c3,hm,ik):=bw fR ba c7;exact(c3,hm,fR,ba,d4,ik)
  |brk=>exact fL
  |ret v=>exact fL
 |false=>
  rw[if_neg gu];exact wpAny_execs_nil (fO,ar,bz,cX)
end
structure kd where
 go:Nat->au->Prop
 rW:Nat->au->V->au->Prop
 stop:Nat->au->Prop
def jG(X:a3)(aa:List (Addr×Obj))(H:au)(b:Addr):Prop:=
 H b=none/\b≠X.env.locals/\b∉X.aT/\(b∈X.ex\/↥X.gi<=b)/\(∀x c,X.env.cells.lookup x\c->c≠b)/\∀p∈X.dv++aa,p.1≠b
def Inv.o1(I:Inv X aa σ H s)(U:↥s<=b)(a0:H' b=none):jG X aa H' b:=by
 refine(a0,xQ (ic I.lt U),I.NG U,.inr (c9 I.mB U),λx c e z=>?_,λp ag z=>?_)
 .let(v,q):=I.cell x c e;exact absurd (ic q.lt (by rw[z];exact U)) (ly _)
 .exact absurd (ic (en (I.pin p ag).1) (by rw[z];exact U)) (ly _)
structure rE(P:Program)(w:World)(K:bg)(dD:Expr)(bL:kd)(b4:List Addr)(it:Addr)(bY:Nat->Heap->Prop):Prop where
 mem:it∈b4
 obj:∀i h,bY i h->∀b∈b4,∃o,h.get? b\o/\∀v,o.data≠.cell v
 keep:∀i h h',bY i h->(∀b∈b4,∀o,h.get? b\o->h'.get? b\o)->bY i h'
 item:∀(X:a3),X.prog=P->X.w=w->X.K=K->X.calm=true->∀(i:Nat) (aa:List (Addr×Obj)) (s:Shared) (σ:St) (H:au) (E:Value->Shared->Prop),Inv X aa σ H s->(∀b∈b4,jG X aa H b)->bY i s.heap->bL.go i H ->
  wpAny (model P w) X.A (pyNext ⇑it) (λr s1=>∃u,r\u /\
   wpAny (model P w) X.A (letOwnedTupleGo dD ⇑it u) (λ_ s2=>∃x H',Inv X aa σ H' s2/\bP x u/\bL.rW i H x H'/\bY (i+1) s2.heap/\∀b∈b4,H' b=none) E s1) E s
 done:∀(X:a3),X.prog=P->X.w=w->X.K=K->X.calm=true->∀(i:Nat) (aa:List (Addr×Obj)) (s:Shared) (σ:St) (H:au) (E:Value->Shared->Prop),Inv X aa σ H s->(∀b∈b4,jG X aa H b)->bY i s.heap->bL.stop i H ->
  wpAny (model P w) X.A (pyNext ⇑it) (λr s1=>r=none/\Inv X aa σ H s1) E s
 self:∀(A:Around) (i:Nat) (s:Shared) (Q:Value->Shared->Prop) (E:Value->Shared->Prop),bY i s.heap->Q ⇑it s->wpAny (model P w) A (pyIter ⇑it) Q E s
abbrev TI:=St->au->(kd->au->Prop)->Prop
def Y5(X:a3)(aa:List (Addr×Obj))(σ:St)(dD:Expr)(R:kd->au->Prop)(EJ:Value)(s2:Shared):Prop:=
 ∃(it:Addr) (b4:List Addr) (bY:Nat->Heap->Prop) (bL:kd) (H':au),EJ=⇑it/\Inv X aa σ H' s2/\rE X.prog X.w X.K dD bL b4 it bY/\bY 0 s2.heap/\(∀b∈b4,jG X aa H' b)/\R bL H'
def p3(X:a3)(dD iter:Expr)(fB:TI):Prop:=
 ∀(aa:List (Addr×Obj)) (s:Shared) (σ:St) (H:au) (R:kd->au->Prop),Inv X aa σ H s->fB σ H R ->
  wpAny (model X.prog X.w) X.A (eval iter X.env) (λv s1=>wpAny (model X.prog X.w) X.A (pyIter v) (Y5 X aa σ dD R) X.dG s1) X.dG s
theorem xL {A:Around} {it:Addr} (aX:s.heap.get? it\o) (aw:o.cls=.type n) (hd:o.data=.fields vs)
    (a0:["enumerate","zip","dict_itemiterator","dict_reverseitemiterator","odict_iterator","itertools.zip_longest","itertools.pairwise"].contains n=false) (a9:Q ⟨⟩ s):wpAny M A (letOwnedTupleGo dD ⇑it u) Q E s:=by
  unfold letOwnedTupleGo;cases dD <;> first
    |exact wpAny_pure a9
    |(cases u <;> first
        |exact wpAny_pure a9
        | (refine wpAny_bind (wpAny_load aX ?_)
           rw[aw,hd];show wpAny M A (if(["enumerate","zip","dict_itemiterator","dict_reverseitemiterator","odict_iterator","itertools.zip_longest","itertools.pairwise"].contains n&&vs[0]? == some (rawInt _))=true then _ else _) Q E s;rw[if_neg (by intro h;rw[a0,o6]at h;cases h)];exact wpAny_pure a9))
noncomputable def o4(K:bg)(a:Addr):kd:=
 (λi H=>∃xs x,aE K H a xs/\xs[i]?\x,λi H x H'=>H'=H/\∀xs,aE K H a xs->xs[i]?\x,λi H=>∃xs,aE K H a xs/\↑xs<=i)
noncomputable def Eu(K:bg)(a:Addr):kd:=
 (λi H=>∃xs x,de K H a xs/\xs[i]?\x,λi H x H'=>H'=H/\∀xs,de K H a xs->xs[i]?\x,λi H=>∃xs,de K H a xs/\↑xs<=i)
noncomputable def oD(lo:Int)(n:Nat):kd:=(λi _=>i<n,λi H x H'=>H'=H/\x=.int (lo+i),λi _=>n<=i)
def ae9{w:World}{K:bg}(a it:Addr):rE P w K dD (o4 K a) [it] it (λi h=>h.IsListIter it a i)where
 mem:=by simp
 obj:=λi h st b U=>by
  have e:b=it:=by simpa using U
  subst e;let(o,e,c,d):=st;exact(o,e,λv z=>by rw[d]at z;cases z)
 keep:=λi h h' st k=>st.at λo e=>k it (by simp) o e
 item:=by
  intro X cS hw fY aw i aa s σ H E I hf st bj;subst cS hw fY;let(xs,x,ay,ae):=bj;let(a',cM,p,aH):=I.list ay;let(u,bp,es):=cM.get ae;let(f0,f1,f2,e5,f4,fu):=hf it (by simp);refine wpAny_pyNext_list_item st p.isList (x:=u) (by simpa using bp) λh' mM p7=>?_
  have aR:Inv X aa σ H {s with heap:=h' }:=I.turned (t':=s.toks) (λb o U e=>(p7.2 b U).trans e) f0 f1 e5 f4 fu;let(o,e,c,d):=id mM;exact(u,rfl,xL (s:={s with heap:=h' }) e c d ∅ (x,H,aR,es,(rfl,λys aJ=>by rw[I.Ab aJ ay];exact ae),mM,λb U=>(hf b U).1))
 done:=by
  intro X cS hw fY aw i aa s σ H E I hf st bj;subst cS hw fY;let(xs,ay,ae):=bj;let(a',cM,p,aH):=I.list ay;let(f0,f1,f2,e5,f4,fu):=hf it (by simp);have aG:=↑cM;exact wpAny_pyNext_list_end (I.ok.hd aw) st p.isList (by simp;omega) λh' bF=>(rfl,I.turned (t':=s.toks) (λb o U e=>bF b o U e) f0 f1 e5 f4 fu)
 self:=λ_ _ _ _ _ st h=>wpAny_pyIter_listiter st h
def akU{w:World}{K:bg}(a it:Addr):rE P w K dD (Eu K a) [it] it (λi h=>h.IsTupleIter it a i)where
 mem:=by simp
 obj:=λi h st b U=>by
  have e:b=it:=by simpa using U
  subst e;let(o,e,c,d):=st;exact(o,e,λv z=>by rw[d]at z;cases z)
 keep:=λi h h' st k=>st.at λo e=>k it (by simp) o e
 item:=by
  intro X cS hw fY aw i aa s σ H E I hf st bj;subst cS hw fY;let(xs,x,ay,ae):=bj;let(a',cM,p,aH):=I.tuple ay;let(u,bp,es):=cM.get ae;let(f0,f1,f2,e5,f4,fu):=hf it (by simp);refine wpAny_pyNext_tuple_item st (show s.heap.IsTuple a a'.toArray from p) (x:=u) (by simpa using bp) λh' mM p7=>?_
  have aR:Inv X aa σ H {s with heap:=h' }:=I.turned (t':=s.toks) (λb o U e=>(p7.2 b U).trans e) f0 f1 e5 f4 fu;let(o,e,c,d):=id mM;exact(u,rfl,xL (s:={s with heap:=h' }) e c d ∅ (x,H,aR,es,(rfl,λys aJ=>by rw[I.Wi aJ ay];exact ae),mM,λb U=>(hf b U).1))
 done:=by
  intro X cS hw fY aw i aa s σ H E I hf st bj;subst cS hw fY;let(xs,ay,ae):=bj;let(a',cM,p,aH):=I.tuple ay;let(f0,f1,f2,e5,f4,fu):=hf it (by simp);have aG:=↑cM;exact wpAny_pyNext_tuple_end (I.ok.hd aw) st (show s.heap.IsTuple a a'.toArray from p) (by simp;omega) λh' bF=>(rfl,I.turned (t':=s.toks) (λb o U e=>bF b o U e) f0 f1 e5 f4 fu)
 self:=λ_ _ _ _ _ st h=>wpAny_pyIter_tupleiter st h
def afw{w:World}{K:bg}(it:Addr)(lo:Int)(n:Nat):rE P w K dD (oD lo n) [it] it (λi h=>IsRangeIter h it (lo+(i:Nat)*1) ((n:Int)-(i:Nat)) 1)where
 mem:=by simp
 obj:=λi h st b U=>by
  have e:b=it:=by simpa using U
  subst e;exact(_,st,λv z=>by
   have h9:TY _=X3 v:=z;cases h9)
 keep:=λi h h' st k=>k it (by simp) _ st
 item:=by
  intro X cS hw fY aw i aa s σ H E I hf st bj;subst cS hw fY;let(f0,f1,f2,e5,f4,fu):=hf it (by simp);have W:=Walks.range (prog:=X.prog) (w:=X.w) (I.ok.hd aw) it lo 1 n;refine W.item i s _ _ bj st λv h' tk aQ mM ka=>?_
  let(t,rfl):=aQ;have aR:Inv X aa σ H {s with heap:=h',toks:=tk}:=I.turned (λb o U e=>ka b o (by simpa using U) e) f0 f1 e5 f4 fu;refine(_,rfl,xL (s:={s with heap:=h',toks:=tk}) (n:="range_iterator") mM rfl rfl ∅ (.int (lo+i),H,aR,(t,?_),(rfl,rfl),mM,λb U=>(hf b U).1));rw[Int.mul_one]
 done:=by
  intro X cS hw fY aw i aa s σ H E I hf st bj;subst cS hw fY;let(f0,f1,f2,e5,f4,fu):=hf it (by simp);exact wpAny_pyNext_range_end (I.ok.hd aw) st (by have:n<=i:=bj;omega) λh' bF=>(rfl,I.turned (t':=s.toks) (λb o U e=>bF b o U e) f0 f1 e5 f4 fu)
 self:=λ_ _ _ _ _ st h=>wpAny_pyIter_rangeiter st h
section
variable{X:a3}{dD:Expr}
def I4(K:bg)(dr:TE):TI:=λσ H R=>dr σ H λx H1=>ap x λa=>(∃xs,aE K H1 a xs)/\R (o4 K a) H1
def KP(K:bg)(dr:TE):TI:=λσ H R=>dr σ H λx H1=>ap x λa=>(∃xs,de K H1 a xs)/\R (Eu K a) H1
def eQ(aG:bu X l dr):p3 X dD l (I4 X.K dr):=by
 intro aa s σ H R I h;refine bE (aG aa s σ H _ I h) λv s1 cn=>eu cn λx H1 aR bK bT=>?_
 let(a,e,(xs,ay),q):=ap.out bT;subst e;cases bK;let(a',cM,p,aH):=aR.list ay;refine wpAny_pyIter_list p.isList ?_;refine(↥s1,[↥s1],_,_,H1,rfl,aR.kept (t':=s1.toks) λb o e=>ea _ e,ae9 a _,(_,hl _ rfl,rfl,rfl),λb U=>?_,q);have e:b=↥s1:=by simpa using U
 subst e;exact aR.o1 (b1 _) (aR.a6.fresh (b1 _))
def afX(aG:bu X l dr):p3 X dD l (KP X.K dr):=by
 intro aa s σ H R I h;refine bE (aG aa s σ H _ I h) λv s1 cn=>eu cn λx H1 aR bK bT=>?_
 let(a,e,(xs,ay),q):=ap.out bT;subst e;cases bK;let(a',cM,p,aH):=aR.tuple ay;refine wpAny_pyIter_tuple (show s1.heap.IsTuple a a'.toArray from p) ?_;refine(↥s1,[↥s1],_,_,H1,rfl,aR.kept (t':=s1.toks) λb o e=>ea _ e,akU a _,(_,hl _ rfl,rfl,rfl),λb U=>?_,q);have e:b=↥s1:=by simpa using U
 subst e;exact aR.o1 (b1 _) (aR.a6.fresh (b1 _))
def amy{aa:List (Addr×Obj)}{σ:St}{H:au}{s:Shared}{R:kd->au->Prop}{E:Value->Shared->Prop}{lo ai:Int}{t u v:Tok}{tk:Nat}(I:Inv X aa σ H s)(af:-(2 ^ 62)<=lo)(aj:lo<2 ^ 62)(bb:-(2 ^ 62)<=ai)(dt:ai<2 ^ 62)
  (q:R (oD lo (ai-lo).toNat) H):wpAny (model X.prog X.w) X.A (pyIter (.ref ↥s)) (Y5 X aa σ dD R) E {s with heap:=s.heap.push {cls:=.type "range",data:=.fields #[.int lo t,.int ai u,.int 1 v]},toks:=tk}:=by
 refine wpAny_pyIter_range (IsRange.new ..) (small_one af aj bb dt) ?_;have aR:Inv X aa σ H {s with heap:=s.heap.push {cls:=.type "range",data:=.fields #[.int lo t,.int ai u,.int 1 v]},toks:=tk}:=I.kept λb o e=>ea _ e
 refine((s.heap.push {cls:=.type "range",data:=.fields #[.int lo t,.int ai u,.int 1 v]}).objs.size,[(s.heap.push {cls:=.type "range",data:=.fields #[.int lo t,.int ai u,.int 1 v]}).objs.size],_,_,H,rfl,
  aR.kept (t':=tk) λb o e=>ea _ e,afw _ lo (ai-lo).toNat,?_,λb U=>?_,q)
 .have aq:lo+((0:Nat):Int)*1=lo:=by simp
  have aA:(((ai-lo).toNat:Nat):Int)-((0:Nat):Int)=avq lo ai 1:=by rw[rangeSize_one];split <;> omega
  show IsRangeIter _ _ (lo+((0:Nat):Int)*1) ((((ai-lo).toNat:Nat):Int)-((0:Nat):Int)) 1;rw[aq,aA];exact hl _ rfl
 .have e:b=(s.heap.push {cls:=.type "range",data:=.fields #[.int lo t,.int ai u,.int 1 v]}).objs.size:=by simpa using U
  subst e;exact aR.o1 (b1 _) (aR.a6.fresh (b1 _))
def T4(bc:fG):TI:=λσ H R=>bc σ H λvs H1=>om vs λx=>ha x λj=>-(2 ^ 62)<=j/\j<2 ^ 62/\R (oD 0 j.toNat) H1
theorem p2{a:Expr}{bc:fG}{p pos:Pos}(bj:kK X "range")(hm:X.mg "range"=none)(aV:ho X [a] bc)(aC:starEach [a] X.env=[(p'p false (eval a X.env))]:=by rfl):p3 X dD (.Call (.Name "range" p) [a] [] pos) (T4 bc):=by
 intro aa s σ H R I h;refine Call_ (ye I bj hm boot_range (SR (bE (aV pos aa s σ H _ I h) λus s1 cN=>?_) aC rfl));let(vs,H1,aR,bK,bT):=cN;let(ams,anH,hV):=om.out bT;let(j,Le,ao6,cX,q):=ha.out hV;have e:=anH.trans (congrArg (λz=>[z]) Le);subst e;cases bK with
 |cons r vl=>
  cases vl;let(t,rfl):=r;exact call_range_1 (amy aR () () ao6 cX (by simpa using q))
def QW(fB:TI)(g:hv)(bZ:d6):d6:=λD σ H=>fB σ H λbL H1=>∃W:Nat->Nat->St->au->Prop,(∃m,W 0 m σ H1)/\∀i m σ H,W i m σ H ->
 (bL.stop i H/\D.cc σ H)\/(bL.go i H/\∃N:St->au->Prop,(∀av H',N av H'->∃c3,c3<m/\W (i+1) c3 av H')/\∀x H',bL.rW i H x H'->g x σ H' λcO ar=>bZ {D with cc:=N,fS:=N,c6:=D.cc} cO ar)
noncomputable def AF(b4:List Addr)(h:Heap):List (Addr×Obj):=b4.filterMap λb=>(h.get? b).map λo=>(p'p b o)
def D6{h:Heap}(U:b∈b4)(e:h.get? b\o):(p'p b o)∈AF b4 h:=ac2.mpr (b,U,by rw[e];rfl)
theorem arN{h:Heap}{p:Addr×Obj}(ag:p∈AF b4 h):p.1∈b4/\h.get? p.1\p.2:=by
 let(b,U,e):=ac2.mp ag;cases q:h.get? b with
 |none=>rw[q]at e;cases e
 |some o=>
  rw[q]at e;have br:(p'p b o)=p:=dZ e;subst br;exact(U,q)
def Inv.pinned(I:Inv X aa σ H s)(hf:∀b∈b4,jG X aa H b)(aX:∀b∈b4,∃o,s.heap.get? b\o/\∀v,o.data≠.cell v):Inv X (aa++AF b4 s.heap) σ H s:=
 I.uO λp ag=>(ff.mp ag).elim (λz=>I.pin p (l3 _ z)) λz=>by
  let(U,e):=arN z;let(f0,f1,f2,_):=hf p.1 U;let(o,br,d):=aX p.1 U;rw[e]at br;cases br;exact(e,f0,f1,f2,d)
def Inv.DX(I:Inv X (aa++pl) σ H s):Inv X aa σ H s:=I.uO λp ag=>I.pin p (l3 _ (xu _ ag))
theorem fh(ag:PassesOwn (model X.prog X.w) X.A X.env X.dG)(aw:X.calm=true)(ai:p3 X dD iter fB)(bj:pg X dD g)(U:hC X body bZ)
  (aC:∀x,foldedSetIterable iter X.env x=pure x:=by intro _;rfl):fX X (.For dD iter body [] pos) (QW fB g bZ):=by
 intro aa s σ H D I h;refine wpAny_For (bE (ai aa s σ H _ I h) λv s1 af=>bE af λEJ s2 aj=>?_) aC;let(it,b4,bY,bL,ar,e,bz,T,sW,f2,W,(m0,pJ),turn):=aj;subst e;have stat:∀{H':au},(∀b∈b4,H' b=none)->∀b∈b4,jG X aa H' b:=λa0 b U=>(a0 b U,(f2 b U).2)
 refine codeAny_forLoop_any (λn s'=>∃i av H',Inv X aa av H' s'/\bY i s'.heap/\(∀b∈b4,H' b=none)/\W i n av H') ?_ m0 (0,σ,ar,bz,sW,λb U=>(f2 b U).1,pJ);intro n s3 (i,fR,ba,d4,UC,RA,ik);rcases turn i n fR ba ik with⟨stop,A4⟩|⟨go,N,bw,step⟩
 .refine wpAny_passesOwn ag (bE (T.done X rfl rfl rfl aw i aa s3 fR ba X.dG d4 (stat RA) UC stop) λr s4 cN=>?_);let(ao,gc):=cN;subst ao;exact wpAny_execs_nil (fR,ba,gc,A4)
 .refine wpAny_passesOwn ag (bE (T.item X rfl rfl rfl aw i aa s3 fR ba X.dG d4 (stat RA) UC go) λr s4 cN=>?_);let(u,ao,dt):=cN;subst ao;refine wpAny_passesOwn ag (bE dt λ_ s5 cN=>?_);let(x,cG,u7,HQ,kD,tS,M_):=cN;have Lg:=u7.pinned (stat M_) (T.obj _ _ tS);refine wpAny_passesOwn ag (bE (bj _ s5 fR cG x u _ Lg HQ (step x cG kD)) λ_ f9 cN=>?_);let(mb,fl,mU,Li):=cN;refine wpAny_passesOwn ag (bE (U _ f9 mb fl _ mU Li) λf pF pq=>?_);have again:∀{lL:St} {eJ:au},Inv X (aa++AF b4 s5.heap) lL eJ pF->N lL eJ->∃m,m<n/\∃i av H',Inv X aa av H' pF/\bY i pF.heap/\(∀b∈b4,H' b=none)/\W i m av H':=λ{lL eJ} lN jA=>by
   let(c3,hm,pH):=bw lL eJ jA;refine(c3,hm,i+1,lL,eJ,lN.DX,T.keep _ _ _ tS λb U o e=>(lN.pin (p'p b o) (l3 _ (l3 _ (D6 U e)))).1,λb U=>?_,pH);let(o,e,d):=T.obj _ _ tS b U;exact(lN.pin (p'p b o) (l3 _ (l3 _ (D6 U e)))).2.1
  cases f with
  |next=>let(lL,eJ,lN,jA):=pq;exact again lN jA
  |cont=>let(lL,eJ,lN,jA):=pq;exact again lN jA
  |brk=>let(lL,eJ,lN,pq):=pq;exact(lL,eJ,lN.DX,pq)
  |ret v=>let(eE,lL,eJ,lN,ars,pq):=pq;exact(eE,lL,eJ,lN.DX,ars,pq)
end
def ajZ{K:bg}{a:Addr}{xs:List V}{g:hv}{bZ:d6}{D:iq}{σ:St}{H:au}(Pv:Nat->St->au->Prop)(h0:Pv 0 σ H)(aG:∀i σ H,i<=↑xs->Pv i σ H->aE K H a xs)
  (aC:∀i x σ H,xs[i]?\x->Pv i σ H->g x σ H λcO ar=>bZ {D with cc:=Pv (i+1),fS:=Pv (i+1),c6:=D.cc} cO ar) (hd:∀σ H,Pv ↑xs σ H->D.cc σ H) :
  ∃W:Nat->Nat->St->au->Prop,(∃m,W 0 m σ H)/\∀i m σ H,W i m σ H ->
   ((o4 K a).stop i H/\D.cc σ H)\/((o4 K a).go i H/\∃N:St->au->Prop,(∀av H',N av H'->∃c3,c3<m/\W (i+1) c3 av H')/\∀x H',(o4 K a).rW i H x H'->g x σ H' λcO ar=>bZ {D with cc:=N,fS:=N,c6:=D.cc} cO ar):=by
 refine(λi m σ H=>m=↑xs-i/\i<=↑xs/\Pv i σ H,(↑xs,by simp,e0 _,h0),?_);intro i m σ H (rfl,ai,p);have q:=aG i σ H ai p;by_cases et:i<↑xs
 .refine .inr ((xs,xs[i],q,by simp[et]),Pv (i+1),λav H' jW=>(↑xs-(i+1),(),rfl,et,jW),λx H' y=>?_);let(e,y):=y;subst e;exact aC i x σ _ (y xs q) p
 .have e:i=↑xs:=()
  subst e;exact .inl ((xs,q,b1 _),hd σ H p)
def ad9{lo:Int}{n:Nat}{g:hv}{bZ:d6}{D:iq}{σ:St}{H:au}(Pv:Nat->St->au->Prop)(h0:Pv 0 σ H)
  (aC:∀i σ H,i<n->Pv i σ H->g (.int (lo+i)) σ H λcO ar=>bZ {D with cc:=Pv (i+1),fS:=Pv (i+1),c6:=D.cc} cO ar) (hd:∀σ H,Pv n σ H->D.cc σ H) :
  ∃W:Nat->Nat->St->au->Prop,(∃m,W 0 m σ H)/\∀i m σ H,W i m σ H ->
   ((oD lo n).stop i H/\D.cc σ H)\/((oD lo n).go i H/\∃N:St->au->Prop,(∀av H',N av H'->∃c3,c3<m/\W (i+1) c3 av H')/\∀x H',(oD lo n).rW i H x H'->g x σ H' λcO ar=>bZ {D with cc:=N,fS:=N,c6:=D.cc} cO ar):=by
 refine(λi m σ H=>m=n-i/\i<=n/\Pv i σ H,(n,by simp,e0 _,h0),?_);intro i m σ H (rfl,ai,p);by_cases et:i<n
 .refine .inr (et,Pv (i+1),λav H' jW=>(n-(i+1),(),rfl,et,jW),λx H' y=>?_);let(e,y):=y;subst e y;exact aC i σ _ et p
 .have e:i=n:=()
  subst e;exact .inl (b1 _,hd σ H p)
abbrev fq:=V->V->au->cR->Prop
def hL(X:a3)(f:Value->Value->Sem Value)(r:fq):Prop:=
 ∀(aa:List (Addr×Obj)) (s:Shared) (σ:St) (H:au) (x y:V) (v u:Value) (Q:cR),Inv X aa σ H s->bP x v->bP y u->r x y H Q ->
  wpAny (model X.prog X.w) X.A (f v u) (gY X aa σ Q) X.dG s
def HK(X:a3)(f:Value->Sem Value)(r:V->au->cR->Prop):Prop:=
 ∀(aa:List (Addr×Obj)) (s:Shared) (σ:St) (H:au) (x:V) (v:Value) (Q:cR),Inv X aa σ H s->bP x v->r x H Q ->
  wpAny (model X.prog X.w) X.A (f v) (gY X aa σ Q) X.dG s
def ky(X:a3)(f:Value)(r:List V->au->cR->Prop):Prop:=
 ∀(aa:List (Addr×Obj)) (s:Shared) (σ:St) (H:au) (xs:List V) (us:List Value) (Q:cR),Inv X aa σ H s->cq xs us->r xs H Q ->
  wpAny (model X.prog X.w) X.A (call f us) (gY X aa σ Q) X.dG s
def acp(X:a3)(r:V->au->(Bool->au->Prop)->Prop):Prop:=
 ∀(aa:List (Addr×Obj)) (s:Shared) (σ:St) (H:au) (x:V) (v:Value) (Q:Bool->au->Prop),Inv X aa σ H s->bP x v->r x H Q ->
  wpAny (model X.prog X.w) X.A (truthy v) (Gn X aa σ Q) X.dG s
def vI(r:fq)(bc bZ:TE):TE:=λσ H Q=>bc σ H λx H1=>bZ σ H1 λy ar=>r x y ar Q
def LO(r:V->au->cR->Prop)(bc:TE):TE:=λσ H Q=>bc σ H λx H1=>r x H1 Q
def wY(C:Int->Int->Prop)(g:Int->Int->V):fq:=λx y H Q=>ha x λi=>ha y λj=>C i j/\Q (g i j) H
def q1(g:Int->Int->V):fq:=λx y H Q=>ha x λi=>ha y λj=>Q (g i j) H
def DR(g:Int->V):V->au->cR->Prop:=λx H Q=>ha x λi=>Q (g i) H
section
variable{X:a3}{a b c:Expr}{bc bZ dW:TE}{pos:Pos}
def JR(aV:bu X a bc)(U:bu X b bZ){aa:List (Addr×Obj)}{s:Shared}{σ:St}{H:au}{R:V->V->au->Prop}(I:Inv X aa σ H s)
  (h:bc σ H λx H1=>bZ σ H1 λy ar=>R x y ar) {Q:Value->Shared->Prop} {f:Value->Value->Sem Value}
  (hf:∀v u s2 x y ar,Inv X aa σ ar s2->bP x v->bP y u->R x y ar->wpAny (model X.prog X.w) X.A (f v u) Q X.dG s2) :
  wpAny (model X.prog X.w) X.A (eval a X.env) (λv dM=>wpAny (model X.prog X.w) X.A (eval b X.env) (λu ek=>wpAny (model X.prog X.w) X.A (f v u) Q X.dG ek) X.dG dM) X.dG s:=by
 refine bE (aV aa s σ H _ I h) λv s1 cn=>eu cn λx H1 aR bK bT=>?_
 refine bE (U aa s1 σ H1 _ aR bT) λu s2 cn=>eu cn λy ar bz fc cX=>?_
 exact hf v u s2 x y ar bz bK fc cX
def bQ{op:Operator}{r:fq}(aX:hL X (binaryOp op) r)(aV:bu X a bc)(U:bu X b bZ):bu X (.BinOp a op b pos) (vI r bc bZ):=by
 intro aa s σ H Q I h;exact wpAny_BinOp (JR aV U I h λv u s2 x y ar bz a7 bt q=>aX aa s2 σ ar x y v u Q bz a7 bt q)
def Fb(aX:HK X (unaryOp op) r)(aV:bu X a bc):bu X (.UnaryOp op a pos) (LO r bc):=by
 intro aa s σ H Q I h;exact UnaryOp_ (bE (aV aa s σ H _ I h) λv s1 cn=>eu cn λx H1 aR bK bT=>aX aa s1 σ H1 x v Q aR bK bT)
def HS{f:Value->Value->Sem Value}{C:Int->Int->Prop}{g:Int->Int->Int}
  (rule:∀(i j:Int) (t u:Tok) (s:Shared) (Q:Value->Shared->Prop) (E:Value->Shared->Prop),C i j->Q (.int (g i j) s.toks) {s with toks:=s.toks+1}->wpAny (model X.prog X.w) X.A (f (.int i t) (.int j u)) Q E s) :
  hL X f (wY C λi j=>.int (g i j)):=by
 intro aa s σ H x y v u Q I a7 bt h;let(i,rfl,i3):=ha.out h;let(j,rfl,aw,q):=ha.out i3;let(t,rfl):=a7;let(t',rfl):=bt;exact rule i j t t' s _ _ aw (.int (g i j),H,I.tok _,(_,rfl),q)
def YQ{f:Value->Value->Sem Value}{g:Int->Int->Int}
  (rule:∀(i j:Int) (t u:Tok) (s:Shared) (Q:Value->Shared->Prop) (E:Value->Shared->Prop),Q (.int (g i j) s.toks) {s with toks:=s.toks+1}->wpAny (model X.prog X.w) X.A (f (.int i t) (.int j u)) Q E s) :
  hL X f (q1 λi j=>.int (g i j)):=by
 intro aa s σ H x y v u Q I a7 bt h;let(i,rfl,i3):=ha.out h;let(j,rfl,q):=ha.out i3;let(t,rfl):=a7;let(t',rfl):=bt;exact rule i j t t' s _ _ (.int (g i j),H,I.tok _,(_,rfl),q)
def Pb{f:Value->Value->Sem Value}{g:Int->Int->Bool}
  (rule:∀(i j:Int) (t u:Tok) (s:Shared) (Q:Value->Shared->Prop) (E:Value->Shared->Prop),Q (.bool (g i j)) s->wpAny (model X.prog X.w) X.A (f (.int i t) (.int j u)) Q E s) :
  hL X f (q1 λi j=>.bC (g i j)):=by
 intro aa s σ H x y v u Q I a7 bt h;let(i,rfl,i3):=ha.out h;let(j,rfl,q):=ha.out i3;let(t,rfl):=a7;let(t',rfl):=bt;exact rule i j t t' s _ _ (.bC (g i j),H,I,rfl,q)
def alU(i j:Int):Prop:=0<=j/\j<=1000000/\i.natAbs<2 ^ 64
def pQ(i j:Int):Prop:=(-(2 ^ 64)<i/\i<2 ^ 64)\/(-(2 ^ 64)<j/\j<2 ^ 64)
def pQ.ok(h:pQ i j):IntMulOk i j:=by
 rcases h with⟨af,aj⟩|⟨af,aj⟩
 .exact .of_left (intBits_le_64 af aj)
 .exact .of_right (intBits_le_64 af aj)
def eK:hL X (binaryOp .Add) (q1 λi j=>.int (i+j)):=YQ λ_ _ _ _ _ _ _ q=>add_int q
def mE:hL X (binaryOp .Sub) (q1 λi j=>.int (i-j)):=YQ λ_ _ _ _ _ _ _ q=>sub_int q
def kA:hL X (binaryOp .Mult) (wY pQ λi j=>.int (i*j)):=HS λ_ _ _ _ _ _ _ aw q=>mul_int q aw.ok
def jQ:hL X (binaryOp .Mod) (wY (λ_ j=>0<j) λi j=>.int (i%j)):=HS λi j _ _ _ _ _ aw q=>by
 have af:(0:Int)<j:=aw;exact mod_int' () (by rw[Int.fmod_eq_emod_of_nonneg i ()];exact q)
def aqF:hL X (binaryOp .Pow) (wY alU λi j=>.int (i ^ j.toNat)):=HS λ_ _ _ _ _ _ _ aw q=>pow_int_small aw.1 aw.2.1 aw.2.2 q
def aso{f:Value->Sem Value}{g:Int->Int}
  (rule:∀(i:Int) (t:Tok) (s:Shared) (Q:Value->Shared->Prop) (E:Value->Shared->Prop),Q (.int (g i) s.toks) {s with toks:=s.toks+1}->wpAny (model X.prog X.w) X.A (f (.int i t)) Q E s) :
  HK X f (DR λi=>.int (g i)):=by
 intro aa s σ H x v Q I a7 h;let(i,rfl,q):=ha.out h;let(t,rfl):=a7;exact rule i t s _ _ (.int (g i),H,I.tok _,(_,rfl),q)
def Em:HK X (unaryOp .USub) (DR λi=>.int (-i)):=aso λ_ _ _ _ _ q=>neg_int q
end
noncomputable def It:V->V->Bool
 | .b5,.b5=>true|.b5,.int _=>true|.int _,.b5=>true|.b5,.bC _=>true|.bC _,.b5=>true|.b5,.str _=>true|.str _,.b5=>true
 | .int _,.int _=>true|.bC _,.bC _=>true|.str _,.str _=>true|.mu _,.mu _=>true
 | .int _,.str _=>true|.str _,.int _=>true|.bC _,.str _=>true|.str _,.bC _=>true
 |_,_=>false
theorem i'a{x y}:It (.int x) (.int y)=true:=rfl
theorem i'b{x y}:It (.bC x) (.bC y)=true:=rfl
theorem i'c{x y}:It (.str x) (.str y)=true:=rfl
def Mc:fq:=λx y H Q=>It x y=true/\Q (.bC (decide (x=y))) H
def HA:fq:=λx y H Q=>It x y=true/\Q (.bC (!decide (x=y))) H
def Zr:decide (V.int i=V.int j)=(i==j):=by
 rw[m3];simp
def Vh:decide (V.bC i=V.bC j)=(i==j):=by
 rw[m3];simp
def X4:decide (V.str i=V.str j)=(i==j):=by
 rw[m3];simp
def Tu:decide (V.mu i=V.mu j)=(i.toList==j.toList):=by
 rw[m3];cases i;cases j;simp
section
variable{X:a3}{a b c:Expr}{bc bZ dW:TE}{pos:Pos}
def re{k j2:Bool}(I:Inv X aa σ H s)(q:Q (.bC k) H)(e:k=j2):gY X aa σ Q (.bool j2) s:=by
 subst e;exact(.bC k,H,I,rfl,q)
theorem wf:hL X (compareOp .Eq) Mc:=by
 intro aa s σ H x y v u Q I a7 bt h;let(aC,q):=h;cases x with
 |b5=>
  cases a7;cases y with
  |b5=>cases bt;exact atf (re I q (by simp))
  |bC j=>cases bt;exact auR (re I q (by simp))
  |int j=>let(t',rfl):=bt;exact atP (re I q (by simp))
  |str j=>let(t',rfl):=bt;exact auK (re I q (by simp))
  |_=>exact absurd (show false=true from aC) gu
 |bC i=>
  cases a7;cases y with
  |b5=>cases bt;exact atc (re I q (by simp))
  |bC j=>cases bt;exact eq_bool (re I q Vh)
  |str j=>let(t',rfl):=bt;exact atE (re I q (by simp))
  |_=>exact absurd (show false=true from aC) gu
 |int i=>
  let(t,rfl):=a7;cases y with
  |b5=>cases bt;exact aub (re I q (by simp))
  |int j=>let(t',rfl):=bt;exact eq_int (re I q Zr)
  |str j=>let(t',rfl):=bt;exact auj (re I q (by simp))
  |_=>exact absurd (show false=true from aC) gu
 |str i=>
  let(t,rfl):=a7;cases y with
  |b5=>cases bt;exact auI (re I q (by simp))
  |bC j=>cases bt;exact at0 (re I q (by simp))
  |int j=>let(t',rfl):=bt;exact au0 (re I q (by simp))
  |str j=>let(t',rfl):=bt;exact eq_str (re I q X4)
  |_=>exact absurd (show false=true from aC) gu
 |mu i=>
  let(t,rfl):=a7;cases y with
  |mu j=>let(t',rfl):=bt;exact PySem.W.eq_bytes (re I q Tu)
  |_=>exact absurd (show false=true from aC) gu
 |_=>cases y <;> exact absurd (show false=true from aC) gu
theorem ug:hL X (compareOp .NotEq) HA:=by
 intro aa s σ H x y v u Q I a7 bt h;let(aC,q):=h;cases x with
 |b5=>
  cases a7;cases y with
  |b5=>cases bt;exact avo (re I q (by simp))
  |bC j=>cases bt;exact aud (re I q (by simp))
  |int j=>let(t',rfl):=bt;exact avg (re I q (by simp))
  |str j=>let(t',rfl):=bt;exact atW (re I q (by simp))
  |_=>exact absurd (show false=true from aC) gu
 |bC i=>
  cases a7;cases y with
  |b5=>cases bt;exact auq (re I q (by simp))
  |bC j=>cases bt;exact ne_bool (re I q (congrArg not Vh))
  |str j=>let(t',rfl):=bt;exact at9 (re I q (by simp))
  |_=>exact absurd (show false=true from aC) gu
 |int i=>
  let(t,rfl):=a7;cases y with
  |b5=>cases bt;exact atR (re I q (by simp))
  |int j=>let(t',rfl):=bt;exact ne_int (re I q (congrArg not Zr))
  |str j=>let(t',rfl):=bt;exact aul (re I q (by simp))
  |_=>exact absurd (show false=true from aC) gu
 |str i=>
  let(t,rfl):=a7;cases y with
  |b5=>cases bt;exact ave (re I q (by simp))
  |bC j=>cases bt;exact auy (re I q (by simp))
  |int j=>let(t',rfl):=bt;exact au5 (re I q (by simp))
  |str j=>let(t',rfl):=bt;exact ne_str (re I q (congrArg not X4))
  |_=>exact absurd (show false=true from aC) gu
 |mu i=>
  let(t,rfl):=a7;cases y with
  |mu j=>let(t',rfl):=bt;exact PySem.W.ne_bytes (re I q (congrArg not Tu))
  |_=>exact absurd (show false=true from aC) gu
 |_=>cases y <;> exact absurd (show false=true from aC) gu
def nt:hL X (compareOp .Lt) (q1 λi j=>.bC (decide (i<j))):=Pb λ_ _ _ _ _ _ _ q=>lt_int q
def ajl:hL X (compareOp .LtE) (q1 λi j=>.bC (decide (i<=j))):=Pb λ_ _ _ _ _ _ _ q=>le_int q
def oo:hL X (compareOp .Gt) (q1 λi j=>.bC (decide (j<i))):=Pb λ_ _ _ _ _ _ _ q=>gt_int q
def aod:hL X (compareOp .In) (λx y H Q=>∃i j,x=.str i/\y=.str j/\Q (.bC (!(uh j i 0 ↑j 1).isEmpty)) H):=by
 intro aa s σ H x y v u Q I a7 bt h;let(i,j,rfl,rfl,q):=h;let(t,rfl):=a7;let(t',rfl):=bt;exact in_str (re I q rfl)
theorem aps:hL X (compareOp .Is) (λx y H Q=>y=.b5/\Q (.bC (decide (x=.b5))) H):=by
 intro aa s σ H x y v u Q I a7 bt h;let(rfl,q):=h;cases bt;refine is_none_gen (re I q ?_);cases x <;> first
  |(cases a7;rfl)
  |(let(t,rfl):=a7;rfl)
theorem YH:hL X (compareOp .IsNot) (λx y H Q=>y=.b5/\Q (.bC (!decide (x=.b5))) H):=by
 intro aa s σ H x y v u Q I a7 bt h;let(rfl,q):=h;cases bt;refine isnot_none_gen (re I q ?_);cases x <;> first
  |(cases a7;rfl)
  |(let(t,rfl):=a7;rfl)
def cL(b:Expr)(h:op≠.In:=by decide)(aj:op≠.NotIn:=by decide):behindInMarks op b=false:=by
 have aq:(op==CmpOp.In)=false:=by cases op <;> first|rfl|exact absurd rfl h
 have aA:(op==aqX)=false:=by cases op <;> first|rfl|exact absurd rfl aj
 cases b <;> simp[behindInMarks,aq,aA]
def iz(aX:hL X (compareOp op) r)(aV:bu X a bc)(U:bu X b bZ)(hm:behindInMarks op b=false):bu X (.Compare a [op] [b] pos) (vI r bc bZ):=by
 intro aa s σ H Q I h;exact wpAny_Compare1 (JR aV U I h λv u s2 x y ar bz a7 bt q=>aX aa s2 σ ar x y v u Q bz a7 bt q) hm
def KY(t:TE):TT:=λσ H Q=>t σ H λx H'=>k7 x λk=>Q k H'
def dk(aX:hL X (compareOp op) r)(aV:bu X a bc)(U:bu X b bZ)(hm:behindInMarks op b=false):iW X (.Compare a [op] [b] pos) (KY (vI r bc bZ)):=by
 intro aa s σ H Q I h;refine wpAny_isTrue_Compare1 (bE (aV aa s σ H _ I h) λv s1 cn=>eu cn λx H1 aR bK bT=>bE (U aa s1 σ H1 _ aR bT) λu s2 ⟨y,ar,bz,fc,cX⟩=>
  bE (aX aa s2 σ ar x y v u _ bz bK fc cX) λc s3 cn=>eu cn λz ba d4 Ka hV=>?_) hm
 let(k,e,fL):=k7.out hV;subst e;cases Ka;exact wpAny_truthy_bool (ba,d4,fL)
def YC(K:bg)(x:V)(H:au)(k:Bool):Prop:=
 match x with
 | .b5=>k=false
 | .bC b=>k=b
 | .int i=>k=(i != 0)
 | .str y=>↑y<=sizeLine/\k=((↑y:Int) != 0)
 | .mu y=>y.size<=sizeLine/\k=((y.size:Int) != 0)
 | .ref p=>(∃xs,aE K H p xs/\k = !xs.isEmpty)\/(∃xs,de K H p xs/\k = !xs.isEmpty)\/∃kvs,H p\(.aY kvs)/\k = !kvs.isEmpty
 |_=>False
def as1(r:e7 kvs vs):(!vs.isEmpty) = !kvs.isEmpty:=by
 cases r <;> rfl
def We{a':List Value}(r:cq xs a'):(!a'.toArray.isEmpty) = !xs.isEmpty:=by
 cases r <;> simp
def uG:(sizeLine:Nat)<2 ^ 63:=by rw[sizeLine_eq];decide
theorem akh:acp X (λx H Q=>∃k,YC X.K x H k/\Q k H):=by
 intro aa s σ H x v Q I a7 h;let(k,e,q):=h;have aG:=uG;have aC:sizeLine=16777216:=sizeLine_eq;cases x with
 |b5=>
  cases a7;have br:k=false:=e;subst br;exact truthy_none (H,I,q)
 |bC b=>
  cases a7;have br:k=b:=e;subst br;exact wpAny_truthy_bool (H,I,q)
 |int i=>
  let(t,rfl):=a7;have br:k=(i != 0):=e;subst br;exact PySem.P.truthy_int (H,I,q)
 |str y=>
  let(t,rfl):=a7;let(aJ,br):↑y<=sizeLine/\k=((↑y:Int) != 0):=e;subst br;exact PySem.P.truthy_str () (H,I.tok _,q)
 |mu y=>
  let(t,rfl):=a7;let(aJ,br):y.size<=sizeLine/\k=((y.size:Int) != 0):=e;subst br;exact PySem.W.truthy_bytes () (H,I.tok _,q)
 |ref p=>
  cases a7;have br:(∃xs,aE X.K H p xs/\k = !xs.isEmpty)\/(∃xs,de X.K H p xs/\k = !xs.isEmpty)\/∃kvs,H p\(.aY kvs)/\k = !kvs.isEmpty:=e;rcases br with⟨xs,ae,br⟩|⟨xs,ae,br⟩|⟨kvs,ae,br⟩
  .subst br;let(a',r,pl,aH):=I.list ae;have hlen:=↑r;exact wpAny_truthy_list pl.isList (by simp only[eB];omega) (H,I.tok _,by rw[We r];exact q)
  .subst br;let(a',r,pl,aH):=I.tuple ae;have hlen:=↑r;exact truthy_tuple pl (by simp only[eB];omega) (H,I.tok _,by rw[We r];exact q)
  .subst br;let(aH,eD,vs,r,m):↑kvs<=sizeLine/\(p==sysModules)=false/\∃vs,e7 kvs vs/\s.heap.DictOf (hK X.prog X.w) p vs:=I.a6 p _ ae;have hlen:↑kvs=↑vs:=Ic r;exact wpAny_truthy_dict eD m () (H,I.tok _,by rw[as1 r];exact q)
 |_=>exact(show False from e).elim
def lv(aV:bu X a bc)(he:∀whole,isTrue a X.env whole=(do let v <- whole;standAt a.pos;holding [v] (truthy v))) :
  iW X a (λσ H Q=>bc σ H λx H'=>∃k,YC X.K x H' k/\Q k H'):=by
 intro aa s σ H Q I h;exact isTrue_plain (bE (aV aa s σ H _ I h) λv s1 cn=>eu cn λx H1 aR bK bT=>akh aa s1 σ H1 x v Q aR bK bT) (he _)
def kT:hL X (binaryOp .Add) (λx y H Q=>∃i j,x=.str i/\y=.str j/\↑i+↑j<=sizeLine/\Q (.str (i++j)) H):=by
 intro aa s σ H x y v u Q I a7 bt h;let(i,j,rfl,rfl,aH,q):=h;let(t,rfl):=a7;let(t',rfl):=bt;exact add_str (λt' tk=>(.str (i++j),H,I.tok _,(_,rfl),q)) aH
theorem lz{x:V}(r:cq [x] us):∃u,us=[u]/\bP x u:=by
 cases r with
 |cons bK fc=>cases fc;exact(_,rfl,bK)
theorem G1{x y:V}(r:cq [x,y] us):∃u ei,us=[u,ei]/\bP x u/\bP y ei:=by
 cases r with
 |cons bK fc=>
  cases fc with
  |cons Ka agT=>cases agT;exact(_,_,rfl,bK,Ka)
def af2(aw:X.calm=true):ky X (.builtin "max") (λxs H Q=>∃i j,xs=[.int i,.int j]/\Q (.int (if j>i then j else i)) H):=by
 intro aa s σ H xs us Q I r h;let(i,j,rfl,q):=h;let(u,ei,rfl,(t,rfl),(t',rfl)):=G1 r;refine max_two_ints (I.ok.hd aw) λh' tk k=>(_,H,I.kept k,?_,q)
 by_cases aN:j>i
 .rw [if_pos aN,if_pos aN];exact(_,rfl)
 .rw [if_neg aN,if_neg aN];exact(_,rfl)
def Ls(aw:X.calm=true):ky X (.builtin "min") (λxs H Q=>∃i j,xs=[.int i,.int j]/\Q (.int (if j<i then j else i)) H):=by
 intro aa s σ H xs us Q I r h;let(i,j,rfl,q):=h;let(u,ei,rfl,(t,rfl),(t',rfl)):=G1 r;refine min_two_ints (I.ok.hd aw) λh' tk k=>(_,H,I.kept k,?_,q)
 by_cases aN:j<i
 .rw [if_pos aN,if_pos aN];exact(_,rfl)
 .rw [if_neg aN,if_neg aN];exact(_,rfl)
def XZ:ky X (.type "int") (λxs H Q=>(∃i,xs=[.int i]/\Q (.int i) H)\/∃k,xs=[.bC k]/\Q (.int (if k then 1 else 0)) H):=by
 intro aa s σ H xs us Q I r h;rcases h with⟨i,rfl,q⟩|⟨k,rfl,q⟩
 .let(u,rfl,t,rfl):=lz r;exact call_int_int (.int i,H,I,(_,rfl),q)
 .let(u,rfl,bK):=lz r;cases bK;exact call_int_bool (.int (if k then 1 else 0),H,I.tok _,(_,rfl),q)
def yK:ky X (.type "str") (λxs H Q=>∃i,xs=[.int i]/\i.natAbs.log2<1920/\Q (.str (toString i)) H):=by
 intro aa s σ H xs us Q I r h;let(i,rfl,aH,q):=h;let(u,rfl,t,rfl):=lz r;exact PySem.P.str_of_int aH (.str _,H,I.tok _,(_,rfl),q)
end
structure uT(h:Heap)(x ak C:Addr)(eo:Str->Option Value):Prop where
 obj:h.get? x\(uX C ak)
 ns:h.Ns1 ak eo
 ne:ak≠x
set_option tactic.hygienic true in
def abn{h:Heap}(n:h.Ns1 ak eo):∃bB,h.get? ak\bB/\∀name,EB name bB\(eo name):=by
 let(o,aU,ep,aX,hd,az,_,hm):=n;refine(o,aX,λname=>?_);have e:=hm name;unfold nsFind findBy at e;rw[<- arG]at e;unfold EB;rw[hd];dsimp only;split
 .rename_i y q;rw[q]at e;exact congrArg some e
 .rename_i q;rw[q]at e;have a:aU.toList.any (·.refKey)=false:=by
   rw[KN];intro y aJ;let(z,t,IG):=az y (Array.mem_toList_iff.mp aJ);simp[DictEntry.refKey,IG]
  have uV:¬aU.toList.any (·.refKey)=true:=by rw[a];exact gu
  rw[if_neg uV];exact congrArg some e
def uT.look{h:Heap}{x ak C:Addr}(I:uT h x ak C eo):∃bB,H5 h x (uX C ak) C (some bB)/\∀name,EB name bB\(eo name):=
 let⟨bB,aX,aG⟩:=abn I.ns
 (bB,(I.obj,rfl,rfl,aX),aG)
section
variable{prog:Program}{w:World}{A:Around}{E:Value->Shared->Prop}{s:Shared}{K:bg}{x ak C f:Addr}{eo:Str->Option Value}{name:Str}{v:Value}
def apd(X:K.In s.heap)(I:uT s.heap x ak C eo)(bj:NS K C name=true)(dQ:BX K C=true)
  (aV:dn K ⇑C name\none) (aQ:eo name\v) (J2:aom v=true) (h:Q v {s with toks:=s.toks+1}) :
  wpAny (model prog w) A (getAttr ⇑x name expr) Q E s:=by
 let(bB,bL,aG):=I.look;exact PySem.W.get_value X bL (UQ bj).1 (PySem.W.findObj_own dQ aV rfl (by rw[aG,aQ])) J2 h
def aqn(X:K.In s.heap)(I:uT s.heap x ak C eo)(bj:NS K C name=true)
  (hf:dn K ⇑C name\(some ⇑f)) (c4:NX K ⇑f=true) (aQ:eo name=none) (h:Q (p'p (⇑f) [⇑x]) s) :
  wpAny (model prog w) A (getMethod ⇑x name pl) Q E s:=by
 let(bB,bL,aG):=I.look;exact PySem.W.method_fn X bL (UQ bj).1 (UQ bj).2 hf (beq_iff_eq.mp c4) (by show(EB name bB).map (·.isSome)\false;rw[aG,aQ];rfl) h
def ae'{ns:List Str}(X:K.In s.heap)(I:uT s.heap x ak C eo)
  (aC:dn K ⇑C "__setattr__"\(some (.builtin "object.__setattr__"))) (ag:anU K C=true) (c4:aaC K C name\none) (dQ:BX K C=true)
  (hw:FX eo ns) (hsz:↑ns<=sizeLine)
  (h:∀h',uT h' x ak C (λy=>if y=name then some v else eo y)->w5 ak s.heap h'->Q ⟨⟩ {s with heap:=h',toks:=s.toks+2}) :
  wpAny (model prog w) A (setAttr ⇑x name v) Q E s:=by
 let(bB,bL,aG):=I.look;refine af8 X bL aC (PySem.W.osa_open (s:={s with toks:=s.toks+1}) (r:=none) X bL ag c4 λb=>?_);let(cd,aw,ro):=B7 dQ;have ae:s.heap.get? x\(⇑C,some ak,.plain,#[]):=I.obj;refine wpAny_bind (wpAny_pure (wpAny_bind (wpAny_bind (wpAny_loadPart ae (wpAny_bind (aj0 (s:={s with toks:=s.toks+1}) (aaX X aw) ?_))))));rw[ro];refine wpAny_pure (a:=some ak) (wpAny_bind (wpAny_pure (wpAny_bind ?_)));refine wpAny_nsSet1 (s:={s with toks:=s.toks+1}) I.ns λh' pX iE=>?_
 let(ai3,apo,anI,I0,PX,Qr):=pX.count (aqi name v hw);refine wpAny_bind (wpAny_lookBehind I0 (by rw[PX];exact pastItsLine_dict (c9 Qr (by rw[ih];omega))) ?_);exact wpAny_pure (h _ ((iE.2 _ (cT I.ne)).trans I.obj,pX,I.ne) iE)
def ar5(X:K.In s.heap)(hm:ado K C=true)
  (ai:dn K ⇑C "__init__"\(some ⇑f)) (hf:aa9 K ⇑f\(.type "function"))
  (h:codeAny (model prog w) (A.under (.builtin "type.__call__" (⇑C::vs,kw))) (.call ⇑f (⇑(↥s+1)::vs,kw)) (aj_ (↥s+1) R)
   {s with heap:=(s.heap.push k3).push (uX C ↥s)}) :
  codeAny (model prog w) A (.call ⇑C (vs,kw)) R s:=by
 let(dQ,g,d,t,os):=s;exact PySem.W.make_core (PySem.W.makes_of X hm) (Cu X ai) (λself=>ad8 X self hf) (.inl rfl) h
end
noncomputable def c_(f:Str)(v:V):List (Str×V)->List (Str×V)
 |[]=>[(p'p f v)]
 |(g,x)::r=>if g=f then(p'p g v)::r else(p'p g x)::c_ f v r
theorem YK(f g:Str)(v:V):∀aT:List (Str×V),(c_ f v aT).lookup g=if g=f then some v else aT.lookup g
 |[]=>by
  show qw g [(p'p f v)]=_;by_cases h:g=f
  .have U:(g==f)=true:=beq_iff_eq.mpr h;simp only[qw,U,if_pos h]
  .have U:(g==f)=false:=beq_eq_false_iff_ne.mpr h;simp only[qw,U,if_neg h]
 | (k,x)::r=>by
  have cp:=YK f g v r;rw[show c_ f v ((p'p k x)::r)=(if k=f then(p'p k v)::r else(p'p k x)::c_ f v r)from rfl];by_cases az:k=f
  .rw[if_pos az];by_cases h:g=k
   .have U:(g==k)=true:=beq_iff_eq.mpr h;simp only[qw,U,if_pos (h.trans az)]
   .have U:(g==k)=false:=beq_eq_false_iff_ne.mpr h;simp only[qw,U,if_neg (λe:g=f=>h (e.trans az.symm))]
  .rw[if_neg az];by_cases h:g=k
   .have U:(g==k)=true:=beq_iff_eq.mpr h;simp only[qw,U,if_neg (λe:g=f=>az (h.symm.trans e))]
   .have U:(g==k)=false:=beq_eq_false_iff_ne.mpr h;simp only[qw,U];exact cp
theorem Nw(f:Str)(v:V):∀aT:List (Str×V),f∈(c_ f v aT).map (·.1)/\∀g,g∈aT.map (·.1)->g∈(c_ f v aT).map (·.1)
 |[]=>(by simp[c_],λg h=>by simp at h)
 | (k,x)::r=>by
  let(i1,i2):=Nw f v r;rw[show c_ f v ((p'p k x)::r)=(if k=f then(p'p k v)::r else(p'p k x)::c_ f v r)from rfl];by_cases az:k=f
  .rw [if_pos az];subst az;exact(by simp,λg h=>by simpa using h)
  .rw[if_neg az];refine(?_,λg h=>?_)
   .rw [e1];exact il _ i1
   .rw[e1]at h⊢;rcases e_.mp h with e|e
    .exact e_.mpr (.inl e)
    .exact il _ (i2 g e)
theorem KD(f:Str)(v:V):∀aT:List (Str×V),↑(c_ f v aT)<=↑aT+1
 |[]=>by simp[c_]
 |(k,x)::r=>by
  have cp:=KD f v r;rw[show c_ f v ((p'p k x)::r)=(if k=f then(p'p k v)::r else(p'p k x)::c_ f v r)from rfl];by_cases az:k=f
  .rw [if_pos az,ih,ih];omega
  .rw [if_neg az,ih,ih];omega
theorem iV.some_of(r:iV (some v) o):∃u,o\u/\bP v u:=by
 cases o with
 |none=>exact(show False from r).elim
 |some u=>exact(u,rfl,r)
theorem iV.none_of(r:iV none o):o=none:=by
 cases o with
 |none=>rfl
 |some u=>exact(show False from r).elim
theorem Ue(r:bP v u):aom u=true:=by
 cases v with
 |b5=>cases(show u=i6 from r);rfl
 |bC b=>cases(show u=kg b from r);rfl
 |int i=>let(t,e):=(show ∃t,u=mO i t from r);cases e;rfl
 |str x=>let(t,e):=(show ∃t,u=rh x t from r);cases e;rfl
 |mu b=>let(t,e):=(show ∃t,u=Hx b t from r);cases e;rfl
 |uN b=>let(t,e):=(show ∃t,u=EN b t from r);cases e;rfl
 |ref a=>cases(show u=dK a from r);rfl
 |ty n=>cases(show u=IL n from r);rfl
section
variable{P:Program}{w:World}{H H':au}{h h':Heap}{a C ak:Addr}{aT pZ:List (Str×V)}
def uC(a6:eW P w H h)(e:H a\(.ins C ak aT)):∃eo,uT h a ak C eo/\(∀f,iV (aT.lookup f) (eo f))/\FX eo (aT.map (·.1))/\↑aT<=1000/\H ak\(.own a):=by
 let(d,z,ne,b0,eo,n,r,q):=(show ce P w H h a (.ins C ak aT)from a6 a _ e);exact(eo,(b0,n,ne),r,q,z,d)
end
structure hx(K:bg)(C:Addr):Prop where
 ahm:NS K C Str.empty=true
 hd:BX K C=true
 po:anU K C=true
 aZ:dn K ⇑C "__setattr__"\(some (.builtin "object.__setattr__"))
def hx.get{K:bg}(c:hx K C)(f:Str):NS K C f=true:=c.ahm
def dc(K:bg)(C:Addr)(f:Str):Prop:=dn K ⇑C f\none
def dc.afT{K:bg}(n:dc K C f):aaC K C f\none:=by
 unfold aaC;rw[show dn K ⇑C f\none from n];rfl
structure fa(K:bg)(C:Addr)(m:Str)(f:Addr):Prop where
 at_:dn K ⇑C m\(some ⇑f)
 fn:NX K ⇑f=true
 bM:sD K ⇑f=true
section
variable{X:a3}{aa:List (Addr×Obj)}{σ:St}{H:au}{s:Shared}{a C ak:Addr}{aT:List (Str×V)}{f:Str}{v:V}{A:Around}{E:Value->Shared->Prop}
def Zm(I:Inv X aa σ H s)(e:H a\(.ins C ak aT))(c:hx X.K C)(n:dc X.K C f)(l:aT.lookup f\v)
  (h:∀u s',Inv X aa σ H s'->bP v u->Q u s'):wpAny (model X.prog X.w) A (getAttr ⇑a f b) Q E s:=by
 let(eo,O,r,_,_,_):=uC I.a6 e;let(u,bp,es):=iV.some_of (v:=v) (o:=eo f) (by rw[<- l];exact r f);exact apd I.eH O (c.get f) c.hd n bp (Ue es) (h u _ (I.tok _) es)
def Ax(I:Inv X aa σ H s)(e:H a\(.ins C ak aT))(c:hx X.K C)(k:fa X.K C m g)(l:aT.lookup m=none)
  (h:Q (p'p (⇑g) [⇑a]) s):wpAny (model X.prog X.w) A (getMethod ⇑a m pl) Q E s:=by
 let(eo,O,r,_,_,_):=uC I.a6 e;have a0:eo m=none:=iV.none_of (by rw[<- l];exact r m);exact aqn I.eH O (c.get m) k.at_ k.fn a0 h
def abI(I:Inv X aa σ H s)(e:H a\(.ins C ak aT))(c:hx X.K C)(n:dc X.K C f)(aG:↑aT<1000)(bt:bP y u)
  (h:∀s',Inv X aa σ (upd H a (.ins C ak (c_ f y aT))) s'->Q ⟨⟩ s'):wpAny (model X.prog X.w) A (setAttr ⇑a f u) Q E s:=by
 let(eo,O,r,fB,_,aX):=uC I.a6 e;have aH:↑(aT.map (·.1))<=sizeLine:=by rw[aO,sizeLine_eq];omega
 refine ae' I.eH O c.aZ c.po n.afT c.hd fB aH λh' z0 p7=>h _ ?_
 have hd:∃o,h'.get? ak\o:=let⟨o,_,_,br,_⟩:=z0.ns;(o,br);refine I.write (x:=a) (e:=ak) (by rw[e];exact hI) (.inr aX) (λb q U z=>(p7.2 b U).trans z) hd ?_;refine(by rw[ax O.ne];exact aX,?_,O.ne,z0.obj,_,z0.ns,λg=>?_,λg bj=>?_)
 .have:=KD f y aT;omega
 .show iV ((c_ f y aT).lookup g) (if g=f then some u else eo g);rw[YK];by_cases q:g=f
  .rw [if_pos q,if_pos q];exact bt
  .rw [if_neg q,if_neg q];exact r g
 .by_cases q:g=f
  .rw [q];exact(Nw f y aT).1
  .refine (Nw f y aT).2 g (fB g λz=>bj ?_);show(if g=f then some u else eo g)=none;rw[if_neg q];exact z
def Inv.made(I:Inv X aa σ H s):Inv X aa σ (upd (upd H ↥s (.own (↥s+1))) (↥s+1) (.ins C ↥s []))
  {s with heap:=(s.heap.push k3).push (uX C ↥s)}:=by
 have aq:(s.heap.push k3).get? ↥s\k3:=hl s.heap rfl;have aA:((s.heap.push k3).push (uX C ↥s)).get? (↥s+1)\(uX C ↥s):=by
  have:=hl (s.heap.push k3) (o:=uX C ↥s) rfl;rwa[S2]at this
 have bG:(s.heap.push k3).Ns ↥s (λ_=>none):=(k3,#[],_,aq,rfl,(λe he=>absurd he (by simp)),λ_=>rfl);have aR:=I.laid (a:=↥s) (o:=.own (↥s+1)) (h':=s.heap.push k3) (t':=s.toks) (λb u q=>ea _ q) (b1 _) (_,aq);refine aR.laid (a:=↥s+1) (o:=.ins C ↥s []) (t':=s.toks) (λb u q=>ea _ q) (FA (S2 _ _)) ?_;have ne:↥s≠↥s+1:=gs (Pc _);refine(by rw[ax ne,aM],e0 _,ne,aA,λ_=>none,(agx bG).at λo q=>ea _ q,λ_=>hI,λy aJ=>absurd rfl aJ)
def abA{prog:Program}{w:World}{env:Env}{e:Expr}(U:attributeBase e f env (eval e env)=eval e env)
  (h:wpAny (model prog w) A (eval e env) (λo dM=>wpAny (model prog w) A (getAttr o f true) Q E dM) E s):wpAny (model prog w) A (eval (.Attribute e f pos) env) Q E s:=
 Attribute_any_ h (by rw[arm_eval_Attribute,U])
end
def fH(K:bg)(H:au)(a:Addr)(f:Str)(v:V):Prop:=∃C ak aT,H a\(.ins C ak aT)/\hx K C/\dc K C f/\aT.lookup f\v
def PD(K:bg)(bc:TE)(f:Str):TE:=λσ H Q=>bc σ H λx H1=>ap x λa=>∃v,fH K H1 a f v/\Q v H1
def Wx(K:bg)(bc eS:TE)(f:Str):d6:=λD σ H=>eS σ H λy H1=>bc σ H1 λx ar=>ap x λa=>∃C ak aT,ar a\(.ins C ak aT)/\hx K C/\dc K C f/\↑aT<1000 /\
 D.cc σ (upd ar a (.ins C ak (c_ f y aT)))
def CH(X:a3)(op:Operator)(i8:V->V->au->cR->Prop):Prop:=
 ∀(aa:List (Addr×Obj)) (s:Shared) (σ:St) (H:au) (x y:V) (u v:Value) (Q:cR),Inv X aa σ H s->bP x u->bP y v->i8 x y H Q->wpAny (model X.prog X.w) X.A (inplaceOp op u v) (gY X aa σ Q) X.dG s
def T7(K:bg)(bc eS:TE)(i8:V->V->au->cR->Prop)(f:Str):d6:=λD σ H=>bc σ H λx H1=>∃a C ak aT v,x=⇑a/\H1 a\(.ins C ak aT)/\hx K C/\dc K C f/\aT.lookup f\v /\
 eS σ H1 λy ar=>i8 v y ar λz ba=>∃hG pZ,ba a\(.ins C hG pZ)/\↑pZ<1000/\D.cc σ (upd ba a (.ins C hG (c_ f z pZ)))
section
variable{X:a3}{o e value:Expr}{f:Str}{pos pos' xt:Pos}{bc eS:TE}
def bA(he:bu X e bc)(U:attributeBase e f X.env (eval e X.env)=eval e X.env):bu X (.Attribute e f pos) (PD X.K bc f):=by
 intro aa s σ H Q I h;refine abA U (bE (he aa s σ H _ I h) λu s1 cn=>eu cn λx H1 aR a7 hV=>?_);let(a,ex,v,(C,ak,aT,dP,c,n,l),q):=ap.out hV;subst ex;obtain rfl:u=dK a:=a7;exact Zm aR dP c n l λo_ s2 bz es=>(v,H1,bz,es,q)
def e6(aV:bu X o bc)(aQ:bu X value eS)(aC:swapsWith value (some (.Attribute o f pos')) pos.line X.env=pure false):fX X (.Assign [.Attribute o f pos'] value pos) (Wx X.K bc eS f):=by
 intro aa s σ H D I h;refine plainObj_wpAny_Assign_Attribute (bE (aQ aa s σ H _ I h) λu s1 cn=>eu cn λy H1 aR bt q=>bE (aV aa s1 σ H1 _ aR q) λdw s2 cn=>eu cn λx ar bz a7 hV=>?_) aC;let(a,ex,C,ak,aT,dP,c,n,l,cX):=ap.out hV;subst ex;obtain rfl:dw=dK a:=a7;exact abI bz dP c n l bt λs3 d4=>(σ,_,d4,cX)
def Bs{i8:V->V->au->cR->Prop}(aV:bu X o bc)(aQ:bu X value eS)(O0:CH X op i8):fX X (.AugAssign (.Attribute o f xt) op value pos) (T7 X.K bc eS i8 f):=by
 intro aa s σ H D I h;refine wpAny_AugAssign_AttributeAny (bE (aV aa s σ H _ I h) λdw s1 cN=>?_);let(x,H1,aR,a7,a,C,ak,aT,v,ex,dP,c,n,l,q):=cN;subst ex;obtain rfl:dw=dK a:=a7;refine Zm aR dP c n l λu s2 bz es=>bE (aQ aa s2 σ H1 _ bz q) λik s3 cn=>eu cn λy ar d4 bt fL=>bE (O0 aa s3 σ ar v y u ik _ d4 es bt fL) λgZ s4 cN=>?_
 let(z,ba,gc,z3,hG,pZ,Jm,l',um):=cN;exact abI gc Jm c n l' z3 λs5 u7=>(σ,_,u7,um)
def Lo:V->V->au->cR->Prop:=λx y H Q=>∃i j,x=.int i/\y=.int j/\Q (.int (i+j)) H
def JE:V->V->au->cR->Prop:=λx y H Q=>∃i j,x=.int i/\y=.int j/\Q (.int (i-j)) H
def xX:CH X .Add Lo:=by
 intro aa s σ H x y u v Q I a7 bt (i,j,rfl,rfl,q);let(t,rfl):=(show ∃t,u=mO i t from a7);let(t',rfl):=(show ∃t',v=mO j t' from bt);exact au_ (.int (i+j),H,I.tok _,(_,rfl),q)
def ajs:CH X .Sub JE:=by
 intro aa s σ H x y u v Q I a7 bt (i,j,rfl,rfl,q);let(t,rfl):=(show ∃t,u=mO i t from a7);let(t',rfl):=(show ∃t',v=mO j t' from bt);exact avp (.int (i-j),H,I.tok _,(_,rfl),q)
end
section
variable{X:a3}{aa:List (Addr×Obj)}{σ:St}{H:au}{s:Shared}{A:Around}{E:Value->Shared->Prop}{Q:Value->Shared->Prop}{c:Value}{b:Bool}
inductive mC(K:bg)(H:au):V->Value->Prop where
 |b5:mC K H .b5 (.type "NoneType")
 |bC (x:Bool):mC K H (.bC x) (.type "bool")
 |int (i:Int):mC K H (.int i) (.type "int")
 |str (x:Str):mC K H (.str x) (.type "str")
 |uN (x:UInt64):mC K H (.uN x) (.type "float")
 |lst {a:Addr} {xs:List V} (e:H a\(.lst xs)):mC K H (.ref a) (.type "list")
 |dg {a:Addr} {o:Obj} {xs:List V} (e:H a\(.dg o (.lst xs))):mC K H (.ref a) (.type "list")
 |tup {a:Addr} {xs:List V} (e:H a\(.tup xs)):mC K H (.ref a) (.type "tuple")
 |aY {a:Addr} {kvs:List (Key×V)} (e:H a\(.aY kvs)):mC K H (.ref a) (.type "dict")
 |gK {a:Addr} {kvs:List (List Key×V)} (e:H a\(.gK kvs)):mC K H (.ref a) (.type "dict")
 | ins {a C ak:Addr} {aT:List (Str×V)} (e:H a\(.ins C ak aT)) (cl:hx K C) (aV:dn K (.ref C) "__class__"\(some (.builtin "object.__class__")))
   (a0:xK K (.builtin "object.__class__") "__get__"\(some (.builtin "getset_descriptor.__get__"))) (rr:Jp K (.builtin "object.__class__")\true)
   (hm:yO K C (.type "object")\true):mC K H ⇑a ⇑C
theorem aiv{x:V}{u t:Value}(I:Inv X aa σ H s)(a7:bP x u)(ty:mC X.K H x t)(e:alO X.K t c\b)(h:∀tk,Q (.bool b) {s with toks:=tk}) :
  wpAny (model X.prog X.w) A (call (.builtin "isinstance") [u,c]) Q E s:=by
 cases ty with
 |b5=>cases(show u=i6 from a7);exact pR PySem.W.kitx_none I.eH hI e (λz=>nomatch z) h
 |bC y=>cases(show u=kg y from a7);exact pR PySem.W.kitx_bool I.eH hI e (λz=>nomatch z) h
 |int i=>let(t,q):=(show ∃t,u=mO i t from a7);cases q;exact pR PySem.W.kitx_int I.eH hI e (λz=>nomatch z) h
 |str y=>let(t,q):=(show ∃t,u=rh y t from a7);cases q;exact pR PySem.W.kitx_str I.eH hI e (λz=>nomatch z) h
 |uN y=>let(t,q):=(show ∃t,u=EN y t from a7);cases q;exact pR PySem.W.kitx_float I.eH hI e (λz=>nomatch z) h
 | @lst a xs dP=>
  cases(show u=dK a from a7);let(_,_,n,_,af):=(show ce X.prog X.w H s.heap a (.lst xs)from I.a6 a _ dP);exact pR afr I.eH (_,af,rfl) e (λz=>nomatch z) h
 | @dg a b0 xs dP=>
  cases(show u=dK a from a7);let(_,_,_,n,_,af):=(show ce X.prog X.w H s.heap a (.dg b0 (.lst xs))from I.a6 a _ dP);exact pR afr I.eH (_,af,rfl) e (λz=>nomatch z) h
 | @tup a xs dP=>
  cases(show u=dK a from a7);let(_,_,_,p):=(show ce X.prog X.w H s.heap a (.tup xs)from I.a6 a _ dP);let(o,af,aj,_):=p;exact pR PySem.W.kitx_tuple I.eH (o,af,aj) e (λz=>nomatch z) h
 | @aY a kvs dP=>
  cases(show u=dK a from a7);let(_,_,vs,_,p):=(show ce X.prog X.w H s.heap a (.aY kvs)from I.a6 a _ dP);let(o,aU,ep,af,aj,_):=p;exact pR afN I.eH (o,af,aj.1) e (λz=>nomatch z) h
 | @gK a kvs dP=>
  cases(show u=dK a from a7);let(_,_,xs,_,o,aU,ep,af,aj,_):=(show ce X.prog X.w H s.heap a (.gK kvs)from I.a6 a _ dP);exact pR afN I.eH (o,af,aj.1) e (λz=>nomatch z) h
 | @ins a C ak aT dP cl aV a0 rr hm=>
  cases(show u=dK a from a7);let(eo,O,_):=uC I.a6 dP;let(bB,bL,_):=O.look;exact pR (PySem.W.kitx_own (cl.get _) cl.hd aV a0 rr hm) I.eH bL e (λz=>nomatch z) h
end
structure eR(k:Nat)(A:Around):Prop where
 hd:A.handled=none
 h2:A.depth+3*k+5<recursionLimit
 un:A.units+16*k+200<cLine
def eR.mono{j k:Nat}{A:Around}(r:eR k A)(h:j<=k):eR j A:=(r.hd,by have:=r.h2;omega,by have:=r.un;omega)
theorem eR.deeper{k:Nat}{A:Around}(r:eR (k+1) A)(env:Env):eR k (A.deeper env):=
 (r.hd,by have:=r.h2;show A.depth+1+3*k+5<_;omega,by have:=r.un;show A.units+3+16*k+200<_;omega)
theorem eR.in1{k:Nat}{A:Around}(r:eR (k+1) A):eR k A.in1:=
 (r.hd,by have:=r.h2;show A.depth+3*k+5<_;omega,by have:=r.un;show A.units+1+16*k+200<_;omega)
def akv{A:Around}:(A.under (.builtin "type.__call__" (⇑C::us,kw))).depth=A.depth+1:=by
 first|rfl|simp[Ub,Code.weight,Code.isCreation,Code.isGuard,Code.isCaller,akw,X9,guardIds]
def aob{A:Around}:(A.under (.builtin "type.__call__" (⇑C::us,kw))).units=A.units+1:=by
 first|rfl|simp[Ub,Code.cUnits,akw,X9]
def eR.make{k:Nat}{A:Around}(r:eR (k+1) A)(C:Addr)(us:List Value)(kw:List (Str×Value)):eR k (A.under (.builtin "type.__call__" (⇑C::us,kw))):=
 (r.hd,by have:=r.h2;rw[akv];omega,by have:=r.un;rw[aob];omega)
theorem eR.depth{k:Nat}{A:Around}(r:eR k A):A.depth<recursionLimit:=by have:=r.h2;omega
theorem eR.units{k:Nat}{A:Around}(r:eR k A):A.units+64<cLine:=by have:=r.un;omega
def zY:fG:=λ_ H Q=>Q [] H
def Mq(bc:TE)(jZ:fG):fG:=λσ H Q=>bc σ H λx H1=>jZ σ H1 λxs ar=>Q (x::xs) ar
section
variable{X:a3}{e:Expr}{aU:List Expr}{bV:TE}{t:fG}{pos:Pos}
def aB:ho X [] zY:=λ_ _ _ _ H Q I h=>acO ([],H,I,.nil,h)
def ah(aV:bu X e bV)(ao:ho X aU t)(aC:starEach (e::aU) X.env=(p'p false (eval e X.env))::starEach aU X.env:=by rfl):ho X (e::aU) (Mq bV t):=by
 intro pos aa s σ H Q I h;rw[aC];show wpAny _ _ (spliced ((p'p false (eval e X.env))::backTo pos (starEach aU X.env))) _ _ s;refine YV (bE (aV aa s σ H _ I h) λu s1 cn=>eu cn λx H1 aR bK bT=>?_);exact bE (ao pos aa s1 σ H1 _ aR bT) λus s2 ⟨xs,ar,bz,fc,cX⟩=>(x::xs,ar,bz,.cons bK fc,cX)
def Mi(t:fG):TE:=λσ H Q=>t σ H λxs H1=>↑xs<=sizeLine/\∀p,H1 p=none->Q ⇑p (upd H1 p (.tup xs))
def Pq(t:fG):TE:=λσ H Q=>t σ H λxs H1=>↑xs<=sizeLine/\∀p,H1 p=none->Q ⇑p (upd H1 p (.lst xs))
def mj{c2}(h:ho X aU t):bu X (.Tuple aU c2 pos) (Mi t):=by
 intro aa s σ H Q I ay;refine wpAny_Tuple_spliced (bE (h pos aa s σ H _ I ay) λus s1 ⟨xs,H1,aR,r,z,q⟩=>(by rw[<- ↑r];exact z,?_));have hf:H1 ↥s1=none:=aR.a6.fresh (b1 _);refine(.ref ↥s1,upd H1 ↥s1 (.tup xs),aR.laid (t':=s1.toks) (λb u e=>ea _ e) (b1 _) ?_,rfl,q _ hf);exact((z,_,hl _ rfl,rfl),us,r,(_,hl _ rfl,rfl,_,rfl))
def f_(h:ho X aU t):bu X (.List aU pos) (Pq t):=by
 intro aa s σ H Q I ay;refine wpAny_List_spliced (bE (h pos aa s σ H _ I ay) λus s1 ⟨xs,H1,aR,r,z,q⟩=>(by rw[<- ↑r];exact z,?_));have hf:H1 ↥s1=none:=aR.a6.fresh (b1 _);refine(.ref ↥s1,upd H1 ↥s1 (.lst xs),aR.laid (t':=s1.toks) (λb u e=>ea _ e) (b1 _) ?_,rfl,q _ hf);exact(z,us,0,r,hl _ rfl)
end
abbrev bW:=List V->au->cR->ee->Prop
abbrev jE:=List Env->au->Shared->ee->Value->Shared->Prop
structure q9(P:Program)(w:World)(K:bg)(mg:Str->Option Value)(base:Heap)(A:Around)(outer:List Env)(s:Shared)(H:au):Prop where
 frames:A.frames\outer
 mod:Mod K mg base
 bs:∀b o,base.get? b\o->s.heap.get? b\o/\H b=none
 lP:base.objs.size<=↥s
 kX:s.heap.FunFrames base outer
 pa:∀b∈i4 outer,H b=none
 a6:eW P w H s.heap
 bare:AllBare s.gens
def I5(outer:List Env)(P:Program)(w:World)(H:au)(s:Shared)(Q:cR)(u:Value)(s':Shared):Prop:=
 ∃v H',s'.os=s.os/\AllBare s'.gens/\gM (i4 outer) [] H H' s.heap s'.heap/\eW P w H' s'.heap/\bP v u/\Q v H'
def Dd(CX:jE)(outer:List Env)(P:Program)(w:World)(H:au)(s:Shared)(Q:cR)(E:ee)(r:Result)(s':Shared):Prop:=
 match r with
 | .ok (.ret u)=>I5 outer P w H s Q u s'
 | .ok _=>False
 | .error e=>CX outer H s E e s'
structure cz(P:Program)(w:World)(K:bg)(mg:Str->Option Value)(base:Heap)(CX:jE)(k:Nat)(f:Addr)(fd:FuncData)(ps:List Str)(sp:bW):Prop where
 len:∀vs H Q E,sp vs H Q E->↑vs=↑ps
 run:∀(A:Around) (outer:List Env) (s:Shared) (H:au) (args:Args) (us:List Value) (vs:List V) (Q:cR) (E:ee),eR k A->q9 P w K mg base A outer s H->BindsTo s fd args (ps.zip us)->cq vs us->sp vs H Q E ->
  codeAny (model P w) A (.call ⇑f args) (Dd CX outer P w H s Q E) s
theorem cz.mono{w:World}{K:bg}{mg:Str->Option Value}{base:Heap}{j k:Nat}{fd:FuncData}(F:cz P w K mg base CX j f fd ps sp)(h:j<=k) :
  cz P w K mg base CX k f fd ps sp:=(F.len,λA outer s H args us vs Q E ao=>F.run A outer s H args us vs Q E (ao.mono h))
def cz.imp{w:World}{K:bg}{mg:Str->Option Value}{base:Heap}{k:Nat}{fd:FuncData}(F:cz P w K mg base CX k f fd ps sp)
  (h:∀vs H Q E,N3 vs H Q E->sp vs H Q E):cz P w K mg base CX k f fd ps N3:=
 (λvs H Q E q=>F.len vs H Q E (h _ _ _ _ q),λA outer s H args us vs Q E ao he U aQ aC=>F.run A outer s H args us vs Q E ao he U aQ (h _ _ _ _ aC))
def q9.make{w:World}{K:bg}{mg:Str->Option Value}{base:Heap}{A:Around}{outer:List Env}(e:q9 P w K mg base A outer s H)(C:Addr)(us:List Value)(kw:List (Str×Value)) :
  q9 P w K mg base (A.under (.builtin "type.__call__" (⇑C::us,kw))) outer s H:=(by first|exact e.frames|(simpa[Ub,Code.envs,X9,pushEnvs]using e.frames),e.mod,e.bs,e.lP,e.kX,e.pa,e.a6,e.bare)
section
variable{X:a3}{aa:List (Addr×Obj)}{σ:St}{H:au}{s s':Shared}
def Inv.GA(I:Inv X aa σ H s):q9 X.prog X.w X.K X.mg X.base X.A X.stack s H:=
 (I.ok.frames,I.ok.mod,I.bs,c9 I.ok.lP I.mB,I.stack,I.BB,I.a6,I.bare)
def Inv.after(I:Inv X aa σ H s)(h:I5 X.stack X.prog X.w H s Q u s'):gY X aa σ Q u s':=by
 let(v,H',os,bare,un,a6,r,q):=h;let(dQ,g,d,t,ad_):=s';obtain rfl:ad_=s.os:=os;exact(v,H',I.call (h':=dQ) (g':=g) (d':=d) (t':=t) (ch:=[]) un a6 bare (λb z=>absurd z (by simp)),r,q)
end
def zm(sp:bW)(dvs:List V)(E:ee)(t:fG):TE:=λσ H Q=>t σ H λvs H1=>sp (vs++dvs) H1 Q E
def MA(C:Addr)(m:Str)(sp:bW)(dvs:List V)(E:ee)(bc:TE)(t:fG):TE:=λσ H Q=>bc σ H λx H1=>ap x λa=>∃ak aT,H1 a\(.ins C ak aT)/\aT.lookup m=none /\
 t σ H1 λvs ar=>sp (x::(vs++dvs)) ar Q E
def Xk(C:Addr)(sp:bW)(dvs:List V)(E:ee)(t:fG):TE:=λσ H Q=>t σ H λvs H1=>∀x ak,H1 x=none->H1 ak=none->ak≠x ->
 sp (⇑x::(vs++dvs)) (upd (upd H1 ak (.own x)) x (.ins C ak [])) (λv ar=>v=.b5/\Q ⇑x ar) E
def b6(K:bg)(fd:FuncData)(ps:List Str)(ds:List Value):Prop:=
 ∀(s:Shared) (us:List Value),K.In s.heap->↑(us++ds)=↑ps->BindsTo s fd (us,[]) (ps.zip (us++ds))
def b6.all{K:bg}{fd:FuncData}(h:∀us:List Value,↑us=↑ps->bindArgs fd (us,[])=pure (ps.zip us)):b6 K fd ps []:=λs us _ aG=>by
 rw[oE]at aG⊢;exact .of_eq (h us aG)
def pk(CX:jE)(X:a3)(E:ee):Prop:=∀(aa:List (Addr×Obj)) (σ:St) (H:au) (s:Shared) (e:Value) (s':Shared),Inv X aa σ H s->CX X.stack H s E e s'->X.dG e s'
section
variable{X:a3}{CX:jE}{k:Nat}{f C:Addr}{fd:FuncData}{ps:List Str}{sp:bW}{dvs:List V}{ds:List Value}{E:ee}{x m:Str}{p pos e2:Pos}{e o:Expr}{aU:List Expr}{bc:TE}{t:fG}
theorem xA(F:cz X.prog X.w X.K X.mg X.base CX k f fd ps sp)(ao:eR k X.A)(U:b6 X.K fd ps ds)(hd:cq dvs ds)(ae:pk CX X E)
  (I:Inv X aa σ H s) (r:cq vs us) (h:sp (vs++dvs) H Q E):wpAny (model X.prog X.w) X.A (call ⇑f us) (gY X aa σ Q) X.dG s:=by
 have fc:cq (vs++dvs) (us++ds):=r.append hd;have aG:↑(us++ds)=↑ps:=by rw[<- ↑fc];exact F.len _ _ _ _ h
 refine wpAny_call (codeAny_mono (F.run X.A X.stack s H (us,[]) (us++ds) (vs++dvs) Q E ao I.GA (U s us I.eH aG) fc h) λr s' ay=>?_);cases r with
 |error e=>exact ae aa σ H s e s' I ay
 |ok dj=>
  cases dj with
  |ret u=>exact I.after ay
  |next=>exact j6 ay
  |brk=>exact j6 ay
  |cont=>exact j6 ay
def aka(F:cz X.prog X.w X.K X.mg X.base CX k f fd ps sp)(ao:eR k X.A)(bj:kK X x)(hm:X.mg x\⇑f)(az:sD X.K ⇑f=true)(U:b6 X.K fd ps ds)(hd:cq dvs ds)(ae:pk CX X E)
  (aV:ho X (e::aU) t) (j0:(x==("__debug__":Str))=false:=by decide) (he:starEach (e::aU) X.env=(p'p false (eval e X.env))::starEach aU X.env:=by rfl) (cE:(backTo pos (starEach aU X.env)).any (·.1)=false:=by rfl) :
  bu X (.Call (.Name x p) (e::aU) [] pos) (zm sp dvs E t):=by
 intro aa s σ H Q I h;refine wpAny_Call_Name_kw (vd I bj hm ?_ j0);refine x2 (h₀:=X.base) I.ok.mod.q0 az (bE (aV pos aa s σ H _ I h) λus s1 ⟨vs,H1,aR,r,q⟩=>(aR.eH,?_)) he cE;exact xA F ao U hd ae aR r q
def eO(he:bu X o bc)(c:hx X.K C)(hm:fa X.K C m f)(F:cz X.prog X.w X.K X.mg X.base CX k f fd ps sp)(ao:eR k X.A)(U:b6 X.K fd ps ds)(hd:cq dvs ds)(ae:pk CX X E)(aV:ho X (e::aU) t)
  (g7:starEach (e::aU) X.env=(p'p false (eval e X.env))::starEach aU X.env:=by rfl) (cE:(backTo pos (starEach aU X.env)).any (·.1)=false:=by rfl)
  (c4:eval (.Call (.Attribute o m e2) (e::aU) [] pos) X.env=(do
   let dw <- eval o X.env
   standAt e2.atName
   let (f,first) <- holding [dw] (getMethod dw m pl)
   callWith pos f first (backTo pos (starEach (e::aU) X.env)) (backToKw pos (keywordEach [] X.env))):=by rfl) :
  bu X (.Call (.Attribute o m e2) (e::aU) [] pos) (MA C m sp dvs E bc t):=by
 intro aa s σ H Q I h;refine wF (pl:=pl) (bE (he aa s σ H _ I h) λu s1 cn=>eu cn λx H1 aR a7 hV=>?_) c4;let(a,ex,ak,aT,dP,l,q):=ap.out hV;subst ex;obtain rfl:u=dK a:=a7;refine Ax aR dP c hm l ?_;refine x2 (first:=[⇑a]) (h₀:=X.base) I.ok.mod.q0 hm.bM (bE (aV pos aa s1 σ H1 _ aR q) λus s2 ⟨vs,ar,bz,r,cX⟩=>(bz.eH,?_)) g7 cE;exact xA (us:=⇑a::us) (vs:=⇑a::vs) F ao U hd ae bz (.cons rfl r) cX
def g0(he:bu X o bc)(c:hx X.K C)(hm:fa X.K C m f)(F:cz X.prog X.w X.K X.mg X.base CX k f fd ps sp)(ao:eR k X.A)(U:b6 X.K fd ps ds)(hd:cq dvs ds)(ae:pk CX X E)
  (c4:eval (.Call (.Attribute o m e2) [] [] pos) X.env=(do
   let dw <- eval o X.env
   standAt e2.atName
   let (f,first) <- holding [dw] (getMethod dw m pl)
   callWith pos f first (backTo pos (starEach [] X.env)) (backToKw pos (keywordEach [] X.env))):=by rfl) :
  bu X (.Call (.Attribute o m e2) [] [] pos) (MA C m sp dvs E bc zY):=by
 intro aa s σ H Q I h;refine wF (pl:=pl) (bE (he aa s σ H _ I h) λu s1 cn=>eu cn λx H1 aR a7 hV=>?_) c4;let(a,ex,ak,aT,dP,l,q):=ap.out hV;subst ex;obtain rfl:u=dK a:=a7;refine Ax aR dP c hm l ?_;exact asU (first:=[⇑a]) aR.eH hm.bM (xA (us:=[⇑a]) (vs:=[⇑a]) F ao U hd ae aR (.cons rfl .nil) q)
structure qj(K:bg)(C f:Addr):Prop where
 makes:ado K C=true
 init:dn K ⇑C "__init__"\(some ⇑f)
 fn:NX K ⇑f=true
 bM:sD K ⇑C=true
theorem adb(M:qj X.K C f)(F:cz X.prog X.w X.K X.mg X.base CX k f fd ps sp)(ao:eR (k+1) X.A)(U:b6 X.K fd ps ds)(hd:cq dvs ds)
  (ae:pk CX X E) (I:Inv X aa σ H s) (r:cq vs us)
  (h:∀x ak,H x=none->H ak=none->ak≠x->sp (⇑x::(vs++dvs)) (upd (upd H ak (.own x)) x (.ins C ak [])) (λv ar=>v=.b5/\Q ⇑x ar) E) :
  wpAny (model X.prog X.w) X.A (call ⇑C us) (gY X aa σ Q) X.dG s:=by
 have ay:=h (↥s+1) ↥s (I.a6.fresh (xr _)) (I.a6.fresh (b1 _)) (gs (Pc _));have bz:=Inv.made (C:=C) I;have fc:cq (V.ref (↥s+1)::(vs++dvs)) (dK (↥s+1)::(us++ds)):=.cons rfl (r.append hd);have aG:↑(dK (↥s+1)::us++ds)=↑ps:=by
  have e:=↑fc;rw[F.len _ _ _ _ ay]at e;exact e.symm
 refine wpAny_call (ar5 (f:=f) I.eH M.makes M.init (beq_iff_eq.mp M.fn) (codeAny_mono (F.run _ X.stack _ _ (dK (↥s+1)::us,[]) (dK (↥s+1)::(us++ds)) _ _ E (ao.make C us [])
  (bz.GA.make C us []) (U _ (dK (↥s+1)::us) bz.eH aG) fc ay) λr s' hR=>?_))
 cases r with
 |error e=>exact ae aa σ _ _ e s' bz hR
 | ok dj=>
  cases dj with
  |ret u=>
   let(v,H',d4,cM,ev,fL):=bz.after hR;subst ev;exact(cM,(V.ref (↥s+1),H',d4,rfl,fL))
  |next=>exact j6 hR
  |brk=>exact j6 hR
  |cont=>exact j6 hR
def s7(M:qj X.K C f)(F:cz X.prog X.w X.K X.mg X.base CX k f fd ps sp)(ao:eR (k+1) X.A)(bj:kK X x)(hm:X.mg x\⇑C)(U:b6 X.K fd ps ds)(hd:cq dvs ds)(ae:pk CX X E)
  (aV:ho X (e::aU) t) (j0:(x==("__debug__":Str))=false:=by decide) (he:starEach (e::aU) X.env=(p'p false (eval e X.env))::starEach aU X.env:=by rfl) (cE:(backTo pos (starEach aU X.env)).any (·.1)=false:=by rfl) :
  bu X (.Call (.Name x p) (e::aU) [] pos) (Xk C sp dvs E t):=by
 intro aa s σ H Q I h;refine wpAny_Call_Name_kw (vd I bj hm ?_ j0);refine x2 (h₀:=X.base) I.ok.mod.q0 M.bM (bE (aV pos aa s σ H _ I h) λus s1 ⟨vs,H1,aR,r,q⟩=>(aR.eH,?_)) he cE;exact adb M F ao U hd ae aR r q
end
structure cx(N P:List Str)(sc:Scope):Prop where
 kind:sc.kind=.function
 co:sc.isCoroutine=false
 gen:sc.isGenerator=false
 aD:N.Nodup
 pre:N.take ↑P=P
 par:∀x∈P,sc.names.lookup x\.local\/sc.names.lookup x\.cell
 ac7:∀y∈sc.names,y.2≠.free
theorem T5{kindOf:Str->Option NameKind}{x:Str}:∀{binds:List (Str×Value)} {m:Str->Option Value},(∀v,(p'p x v)∉binds)->bindL kindOf binds m x=m x
 |[],_,_=>rfl
 | (n,v)::r,m,h=>by
  unfold bindL;rw[T5 λw hw=>h w (il _ hw)];split
  .have:x≠n:=by rintro rfl;exact h v m4
   simp[this]
  .rfl
theorem QK{kindOf:Str->Option NameKind}{x:Str}:∀{binds:List (Str×Value)} {m:Str->Option Value},(∀v,(p'p x v)∉binds)->bindC kindOf binds m x=m x
 |[],_,_=>rfl
 | (n,v)::r,m,h=>by
  unfold bindC;rw[QK λw hw=>h w (il _ hw)];split
  .rfl
  .have:x≠n:=by rintro rfl;exact h v m4
   simp[this]
theorem Yy{kindOf:Str->Option NameKind}{x:Str}{v:Value}:∀{P:List Str} {vs:List Value} {i:Nat} {m:Str->Option Value},P.Nodup->P[i]?\x->vs[i]?\v->kindOf x\.local ->
  bindL kindOf (P.zip vs) m x\v
 |[],_,_,_,_,h,_,_=>by simp at h
 |_::_,[],_,_,_,_,h,_=>by simp at h
 |p::P,w::vs,0,m,aD,af,aj,az=>by
  simp at af aj;subst af;subst aj;show bindL kindOf ((p'p p w)::P.zip vs) m p=_;unfold bindL;rw[T5 λv aQ=>(qp.mp aD).1 (U6 aQ).1,if_pos az];simp
 |p::P,w::vs,i+1,m,aD,af,aj,az=>by
  show bindL kindOf ((p'p p w)::P.zip vs) m x=_;unfold bindL;exact Yy (i:=i) (qp.mp aD).2 (by simpa using af) (by simpa using aj) az
theorem aaD{kindOf:Str->Option NameKind}{x:Str}{v:Value}:∀{P:List Str} {vs:List Value} {i:Nat} {m:Str->Option Value},P.Nodup->P[i]?\x->vs[i]?\v->kindOf x≠some .local ->
  bindC kindOf (P.zip vs) m x\v
 |[],_,_,_,_,h,_,_=>by simp at h
 |_::_,[],_,_,_,_,h,_=>by simp at h
 |p::P,w::vs,0,m,aD,af,aj,az=>by
  simp at af aj;subst af;subst aj;show bindC kindOf ((p'p p w)::P.zip vs) m p=_;unfold bindC;rw[QK λv aQ=>(qp.mp aD).1 (U6 aQ).1,if_neg az];simp
 |p::P,w::vs,i+1,m,aD,af,aj,az=>by
  show bindC kindOf ((p'p p w)::P.zip vs) m x=_;unfold bindC;exact aaD (i:=i) (qp.mp aD).2 (by simpa using af) (by simpa using aj) az
noncomputable def start(N:List Str)(vs:List V):St:=vs.map some++Kn (↑N-↑vs) none
noncomputable def nC(CX:jE)(P:Program)(w:World)(K:bg)(mg:Str->Option Value)(base:Heap)(N:List Str)(qual:Str)(scope:Scope)(f:Addr)(cd:Value)(A:Around)(outer:List Env)(s:Shared)(H:au)(E:ee):a3 where
 prog:=P
 w:=w
 K:=K
 mg:=mg
 base:=base
 A:=A.deeper (envOfC qual scope ↥s f cd)
 N:=N
 gi:=s
 th:=H
 env:=envOfC qual scope ↥s f cd
 outer:=outer
 stack:=envOfC qual scope ↥s f cd::outer
 ex:=[]
 calm:=true
 fn:=λ_=>true
 dv:=[]
 dG:=λe s'=>wpAny (model P w) (A.deeper (envOfC qual scope ↥s f cd)) (leaving (envOfC qual scope ↥s f cd) e) (λ_ tM=>CX outer H s E e tM) (λbr tM=>CX outer H s E br tM) s'
def VN{sc:Scope}{n:Nat}{x:Str}(h:sc.names.lookup x\.cell):∃c,(cellsFrom n sc.names []).lookup x\c:=by
 have q:=aeE sc.names n [] (.inl h);exact aoy.mp q
theorem al9{CX:jE}{P:Program}{w:World}{K:bg}{mg:Str->Option Value}{base:Heap}{N ps:List Str}{qual:Str}{scope:Scope}{f:Addr}{cd:Value}{A:Around}{outer:List Env}{s s1:Shared}{H:au}{E:ee}{us:List Value}{vs:List V}
  (S:cx N ps scope) (hd:A.handled=none) (gp:q9 P w K mg base A outer s H) (aG:↑vs=↑ps) (r:cq vs us)
  (x:InCallC s ↥s (bindL (envOfC qual scope ↥s f cd).kindOf (ps.zip us) λ_=>none) (cellsFrom (↥s+1) scope.names []) (bindC (envOfC qual scope ↥s f cd).kindOf (ps.zip us) λ_=>none) s1) :
  Inv (nC CX P w K mg base N qual scope f cd A outer s H E) [] (start N vs) H s1:=by
 have cE:↑ps<=↑N:=by have:=congrArg sj S.pre;rw[hb]at this;omega
 let(af,tk,rfl,az):=x.done;have tK:∀b:Addr,b∉(nC CX P w K mg base N qual scope f cd A outer s H E).ex:=λb z=>absurd (show b∈([]:List Addr)from z) (by simp)
 refine((gp.mod,S.kind,rfl,rfl,b1 _,λy z c af aj=>?_,λy aJ=>?_,λy c _ h=>?_,λ_=>hd,agk gp.frames,.inr (rfl,rfl),λb z=>absurd z (tK b),gp.bs,gp.lP,λb _ _=>tK b,λb z=>absurd z (tK b),gp.kX,gp.pa),
  rfl,gp.bare,gM.kept az,(_,x.toInCall.ns,λi y v af aj bb=>?_),λy c h=>(_,x.cell y c h),gp.a6.fresh (b1 _),λy c h=>?_,λp ag=>absurd (show p∈([]:List (Addr×Obj))from ag) (by simp),gp.a6.kept az,?_)
 .exact name_of_addr x.apart (xj af) (xj aj)
 .have aJ:scope.names.lookup y\.cell\/scope.names.lookup y\.free:=aJ;rcases aJ with aJ|aJ
  .exact VN aJ
  .exact absurd rfl (S.ac7 _ (xj aJ))
 .exact nM (x.above y c (xj h))
 .have ai:i<↑vs:=by
   unfold start at aj;by_cases ai:i<↑vs
   .exact ai
   .rw [nj (by simpa using ai)]at aj;rw[List.getElem?_replicate]at aj;split at aj <;> cases aj
  have aV:vs[i]?\v:=by
   unfold start at aj;rw[nD (by simpa using ai),dF]at aj;cases e:vs[i]? with
   |none=>rw[e]at aj;cases aj
   |some a=>rw[e]at aj;cases aj;rfl
  let(u,bp,cM):=r.get aV;have ag:ps[i]?\y:=by
   rw[<- S.pre,r7 ()];exact af
  have SV:ps.Nodup:=by rw[<- S.pre];exact S.aD.sublist (adG _ _)
  refine(u,cM,?_);rcases S.par y (ct ag)with k|k
  .exact .inl (k,Yy SV ag bp k)
  .let(c,e):=VN (n:=↥s+1) k;refine .inr (.inl k,c,e,?_);have q:=x.cell y c e;rw[aaD SV ag bp (by show scope.names.lookup y≠_;rw[k];decide)]at q;exact q
 .exact gp.a6.fresh (nM (x.above y c (xj h)))
 .unfold start;show _=↑N;rw[dx,aO,List.length_replicate];omega
theorem IQ{w:World}{K:bg}{mg:Str->Option Value}{base:Heap}{k:Nat}{name qual:Str}{CE df doc pm fi fS oe:Value}
 {N ps:List Str} (lk:K.lookup f\(oe,bB,.func (yN name qual params body scope CE df doc pm an fi fS),sX)) (kz:TH K fi qual=true) (S:cx N ps scope)
    (len:∀vs H Q E,sp vs H Q E->↑vs=↑ps)
    (o5:∀(A:Around) (outer:List Env) (s:Shared) (H:au) (vs:List V) (Q:cR) (E:ee),eR k (A.deeper (envOfC qual scope ↥s f fi))->sp vs H Q E ->
      ∃t,hC (nC CX P w K mg base N qual scope f fi A outer s H E) body t/\t {cc:=λ_ H'=>Q .b5 H',lB:=Q} (start N vs) H) :
    cz P w K mg base CX (k+1) f (yN name qual params body scope CE df doc pm an fi fS) ps sp:=by
  refine(len,λA outer s H args us vs Q E ao gp U r lZ=>?_);have aG:=len _ _ _ _ lZ;have fF:K.In s.heap:=gp.mod.q0.keeps λb o e=>(gp.bs b o e).1
  have lim:s.heap.NoLimit:=gp.mod.nolimit.keeps λb o e=>(gp.bs b o e).1
  have apE:∀y∈ps.zip us,scope.names.lookup y.1\.local\/(scope.names.lookup y.1\.cell/\((cellsFrom (↥s+1) scope.names []).lookup y.1).isSome=true):=λ⟨n,v⟩ aJ=>by
    rcases S.par n (U6 aJ).1 with q|q
    · exact .inl q
    · exact .inr (q,aeE _ _ _ (.inl q))
  refine codeAny_call_function ao.depth (fF _ _ lk) rfl S.co S.gen rfl (PySem.W.codeRec_of fF kz) (U _ _ _ _ ?_);refine wpAny_newFunctionEnv_cells S.kind apE λenv he s1 x=>?_
  subst he;refine(lim.keeps x.toInCall.keep,codeAny_func ?_);let(t,c4,ay):=o5 A outer s H vs Q E (ao.deeper _) lZ;have I:Inv (nC CX P w K mg base N qual scope f fi A outer s H E) [] (start N vs) H s1:=al9 S ao.hd gp aG r x;refine wpAny_mono (c4 [] s1 (start N vs) H _ I ay) (λdj s' aC=>?_) λe s' aC=>aC
  have fin:∀{av:St} {H':au} {v:V} {u:Value},Inv (nC CX P w K mg base N qual scope f fi A outer s H E) [] av H' s'->bP v u->Q v H'->I5 outer P w H s Q u s':=
    λ{av H' v u} bL cM q=>(v,H',bL.os,bL.bare,bL.base,bL.a6,cM,q)
  cases dj with
  | ret u=>
    let(v,av,H',bL,cM,q):=aC;exact fin bL cM q
  | next=>
    let(av,H',bL,q):=aC;exact fin (v:=V.b5) (u:=i6) bL rfl q
  | brk=>
    let(_,_,_,q):=aC;exact j6 q
  | cont=>
    let(_,_,_,q):=aC;exact j6 q
section
variable{X:a3}{x:Str}{p pos:Pos}{e:Expr}{aU:List Expr}{t:fG}{id T:String}{r:List V->au->cR->Prop}
def Hk(r:List V->au->cR->Prop)(t:fG):TE:=λσ H Q=>t σ H λvs H1=>r vs H1 Q
def gC(aw:ky X (.builtin id) r)(bj:kK X x)(hm:X.mg x=none)(aQ:bootBuiltins x\(.builtin id))(aV:ho X (e::aU) t)(a0:x≠"__name__":=by decide)(j0:(x==("__debug__":Str))=false:=by decide)
  (he:starEach (e::aU) X.env=(p'p false (eval e X.env))::starEach aU X.env:=by rfl) (cE:(backTo pos (starEach aU X.env)).any (·.1)=false:=by rfl):bu X (.Call (.Name x p) (e::aU) [] pos) (Hk r t):=by
 intro aa s σ H Q I h;refine wpAny_Call_Name_kw (ye I bj hm aQ ?_ a0 j0);exact aoL (bE (aV pos aa s σ H _ I h) λus s1 ⟨vs,H1,aR,bK,bT⟩=>aw aa s1 σ H1 vs us Q aR bK bT) he cE
def k8(aw:ky X (.type T) r)(bj:kK X x)(hm:X.mg x=none)(aQ:bootBuiltins x\(.type T))(aV:ho X (e::aU) t)(a0:x≠"__name__":=by decide)(j0:(x==("__debug__":Str))=false:=by decide)
  (he:starEach (e::aU) X.env=(p'p false (eval e X.env))::starEach aU X.env:=by rfl) (cE:(backTo pos (starEach aU X.env)).any (·.1)=false:=by rfl):bu X (.Call (.Name x p) (e::aU) [] pos) (Hk r t):=by
 intro aa s σ H Q I h;refine wpAny_Call_Name_kw (ye I bj hm aQ ?_ a0 j0);exact SR (bE (aV pos aa s σ H _ I h) λus s1 ⟨vs,H1,aR,bK,bT⟩=>aw aa s1 σ H1 vs us Q aR bK bT) he cE
end
end L2
namespace gU
open PySem PyProof.Rows
section
open PySem.SeqAt
open PySem.AutoSeq1 (wpAny_loadPart')
open PySem.MeetsSeq PySem.MeetsSeq2 PySem.MeetsSeq3
end
section
variable{prog:Program}{w:World}{A:Around}{E:Value->Shared->Prop}{s:Shared}
noncomputable def dH(n d:Nat):Option Int->Nat
 |none=>d
 |some v=>if v<0 then(v+(n:Int)).toNat else min v.toNat n
def ar0(n d:Nat):dH n d none=d:=rfl
def aiz(n d k:Nat):dH n d (some (k:Int))=min k n:=by
 show(if(k:Int)<0 then((k:Int)+(n:Int)).toNat else min (k:Int).toNat n)=min k n;rw[if_neg (),sz]
theorem ap8(n d:Nat)(hd:d<=n)(o:Option Int):dH n d o<=n:=by
 cases o with
 |none=>exact hd
 |some v=>
  show(if v<0 then(v+(n:Int)).toNat else min v.toNat n)<=n;by_cases aQ:v<0
  .rw [if_pos aQ];omega
  .rw [if_neg aQ];exact Nat.min_le_right _ _
def SG(v:Int)(n d:Nat):(if v<0 then max (v+(n:Int)) 0 else min v (n:Int))=((dH n d (some v):Nat):Int):=by
 show(if v<0 then max (v+(n:Int)) 0 else min v (n:Int))=(((if v<0 then(v+(n:Int)).toNat else min v.toNat n):Nat):Int);by_cases aQ:v<0
 .simp only[if_pos aQ];omega
 .simp only[if_neg aQ];omega
theorem akk(lo ai:Option Int)(n:Nat):WN lo ai 1 (n:Int)=(p'p ((dH n 0 lo:Nat):Int) ((dH n n ai:Nat):Int)):=by
 have af:¬((1:Int)<0):=()
 unfold WN;simp only[af,if_false];refine Prod.ext ?_ ?_
 .cases lo with
  |none=>rfl
  |some v=>exact SG v n 0
 .cases ai with
  |none=>rfl
  |some v=>exact SG v n n
def afl(i j:Nat):NJ (i:Int) (j:Int) 1=j-i:=by
 unfold NJ;have af:(1:Int)>0:=()
 simp only[af,if_true,Int.ediv_one];split <;> omega
theorem aak(p:IsPart v o)(h:Q o s):wpAny (model prog w) A (atn v) Q E s:=by
 cases p with
 |none=>exact slicePart_none h
 |int i t=>exact slicePart_int h
def agr{bJ:Addr}{ks kP:Value}{lo ai:Option Int}{n:Nat}{Q:Int×Int×Nat->Shared->Prop}(aC:s.heap.IsSliceOf bJ ks kP .none)(pl:IsPart ks lo)(pu:IsPart kP ai)
  (h:Q (p'p ((dH n 0 lo:Nat):Int) (p'p 1 (dH n n ai-dH n 0 lo))) s):wpAny (model prog w) A (arD ⇑bJ (pure (n:Int))) Q E s:=by
 let(os,Aw,VW,Dk):=id aC;unfold arD aum;refine wpAny_bind (wpAny_bind (wpAny_field Aw Dk (x:=ks) rfl (wpAny_bind (wpAny_field Aw Dk (x:=kP) rfl (wpAny_bind (wpAny_field Aw Dk (x:=.none) rfl (wpAny_pure ?_)))))));refine wpAny_bind (slicePart_none ?_);show wpAny _ _ (if((1:Int)==0)=true then _ else _) _ _ s;rw[if_neg ∅];refine wpAny_bind (aak pl (wpAny_bind (aak pu (wpAny_bind (wpAny_pure ?_)))));show wpAny _ _ (match WN lo ai 1 (n:Int)with|(lo,ai)=>pure (p'p lo (p'p (1:Int) (NJ lo ai 1)))) _ _ s;rw[akk lo ai n];show wpAny _ _ (pure (p'p ((dH n 0 lo:Nat):Int) (p'p (1:Int) (NJ ((dH n 0 lo:Nat):Int) ((dH n n ai:Nat):Int) 1)))) _ _ s;rw[afl];exact wpAny_pure h
def agh(xs:Array Value)(i k:Nat):((gN k).filterMap λ(m:Nat)=>xs[((i:Int)+(m:Int)*1).toNat]?).toArray=((xs.toList.drop i).take k).toArray:=by
 have e:(λ(m:Nat)=>xs[((i:Int)+(m:Int)*1).toNat]?)=λm=>xs[i+m]?:=by
  funext m;have:((i:Int)+(m:Int)*1).toNat=i+m:=()
  rw[this]
 rw[e];have:=pick_run xs i k;rw[List.filterMap_map]at this;have aA:((λx=>xs[x]?) ∘ λx=>i+x)=λm=>xs[i+m]?:=rfl
 rw[aA]at this;rw[this]
theorem aj2{t bJ:Addr}{items:Array Value}{ks kP:Value}{lo ai:Option Int}{Q:Value->Shared->Prop}(c4:IsTup s.heap t items)(aC:s.heap.IsSliceOf bJ ks kP .none)(pl:IsPart ks lo)(pu:IsPart kP ai)
  (hw:¬(dH items.size 0 lo=0/\dH items.size items.size ai=items.size))
  (h:Q (.ref ↥s) {s with heap:=s.heap.push {cls:=.type "tuple",data:=.seq ((items.toList.drop (dH items.size 0 lo)).take (dH items.size items.size ai-dH items.size 0 lo)).toArray} })
  (hsz:items.size<=sizeLine):wpAny (model prog w) A (getItem ⇑t ⇑bJ) Q E s:=by
 have FV:sizeOk (.seq ((items.toList.drop (dH items.size 0 lo)).take (dH items.size items.size ai-dH items.size 0 lo)).toArray):=by
  show((items.toList.drop (dH items.size 0 lo)).take (dH items.size items.size ai-dH items.size 0 lo)).toArray.size<=sizeLine;rw[eB,hb,rp,so];omega
 have aN:dH items.size items.size ai<=items.size:=ap8 _ _ (b1 _) ai;let(os,Aw,VW,Dk):=id aC;have ak4:s.TypeIs ⇑bJ "slice":=(os,Aw,VW);unfold getItem
 try with_reducible refine wpAny_holding ?_
 first|refine wpAny_bind (wpAny_pure ?_)|skip
 refine wpAny_bind (wpAny_sequenceKey c4.typeIs ∅ ?_);refine wpAny_bind (wpAny_callSpecial?_slot (name:=ab "__getitem__") c4.typeIs SU
  (wpAny_call_entry SU c4.typeIs entry_tuple_getitem ?_ (args_tuple_getitem _ _)))
 show wpAny _ _ (avk ⇑t >>= _) _ _ s;refine wpAny_bind (tupleItemsOf_ c4 ?_);refine wpAny_bind (wpAny_typeOf ak4 ?_);rw[if_pos ∅];refine wpAny_bind (agr aC pl pu ?_);have n_:¬((((dH items.size 0 lo:Nat):Int)==0&&(1:Int)==1&&(dH items.size items.size ai-dH items.size 0 lo)==items.size)=true):=by
  intro q;rw[jP,jP]at q;have bT:((dH items.size 0 lo:Nat):Int)=0:=eq_of_beq q.1.1;have cX:dH items.size items.size ai-dH items.size 0 lo=items.size:=eq_of_beq q.2;exact hw ((),())
 show wpAny _ _ (if(((dH items.size 0 lo:Nat):Int)==0&&(1:Int)==1&&(dH items.size items.size ai-dH items.size 0 lo)==items.size)=true then _ else _) _ _ s;rw[if_neg n_,agh]
 first
  |exact wpAny_bind (m:=PW _) (wpAny_newObj_type (wpAny_pure (_,rfl,wpAny_pure h)) FV)
  |exact wpAny_bind (m:=PW _) (wpAny_newObj_type (wpAny_bind (wpAny_pure (wpAny_pure (_,rfl,wpAny_pure h)))) FV)
  |exact wpAny_bind (wpAny_bind (m:=PW _) (wpAny_newObj_type (wpAny_pure (wpAny_pure (_,rfl,wpAny_pure h))) FV))
  |exact wpAny_bind (wpAny_bind (m:=PW _) (wpAny_newObj_type (wpAny_pure (_,rfl,wpAny_pure h)) FV))
end
end gU
namespace L2
open PySem PySem.Spec PyProof.Rows
abbrev Bn:=St->au->(Option Int->au->Prop)->Prop
def Ex(X:a3)(e:Option Expr)(t:Bn):Prop:=
 ∀(aa:List (Addr×Obj)) (s:Shared) (σ:St) (H:au) (Q:Option Int->au->Prop),Inv X aa σ H s->t σ H Q ->
  wpAny (model X.prog X.w) X.A (evalPart e X.env) (λu s'=>∃o H',Inv X aa σ H' s'/\IsPart u o/\Q o H') X.dG s
def Qw:Bn:=λ_ H Q=>Q none H
def HF(t:TE):Bn:=λσ H Q=>t σ H λx H1=>ha x λi=>Q (some i) H1
section
variable{X:a3}{e:Expr}{bV:TE}{lo ai:Option Expr}{dr kk:Bn}{pos dY:Pos}
def u':Ex X none Qw:=by
 intro aa s σ H Q I h;rw[evalPart_none];exact wpAny_pure (none,H,I,.none,h)
def vx(h:bu X e bV):Ex X (some e) (HF bV):=by
 intro aa s σ H Q I hw;rw[evalPart_some];refine bE (h aa s σ H _ I hw) λu s1 cn=>eu cn λx H1 aR bK bT=>?_
 let(i,rfl,q):=ha.out bT;let(t,rfl):=bK;exact(some i,H1,aR,.int i t,q)
def B8(X:a3)(r:V->Option Int->Option Int->au->cR->Prop):Prop:=
 ∀(aa:List (Addr×Obj)) (s:Shared) (σ:St) (H:au) (x:V) (v ks kP:Value) (lo ai:Option Int) (bJ:Addr) (Q:cR),Inv X aa σ H s->bP x v->s.heap.IsSliceOf bJ ks kP .none->IsPart ks lo->IsPart kP ai->r x lo ai H Q ->
  ∃T id,typeLookup (.type T) "__getitem__"=pure (some (.builtin id))/\s.TypeIs v T/\wpAny (model X.prog X.w) X.A (getItem v ⇑bJ) (gY X aa σ Q) X.dG s
def Ph(r:V->Option Int->Option Int->au->cR->Prop)(bV:TE)(dr kk:Bn):TE:=λσ H Q=>bV σ H λx H1=>dr σ H1 λl ar=>kk σ ar λu ba=>r x l u ba Q
def vp(ao:B8 X r)(he:bu X e bV)(aG:Ex X lo dr)(bp:Ex X ai kk):bu X (.Subscript e (.Slice lo ai none dY) pos) (Ph r bV dr kk):=by
 intro aa s σ H Q I h;refine Subscript_ (bE (he aa s σ H _ I h) λv s1 cn=>eu cn λx H1 aR bK bT=>?_);refine wpAny_Slice (bE (aG aa s1 σ H1 _ aR bT) λks s2 ⟨l,ar,bz,pl,cX⟩=>bE (bp aa s2 σ ar _ bz cX) λkP s3 cN=>?_);let(u,ba,d4,pu,fL):=cN;rw[evalPart_none];refine wpAny_pure ?_;have gc:Inv X aa σ ba {s3 with heap:=s3.heap.push {cls:=.type "slice",data:=.fields #[ks,kP,.none]} }:=d4.kept (t':=s3.toks) λb b0 q=>ea _ q
 let(T,id,ec,c4,bj):=ao aa {s3 with heap:=s3.heap.push {cls:=.type "slice",data:=.fields #[ks,kP,.none]} } σ ba x v ks kP l u ↥s3 Q gc bK (au3 ..) pl pu fL;show wpAny (model X.prog X.w) X.A (subscriptTail e (.Slice lo ai none dY) v (.ref ↥s3)) (gY X aa σ Q) X.dG {s3 with heap:=s3.heap.push {cls:=.type "slice",data:=.fields #[ks,kP,.none]} };exact tail_any (ops:=[.ref ↥s3,v]) c4 ec bj (by with_unfolding_all rfl)
noncomputable def n5(xs:List V)(lo ai:Option Int):List V:=(xs.drop (gU.dH ↑xs 0 lo)).take (gU.dH ↑xs ↑xs ai-gU.dH ↑xs 0 lo)
def UW(xs:List V)(lo ai:Option Int):↑(n5 xs lo ai)<=↑xs:=by
 unfold n5;rw[hb,rp];omega
def abC(K:bg):V->Option Int->Option Int->au->cR->Prop:=λx lo ai H Q=>∃a xs,x=⇑a/\de K H a xs /\
 ¬(gU.dH ↑xs 0 lo=0/\gU.dH ↑xs ↑xs ai=↑xs)/\∀p,H p=none->Q ⇑p (upd H p (.tup (n5 xs lo ai)))
def apQ:B8 X (abC X.K):=by
 intro aa s σ H x v ks kP lo ai bJ Q I a7 aC pl pu h;let(a,xs,rfl,ae,hw,q):=h;cases a7;let(a',r,c4,aH):=I.tuple ae;have hlen:a'.toArray.size=↑xs:=by rw[eB];exact r.length.symm
 refine("tuple",_,SU.lookup,c4.typeIs,?_);refine gU.aj2 c4 aC pl pu (by rw[hlen];exact hw) ?_ (by rw[hlen];exact aH);rw[hlen];refine(.ref ↥s,_,I.laid (t':=s.toks) (o:=.tup (n5 xs lo ai)) (λb b0 q=>ea _ q) (b1 _) ?_,rfl,q _ (I.a6.fresh (b1 _)));exact((c9 (UW xs lo ai) aH,_,hl _ rfl,rfl),_,(r.drop (gU.dH ↑xs 0 lo)).take (gU.dH ↑xs ↑xs ai-gU.dH ↑xs 0 lo),IsTup.new _ _)
end
noncomputable def oG(n:Nat)(i:Int):Option Nat:=if 0<=i then(if i<n then some i.toNat else none)else if -(n:Int)<=i then some (i+n).toNat else none
noncomputable def fN{α:Type}(xs:List α)(i:Int):Option α:=(oG ↑xs i).bind λj=>xs[j]?
def XE(h:oG n i\j):seqIndex? i n\j/\j<n/\-(n:Int)<=i/\i<n:=by
 unfold oG at h;by_cases h0:0<=i
 .rw[if_pos h0]at h;by_cases af:i<n
  .rw [if_pos af]at h;have e:i.toNat=j:=dZ h;exact(by rw[seqIndex_of h0 af,e],(),(),af)
  .rw [if_neg af]at h;cases h
 .rw[if_neg h0]at h;by_cases af:-(n:Int)<=i
  .rw [if_pos af]at h;have e:(i+n).toNat=j:=dZ h;exact(by rw[seqIndex_neg () af,e],(),af,())
  .rw [if_neg af]at h;cases h
theorem Qv(h:fN xs i\v):∃j,seqIndex? i ↑xs\j/\xs[j]?\v/\j<↑xs/\-(↑xs:Int)<=i/\i<↑xs:=by
 unfold fN at h;cases e:oG ↑xs i with
 |none=>rw[e]at h;cases h
 |some j=>
  rw[e]at h;let(af,aj,bb,dt):=XE e;exact(j,af,h,aj,bb,dt)
def cf{α:Type}{xs:List α}{j:Nat}{v:α}(h:xs[j]?\v):fN xs (j:Int)\v:=by
 have aN:j<↑xs:=(b3.mp h).1;have e:oG ↑xs (j:Int)\j:=by
  unfold oG;rw[if_pos (),if_pos ()];simp
 unfold fN;rw[e];exact h
def Ti(xs:List α)(v:α):fN (xs++[v]) (-1)\v:=by
 have aG:↑(xs++[v])=↑xs+1:=by simp
 have e:oG ↑(xs++[v]) (-1)=some ↑xs:=by
  unfold oG;rw[aG,if_neg ∅,if_pos ()];congr 1;omega
 unfold fN;rw[e];show(xs++[v])[↑xs]?\v;simp
def WS(b:Expr):Prop:=∀o i,subscripted b false o i=operate [o,i] (getItem o i)
def zZ(X:a3)(r:fq):Prop:=
 ∀(value slice:Expr) (aa:List (Addr×Obj)) (s:Shared) (σ:St) (H:au) (x y:V) (v u:Value) (Q:cR),Inv X aa σ H s->bP x v->bP y u->r x y H Q ->
  subscripted slice false v u=operate [v,u] (getItem v u)->wpAny (model X.prog X.w) X.A (subscriptTail value slice v u) (gY X aa σ Q) X.dG s
def vA(X:a3)(id:String)(r:V->List V->au->cR->Prop):Prop:=
 ∀(aa:List (Addr×Obj)) (s:Shared) (σ:St) (H:au) (x:V) (xs:List V) (v:Value) (us:List Value) (Q:cR),Inv X aa σ H s->bP x v->cq xs us->r x xs H Q ->
  wpAny (model X.prog X.w) X.A (call (.builtin id) (v::us)) (gY X aa σ Q) X.dG s
section
variable{X:a3}{a b:Expr}{bc bZ:TE}{pos:Pos}
def asA(ao:zZ X r)(aV:bu X a bc)(U:bu X b bZ)(aC:WS b):bu X (.Subscript a b pos) (vI r bc bZ):=by
 intro aa s σ H Q I h;exact Subscript_ (JR aV U I h λv u s2 x y ar bz a7 bt q=>ao a b aa s2 σ ar x y v u Q bz a7 bt q (aC _ _))
def Kk(K:bg):fq:=λx y H Q=>ap x λp=>∃xs,ha y λi=>aE K H p xs/\∃v,fN xs i\v/\Q v H
def Oz(K:bg):fq:=λx y H Q=>ap x λp=>∃xs,ha y λi=>de K H p xs/\∃v,fN xs i\v/\Q v H
def Ik:fq:=λx y H Q=>∃z i c,x=.str z/\y=.int i/\↑z<=sizeLine/\fN z.cps.toList i\c/\Q (.str ⟨#[c]⟩) H
def dI:zZ X (Kk X.K):=by
 intro value slice aa s σ H x y v u Q I a7 bt h aC;let(p,rfl,xs,i3):=ap.out h;let(i,rfl,ay,z,he,q):=ha.out i3;cases a7;let(t,rfl):=bt;let(a',r,pl,aH):=I.list ay;let(j,af,aj,bb,dt,fm):=Qv he;let(w,lU,h4):=r.get aj;have aG:=↑r;have a0:=uG;have fin:gY X aa σ Q w s:=(z,H,I,h4,q);by_cases h0:0<=i
 .have aN:i.toNat=j:=by
   rw[seqIndex_of h0 fm]at af;exact dZ af
  exact item_listR pl.isList h0 () (by rw[aN];simpa using lU) fin aC
 .have aN:(i+(a'.toArray.size:Int)).toNat=j:=by
   rw[seqIndex_neg () dt]at af;rw[eB,<- aG];exact dZ af
  exact subscriptTail_builtinR (x:=w) pl.isList.typeIs slot_list_getitem.lookup
   (wpAny_getItem_list_neg (Q:=λr s'=>r=w/\gY X aa σ Q r s') pl.isList () (by rw[eB] <;> omega) () (by rw[aN];simpa using lU) (rfl,fin)) aC
def fD:zZ X (Oz X.K):=by
 intro value slice aa s σ H x y v u Q I a7 bt h aC;let(p,rfl,xs,i3):=ap.out h;let(i,rfl,ay,z,he,q):=ha.out i3;cases a7;let(t,rfl):=bt;let(a',r,pl,aH):=I.tuple ay;let(j,af,aj,bb,dt,fm):=Qv he;let(w,lU,h4):=r.get aj;have aG:=↑r;have a0:=uG;have fin:gY X aa σ Q w s:=(z,H,I,h4,q);exact subscriptTail_builtinR (x:=w) pl.typeIs slot_tuple_getitem.lookup
  (getItem_tuple (j:=j) (Q:=λr s'=>r=w/\gY X aa σ Q r s') pl () () (by rw[eB,<- aG];exact af) (by simpa using lU) (rfl,fin)) aC
def Lm:zZ X Ik:=by
 intro value slice aa s σ H x y v u Q I a7 bt h aC;let(z,i,c,rfl,rfl,aH,he,q):=h;let(t,rfl):=a7;let(t',rfl):=bt;let(j,af,aj,bb,dt,fm):=Qv he;have aG:↑z.cps.toList=↑z:=by simp[vY]
 rw[aG]at af dt fm;have a0:=uG;exact tail_any (typeIs_str s z t) slot_str_getitem.lookup (getItem_str (c:=c) (by
  have aq:decide (i < -(2 ^ 63:Int))=false:=decide_eq_false ();have aA:decide (i≥2 ^ 63)=false:=decide_eq_false ();rw[aq,aA,aaa]) (by rw[af];simpa using aj) (.str ⟨#[c]⟩,H,I.tok _,(_,rfl),q)) aC
def anQ(a':List Value)(n j:Nat)(u:Value):s9 (·.setIfInBounds j u) {cls:=.type "list",data:=.seq a'.toArray n}={cls:=.type "list",data:=.seq (a'.set j u).toArray n}:=by
 simp[s9]
theorem Inv.lst{p:Addr}(I:Inv X aa σ H s)(h:H p\(.lst xs)) :
  ∃(a':List Value) (n:Nat),cq xs a'/\s.heap.get? p=some {cls:=.type "list",data:=.seq a'.toArray n}/\↑xs<=sizeLine:=by
 let(z,a',n,r,e):=I.a6 p _ h;exact(a',n,r,e,z)
def Inv.ahC{p:Addr}{a' its':List Value}(I:Inv X aa σ H s)(h:H p\(.lst xs))
  (aX:s.heap.get? p=some {cls:=.type "list",data:=.seq a'.toArray n}) (hf:f {cls:=.type "list",data:=.seq a'.toArray n}={cls:=.type "list",data:=.seq its'.toArray gE}) (r:cq ys its') (aH:↑ys<=sizeLine) (t:Nat) :
  Inv X aa σ (upd H p (.lst ys)) {s with heap:=s.heap.update p f,toks:=t}:=by
 have e:(s.heap.update p f).get? p=some {cls:=.type "list",data:=.seq its'.toArray gE}:=by
  rw[sb f aX (by rw[hf] <;> rfl),hf]
 refine I.write (x:=p) (e:=p) (by rw[h];trivial) (.inl rfl) (λb u U q=>(lJ _ _ (cT U)).trans q) (_,e) ?_;exact(aH,its',gE,r,e)
def Ot:V->V->V->au->(au->Prop)->Prop:=λo i v H Q=>ap o λp=>∃xs,ha i λk=>H p\(.lst xs)/\∃j,oG ↑xs k\j/\Q (upd H p (.lst (xs.set j v)))
def RF:S' X Ot:=by
 intro aa s σ H o i v dw hr u Q I aep xb cM h;let(p,rfl,xs,i3):=ap.out h;let(k,rfl,ag,j,aN,q):=ha.out i3;cases aep;let(t,rfl):=xb;let(a',n,r,aX,aH):=I.lst ag;let(af,aj,bb,dt):=XE aN;have aG:=↑r;have a0:=uG;have gF:Inv X aa σ (upd H p (.lst (xs.set j v))) {s with heap:=s.heap.update p (s9 (·.setIfInBounds j u))}:=
  I.ahC ag aX (anQ a' n j u) (r.set cM j) (by rw[aqc];exact aH) s.toks
 by_cases h0:0<=k
 .have az:k.toNat=j:=by
   rw[seqIndex_of h0 dt]at af;exact dZ af
  exact PySem.W.ki_setAt aX h0 () (by rw[eB,<- aG];exact dt) (by rw[az];exact(_,gF,q))
 .have az:(k+(a'.toArray.size:Int)).toNat=j:=by
   rw[seqIndex_neg () bb]at af;rw[eB,<- aG];exact dZ af
  exact PySem.W.ki_setBack aX () (by rw[eB,<- aG];exact bb) () (by rw[az];exact(_,gF,q))
theorem akJ(lo ai:Option Int)(n:Nat):(sliceBounds lo ai none n).1=((gU.dH n 0 lo:Nat):Int)/\(sliceBounds lo ai none n).2.1=((gU.dH n n ai:Nat):Int)/\(sliceBounds lo ai none n).2.2=1:=by
 refine(?_,?_,rfl)
 .cases lo with
  |none=>simp[sliceBounds,gU.dH]
  |some i=>
   simp only[sliceBounds,gU.dH,ah4,(∅:(1:Int)>0),if_true];by_cases h:i<0
   .simp only[h,if_true] <;> omega
   .simp only[h,if_false] <;> omega
 .cases ai with
  |none=>simp[sliceBounds,gU.dH]
  |some i=>
   simp only[sliceBounds,gU.dH,ah4,(∅:(1:Int)>0),if_true];by_cases h:i<0
   .simp only[h,if_true] <;> omega
   .simp only[h,if_false] <;> omega
def acE(a':List Value)(lo ai:Option Int):slicePick a'.toArray lo ai none=((a'.drop (gU.dH ↑a' 0 lo)).take (gU.dH ↑a' ↑a' ai-gU.dH ↑a' 0 lo)).toArray:=by
 let(af,aj,bb):=akJ lo ai a'.toArray.size;unfold slicePick;rw[af,aj,bb];simp only[sliceRange_one,pick_run,eB] <;> rfl
def Kg(K:bg):V->Option Int->Option Int->au->cR->Prop:=λx lo ai H Q=>∃a xs,x=⇑a/\aE K H a xs/\∀p,H p=none->Q ⇑p (upd H p (.lst (n5 xs lo ai)))
def Z3:B8 X (Kg X.K):=by
 intro aa s σ H x v ks kP lo ai bJ Q I a7 aC pl pu h;let(a,xs,rfl,ae,q):=h;cases a7;let(a',r,c4,aH):=I.list ae;have hlen:=↑r;refine("list",_,slot_list_getitem.lookup,c4.isList.typeIs,?_);refine wpAny_getItem_list_slice c4.isList aC pl pu .none (by simp) ?_ (by rw[eB] <;> omega);rw[acE,<- hlen];refine(.ref ↥s,_,I.laid (t':=s.toks) (o:=.lst (n5 xs lo ai)) (λb b0 q=>ea _ q) (b1 _) ?_,rfl,q _ (I.a6.fresh (b1 _)));exact(c9 (UW xs lo ai) aH,_,0,(r.drop (gU.dH ↑xs 0 lo)).take (gU.dH ↑xs ↑xs ai-gU.dH ↑xs 0 lo),hl _ rfl)
noncomputable def l7:V->Bool
 | .b5=>true
 | .bC _=>true
 | .int _=>true
 | .str _=>true
 |_=>false
noncomputable def kJ:V->V->Bool
 | .b5,.b5=>true
 | .bC a,.bC b=>a==b
 | .bC a,.int b=>(if a then 1 else 0)==b
 | .int a,.bC b=>a==(if b then 1 else 0)
 | .int a,.int b=>a==b
 | .str a,.str b=>a==b
 |_,_=>false
theorem Nf{A:Around}{y x:V}(bt:bP y u)(a7:bP x v)(akf:l7 y=true)(mT:l7 x=true):LA A s u v (kJ y x):=by
 cases y with
 |b5=>
  cases bt;cases x with
  |b5=>cases a7;exact Rl _
  |bC b=>cases a7;exact SeqAt.EqAt.none_bool b
  |int b=>let(t,rfl):=a7;exact SeqAt.EqAt.none_int b t
  |str b=>let(t,rfl):=a7;exact SeqAt.EqAt.none_str b t
  |_=>exact absurd (show false=true from mT) gu
 |bC a=>
  cases bt;cases x with
  |b5=>cases a7;exact SeqAt.EqAt.bool_none a
  |bC b=>cases a7;exact SeqAt.EqAt.bool_bool a b
  |int b=>let(t,rfl):=a7;exact SeqAt.EqAt.bool_int a b t
  |str b=>let(t,rfl):=a7;exact SeqAt.EqAt.bool_str a b t
  |_=>exact absurd (show false=true from mT) gu
 |int a=>
  let(t',rfl):=bt;cases x with
  |b5=>cases a7;exact SeqAt.EqAt.int_none a t'
  |bC b=>cases a7;exact SeqAt.EqAt.int_bool a t' b
  |int b=>let(t,rfl):=a7;exact SeqAt.EqAt.int_int a t' b t
  |str b=>let(t,rfl):=a7;exact ago a t' b t
  |_=>exact absurd (show false=true from mT) gu
 |str a=>
  let(t',rfl):=bt;cases x with
  |b5=>cases a7;exact SeqAt.EqAt.str_none a t'
  |bC b=>cases a7;exact SeqAt.EqAt.str_bool a t' b
  |int b=>let(t,rfl):=a7;exact akO a t' b t
  |str b=>let(t,rfl):=a7;exact SeqAt.EqAt.str_str a t' b t
  |_=>exact absurd (show false=true from mT) gu
 |_=>exact absurd (show false=true from akf) gu
noncomputable def lV(x:V)(u:Value):Bool:=match u with
 | .none=>kJ .b5 x
 | .bool b=>kJ (.bC b) x
 | .int i _=>kJ (.int i) x
 | .str z _=>kJ (.str z) x
 |_=>false
theorem V9{x y:V}(r:bP y u)(f:l7 y=true):lV x u=kJ y x:=by
 cases y with
 |b5=>cases r;rfl
 |bC b=>cases r;rfl
 |int i=>let(t,rfl):=r;rfl
 |str z=>let(t,rfl):=r;rfl
 |_=>exact absurd (show false=true from f) gu
theorem yz{x:V}:∀{xs:List V} {us:List Value},cq xs us->xs.all l7=true->us.any (lV x)=xs.any λy=>kJ y x
 |_,_,.nil,_=>rfl
 |y::xs,u::us,.cons r t,f=>by
  rw[aci,jP]at f;rw[zF,zF,V9 r f.1,yz t f.2]
theorem y1{A:Around}{x:V}(a7:bP x v)(mT:l7 x=true):∀{xs:List V} {us:List Value},cq xs us->xs.all l7=true->∀u∈us,LA A s u v (lV x u)
 |_,_,.nil,_=>λu bp=>by cases bp
 |y::xs,u::us,.cons r t,f=>λo_ bp=>by
  rw[aci,jP]at f;rcases e_.mp bp with rfl|bp
  .rw [V9 r f.1];exact Nf r a7 f.1 mT
  .exact y1 a7 mT t f.2 o_ bp
noncomputable def xM(x:V)(xs:List V):Bool:=xs.any λy=>kJ y x
def DH(K:bg)(neg:Bool):fq:=λx y H Q=>∃p xs,y=⇑p/\(aE K H p xs\/de K H p xs)/\l7 x=true/\xs.all l7=true/\Q (.bC (if neg then !xM x xs else xM x xs)) H
def O':hL X (compareOp .In) (DH X.K false):=by
 intro aa s σ H x y v u Q I a7 bt h;let(p,xs,rfl,ay,mT,aT,q):=h;cases bt;rcases ay with ay|ay
 .let(a',r,pl,aH):=I.list ay;refine SeqAt.in_listAt (lV x) pl.isList (λw hw=>y1 a7 mT r aT w (by simpa using hw)) (.bC _,H,I,rfl,?_);rw[show a'.toArray.any (lV x)=a'.any (lV x)by simp,yz r aT];exact q
 .let(a',r,pl,aH):=I.tuple ay;refine SeqAt.in_tupleAt (lV x) pl (λw hw=>y1 a7 mT r aT w (by simpa using hw)) (.bC _,H,I,rfl,?_);rw[show a'.toArray.any (lV x)=a'.any (lV x)by simp,yz r aT];exact q
def P5:hL X (compareOp .NotIn) (DH X.K true):=by
 intro aa s σ H x y v u Q I a7 bt h;let(p,xs,rfl,ay,mT,aT,q):=h;cases bt;rcases ay with ay|ay
 .let(a',r,pl,aH):=I.list ay;refine SeqAt.notIn_listAt (lV x) pl.isList (λw hw=>y1 a7 mT r aT w (by simpa using hw)) (.bC _,H,I,rfl,?_);rw[show a'.toArray.any (lV x)=a'.any (lV x)by simp,yz r aT];exact q
 .let(a',r,pl,aH):=I.tuple ay;refine SeqAt.notIn_tupleAt (lV x) pl (λw hw=>y1 a7 mT r aT w (by simpa using hw)) (.bC _,H,I,rfl,?_);rw[show a'.toArray.any (lV x)=a'.any (lV x)by simp,yz r aT];exact q
def jn:ky X (.builtin "len") (λxs H Q=>om xs λx=>ap x λp=>∃ys,(aE X.K H p ys\/de X.K H p ys)/\Q (.int ↑ys) H):=by
 intro aa s σ H xs us Q I r h;let(ams,rfl,i3):=om.out h;let(p,rfl,ys,ay,q):=ap.out i3;let(u,rfl,a7):=lz r;cases a7;have a0:=uG;rcases ay with ay|ay
 .let(a',d7,pl,aH):=I.list ay;have hlen:=↑d7;exact Calls.call_len_list pl.isList (by simp only[eB] <;> omega) (.int ↑ys,H,I.tok _,(s.toks+1,by rw[eB,hlen]),q)
 .let(a',d7,pl,aH):=I.tuple ay;have hlen:=↑d7;exact len_tuple pl (by simp only[eB] <;> omega) (.int ↑ys,H,I.tok _,(s.toks+1,by rw[eB,hlen]),q)
def ajx:ky X (.builtin "len") (λxs H Q=>∃z,xs=[.str z]/\↑z<=sizeLine/\Q (.int ↑z) H):=by
 intro aa s σ H xs us Q I r h;let(z,rfl,aH,q):=h;let(u,rfl,t,rfl):=lz r;have a0:=uG;exact len_str () (.int ↑z,H,I.tok _,(_,rfl),q)
def Ce(K:bg)(T:String)(x:V)(H:au):Prop:=match x with
 | .str _=>T="str"
 | .int _=>T="int"
 | .ref p=>(T="list"/\∃xs,aE K H p xs)\/(T="tuple"/\∃o,K.lookup p\o/\o.cls=.type "tuple"/\o.dict=none) \/
   (T="dict"/\((∃kvs,H p\(.aY kvs))\/∃kvs,H p\(.gK kvs)))\/(T="set"/\∃S n,H p\(.set S n))
 |_=>False
theorem U4{x:V}(I:Inv X aa σ H s)(r:bP x v)(ty:Ce X.K T x H) :
  s.TypeIs v T/\∀a,v=⇑a->∃b0,s.heap.get? a\b0/\b0.dict=none:=by
 cases x with
 |str z=>
  let(t,rfl):=r;cases(show T="str" from ty);exact(typeIs_str s z t,λ_ e=>nomatch e)
 |int i=>
  let(t,rfl):=r;cases(show T="int" from ty);exact(typeIs_int s i t,λ_ e=>nomatch e)
 | ref p=>
  cases r;rcases ty with⟨rfl,xs,ay⟩|⟨rfl,o,az,aw,hd⟩|⟨rfl,az⟩|⟨rfl,S,n,az⟩
  .let(a',_,pl,_):=I.list ay;refine(pl.isList.typeIs,λa e=>?_);cases e;let(o,n,e,c,hd,_):=pl;exact(o,e,hd)
  .refine ((o,I.eH p o az,aw),λa e=>?_);cases e;exact(o,I.eH _ o az,hd)
  .have z:∃o,s.heap.get? p\o/\o.ExactDict:=by
    rcases az with⟨kvs,az⟩|⟨kvs,az⟩
    .let(_,_,_,_,o,_,_,e,ex,_):=I.a6 p _ az;exact(o,e,ex)
    .let(_,_,_,_,o,_,_,e,ex,_):=I.a6 p _ az;exact(o,e,ex)
   let(o,e,ex):=z;refine((o,e,ex.1),λa aA=>?_);cases aA;exact(o,e,ex.2.1)
  .let(o,_,_,_,e,ex,_):=I.a6 p _ az;refine((o,e,ex.1),λa aA=>?_);cases aA;exact(o,e,ex.2.1)
 |_=>exact j6 ty
def Ih(K:bg)(T:String)(r:V->List V->au->cR->Prop)(to:TE):TE:=λσ H Q=>to σ H λx H1=>Ce K T x H1/\r x [] H1 Q
def NK(K:bg)(T:String)(r:V->List V->au->cR->Prop)(to:TE)(t:fG):TE:=λσ H Q=>to σ H λx H1=>Ce K T x H1/\t σ H1 λxs ar=>r x xs ar Q
variable{o e:Expr}{aU:List Expr}{to:TE}{t:fG}{name:Str}{e2 iI:Pos}{T id:String}{r:V->List V->au->cR->Prop}
def o2(p':PlainAttrs T)(slot:Slot T name id)(Ib:typeOf (.builtin id)=pure (.type "method_descriptor"))(hm:vA X id r)(aX:bu X o to)
  (K':attributeBase o name X.env (eval o X.env)=eval o X.env:=by rfl) (HC:(e2.endLine==iI.line)=true:=by rfl):bu X (.Call (.Attribute o name e2) [] [] iI) (Ih X.K T r to):=by
 intro aa s σ H Q I h;refine wpAny_Call_method0_late K' HC (bE (aX aa s σ H _ I h) λv s1 cN=>?_);let(x,H1,aR,bK,ty,bT):=cN;let(af,aj):=U4 aR bK ty;exact(T,id,p',slot,Ib,af,aj,aaI rfl (PySem.evalArgs_none (hm aa s1 σ H1 x [] v [] Q aR bK .nil bT)))
def gq(p':PlainAttrs T)(slot:Slot T name id)(Ib:typeOf (.builtin id)=pure (.type "method_descriptor"))(hm:vA X id r)(aX:bu X o to)(aV:ho X (e::aU) t)
  (K':attributeBase o name X.env (eval o X.env)=eval o X.env:=by rfl)
  (aoh:((backTo iI (starEach (e::aU) X.env)).all (λx=>!x.1)&&(backToKw iI (keywordEach [] X.env)).all (λx=>x.1.isSome)
   && decide (↑(e::aU)+↑([]:List Keyword)+(if([]:List Keyword).isEmpty then 0 else 1)<30))=true:=by rfl)
  (HC:(e2.endLine==iI.line)=true:=by rfl) (aC:starEach (e::aU) X.env=(p'p false (eval e X.env))::starEach aU X.env:=by rfl) (hplain:(backTo iI (starEach aU X.env)).any (·.1)=false:=by rfl) :
  bu X (.Call (.Attribute o name e2) (e::aU) [] iI) (NK X.K T r to t):=by
 intro aa s σ H Q I h;refine wpAny_Call_method_late K' aoh HC rfl (bE (aX aa s σ H _ I h) λv s1 cN=>?_);let(x,H1,aR,bK,ty,bT):=cN;let(af,aj):=U4 aR bK ty;refine(T,id,p',slot,Ib,af,aj,?_);have iN:=aV iI aa s1 σ H1 _ aR bT;rw[aC]at iN⊢;refine aaI (by show(false||(backTo iI (starEach aU X.env)).any (·.1))=false;rw[hplain] <;> rfl) (ahI ?_);exact bE iN λus s2 ⟨vs,ar,bz,fc,cX⟩=>hm aa s2 σ ar x vs v us Q bz bK fc cX
end
def Ap(X:a3)(id:String)(r:V->List V->au->cR->Prop):Prop:=
 ∀(aa:List (Addr×Obj)) (s:Shared) (σ:St) (H:au) (x:V) (xs:List V) (v:Value) (us:List Value) (Q:cR),Inv X aa σ H s->bP x v->cq xs us->r x xs H Q ->
  wpAny (model X.prog X.w) X.A (call (.builtin id) (v::us)) (gY X aa σ Q) X.dG s
theorem cq.one:∀{x:V} {us:List Value},cq [x] us->∃u,us=[u]/\bP x u
 |_,_,.cons r .nil=>(_,rfl,r)
theorem cq.zero:∀{us:List Value},cq [] us->us=[]
 |_,.nil=>rfl
theorem cq.eraseIdx:∀{xs:List V} {us:List Value} (i:Nat),cq xs us->cq (xs.eraseIdx i) (us.eraseIdx i)
 |_,_,_,.nil=>.nil
 |_,_,0,.cons _ t=>t
 |_,_,i+1,.cons r t=>.cons r (cq.eraseIdx i t)
theorem VA:∀(l:List α) (i:Nat),↑(l.eraseIdx i)<=↑l
 |[],_=>b1 _
 |_::_,0=>xr _
 |_::r,i+1=>Ss (VA r i)
section
variable{X:a3}{aa:List (Addr×Obj)}{σ:St}{H:au}{s:Shared}{l b:Addr}{xs ys zs:List V}
def Inv.z'{a' its':List Value}(I:Inv X aa σ H s)(jI:H l\(.lst xs))
  (e:s.heap.get? l=some {cls:=.type "list",data:=.seq a'.toArray n}) (hf:f a'.toArray=its'.toArray) (aQ:cq ys its') (aH:↑ys<=sizeLine) :
  Inv X aa σ (upd H l (.lst ys)) {s with heap:=s.heap.update l (s9 f),toks:=t' }:=by
 have q:=PySem.IsL.update e f;rw[hf]at q;refine I.write (x:=l) (e:=l) (by rw[jI];exact trivial) (.inl rfl) (λnL u U bp=>(lJ s.heap (s9 f) (cT U)).trans bp) (_,q) ?_;exact(aH,its',_,aQ,q)
def Inv.vP(I:Inv X aa σ H s)(jI:H l\(.lst xs)):↑xs<=sizeLine/\∃(a':List Value) (n:Nat),cq xs a'/\↑xs=↑a'/\s.heap.get? l=some {cls:=.type "list",data:=.seq a'.toArray n}:=by
 let(z,a',n,r,e):=I.a6 l _ jI;exact(z,a',n,r,↑r,e)
def amR(h:n<=sizeLine):aa1 n=false:=by
 unfold aa1;exact decide_eq_false ()
end
section
variable{X:a3}
def Il:V->List V->au->cR->Prop:=λx vs H Q=>ap x λl=>om vs λy=>∃xs,H l\(.lst xs)/\↑xs<sizeLine/\Q .b5 (upd H l (.lst (xs++[y])))
def kW:Ap X "list.append" Il:=by
 intro aa s σ H x vs v us Q I a7 cM h;let(l,rfl,i3):=ap.out h;let(y,rfl,xs,jI,aH,q):=om.out i3;cases a7;let(u,rfl,es):=cM.one;let(z,a',n,r,aG,e):=I.vP jI;refine call_meets kY (_,e,rfl) F.entry_list_append (F.args_list_append_2 _ _) (PySem.list_append l a'.toArray n u (by rw[eB];omega)) (e,?_);refine(.b5,_,I.z' (its':=a'++[u]) jI e (by simp) (r.append (.cons es .nil)) ?_,rfl,q);rw[dx,qf];omega
def JI:V->List V->au->cR->Prop:=λx vs H Q=>∃l b xs zs,x=⇑l/\vs=[⇑b]/\H l\(.lst xs)/\H b\(.lst zs)/\↑xs+↑zs<=sizeLine/\Q .b5 (upd H l (.lst (xs++zs)))
def Do:Ap X "list.extend" JI:=by
 intro aa s σ H x vs v us Q I a7 cM h;let(l,b,xs,zs,rfl,rfl,jI,hM,aH,q):=h;cases a7;let(u,rfl,es):=cM.one;cases es;let(z,a',n,r,aG,e):=I.vP jI;let(ew,FN,b',fc,Jt,aA):=I.vP hM;have hsz:a'.toArray.size+FN.toArray.size<=sizeLine:=by rw[eB,eB];omega
 have agR:¬(!a'.toArray.isEmpty&&aa1 (a'.toArray.size+FN.toArray.size))=true:=by
  rw[amR hsz,al8];exact gu
 refine call_meets yG (_,e,rfl) F.entry_list_extend (F.args_list_extend_2 _ _)
  (AutoSeq1.list_extend_list_list_0 l a'.toArray n b FN.toArray b' agR (by rw[eB];omega) ()) (e,aA,?_)
 refine(.b5,_,I.z' (its':=a'++FN) jI e (by simp) (r.append fc) ?_,rfl,q);rw[dx];omega
def Qa:V->List V->au->cR->Prop:=λx vs H Q=>∃l xs i k y,x=⇑l/\vs=[.int i]/\H l\(.lst xs)/\-(2 ^ 63)<=i/\i<2 ^ 63/\seqIndex? i ↑xs\k/\xs[k]?\y/\Q y (upd H l (.lst (xs.eraseIdx k)))
def abt:Ap X "list.pop" Qa:=by
 intro aa s σ H x vs v us Q I a7 cM h;let(l,xs,i,k,y,rfl,rfl,jI,af,aj,az,aJ,q):=h;cases a7;let(u,rfl,es):=cM.one;let(t,rfl):=es;let(z,a',n,r,aG,e):=I.vP jI;let(w,hw,h4):=r.get aJ;refine call_meets Vv (_,e,rfl) F.entry_list_pop (F.args_list_pop_2 _ _)
  (MeetsSeq.list_pop_at l a'.toArray n i t k w (fitsIndex_both af aj) (by rw[eB,<- aG];exact az) (by rw[<- WR];exact hw) (by rw[eB];omega)) (e,?_)
 refine(y,_,I.z' (its':=a'.eraseIdx k) jI e ?_ (r.eraseIdx k) ?_,h4,q)
 .show a'.toArray.eraseIdxIfInBounds k=(a'.eraseIdx k).toArray;rw[List.eraseIdxIfInBounds_toArray]
 .have:=VA xs k;omega
def Mj:V->List V->au->cR->Prop:=λx vs H Q=>∃l xs,x=⇑l/\vs=[]/\H l\(.lst xs)/\Q .b5 (upd H l (.lst []))
def Zk:Ap X "list.clear" Mj:=by
 intro aa s σ H x vs v us Q I a7 cM h;let(l,xs,rfl,rfl,jI,q):=h;cases a7;have ahh:=cM.zero;subst ahh;let(z,a',n,r,aG,e):=I.vP jI;refine call_meets Ua (_,e,rfl) F.entry_list_clear (F.args_list_clear_1 _) (AutoSeq1.list_clear_list_0 l a'.toArray n (by rw[eB];omega)) (e,?_);exact(.b5,_,I.z' (its':=[]) (ys:=[]) jI e rfl .nil (e0 _),rfl,q)
end
section
variable{fb:Type}[DecidableEq fb]
noncomputable def c5(kvs:List (fb×V))(k:fb):Option V:=(kvs.find? λc1=>decide (c1.1=k)).map (·.2)
noncomputable def d0(kvs:List (fb×V))(k:fb)(v:V):List (fb×V):=
 if(kvs.any λc1=>decide (c1.1=k))=true then kvs.map (λc1=>if c1.1=k then(p'p c1.1 v)else c1)else kvs++[(p'p k v)]
noncomputable def sE(kvs:List (fb×V))(k:fb):List (fb×V):=kvs.filter λc1=>decide (c1.1≠k)
def pD{p:fb×V}{k:fb}(e:p.1=k):c5 (p::r) k\p.2:=by simp[c5,oL,e]
def oZ{p:fb×V}{k:fb}(e:¬p.1=k):c5 (p::r) k=c5 r k:=by simp[c5,oL,e]
theorem zo(k:fb):∀kvs:List (fb×V),(kvs.any λc1=>decide (c1.1=k))=(c5 kvs k).isSome
 |[]=>rfl
 |p::r=>by
  rw[zF];by_cases e:p.1=k
  .simp only[pD e,decide_eq_true e,vb,Option.isSome_some]
  .rw [oZ e,decide_eq_false e,nz];exact zo k r
theorem Wm(k j:fb)(y:V):∀kvs:List (fb×V),c5 (kvs.map λc1=>if c1.1=k then(p'p c1.1 y)else c1) j=(c5 kvs j).map λx=>if j=k then y else x
 |[]=>rfl
 | p::r=>by
  have cp:=Wm k j y r;rw[e1];by_cases h:p.1=k
  .rw[if_pos h];by_cases e:p.1=j
   .rw [pD (p:=(p'p p.1 y)) e,pD e,GW,if_pos (e.symm.trans h)]
   .rw [oZ (p:=(p'p p.1 y)) e,oZ e,cp]
  .rw[if_neg h];by_cases e:p.1=j
   .rw [pD (p:=p) e,pD e,GW,if_neg (λz=>h (e.trans z))]
   .rw [oZ (p:=p) e,oZ e,cp]
theorem X8(k j:fb)(y:V):∀kvs:List (fb×V),c5 kvs k=none->c5 (kvs++[(p'p k y)]) j=if j=k then some y else c5 kvs j
 |[],_=>by
  by_cases e:k=j
  .rw [if_pos e.symm];exact pD (p:=(p'p k y)) e
  .rw [if_neg (λz=>e z.symm)];exact oZ (p:=(p'p k y)) e
 |p::r,a0=>by
  rw[AP];have az:¬p.1=k:=λz=>by rw[pD z]at a0;cases a0
  rw[oZ az]at a0;have cp:=X8 k j y r a0;by_cases e:p.1=j
  .rw [pD e,pD e,if_neg (λz=>az (e.trans z))]
  .rw [oZ e,oZ e,cp]
theorem abN(kvs:List (fb×V))(k j:fb)(y:V):c5 (d0 kvs k y) j=if j=k then some y else c5 kvs j:=by
 unfold d0;by_cases a:(kvs.any λc1=>decide (c1.1=k))=true
 .rw[if_pos a,Wm];rw[zo]at a;by_cases e:j=k
  .let(x,ae):=aoy.mp a;rw[if_pos e,e,ae,GW,if_pos rfl]
  .rw[if_neg e];cases c5 kvs j with
   |none=>rfl
   |some x=>rw[GW,if_neg e]
 .rw[if_neg a];refine X8 k j y kvs ?_;rw[zo]at a;cases q:c5 kvs k with
  |none=>rfl
  |some x=>rw[q]at a;exact(a rfl).elim
def PO(kvs:List (fb×V))(k:fb)(v:V):↑(d0 kvs k v)<=↑kvs+1:=by
 unfold d0;split
 .rw [aO];omega
 .rw [dx,ih,yP];omega
def ala{k:fb}(v:V)(h:c5 kvs k=none):d0 kvs k v=kvs++[(p'p k v)]:=by
 unfold d0;rw[zo,h];exact if_neg ∅
theorem iV.MN(r:iV o u):o.isSome=u.isSome:=by
 cases o with
 |none=>cases u with
  |none=>rfl
  |some _=>exact(show False from r).elim
 |some _=>cases u with
  |none=>exact(show False from r).elim
  |some _=>rfl
theorem e7.val(r:e7 kvs vs)(k:fb):iV (c5 kvs k) (valueAt vs k):=by
 unfold e7 at r
 induction r with
 |nil=>exact hI
 | @cons p q ps qs h t cp=>
  let(af,aj):=h;by_cases e:p.1=k
  .have br:q.1=k:=af.symm.trans e;have b:valueAt (q::qs) k\q.2:=by simp[valueAt,oL,br]
   rw[pD e,b];exact aj
  .have br:¬q.1=k:=λz=>e (af.trans z)
   have b:valueAt (q::qs) k=valueAt qs k:=by simp[valueAt,oL,br]
   rw[oZ e,b];exact cp
theorem e7.any(r:e7 kvs vs)(k:fb):(kvs.any λc1=>decide (c1.1=k))=vs.any λc1=>decide (c1.1=k):=by
 unfold e7 at r
 induction r with
 |nil=>rfl
 |cons h t cp=>rw[zF,zF,cp,h.1]
theorem e7.MB(r:e7 kvs vs)(k:fb)(bt:bP y u) :
  e7 (kvs.map λc1=>if c1.1=k then(p'p c1.1 y)else c1) (vs.map λc1=>if c1.1=k then(p'p c1.1 u)else c1):=by
 unfold e7 at r⊢
 induction r with
 |nil=>exact .nil
 | @cons p q ps qs h t cp=>
  rw[e1,e1];refine .cons ?_ cp;let(af,aj):=h;by_cases e:p.1=k
  .rw [if_pos e,if_pos (af.symm.trans e)];exact(af,bt)
  .rw [if_neg e,if_neg (λz=>e (af.trans z))];exact(af,aj)
def e7.put(r:e7 kvs vs)(k:fb)(bt:bP y u):e7 (d0 kvs k y) (stored vs k u):=by
 unfold d0 stored;rw[r.any k];by_cases e:(vs.any λc1=>decide (c1.1=k))=true
 .rw [if_pos e,if_pos e];exact r.MB k bt
 .rw [if_neg e,if_neg e];exact Yc r (rfl,bt)
theorem e7.drop(r:e7 kvs vs)(k:fb):e7 (sE kvs k) (without vs k):=by
 unfold e7 at r⊢;unfold sE without
 induction r with
 |nil=>exact .nil
 | @cons p q ps qs h t cp=>
  let(af,aj):=h;rw[ahT,ahT];by_cases e:p.1=k
  .have a:¬decide (p.1≠k)=true:=by simp[e]
   have b:¬decide (q.1≠k)=true:=by simp[af.symm.trans e]
   rw[if_neg a,if_neg b];exact cp
  .have br:¬q.1=k:=λz=>e (af.trans z)
   have a:decide (p.1≠k)=true:=by simp[e]
   have b:decide (q.1≠k)=true:=by simp[br]
   rw[if_pos a,if_pos b];exact .cons (af,aj) cp
def e7.length(r:e7 kvs vs):↑kvs=↑vs:=Ic r
def aqy(kvs:List (fb×V))(k:fb):↑(sE kvs k)<=↑kvs:=y6 _ _
end
theorem u9{w:World}{k:Key}(r:bP (df k) u):(hK P w).is k u=true:=by
 cases k with
 |inl i=>let(t,e):=(show ∃t,u=mO i t from r);subst e;exact acw P w i t
 |inr x=>let(t,e):=(show ∃t,u=rh x t from r);subst e;exact amK P w x t
theorem QH{w:World}:∀{b2:List Key} {us:List Value},cq (b2.map df) us->ItemsAre (hK P w) b2 us
 |[],_,r=>by rw[p_]at r;cases r;exact .nil
 |k::b2,_,r=>by
  rw[e1]at r;cases r with
  |cons h t=>exact .cons (u9 h) (QH t)
abbrev KT(H:au):List (List Key×V)->List (List Key×Addr×Value)->Prop:=Paired λp q=>p.1=q.1/\H q.2.1\(.tup (p.1.map df))/\bP p.2 q.2.2
theorem KT.val(r:KT H kvs xs)(k:List Key):iV (c5 kvs k) ((atKey xs k).map (·.2)):=by
 induction r with
 |nil=>exact hI
 | @cons p q ps qs h t cp=>
  let(af,_,aj):=h;by_cases e:p.1=k
  .have br:q.1=k:=af.symm.trans e;have b:atKey (q::qs) k\q.2:=by simp[atKey,oL,br]
   rw[pD e,b];exact aj
  .have br:¬q.1=k:=λz=>e (af.trans z)
   have b:atKey (q::qs) k=atKey qs k:=by simp[atKey,oL,br]
   rw[oZ e,b];exact cp
theorem KT.MB(r:KT H kvs xs)(k:List Key)(bt:bP y u) :
  KT H (kvs.map λc1=>if c1.1=k then(p'p c1.1 y)else c1) (xs.map (putAt k u)):=by
 induction r with
 |nil=>exact .nil
 | @cons p q ps qs h t cp=>
  rw[e1,e1];refine .cons ?_ cp;let(af,aj,bb):=h;unfold putAt;by_cases e:p.1=k
  .rw [if_pos e,if_pos (af.symm.trans e)];exact(af,aj,bt)
  .rw [if_neg e,if_neg (λz=>e (af.trans z))];exact(af,aj,bb)
def KT.put(r:KT H kvs xs)(k:List Key)(U:H b\(.tup (k.map df)))(bt:bP y u) :
  KT H (d0 kvs k y) (storedH xs k b u):=by
 have e:(kvs.any λc1=>decide (c1.1=k))=(atKey xs k).isSome:=by
  rw[zo,(r.val k).MN,adH]
 unfold d0 storedH;rw[e];by_cases q:(atKey xs k).isSome=true
 .rw [if_pos q,if_pos q];exact r.MB k bt
 .rw [if_neg q,if_neg q];exact Yc r (rfl,U,bt)
def KT.keeps(r:KT H kvs xs)(c4:∀b ys,H b\(.tup ys)->H' b\(.tup ys)):KT H' kvs xs:=
 Paired.tu r λ_ _ z=>(z.1,c4 _ _ z.2.1,z.2.2)
section
variable{P:Program}{w:World}{H:au}{h:Heap}{a:Addr}
def BT(ok:eW P w H h)(e:lX H a u):ce P w H h a u:=e.ok ok
def v'(ok:eW P w H h)(e:lX H a (.aY kvs)):↑kvs<=sizeLine/\(a==sysModules)=false/\∃vs,e7 kvs vs/\h.DictOf (hK P w) a vs:=
 show ce P w H h a (.aY kvs)from BT ok e
def oH(ok:eW P w H h)(e:H a\(.aY kvs)):↑kvs<=sizeLine/\(a==sysModules)=false/\∃vs,e7 kvs vs/\h.DictOf (hK P w) a vs:=v' ok (.inl e)
def Aj{b2:List Key}(ok:eW P w H h)(e:H a\(.tup (b2.map df))):(tupleKind (hK P w)).is h b2 a:=by
 let(_,a',r,o,af,aj,n,bb):=(show ce P w H h a (.tup (b2.map df))from ok a _ e);exact(o,a'.toArray,n,af,aj,bb,by simpa using QH r)
theorem AA(ok:eW P w H h)(e:lX H a (.gK kvs)):↑kvs<=sizeLine/\(a==sysModules)=false /\
  ∃xs,KT H kvs xs/\h.DictOfH (tupleKind (hK P w)) a xs:=by
 let(z,y,xs,r,o,aU,ep,af,aj,bb,dt,fm):=(show ce P w H h a (.gK kvs)from BT ok e);refine(z,y,xs,r,o,aU,ep,af,aj,bb,dt,λx ae=>?_,fm);have all:∀{l:List (List Key×V)} {m:List (List Key×Addr×Value)},KT H l m->∀x∈m,(tupleKind (hK P w)).is h x.1 x.2.1:=by
  intro l m q
  induction q with
  |nil=>intro x ae;exact nomatch ae
  | @cons p q ps qs ay t cp=>
   intro x ae;rcases e_.mp ae with e|ae
   .subst e;exact Aj ok (by rw[<- ay.1];exact ay.2.1)
   .exact cp x ae
 exact all r x ae
def Wl(ok:eW P w H h)(e:H a\(.gK kvs)):↑kvs<=sizeLine/\(a==sysModules)=false /\
  ∃xs,KT H kvs xs/\h.DictOfH (tupleKind (hK P w)) a xs:=AA ok (.inl e)
end
def fj(H:au)(a:Addr)(y:V)(r:Option V):Prop:=
 (∃kvs k,lX H a (.aY kvs)/\y=df k/\r=c5 kvs k)\/∃kvs k b,lX H a (.gK kvs)/\y=⇑b/\H b\(.tup (k.map df))/\r=c5 kvs k
def h6(H:au)(a:Addr)(y v:V)(H':au):Prop:=
 (∃kvs k,H a\(.aY kvs)/\y=df k/\↑kvs<sizeLine/\H'=upd H a (.aY (d0 kvs k v))) \/
 ∃kvs k b,H a\(.gK kvs)/\y=⇑b/\H b\(.tup (k.map df))/\↑kvs<sizeLine/\H'=upd H a (.gK (d0 kvs k v))
theorem fj.k{k:Key}(e:H a\(.aY kvs)):fj H a (df k) (c5 kvs k):=.inl (kvs,k,.inl e,rfl,rfl)
theorem h6.k{k:Key}(e:H a\(.aY kvs))(aG:↑kvs<sizeLine):h6 H a (df k) v (upd H a (.aY (d0 kvs k v))):=.inl (kvs,k,e,rfl,aG,rfl)
def h6.t{k:List Key}(e:H a\(.gK kvs))(bF:H b\(.tup (k.map df)))(aG:↑kvs<sizeLine) :
  h6 H a ⇑b v (upd H a (.gK (d0 kvs k v))):=.inr (kvs,k,b,e,rfl,bF,aG,rfl)
section
variable{X:a3}{aa:List (Addr×Obj)}{σ:St}{H:au}{s:Shared}{a:Addr}{y v:V}{u r:Value}{o:Option V}{A:Around}{E:Value->Shared->Prop}
def Inv.big(I:Inv X aa σ H s):sysModules<↥s:=by
 have h:mainGlobals<↥s:=(I.mod.glob.keeps I.c6).lt;exact aa4 ∅ h
def R'(bp:A.units+1<cLine)(I:Inv X aa σ H s)(g:fj H a y (some v))(bt:bP y u)(h:∀ei s',Inv X aa σ H s'->bP v ei->Q ei s') :
  wpAny (model X.prog X.w) A (getItem ⇑a u) Q E s:=by
 rcases g with⟨kvs,k,e,kC,l⟩|⟨kvs,k,b,e,kC,bF,l⟩
 .subst kC;let(z,hd,vs,rel,cQ):=v' I.a6 e;let(ei,hw,h4):=iV.some_of (v:=v) (o:=valueAt vs k) (by rw[l];exact rel.val k);exact wpAny_getItem_of (u9 bt) cQ.mapOf hw (h ei _ (I.tok _) h4)
 .subst kC;cases(show u=dK b from bt);let(z,hd,xs,rel,cQ):=AA I.a6 e;let(ei,hw,h4):=iV.some_of (v:=v) (o:=(atKey xs k).map (·.2)) (by rw[l];exact rel.val k);let(p,ag,g4):=CI.mp hw;refine wpAny_getItem_heap (tupleKind_room_in1 bp) (Aj I.a6 bF) cQ ag ?_;rw[g4];exact h ei _ (I.tok _) h4
def ajm(bp:A.units+1<cLine)(I:Inv X aa σ H s)(g:fj H a y o)(bt:bP y u)(h:∀s',Inv X aa σ H s'->Q (.bool (!o.isSome)) s') :
  wpAny (model X.prog X.w) A (compareOp .NotIn u ⇑a) Q E s:=by
 rcases g with⟨kvs,k,e,kC,l⟩|⟨kvs,k,b,e,kC,bF,l⟩
 .subst kC;let(z,hd,vs,rel,cQ):=v' I.a6 e;refine wpAny_notIn_of (u9 bt) hd cQ.mapOf ?_;rw[<- (rel.val k).MN,<- l];exact h _ (I.tok _)
 .subst kC;cases(show u=dK b from bt);let(z,hd,xs,rel,cQ):=AA I.a6 e;refine wpAny_notIn_heap (tupleKind_room_in1 bp) (Aj I.a6 bF) hd cQ ?_;have q:=(rel.val k).MN;rw[adH]at q;rw[<- q,<- l];exact h _ (I.tok _)
def AD(I:Inv X aa σ H s)(fV:n8 (H a))(aC:w5 a s.heap h')(he:∃q,h'.get? a\q)(new:ce X.prog X.w (upd H a b0) h' a b0) :
  Inv X aa σ (upd H a b0) {s with heap:=h',toks:=t' }:=
 I.write (x:=a) (e:=a) fV (.inl rfl) (λb q U z=>(aC.2 b U).trans z) he new
def BR{w:World}(z:↑kvs<=sizeLine)(hd:(a==sysModules)=false)(rel:e7 kvs vs)(cQ:h'.DictOf (hK P w) a vs) :
  ce P w H' h' a (.aY kvs):=(z,hd,vs,rel,cQ)
def KQ(bp:A.units+1<cLine)(I:Inv X aa σ H s)(g:h6 H a y v H')(bt:bP y u)(cM:bP v r)(h:∀s',Inv X aa σ H' s'->Q ⟨⟩ s') :
  wpAny (model X.prog X.w) A (setItem ⇑a u r) Q E s:=by
 rcases g with⟨kvs,k,e,kC,l,Bw⟩|⟨kvs,k,b,e,kC,bF,l,Bw⟩
 .subst kC Bw;let(z,hd,vs,rel,cQ):=oH I.a6 e;have aH:↑vs<=sizeLine:=by rw[<- ↑rel];exact z
  have aG:↑(d0 kvs k v)<=sizeLine:=by have:=PO kvs k v;omega
  refine wpAny_setItem_pairs (hsz:=aH) (u9 bt) cQ λh' lx aC=>h _ ?_
  have he:∃q,h'.get? a\q:=let⟨q,_,_,ay,_⟩:=lx;(q,ay);exact AD I (by rw[e];exact hI) aC he (BR aG hd (rel.put k cM) lx)
 .subst kC Bw;cases(show u=dK b from bt);let(z,hd,xs,rel,cQ):=Wl I.a6 e;have aH:↑xs<=sizeLine:=by rw[<- Ic rel];exact z
  have aG:↑(d0 kvs k v)<=sizeLine:=by have:=PO kvs k v;omega
  refine wpAny_setItem_heap (hsz:=aH) (tupleKind_room_in1 bp) (Aj I.a6 bF) cQ λh' lx aC=>h _ ?_
  let(q,aU,ep,ay,aj,bb,dt,_,fm):=lx;refine AD I (by rw[e];exact hI) aC (q,ay) (aG,hd,_,(rel.put k bF cM).keeps λc ys lp=>?_,q,aU,ep,ay,aj,bb,dt,fm);rw[ax (bI lp e (λz=>nomatch z))];exact lp
end
section
variable{X:a3}{aa:List (Addr×Obj)}{σ:St}{H:au}{s:Shared}{a:Addr}{kvs:List (Key×V)}{k:Key}{u:Value}{A:Around}{E:Value->Shared->Prop}
theorem ah9(I:Inv X aa σ H s)(e:H a\(.aY kvs))(bt:bP (df k) u)(l:c5 kvs k\v)(hm:more=[]\/∃x,more=[x])
  (h:∀ei s',Inv X aa σ (upd H a (.aY (sE kvs k))) s'->bP v ei->Q ei s'):wpAny (model X.prog X.w) A (call (.builtin "dict.pop") (⇑a::u::more)) Q E s:=by
 let(z,hd,vs,rel,cQ):=oH I.a6 e;let(ei,hw,h4):=iV.some_of (v:=v) (o:=valueAt vs k) (by rw[<- l];exact rel.val k);have ag:(keyPart u).isSome=true:=by
  cases k with
  |inl i=>let(t,q):=(show ∃t,u=mO i t from bt);subst q;rfl
  |inr x=>let(t,q):=(show ∃t,u=rh x t from bt);subst q;rfl
 have aV:argsOk "dict.pop" (⇑a::u::more,[]):=by
  rcases hm with q|⟨x,q⟩
  .subst q;exact PySem.F.args_dict_pop_2 _ _
  .subst q;exact adN _ _ _
 refine call_meetsIn Y_ cQ.typeIs aqz aV (meets_dict_pop_there (hK X.prog X.w) a (u9 bt) more hm ag)
  (vs,ei,cQ,by rw[<- ↑rel];exact z,hw,λh' lx aC=>h ei _ ?_ h4)
 have he:∃q,h'.get? a\q:=let⟨q,_,_,ay,_⟩:=lx;(q,ay);exact AD I (by rw[e];exact hI) aC he (BR (c9 (aqy kvs k) z) hd (rel.drop k) lx)
theorem ad'(I:Inv X aa σ H s)(e:H a\(.aY kvs))(bt:bP (df k) u)(l:c5 kvs k=none)(h:∀s',Inv X aa σ H s'->Q r s') :
  wpAny (model X.prog X.w) A (call (.builtin "dict.pop") [⇑a,u,r]) Q E s:=by
 let(z,hd,vs,rel,cQ):=oH I.a6 e;have a0:valueAt vs k=none:=iV.none_of (by rw[<- l];exact rel.val k);have ag:(keyPart u).isSome=true:=by
  cases k with
  |inl i=>let(t,q):=(show ∃t,u=mO i t from bt);subst q;rfl
  |inr x=>let(t,q):=(show ∃t,u=rh x t from bt);subst q;rfl
 exact call_meetsIn Y_ cQ.typeIs aqz (adN _ _ _) (meets_dict_pop_default (hK X.prog X.w) a (u9 bt) hd ag r) (vs,cQ,a0,h _ (I.tok _))
def ahe(I:Inv X aa σ H s)(e:H a\(.aY kvs))(h:∀s',Inv X aa σ (upd H a (.aY [])) s'->Q .none s'):wpAny (model X.prog X.w) A (call (.builtin "dict.clear") [⇑a]) Q E s:=by
 let(z,hd,vs,rel,cQ):=oH I.a6 e;refine call_meetsIn Xd cQ.typeIs PySem.F.entry_dict_clear (PySem.F.args_dict_clear_1 _) (meets_dict_clear (hK X.prog X.w) a) (vs,cQ,by rw[<- ↑rel];exact z,λh' lx aC=>h _ ?_);have he:∃q,h'.get? a\q:=let⟨q,_,_,ay,_⟩:=lx;(q,ay);exact AD (t':=s.toks) I (by rw[e];exact hI) aC he (BR (e0 _) hd .nil lx)
end
def Ja(i:Expr):Prop:=∀dw hr,subscripted i false dw hr=operate [dw,hr] (getItem dw hr)
theorem Q5{prog:Program}{w:World}{A:Around}{E:Value->Shared->Prop}{s:Shared}{env:Env}{value slice:Expr}{pos:Pos}{T id:String}{Q:Value->Shared->Prop}
  (aG:typeLookup (.type T) "__getitem__"=pure (some (.builtin id))) (aC:Ja slice)
  (h:wpAny (model prog w) A (eval value env) (λo dM=>wpAny (model prog w) A (eval slice env) (λi ek=>ek.TypeIs o T/\wpAny (model prog w) A (getItem o i) Q E ek) E dM) E s) :
  wpAny (model prog w) A (eval (.Subscript value slice pos) env) Q E s:=by
 refine Subscript_ (wpAny_mono h (λo dM h₁=>wpAny_mono h₁ (λi ek AG=>?_) λ_ _ x=>x) λ_ _ x=>x);let(ec,AG):=AG;unfold subscriptTail;refine wpAny_bind ?_;rw[getitemInPython_of_ne ec.not_modules];refine wpAny_bind (wpAny_specialOf ec aG ?_);have fin:wpAny (model prog w) A (subscripted slice false o i) (λr mi=>wpAny (model prog w) A (letTemporaryGo value o r >>= λ_=>pure r) Q E mi) E ek:=by
  rw[aC o i];exact wpAny_operating (wpAny_mono AG (λr mi FZ=>wpAny_bind (wpAny_letTemporaryGo (wpAny_pure FZ))) λ_ _ x=>x)
 first
  |exact wpAny_pure (wpAny_bind fin)
  |exact wpAny_bind (wpAny_pure (wpAny_bind fin))
  |exact wpAny_bind fin
def ah6(I:Inv X aa σ H s)(g:fj H a y o):s.TypeIs ⇑a "dict":=by
 rcases g with⟨kvs,k,e,_,_⟩|⟨kvs,k,b,e,_,_,_⟩
 .let(_,_,vs,_,cQ):=v' I.a6 e;exact cQ.typeIs
 .let(_,_,xs,_,cQ):=AA I.a6 e;exact cQ.typeIs
def Nj(fy ty:TE):TE:=λσ H Q=>fy σ H λx H1=>ty σ H1 λy ar=>ap x λa=>∃v,fj ar a y (some v)/\Q v ar
def Jy(ty fy:TE):TE:=λσ H Q=>ty σ H λy H1=>fy σ H1 λx ar=>ap x λa=>∃o,fj ar a y o/\Q (.bC (!o.isSome)) ar
def H9(fy ty eS:TE):d6:=λD σ H=>eS σ H λv H1=>fy σ H1 λx ar=>ty σ ar λy ba=>ap x λa=>∃cm,h6 ba a y v cm/\D.cc σ cm
def aaP(fy ty eS:TE)(i8:V->V->au->cR->Prop):d6:=λD σ H=>fy σ H λx H1=>ty σ H1 λy ar=>∃a v,x=⇑a/\fj ar a y (some v) /\
 eS σ ar λiX ba=>i8 v iX ba λz cm=>∃cG,h6 cm a y z cG/\D.cc σ cG
section
variable{X:a3}{o i e value:Expr}{pos pos' xt:Pos}{fy ty eS:TE}
def iM(bp:X.A.units+1<cLine)(aX:bu X o fy)(ai:bu X i ty)(aC:Ja i):bu X (.Subscript o i pos) (Nj fy ty):=by
 intro aa s σ H Q I h;refine Q5 aiM.lookup aC (bE (aX aa s σ H _ I h) λu s1 cn=>eu cn λx H1 aR a7 bT=>bE (ai aa s1 σ H1 _ aR bT) λhr s2 cn=>eu cn λy ar bz bt hV=>?_);let(a,ex,v,g,cX):=ap.out hV;subst ex;obtain rfl:u=dK a:=a7;exact(ah6 bz g,R' bp bz g bt λei s3 d4 h4=>(v,ar,d4,h4,cX))
def HW(bp:X.A.units+1<cLine)(ai:bu X i ty)(aX:bu X o fy):Xb X .NotIn i o (Jy ty fy):=by
 intro aa s σ H Q I h;refine bE (ai aa s σ H _ I h) λhr s1 cn=>eu cn λy H1 aR bt bT=>bE (aX aa s1 σ H1 _ aR bT) λu s2 cn=>eu cn λx ar bz a7 hV=>?_
 let(a,ex,dw,g,cX):=ap.out hV;subst ex;obtain rfl:u=dK a:=a7;exact ajm bp bz g bt λs3 d4=>(.bC (!dw.isSome),ar,d4,rfl,cX)
def mW(bp:X.A.units+1<cLine)(aX:bu X o fy)(ai:bu X i ty)(aQ:bu X value eS)(aC:swapsWith value (some (.Subscript o i pos')) pos.line X.env=pure false) :
  fX X (.Assign [.Subscript o i pos'] value pos) (H9 fy ty eS):=by
 intro aa s σ H D I h;refine wpAny_Assign_Subscript (bE (aQ aa s σ H _ I h) λr s1 cn=>eu cn λv H1 aR cM bT=>bE (aX aa s1 σ H1 _ aR bT) λu s2 cn=>eu cn λx ar bz a7 cX=>bE (ai aa s2 σ ar _ bz cX) λhr s3 cn=>eu cn λy ba d4 bt hV=>?_) aC;let(a,ex,cm,g,fL):=ap.out hV;subst ex;obtain rfl:u=dK a:=a7;exact KQ bp d4 g bt cM λs4 gc=>(σ,cm,gc,fL)
def RX{i8:V->V->au->cR->Prop}(bp:X.A.units+1<cLine)(aX:bu X o fy)(ai:bu X i ty)(aQ:bu X value eS)(O0:CH X op i8)
  (aV:∀dw hr new,augStore i dw hr new=(do holding [new,dw,hr] (setItem dw hr new);release [new,dw,hr] [];pure .next)):fX X (.AugAssign (.Subscript o i xt) op value pos) (aaP fy ty eS i8):=by
 intro aa s σ H D I h;refine wpAny_AugAssign_SubscriptAny (bE (aX aa s σ H _ I h) λu s1 cn=>eu cn λx H1 aR a7 bT=>bE (ai aa s1 σ H1 _ aR bT) λhr s2 cN=>?_) aV;let(y,ar,bz,bt,a,v,ex,g,cX):=cN;subst ex;obtain rfl:u=dK a:=a7;refine R' bp bz g bt λei s3 d4 h4=>bE (aQ aa s3 σ ar _ d4 cX) λef s4 cn=>eu cn λiX ba gc akI fL=>bE (O0 aa s4 σ ba v iX ei ef _ gc h4 akI fL) λik s5 cN=>?_
 let(z,cm,u7,z3,cG,FG,um):=cN;exact KQ bp u7 FG bt z3 λf9 mU=>(σ,cG,mU,um)
end
def QB{w:World}(h:Heap)(U:sysModules<h.objs.size):ce P w H (h.push {cls:=.type "dict",data:=.dict #[]}) h.objs.size (.aY []):=
 (e0 _,beq_eq_false_iff_ne.mpr (cT (gs U)),[],.nil,Heap.DictOf.new h)
def aeC{w:World}(h:Heap)(U:sysModules<h.objs.size):ce P w H (h.push {cls:=.type "dict",data:=.dict #[]}) h.objs.size (.gK []):=
 (e0 _,beq_eq_false_iff_ne.mpr (cT (gs U)),[],.nil,_,#[],0,hl _ rfl,(rfl,rfl,rfl),rfl,rfl,Hu)
def PN:TE:=λ_ H Q=>∀p,H p=none->Q ⇑p (upd H p (.aY []))
def sK:TE:=λ_ H Q=>∀p,H p=none->Q ⇑p (upd H p (.gK []))
section
variable{X:a3}{pos:Pos}
def sf:bu X (.Dict [] [] pos) PN:=λaa s σ H Q I h=>
 wpAny_Dict_empty (.ref ↥s,_,I.laid (a:=↥s) (o:=.aY []) (t':=s.toks) (λ_ _ q=>ea _ q) (b1 _) (QB s.heap I.big),rfl,h _ (I.a6.fresh (b1 _)))
def ahY:bu X (.Dict [] [] pos) sK:=λaa s σ H Q I h=>
 wpAny_Dict_empty (.ref ↥s,_,I.laid (a:=↥s) (o:=.gK []) (t':=s.toks) (λ_ _ q=>ea _ q) (b1 _) (aeC s.heap I.big),rfl,h _ (I.a6.fresh (b1 _)))
end
def E2:List (TE×TE)->St->au->(List (V×V)->au->Prop)->Prop
 |[],_,H,Q=>Q [] H
 |(tk,eS)::r,σ,H,Q=>tk σ H λx H1=>eS σ H1 λy ar=>E2 r σ ar λps ba=>Q ((p'p x y)::ps) ba
abbrev abE:List (V×V)->List (Value×Value)->Prop:=Paired λp q=>bP p.1 q.1/\bP p.2 q.2
def DP(X:a3)(pos:Pos)(keys:List (Option Expr))(values:List Expr)(uS:List (TE×TE)):Prop:=
 ∀(aa:List (Addr×Obj)) (s:Shared) (σ:St) (H:au) (Q:List (V×V)->au->Prop),Inv X aa σ H s->E2 uS σ H Q ->
  wpAny (model X.prog X.w) X.A (evalPairs (pairTrees keys values X.env pos)) (λvs s'=>∃ps H',Inv X aa σ H' s'/\abE ps vs/\Q ps H') X.dG s
def ai2:DP X pos [] [] []:=λaa s σ H Q I h=>pairTrees_nil_walk ([],H,I,.nil,h)
def Z9{k v:Expr}{b2:List (Option Expr)}(az:bu X k tk)(aQ:bu X v eS)(ao:DP X pos b2 vs uS) :
  DP X pos (some k::b2) (v::vs) ((p'p tk eS)::uS):=λaa s σ H Q I h=>
 pairTrees_cons_walk (bE (az aa s σ H _ I h) λu s1 cn=>eu cn λx H1 aR a7 bT=>bE (aQ aa s1 σ H1 _ aR bT) λef s2 ⟨y,ar,bz,bt,cX⟩=>
  bE (ao aa s2 σ ar _ bz cX) λws s3 ⟨ps,ba,d4,rel,fL⟩=>((p'p x y)::ps,ba,d4,.cons (a7,bt) rel,fL))
noncomputable def uf(kvs more:List (Key×V)):List (Key×V):=more.foldl (λacc c1=>d0 acc c1.1 c1.2) kvs
theorem e7.merge:∀{more:List (Key×V)} {rs:List (Key×Value)} {kvs:List (Key×V)} {vs:List (Key×Value)},e7 more rs->e7 kvs vs->e7 (uf kvs more) (merged vs rs):=by
 intro more rs kvs vs r;unfold e7 at r
 induction r generalizing kvs vs with
 |nil=>intro q;exact q
 | @cons p q ps qs h t cp=>
  intro mQ;have e:e7 (d0 kvs p.1 p.2) (stored vs q.1 q.2):=by
   have:=mQ.put p.1 h.2;rw[<- h.1];exact this
  exact cp e
theorem Vl:∀(more kvs:List (Key×V)),↑(uf kvs more)<=↑kvs+↑more
 |[],kvs=>by show ↑kvs<=↑kvs+0;omega
 |p::r,kvs=>by
  have af:=Vl r (d0 kvs p.1 p.2);have aj:=PO kvs p.1 p.2;show ↑(uf (d0 kvs p.1 p.2) r)<=_;rw[ih];omega
theorem Sq{w:World}:∀{kvs:List (Key×V)} {ws:List (Value×Value)},abE (kvs.map λc1=>(p'p (df c1.1) c1.2)) ws->∃rs,Carries (hK P w) ws rs/\e7 kvs rs
 |[],_,r=>by rw[p_]at r;cases r;exact([],hI,.nil)
 | p::kvs,_,r=>by
  rw[e1]at r;cases r with
  | @cons a b as bs h t=>
   let(rs,c,q):=Sq (P:=P) (w:=w) t;let(hj,gn):=b;exact((p'p p.1 gn)::rs,(u9 h.1,rfl,c),.cons (rfl,h.2) q)
def Lu(uS:List (TE×TE)):TE:=λσ H Q=>∀p,H p=none->E2 uS σ (upd H p (.aY [])) λps ar=>ar p\(.aY [])/\∃kvs:List (Key×V),ps=kvs.map (λc1=>(p'p (df c1.1) c1.2))/\↑kvs<=15/\Q ⇑p (upd ar p (.aY (uf [] kvs)))
def ant{keys:List (Option Expr)}(h:DP X pos keys values uS)(rn:keys.all (·.isSome)=true)(aG:↑keys=↑values)(h0:keys≠[])
  (ail:↑keys<=15):bu X (.Dict keys values pos) (Lu uS):=by
 intro aa s σ H Q I q;have a0:=I.a6.fresh (b1 ↥s);have aR:=I.laid (a:=↥s) (o:=.aY []) (h':=s.heap.push {cls:=.type "dict",data:=.dict #[]}) (t':=s.toks) (λ_ _ q=>ea _ q) (b1 _) (QB s.heap I.big);refine wpAny_Dict_walk (knd:=hK X.prog X.w) rn aG h0 ail (bE (h aa _ σ _ _ aR (q _ a0)) λws s2 cN=>?_);let(ps,ar,bz,rel,e,kvs,ep,lk,cX):=cN;subst ep;let(rs,c,JN):=Sq (P:=X.prog) (w:=X.w) rel;let(z,hd,aj9,mQ,cQ):=oH bz.a6 e;cases mQ;refine(rs,c,cQ,λh' lx aC=>(.ref ↥s,_,?_,rfl,cX));have aH:↑(uf [] kvs)<=sizeLine:=by
  have af:=Vl kvs [];rw[yP]at af;rw[sizeLine_eq];omega
 have he:∃q,h'.get? ↥s\q:=let⟨q,_,_,ay,_⟩:=lx;(q,ay);exact AD bz (by rw[e];exact hI) aC he (BR aH hd (JN.merge .nil) lx)
structure M2(X:a3)(o:Expr)(m:Str)(e2:Pos)(e f:Expr)(iI:Pos):Prop where
 base:attributeBase o m X.env (eval o X.env)=eval o X.env
 abf:((backTo iI (starEach [e,f] X.env)).all (λx=>!x.1)&&(backToKw iI (keywordEach [] X.env)).all (λx=>x.1.isSome)
  && decide (↑([e,f]:List Expr)+↑([]:List Keyword)+(if([]:List Keyword).isEmpty then 0 else 1)<30))=true
 line:(e2.endLine==iI.line)=true
 trees:backTo iI (starEach [e,f] X.env)=[(p'p false (eval e X.env)),(p'p false (eval f X.env))]
def NT(H:au)(a:Addr):Prop:=(∃kvs,lX H a (.aY kvs))\/∃kvs,lX H a (.gK kvs)
def al7(I:Inv X aa σ H s)(d:NT H a) :
  s.TypeIs ⇑a "dict"/\(∀b,dK a=⇑b->∃b0,s.heap.get? b\b0/\b0.dict=none)/\(a==sysModules)=false:=by
 rcases d with⟨kvs,e⟩|⟨kvs,e⟩
 .let(_,hd,vs,_,cQ):=v' I.a6 e;refine(cQ.typeIs,λb q=>?_,hd);cases q;let(b0,_,_,af,aj,_):=cQ;exact(b0,af,aj.2.1)
 .let(_,hd,xs,_,cQ):=AA I.a6 e;refine(cQ.typeIs,λb q=>?_,hd);cases q;let(b0,_,_,af,aj,_):=cQ;exact(b0,af,aj.2.1)
def QM(fy ty vM:TE):TE:=λσ H Q=>fy σ H λx H1=>∃a,x=⇑a/\NT H1 a/\ty σ H1 λy ar=>vM σ ar λz ba=>∃kvs k,ba a\(.aY kvs)/\y=df k /\
 (∀v,c5 kvs k\v->Q v (upd ba a (.aY (sE kvs k))))/\(c5 kvs k=none->Q z ba)
section
variable{X:a3}{o e f:Expr}{e2 iI:Pos}{fy ty vM:TE}
theorem aqK(aX:bu X o fy)(he:bu X e ty)(hf:bu X f vM)(m:M2 X o "pop" e2 e f iI):bu X (.Call (.Attribute o "pop" e2) [e,f] [] iI) (QM fy ty vM):=by
 intro aa s σ H Q I h;refine wpAny_Call_method m.base m.abf m.line sg Y_ PySem.F.type_dict_pop (bE (aX aa s σ H _ I h) λu s1 cN=>?_);let(x,H1,aR,a7,a,ex,d,bT):=cN;subst ex;obtain rfl:u=dK a:=a7;let(t1,gG,_):=al7 aR d;refine(t1,gG,?_);rw[m.trees];refine aaI rfl (ahI (YV (bE (he aa s1 σ H1 _ aR bT) λhr s2 ⟨y,ar,bz,bt,cX⟩=>
  YV (bE (hf aa s2 σ ar _ bz cX) λaeS s3 ⟨z,ba,d4,z3,kvs,k,dP,kC,fL,um⟩=>acO ?_))))
 subst kC;cases l:c5 kvs k with
 |some v=>exact ah9 d4 dP bt l (.inr (aeS,rfl)) λei s4 gc h4=>(v,_,gc,h4,fL v l)
 |none=>exact ad' d4 dP bt l λs4 gc=>(z,ba,gc,z3,um l)
end
section
variable{X:a3}{aa:List (Addr×Obj)}{σ:St}{H:au}{s:Shared}{a:Addr}{kvs:List (Key×V)}{A:Around}{E:Value->Shared->Prop}
def Xr(I:Inv X aa σ H s)(e:lX H a (.aY kvs))(h:∀p s',H p=none->Inv X aa σ (upd H p (.aY kvs)) s'->Q ⇑p s'):wpAny (model X.prog X.w) A (call (.type "dict") [⇑a]) Q E s:=by
 let(z,hd,vs,rel,cQ):=v' I.a6 e;refine kt_call_dict hd cQ (by rw[<- ↑rel];exact z) λh' lx aC=>?_
 refine h _ _ (I.a6.fresh (b1 _)) (I.laid (a:=↥s) (o:=.aY kvs) (t':=s.toks) (λb q ay=>?_) (b1 _) (BR z (beq_eq_false_iff_ne.mpr (cT (gs I.big))) rel lx));exact(aC.2 b (gs (en ay))).trans (ea _ ay)
end
end L2
namespace UB
open PySem PySem.W PySem.Calls PyProof.Rows
theorem ajt{h:Heap}:∀(ns:List Int) (vs:List Value),WellAll P h vs (ns.map aeT)->IntsAre vs ns:=by
 intro ns
 induction ns with
 |nil=>
  intro vs w;rw[p_]at w;cases w;exact .nil
 | cons n ns cp=>
  intro vs w;rw[e1]at w;cases w with
  |cons a b=>
   cases a;exact .cons _ _ (cp _ b)
theorem aiA{l:OpenLaw}{n:Nat}(a0:l.most\n){P:Params}{h:Heap}{args:List WData}{P':List Value}
  (DG:l.row.toRowW.claim.pre args=true) (g5:WellAll P h P' args) :
  ∃a vs ns,P'=[dK a]/\args=[WData.list (ns.map aeT)]/\h.get? a=some {cls:=.type "list",data:=.seq vs.toArray}/\IntsAre vs ns/\↑ns<=n:=by
 have hp:WShape.hasAll [] args [.list .int]=true:=(pre_splitW DG).1;have aw:l.pre.holds [] {args:=args}=true:=(pre_splitW DG).2;let(d,r,rfl,af,aj):=hasAllW_cons hp;obtain rfl:=hasAllW_nil aj;let(xs,rfl,bb):=hasW_list af;let(ns,rfl):=items_int bb;have hlen:↑ns<=n:=by
  unfold OpenLaw.pre at aw;have dt:(WTm.not (.lt (.lit (.int (n:Int))) (.len (.arg 0)))).holds [] {args:=[.list (ns.map .int)]}=true:=by
   have dt:=(holds_andW aw).1;rw[a0]at dt;exact dt
  have fm:=condW_of dt (w_not (w_lt w_lit (w_len_list (w_arg rfl))));rw[aO]at fm;refine alA λq=>?_
  have cW:(n:Int)<((↑ns:Nat):Int):=()
  first
   |(rw[decide_eq_true cW]at fm;exact absurd fm ∅)
   |(simp at fm;omega)
 cases g5 with
 |cons dp ef=>
  cases ef;cases dp with
  |list aX rn=>exact(_,_,ns,rfl,rfl,aX,ajt ns _ rn,hlen)
def adj(l:OpenLaw)(args:List WData):l.row.toRowW.claim.post args (.bool true) args=true:=
 postW_of (r:=l.row.toRowW) (X:=(true==true))
  (show apP [] (.bool true) .bool=true by first|rfl|decide|simp[apP,WShape.arms,WShape.armsAll])
  (show(WTm.eq .res (.lit (.bool true))).value [] {args:=args,res:=some (.bool true),after:=args}\(.bool (true==true))from w_eq_bool (w_res rfl) w_lit) rfl
def ajD{l:OpenLaw}{n:Nat}{q:Program}{loose:List Str}{Gy:(Str->Option Value)->Heap->Prop}{wO:World->Heap->Prop}{d:DefRec}
  (a0:l.most\n) (Qn:d.params.defaults=[])
  (call:∀(w:World) (gi dM:Shared) (mg oq:Str->Option Value) (hg:Addr) (o:Obj) (pm cd doc:Value) (a:Addr) (vs:List Value) (ns:List Int),
   Ground q loose [] Gy w gi mg oq dM.heap->wO w dM.heap ->
   dM.heap.get? hg\o->o.data=.func (docDef d.name d.params d.body d.scope pm cd doc)->dM.heap.CodeRec cd d.name->mg d.name\⇑hg ->
   dM.heap.get? a=some {cls:=.type "list",data:=.seq vs.toArray}->IntsAre vs ns->↑ns<=n->dM.gens=#[] ->
   codeAny (model l.prog w) callerA (.call ⇑hg ([⇑a],[])) (λr s'=>r=.ok (.ret (.bool true))/\OldK dM.heap s'.heap/\s'.os=dM.os/\AllBare s'.gens) dM) :
  WalkO q loose Gy wO l.row.toRowW d [] (λf vs=>ahx f vs):=by
 intro w gi dM mg oq G Y hg o pm cd doc CE df aX hd kz cw zy bj args P' as DG au8 au' g5 rD;obtain rfl:CE=.none:=Dflts.none cw Qn;obtain rfl:df=.none:=Dflts.noKw cw;let(a,vs,ns,rfl,rfl,Qo,hints,hlen):=aiA a0 DG g5;refine enter_call (codeAny_mono (call w gi dM mg oq hg o pm cd doc a vs ns G Y aX (fd_plain hd) kz zy Qo hints hlen bj) λr s' ay=>?_);let(rfl,aj,bb,dt):=ay;exact(.inl (.bool true,.bool true,[],rfl,λ_=>rfl,.bool true,adj l _,λ_=>(atZ,λ_ hm=>(nomatch hm))),aj,bb,dt)
end UB
namespace L2
open PySem PySem.Spec PyProof.Rows
theorem Wh:∀{vs:List Value} {ns:List Int},IntsAre vs ns->cq (ns.map V.int) vs
 |_,_,.nil=>.nil
 |_,_,.cons n t h=>.cons (t,rfl) (Wh h)
noncomputable abbrev HL{K:bg}{h:Heap}(_:K.In h):bg:=K
noncomputable def eG(s:Stmt)(j:Nat):Stmt:=match s with
 | .ClassDef _ _ _ body _ _ _ _ _ _ _=>body.getD j (.Pass (0,0,0,0))
 |_=>.Pass (0,0,0,0)
noncomputable def Fz(s:Stmt):Arguments:=match s with
 | .FunctionDef _ a _ _ _ _ _ _ _ _=>a
 |_=>{posonlyargs:=[],args:=[],vararg:=none,kwonlyargs:=[],kw_defaults:=[],kwarg:=none,defaults:=[]}
noncomputable def sV(s:Stmt):List Stmt:=match s with
 | .FunctionDef _ _ b _ _ _ _ _ _ _=>b
 |_=>[]
noncomputable def bD(s:Stmt):Scope:=match s with
 | .FunctionDef _ _ _ _ _ _ sc _ _ _=>sc
 |_=>{kind:=.function,names:=[],isGenerator:=false,isCoroutine:=false}
abbrev dy:jE:=λ_ _ _ _ _ _=>False
abbrev wm:ee:=λ_ _ _=>False
def cv:pk dy X wm:=λ_ _ _ _ _ _ _ h=>h.elim
structure cg(K:bg)(x qual:Str)(st:Stmt)(f:Addr)(fd:FuncData):Prop where
 ex:∃(oe:Value) (bB:Option Addr) (df doc pm:Value) (an:Option Addr) (fi fS:Value) (sX:Array (Option Value)),
  fd=yN x qual (Fz st) (sV st) (bD st) .none df doc pm an fi fS/\K.lookup f\(oe,bB,.func fd,sX)/\TH K fi qual=true
 bM:sD K ⇑f=true
section
variable{P:Program}{w:World}{K:bg}{mg:Str->Option Value}{base:Heap}
def cg.ok{x qual:Str}{st:Stmt}{fd:FuncData}{N ps:List Str}{k:Nat}(F:cg K x qual st f fd)(S:cx N ps (bD st))(len:∀vs H Q E,sp vs H Q E->↑vs=↑ps)
  (o5:∀(fi:Value) (A:Around) (outer:List Env) (s:Shared) (H:au) (vs:List V) (Q:cR) (E:ee),eR k (A.deeper (envOfC qual (bD st) ↥s f fi))->sp vs H Q E ->
   ∃t,hC (nC dy P w K mg base N qual (bD st) f fi A outer s H E).uc (sV st) t/\t {cc:=λ_ H'=>Q .b5 H',lB:=Q} (start N vs) H):cz P w K mg base dy (k+1) f fd ps sp:=by
 let(oe,bB,df,doc,pm,an,fi,fS,sX,rfl,lk,kz):=F.ex;refine IQ lk kz S len λA outer s H vs Q E ao lZ=>?_
 let(t,h,q):=o5 fi A outer s H vs Q E ao lZ;exact(t,h.uc,q)
def cg.binds{x qual:Str}{st:Stmt}{fd:FuncData}(F:cg K x qual st f fd)
  (h:∀(df doc pm:Value) (an:Option Addr) (fi fS:Value) (us:List Value),↑us=↑ps->bindArgs (yN x qual (Fz st) (sV st) (bD st) .none df doc pm an fi fS) (us,[])=pure (ps.zip us)):b6 K fd ps []:=by
 let(oe,bB,df,doc,pm,an,fi,fS,sX,rfl,lk,kz):=F.ex;exact .all (h df doc pm an fi fS)
def acK{x qual:Str}{st:Stmt}{df doc pm fi fS:Value}(l:K.lookup f\(oe,bB,.func (yN x qual (Fz st) (sV st) (bD st) .none df doc pm an fi fS),sX))
  (c:TH K fi qual=true) (k:sD K ⇑f=true):cg K x qual st f (yN x qual (Fz st) (sV st) (bD st) .none df doc pm an fi fS):=((oe,bB,df,doc,pm,an,fi,fS,sX,rfl,l,c),k)
end
def alK(A:Around):Prop:=A.units+1<cLine
def ac6(A:Around):Prop:=A.units+64<cLine
def Ta{A:Around}{k:Nat}(ao:eR k A):ac6 A:=ao.units
def gI{A:Around}{k:Nat}(ao:eR k A):alK A:=fW (Nat.add_le_add_left (by decide:1<=64) _) ao.units
section
variable{X:a3}
def J(i:Nat){x:Str}(bw:X.N[i]?\x:=by rfl)(aQ:z6 X.env.scope x:=by first|exact n2 rfl|exact oJ (n2 rfl)|exact oJ (oJ rfl))(hd:(x==("__debug__":Str))=false:=by decide)
  (kz:(x==("__classdict__":Str))=false:=by decide):bu X (.Name x pos) (CB i):=aov bw aQ hd kz
end
def aS(H H':au):Prop:=∀b o,H b\o->H' b\o
def aS.refl(H:au):aS H H:=λ_ _ h=>h
def aS.trans(a:aS H H1)(b:aS H1 ar):aS H ar:=λc o h=>b c o (a c o h)
theorem aS.free(e:aS H H')(h:H' l=v9):H l=v9:=by
 cases q:H l with
 |none=>rfl
 |some o=>
  rw[e l o q]at h;cases h
end L2
set_option maxHeartbeats 4000000
namespace L2
open PySem PySem.Spec PyProof.Rows
noncomputable def kr(cells:List (Str×Addr)):List (Str×NameKind)->List (Str×Addr)->List (Str×Addr)
 |[],acc=>acc
 |(n,k)::r,acc=>if k == .free then(match cells.lookup n with|some c=>kr cells r ((p'p n c)::acc)|none=>kr cells r acc)else kr cells r acc
theorem Lh{env:Env}:∀(names:List (Str×NameKind)) (acc:List (Str×Addr)),(∀y∈names,y.2=.free->∃c,env.cells.lookup y.1\c) ->
  (forIn names acc (λ(x:Str×NameKind) (cs:List (Str×Addr))=>(if(x.2 == .free)=true then do let a <- cellOf env x.1;pure (AW ((p'p x.1 a)::cs))else pure (AW cs):Sem (ForInStep (List (Str×Addr))))))=pure (kr env.cells names acc)
 |[],acc,_=>rfl
 | (n,k)::r,acc,h=>by
  have ao:∀y∈r,y.2=.free->∃c,env.cells.lookup y.1\c:=λy aJ=>h y (il _ aJ)
  rw[List.forIn_cons];by_cases az:(k==sT)=true
  .have e:k=.free:=by simpa using az
   let(c,aw):=h (p'p n k) m4 e;have tJ:env.cells.lookup n\c:=aw;simp only[kr,az,if_true,tJ,cellOf];exact Lh r _ ao
  .simp only[kr,az];exact Lh r _ ao
def XJ{env:Env}(h:∀y∈scope.names,y.2=.free->∃c,env.cells.lookup y.1\c):closureFor scope env=pure (kr env.cells scope.names []):=by
 unfold closureFor;exact congrArg (λt=>t >>= pure) (Lh scope.names [] h)
theorem CA{cells:List (Str×Addr)}:∀(names:List (Str×NameKind)) (acc:List (Str×Addr)) {x:Str} {c:Addr},(kr cells names acc).lookup x\c->acc.lookup x\c\/cells.lookup x\c
 |[],acc,x,c,h=>.inl h
 | (n,k)::r,acc,x,c,h=>by
  unfold kr at h;split at h
  .cases q:cells.lookup n with
   |none=>rw[q]at h;exact CA r acc h
   | some d=>
    rw[q]at h;rcases CA r _ h with z|z
    .rw[lj]at z;by_cases ae:(x==n)=true
     .rw[ae]at z;have e:x=n:=by simpa using ae
      subst e
      right;rw[q];exact z
     .have eA:(x==n)=false:=by simpa using ae
      rw[eA]at z;exact .inl z
    .exact .inr z
  .exact CA r acc h
theorem CV{cells:List (Str×Addr)}:∀(names:List (Str×NameKind)) (acc:List (Str×Addr)) {x:Str} {c:Addr},acc.lookup x\c->cells.lookup x\c->(kr cells names acc).lookup x\c
 |[],acc,x,c,h,_=>h
 | (n,k)::r,acc,x,c,h,aw=>by
  unfold kr;split
  .cases q:cells.lookup n with
   |none=>exact CV r acc h aw
   | some d=>
    refine CV r _ ?_ aw;rw[lj];by_cases ae:(x==n)=true
    .have e:x=n:=by simpa using ae
     subst e;rw[ae];rw[q]at aw;exact aw
    .have eA:(x==n)=false:=by simpa using ae
     rw[eA];exact h
  .exact CV r acc h aw
theorem zU{cells:List (Str×Addr)}:∀(names:List (Str×NameKind)) (acc:List (Str×Addr)) {x:Str} {c:Addr},(p'p x sT)∈names->cells.lookup x\c->(kr cells names acc).lookup x\c
 |[],_,_,_,h,_=>nomatch h
 | (n,k)::r,acc,x,c,h,aw=>by
  rcases e_.mp h with e|h
  .cases e;unfold kr;rw[if_pos ∅,aw];refine CV r _ ?_ aw;rw[lj];simp
  .unfold kr;split
   .cases q:cells.lookup n with
    |none=>exact zU r acc h aw
    |some d=>exact zU r _ h aw
   .exact zU r acc h aw
theorem LV:∀{l:List (Str×α)} {x:Str} {a:α},l.lookup x\a->(p'p x a)∈l
 |[],_,_,h=>by simp at h
 | (n,b)::r,x,a,h=>by
  rw[lj]at h;by_cases ae:(x==n)=true
  .have e:x=n:=by simpa using ae
   subst e;rw[ae]at h;have aA:b=a:=dZ h;subst aA;exact m4
  .have eA:(x==n)=false:=by simpa using ae
   rw[eA]at h;exact il _ (LV h)
def ab8{env:Env}{x:Str}{k:NameKind}(h:(relabel scope env).names.lookup x\k)(az:k=.cell\/k=.free)(aw:∀y∈scope.names,y.2≠.cell):(p'p x sT)∈scope.names:=by
 have af:=LV h;let((n,j),hm,e):=cj.mp af;have br:(if(j==sT&&env.scope.kind == .function&&env.kindOf n==some .cell)=true then(p'p n UG)else(p'p n j))=(p'p x k):=e;split at br
 .rename_i WB;have aq:n=x:=(RQ br).1;subst aq;have aN:j=.free:=by
   simp only[jP]at WB;simpa using WB.1.1
  subst aN;exact hm
 .have aq:n=x:=(RQ br).1;have aA:j=k:=(RQ br).2;subst aq;subst aA;rcases az with z|z
  .exact absurd z (aw _ hm)
  .subst z;exact hm
theorem anm{env:Env}{x:Str}(h:scope.names.lookup x\.free):(relabel scope env).names.lookup x\.cell\/(relabel scope env).names.lookup x\.free:=by
 have all:∀(names:List (Str×NameKind)),names.lookup x\.free ->
   (names.map λ(n,k)=>if(k==sT&&env.scope.kind == .function&&env.kindOf n==some .cell)then(p'p n UG)else(p'p n k)).lookup x\.cell \/
   (names.map λ(n,k)=>if(k==sT&&env.scope.kind == .function&&env.kindOf n==some .cell)then(p'p n UG)else(p'p n k)).lookup x\.free:=by
  intro names
  induction names with
  |nil=>intro h;simp at h
  | cons p r cp=>
   let(n,k):=p;intro h;rw[e1];by_cases ae:(x==n)=true
   .simp only[lj,ae]at h;have az:k=.free:=dZ h;subst az;by_cases aw:(sT==sT&&env.scope.kind == .function&&env.kindOf n==some .cell)=true
    .left;simp only[if_pos aw,lj,ae]
    .right;simp only[if_neg aw,lj,ae]
   .have eA:(x==n)=false:=by simpa using ae
    simp only[lj,eA]at h;by_cases aw:(k==sT&&env.scope.kind == .function&&env.kindOf n==some .cell)=true
    .simp only[if_pos aw,lj,eA];exact cp h
    .simp only[if_neg aw,lj,eA];exact cp h
 exact all scope.names h
noncomputable abbrev a3.block(X:a3)(scope:Scope)(C:Addr)(N:List Str)(s:Shared)(H:au)(b4:List Addr):a3 where
 prog:=X.prog
 w:=X.w
 K:=X.K
 mg:=X.mg
 base:=X.base
 A:=X.A
 N:=N
 gi:=s
 th:=H
 env:=compEnvC scope (kr X.env.cells scope.names []) C X.env
 outer:=X.stack
 stack:=X.stack
 ex:=b4
 fn:=λ_=>false
 calm:=X.calm
 dv:=[]
 dG:=λ_ _=>False
structure tq(env:Env)(scope:Scope):Prop where
 kind:scope.kind=.function
 w6:∀y∈scope.names,y.2≠.cell
 fr:∀y∈scope.names,y.2=.free->env.kindOf y.1\.cell\/env.kindOf y.1\.free
 loc:∀x∈scope.names,x.2=.local->scope.names.lookup x.1\.local
noncomputable def nN(sel:List (Option Nat))(σ:St):St:=sel.map λo=>o.bind λj=>(σ[j]?).join
def z_(M:List Str)(scope:Scope)(N:List Str)(sel:List (Option Nat)):Prop:=
 ↑sel=↑N/\∀(i j:Nat) (x:Str),sel[i]?\(some j)->N[i]?\x->M[j]?\x/\scope.names.lookup x\.free
section
variable{X:a3}{aa:List (Addr×Obj)}{σ:St}{H:au}{s:Shared}{scope:Scope}{b4:List Addr}{C:Addr}{N:List Str}
theorem tq.cells(S:tq X.env scope)(ok:X.Ok):∀y∈scope.names,y.2=.free->∃c,X.env.cells.lookup y.1\c:=λy aJ e=>ok.has y.1 (S.fr y aJ e)
def wM{x:Str}(h:(kr X.env.cells scope.names []).lookup x\c):X.env.cells.lookup x\c:=by
 rcases CA _ _ h with z|z
 .simp at z
 .exact z
def VJ(I:Inv X aa σ H s)(S:tq X.env scope)(hf:∀b∈b4,jG X aa H b)(aC:∀b∈b4,b<↥s)(cu:↥s<=C):(X.block scope C N s H b4).Ok where
 mod:=I.ok.mod
 kind:=S.kind
 glob:=I.ok.glob
 blt:=I.ok.blt
 above:=cu
 inj:=λx y c af aj=>I.ok.inj x y c (wM af) (wM aj)
 has:=λx h=>by
  have az:∃k,(relabel scope X.env).names.lookup x\k/\(k=.cell\/k=.free):=by
   rcases h with h|h
   .exact (_,h,.inl rfl)
   .exact (_,h,.inr rfl)
  let(k,af,aj):=az;have hm:=ab8 af aj S.w6;let(c,aw):=S.cells I.ok _ hm rfl;exact(c,zU _ _ hm aw)
 rk:=λ_ _ h _=>nomatch h
 hd:=I.ok.hd
 frames:=I.ok.frames
 tv:=.inl rfl
 w1:=λb U=>(gs (ic (aC b U) cu),λx c e=>(hf b U).2.2.2.2.1 x c (wM e))
 bs:=I.bs
 lP:=c9 I.ok.lP I.mB
 qX:=λb o e U=>by
  rcases(hf b U).2.2.2.1 with z|z
  .exact I.ok.qX b o e z
  .exact absurd (ic (ic (en e) I.ok.lP) z) (ly _)
 rL:=λb U aH=>by
  rcases e_.mp (I.E0 b aH)with z|z
  .exact (hf b U).2.1 z
  .exact (hf b U).2.2.1 z
 kX:=I.stack
 pa:=I.BB
theorem aje(I:Inv X aa σ H s)(S:tq X.env scope)(hf:∀b∈b4,jG X aa H b)(aC:∀b∈b4,b<↥s)(cu:↥s<=C)
  (k:∀b o,s.heap.get? b\o->h'.get? b\o) (a0:h'.Ns C m) (sd:z_ X.N scope N sel):Inv (X.block scope C N s H b4) [] (nN sel σ) H {s with heap:=h',toks:=t' }where
 ok:=VJ I S hf aC cu
 os:=rfl
 bare:=I.bare
 base:=gM.kept k
 loc:=by
  refine(m,a0,λi x v aq aA bG=>?_);let(m0,rV,aG):=I.loc;let(j,Ly,ard):∃j,sel[i]?\(some j)/\σ[j]?\(some v):=by
   unfold nN at aA;rw[dF]at aA;cases q:sel[i]? with
   |none=>rw[q]at aA;cases aA
   | some o=>
    rw[q]at aA;cases o with
    |none=>cases aA
    |some j=>
     refine(j,rfl,?_);have Hi:(σ[j]?).join\v:=dZ aA;cases r:σ[j]? with
     |none=>rw[r]at Hi;cases Hi
     |some z=>rw[r]at Hi;exact congrArg some Hi
  let(ahH,oA):=sd.2 i j x Ly aq;have hm:=LV oA;have az:=S.fr _ hm rfl;have aQ:z6 X.env.scope x:=az.elim (λz=>.inr (.inl z)) λz=>.inr (.inr z)
  let(u,r,l):=aG j x v ahH ard aQ;refine(u,r,?_);rcases l with⟨ae_,_⟩|⟨_,c,aw,xq⟩
  .rcases az with z|z <;> (have h9:X.env.kindOf x=_:=z;rw[ae_]at h9;cases h9)
  .refine .inr (?_,c,zU _ _ hm aw,?_)
   .exact anm oA
   .let(o,aX,hd):=xq;exact(o,k _ _ aX,hd)
 cell:=λx c e=>by
  let(v,o,aX,hd):=I.cell x c (wM e);exact(v,o,k _ _ aX,hd)
 free:=I.a6.fresh cu
 i5:=λx c e=>I.i5 x c (wM e)
 pin:=λp ag=>nomatch ag
 a6:=I.a6.kept k
 len:=by unfold nN;rw[aO];exact sd.1
def Inv.adopt(I:Inv X aa σ H s)(ij:jG X aa H a)(new:ce X.prog X.w (upd H a o) s.heap a o):Inv X aa σ (upd H a o) s:=by
 let(a0,fM,yq,hex,qz,h8):=ij;refine I.step (g':=s.gens) (d':=s.drawn) (t':=s.toks) (h':=s.heap) (ch:=[a]) (λb U=>?_) (λb o _ _ _ e _=>e) (λb o _ _ _ e _=>(o.slots,e)) (λb o U e n=>?_) (λb o _ e=>(o,e))
  (λb xs e=>?_) (λb o u e=>?_) (λb ps e=>(#[],?_)) (λm hm=>hm) (λb u e=>?_) I.bare
 .have e:b=a:=by simpa using U
  subst e;exact(hex,fM,qz,h8)
 .rw [ax (λz=>U (by simp[z]))];exact n
 .rw [ax (du e a0)];exact e
 .rw [ax (du e a0)];exact e
 .rw [ax (du e a0),e];simp
 .by_cases U:b=a
  .subst U;rw[aM]at e;cases e;exact new
  .rw [ax U]at e;exact(I.a6 b u e).nE (λc v _ q=>q) (λc q=>by rw[ax (du q a0)];exact q) λc xs q=>by rw[ax (du q a0)];exact q
end
theorem agb{prog:Program}{w:World}{A:Around}{it acc:Value}{env:Env}(I:Nat->Shared->Prop)
  (turn:∀n s,I n s->wpAny (model prog w) A (pyNext it) (λr dM=>match r with
   |none=>R (.ok .next) dM
   | some v=>wpAny (model prog w) A (letOwnedTupleGo AH it v) (λ_ gi=>wpAny (model prog w) A (assign AH env v) (λ_ ek=>
     wpAny (model prog w) A (forIn ifs true λc r=>if r=true then do let ok <- isTrue c env (eval c env);pure (AW ok)else pure (AW r)) (λok mi=>
      if ok=true then wpAny (model prog w) A (eval elt env) (λx Fm=>
       wpAny (model prog w) A (call (.builtin "list.append") [acc,x]) (λ_ abL=>∃m,m<n/\I m abL) (λ_ _=>False) Fm) (λ_ _=>False) mi
      else ∃m,m<n/\I m mi) (λ_ _=>False) ek) (λ_ _=>False) gi) (λ_ _=>False) dM) (λ_ _=>False) s)
  (n:Nat) (h:I n s) :
  codeAny (model prog w) A (.compLoop (.ListComp elt [(AH,iter,ifs,0)] scope pos) 0 it acc env) R s:=by
 refine codeAny_loop rfl I (λn s OJ=>?_) n h;show wpAny _ A ((compTurn (.ListComp elt [(AH,iter,ifs,0)] scope pos) 0 it acc env).onRaise (λx=>do noteFrame x env;theTreesLotGoes x)) _ _ s;refine wpAny_noted (wpAny_noRaise ?_);rw[compTurn_list];refine wpAny_bind (wpAny_standAt (wpAny_bind (wpAny_mono (turn n s OJ) (λr dM h₁=>?_) λ_ _ h'=>h')));cases r with
 |none=>exact wpAny_pure h₁
 | some v=>
  refine wpAny_bind (wpAny_mono h₁ (λ_ gi h₀=>?_) λ_ _ h'=>h');refine wpAny_bind (wpAny_mono h₀ (λ_ ek AG=>wpAny_bind (wpAny_mono AG (λok mi FZ=>?_) λ_ _ h'=>h')) λ_ _ h'=>h');cases ok with
  |false=>exact wpAny_pure (rfl,FZ)
  |true=>
   exact wpAny_bind (wpAny_bind (wpAny_mono FZ (λx Fm aj5=>wpAny_bind (wpAny_mono aj5 (λ_ abL ao1=>wpAny_pure (wpAny_pure (rfl,ao1))) λ_ _ h'=>h')) λ_ _ h'=>h'))
def Bq(X:a3)(ifs:List Expr)(t:TT):Prop:=
 ∀(aa:List (Addr×Obj)) (s:Shared) (σ:St) (H:au) (Q:Bool->au->Prop),Inv X aa σ H s->t σ H Q ->
  wpAny (model X.prog X.w) X.A (forIn ifs true λc r=>if r=true then do let ok <- isTrue c X.env (eval c X.env);pure (AW ok)else pure (AW r)) (Gn X aa σ Q) X.dG s
def rO:TT:=λ_ H Q=>Q true H
def i':Bq X [] rO:=λ_ _ _ H _ I h=>wpAny_tests_nil (H,I,h)
def uj{t:TT}(h:iW X c t):Bq X [c] t:=λaa s σ H Q I q=>wpAny_tests_one (h aa s σ H Q I q)
def Sub(σ av:St):Prop:=↑av=↑σ/\∀(i:Nat) (v:V),σ[i]?\(some v)->av[i]?\(some v)
def uz(bL:kd)(g:hv)(dW:TT)(bV:TE)(d2:St)(Q:cR)(W:Nat->Nat->List V->au->Prop):Prop:=∀i m ys H,W i m ys H ->
 (bL.stop i H/\∀p,H p=none->Q ⇑p (upd H p (.lst ys))) \/
 (bL.go i H/\↑ys<sizeLine/\∀x H',bL.rW i H x H'->g x d2 H' λcO ar=>Sub d2 cO/\dW cO ar λc ba=>if c=true then bV cO ba λy cm=>∃c3,c3<m/\W (i+1) c3 (ys++[y]) cm else ∃c3,c3<m/\W (i+1) c3 ys ba)
def H6(fB:TI)(g:hv)(dW:TT)(bV:TE)(sel:List (Option Nat)):TE:=λσ H Q=>fB σ H λbL H1=>∃W:Nat->Nat->List V->au->Prop,(∃m,W 0 m [] H1)/\uz bL g dW bV (nN sel σ) Q W
section
variable{X:a3}{elt dD iter:Expr}{ifs:List Expr}{scope:Scope}{pos:Pos}{fB:TI}{g:hv}{dW:TT}{bV:TE}{N:List Str}{sel:List (Option Nat)}
structure fT(X:a3)(scope:Scope)(N:List Str)(dD elt:Expr)(ifs:List Expr)(g:hv)(dW:TT)(bV:TE):Prop where
 XW:∀C s H b4,pg (X.block scope C N s H b4) dD g
 tests:∀C s H b4,Bq (X.block scope C N s H b4) ifs dW
 elem:∀C s H b4,bu (X.block scope C N s H b4) elt bV
def fT.of{N:List Str}(af:∀C s H b4,pg (X.block scope C N s H b4) dD g)
  (aj:∀C s H b4,∃t,Bq (X.block scope C N s H b4) ifs t/\t=dW) (bb:∀C s H b4,∃t,bu (X.block scope C N s H b4) elt t/\t=bV):fT X scope N dD elt ifs g dW bV:=
 (af,λC s H b4=>by let(t,h,rfl):=aj C s H b4;exact h,λC s H b4=>by let(t,h,rfl):=bb C s H b4;exact h)
theorem RG{aa:List (Addr×Obj)}{ek:Shared}{σ:St}{jk:au}{Q:cR}{it:Addr}{b4:List Addr}{bY:Nat->Heap->Prop}{bL:kd}{W:Nat->Nat->List V->au->Prop}{E:Value->Shared->Prop}{RR:Value->Addr->Result->Shared->Prop}
  (aw:X.calm=true) (S:tq X.env scope) (sd:z_ X.N scope N sel) (B:fT X scope N dD elt ifs g dW bV) (bz:Inv X aa σ jk ek) (T:rE X.prog X.w X.K dD bL b4 it bY) (sW:bY 0 ek.heap) (f2:∀b∈b4,jG X aa jk b)
  (pJ:∃m,W 0 m [] jk) (gV:uz bL g dW bV (nN sel σ) Q W)
  (fin:∀D C ys H' s',Inv X aa σ (upd H' D (.lst ys)) s'->(∃m,s'.heap.Ns C m)->jG X aa (upd H' D (.lst ys)) C->Q ⇑D (upd H' D (.lst ys))->RR ⇑D C (.ok .next) s') :
  wpAny (model X.prog X.w) X.A (newList []) (λacc mi=>wpAny (model X.prog X.w) X.A (newFunctionEnv scope X.env.globals (kr X.env.cells scope.names []) [] X.env.qual none .none (some X.env)) (λS5 Fm=>
   codeAny (model X.prog X.w) X.A (.compStart (.ListComp elt [(dD,iter,ifs,0)] scope pos) 0 ⇑it acc {S5 with scope:=relabel scope X.env}) (RR acc S5.locals) Fm) E mi) E ek:=by
 refine wpAny_newObj_type (wpAny_newFunctionEnv S.w6 (by intro y aJ;simp at aJ) (λh₁ L9 Dp=>?_) S.kind);dsimp only at L9 Dp⊢;generalize rj:ek.heap.push {cls:=.type "list",dict:=none,data:=.seq ([]:List Value).toArray}=ar at L9 Dp⊢;have cu:ar.objs.size=↥ek+1:=by rw[<- rj,S2]
 have yV:↥ek≠ar.objs.size:=by rw[cu];exact gs (Pc _)
 have H7:↥ek<=ar.objs.size:=by rw[cu];exact xr _
 have below:∀b,b<↥ek->b≠ar.objs.size/\b≠↥ek:=λb U=>(by rw[cu];exact gs (Nat.lt_succ_of_lt U),gs U)
 have old:∀b o,ek.heap.get? b\o->h₁.get? b\o:=λb o e=>Dp.extBut b o (below b (en e)).1 (ea _ (rj ▸ ea _ e))
 have Qd:h₁.get? ↥ek=some {cls:=.type "list",data:=.seq ([]:List Value).toArray}:=Dp.extBut _ _ yV (ea _ (rj ▸ hl _ rfl));have zO:∀b∈b4,b<↥ek:=λb U=>by
  let(o,e,_):=T.obj _ _ sW b U;exact en e
 generalize auN:ar.objs.size=C at *;generalize qq:↥ek=D at *;have Yj:bY 0 h₁:=T.keep _ _ _ sW λb _ o e=>old b o e
 have as4:Inv (X.block scope C N ek jk b4) [] (nN sel σ) jk {ek with heap:=h₁,toks:=ek.toks+↑([]:List (Str×Value))}:=
  aje bz S f2 (λb U=>by rw[qq];exact zO b U) (by rw[qq];exact H7) old L9 sd
 have N0:D∉(X.block scope C N ek jk b4).aT:=λz=>by
  have h9:=bz.E0 D z;rcases e_.mp h9 with e|e
  .exact absurd bz.lt (by rw[<- e,qq];exact ly _)
  .exact bz.NG (by rw[qq];exact b1 _) e
 have loop:∀mi:Shared,mi={ek with heap:=h₁,toks:=ek.toks+↑([]:List (Str×Value))} ->
   codeAny (model X.prog X.w) X.A (.compLoop (.ListComp elt [(dD,iter,ifs,0)] scope pos) 0 ⇑it ⇑D (compEnvC scope (kr X.env.cells scope.names []) C X.env)) (RR ⇑D C) mi:=by
  rintro mi rfl;let(m0,pJ):=pJ;refine agb (λk s'=>∃i ys us n H',Inv (X.block scope C N ek jk b4) [(p'p D ({cls:=.type "list",data:=.seq us n}))] (nN sel σ) H' s'/\(∃vs:List Value,us=vs.toArray/\cq ys vs)/\↑ys<=sizeLine/\bY i s'.heap/\(∀b∈b4,H' b=none)/\W i k ys H') ?_ m0
   (0,[],_,0,jk,as4.uO λp ag=>?_,([],rfl,.nil),e0 _,Yj,λb U=>(f2 b U).1,pJ)
  .rintro k s' ⟨i,ys,us,n,H',Qi,⟨vs,rfl,cM⟩,abl,st,fr,w⟩;have Km:∀{pl:List (Addr×Obj)} {ia:au},(∀p∈pl,p.1=D)->(∀b∈b4,ia b=none)->∀b∈b4,jG (X.block scope C N ek jk b4) pl ia b:=fun {pl ia} ag a0 b U=>
    (a0 b U,(below b (zO b U)).1,(VJ (N:=N) (C:=C) bz S f2 (λb U=>by rw[qq];exact zO b U) (by rw[qq];exact H7)).rL b U,.inl U,λx c e=>(f2 b U).2.2.2.2.1 x c (wM e),λp Ek z=>by
     have ary:p∈pl:=by simpa using Ek
     exact(below b (zO b U)).2 (by rw[<- z];exact ag p ary))
   have Oy:∀p∈[((p'p D ({cls:=.type "list",data:=.seq vs.toArray n})):Addr×Obj)],p.1=D:=λp ag=>by
    have e:p=(p'p D ({cls:=.type "list",data:=.seq vs.toArray n})):=by simpa using ag
    rw[e]
   rcases gV i k ys H' w with⟨stop,A4⟩|⟨go,hlen,step⟩
   .refine bE (T.done (X.block scope C N ek jk b4) rfl rfl rfl aw i _ s' _ H' _ Qi (Km Oy fr) st stop) λr s4 cN=>?_
    let(ao,gc):=cN;subst ao;have vo:=gc.pin (p'p D ({cls:=.type "list",data:=.seq vs.toArray n})) (by simp);have aa':H' D=none:=vo.2.1;have ahs:Inv X aa σ H' s4:=bz.zq (ch:=b4) gc.os gc.base gc.a6 gc.bare λb U=>((f2 b U).2.2.2.1,(f2 b U).2.1,(f2 b U).2.2.2.2.1,(f2 b U).2.2.2.2.2)
    have tT:jG X aa H' D:=bz.o1 (by rw[qq];exact b1 _) aa';have Pr:Inv X aa σ (upd H' D (.lst ys)) s4:=ahs.adopt tT (abl,vs,n,cM,vo.1);let(ar9,asV,_):=gc.loc;refine fin D C ys H' s4 Pr (ar9,asV) (bz.o1 (by rw[qq];exact H7) ?_) (A4 D aa');rw[ax (cT yV)];exact gc.free
   .refine bE (T.item (X.block scope C N ek jk b4) rfl rfl rfl aw i _ s' _ H' _ Qi (Km Oy fr) st go) λr s4 cN=>?_
    let(u,ao,dt):=cN;subst ao;refine bE dt λ_ s5 cN=>?_
    let(x,cG,u7,HQ,kD,tS,M_):=cN;have Lg:=u7.pinned (Km Oy M_) (T.obj _ _ tS);refine bE (B.XW C ek jk b4 _ s5 _ cG x u _ Lg HQ (step x cG kD)) λ_ f9 cN=>?_
    let(mb,fl,mU,p7,Li):=cN;refine bE (B.tests C ek jk b4 _ f9 mb fl _ mU Li) λc pF cN=>?_
    let(eJ,lN,pq):=cN;have again:∀{vT:St} {gO:au} {iO:Shared},Inv (X.block scope C N ek jk b4) ([(p'p D ({cls:=.type "list",data:=.seq vs.toArray n}))]++AF b4 s5.heap) vT gO iO->bY (i+1) iO.heap/\(∀b∈b4,gO b=none):=λ{vT gO iO} mI=>by
     refine(T.keep _ _ _ tS λb U o e=>(mI.pin (p'p b o) (l3 _ (l3 _ (D6 U e)))).1,λb U=>?_);let(o,e,d):=T.obj _ _ tS b U;exact(mI.pin (p'p b o) (l3 _ (l3 _ (D6 U e)))).2.1
    have back:∀{gO:au} {iO:Shared} {pl:List (Addr×Obj)},Inv (X.block scope C N ek jk b4) pl mb gO iO->Inv (X.block scope C N ek jk b4) pl (nN sel σ) gO iO:=λ{gO iO pl} mI=>mI.weak p7.1.symm p7.2
    cases c with
    |false=>
     let(c3,hm,ei):=pq;let(t1,gG):=again lN;exact(c3,hm,i+1,ys,_,n,eJ,back lN.DX,(vs,rfl,cM),abl,t1,gG,ei)
    | true=>
     refine bE (B.elem C ek jk b4 _ pF mb eJ _ lN pq) λv iO cN=>?_
     let(y,gO,mI,apk,c3,hm,ei):=cN;let(t1,gG):=again mI;have vo:=mI.pin (p'p D ({cls:=.type "list",data:=.seq vs.toArray n})) (by simp);refine append_at (hsz:=by have:=↑cM;rw[eB];omega) vo.1 λAs Z_ arB=>?_
     have af6:Inv (X.block scope C N ek jk b4) [] (nN sel σ) gO iO:=(back mI).uO λp ag=>nomatch ag
     have tT:jG (X.block scope C N ek jk b4) [] gO D:=(vo.2.1,yV,N0,.inr (by show ↥ek<=D;rw[qq];exact b1 _),(λx c e z=>by
      let(a_,o,aX,hd):=mI.cell x c e;rw[z,vo.1]at aX;cases aX;cases hd),(λp ag=>nomatch ag))
     have yr:Inv (X.block scope C N ek jk b4) [] (nN sel σ) gO {iO with heap:=As}:=af6.turned (t':=iO.toks) (it:=D) (λb o U e=>(Z_.2 b U).trans e) tT.1 tT.2.1 tT.2.2.2.1 tT.2.2.2.2.1 tT.2.2.2.2.2;refine(c3,hm,i+1,ys++[y],vs.toArray.push v,n+1,gO,yr.uO λp ag=>?_,(vs++[v],by simp,Yc cM apk),by rw[dx,qf];omega,T.keep _ _ _ t1 λb U o e=>(Z_.2 b (below b (zO b U)).2).trans e,gG,ei);have e:p=(p'p D ({cls:=.type "list",data:=.seq (vs.toArray.push v) (n+1)})):=by simpa using ag
     subst e;exact(arB,vo.2.1,yV,N0,λv z=>by cases z)
  .have e:p=(p'p D ({cls:=.type "list",data:=.seq ([]:List Value).toArray})):=by simpa using ag
   subst e;exact(Qd,bz.a6.fresh (by rw[qq];exact b1 _),yV,N0,λv z=>by cases z)
 exact codeAny_compStart_list (loop _ rfl) (T.self _ 0 _ _ _ Yj (loop _ rfl))
def h_(aw:X.calm=true)(ai:p3 X dD iter fB)(S:tq X.env scope)(sd:z_ X.N scope N sel)(B:fT X scope N dD elt ifs g dW bV)
  (aC:∀x,foldedSetIterable iter X.env x=pure x:=by intro _;rfl):bu X (.ListComp elt [(dD,iter,ifs,0)] scope pos) (H6 fB g dW bV sel):=by
 intro aa s σ H Q I h;rw[eval_ListComp];refine wpAny_comprehension_free (use:=none) rfl aC (XJ (S.cells I.ok)) S.kind S.loc ?_;refine bE (ai aa s σ H _ I h) λv s1 af=>bE af λEJ s2 aj=>?_
 let(it,b4,bY,bL,ar,e,bz,T,sW,f2,W,pJ,gV):=aj;subst e;refine RG (RR:=λacc C=>compPost (model X.prog X.w) X.A X.dG none (gY X aa σ Q) acc C) aw S sd B bz T sW f2 pJ gV λD C ys H' s' gF ⟨m,hm⟩ ij q=>?_
 exact(m,hm,λh' wL=>(⇑D,_,gF.turned (t':=s'.toks) (it:=C) (λb o U e=>(wL.2 b U).trans e) ij.1 ij.2.1 ij.2.2.2.1 ij.2.2.2.2.1 ij.2.2.2.2.2,rfl,q))
def CR{i:Nat}{y:Str}{py U5:Pos}(bw:X.N.Nodup)(ai:X.N[i]?\y)(ae:Loc X.env.scope y)(aw:X.calm=true)(hit:p3 X dD iter fB)(S:tq X.env scope)(sd:z_ X.N scope N sel)(B:fT X scope N dD elt ifs g dW bV)
  (Gv:swapsWith (.ListComp elt [(dD,iter,ifs,0)] scope pos) (some (.Name y py)) U5.line X.env=pure true) (hf:X.fn y=true\/X.env.scope.names.lookup y\.local:=by first|exact .inl rfl|exact .inr rfl|assumption)
  (aC:∀x,foldedSetIterable iter X.env x=pure x:=by intro _;rfl):fX X (.Assign [.Name y py] (.ListComp elt [(dD,iter,ifs,0)] scope pos) U5) (wH (H6 fB g dW bV sel) (gz i)):=by
 intro aa s σ H D I h;rw[exec_Assign_Name_used _ _ _ _ Gv];refine wpAny_bind (wpAny_standAt (wpAny_bind ?_));show wpAny _ X.A (do let _ <- comprehension (.ListComp elt [(dD,iter,ifs,0)] scope pos) scope X.env _ (newList []) false (eval iter X.env) (some (assign (.Name y py) X.env))) _ _ s;refine wpAny_bind (wpAny_mono (wpAny_comprehension_free (use:=some (assign (.Name y py) X.env)) (Q:=λ_ s'=>pb X aa D .next s') rfl aC (XJ (S.cells I.ok)) S.kind S.loc ?_) (λ_ s' ay=>wpAny_pure (wpAny_pure ay)) λ_ _ e=>e);refine bE (hit aa s σ H _ I h) λv s1 af=>bE af λEJ s2 aj=>?_
 let(it,b4,bY,bL,ar,e,bz,T,sW,f2,W,pJ,gV):=aj;subst e;refine RG (RR:=λacc C=>compPost (model X.prog X.w) X.A X.dG (some (assign (.Name y py) X.env)) (λ_ s'=>pb X aa D .next s') acc C) aw S sd B bz T sW f2 pJ gV λDa C ys H' s' gF ⟨m,hm⟩ ij q=>?_
 show wpAny _ X.A (assign (.Name y py) X.env ⇑Da) _ _ _;refine wpAny_assign_Name (T9 gF bw ai ae (show bP ⇑Da ⇑Da from rfl) (λs3 d4 cN=>?_) hf);let(a,wL,aV):=cN;have apG:C≠a:=by
  rcases aV with z|z
  .rw [z];exact ij.2.1
  .exact λw=>ij.2.2.2.2.1 y a z w.symm
 refine(m,hm.sameBut wL apG,λh' aft=>(_,_,d4.turned (t':=s3.toks) (it:=C) (λb o U e=>(aft.2 b U).trans e) ij.1 ij.2.1 ij.2.2.2.1 ij.2.2.2.2.1 ij.2.2.2.2.2,q))
end
def qS(Pv:Nat->List V->au->Prop)(g:hv)(dW:TT)(bV:TE)(d2:St)(i:Nat)(x:V)(ys:List V)(H:au):Prop:=
 ∀N:List V->au->Prop,(∀kM H',Pv (i+1) kM H'->N kM H')->g x d2 H λcO ar=>Sub d2 cO/\dW cO ar λc ba=>if c=true then bV cO ba λy cm=>N (ys++[y]) cm else N ys ba
def afz{K:bg}(Pv:Nat->List V->au->Prop)(aH:↑xs<=sizeLine)(h0:Pv 0 [] H)(aG:∀i ys H,i<=↑xs->Pv i ys H->aE K H a xs/\↑ys<=i)
  (aC:∀i x ys H,xs[i]?\x->Pv i ys H->qS Pv g dW bV d2 i x ys H) (hd:∀ys H,Pv ↑xs ys H->∀p,H p=none->Q ⇑p (upd H p (.lst ys))) :
  ∃W:Nat->Nat->List V->au->Prop,(∃m,W 0 m [] H)/\uz (o4 K a) g dW bV d2 Q W:=by
 refine(λi m ys H=>m=↑xs-i/\i<=↑xs/\Pv i ys H,(↑xs,by simp,e0 _,h0),?_);intro i m ys H (rfl,ai,p);have q:=(aG i ys H ai p).1;have D_:=(aG i ys H ai p).2;by_cases et:i<↑xs
 .refine .inr ((xs,xs[i],q,by simp[et]),(),λx H' y=>?_);let(e,y):=y;subst e;exact aC i x ys _ (y xs q) p (λkM H'=>∃c3,c3<↑xs-i/\c3=↑xs-(i+1)/\i+1<=↑xs/\Pv (i+1) kM H') λkM H' r=>(↑xs-(i+1),(),rfl,et,r)
 .have e:i=↑xs:=()
  subst e;exact .inl ((xs,q,b1 _),hd ys H p)
def akj{K:bg}(Pv:Nat->List V->au->Prop)(aH:↑xs<=sizeLine)(h0:Pv 0 [] H)(aG:∀i ys H,i<=↑xs->Pv i ys H->de K H a xs/\↑ys<=i)
  (aC:∀i x ys H,xs[i]?\x->Pv i ys H->qS Pv g dW bV d2 i x ys H) (hd:∀ys H,Pv ↑xs ys H->∀p,H p=none->Q ⇑p (upd H p (.lst ys))) :
  ∃W:Nat->Nat->List V->au->Prop,(∃m,W 0 m [] H)/\uz (Eu K a) g dW bV d2 Q W:=by
 refine(λi m ys H=>m=↑xs-i/\i<=↑xs/\Pv i ys H,(↑xs,by simp,e0 _,h0),?_);intro i m ys H (rfl,ai,p);have q:=(aG i ys H ai p).1;have D_:=(aG i ys H ai p).2;by_cases et:i<↑xs
 .refine .inr ((xs,xs[i],q,by simp[et]),(),λx H' y=>?_);let(e,y):=y;subst e;exact aC i x ys _ (y xs q) p (λkM H'=>∃c3,c3<↑xs-i/\c3=↑xs-(i+1)/\i+1<=↑xs/\Pv (i+1) kM H') λkM H' r=>(↑xs-(i+1),(),rfl,et,r)
 .have e:i=↑xs:=()
  subst e;exact .inl ((xs,q,b1 _),hd ys H p)
def aio{lo:Int}{n:Nat}{g:hv}{dW:TT}{bV:TE}{d2:St}{Q:cR}{H:au}(Pv:Nat->List V->au->Prop)(aH:n<=sizeLine)(h0:Pv 0 [] H)(aG:∀i ys H,i<=n->Pv i ys H->↑ys<=i)
  (aC:∀i ys H,i<n->Pv i ys H->qS Pv g dW bV d2 i (.int (lo+i)) ys H) (hd:∀ys H,Pv n ys H->∀p,H p=none->Q ⇑p (upd H p (.lst ys))) :
  ∃W:Nat->Nat->List V->au->Prop,(∃m,W 0 m [] H)/\uz (oD lo n) g dW bV d2 Q W:=by
 refine(λi m ys H=>m=n-i/\i<=n/\Pv i ys H,(n,by simp,e0 _,h0),?_);intro i m ys H (rfl,ai,p);have D_:=aG i ys H ai p;by_cases et:i<n
 .refine .inr (et,(),λx H' y=>?_);let(e,y):=y;subst e y;exact aC i ys _ et p (λkM H'=>∃c3,c3<n-i/\c3=n-(i+1)/\i+1<=n/\Pv (i+1) kM H') λkM H' r=>(n-(i+1),(),rfl,et,r)
 .have e:i=n:=()
  subst e;exact .inl (b1 _,hd ys H p)
noncomputable def AI(xs:List V):kd:=(λi _=>i<↑xs,λi H x H'=>H'=H/\xs[i]?\x,λi _=>↑xs<=i)
def Uw{w:World}{K:bg}{it:Addr}{St:Nat->Heap->Prop}(gV:∀A:Around,A.handled=none->Walks P w A it [it] [it] ↑xs abS St)
  (cS:∀i v,abS i v->∃x,xs[i]?\x/\bP x v)
  (lH:∀i h,St i h->∃o n vs,h.get? it\o/\o.cls=.type n/\o.data=.fields vs/\["enumerate","zip","dict_itemiterator","dict_reverseitemiterator","odict_iterator","itertools.zip_longest","itertools.pairwise"].contains n=false)
  (oA:∀i h h',St i h->(∀o,h.get? it\o->h'.get? it\o)->St i h')
  (aer:∀(A:Around) (i:Nat) (s:Shared) (Q:Value->Shared->Prop) (E:Value->Shared->Prop),St i s.heap->Q ⇑it s->wpAny (model P w) A (pyIter ⇑it) Q E s) :
  rE P w K dD (AI xs) [it] it (λi h=>i<=↑xs/\St i h)where
 mem:=by simp
 obj:=λi h st b U=>by
  have e:b=it:=by simpa using U
  subst e;let(o,n,vs,e,_,d,_):=lH i h st.2;exact(o,e,λv z=>by rw[d]at z;cases z)
 keep:=λi h h' st k=>(st.1,oA i h h' st.2 λo e=>k it (by simp) o e)
 item:=by
  intro X Kl hw fY aw i aa s σ H E I hf st bj;subst Kl hw fY;let(f0,f1,f2,e5,f4,fu):=hf it (by simp);refine(gV X.A (I.ok.hd aw)).item i s _ _ bj st.2 λv h' tk aQ mM ka=>?_
  let(x,ae,a7):=cS i v aQ;have aR:Inv X aa σ H {s with heap:=h',toks:=tk}:=I.turned (λb o U e=>ka b o (by simpa using U) e) f0 f1 e5 f4 fu;let(o,n,vs,e,c,d,nm):=lH _ _ mM;exact(v,rfl,xL (s:={s with heap:=h',toks:=tk}) e c d nm (x,H,aR,a7,(rfl,ae),(bj,mM),λb U=>(hf b U).1))
 done:=by
  intro X Kl hw fY aw i aa s σ H E I hf st bj;subst Kl hw fY;let(f0,f1,f2,e5,f4,fu):=hf it (by simp);have e:i=↑xs:=Nat.le_antisymm st.1 bj;subst e;exact(gV X.A (I.ok.hd aw)).done s _ _ st.2 λh' tk ka=>(rfl,I.turned (λb o U e=>ka b o (by simpa using U) e) f0 f1 e5 f4 fu)
 self:=λA i s Q E st h=>aer A i s Q E st.2 h
noncomputable def kn(c:Nat):Str:=⟨#[c]⟩
noncomputable def o'(x:Str):List V:=x.cps.toList.map λc=>V.str (kn c)
def VH(x:Str):↑(o' x)=x.cps.size:=by unfold o';simp
def anT{x:Str}{i c:Nat}(h:x.cps[i]?\c):(o' x)[i]?\(.str (kn c)):=by
 unfold o';rw[dF,WR,h];rfl
def SQ{x:Str}{i:Nat}{v:Value}(h:SignAt x i v):∃y,(o' x)[i]?\y/\bP y v:=by
 let(c,u,aw,rfl):=h;exact(.str (kn c),anT aw,u,rfl)
section
variable{X:a3}{dD:Expr}
def Py(dr:TE):TI:=λσ H R=>dr σ H λx H1=>∃z,x=.str z/\R (AI (o' z)) H1
theorem aeo(aG:bu X l dr):p3 X dD l (Py dr):=by
 intro aa s σ H R I h;refine bE (aG aa s σ H _ I h) λv s1 cn=>eu cn λx H1 aR bK bT=>?_
 let(z,e,q):=bT;subst e;let(t,rfl):=bK;have ij:∀b∈[↥s1],jG X aa H1 b:=λb U=>by
  have e:b=↥s1:=by simpa using U
  subst e;exact aR.o1 (b1 _) (aR.a6.fresh (b1 _))
 have aH:=VH z;cases aV:z.cps.all (· < 128)with
 | false=>
  refine wpAny_pyIter_wide aV (↥s1,[↥s1],λi h=>i<=↑(o' z)/\h.IsStrIter ↥s1 "str_iterator" z t i,_,H1,rfl,aR.kept (t':=s1.toks) λb o e=>ea _ e,
   Uw (λA iN=>by rw[aH];exact Walks.strWide iN _ z t) (λi v=>SQ) (λi h ⟨o,e,c,d⟩=>(o,_,_,e,c,d,∅)) (λi h h' ⟨o,e,r⟩ k=>(o,k o e,r)) (λA i s Q E st q=>wpAny_pyIter_striter_wide st q),
   (e0 _,_,hl _ rfl,rfl,rfl),ij,q)
 | true=>
  refine wpAny_pyIter_ascii aV (↥s1,[↥s1],λi h=>i<=↑(o' z)/\h.IsStrIter ↥s1 "str_ascii_iterator" z t i,_,H1,rfl,aR.kept (t':=s1.toks) λb o e=>ea _ e,
   Uw (λA iN=>by rw[aH];exact Walks.strAscii iN _ z t) (λi v=>SQ) (λi h ⟨o,e,c,d⟩=>(o,_,_,e,c,d,∅)) (λi h h' ⟨o,e,r⟩ k=>(o,k o e,r)) (λA i s Q E st q=>wpAny_pyIter_striter_ascii st q),
   (e0 _,_,hl _ rfl,rfl,rfl),ij,q)
end
def asp(Pv:Nat->List V->au->Prop)(aH:↑xs<=sizeLine)(h0:Pv 0 [] H)(aG:∀i ys H,i<=↑xs->Pv i ys H->↑ys<=i)
  (aC:∀i x ys H,xs[i]?\x->Pv i ys H->qS Pv g dW bV d2 i x ys H) (hd:∀ys H,Pv ↑xs ys H->∀p,H p=none->Q ⇑p (upd H p (.lst ys))) :
  ∃W:Nat->Nat->List V->au->Prop,(∃m,W 0 m [] H)/\uz (AI xs) g dW bV d2 Q W:=by
 refine(λi m ys H=>m=↑xs-i/\i<=↑xs/\Pv i ys H,(↑xs,by simp,e0 _,h0),?_);intro i m ys H (rfl,ai,p);have D_:=aG i ys H ai p;by_cases et:i<↑xs
 .refine .inr (et,(),λx H' y=>?_);let(e,y):=y;subst e;exact aC i x ys _ y p (λkM H'=>∃c3,c3<↑xs-i/\c3=↑xs-(i+1)/\i+1<=↑xs/\Pv (i+1) kM H') λkM H' r=>(↑xs-(i+1),(),rfl,et,r)
 .have e:i=↑xs:=()
  subst e;exact .inl (b1 _,hd ys H p)
section
variable{X:a3}
def L7:V->Option Int->Option Int->au->cR->Prop:=λx lo ai H Q=>∃z,x=.str z/\↑z<=sizeLine/\Q (.str (nh z lo ai)) H
theorem Gk:B8 X L7:=by
 intro aa s σ H x v ks kP lo ai bJ Q I a7 aC pl pu h;let(z,rfl,aH,q):=h;let(t,rfl):=a7;refine("str",_,F.slot_str_getitem.lookup,typeIs_str s z t,?_);have fin:∀t' k,gY X aa σ Q (.str (nh z lo ai) t') {s with toks:=k}:=λt' k=>(.str _,H,I.tok _,(_,rfl),q)
 cases pl with
 |none=>
  cases pu with
  |none=>exact wpAny_getItem_str_slice (l:=none) (u:=none) (st:=none) aC rfl (post_val_or_str (c9 (xg z _ _) aH,fin))
  |int j IH=>exact wpAny_getItem_str_slice (l:=none) (u:=some (p'p j IH)) (st:=none) aC rfl (post_val_or_str (c9 (xg z _ _) aH,fin))
 |int i abH=>
  cases pu with
  |none=>exact wpAny_getItem_str_slice (l:=some (p'p i abH)) (u:=none) (st:=none) aC rfl (post_val_or_str (c9 (xg z _ _) aH,fin))
  |int j IH=>exact wpAny_getItem_str_slice (l:=some (p'p i abH)) (u:=some (p'p j IH)) (st:=none) aC rfl (post_val_or_str (c9 (xg z _ _) aH,fin))
noncomputable def a5(ys:List Str):List V:=ys.map V.str
theorem afn:∀{ys:List Str} {us:List Value},cq (a5 ys) us->StrsAre us ys:=by
 intro ys
 induction ys with
 |nil=>intro us r;cases r;exact .nil
 | cons y ys cp=>
  intro us r;cases r with
  |cons bK fc=>
   let(t,rfl):=bK;exact .cons y t (cp fc)
theorem aaV:∀(l:List (Str×Tok)),cq (a5 (l.map (·.1))) (strValues l)
 |[]=>.nil
 |(x,t)::r=>.cons (t,rfl) (aaV r)
def N8(K:bg):V->List V->au->cR->Prop:=λx vs H Q=>∃sep p ys,x=.str sep/\vs=[⇑p]/\aE K H p (a5 ys)/\(ys.map (·.length)).sum+↑ys*↑sep<=16777216/\Q (.str (rS sep ys)) H
def yT:vA X "str.join" (N8 X.K):=by
 intro aa s σ H x xs v us Q I a7 cM h;let(sep,p,ys,rfl,rfl,ay,aH,q):=h;let(t,rfl):=a7;let(u,rfl,es):=lz cM;cases es;let(a',r,pl,_):=I.list ay;exact join_list pl.isList (by simpa using afn r) aH λt' k=>(.str _,H,I.tok _,(_,rfl),q)
end
def afG {prog:Program} {w:World} {A:Around} {x y:Str} {t u:Tok} (aJ:(↑y==0)=false)
  (h:∀l k,l.map (·.1)=jq x y->Q (.ref ↥s) {s with heap:=s.heap.push {cls:=.type "list",data:=.seq (strValues l).toArray},toks:=k}) (hsz:↑x+2<=sizeLine) :
  wpAny (model prog w) A (call (.builtin "str.split") [.str x t,.str y u]) Q E s:=by
 have a0:↑(ajE x (uh x y 0 ↑x (↑x+1)) ↑y)<=sizeLine:=by
  have aq:=StrLaws.occ_length_le x y 0 ↑x (↑x+1);rw[length_partsBetween];omega
 cases af:(decide (↑x<↑y)||decide (afF x<afF y))
 .cases hf:(uh x y 0 ↑x (↑x+1)).isEmpty
  .refine call_meets GO (typeIs_str _ _ _) Yk (VR _ _) (meets_str_split_sep x y t u af aJ hf () a0) ?_;show wants Q E _ {s with toks:=_,heap:=s.heap.push {cls:=.type "list",data:=.seq (strsFrom s.toks (ajE x (uh x y 0 ↑x (↑x+1)) ↑y)).toArray} };rw[strsFrom_eq];exact h (numbered s.toks _) _ ((numbered_texts _ _).trans ((if_neg (ne_true_of_eq_false af)).trans (if_neg (ne_true_of_eq_false hf))).symm)
  .exact call_meets GO (typeIs_str _ _ _) Yk (VR _ _) (meets_str_split_not_found x y t u af aJ hf)
    (h [(p'p x t)] s.toks ((if_neg (ne_true_of_eq_false af)).trans (if_pos hf)).symm)
 .exact call_meets GO (typeIs_str _ _ _) Yk (VR _ _) (meets_str_split_cannot_occur x y t u af)
   (h [(p'p x t)] s.toks (if_pos af).symm)
section
variable{X:a3}
def JS:V->List V->au->cR->Prop:=λx vs H Q=>∃z y,x=.str z/\vs=[.str y]/\↑y≠0/\↑z+2<=sizeLine/\↑(jq z y)<=sizeLine/\∀p,H p=none->Q ⇑p (upd H p (.lst (a5 (jq z y))))
def aa8:vA X "str.split" JS:=by
 intro aa s σ H x xs v us Q I a7 cM h;let(z,y,rfl,rfl,aJ,aH,a0,q):=h;let(t,rfl):=a7;let(u,rfl,es):=lz cM;let(atG,rfl):=es;refine afG (by simpa using aJ) (λl k aG=>?_) aH;refine(.ref ↥s,_,I.laid (t':=k) (o:=.lst (a5 (jq z y))) (λb o e=>ea _ e) (b1 _) (by unfold a5;rw[aO];exact a0,strValues l,0,by rw[<- aG];exact aaV l,hl _ rfl),rfl,q _ (I.a6.fresh (b1 _)))
def apB:ky X (.type "int") (λxs H Q=>∃z n,xs=[.str z]/\intText? z\n/\↑z<=640/\Q (.int n) H):=by
 intro aa s σ H xs us Q I r h;let(z,n,rfl,a0,aH,q):=h;let(u,rfl,t,rfl):=lz r;exact PySem.W.KIN.call_text a0 aH (.int n,H,I.tok _,(_,rfl),q)
theorem JP:∀{bs:List Bool} {us:List Value},cq (bs.map V.bC) us->us=bs.map kg
 |[],_,.nil=>rfl
 |b::bs,_,.cons r t=>by
  have e:_=kg b:=r;rw[e,JP t];rfl
theorem Zc{A:Around}(bs:List Bool):TruthOf X.prog X.w A (λi v=>(bs.map kg).toArray[i]?\v) (λi=>bs.getD i true):=by
 intro i v s Q E cS a9;have e:(bs.map kg)[i]?\v:=by simpa using cS
 rw[dF]at e;cases q:bs[i]? with
 |none=>rw[q]at e;cases e
 |some b=>
  rw[q]at e;have br:kg b=v:=dZ e;subst br;refine wpAny_truthy_bool ?_;have:bs.getD i true=b:=by simp[DB,q]
  have F0:Q (bs.getD i true) s:=a9;rw[this]at F0;exact F0
def KM(bs:List Bool):(gN ↑bs).all (λi=>bs.getD i true)=bs.all id:=by
 rw[m3];simp only[oX,sZ,id];constructor
 .intro h b U;let(i,ai,e):=am'.mp U;have:=h i ai;simp[DB,ai,e]at this;exact this
 .intro h i ai;simp[DB,ai];exact h _ (mL ai)
def asW(bs:List Bool):(gN ↑bs).any (λi=>bs.getD i true)=bs.any id:=by
 rw[m3];simp only[uB,sZ,id];constructor
 .intro (i,ai,h);refine(bs[i],mL ai,?_);simp[DB,ai]at h;exact h
 .intro (b,U,h);let(i,ai,e):=am'.mp U;refine(i,ai,?_);simp[DB,ai,e];exact h
def ag5(aw:X.calm=true):ky X (.builtin "all") (λxs H Q=>∃(p:Addr) (bs:List Bool),xs=[⇑p]/\aE X.K H p (bs.map V.bC)/\Q (.bC (bs.all id)) H):=by
 intro aa s σ H xs us Q I r h;let(p,bs,rfl,ay,q):=h;let(u,rfl,es):=lz r;cases es;let(a',cM,pl,_):=I.list ay;have e:=JP cM;subst e;refine call_all_walk (wpAny_pyIter_list pl.isList ?_);have bX:p≠↥s:=gs (by let(o,_,aX,_):=pl;exact en aX);refine(↥s,_,_,_,_,_,λi=>bs.getD i true,rfl,Cs (show X.A.in1.handled=none from I.ok.hd aw) _ p bX (bs.map kg).toArray,((_,hl _ rfl,rfl,rfl),pl.isList.at λo e=>ea _ e),Zc bs,λh' tk ka=>?_);refine(.bC (bs.all id),H,I.kept λb o e=>ka b o (by simpa using gs (en e)) (ea _ e),?_,q);show kg _=kg _;rw[show(bs.map kg).toArray.size=↑bs by simp,KM]
def akA(aw:X.calm=true):ky X (.builtin "any") (λxs H Q=>∃(p:Addr) (bs:List Bool),xs=[⇑p]/\aE X.K H p (bs.map V.bC)/\Q (.bC (bs.any id)) H):=by
 intro aa s σ H xs us Q I r h;let(p,bs,rfl,ay,q):=h;let(u,rfl,es):=lz r;cases es;let(a',cM,pl,_):=I.list ay;have e:=JP cM;subst e;refine call_any_walk (wpAny_pyIter_list pl.isList ?_);have bX:p≠↥s:=gs (by let(o,_,aX,_):=pl;exact en aX);refine(↥s,_,_,_,_,_,λi=>bs.getD i true,rfl,Cs (show X.A.in1.handled=none from I.ok.hd aw) _ p bX (bs.map kg).toArray,((_,hl _ rfl,rfl,rfl),pl.isList.at λo e=>ea _ e),Zc bs,λh' tk ka=>?_);refine(.bC (bs.any id),H,I.kept λb o e=>ka b o (by simpa using gs (en e)) (ea _ e),?_,q);show kg _=kg _;rw[show(bs.map kg).toArray.size=↑bs by simp,asW]
def anD:ky X (.builtin "isinstance") (λxs H Q=>∃x T t b,xs=[x,.ty T]/\mC X.K H x t/\alO X.K t (.type T)\b/\Q (.bC b) H):=by
 intro aa s σ H xs us Q I r h;let(x,T,t,b,rfl,ty,e,q):=h;let(u,zV,rfl,a7,fc):=G1 r;cases fc;exact aiv I a7 ty e λtk=>(.bC b,H,I.tok _,rfl,q)
end
def eZ{X:a3}{N:List Str}(h:N.Nodup)(e:X.N=N):X.N.Nodup:=e ▸ h
noncomputable def aa5(sc scope:Scope):Bool:=
 (scope.kind == .function)&&scope.names.all (λy=>y.2 != .cell)&&scope.names.all (λy=>y.2 != .free||sc.names.lookup y.1==some .cell||sc.names.lookup y.1==some .free) &&
  scope.names.all (λy=>y.2 != .local||scope.names.lookup y.1==some .local)
def Gc{env:Env}(he:env.scope=sc)(h:aa5 sc scope=true):tq env scope:=by
 subst he;unfold aa5 at h;simp only[jP,oX]at h;let(((af,aj),bb),dt):=h;refine(by simpa using af,λy aJ e=>?_,λy aJ e=>?_,λy aJ e=>?_)
 .have:=aj y aJ;rw[e]at this;exact absurd this ∅
 .have:=bb y aJ;rw[e]at this;simp only[yQ]at this;rcases this with(z|z)|z
  .exact absurd z ∅
  .exact .inl (show env.scope.names.lookup y.1\.cell by simpa using z)
  .exact .inr (show env.scope.names.lookup y.1\.free by simpa using z)
 .have:=dt y aJ;rw[e]at this;simp only[yQ]at this;rcases this with z|z
  .exact absurd z ∅
  .simpa using z
noncomputable def abQ(M:List Str)(scope:Scope)(N:List Str)(sel:List (Option Nat)):Bool:=
 ↑sel==↑N&&(sel.zip N).all λp=>match p.1 with|none=>true|some j=>M[j]? == some p.2&&scope.names.lookup p.2==some .free
def g_{N:List Str}(h:abQ M scope N sel=true):z_ M scope N sel:=by
 unfold abQ at h;simp only[jP,oX]at h;refine(by simpa using h.1,λi j x aq aA=>?_);have hm:(p'p (some j) x)∈sel.zip N:=by
  rw[List.mem_iff_getElem?];exact(i,by rw[List.getElem?_zip_eq_some];exact(aq,aA))
 have:=h.2 _ hm;simp only[jP]at this;exact(by simpa using this.1,by simpa using this.2)
noncomputable def qO:dJ->Bool
 | .gK _=>false
 | .dg _ u=>qO u
 |_=>true
def aI(H:au):Prop:=∀b o,H b\o->qO o=true
theorem ce.back{w:World}{h h':Heap}:∀(o:dJ),qO o=true->ce P w H' h' a o->ce P w H h a o->ce P w H h' a o
 | .lst _,_,x,_=>x
 | .tup _,_,x,_=>x
 | .aY _,_,x,_=>x
 | .gK _,e,_,_=>absurd e (by unfold qO;decide)
 | .set _ _,_,x,_=>x
 | .ins _ _ _,_,x,y=>(y.1,x.2)
 | .own _,_,x,_=>x
 | .Ht _,_,x,_=>x
 | .met _ _,_,x,_=>x
 | .DQ _ _,_,x,_=>x
 | .dg b0 u,e,x,y=>(x.1,ce.back u (by unfold qO at e;exact e) x.2 y.2)
 | .hz _,_,x,_=>x
 | .ext _,_,x,_=>x
section
variable{P:Program}{w:World}{K:bg}{mg:Str->Option Value}{base:Heap}
theorem cz.forget{k:Nat}{fd:FuncData}(F:cz P w K mg base dy k f fd ps sp)
  (h:∀vs H Q E,N3 vs H Q E->aI H/\sp vs H (λv H'=>aS H H'/\Q v H) E):cz P w K mg base dy k f fd ps N3:=by
 refine(λvs H Q E q=>F.len vs H _ E (h vs H Q E q).2,λA outer s H args us vs Q E ao he U aQ aC=>?_);let(bH,q):=h vs H Q E aC;refine codeAny_mono (F.run A outer s H args us vs _ E ao he U aQ q) λr s' ay=>?_
 cases r with
 |error e=>exact ay
 | ok dj=>
  cases dj with
  |next=>exact ay
  |brk=>exact ay
  |cont=>exact ay
  |ret u=>
   let(v,H',os,bare,un,a6,cM,bo,cW):=ay;exact(v,H,os,bare,(un.keep,un.slot,λ_ _ _ n _=>n,un.there,λ_ _ z=>z,λ_ _ _ z=>z,λ_ ps z=>(#[],by rw[z];simp)),λa o e=>(a6 a o (bo a o e)).back o (bH a o e) (he.a6 a o e),cM,cW)
end
def bk{p:Addr}(h:H p=none):aS H (upd H p o):=λb u q=>by rw[ax (du q h)];exact q
def aS.gW{p:Addr}(s:aS H H1)(h:H p=none):aS H (upd H1 p o):=λb u q=>by rw[ax (du q h)];exact s b u q
structure Sc(K:bg)(a:Addr)(ns:List Int)(H:au):Prop where
 Ar:(∃o,H a\(.dg o (.lst (ns.map V.int))))\/∃(o:Obj) (a':Array Value) (n:Nat),K.lookup a\o/\o.cls=.type "list"/\o.dict=none/\o.data=.seq a' n/\a'.size<=sizeLine/\cq (ns.map V.int) a'.toList
 bH:aI H
section
variable{K:bg}{a p:Addr}{ns:List Int}{H H':au}{o:dJ}
def Sc.seq(s:Sc K a ns H):aE K H a (ns.map V.int):=by
 rcases s.Ar with⟨o,h⟩|h
 .exact .inl (.inr (o,h))
 .exact .inr h
def Sc.new(s:Sc K a ns H)(ag:H p=none)(aX:qO o=true:=by rfl):Sc K a ns (upd H p o):=by
 refine(?_,λb u e=>?_)
 .rcases s.Ar with⟨b0,h⟩|h
  .exact .inl (b0,by rw[ax (du h ag)];exact h)
  .exact .inr h
 .by_cases U:b=p
  .subst U;rw[aM]at e;cases e;exact aX
  .rw [ax U]at e;exact s.bH b u e
def Sc.set(s:Sc K a ns H)(ag:H p\u)(bp:∀b0 z,u≠.dg b0 z)(aX:qO o=true:=by rfl):Sc K a ns (upd H p o):=by
 refine(?_,λb x e=>?_)
 .rcases s.Ar with⟨b0,h⟩|h
  .refine .inl (b0,?_);have bX:a≠p:=λz=>by subst z;rw[ag]at h;exact bp _ _ (dZ h)
   rw[ax bX];exact h
  .exact .inr h
 .by_cases U:b=p
  .subst U;rw[aM]at e;cases e;exact aX
  .rw [ax U]at e;exact s.bH b x e
end
def je:bootBuiltins "len"\(.builtin "len"):=PySem.boot_len
def ama:bootBuiltins "all"\(.builtin "all"):=∅
def ajC:bootBuiltins "any"\(.builtin "any"):=∅
def KO:bootBuiltins "min"\(.builtin "min"):=∅
def PY:bootBuiltins "max"\(.builtin "max"):=∅
def akd:bootBuiltins "sum"\(.builtin "sum"):=∅
def agQ:bootBuiltins "isinstance"\(.builtin "isinstance"):=∅
def L3:bootBuiltins "int"\(.type "int"):=∅
def Cl:bootBuiltins "str"\(.type "str"):=∅
def xo:bootBuiltins "list"\(.type "list"):=∅
def Kp:bootBuiltins "dict"\(.type "dict"):=∅
def lX.same(h:lX H a o)(s:aS H H'):lX H' a o:=by
 rcases h with h|⟨b0,h⟩
 .exact .inl (s _ _ h)
 .exact .inr (b0,s _ _ h)
theorem aE.same{K:bg}(h:aE K H a xs)(s:aS H H'):aE K H' a xs:=by
 rcases h with h|h
 .exact .inl (h.same s)
 .exact .inr h
theorem aI.upd{p:Addr}(h:aI H)(aX:qO o=true:=by rfl):aI (upd H p o):=λb u e=>by
 by_cases U:b=p
 .subst U;rw[aM]at e;cases e;exact aX
 .rw [ax U]at e;exact h b u e
def Sc.same{K:bg}{ns:List Int}(s:Sc K a ns H)(bo:aS H H')(bH:aI H'):Sc K a ns H':=by
 refine(?_,bH);rcases s.Ar with⟨o,h⟩|h
 .exact .inl (o,bo _ _ h)
 .exact .inr h
structure Yv(K:bg)(C:Addr)(m:Str)(f:Addr):Prop where
 i8:amF K C (.type "type")=true
 fd:aq' K ⇑C (.type "type") m\(.val ⇑f)
 ga:xK K ⇑C "__getattribute__"\(some (.builtin "type.__getattribute__"))
 bM:sD K ⇑f=true
structure nI(P:Program)(w:World)(K:bg)(mg:Str->Option Value)(base:Heap)(CX:jE)(k:Nat)(nF:Addr->Prop)(m:Str)(ps:List Str)(nJ:Addr->bW):Prop where
 ok:∀C,nF C->∃f fd,hx K C/\fa K C m f/\cz P w K mg base CX k f fd ps (nJ C)/\b6 K fd ps []
def Pl(nF:Addr->Prop)(m:Str)(nJ:Addr->bW)(E:ee)(bc:TE)(t:fG):TE:=λσ H Q=>bc σ H λx H1=>∃a C ak aT,x=⇑a/\H1 a\(.ins C ak aT)/\nF C/\aT.lookup m=none /\
 t σ H1 λvs ar=>nJ C (x::vs) ar Q E
section
variable{X:a3}{CX:jE}{k:Nat}{f C:Addr}{fd:FuncData}{ps:List Str}{sp:bW}{dvs:List V}{ds:List Value}{E:ee}{x m:Str}{p pos e2:Pos}{e o:Expr}{aU:List Expr}{bc:TE}{t:fG}
def Io(bj:kK X x)(hm:X.mg x\⇑C)(c:Yv X.K C m f)(F:cz X.prog X.w X.K X.mg X.base CX k f fd ps sp)(ao:eR k X.A)(U:b6 X.K fd ps ds)(hd:cq dvs ds)(ae:pk CX X E)(aV:ho X (e::aU) t)
  (j0:(x==("__debug__":Str))=false:=by decide) (g7:starEach (e::aU) X.env=(p'p false (eval e X.env))::starEach aU X.env:=by rfl) (cE:(backTo pos (starEach aU X.env)).any (·.1)=false:=by rfl)
  (c4:eval (.Call (.Attribute (.Name x p) m e2) (e::aU) [] pos) X.env=(do
   let dw <- eval (.Name x p) X.env
   standAt e2.atName
   let (f,first) <- holding [dw] (getMethod dw m pl)
   callWith pos f first (backTo pos (starEach (e::aU) X.env)) (backToKw pos (keywordEach [] X.env))):=by rfl) :
  bu X (.Call (.Attribute (.Name x p) m e2) (e::aU) [] pos) (zm sp dvs E t):=by
 intro aa s σ H Q I h;refine wF (pl:=pl) (vd I bj hm ?_ j0) c4;refine afH I.eH c.ga (aoG I.eH c.i8 c.fd rfl ?_);have aR:=I.tok (s.toks+1);refine x2 (first:=[]) (h₀:=X.base) I.ok.mod.q0 c.bM (bE (aV pos aa _ σ H _ aR h) λus s2 ⟨vs,ar,bz,r,cX⟩=>(bz.eH,?_)) g7 cE;exact xA F ao U hd ae bz r cX
variable{nF:Addr->Prop}{nJ:Addr->bW}
def akc(he:bu X o bc)(V:nI X.prog X.w X.K X.mg X.base CX k nF m ps nJ)(ao:eR k X.A)(ae:pk CX X E)(aV:ho X (e::aU) t)
  (g7:starEach (e::aU) X.env=(p'p false (eval e X.env))::starEach aU X.env:=by rfl) (cE:(backTo pos (starEach aU X.env)).any (·.1)=false:=by rfl)
  (c4:eval (.Call (.Attribute o m e2) (e::aU) [] pos) X.env=(do
   let dw <- eval o X.env
   standAt e2.atName
   let (f,first) <- holding [dw] (getMethod dw m pl)
   callWith pos f first (backTo pos (starEach (e::aU) X.env)) (backToKw pos (keywordEach [] X.env))):=by rfl) :
  bu X (.Call (.Attribute o m e2) (e::aU) [] pos) (Pl nF m nJ E bc t):=by
 intro aa s σ H Q I h;refine wF (pl:=pl) (bE (he aa s σ H _ I h) λu s1 cN=>?_) c4;let(x,H1,aR,a7,a,C,ak,aT,ex,dP,ok,l,q):=cN;subst ex;obtain rfl:u=dK a:=a7;let(f,fd,c,hm,F,U):=V.ok C ok;refine Ax aR dP c hm l ?_;refine x2 (first:=[⇑a]) (h₀:=X.base) I.ok.mod.q0 hm.bM (bE (aV pos aa s1 σ H1 _ aR q) λus s2 ⟨vs,ar,bz,r,cX⟩=>(bz.eH,?_)) g7 cE;exact xA (us:=⇑a::us) (vs:=⇑a::vs) (dvs:=[]) F ao U .nil ae bz (.cons rfl r) (by rw[oE];exact cX)
def Gp(he:bu X o bc)(V:nI X.prog X.w X.K X.mg X.base CX k nF m ps nJ)(ao:eR k X.A)(ae:pk CX X E)
  (c4:eval (.Call (.Attribute o m e2) [] [] pos) X.env=(do
   let dw <- eval o X.env
   standAt e2.atName
   let (f,first) <- holding [dw] (getMethod dw m pl)
   callWith pos f first (backTo pos (starEach [] X.env)) (backToKw pos (keywordEach [] X.env))):=by rfl) :
  bu X (.Call (.Attribute o m e2) [] [] pos) (Pl nF m nJ E bc zY):=by
 intro aa s σ H Q I h;refine wF (pl:=pl) (bE (he aa s σ H _ I h) λu s1 cN=>?_) c4;let(x,H1,aR,a7,a,C,ak,aT,ex,dP,ok,l,q):=cN;subst ex;obtain rfl:u=dK a:=a7;let(f,fd,c,hm,F,U):=V.ok C ok;refine Ax aR dP c hm l ?_;exact asU (first:=[⇑a]) aR.eH hm.bM (xA (us:=[⇑a]) (vs:=[⇑a]) (dvs:=[]) F ao U .nil ae aR (.cons rfl .nil) q)
end
theorem gf:∀{aT:List (Str×V)} (b2:List Str),aT.map (·.1)=b2->b2.contains f=false->c_ f v aT=aT++[(p'p f v)]
 |[],_,_,_=>rfl
 | (g,y)::r,b2,e,h=>by
  cases e;rw[e1,Dn]at h;have af:=(z5.mp h);have bX:¬g=f:=λz=>by
   have:=af.1;rw[z]at this;simp at this
  show(if g=f then _ else _)=_;rw[if_neg bX,gf _ rfl af.2];rfl
def h5{aT:List (Str×V)}(h:↑aT<n):↑(c_ f v aT)<n+1:=fW (KD f v aT) ()
theorem gb:∀{aT:List (Str×V)} (b2:List Str) (i:Nat),aT.map (·.1)=b2->b2.findIdx? (· == f)\i->aT[i]?\(p'p f v)->aT.lookup f\v
 |[],_,_,_,_,h=>by simp at h
 | (g,y)::r,b2,i,e,h,aQ=>by
  cases e;rw[e1,List.findIdx?_cons]at h;rw[qw];by_cases e:g=f
  .subst e;rw[beq_self_eq_true,if_pos rfl]at h;cases h;have:(p'p g y)=(p'p g v):=by simpa using aQ
   cases this;rw[beq_self_eq_true]
  .rw [beq_eq_false_iff_ne.mpr e,if_neg ∅]at h;let(j,aN,rfl):=CI.mp h;rw[beq_eq_false_iff_ne.mpr (λz=>e z.symm)];exact gb _ j rfl aN (by simpa using aQ)
theorem w2:∀{aT:List (Str×V)} (b2:List Str),aT.map (·.1)=b2->b2.contains f=false->aT.lookup f=none
 |[],_,_,_=>rfl
 |(g,y)::r,b2,e,h=>by
  cases e;rw[e1,Dn]at h;have af:=(z5.mp h);rw[qw,af.1];exact w2 _ rfl af.2
def Inv.Fs{X:a3}{aa:List (Addr×Obj)}{σ:St}{H:au}{s:Shared}{h':Heap}{t':Nat}{b4:List Addr}(I:Inv X aa σ H s)(k:∀b o,b∉b4->s.heap.get? b\o->h'.get? b\o)
  (hf:∀b∈b4,jG X aa H b):Inv X aa σ H {s with heap:=h',toks:=t' }:=by
 have A3:∀b u,H b\u->b∉b4:=λb u e z=>by rw[(hf b z).1]at e;cases e
 refine I.step (g':=s.gens) (d':=s.drawn) (ch:=b4) (λb U=>?_) (λb o _ _ aw e _=>k b o aw e) (λb o _ _ aw e _=>(o.slots,k b o aw e)) (λ_ _ _ _ n=>n)
  (λb o aw e=>(o,k b o aw e)) (λ_ _ e=>e) (λ_ _ _ e=>e) (λb ps e=>(#[],by rw[e];simp)) (λm hm=>?_) (λb u e=>?_) I.bare
 .let(f0,f1,f2,e5,f4,fu):=hf b U;exact(e5,f1,f4,fu)
 .let(o,aU,ep,aX,r):=hm;exact(o,aU,ep,k _ o (λz=>(hf _ z).2.1 rfl) aX,r)
 .refine(I.a6 b u e).nE (λc v aw q=>k c v ?_ q) (λ_ q=>q) λ_ _ q=>q
  rcases aw with z|z
  .rw [z];exact A3 b u e
  .exact A3 c _ z
noncomputable def Dl(K:bg)(a:Addr):kd:=
 (λi H=>∃xs x,aE K H a xs/\xs[i]?\x,λi H v H'=>∃p y,H p=none/\v=⇑p/\(∀xs,aE K H a xs->xs[i]?\y)/\H'=upd H p (.tup [.int i,y]),λi H=>∃xs,aE K H a xs/\↑xs<=i)
def ahV {P:Program} {w:World} {K:bg} {aU:List Expr} {k} {pos:Pos} (a e it:Addr) (bX:e≠it) :
  rE P w K (.Tuple aU k pos) (Dl K a) [e,it] e (λi h=>∃old,IsEnum h e it ((i:Nat):Int) old/\h.IsListIter it a i)where
 mem:=by simp
 obj:=λi h ⟨old,he,ai⟩ b U=>by
  simp only[e_,r1,or_false]at U;rcases U with rfl|rfl
  .exact (_,he,λv z=>by
    have h9:TY _=X3 v:=z;cases h9)
  .let(o,q,c,d):=ai;exact(o,q,λv z=>by rw[d]at z;cases z)
 keep:=λi h h' ⟨old,he,ai⟩ k=>(old,k e (by simp) _ he,ai.at λo q=>k it (by simp) o q)
 item:=by
  intro X cS hw fY aw i aa s σ H E I hf ⟨old,he,ai⟩ bj;subst cS hw fY;let(xs,x,ay,ae):=bj;let(a',cM,p,aH):=I.list ay;let(u,bp,es):=cM.get ae;refine wpAny_pyNext_enum_item he ai p.isList (x:=u) (by simpa using bp) bX λaf PB asa Hj Ep Bf=>(_,rfl,?_)
  refine wpAny_letOwnedTupleGo_enum PB λaj Ow iE=>?_
  replace iE:w5 e af aj:=iE;have yA:e<↥s:=en he;have az:∀b o,b∉[e,it]->s.heap.get? b\o->aj.get? b\o:=λb o U q=>by
   simp only[e_,r1,or_false,not_or]at U;exact iE.extBut _ _ U.1 (Bf b o U.1 U.2 q)
  have aR:Inv X aa σ H {s with heap:=aj,toks:=s.toks+1}:=I.Fs az hf;have ij:jG X aa H ↥s:=I.o1 (b1 _) (I.a6.fresh (b1 _));have vE:aj.get? ↥s=some {cls:=.type "tuple",data:=.seq #[.int i s.toks,u]}:=(iE.2 _ (xQ yA)).trans Hj;have bz:=aR.adopt (o:=.tup [.int i,x]) ij ((by show 2<=sizeLine;decide,_,vE,rfl),[.int i s.toks,u],.cons (_,rfl) (.cons es .nil),(_,vE,rfl,_,rfl));refine(.ref ↥s,_,bz,rfl,(_,x,ij.1,rfl,λys aJ=>by rw[I.Ab aJ ay];exact ae,rfl),(u,?_,?_),λb U=>?_)
  .have aq:((i+1:Nat):Int)=(i:Int)+1:=()
   rw[aq];exact Ow
  .exact asa.extBut iE.extBut (cT bX)
  .have et:b<↥s:=by
    simp only[e_,r1,or_false]at U;rcases U with rfl|rfl
    .exact yA
    .let(o,q,_):=ai;exact en q
   rw[ax (gs et)];exact(hf b U).1
 done:=by
  intro X cS hw fY aw i aa s σ H E I hf ⟨old,he,ai⟩ bj;subst cS hw fY;let(xs,ay,ae):=bj;let(a',cM,p,aH):=I.list ay;have aG:=↑cM;exact wpAny_pyNext_enum_end (I.ok.hd aw) he ai p.isList (by simp;omega) λh' bF=>(rfl,I.Fs (t':=s.toks) (λb o U q=>bF b o (λz=>U (by simp[z])) q) hf)
 self:=λ_ _ _ _ _ ⟨_,he,_⟩ h=>wpAny_pyIter_enum he h
def afb:bootBuiltins "enumerate"\(.type "enumerate"):=∅
section
variable{X:a3}
def IW(K:bg)(bc:fG):TI:=λσ H R=>bc σ H λvs H1=>∃a,vs=[⇑a]/\(∃xs,aE K H1 a xs)/\R (Dl K a) H1
theorem Gu{k}{p pos:Pos}(bj:kK X "enumerate")(hm:X.mg "enumerate"=none)(aV:ho X [a] bc)(aC:starEach [a] X.env=[(p'p false (eval a X.env))]:=by rfl) :
  p3 X (.Tuple aU k xt) (.Call (.Name "enumerate" p) [a] [] pos) (IW X.K bc):=by
 intro aa s σ H R I h;refine Call_ (ye I bj hm afb (SR (bE (aV pos aa s σ H _ I h) λus s1 cN=>?_) aC rfl));let(vs,H1,aR,bK,bT):=cN;let(a,e,(xs,ay),q):=bT;subst e;cases bK with
 | cons r vl=>
  cases vl;cases r;let(a',cM,pl,aH):=aR.list ay;refine call_enumerate_list pl.isList λh' r6 OJ hsz az=>wpAny_pyIter_enum r6 ?_
  refine(↥s1+1,[↥s1+1,↥s1],_,_,H1,rfl,aR.kept (t':=s1.toks) az,ahV a _ _ (Nat.succ_ne_self _),(_,r6,OJ),λb U=>?_,q);have fv:↥s1<=b:=by
   simp only[e_,r1,or_false]at U;rcases U with rfl|rfl
   .exact xr _
   .exact b1 _
  exact aR.o1 fv (aR.a6.fresh fv)
end
def mw{k:Nat}{t:ue}{K:bg}(fY:X.K=K)(aw:X.calm=true)(h:Aa X aU t)
  (a0:↑(assignEach aU X.env)=n:=by rfl) (g7:(assignEach aU X.env).findIdx? (·.1)=none:=by rfl):pg X (.Tuple aU k pos) (x3 K n t):=by
 subst fY;exact AT aw h a0 g7
section
variable{X:a3}
def Ir:V->List V->au->cR->Prop:=λx vs H Q=>∃l xs i y,x=⇑l/\vs=[.int i,y]/\H l\(.lst xs)/\0<=i/\i<2 ^ 62/\i<=(↑xs:Int)/\↑xs<sizeLine/\Q .b5 (upd H l (.lst (xs.take i.toNat++y::xs.drop i.toNat)))
theorem Tc:Ap X "list.insert" Ir:=by
 intro aa s σ H x vs v us Q I a7 cM h;let(l,xs,i,y,rfl,rfl,jI,h0,af,aj,aH,q):=h;cases a7;cases cM with
 | cons hq x1=>
  cases x1 with
  | @cons _ w _ _ h4 rc=>
   cases rc;let(t,rfl):=hq;let(z,a',n,r,aG,e):=I.vP jI;refine call_meets Tj (_,e,rfl) F.entry_list_insert (F.args_list_insert_3 _ _ _) (AutoListH.list_insert_list_int_val_1 l a'.toArray n i t w (by rw[fitsIndex_both (k:=i) () ()];decide) (by rw[eB];omega)) (e,?_);refine(.b5,_,I.z' (its':=a'.take i.toNat++w::a'.drop i.toNat) jI e ?_ ((r.take i.toNat).append (.cons h4 (r.drop i.toNat))) ?_,rfl,q)
   .have az:(if i<0 then(i+((a'.toArray.size:Nat):Int)).toNat else min i.toNat a'.toArray.size)=i.toNat:=by
     rw[if_neg (),eB];omega
    show(a'.toArray.extract 0 (if i<0 then(i+((a'.toArray.size:Nat):Int)).toNat else min i.toNat a'.toArray.size)).push w++a'.toArray.extract (if i<0 then(i+((a'.toArray.size:Nat):Int)).toNat else min i.toNat a'.toArray.size)=_;rw[az];apply abD.mp;simp;exact NP (by rw[rp];exact b1 _)
   .rw [dx,ih,hb,rp];omega
end
inductive gh(K:bg)(H:au):Nat->V->V->Bool->Prop
 |flat {k:Nat} {x y:V} (ae:l7 x=true) (aJ:l7 y=true):gh K H k x y (kJ x y)
 |lst {k:Nat} {p q:Addr} {xs ys:List V} {e:Nat->Bool} (ag:aE K H p xs) (ay:aE K H q ys) (aG:↑xs=↑ys) (he:∀(j:Nat) (x y:V),xs[j]?\x->ys[j]?\y->gh K H k x y (e j)):gh K H (k+1) (.ref p) (.ref q) ((gN ↑xs).all e)
 |BD {k:Nat} {p q:Addr} {xs ys:List V} (ag:aE K H p xs) (ay:aE K H q ys) (aG:↑xs≠↑ys):gh K H (k+1) (.ref p) (.ref q) false
 |tup {k:Nat} {p q:Addr} {xs ys:List V} {e:Nat->Bool} (ag:de K H p xs) (ay:de K H q ys) (he:∀(j:Nat) (x y:V),xs[j]?\x->ys[j]?\y->gh K H k x y (e j)):gh K H (k+1) (.ref p) (.ref q) ((gN (min ↑xs ↑ys)).all e&&↑xs==↑ys)
def aag{x:V}(h:l7 x=true):kJ x x=true:=by
 cases x <;> first|rfl|(simp[kJ];done)|cases h
def UD{e:Nat->Bool}(h:∀j,j<n->e j=true):(gN n).all e=true:=by
 rw[oX];exact λj aN=>h j (sZ.mp aN)
section
variable{X:a3}{aa:List (Addr×Obj)}{σ:St}{H:au}{s:Shared}
theorem gh.self(I:Inv X aa σ H s){k:Nat}{x y:V}(h:gh X.K H k x y b)(e:x=y):b=true:=by
 induction h with
 |flat ae aJ=>subst e;exact aag ae
 | @lst k p q xs ys f ag ay aG he cp=>
  injection e with e;subst e;have:=I.Ab ag ay;subst this;refine UD λj aN=>?_
  exact cp j xs[j] xs[j] (bq aN) (bq aN) rfl
 |BD ag ay aG=>
  injection e with e;subst e;have:=I.Ab ag ay;subst this;exact absurd rfl aG
 | @tup k p q xs ys f ag ay he cp=>
  injection e with e;subst e;have:=I.Wi ag ay;subst this;rw[jP];refine(UD λj aN=>?_,by simp);have hQ:j<↑xs:=()
  exact cp j xs[j] xs[j] (bq hQ) (bq hQ) rfl
def CM(A:Around):A.in1.units=A.units+1:=rfl
theorem Se(I:Inv X aa σ H s){k:Nat}{x y:V}(h:gh X.K H k x y b):∀(A:Around) (v u:Value),A.units+k<cLine->bP x v->bP y u ->
  LA A s v u b/\(∀p q,x=⇑p->y=⇑q->IK A s v u b):=by
 induction h with
 |flat ae aJ=>
  intro A v u bp a7 bt;refine(Nf a7 bt ae aJ,λp q e _=>?_);subst e;cases ae
 | @lst k p q xs ys f ag ay aG he cp=>
  intro A v u bp a7 bt;cases a7;cases bt;let(a',r,pl,aH):=I.list ag;let(ov,d7,oU,g9):=I.list ay;have cF:=↑r;have cB:=↑d7;have rc:IK A s ⇑p ⇑q ((gN ↑xs).all f):=by
   have:=SeqAt.RcAt.lists (A:=A) (e:=f) pl.isList oU.isList (by simp only[eB];omega) () λj af aj=>by
    simp only[eB]at af aj;have aN:j<↑xs:=()
    have hQ:j<↑ys:=()
    let(a,aV,hq):=r.get (bq aN);let(c,aw,rc):=d7.get (bq hQ);have dP:a'.toArray[j]=a:=by
     have:=bq af;rw[aV]at this;simpa using(dZ this).symm
    have lp:ov.toArray[j]=c:=by
     have:=bq aj;rw[aw]at this;simpa using(dZ this).symm
    rw[dP,lp];exact(cp j _ _ (bq aN) (bq hQ) A.in1 a c (by rw[CM];omega) hq rc).1
   rwa[eB,<- cF]at this
  refine(?_,λ_ _ _ _=>rc);by_cases bX:p=q
  .have U:=(gh.lst ag ay aG he).self I (congrArg V.ref bX);rw[U,bX];exact Rl _
  .exact Tv bX rc
 | @BD k p q xs ys ag ay aG=>
  intro A v u bp a7 bt;cases a7;cases bt;let(a',r,pl,aH):=I.list ag;let(ov,d7,oU,g9):=I.list ay;have cF:=↑r;have cB:=↑d7;have rc:IK A s ⇑p ⇑q false:=SeqAt.RcAt.lists_lengths pl.isList oU.isList (by simp only[eB,bne_iff_ne,ne_eq];omega) ();refine(Tv (λe=>aG ?_) rc,λ_ _ _ _=>rc);subst e;rw[I.Ab ag ay]
 | @tup k p q xs ys f ag ay he cp=>
  intro A v u bp a7 bt;cases a7;cases bt;let(a',r,pl,aH):=I.tuple ag;let(ov,d7,oU,g9):=I.tuple ay;have cF:=↑r;have cB:=↑d7;have rc:IK A s ⇑p ⇑q ((gN (min ↑xs ↑ys)).all f&&↑xs==↑ys):=by
   have:=SeqAt.RcAt.tuples (A:=A) (e:=f) pl oU () λj af aj=>by
    simp only[eB]at af aj;have aN:j<↑xs:=()
    have hQ:j<↑ys:=()
    let(a,aV,hq):=r.get (bq aN);let(c,aw,rc):=d7.get (bq hQ);have dP:a'.toArray[j]=a:=by
     have:=bq af;rw[aV]at this;simpa using(dZ this).symm
    have lp:ov.toArray[j]=c:=by
     have:=bq aj;rw[aw]at this;simpa using(dZ this).symm
    rw[dP,lp];exact(cp j _ _ (bq aN) (bq hQ) A.in1 a c (by rw[CM];omega) hq rc).1
   rwa[eB,eB,<- cF,<- cB]at this
  refine(?_,λ_ _ _ _=>rc);by_cases bX:p=q
  .have U:=(gh.tup ag ay he).self I (congrArg V.ref bX);rw[U,bX];exact Rl _
  .exact Tv bX rc
def US(I:Inv X aa σ H s){k:Nat}{A:Around}{xs ys:List V}{a' ov:List Value}{f:Nat->Bool}(bp:A.units+k<cLine)(r:cq xs a')(d7:cq ys ov)
  (he:∀(j:Nat) (x y:V),xs[j]?\x->ys[j]?\y->gh X.K H k x y (f j)):∀j (af:j<a'.toArray.size) (aj:j<ov.toArray.size),LA A s a'.toArray[j] ov.toArray[j] (f j):=λj af aj=>by
 simp only[eB]at af aj;have cF:=↑r;have cB:=↑d7;have aN:j<↑xs:=()
 have hQ:j<↑ys:=()
 let(a,aV,hq):=r.get (bq aN);let(c,aw,rc):=d7.get (bq hQ);have dP:a'.toArray[j]=a:=by
  have:=bq af;rw[aV]at this;simpa using(dZ this).symm
 have lp:ov.toArray[j]=c:=by
  have:=bq aj;rw[aw]at this;simpa using(dZ this).symm
 rw[dP,lp];exact(Se I (he j _ _ (bq aN) (bq hQ)) A a c bp hq rc).1
theorem ai9(I:Inv X aa σ H s){k:Nat}{p q:Addr}(h:gh X.K H k ⇑p ⇑q b)(A:Around)(bp:A.units+k<cLine):SeqAt.RcNeAt A s ⇑p ⇑q (!b):=by
 cases h with
 |flat ae aJ=>cases ae
 | @lst k _ _ xs ys f ag ay aG he=>
  let(a',r,pl,aH):=I.list ag;let(ov,d7,oU,g9):=I.list ay;have cF:=↑r;have cB:=↑d7;have:=auY (A:=A) (e:=f) pl.isList oU.isList (by simp only[eB];omega) () (US I (A:=A.in1) (k:=k) (by rw[CM];omega) r d7 he);rwa[eB,<- cF]at this
 | @BD k _ _ xs ys ag ay aG=>
  let(a',r,pl,aH):=I.list ag;let(ov,d7,oU,g9):=I.list ay;have cF:=↑r;have cB:=↑d7;exact auS pl.isList oU.isList (by simp only[eB,bne_iff_ne,ne_eq];omega) ()
 | @tup k _ _ xs ys f ag ay he=>
  let(a',r,pl,aH):=I.tuple ag;let(ov,d7,oU,g9):=I.tuple ay;have cF:=↑r;have cB:=↑d7;have:=avc (A:=A) (e:=f) pl oU () (US I (A:=A.in1) (k:=k) (by rw[CM];omega) r d7 he);rwa[eB,eB,<- cF,<- cB]at this
end
section
variable{X:a3}
def MM(K:bg):fq:=λx y H Q=>∃p q b,x=⇑p/\y=⇑q/\gh K H 8 ⇑p ⇑q b/\Q (.bC (!b)) H
def Xm(yo:X.A.units+64<cLine):hL X (compareOp .NotEq) (MM X.K):=by
 intro aa s σ H x y v u Q I a7 bt h;let(p,q,b,rfl,rfl,r6,cW):=h;cases a7;cases bt;exact ai9 I r6 X.A () _ _ _ _ (.bC (!b),H,I,rfl,cW)
def NC(K:bg):fq:=λx y H Q=>∃p q b,x=⇑p/\y=⇑q/\gh K H 8 ⇑p ⇑q b/\Q (.bC b) H
def aoq(yo:X.A.units+64<cLine):hL X (compareOp .Eq) (NC X.K):=by
 intro aa s σ H x y v u Q I a7 bt h;let(p,q,b,rfl,rfl,r6,cW):=h;exact(Se I r6 X.A v u () a7 bt).2 p q rfl rfl _ _ _ _ (.bC b,H,I,rfl,cW)
end
theorem gh.mono{K:bg}{j k:Nat}{x y:V}(h:gh K H j x y b):j<=k->gh K H k x y b:=by
 induction h generalizing k with
 |flat ae aJ=>exact λ_=>.flat ae aJ
 |lst ag ay aG he cp=>
  intro az;let(m,rfl):∃m,k=m+1:=(k-1,());exact .lst ag ay aG λj x y af aj=>cp j x y af aj ()
 |BD ag ay aG=>
  intro az;let(m,rfl):∃m,k=m+1:=(k-1,());exact .BD ag ay aG
 |tup ag ay he cp=>
  intro az;let(m,rfl):∃m,k=m+1:=(k-1,());exact .tup ag ay λj x y af aj=>cp j x y af aj ()
end L2
namespace L2
open PySem PySem.Spec PyProof.Rows PySem.Builtin PySem.Builtin.ObjectAttr
def aa2(h:H a\o):upd H a o=H:=by
 funext b;unfold upd;by_cases e:b=a
 .rw [if_pos e,e,h]
 .rw [if_neg e]
noncomputable abbrev i9:List Value:=[.type "ValueError",.type "Exception",.type "BaseException",.type "object"]
noncomputable def xB(K:bg)(C fI:Addr):Bool:=
 match K.lookup C with
 | some ⟨.type "type",_,.cls cd,bJ⟩=>
  match cd.mro,bJ.toList with
  | .ref D::dr,[_,_,_,_,some (.builtin n),_]=>
   (D==C)&&(n=="ValueError.__new__")&&(cd.hasDel==false)&&(cd.hasDict==true)&&PySem.W.tailIn K i9 dr&&PySem.W.nsOkIn K cd.ns&&(ZT K cd.ns "__init__"==some (some ⇑fI))
  |_,_=>false
 |_=>false
def ajc{K:bg}{h:Heap}{N:Addr}{x:Str}(fF:K.In h)(G:h.Ns N va)(e:ZT K N x\(some v)):va x\v:=by
 let(b0,rows,ep,aq,aA,_,look):=G;unfold ZT at e;split at e
 .rename_i aX;have z:=fF _ _ aX;rw[aq]at z;cases z;cases aA;split at e
  .rename_i uM he;cases e;rw[<- look];unfold nsFind findBy;rw[<- arG,he];rfl
  .split at e <;> cases e
 .cases e
set_option tactic.hygienic true in
def M4{K:bg}{h:Heap}(fF:K.In h)(e:xB K C fI=true) :
  ∃dr N nm q bs sn sub qF co cQ iD bS cY da pW va,h.get? C\(excClassObj nm q C N bs dr true sn sub qF co cQ iD bS cY da pW "ValueError.__new__")/\h.Ns N va/\va "__init__"\⇑fI/\OwnTail h i9 dr:=by
 unfold xB at e;split at e
 .rename_i cQ cd bJ aX;split at e
  .rename_i D dr iD bS cY da n pW hm aC;simp only[jP,beq_iff_eq]at e;let((((((aq,aA),bG),eM),gk),ez),fE):=e;let(nm,bs,mro,ns,A4,hd,sn,sub,qF,co,del):=cd;simp only at hm bG eM ez fE;subst hm aq aA bG eM;obtain⟨l⟩:=bJ;simp only at aC;subst aC;have G:h.Ns ns (h.nsMap ns):=.of_isNs (PySem.W.isNs_of_in fF ez);exact(dr,ns,nm,A4,bs,sn,sub,qF,co,cQ,iD,bS,cY,da,pW,h.nsMap ns,fF _ _ aX,G,ajc fF G fE,PySem.W.tail_of_in fF gk)
  .cases e
 .cases e
section
variable{P:Program}{w:World}{A:Around}{h:Heap}{g:Array GenState}{d:Drawn}{t:Nat}{os:OsState}{K:bg}{C fI:Addr}{R:Result->Shared->Prop}
def asd(fF:K.In h)(e:xB K C fI=true)(hf:aa9 K ⇑fI\(.type "function"))(aH:↑us<=sizeLine)
  (ay:∀h' x,h.objs.size<=x->aea h h' x ⇑C us->codeAny (model P w) (A.under (.builtin "type.__call__" (⇑C::us,[]))) (.call ⇑fI (⇑x::us,[])) (aj_ x R) (h',g,d,t,os)) :
  codeAny (model P w) A (.call ⇑C (us,[])) R (h,g,d,t,os):=by
 let(dr,N,nm,q,bs,sn,sub,qF,co,cQ,iD,bS,cY,da,pW,va,cu,bw,ai,T):=M4 fF e;have F:=aqW;have f1:=tc_lookup;have f2:=tc_bind ⇑C;have ty:((h,g,d,t,os):Shared).TypeIs ⇑C "type":=(_,cu,rfl);refine codeAny_of_tree ?_;show wpAny _ _ (callAny ⇑C _) _ _ _
 repeat (any_goals (first|assumption|with_reducible refine wpAny_loadPart_at cu ?_|wp_step))
 refine(rfl,?_);refine codeAny_call_builtin_at (aeZ _ ∅) entry_typeCall (wpAny_check_type_call_sub cu ?_)
 repeat (first|with_reducible refine wpAny_loadPart_at cu ?_|with_reducible refine wpAny_madeBy_exc cu ?_|wp_step)
 refine codeAny_call_builtin_code (aeZ _ F.quiet) (wpAny_check_new_subT F T cu ?_);refine codeAny_exc_new_subT (rest:=us) F T cu ?_ aH;show wpAny _ _ _ _ _ _;generalize dQ:(h.push {cls:=.type "tuple",data:=.seq us.toArray}).push {cls:=⇑C,data:=.fields #[⇑h.objs.size,.none,.none,.none,.bool false,.none]}=aj;have k:∀b o,h.get? b\o->aj.get? b\o:=λb o z=>by rw[<- dQ];exact ea _ (ea _ z)
 have ae:aj.get? (h.objs.size+1)=some {cls:=⇑C,data:=.fields #[⇑h.objs.size,.none,.none,.none,.bool false,.none]}:=by rw[<- dQ];heap_get
 have c4:aj.get? h.objs.size=some {cls:=.type "tuple",data:=.seq us.toArray}:=by rw[<- dQ];exact ea _ (Heap.get?_push_at rfl rfl)
 have M:aea h aj (h.objs.size+1) ⇑C us:=(k,aah (xr _),h.objs.size,ae,aah (b1 _),c4);have aib:(dK C::dr).contains ⇑C=true:=by simp
 unfold isInstance
 repeat (first|with_reducible refine wpAny_loadPart_at ae ?_|wp_step)
 refine wpAny_isSubtype_exc (k _ _ cu) ?_;rw[aib]
 repeat wp_step
 show wpAny _ _ (typeLookup ⇑C _) _ _ _;refine wpAny_typeLookup_tail (k _ _ cu) (bw.keeps k) (T.keeps k) F.mroIs F.init.lookup ?_;rw[ai];refine wpAny_holding (wpAny_bind ((ad8 (fF.keeps k) _ hf).here (wpAny_bind (wpAny_call ?_))));refine codeAny_mono (ay aj _ (xr _) M) λr s' z=>?_
 rcases r with e|(v|_|_|_) <;> first|exact z|exact z.elim|skip
 let(rfl,z):=z;exact wpAny_pure (wpAny_pure z)
end
noncomputable def yD:List Value->Bool
 | .ref _::r=>yD r
 |l=>l==i9
def r0(self:Value):refuseLoop self "__setattr__" i9=pure ⟨⟩:=by kernel_rfl
theorem Wv(self:Value):∀{l:List Value},yD l=true->refuseLoop self "__setattr__" l=pure ⟨⟩
 | .ref c::r,e=>by rw[refuseLoop_ref];exact Wv self (l:=r) e
 |[],e=>by cases e
 | .type n::r,e=>by rw[show IL n::r=i9 from beq_iff_eq.mp e];exact r0 self
 | .none::r,e=>by rw[show i6::r=i9 from beq_iff_eq.mp e];exact r0 self
 | .bool b::r,e=>by rw[show kg b::r=i9 from beq_iff_eq.mp e];exact r0 self
 | .int b c::r,e=>by rw[show mO b c::r=i9 from beq_iff_eq.mp e];exact r0 self
 | .str b c::r,e=>by rw[show rh b c::r=i9 from beq_iff_eq.mp e];exact r0 self
 | .bytes b c::r,e=>by rw[show Hx b c::r=i9 from beq_iff_eq.mp e];exact r0 self
 | .float b c::r,e=>by rw[show EN b c::r=i9 from beq_iff_eq.mp e];exact r0 self
 | .builtin b::r,e=>by rw[show wJ b::r=i9 from beq_iff_eq.mp e];exact r0 self
theorem Oc(T:String)(h:i9.contains (.type T)=true):∀{l:List Value},yD l=true->l.contains (.type T)=true
 | .ref c::r,e=>by rw[Dn,Oc T h (l:=r) e,FO]
 |[],e=>by cases e
 | .type n::r,e=>by rw[show IL n::r=i9 from beq_iff_eq.mp e];exact h
 | .none::r,e=>by rw[show i6::r=i9 from beq_iff_eq.mp e];exact h
 | .bool b::r,e=>by rw[show kg b::r=i9 from beq_iff_eq.mp e];exact h
 | .int b c::r,e=>by rw[show mO b c::r=i9 from beq_iff_eq.mp e];exact h
 | .str b c::r,e=>by rw[show rh b c::r=i9 from beq_iff_eq.mp e];exact h
 | .bytes b c::r,e=>by rw[show Hx b c::r=i9 from beq_iff_eq.mp e];exact h
 | .float b c::r,e=>by rw[show EN b c::r=i9 from beq_iff_eq.mp e];exact h
 | .builtin b::r,e=>by rw[show wJ b::r=i9 from beq_iff_eq.mp e];exact h
structure nV(K:bg)(C:Addr):Prop where
 hd:BX K C=true
 dw:((aqR K C).any λcd=>yD cd.mro)=true
 aZ:dn K ⇑C "__setattr__"\(some (.builtin "object.__setattr__"))
 ga:dn K ⇑C "__getattribute__"\(some (.builtin "BaseException.__getattribute__"))
 gt:dn K ⇑C "__getattr__"\none
 ex:∃fI,xB K C fI=true
def gB(x C:Addr)(bB:Option Addr):Heap->Prop:=λh=>∃vs bJ,h.get? x\(⇑C,bB,.fields vs,bJ)/\1<vs.size/\vs[1]?\.none/\vs[2]?\.none
def k4(ak:Addr)(aT:List (Str×V)):Heap->Prop:=λh=>∃eo,h.Ns1 ak eo/\(∀f,iV (aT.lookup f) (eo f))/\FX eo (aT.map (·.1))
def gB.at{x C:Addr}{h h':Heap}(z:gB x C bB h)(k:∀o,h.get? x\o->h'.get? x\o):gB x C bB h':=let⟨vs,bJ,e,r⟩:=z;(vs,bJ,k _ e,r)
theorem k4.at{aT:List (Str×V)}{h h':Heap}(z:k4 ak aT h)(k:∀o,h.get? ak\o->h'.get? ak\o):k4 ak aT h':=let⟨eo,e,r⟩:=z;(eo,e.at k,r)
def gB.ok{w:World}{h:Heap}{x C:Addr}(z:gB x C bB h):ce P w H h x (.ext (gB x C bB)):=by
 let(vs,bJ,e,r):=id z;exact(z,(_,e),λaf aj q k=>q.at k)
def k4.ok{w:World}{h:Heap}{aT:List (Str×V)}(z:k4 ak aT h):ce P w H h ak (.ext (k4 ak aT)):=by
 let(eo,(o,aU,ep,e,_),_):=id z;exact(z,(_,e),λaf aj q k=>q.at k)
section
variable{prog:Program}{w:World}{A:Around}{E:Value->Shared->Prop}{K:bg}{C x:Addr}{s:Shared}{R:Result->Shared->Prop}
theorem aoi{name:Str}(fF:K.In s.heap)(bL:H5 s.heap x aaL C bB)(c:nV K C)(c4:dc K C name)
  (h:wpAny (model prog w) A.in1 (storeInOwnDict ⇑x ⇑C (.str name tk) name v false)
   (λfin s'=>match fin with|.done f=>R (.ok f) s'|.again c'=>c'.quiet=true/\codeAny (model prog w) A c' R s') (λe s'=>R (.error e) s') s) :
  codeAny (model prog w) A (.call (.builtin "object.__setattr__") ([⇑x,.str name tk,v],[])) R s:=by
 have G:=PySem.F.store_object;let(cd,aw,aX):=B7 c.dw;have ne:cd.mro.isEmpty=false:=by
  cases q:cd.mro with
  |nil=>rw[q]at aX;cases aX
  |cons _ _=>rfl
 have sub:Oo (model prog w) s.heap (isInstance ⇑x (.type "object")) true:=
  bL.type.andThen (ajL fF (by unfold yO;rw[aw,t2,if_neg (by rw[ne];decide),Oc "object" ∅ aX]))
 refine codeAny_call_builtin G.slot.plain G.entry (@PySem.W.check_slot (model prog w) _ _ s "object.__setattr__" "object" "__setattr__" ⇑x [.str name tk,v] [] _ G.kind G.split sub (G.args ⇑x (.str name tk) v) ?_);have hm:Oo (model prog w) s.heap (mroOf ⇑C) cd.mro:=(aaX fF aw).andThen .now;rw[PySem.W.osa_eq,refuse_eq];refine wpAny_bind (wpAny_bind (bL.type.here (wpAny_bind (hm.here ?_))));rw[Wv _ aX];exact wpAny_pure (wpAny_bind (bL.type.here (wpAny_bind ((Cu fF c4).here (wpAny_bind (wpAny_pure h))))))
end
section
variable{X:a3}{aa:List (Addr×Obj)}{σ:St}{H:au}{s:Shared}{x C ak:Addr}{aT:List (Str×V)}{f:Str}{y:V}{u:Value}{A:Around}{E:Value->Shared->Prop}{Q:Unit->Shared->Prop}
def anf(I:Inv X aa σ H s)(e:H x\(.ext (gB x C none)))(c:nV X.K C)(n:dc X.K C f)(bt:bP y u)
  (h:∀ak s',H ak=none->ak≠x->Inv X aa σ (upd (upd H x (.ext (gB x C (some ak)))) ak (.ext (k4 ak [(f,y)]))) s'->Q ⟨⟩ s'):wpAny (model X.prog X.w) A (setAttr ⇑x f u) Q E s:=by
 let(vs,bJ,ae,gj,ew):=(show ce X.prog X.w H s.heap x (.ext (gB x C none))from I.a6 _ _ e).1;have bL:H5 s.heap x (⇑C,none,.fields vs,bJ) C none:=(ae,rfl,rfl,hI);refine af8 I.eH bL c.aZ (aoi (s:={s with toks:=s.toks+1}) I.eH bL c n ?_);let(cd,aw,ro):=B7 c.hd;refine wpAny_bind (wpAny_pure (wpAny_bind (wpAny_bind (wpAny_loadPart ae (wpAny_bind (aj0 (s:={s with toks:=s.toks+1}) (aaX I.eH aw) ?_))))));rw[ro];show wpAny _ _ (alloc k3 >>= λd=>(update x λo=>{o with dict:=some d}) >>= λ_=>dictMade ⇑C x d) _ _ _;refine wpAny_bind (wpAny_alloc (wpAny_bind ?_));have pf:(s.heap.push k3).get? x\(⇑C,none,.fields vs,bJ):=ea _ ae;have afQ:x<↥s:=en ae;refine wpAny_update pf (wpAny_pure ?_);have aq:(s.heap.push k3).get? ↥s\k3:=hl s.heap rfl;have bG:(s.heap.push k3).Ns ↥s (λ_=>none):=(k3,#[],_,aq,rfl,(λe he=>absurd he (by simp)),λ_=>rfl);generalize C8:(s.heap.push k3).update x (λo=>{o with dict:=some ↥s})=aj;have cc:↥s≠x:=xQ afQ;have cY:∀b,b≠x->aj.get? b=(s.heap.push k3).get? b:=λb U=>by rw[<- C8];exact lJ _ _ (cT U)
 have eU:aj.get? x\(⇑C,some ↥s,.fields vs,bJ):=by rw[<- C8];exact sb _ pf rfl
 have b':aj.Ns1 ↥s (λ_=>none):=(agx bG).at λo q=>(cY _ cc).trans q
 refine wpAny_bind (wpAny_pure (wpAny_bind ?_));refine wpAny_nsSet1 (s:={s with heap:=aj,toks:=s.toks+1}) b' λbb c7 s3=>?_
 have fB:FX (λa=>if a=f then some u else none) [f]:=aqi f u (λa aV=>absurd rfl aV);let(ai3,apo,anI,I0,PX,Qr):=c7.count fB;refine wpAny_bind (wpAny_lookBehind I0 (by rw[PX];exact pastItsLine_dict (c9 Qr (by rw[sizeLine_eq];show 1<=_;decide))) ?_);refine wpAny_pure (h ↥s _ (I.a6.fresh (b1 _)) cc ?_);have da:∀b o,b≠x->s.heap.get? b\o->bb.get? b\o:=λb o U q=>
  (s3.2 b (λz=>by rw[z]at q;exact absurd (en q) (ly _))).trans ((cY b U).trans (ea _ q))
 have fs:bb.get? x\(⇑C,some ↥s,.fields vs,bJ):=(s3.2 x (cT cc)).trans eU;generalize IV:s.heap.update x (λo=>{o with dict:=some ↥s})=iN;have UT:∀b,b≠x->iN.get? b=s.heap.get? b:=λb U=>by rw[<- IV];exact lJ _ _ (cT U)
 have MR:iN.get? x\(⇑C,some ↥s,.fields vs,bJ):=by rw[<- IV];exact sb _ ae rfl
 have amh:iN.objs.size=↥s:=by rw[<- IV];exact ani _ _ _
 have Pr:=I.write (x:=x) (e:=x) (o:=.ext (gB x C (some ↥s))) (h':=iN) (t':=s.toks) (by rw[e];exact hI) (.inl rfl) (λb o U q=>(UT b U).trans q) (_,MR) (gB.ok (vs,bJ,MR,gj,ew));refine Pr.laid (a:=↥s) (h':=bb) (λb o q=>?_) (FA amh) (k4.ok (_,c7,λg=>?_,fB))
 .by_cases U:b=x
  .subst U;rw[MR]at q;rw[fs,<- q]
  .rw [UT b U]at q;exact da b o U q
 .show iV (qw g [(p'p f y)]) (if g=f then some u else none);by_cases ay:g=f
  .rw [if_pos ay,ay,List.lookup_cons_self];exact bt
  .rw [if_neg ay,lj,beq_false_of_ne ay];exact hI
def hD(x C:Addr)(bB:Option Addr):Heap->Prop:=λh=>∃vs bJ,h.get? x\(⇑C,bB,.fields vs,bJ)/\vs[2]?\.none
def hD.at{x C:Addr}{h h':Heap}(z:hD x C bB h)(k:∀o,h.get? x\o->h'.get? x\o):hD x C bB h':=let⟨vs,bJ,e,r⟩:=z;(vs,bJ,k _ e,r)
def hD.ok{w:World}{h:Heap}{x C:Addr}(z:hD x C bB h):ce P w H h x (.ext (hD x C bB)):=by
 let(vs,bJ,e,_):=id z;exact(z,(_,e),λaf aj q k=>q.at k)
theorem afq{b:Bool}{Q:Value->Shared->Prop}(I:Inv X aa σ H s)(e:H x\(.ext (hD x C (some ak))))(g6:H ak\(.ext (k4 ak aT)))(c:nV X.K C)(n:dc X.K C f)(l:aT.lookup f\y)
  (h:∀u s',Inv X aa σ H s'->bP y u->Q u s'):wpAny (model X.prog X.w) A (getAttr ⇑x f b) Q E s:=by
 let(vs,bJ,ae,_):=(show ce X.prog X.w H s.heap x (.ext (hD x C (some ak)))from I.a6 _ _ e).1;let(eo,b8,r,fB):=(show ce X.prog X.w H s.heap ak (.ext (k4 ak aT))from I.a6 _ _ g6).1;let(bB,aX,wg):=abn b8;let(u,bp,es):=iV.some_of (v:=y) (o:=eo f) (by rw[<- l];exact r f);have bL:H5 s.heap x (⇑C,some ak,.fields vs,bJ) C (some bB):=(ae,rfl,rfl,aX);have fin:=h u _ (I.tok (s.toks+1)) es;have fF:=I.eH;clear h;let(cd,aw,ro):=B7 c.hd;let(att,tJ,O8):=B7 c.dw;rw[aw]at tJ;cases tJ;have dQ:=Ue es;let(ag,g,d,t,os):=s;have rN:=bL.type (M:=model X.prog X.w);have afg:=Cu (M:=model X.prog X.w) fF c.ga;have L2:=Cu (M:=model X.prog X.w) fF c.gt;have auT:=Cu (M:=model X.prog X.w) fF n;have yu:=PySem.W.looks_own (M:=model X.prog X.w) (name:=f) (r:=some u) fF bL aw (by unfold PySem.W.ownOf;rw[if_pos ro];show EB f bB=_;rw[wg,bp]);have FB:=PySem.F.excAttr_ValueError;have e5:=FB.ga.bind ⇑x;have VE:(b&&onTheHeap (wJ "BaseException.__getattribute__"))=false:=by cases b <;> rfl
 have u2:(wJ "BaseException.__getattribute__"==wJ "object.__getattribute__")=false:=∅
 have pf:(onTheHeap (dK C)&&wJ "BaseException.__getattribute__"==wJ "object.__getattribute__")=false:=by rw[u2];rfl
 unfold getAttr getAttrBy;refine wpAny_bind (wpAny_mkText (wpAny_holding (wpAny_bind (rN.at (wpAny_bind (afg.at ?_))))));dsimp only;rw[if_neg (by rw[pf];decide)];unfold getAttrByItsOwn
 repeat (any_goals (first|assumption|with_reducible refine PySem.W.Looks.at (by assumption) ?_|wp_step))
 have ne:cd.mro.isEmpty=false:=by
  cases q:cd.mro with
  |nil=>rw[q]at O8;cases O8
  |cons _ _=>rfl
 have sub:Oo (model X.prog X.w) ag (isInstance ⇑x (.type "BaseException")) true:=
  rN.andThen (ajL fF (by unfold yO;rw[aw,t2,if_neg (by rw[ne];decide),Oc "BaseException" ∅ O8]))
 refine codeAny_call_builtin FB.ga.plain PySem.F.entry_bexc_ga (@PySem.W.check_slot (model X.prog X.w) _ _ (ag,g,d,t+1,os) "BaseException.__getattribute__" "BaseException" "__getattribute__" ⇑x [.str f t] [] _ ∅ ∅ sub (PySem.F.args_bexc_ga ⇑x (.str f t)) ?_);unfold Builtin.«object.__getattribute__»
 repeat (any_goals (first|assumption|with_reducible refine PySem.W.Looks.at (by assumption) ?_|wp_step))
 show wpAny _ _ (handedOut u) _ _ _;rw[PySem.W.handedOut_of dQ];exact wpAny_pure fin
end
abbrev wj:=St->au->(au->Prop)->Prop
def vX(X:a3)(aU:List Expr)(n:Nat)(t:wj):Prop:=
 ∀(aa:List (Addr×Obj)) (s:Shared) (σ:St) (H:au) (Q:au->Prop) (acc:Str) (R:Str->Shared->Prop),Inv X aa σ H s->↑acc+n<=sizeLine->t σ H Q ->
  (∀out H' s',Inv X aa σ H' s'->↑out<=sizeLine->Q H'->R out s')->Joins (model X.prog X.w) X.A X.dG (evalEach aU X.env) acc R s
def MO:wj:=λ_ H Q=>Q H
def OY(bV:TE)(t:wj):wj:=λσ H Q=>bV σ H λv H1=>∃x,v=.str x/\↑x<=1000/\(∀c∈x.cps.toList,c<16 ^ 8)/\t σ H1 Q
def LX(t:wj):TE:=λσ H Q=>t σ H λH1=>∀y:Str,Q (.str y) H1
section
variable{X:a3}{e:Expr}{aU:List Expr}{n:Nat}{t:wj}{bV:TE}{pos:Pos}
def arj:vX X [] 0 MO:=λaa s σ H Q acc R I aG q h=>h acc H s I aG q
def asB{k:Nat}(h:vX X aU n t):vX X (.Constant (.str c) k pos::aU) (n+↑c) t:=λaa s σ H Q acc R I aG q hk=>by
 show wpAny _ _ _ _ _ _;refine ahZ (c,_,rfl,by rw[strLen_append];omega,h aa _ σ H Q _ R (I.tok _) (by rw[strLen_append];omega) q hk)
def asH(he:bu X e bV)(h:vX X aU n t):vX X (.FormattedValue e 114 none pos::aU) (n+11000) (OY bV t):=λaa s σ H Q acc R I aG q hk=>by
 show wpAny _ _ _ _ _ _;refine wpAny_FormattedValue_repr (bE (he aa s σ H _ I q) λu s1 cN=>?_);let(v,H1,aR,r,x,ev,ae,aw,bT):=cN;subst ev;let(tk,rfl):=(show ∃tk,u=rh x tk from r);have aH:=at5 x aw;refine wpAny_pyReprObj_str ?_ (by rw[sizeLine_eq];omega);exact formatField_str (λt' xf=>(_,_,rfl,by rw[strLen_append];omega,h aa _ σ H1 Q _ R ((aR.tok _).tok _) (by rw[strLen_append];omega) bT hk)) (by rw[sizeLine_eq];omega)
def afL(h:vX X (e::aA::aU) n t)(a0:n<=sizeLine):bu X (.JoinedStr (e::aA::aU) pos) (LX t):=by
 intro aa s σ H Q I q;refine wpAny_JoinedStr (h aa s σ H _ _ _ I (by show 0+n<=_;omega) q λout H' s' gF aG cW=>(aG,?_));exact(.str out,H',gF.tok _,(_,rfl),cW out)
end
structure Q9(K:bg)(L:Addr)(m:Str):Prop where
 i8:amF K L (.type "type")=true
 fd:aq' K ⇑L (.type "type") m\(.val (.builtin "ValueError.__init__"))
 ga:xK K ⇑L "__getattribute__"\(some (.builtin "type.__getattribute__"))
def JG(K:bg)(t:fG):TE:=λσ H Q=>t σ H λvs H1=>∃x C bB v,vs=[⇑x,v]/\H1 x\(.ext (gB x C bB))/\nV K C/\Q .b5 H1
section
variable{X:a3}{L:Addr}{x:Str}{p pos e2:Pos}{e:Expr}{aU:List Expr}{t:fG}
theorem akF{A:Around}(I:Inv X aa σ H s)(dP:H a\(.ext (gB a C bB)))(c:nV X.K C)
  (h:∀s',Inv X aa σ H s'->Q .none s'):wpAny (model X.prog X.w) A (call (.builtin "ValueError.__init__") [⇑a,u]) Q E s:=by
 let(vs,bJ,ae,gj,ew):=(show ce X.prog X.w H s.heap a (.ext (gB a C bB))from I.a6 _ _ dP).1;let(fI,PA):=c.ex;let(dr,N,nm,q,bs,sn,sub,qF,co,cQ,iD,bS,cY,da,pW,va,cu,bw,ai,T):=M4 I.eH PA;have F:=aqW;let(v0,h0):∃v0,vs[0]?\v0:=(vs[0]'(),am0 ());let(dQ,g,d,tt,os):=s;refine wpAny_call (codeAny_call_builtin F.init.plain F.initEntry (wpAny_check_init_subT F T cu ae rfl ?_));show wpAny _ _ (newTuple [u] >>= λiZ=>(do
  let old <- field ⇑a 0
  setField ⇑a 0 iZ
  if let ⇑_:=old then letGo [old] []) >>= λ_=>ret .none) _ _ _
 have pf:(dQ.push {cls:=.type "tuple",data:=.seq [u].toArray}).get? a\(⇑C,bB,.fields vs,bJ):=ea _ ae;refine wpAny_bind (wpAny_newTuple (wpAny_bind (wpAny_bind (wpAny_field pf rfl h0 (wpAny_bind (wpAny_setField pf rfl () ?_))))));have eU:=sb (h:=dQ.push {cls:=.type "tuple",data:=.seq [u].toArray}) (qc (·.setIfInBounds 0 ⇑dQ.objs.size)) pf rfl;have fin:∀s',s'=(⟨(dQ.push {cls:=.type "tuple",data:=.seq [u].toArray}).update a (qc (·.setIfInBounds 0 ⇑dQ.objs.size)),g,d,tt,os⟩:Shared)->Q .none s':=by
  rintro s' rfl;refine h _ ?_;have aR:Inv X aa σ H (dQ.push {cls:=.type "tuple",data:=.seq [u].toArray},g,d,tt,os):=I.kept (t':=tt) λb o q=>ea _ q
  have:=aR.write (x:=a) (e:=a) (o:=.ext (gB a C bB)) (h':=(dQ.push {cls:=.type "tuple",data:=.seq [u].toArray}).update a (qc (·.setIfInBounds 0 ⇑dQ.objs.size))) (t':=tt) (by rw[dP];exact hI) (.inl rfl)
   (λb o U q=>(lJ _ _ (cT U)).trans q) (_,eU) (gB.ok (vs.setIfInBounds 0 ⇑dQ.objs.size,bJ,eU,by simpa using gj,by rw[U2 ∅];exact ew.1,by rw[U2 ∅];exact ew.2))
  rwa[aa2 dP]at this
 cases v0 with
 |ref b=>exact wpAny_bind (wpAny_holding (wpAny_point (wpAny_pure (wpAny_pure (fin _ rfl)))))
 |_=>exact wpAny_pure (wpAny_pure (fin _ rfl))
def akV(bj:kK X x)(hm:X.mg x\⇑L)(c:Q9 X.K L m)(aV:ho X (e::aU) t)
  (j0:(x==("__debug__":Str))=false:=by decide) (g7:starEach (e::aU) X.env=(p'p false (eval e X.env))::starEach aU X.env:=by rfl) (cE:(backTo pos (starEach aU X.env)).any (·.1)=false:=by rfl)
  (c4:eval (.Call (.Attribute (.Name x p) m e2) (e::aU) [] pos) X.env=(do
   let dw <- eval (.Name x p) X.env
   standAt e2.atName
   let (f,first) <- holding [dw] (getMethod dw m pl)
   callWith pos f first (backTo pos (starEach (e::aU) X.env)) (backToKw pos (keywordEach [] X.env))):=by rfl) :
  bu X (.Call (.Attribute (.Name x p) m e2) (e::aU) [] pos) (JG X.K t):=by
 intro aa s σ H Q I h;refine wF (pl:=pl) (vd I bj hm ?_ j0) c4;refine afH I.eH c.ga (aoG I.eH c.i8 c.fd rfl ?_);refine aoL (bE (aV pos aa _ σ H _ (I.tok (s.toks+1)) h) λus s2 cN=>?_) g7 cE;let(vs,ar,bz,r,a,C,bB,v,ev,dP,ry,q):=cN;subst ev;let(oh,zV,rfl,bK,fc):=G1 r;obtain rfl:oh=dK a:=bK;exact akF bz dP ry λs3 d4=>(.b5,ar,d4,rfl,q)
end
structure zL(K:bg)(C fI:Addr):Prop where
 e:xB K C fI=true
 fn:aa9 K ⇑fI\(.type "function")
 bM:sD K ⇑C=true
def Oq(C:Addr)(sp:bW)(t:fG):TE:=λσ H Q=>t σ H λvs H1=>↑vs<=sizeLine/\∀x,H1 x=none->sp (⇑x::vs) (upd H1 x (.ext (gB x C none))) (λv ar=>v=.b5/\Q ⇑x ar) (λ_ _ _=>False)
def aap(K:bg)(bc eS:TE)(f:Str):d6:=λD σ H=>eS σ H λy H1=>bc σ H1 λx ar=>∃a C,x=⇑a/\ar a\(.ext (gB a C none))/\nV K C/\dc K C f /\
 ∀ak,ar ak=none->ak≠a->D.cc σ (upd (upd ar a (.ext (gB a C (some ak)))) ak (.ext (k4 ak [(f,y)])))
def N_(K:bg)(bc:TE)(f:Str):TE:=λσ H Q=>bc σ H λx H1=>∃a C ak aT v,x=⇑a/\H1 a\(.ext (hD a C (some ak)))/\H1 ak\(.ext (k4 ak aT))/\nV K C/\dc K C f/\aT.lookup f\v/\Q v H1
section
variable{X:a3}{k:Nat}{f C:Addr}{fd:FuncData}{ps:List Str}{sp:bW}{x g:Str}{p pos pos' e2:Pos}{e o value:Expr}{aU:List Expr}{bc eS:TE}{t:fG}
def ajK(M:zL X.K C f)(F:cz X.prog X.w X.K X.mg X.base (λ_ _ _ _ _ _=>False) k f fd ps sp)(ao:eR (k+1) X.A)(U:b6 X.K fd ps [])
  (I:Inv X aa σ H s) (r:cq vs us) (aH:↑vs<=sizeLine) (h:∀x,H x=none->sp (⇑x::vs) (upd H x (.ext (gB x C none))) (λv ar=>v=.b5/\Q ⇑x ar) (λ_ _ _=>False)) :
  wpAny (model X.prog X.w) X.A (call ⇑C us) (gY X aa σ Q) X.dG s:=by
 let(dQ,g,d,tt,os):=s;refine wpAny_call (asd (fI:=f) I.eH M.e M.fn (by rw[<- ↑r];exact aH) λh' x ae Tn=>?_);let(iZ,aaL,_,_):=Tn.there;have bz:=I.laid (a:=x) (o:=.ext (gB x C none)) (h':=h') (t':=tt) Tn.keeps ae (gB.ok (_,_,aaL,Nat.lt_of_lt_of_eq ((∅:1<6)) rfl,rfl,rfl));have ay:=h x (I.a6.fresh ae);have fc:cq (V.ref x::vs) (dK x::us):=.cons rfl r;have aG:↑((dK x::us)++[])=↑ps:=by
  rw[oE,<- ↑fc];exact F.len _ _ _ _ ay
 have j5:=U (h',g,d,tt,os) (dK x::us) bz.eH aG;rw[oE]at j5;refine codeAny_mono (F.run _ X.stack _ _ (dK x::us,[]) (dK x::us) _ _ _ (ao.make C us []) (bz.GA.make C us []) j5 fc ay) λr s' hR=>?_
 rcases r with e|(u|_|_|_) <;> first|exact j6 hR|skip
 let(v,H',d4,cM,ev,fL):=bz.after hR;subst ev;exact(cM,(V.ref x,H',d4,rfl,fL))
def aeF(M:zL X.K C f)(F:cz X.prog X.w X.K X.mg X.base (λ_ _ _ _ _ _=>False) k f fd ps sp)(ao:eR (k+1) X.A)(bj:kK X x)(hm:X.mg x\⇑C)(U:b6 X.K fd ps [])
  (aV:ho X (e::aU) t) (j0:(x==("__debug__":Str))=false:=by decide) (he:starEach (e::aU) X.env=(p'p false (eval e X.env))::starEach aU X.env:=by rfl) (cE:(backTo pos (starEach aU X.env)).any (·.1)=false:=by rfl) :
  bu X (.Call (.Name x p) (e::aU) [] pos) (Oq C sp t):=by
 intro aa s σ H Q I h;refine wpAny_Call_Name_kw (vd I bj hm ?_ j0);exact x2 (h₀:=X.base) I.ok.mod.q0 M.bM (bE (aV pos aa s σ H _ I h) λus s1 ⟨vs,H1,aR,r,aH,q⟩=>(aR.eH,ajK M F ao U aR r aH q)) he cE
def alZ(aV:bu X o bc)(aQ:bu X value eS)(aC:swapsWith value (some (.Attribute o g pos')) pos.line X.env=pure false):fX X (.Assign [.Attribute o g pos'] value pos) (aap X.K bc eS g):=by
 intro aa s σ H D I h;refine plainObj_wpAny_Assign_Attribute (bE (aQ aa s σ H _ I h) λu s1 cn=>eu cn λy H1 aR bt q=>bE (aV aa s1 σ H1 _ aR q) λdw s2 cN=>?_) aC;let(x,ar,bz,a7,a,C,ex,dP,c,n,cX):=cN;subst ex;obtain rfl:dw=dK a:=a7;exact anf bz dP c n bt λak s3 hd bX d4=>(σ,_,d4,cX ak hd bX)
def an_(he:bu X e bc)(U:attributeBase e g X.env (eval e X.env)=eval e X.env):bu X (.Attribute e g pos) (N_ X.K bc g):=by
 intro aa s σ H Q I h;refine abA U (bE (he aa s σ H _ I h) λu s1 cN=>?_);let(x,H1,aR,a7,a,C,ak,aT,v,ex,dP,g6,c,n,l,q):=cN;subst ex;obtain rfl:u=dK a:=a7;exact afq aR dP g6 c n l λu s2 bz es=>(v,H1,bz,es,q)
end
def oK(x C:Addr)(bB:Option Addr)(T:Addr)(dj:Value)(h:Heap):Prop:=
 T≠x/\∃vs bJ uw kl,h.get? x\(⇑C,bB,.fields vs,bJ)/\vs[1]?\⇑T/\h.get? T\uw/\uw.data=.fields kl/\kl[3]?\dj/\vs[2]?\.none
def oK.tg{x C T:Addr}{h:Heap}(z:oK x C bB T dj h):hD x C bB h:=let⟨_,vs,bJ,_,_,e,_,_,_,_,r⟩:=z;(vs,bJ,e,r)
structure qI(aT:List Addr)(x:Addr)(uu:Option Addr)(h h':Heap):Prop where
 keep:∀b o,h.get? b\o->b∉aT->b≠x->some b≠uu->h'.get? b\o
 slot:∀b o,h.get? b\o->b∈aT->∃bJ,h'.get? b=some {o with slots:=bJ}
 there:∀b o,h.get? b\o->∃eF,h'.get? b\eF
section
variable{M:Model}{A:Around}{E:Value->Shared->Prop}{s:Shared}
def AK{base h:Heap}(aG:h.FunFrames base l)(e:h.get? b\o)(d:o.data=.fields vs):b∉i4 l:=λhm=>by
 let(_,eF,br,f6):=aG.mem hm;rw[e]at br;cases br;exact f6 vs d
def agn{env o7:Env}(hf:env.frame\L)(q5:o7.frame\L):Hy o7=Hy env:=by
 unfold Hy;rw[q5,hf]
def S9{base:Heap}{env o7:Env}{outer:List Env}{L x C:Addr}{a0:Bool}
  (oA:A.frames\(env::outer)) (aG:s.heap.FunFrames base (env::outer)) (hf:env.frame\L) (q5:o7.frame\L) (he:s.heap.get? x\(⇑C,bB,.fields vs,bJ)) (aH:1<vs.size) (ud:vs[2]?\.none)
  (h:∀h' T,qI (i4 (env::outer)) x none s.heap h'->↥s<=T->oK x C bB T (rawInt L) h'->Q ⟨⟩ {s with heap:=h' }) :
  wpAny M A (do let a <- Hy o7;let pl <- entryPlaceOf L a0;let b <- ah5 head a .none (rawInt L) .none pl;setField ⇑x 1 b) Q E s:=by
 have cc:x∉i4 (env::outer):=AK aG he rfl;rw[agn hf q5];refine wpAny_bind (wpAny_frameOf_fun oA aG hf λaf S=>wpAny_bind (wpAny_entryPlaceOf λpl ag=>?_));unfold ah5 newFields;refine wpAny_bind (wpAny_newObj_type ?_ (ag.sizeOk5 _ _ _ _ _));have aq:af.get? x\(⇑C,bB,.fields vs,bJ):=(S.2.1 x cc).trans he;let(kl,Nc,bb):∃kl:Array Value,([head,⇑L,.none,rawInt L,.none]++(if pl.isEmpty then Kn 6 i6 else pl)).toArray=kl/\kl[3]?\(rawInt L):=(_,rfl,by simp);rw[Nc];have aA:=ea (h:=af) {cls:=.type "traceback",dict:=none,data:=.fields kl} aq;have ne:af.objs.size≠x:=xQ (en aq);have mB:af.objs.size=↥s:=S.1;refine wpAny_setField aA rfl aH (h _ af.objs.size (λb o q b8 b' _=>?_,λb o q b8=>?_,λb o q=>?_) (FA mB.symm) (ne,vs.setIfInBounds 1 ⇑af.objs.size,bJ,{cls:=.type "traceback",dict:=none,data:=.fields kl},kl,sb _ aA rfl,by simp[aH],?_,rfl,bb,by rw[U2 ∅];exact ud))
 .rw [lJ _ _ (cT b')];exact ea _ ((S.2.1 b b8).trans q)
 .obtain⟨Fq,bG⟩:=S.2.2 b o q;have nb:x≠b:=fun z=>cc (by rw[z];exact b8)
  exact(Fq,(lJ _ _ nb).trans (ea _ bG))
 .by_cases U:b=x
  .rw [U];exact(_,sb _ aA rfl)
  .let(Fq,bG):=S.2.2 b o q;exact(_,by rw[lJ _ _ (cT U)];exact ea _ bG)
 .exact (lJ _ _ (cT ne)).trans (hl af rfl)
def acB{base:Heap}{env o7:Env}{outer:List Env}{L x C:Addr}
  (oA:A.frames\(env::outer)) (aG:s.heap.FunFrames base (env::outer)) (hf:env.frame\L) (q5:o7.frame\L) (he:s.heap.get? x\(⇑C,bB,.fields vs,bJ)) (af:vs[1]?\.none) (ud:vs[2]?\.none)
  (h:∀h' T,qI (i4 (env::outer)) x none s.heap h'->↥s<=T->oK x C bB T (rawInt L) h'->Q ⟨⟩ {s with heap:=h' }) :
  wpAny M A (noteFrame ⇑x o7) Q E s:=by
 unfold noteFrame;simp only[q5];refine wpAny_bind (wpAny_field he rfl af ?_);rw[if_neg ∅];exact S9 oA aG hf q5 he (Lq.mp af).1 ud h
def FM{base:Heap}{env o7:Env}{outer:List Env}{L x C T:Addr}
  (oA:A.frames\(env::outer)) (aG:s.heap.FunFrames base (env::outer)) (hf:env.frame\L) (q5:o7.frame\L) (z:oK x C bB T dj s.heap) (bX:¬(dj==rawInt L)=true)
  (h:∀h' v8,qI (i4 (env::outer)) x (some T) s.heap h'->↥s<=v8->oK x C bB v8 (rawInt L) h'->Q ⟨⟩ {s with heap:=h' }) :
  wpAny M A (noteFrame ⇑x o7) Q E s:=by
 let(ne,vs,bJ,uw,kl,he,af,ec,hd,bb,ud):=z;unfold noteFrame;simp only[q5];refine wpAny_bind (wpAny_field he rfl af ?_);rw[if_pos (show(dK T != i6)=true from by simp)];refine wpAny_bind (wpAny_field ec hd bb ?_);rw[if_neg bX];refine wpAny_bind (wpAny_setField ec hd (Lq.mp bb).1 ?_);have kc:T∉i4 (env::outer):=AK aG ec hd;have qC:∀b,b≠T->(s.heap.update T (qc (·.setIfInBounds 3 i6))).get? b=s.heap.get? b:=λb U=>lJ _ _ (cT U)
 have CP:∃eF,(s.heap.update T (qc (·.setIfInBounds 3 i6))).get? T\eF:=(_,sb _ ec (ZX (EK hd _)));have Jt:(s.heap.update T (qc (·.setIfInBounds 3 i6))).FunFrames base (env::outer):=aG.of_keeps λb o e f6=>(o,(qC b λq=>by rw[q,ec]at e;cases e;exact f6 kl hd).trans e,rfl)
 refine S9 (s:={s with heap:=s.heap.update T (qc (·.setIfInBounds 3 i6))}) oA Jt hf q5 ((qC x (cT ne)).trans he) (Lq.mp af).1 ud λh' v8 k w f=>h h' v8 (λb o q b8 b' c7=>?_,λb o q b8=>?_,λb o q=>?_) ?_ f
 .exact k.keep b o ((qC b λy=>c7 (by rw[y])).trans q) b8 b' (λy=>by cases y)
 .exact k.slot b o ((qC b λy=>kc (y ▸ b8)).trans q) b8
 .by_cases U:b=T
  .subst U;let(eF,br):=CP;exact k.there _ _ br
  .exact k.there b o ((qC b U).trans q)
 .exact c9 (FA (ani _ _ _).symm) w
def wC{x C T:Addr}{aT:List Addr}(o:Option Addr)(z:oK x C bB T dj s.heap)(kc:T∉aT)
  (h:∀h',qI aT x (some T) s.heap h'->oK x C bB T (o.elim .none λf=>rawInt f) h'->Q ⟨⟩ {s with heap:=h' }):wpAny M A (setFlight ⇑x o) Q E s:=by
 let(ne,vs,bJ,uw,kl,he,af,ec,hd,bb,ud):=z;have uy:3<kl.size:=(Lq.mp bb).1;have qC:∀b,b≠T->(s.heap.update T (qc (·.setIfInBounds 3 (o.elim i6 λf=>rawInt f)))).get? b=s.heap.get? b:=λb U=>lJ _ _ (cT U)
 have CP:=sb (qc (·.setIfInBounds 3 (o.elim i6 λf=>rawInt f))) ec (ZX (EK hd _));unfold setFlight;refine wpAny_bind (wpAny_field he rfl af ?_);rw[if_pos (show(dK T != i6)=true from by simp)];refine wpAny_setField ec hd uy (h _ (λb o q _ _ c7=>(qC b λy=>c7 (by rw[y])).trans q,λb o q b8=>(o.slots,(qC b λy=>kc (y ▸ b8)).trans q),λb o q=>?_)
  (ne,vs,bJ,_,_,(qC x (cT ne)).trans he,af,CP,EK hd _,by simp[uy],ud))
 by_cases U:b=T
 .subst U;exact(_,CP)
 .exact (o,(qC b U).trans q)
end
section
variable{P:Program}{w:World}{H:au}{h h':Heap}{aT:List Addr}{x C T:Addr}{bB:Option Addr}{dj:Value}{uu:Option Addr}{o:dJ}
def qI.a6(k:qI aT x uu h h')(ok:eW P w H h)(yq:∀b∈aT,H b=none)(ec:∀t,uu\t->H t=none)(fV:n8 (H x))(new:hD x C bB h'):eW P w (upd H x (.ext (hD x C bB))) h':=λb u q=>by
 have y8:∀c y,H c\(.own y)->c≠x:=λc y r z=>by subst z;rw[r]at fV;exact fV
 have Mg:∀c xs,H c\(.tup xs)->c≠x:=λc xs r z=>by subst z;rw[r]at fV;exact fV
 have ka:∀c v,c≠x->H c≠none->h.get? c\v->h'.get? c\v:=λc v b8 b' r=>k.keep c v r (λz=>b' (yq c z)) b8 λz=>b' (ec c z.symm)
 by_cases U:b=x
 .subst U;rw[aM]at q;cases q;exact new.ok
 .rw[ax U]at q;refine(ok b u q).nE (λc v aw r=>?_) (λc r=>by rw[ax (y8 c b r)];exact r) λc xs r=>by rw[ax (Mg c xs r)];exact r
  rcases aw with rfl|aw
  .exact ka c v U (by rw[q];exact λz=>by cases z) r
  .exact ka c v (y8 c b aw) (by rw[aw];exact λz=>by cases z) r
def qI.un(k:qI aT x uu h h')(ec:∀t,uu\t->H t=none)(fV:n8 (H x)):gM aT uu.toList H (upd H x o) h h':=by
 have ae:∀b,H b=none->b≠x:=λb n z=>by subst z;rw[n]at fV;exact fV
 have hm:∀b u,H b\u->¬n8 (some u)->b≠x:=λb u q nm z=>by subst z;rw[q]at fV;exact nm fV
 refine(λb u q n b8 b'=>k.keep b u q b8 (ae b n) λz=>b' (by rw[<- z];simp),λb u q n b8 b'=>k.slot b u q b8,λb u q n _=>by rw[ax (ae b n)];exact n,λb u q _=>k.there b u q,
  λb xs q=>by rw[ax (hm b _ q λz=>z)];exact q,λb u xs q=>by rw[ax (hm b _ q λz=>z)];exact q,λb ps q=>(#[],by rw[ax (hm b _ q λz=>z),q];simp))
end
def mm(P:Program)(w:World):jE:=λouter H s E e s'=>
 ∃x C bB H' T,e=⇑x/\s'.os=s.os/\AllBare s'.gens/\gM (i4 outer) [] H H' s.heap s'.heap/\eW P w H' s'.heap/\H' x\(.ext (hD x C bB))/\↥s<=T/\H' T=none/\oK x C bB T .none s'.heap/\E ⇑C bB H'
def OZ(X:a3)(E:St->ee):Prop:=∀(aa:List (Addr×Obj)) (σ:St) (H:au) (s:Shared) (x C:Addr) (bB:Option Addr),Inv X aa σ H s->H x\(.ext (gB x C bB))->E σ ⇑C bB (upd H x (.ext (hD x C bB)))->X.dG ⇑x s
def PH(CX:jE)(X:a3)(E:St->ee):Prop:=∀(aa:List (Addr×Obj)) (σ:St) (H:au) (s:Shared) (e:Value) (s':Shared),Inv X aa σ H s->CX X.stack H s (E σ) e s'->X.dG e s'
structure pz(X:a3):Prop where
 st:X.stack=X.env::X.outer
 fr:X.env.frame\X.env.locals
def yC(X:a3)(aa:List (Addr×Obj))(T:Addr):Prop:=(T∈X.ex\/↥X.gi<=T)/\T≠X.env.locals/\(∀x c,X.env.cells.lookup x\c->c≠T)/\∀p∈X.dv++aa,p.1≠T
def nH(X:a3)(aa:List (Addr×Obj))(E:St->ee)(dj:Value)(e:Value)(s':Shared):Prop:=
 ∃av H' x C bB T,e=⇑x/\Inv X aa av H' s'/\H' x\(.ext (hD x C bB))/\H' T=none/\yC X aa T/\oK x C bB T dj s'.heap/\E av ⇑C bB H'
def M7(X:a3)(aa:List (Addr×Obj))(E:St->ee)(e:Value)(s':Shared):Prop:=
 ∃av H' x C bB,e=⇑x/\Inv X aa av H' s'/\H' x\(.ext (gB x C bB))/\E av ⇑C bB (upd H' x (.ext (hD x C bB)))
def p5(X:a3)(aa:List (Addr×Obj))(E:St->ee)(e:Value)(s':Shared):Prop:=M7 X aa E e s'\/∃dj,nH X aa E dj e s'
def ya(X:a3)(E:St->ee)(e:Value)(s':Shared):Prop:=∃aa,p5 X aa E e s'
section
variable{X:a3}{aa:List (Addr×Obj)}{σ:St}{H:au}{s:Shared}{T x C:Addr}{bB:Option Addr}{E:St->ee}{M:Model}{A:Around}{we:Value->Shared->Prop}{Q:Unit->Shared->Prop}{e dj:Value}{h':Heap}
def Gg(I:Inv X aa σ H s)(ec:↥s<=T):yC X aa T:=by
 have lt:∀{b:Addr} {o:Obj},s.heap.get? b\o->b≠T:=λq z=>by
  subst z;exact absurd (ic (en q) ec) (ly _)
 refine(.inr (c9 I.mB ec),λz=>?_,λx c e=>?_,λp ag=>lt (I.pin p ag).1)
 .let(m,(o,aU,ep,aX,_),_):=I.loc;exact lt aX z.symm
 .let(v,o,aX,_):=I.cell x c e;exact lt aX
def anZ(I:Inv X aa σ H s)(k:qI (i4 X.stack) x (some T) s.heap h')(ex:H x\(.ext (hD x C bB)))(jH:H T=none)(kc:yC X aa T)(tg:hD x C bB h'):Inv X aa σ H {s with heap:=h' }:=by
 have fV:n8 (H x):=by rw[ex];exact hI
 have z:∀t,some T\t->H t=none:=λt z=>by cases z;exact jH
 have oh:=k.un (H:=H) (o:=.ext (hD x C bB)) z fV;have bS:=k.a6 I.a6 I.BB z fV tg;rw[aa2 ex]at oh bS;exact I.zq (s':={s with heap:=h' }) (ch:=[T]) rfl oh bS I.bare λb U=>by
  obtain rfl:b=T:=by simpa using U
  exact kc
def Zq(F:pz X)(I:Inv X aa σ H s)(k:qI (i4 (X.env::X.outer)) x (some T) s.heap h')(ex:H x\(.ext (hD x C bB)))(jH:H T=none)(kc:yC X aa T)(tg:hD x C bB h'):Inv X aa σ H {s with heap:=h' }:=
 anZ I (by rw[F.st];exact k) ex jH kc tg
def nH.note(F:pz X)(q:nH X aa E dj e s)(bX:¬(dj==rawInt X.env.locals)=true)(h:∀s',nH X aa E (rawInt X.env.locals) e s'->Q ⟨⟩ s'):wpAny M X.A (noteFrame e X.env) Q we s:=by
 let(σ,H,x,C,bB,T,rfl,I,ex,jH,kc,f,w):=q;have aT:s.heap.FunFrames X.base (X.env::X.outer):=by rw[<- F.st];exact I.stack
 exact FM (by rw[<- F.st];exact I.ok.frames) aT F.fr F.fr f bX λh' v8 k ei BM=>h _ (σ,H,x,C,bB,v8,rfl,Zq F I k ex jH kc BM.tg,ex,I.a6.fresh ei,Gg I ei,BM,w)
def nH.amo(F:pz X)(q:nH X aa E (rawInt X.env.locals) e s)(h:Q ⟨⟩ s):wpAny M X.A (noteFrame e X.env) Q we s:=by
 let(σ,H,x,C,bB,T,rfl,I,ex,jH,kc,(ne,vs,bJ,uw,kl,he,af,ec,hd,bb,_),w):=q;unfold noteFrame;simp only[F.fr];refine wpAny_bind (wpAny_field he rfl af ?_);rw[if_pos (show(dK T != i6)=true from by simp)];refine wpAny_bind (wpAny_field ec hd bb ?_);rw[if_pos (show(rawInt X.env.locals==rawInt X.env.locals)=true from by simp)];exact wpAny_pure h
def M7.note(F:pz X)(q:M7 X aa E e s)(h:∀s',nH X aa E (rawInt X.env.locals) e s'->Q ⟨⟩ s'):wpAny M X.A (noteFrame e X.env) Q we s:=by
 let(σ,H,x,C,bB,rfl,I,ex,w):=q;have aT:s.heap.FunFrames X.base (X.env::X.outer):=by rw[<- F.st];exact I.stack
 let(vs,bJ,ae,gj,ew):=(show ce X.prog X.w H s.heap x (.ext (gB x C bB))from I.a6 _ _ ex).1;have fV:n8 (H x):=by rw[ex];exact hI
 refine acB (by rw[<- F.st];exact I.ok.frames) aT F.fr F.fr ae ew.1 ew.2 λh' T k ei f=>h _ ?_
 have z:∀t,none\t->H t=none:=λt z=>by cases z
 have oh:=k.un (H:=H) (o:=.ext (hD x C bB)) z fV;have bS:=k.a6 I.a6 (by rw[<- F.st];exact I.BB) z fV f.tg;rw[<- F.st]at oh;have bz:=I.zq (s':={s with heap:=h' }) (ch:=[]) rfl oh bS I.bare λb U=>absurd U (by simp)
 exact(σ,_,x,C,bB,T,rfl,bz,aM,by rw[ax f.1];exact I.a6.fresh ei,Gg I ei,f,w)
theorem p5.note(F:pz X)(q:p5 X aa E e s)(h:∀s',nH X aa E (rawInt X.env.locals) e s'->Q ⟨⟩ s'):wpAny M X.A (noteFrame e X.env) Q we s:=by
 rcases q with q|⟨dj,q⟩
 .exact q.note F h
 .by_cases c:(dj==rawInt X.env.locals)=true
  .rw [beq_iff_eq]at c;subst c;exact q.amo F (h _ q)
  .exact q.note F c h
theorem nH.wC(F:pz X)(o:Option Addr)(q:nH X aa E dj e s)(h:∀s',nH X aa E (o.elim .none λf=>rawInt f) e s'->Q ⟨⟩ s'):wpAny M A (setFlight e o) Q we s:=by
 let(σ,H,x,C,bB,T,rfl,I,ex,jH,kc,f,w):=q;have aT:s.heap.FunFrames X.base (X.env::X.outer):=by rw[<- F.st];exact I.stack
 have f6:T∉i4 (X.env::X.outer):=by
  let(_,_,_,uw,kl,_,_,e,d,_):=id f;exact AK aT e d
 exact L2.wC o f f6 λh' k BM=>h _ (σ,H,x,C,bB,T,rfl,Zq F I k ex jH kc BM.tg,ex,jH,kc,BM,w)
def p5.leave(F:pz X)(q:p5 X aa E e s)(h:∀s',nH X aa E .none e s'->Q ⟨⟩ s'):wpAny M X.A (leaving X.env e) Q we s:=by
 unfold leaving;exact wpAny_bind (q.note F λs' cW=>cW.wC F none h)
def aij(F:pz X):PassesOwn M X.A X.env (p5 X aa E):=λe s' q=>by
 refine q.note F λs2 cX=>?_
 show wpAny _ _ _ _ _ _;let(σ,H,x,C,bB,T,rfl,I,ex,jH,kc,(ne,vs,bJ,uw,kl,he,af,ec,hd,bb),w):=id cX;refine wpAny_bind (wpAny_field he rfl af ?_);rw[if_neg (show ¬(dK T==i6)=true from by simp)];rw[F.fr];exact cX.wC F _ λs3 fL=>.inr (_,fL)
def JK(F:pz X):PassesOwn M X.A X.env (ya X E):=λe s' ⟨aa,q⟩=>by
 have z:=aij (M:=M) F e s' q;refine wpAny_mono z (λ_ s2 cX=>?_) λaA s2 cX=>?_
 all_goals exact wpAny_mono cX (λ_ s3 fL=>(aa,fL)) λbG s3 fL=>(aa,fL)
def ald:OZ (X.j' (ya X E)) E:=λaa σ H s x C bB I ex q=>(aa,.inl (σ,H,x,C,bB,rfl,I.pj,ex,q))
def ahU{wm:ee}(I:Inv X aa σ H s)(ay:mm X.prog X.w X.stack H s wm e s')(h:∀C bB H',wm C bB H'->E σ C bB H'):p5 X aa E e s':=by
 let(x,C,bB,ar,T,rfl,os,bare,un,a6,ex,ec,jH,dj,q):=ay;exact .inr (_,σ,ar,x,C,bB,T,rfl,I.zq os un a6 bare (λb z=>absurd z (by simp)),ex,jH,Gg I ec,dj,h _ _ _ q)
end
def Tx{X:a3}{E:ee}:pk (mm X.prog X.w) (X.j' (ya X λ_=>E)) E:=λaa σ H s e s' I ay=>(aa,ahU I.pj ay λ_ _ _ z=>z)
def alr{X:a3}{E:ee}:OZ (X.j' (ya X λ_=>E)) (λ_=>E):=ald
section
variable{P:Program}{w:World}{K:bg}{mg:Str->Option Value}{base:Heap}{N:List Str}{qual:Str}{scope:Scope}{f:Addr}{cd:Value}{A:Around}{outer:List Env}{s:Shared}{H:au}{E:ee}
def amM{e:Value}(q:ya (nC (mm P w) P w K mg base N qual scope f cd A outer s H E) (λ_=>E) e s'):(nC (mm P w) P w K mg base N qual scope f cd A outer s H E).dG e s':=by
 let(aa,q):=q;refine q.leave (rfl,rfl) λs2 cX=>?_
 let(σ,ar,x,C,bB,T,rfl,I,ex,jH,kc,dj,q):=cX;refine(x,C,bB,ar,T,rfl,I.os,I.bare,I.base,I.a6,ex,?_,jH,dj,q);rcases kc.1 with z|z
 .exact absurd z (by show T∉([]:List Addr);simp)
 .exact z
end
def UZ(C:Addr)(m:Str)(sp:bW)(dvs:List V)(E:St->ee)(bc:TE)(t:fG):TE:=λσ H Q=>bc σ H λx H1=>∃a ak aT,x=⇑a/\H1 a\(.ins C ak aT)/\aT.lookup m=none /\
 t σ H1 λvs ar=>sp (x::(vs++dvs)) ar Q (E σ)
section
variable{X:a3}{CX:jE}{k:Nat}{f C:Addr}{fd:FuncData}{ps:List Str}{sp:bW}{dvs:List V}{ds:List Value}{E:St->ee}{x m:Str}{p pos e2:Pos}{e o:Expr}{aU:List Expr}{bc:TE}{t:fG}
def acF(F:cz X.prog X.w X.K X.mg X.base CX k f fd ps sp)(ao:eR k X.A)(U:b6 X.K fd ps ds)(hd:cq dvs ds)(ae:PH CX X E)
  (I:Inv X aa σ H s) (r:cq vs us) (h:sp (vs++dvs) H Q (E σ)):wpAny (model X.prog X.w) X.A (call ⇑f us) (gY X aa σ Q) X.dG s:=by
 have fc:cq (vs++dvs) (us++ds):=r.append hd;have aG:↑(us++ds)=↑ps:=by rw[<- ↑fc];exact F.len _ _ _ _ h
 refine wpAny_call (codeAny_mono (F.run X.A X.stack s H (us,[]) (us++ds) (vs++dvs) Q (E σ) ao I.GA (U s us I.eH aG) fc h) λr s' ay=>?_);rcases r with e|(u|_|_|_)
 .exact ae aa σ H s e s' I ay
 all_goals first|exact I.after ay|exact j6 ay
def aqT(he:bu X o bc)(c:hx X.K C)(hm:fa X.K C m f)(F:cz X.prog X.w X.K X.mg X.base CX k f fd ps sp)(ao:eR k X.A)(U:b6 X.K fd ps ds)(hd:cq dvs ds)(ae:PH CX X E)(aV:ho X (e::aU) t)
  (g7:starEach (e::aU) X.env=(p'p false (eval e X.env))::starEach aU X.env:=by rfl) (cE:(backTo pos (starEach aU X.env)).any (·.1)=false:=by rfl)
  (c4:eval (.Call (.Attribute o m e2) (e::aU) [] pos) X.env=(do
   let dw <- eval o X.env
   standAt e2.atName
   let (f,first) <- holding [dw] (getMethod dw m pl)
   callWith pos f first (backTo pos (starEach (e::aU) X.env)) (backToKw pos (keywordEach [] X.env))):=by rfl) :
  bu X (.Call (.Attribute o m e2) (e::aU) [] pos) (UZ C m sp dvs E bc t):=by
 intro aa s σ H Q I h;refine wF (pl:=pl) (bE (he aa s σ H _ I h) λu s1 cN=>?_) c4;let(x,H1,aR,a7,a,ak,aT,ex,dP,l,q):=cN;subst ex;obtain rfl:u=dK a:=a7;refine Ax aR dP c hm l (x2 (first:=[⇑a]) (h₀:=X.base) I.ok.mod.q0 hm.bM (bE (aV pos aa s1 σ H1 _ aR q) λus s2 ⟨vs,ar,bz,r,cX⟩=>(bz.eH,?_)) g7 cE);exact acF (us:=⇑a::us) (vs:=⇑a::vs) F ao U hd ae bz (.cons rfl r) cX
end
noncomputable abbrev a3.jZ(X:a3)(dv:List (Addr×Obj))(E:Value->Shared->Prop):a3:={X with dv:=X.dv++dv,dG:=E}
noncomputable abbrev a3.a0(X:a3)(e:Value):a3:={X with A:=X.A.mark (some e),calm:=false,dG:=λ_ _=>False}
section
variable{X:a3}{aa A':List (Addr×Obj)}{σ:St}{H:au}{s:Shared}{E:Value->Shared->Prop}{e:Value}
theorem a3.Ok.jZ(ok:X.Ok)(dv:List (Addr×Obj))(E:Value->Shared->Prop):(X.jZ dv E).Ok:=
 (ok.mod,ok.kind,ok.glob,ok.blt,ok.above,ok.inj,ok.has,ok.rk,ok.hd,ok.frames,ok.tv,ok.w1,ok.bs,ok.lP,ok.qX,ok.rL,ok.kX,ok.pa)
def a3.Ok.qE{dv:List (Addr×Obj)}(ok:(X.jZ dv E).Ok):X.Ok:=
 (ok.mod,ok.kind,ok.glob,ok.blt,ok.above,ok.inj,ok.has,ok.rk,ok.hd,ok.frames,ok.tv,ok.w1,ok.bs,ok.lP,ok.qX,ok.rL,ok.kX,ok.pa)
theorem a3.Ok.a0(ok:X.Ok)(e:Value):(X.a0 e).Ok:=
 (ok.mod,ok.kind,ok.glob,ok.blt,ok.above,ok.inj,ok.has,ok.rk,(λz=>Bool.noConfusion z),ok.frames,ok.tv,ok.w1,ok.bs,ok.lP,ok.qX,ok.rL,ok.kX,ok.pa)
theorem Inv.jZ(I:Inv X aa σ H s)(E:Value->Shared->Prop):Inv (X.jZ aa E) [] σ H s:=(I.ok.jZ aa E,I.os,I.bare,I.base,I.loc,I.cell,I.free,I.i5,λp ag=>I.pin p (by simpa using ag),I.a6,I.len)
theorem Inv.qE(I:Inv (X.jZ aa E) A' σ H s):Inv X aa σ H s:=(I.ok.qE,I.os,I.bare,I.base,I.loc,I.cell,I.free,I.i5,λp ag=>I.pin p (xu _ ag),I.a6,I.len)
theorem Inv.a0(I:Inv X aa σ H s)(e:Value):Inv (X.a0 e) aa σ H s:=(I.ok.a0 e,I.os,I.bare,I.base,I.loc,I.cell,I.free,I.i5,I.pin,I.a6,I.len)
def Inv.Di(ok:X.Ok)(I:Inv (X.a0 e) aa σ H s):Inv X aa σ H s:=(ok,I.os,I.bare,I.base,I.loc,I.cell,I.free,I.i5,I.pin,I.a6,I.len)
theorem pb.qE(h:pb (X.jZ aa E) A' D f s'):pb X aa D f s':=by
 cases f with
 |next=>let(av,H',I,q):=h;exact(av,H',I.qE,q)
 |brk=>let(av,H',I,q):=h;exact(av,H',I.qE,q)
 |cont=>let(av,H',I,q):=h;exact(av,H',I.qE,q)
 |ret u=>let(v,av,H',I,r,q):=h;exact(v,av,H',I.qE,r,q)
end
def amT{X:a3}{aa:List (Addr×Obj)}{E:St->ee}:PH (mm X.prog X.w) (X.jZ aa (p5 X aa E)) E:=by
 intro A' σ H s e s' I ay;let(x,C,bB,ar,T,rfl,os,bare,un,a6,ex,ec,jH,dj,q):=ay;have bz:=I.zq os un a6 bare (λb z=>absurd z (by simp));exact .inr (_,σ,ar,x,C,bB,T,rfl,bz.qE,ex,jH,Gg I.qE ec,dj,q)
def Cq {A:Around} (I:Inv X aa σ H s) (bw:X.N.Nodup) (ai:X.N[i]?\n)
  (aG:X.env.scope.names.lookup n\.local) (h:∀s',Inv X aa (σ.set i none) H s'->Q ⟨⟩ s'):wpAny (model X.prog X.w) A (do bindName X.env n .none;unbindBehindTheSuite X.env n pos) Q E s:=by
 have An:i<↑σ:=by rw[I.len];exact(b3.mp ai).1
 refine wpAny_bind (wpAny_bindName (A1 I bw ai (.inl aG) (v:=.b5) (u:=.none) rfl (λs1 aR=>?_) (.inr aG)));let(m,a0,wg):=aR.loc;have az:X.env.kindOf n\.local:=aG;let(u,es,lk):=wg i n .b5 ai (GJ An) (.inl aG);have aee:(m n).isSome=true:=by
  rcases lk with⟨_,e⟩|⟨k,_⟩
  .rw [e];rfl
  .rcases k with k|k <;> (rw[az]at k;cases k)
 have ag:(X.env.scope.kind == .class||(X.env.scope.kind == .module&&X.env.locals != X.env.globals))=false:=by rw[I.ok.kind];rfl
 unfold unbindBehindTheSuite;refine wpAny_onRaise ?_;unfold unbindName;refine wpAny_bind (wpAny_point (wpAny_bind ?_));unfold deleteName;simp only[az,ag];rw[if_neg ∅];refine wpAny_bind (wpAny_nsDel_keeps a0 λaj v2 pX aC=>?_);rw[aee];refine wpAny_pure (wpAny_point (h _ ?_));have xp:∀b o,X.gi.heap.get? b\o->b≠X.env.locals:=λb o e=>gs (ic (en e) aR.ok.above)
 refine(aR.ok,aR.os,aR.bare,(λb o e gE U ae=>(aC.2 b (xp b o e)).trans (aR.base.keep b o e gE U ae),λb o e gE U ae=>?_,aR.base.free,λb o e ae=>?_,aR.base.ph,aR.base.mA,aR.base.nB),(_,pX,λj y v aq aA bG=>?_),λy c e=>?_,aR.free,aR.i5,λp ag=>?_,λb o_ e=>?_,by simpa using I.len)
 .let(bJ,aq):=aR.base.slot b o e gE U ae;exact(bJ,(aC.2 b (xp b o e)).trans aq)
 .let(eF,aq):=aR.base.there b o e ae;exact(eF,(aC.2 b (xp b o e)).trans aq)
 .by_cases aN:j=i
  .subst aN;rw[GJ An]at aA;cases aA
  .rw[F2 (cT aN)]at aA;let(o_,d7,q):=wg j y v aq (by rw[F2 (cT aN)];exact aA) bG;refine(o_,d7,?_);rcases q with⟨k,e⟩|⟨k,c,e,z⟩
   .refine .inl (k,?_);have:y≠n:=λe=>aN (H8 bw aq (e ▸ ai))
    simp[this,e]
   .exact .inr (k,c,e,z.sameBut aC (aR.qV y c e))
 .let(ei,z):=aR.cell y c e;exact(ei,z.sameBut aC (aR.qV y c e))
 .let(e,gE,ne,f6,d):=aR.pin p ag;exact((aC.2 p.1 ne).trans e,gE,ne,f6,d)
 .have ajJ:∀c,H c≠none->c≠X.env.locals:=λc q z=>q (by rw[z];exact aR.free)
  refine(aR.a6 b o_ e).nE (λc v aw q=>(aC.2 c (ajJ c ?_)).trans q) (λ_ q=>q) λ_ _ q=>q
  rcases aw with rfl|aw
  .rw [e];exact λz=>by cases z
  .rw [aw];exact λz=>by cases z
noncomputable def iq.gone(D:iq)(i:Nat):iq:={cc:=λσ H=>D.cc (σ.set i none) H,lB:=D.lB,c6:=λσ H=>D.c6 (σ.set i none) H,fS:=λσ H=>D.fS (σ.set i none) H}
def K2(K:bg)(c:Addr)(i:Nat)(kk:d6)(D:iq):St->ee:=λσ C bB H=>∃uv,C=⇑uv/\KZ K C ⇑c\true/\∀x,H x\(.ext (hD x uv bB))->kk (D.gone i) (σ.set i (some ⇑x)) H
def Pz(K:bg)(c:Addr)(i:Nat)(bZ:(St->ee)->d6)(kk:d6):d6:=λD σ H=>bZ (K2 K c i kk D) D σ H
section
variable{X:a3}{body zh:List Stmt}{Ak:Stmt}{x n:Str}{c:Addr}{i:Nat}{bZ:(St->ee)->d6}{kk:d6}{IE ag pos:Pos}
theorem arF(U:∀aa E,hC (X.jZ aa (p5 X aa E)) body (bZ E))(bj:kK X x)(hm:X.mg x\⇑c)(dQ:∀e,hC (X.a0 e) (Ak::zh) kk)(bw:X.N.Nodup)(ai:X.N[i]?\n)
  (aG:X.env.scope.names.lookup n\.local) (F:pz X:=by exact(rfl,rfl)) (j0:(x==("__debug__":Str))=false:=by decide) :
  fX X (.Try body [.ExceptHandler (some (.Name x IE)) (some n) (Ak::zh) ag] [] [] pos) (Pz X.K c i bZ kk):=by
 intro aa s σ H D I h;refine wpAny_Try_except (wpAny_mono (U aa _ [] s σ H D (I.jZ _) h) (λf s1 q=>?_) λe s1 q=>?_)
 .have cW:=q.qE;cases f with
  |next=>exact wpAny_execs_nil cW
  |brk=>exact cW
  |cont=>exact cW
  |ret u=>exact cW
 .refine q.note F λs2 cX=>cX.wC F none λs3 fL=>?_
  let(fO,H1,a,C,bB,T,rfl,bz,dP,jH,kc,dj,uv,x4,em,w):=id fL;cases x4;refine wpAny_handleBy_cons (codeAny_handlers_test (vd (bz.a0 ⇑a) bj hm ?_ j0)) (λz=>by cases z);have LT:Oo (model X.prog X.w) s3.heap (typeOf ⇑a) ⇑C:=by
   let(vs,bJ,e,_):=dj.tg;exact(atq e).andThen .now
  refine(PySem.W.exm_one bz.eH LT em).here ?_;rw[if_pos rfl];refine codeAny_handlers_suite_as (fL.wC F none λs4 um=>?_)
  .obtain⟨fO,H1,uV,C,bB,T,Jm,d4,dP,jH,kc,dj,uv,x4,em,w⟩:=um;cases x4;cases Jm;refine A1 (X:=X.a0 ⇑a) (d4.a0 ⇑a) bw ai (.inl aG) (v:=⇑a) (u:=⇑a) rfl (fun s5 gc=>?_) (.inr aG);refine wpAny_mono (dQ ⇑a aa s5 _ H1 (D.gone i) gc (w a dP)) (fun f s5 B9=>?_) fun _ _ z=>j6 z
   cases f with
   |next=>let(av,H',bL,q):=B9;exact Cq (bL.Di I.ok) bw ai aG λf9 mU=>(_,_,mU,q)
   |brk=>let(av,H',bL,q):=B9;exact Cq (bL.Di I.ok) bw ai aG λf9 mU=>(_,_,mU,q)
   |cont=>let(av,H',bL,q):=B9;exact Cq (bL.Di I.ok) bw ai aG λf9 mU=>(_,_,mU,q)
   |ret u=>let(v,av,H',bL,r,q):=B9;exact Cq (bL.Di I.ok) bw ai aG λf9 mU=>(v,_,_,mU,r,q)
end
def afR{x n:Str}(U:∀aa E,∃t,hC (X.jZ aa (p5 X aa E)) body t/\t=bZ E)(bj:kK X x)(hm:X.mg x\⇑c)
  (dQ:∀e,∃t,hC (X.a0 e) (Ak::zh) t/\t=kk) (bw:X.N.Nodup) (ai:X.N[i]?\n) (aG:X.env.scope.names.lookup n\.local) (F:pz X:=by exact(rfl,rfl))
  (j0:(x==("__debug__":Str))=false:=by decide):fX X (.Try body [.ExceptHandler (some (.Name x IE)) (some n) (Ak::zh) ag] [] [] pos) (Pz X.K c i bZ kk):=
 arF (λaa E=>by let(t,h,rfl):=U aa E;exact h) bj hm (λe=>by let(t,h,rfl):=dQ e;exact h) bw ai aG F j0
def Vf(K:bg):Pz K c i bZ kk D σ H=bZ (K2 K c i kk D) D σ H:=rfl
def To(K:bg) :
  K2 K c i kk D σ C bB H=∃uv,C=⇑uv/\KZ K C ⇑c\true/\∀x,H x\(.ext (hD x uv bB))->kk (D.gone i) (σ.set i (some ⇑x)) H:=rfl
def XF(D:iq)(i:Nat)(σ:St)(H:au):(D.gone i).cc σ H=D.cc (σ.set i none) H:=rfl
def Uh(D:iq)(i:Nat)(v:V)(H:au):(D.gone i).lB v H=D.lB v H:=rfl
theorem OwnTail.has{h:Heap}{bm dr:List Value}(T:OwnTail h bm dr)(e:bm.contains v=true):dr.contains v=true:=by
 induction T with
 |base=>exact e
 |own _ _ _ _ cp=>rw[Dn,cp,FO]
def Po(K:bg)(E:St->ee)(bV:TE):d6:=λD σ H=>bV σ H λv H1=>∃x C bB,v=⇑x/\H1 x\(.ext (gB x C bB))/\nV K C/\E σ ⇑C bB (upd H1 x (.ext (hD x C bB)))
def afW{A:Around}{env:Env}{x:Sem Value}(dQ:A.handled=none)
  (h:wpAny M A x (λv s1=>∃e C bB vs bJ nm q N bs bm W0 sn sub qF col cQ iD bS cY da pW newId,v=⇑e/\bm.contains (.type "BaseException")=true /\
   s1.heap.get? C\(excClassObj nm q C N bs bm W0 sn sub qF col cQ iD bS cY da pW newId)/\s1.heap.get? e\(⇑C,bB,.fields vs,bJ)/\vs[1]?\.none/\E ⇑e s1) E s) :
  wpAny M A (raiseStmt env (some x) none) Q E s:=by
 unfold raiseStmt;refine wpAny_bind (wpAny_mono h (λv s1 af=>?_) λ_ _ x=>x);let(e,C,bB,vs,bJ,nm,q,N,bs,bm,W0,sn,sub,qF,col,cQ,iD,bS,cY,da,pW,newId,rfl,U,cu,he,af,r6):=af;have afD:(dK C::bm).contains (.type "BaseException")=true:=by rw[Dn,U,FO]
 let(ag,g,d,tk,os):=s1
 repeat (first|with_reducible refine wpAny_loadPart_at he ?_|with_reducible refine wpAny_loadPart_at cu ?_|(with_reducible refine wpAny_isSubtype_exc cu ?_;rw[afD])|(with_reducible refine wpAny_field he rfl af ?_)|wp_step)
 exact wpAny_raiseNew_none dQ r6
section
variable{X:a3}{e:Expr}{bV:TE}{pos:Pos}{E:St->ee}
def ai'(he:bu X e bV)(ec:OZ X E)(aw:X.calm=true:=by rfl):fX X (.Raise (some e) none pos) (Po X.K E bV):=by
 intro aa s σ H D I h;rw[arm_exec_Raise];refine wpAny_bind (wpAny_standAt (afW (I.ok.hd aw) ?_));refine wpAny_bind (bE (he aa s σ H _ I h) λu s1 ⟨v,H1,aR,r,x,C,bB,ev,ex,c,q⟩=>wpAny_bind (wpAny_standAt (wpAny_pure ?_)));subst ev;obtain rfl:u=dK x:=r;let(vs,bJ,ae,gj,ew):=(show ce X.prog X.w H1 s1.heap x (.ext (gB x C bB))from aR.a6 _ _ ex).1;let(fI,PA):=c.ex;let(dr,N,nm,cW,bs,sn,sub,qF,co,cQ,iD,bS,cY,da,pW,va,cu,bw,ai,T):=M4 aR.eH PA;exact(x,C,bB,vs,bJ,nm,cW,N,bs,dr,true,sn,sub,qF,co,cQ,iD,bS,cY,da,pW,_,rfl,L2.OwnTail.has T ∅,cu,ae,ew.1,ec aa σ H1 s1 x C bB aR ex q)
end
def cg.Pf{w:World}{K:bg}{mg:Str->Option Value}{base:Heap}{x qual:Str}{st:Stmt}{fd:FuncData}{N ps:List Str}{k:Nat}(F:cg K x qual st f fd)(S:cx N ps (bD st))
  (len:∀vs H Q E,sp vs H Q E->↑vs=↑ps)
  (o5:∀(fi:Value) (A:Around) (outer:List Env) (s:Shared) (H:au) (vs:List V) (Q:cR) (E:ee),eR k (A.deeper (envOfC qual (bD st) ↥s f fi))->sp vs H Q E ->
   ∃t,hC ((nC (mm P w) P w K mg base N qual (bD st) f fi A outer s H E).j' (ya (nC (mm P w) P w K mg base N qual (bD st) f fi A outer s H E) λ_=>E)) (sV st) t/\t {cc:=λ_ H'=>Q .b5 H',lB:=Q} (start N vs) H):cz P w K mg base (mm P w) (k+1) f fd ps sp:=by
 let(oe,bB,df,doc,pm,an,fi,fS,sX,rfl,lk,kz):=F.ex;refine IQ lk kz S len λA outer s H vs Q E ao lZ=>?_
 let(t,h,q):=o5 fi A outer s H vs Q E ao lZ;exact(t,λaa s1 σ H1 D I hw=>wpAny_mono (h aa s1 σ H1 D (I.j' _) hw) (λ_ _ q=>q.pj) λ_ _ z=>amM z,q)
end L2
namespace L2
open PySem PySem.Spec PyProof.Rows
noncomputable def ap_(CX:jE)(P:Program)(w:World)(K:bg)(mg:Str->Option Value)(base:Heap)(N:List Str)(qual:Str)(scope:Scope)(f:Addr)(cd:Value)(A:Around)(outer:List Env)(s:Shared)(H:au)(E:ee):a3 where
 prog:=P
 w:=w
 K:=K
 mg:=mg
 base:=base
 A:=A.deeper (envOfC qual scope ↥s f cd)
 N:=N
 gi:=s
 th:=H
 env:=envOfC qual scope ↥s f cd
 outer:=outer
 stack:=envOfC qual scope ↥s f cd::outer
 ex:=[]
 calm:=false
 fn:=λ_=>true
 dv:=[]
 dG:=λe s'=>wpAny (model P w) (A.deeper (envOfC qual scope ↥s f cd)) (leaving (envOfC qual scope ↥s f cd) e) (λ_ tM=>CX outer H s E e tM) (λbr tM=>CX outer H s E br tM) s'
section
variable{α:Type}{M:List α->Prop}
theorem iT(h:∀a,M [a]):∀us:List α,↑us=1->M us|[a],_=>h a
theorem gR(h:∀a b,M [a,b]):∀us:List α,↑us=2->M us|[a,b],_=>h a b
theorem iy(h:∀a b c,M [a,b,c]):∀us:List α,↑us=3->M us|[a,b,c],_=>h a b c
theorem ak6(h:∀a b c d e,M [a,b,c,d,e]):∀us:List α,↑us=5->M us|[a,b,c,d,e],_=>h a b c d e
theorem G2(h:∀a b c d e f g,M [a,b,c,d,e,f,g]):∀us:List α,↑us=7->M us|[a,b,c,d,e,f,g],_=>h a b c d e f g
theorem alR(h:∀a b c d e f g i,M [a,b,c,d,e,f,g,i]):∀us:List α,↑us=8->M us|[a,b,c,d,e,f,g,i],_=>h a b c d e f g i
end
structure W8(K:bg)(C:Addr):Prop where
 hd:BX K C=true
 dw:((aqR K C).any λcd=>yD cd.mro)=true
 aZ:dn K ⇑C "__setattr__"\(some (.builtin "object.__setattr__"))
 ga:dn K ⇑C "__getattribute__"\(some (.builtin "BaseException.__getattribute__"))
 gt:dn K ⇑C "__getattr__"\none
def ao2{K:bg}(b:W8 K C)(m:zL K C f):nV K C:=(b.hd,b.dw,b.aZ,b.ga,b.gt,_,m.e)
structure Qi(K:bg)(C:Addr):Prop where
 aV:dn K ⇑C "__class__"\(some (.builtin "object.__class__"))
 a0:xK K (.builtin "object.__class__") "__get__"\(some (.builtin "getset_descriptor.__get__"))
 rr:Jp K (.builtin "object.__class__")\true
 hm:yO K C (.type "object")\true
def anW{K:bg}(i:NX K ⇑f=true)(e:xB K C f=true)(k:sD K ⇑C=true):zL K C f:=(e,beq_iff_eq.mp i,k)
theorem Rf{b2:List Int}:∀{a':List Value},cq (b2.map V.int) a'->∃xs:List (Int×Tok),a'=xs.map (λp=>mO p.1 p.2)/\xs.map (·.1)=b2:=by
 induction b2 with
 |nil=>intro a' r;cases r;exact([],rfl,rfl)
 | cons k b2 cp=>
  intro a' r;cases r with
  |cons h t=>
   let(xs,aq,aA):=cp t;let(tk,rfl):=(show ∃t,_=mO k t from h);exact((p'p k tk)::xs,by rw[e1,<- aq],by rw[e1,aA])
section
variable{X:a3}
def aaw(aw:X.calm=true):ky X (.builtin "max") (λxs H Q=>∃l b2 m,xs=[⇑l]/\aE X.K H l (tE V.int b2)/\(m∈b2/\∀k∈b2,k<=m)/\Q (.int m) H):=by
 intro aa s σ H xs us Q I r h;let(l,b2,m,rfl,ay,hm,q):=h;let(u,rfl,es):=lz r;cases es;let(a',cM,pl,aH):=I.list ay;let(xs,aq,aA):=Rf cM;have h1:a'.toArray=intItems xs.toArray:=by rw[aq];unfold intItems;simp
 have mJ:s.heap.IsList l (intItems xs.toArray):=by rw[<- h1];exact pl.isList
 have mZ:↑xs=↑b2:=by rw[<- aA,aO]
 have bX:0<xs.toArray.size:=by
  rw[eB,mZ];exact aeR hm.1
 refine max_intList (I.ok.hd aw) mJ bX λv h' tk aQ az=>(.int m,H,I.kept az,?_,q)
 let(eS,rfl):=intItems_at aQ;refine(eS,?_);have U:=argBest_gt (numAt xs.toArray) (xs.toArray.size-1);generalize argBest (λi j=>decide (numAt xs.toArray i>numAt xs.toArray j)) (xs.toArray.size-1)=j at U⊢;have a0:∀i,i<↑b2->b2[i]?\(numAt xs.toArray i):=λi ai=>by
  rw[numAt_eq,k5];show b2[i]?\(((xs.map (·.1))[i]?).getD 0);rw[aA,bq ai];rfl
 rw[eB]at U bX;have af:=hm.2 _ (ct (a0 j ()));let(i,ai):=iH hm.1;have h1:i<↑b2:=(b3.mp ai).1;have aj:=U.2 i ();have bb:m=numAt xs.toArray i:=dZ (ai.symm.trans (a0 i h1));rw[show numAt xs.toArray j=m by omega]
end
def acg(p d:Addr):Heap->Prop:=λh=>PySem.W.KdlKeysView h p d
def adv{w:World}{k:Key}(h:(hK P w).is k u=true):bP (df k) u:=by
 rcases pA h with⟨i,t,rfl,rfl⟩|⟨x,t,rfl,rfl⟩
 .exact (t,rfl)
 .exact (t,rfl)
theorem SK:∀{l₁:List α} {l₂:List β},Paired F l₁ l₂->∀{i:Nat} {b:β},l₂[i]?\b->∃a,l₁[i]?\a/\F a b
 |[],[],_,i,b,h=>by simp at h
 | a::l₁,c::l₂,r,i,b,h=>by
  cases r with
  | cons f r=>
   cases i with
   |zero=>exact(a,rfl,by rw[show b=c by simpa using h.symm];exact f)
   |succ i=>
    rw[xw]at h⊢;exact SK r h
section
variable{X:a3}
def ra:V->List V->au->cR->Prop:=λx vs H Q=>∃d kvs,x=⇑d/\vs=[]/\H d\(.aY kvs)/\∀p,H p=none->Q ⇑p (upd H p (.ext (acg p d)))
end
abbrev aoa:=St->au->Str->(Str->au->Prop)->Prop
def mV(f:Addr)(qual:Str)(params:Arguments)(body:Expr)(scope:Scope)(jt:List (Str×Addr))(c':Addr):Heap->Prop:=
 λh=>∃pm k2,h.get? f\(BN "<lambda>" qual params body scope jt pm c' k2)
def n4(c:Addr)(qual:Str):Heap->Prop:=λh=>h.CodeRec ⇑c qual
def Tab(H:au)(Pt:Addr)(pos:Pos)(qual:Str):Prop:=
 ∃ps,H Pt\(.hz ps)/\(ps=#[]\/∃c',ps=#[rawInt pos.line,rawInt pos.col,⇑c']/\H c'\(.ext (n4 c' qual)))
def vh(Pt:Addr)(H H':au):Prop:=∀b o,b≠Pt->H b\o->H' b\o
def aS.p(s:aS H H'):vh Pt H H':=λb o _ h=>s b o h
def Tab.ne(t:Tab H Pt pos qual)(h:H b\o)(aX:∀ps,o≠.hz ps):b≠Pt:=λe=>by
 let(ps,aq,_):=t;subst e;rw[aq]at h;exact aX ps (dZ h).symm
def Tab.step(t:Tab H Pt pos qual)(s:aS H H'):Tab H' Pt pos qual:=by
 let(ps,e,d):=t;refine(ps,s _ _ e,?_);rcases d with d|⟨c',d,br⟩
 .exact .inl d
 .exact .inr (c',d,s _ _ br)
def Tr{w:World}{h:Heap}
  (e:h.get? f\(BN "<lambda>" qual params body scope jt pm c' k2)):ce P w H h f (.ext (mV f qual params body scope jt c')):=
 ((pm,k2,e),(_,e),λ_ _ ⟨p,c,aq⟩ k=>(p,c,k _ aq))
def asI{w:World}{h:Heap}(e:h.CodeRec ⇑c qual):ce P w H h c (.ext (n4 c qual)):=by
 refine(e,?_,λaf aj x k=>?_)
 .let(cP,o,vs,t,aq,aA,_):=e;cases aq;exact(o,aA)
 .let(cP,o,vs,t,aq,aA,bG,eM):=x;cases aq;exact(_,o,vs,t,rfl,k o aA,bG,eM)
structure Ry(X:a3)(c Pt:Addr):Prop where
 code:X.env.code=⇑c
 hd:pe X.base c Pt
 bm:X.base.BuiltinsAt X.mg Pt
def alm:TriplesOk [rawInt a,rawInt b,v]:=hI
def ap7:codeAmong pos [rawInt pos.line,rawInt pos.col,v]\v:=by
 have:=codeAmong_snoc (pos:=pos) (c:=v) [] hI rfl;simpa using this
section
variable{X:a3}{aa:List (Addr×Obj)}{σ:St}{H:au}{s:Shared}{params:Arguments}{body:Expr}{scope:Scope}{pos:Pos}{c Pt:Addr}{jt:List (Str×Addr)}{Q:Value->Shared->Prop}
def anK (I:Inv X aa σ H s) (T:Ry X c Pt) (bZ:Tab H Pt pos (X.env.qual++"<lambda>")) (qz:closureFor scope X.env=pure jt) (Lk:defaultsOf params X.env=(p'p [] []))
  (h:∀f c' H1 s1,Inv X aa σ H1 s1->vh Pt H H1->(aI H->aI H1)->Tab H1 Pt pos (X.env.qual++"<lambda>")->H1 f\(.ext (mV f (X.env.qual++"<lambda>") params body scope jt c'))->H1 c'\(.ext (n4 c' (X.env.qual++"<lambda>")))->H f=none->Q ⇑f s1) :
  wpAny (model X.prog X.w) X.A (eval (.Lambda params body scope pos) X.env) Q X.dG s:=by
 refine PySem.W.kla_eval Lk ?_;let(ps,l6,d):=bZ;have cS:s.heap.get? Pt\(Zb ps):=I.a6 _ _ l6;have pO:s.heap.Ns mainGlobals X.mg:=I.mod.glob.keeps I.c6;have cu:=T.hd.keeps I.c6;have anl:mainGlobals≠Pt:=λq=>by
  let(o,aU,ep,e,hd,_):=pO;rw[q,cS]at e;cases e;cases hd
 have hM:s.heap.BuiltinsAt X.mg Pt:=by
  let(bm,o,af,aj,bb,dt,fm,jw):=T.bm;exact(bm,o,af,aj,bb,dt,I.c6 _ _ fm,jw)
 rcases d with rfl|⟨c',rfl,lp⟩
 .refine PySem.W.kla_makeFunction (mg:=X.mg) qz I.ok.glob pO T.code cu cS hI rfl anl hM λc' k2 h' tk ae DI et afV UA=>?_
  have EZ:H c'=none:=I.a6.fresh DI;have f6:H h'.objs.size=none:=I.a6.fresh (c9 DI (nM et));have agB:c'≠h'.objs.size:=gs et;have ajU:Pt≠c':=λz=>by rw[z,EZ]at l6;cases l6
  have ait:Pt≠h'.objs.size:=λz=>by rw[z,f6]at l6;cases l6
  have put:∀b o,b≠Pt->H b\o->upd (upd (upd H Pt (.hz (#[] ++ #[rawInt pos.line,rawInt pos.col,⇑c']))) c' (.ext (n4 c' (X.env.qual++"<lambda>")))) h'.objs.size (.ext (mV h'.objs.size (X.env.qual++"<lambda>") params body scope jt c')) b\o:=λb o n e=>by
   rw[ax (λz=>by rw[z,f6]at e;cases e),ax (λz=>by rw[z,EZ]at e;cases e),ax n];exact e
  have Ca:upd (upd (upd H Pt (.hz (#[] ++ #[rawInt pos.line,rawInt pos.col,⇑c']))) c' (.ext (n4 c' (X.env.qual++"<lambda>")))) h'.objs.size (.ext (mV h'.objs.size (X.env.qual++"<lambda>") params body scope jt c')) Pt\(.hz (#[] ++ #[rawInt pos.line,rawInt pos.col,⇑c'])):=by
   rw[ax ait,ax ajU,aM]
  have Hg:upd (upd (upd H Pt (.hz (#[] ++ #[rawInt pos.line,rawInt pos.col,⇑c']))) c' (.ext (n4 c' (X.env.qual++"<lambda>")))) h'.objs.size (.ext (mV h'.objs.size (X.env.qual++"<lambda>") params body scope jt c')) c'\(.ext (n4 c' (X.env.qual++"<lambda>"))):=by
   rw[ax agB,aM]
  have Pj:upd (upd (upd H Pt (.hz (#[] ++ #[rawInt pos.line,rawInt pos.col,⇑c']))) c' (.ext (n4 c' (X.env.qual++"<lambda>")))) h'.objs.size (.ext (mV h'.objs.size (X.env.qual++"<lambda>") params body scope jt c')) h'.objs.size\(.ext (mV h'.objs.size (X.env.qual++"<lambda>") params body scope jt c')):=aM;have b5:∀b,b≠Pt->b≠c'->b≠h'.objs.size->upd (upd (upd H Pt (.hz (#[] ++ #[rawInt pos.line,rawInt pos.col,⇑c']))) c' (.ext (n4 c' (X.env.qual++"<lambda>")))) h'.objs.size (.ext (mV h'.objs.size (X.env.qual++"<lambda>") params body scope jt c')) b=H b:=λb b8 b' c7=>by
   rw[ax c7,ax b',ax b8]
  have kv:aI H->aI (upd (upd (upd H Pt (.hz (#[] ++ #[rawInt pos.line,rawInt pos.col,⇑c']))) c' (.ext (n4 c' (X.env.qual++"<lambda>")))) h'.objs.size (.ext (mV h'.objs.size (X.env.qual++"<lambda>") params body scope jt c'))):=λn=>n.upd.upd.upd
  generalize upd (upd (upd H Pt (.hz (#[] ++ #[rawInt pos.line,rawInt pos.col,⇑c']))) c' (.ext (n4 c' (X.env.qual++"<lambda>")))) h'.objs.size (.ext (mV h'.objs.size (X.env.qual++"<lambda>") params body scope jt c'))=H1 at put Ca Hg Pj b5 kv;have bM:∀b o,b≠Pt->s.heap.get? b\o->(h'.push (BN "<lambda>" (X.env.qual++"<lambda>") params body scope jt ((X.mg "__name__").getD .none) c' k2)).get? b\o:=λb o n e=>ea _ (ae b o n e)
  have xJ:∀b,H b=none->b≠Pt:=λb n z=>by rw[z,l6]at n;cases n
  have u:gM X.aT [] H H1 s.heap (h'.push (BN "<lambda>" (X.env.qual++"<lambda>") params body scope jt ((X.mg "__name__").getD .none) c' k2)):=by
   refine(λb o e n _ _=>bM b o (xJ b n) e,λb o e n _ _=>(o.slots,bM b o (xJ b n) e),λb o e n _=>?_,λb o e _=>?_,λb xs e=>put b _ (λz=>by rw[z,l6]at e;cases e) e,λb o x e=>put b _ (λz=>by rw[z,l6]at e;cases e) e,λb ps e=>?_)
   .have U:=en e;rw[b5 b (xJ b n) (gs (ic U DI)) (gs (ic U (c9 DI (nM et))))];exact n
   .by_cases U:b=Pt
    .subst U;exact(_,ea _ UA)
    .exact (o,bM b o U e)
   .by_cases U:b=Pt
    .subst U;rw[l6]at e;cases e;exact(_,Ca)
    .exact (#[],by rw[put b _ U e];simp)
  have a6:eW X.prog X.w H1 (h'.push (BN "<lambda>" (X.env.qual++"<lambda>") params body scope jt ((X.mg "__name__").getD .none) c' k2)):=λb o e=>by
   by_cases af:b=Pt
   .subst af;rw[Ca]at e;cases e;exact ea _ UA
   by_cases aj:b=c'
   .subst aj;rw[Hg]at e;cases e;refine asI ?_;let(cP,o,vs,t,aq,aA,bG):=afV;exact(cP,o,vs,t,aq,ea _ aA,bG)
   by_cases bb:b=h'.objs.size
   .subst bb;rw[Pj]at e;cases e;exact Tr (hl _ rfl)
   rw[b5 b af aj bb]at e;refine(I.a6 b o e).nE (λd v hd q=>bM d v ?_ q) (λd q=>put d _ (λz=>by rw[z,l6]at q;cases q) q) λd xs q=>put d _ (λz=>by rw[z,l6]at q;cases q) q
   rcases hd with z|z
   .rw [z];exact af
   .intro ew;rw[ew,l6]at z;cases z
  exact h _ c' H1 _ (I.un (t':=tk) u a6) (λb o n e=>put b o n e) kv (_,Ca,.inr (c',by simp,Hg)) Pj Hg f6
 .refine PySem.W.kla_makeFunctionHit (mg:=X.mg) qz I.ok.glob pO T.code cu cS alm ap7 hM λk2 h' tk az hsz=>?_
  have f6:H h'.objs.size=none:=I.a6.fresh hsz;have aR:Inv X aa σ (upd H h'.objs.size (.ext (mV h'.objs.size (X.env.qual++"<lambda>") params body scope jt c'))) {s with heap:=h'.push (BN "<lambda>" (X.env.qual++"<lambda>") params body scope jt ((X.mg "__name__").getD .none) c' k2),toks:=tk}:=
   I.laid (t':=tk) (λb o e=>ea _ (az b o e)) hsz (Tr (hl _ rfl))
  have bo:=bk (o:=.ext (mV h'.objs.size (X.env.qual++"<lambda>") params body scope jt c')) f6;exact h _ c' _ _ aR bo.p (λn=>n.upd) (_,bo _ _ l6,.inr (c',rfl,bo _ _ lp)) aM (bo _ _ lp) f6
end
noncomputable def ai1:Expr->Scope
 | .Lambda _ _ s _=>s
 |_=>{kind:=.function,names:=[],isGenerator:=false,isCoroutine:=false}
noncomputable def an7:Expr->Pos
 | .Lambda _ _ _ p=>p
 |_=>(0,0,0,0)
def C5(Pt:Addr)(H:au):Prop:=H Pt\(.hz #[])/\∀b,H b=none\/b=Pt\/∃o xs,H b\(.dg o (.lst xs))
def Sc.arb{K:bg}{ns:List Int}(m7:C5 Pt H)(eD:aE K H a (ns.map V.int)):Sc K a ns H:=by
 refine(?_,λb u e=>?_)
 .rcases eD with(h|⟨o,h⟩)|h
  .rcases m7.2 a with z|z|⟨b0,xs,z⟩
   .rw [h]at z;cases z
   .rw [z,m7.1]at h;cases h
   .rw [h]at z;cases z
  .exact .inl (o,h)
  .exact .inr h
 .rcases m7.2 b with z|z|⟨o,xs,z⟩
  .rw [e]at z;cases z
  .rw [z,m7.1]at e;cases e;rfl
  .rw [e]at z;cases z;rfl
theorem afK{w:World}{K:bg}{mg oq:Str->Option Value}{k:Nat}{fd:FuncData}{x:Str}{ns:List Int}
  (fF:K.In dM.heap) (fY:am9 K=true) (pO:dM.heap.Ns mainGlobals mg) (U:dM.heap.Ns builtinsNs oq) (ts:∀x:Str,x≠"__name__"->oq x=bootBuiltins x) (aiB:dM.heap.NoLimit) (bj:dM.gens=#[])
  (alk:∃bm b0,mg "__builtins__"\⇑bm/\bm≠builtinsNs/\dM.heap.get? bm\b0/\b0.cls=.type "module"/\b0.dict\builtinsNs/\b0.data=.plain)
  (cu:pe dM.heap c Pt) (cS:dM.heap.get? Pt\(Zb #[]))
  (aV:dM.heap.get? a=some {cls:=.type "list",data:=.seq vs.toArray}) (ai:IntsAre vs ns) (aG:↑ns<=sizeLine) (ao:eR k callerA)
  (F:∀base:Heap,K.In base->base.Ns mainGlobals mg->pe base c Pt->base.BuiltinsAt mg Pt->cz P w K mg base CX k hg fd [x] sp) (aj8:∀(s:Shared) (u:Value),BindsTo s fd ([u],[]) [(p'p x u)])
  (lZ:∀H:au,C5 Pt H->aE K H a (ns.map V.int)->sp [⇑a] H (λv _=>v=.bC true) λ_ _ _=>False)
  (Oj:∀H e s',CX [] H dM (λ_ _ _=>False) e s'->False) :
  codeAny (model P w) callerA (.call ⇑hg ([⇑a],[])) (λr s'=>r=.ok (.ret (.bool true))/\OldK dM.heap s'.heap/\s'.os=dM.os/\AllBare s'.gens) dM:=by
 have cM:=Wh ai;have ag9:=↑ai;have Y9:Pt≠a:=λz=>by rw[z,aV]at cS;cases cS
 have BK:∀o,K.lookup Pt\o->False:=λo e=>by
  have aq:=fF _ _ e;rw[cS]at aq;cases aq;have:=oX.mp fY _ (PySem.W.mem_of_lookupK e);exact absurd (show false=true from this) gu
 have core:∀H:au,C5 Pt H->aE K H a (ns.map V.int)->eW P w H dM.heap->(∀b,H b≠none->b=Pt\/b=a)->(H a≠none->K.lookup a=none) ->
   codeAny (model P w) callerA (.call ⇑hg ([⇑a],[])) (λr s'=>r=.ok (.ret (.bool true))/\OldK dM.heap s'.heap/\s'.os=dM.os/\AllBare s'.gens) dM:=by
  intro H m7 eD a6 iN adE;have Xs:∀{b:Addr} {o:Obj},dM.heap.get? b\o->o.cls≠.none->(∀a' n,o.data≠.seq a' n)->(pE dM.heap H).get? b\o:=λ{b o} e af aj=>by
   refine J3 e ?_;cases q:H b with
   |none=>rfl
   |some u=>
    rcases iN b (by rw[q];simp)with z|z
    .subst z;rw[cS]at e;cases e;exact absurd rfl af
    .subst z;rw[aV]at e;cases e;exact absurd rfl (aj _ _)
  have G0:∀{b:Addr} {m:Str->Option Value},dM.heap.Ns b m->(pE dM.heap H).Ns b m:=λ{b m} ⟨o,aU,ep,e,d,r⟩=>(o,aU,ep,(by
   refine J3 e ?_;cases q:H b with
   |none=>rfl
   |some u=>
    rcases iN b (by rw[q];simp)with z|z
    .subst z;rw[cS]at e;cases e;cases d
    .subst z;rw[aV]at e;cases e;cases d),d,r)
  have U_:K.In (pE dM.heap H):=λb o e=>J3 (fF b o e) (by
   cases q:H b with
   |none=>rfl
   |some u=>
    rcases iN b (by rw[q];simp)with z|z
    .subst z;exact(BK o e).elim
    .subst z;rw[adE (by rw[q];simp)]at e;cases e)
  have ady:Mod K mg (pE dM.heap H):=(U_,G0 pO,(oq,G0 U,ts),let⟨aeQ,af,aj⟩:=aiB;(aeQ,G0 af,aj));have am_:pe (pE dM.heap H) c Pt:=by
   let(o,anP,file,al2,flags,dD,arn,text,tt,aq,aA,bG,r):=cu;exact(o,anP,file,al2,flags,dD,arn,text,tt,Xs aq (by rw[aA];intro z;cases z) (λ_ _ z=>by rw[bG]at z;cases z),aA,bG,r)
  have alq:(pE dM.heap H).BuiltinsAt mg Pt:=by
   let(bm,b0,af,aj,bb,dt,fm,jw):=alk;refine(bm,b0,af,aj,λz=>?_,λz=>?_,Xs bb (by rw[dt];intro z;cases z) (λ_ _ z=>by rw[jw]at z;cases z),dt,fm,jw)
   .let(o,aU,ep,e,d,_):=pO;rw[z,e]at bb;cases bb;rw[d]at jw;cases jw
   .rw [z,cS]at bb;cases bb;cases dt
  have gp:q9 P w K mg (pE dM.heap H) callerA [] dM H:=(rfl,ady,λb o e=>arl e,FA (ag3 _ _),trivial,λb U=>absurd (show b∈([]:List Addr)from U) (by simp),a6,.of_eq bj);refine codeAny_mono ((F _ U_ (G0 pO) am_ alq).run callerA [] dM H ([⇑a],[]) [⇑a] [⇑a] _ _ ao gp (aj8 dM ⇑a) (.cons rfl .nil) (lZ H m7 eD)) λr s' h=>?_
  cases r with
  |error e=>exact(Oj H e s' h).elim
  | ok dj=>
   cases dj with
   |next=>exact j6 h
   |brk=>exact j6 h
   |cont=>exact j6 h
   | ret u=>
    let(v,H',os,bare,un,Yx,d7,q):=h;have cW:v=.bC true:=q;subst cW;obtain rfl:u=kg true:=d7;let(more,l6):=un.nB Pt _ m7.1;have aaU:s'.heap.get? Pt=some {cls:=.none,data:=.fields (#[]++more)}:=Yx _ _ l6;have bM:∀b o,b≠Pt->dM.heap.get? b\o->s'.heap.get? b\o:=λb o nb e=>by
     rcases m7.2 b with z|z|⟨b0,xs,z⟩
     .exact un.keep b o e z (by intro z;exact absurd (show b∈([]:List Addr)from z) (by simp)) (by simp)
     .exact absurd z nb
     .have ew:=un.mA b b0 _ z;let(aq,_):=a6 b _ z;let(aA,_):=Yx b _ ew;rw[e]at aq;cases aq;exact aA
    refine(rfl,(λb o e=>?_,λb o e=>?_),os,bare)
    .by_cases zt:b=Pt
     .subst zt;rw[cS]at e;cases e;exact .inr (.inl ((cu.tab cS).isCodeTable,rfl,#[],more,rfl,aaU))
     .exact .inl (bM b o zt e)
    .by_cases zt:b=Pt
     .subst zt;exact(_,aaU)
     .exact (o,bM b o zt e)
 have V6:∀H:au,ce P w H dM.heap Pt (.hz #[]):=λ_=>cS
 cases az:K.lookup a with
 | some o=>
  have e:=fF a o az;rw[aV]at e;cases e;refine core (λb=>if b=Pt then some (.hz #[])else none) (if_pos rfl,λb=>?_) (.inr (_,vs.toArray,_,az,rfl,rfl,rfl,by rw[eB,ag9];exact aG,by simpa using cM)) (λb u z=>?_) (λb z=>?_) λz=>absurd (if_neg (cT Y9)) z
  .by_cases U:b=Pt
   .exact .inr (.inl U)
   .exact .inl (if_neg U)
  .by_cases U:b=Pt
   .have h9:=(if_pos U).symm.trans z;cases h9;subst U;exact V6 _
   .have h9:=(if_neg U).symm.trans z;cases h9
  .by_cases U:b=Pt
   .exact .inl U
   .exact absurd (if_neg U) z
 | none=>
  have dP:(λb=>if b=Pt then some (dJ.hz #[])else if b=a then some (.dg {cls:=.type "list",data:=.seq vs.toArray} (.lst (ns.map V.int)))else none) a\(.dg {cls:=.type "list",data:=.seq vs.toArray} (.lst (ns.map V.int))):=by
   show(if a=Pt then _ else if a=a then _ else _)=_;rw[if_neg (cT Y9),if_pos rfl]
  refine core (λb=>if b=Pt then some (.hz #[])else if b=a then some (.dg {cls:=.type "list",data:=.seq vs.toArray} (.lst (ns.map V.int)))else none) (if_pos rfl,λb=>?_) (.inl (.inr (_,dP))) (λb u z=>?_) (λb z=>?_) λ_=>az
  .by_cases U:b=Pt
   .exact .inr (.inl U)
   .by_cases j5:b=a
    .exact .inr (.inr (_,_,by rw[j5];exact dP))
    .exact .inl ((if_neg U).trans (if_neg j5))
  .by_cases U:b=Pt
   .have h9:=(if_pos U).symm.trans z;cases h9;subst U;exact V6 _
   .by_cases j5:b=a
    .subst j5;rw[dP]at z;cases z;exact(aV,by rw[aO];exact aG,vs,_,cM,aV)
    .have h9:=((if_neg U).trans (if_neg j5)).symm.trans z;cases h9
  .by_cases U:b=Pt
   .exact .inl U
   .by_cases j5:b=a
    .exact .inr j5
    .exact absurd ((if_neg U).trans (if_neg j5)) z
section
variable{P:Program}{w:World}{A:Around}{E:Value->Shared->Prop}{s:Shared}
structure vG(h:Heap)(d:Addr)(o:Obj)(aU:Array DictEntry)(ep:Nat):Prop where
 at_:h.get? d\o
 ex:o.ExactDict
 dat:o.data=.dict aU ep
def aaH(r:vG s.heap d o aU ep):s.TypeIs ⇑d "dict":=(o,r.at_,r.ex.1)
def afp(hd:(d==sysModules)=false)(r:vG s.heap d o aU ep)
  (a9:Q (.ref ↥s) {s with heap:=s.heap.push {cls:=.type "dict_keyiterator",data:=.fields #[⇑d,.int 0 0,.int aU.size 0,.int ep 0]} }) :
  wpAny (model P w) A (pyIter ⇑d) Q E s:=by
 have ec:=aaH r;refine wpAny_pyIter_slot ec asY (wpAny_call_entry asY ec F.entry_dict_iter ?_ (F.args_dict_iter_1 _));unfold Builtin.«dict.__iter__» atN;refine wpAny_bind (wpAny_bind (wpAny_notOrdered_dict ec (wpAny_pure ?_)));show wpAny _ _ (acn d >>= _) _ _ s;unfold acn;rw[if_neg (by rw[hd];exact gu)];refine wpAny_bind (wpAny_pure (wpAny_bind (wpAny_dictEntries r.at_ r.dat (wpAny_bind (wpAny_dictEpoch r.at_ r.dat ?_)))));refine wpAny_bind (wpAny_newObj_type (wpAny_pure (_,rfl,"dict_keyiterator",_,(_,hl _ rfl,rfl),Ga.lookup,?_)));simpa[rawInt]using a9
def al3{it d:Addr}{e:DictEntry}(hit:s.heap.IsKeyIter it d i aU.size ep)(r:vG s.heap d o aU ep)(ae:aU[i]?\e)
  (a9:∀h',h'.IsKeyIter it d (i+1) aU.size ep->w5 it s.heap h'->Q (some e.key) {s with heap:=h' }):wpAny (model P w) A (pyNext ⇑it) Q E s:=by
 let(adL,aX,aw,hd):=id hit;have u3:ae5 "dict_keyiterator"=false:=∅
 have et:i<aU.size:=by
  rcases I' i aU.size with h|h
  .exact h
  .rw [afv h]at ae;cases ae
 unfold pyNext;refine wpAny_bind (wpAny_attempt (wpAny_callSpecial?_slot (name:=ab "__next__") hit.typeIs Ga
  (wpAny_call_entry Ga hit.typeIs ahL ?_ (adQ _))))
 refine wpAny_bind (wpAny_pure (wpAny_bind (wpAny_bind ?_)))
 first|refine wpAny_bind (wpAny_typeNameOfWhole_keyiter hit.typeIs (wpAny_pure ?_))|refine wpAny_bind (wpAny_typeNameOf_keyiter hit.typeIs (wpAny_pure ?_))
 refine wpAny_bind (wpAny_fieldsOf aX hd ?_);simp only[u3,OP,if_false];show wpAny _ _ (if(dK d==i6)=true then _ else _) _ _ s;rw[if_neg (show ¬((dK d==i6)=true)from gu)];refine wpAny_bind (wpAny_pure (wpAny_bind (wpAny_dictEntries r.at_ r.dat ?_)));rw[if_neg (by simp)];refine wpAny_bind (wpAny_pure (wpAny_bind (wpAny_dictEpoch r.at_ r.dat ?_)));rw[if_neg (by simp)];refine wpAny_pure ?_;simp only[show ¬((i:Int)<0)from by omega,if_false,sz,ae];refine wpAny_bind ?_
 first|refine wpAny_bind (wpAny_typeNameOfWhole_keyiter hit.typeIs (wpAny_pure ?_))|refine wpAny_bind (wpAny_typeNameOf_keyiter hit.typeIs (wpAny_pure ?_))
 refine wpAny_bind (wpAny_isOneOf_keyiter hit.typeIs ?_);show wpAny _ _ (setField ⇑it 1 (rawInt ((i:Int)+1)) >>= _) _ _ s;refine wpAny_bind (wpAny_setField aX hd (by simp) ?_);have aaf:(s.heap.update it (qc (·.setIfInBounds 1 (rawInt ((i:Int)+1))))).IsKeyIter it d (i+1) aU.size ep:=
  (_,sb _ aX (ZX (EK hd _)),(Obj.cls_mapFields ..).trans aw,by rw[EK hd];simp[rawInt])
 refine wpAny_bind (wpAny_holding (wpAny_bind (wpAny_isOneOf_keyiter (s:={s with heap:=s.heap.update it (qc (·.setIfInBounds 1 (rawInt ((i:Int)+1))))}) aaf.typeIs ?_)));show wpAny _ _ (pure e.key) _ _ _;exact wpAny_pure (wpAny_pure (_,rfl,wpAny_pure (a9 _ aaf (agG ..))))
def ah0{it d:Addr}(dQ:A.handled=none)(hit:s.heap.IsKeyIter it d i aU.size ep)(r:vG s.heap d o aU ep)(ae:aU.size<=i)
  (a9:∀h',Heap.ExtBut it s.heap h'->Q none {s with heap:=h' }):wpAny (model P w) A (pyNext ⇑it) Q E s:=by
 let(adL,aX,aw,hd):=id hit;have u3:ae5 "dict_keyiterator"=false:=∅
 unfold pyNext;refine wpAny_bind (wpAny_attempt (wpAny_callSpecial?_slot (name:=ab "__next__") hit.typeIs Ga
  (wpAny_call_entry Ga hit.typeIs ahL ?_ (adQ _))))
 refine wpAny_bind (wpAny_pure (wpAny_bind (wpAny_bind ?_)))
 first|refine wpAny_bind (wpAny_typeNameOfWhole_keyiter hit.typeIs (wpAny_pure ?_))|refine wpAny_bind (wpAny_typeNameOf_keyiter hit.typeIs (wpAny_pure ?_))
 refine wpAny_bind (wpAny_fieldsOf aX hd ?_);simp only[u3,OP,if_false];show wpAny _ _ (if(dK d==i6)=true then _ else _) _ _ s;rw[if_neg (show ¬((dK d==i6)=true)from gu)];refine wpAny_bind (wpAny_pure (wpAny_bind (wpAny_dictEntries r.at_ r.dat ?_)));rw[if_neg (by simp)];refine wpAny_bind (wpAny_pure (wpAny_bind (wpAny_dictEpoch r.at_ r.dat ?_)));rw[if_neg (by simp)];refine wpAny_pure ?_;simp only[show ¬((i:Int)<0)from by omega,if_false,sz,afv ae];refine wpAny_bind ?_
 first|refine wpAny_bind (wpAny_typeNameOfWhole_keyiter hit.typeIs (wpAny_pure ?_))|refine wpAny_bind (wpAny_typeNameOf_keyiter hit.typeIs (wpAny_pure ?_))
 show wpAny _ _ (setField ⇑it 0 .none >>= _) _ _ s;refine wpAny_bind (wpAny_setField aX hd (by simp) ?_);show wpAny _ _ (newExc (.type "StopIteration") [] >>= _) _ _ _;refine wpAny_bind ?_;simp only[newExc,newTuple];refine wpAny_bind (wpAny_newObj_type ?_ (by size_fits));refine wpAny_bind (m:=firstArgMember _ _) (wpAny_of_eq (a:=i6) (by first|rfl|(simp only[firstArgMember];rfl)) ?_);refine wpAny_newObj_type ?_ (by size_fits);simp only[raiseNew];refine wpAny_bind (wpAny_handled ?_);rw[show A.in1.handled=none from dQ];refine wpAny_bind (wpAny_pure (wpAny_throw ?_));refine wpAny_bind (wpAny_isInstance (T:="StopIteration") (b:=true) (_,hl _ rfl,rfl) isSubtype_stop ?_);exact wpAny_pure (a9 _ (((agG ..).extBut.push _).push _))
end
def qB(a:Addr)(o:Obj):Heap->Prop:=λh=>h.get? a\o
structure Sd(P:Program)(w:World)(H:au)(a:Addr)(kvs:List (List Key×V))(o:Obj)(aU:Array DictEntry)(ep:Nat)(xs:List (List Key×Addr×Value)):Prop where
 at_:H a\(.ext (qB a o))
 ex:o.ExactDict
 dat:o.data=.dict aU ep
 ent:aU.toList=xs.map (entryOfKey (tupleKind (hK P w)))
 aD:(xs.map (·.1)).Nodup
 b2:Paired (λ(p:List Key×V) (q:List Key×Addr×Value)=>p.1=q.1/\H q.2.1\(.tup (p.1.map df))/\bP p.2 q.2.2) kvs xs
 mB:↑kvs<=sizeLine
 ns:(a==sysModules)=false
def jr(P:Program)(w:World)(H:au)(a:Addr)(kvs:List (List Key×V)):Prop:=∃o aU ep xs,Sd P w H a kvs o aU ep xs
section
variable{P:Program}{w:World}{H H':au}{h:Heap}{a:Addr}{kvs:List (List Key×V)}
def Of(d:jr P w H a kvs)(s:aS H H'):jr P w H' a kvs:=by
 let(o,aU,ep,xs,r):=d;exact(o,aU,ep,xs,s _ _ r.at_,r.ex,r.dat,r.ent,r.aD,Paired.tu r.b2 λp q z=>(z.1,s _ _ z.2.1,z.2.2),r.mB,r.ns)
def aqd{p:Addr}(d:jr P w H a kvs)(ag:p≠a)(c4:∀xs,H p≠some (.tup xs)):jr P w (upd H p u) a kvs:=by
 let(o,aU,ep,xs,r):=d;exact(o,aU,ep,xs,by rw[ax (cT ag)];exact r.at_,r.ex,r.dat,r.ent,r.aD,Paired.tu r.b2 λq cW z=>(z.1,by rw[ax (λe=>c4 _ (e ▸ z.2.1))];exact z.2.1,z.2.2),r.mB,r.ns)
def T_(ok:eW P w H h)(r:Sd P w H a kvs o aU ep xs):vG h a o aU ep:=
 ((ok a _ r.at_).1,r.ex,r.dat)
def V_(ok:eW P w H h)(d:jr P w H a kvs):n8 (H a)/\(∃u,h.get? a\u)/\ce P w (upd H a (.gK kvs)) h a (.gK kvs):=by
 let(o,aU,ep,xs,r):=d;have e:=(T_ ok r).at_;refine(by rw[r.at_];exact hI,(o,e),r.mB,r.ns,xs,Paired.tu r.b2 λq cW z=>(z.1,?_,z.2.2),o,aU,ep,e,r.ex,r.dat,r.ent,r.aD);rw[ax (λe=>by have:=z.2.1;rw[e,r.at_]at this;cases this)];exact z.2.1
def alW(ok:eW P w H h)(d:jr P w H a kvs):eW P w (upd H a (.gK kvs)) h:=
 have z:=V_ ok d
 ok.write z.1 (.inl rfl) (λ_ _ _ q=>q) z.2.1 z.2.2
def apb(d:jr P w H a kvs)(e:H b\(.tup xs)):b≠a:=λz=>by
 let(o,aU,ep,ys,r):=d;have:=r.at_;rw[<- z,e]at this;cases this
end
section
variable{X:a3}{aa:List (Addr×Obj)}{σ:St}{H:au}{s:Shared}{a b:Addr}{kvs:List (List Key×V)}{k:List Key}{v:V}{r:Value}{A:Around}{E:Value->Shared->Prop}
def O6(I:Inv X aa σ H s)(fV:n8 (H a))(ex:∃u,s.heap.get? a\u)(new:ce X.prog X.w (upd H a eF) s.heap a eF):Inv X aa σ (upd H a eF) s:=
 I.un (t':=s.toks) (h':=s.heap) (gM.write fV (.inl rfl) (λ_ _ _ q=>q) ex) (I.a6.write fV (.inl rfl) (λ_ _ _ q=>q) ex new)
def ap5(I:Inv X aa σ H s)(d:jr X.prog X.w H a kvs):Inv X aa σ (upd H a (.gK kvs)) s:=
 have z:=V_ I.a6 d
 O6 I z.1 z.2.1 z.2.2
def X6(I:Inv X aa σ H s)(e:H a\(.gK kvs)):∃o,Inv X aa σ (upd H a (.ext (qB a o))) s/\jr X.prog X.w (upd H a (.ext (qB a o))) a kvs:=by
 let(z,y,xs,r,o,aU,ep,af,aj,bb,dt,fm):=(show ce X.prog X.w H s.heap a (.gK kvs)from I.a6 a _ e);refine(o,O6 I (by rw[e];exact hI) (o,af) (af,(o,af),λ_ _ q k=>k o q),o,aU,ep,xs,aM ..,aj,bb,dt,fm,Paired.tu r λp q z=>(z.1,?_,z.2.2),z,y);rw[ax (λq=>by have:=z.2.1;rw[q,e]at this;cases this)];exact z.2.1
def ajq(bp:A.units+1<cLine)(I:Inv X aa σ H s)(d:jr X.prog X.w H a kvs)(bF:H b\(.tup (k.map df)))(l:c5 kvs k\v)(h:∀ei s',Inv X aa σ H s'->bP v ei->Q ei s') :
  wpAny (model X.prog X.w) A (getItem ⇑a ⇑b) Q E s:=by
 let(z,hd,xs,rel,cQ):=Wl (alW I.a6 d) (aM ..);let(ei,hw,h4):=iV.some_of (v:=v) (o:=(atKey xs k).map (·.2)) (by rw[<- l];exact rel.val k);let(p,ag,g4):=CI.mp hw;refine wpAny_getItem_heap (tupleKind_room_in1 bp) (Aj I.a6 bF) cQ ag ?_;rw[g4];exact h ei _ (I.tok _) h4
def agL(bp:A.units+1<cLine)(I:Inv X aa σ H s)(d:jr X.prog X.w H a kvs)(bF:H b\(.tup (k.map df)))(aG:↑kvs<sizeLine)(cM:bP v r)
  (h:∀o s',Inv X aa σ (upd H a (.ext (qB a o))) s'->jr X.prog X.w (upd H a (.ext (qB a o))) a (d0 kvs k v)->Q ⟨⟩ s'):wpAny (model X.prog X.w) A (setItem ⇑a ⇑b r) Q E s:=by
 refine KQ bp (ap5 I d) (h6.t (aM ..) (by rw[ax (apb d bF)];exact bF) aG) (show bP ⇑b ⇑b from rfl) cM λs' gF=>?_
 rw[vB]at gF;let(o,bz,eP):=X6 gF (aM ..);rw[vB]at bz eP;exact h o s' bz eP
end
def I3(P:Program)(w:World)(fy ty:TE):TE:=λσ H Q=>fy σ H λx H1=>ty σ H1 λy ar=>∃a b kvs k v,x=⇑a/\y=⇑b/\jr P w ar a kvs/\ar b\(.tup (k.map df))/\c5 kvs k\v/\Q v ar
def Qb(P:Program)(w:World)(fy ty eS:TE):d6:=λD σ H=>eS σ H λv H1=>fy σ H1 λx ar=>ty σ ar λy ba=>∃a b kvs k,x=⇑a/\y=⇑b/\jr P w ba a kvs/\ba b\(.tup (k.map df))/\↑kvs<sizeLine/\∀o,jr P w (upd ba a (.ext (qB a o))) a (d0 kvs k v)->D.cc σ (upd ba a (.ext (qB a o)))
def O4(P:Program)(w:World):TE:=λ_ H Q=>∀p o,H p=none->jr P w (upd H p (.ext (qB p o))) p []->Q ⇑p (upd H p (.ext (qB p o)))
section
variable{X:a3}{o i e value:Expr}{pos pos' xt:Pos}{fy ty eS:TE}
def alh(bp:X.A.units+1<cLine)(aX:bu X o fy)(ai:bu X i ty)(aC:Ja i):bu X (.Subscript o i pos) (I3 X.prog X.w fy ty):=by
 intro aa s σ H Q I h;refine Q5 aiM.lookup aC (bE (aX aa s σ H _ I h) λu s1 cn=>eu cn λx H1 aR a7 bT=>bE (ai aa s1 σ H1 _ aR bT) λhr s2 cN=>?_);let(y,ar,bz,bt,a,b,kvs,k,v,ex,kC,d,bF,l,cX):=cN;subst ex kC;obtain rfl:u=dK a:=a7;obtain rfl:hr=dK b:=bt;refine(?_,ajq bp bz d bF l λei s3 d4 h4=>(v,ar,d4,h4,cX));let(b0,aU,ep,xs,r):=d;exact aaH (T_ bz.a6 r)
def aik(bp:X.A.units+1<cLine)(aX:bu X o fy)(ai:bu X i ty)(aQ:bu X value eS)(aC:swapsWith value (some (.Subscript o i pos')) pos.line X.env=pure false) :
  fX X (.Assign [.Subscript o i pos'] value pos) (Qb X.prog X.w fy ty eS):=by
 intro aa s σ H D I h;refine wpAny_Assign_Subscript (bE (aQ aa s σ H _ I h) λr s1 cn=>eu cn λv H1 aR cM bT=>bE (aX aa s1 σ H1 _ aR bT) λu s2 cn=>eu cn λx ar bz a7 cX=>bE (ai aa s2 σ ar _ bz cX) λhr s3 cN=>?_) aC;let(y,ba,d4,bt,a,b,kvs,k,ex,kC,d,bF,aG,fL):=cN;subst ex kC;obtain rfl:u=dK a:=a7;obtain rfl:hr=dK b:=bt;exact agL bp d4 d bF aG cM λb0 s4 gc pw=>(σ,_,gc,fL b0 pw)
def ahS:bu X (.Dict [] [] pos) (O4 X.prog X.w):=λaa s σ H Q I h=>by
 refine bE (ahY aa s σ H (λx H1=>∃p,x=⇑p/\H p=none/\H1=upd H p (.gK [])) I λp ag=>(p,rfl,ag,rfl)) λv s1 cN=>?_
 let(x,H1,aR,bK,p,ex,ag,Bw):=cN;subst ex Bw;let(o,bz,eP):=X6 aR (aM ..);rw[vB]at bz eP;exact(⇑p,_,bz,bK,h p o ag eP)
end
def mR(p d:Addr):Heap->Prop:=λh=>h.IsItemsView p d
def mR.ok{w:World}{h:Heap}{p d:Addr}(z:mR p d h):ce P w H h p (.ext (mR p d)):=
 (z,let⟨o,aX,_⟩:=z;(o,aX),λ_ _ gj k=>let⟨o,aX,x⟩:=gj;(o,k o aX,x))
def eW.Ag{w:World}{h h':Heap}(x:eW P w H h)(k:∀b u,h.get? b\u->h'.get? b\u)(lo:∀b,b<h.objs.size->H' b=H b)
  (new:∀b o,h.objs.size<=b->H' b\o->ce P w H' h' b o):eW P w H' h':=λb u e=>by
 rcases I' b h.objs.size with U|U
 .rw[lo b U]at e;have up:∀{c:Addr} {v:dJ},H c\v->H' c\v:=λ{c v} q=>by
   rcases I' c h.objs.size with aw|aw
   .rw [lo c aw];exact q
   .rw [x.fresh aw]at q;cases q
  exact(x b u e).nE (λc v _ q=>k c v q) (λc q=>up q) λc xs q=>up q
 .exact new b u U e
def gM.Ag{aT:List Addr}{ex:List Addr}{w:World}{h h':Heap}(x:eW P w H h)(k:∀b u,h.get? b\u->h'.get? b\u)(lo:∀b,b<h.objs.size->H' b=H b):gM aT ex H H' h h' where
 keep:=λb u q _ _ _=>k b u q
 slot:=λb u q _ _ _=>(u.slots,k b u q)
 free:=λb u q n _=>by rw[lo b (en q)];exact n
 there:=λb u q _=>(u,k b u q)
 ph:=λb xs q=>by
  rw[lo b (PS λz=>by rw[x.fresh z]at q;cases q)];exact q
 mA:=λb u xs q=>by
  rw[lo b (PS λz=>by rw[x.fresh z]at q;cases q)];exact q
 nB:=λb ps q=>(#[],by rw[lo b (PS λz=>by rw[x.fresh z]at q;cases q),q];simp)
theorem Inv.Ag(I:Inv X aa σ H s)(k:∀b u,s.heap.get? b\u->h'.get? b\u)(lo:∀b,b<↥s->H' b=H b)
  (new:∀b o,↥s<=b->H' b\o->ce X.prog X.w H' h' b o):Inv X aa σ H' {s with heap:=h',toks:=t' }:=I.un (gM.Ag I.a6 k lo) (I.a6.Ag k lo new)
theorem V2:∀as:List Addr,cq (as.map V.ref) (as.map dK)
 |[]=>.nil
 |_::as=>.cons rfl (V2 as)
structure DT(H H':au)(l:Addr)(as:List Addr)(kvs:List (Key×V)):Prop where
 same:∀b o,H b\o->H' b\o
 fresh:H l=none
 auX:∀a∈as,H a=none
 at_:H' l\(.lst (as.map V.ref))
 len:↑as=↑kvs
 al:∀(j:Nat) (a:Addr) (q:Key×V),as[j]?\a->kvs[j]?\q->H' a\(.tup [df q.1,q.2])
 only:∀b o,H' b\o->H b\o\/o=.lst (as.map V.ref)\/∃q∈kvs,o=.tup [df q.1,q.2]
section
variable{X:a3}
def O5:V->List V->au->cR->Prop:=λx vs H Q=>∃d kvs,x=⇑d/\vs=[]/\H d\(.aY kvs)/\∀p,H p=none->Q ⇑p (upd H p (.ext (mR p d)))
def jp:vA X "dict.items" O5:=by
 intro aa s σ H x xs v us Q I a7 cM h;let(d,kvs,rfl,rfl,e,q):=h;cases(show v=dK d from a7);cases cM;let(z,hd,vs,rel,cQ):=oH I.a6 e;refine call_meetsIn x9 cQ.typeIs PySem.F.entry_dict_items (PySem.F.args_dict_items_1 _) (meets_dict_items (hK X.prog X.w) d hd) ((_,cQ),?_);exact(⇑_,_,I.laid (o:=.ext (mR _ d)) (t':=s.toks) (λb u e=>ea _ e) (b1 _) (mR.ok (_,hl _ rfl,rfl,rfl)),rfl,q _ (I.a6.fresh (b1 _)))
def J6:V->List V->au->cR->Prop:=λx vs H Q=>∃d kvs,x=⇑d/\vs=[]/\H d\(.aY kvs)/\Q .b5 (upd H d (.aY []))
def Xj:vA X "dict.clear" J6:=by
 intro aa s σ H x xs v us Q I a7 cM h;let(d,kvs,rfl,rfl,e,q):=h;cases(show v=dK d from a7);cases cM;exact ahe I e λs' gF=>(.b5,_,gF,rfl,q)
theorem Bc(aw:X.calm=true):ky X (.type "list") (λxs H Q=>∃p d kvs,xs=[⇑p]/\H p\(.ext (mR p d))/\H d\(.aY kvs)/\∀l as H',DT H H' l as kvs->Q ⇑l H'):=by
 intro aa s σ H xs us Q I r h;let(p,d,kvs,rfl,ep,g6,q):=h;let(u,rfl,es):=lz r;cases es;let(z,hd,vs,rel,cQ):=oH I.a6 g6;have aQ:mR p d s.heap:=(show ce X.prog X.w H s.heap p (.ext (mR p d))from I.a6 _ _ ep).1;let(Uv,wR):=cQ.dictAt;have hlen:=↑rel;refine PySem.W.kdx_call (knd:=hK X.prog X.w) (kvs:=vs) (ep:=Uv) (I.ok.hd aw) aQ wR () λh' tk acc c as az eD td Hv Qd=>?_
 have eL:∀{i j:Nat} {a:Addr},as[i]?\a->as[j]?\a->i=j:=λ{i j a} aq aA=>by
  have af:=(b3.mp aq);have aj:=(b3.mp aA);have Yr:=aoU.mp Hv.rise;rcases art i j with c|c|c
  .have:=Yr i j af.1 aj.1 c;rw[af.2,aj.2]at this;exact absurd this (ly _)
  .exact c
  .have:=Yr j i aj.1 af.1 c;rw[af.2,aj.2]at this;exact absurd this (ly _)
 let F:au:=λb=>if b<↥s then H b else if b=↥s then some (.lst (as.map V.ref))else match as.findIdx? (· = b)with
  |some j=>(kvs[j]?).map λq:Key×V=>dJ.tup [df q.1,q.2]
  |none=>none
 have L':∀b,b<↥s->F b=H b:=λb U=>if_pos U
 have aaM:F ↥s\(.lst (as.map V.ref)):=(if_neg (ly _)).trans (if_pos rfl);have Fa:∀(j:Nat) (a:Addr),as[j]?\a->F a=(kvs[j]?).map λq:Key×V=>dJ.tup [df q.1,q.2]:=λj a e=>by
  have aV:=Hv.above a (ct e);have af:as.findIdx? (· = a)\j:=by
   rw[Rd];let(aN,br):=b3.mp e;refine(aN,by simp[br],λi ai=>?_);have:=λz:as[i]=a=>gs ai (eL (b3.mpr ((),z)) e)
   simpa using this
  show(if a<↥s then H a else if a=↥s then some (.lst (as.map V.ref))else match as.findIdx? (· = a)with
   |some j=>(kvs[j]?).map λq:Key×V=>dJ.tup [df q.1,q.2]
   |none=>none)=_
  rw[if_neg (Za.mpr (nM aV)),if_neg (xQ aV),af]
 have XK:∀b o,↥s<=b->F b\o->(b=↥s/\o=.lst (as.map V.ref))\/∃(j:Nat) (q:Key×V),as[j]?\b/\kvs[j]?\q/\o=.tup [df q.1,q.2]:=λb o U e=>by
  by_cases JQ:b=↥s
  .rw [JQ,aaM]at e;exact .inl (JQ,(dZ e).symm)
  .have br:(match as.findIdx? (· = b)with
    |some j=>(kvs[j]?).map λq:Key×V=>dJ.tup [df q.1,q.2]
    |none=>none)=some o:=by
    have:F b=_:=(if_neg (Za.mpr U)).trans (if_neg JQ);rw[<- this];exact e
   cases hf:as.findIdx? (· = b)with
   |none=>rw[hf]at br;cases br
   |some j=>
    rw[hf]at br;let(q,aq,aA):=CI.mp br;let(aN,fv,_):=Rd.mp hf;exact .inr (j,q,b3.mpr (aN,by simpa using fv),aq,aA.symm)
 have aG:↑as=↑kvs:=()
 refine(⇑_,F,I.Ag (t':=tk) az L' λb o U e=>?_,rfl,q _ as F (λb o e=>?_,I.a6.fresh (b1 _),λa aV=>I.a6.fresh (nM (Hv.above a aV)),aaM,aG,λj a cW aq aA=>by rw[Fa j a aq,aA];rfl,λb o e=>?_))
 .rcases XK b o U e with⟨rfl,rfl⟩|⟨j,cW,aq,aA,rfl⟩
  .refine (by rw[aO];omega,acc.toList,c,?_,eD);rw[Qd];exact V2 as
  .obtain⟨key,k,x,bG,eM,gk⟩:=Hv.pairs j b aq;obtain⟨uV,ez,fE,k'⟩:=SK rel bG;rw[aA]at ez;cases ez;refine⟨⟨show 2<=sizeLine by decide,_,gk,rfl⟩,[key,x],.cons ?_ (.cons k' .nil),?_⟩
   .rw [fE];exact adv eM
   .exact (_,gk,rfl,0,rfl)
 .rw [L' b (PS λz=>by rw[I.a6.fresh z]at e;cases e)];exact e
 .rcases I' b ↥s with U|U
  .rw [L' b U]at e;exact .inl e
  .rcases XK b o U e with⟨rfl,rfl⟩|⟨j,cW,aq,aA,rfl⟩
   .exact .inr (.inl rfl)
   .exact .inr (.inr (cW,ct aA,rfl))
end
section
open AutoSeq1 (wpAny_loadPart')
open MeetsSeq MeetsSeq2 MeetsSeq3 SeqRoads2
variable{P:Program}{w:World}{l b:Addr}{xs ys:Array Value}{n m:Nat}{cQ atl:Option Addr}{bJ bo:Array (Option Value)}
end
theorem asl(aD:(kvs.map (·.1)).Nodup){k:Key}(h:(p'p k v)∈kvs):c5 kvs k\v:=by
 induction kvs with
 |nil=>cases h
 | cons c1 r cp=>
  rw[e1,qp]at aD;unfold c5;rw[oL];rcases e_.mp h with e|e
  .rw [<- e];simp
  .have bX:c1.1≠k:=λz=>aD.1 (by rw[z];exact cj.mpr ((p'p k v),e,rfl))
   rw[decide_eq_false bX];exact cp aD.2 e
theorem adk{A:Around}(aD:(kvs.map (·.1)).Nodup)(dj:∀c1∈kvs,l7 c1.2=true)(x1:e7 kvs wU) :
  ∀{rest:List (Key×V)} {Kd:List (Key×Value)},e7 rest Kd->(∀c1∈rest,c1∈kvs)->PySem.W.KeqHits A s wU Kd true:=by
 intro rest Kd hq hT;unfold e7 at hq
 induction hq with
 |nil=>exact .nil
 | @cons p q ps qs h t cp=>
  let(k,v):=p;let(j2,u):=q;let(aq,aA):=h;have aq:k=j2:=aq;subst aq;have hm:=hT (p'p k v) (m4 ..);have aQ:=x1.val k;rw[asl aD hm]at aQ;cases aJ:valueAt wU k with
  |none=>rw[aJ]at aQ;cases aQ
  |some y=>
   rw[aJ]at aQ;have f:=dj _ hm;have:=Nf (A:=A) (s:=s) (show bP v u from aA) (show bP v y from aQ) f f;rw[aag f]at this;exact .hit aJ this (cp λc1 kN=>hT c1 (il _ kN))
section
variable{X:a3}{aa:List (Addr×Obj)}{σ:St}{H:au}{s:Shared}{d:Addr}{o:Obj}{kvs:List (Key×V)}
def Xz(I:Inv X aa σ H s)(e:H d\(.aY kvs))(g:s.heap.get? d\o):Inv X aa σ (upd H d (.dg o (.aY kvs))) s:=
 O6 I (by rw[e];exact hI) (o,g) (g,I.a6 d _ e)
def RS(I:Inv X aa σ H s)(e:H d\(.dg o (.aY kvs)))(f6:∀o u,X.th d≠some (.dg o u)):Inv X aa σ (upd H d (.aY kvs)) s:=by
 have ne:∀{b:Addr} {u:Option dJ},H b=u->(∀eF,u≠some (.dg eF (.aY kvs)))->b≠d:=λ{b u} q h z=>h o (by rw[<- q,z];exact e)
 refine(I.ok,I.os,I.bare,(I.base.keep,I.base.slot,λb eF q n ae=>?_,I.base.there,λb xs q=>?_,λb eF u q=>?_,λb ps q=>?_),I.loc,I.cell,?_,λx c q=>?_,λp ag=>?_,λb u q=>?_,I.len)
 .have h:=I.base.free b eF q n ae;rw[ax (ne h (λ_ z=>by cases z))];exact h
 .have h:=I.base.ph b xs q;rw[ax (ne h (λ_ z=>by cases z))];exact h
 .have h:=I.base.mA b eF u q;rw[ax (λz=>f6 eF u (by rw[<- z];exact q))];exact h
 .let(m,h):=I.base.nB b ps q;exact(m,by rw[ax (ne h (λ_ z=>by cases z))];exact h)
 .rw [ax (ne I.free (λ_ z=>by cases z))];exact I.free
 .rw [ax (ne (I.i5 x c q) (λ_ z=>by cases z))];exact I.i5 x c q
 .let(af,aj,bb):=I.pin p ag;exact(af,by rw[ax (ne aj (λ_ z=>by cases z))];exact aj,bb)
 .by_cases U:b=d
  .subst U;rw[aM]at q;cases q;exact(I.a6 b _ e).2
  .rw[ax U]at q;refine(I.a6 b u q).nE (λ_ _ _ r=>r) (λc r=>?_) (λc xs r=>?_)
   .rw [ax (ne r (λ_ z=>by cases z))];exact r
   .rw [ax (ne r (λ_ z=>by cases z))];exact r
end
noncomputable def L4(d:Addr)(o:Obj)(kvs:List (Key×V)):kd:=
 (λi H=>H d\(.dg o (.aY kvs))/\i<↑kvs,λi H x H'=>H'=H/\∃k v,kvs[i]?\(p'p k v)/\x=df k,λi H=>H d\(.dg o (.aY kvs))/\↑kvs<=i)
def age{w:World}{K:bg}{d it:Addr}(ex:o.ExactDict)(aX:o.data=.dict aU ep)
  (aG:aU.size=↑kvs) (b2:∀(i:Nat) (e:DictEntry),aU[i]?\e->∃k v,kvs[i]?\(p'p k v)/\bP (df k) e.key):rE P w K dD (L4 d o kvs) [it] it (λi h=>h.IsKeyIter it d i aU.size ep)where
 mem:=by simp
 obj:=λi h st b U=>by
  have e:b=it:=by simpa using U
  subst e;let(o,e,c,d):=st;exact(o,e,λv z=>by rw[d]at z;cases z)
 keep:=λi h h' st k=>st.at λo e=>k it (by simp) o e
 item:=by
  intro X cS hw fY aw i aa s σ H E I hf st bj;subst cS hw fY;let(ay,ae):=bj;have r:vG s.heap d o aU ep:=((I.a6 d _ ay).1,ex,aX);let(f0,f1,f2,e5,f4,fu):=hf it (by simp);let(q,jN):∃q,aU[i]?\q:=(_,am0 (show i<aU.size by omega));let(k,v,kN,JN):=b2 i q jN;refine al3 st r jN λh' mM p7=>?_
  have aR:Inv X aa σ H {s with heap:=h' }:=I.turned (t':=s.toks) (λb o U e=>(p7.2 b U).trans e) f0 f1 e5 f4 fu;let(qU,e,c,cQ):=id mM;exact(_,rfl,xL (s:={s with heap:=h' }) e c cQ ∅ (df k,H,aR,JN,(rfl,k,v,kN,rfl),mM,λb U=>(hf b U).1))
 done:=by
  intro X cS hw fY aw i aa s σ H E I hf st bj;subst cS hw fY;let(ay,ae):=bj;have r:vG s.heap d o aU ep:=((I.a6 d _ ay).1,ex,aX);let(f0,f1,f2,e5,f4,fu):=hf it (by simp);exact ah0 (I.ok.hd aw) st r () λh' bF=>(rfl,I.turned (t':=s.toks) (λb o U e=>bF b o U e) f0 f1 e5 f4 fu)
 self:=λ_ _ _ _ _ st h=>wpAny_pyIter_keyiter st h
def SS{w:World}{k:Key}(h:(hK P w).is k v=true):bP (df k) v:=by
 rcases pA (k:=k) (v:=v) h with⟨i,t,rfl,rfl⟩|⟨x,t,rfl,rfl⟩
 .exact (t,rfl)
 .exact (t,rfl)
theorem YI{w:World}:∀{aU:List DictEntry} {vs:List (Key×Value)} {kvs:List (Key×V)},Pairs (hK P w) aU vs->e7 kvs vs->↑aU=↑kvs/\∀(i:Nat) (e:DictEntry),aU[i]?\e->∃k v,kvs[i]?\(p'p k v)/\bP (df k) e.key
 |_,_,_,.nil,r=>by
  unfold e7 at r;cases r;exact(rfl,λi e h=>by simp at h)
 | _,_,_,.cons az _ t,r=>by
  unfold e7 at r;cases r with
  | @cons p q ps qs h d7=>
   let(l,al):=YI t (kvs:=ps) d7;refine(by rw[ih,ih,l],λi e he=>?_);cases i with
   |zero=>
    cases he;refine(p.1,p.2,rfl,SS (P:=P) (w:=w) ?_);rw[h.1];exact az
   |succ i=>exact al i e he
section
variable{X:a3}{dD:Expr}
def LR(dr:TE):TI:=λσ H R=>dr σ H λx H1=>∃d kvs,x=⇑d/\H1 d\(.aY kvs)/\∀o,R (L4 d o kvs) (upd H1 d (.dg o (.aY kvs)))
def wN(aG:bu X l dr):p3 X dD l (LR dr):=by
 intro aa s σ H R I h;refine bE (aG aa s σ H _ I h) λv s1 cn=>eu cn λx H1 aR bK bT=>?_
 let(d,kvs,e,g6,q):=bT;subst e;cases bK;let(_,hd,vs,rel,o,aU,ep,g,ex,dat,_,pr,_):=oH aR.a6 g6;let(aG,b2):=YI pr rel;have bz:=Xz aR g6 g;refine afp hd (g,ex,dat) ?_;refine(↥s1,[↥s1],_,_,_,rfl,bz.kept (t':=s1.toks) λb o e=>ea _ e,age ex dat (by rw[<- aG];exact so.symm) (λi e h=>b2 i e (by rw[<- WR]at h;exact h)),(_,hl _ rfl,rfl,rfl),λb U=>?_,q o);have e:b=↥s1:=by simpa using U
 subst e;exact bz.o1 (b1 _) (bz.a6.fresh (b1 _))
def LD(t:TE):TE:=λσ H Q=>∃d kvs,H d\(.aY kvs)/\t σ H λv H'=>∃o,H' d\(.dg o (.aY kvs))/\Q v (upd H' d (.aY kvs))
def ar1{e:Expr}{t:TE}(h:bu X e t):bu X e (LD t):=by
 intro aa s σ H Q I q;let(d,kvs,g6,q):=q;refine bE (h aa s σ H _ I q) λv s1 ⟨x,H1,aR,bK,o,aq,bT⟩=>(x,_,RS aR aq (λeF u z=>?_),bK,bT)
 have:=I.base.mA d eF u z;rw[g6]at this;cases this
def F4:ky X (.type "dict") (λxs H Q=>∃d kvs,xs=[⇑d]/\H d\(.aY kvs)/\∀p,H p=none->Q ⇑p (upd H p (.aY kvs))):=by
 intro aa s σ H xs us Q I r h;let(d,kvs,rfl,g6,q):=h;let(u,rfl,es):=lz r;cases es;exact Xr I (.inl g6) λp s' ag gF=>(⇑p,_,gF,rfl,q p ag)
end
structure p1(X:a3)(aa:List (Addr×Obj))(H:au)(S:Addr):Prop where
 nn:H S=none
 nl:S≠X.env.locals
 ge:↥X.gi<=S
 EZ:∀x c,X.env.cells.lookup x\c->c≠S
 np:∀p∈X.dv++aa,p.1≠S
 f6:S∉X.aT
def p1.of(I:Inv X aa σ H s)(h:↥s<=S):p1 X aa H S:=
 (I.a6.fresh h,λz=>absurd (ic I.lt h) (by rw[z];exact ly _),c9 I.mB h,λx c e z=>by
  let(v,o,aX,_):=I.cell x c e;exact absurd (ic (en aX) h) (by rw[z];exact ly _),λp ag z=>by
  have aX:=(I.pin p ag).1;exact absurd (ic (en aX) h) (by rw[z];exact ly _),I.NG h)
def p1.turn(o:p1 X aa H S)(I:Inv X aa σ H s)(k:∀b o,b≠S->s.heap.get? b\o->h'.get? b\o):Inv X aa σ H {s with heap:=h',toks:=t' }:=
 I.turned k o.nn o.nl (.inr o.ge) o.EZ o.np
section
variable{X:a3}{A:Around}{aa:List (Addr×Obj)}{σ:St}{H:au}{l q I S:Addr}{n:Nat}{P:Nat->Value->Prop}{R:Result->Shared->Prop}
def XN(bL:Inv X aa σ H s)(o9:p1 X aa H S)(pN:p1 X aa H I)(ajb:s.heap.get? S\XY)(ab9:s.heap.get? I\Tw)(alH:∀v,XY.data≠.cell v)(adV:∀v,Tw.data≠.cell v):Inv X ((p'p S XY)::(p'p I Tw)::aa) σ H s:=
 bL.uO λp ag=>by
  rcases e_.mp ag with rfl|ag
  .exact (ajb,o9.nn,o9.nl,o9.f6,alH)
  rcases e_.mp ag with rfl|ag
  .exact (ab9,pN.nn,pN.nl,pN.f6,adV)
  exact bL.pin p (l3 _ ag)
def aaR(bL:Inv X (P1::Ob::aa) σ H s):Inv X aa σ H s/\s.heap.get? P1.1\P1.2/\s.heap.get? Ob.1\Ob.2:=
 (bL.uO λp ag=>bL.pin p (l3 _ (.tail _ (.tail _ ag))),(bL.pin P1 (l3 _ (.head _))).1,(bL.pin Ob (l3 _ (.tail _ (.head _)))).1)
theorem alS(eb:Nat->Int)(dQ:A.handled=none)(aG:∀s,Inv X aa σ H s->∃vs:List Value,↑vs=n/\(∀i v,vs[i]?\v->P i v)/\s.heap.IsList l vs.toArray)(Am:l≠I)(ur:S≠I)(o9:p1 X aa H S)(pN:p1 X aa H I)
  (turn:∀(i:Nat) (v:Value),i<n->P i v->∀(aa:List (Addr×Obj)) (s:Shared),Inv X aa σ H s ->
   wpAny (model X.prog X.w) A.in1 (call ⇑q [v]) (gY X aa σ λx H'=>x=.int (eb i)/\H'=H) (λ_ _=>False) s)
  (hk:∀i v s',i<n->P i v->(∀j,j<n->eb i<=eb j/\(j<i->eb i<eb j))->Inv X aa σ H s'->R (.ok (.ret v)) s') :
  ∀(r j i:Nat) (s:Shared) (tC:Value) (bZ:Tok) (c:Nat),n-(j+1)=r->j+1<=n->Inv X aa σ H s ->
   s.heap.get? S\(seqObj "list" #[tC,.int (eb i) bZ] c)->s.heap.IsListIter I l (j+1)->P i tC->i<=j->(∀jl,jl<=j->eb i<=eb jl/\(jl<i->eb i<eb jl)) ->
   codeAny (model X.prog X.w) A (.builtin "min.loop" ([⇑I,⇑q,⇑S],[])) R s:=by
 have BJ:(toString "min"++toString ".loop":String)="min.loop":=by decide
 intro r
 induction r with
 |zero=>
  intro j i s tC bZ c ao aN bL eD hit JF qd x5;let(vs,BY,FE,AU):=aG s bL;have W:=Cs (prog:=X.prog) (w:=X.w) (A:=A.in1) dQ I l Am vs.toArray;have hsz:vs.toArray.size=↑vs:=eB ..;have hT:j+1=↑vs:=()
  refine codeAny_builtin X' ?_;rw[ZP wz _];show wpAny _ A.in1 (seqItems? ⇑S >>= _) _ _ _;refine wpAny_bind (wpAny_seqItems eD rfl ?_);show wpAny _ A.in1 (tryCatch (pyNext ⇑I) _ >>= _) _ _ _;refine wpAny_bind (wpAny_tryCatch (W.done _ _ _ (by rw[hsz,<- hT];exact hit,AU) λh' xf hA=>?_));have t8:Inv X aa σ H {s with heap:=h',toks:=xf}:=pN.turn bL λb o n e=>hA b o (by simpa using n) e
  have Az:=hA S _ (by simpa using ur) eD;show wpAny _ A.in1 (updateSeq S (λ_=>#[]) >>= _) _ _ _;refine wpAny_bind ?_;refine wpAny_updateSeq Az rfl (wpAny_bind (wpAny_letGo (wpAny_pure ?_)));exact hk i tC _ () JF (λjl hQ=>x5 jl ()) (o9.turn t8 λb o n e=>(lJ _ _ (cT n)).trans e)
 | succ r cp=>
  intro j i s tC bZ c ao aN bL eD hit JF qd x5;let(vs,BY,FE,AU):=aG s bL;have W:=Cs (prog:=X.prog) (w:=X.w) (A:=A.in1) dQ I l Am vs.toArray;have hsz:vs.toArray.size=↑vs:=eB ..;have et:j+1<n:=()
  refine codeAny_builtin X' ?_;rw[ZP wz _];show wpAny _ A.in1 (seqItems? ⇑S >>= _) _ _ _;refine wpAny_bind (wpAny_seqItems eD rfl ?_);show wpAny _ A.in1 (tryCatch (pyNext ⇑I) _ >>= _) _ _ _;refine wpAny_bind (wpAny_tryCatch (W.item (j+1) _ _ _ (by rw[hsz,BY];exact et) (hit,AU) λv h' xf cS Na hA=>?_));have aQ:P (j+1) v:=FE _ _ (by simpa using cS);let(E8,Nv,vj,yd):=id Na.1;have t8:Inv X aa σ H {s with heap:=h',toks:=xf}:=pN.turn bL λb o n e=>hA b o (by simpa using n) e
  have Az:=hA S _ (by simpa using ur) eD;have Ky:=XN t8 o9 pN Az Nv (λ_ z=>by cases z) (λ_ z=>by rw[yd]at z;cases z);show wpAny _ A.in1 (tryCatch (holding [v] (call ⇑q [v])) _ >>= _) _ _ _;refine wpAny_bind (wpAny_tryCatch (wpAny_holding (wpAny_mono (turn (j+1) v et aQ _ _ Ky) (λx s2 he=>?_) λ_ _ Bd=>Bd.elim)));let(gm,H',wq,a7,rfl,rfl):=he;let(gG,rfl):=a7;let(uU,xF,En):=aaR wq;have ao3:s2.heap.IsListIter I l (j+1+1):=(E8,En,vj,yd);show wpAny _ A.in1 (tryCatch (holding [v,.int (eb (j+1)) gG] (richCompare .Lt (.int (eb (j+1)) gG) (.int (eb i) bZ) >>= _)) _ >>= _) _ _ _;refine wpAny_bind (wpAny_tryCatch (wpAny_holding (wpAny_bind (CmpOf.ints_lt (prog:=X.prog) (w:=X.w) (A:=A.in1) (P:=λi v=>∃t,v=.int (eb i) t) eb (λi v h=>h) (j+1) i _ _ _ _ _ (gG,rfl) (bZ,rfl) ?_))));refine wpAny_bind (wpAny_holding (wpAny_truthy_bool ?_));refine wpAny_bind (wpAny_letGo (wpAny_pure ?_));by_cases fv:eb (j+1)<eb i
  .obtain⟨cP,K8⟩:∃cP,(s2.heap.update S (s9 fun _=>#[v,.int (eb (j+1)) gG])).get? S=some (seqObj "list" #[v,.int (eb (j+1)) gG] cP):=⟨_,get?_update_seq xF fun _=>#[v,.int (eb (j+1)) gG]⟩;simp only[fv,decide_true,if_true];refine wpAny_bind ?_;refine wpAny_updateSeq xF rfl (wpAny_bind (wpAny_letGo ?_));rw[BJ];have i0:=o9.turn (t':=s2.toks) uU (h':=s2.heap.update S (s9 fun _=>#[v,.int (eb (j+1)) gG])) fun b o n e=>(lJ _ _ (cT n)).trans e
   refine wpAny_pure (plainId_quiet wz _,cp (j+1) (j+1) _ v gG cP () et i0 K8 (E8,(lJ _ _ ur).trans En,vj,yd) aQ (b1 _) λjl hQ=>?_);by_cases e:jl=j+1
   .subst e;exact((),λ_=>())
   .have E9:=x5 jl ();have j5:=E9.1;exact((),λ_=>())
  .simp only[fv,decide_false,OP,if_false];refine wpAny_bind (wpAny_letGo ?_);rw[BJ];refine wpAny_pure (plainId_quiet wz _,cp (j+1) i _ tC bZ c () et uU xF ao3 JF () λjl hQ=>?_);by_cases e:jl=j+1
   .subst e;exact((),λ_=>())
   .exact x5 jl ()
def TW(eb:Nat->Int)(dQ:A.handled=none)(bL:Inv X aa σ H s)(aG:∀aa s,Inv X aa σ H s->∃vs:List Value,↑vs=n/\(∀i v,vs[i]?\v->P i v)/\s.heap.IsList l vs.toArray)(bX:0<n)
  (turn:∀(i:Nat) (v:Value),i<n->P i v->∀(aa:List (Addr×Obj)) (s:Shared),Inv X aa σ H s ->
   wpAny (model X.prog X.w) A.in1 (call ⇑q [v]) (gY X aa σ λx H'=>x=.int (eb i)/\H'=H) (λ_ _=>False) s)
  (a9:∀i v s',i<n->P i v->(∀j,j<n->eb i<=eb j/\(j<i->eb i<eb j))->Inv X aa σ H s'->Q v s') :
  wpAny (model X.prog X.w) A (call (.builtin "min") [⇑l] [(p'p (ab "key") (⇑q))]) Q E s:=by
 have BJ:(toString "min"++toString ".loop":String)="min.loop":=by decide
 let(aj9,_,_,mJ):=aG _ s bL;let(ol,afE,_):=id mJ;have n7:l<↥s:=en afE;refine kmk_tree PySem.F.kind_min PySem.F.plain_min PySem.F.entry_min (kmk_min_key _ _) ?_;show wpAny _ A.in1 (apN "min" ["key","default"] 0 ([],[(p'p (ab "key") (⇑q))]) >>= _) _ _ s;refine wpAny_bind (wpAny_of_eq (show apN "min" ["key","default"] 0 ([],[(p'p (ab "key") (⇑q))])=pure [some ⇑q,none]from rfl) ?_);refine wpAny_bind (wpAny_pure ?_);refine wpAny_bind (wpAny_pyIter_list mJ ?_);refine wpAny_bind (wpAny_newList ?_ (e0 _));rw[BJ];have eD:(s.heap.push {cls:=.type "list_iterator",data:=.fields #[⇑l,.int 0 0]}).objs.size=↥s+1:=size_push' ..;have Am:l≠↥s:=gs n7;have ur:(s.heap.push {cls:=.type "list_iterator",data:=.fields #[⇑l,.int 0 0]}).objs.size≠↥s:=by rw[eD];exact xQ (Pc _)
 refine wpAny_pure (plainId_quiet wz _,?_);have pN:p1 X aa H ↥s:=.of bL (b1 _);have o9:p1 X aa H (s.heap.push {cls:=.type "list_iterator",data:=.fields #[⇑l,.int 0 0]}).objs.size:=.of bL (by rw[eD];exact xr _);have asj:((s.heap.push {cls:=.type "list_iterator",data:=.fields #[⇑l,.int 0 0]}).push (seqObj "list" #[] 0)).get? ↥s=some {cls:=.type "list_iterator",data:=.fields #[⇑l,.int 0 0]}:=
  ea _ (hl _ rfl)
 have Ve:((s.heap.push {cls:=.type "list_iterator",data:=.fields #[⇑l,.int 0 0]}).push (seqObj "list" #[] 0)).get? (s.heap.push {cls:=.type "list_iterator",data:=.fields #[⇑l,.int 0 0]}).objs.size\(seqObj "list" #[] 0):=hl _ rfl;have TP:Inv X aa σ H {s with heap:=(s.heap.push {cls:=.type "list_iterator",data:=.fields #[⇑l,.int 0 0]}).push (seqObj "list" #[] 0)}:=bL.kept (t':=s.toks) λb o e=>ea _ (ea _ e)
 let(vs,BY,FE,AU):=aG _ _ TP;have W:=Cs (prog:=X.prog) (w:=X.w) (A:=A.in1) dQ ↥s l Am vs.toArray;have hsz:vs.toArray.size=↑vs:=eB ..;refine codeAny_builtin X' ?_;rw[ZP wz _];show wpAny _ A.in1 (seqItems? ⇑_ >>= _) _ _ _;refine wpAny_bind (wpAny_seqItems Ve rfl ?_);show wpAny _ A.in1 (tryCatch (pyNext (.ref ↥s)) _ >>= _) _ _ _;refine wpAny_bind (wpAny_tryCatch (W.item 0 _ _ _ (by rw[hsz,BY];exact bX) ((_,asj,rfl,rfl),AU) λv h' xf cS Na hA=>?_));have aQ:P 0 v:=FE _ _ (by simpa using cS);let(E8,Nv,vj,yd):=id Na.1;have t8:=pN.turn (h':=h') (t':=xf) TP λb o n e=>hA b o (by simpa using n) e
 have Az:=hA _ _ (by simpa using ur) Ve;have Ky:=XN t8 o9 pN Az Nv (λ_ z=>by cases z) (λ_ z=>by rw[yd]at z;cases z);show wpAny _ A.in1 (tryCatch (holding [v] (call ⇑q [v])) _ >>= _) _ _ _;refine wpAny_bind (wpAny_tryCatch (wpAny_holding (wpAny_mono (turn 0 v bX aQ _ _ Ky) (λx s2 he=>?_) λ_ _ Bd=>Bd.elim)));let(gm,H',wq,a7,rfl,rfl):=he;let(gG,rfl):=a7;let(uU,xF,En):=aaR wq;let(cP,K8):∃cP,(s2.heap.update (s.heap.push {cls:=.type "list_iterator",data:=.fields #[⇑l,.int 0 0]}).objs.size (s9 λ_=>#[v,.int (eb 0) gG])).get? (s.heap.push {cls:=.type "list_iterator",data:=.fields #[⇑l,.int 0 0]}).objs.size=some (seqObj "list" #[v,.int (eb 0) gG] cP):=(_,get?_update_seq xF λ_=>#[v,.int (eb 0) gG]);show wpAny _ A.in1 (updateSeq (s.heap.push {cls:=.type "list_iterator",data:=.fields #[⇑l,.int 0 0]}).objs.size (λ_=>#[v,.int (eb 0) gG]) >>= _) _ _ _;refine wpAny_bind ?_;refine wpAny_updateSeq xF rfl ?_;rw[BJ];have i0:=o9.turn (t':=s2.toks) uU (h':=s2.heap.update (s.heap.push {cls:=.type "list_iterator",data:=.fields #[⇑l,.int 0 0]}).objs.size (s9 λ_=>#[v,.int (eb 0) gG])) λb o n e=>(lJ _ _ (cT n)).trans e
 refine wpAny_pure (plainId_quiet wz _,alS eb dQ (λs bL=>aG _ s bL) Am ur o9 pN turn a9 _ 0 0 _ v gG cP rfl bX i0 K8 (E8,(lJ _ _ ur).trans En,vj,yd) aQ (b1 _) λjl hQ=>?_);have e:jl=0:=()
 subst e;exact((),λh=>absurd h (ly _))
end
structure Gx(p y z:Str)(sc:Scope):Prop where
 kind:sc.kind=.function
 co:sc.isCoroutine=false
 gen:sc.isGenerator=false
 ne:y≠z
 par:sc.names.lookup p\.local
 abk:sc.names.lookup y\.free
 Le:sc.names.lookup z\.free
 w6:∀z∈sc.names,z.2≠.cell
 two:∀b∈sc.names,b.2=.free->b.1=y\/b.1=z
noncomputable def vu(X:a3)(A:Around)(N:List Str)(q:Str)(scope:Scope)(f c':Addr)(cl:List (Str×Addr))(s:Shared)(H:au):a3 where
 prog:=X.prog
 w:=X.w
 K:=X.K
 mg:=X.mg
 base:=X.base
 A:=A.deeper (OV q scope ↥s f ⇑c' cl)
 N:=N
 gi:=s
 th:=H
 env:=OV q scope ↥s f ⇑c' cl
 outer:=X.stack
 stack:=OV q scope ↥s f ⇑c' cl::X.stack
 ex:=[]
 fn:=λ_=>false
 calm:=true
 dv:=[]
 dG:=λ_ _=>False
section
variable{X:a3}{A:Around}{aa:List (Addr×Obj)}{σ:St}{H:au}{s:Shared}{k:Nat}{f c' ck cP:Addr}{q p y z:Str}{params:Arguments}{body:Expr}{scope:Scope}{v1 v2:V}{t:TE}
theorem FF{x:Str}(e:([(p'p y ck),(p'p z cP)]:List (Str×Addr)).lookup x\c):(x=y/\c=ck)\/(x=z/\c=cP):=by
 rw[lj]at e;cases U:x==y with
 |true=>rw[U]at e;cases e;exact .inl (eq_of_beq U,rfl)
 |false=>
  rw[U]at e;simp only[lj]at e;cases j5:x==z with
  |true=>rw[j5]at e;cases e;exact .inr (eq_of_beq j5,rfl)
  |false=>rw[j5]at e;cases e
theorem aqh(S:Gx p y z scope)(ao:eR k A)(iN:A.frames\X.stack)(I:Inv X aa σ H s)(ne:ck≠cP)(b8:H ck=none)(b':H cP=none)
  (cF:∃u,bP v1 u/\s.heap.IsCell ck (some u)) (cB:∃u,bP v2 u/\s.heap.IsCell cP (some u)) (hq:bP a u)
  (pO:af.Ns ↥s (λx=>[(p'p p u)].reverse.lookup x)) (az:∀b o,s.heap.get? b\o->af.get? b\o) :
  Inv (vu X A [p,y,z] q scope f c' [(p'p y ck),(p'p z cP)] s H) [] [some a,some v1,some v2] H {s with heap:=af,toks:=tk}:=by
 let(oh,bK,fk,QD,Vq):=cF;let(zV,fc,qU,UY,ZA):=cB;have S6:([(p'p y ck),(p'p z cP)]:List (Str×Addr)).lookup y\ck:=by rw[lj,beq_self_eq_true]
 have QG:([(p'p y ck),(p'p z cP)]:List (Str×Addr)).lookup z\cP:=by
  rw[lj,show(z==y)=false from by simpa using cT S.ne];simp only[lj,beq_self_eq_true]
 have tK:∀b:Addr,b∉(vu X A [p,y,z] q scope f c' [(p'p y ck),(p'p z cP)] s H).ex:=λb z=>absurd (show b∈([]:List Addr)from z) (by simp)
 refine((I.ok.mod,S.kind,rfl,rfl,b1 _,λx w c aq aA=>?_,λx ae=>?_,λx c hf e=>?_,λ_=>ao.hd,agk iN,.inr (rfl,rfl),λb z=>absurd z (tK b),I.bs,c9 I.ok.lP I.mB,λb _ _=>tK b,λb z=>absurd z (tK b),I.stack,I.BB),
  rfl,I.bare,gM.kept az,(_,pO,λi x ED aq aA bG=>?_),λx c e=>?_,I.a6.fresh (b1 _),λx c e=>?_,λz aH=>absurd (show z∈([]:List (Addr×Obj))from aH) (by simp),I.a6.kept az,rfl)
 .rcases FF aq with⟨rfl,rfl⟩|⟨rfl,rfl⟩ <;> rcases FF aA with⟨rfl,h⟩|⟨rfl,h⟩
  .rfl
  .exact absurd h ne
  .exact absurd h.symm ne
  .rfl
 .have ae:scope.names.lookup x\.cell\/scope.names.lookup x\.free:=ae;rcases ae with ae|ae
  .exact absurd rfl (S.w6 _ (xj ae))
  .rcases S.two _ (xj ae) rfl with h|h
   .have h:x=y:=h;exact(ck,by rw[h];exact S6)
   .have h:x=z:=h;exact(cP,by rw[h];exact QG)
 .cases hf
 .match i,aq,aA with
  |0,aq,aA=>
   cases aq;cases aA;exact(u,hq,.inl (S.par,by show qw p [(p'p p u)]\u;rw[lj,beq_self_eq_true]))
  |1,aq,aA=>
   cases aq;cases aA;exact(oh,bK,.inr (.inr S.abk,ck,S6,(fk,az _ _ QD,Vq)))
  |2,aq,aA=>
   cases aq;cases aA;exact(zV,fc,.inr (.inr S.Le,cP,QG,(qU,az _ _ UY,ZA)))
  |i+3,aq,_=>simp[vu]at aq
 .rcases FF e with⟨_,rfl⟩|⟨_,rfl⟩
  .exact (_,fk,az _ _ QD,Vq)
  .exact (_,qU,az _ _ UY,ZA)
 .rcases FF e with⟨_,rfl⟩|⟨_,rfl⟩
  .exact b8
  .exact b'
theorem aox(S:Gx p y z scope)(ao:eR k A)(iN:A.frames\X.stack)(I:Inv X aa σ H s)(ne:ck≠cP)(b8:H ck=none)(b':H cP=none)
  (cF:∃u,bP v1 u/\s.heap.IsCell ck (some u)) (cB:∃u,bP v2 u/\s.heap.IsCell cP (some u))
  (LS:H f\(.ext (mV f q params body scope [(y,ck),(z,cP)] c'))) (lp:H c'\(.ext (n4 c' q)))
  (U:∀pm k2,bindArgs (arh "<lambda>" q params body scope [(p'p y ck),(p'p z cP)] pm ⇑c' k2) ([u],[])=pure [(p'p p u)]) (hq:bP a u)
  (o5:bu (vu X A [p,y,z] q scope f c' [(p'p y ck),(p'p z cP)] s H) body t) (h:t [some a,some v1,some v2] H Q) :
  wpAny (model X.prog X.w) A (call ⇑f [u]) (gY X aa σ Q) E s:=by
 have inner:codeAny (model X.prog X.w) A (.call ⇑f ([u],[])) (Dd dy X.stack X.prog X.w H s Q wm) s:=by
  let((pm,k2,aX),_):=I.a6 _ _ LS;refine PySem.W.kla_callFunE ao.depth aX rfl S.co S.gen rfl (I.a6 _ _ lp).1 ?_;rw[U];refine wpAny_pure (wpAny_newFunctionEnv S.w6 (λz aH=>by rw[eg.mp aH];exact S.par) (λaf pO wL=>(I.nolimit.fresh _ wL,?_)) S.kind);have az:∀b o,s.heap.get? b\o->af.get? b\o:=λb o e=>wL.extBut b o (gs (en e)) (ea _ e)
  show codeAny _ _ (.expr body (OV q scope ↥s f ⇑c' [(p'p y ck),(p'p z cP)])) _ _;have bL:=aqh (f:=f) (c':=c') (q:=q) (tk:=s.toks+↑[(p'p p u)]) S ao iN I ne b8 b' cF cB hq pO az;refine PySem.W.kla_codeExpr (wpAny_mono (o5 [] _ _ _ _ bL h) (λauF s' ay=>?_) λ_ _ z=>j6 z);let(x,H',G5,a7,cW):=ay;exact(x,H',G5.os,G5.bare,G5.base,G5.a6,a7,cW)
 refine wpAny_call (codeAny_mono inner λr s' ay=>?_);cases r with
 |error e=>exact ay.elim
 |ok dj=>
  cases dj with
  |ret u=>exact I.after ay
  |next=>exact j6 ay
  |brk=>exact j6 ay
  |cont=>exact j6 ay
end
def aE.p{K:bg}(s:vh Pt H H')(t:Tab H Pt pos q)(h:aE K H a xs):aE K H' a xs:=by
 rcases h with(h|⟨o,h⟩)|h
 .exact .inl (.inl (s _ _ (t.ne h (λ_ z=>by cases z)) h))
 .exact .inl (.inr (o,s _ _ (t.ne h (λ_ z=>by cases z)) h))
 .exact .inr h
def V8(K:bg)(Pt:Addr)(sA:Pos)(q:Str)(i1 i2:Nat)(t:TE)(bc:fG):TE:=λσ H Q=>bc σ H λvs H1=>∃l b2 v1 v2,∃g:Int->Int,vs=[⇑l]/\aE K H1 l (tE V.int b2)/\b2≠[] /\
 σ[i1]?\(some v1)/\σ[i2]?\(some v2)/\Tab H1 Pt sA q/\∀ar,vh Pt H1 ar->(aI H1->aI ar)->Tab ar Pt sA q ->
  (∀n∈b2,t [some (.int n),some v1,some v2] ar λx H'=>x=.int (g n)/\H'=ar)/\∀(i:Nat) m,b2[i]?\m->(∀(j:Nat) n,b2[j]?\n->g m<=g n/\(j<i->g m<g n))->Q (.int m) ar
theorem al4{k:Nat}{t:TE}{p bM pos sA:Pos}
  (aw:X.calm=true) (bj:kK X "min") (hm:X.mg "min"=none) (aV:ho X [a] bc) (T:Ry X c Pt) (ao:eR (k+1) X.A) (S:Gx pr y z scope) (af:X.env.cells.lookup y\ck) (aj:X.env.cells.lookup z\cP) (Lk:defaultsOf params X.env=(p'p [] [])) (qz:closureFor scope X.env=pure [(p'p y ck),(p'p z cP)])
  (bS:X.env.scope.names.lookup y\.cell) (cY:X.env.scope.names.lookup z\.cell) (af9:X.N[i1]?\y) (asG:X.N[i2]?\z)
  (U:∀c' pm k2 u,bindArgs (arh "<lambda>" (X.env.qual++"<lambda>") params body scope [(p'p y ck),(p'p z cP)] pm ⇑c' k2) ([u],[])=pure [(p'p pr u)])
  (o5:∀f c' s H,∃t',bu (vu X X.A.in1 [pr,y,z] (X.env.qual++"<lambda>") scope f c' [(p'p y ck),(p'p z cP)] s H) body t'/\t'=t)
  (he:∀pos,backTo pos (starEach [a] X.env)=(p'p false (eval a X.env))::backTo pos (starEach [] X.env):=by intro _;rfl) (cE:∀pos,(backTo pos (starEach [a] X.env)).any (·.1)=false:=by intro _;rfl) :
  bu X (.Call (.Name "min" p) [a] [(some "key",.Lambda params body scope sA,bM)] pos) (V8 X.K Pt sA (X.env.qual++"<lambda>") i1 i2 t bc):=by
 intro aa s σ H Q I h;refine wpAny_Call_Name_kw (ye I bj hm ((∅:bootBuiltins "min"\(.builtin "min"))) ?_);refine callWith_kw (id:="min") (bE (aV pos aa s σ H _ I h) λus s1 cN=>?_) (he:=he pos) (hplain:=cE pos);let(vs,H1,aR,bK,bT):=cN;let(l,b2,v1,v2,g,rfl,ay,bX,aq,aA,bZ,q):=bT;refine kws_cons (anK aR T bZ qz Lk λf c' ar s2 bz bo bH sF LS lp f6=>kws_nil ?_);let(mc,akG):=q ar bo bH sF;have jN:=ay.p bo bZ;have cell:∀{aa:List (Addr×Obj)} {s:Shared} (bL:Inv X aa σ ar s) {i:Nat} {x:Str} {v:V} {cl:Addr},X.N[i]?\x->σ[i]?\(some v)->X.env.scope.names.lookup x\.cell->X.env.cells.lookup x\cl->∃u,bP v u/\s.heap.IsCell cl (some u):=by
  intro aa s bL i x v cl bw ev ae u1;let(m,a0,wg):=bL.loc;let(u,es,lo):=wg i x v bw ev (.inr (.inl ae));have az:X.env.kindOf x\.cell:=ae;rcases lo with⟨w,_⟩|⟨_,atw,dp,ef⟩
  .rw [az]at w;cases w
  .rw [u1]at dp;cases dp;exact(u,es,ef)
 have aeu:ck≠cP:=λw=>S.ne (I.ok.inj _ _ _ af (by rw[w];exact aj))
 cases bK with
 | cons r vl=>
  cases vl;cases r;have AX:0<↑b2:=VX.mpr bX;refine TW (n:=↑b2) (P:=λi v=>∃t,v=.int (b2.getD i 0) t) (λi=>g (b2.getD i 0)) (aR.ok.hd aw) bz (λaa s bL=>?_) AX (λi v ai aQ aa s bL=>?_) λi v s' ai aQ x5 bL=>?_
  .obtain⟨a',cM,pl,aH⟩:=bL.list jN;have aG:=↑cM;rw[aO]at aG;refine⟨a',aG.symm,fun i v aQ=>?_,pl.isList⟩;have ai:i<↑b2:=by have:=(b3.mp aQ).1;omega
   let(w,hw,h4):=cM.get (show(b2.map V.int)[i]?\(.int b2[i])by rw[dF,bq ai];rfl);rw[aQ]at hw;cases hw;rw[k5,bq ai];exact h4
  .obtain⟨t',E9,rfl⟩:=o5 f c' s ar;have hm:b2.getD i 0∈b2:=by rw[k5,bq ai];exact mL ai
   exact aox (a:=.int (b2.getD i 0)) S ao.in1 aR.ok.frames bL aeu (bL.i5 _ _ af) (bL.i5 _ _ aj) (cell bL af9 aq bS af) (cell bL asG aA cY aj) LS lp (λpm k2=>U c' pm k2 v) aQ E9 (mc _ hm)
  .obtain⟨tk,rfl⟩:=aQ;refine⟨.int (b2.getD i 0),ar,bL,⟨tk,rfl⟩,akG i _ (by rw[k5,bq ai];rfl) fun j n aN=>?_⟩;have l1:j<↑b2:=(b3.mp aN).1;have e:b2.getD j 0=n:=by rw[k5,aN];rfl
   have:=x5 j l1;rw[e]at this;exact this
def cg.alF{w:World}{K:bg}{mg:Str->Option Value}{base:Heap}{x qual:Str}{st:Stmt}{fd:FuncData}{N ps:List Str}{k:Nat}(F:cg K x qual st f fd)(S:cx N ps (bD st))(len:∀vs H Q E,sp vs H Q E->↑vs=↑ps)
  (o5:∀(fi:Value),fd.code=fi->∀(A:Around) (outer:List Env) (s:Shared) (H:au) (vs:List V) (Q:cR) (E:ee),eR k (A.deeper (envOfC qual (bD st) ↥s f fi))->sp vs H Q E ->
   ∃t,hC (nC dy P w K mg base N qual (bD st) f fi A outer s H E).uc (sV st) t/\t {cc:=λ_ H'=>Q .b5 H',lB:=Q} (start N vs) H):cz P w K mg base dy (k+1) f fd ps sp:=by
 let(oe,bB,df,doc,pm,an,fi,fS,sX,rfl,lk,kz):=F.ex;refine IQ lk kz S len λA outer s H vs Q E ao lZ=>?_
 let(t,h,q):=o5 fi rfl A outer s H vs Q E ao lZ;exact(t,h.uc,q)
def aac(_:Addr):Prop:=True
noncomputable abbrev Uo{P:Addr}(_:aac P):Addr:=P
def alj {l:PySem.W.OpenLaw} {n k:Nat} {q:Program} {loose:List Str} {Gy:(Str->Option Value)->Heap->Prop} {wO:World->Heap->Prop} {d:DefRec} {K:Params->bg} {CX:jE} {sp:bg->Addr->bW} {x:Str} {Pt:Addr}
  (a0:l.most\n) (pX:n<=sizeLine) (Qn:d.params.defaults=[]) (ao:eR k callerA)
  (asQ:∀(w:World) (h:Heap),wO w h->(K w.params).In h) (ec:∀(w:World) (h:Heap),wO w h->h.get? Pt\(Zb #[])) (fY:∀p,am9 (K p)=true)
  (F:∀(w:World) (mg:Str->Option Value) (hg:Addr) (h:Heap),(K w.params).In h->h.Ns mainGlobals mg->mg d.name\⇑hg->aac Pt ->
   ∃(fd:FuncData) (c:Addr),(∀(s:Shared) (u:Value),BindsTo s fd ([u],[]) [(p'p x u)])/\afI (K w.params) c Pt=true /\
    ∀(base:Heap),(K w.params).In base->base.Ns mainGlobals mg->pe base c Pt->base.BuiltinsAt mg Pt->cz l.prog w (K w.params) mg base CX k hg fd [x] (sp (K w.params) Pt))
  (lZ:∀(K:bg) (H:au) (a Pt:Addr) (ns:List Int),↑ns<=n->C5 Pt H->aE K H a (ns.map V.int)->sp K Pt [⇑a] H (λv _=>v=.bC true) λ_ _ _=>False)
  (Oj:∀(H:au) (s:Shared) (e:Value) (s':Shared),CX [] H s (λ_ _ _=>False) e s'->False) :
  PySem.W.WalkO q loose Gy wO l.row.toRowW d [] (λf vs=>ahx f vs):=by
 refine UB.ajD a0 Qn λw gi dM mg oq hg o pm cd doc a vs ns G Y aX hd kz zy Qo hints hlen bj=>?_
 have fF:=asQ w _ Y;let(fd,c,U,aw,Bd):=F w mg hg _ fF G.T.g zy trivial;exact afK (c:=c) (Pt:=Pt) fF (fY w.params) G.T.g G.T.b G.T.builtins G.T.nolimit bj G.T.bmain (PySem.W.codeHd_of_K fF aw) (ec w _ Y) Qo hints (c9 hlen pX) ao Bd U (λH m7 eD=>lZ (K w.params) H a Pt ns hlen m7 eD) λH e s'=>Oj H dM e s'
noncomputable def Y7(st:Stmt):Expr:=match (sV st).getLast? with
 |some (.Return (some (.Call _ _ [⟨_,e,_⟩] _)) _)=>e
 |_=>.Constant .none 0 (0,0,0,0)
def PG(t:d6):d6:=λD σ H=>∃d kvs,H d\(.aY kvs)/\t {cc:=λav H'=>∃o,H' d\(.dg o (.aY kvs))/\D.cc av (upd H' d (.aY kvs)),lB:=λ_ _=>False} σ H
theorem xV{st:Stmt}{t:d6}(h:fX X st t):fX X st (PG t):=by
 intro aa s σ H D I q;let(d,kvs,g6,q):=q;refine bE (h aa s σ H _ I q) λf s1 ay=>?_
 cases f with
 |next=>
  let(fO,H1,aR,o,aq,bT):=ay;refine(fO,_,RS aR aq (λeF u z=>?_),bT);have:=I.base.mA d eF u z;rw[g6]at this;cases this
 |ret u=>let(_,_,_,_,_,z):=ay;exact z.elim
 |brk=>let(_,_,_,z):=ay;exact z.elim
 |cont=>let(_,_,_,z):=ay;exact z.elim
section
open PySem.Spec PyProof.Rows
variable{prog:Program}{w:World}{A:Around}{E:Value->Shared->Prop}{s:Shared}
end
def dd(t u:d6)(D:iq)(σ:St)(H:au):NZ t u D σ H=(t {D with cc:=u D} σ H):=rfl
def SY(K:bg):Wx K bc eS f D σ H=(eS σ H λy H1=>bc σ H1 λx ar=>ap x λa=>∃C ak aT,ar a\(.ins C ak aT)/\hx K C/\dc K C f/\↑aT<1000 /\
 D.cc σ (upd ar a (.ins C ak (c_ f y aT)))):=rfl
def Zs(K:bg)(i8:V->V->au->cR->Prop):T7 K bc eS i8 f D σ H=(bc σ H λx H1=>∃a C ak aT v,x=⇑a/\H1 a\(.ins C ak aT)/\hx K C/\dc K C f/\aT.lookup f\v /\
 eS σ H1 λy ar=>i8 v y ar λz ba=>∃hG pZ,ba a\(.ins C hG pZ)/\↑pZ<1000/\D.cc σ (upd ba a (.ins C hG (c_ f z pZ)))):=rfl
def Ze(t:fG):MA C m sp dvs E bc t σ H Q=(bc σ H λx H1=>ap x λa=>∃ak aT,H1 a\(.ins C ak aT)/\aT.lookup m=none /\
 t σ H1 λvs ar=>sp (x::(vs++dvs)) ar Q E):=rfl
def TX(t:fG):Xk C sp dvs E t σ H Q=(t σ H λvs H1=>∀x ak,H1 x=none->H1 ak=none->ak≠x ->
 sp (⇑x::(vs++dvs)) (upd (upd H1 ak (.own x)) x (.ins C ak [])) (λv ar=>v=.b5/\Q ⇑x ar) E):=rfl
def WA(K:bg)(x:V)(lo:Option Int)(ai:Option Int)(H:au)(Q:cR):abC K x lo ai H Q=(∃a xs,x=⇑a/\de K H a xs /\
 ¬(gU.dH ↑xs 0 lo=0/\gU.dH ↑xs ↑xs ai=↑xs)/\∀p,H p=none->Q ⇑p (upd H p (.tup (n5 xs lo ai)))):=rfl
def aau(fy ty eS:TE)(i8:V->V->au->cR->Prop):aaP fy ty eS i8 D σ H=(fy σ H λx H1=>ty σ H1 λy ar=>∃a v,x=⇑a/\fj ar a y (some v) /\
 eS σ ar λiX ba=>i8 v iX ba λz cm=>∃cG,h6 cm a y z cG/\D.cc σ cG):=rfl
def Uu(fy ty vM:TE):QM fy ty vM σ H Q=(fy σ H λx H1=>∃a,x=⇑a/\NT H1 a/\ty σ H1 λy ar=>vM σ ar λz ba=>∃kvs k,ba a\(.aY kvs)/\y=df k /\
 (∀v,c5 kvs k\v->Q v (upd ba a (.aY (sE kvs k))))/\(c5 kvs k=none->Q z ba)):=rfl
def abp(t:fG):Pl nF m nJ E bc t σ H Q=(bc σ H λx H1=>∃a C ak aT,x=⇑a/\H1 a\(.ins C ak aT)/\nF C/\aT.lookup m=none /\
 t σ H1 λvs ar=>nJ C (x::vs) ar Q E):=rfl
def UE(K:bg):aap K bc eS f D σ H=(eS σ H λy H1=>bc σ H1 λx ar=>∃a C,x=⇑a/\ar a\(.ext (gB a C none))/\nV K C/\dc K C f /\
 ∀ak,ar ak=none->ak≠a->D.cc σ (upd (upd ar a (.ext (gB a C (some ak)))) ak (.ext (k4 ak [(f,y)])))):=rfl
def VG(t:fG):UZ C m sp dvs E bc t σ H Q=(bc σ H λx H1=>∃a ak aT,x=⇑a/\H1 a\(.ins C ak aT)/\aT.lookup m=none /\
 t σ H1 λvs ar=>sp (x::(vs++dvs)) ar Q (E σ)):=rfl
def Vk(K:bg)(t:TE):V8 K Pt sA q i1 i2 t bc σ H Q=(bc σ H λvs H1=>∃l b2 v1 v2,∃g:Int->Int,vs=[⇑l]/\aE K H1 l (tE V.int b2)/\b2≠[] /\
 σ[i1]?\(some v1)/\σ[i2]?\(some v2)/\Tab H1 Pt sA q/\∀ar,vh Pt H1 ar->(aI H1->aI ar)->Tab ar Pt sA q ->
  (∀n∈b2,t [some (.int n),some v1,some v2] ar λx H'=>x=.int (g n)/\H'=ar)/\∀(i:Nat) m,b2[i]?\m->(∀(j:Nat) n,b2[j]?\n->g m<=g n/\(j<i->g m<g n))->Q (.int m) ar):=rfl
def ey(bL:kd)(g:hv)(bZ:d6)(D:iq)(σ:St)(H:au):Prop:=∃W:Nat->Nat->St->au->Prop,(∃m,W 0 m σ H)/\∀i m σ H,W i m σ H ->
 (bL.stop i H/\D.cc σ H)\/(bL.go i H/\∃N:St->au->Prop,(∀av H',N av H'->∃c3,c3<m/\W (i+1) c3 av H')/\∀x H',bL.rW i H x H'->g x σ H' λcO ar=>bZ {D with cc:=N,fS:=N,c6:=D.cc} cO ar)
def YS:QW fB g bZ D σ H=fB σ H λbL H1=>ey bL g bZ D σ H1:=rfl
def dB(bL:kd)(g:hv)(dW:TT)(bV:TE)(d2:St)(Q:cR)(H:au):Prop:=∃W:Nat->Nat->List V->au->Prop,(∃m,W 0 m [] H)/\uz bL g dW bV d2 Q W
def YL:H6 fB g dW bV sel σ H Q=fB σ H λbL H1=>dB bL g dW bV (nN sel σ) Q H1:=rfl
def Yi:T4 bc σ H R=(bc σ H λvs H1=>om vs λx=>ha x λj=>-4611686018427387904<=j/\j<4611686018427387904/\R (oD 0 j.toNat) H1):=rfl
def ak5(f:α->β):[].map f=[]:=rfl
def ap4(f:α->β)(a:α)(l:List α):(a::l).map f=f a::l.map f:=rfl
def acI(l:List α):[]++l=l:=rfl
def aei(a:α)(l r:List α):(a::l)++r=a::(l++r):=rfl
def UV(a b:α)(l:List α):(a::l).set 0 b=b::l:=rfl
def anN(a b:α)(l:List α)(n:Nat):(a::l).set (n+1) b=a::l.set n b:=rfl
def aeW(a:α)(l:List α):(a::l)[0]?\a:=rfl
def apK(a:α)(l:List α)(n:Nat):(a::l)[n+1]? = l[n]?:=rfl
def aoz:↑([]:List α)=0:=rfl
def aqt(a:α)(l:List α):↑(a::l)=↑l+1:=rfl
def apu(f:α->Option β):(none:Option α).bind f=none:=rfl
def ahj(f:α->Option β)(a:α):(some a).bind f=f a:=rfl
def amY(a:Option α):(some a).join=a:=rfl
def aol:(none:Option (Option α)).join=none:=rfl
def TQ(sel:List (Option Nat))(σ:St):nN sel σ=sel.map λo=>o.bind λj=>(σ[j]?).join:=rfl
theorem d8{t u:d6}(b:Bool)(aw:∀Q:Bool->au->Prop,Q b H->c σ H Q)(af:b=true->t D σ H)(aj:b=false->u D σ H):IP c t u D σ H:=by
 refine aw _ ?_;cases b with
 |true=>exact af rfl
 |false=>exact aj rfl
theorem xa{t u:d6}(R:Bool->au->Prop)(aw:∀Q:Bool->au->Prop,(∀b H',R b H'->Q b H')->c σ H Q)(af:∀H',R true H'->t D σ H')(aj:∀H',R false H'->u D σ H'):IP c t u D σ H:=by
 refine aw _ λb H' r=>?_
 cases b with
 |true=>exact af H' r
 |false=>exact aj H' r
def Db{t:d6}{D:iq}{σ:St}{H:au}(R:St->au->Prop)(h:∀fx:iq,(∀σ H,R σ H->fx.cc σ H)->fx.lB=D.lB->fx.c6=D.c6->fx.fS=D.fS->t fx σ H)(hk:∀σ H,R σ H->D.cc σ H):t D σ H:=h D hk rfl rfl rfl
def Gi{t:d6}{D:iq}{σ:St}{H:au}(R:St->au->Prop)(h:∀fx:iq,(∀σ H,R σ H->fx.cc σ H)->t fx σ H)(hk:∀M,M=D.cc->∀σ H,R σ H->M σ H):t D σ H:=h D (hk _ rfl)
def Q0{p:Prop}(h:∀q,q=p->q):p:=h p rfl
def qb{t:d6}{D:iq}{σ:St}{H:au}(R:St->au->Prop)(h:∀fx:iq,(∀σ H,R σ H->fx.cc σ H)->t fx σ H)(hk:∀σ H,R σ H->D.cc σ H):t D σ H:=h D hk
def NQ{t u:d6}{D:iq}{σ:St}{H:au}(R:St->au->Prop)(h:∀fx:iq,(∀σ H,R σ H->fx.cc σ H)->t fx σ H)(hk:∀M,M=u D->∀σ H,R σ H->M σ H):NZ t u D σ H:=h {D with cc:=u D} (hk _ rfl)
def agS(v:V)(aw:∀Q:cR,Q v H->bV σ H Q)(h:D.lB v H):GY bV D σ H:=aw _ h
def ql(x y:Str):↑(x++y)=↑x+↑y:=by
 show(x.cps++y.cps).size=_;rw[Array.size_append];rfl
def ey.range{lo:Int}{n:Nat}{g:hv}{bZ:d6}{D:iq}{σ:St}{H:au}(Pv:Nat->St->au->Prop)(h0:Pv 0 σ H)
  (aC:∀i σ H,i<n->Pv i σ H->g (.int (lo+i)) σ H λcO ar=>bZ {D with cc:=Pv (i+1),fS:=Pv (i+1),c6:=D.cc} cO ar) (hd:∀σ H,Pv n σ H->D.cc σ H):ey (oD lo n) g bZ D σ H:=ad9 Pv h0 aC hd
def ey.list{K:bg}(Pv:Nat->St->au->Prop)(h0:Pv 0 σ H)(aG:∀i σ H,i<=↑xs->Pv i σ H->aE K H a xs)
  (aC:∀i x σ H,xs[i]?\x->Pv i σ H->g x σ H λcO ar=>bZ {D with cc:=Pv (i+1),fS:=Pv (i+1),c6:=D.cc} cO ar) (hd:∀σ H,Pv ↑xs σ H->D.cc σ H):ey (o4 K a) g bZ D σ H:=ajZ Pv h0 aG aC hd
def dB.list{K:bg}(Pv:Nat->List V->au->Prop)(aH:↑xs<=sizeLine)(h0:Pv 0 [] H)(aG:∀i ys H,i<=↑xs->Pv i ys H->aE K H a xs/\↑ys<=i)
  (aC:∀i x ys H,xs[i]?\x->Pv i ys H->qS Pv g dW bV d2 i x ys H) (hd:∀ys H,Pv ↑xs ys H->∀p,H p=none->Q ⇑p (upd H p (.lst ys))):dB (o4 K a) g dW bV d2 Q H:=afz Pv aH h0 aG aC hd
def dB.a'(Pv:Nat->List V->au->Prop)(aH:↑xs<=sizeLine)(h0:Pv 0 [] H)(aG:∀i ys H,i<=↑xs->Pv i ys H->↑ys<=i)
  (aC:∀i x ys H,xs[i]?\x->Pv i ys H->qS Pv g dW bV d2 i x ys H) (hd:∀ys H,Pv ↑xs ys H->∀p,H p=none->Q ⇑p (upd H p (.lst ys))):dB (AI xs) g dW bV d2 Q H:=asp Pv aH h0 aG aC hd
def dB.range{lo:Int}{n:Nat}{g:hv}{dW:TT}{bV:TE}{d2:St}{Q:cR}{H:au}(Pv:Nat->List V->au->Prop)(aH:n<=sizeLine)(h0:Pv 0 [] H)(aG:∀i ys H,i<=n->Pv i ys H->↑ys<=i)
  (aC:∀i ys H,i<n->Pv i ys H->qS Pv g dW bV d2 i (.int (lo+i)) ys H) (hd:∀ys H,Pv n ys H->∀p,H p=none->Q ⇑p (upd H p (.lst ys))):dB (oD lo n) g dW bV d2 Q H:=aio Pv aH h0 aG aC hd
def aoO{α β:Type}{xs:List α}{i:Nat}{x:α}(f:α->β)(h:xs[i]?\x):(xs.take (i+1)).map f=(xs.take i).map f++[f x]:=by
 rw[qJ,h,fg];rfl
def dB.aeI{xs:List V}{g:hv}{bV:TE}{d2:St}{Q:cR}{H:au}(f:V->V)(aH:↑xs<=sizeLine)(aC:∀(i:Nat) (x:V) (N:V->au->Prop),xs[i]?\x->N (f x) H->g x d2 H λcO ar=>Sub d2 cO/\bV cO ar N)
  (hd:∀p,H p=none->Q ⇑p (upd H p (.lst (xs.map f)))):dB (AI xs) g rO bV d2 Q H:=by
 refine dB.a' (λi ys H'=>H'=H/\ys=(xs.take i).map f) aH (rfl,rfl) (λi ys H' ai ⟨_,e⟩=>?_) (λi x ys H' ae ⟨aq,aA⟩ N bw=>?_) (λys H' ⟨aq,aA⟩ p ag=>?_)
 .rw [e,aO,hb];omega
 .subst aq;exact aC i x (λy cm=>N (ys++[y]) cm) ae (bw _ _ (rfl,by rw[aA,aoO f ae]))
 .subst aq;rw[aA,hE];exact hd p ag
def dB.aoE{lo:Int}{n:Nat}{g:hv}{bV:TE}{d2:St}{Q:cR}{H:au}(f:Nat->V)(aH:n<=sizeLine)(aC:∀(i:Nat) (N:V->au->Prop),i<n->N (f i) H->g (.int (lo+i)) d2 H λcO ar=>Sub d2 cO/\bV cO ar N)
  (hd:∀p,H p=none->Q ⇑p (upd H p (.lst ((gN n).map f)))):dB (oD lo n) g rO bV d2 Q H:=by
 refine dB.range (λi ys H'=>H'=H/\ys=(gN i).map f) aH (rfl,rfl) (λi ys H' ai ⟨_,e⟩=>?_) (λi ys H' ai ⟨aq,aA⟩ N bw=>?_) (λys H' ⟨aq,aA⟩ p ag=>?_)
 .rw [e,aO,xk];exact b1 _
 .subst aq;exact aC i (λy cm=>N (ys++[y]) cm) ai (bw _ _ (rfl,by rw[aA,Ah,fg];rfl))
 .subst aq;rw[aA];exact hd p ag
theorem dB.ako{K:bg}(f:V->dJ)(aG:aE K H a xs)(aH:↑xs<=sizeLine)(a0:∀x,qO (f x)=true)
  (aC:∀(i:Nat) (x:V) (H1:au) (N:V->au->Prop),xs[i]?\x->aS H H1->(aI H->aI H1)->(∀q,H1 q=none->N ⇑q (upd H1 q (f x)))->g x d2 H1 λcO ar=>Sub d2 cO/\bV cO ar N)
  (hd:∀(qs:List Addr) (H1:au),aS H H1->(aI H->aI H1)->↑qs=↑xs->(∀(j:Nat) (q:Addr) (x:V),qs[j]?\q->xs[j]?\x->H1 q\(f x)/\H q=none)->∀p,H1 p=none->Q ⇑p (upd H1 p (.lst (qs.map V.ref)))):dB (o4 K a) g rO bV d2 Q H:=by
 refine dB.list (λi ys H'=>∃qs:List Addr,ys=qs.map V.ref/\↑qs=i/\aS H H'/\(aI H->aI H')/\∀(j:Nat) (q:Addr) (x:V),qs[j]?\q->xs[j]?\x->H' q\(f x)/\H q=none) aH
  ([],rfl,rfl,aS.refl H,id,λj q x h _=>by simp at h) ?_ ?_ ?_
 .rintro i ys H' ai bl;refine Q0 λsv aW=>?_
  let(qs,e,aA,bo,_,_):=bl;subst aW;exact(aG.same bo,by rw[e,aO];omega)
 .rintro i x ys H' ae ⟨qs,aq,aA,bo,bH,al⟩ N bw;refine aC i x H' (fun y cm=>N (ys++[y]) cm) ae bo bH fun q ay=>bw _ _ ⟨qs++[q],by rw[aq,fg];rfl,by rw[dx,aA];rfl,bo.gW (bo.free ay),fun n=>(bH n).upd (a0 x),fun j cW gm af aj=>?_⟩
  by_cases aN:j<↑qs
  .rw [nD aN]at af;let(gj,ew):=al j cW gm af aj;exact(by rw[ax (du gj ay)];exact gj,ew)
  .rw[nj ()]at af;have rP:j-↑qs=0:=by
    cases dQ:j-↑qs with
    |zero=>rfl
    |succ n=>rw[dQ]at af;simp at af
   rw[rP]at af;have bG:q=cW:=by simpa using af
   subst bG;have eM:j=i:=()
   subst eM;rw[ae]at aj;cases aj;exact(aM,bo.free ay)
 .intro ys H' (qs,aq,aA,bo,bH,al) p ag;subst aq;exact hd qs H' bo bH aA al p ag
def ey.of(Pv:Nat->St->au->Prop)(h0:Pv 0 σ H)(lH:∀i σ H,i<n->Pv i σ H->bL.go i H)(g7:∀σ H,Pv n σ H->bL.stop n H)
  (aC:∀i σ H x H',i<n->Pv i σ H->bL.rW i H x H'->g x σ H' λcO ar=>bZ {D with cc:=Pv (i+1),fS:=Pv (i+1),c6:=D.cc} cO ar) (hd:∀σ H,Pv n σ H->D.cc σ H):ey bL g bZ D σ H:=by
 refine(λi m σ H=>m=n-i/\i<=n/\Pv i σ H,(n,by simp,e0 _,h0),?_);intro i m σ H (rfl,ai,p);by_cases et:i<n
 .exact .inr (lH i σ H et p,Pv (i+1),λav H' jW=>(n-(i+1),(),rfl,et,jW),λx H' y=>aC i σ H x H' et p y)
 .have e:i=n:=()
  subst e;exact .inl (g7 σ H p,hd σ H p)
def dB.of(Pv:Nat->List V->au->Prop)(aH:n<=sizeLine)(h0:Pv 0 [] H)(lH:∀i ys H,i<n->Pv i ys H->bL.go i H)(g7:∀ys H,Pv n ys H->bL.stop n H)(aG:∀i ys H,i<n->Pv i ys H->↑ys<=i)
  (aC:∀i ys H x H',i<n->Pv i ys H->bL.rW i H x H'->qS Pv g dW bV d2 i x ys H') (hd:∀ys H,Pv n ys H->∀p,H p=none->Q ⇑p (upd H p (.lst ys))):dB bL g dW bV d2 Q H:=by
 refine(λi m ys H=>m=n-i/\i<=n/\Pv i ys H,(n,by simp,e0 _,h0),?_);intro i m ys H (rfl,ai,p);by_cases et:i<n
 .have D_:=aG i ys H et p;refine .inr (lH i ys H et p,(),λx H' y=>?_);exact aC i ys H x H' et p y (λkM H'=>∃c3,c3<n-i/\c3=n-(i+1)/\i+1<=n/\Pv (i+1) kM H') λkM H' r=>(n-(i+1),(),rfl,et,r)
 .have e:i=n:=()
  subst e;exact .inl (g7 ys H p,hd ys H p)
section
variable{K:bg}{a b:Addr}{xs ys:List V}{g:hv}{bZ:d6}{D:iq}{σ d2:St}{H:au}{dW:TT}{bV:TE}{Q:cR}
def ey.enum(Pv:Nat->St->au->Prop)(h0:Pv 0 σ H)(aG:∀i σ H,i<=↑xs->Pv i σ H->aE K H a xs)
  (aC:∀i x σ H p,xs[i]?\x->Pv i σ H->H p=none->g ⇑p σ (upd H p (.tup [.int i,x])) λcO ar=>bZ {D with cc:=Pv (i+1),fS:=Pv (i+1),c6:=D.cc} cO ar) (hd:∀σ H,Pv ↑xs σ H->D.cc σ H):ey (Dl K a) g bZ D σ H:=by
 refine ey.of (n:=↑xs) Pv h0 (λi σ H ai p=>(xs,xs[i],aG i σ H (nM ai) p,by simp[ai])) (λσ H p=>(xs,aG _ σ H (b1 _) p,b1 _)) (λi σ H v H' ai p y=>?_) hd;let(q,x,ay,rfl,ae,rfl):=y;exact aC i x σ H q (ae xs (aG i σ H (nM ai) p)) p ay
def dB.enum(Pv:Nat->List V->au->Prop)(aH:↑xs<=sizeLine)(h0:Pv 0 [] H)(aG:∀i ys H,i<=↑xs->Pv i ys H->aE K H a xs/\↑ys<=i)
  (aC:∀i x ys H p,xs[i]?\x->Pv i ys H->H p=none->qS Pv g dW bV d2 i ⇑p ys (upd H p (.tup [.int i,x]))) (hd:∀ys H,Pv ↑xs ys H->∀p,H p=none->Q ⇑p (upd H p (.lst ys))):dB (Dl K a) g dW bV d2 Q H:=by
 refine dB.of (n:=↑xs) Pv aH h0 (λi ys H ai p=>(xs,xs[i],(aG i ys H (nM ai) p).1,by simp[ai])) (λys H p=>(xs,(aG _ ys H (b1 _) p).1,b1 _)) (λi ys H ai p=>(aG i ys H (nM ai) p).2) (λi zs H v H' ai p y=>?_) hd;let(q,x,ay,rfl,ae,rfl):=y;exact aC i x zs H q (ae xs (aG i zs H (nM ai) p).1) p ay
def amW{p:Addr}{x y:V}(h:de K H p [x,y])(q:R ((σ.set i (some x)).set j (some y)) H):x3 K 2 (uP (gz i) (uP (gz j) y7)) ⇑p σ H R:=
 (p,_,rfl,h,rfl,x,_,rfl,y,_,rfl,rfl,q)
def D0{p:Addr}{x y:V}(q:R ((σ.set i (some x)).set j (some y)) (upd H p (.tup [x,y]))):x3 K 2 (uP (gz i) (uP (gz j) y7)) ⇑p σ (upd H p (.tup [x,y])) R:=
 amW (.inl (.inl aM)) q
end
theorem Sub.afx{v w:Option V}:Sub (none::none::r) (v::w::r):=by
 refine(rfl,λi u h=>?_)
 match i with
 |0=>cases h
 |1=>cases h
 |i+2=>exact h
theorem Sub.wQ{v w z:Option V}:Sub (none::none::none::r) (v::w::z::r):=by
 refine(rfl,λi u h=>?_)
 match i with
 |0=>cases h
 |1=>cases h
 |2=>cases h
 |i+3=>exact h
def dB.nr{K:bg}(aG:aE K H a xs)(aH:↑xs<=sizeLine)(he:↑zs=↑xs)
  (aC:∀(i:Nat) (x z:V) (N:V->au->Prop),xs[i]?\x->zs[i]?\z->N z H->g x d2 H λcO ar=>Sub d2 cO/\bV cO ar N) (hd:∀p,H p=none->Q ⇑p (upd H p (.lst zs))):dB (o4 K a) g rO bV d2 Q H:=by
 refine dB.list (λi ys H'=>H'=H/\ys=zs.take i) aH (rfl,rfl) (λi ys H' ai ⟨gp,e⟩=>?_) (λi x ys H' ae ⟨aq,aA⟩ N bw=>?_) (λys H' ⟨aq,aA⟩ p ag=>?_)
 .subst gp;exact(aG,by rw[e,hb];omega)
 .subst aq;have ai:i<↑zs:=by rw[he];exact(b3.mp ae).1
  have g9:zs[i]?\zs[i]:=bq ai;exact aC i x zs[i] (λy cm=>N (ys++[y]) cm) ae g9 (bw _ _ (rfl,by rw[aA,qJ,g9];rfl))
 .subst aq;rw[aA,<- he,hE];exact hd p ag
def dB.agP{K:bg}(aG:de K H a xs)(aH:↑xs<=sizeLine)(he:↑zs=↑xs)
  (aC:∀(i:Nat) (x z:V) (N:V->au->Prop),xs[i]?\x->zs[i]?\z->N z H->g x d2 H λcO ar=>Sub d2 cO/\bV cO ar N) (hd:∀p,H p=none->Q ⇑p (upd H p (.lst zs))):dB (Eu K a) g rO bV d2 Q H:=by
 refine akj (xs:=xs) (λi ys H'=>H'=H/\ys=zs.take i) aH (rfl,rfl) (λi ys H' ai ⟨gp,e⟩=>?_) (λi x ys H' ae ⟨aq,aA⟩ N bw=>?_) (λys H' ⟨aq,aA⟩ p ag=>?_)
 .subst gp;exact(aG,by rw[e,hb];omega)
 .subst aq;have ai:i<↑zs:=by rw[he];exact(b3.mp ae).1
  have g9:zs[i]?\zs[i]:=bq ai;exact aC i x zs[i] (λy cm=>N (ys++[y]) cm) ae g9 (bw _ _ (rfl,by rw[aA,qJ,g9];rfl))
 .subst aq;rw[aA,<- he,hE];exact hd p ag
def dB.yp{K:bg}{a:Addr}{xs:List V}{ss:List (Option V)}{g:hv}{dW:TT}{bV:TE}{d2:St}{Q:cR}{H:au}(aG:aE K H a xs)(aH:↑xs<=sizeLine)(he:↑ss=↑xs)
  (aC:∀(i:Nat) (x:V) (o:Option V) (ys:List V) (N:List V->au->Prop),xs[i]?\x->ss[i]?\o->N (ys++o.toList) H->g x d2 H λcO ar=>Sub d2 cO/\dW cO ar λc ba=>if c=true then bV cO ba λy cm=>N (ys++[y]) cm else N ys ba)
  (hd:∀p,H p=none->Q ⇑p (upd H p (.lst (ss.flatMap DO)))):dB (o4 K a) g dW bV d2 Q H:=by
 refine dB.list (λi ys H'=>H'=H/\ys=(ss.take i).flatMap DO/\↑ys<=i) aH (rfl,rfl,b1 _) (λi ys H' ai ⟨gp,e,br⟩=>?_) (λi x ys H' ae ⟨aq,aA,bG⟩ N bw=>?_) (λys H' ⟨aq,aA,_⟩ p ag=>?_)
 .subst gp;exact(aG,br)
 .subst aq;have ai:i<↑ss:=by rw[he];exact(b3.mp ae).1
  have g9:ss[i]?\ss[i]:=bq ai;refine aC i x ss[i] ys N ae g9 (bw _ _ (rfl,by rw[aA,qJ,g9,C2];simp,?_));rw[dx];cases ss[i] <;> simp <;> omega
 .subst aq;rw[aA,<- he,hE];exact hd p ag
theorem wE(Pv:St->au->Prop)(Bj:St->au->Nat)(h0:Pv σ H)
  (aC:∀σ H,Pv σ H->∃b:Bool,(∀Q:Bool->au->Prop,Q b H->c σ H Q)/\(b=true->bZ {D with cc:=λav H'=>Pv av H'/\Bj av H'<Bj σ H,fS:=λav H'=>Pv av H'/\Bj av H'<Bj σ H,c6:=D.cc} σ H)/\(b=false->D.cc σ H)):R5 c bZ D σ H:=by
 refine(λm σ H=>m=Bj σ H/\Pv σ H,(_,rfl,h0),?_);intro m σ H (rfl,p);let(b,aw,af,aj):=aC σ H p;refine aw _ ?_;cases b with
 |true=>exact(_,λav H' ⟨jW,l⟩=>(_,l,rfl,jW),af rfl)
 |false=>exact aj rfl
theorem Sub.name:Sub (none::r) (v::r):=by
 refine(rfl,λi w h=>?_);cases i with
 |zero=>cases h
 |succ i=>exact h
def b9{x:Str}{e:Expr}(bw:X.N.Nodup)(he:bu X e bV)(ai:X.N[i]?\x:=by rfl)(ae:Loc X.env.scope x:=by exact n2 rfl)(aC:swapsWith e (some (.Name x pos')) pos.line X.env=pure false:=by rfl)(hf:X.fn x=true\/X.env.scope.names.lookup x\.local:=by first|exact .inl rfl|exact .inr rfl|assumption):fX X (.Assign [.Name x pos'] e pos) (wH bV (gz i)):=rH bw ai ae he aC hf
def cy{x:Str}(bw:X.N.Nodup)(ai:X.N[i]?\x:=by rfl)(ae:Loc X.env.scope x:=by exact n2 rfl)(hf:X.fn x=true\/X.env.scope.names.lookup x\.local:=by first|exact .inl rfl|exact .inr rfl|assumption):pg X (.Name x pos) (gz i):=S7 bw ai ae hf
def b7(ao:zZ X r)(aV:bu X a bc)(U:bu X b bZ)(aC:WS b:=by exact λ_ _=>rfl):bu X (.Subscript a b pos) (vI r bc bZ):=asA ao aV U aC
def cJ{k:Nat}{fd:FuncData}{x:Str}{p pos:Pos}{e:Expr}{t:fG}(F:cz X.prog X.w X.K X.mg X.base dy k f fd ps sp)(ao:eR k X.A)(hm:X.mg x\⇑f)(az:sD X.K ⇑f=true)(U:b6 X.K fd ps [])(aV:ho X (e::aU) t)(bj:kK X x:=by rfl)(j0:(x==("__debug__":Str))=false:=by decide)(he:starEach (e::aU) X.env=(p'p false (eval e X.env))::starEach aU X.env:=by rfl)(cE:(backTo pos (starEach aU X.env)).any (·.1)=false:=by rfl):bu X (.Call (.Name x p) (e::aU) [] pos) (zm sp [] wm t):=aka F ao bj hm az U .nil cv aV j0 he cE
end L2
local macro_rules|`(tactic|nofun)=>do let f(s:String):=(s.splitOn " ").toArray.map fun x=>Lean.mkCIdent x.toName;let c:=f "L2.CB L2.sR L2.De L2.M3 L2.Lj L2.Iq L2.Ni L2.M5 L2.Nq L2.Ma L2.iR L2.dd L2.Jc L2.I9 L2.GY L2.NH L2.Mv L2.gz L2.y7 L2.uP L2.x3 L2.Ov L2.wH L2.MQ L2.I4 L2.KP L2.vI L2.LO L2.wY L2.q1 L2.DR L2.Mc L2.HA L2.KY L2.PD L2.SY L2.Zs L2.Lo L2.JE L2.zY L2.Mq L2.Mi L2.Pq L2.zm L2.Ze L2.TX L2.Hk L2.Qw L2.HF L2.Ph L2.WA L2.Kk L2.Oz L2.Ik L2.Ot L2.Kg L2.DH L2.Ih L2.NK L2.Il L2.JI L2.Qa L2.Mj L2.Nj L2.Jy L2.H9 L2.aau L2.PN L2.sK L2.Lu L2.Uu L2.rO L2.Py L2.L7 L2.N8 L2.JS L2.abp L2.IW L2.Ir L2.MM L2.NC L2.MO L2.OY L2.LX L2.JG L2.Oq L2.UE L2.N_ L2.VG L2.Po L2.ra L2.I3 L2.Qb L2.O4 L2.O5 L2.J6 L2.LR L2.LD L2.Vk L2.PG L2.YS L2.YL L2.Yi L2.Vf L2.To L2.XF L2.Uh L2.aaT L2.Ts L2.VC L2.aaz L2.QI L2.start L2.TQ Nat.reduceAdd Nat.reduceSub List.replicate";let a:=f "L2.nC L2.ap_ L2.a3.uc L2.a3.j' L2.a3.block L2.a3.jZ L2.a3.a0 L2.ak5 L2.ap4 L2.acI L2.aei L2.UV L2.anN L2.aeW L2.apK L2.aoz L2.aqt L2.apu L2.ahj L2.amY L2.aol"++c;let b:=c++f "L2.ae8 L2.apF L2.amZ L2.akR L2.arV List.map_cons List.map_nil Option.bind_none Option.bind_some Option.join_some Option.join_none List.length_cons List.length_nil Nat.zero_add List.cons_append List.nil_append List.append_nil List.set_cons_zero List.set_cons_succ List.getElem?_cons_zero List.getElem?_cons_succ Option.some.injEq L2.V.int.injEq L2.V.bC.injEq L2.V.str.injEq L2.V.ref.injEq L2.V.ty.injEq exists_eq_left' exists_eq_left exists_and_left List.cons.injEq and_true true_and and_assoc Int.zero_add reduceCtorEq false_and exists_false and_false ite_true ite_false if_true if_false Bool.false_eq_true L2.i'a L2.i'b L2.i'c L2.Ce false_or or_false Bool.not_true Bool.not_false decide_true decide_false";`(tactic|((try dsimp only [$[$a:ident],*]);(try simp only [$[$b:ident],*])))
local macro_rules | `(tactic| walk_at "B")=>`(tactic| first | rfl | (dsimp only [L2.a3.block];done) | (dsimp only [L2.a3.block];exact rfl))
local macro_rules | `(tactic| walk_at "F")=>`(tactic| exact ⟨rfl,rfl,rfl,∅,rfl,∅,∅⟩)
namespace L2
open PySem
def cK{P:Program}{w:World}{K:bg}{mg:Str->Option Value}{base:Heap}{C:jE}{m n:Nat}{f a:Addr}{fd b:FuncData}{ps q:List Str}{sp S:bW}(h:cz P w K mg base C m f fd ps sp)(g:cz P w K mg base C n f fd ps sp->cz P w K mg base C (n+1) a b q S)(hm:m<=n:=by decide):cz P w K mg base C (n+1) a b q S:=g (h.mono hm)
end L2
set_option hygiene false
local macro_rules | `(tactic| walk_at "O")=>`(tactic| (intro vs H Q E h;repeat (first | (obtain ⟨rfl,_⟩:=h;rfl) | (obtain ⟨_,h⟩:=h))))
set_option hygiene true
set_option hygiene false
local macro_rules | `(tactic| ac_rfl)=>`(tactic| refine Q0 fun sv aW=>?_)
local macro_rules | `(tactic| exists $e,0)=>`(tactic| refine Gi $e (fun fx cw=>?_) fun sv aW=>?_)
local macro_rules | `(tactic| exists $e,1)=>`(tactic| refine Gi $e (fun D cw=>?_) fun sv aW=>?_)
local macro_rules | `(tactic| exists $e,2)=>`(tactic| refine Gi $e (fun fx cC=>?_) fun sv aW=>?_)
local macro_rules | `(tactic| exists $e,3)=>`(tactic| refine NQ $e (fun fx cw=>?_) fun sv aW=>?_)
local macro_rules | `(tactic| exists $e,4)=>`(tactic| refine NQ $e (fun D cw=>?_) fun sv aW=>?_)
local macro_rules | `(tactic| exists $e,5)=>`(tactic| refine NQ $e (fun fx cC=>?_) fun sv aW=>?_)
local macro_rules | `(tactic| exists $e,9)=>`(tactic| refine ($e) (by walk_at "O") (fun _ _ _ s H vs Q E ao h=>?_))
set_option hygiene true
namespace My
open PySem L2
local macro_rules|`(~~~$x)=>`(some (L2.V.ref $x))
abbrev gQ:List Str:=["self","name"]
abbrev ji:List Str:=["least","most","members"]
abbrev l2:List Str:=["crossing","rows"]
abbrev lI:List Str:=["self","name","start","end","off","near","least"]
abbrev mF:List Str:=["self","many"]
abbrev zT:List Str:=["_law_script","_law_k","_law_many"]
abbrev sI:List Str:=["self","own_asked"]
abbrev rY:List Str:=["crossing","one","other"]
abbrev qZ:List Str:=["self","stages"]
abbrev s6:List Str:=["name","self"]
abbrev A2:List Str:=["word","signs","most"]
abbrev Er:List Str:=["self","good"]
abbrev Nk:List Str:=["self","choices"]
abbrev Nt:List Str:=["self","low","high"]
abbrev Dq:List Str:=["self","kind","name","start","end","off","near","least"]
abbrev DJ:List Str:=["crossing","name"]
abbrev FI:List Str:=["stages","one","other"]
abbrev xP:List Str:=["self","comings"]
abbrev yS:List Str:=["self","name","many"]
abbrev Fv:List Str:=["places","way","second"]
abbrev EC:List Str:=["word","most_figures"]
abbrev Ae:List Str:=["crossing","text"]
abbrev CU:List Str:=["reader","places","start"]
abbrev Gl:List Str:=["sort","name","start","end","off","near","least"]
abbrev AM:List Str:=["self","row","told"]
abbrev AZ:List Str:=["self","crossing","rows","one","other"]
abbrev G':List Str:=["self","asks"]
abbrev Fn:List Str:=["self","number"]
abbrev DU:List Str:=["places","way","place"]
abbrev PU:List Str:=["word","low","high"]
abbrev El:List Str:=["crossing","first","second","turns","one"]
abbrev Lz:List Str:=["crossing","first","second"]
abbrev KS:List Str:=["reader","crossing","left"]
abbrev F6:List Str:=["reader","crossing","rows"]
abbrev IZ:List Str:=["reader","ways"]
abbrev Fd:List Str:=["reader","places","ways"]
abbrev MH:List Str:=["_law_script","_law_many"]
abbrev Gb:List Str:=["_law_script","_law_most"]
abbrev Ej:List Str:=["_law_places","_law_ways_here"]
abbrev J':List Str:=["_law_one","_law_other","_law_places"]
abbrev PM:List Str:=["_law_ways_here","_law_one","_law_other"]
abbrev B3:List Str:=["_law_script","_law_places","_law_ways_here"]
abbrev D3:List Str:=["_law_ways_here","_law_stages_here"]
abbrev Cc:List Str:=["_law_script","_law_turn","_law_ways_here"]
abbrev D1:List Str:=["_law_script","_law_turn","_law_road","_law_ways_here","_law_comings_here"]
abbrev F8:List Str:=["_law_ways_here","_law_lines","_law_row"]
abbrev CO:List Str:=["self","crossing","rows"]
abbrev FU:List Str:=["self","places","ways"]
abbrev CY:List Str:=["name","crossing"]
abbrev Cj:List Str:=["least","most","members","crossing"]
abbrev DC:List Str:=["_law_i","_law_ways_here"]
abbrev KC:List Str:=["crossing","rows","told"]
abbrev MU:List Str:=["reader","crossing","left","first","members","alike"]
abbrev Mh:List Str:=["self","waited","same","others","choices","last","many"]
abbrev Iy:List Str:=["self","comings","name","colours","went"]
abbrev N9:List Str:=["_law_way","_law_lines"]
seal L2.ho L2.bu L2.fX L2.hC L2.iW L2.gL
noncomputable def top(i:Nat):Stmt:=PySem.Challenge.pw_lampway_k50_whole_road_counts.main.body.getD i (.Pass (0,0,0,0))
def SA:cx ["places","way","place","steps"] DU (bD (top 9)):=∅
def adP:cx Fv Fv (bD (top 10)):=∅
def GE:cx ["crossing","one","other","way","second"] rY (bD (top 11)):=∅
def Nb:cx ["crossing","one","other","way","second"] rY (bD (top 12)):=∅
def ahv:cx ["text"] ["text"] (bD (top 18)):=∅
def aly:cx A2 A2 (bD (top 19)):=∅
def aoT:cx EC EC (bD (top 20)):=∅
def abK:cx ["word","low","high","number"] PU (bD (top 21)):=∅
def alB:cx ["word"] ["word"] (bD (top 22)):=∅
def af':cx ["text"] ["text"] (bD (top 25)):=∅
def asf:cx DJ DJ (bD (top 30)):=∅
def AL:cx ["members","homes","number","names","name"] ["members"] (bD (top 31)):=∅
def ID:cx El Lz (bD (top 32)):=∅
def QZ:cx KC l2 (bD (top 33)):=∅
def FW:cx MU KS (bD (top 34)):=∅
def Iv:cx ["reader","crossing","rows","least","most"] F6 (bD (top 35)):=∅
def YT:cx ["crossing","rows","left"] l2 (bD (top 36)):=∅
def GS:cx ["crossing","rows","homes","name","number"] l2 (bD (top 37)):=∅
def Bz:cx ["crossing","rows","number","row","one","other"] l2 (bD (top 38)):=∅
def Oe:cx ["crossing","text","rows","reader"] Ae (bD (top 39)):=∅
def ajM:cx FI FI (bD (top 40)):=∅
def Su:cx ["reader","places"] ["reader"] (bD (top 58)):=∅
def SI:cx ["reader","ways","name"] IZ (bD (top 59)):=∅
def aiG:cx CU CU (bD (top 60)):=∅
def ajy:cx Gl Gl (bD (top 61)):=∅
def su:cx ["reader","places","ways","sort","name","start","end","off","near","least"] Fd (bD (top 62)):=∅
def AQ:cx ["text","rows","places","ways","reader"] ["text"] (bD (top 63)):=∅
def xn:cx ["_law_script","_law_k","_law_many","_law_cell","_law_seed"] zT (bD (top 65)):=∅
def tf:cx ["_law_script","_law_many","_law_letters","_law_base","_law_way","_law_at","_law_names_here","_law_k","_law_sign"] MH (bD (top 66)):=∅
def nS:cx ["_law_script","_law_most","_law_places","_law_names_here","_law_ways_here","_law_k","_law_start","_law_end","_law_sort","_law_off","_law_near"] Gb (bD (top 67)):=∅
def K0:cx ["_law_places","_law_ways_here","_law_rows","_law_way"] Ej (bD (top 68)):=∅
def BW:cx ["_law_one","_law_other","_law_places","_law_length","_law_start","_law_end"] J' (bD (top 69)):=∅
def YW:cx ["_law_ways_here","_law_one","_law_other","_law_tram"] PM (bD (top 70)):=∅
def md:cx ["_law_script","_law_places","_law_ways_here","_law_some","_law_k","_law_fits","_law_j","_law_good","_law_i","_law_stages_here","_law_low","_law_more"] B3 (bD (top 71)):=∅
def zz:cx ["_law_ways_here","_law_stages_here","_law_rows","_law_low","_law_high","_law_some"] D3 (bD (top 72)):=∅
def xN:cx ["_law_script","_law_turn","_law_ways_here","_law_rate","_law_comings_here","_law_k","_law_name","_law_most"] Cc (bD (top 73)):=∅
def t6:cx ["_law_script","_law_turn","_law_road","_law_ways_here","_law_comings_here","_law_handed","_law_strange_here","_law_before","_law_refused","e"] D1 (bD (top 74)):=∅
def z4:cx ["_law_ways_here","_law_lines","_law_row","_law_went_here","_law_way","_law_line","_law_one"] F8 (bD (top 75)):=∅
def k0:cx ["_law_script","_law_places","_law_ways_here","_law_stages_here","_law_road","_law_lines","_law_way","_law_turn","_law_comings_here","_law_row","_law_handed","_law_found","_law_name","_law_many","_law_due","_law_stood"] ["_law_script"] (bD (top 76)):=∅
def adl:cx gQ gQ (bD (eG (top 4) 0)):=∅
def Go:cx AM AM (bD (eG (top 24) 0)):=∅
def aey:cx ["self"] ["self"] (bD (eG (top 24) 1)):=∅
def io:cx ["self"] ["self"] (bD (eG (top 24) 2)):=∅
def adn:cx Er Er (bD (eG (top 24) 4)):=∅
def Z8:cx ["self","choices","found"] Nk (bD (eG (top 24) 5)):=∅
def ZV:cx ["self","low","high","found"] Nt (bD (eG (top 24) 6)):=∅
def aqr:cx ["self"] ["self"] (bD (eG (top 24) 7)):=∅
def Qt:cx AZ CO (bD (eG (top 29) 0)):=∅
def aq1:cx qZ qZ (bD (eG (top 42) 0)):=∅
def I8:cx ["self","colours","name"] ["self"] (bD (eG (top 42) 3)):=∅
def aqO:cx gQ gQ (bD (eG (top 42) 4)):=∅
def KG:cx ["self","name","way","home"] gQ (bD (eG (top 42) 5)):=∅
def xE:cx ["self","asks","name","colours","own_asked"] G' (bD (eG (top 42) 6)):=∅
def am7:cx sI sI (bD (eG (top 42) 7)):=∅
def amr:cx sI sI (bD (eG (top 42) 8)):=∅
def amA:cx ["self"] ["self"] (bD (eG (top 42) 9)):=∅
def t_:cx Mh ["self"] (bD (eG (top 42) 10)):=∅
def apm:cx Fn Fn (bD (eG (top 42) 11)):=∅
def abB:cx gQ ["self"] (bD (eG (top 42) 12)):=∅
def Sj:cx ["self","stages","name"] qZ (bD (eG (top 44) 0)):=∅
def ZB:cx ["self"] ["self"] (bD (eG (top 44) 1)):=∅
def anR:cx ["self"] ["self"] (bD (eG (top 44) 2)):=∅
def nZ:cx Iy xP (bD (eG (top 44) 3)):=∅
def aoF:cx yS yS (bD (eG (top 44) 4)):=∅
def te:cx ["self","name","left","lots","went","came","many","some"] gQ (bD (eG (top 44) 5)):=∅
def aiP:cx Dq Dq (bD (eG (top 46) 0)):=∅
def afU:cx lI lI (bD (eG (top 47) 0)):=∅
def asu:cx ["self"] ["self"] (bD (eG (top 47) 1)):=∅
def ahq:cx ["self"] ["self"] (bD (eG (top 47) 2)):=∅
def ahu:cx mF mF (bD (eG (top 47) 3)):=∅
def akt:cx lI lI (bD (eG (top 48) 0)):=∅
def adA:cx ["self"] ["self"] (bD (eG (top 48) 1)):=∅
def aiD:cx ["self"] ["self"] (bD (eG (top 48) 2)):=∅
def asS:cx mF mF (bD (eG (top 48) 3)):=∅
def aqY:cx lI lI (bD (eG (top 49) 0)):=∅
def afk:cx ["self"] ["self"] (bD (eG (top 49) 1)):=∅
def amN:cx ["self"] ["self"] (bD (eG (top 49) 2)):=∅
def arp:cx mF mF (bD (eG (top 49) 3)):=∅
def NF:cx ["self","places","ways","number","way"] FU (bD (eG (top 57) 0)):=∅
def amX:cx ["self"] ["self"] (bD (eG (top 57) 1)):=∅
def abq:cx gQ gQ (bD (eG (top 57) 2)):=∅
def Y':cx gQ gQ (bD (eG (top 57) 3)):=∅
set_option genInjectivity false in
set_option genInjectivity false in
structure bO where
 {EE L1 D8 Gr EI LL Jv Jg OI AN IT Ln Ng HR KV Ed Hr Cg CN Ba Jx Es Qj Qg H_ Hd Eh BL LM Gd C6 Qu K_ FC EU DF Ho Fi Kj ii zf F_ E3 Ez FH Hb Hn BE Bg OM GU Fy C_ Ao FY C9 Fg Fp Fc EY Bp BG AS tY Bx zG G6 Bm Ch D4 Cb Ai DS Dx Gq y_ Hs DD Du Au tO x' ub hN f' dE f3 GP be jC jO iF Nu mz qA:Addr}
 {G7 Ie D9 D' Ew L5 OR Mu Od y0 HY J_ LJ bi Kz BU DN DE FJ yH Jn Fw Pa L6 Me EW BZ Be OL lm Hc Pg Ou D5 E' EG FP G4 DM Hw GI Jd J9 Re PJ Je Ke Cf Ci an8 Oh K6 MZ CW MW KH Kq F9 IU HX Et FD Dc wk GL Ha K9 Gf NR LZ H0 Dj Oi Fk PL GK JO LU OU EA ad BP x_:FuncData}
 {W3 Op WU UJ Vu Tt abR ZM WE Y8 ZR U1:Value}
def _root_.L2.cg.nb{K:bg}{x qual:Str}{st:Stmt}{fd:FuncData}(F:cg K x qual st f fd)(ps)(h:∀(df doc pm:Value) (an:Option Addr) (fi fS:Value) (us:List Value),↑us=↑ps->bindArgs (yN x qual (Fz st) (sV st) (bD st) .none df doc pm an fi fS) (us,[])=pure (ps.zip us):=by intro _ _ _ _ _ _;first|exact iy λ_ _ _=>rfl|exact iT λ_=>rfl|exact gR λ_ _=>rfl|exact G2 λ_ _ _ _ _ _ _=>rfl|exact ak6 λ_ _ _ _ _=>rfl|exact alR λ_ _ _ _ _ _ _ _=>rfl):b6 K fd ps []:=F.binds h
section
variable(w:World)(K:bg)(mg:Str->Option Value)(t:bO)
abbrev a0_aa:=(mg "in_bow"\⇑t.EE)/\(cg K "in_bow" "in_bow" (top 9) t.EE t.G7)/\(mg "bows_cross"\⇑t.L1)/\(cg K "bows_cross" "bows_cross" (top 10) t.L1 t.Ie)/\(mg "meet"\⇑t.D8)/\(cg K "meet" "meet" (top 11) t.D8 t.D9)/\(mg "gap"\⇑t.Gr)/\(cg K "gap" "gap" (top 12) t.Gr t.D')/\(mg "words"\⇑t.EI)/\(cg K "words" "words" (top 18) t.EI t.Ew)/\(mg "is_made_of"\⇑t.LL)/\(cg K "is_made_of" "is_made_of" (top 19) t.LL t.L5)/\(mg "is_number"\⇑t.Jv)/\(cg K "is_number" "is_number" (top 20) t.Jv t.OR)/\(mg "figured"\⇑t.Jg)/\(cg K "figured" "figured" (top 21) t.Jg t.Mu)/\(mg "is_name"\⇑t.OI)/\(cg K "is_name" "is_name" (top 22) t.OI t.Od)/\(mg "readers"\⇑t.AN)/\(cg K "readers" "readers" (top 25) t.AN t.y0)
abbrev a0_ab:=(mg "sort_of"\⇑t.IT)/\(cg K "sort_of" "sort_of" (top 30) t.IT t.HY)/\(mg "homes_in"\⇑t.Ln)/\(cg K "homes_in" "homes_in" (top 31) t.Ln t.J_)/\(mg "change_turns"\⇑t.Ng)/\(cg K "change_turns" "change_turns" (top 32) t.Ng t.LJ)/\(mg "names_left"\⇑t.HR)/\(cg K "names_left" "names_left" (top 33) t.HR t.bi)/\(mg "read_members"\⇑t.KV)/\(cg K "read_members" "read_members" (top 34) t.KV t.Kz)/\(mg "read_stage"\⇑t.Ed)/\(cg K "read_stage" "read_stage" (top 35) t.Ed t.BU)/\(mg "refuse_never"\⇑t.Hr)/\(cg K "refuse_never" "refuse_never" (top 36) t.Hr t.DN)/\(mg "refuse_short"\⇑t.Cg)/\(cg K "refuse_short" "refuse_short" (top 37) t.Cg t.DE)/\(mg "refuse_clash"\⇑t.CN)/\(cg K "refuse_clash" "refuse_clash" (top 38) t.CN t.FJ)/\(mg "read_stages"\⇑t.Ba)/\(cg K "read_stages" "read_stages" (top 39) t.Ba t.yH)
abbrev a0_ac:=(mg "change"\⇑t.Jx)/\(cg K "change" "change" (top 40) t.Jx t.Jn)/\(mg "read_ring"\⇑t.Es)/\(cg K "read_ring" "read_ring" (top 58) t.Es t.Fw)/\(mg "read_new_name"\⇑t.Qj)/\(cg K "read_new_name" "read_new_name" (top 59) t.Qj t.Pa)/\(mg "read_end"\⇑t.Qg)/\(cg K "read_end" "read_end" (top 60) t.Qg t.L6)/\(mg "made_way"\⇑t.H_)/\(cg K "made_way" "made_way" (top 61) t.H_ t.Me)/\(mg "read_way"\⇑t.Hd)/\(cg K "read_way" "read_way" (top 62) t.Hd t.EW)/\(mg "read_crossing"\⇑t.Eh)/\(cg K "read_crossing" "read_crossing" (top 63) t.Eh t.BZ)/\(mg "_law_draw"\⇑t.BL)/\(cg K "_law_draw" "_law_draw" (top 65) t.BL t.Be)/\(mg "_law_names"\⇑t.LM)/\(cg K "_law_names" "_law_names" (top 66) t.LM t.OL)/\(mg "_law_ways"\⇑t.Gd)/\(cg K "_law_ways" "_law_ways" (top 67) t.Gd t.lm)
abbrev a0_ad:=(mg "_law_text"\⇑t.C6)/\(cg K "_law_text" "_law_text" (top 68) t.C6 t.Hc)/\(mg "_law_meet"\⇑t.Qu)/\(cg K "_law_meet" "_law_meet" (top 69) t.Qu t.Pg)/\(mg "_law_alike"\⇑t.K_)/\(cg K "_law_alike" "_law_alike" (top 70) t.K_ t.Ou)/\(mg "_law_stages"\⇑t.FC)/\(cg K "_law_stages" "_law_stages" (top 71) t.FC t.D5)/\(mg "_law_stages_text"\⇑t.EU)/\(cg K "_law_stages_text" "_law_stages_text" (top 72) t.EU t.E')/\(mg "_law_comings"\⇑t.DF)/\(cg K "_law_comings" "_law_comings" (top 73) t.DF t.EG)/\(mg "_law_strange"\⇑t.Ho)/\(cg K "_law_strange" "_law_strange" (top 74) t.Ho t.FP)/\(mg "_law_went"\⇑t.Fi)/\(cg K "_law_went" "_law_went" (top 75) t.Fi t.G4)/\(mg "law"\⇑t.Kj)/\(cg K "law" "law" (top 76) t.Kj t.DM)/\(mg "NoWay"\⇑t.mz)/\(dn K ⇑t.mz "__init__"\(some ⇑t.ii))
abbrev a0_ae:=(cg K "__init__" "NoWay.__init__" (eG (top 4) 0) t.ii t.Hw)/\(mg "RowReader"\⇑t.hN)/\(dn K ⇑t.hN "__init__"\(some ⇑t.zf))/\(cg K "__init__" "RowReader.__init__" (eG (top 24) 0) t.zf t.GI)/\(dn K ⇑t.hN "ahead"\(some ⇑t.F_))/\(cg K "ahead" "RowReader.ahead" (eG (top 24) 1) t.F_ t.Jd)/\(dn K ⇑t.hN "has_more"\(some ⇑t.E3))/\(cg K "has_more" "RowReader.has_more" (eG (top 24) 2) t.E3 t.J9)/\(dn K ⇑t.hN "take"\(some ⇑t.Ez))/\(cg K "take" "RowReader.take" (eG (top 24) 4) t.Ez t.Re)/\(dn K ⇑t.hN "one_of"\(some ⇑t.FH))/\(cg K "one_of" "RowReader.one_of" (eG (top 24) 5) t.FH t.PJ)/\(dn K ⇑t.hN "figures"\(some ⇑t.Hb))/\(cg K "figures" "RowReader.figures" (eG (top 24) 6) t.Hb t.Je)/\(dn K ⇑t.hN "finish"\(some ⇑t.Hn))/\(cg K "finish" "RowReader.finish" (eG (top 24) 7) t.Hn t.Ke)/\(mg "Stages"\⇑t.f')/\(dn K ⇑t.f' "__init__"\(some ⇑t.BE))/\(cg K "__init__" "Stages.__init__" (eG (top 29) 0) t.BE t.Cf)/\(mg "Keeper"\⇑t.dE)
abbrev a0_af:=(dn K ⇑t.dE "__init__"\(some ⇑t.Bg))/\(cg K "__init__" "Keeper.__init__" (eG (top 42) 0) t.Bg t.Ci)/\(dn K ⇑t.dE "stage"\(some ⇑t.OM))/\(cg K "stage" "Keeper.stage" (eG (top 42) 1) t.OM t.an8)/\(dn K ⇑t.dE "shown"\(some ⇑t.GU))/\(cg K "shown" "Keeper.shown" (eG (top 42) 3) t.GU t.Oh)/\(dn K ⇑t.dE "stage_colour"\(some ⇑t.Fy))/\(cg K "stage_colour" "Keeper.stage_colour" (eG (top 42) 4) t.Fy t.K6)/\(dn K ⇑t.dE "change_colour"\(some ⇑t.C_))/\(cg K "change_colour" "Keeper.change_colour" (eG (top 42) 5) t.C_ t.MZ)/\(dn K ⇑t.dE "pass_turn"\(some ⇑t.Ao))/\(cg K "pass_turn" "Keeper.pass_turn" (eG (top 42) 6) t.Ao t.CW)/\(dn K ⇑t.dE "settle"\(some ⇑t.FY))/\(cg K "settle" "Keeper.settle" (eG (top 42) 7) t.FY t.MW)/\(dn K ⇑t.dE "stays"\(some ⇑t.C9))/\(cg K "stays" "Keeper.stays" (eG (top 42) 8) t.C9 t.KH)/\(dn K ⇑t.dE "tram_waits"\(some ⇑t.Fg))/\(cg K "tram_waits" "Keeper.tram_waits" (eG (top 42) 9) t.Fg t.Kq)/\(dn K ⇑t.dE "pick"\(some ⇑t.Fp))/\(cg K "pick" "Keeper.pick" (eG (top 42) 10) t.Fp t.F9)
abbrev a0_ag:=(dn K ⇑t.dE "leave_for"\(some ⇑t.Fc))/\(cg K "leave_for" "Keeper.leave_for" (eG (top 42) 11) t.Fc t.IU)/\(dn K ⇑t.dE "show_sought"\(some ⇑t.EY))/\(cg K "show_sought" "Keeper.show_sought" (eG (top 42) 12) t.EY t.HX)/\(mg "Road"\⇑t.f3)/\(dn K ⇑t.f3 "__init__"\(some ⇑t.Bp))/\(cg K "__init__" "Road.__init__" (eG (top 44) 0) t.Bp t.Et)/\(dn K ⇑t.f3 "shown"\(some ⇑t.BG))/\(cg K "shown" "Road.shown" (eG (top 44) 1) t.BG t.FD)/\(dn K ⇑t.f3 "queues"\(some ⇑t.AS))/\(cg K "queues" "Road.queues" (eG (top 44) 2) t.AS t.Dc)/\(dn K ⇑t.f3 "pass_turn"\(some ⇑t.tY))/\(cg K "pass_turn" "Road.pass_turn" (eG (top 44) 3) t.tY t.wk)/\(dn K ⇑t.f3 "come"\(some ⇑t.Bx))/\(cg K "come" "Road.come" (eG (top 44) 4) t.Bx t.GL)/\(dn K ⇑t.f3 "let_go"\(some ⇑t.zG))/\(cg K "let_go" "Road.let_go" (eG (top 44) 5) t.zG t.Ha)/\(mg "Way"\⇑t.GP)/\(dn K ⇑t.GP "__init__"\(some ⇑t.G6))/\(cg K "__init__" "Way.__init__" (eG (top 46) 0) t.G6 t.K9)
abbrev a0_ah:=(mg "CarWay"\⇑t.be)/\(dn K ⇑t.be "__init__"\(some ⇑t.Bm))/\(cg K "__init__" "CarWay.__init__" (eG (top 47) 0) t.Bm t.Gf)/\(dn K ⇑t.be "ready"\(some ⇑t.Ch))/\(cg K "ready" "CarWay.ready" (eG (top 47) 1) t.Ch t.NR)/\(dn K ⇑t.be "fade"\(some ⇑t.D4))/\(cg K "fade" "CarWay.fade" (eG (top 47) 2) t.D4 t.LZ)/\(dn K ⇑t.be "goes"\(some ⇑t.Cb))/\(cg K "goes" "CarWay.goes" (eG (top 47) 3) t.Cb t.H0)/\(mg "FootWay"\⇑t.jC)/\(dn K ⇑t.jC "__init__"\(some ⇑t.Ai))/\(cg K "__init__" "FootWay.__init__" (eG (top 48) 0) t.Ai t.Dj)/\(dn K ⇑t.jC "ready"\(some ⇑t.DS))/\(cg K "ready" "FootWay.ready" (eG (top 48) 1) t.DS t.Oi)/\(dn K ⇑t.jC "fade"\(some ⇑t.Dx))/\(cg K "fade" "FootWay.fade" (eG (top 48) 2) t.Dx t.Fk)/\(dn K ⇑t.jC "goes"\(some ⇑t.Gq))/\(cg K "goes" "FootWay.goes" (eG (top 48) 3) t.Gq t.PL)/\(mg "TramWay"\⇑t.jO)/\(dn K ⇑t.jO "__init__"\(some ⇑t.y_))
abbrev a0_ai:=(cg K "__init__" "TramWay.__init__" (eG (top 49) 0) t.y_ t.GK)/\(dn K ⇑t.jO "ready"\(some ⇑t.Hs))/\(cg K "ready" "TramWay.ready" (eG (top 49) 1) t.Hs t.JO)/\(dn K ⇑t.jO "fade"\(some ⇑t.DD))/\(cg K "fade" "TramWay.fade" (eG (top 49) 2) t.DD t.LU)/\(dn K ⇑t.jO "goes"\(some ⇑t.Du))/\(cg K "goes" "TramWay.goes" (eG (top 49) 3) t.Du t.OU)/\(mg "Crossing"\⇑t.iF)/\(dn K ⇑t.iF "__init__"\(some ⇑t.Au))/\(cg K "__init__" "Crossing.__init__" (eG (top 57) 0) t.Au t.EA)/\(dn K ⇑t.iF "names"\(some ⇑t.tO))/\(cg K "names" "Crossing.names" (eG (top 57) 1) t.tO t.ad)/\(dn K ⇑t.iF "number"\(some ⇑t.x'))/\(cg K "number" "Crossing.number" (eG (top 57) 2) t.x' t.BP)/\(dn K ⇑t.iF "called"\(some ⇑t.ub))/\(cg K "called" "Crossing.called" (eG (top 57) 3) t.ub t.x_)/\(hx K t.hN)/\(qj K t.hN t.zf)/\(fa K t.hN "ahead" t.F_)/\(fa K t.hN "has_more" t.E3)
abbrev a0_aj:=(fa K t.hN "take" t.Ez)/\(fa K t.hN "one_of" t.FH)/\(fa K t.hN "figures" t.Hb)/\(fa K t.hN "finish" t.Hn)/\(dc K t.hN "row")/\(dc K t.hN "told")/\(dc K t.hN "place")/\(hx K t.f')/\(qj K t.f' t.BE)/\(dc K t.f' "crossing")/\(dc K t.f' "many")/\(dc K t.f' "leasts")/\(dc K t.f' "mosts")/\(dc K t.f' "members")/\(dc K t.f' "sorts")/\(dc K t.f' "homes")/\(dc K t.f' "changes")/\(hx K t.dE)/\(qj K t.dE t.Bg)/\(fa K t.dE "stage" t.OM)
abbrev a0_ak:=(fa K t.dE "shown" t.GU)/\(fa K t.dE "stage_colour" t.Fy)/\(fa K t.dE "change_colour" t.C_)/\(fa K t.dE "pass_turn" t.Ao)/\(fa K t.dE "settle" t.FY)/\(fa K t.dE "stays" t.C9)/\(fa K t.dE "tram_waits" t.Fg)/\(fa K t.dE "pick" t.Fp)/\(fa K t.dE "leave_for" t.Fc)/\(fa K t.dE "show_sought" t.EY)/\(dc K t.dE "stages")/\(dc K t.dE "showing")/\(dc K t.dE "lasted")/\(dc K t.dE "left")/\(dc K t.dE "sought")/\(dc K t.dE "gone")/\(dc K t.dE "waiting")/\(dc K t.dE "picked")/\(hx K t.f3)/\(qj K t.f3 t.Bp)
abbrev a0_al:=(fa K t.f3 "shown" t.BG)/\(fa K t.f3 "queues" t.AS)/\(fa K t.f3 "pass_turn" t.tY)/\(fa K t.f3 "come" t.Bx)/\(fa K t.f3 "let_go" t.zG)/\(dc K t.f3 "crossing")/\(dc K t.f3 "keeper")/\(dc K t.f3 "turn")/\(dc K t.f3 "standing")/\(dc K t.f3 "lots")/\(hx K t.GP)/\(hx K t.be)/\(qj K t.be t.Bm)/\(fa K t.be "ready" t.Ch)/\(fa K t.be "fade" t.D4)/\(fa K t.be "goes" t.Cb)/\(dc K t.be "kind")/\(dc K t.be "name")/\(dc K t.be "start")/\(dc K t.be "end")
abbrev a0_am:=(dc K t.be "off")/\(dc K t.be "near")/\(dc K t.be "least")/\(hx K t.jC)/\(qj K t.jC t.Ai)/\(fa K t.jC "ready" t.DS)/\(fa K t.jC "fade" t.Dx)/\(fa K t.jC "goes" t.Gq)/\(dc K t.jC "kind")/\(dc K t.jC "name")/\(dc K t.jC "start")/\(dc K t.jC "end")/\(dc K t.jC "off")/\(dc K t.jC "near")/\(dc K t.jC "least")/\(hx K t.jO)/\(qj K t.jO t.y_)/\(fa K t.jO "ready" t.Hs)/\(fa K t.jO "fade" t.DD)/\(fa K t.jO "goes" t.Du)
abbrev a0_an:=(dc K t.jO "kind")/\(dc K t.jO "name")/\(dc K t.jO "start")/\(dc K t.jO "end")/\(dc K t.jO "off")/\(dc K t.jO "near")/\(dc K t.jO "least")/\(hx K t.iF)/\(qj K t.iF t.Au)/\(fa K t.iF "names" t.tO)/\(fa K t.iF "number" t.x')/\(fa K t.iF "called" t.ub)/\(dc K t.iF "places")/\(dc K t.iF "ways")/\(dc K t.iF "numbers")/\(mg "LampError"\⇑t.Nu)/\(Q9 K t.Nu "__init__")/\(W8 K t.mz)/\(zL K t.mz t.ii)/\(dc K t.mz "name")
abbrev a0_ao:=(KZ K ⇑t.mz ⇑t.Nu\true)/\(KZ K ⇑t.mz ⇑t.mz\true)/\(t.be≠t.jC)/\(t.be≠t.jO)/\(t.jC≠t.jO)/\(Yv K t.GP "__init__" t.G6)/\(mg "FIGURES"\t.W3)/\(bP (.str (ab "0123456789")) t.W3)/\(mg "LEAST_PLACES"\t.Op)/\(bP (.int 2) t.Op)/\(mg "LETTERS"\t.WU)/\(bP (.str (ab "abcdefghijklmnopqrstuvwxyz")) t.WU)/\(mg "MOST_FIGURES"\t.UJ)/\(bP (.int 3) t.UJ)/\(mg "MOST_LEAST"\t.Vu)/\(bP (.int 60) t.Vu)/\(mg "MOST_LETTERS"\t.Tt)/\(bP (.int 8) t.Tt)/\(mg "MOST_NEAR"\t.abR)/\(bP (.int 30) t.abR)
abbrev a0_ap:=(mg "MOST_OFF"\t.ZM)/\(bP (.int 30) t.ZM)/\(mg "MOST_PLACES"\t.WE)/\(bP (.int 99) t.WE)/\(mg "MOST_STAGES"\t.Y8)/\(bP (.int 6) t.Y8)/\(mg "MOST_TURNS"\t.ZR)/\(bP (.int 60) t.ZR)/\(mg "MOST_WAYS"\t.U1)/\(bP (.int 12) t.U1)/\(mg "all"=none)/\(mg "any"=none)/\(mg "dict"=none)/\(mg "enumerate"=none)/\(mg "int"=none)/\(mg "isinstance"=none)/\(mg "len"=none)/\(mg "list"=none)/\(mg "max"=none)/\(mg "min"=none)
abbrev a0_aq:=(mg "range"=none)/\(mg "str"=none)/\(mg "sum"=none)/\(t.F9.code=⇑t.qA)/\(∀(s:Shared) (u:Value),BindsTo s t.DM ([u],[]) [(p'p ("_law_script") u)])
end
structure Txt(w:World)(K:bg)(mg:Str->Option Value)(t:bO):Prop where
 jx:a0_aa K mg t
 ju:a0_ab K mg t
 jm:a0_ac K mg t
 jS:a0_ad K mg t
 ot:a0_ae K mg t
 rm:a0_af K t
 oM:a0_ag K mg t
 oF:a0_ah K mg t
 m9:a0_ai K mg t
 j7:a0_aj K t
 jy:a0_ak K t
 jX:a0_al K t
 jJ:a0_am K t
 jK:a0_an K mg t
 jY:a0_ao K mg t
 jv:a0_ap mg t
 Av:a0_aq mg t
section
variable{w:World}{K:bg}{mg:Str->Option Value}{t:bO}(T:Txt w K mg t)
include T
def Txt.Z':=T.jx.1
def Txt.FK:=T.jx.2.1
def Txt.afh:=T.jx.2.2.1
def Txt.Ia:=T.jx.2.2.2.1
def Txt.ZD:=T.jx.2.2.2.2.1
def Txt.E_:=T.jx.2.2.2.2.2.1
def Txt.amV:=T.jx.2.2.2.2.2.2.1
def Txt.H3:=T.jx.2.2.2.2.2.2.2.1
def Txt.aqS:=T.jx.2.2.2.2.2.2.2.2.1
def Txt.LF:=T.jx.2.2.2.2.2.2.2.2.2.1
def Txt.Yb:=T.jx.2.2.2.2.2.2.2.2.2.2.1
def Txt.B_:=T.jx.2.2.2.2.2.2.2.2.2.2.2.1
def Txt.NE:=T.jx.2.2.2.2.2.2.2.2.2.2.2.2.1
def Txt.HG:=T.jx.2.2.2.2.2.2.2.2.2.2.2.2.2.1
def Txt.ajn:=T.jx.2.2.2.2.2.2.2.2.2.2.2.2.2.2.1
def Txt.Ii:=T.jx.2.2.2.2.2.2.2.2.2.2.2.2.2.2.2.1
def Txt.anS:=T.jx.2.2.2.2.2.2.2.2.2.2.2.2.2.2.2.2.1
def Txt.HD:=T.jx.2.2.2.2.2.2.2.2.2.2.2.2.2.2.2.2.2.1
def Txt.RB:=T.jx.2.2.2.2.2.2.2.2.2.2.2.2.2.2.2.2.2.2.1
def Txt.BS:=T.jx.2.2.2.2.2.2.2.2.2.2.2.2.2.2.2.2.2.2.2
def Txt.MI:=T.ju.1
def Txt.zc:=T.ju.2.1
def Txt.Ks:=T.ju.2.2.1
def Txt.zS:=T.ju.2.2.2.1
def Txt.ar3:=T.ju.2.2.2.2.1
def Txt.Tk:=T.ju.2.2.2.2.2.1
def Txt.Wo:=T.ju.2.2.2.2.2.2.1
def Txt.CJ:=T.ju.2.2.2.2.2.2.2.1
def Txt.af0:=T.ju.2.2.2.2.2.2.2.2.1
def Txt.JW:=T.ju.2.2.2.2.2.2.2.2.2.1
def Txt.aid:=T.ju.2.2.2.2.2.2.2.2.2.2.1
def Txt.P7:=T.ju.2.2.2.2.2.2.2.2.2.2.2.1
def Txt.anq:=T.ju.2.2.2.2.2.2.2.2.2.2.2.2.1
def Txt.Jh:=T.ju.2.2.2.2.2.2.2.2.2.2.2.2.2.1
def Txt.aeO:=T.ju.2.2.2.2.2.2.2.2.2.2.2.2.2.2.1
def Txt.Mw:=T.ju.2.2.2.2.2.2.2.2.2.2.2.2.2.2.2.1
def Txt.akE:=T.ju.2.2.2.2.2.2.2.2.2.2.2.2.2.2.2.2.1
def Txt.OE:=T.ju.2.2.2.2.2.2.2.2.2.2.2.2.2.2.2.2.2.1
def Txt.amv:=T.ju.2.2.2.2.2.2.2.2.2.2.2.2.2.2.2.2.2.2.1
def Txt.IX:=T.ju.2.2.2.2.2.2.2.2.2.2.2.2.2.2.2.2.2.2.2
def Txt.ZL:=T.jm.1
def Txt.G3:=T.jm.2.1
def Txt.agp:=T.jm.2.2.1
def Txt.Jf:=T.jm.2.2.2.1
def Txt.ae0:=T.jm.2.2.2.2.1
def Txt.Kh:=T.jm.2.2.2.2.2.1
def Txt.ank:=T.jm.2.2.2.2.2.2.1
def Txt.IY:=T.jm.2.2.2.2.2.2.2.1
def Txt.afB:=T.jm.2.2.2.2.2.2.2.2.1
def Txt.ON:=T.jm.2.2.2.2.2.2.2.2.2.1
def Txt.apj:=T.jm.2.2.2.2.2.2.2.2.2.2.1
def Txt.OK:=T.jm.2.2.2.2.2.2.2.2.2.2.2.1
def Txt.ahR:=T.jm.2.2.2.2.2.2.2.2.2.2.2.2.1
def Txt.Ju:=T.jm.2.2.2.2.2.2.2.2.2.2.2.2.2.1
def Txt.f7:=T.jm.2.2.2.2.2.2.2.2.2.2.2.2.2.2.1
def Txt.fA:=T.jm.2.2.2.2.2.2.2.2.2.2.2.2.2.2.2.1
def Txt.acd:=T.jm.2.2.2.2.2.2.2.2.2.2.2.2.2.2.2.2.1
def Txt.N1:=T.jm.2.2.2.2.2.2.2.2.2.2.2.2.2.2.2.2.2.1
def Txt.WF:=T.jm.2.2.2.2.2.2.2.2.2.2.2.2.2.2.2.2.2.2.1
def Txt.cr:=T.jm.2.2.2.2.2.2.2.2.2.2.2.2.2.2.2.2.2.2.2
def Txt.ahQ:=T.jS.1
def Txt.HU:=T.jS.2.1
def Txt.amn:=T.jS.2.2.1
def Txt.P4:=T.jS.2.2.2.1
def Txt.AC:=T.jS.2.2.2.2.1
def Txt.Ol:=T.jS.2.2.2.2.2.1
def Txt.aqB:=T.jS.2.2.2.2.2.2.1
def Txt.Ki:=T.jS.2.2.2.2.2.2.2.1
def Txt.agZ:=T.jS.2.2.2.2.2.2.2.2.1
def Txt.JA:=T.jS.2.2.2.2.2.2.2.2.2.1
def Txt.aoA:=T.jS.2.2.2.2.2.2.2.2.2.2.1
def Txt.MY:=T.jS.2.2.2.2.2.2.2.2.2.2.2.1
def Txt.afm:=T.jS.2.2.2.2.2.2.2.2.2.2.2.2.1
def Txt.H2:=T.jS.2.2.2.2.2.2.2.2.2.2.2.2.2.1
def Txt.aoK:=T.jS.2.2.2.2.2.2.2.2.2.2.2.2.2.2.1
def Txt.NL:=T.jS.2.2.2.2.2.2.2.2.2.2.2.2.2.2.2.1
def Txt.aii:=T.jS.2.2.2.2.2.2.2.2.2.2.2.2.2.2.2.2.1
def Txt.ahb:=T.jS.2.2.2.2.2.2.2.2.2.2.2.2.2.2.2.2.2.1
def Txt.YE:=T.jS.2.2.2.2.2.2.2.2.2.2.2.2.2.2.2.2.2.2.1
def Txt.SD:=T.ot.1
def Txt.aiE:=T.ot.2.1
def Txt.bn:=T.ot.2.2.2.1
def Txt.aaW:=T.ot.2.2.2.2.2.1
def Txt.U7:=T.ot.2.2.2.2.2.2.2.1
def Txt.WZ:=T.ot.2.2.2.2.2.2.2.2.2.1
def Txt.Wk:=T.ot.2.2.2.2.2.2.2.2.2.2.2.1
def Txt.RI:=T.ot.2.2.2.2.2.2.2.2.2.2.2.2.2.1
def Txt.Vz:=T.ot.2.2.2.2.2.2.2.2.2.2.2.2.2.2.2.1
def Txt.ab3:=T.ot.2.2.2.2.2.2.2.2.2.2.2.2.2.2.2.2.1
def Txt.X_:=T.ot.2.2.2.2.2.2.2.2.2.2.2.2.2.2.2.2.2.2.1
def Txt.afA:=T.ot.2.2.2.2.2.2.2.2.2.2.2.2.2.2.2.2.2.2.2
def Txt.abe:=T.rm.2.1
def Txt.Wy:=T.rm.2.2.2.2.2.1
def Txt.YN:=T.rm.2.2.2.2.2.2.2.1
def Txt.Sz:=T.rm.2.2.2.2.2.2.2.2.2.1
def Txt.Yn:=T.rm.2.2.2.2.2.2.2.2.2.2.2.1
def Txt.Uk:=T.rm.2.2.2.2.2.2.2.2.2.2.2.2.2.1
def Txt.Yl:=T.rm.2.2.2.2.2.2.2.2.2.2.2.2.2.2.2.1
def Txt.aaG:=T.rm.2.2.2.2.2.2.2.2.2.2.2.2.2.2.2.2.2.1
def Txt.ZG:=T.rm.2.2.2.2.2.2.2.2.2.2.2.2.2.2.2.2.2.2.2
def Txt.Yg:=T.oM.2.1
def Txt.Ul:=T.oM.2.2.2.1
def Txt.alc:=T.oM.2.2.2.2.1
def Txt.WO:=T.oM.2.2.2.2.2.2.1
def Txt.R4:=T.oM.2.2.2.2.2.2.2.2.1
def Txt.Y2:=T.oM.2.2.2.2.2.2.2.2.2.2.1
def Txt.Lv:=T.oM.2.2.2.2.2.2.2.2.2.2.2.2.1
def Txt.Wz:=T.oM.2.2.2.2.2.2.2.2.2.2.2.2.2.2.1
def Txt.Vy:=T.oM.2.2.2.2.2.2.2.2.2.2.2.2.2.2.2.2.1
def Txt.Mm:=T.oM.2.2.2.2.2.2.2.2.2.2.2.2.2.2.2.2.2.1
def Txt.aaB:=T.oM.2.2.2.2.2.2.2.2.2.2.2.2.2.2.2.2.2.2.2
def Txt.arR:=T.oF.1
def Txt.SP:=T.oF.2.2.1
def Txt.YJ:=T.oF.2.2.2.2.1
def Txt.R9:=T.oF.2.2.2.2.2.2.1
def Txt.Q1:=T.oF.2.2.2.2.2.2.2.2.1
def Txt.agi:=T.oF.2.2.2.2.2.2.2.2.2.1
def Txt.UU:=T.oF.2.2.2.2.2.2.2.2.2.2.2.1
def Txt.Zp:=T.oF.2.2.2.2.2.2.2.2.2.2.2.2.2.1
def Txt.Xv:=T.oF.2.2.2.2.2.2.2.2.2.2.2.2.2.2.2.1
def Txt.abO:=T.oF.2.2.2.2.2.2.2.2.2.2.2.2.2.2.2.2.2.1
def Txt.acj:=T.oF.2.2.2.2.2.2.2.2.2.2.2.2.2.2.2.2.2.2.1
def Txt.aas:=T.m9.1
def Txt.Q7:=T.m9.2.2.1
def Txt.U8:=T.m9.2.2.2.2.1
def Txt.Sr:=T.m9.2.2.2.2.2.2.1
def Txt.ag4:=T.m9.2.2.2.2.2.2.2.1
def Txt.Xl:=T.m9.2.2.2.2.2.2.2.2.2.1
def Txt.S0:=T.m9.2.2.2.2.2.2.2.2.2.2.2.1
def Txt.K1:=T.m9.2.2.2.2.2.2.2.2.2.2.2.2.2.1
def Txt.K4:=T.m9.2.2.2.2.2.2.2.2.2.2.2.2.2.2.2.1
def Txt.gJ:=T.m9.2.2.2.2.2.2.2.2.2.2.2.2.2.2.2.2.1
def Txt.aqe:=T.m9.2.2.2.2.2.2.2.2.2.2.2.2.2.2.2.2.2.1
def Txt.Gm:=T.m9.2.2.2.2.2.2.2.2.2.2.2.2.2.2.2.2.2.2.1
def Txt.Pi:=T.m9.2.2.2.2.2.2.2.2.2.2.2.2.2.2.2.2.2.2.2
def Txt.Mp:=T.j7.1
def Txt.zr:=T.j7.2.1
def Txt.r8:=T.j7.2.2.1
def Txt.XC:=T.j7.2.2.2.1
def Txt.ahy:=T.j7.2.2.2.2.1
def Txt.R2:=T.j7.2.2.2.2.2.1
def Txt.Ko:=T.j7.2.2.2.2.2.2.1
def Txt.ku:=T.j7.2.2.2.2.2.2.2.1
def Txt.amC:=T.j7.2.2.2.2.2.2.2.2.1
def Txt.Wn:=T.j7.2.2.2.2.2.2.2.2.2.1
def Txt.Wc:=T.j7.2.2.2.2.2.2.2.2.2.2.1
def Txt.Tm:=T.j7.2.2.2.2.2.2.2.2.2.2.2.1
def Txt.XA:=T.j7.2.2.2.2.2.2.2.2.2.2.2.2.1
def Txt.OB:=T.j7.2.2.2.2.2.2.2.2.2.2.2.2.2.1
def Txt.T1:=T.j7.2.2.2.2.2.2.2.2.2.2.2.2.2.2.1
def Txt.UO:=T.j7.2.2.2.2.2.2.2.2.2.2.2.2.2.2.2.1
def Txt.abx:=T.j7.2.2.2.2.2.2.2.2.2.2.2.2.2.2.2.2.1
def Txt.ac:=T.j7.2.2.2.2.2.2.2.2.2.2.2.2.2.2.2.2.2.1
def Txt.abT:=T.j7.2.2.2.2.2.2.2.2.2.2.2.2.2.2.2.2.2.2.1
def Txt.Ye:=T.jy.1
def Txt.afZ:=T.jy.2.1
def Txt.aip:=T.jy.2.2.1
def Txt.Q8:=T.jy.2.2.2.1
def Txt.ano:=T.jy.2.2.2.2.1
def Txt.amG:=T.jy.2.2.2.2.2.1
def Txt.ir:=T.jy.2.2.2.2.2.2.1
def Txt.ajY:=T.jy.2.2.2.2.2.2.2.1
def Txt.ai5:=T.jy.2.2.2.2.2.2.2.2.1
def Txt.Rv:=T.jy.2.2.2.2.2.2.2.2.2.1
def Txt.RK:=T.jy.2.2.2.2.2.2.2.2.2.2.1
def Txt.Ec:=T.jy.2.2.2.2.2.2.2.2.2.2.2.1
def Txt.Cz:=T.jy.2.2.2.2.2.2.2.2.2.2.2.2.1
def Txt.OW:=T.jy.2.2.2.2.2.2.2.2.2.2.2.2.2.1
def Txt.Oa:=T.jy.2.2.2.2.2.2.2.2.2.2.2.2.2.2.1
def Txt.Ff:=T.jy.2.2.2.2.2.2.2.2.2.2.2.2.2.2.2.1
def Txt.aaQ:=T.jy.2.2.2.2.2.2.2.2.2.2.2.2.2.2.2.2.1
def Txt.Zh:=T.jy.2.2.2.2.2.2.2.2.2.2.2.2.2.2.2.2.2.1
def Txt.iw:=T.jy.2.2.2.2.2.2.2.2.2.2.2.2.2.2.2.2.2.2.1
def Txt.asr:=T.jy.2.2.2.2.2.2.2.2.2.2.2.2.2.2.2.2.2.2.2
def Txt.OG:=T.jX.1
def Txt.Ml:=T.jX.2.1
def Txt.Vo:=T.jX.2.2.1
def Txt.Wa:=T.jX.2.2.2.1
def Txt.ut:=T.jX.2.2.2.2.1
def Txt.Vr:=T.jX.2.2.2.2.2.1
def Txt.Vw:=T.jX.2.2.2.2.2.2.1
def Txt.Qs:=T.jX.2.2.2.2.2.2.2.1
def Txt.Un:=T.jX.2.2.2.2.2.2.2.2.1
def Txt.abr:=T.jX.2.2.2.2.2.2.2.2.2.1
def Txt.E6:=T.jX.2.2.2.2.2.2.2.2.2.2.2.1
def Txt.arx:=T.jX.2.2.2.2.2.2.2.2.2.2.2.2.1
def Txt.adt:=T.jX.2.2.2.2.2.2.2.2.2.2.2.2.2.1
def Txt.am4:=T.jX.2.2.2.2.2.2.2.2.2.2.2.2.2.2.1
def Txt.SB:=T.jX.2.2.2.2.2.2.2.2.2.2.2.2.2.2.2.1
def Txt.aj':=T.jX.2.2.2.2.2.2.2.2.2.2.2.2.2.2.2.2.1
def Txt.ar7:=T.jX.2.2.2.2.2.2.2.2.2.2.2.2.2.2.2.2.2.1
def Txt.akx:=T.jX.2.2.2.2.2.2.2.2.2.2.2.2.2.2.2.2.2.2.1
def Txt.agN:=T.jX.2.2.2.2.2.2.2.2.2.2.2.2.2.2.2.2.2.2.2
def Txt.aiK:=T.jJ.1
def Txt.aiy:=T.jJ.2.1
def Txt.ans:=T.jJ.2.2.1
def Txt.Cn:=T.jJ.2.2.2.1
def Txt.anv:=T.jJ.2.2.2.2.1
def Txt.am6:=T.jJ.2.2.2.2.2.1
def Txt.anx:=T.jJ.2.2.2.2.2.2.1
def Txt.alw:=T.jJ.2.2.2.2.2.2.2.1
def Txt.aqx:=T.jJ.2.2.2.2.2.2.2.2.1
def Txt.ame:=T.jJ.2.2.2.2.2.2.2.2.2.1
def Txt.anO:=T.jJ.2.2.2.2.2.2.2.2.2.2.1
def Txt.adY:=T.jJ.2.2.2.2.2.2.2.2.2.2.2.1
def Txt.aia:=T.jJ.2.2.2.2.2.2.2.2.2.2.2.2.1
def Txt.apC:=T.jJ.2.2.2.2.2.2.2.2.2.2.2.2.2.1
def Txt.ab':=T.jJ.2.2.2.2.2.2.2.2.2.2.2.2.2.2.1
def Txt.Dt:=T.jJ.2.2.2.2.2.2.2.2.2.2.2.2.2.2.2.1
def Txt.GM:=T.jJ.2.2.2.2.2.2.2.2.2.2.2.2.2.2.2.2.1
def Txt.agt:=T.jJ.2.2.2.2.2.2.2.2.2.2.2.2.2.2.2.2.2.1
def Txt.aff:=T.jJ.2.2.2.2.2.2.2.2.2.2.2.2.2.2.2.2.2.2.1
def Txt.apL:=T.jJ.2.2.2.2.2.2.2.2.2.2.2.2.2.2.2.2.2.2.2
def Txt.ajP:=T.jK.1
def Txt.asF:=T.jK.2.1
def Txt.amI:=T.jK.2.2.1
def Txt.arT:=T.jK.2.2.2.1
def Txt.Ty:=T.jK.2.2.2.2.1
def Txt.ad7:=T.jK.2.2.2.2.2.1
def Txt.akN:=T.jK.2.2.2.2.2.2.1
def Txt.gH:=T.jK.2.2.2.2.2.2.2.1
def Txt.adJ:=T.jK.2.2.2.2.2.2.2.2.1
def Txt.rU:=T.jK.2.2.2.2.2.2.2.2.2.1
def Txt.Xh:=T.jK.2.2.2.2.2.2.2.2.2.2.1
def Txt.ni:=T.jK.2.2.2.2.2.2.2.2.2.2.2.1
def Txt.QL:=T.jK.2.2.2.2.2.2.2.2.2.2.2.2.1
def Txt.Tf:=T.jK.2.2.2.2.2.2.2.2.2.2.2.2.2.1
def Txt.Zw:=T.jK.2.2.2.2.2.2.2.2.2.2.2.2.2.2.1
def Txt.aoY:=T.jK.2.2.2.2.2.2.2.2.2.2.2.2.2.2.2.1
def Txt.afi:=T.jK.2.2.2.2.2.2.2.2.2.2.2.2.2.2.2.2.1
def Txt.ar4:=T.jK.2.2.2.2.2.2.2.2.2.2.2.2.2.2.2.2.2.1
def Txt.QE:=T.jK.2.2.2.2.2.2.2.2.2.2.2.2.2.2.2.2.2.2.1
def Txt.Z6:=T.jK.2.2.2.2.2.2.2.2.2.2.2.2.2.2.2.2.2.2.2
def Txt.aqI:=T.jY.2.1
def Txt.Z4:=T.jY.2.2.1
def Txt.ZI:=T.jY.2.2.2.1
def Txt.Uj:=T.jY.2.2.2.2.1
def Txt.HN:=T.jY.2.2.2.2.2.1
def Txt.aec:=T.jY.2.2.2.2.2.2.1
def Txt.agU:=T.jY.2.2.2.2.2.2.2.1
def Txt.an':=T.jY.2.2.2.2.2.2.2.2.1
def Txt.an4:=T.jY.2.2.2.2.2.2.2.2.2.1
def Txt.aqk:=T.jY.2.2.2.2.2.2.2.2.2.2.1
def Txt.dL:=T.jY.2.2.2.2.2.2.2.2.2.2.2.1
def Txt.ap9:=T.jY.2.2.2.2.2.2.2.2.2.2.2.2.1
def Txt.ami:=T.jY.2.2.2.2.2.2.2.2.2.2.2.2.2.1
def Txt.al5:=T.jY.2.2.2.2.2.2.2.2.2.2.2.2.2.2.1
def Txt.aeD:=T.jY.2.2.2.2.2.2.2.2.2.2.2.2.2.2.2.1
def Txt.anp:=T.jY.2.2.2.2.2.2.2.2.2.2.2.2.2.2.2.2.1
def Txt.ajV:=T.jY.2.2.2.2.2.2.2.2.2.2.2.2.2.2.2.2.2.1
def Txt.ang:=T.jY.2.2.2.2.2.2.2.2.2.2.2.2.2.2.2.2.2.2.1
def Txt.aeG:=T.jY.2.2.2.2.2.2.2.2.2.2.2.2.2.2.2.2.2.2.2
def Txt.aoH:=T.jv.1
def Txt.alV:=T.jv.2.1
def Txt.aof:=T.jv.2.2.1
def Txt.arH:=T.jv.2.2.2.1
def Txt.ab7:=T.jv.2.2.2.2.1
def Txt.ag_:=T.jv.2.2.2.2.2.1
def Txt.Zg:=T.jv.2.2.2.2.2.2.1
def Txt.RH:=T.jv.2.2.2.2.2.2.2.1
def Txt.UF:=T.jv.2.2.2.2.2.2.2.2.1
def Txt.arX:=T.jv.2.2.2.2.2.2.2.2.2.1
def Txt.apX:=T.jv.2.2.2.2.2.2.2.2.2.2.1
def Txt.aj4:=T.jv.2.2.2.2.2.2.2.2.2.2.2.1
def Txt.P8:=T.jv.2.2.2.2.2.2.2.2.2.2.2.2.1
def Txt.G9:=T.jv.2.2.2.2.2.2.2.2.2.2.2.2.2.1
def Txt.Pp:=T.jv.2.2.2.2.2.2.2.2.2.2.2.2.2.2.1
def Txt.aq7:=T.jv.2.2.2.2.2.2.2.2.2.2.2.2.2.2.2.1
def Txt.ul:=T.jv.2.2.2.2.2.2.2.2.2.2.2.2.2.2.2.2.1
def Txt.yi:=T.jv.2.2.2.2.2.2.2.2.2.2.2.2.2.2.2.2.2.1
def Txt.Lb:=T.jv.2.2.2.2.2.2.2.2.2.2.2.2.2.2.2.2.2.2.1
def Txt.B5:=T.jv.2.2.2.2.2.2.2.2.2.2.2.2.2.2.2.2.2.2.2
def Txt.qh:=T.Av.1
def Txt.ze:=T.Av.2.1
def Txt.as3:=T.Av.2.2.1
def Txt.alf:=T.Av.2.2.2.1
def Txt.ad6:=T.Av.2.2.2.2
def Txt.Wf:=T.FK.nb DU
def Txt.ao8:=T.Ia.nb Fv
def Txt.UK:=T.E_.nb rY
def Txt.aq0:=T.H3.nb rY
def Txt.ajH:=T.LF.nb ["text"]
def Txt.Ys:=T.B_.nb A2
def Txt.aoM:=T.HG.nb EC
def Txt.aqG:=T.Ii.nb PU
def Txt.agC:=T.HD.nb ["word"]
def Txt.RN:=T.BS.nb ["text"]
def Txt.N6:=T.zc.nb DJ
def Txt.KW:=T.zS.nb ["members"]
def Txt.aoo:=T.Tk.nb Lz
def Txt.RD:=T.CJ.nb l2
def Txt.aoP:=T.JW.nb KS
def Txt.af_:=T.P7.nb F6
def Txt.ac1:=T.Jh.nb l2
def Txt.akL:=T.Mw.nb l2
def Txt.amB:=T.OE.nb l2
def Txt.ak7:=T.IX.nb Ae
def Txt.XT:=T.G3.nb FI
def Txt.aen:=T.Jf.nb ["reader"]
def Txt.amO:=T.Kh.nb IZ
def Txt.ahA:=T.IY.nb CU
def Txt.acT:=T.ON.nb Gl
def Txt.afe:=T.OK.nb Fd
def Txt.ak8:=T.Ju.nb ["text"]
def Txt.fZ:=T.fA.nb zT
def Txt.agY:=T.N1.nb MH
def Txt.alD:=T.cr.nb Gb
def Txt.acY:=T.HU.nb Ej
def Txt.ak':=T.P4.nb J'
def Txt.TD:=T.Ol.nb PM
def Txt.ahG:=T.Ki.nb B3
def Txt.arP:=T.JA.nb D3
def Txt.apW:=T.MY.nb Cc
def Txt.aeg:=T.H2.nb D1
def Txt.aie:=T.NL.nb F8
def Txt.ah3:=T.SD.nb gQ
def Txt.akX:=T.bn.nb AM
def Txt.DL:=T.aaW.nb ["self"]
def Txt.YO:=T.U7.nb ["self"]
def Txt.Jl:=T.WZ.nb Er
def Txt.yM:=T.Wk.nb Nk
def Txt.sU:=T.RI.nb Nt
def Txt.QQ:=T.Vz.nb ["self"]
def Txt.ape:=T.X_.nb CO
def Txt.aiw:=T.abe.nb qZ
def Txt.ZK:=T.Wy.nb ["self"]
def Txt.acQ:=T.YN.nb gQ
def Txt.ad3:=T.Sz.nb gQ
def Txt.R3:=T.Yn.nb G'
def Txt.ajj:=T.Uk.nb sI
def Txt.asx:=T.Yl.nb sI
def Txt.aq9:=T.aaG.nb ["self"]
def Txt.amg:=T.ZG.nb ["self"]
def Txt.amf:=T.Yg.nb Fn
def Txt.SN:=T.Ul.nb ["self"]
def Txt.aex:=T.WO.nb qZ
def Txt.IC:=T.R4.nb ["self"]
def Txt.Qq:=T.Y2.nb ["self"]
def Txt.ZF:=T.Lv.nb xP
def Txt.X0:=T.Wz.nb yS
def Txt.Ux:=T.Vy.nb gQ
def Txt.PZ:=T.aaB.nb Dq
def Txt.ajw:=T.SP.nb lI
def Txt.agf:=T.YJ.nb ["self"]
def Txt.aqm:=T.R9.nb ["self"]
def Txt.adi:=T.Q1.nb mF
def Txt.aqV:=T.UU.nb lI
def Txt.anJ:=T.Zp.nb ["self"]
def Txt.alI:=T.Xv.nb ["self"]
def Txt.as5:=T.abO.nb mF
def Txt.aiI:=T.aas.nb lI
def Txt.aj6:=T.Q7.nb ["self"]
def Txt.amw:=T.U8.nb ["self"]
def Txt.ai8:=T.Sr.nb mF
def Txt.sw:=T.Xl.nb FU
def Txt.rI:=T.S0.nb ["self"]
def Txt.TA:=T.K1.nb gQ
def Txt.nv:=T.K4.nb gQ
def Txt.EV:nV K t.mz:=ao2 T.ar4 T.QE
end
noncomputable def dS(ns:List Int)(k m:Int):Int:=
 ((((if 0<(↑ns:Int)then ns.getD (k%(↑ns:Int)).toNat 0 else 0)%1000003+31*k*k+1)*48271%999983*7919)%524287)%m
def hU(ns:List Int)(k:Int)(h:0<m):0<=dS ns k m:=Eb _ ()
def hO(ns:List Int)(k:Int)(h:0<m):dS ns k m<m:=ER _ h
def iv(K:bg)(a:Addr)(ns:List Int):bW:=λvs H Q _=>∃k m,vs=[⇑a,.int k,.int m]/\Sc K a ns H/\(0<=k/\k<1000000)/\0<m/\Q (.int (dS ns k m)) H
variable{P:Program}{w:World}{K:bg}{mg:Str->Option Value}{base:Heap}{t:bO}
abbrev cD(P:Program)(base:Heap){w:World}{K:bg}{mg:Str->Option Value}{t:bO}(_:Txt w K mg t):=cz P w K mg base dy
variable(T:Txt w K mg t)
def zI (a:Addr) (ns:List Int) (hu:↑ns<=63):cD P base T 1 t.BL t.Be zT (iv K a ns):=by
 exists T.fA.ok xn,9
 let(k,m,rfl,S,(h0,af),hm,q):=h;refine(_,(aP (b9 (i:=3) xn.aD (vN (dk oo (gC jn rfl T.ul je (ah (J 0) aB)) aK (cL _)) (b7 dI (J 0) (bQ jQ (J 1) (gC jn rfl T.ul je (ah (J 0) aB)))) aK))
   (aP (b9 (i:=4) xn.aD (bQ eK (bQ eK (bQ jQ (J 3) aK) (bQ kA (bQ kA aK (J 1)) (J 1))) aK))
   (a4 (cA (bQ jQ (bQ jQ (bQ kA (bQ jQ (bQ kA (J 4) aK) aK) aK) aK) (J 2)))))),?_)
 nofun;refine(_,.inl S.seq,?_);rw[aO];have agA:(0:Int)<=k*k/\k*k<1000000*1000000:=(aiH h0 h0,arQ () af h0 ∅);have fin:∀i:Int,(0:Int)<1000003/\pQ 31 k/\pQ (31*k) k/\pQ (i%1000003+31*k*k+1) 48271/\(0:Int)<999983/\pQ ((i%1000003+31*k*k+1)*48271%999983) 7919/\(0:Int)<524287/\0<m:=by
  intro i;refine(∅,.inl ∅,.inr (),.inr ∅,∅,.inr ∅,∅,hm)
 by_cases c:(0:Int)<(↑ns:Int)
 .rw[if_pos (decide_eq_true c)];have az:0<=k%(↑ns:Int)/\k%(↑ns:Int)<(↑ns:Int):=(Eb _ (),ER _ c);refine(_,.inl S.seq,by rw[aO];exact c,_,S.seq,?_);rw[aO];have aN:(k%(↑ns:Int)).toNat<↑ns:=()
  refine(.int ns[(k%(↑ns:Int)).toNat],?_,_,rfl,?_)
  .have e:=cf (xs:=ns.map V.int) (j:=(k%(↑ns:Int)).toNat) (v:=.int ns[(k%(↑ns:Int)).toNat]) (by rw[dF,bq aN] <;> rfl);rwa[sa az.1]at e
  .obtain⟨f1,f2,e5,f4,fu,oW,m1,f8⟩:=fin ns[(k%(↑ns:Int)).toNat];refine⟨f1,f2,e5,f4,fu,oW,m1,f8,?_⟩;have e:dS ns k m=(((ns[(k%(↑ns:Int)).toNat]%1000003+31*k*k+1)*48271%999983*7919)%524287)%m:=by
    unfold dS;rw[if_pos c,k5,bq aN];rfl
   rw[<- e];exact q
 .rw[if_neg (by simpa using c)];let(f1,f2,e5,f4,fu,oW,m1,f8):=fin 0;refine(f1,f2,e5,f4,fu,oW,m1,f8,?_);have e:dS ns k m=(((0%1000003+31*k*k+1)*48271%999983*7919)%524287)%m:=by
   unfold dS;rw[if_neg c]
  rw[<- e];exact q
def DY{w:Str}:w=ab ""↔↑w=0:=by
 constructor
 .rintro rfl;ac_nf
 .intro h;have e:w.cps=#[]:=Array.eq_empty_of_size_eq_zero h;have aA:(ab "").cps=#[]:=∅
  cases w;cases aj:ab "";rw[aj]at aA;simp only at e aA;rw[e,aA]
noncomputable def wI(bR:Str)(c:Nat):Bool:=!(uh bR (kn c) 0 ↑bR 1).isEmpty
def HT(bR:Str)(c:Nat):wI bR c=decide (c∈bR.cps.toList):=StrLaws.found_one bR c
noncomputable def made(w bR:Str)(m:Int):Bool:=if w=ab "" then false else if m<(↑w:Int)then false else w.cps.toList.all (wI bR)
def OC:bW:=λvs H Q _=>∃w bR m,vs=[.str w,.str bR,.int m]/\↑w<=1000/\aI H/\Q (.bC (made w bR m)) H
def akY:bW:=λvs H Q _=>∃w bR m,vs=[.str w,.str bR,.int m]/\↑w<=1000/\∀H',aS H H'->Q (.bC (made w bR m)) H'
theorem Rt:cD P base T 1 t.LL t.L5 A2 OC:=by
 refine cz.forget (sp:=akY) ?_ λvs H Q E h=>?_
 .exists T.B_.ok aly,9
  let(w,bR,m,rfl,aH,q):=h;have g9:↑w<=sizeLine:=c9 aH ∅;refine(_,(aP (d5 (gL.pt (tm (dk wf (J 0) di (cL _)) (uW (dk oo (gC ajx rfl T.ul je (ah (J 0) aB)) (J 2) (cL _))))) (a4 (cA mN)) eV)
   (a4 (cA (gC (ag5 rfl) rfl T.apX ama (ah (h_ rfl (aeo (J 0)) (Gc (sc:=bD (top 19)) rfl ∅) (N:=["sign","signs"]) (sel:=[none,some 1]) (g_ (M:=A2) ∅) (fT.of (λ_ _ _ _=>(cy (i:=0) (eZ (N:=["sign","signs"]) ∅ rfl))) (λ_ _ _ _=>(_,i',by walk_at "B")) (λ_ _ _ _=>(_,(iz aod (J 0) (J 1) (by with_unfolding_all rfl)),by walk_at "B")))) aB))))),?_)
  nofun;refine d8 (decide (w=ab "")||decide (m<(↑w:Int))) (λQ a9=>?_) (λU=>?_) (λU=>?_)
  .nofun;by_cases c:w=ab ""
   .rw [if_pos (decide_eq_true c)];rw[decide_eq_true c,vb]at a9;exact a9
   .rw [if_neg (by simpa using c)];rw[decide_eq_false c,nz]at a9;exact(g9,a9)
  .nofun;have e:made w bR m=false:=by
    unfold made;simp only[yQ,decide_eq_true_eq]at U;by_cases c:w=ab ""
    .rw [if_pos c]
    .rw [if_neg c,if_pos (U.resolve_left c)]
   have:=q H (aS.refl H);rw[e]at this;exact this
  .nofun;have e:made w bR m=w.cps.toList.all (wI bR):=by
    unfold made;simp only[z5,decide_eq_false_iff_not]at U;rw[if_neg U.1,if_neg U.2]
   refine dB.aeI (λx=>match x with|.str y=>.bC (!(uh bR y 0 ↑bR 1).isEmpty)|_=>.b5) (by rw[VH];exact g9) (λi x N ae bw=>?_) (λp ag=>?_)
   .unfold o' at ae;rw[dF]at ae;cases aw:w.cps.toList[i]? with
    |none=>rw[aw]at ae;cases ae
    |some c=>
     rw[aw]at ae;have eA:V.str (kn c)=x:=dZ ae;subst eA;nofun;exact(Sub.name,bw)
   .refine⟨p,rfl,w.cps.toList.map (wI bR),aE.of ?_,?_⟩
    .rw [aM];unfold o';rw[oN,oN];rfl
    .have:=q (upd H p (.lst (tE (λx=>match x with|.str y=>.bC (!(uh bR y 0 ↑bR 1).isEmpty)|_=>.b5) (o' w)))) (bk ag);rw[e]at this;rw[List.all_map];exact this
 .let(w,bR,m,e,aH,bH,q):=h;exact(bH,w,bR,m,e,aH,λH' bo=>(bo,q))
noncomputable abbrev u5:Str:=ab "0123456789"
noncomputable def od(c:Nat):Bool:=decide (48<=c/\c<=57)
def aiq(c:Nat):wI u5 c=od c:=by
 rw[HT,(∅:u5.cps.toList=List.range' 48 10)];unfold od;refine decide_eq_decide.mpr ?_;rw[List.mem_range'_1];exact and_congr_right λ_=>show c<58↔c<=57 from Nat.lt_succ_iff
noncomputable abbrev cs(w:Str):List Nat:=w.cps.toList
def Pk(w:Str):↑(cs w)=↑w:=by simp[cs,vY]
noncomputable def k1(w:Str):Bool:=decide (1<=↑(cs w))&&decide (↑(cs w)<=3)&&(cs w).all od&&(decide (↑(cs w)<=1)||decide ((cs w).headD 0≠48))
noncomputable abbrev val(w:Str):Int:=((ZU (cs w):Nat):Int)
noncomputable def j8(w:Str)(lo ai:Int):V:=if k1 w && !(decide (val w<lo)||decide (ai<val w))then .int (val w)else .b5
theorem YU{w:Str}{c:Nat}:w=⟨#[c]⟩↔cs w=[c]:=by
 constructor
 .rintro rfl;rfl
 .intro h;cases w with
  |mk a=>
   have e:a=#[c]:=abD.mp h;rw[e]
def Jb:ab "0"=⟨#[48]⟩:=∅
def Ru(w:Str):made w u5 3=(decide (1<=↑(cs w))&&decide (↑(cs w)<=3)&&(cs w).all od):=by
 unfold made;have e:(wI u5)=od:=funext aiq;rw[e];by_cases af:w=ab ""
 .have aj:=DY.mp af;rw[if_pos af,Pk,aj];rfl
 .have aj:¬ ↑w=0:=λz=>af (DY.mpr z)
  rw[if_neg af,Pk];by_cases bb:(3:Int)<(↑w:Int)
  .rw [if_pos bb,decide_eq_false (show ¬ ↑w<=3 by omega),al8,o6]
  .rw [if_neg bb,decide_eq_true (show 1<=↑w by omega),decide_eq_true (show ↑w<=3 by omega)];rfl
def air{l:List Nat}(h:l.all od=true):NumText.AllDigits l:=λc aw=>by
 have:=oX.mp h c aw;simpa[od]using this
def anc{w:Str}(h:k1 w=true):(1<=↑(cs w)/\↑(cs w)<=3)/\(cs w).all od=true:=by
 unfold k1 at h;simp only[jP,decide_eq_true_eq]at h;exact h.1
def SW:bW:=λvs H Q _=>∃w,vs=[.str w,.int 3]/\↑w<=1000/\aI H/\Q (.bC (k1 w)) H
def ag':bW:=λvs H Q _=>∃w lo ai,vs=[.str w,.int lo,.int ai]/\↑w<=1000/\aI H/\Q (j8 w lo ai) H
theorem aoc:cD P base T 2 t.Jv t.OR EC SW:=by
 refine cK (Rt T) λII=>?_;exists T.HG.ok aoT,9
 let(w,rfl,aH,bH,q):=h;have g9:↑w<=sizeLine:=c9 aH ∅;refine(_,(aP (d5 (uL (pM (cJ II ao T.Yb T.B_.bM T.Ys (ah (J 0) (ah (nd rfl T.aec T.agU) (ah (J 1) aB)))))) (a4 (cA mN)) eV)
   (a4 (cA (aaN (iz wf (J 0) di (cL _)) (vr (iz ug (b7 Lm (J 0) aK) di (cL _))))))),?_)
 refine d8 (!made w u5 3) (λQ a9=>?_) (λU=>?_) (λU=>?_)
 ·(nofun; repeat (dsimp only[OC];nofun));exact(aH,bH,a9)
 .nofun;have e:k1 w=false:=by
   have fv:made w u5 3=false:=by simpa using U
   rw[Ru]at fv;unfold k1;rw[fv];rfl
  rw[e]at q;exact q
 .have fv:made w u5 3=true:=by simpa using U
  rw[Ru]at fv;rw[iR];dsimp only;refine agS (.bC (k1 w)) (λQ a9=>?_) ?_
  case refine_2=>exact q
  nofun;have j5:(1<=↑(cs w)/\↑(cs w)<=3)/\(cs w).all od=true:=by
   simpa only[jP,decide_eq_true_eq]using fv
  let(c,r,yL):∃c r,cs w=c::r:=by
   cases h:cs w with
   |nil=>rw[h]at j5;exact absurd j5.1.1 ∅
   |cons c r=>exact(c,r,rfl)
  have ok:k1 w=(decide (↑(cs w)<=1)||decide ((cs w).headD 0≠48)):=by
   unfold k1;rw[fv,n0]
  by_cases cZ:w=ab "0"
  .rw[if_pos (decide_eq_true cZ)];have e:cs w=[48]:=by rw[cZ,Jb]
   rw[ok,e]at a9;exact a9
  .rw [if_neg (by simpa using cZ)];refine(g9,c,?_,?_)
   .have:=cf (xs:=cs w) (j:=0) (v:=c) (by rw[yL];rfl);exact this
   .have aA:decide ((⟨#[c]⟩:Str)=ab "0")=decide (c=48):=by
     rw[Jb];by_cases tH:c=48
     .rw [tH];simp
     .rw [decide_eq_false tH,decide_eq_false];intro z;have ew:=YU.mp z;exact tH (Ay ew).1
    rw [aA];have bG:k1 w = !decide (c=48):=by
     rw[ok,yL];show(decide (↑(c::r)<=1)||decide (c≠48))=_;by_cases tH:c=48
     .have ao:r≠[]:=λz=>cZ (by rw[Jb];exact YU.mpr (by rw[yL,z,tH]))
      have:¬ ↑(c::r)<=1:=by
       cases r with
       |nil=>exact absurd rfl ao
       |cons d r=>simp
      rw[decide_eq_false this,tH];rfl
     .rw [decide_eq_true tH,FO,decide_eq_false tH];rfl
    rw[<- bG];exact a9
def aqP:cD P base T 3 t.Jg t.Mu PU ag':=by
 refine cK (aoc T) λash=>?_;exists T.Ii.ok abK,9
 let(w,lo,ai,rfl,aH,bH,q):=h;refine(_,(aP (d5 (uL (pM (cJ ash ao T.NE T.HG.bM T.aoM (ah (J 0) (ah (nd rfl T.ap9 T.ami) aB))))) (a4 (cA uo)) eV)
   (aP (b9 (i:=3) abK.aD (k8 apB rfl T.Pp L3 (ah (J 0) aB)))
   (aP (d5 (gL.pt (tm (dk nt (J 3) (J 1) (cL _)) (uW (dk oo (J 3) (J 2) (cL _))))) (a4 (cA uo)) eV)
   (a4 (cA (J 3)))))),?_)
 refine d8 (!k1 w) (λQ a9=>?_) (λU=>?_) (λU=>?_)
 ·(nofun; repeat (dsimp only[SW];nofun));exact(aH,bH,a9)
 .nofun;have fv:k1 w=false:=by simpa using U
  have e:j8 w lo ai=.b5:=by unfold j8;rw[fv];rfl
  rw[e]at q;exact q
 .have fv:k1 w=true:=by simpa using U
  have bb:(1<=↑(cs w)/\↑(cs w)<=3)/\(cs w).all od=true:=by
   have:=fv;unfold k1 at this;simp only[jP,decide_eq_true_eq]at this;exact this.1
  have aG:=Pk w;have gw:intText? w\(val w):=intText_digits (air bb.2) (λz=>by have h9:cs w=[]:=z;rw[h9]at bb;exact absurd bb.1.1 ∅) ();nofun;refine(val w,gw,(),?_);refine d8 (decide (val w<lo)||decide (ai<val w)) (λQ a9=>?_) (λaw=>?_) (λaw=>?_)
  .nofun;by_cases c:val w<lo
   .rw [if_pos (decide_eq_true c)];rw[decide_eq_true c,vb]at a9;exact a9
   .rw [if_neg (by simpa using c)];rw[decide_eq_false c,nz]at a9;exact a9
  .nofun;have e:j8 w lo ai=.b5:=by unfold j8;rw[fv,aw];rfl
   rw[e]at q;exact q
  .nofun;have e:j8 w lo ai=.int (val w):=by unfold j8;rw[fv,aw];rfl
   rw[e]at q;exact q
def KU{n:Nat}(h:n<1000):n.log2<1920:=by
 by_cases h0:n=0
 .subst h0;decide
 .rw [aqA h0];exact ic h (c9 ((∅:1000<=2 ^ 10)) (Nat.pow_le_pow_right ∅ ∅))
def afc:∀n,n<1000->↑(w' 10 n)<=3:=∅
def yB{n:Int}(h0:0<=n)(af:n<=999):↑(ab (toString n))<=3:=by
 have e:=apn n.toNat;rw[sa h0]at e;have l:↑(ab (toString n))=↑(ab (toString n)).cps.toList:=by simp[vY]
 rw[l,e,aO];exact afc _ ()
noncomputable abbrev kG:Str:=ab "abcdefghijklmnopqrstuvwxyz"
def aif:bW:=λvs H Q _=>∃w,vs=[.str w]/\↑w<=1000/\aI H/\Q (.bC (made w kG 8)) H
def ajF:cD P base T 2 t.OI t.Od ["word"] aif:=by
 refine cK (Rt T) λII=>?_;exists T.HD.ok alB,9
 let(w,rfl,aH,bH,q):=h;refine(_,(a4 (cA (cJ II ao T.Yb T.B_.bM T.Ys (ah (J 0) (ah (nd rfl T.aqk T.dL) (ah (nd rfl T.anp T.ajV) aB)))))),?_);(nofun; repeat (dsimp only[OC];nofun));exact(aH,bH,q)
noncomputable abbrev nl:Str:=ab "\n"
abbrev c6:Str:=ab " "
def api:nl=⟨#[10]⟩:=∅
def Dm:c6=⟨#[32]⟩:=∅
noncomputable def ib(x:Str):List (List Str):=(jq x nl).map λr=>jq r c6
theorem ZH:∀{ys:List Str} {y:Str},y∈ys->↑y<=(ys.map (·.length)).sum
 |[],_,h=>nomatch h
 |a::r,y,h=>by
  rw[e1,Jw];rcases e_.mp h with rfl|h
  .omega
  .have:=ZH h;omega
def aeK{x y r:Str}(aJ:1<=↑y)(h:r∈jq x y):↑r<=↑x+1:=by
 have af:=aqM x y aJ;have aj:=ZH h;omega
def Kv{x y:Str}(aJ:1<=↑y):↑(jq x y)<=↑x+1:=by
 have af:=aqM x y aJ;omega
def agq(x y:Str):jq x y≠[]:=by
 unfold jq;split
 .simp
 .split
  .simp
  .rw [StrLaws.partsBetween_eq];let(p,r,e):=StrLaws.partsFrom_ne x ↑y 0 (uh x y 0 ↑x (↑x+1));rw[e];simp
def ahn(bU H:au)(p:Addr)(rows:List (List Str)):Prop:=∃qs:List Addr,H p\(.lst (qs.map V.ref))/\bU p=none/\p∉qs/\↑qs=↑rows/\∀(i:Nat) (q:Addr) (r:List Str),qs[i]?\q->rows[i]?\r->H q\(.lst (a5 r))/\bU q=none
def abb:bW:=λvs H Q _=>∃x,vs=[.str x]/\↑x<=20000/\aI H/\∀p H',aS H H'->aI H'->ahn H H' p (ib x)->Q ⇑p H'
def Br:↑nl=1:=∅
def se:↑c6=1:=∅
theorem apx:cD P base T 1 t.EI t.Ew ["text"] abb:=by
 exists T.LF.ok ahv,9
 let(x,rfl,aH,bH,q):=h;have i3:∀n:Nat,n<=40000->n<=sizeLine:=λn h=>c9 h ∅
 refine(_,(a4 (cA (h_ rfl (eQ (gq vi GO abU aa8 (J 0) (ah di aB))) (Gc (sc:=bD (top 18)) rfl ∅) (N:=["row"]) (sel:=[none]) (g_ (M:=["text"]) ∅) (fT.of (λ_ _ _ _=>(cy (i:=0) (eZ (N:=["row"]) ∅ rfl))) (λ_ _ _ _=>(_,i',by walk_at "B")) (λ_ _ _ _=>(_,(gq vi GO abU aa8 (J 0) (ah di aB)),by walk_at "B")))))),?_);nofun;have aJ:1<=↑nl:=by rw[Br];exact b1 _
 have aic:1<=↑c6:=by rw[se];exact b1 _
 have aC:=Kv (x:=x) aJ;have sY:↑(a5 (jq x nl))<=sizeLine:=by unfold a5;rw[aO];exact i3 _ ()
 refine(by rw[Br];decide,i3 _ (),i3 _ (show ↑(jq x nl)<=40000 by omega),λp ag=>((_,aE.of aM),?_));refine dB.ako (xs:=a5 (jq x nl)) (λv=>match v with|.str r=>.lst (a5 (jq r c6))|_=>.lst []) (aE.of aM) sY (λv=>by cases v <;> rfl) (λi v H1 N ae bo kv bw=>?_) (λqs H1 bo kv aG al dY g4=>?_)
 .unfold a5 at ae;rw[dF]at ae;cases ao:(jq x nl)[i]? with
  |none=>rw[ao]at ae;cases ae
  |some r=>
   rw[ao]at ae;have e:=dZ ae;subst e;have hm:=aeK aJ (ct ao);have iE:=Kv (x:=r) aic;nofun;exact(Sub.name,by rw[se];decide,i3 _ (),i3 _ (show ↑(jq r c6)<=40000 by omega),bw)
 .have Jz:aS H H1:=(bk ag).trans bo;refine q _ _ (Jz.gW (Jz.free g4)) ((kv (bH.upd)).upd) (qs,aM,Jz.free g4,λhm=>?_,?_,λi cW r af aj=>?_)
  .obtain⟨j,aN,e⟩:=O3 hm;have alo:j<↑(a5 (jq x nl)):=()
   have:=al j dY _ (by rw[bq aN,e]) (bq alo);rw[g4]at this;cases this.1
  .rw [aG];unfold ib a5;rw[aO,aO]
  .unfold ib at aj;rw[dF]at aj;cases ao:(jq x nl)[i]? with
   |none=>rw[ao]at aj;cases aj
   |some mQ=>
    rw[ao]at aj;have e:=dZ aj;subst e;have z:=al i cW (.str mQ) af (by unfold a5;rw[dF,ao];rfl);refine(by rw[ax (du z.1 g4)];exact z.1,?_);have:=z.2;by_cases ay:cW=p
    .rw [ay];exact ag
    .rwa [ax ay]at this
structure bh where
 k:Nat
 name:Str
 start:Int
 fin:Int
 off:Int
 near:Int
 least:Int
noncomputable def e4:Nat->Str
 |0=>ab "car"
 |1=>ab "foot"
 |_=>ab "tram"
noncomputable def bO.gx(t:bO):Nat->Addr
 |0=>t.be
 |1=>t.jC
 |_=>t.jO
noncomputable def pS(d:bh):List (Str×V):=[(p'p (ab "kind") (.str (e4 d.k))),(p'p (ab "name") (.str d.name)),(p'p (ab "start") (.int d.start)),(p'p (ab "end") (.int d.fin)),(p'p (ab "off") (.int d.off)),(p'p (ab "near") (.int d.near)),(p'p (ab "least") (.int d.least))]
noncomputable abbrev qx:List Str:=[ab "kind",ab "name",ab "start",ab "end",ab "off",ab "near",ab "least"]
def Sw(d:bh):(pS d).map (·.1)=qx:=rfl
def e8(t:bO)(H:au)(p:Addr)(d:bh):Prop:=d.k<3/\∃ak,H p\(.ins (t.gx d.k) ak (pS d))
def e8.same{t:bO}{p:Addr}{d:bh}(h:e8 t H p d)(s:aS H H'):e8 t H' p d:=(h.1,h.2.imp λak e=>s _ _ e)
def sk(t:bO)(C:Addr):Prop:=∃k,k<3/\C=t.gx k
noncomputable def n'(d:bh):Int:=match d.k with|0=>1|1=>0|_=>2
noncomputable def bv(d:bh):Int:=match d.k with|0=>2|1=>d.off|_=>1
noncomputable def ht(d:bh)(n:Int):Int:=match d.k with|1=>n|_=>if 1<n then 1 else n
section
variable{w:World}{K:bg}{mg:Str->Option Value}{t:bO}
theorem Txt.tx(T:Txt w K mg t):∀k,hx K (t.gx k)
 |0=>T.E6
 |1=>T.Cn
 |_+2=>T.Dt
theorem Txt.T6(T:Txt w K mg t)(hf:f∈qx):∀k,dc K (t.gx k) f:=by
 intro k;simp only[qx,e_,r1,or_false]at hf;rcases hf with rfl|rfl|rfl|rfl|rfl|rfl|rfl
 .match k with
  |0=>exact T.aj'
  |1=>exact T.aqx
  |_+2=>exact T.ajP
 .match k with
  |0=>exact T.ar7
  |1=>exact T.ame
  |_+2=>exact T.asF
 .match k with
  |0=>exact T.akx
  |1=>exact T.anO
  |_+2=>exact T.amI
 .match k with
  |0=>exact T.agN
  |1=>exact T.adY
  |_+2=>exact T.arT
 .match k with
  |0=>exact T.aiK
  |1=>exact T.aia
  |_+2=>exact T.Ty
 .match k with
  |0=>exact T.aiy
  |1=>exact T.apC
  |_+2=>exact T.ad7
 .match k with
  |0=>exact T.ans
  |1=>exact T.ab'
  |_+2=>exact T.akN
theorem Txt.cw_inj(T:Txt w K mg t){j k:Nat}(aN:j<3)(az:k<3)(e:t.gx j=t.gx k):j=k:=by
 match j,k,aN,az with
 |0,0,_,_=>rfl
 |0,1,_,_=>exact absurd e T.Z4
 |0,2,_,_=>exact absurd e T.ZI
 |1,0,_,_=>exact absurd e.symm T.Z4
 |1,1,_,_=>rfl
 |1,2,_,_=>exact absurd e T.Uj
 |2,0,_,_=>exact absurd e.symm T.ZI
 |2,1,_,_=>exact absurd e.symm T.Uj
 |2,2,_,_=>rfl
 |j+3,_,h,_=>omega
 |_,k+3,_,h=>omega
def e8.fld(T:Txt w K mg t){p:Addr}{d:bh}(h:e8 t H p d)(i:Nat)(ai:qx.findIdx? (· == f)\i)(aQ:(pS d)[i]?\(p'p f v)):fH K H p f v:=by
 let(_,ak,e):=h;have hm:f∈qx:=by
  let(et,af,_):=Rd.mp ai;have:qx[i]=f:=by simpa using af
  rw[<- this];exact mL et
 exact(_,ak,_,e,T.tx _,T.T6 hm _,gb qx i (Sw d) ai aQ)
def e8.am3(T:Txt w K mg t){p:Addr}{d:bh}(h:e8 t H p d):fH K H p (ab "kind") (.str (e4 d.k)):=h.fld T 0 ∅ rfl
def e8.K3(T:Txt w K mg t){p:Addr}{d:bh}(h:e8 t H p d):fH K H p (ab "name") (.str d.name):=h.fld T 1 ∅ rfl
def e8.xy(T:Txt w K mg t){p:Addr}{d:bh}(h:e8 t H p d):fH K H p (ab "start") (.int d.start):=h.fld T 2 ∅ rfl
def e8.vk(T:Txt w K mg t){p:Addr}{d:bh}(h:e8 t H p d):fH K H p (ab "end") (.int d.fin):=h.fld T 3 ∅ rfl
def e8.Ws(T:Txt w K mg t){p:Addr}{d:bh}(h:e8 t H p d):fH K H p (ab "off") (.int d.off):=h.fld T 4 ∅ rfl
def e8.adz(T:Txt w K mg t){p:Addr}{d:bh}(h:e8 t H p d):fH K H p (ab "near") (.int d.near):=h.fld T 5 ∅ rfl
def e8.arJ(T:Txt w K mg t){p:Addr}{d:bh}(h:e8 t H p d):fH K H p (ab "least") (.int d.least):=h.fld T 6 ∅ rfl
end
def ac4(t:bO):bW:=λvs H Q _=>∃(p ak:Addr) (d:bh),vs=[⇑p,.str (e4 d.k),.str d.name,.int d.start,.int d.fin,.int d.off,.int d.near,.int d.least]/\d.k<3/\H p\(.ins (t.gx d.k) ak [])/\Q .b5 (upd H p (.ins (t.gx d.k) ak (pS d)))
def xO(t:bO)(k:Nat):bW:=λvs H Q _=>∃(p ak:Addr) (d:bh),vs=[⇑p,.str d.name,.int d.start,.int d.fin,.int d.off,.int d.near,.int d.least]/\d.k=k/\H p\(.ins (t.gx d.k) ak [])/\Q .b5 (upd H p (.ins (t.gx d.k) ak (pS d)))
def Ox:cD P base T 1 t.G6 t.K9 Dq (ac4 t):=by
 exists T.aaB.ok aiP,9
 let(p,ak,d,rfl,az,ag,q):=h;refine(_,(aP (e6 (J 0) (J 1) rfl)
   (aP (e6 (J 0) (J 2) rfl)
   (aP (e6 (J 0) (J 3) rfl)
   (aP (e6 (J 0) (J 4) rfl)
   (aP (e6 (J 0) (J 5) rfl)
   (aP (e6 (J 0) (J 6) rfl)
   (a4 (e6 (J 0) (J 7) rfl)))))))),?_)
 nofun;have na:∀{f:Str},f∈qx->dc K (t.gx d.k) f:=λhf=>T.T6 hf d.k
 refine(_,_,_,ag,T.tx _,na ∅,∅,?_);refine(_,_,_,aM,T.tx _,na ∅,h5 (n:=999) ∅,?_);refine(_,_,_,aM,T.tx _,na ∅,h5 (n:=999) (h5 (n:=998) ∅),?_);refine(_,_,_,aM,T.tx _,na ∅,h5 (n:=999) (h5 (n:=998) (h5 (n:=997) ∅)),?_);refine(_,_,_,aM,T.tx _,na ∅,h5 (n:=999) (h5 (n:=998) (h5 (n:=997) (h5 (n:=996) ∅))),?_);refine(_,_,_,aM,T.tx _,na ∅,h5 (n:=999) (h5 (n:=998) (h5 (n:=997) (h5 (n:=996) (h5 (n:=995) ∅)))),?_);refine(_,_,_,aM,T.tx _,na ∅,h5 (n:=999) (h5 (n:=998) (h5 (n:=997) (h5 (n:=996) (h5 (n:=995) (h5 (n:=994) ∅))))),?_);simp only[vB];rw[show c_ (ab "kind") (V.str (e4 d.k)) ([]:List (Str×V))=[(p'p (ab "kind") (V.str (e4 d.k)))]from gf [] rfl ∅,
  show c_ (ab "name") (V.str d.name) ([(p'p (ab "kind") (V.str (e4 d.k)))]:List (Str×V))=[(p'p (ab "kind") (V.str (e4 d.k))),(p'p (ab "name") (V.str d.name))]from gf [ab "kind"] rfl ∅,
  show c_ (ab "start") (V.int d.start) ([(p'p (ab "kind") (V.str (e4 d.k))),(p'p (ab "name") (V.str d.name))]:List (Str×V))=[(p'p (ab "kind") (V.str (e4 d.k))),(p'p (ab "name") (V.str d.name)),(p'p (ab "start") (V.int d.start))]from gf [ab "kind",ab "name"] rfl ∅,
  show c_ (ab "end") (V.int d.fin) ([(p'p (ab "kind") (V.str (e4 d.k))),(p'p (ab "name") (V.str d.name)),(p'p (ab "start") (V.int d.start))]:List (Str×V))=[(p'p (ab "kind") (V.str (e4 d.k))),(p'p (ab "name") (V.str d.name)),(p'p (ab "start") (V.int d.start)),(p'p (ab "end") (V.int d.fin))]from gf [ab "kind",ab "name",ab "start"] rfl ∅,
  show c_ (ab "off") (V.int d.off) ([(p'p (ab "kind") (V.str (e4 d.k))),(p'p (ab "name") (V.str d.name)),(p'p (ab "start") (V.int d.start)),(p'p (ab "end") (V.int d.fin))]:List (Str×V))=[(p'p (ab "kind") (V.str (e4 d.k))),(p'p (ab "name") (V.str d.name)),(p'p (ab "start") (V.int d.start)),(p'p (ab "end") (V.int d.fin)),(p'p (ab "off") (V.int d.off))]from gf [ab "kind",ab "name",ab "start",ab "end"] rfl ∅,
  show c_ (ab "near") (V.int d.near) ([(p'p (ab "kind") (V.str (e4 d.k))),(p'p (ab "name") (V.str d.name)),(p'p (ab "start") (V.int d.start)),(p'p (ab "end") (V.int d.fin)),(p'p (ab "off") (V.int d.off))]:List (Str×V))=[(p'p (ab "kind") (V.str (e4 d.k))),(p'p (ab "name") (V.str d.name)),(p'p (ab "start") (V.int d.start)),(p'p (ab "end") (V.int d.fin)),(p'p (ab "off") (V.int d.off)),(p'p (ab "near") (V.int d.near))]from gf [ab "kind",ab "name",ab "start",ab "end",ab "off"] rfl ∅,
  show c_ (ab "least") (V.int d.least) ([(p'p (ab "kind") (V.str (e4 d.k))),(p'p (ab "name") (V.str d.name)),(p'p (ab "start") (V.int d.start)),(p'p (ab "end") (V.int d.fin)),(p'p (ab "off") (V.int d.off)),(p'p (ab "near") (V.int d.near))]:List (Str×V))=[(p'p (ab "kind") (V.str (e4 d.k))),(p'p (ab "name") (V.str d.name)),(p'p (ab "start") (V.int d.start)),(p'p (ab "end") (V.int d.fin)),(p'p (ab "off") (V.int d.off)),(p'p (ab "near") (V.int d.near)),(p'p (ab "least") (V.int d.least))]from gf [ab "kind",ab "name",ab "start",ab "end",ab "off",ab "near"] rfl ∅]
 exact q
def abX:cD P base T 2 t.Bm t.Gf lI (xO t 0):=by
 refine cK (Ox T) λAq=>?_;exists T.SP.ok afU,9
 let(p,ak,d,rfl,az,ag,q):=h;refine(_,(a4 (dV (Io rfl T.Mm T.HN Aq ao T.PZ .nil cv (ah (J 0) (ah di (ah (J 1) (ah (J 2) (ah (J 3) (ah (J 4) (ah (J 5) (ah (J 6) aB))))))))))),?_);nofun;exact(p,ak,d,by rw[az];rfl,(),ag,q)
def agv:cD P base T 2 t.Ai t.Dj lI (xO t 1):=by
 refine cK (Ox T) λAq=>?_;exists T.UU.ok akt,9
 let(p,ak,d,rfl,az,ag,q):=h;refine(_,(a4 (dV (Io rfl T.Mm T.HN Aq ao T.PZ .nil cv (ah (J 0) (ah di (ah (J 1) (ah (J 2) (ah (J 3) (ah (J 4) (ah (J 5) (ah (J 6) aB))))))))))),?_);nofun;exact(p,ak,d,by rw[az];rfl,(),ag,q)
def adx:cD P base T 2 t.y_ t.GK lI (xO t 2):=by
 refine cK (Ox T) λAq=>?_;exists T.aas.ok aqY,9
 let(p,ak,d,rfl,az,ag,q):=h;refine(_,(a4 (dV (Io rfl T.Mm T.HN Aq ao T.PZ .nil cv (ah (J 0) (ah di (ah (J 1) (ah (J 2) (ah (J 3) (ah (J 4) (ah (J 5) (ah (J 6) aB))))))))))),?_);nofun;exact(p,ak,d,by rw[az];rfl,(),ag,q)
def xc(t:bO)(C:Addr):bW:=λvs H Q _=>∃p d,vs=[⇑p]/\e8 t H p d/\C=t.gx d.k/\Q (.int (n' d)) H
def xC(t:bO)(C:Addr):bW:=λvs H Q _=>∃p d,vs=[⇑p]/\e8 t H p d/\C=t.gx d.k/\Q (.int (bv d)) H
def aoJ:cD P base T 1 t.Ch t.NR ["self"] (xc t (t.gx 0)):=by
 exists T.YJ.ok asu,9
 let(p,d,rfl,W,cu,q):=h;have az:=(T.cw_inj ∅ W.1 cu).symm;refine(_,(a4 (cA aK)),?_);rw[show n' d=1 by unfold n';simp only[az]]at q;nofun;exact q
def an5:cD P base T 1 t.DS t.Oi ["self"] (xc t (t.gx 1)):=by
 exists T.Zp.ok adA,9
 let(p,d,rfl,W,cu,q):=h;have az:=(T.cw_inj ∅ W.1 cu).symm;refine(_,(a4 (cA aK)),?_);rw[show n' d=0 by unfold n';simp only[az]]at q;nofun;exact q
def aiR:cD P base T 1 t.Hs t.JO ["self"] (xc t (t.gx 2)):=by
 exists T.Q7.ok afk,9
 let(p,d,rfl,W,cu,q):=h;have az:=(T.cw_inj ∅ W.1 cu).symm;refine(_,(a4 (cA aK)),?_);rw[show n' d=2 by unfold n';simp only[az]]at q;nofun;exact q
theorem ZN(T:Txt w K mg t):nI P w K mg base dy 1 (sk t) "ready" ["self"] (xc t):=by
 refine⟨λC cu=>?_⟩;let(k,az,rfl):=cu
 match k,az with
 |0,_=>exact(_,_,T.E6,T.adt,aoJ T,T.agf)
 |1,_=>exact(_,_,T.Cn,T.am6,an5 T,T.anJ)
 |2,_=>exact(_,_,T.Dt,T.agt,aiR T,T.aj6)
def alE:cD P base T 1 t.D4 t.LZ ["self"] (xC t (t.gx 0)):=by
 exists T.R9.ok ahq,9
 let(p,d,rfl,W,cu,q):=h;have az:=(T.cw_inj ∅ W.1 cu).symm;refine(_,(a4 (cA aK)),?_);rw[show bv d=2 by unfold bv;simp only[az]]at q;nofun;exact q
def ar2:cD P base T 1 t.Dx t.Fk ["self"] (xC t (t.gx 1)):=by
 exists T.Xv.ok aiD,9
 let(p,d,rfl,W,cu,q):=h;have az:=(T.cw_inj ∅ W.1 cu).symm;refine(_,(a4 (cA (bA (J 0) rfl))),?_);rw[show bv d=d.off by unfold bv;simp only[az]]at q;nofun;exact(_,W.Ws T,q)
def aqH:cD P base T 1 t.DD t.LU ["self"] (xC t (t.gx 2)):=by
 exists T.U8.ok amN,9
 let(p,d,rfl,W,cu,q):=h;have az:=(T.cw_inj ∅ W.1 cu).symm;refine(_,(a4 (cA aK)),?_);rw[show bv d=1 by unfold bv;simp only[az]]at q;nofun;exact q
theorem Xa(T:Txt w K mg t):nI P w K mg base dy 1 (sk t) "fade" ["self"] (xC t):=by
 refine⟨λC cu=>?_⟩;let(k,az,rfl):=cu
 match k,az with
 |0,_=>exact(_,_,T.E6,T.am4,alE T,T.aqm)
 |1,_=>exact(_,_,T.Cn,T.anx,ar2 T,T.alI)
 |2,_=>exact(_,_,T.Dt,T.aff,aqH T,T.amw)
noncomputable def mD(c:Nat):List (List Nat)->List Nat
 |[]=>[]
 |[a]=>a
 |a::b::r=>a++c::mD c (b::r)
theorem VD{c:Nat}:∀{a b X Y:List Nat},c∉a->c∉b->a++c::X=b++c::Y->a=b/\X=Y
 |[],[],X,Y,_,_,h=>(rfl,(Ay h).2)
 |[],d::b,X,Y,_,U,h=>absurd (Ay h).1 (λz=>U (by simp[<- z]))
 |d::a,[],X,Y,aV,_,h=>absurd (Ay h).1 (λz=>aV (by simp[z]))
 |d::a,e::b,X,Y,aV,U,h=>by
  let(af,aj):=Ay h;let(aq,aA):=VD (λz=>aV (il _ z)) (λz=>U (il _ z)) aj;exact(by rw[af,aq],aA)
theorem UI{c:Nat}:∀{ps qs:List (List Nat)},(∀p∈ps,c∉p)->(∀q∈qs,c∉q)->ps≠[]->qs≠[]->mD c ps=mD c qs->ps=qs
 |[a],[b],_,_,_,_,h=>by rw[show a=b from h]
 |[a],b::nL::r,aV,_,_,_,h=>absurd (show c∈a by rw[show a=b++c::mD c (nL::r)from h];simp) (aV a (by simp))
 |a::uV::r,[b],_,U,_,_,h=>absurd (show c∈b by rw[show b=a++c::mD c (uV::r)from h.symm];simp) (U b (by simp))
 |a::uV::r,b::nL::s,aV,U,_,_,h=>by
  let(aq,aA):=VD (aV a (by simp)) (U b (by simp)) (show a++c::mD c (uV::r)=b++c::mD c (nL::s)from h);rw[aq,UI (λp ag=>aV p (il _ ag)) (λq ay=>U q (il _ ay)) (by simp) (by simp) aA]
 |[],_,_,_,h,_,_=>absurd rfl h
 |_::_,[],_,_,_,h,_=>absurd rfl h
theorem VP{c d:Nat}:∀{ps:List (List Nat)},d∈mD c ps->d=c\/∃p∈ps,d∈p
 |[],h=>nomatch h
 |[a],h=>.inr (a,by simp,h)
 | a::b::r,h=>by
  rcases ff.mp (show d∈a++c::mD c (b::r)from h)with h|h
  .exact .inr (a,by simp,h)
  .rcases e_.mp h with h|h
   .exact .inl h
   .rcases VP h with h|⟨p,ag,h⟩
    .exact .inl h
    .exact .inr (p,il _ ag,h)
theorem ti(c:Nat):∀ys:List Str,(eI ⟨#[c]⟩ ys).cps.toList=mD c (ys.map (·.cps.toList))
 |[]=>rfl
 |[a]=>rfl
 |a::b::r=>by
  show(a++⟨#[c]⟩++eI ⟨#[c]⟩ (b::r)).cps.toList=_;rw[mx,og,mx,og,ti c (b::r)];simp[mD]
def KB{x y:Str}(h:x.cps.toList=y.cps.toList):x=y:=by
 cases x;cases y;exact congrArg Str.mk (abD.mp h)
def Yz{c:Nat}(a0:ys≠[])(hf:∀y∈ys,c∉y.cps.toList):jq (eI ⟨#[c]⟩ ys) ⟨#[c]⟩=ys:=by
 have e:=congrArg (·.cps.toList) (StrLaws.join_split (eI ⟨#[c]⟩ ys) ⟨#[c]⟩);simp only[ti]at e;have aA:=UI (c:=c) (ps:=(jq (eI ⟨#[c]⟩ ys) ⟨#[c]⟩).map (·.cps.toList)) (qs:=ys.map (·.cps.toList)) (λp ag=>by
  let(y,aJ,rfl):=cj.mp ag;exact StrLaws.split_free _ c y aJ) (λp ag=>by
  let(y,aJ,rfl):=cj.mp ag;exact hf y aJ) (by simp[agq]) (by simpa using a0) e
 exact(List.map_inj_right λx y h=>KB h).mp aA
noncomputable abbrev num(v:Int):Str:=ab (toString v)
def asJ:∀n,n<1000->(decide (1<=↑((w' 10 n).map A0))&&decide (↑((w' 10 n).map A0)<=3)&&((w' 10 n).map A0).all od&&(decide (↑((w' 10 n).map A0)<=1)||decide (((w' 10 n).map A0).headD 0≠48)) &&
  decide (ZU ((w' 10 n).map A0)=n))=true:=∅
def DW(h0:0<=v)(af:v<1000):k1 (num v)=true/\val (num v)=v:=by
 have e:=apn v.toNat;rw[sa h0]at e;have a:=asJ v.toNat ();rw[<- e,jP,decide_eq_true_eq]at a;exact(a.1,by show((ZU (cs (num v)):Nat):Int)=v;rw[a.2];omega)
def r9{v lo ai:Int}(h0:0<=v)(af:v<1000)(aG:lo<=v)(dQ:v<=ai):j8 (num v) lo ai=.int v:=by
 let(a,b):=DW h0 af;unfold j8;rw[a,b,decide_eq_false (by omega:¬v<lo),decide_eq_false (by omega:¬ai<v)];rfl
def aoB(h0:0<=u)(af:u<1000)(aj:0<=v)(bb:v<1000)(e:num u=num v):u=v:=by
 rw[<- (DW h0 af).2,e,(DW aj bb).2]
def XQ(h0:0<=v)(af:v<1000):∀c∈(num v).cps.toList,48<=c/\c<=57:=λc aw=>by
 have:=oX.mp (anc (DW h0 af).1).2 c aw;simpa[od]using this
def acD:∀c∈kG.cps.toList,97<=c/\c<=122:=∅
def as2:∀k,k<26->97+k∈kG.cps.toList:=∅
def pd{x:Str}(h:made x kG 8=true):(1<=↑x/\↑x<=8)/\∀c∈x.cps.toList,97<=c/\c<=122:=by
 unfold made at h;split at h
 .cases h
 .rename_i af;split at h
  .cases h
  .rename_i aj;have bb:¬ ↑x=0:=λz=>af (DY.mpr z)
   refine((),λc aw=>?_);have:=oX.mp h c aw;rw[HT]at this;exact acD c (of_decide_eq_true this)
def asv{x:Str}(h0:1<=↑x)(af:↑x<=8)(h:∀c∈x.cps.toList,97<=c/\c<=122):made x kG 8=true:=by
 unfold made;rw[if_neg (λz=>by have:=DY.mp z;omega),if_neg ()];refine oX.mpr λc aw=>?_
 have:=h c aw;rw[HT];have e:=as2 (c-97) ();rw[show 97+(c-97)=c by omega]at e;exact decide_eq_true e
structure k9(n:Int)(d:bh):Prop where
 k:d.k<3
 nm:made d.name kG 8=true
 st:0<=d.start/\d.start<n
 gd:0<=d.fin/\d.fin<n
 ne:d.start≠d.fin
 of:0<=d.off/\d.off<=30
 Pn:0<=d.near/\d.near<=30
 le:1<=d.least/\d.least<=60
structure tW(n:Int)(ds:List bh):Prop where
 nn:2<=n/\n<=99
 ln:1<=↑ds/\↑ds<=12
 al:∀d∈ds,k9 n d
 aD:(ds.map (·.name)).Nodup
noncomputable def No(d:bh):List Str:=[e4 d.k,d.name,num d.start,num d.fin,num d.off,num d.near,num d.least]
noncomputable def jd(n:Int)(ds:List bh):List (List Str):=[ab "ring",num n]::ds.map No
noncomputable def rf(n:Int)(ds:List bh):Str:=eI nl ((jd n ds).map (eI c6))
def rx(x:Str):Prop:=↑x<=8/\(32:Nat)∉x.cps.toList/\(10:Nat)∉x.cps.toList
theorem W4(k:Nat):rx (e4 k):=by
 match k with
 |0=>exact(∅,∅,∅)
 |1=>exact(∅,∅,∅)
 |_+2=>exact(show ↑(ab "tram")<=8 by ac_nf,(∅:(32:Nat)∉(ab "tram").cps.toList),show(10:Nat)∉(ab "tram").cps.toList by ac_nf)
def mq(h0:0<=v)(af:v<1000):rx (num v):=
 (c9 (yB h0 ()) ∅,λz=>by have:=XQ h0 af _ z;omega,λz=>by have:=XQ h0 af _ z;omega)
def H4{x:Str}(h:made x kG 8=true):rx x:=
 ((pd h).1.2,λz=>by have:=(pd h).2 _ z;omega,λz=>by have:=(pd h).2 _ z;omega)
def k9.plain{n:Int}{d:bh}(h:k9 n d)(a0:n<=99):∀x∈No d,rx x:=λx ae=>by
 have af:=h.st;have aj:=h.gd;have bb:=h.of;have dt:=h.Pn;have fm:=h.le;simp only[No,e_,r1,or_false]at ae;rcases ae with rfl|rfl|rfl|rfl|rfl|rfl|rfl
 .exact W4 _
 .exact H4 h.nm
 .exact mq () ()
 .exact mq () ()
 .exact mq () ()
 .exact mq () ()
 .exact mq () ()
theorem tW.plain{n:Int}(h:tW n ds):∀r∈jd n ds,∀x∈r,rx x:=λr ao x ae=>by
 have a0:=h.nn;rcases e_.mp ao with rfl|ao
 .simp only[e_,r1,or_false]at ae;rcases ae with rfl|rfl
  .exact (∅,∅,∅)
  .exact mq () ()
 .let(d,hd,rfl):=cj.mp ao;exact(h.al d hd).plain a0.2 x ae
def Qx(h0:rs≠[])(af:∀r∈rs,r≠[])(aj:∀r∈rs,∀x∈r,rx x):ib (eI nl (rs.map (eI c6)))=rs:=by
 unfold ib;rw[api,Dm];rw[Yz (by simpa using h0) (λy aJ=>by
  let(r,ao,rfl):=cj.mp aJ;rw[ti];intro z;rcases VP z with z|⟨p,ag,z⟩
  .cases z
  .let(x,ae,rfl):=cj.mp ag;exact(aj r ao x ae).2.2 z)]
 rw[oN];have:∀r∈rs,((λr=>jq r ⟨#[32]⟩) ∘ eI ⟨#[32]⟩) r=r:=λr ao=>Yz (af r ao) λx ae=>(aj r ao x ae).2.1
 exact(Dy this).trans (List.map_id rs)
def amL{n:Int}(h:tW n ds):ib (rf n ds)=jd n ds:=Qx (by simp[jd]) (λr ao=>by
 rcases e_.mp ao with rfl|ao
 .simp
 .let(d,hd,rfl):=cj.mp ao;simp[No]) h.plain
theorem rv(sep:Str)(B:Nat):∀ys:List Str,(∀y∈ys,↑y<=B)->↑(eI sep ys)<=↑ys*(B+↑sep)
 |[],_=>by show ↑(Str.empty)<=_;exact e0 _
 |[a],h=>by
  have:=h a (by simp);show ↑a<=_;simp only[ih,yP];omega
 |a::b::r,h=>by
  have af:=h a (by simp);have aj:=rv sep B (b::r) λy aJ=>h y (il _ aJ)
  show ↑(a++sep++eI sep (b::r))<=_;rw[ql,ql,ih,aeH];omega
def aem{n:Int}(h:tW n ds):↑(rf n ds)<=1000:=by
 have af:∀y∈(jd n ds).map (eI c6),↑y<=63:=λy aJ=>by
  let(r,ao,rfl):=cj.mp aJ;have:=rv c6 8 r λx ae=>(h.plain r ao x ae).1
  rw[se]at this;have aG:↑r<=7:=by
   rcases e_.mp ao with rfl|ao
   .simp
   .let(d,hd,rfl):=cj.mp ao;simp[No]
  omega
 have aj:=rv nl 63 _ af;rw[Br]at aj;have bb:↑((jd n ds).map (eI c6))<=13:=by
  have:=h.ln;simp[jd];omega
 unfold rf;omega
abbrev ra:List Str:=[ab "row",ab "told",ab "place"]
noncomputable def nY(row:Int)(bc:Addr)(pl:Int):List (Str×V):=[(p'p (ab "row") (.int row)),(p'p (ab "told") (⇑bc)),(p'p (ab "place") (.int pl))]
def Bl(row:Int)(bc:Addr)(pl:Int):(nY row bc pl).map (·.1)=ra:=rfl
def adC(row:Int)(bc:Addr)(pl v:Int):c_ (ab "place") (.int v) (nY row bc pl)=nY row bc v:=by
 unfold nY;simp only[c_];rw[if_neg ∅,if_neg ∅];rfl
def dC(t:bO)(H:au)(p:Addr)(row:Int)(ws:List Str)(pl:Nat):Prop:=
 (↑ws<=1000/\∀x∈ws,↑x<=1000)/\∃ak bc,H p\(.ins t.hN ak (nY row bc pl))/\H bc\(.lst (a5 ws))
def c0(p:Addr)(H H':au):Prop:=∀b u,b≠p->H b\u->H' b\u
def c0.trans{p:Addr}(a:c0 p H H1)(b:c0 p H1 ar):c0 p H ar:=λc u n e=>b c u n (a c u n e)
def c0.of{p:Addr}(a:aS H H1):c0 p H H1:=λc u _ e=>a c u e
def c0.put{p:Addr}:c0 p H (upd H p o):=λc u n e=>by rw[ax n];exact e
def lc(ws:List Str):↑(a5 ws)=↑ws:=by unfold a5;rw[aO]
def uI{ws:List Str}{i:Nat}{x:Str}(h:ws[i]?\x):(a5 ws)[i]?\(.str x):=by unfold a5;rw[dF,h];rfl
def B2(ws:List Str):(a5 ws).all l7=true:=by unfold a5;simp[l7]
def CG(x:Str)(xs:List Str):xM (.str x) (a5 xs)=decide (x∈xs):=by
 unfold xM a5;rw[ae1,m3];simp only[uB,Function.comp,kJ,beq_iff_eq,decide_eq_true_eq];constructor
 .intro (y,aJ,rfl);exact aJ
 .intro h;exact(x,h,rfl)
section
variable{w:World}{K:bg}{mg:Str->Option Value}{t:bO}{H H':au}{p:Addr}{row:Int}{ws:List Str}{pl:Nat}
def dC.same(h:dC t H p row ws pl)(s:aS H H'):dC t H' p row ws pl:=by
 let(aH,ak,bc,aq,aA):=h;exact(aH,ak,bc,s _ _ aq,s _ _ aA)
def dC.yF{q:Addr}(h:dC t H p row ws pl)(s:c0 q H H')(n:p≠q)(k:∃C ak aT,H q\(.ins C ak aT)):dC t H' p row ws pl:=by
 let(aH,ak,bc,aq,aA):=h;let(C,CQ,aT,bG):=k;exact(aH,ak,bc,s _ _ n aq,s _ _ (bI aA bG (by intro z;cases z)) aA)
theorem dC.ins(h:dC t H p row ws pl):∃C ak aT,H p\(.ins C ak aT):=by
 let(aH,ak,bc,aq,aA):=h;exact(_,_,_,aq)
def dC.no(row:Int)(bc:Addr)(pl:Int)(h:ra.contains m=false):(nY row bc pl).lookup m=none:=w2 ra (Bl ..) h
def IJ(T:Txt w K mg t)(e:H p\(.ins t.hN ak (nY row bc pl))):fH K H p (ab "place") (.int pl):=
 (_,ak,_,e,T.gJ,T.Ko,gb ra 2 (Bl ..) ∅ rfl)
def NN(T:Txt w K mg t)(e:H p\(.ins t.hN ak (nY row bc pl))):fH K H p (ab "told") ⇑bc:=
 (_,ak,_,e,T.gJ,T.R2,gb ra 1 (Bl ..) ∅ rfl)
end
def Xx(t:bO):bW:=λvs H Q _=>∃(p ak bc:Addr) (row:Int),vs=[⇑p,.int row,⇑bc]/\H p\(.ins t.hN ak [])/\Q .b5 (upd H p (.ins t.hN ak (nY row bc 0)))
def ai7(t:bO):bW:=λvs H Q _=>∃p row ws pl,vs=[⇑p]/\dC t H p row ws pl/\pl<=↑ws/\Q (.str (ws.getD pl (ab ""))) H
def aju(t:bO):bW:=λvs H Q _=>∃p row ws pl,vs=[⇑p]/\dC t H p row ws pl/\Q (.bC (decide (pl<↑ws))) H
def Lw(t:bO)(H:au)(p:Addr)(row:Int)(ws:List Str)(pl:Nat)(R:au->Prop):Prop:=∀H',c0 p H H'->(aI H->aI H')->dC t H' p row ws pl->R H'
def anA(t:bO):bW:=λvs H Q _=>∃p row ws pl,vs=[⇑p,.bC true]/\dC t H p row ws pl/\Lw t H p row ws (pl+1) (Q .b5)
def asb(K:bg)(t:bO):bW:=λvs H Q _=>∃p row ws pl x c xs,vs=[⇑p,⇑c]/\dC t H p row ws pl/\ws[pl]?\x/\aE K H c (a5 xs)/\x∈xs/\Lw t H p row ws (pl+1) (Q (.str x))
def aoe(t:bO):bW:=λvs H Q _=>∃p row ws pl x lo ai v,vs=[⇑p,.int lo,.int ai]/\dC t H p row ws pl/\ws[pl]?\x/\j8 x lo ai=.int v/\aI H/\Lw t H p row ws (pl+1) (Q (.int v))
def afj(t:bO):bW:=λvs H Q _=>∃p row ws pl,vs=[⇑p]/\dC t H p row ws pl/\pl=↑ws/\Q .b5 H
def GT:cD P base T 1 t.zf t.GI AM (Xx t):=by
 exists T.bn.ok Go,9
 let(p,ak,bc,row,rfl,ag,q):=h;refine(_,(aP (e6 (J 0) (J 1) rfl)
   (aP (e6 (J 0) (J 2) rfl)
   (a4 (e6 (J 0) aK rfl)))),?_)
 nofun;refine(_,_,_,ag,T.gJ,T.ahy,∅,?_);refine(_,_,_,aM,T.gJ,T.R2,h5 (n:=999) ∅,?_);refine(_,_,_,aM,T.gJ,T.Ko,h5 (n:=999) (h5 (n:=998) ∅),?_);simp only[vB];rw[show c_ (ab "row") (V.int row) ([]:List (Str×V))=[(p'p (ab "row") (V.int row))]from gf [] rfl ∅,
  show c_ (ab "told") (V.ref bc) ([(p'p (ab "row") (V.int row))]:List (Str×V))=[(p'p (ab "row") (V.int row)),(p'p (ab "told") (V.ref bc))]from gf [ab "row"] rfl ∅,
  show c_ (ab "place") (V.int 0) ([(p'p (ab "row") (V.int row)),(p'p (ab "told") (V.ref bc))]:List (Str×V))=[(p'p (ab "row") (V.int row)),(p'p (ab "told") (V.ref bc)),(p'p (ab "place") (V.int 0))]from gf [ab "row",ab "told"] rfl ∅]
 exact q
def B6:cD P base T 1 t.F_ t.Jd ["self"] (ai7 t):=by
 exists T.aaW.ok aey,9
 let(p,row,ws,pl,rfl,(aH,ak,bc,aq,aA),hle,q):=h;refine(_,(aP (d5 (dk wf (bA (J 0) rfl) (gC jn rfl T.ul je (ah (bA (J 0) rfl) aB)) (cL _)) (a4 (cA di)) eV)
   (a4 (cA (b7 dI (bA (J 0) rfl) (bA (J 0) rfl))))),?_)
 nofun;refine d8 (decide ((pl:Int)=(↑ws:Int))) (λQ a9=>?_) (λc=>?_) (λc=>?_)
 .nofun;refine(_,IJ T aq,_,NN T aq,_,rfl,_,.inl (aE.of aA),rfl,?_);rw[lc];nofun;exact a9
 .nofun;have c':pl=↑ws:=by have:=of_decide_eq_true c;omega
  rw[show ws.getD pl (ab "")=ab "" by rw[k5,Tq ()];rfl]at q;exact q
 .nofun;have c':pl<↑ws:=by have:=of_decide_eq_false c;omega
  have ae:ws[pl]?\ws[pl]:=bq c';rw[k5,ae]at q;exact(_,NN T aq,_,IJ T aq,_,rfl,_,_,rfl,aE.of aA,_,cf (uI ae),q)
def U':cD P base T 1 t.E3 t.J9 ["self"] (aju t):=by
 exists T.U7.ok io,9
 let(p,row,ws,pl,rfl,(aH,ak,bc,aq,aA),q):=h;refine(_,(a4 (cA (iz nt (bA (J 0) rfl) (gC jn rfl T.ul je (ah (bA (J 0) rfl) aB)) (cL _)))),?_);nofun;have e:decide (pl<↑ws)=decide ((pl:Int)<(↑ws:Int)):=by rw[m3];simp
 rw[e]at q;refine(_,IJ T aq,_,NN T aq,_,rfl,_,.inl (aE.of aA),?_);rw[lc];exact(_,rfl,q)
def N5:cD P base T 1 t.Ez t.Re Er (anA t):=by
 exists T.WZ.ok adn,9
 let(p,row,ws,pl,rfl,(aH,ak,bc,aq,aA),q):=h;refine(_,(aP (d5 (uL (pM (J 1))) (a4 qK) eV)
   (a4 (Bs (J 0) aK xX))),?_)
 nofun;refine d8 false (λQ a9=>?_) (λaw=>nomatch aw) (λ_=>?_)
 .nofun;exact a9
 .nofun;refine⟨_,_,_,aq,T.gJ,T.Ko,_,gb ra 2 (Bl ..) ∅ rfl,_,rfl,_,_,aq,by rw[<- aO (f:=(·.1)),Bl];decide,?_⟩;rw[adC];exact q _ c0.put (λn=>n.upd) (aH,ak,bc,aM,by rw[ax (bI aA aq (by intro z;cases z))];exact aA)
def Dv:cD P base T 2 t.FH t.PJ Nk (asb K t):=by
 refine cK (B6 T) λui=>cK (N5 T) λA_=>?_;exists T.Wk.ok Z8,9
 let(p,row,ws,pl,x,c,xs,rfl,R,ae,aw,hm,q):=h;refine(_,(aP (b9 (i:=2) Z8.aD (g0 (J 0) T.gJ T.Gm ui ao T.DL .nil cv))
   (aP (dV (eO (J 0) T.gJ T.Mp A_ ao T.Jl .nil cv (ah (iz O' (J 2) (J 1) (by with_unfolding_all rfl)) aB)))
   (a4 (cA (J 2))))),?_)
 have et:pl<↑ws:=(b3.mp ae).1;have bj:ws.getD pl (ab "")=x:=by rw[k5,ae];rfl
 let(_,ak,bc,aq,aA):=id R;nofun;refine(_,_,aq,dC.no _ _ _ ∅,(p,row,ws,pl,rfl,R,(),?_));rw[bj];nofun;refine(_,_,aq,dC.no _ _ _ ∅,_,.inl aw,rfl,B2 xs,?_);rw[CG,decide_eq_true hm];refine(p,row,ws,pl,rfl,R,λH' s1 s2 s3=>?_);nofun;exact q H' s1 s2 s3
def GD:cD P base T 4 t.Hb t.Je Nt (aoe t):=by
 refine cK (B6 T) λui=>cK (N5 T) λA_=>cK (aqP T) λajW=>?_;exists T.RI.ok ZV,9
 let(p,row,ws,pl,x,lo,ai,v,rfl,R,ae,aQ,bH,q):=h;refine(_,(aP (b9 (i:=3) ZV.aD (cJ ajW ao T.ajn T.Ii.bM T.aqG (ah (g0 (J 0) T.gJ T.Gm ui ao T.DL .nil cv) (ah (J 1) (ah (J 2) aB)))))
   (aP (dV (eO (J 0) T.gJ T.Mp A_ ao T.Jl .nil cv (ah (iz YH (J 3) uo (cL _)) aB)))
   (a4 (cA (J 3))))),?_)
 have et:pl<↑ws:=(b3.mp ae).1;have bj:ws.getD pl (ab "")=x:=by rw[k5,ae];rfl
 let(aH,ak,bc,aq,aA):=id R;nofun;refine(_,_,aq,dC.no _ _ _ ∅,(p,row,ws,pl,rfl,R,(),?_));rw[bj];nofun;refine(x,lo,ai,rfl,aH.2 x (ct ae),bH,?_);rw[aQ];nofun;refine(_,_,aq,dC.no _ _ _ ∅,?_);refine(p,row,ws,pl,rfl,R,λH' s1 s2 s3=>?_);nofun;exact q H' s1 s2 s3
def TC:cD P base T 2 t.Hn t.Ke ["self"] (afj t):=by
 refine cK (U' T) λQc=>?_;exists T.Vz.ok aqr,9
 let(p,row,ws,pl,rfl,R,aG,q):=h;let(aH,ak,bc,aq,aA):=id R;refine(_,(a4 (d5 (pM (g0 (J 0) T.gJ T.Pi Qc ao T.YO .nil cv)) (a4 qK) eV)),?_);nofun;refine d8 false (λQ a9=>?_) (λaw=>nomatch aw) (λ_=>?_)
 .nofun;refine(_,_,aq,dC.no _ _ _ ∅,(p,row,ws,pl,rfl,R,?_));rw[decide_eq_false ()];exact(_,rfl,a9)
 .nofun;exact q
noncomputable abbrev aF(ws:List Str)(k:Nat):Str:=ws.getD k (ab "")
def Ny{k:Nat}(h:aF ws k≠ab ""):k<↑ws:=by
 refine Classical.byContradiction λz=>h ?_
 unfold aF;rw[k5,Tq ()];rfl
def am5(w:Str)(lo ai:Int):(∃v,j8 w lo ai=.int v/\lo<=v/\v<=ai/\w≠ab "")\/j8 w lo ai=.b5:=by
 unfold j8;split
 .rename_i h;rw[jP]at h;refine .inl (val w,rfl,?_,?_,λz=>?_)
  .have:=h.2;simp at this;omega
  .have:=h.2;simp at this;omega
  .have af:=h.1;rw[z]at af;exact absurd af ∅
 .exact .inr rfl
def al0(x:Str):Prop:=↑x<=1000/\∀c∈x.cps.toList,c<16 ^ 8
noncomputable def jh(ds:List bh)(x:Str):Option bh:=ds.find? λd=>decide (d.name=x)
def zN{w:World}{K:bg}{mg:Str->Option Value}{base:Heap}{j k:Nat}(V:nI P w K mg base CX j nF m ps nJ)(h:j<=k):nI P w K mg base CX k nF m ps nJ:=⟨λC cu=>by
 let(f,fd,af,aj,bb,dt):=V.ok C cu;exact(f,fd,af,aj,bb.mono h,dt)⟩
noncomputable def lO(x:Str)(lo ai:Int):Option Int:=if k1 x && !(decide (val x<lo)||decide (ai<val x))then some (val x)else none
def M9(x:Str)(lo ai:Int):j8 x lo ai=(lO x lo ai).elim .b5 .int:=by
 unfold j8 lO;split <;> rfl
theorem ZQ{x:Str}{lo ai v:Int}(h:j8 x lo ai=.int v):lO x lo ai\v:=by
 rw[M9]at h;cases e:lO x lo ai with
 |none=>rw[e]at h;cases h
 |some u=>rw[e]at h;injection h with h;rw[h]
def MD{k:Nat}{lo ai v:Int}(h:j8 (aF ws k) lo ai=.int v):k+1<=↑ws/\lo<=v/\v<=ai:=by
 rcases am5 (aF ws k) lo ai with⟨u,bp,af,aj,bb⟩|a0
 .rw [bp]at h;injection h with h;subst h;exact(Ny bb,af,aj)
 .rw [a0]at h;cases h
theorem j4{l:List α}{a x:α}(h:(l++[a])[i]?\x):(i<↑l/\l[i]?\x)\/(i=↑l/\x=a):=by
 by_cases ai:i<↑l
 .rw [nD ai]at h;exact .inl (ai,h)
 .rw[nj ()]at h;have h0:i-↑l=0:=by
   cases dQ:i-↑l with
   |zero=>rfl
   |succ m=>rw[dQ]at h;simp at h
  rw[h0]at h;exact .inr ((),(by simpa using h:a=x).symm)
def zv{k:Nat}(h:k<↑ws):ws[k]?\(aF ws k):=by
 unfold aF;rw[k5,bq h];rfl
theorem b_{α β:Type}{f:α->β}{l:List α}{i:Nat}{y:β}(h:(l.map f)[i]?\y):∃x,l[i]?\x/\y=f x:=by
 rw[dF]at h;cases e:l[i]? with
 |none=>rw[e]at h;cases h
 |some x=>rw[e]at h;exact(x,rfl,(dZ h).symm)
def ahw(t:bO)(bU H:au)(p:Addr)(rows:List (List Str)):Prop:=∃qs:List Addr,H p\(.lst (qs.map V.ref))/\bU p=none/\↑qs=↑rows/\∀(i:Nat) (q:Addr) (r:List Str),qs[i]?\q->rows[i]?\r->dC t H q i r 0/\bU q=none
def Nr(t:bO):bW:=λvs H Q _=>∃x,vs=[.str x]/\↑x<=20000/\(∀r∈ib x,↑r<=1000/\∀y∈r,↑y<=1000)/\aI H/\∀p H',aS H H'->aI H'->ahw t H H' p (ib x)->Q ⇑p H'
theorem TN:cD P base T 3 t.AN t.y0 ["text"] (Nr t):=by
 have ad0:cz P w K mg base dy 2 t.EI t.Ew ["text"] abb:=(apx T).mono ∅;have ahN:cz P w K mg base dy 1 t.zf t.GI AM (Xx t):=GT T;exists T.BS.ok af',9
 let(x,rfl,aH,xv,bH,q):=h;refine(_,(a4 (cA (h_ rfl (Gu rfl T.G9 (ah (cJ ad0 ao T.aqS T.LF.bM T.ajH (ah (J 0) aB)) aB)) (Gc (sc:=bD (top 25)) rfl ∅) (N:=["row","told"]) (sel:=[none,none]) (g_ (M:=["text"]) ∅) (fT.of (λ_ _ _ _=>(mw (K:=K) (n:=2) rfl rfl (fJ (cy (i:=0) (eZ (N:=["row","told"]) ∅ rfl)) (fJ (cy (i:=1) (eZ (N:=["row","told"]) ∅ rfl)) mS)))) (λ_ _ _ _=>(_,i',by walk_at "B")) (λ_ _ _ _=>(_,(s7 T.aqe ahN ao rfl T.aiE T.akX .nil cv (ah (J 0) (ah (J 1) aB))),by walk_at "B")))))),?_);nofun;refine(x,rfl,aH,bH,λp H1 nX kv ⟨ps,ag,gv,h8,cE,q8⟩=>?_);nofun;refine((_,aE.of ag),?_);have hlen:↑ps<=sizeLine:=by
  rw[cE];unfold ib;rw[aO];have:=Kv (x:=x) (y:=nl) (by rw[Br];exact b1 _);exact c9 (show _<=40000 by omega) ∅
 refine dB.enum (xs:=ps.map V.ref) (λi ys ar=>aS H1 ar/\aI ar/\∃qs:List Addr,ys=qs.map V.ref/\↑qs=i/\∀(j:Nat) (q:Addr) (r:List Str),qs[j]?\q->(ib x)[j]?\r->dC t ar q j r 0/\H1 q=none)
  (by rw[aO];exact hlen) (aS.refl H1,kv,[],rfl,rfl,λj q r h _=>by simp at h) ?_ ?_ ?_
 .rintro i ys ar ai bl;ac_rfl
  let(s2,b',qs,rfl,ay,_):=bl;subst aW;exact(aE.of (s2 _ _ ag),by rw[aO];omega)
 .rintro i v ys ar dY aQ ⟨s2,b',qs,rfl,ay,al⟩ g4 N bw;rw[dF]at aQ;cases Cy:ps[i]? with
  |none=>rw[Cy]at aQ;cases aQ
  | some pi=>
   rw[Cy]at aQ;have e:=(dZ aQ).symm;subst e;refine D0 ?_;nofun;refine(Sub.afx,λa ak aV hd bX=>?_);refine(a,ak,pi,i,rfl,aM,rfl,?_);rw[vB];have s3:aS ar (upd (upd (upd ar dY (.tup [.int i,⇑pi])) ak (.own a)) a (.ins t.hN ak (nY i pi 0))):=by
    have s':aS ar (upd ar dY (.tup [.int i,⇑pi])):=bk g4;exact((aS.trans s' (bk hd)).gW (s'.free aV))
   let(r,ao):∃r,(ib x)[i]?\r:=((ib x)[i]'(by rw[<- cE];exact(b3.mp Cy).1),bq _);have adu:ar a=none:=(bk g4).free aV;refine bw _ _ (s2.trans s3,((b'.upd).upd).upd,qs++[a],by rw[fg];rfl,by rw[dx,ay];rfl,λj cW d7 af aj=>?_);by_cases aN:j<↑qs
   .rw [nD aN]at af;let(gj,ew):=al j cW d7 af aj;exact(gj.same s3,ew)
   .rw[nj ()]at af;have rP:j-↑qs=0:=by
     cases dQ:j-↑qs with
     |zero=>rfl
     |succ n=>rw[dQ]at af;simp at af
    rw[rP]at af;have bG:a=cW:=by simpa using af
    subst bG;have eM:j=i:=()
    subst eM;rw[ao]at aj;cases aj;refine((xv r (ct ao),ak,pi,aM,?_),s2.free adu);exact s3 _ _ (s2 _ _ (q8 j pi r Cy ao).1)
 .intro ys ar (s2,b',qs,rfl,ay,al) dY g4;refine q dY _ ((nX.trans s2).gW ((nX.trans s2).free g4)) (b'.upd) (qs,aM,(nX.trans s2).free g4,by rw[ay,aO,cE],λi cW r af aj=>?_);let(gj,ew):=al i cW r af aj;exact(gj.same (bk g4),nX.free ew)
def ah_(q:Addr)(H:au)(R:au->Prop):Prop:=∀H',c0 q H H'->aI H'->R H'
def Q2(t:bO):bW:=λvs H Q _=>∃q row n,vs=[⇑q]/\dC t H q row [ab "ring",num n] 0/\(2<=n/\n<=99)/\aI H/\ah_ q H (Q (.int n))
def On(t:bO)(H:au)(wl:Addr)(ds:List bh):Prop:=∃as:List Addr,H wl\(.lst (as.map V.ref))/\↑as=↑ds/\∀(i:Nat) (a:Addr) (d:bh),as[i]?\a->ds[i]?\d->e8 t H a d
def afM(t:bO):bW:=λvs H Q _=>∃q row ws pl wl ds x,vs=[⇑q,⇑wl]/\dC t H q row ws pl/\ws[pl]?\x/\made x kG 8=true/\On t H wl ds/\↑ds<=12/\(∀d∈ds,d.name≠x)/\aI H /\
 ∀H',c0 q H H'->aI H'->dC t H' q row ws (pl+1)->Q (.str x) H'
def adF(t:bO):bW:=λvs H Q _=>∃q row ws pl n st gd,vs=[⇑q,.int n,.int st]/\dC t H q row ws pl/\ws[pl]?\(num gd)/\(0<=st/\st<n)/\(0<=gd/\gd<n)/\st≠gd/\n<=99/\aI H /\
 ∀H',c0 q H H'->aI H'->dC t H' q row ws (pl+1)->Q (.int gd) H'
def asE(t:bO):bW:=λvs H Q _=>∃d:bh,vs=[.str (e4 d.k),.str d.name,.int d.start,.int d.fin,.int d.off,.int d.near,.int d.least]/\d.k<3/\∀x H',aS H H'->(aI H->aI H')->e8 t H' x d->H x=none->Q ⇑x H'
def Yo(t:bO):bW:=λvs H Q _=>∃q row n wl ds d,vs=[⇑q,.int n,⇑wl]/\dC t H q row (No d) 0/\k9 n d/\(2<=n/\n<=99)/\On t H wl ds/\↑ds<=12/\(∀e∈ds,e.name≠d.name)/\aI H /\
 ∀x H',c0 q H H'->aI H'->e8 t H' x d->H x=none->Q ⇑x H'
def On.yF{t:bO}{q wl:Addr}(h:On t H wl ds)(s:c0 q H H')(r:dC t H q row ws pl):On t H' wl ds:=by
 let(as,aq,aA,al):=h;let(aH,ak,bc,bG,eM):=r;refine(as,s _ _ (bI aq bG (by intro z;cases z)) aq,aA,λi a d af aj=>?_);let(az,hG,gk):=al i a d af aj;refine(az,hG,s _ _ (λz=>?_) gk);subst z;rw[gk]at bG;have ez:=dZ bG;injection ez with _ _ k';have lE:(7:Nat)=3:=congrArg sj k';omega
theorem On.same{t:bO}(h:On t H wl ds)(s:aS H H'):On t H' wl ds:=by
 let(as,aq,aA,al):=h;exact(as,s _ _ aq,aA,λi a d af aj=>(al i a d af aj).same s)
def amd:cD P base T 5 t.Es t.Fw ["reader"] (Q2 t):=by
 refine cK (Dv T) λrZ=>cK (GD T) λoT=>cK (TC T) λOD=>?_;exists T.Jf.ok Su,9
 let(q,row,n,rfl,R,a0,bH,lr):=h;refine(_,(aP (dV (eO (J 0) T.gJ T.zr rZ ao T.yM .nil cv (ah (f_ (ah di aB)) aB)))
   (aP (b9 (i:=1) Su.aD (eO (J 0) T.gJ T.r8 oT ao T.sU .nil cv (ah (nd rfl T.an' T.an4) (ah (nd rfl T.aof T.arH) aB))))
   (aP (dV (g0 (J 0) T.gJ T.XC OD ao T.QQ .nil cv))
   (a4 (cA (J 1)))))),?_)
 let(_,ak,bc,aq,aA):=id R;nofun;refine(_,_,aq,dC.no _ _ _ ∅,∅,λp ag=>?_);have s0:aS H (upd H p (.lst [V.str (ab "ring")])):=bk ag;refine(q,row,_,0,ab "ring",p,[ab "ring"],rfl,R.same s0,rfl,aE.of aM,by simp,λH1 s1 b8 la=>?_);let(_,Og,S3,f1,f2):=id la;nofun;refine(_,_,f1,dC.no _ _ _ ∅,?_);have kv:=b8 bH.upd;refine(q,row,_,1,num n,2,99,n,rfl,la,rfl,r9 () () a0.1 a0.2,kv,λar s2 b' fq=>?_);let(_,wu,Lr,g1,g2):=id fq;nofun;refine(_,_,g1,dC.no _ _ _ ∅,?_);refine(q,row,_,2,rfl,fq,rfl,?_);nofun;exact lr ar (((c0.of s0).trans s1).trans s2) (b' kv)
def apv:cD P base T 3 t.Qj t.Pa IZ (afM t):=by
 refine cK (B6 T) λui=>cK (N5 T) λA_=>cK (ajF T) λadp=>?_;exists T.Kh.ok SI,9
 let(q,row,ws,pl,wl,ds,x,rfl,R,ae,hm,gV,e3,wZ,bH,lr):=h;refine(_,(aP (b9 (i:=2) SI.aD (g0 (J 0) T.gJ T.Gm ui ao T.DL .nil cv))
   (aP (dV (eO (J 0) T.gJ T.Mp A_ ao T.Jl .nil cv (ah (xm (cJ adp ao T.anS T.HD.bM T.agC (ah (J 2) aB)) (vr (iz P5 (J 2) (h_ rfl (eQ (J 1)) (Gc (sc:=bD (top 59)) rfl ∅) (N:=["way"]) (sel:=[none]) (g_ (M:=["reader","ways","name"]) ∅) (fT.of (λ_ _ _ _=>(cy (i:=0) (eZ (N:=["way"]) ∅ rfl))) (λ_ _ _ _=>(_,i',by walk_at "B")) (λ_ _ _ _=>(_,(bA (J 0) rfl),by walk_at "B")))) (by with_unfolding_all rfl)))) aB)))
   (a4 (cA (J 2))))),?_)
 have et:pl<↑ws:=(b3.mp ae).1;have bj:ws.getD pl (ab "")=x:=by rw[k5,ae];rfl
 let(aH,ak,bc,aq,aA):=id R;nofun;refine(_,_,aq,dC.no _ _ _ ∅,(q,row,ws,pl,rfl,R,(),?_));rw[bj];nofun;refine(_,_,aq,dC.no _ _ _ ∅,?_);refine(x,rfl,aH.2 x (ct ae),bH,?_);rw[hm];nofun;let(as,dp,ef,al):=gV;refine((_,aE.of dp),?_);have hle:↑(as.map V.ref)<=sizeLine:=by rw[aO,ef];exact c9 e3 ∅
 refine dB.nr (xs:=as.map V.ref) (zs:=ds.map λd=>V.str d.name) (aE.of dp) hle (by rw[aO,aO,ef]) (λi v z N aQ g9 bw=>?_) (λp ag=>?_)
 .let(a,aV,rfl):=b_ aQ;let(d,hd,rfl):=b_ g9;nofun;exact(Sub.name,_,(al i a d aV hd).K3 T,bw)
 .nofun;have gp:(ds.map λd=>V.str d.name)=a5 (ds.map (·.name)):=by unfold a5;rw[oN];rfl
  rw[gp];refine(_,.inl (aE.of aM),rfl,B2 _,?_);rw[CG,decide_eq_false (λz=>by
   let(d,hd,e):=cj.mp z;exact wZ d hd e)]
  have s0:aS H (upd H p (.lst (a5 (ds.map (·.name))))):=bk ag;exact(q,row,ws,pl,rfl,R.same s0,λH' s1 b8 la=>lr H' ((c0.of s0).trans s1) (b8 bH.upd) la)
def akz:cD P base T 5 t.Qg t.L6 CU (adF t):=by
 refine cK (B6 T) λui=>cK (GD T) λoT=>?_;exists T.IY.ok aiG,9
 let(q,row,ws,pl,n,st,gd,rfl,R,ae,g7,O7,bX,a0,bH,lr):=h;refine(_,(aP (d5 (dk wf (g0 (J 0) T.gJ T.Gm ui ao T.DL .nil cv) (k8 yK rfl T.ze Cl (ah (J 2) aB)) (cL _)) (a4 qK) eV)
   (a4 (cA (eO (J 0) T.gJ T.r8 oT ao T.sU .nil cv (ah aK (ah (bQ mE (J 1) aK) aB)))))),?_)
 have et:pl<↑ws:=(b3.mp ae).1;have bj:ws.getD pl (ab "")=num gd:=by rw[k5,ae];rfl
 let(aH,ak,bc,aq,aA):=id R;nofun;refine d8 false (λQ a9=>?_) (λaw=>nomatch aw) (λ_=>?_)
 .nofun;refine(_,_,aq,dC.no _ _ _ ∅,(q,row,ws,pl,rfl,R,(),?_));rw[bj];nofun;refine(KU (),?_);rw[decide_eq_false (λz=>bX (aoB () () () () z).symm)];exact a9
 .nofun;refine(_,_,aq,dC.no _ _ _ ∅,(q,row,ws,pl,num gd,0,n-1,gd,rfl,R,ae,r9 () () () (),bH,λH1 s1 b8 la=>?_));exact lr H1 s1 (b8 bH) la
def ae4{t:bO}{x ak:Addr}{d:bh}(ae:H x=none)(hd:H ak=none)(az:d.k<3) :
  aS H (upd (upd (upd H ak (.own x)) x (.ins (t.gx d.k) ak [])) x (.ins (t.gx d.k) ak (pS d)))/\(aI H->aI (upd (upd (upd H ak (.own x)) x (.ins (t.gx d.k) ak [])) x (.ins (t.gx d.k) ak (pS d)))) /\
   e8 t (upd (upd (upd H ak (.own x)) x (.ins (t.gx d.k) ak [])) x (.ins (t.gx d.k) ak (pS d))) x d:=
 ((((aS.refl H).gW hd).gW ae).gW ae,λn=>((n.upd).upd).upd,az,ak,aM)
theorem apY:cD P base T 4 t.H_ t.Me Gl (asE t):=by
 have amj:cz P w K mg base dy 2 t.Bm t.Gf lI (xO t 0):=abX T;have aiJ:cz P w K mg base dy 2 t.Ai t.Dj lI (xO t 1):=agv T;have acG:cz P w K mg base dy 2 t.y_ t.GK lI (xO t 2):=adx T;exists T.ON.ok ajy,9
 let(d,rfl,az,q):=h;refine(_,(aP (d5 (dk wf (J 0) di (cL _)) (a4 (cA (s7 T.arx amj ao rfl T.arR T.ajw .nil cv (ah (J 1) (ah (J 2) (ah (J 3) (ah (J 4) (ah (J 5) (ah (J 6) aB))))))))) eV)
   (aP (d5 (dk wf (J 0) di (cL _)) (a4 (cA (s7 T.anv aiJ ao rfl T.agi T.aqV .nil cv (ah (J 1) (ah (J 2) (ah (J 3) (ah (J 4) (ah (J 5) (ah (J 6) aB))))))))) eV)
   (a4 (cA (s7 T.GM acG ao rfl T.acj T.aiI .nil cv (ah (J 1) (ah (J 2) (ah (J 3) (ah (J 4) (ah (J 5) (ah (J 6) aB))))))))))),?_)
 have fin:∀(x ak:Addr),H x=none->H ak=none->Q ⇑x (upd (upd (upd H ak (.own x)) x (.ins (t.gx d.k) ak [])) x (.ins (t.gx d.k) ak (pS d))):=λx ak ae hd=>by
  let(iJ,iQ,mY):=ae4 (t:=t) (d:=d) ae hd az;exact q x _ iJ iQ mY ae
 let(k,name,start,gd,off,near,least):=d
 match k,az with
 |0,_=>
  (nofun; repeat (dsimp only[e4];nofun));refine d8 true (λQ a9=>?_) (λ_=>?_) (λaw=>nomatch aw)
  .nofun;exact a9
  .nofun;exact λx ak ae hd bX=>(x,ak,(0,name,start,gd,off,near,least),rfl,rfl,aM,rfl,fin x ak ae hd)
 | 1,_=>
  (nofun; repeat (dsimp only[e4];nofun));refine d8 false (λQ a9=>?_) (λaw=>nomatch aw) (λ_=>?_)
  .nofun;rw[decide_eq_false ∅];exact a9
  .nofun;refine d8 true (λQ a9=>?_) (λ_=>?_) (λaw=>nomatch aw)
   .nofun;exact a9
   .nofun;exact λx ak ae hd bX=>(x,ak,(1,name,start,gd,off,near,least),rfl,rfl,aM,rfl,fin x ak ae hd)
 | 2,_=>
  (nofun; repeat (dsimp only[e4];nofun));refine d8 false (λQ a9=>?_) (λaw=>nomatch aw) (λ_=>?_)
  .nofun;rw[decide_eq_false ∅];exact a9
  .nofun;refine d8 false (λQ a9=>?_) (λaw=>nomatch aw) (λ_=>?_)
   .nofun;rw[decide_eq_false ∅];exact a9
   .nofun;exact λx ak ae hd bX=>(x,ak,(2,name,start,gd,off,near,least),rfl,rfl,aM,rfl,fin x ak ae hd)
theorem af7:cD P base T 6 t.Hd t.EW Fd (Yo t):=by
 refine cK (Dv T) λrZ=>cK (GD T) λoT=>cK (TC T) λOD=>cK (apv T) λamJ=>cK (akz T) λafP=>cK (apY T) λai6=>?_;exists T.OK.ok su,9
 let(q,row,n,wl,ds,d,rfl,R,hd,a0,gV,e3,wZ,bH,lr):=h;refine(_,(aP (b9 (i:=3) su.aD (eO (J 0) T.gJ T.zr rZ ao T.yM .nil cv (ah (f_ (ah di (ah di (ah di aB)))) aB)))
   (aP (b9 (i:=4) su.aD (cJ amJ ao T.ae0 T.Kh.bM T.amO (ah (J 0) (ah (J 2) aB))))
   (aP (b9 (i:=5) su.aD (eO (J 0) T.gJ T.r8 oT ao T.sU .nil cv (ah aK (ah (bQ mE (J 1) aK) aB))))
   (aP (b9 (i:=6) su.aD (cJ afP ao T.ank T.IY.bM T.ahA (ah (J 0) (ah (J 1) (ah (J 5) aB)))))
   (aP (b9 (i:=7) su.aD (eO (J 0) T.gJ T.r8 oT ao T.sU .nil cv (ah aK (ah (nd rfl T.aoH T.alV) aB))))
   (aP (b9 (i:=8) su.aD (eO (J 0) T.gJ T.r8 oT ao T.sU .nil cv (ah aK (ah (nd rfl T.ang T.aeG) aB))))
   (aP (b9 (i:=9) su.aD (eO (J 0) T.gJ T.r8 oT ao T.sU .nil cv (ah aK (ah (nd rfl T.al5 T.aeD) aB))))
   (aP (dV (g0 (J 0) T.gJ T.XC OD ao T.QQ .nil cv))
   (a4 (cA (cJ ai6 ao T.afB T.ON.bM T.acT (ah (J 3) (ah (J 4) (ah (J 5) (ah (J 6) (ah (J 7) (ah (J 8) (ah (J 9) aB)))))))))))))))))),?_)
 have hj:=hd.st;have gn:=hd.gd;have n9:=hd.of;have pB:=hd.Pn;have r_:=hd.le;let(_,ak,bc,aq,aA):=id R;nofun;refine(_,_,aq,dC.no _ _ _ ∅,∅,λp ag=>?_);have s0:aS H (upd H p (.lst [V.str (ab "car"),V.str (ab "foot"),V.str (ab "tram")])):=bk ag;have hT:e4 d.k∈[ab "car",ab "foot",ab "tram"]:=by
  have:=hd.k
  match d.k,this with
  |0,_=>simp[e4]
  |1,_=>simp[e4]
  |2,_=>simp[e4]
 refine(q,row,_,0,e4 d.k,p,[ab "car",ab "foot",ab "tram"],rfl,R.same s0,rfl,aE.of aM,hT,λH1 s1 b8 la=>?_);have c2:c0 q H H1:=(c0.of s0).trans s1;have iJ:=b8 bH.upd;nofun;refine(q,row,_,1,wl,ds,d.name,rfl,la,rfl,hd.nm,gV.yF c2 R,e3,wZ,iJ,λar s2 iQ fq=>?_);let(_,wu,Lr,f2,g2):=id fq;have eU:=c2.trans s2;nofun;refine(_,_,f2,dC.no _ _ _ ∅,(q,row,_,2,num d.start,0,n-1,d.start,rfl,fq,rfl,r9 () () () (),iQ,λba s3 c7 oB=>?_));have fs:=eU.trans s3;have mY:=c7 iQ;nofun;refine(q,row,_,3,n,d.start,d.fin,rfl,oB,rfl,hj,gn,hd.ne,a0.2,mY,λcm s4 YP nP=>?_);let(_,wy,auW,f4,wK):=id nP;have dq:=fs.trans s4;nofun;refine(_,_,f4,dC.no _ _ _ ∅,(q,row,_,4,num d.off,0,30,d.off,rfl,nP,rfl,r9 () () () (),YP,λcG s5 fC tb=>?_));let(_,Ea,as',fu,FG):=id tb;have eh:=dq.trans s5;have abd:=fC YP;nofun;refine(_,_,fu,dC.no _ _ _ ∅,(q,row,_,5,num d.near,0,30,d.near,rfl,tb,rfl,r9 () () () (),abd,λfl f9 hB F3=>?_));let(_,atF,auD,oW,Xw):=id F3;have dO:=eh.trans f9;have Zx:=hB abd;nofun;refine(_,_,oW,dC.no _ _ _ ∅,(q,row,_,6,num d.least,1,60,d.least,rfl,F3,rfl,r9 () () () (),Zx,λeJ pF jA ZS=>?_));let(_,atz,auQ,m1,OS):=id ZS;have eE:=dO.trans pF;have adS:=jA Zx;nofun;refine(_,_,m1,dC.no _ _ _ ∅,(q,row,_,7,rfl,ZS,rfl,?_));nofun;refine(d,rfl,hd.k,λx gO iO rb Mz Ft=>?_);refine lr x gO (eE.trans (c0.of iO)) (rb adS) Mz ?_;cases jI:H x with
 |none=>rfl
 |some u=>
  by_cases ZW:x=q
  .subst ZW;rw[m1]at Ft;cases Ft
  .rw [eE x u ZW jI]at Ft;cases Ft
noncomputable abbrev vR:List Str:=[ab "places",ab "ways",ab "numbers"]
noncomputable def qo(n:Int)(wl aD:Addr):List (Str×V):=[(p'p (ab "places") (.int n)),(p'p (ab "ways") (⇑wl)),(p'p (ab "numbers") (⇑aD))]
def Dg(n:Int)(wl aD:Addr):(qo n wl aD).map (·.1)=vR:=rfl
noncomputable def nm(ds:List bh)(i:Nat):Str:=((ds[i]?).map (·.name)).getD (ab "")
noncomputable def kV(ds:List bh)(i:Nat):List (Key×V):=(gN i).map λj=>(p'p (bx (nm ds j)) (V.int j))
def mr{d:bh}(h:ds[i]?\d):nm ds i=d.name:=by unfold nm;rw[h];rfl
def xe(h:(ds.map (·.name)).Nodup)(ai:i<↑ds)(aN:j<↑ds)(e:nm ds i=nm ds j):i=j:=by
 rw[mr (bq ai),mr (bq aN)]at e;have:=(sP (xs:=ds.map (·.name)) (i:=i) (j:=j) (h₀:=by rw[aO];exact ai) (h₁:=by rw[aO];exact aN) h).mp (by rw[vy,vy];exact e);exact this
theorem Tb(h:(ds.map (·.name)).Nodup):∀{n:Nat},i<n->n<=↑ds->c5 (kV ds n) (bx (nm ds i))\(.int i):=by
 intro n
 induction n with
 |zero=>intro ai _;omega
 | succ n cp=>
  intro ai a0;unfold kV c5;rw[Ah,fg,List.find?_append];by_cases c:i<n
  .have:=cp c ();unfold kV c5 at this;cases e:abV (λc1=>decide (c1.fst=bx (nm ds i))) (tE (λj=>(p'p (bx (nm ds j):Key) (V.int j))) (gN n))with
   |none=>rw[e]at this;cases this
   |some p=>rw[e]at this;exact this
  .have e:i=n:=()
   subst e;have no:abV (λc1=>decide (c1.fst=bx (nm ds i))) (tE (λj=>(p'p (bx (nm ds j):Key) (V.int j))) (gN i))=none:=by
    rw[QF];intro p ag;let(j,aN,rfl):=cj.mp ag;have hQ:=sZ.mp aN;simp only[decide_eq_true_eq];intro z;have:=xe h () () (pP z);omega
   rw[no];simp
def ap0{x:Str}(h:∀d∈ds,d.name≠x):∀{n:Nat},n<=↑ds->c5 (kV ds n) (bx x)=none:=by
 intro n a0;unfold c5 kV;rw[QF.mpr]
 .rfl
 intro p ag;let(j,aN,rfl):=cj.mp ag;have hQ:=sZ.mp aN;simp only[decide_eq_true_eq];intro z;have l1:j<↑ds:=()
 have e:=pP z;rw[mr (bq l1)]at e;exact h _ (mL l1) e
def agy(h:(ds.map (·.name)).Nodup){n:Nat}(a0:n<↑ds):d0 (kV ds n) (bx (nm ds n)) (.int n)=kV ds (n+1):=by
 unfold d0;have no:((kV ds n).any λc1=>decide (c1.1=bx (nm ds n)))=false:=by
  rw[KN];intro p ag;let(j,aN,rfl):=cj.mp ag;have hQ:=sZ.mp aN;simp only[decide_eq_true_eq];intro z;have:=xe h () a0 (pP z);omega
 rw[no];unfold kV;rw[Ah,fg];rfl
def zM{q:Addr}(a:aS H H1)(b:c0 q H1 ar)(n:H q=none):aS H ar:=λc u e=>b c u (du e n) (a c u e)
def Np{t:bO}{p q:Addr}{k l:Nat}(a:dC t H p i ws k)(b:dC t H q j vs l)(n:i≠j):p≠q:=λz=>by
 subst z;let(_,ak,bc,aq,_):=a;let(_,hG,arA,aA,_):=b;rw[aq]at aA;have bG:=dZ aA;injection bG with _ _ eM;unfold nY at eM;injection eM with gk _;injection gk with _ ez;injection ez with fE;exact n fE
def WT{t:bO}{p q:Addr}{d:bh}{l:Nat}(a:e8 t H p d)(b:dC t H q j vs l):p≠q:=λz=>by
 subst z;let(_,ak,aq):=a;let(_,hG,arA,aA,_):=b;rw[aq]at aA;have bG:=dZ aA;injection bG with _ _ eM;exact absurd (congrArg sj eM) (by show ¬(7:Nat)=3;decide)
def fz(t:bO)(H:au)(c:Addr)(n:Int)(ds:List bh):Prop:=
 ((ds.map (·.name)).Nodup/\↑ds<=12)/\∃ak wl aD,H c\(.ins t.iF ak (qo n wl aD))/\On t H wl ds/\H aD\(.aY (kV ds ↑ds))
theorem fz.same{t:bO}{c:Addr}{n:Int}(h:fz t H c n ds)(s:aS H H'):fz t H' c n ds:=by
 let(h0,ak,wl,aD,aq,aA,bG):=h;exact(h0,ak,wl,aD,s _ _ aq,aA.same s,s _ _ bG)
def iU(n:Int)(wl aD:Addr)(h:vR.contains m=false):(qo n wl aD).lookup m=none:=w2 vR (Dg ..) h
section
variable{w:World}{K:bg}{mg:Str->Option Value}{t:bO}{H:au}{c ak wl aD:Addr}{n:Int}
def akS(T:Txt w K mg t)(e:H c\(.ins t.iF ak (qo n wl aD))):fH K H c (ab "places") (.int n):=(_,ak,_,e,T.gH,T.QL,gb vR 0 (Dg ..) ∅ rfl)
def Pd(T:Txt w K mg t)(e:H c\(.ins t.iF ak (qo n wl aD))):fH K H c (ab "ways") ⇑wl:=(_,ak,_,e,T.gH,T.Tf,gb vR 1 (Dg ..) ∅ rfl)
def am(T:Txt w K mg t)(e:H c\(.ins t.iF ak (qo n wl aD))):fH K H c (ab "numbers") ⇑aD:=(_,ak,_,e,T.gH,T.Zw,gb vR 2 (Dg ..) ∅ rfl)
end
def VV(t:bO):bW:=λvs H Q _=>∃c ak n wl ds,vs=[⇑c,.int n,⇑wl]/\H c\(.ins t.iF ak [])/\On t H wl ds/\(ds.map (·.name)).Nodup/\↑ds<=12/\aI H /\
 ∀H',c0 c H H'->aI H'->fz t H' c n ds->Q .b5 H'
def Rj(t:bO):bW:=λvs H Q _=>∃n ds,vs=[.str (rf n ds)]/\tW n ds/\aI H/\∀c H',aS H H'->aI H'->fz t H' c n ds->Q ⇑c H'
def EP(t:bO):bW:=λvs H Q _=>∃c n ds,vs=[⇑c]/\fz t H c n ds/\∀p,H p=none->Q ⇑p (upd H p (.lst (a5 (ds.map (·.name)))))
def al1(t:bO):bW:=λvs H Q _=>∃c n ds,∃i:Nat,∃d,vs=[⇑c,.str d.name]/\fz t H c n ds/\ds[i]?\d/\Q (.int (i:Nat)) H
def QX(t:bO):bW:=λvs H Q _=>∃c n ds,∃i:Nat,∃d,vs=[⇑c,.str d.name]/\fz t H c n ds/\ds[i]?\d/\∀a,e8 t H a d->Q ⇑a H
def ajI:cD P base T 1 t.Au t.EA FU (VV t):=by
 exists T.Xl.ok NF,9
 let(c,ak,n,wl,ds,rfl,aw,gV,eL,e3,bH,q):=h;have bp:=gI ao;refine(_,(aP (e6 (J 0) (J 1) rfl)
   (aP (e6 (J 0) (J 2) rfl)
   (aP (e6 (J 0) sf rfl)
   (a4 (fh fK rfl (Gu rfl T.G9 (ah (J 2) aB)) (mw (K:=K) (n:=2) rfl rfl (fJ (cy (i:=3) NF.aD) (fJ (cy (i:=4) NF.aD) mS))) (a4 (mW bp (bA (J 0) rfl) (bA (J 4) rfl) (J 3) rfl))))))),?_)
 nofun;refine(_,_,_,aw,T.gH,T.QL,∅,?_);refine(_,_,_,aM,T.gH,T.Tf,h5 (n:=999) ∅,λaD a0=>?_);simp only[vB]at a0⊢;rw[show c_ (ab "places") (V.int n) ([]:List (Str×V))=[(p'p (ab "places") (V.int n))]from rfl,show c_ (ab "ways") (V.ref wl) [(p'p (ab "places") (V.int n))]=[(p'p (ab "places") (V.int n)),(p'p (ab "ways") (V.ref wl))]from gf [ab "places"] rfl ∅]at a0⊢;have GC:c≠aD:=λz=>by subst z;rw[aM]at a0;cases a0
 refine(t.iF,ak,[(p'p (ab "places") (V.int n)),(p'p (ab "ways") (V.ref wl))],by rw[ax GC];exact aM,T.gH,T.Zw,(∅:(2:Nat)<1000),?_);rw[show c_ (ab "numbers") (V.ref aD) [(p'p (ab "places") (V.int n)),(p'p (ab "ways") (V.ref wl))]=qo n wl aD from gf [ab "places",ab "ways"] rfl ∅];let(as,dp,ef,al):=gV;have Ya:H aD=none:=by rw[ax (cT GC)]at a0;exact a0
 have lg:c0 c H (upd (upd (upd H c (.ins t.iF ak [(p'p (ab "places") (V.int n)),(p'p (ab "ways") (V.ref wl))])) aD (.aY [])) c (.ins t.iF ak (qo n wl aD))):=λb u U e=>by
  rw[ax U,ax (du e Ya),ax U];exact e
 have Kc:wl≠c:=bI dp aw (by intro z;cases z);refine((_,aE.of (lg _ _ Kc dp)),?_);refine ey.enum (xs:=as.map V.ref) (λi σ H'=>(∃x y,σ=[some (V.ref c),some (V.int n),some (V.ref wl),x,y])/\H' c\(.ins t.iF ak (qo n wl aD))/\H' aD\(.aY (kV ds i))/\c0 c H H'/\aI H') ?_ ?_ ?_ ?_
 .exact ((_,_,rfl),aM,by rw[ax (cT GC),aM];rfl,lg,((bH.upd).upd).upd)
 .rintro i σ H' ai bl;ac_rfl
  let(_,_,_,tn,_):=bl;subst aW;exact aE.of (tn _ _ Kc dp)
 .rintro i v σ H' p aQ ⟨⟨x,y,rfl⟩,af,aj,tn,mf⟩ ag;obtain⟨a,aV,rfl⟩:=b_ aQ;obtain⟨ai,_⟩:=b3.mp aV;have lF:i<↑ds:=()
  have hd:ds[i]?\ds[i]:=bq lF;have jT:e8 t H a ds[i]:=al i a _ aV hd;have Ku:a≠c:=by
   let(_,hG,e):=jT;intro z;subst z;rw[aw]at e;have aA:=dZ e;injection aA with _ _ bG;exact absurd (congrArg sj bG) (by show ¬(0:Nat)=7;decide)
  have afO:e8 t H' a ds[i]:=(jT.1,jT.2.imp λhG e=>tn _ _ Ku e);have sp:aS H' (upd H' p (.tup [.int i,⇑a])):=bk ag;refine D0 ?_;nofun;refine(_,am T (sp _ _ af),_,(afO.same sp).K3 T,_,rfl,_,h6.k (k:=bx ds[i].name) (sp _ _ aj) (fW (show ↑(kV ds i)<=12 by unfold kV;rw[aO,xk];omega) ∅),?_);rw[<- mr hd,agy eL lF];refine((_,rfl),?_,aM,λb u U e=>?_,(mf.upd).upd)
  .rw [ax GC];exact sp _ _ af
  .rw [ax (du e Ya)];exact sp _ _ (tn b u U e)
 .rintro σ H' bl;ac_rfl
  let((x,y,rfl),af,aj,tn,mf):=bl;subst aW;nofun;rw[aO,ef]at aj;refine q H' tn mf ((eL,e3),ak,wl,aD,af,(as,tn _ _ Kc dp,ef,λi a d bb dt=>?_),aj);have jT:=al i a d bb dt;have Ku:a≠c:=by
   let(_,hG,e):=jT;intro z;subst z;rw[aw]at e;have aA:=dZ e;injection aA with _ _ bG;exact absurd (congrArg sj bG) (by show ¬(0:Nat)=7;decide)
  exact(jT.1,jT.2.imp λhG e=>tn _ _ Ku e)
def aru:cD P base T 1 t.x' t.BP gQ (al1 t):=by
 exists T.K1.ok abq,9
 let(c,n,ds,i,d,rfl,((eL,e3),ak,wl,aD,aq,aA,bG),hd,q):=h;have bp:=gI ao;have aQ:c5 (kV ds ↑ds) (bx d.name)\(.int i):=by
  rw[<- mr hd];exact Tb eL (b3.mp hd).1 (b1 _)
 have bj:fj H aD (.str d.name) (some (.int i)):=by rw[<- aQ];exact fj.k (k:=bx d.name) bG
 refine(_,(aP (d5 (Mx (HW bp (J 1) (bA (J 0) rfl))) (a4 qK) eV)
   (a4 (cA (iM bp (bA (J 0) rfl) (J 1) (λ_ _=>rfl))))),?_)
 nofun;refine d8 false (λQ a9=>?_) (λaw=>nomatch aw) (λ_=>?_)
 .nofun;refine(_,am T aq,_,rfl,_,bj,?_);exact a9
 .nofun;exact(_,am T aq,_,rfl,_,bj,q)
def q':cD P base T 2 t.ub t.x_ gQ (QX t):=by
 refine cK (aru T) λafo=>?_;exists T.K4.ok Y',9
 let(c,n,ds,i,d,rfl,C,hd,q):=h;let((eL,e3),ak,wl,aD,aq,(as,dp,ef,al),bG):=id C;refine(_,(a4 (cA (b7 dI (bA (J 0) rfl) (eO (J 0) T.gH T.Xh afo ao T.TA .nil cv (ah (J 1) aB))))),?_);nofun;refine(_,Pd T aq,_,_,aq,iU _ _ _ ∅,(c,n,ds,i,d,rfl,C,hd,?_));have ai:i<↑as:=by rw[ef];exact(b3.mp hd).1
 have aV:as[i]?\as[i]:=bq ai;nofun;refine(_,aE.of dp,_,cf (show(as.map V.ref)[i]?\(V.ref as[i])by rw[dF,aV];rfl),?_);exact q as[i] (al i _ d aV hd)
theorem ac9:cD P base T 7 t.Eh t.BZ ["text"] (Rj t):=by
 have J1:cz P w K mg base dy 6 t.AN t.y0 ["text"] (Nr t):=(TN T).mono ∅;have al':cz P w K mg base dy 6 t.Es t.Fw ["reader"] (Q2 t):=(amd T).mono ∅;have arZ:cz P w K mg base dy 6 t.Hd t.EW Fd (Yo t):=af7 T;have aiW:cz P w K mg base dy 5 t.Au t.EA FU (VV t):=(ajI T).mono ∅;exists T.Ju.ok AQ,9
 let(n,ds,rfl,cu,bH,lr):=h;refine(_,(aP (b9 (i:=1) AQ.aD (cJ J1 ao T.RB T.BS.bM T.RN (ah (J 0) aB)))
   (aP (b9 (i:=2) AQ.aD (cJ al' ao T.agp T.Jf.bM T.aen (ah (b7 dI (J 1) aK) aB)))
   (aP (b9 (i:=3) AQ.aD (f_ aB))
   (aP (fh fK rfl (eQ (vp Z3 (J 1) (vx aK) u')) (cy (i:=4) AQ.aD) (aP (d5 (dk wf (gC jn rfl T.ul je (ah (J 3) aB)) (nd rfl T.UF T.arX) (cL _)) (a4 qK) eV)
   (a4 (dV (gq hJ kY lT kW (J 3) (ah (cJ arZ ao T.apj T.OK.bM T.afe (ah (J 4) (ah (J 2) (ah (J 3) aB)))) aB))))))
   (aP (d5 (uL (lv (J 3) (λ_=>rfl))) (a4 qK) eV)
   (a4 (cA (s7 T.adJ aiW ao rfl T.ag4 T.sw .nil cv (ah (J 2) (ah (J 3) aB)))))))))),?_)
 have xv:=amL cu;have hlen:=aem cu;have VT:=cu.nn;have p8:=cu.ln;nofun;refine(rf n ds,rfl,(),?_,bH,λp H1 nX kv R=>?_)
 .rw[xv];intro r ao;refine(?_,λx ae=>c9 (cu.plain r ao x ae).1 ∅);rcases e_.mp ao with rfl|ao
  .show (2:Nat)<=1000;decide
  .let(d,hd,rfl):=cj.mp ao;show(7:Nat)<=1000;decide
 rw[xv]at R;let(qs,ag,gv,m5,pT):=R;have YM:↑qs=↑ds+1:=by rw[m5];simp[jd]
 let(fU,mv,rfl):∃fU mv,qs=fU::mv:=by
  cases qs with
  |nil=>simp at YM
  |cons a b=>exact(a,b,rfl)
 let(GH,oS):=pT 0 fU _ rfl rfl;nofun;refine(_,aE.of ag,_,cf (j:=0) rfl,(fU,_,n,rfl,GH,VT,kv,λar s2 vZ=>(e0 _,λwl g5=>?_)));let(aab,atx,aut,ag6):=GH.ins;have alT:p≠fU:=bI ag ag6 (by intro z;cases z);have g4:ar p\(.lst ((fU::mv).map V.ref)):=s2 _ _ alT ag;have PR:aS ar (upd ar wl (.lst [])):=bk g5;have IF:n5 ((fU::mv).map V.ref) (some 1) none=mv.map V.ref:=by
  unfold n5;simp[gU.dH];exact NP (by rw[aO];exact b1 _)
 refine(_,aE.of (PR _ _ g4),λpc LY=>?_);rw[IF];have gT:pc≠wl:=λz=>by subst z;rw[aM]at LY;cases LY
 have LK:aS (upd ar wl (.lst [])) (upd (upd ar wl (.lst [])) pc (.lst (mv.map V.ref))):=bk LY;refine((_,aE.of aM),?_);have Q':aS H ar:=zM nX s2 oS;have ajN:↑mv=↑ds:=by simpa using YM
 refine ey.list (xs:=mv.map V.ref) (λi σ H'=>(∃x,σ=[some (V.str (rf n ds)),some (V.ref p),some (V.int n),some (V.ref wl),x])/\aI H'/\aS H H'/\H' pc\(.lst (mv.map V.ref))/\H wl=none/\On t H' wl (ds.take i) /\
  ∀(j:Nat) (q:Addr) (d:bh),i<=j->mv[j]?\q->ds[j]?\d->dC t H' q ((j+1:Nat):Int) (No d) 0/\H q=none) ?_ ?_ ?_ ?_
 .refine⟨⟨_,rfl⟩,(vZ.upd).upd,(Q'.trans PR).trans LK,aM,Q'.free g5,⟨[],LK _ _ aM,rfl,fun j a d h=>by simp at h⟩,fun j q d _ af aj=>?_⟩;have ao:(jd n ds)[j+1]?\(No d):=by
   unfold jd;rw[xw,dF,aj];rfl
  let(p9,eY):=pT (j+1) q _ (by rw[xw];exact af) ao;refine(((p9.yF s2 (Np p9 GH ()) GH.ins).same PR).same LK,eY)
 .rintro i σ H' ai bl;ac_rfl
  let(_,_,_,h,_):=bl;subst aW;exact aE.of h
 .rintro i v σ H' aQ bl;ac_rfl
  let((x,rfl),mf,rd,HI,I2,W,Rs):=bl;let(q,ay,rfl):=b_ aQ;let(ai,_):=b3.mp ay;have lF:i<↑ds:=()
  have hd:ds[i]?\ds[i]:=bq lF;let(pv,j9):=Rs i q _ (b1 _) ay hd;have lS:↑(ds.take i)=i:=by rw[hb];omega
  let(as,dp,ef,al):=id W;subst aW;nofun;refine d8 false (λQ a9=>?_) (λaw=>nomatch aw) (λ_=>?_)
  .nofun;refine(_,.inl (aE.of dp),?_);rw[aO,ef,lS];rw[decide_eq_false ()] <;> exact a9
  .nofun;refine(.inl (_,aE.of dp),?_);refine(q,_,n,wl,ds.take i,ds[i],rfl,pv,cu.al _ (mL lF),VT,W,(),λe he z=>?_,mf,λy ba s3 MK ik aav=>?_)
   .obtain⟨j,aN,rfl⟩:=O3 he;rw[List.getElem_take]at z;have hQ:j<i:=()
    have:=xe cu.aD (i:=j) (j:=i) () lF (by rw[mr (bq ()),mr hd];exact z);omega
   .nofun;obtain⟨aui,CQ,at1,hW⟩:=pv.ins;have vF:wl≠q:=bI dp hW (by intro z;cases z);have NA:ba wl\(.lst (as.map V.ref)):=s3 _ _ vF dp;have adf:aS H ba:=zM rd s3 j9;refine⟨_,NA,fW (show ↑(as.map V.ref)<=12 by rw[aO];omega) ∅,?_⟩;have aq6:y≠wl:=fun z=>by
     subst z;rw[dp]at aav;cases aav
    refine((_,rfl),MK.upd,λb u e=>?_,?_,I2,(as++[y],by rw[aM,fg];rfl,?_,λj a d af aj=>?_),λj cW d aN af aj=>?_)
    .rw [ax (du e I2)];exact adf _ _ e
    .rw [ax gT];exact s3 _ _ (bI HI hW (by intro z;cases z)) HI
    .rw [dx,ef,lS,hb];show i+1=_;omega
    .by_cases aN:j<↑as
     .rw[nD aN]at af;have amU:(ds.take i)[j]?\d:=by
       rw[r7 ()];rw[r7 ()]at aj;exact aj
      let(az,hG,e):=al j a d af amU;have aht:a≠q:=WT (az,hG,e) pv;have aqu:a≠wl:=bI e dp (by intro z;cases z);exact(az,hG,by rw[ax aqu];exact s3 _ _ aht e)
     .rw[nj ()]at af;have rP:j-↑as=0:=by
       cases dQ:j-↑as with
       |zero=>rfl
       |succ m=>rw[dQ]at af;simp at af
      rw[rP]at af;have bG:y=a:=by simpa using af
      subst bG;have eM:j=i:=()
      subst eM;rw[r7 (),hd]at aj;cases aj;exact(ik.1,ik.2.imp λhG e=>by rw[ax aq6];exact e)
    .obtain⟨p9,eY⟩:=Rs j cW d () af aj;have oB:=p9.yF s3 (Np p9 pv ()) pv.ins;refine⟨?_,eY⟩;obtain⟨aH,hG,bc,aq,aA⟩:=oB;refine⟨aH,hG,bc,by rw[ax (bI aq NA (by intro z;cases z))];exact aq,?_⟩;rw[ax (fun z=>by
      subst z;rw[NA]at aA;have gk:=dZ aA;injection gk with ez;cases as with
      |nil=>exact absurd (congrArg sj ez) (by show ¬(0:Nat)=7;decide)
      |cons a r=>injection ez with fE _;cases fE)]
     exact aA
 .rintro σ H' bl;ac_rfl
  let((x,rfl),mf,rd,HI,I2,W,Rs):=bl;subst aW;rw[aO,ajN,hE]at W;let(as,dp,ef,al):=id W;nofun;refine d8 false (λQ a9=>?_) (λaw=>nomatch aw) (λ_=>?_)
  .nofun;refine(true,.inl (_,aE.of dp,?_),a9);cases as with
   |nil=>simp at ef;omega
   |cons a r=>rfl
  .nofun;intro c ak aw Af bX;have sc:aS H' (upd (upd H' ak (.own c)) c (.ins t.iF ak [])):=((aS.refl H').gW Af).gW aw;refine(c,ak,n,wl,ds,rfl,aM,W.same sc,cu.aD,p8.2,(mf.upd).upd,λcG s5 MX xY=>(rfl,?_));exact lr c cG (zM (rd.trans sc) s5 (rd.free aw)) MX xY
def vg:cD P base T 1 t.tO t.ad ["self"] (EP t):=by
 exists T.S0.ok amX,9
 let(c,n,ds,rfl,((eL,e3),ak,wl,aD,aq,(as,dp,ef,al),bG),q):=h;refine(_,(a4 (cA (h_ rfl (eQ (bA (J 0) rfl)) (Gc (sc:=bD (eG (top 57) 1)) rfl ∅) (N:=["way"]) (sel:=[none]) (g_ (M:=["self"]) ∅) (fT.of (λ_ _ _ _=>(cy (i:=0) (eZ (N:=["way"]) ∅ rfl))) (λ_ _ _ _=>(_,i',by walk_at "B")) (λ_ _ _ _=>(_,(bA (J 0) rfl),by walk_at "B")))))),?_);nofun;refine(_,Pd T aq,_,rfl,(_,aE.of dp),?_);refine dB.nr (xs:=as.map V.ref) (zs:=a5 (ds.map (·.name))) (aE.of dp) (by rw[aO,ef];exact c9 e3 ∅) (by rw[lc,aO,aO,ef]) (λi v z N aQ g9 bw=>?_) (λp ag=>q p ag);let(a,aV,rfl):=b_ aQ;let(x,ae,rfl):=b_ g9;let(d,hd,rfl):=b_ ae;nofun;exact(Sub.name,_,(al i a d aV hd).K3 T,bw)
def nQ(x:Str):Prop:=↑x<=1000/\∀c∈x.cps.toList,c<16 ^ 8
def qM(ds:List bh)(x:Str):Prop:=∀d∈ds,d.name≠x
def YY(t:bO)(x:Str)(H:au)(E:ee):Prop:=∀ak H',aS H H'->(aI H->aI H')->H' ak\(.ext (k4 ak [(ab "name",.str x)]))->E ⇑t.mz (some ak) H'
def Vn(t:bO):bW:=λvs H Q _=>∃x n,vs=[⇑x,.str n]/\nQ n/\H x\(.ext (gB x t.mz none)) /\
 ∀ak,H ak=none->ak≠x->Q .b5 (upd (upd H x (.ext (gB x t.mz (some ak)))) ak (.ext (k4 ak [(ab "name",.str n)])))
def Ui(t:bO):bW:=λvs H Q E=>∃c n ds x,vs=[⇑c,.str x]/\fz t H c n ds/\nQ x/\((∃i:Nat,∃d,ds[i]?\d/\x=d.name/\Q (.int (i:Nat)) H)\/(qM ds x/\YY t x H E))
def Vg(t:bO):bW:=λvs H Q E=>∃c n ds x,vs=[⇑c,.str x]/\fz t H c n ds/\nQ x/\((∃i:Nat,∃d,ds[i]?\d/\x=d.name/\∀a,e8 t H a d->Q ⇑a H)\/(qM ds x/\YY t x H E))
def amt:cD P base T 1 t.ii t.Hw gQ (Vn t):=by
 exists T.SD.ok adl,9
 let(x,n,rfl,a0,ae,q):=h;refine(_,(aP (dV (akV rfl T.aoY T.afi (ah (J 0) (ah (afL (asB (asH (J 1) arj)) (by rw[sizeLine_eq];decide)) aB))))
   (a4 (alZ (J 0) (J 1) rfl))),?_)
 nofun;refine(a0.1,a0.2,λy=>(_,_,ae,T.EV,?_));exact(_,ae,T.EV,T.Z6,q)
def anu(T:Txt w K mg t):cz P w K mg base (mm P w) 3 t.x' t.BP gQ (Ui t):=by
 have amP:cz P w K mg base dy 1 t.ii t.Hw gQ (Vn t):=amt T;exists T.K1.Pf abq,9
 let(c,n,ds,x,rfl,((eL,e3),ak,wl,aD,aq,aA,bG),n1,ay):=h;have bp:=gI ao;refine(_,(aP (d5 (Mx (HW bp (J 1) (bA (J 0) rfl))) (a4 (ai' (aeF T.QE amP ao rfl T.YE T.ah3 (ah (J 1) aB)) alr)) eV)
   (a4 (cA (iM bp (bA (J 0) rfl) (J 1) (λ_ _=>rfl))))),?_)
 rcases ay with⟨i,d,hd,rfl,q⟩|⟨aC,q⟩
 .have aQ:c5 (kV ds ↑ds) (bx d.name)\(.int i):=by
   rw[<- mr hd];exact Tb eL (b3.mp hd).1 (b1 _)
  have bj:fj H aD (.str d.name) (some (.int i)):=by rw[<- aQ];exact fj.k (k:=bx d.name) bG
  nofun;refine d8 false (λQ a9=>?_) (λaw=>nomatch aw) (λ_=>?_)
  .nofun;refine(_,am T aq,_,rfl,_,bj,?_);exact a9
  .nofun;exact(_,am T aq,_,rfl,_,bj,q)
 .have aQ:c5 (kV ds ↑ds) (bx x)=none:=ap0 aC (b1 _);have bj:fj H aD (.str x) none:=by rw[<- aQ];exact fj.k (k:=bx x) bG
  nofun;refine d8 true (λQ a9=>?_) (λ_=>?_) (λaw=>nomatch aw)
  .nofun;refine(_,am T aq,_,rfl,_,bj,?_);exact a9
  .nofun;refine(c9 ((∅:1<=1000)) ∅,λa aV=>(a,x,rfl,n1,aM,λd hd bX=>?_));have ke:H d=none:=by rw[ax bX]at hd;exact hd
   refine(rfl,t.mz,some d,by rw[ax (cT bX),aM],T.EV,q d _ (λb u e=>?_) (λbH=>(((bH.upd).upd).upd).upd) (by rw[ax bX,aM]));rw[ax (du e aV),ax (du e ke),ax (du e aV),ax (du e aV)];exact e
def ajp(T:Txt w K mg t):cz P w K mg base (mm P w) 4 t.ub t.x_ gQ (Vg t):=by
 have ae6:cz P w K mg base (mm P w) 3 t.x' t.BP gQ (Ui t):=anu T;exists T.K4.Pf Y',9
 let(c,n,ds,x,rfl,C,n1,ay):=h;let((eL,e3),ak,wl,aD,aq,(as,dp,ef,al),bG):=id C;refine(_,(a4 (cA (b7 dI (bA (J 0) rfl) (eO (J 0) T.gH T.Xh ae6 ao T.TA .nil Tx (ah (J 1) aB))))),?_);nofun;refine(_,Pd T aq,_,_,aq,iU _ _ _ ∅,(c,n,ds,x,rfl,C,n1,?_));rcases ay with⟨i,d,hd,ex,q⟩|⟨aC,q⟩
 .refine .inl (i,d,hd,ex,?_);have ai:i<↑as:=by rw[ef];exact(b3.mp hd).1
  have aV:as[i]?\as[i]:=bq ai;nofun;refine(_,aE.of dp,_,cf (show(as.map V.ref)[i]?\(V.ref as[i])by rw[dF,aV];rfl),?_);exact q as[i] (al i _ d aV hd)
 .exact .inr (aC,q)
def DK{n s p:Int}(h0:0<=s)(af:s<n)(aj:0<=p)(bb:p<n):(p-s)%n=if s<=p then p-s else p-s+n:=by
 split
 .rename_i h;exact OQ () ()
 .rename_i h;have e:(p-s)%n=(p-s+n)%n:=(Int.add_emod_right ..).symm;rw[e];exact OQ () ()
noncomputable def lW(n s f p:Int):Bool:=decide (0<(p-s)%n)&&decide ((p-s)%n<(f-s)%n)
noncomputable def vv(n s f s2 f2:Int):Bool:=decide (f=f2)||(if(s2=s\/s2=f)\/(f2=s\/f2=f)then false else(lW n s f s2 != lW n s f f2))
def FL{s f p:Int}(af:p≠s)(aj:p≠f)(bb:s≠f):((decide (s<f)&&decide (f<p) && !decide (s<p))||(!decide (s<f) && !decide (f<p)&&decide (s<p)))=false:=by
 by_cases a:s<f <;> by_cases b:f<p
 .rw [decide_eq_true a,decide_eq_true b,decide_eq_true (show s<p by omega)];rfl
 .rw [decide_eq_true a,decide_eq_false b];rfl
 .rw [decide_eq_false a,decide_eq_true b];rfl
 .rw [decide_eq_false a,decide_eq_false b,decide_eq_false (show ¬s<p by omega)];rfl
def xx{s p:Int}(h:s≠p):decide (p<s) = !decide (s<p):=by
 by_cases a:s<p
 .rw [decide_eq_true a,decide_eq_false ()];rfl
 .rw [decide_eq_false a,decide_eq_true ()];rfl
def GR{n s f p:Int}(aC:0<=s/\s<n)(hf:0<=f/\f<n)(ag:0<=p/\p<n)(af:p≠s)(aj:p≠f)(bb:s≠f):lW n s f p=((decide (s<p)&&decide (p<f))||(decide (p<f)&&decide (f<s))||(decide (f<s)&&decide (s<p))):=by
 unfold lW;rw[DK aC.1 aC.2 ag.1 ag.2,DK aC.1 aC.2 hf.1 hf.2,decide_eq_true (show 0<(if s<=p then p-s else p-s+n)by split <;> omega),n0,xx bb];by_cases a:s<p <;> by_cases b:s<f
 .rw [if_pos (),if_pos (),decide_eq_true a,decide_eq_true b,show decide (p-s<f-s)=decide (p<f)from decide_eq_decide.mpr ()];cases decide (p<f) <;> rfl
 .rw [if_pos (),if_neg (),decide_eq_true a,decide_eq_false b,decide_eq_true (show p-s<f-s+n by omega)];cases decide (p<f) <;> rfl
 .rw [if_neg (),if_pos (),decide_eq_false a,decide_eq_true b,decide_eq_false (show ¬p-s+n<f-s by omega)];cases decide (p<f) <;> rfl
 .rw [if_neg (),if_neg (),decide_eq_false a,decide_eq_false b,show decide (p-s+n<f-s+n)=decide (p<f)from decide_eq_decide.mpr ()];cases decide (p<f) <;> rfl
def ajg:∀a b c d e g:Bool,((a&&d && !b)||(!a && !d&&b))=false->((a&&e && !c)||(!a && !e&&c))=false->((b&&g && !c)||(!b && !g&&c))=false->((d&&g && !e)||(!d && !g&&e))=false ->
  (((b && !d)||(!d && !a)||(!a&&b)) != ((c && !e)||(!e && !a)||(!a&&c)))=(((!b&&c)||(c && !g)||(!g && !b)) != ((!d&&e)||(e && !g)||(!g && !d))):=∅
def ad2{n s f s2 f2:Int}(aC:0<=s/\s<n)(hf:0<=f/\f<n)(iE:0<=s2/\s2<n)(L8:0<=f2/\f2<n)(bX:s≠f)(zD:s2≠f2):vv n s f s2 f2=vv n s2 f2 s f:=by
 unfold vv;by_cases e:f=f2
 .rw [decide_eq_true e,decide_eq_true e.symm];rfl
 .rw[decide_eq_false e,decide_eq_false (cT e)];by_cases c:(s2=s\/s2=f)\/(f2=s\/f2=f)
  .have c':(s=s2\/s=f2)\/(f=s2\/f=f2):=()
   rw[if_pos c,if_pos c']
  .have c':¬((s=s2\/s=f2)\/(f=s2\/f=f2)):=()
   rw[if_neg c,if_neg c'];have b8:s2≠s:=()
   have b':s2≠f:=()
   have c7:f2≠s:=()
   have dh:f2≠f:=()
   rw[nz,nz,GR aC hf iE b8 b' bX,GR aC hf L8 c7 dh bX,GR iE L8 aC b8.symm c7.symm zD,GR iE L8 hf b'.symm dh.symm zD,xx b8.symm,xx b'.symm,xx dh.symm,xx bX,xx zD];exact ajg _ _ _ _ _ _ (FL b8 b' bX) (FL c7 dh bX) (FL c7 zD.symm b8.symm) (FL dh zD.symm b'.symm)
noncomputable abbrev mt(n:Int)(d e:bh):Bool:=vv n d.start d.fin e.start e.fin
def TM(t:bO):bW:=λvs H Q _=>∃a d n p,vs=[.int n,⇑a,.int p]/\e8 t H a d/\0<n/\Q (.bC (lW n d.start d.fin p)) H
noncomputable def zp(n:Int)(d e:bh):Bool:=if(e.start=d.start\/e.start=d.fin)\/(e.fin=d.start\/e.fin=d.fin)then false else(lW n d.start d.fin e.start != lW n d.start d.fin e.fin)
def an6(t:bO):bW:=λvs H Q _=>∃a b d e n,vs=[.int n,⇑a,⇑b]/\e8 t H a d/\e8 t H b e/\0<n/\aI H/\Q (.bC (zp n d e)) H
def ah7(t:bO):bW:=λvs H Q _=>∃a b d e n,vs=[.int n,⇑a,⇑b]/\e8 t H a d/\e8 t H b e/\0<n/\∀H',aS H H'->Q (.bC (zp n d e)) H'
def T'(t:bO):bW:=λvs H Q _=>∃c n ds,∃i j:Nat,∃d e,vs=[⇑c,.str d.name,.str e.name]/\fz t H c n ds/\0<n/\ds[i]?\d/\ds[j]?\e/\aI H/\Q (.bC (mt n d e)) H
def aon:cD P base T 1 t.EE t.G7 DU (TM t):=by
 exists T.FK.ok SA,9
 let(a,d,n,p,rfl,W,a0,q):=h;refine(_,(aP (b9 (i:=3) SA.aD (bQ jQ (bQ mE (J 2) (bA (J 1) rfl)) (J 0)))
   (a4 (cA (xm (iz nt aK (J 3) (cL _)) (vr (iz nt (J 3) (bQ jQ (bQ mE (bA (J 1) rfl) (bA (J 1) rfl)) (J 0)) (cL _))))))),?_)
 nofun;refine(_,W.xy T,_,rfl,a0,?_);unfold lW at q;by_cases c:0<(p-d.start)%n
 .rw [if_pos (decide_eq_true c)];rw[decide_eq_true c,n0]at q;exact(_,W.vk T,_,W.xy T,_,rfl,_,rfl,a0,q)
 .rw [if_neg (by simpa using c)];rw[decide_eq_false c,o6]at q;exact q
def X7(x a b:Int):xM (.int x) [.int a,.int b]=decide (x=a\/x=b):=by
 unfold xM;simp only[zF,List.any_nil,kJ,aaa];rw[m3];simp only[yQ,beq_iff_eq,decide_eq_true_eq];omega
def asD:cD P base T 2 t.L1 t.Ie Fv (an6 t):=by
 refine cz.forget (sp:=ah7 t) ?_ λvs H Q E h=>?_
 .have Uz:cz P w K mg base dy 1 t.EE t.G7 DU (TM t):=aon T;exists T.Ia.ok adP,9
  let(a,b,d,e,n,rfl,jT,qR,a0,q):=h;refine(_,(aP (d5 (gL.pt (tm (dk O' (bA (J 2) rfl) (f_ (ah (bA (J 1) rfl) (ah (bA (J 1) rfl) aB))) (by with_unfolding_all rfl)) (uW (dk O' (bA (J 2) rfl) (f_ (ah (bA (J 1) rfl) (ah (bA (J 1) rfl) aB))) (by with_unfolding_all rfl))))) (a4 (cA mN)) eV)
   (a4 (cA (iz ug (cJ Uz ao T.Z' T.FK.bM T.Wf (ah (J 0) (ah (J 1) (ah (bA (J 2) rfl) aB)))) (cJ Uz ao T.Z' T.FK.bM T.Wf (ah (J 0) (ah (J 1) (ah (bA (J 2) rfl) aB)))) (cL _))))),?_)
  nofun;refine xa (λb H'=>aS H H'/\b=decide ((e.start=d.start\/e.start=d.fin)\/(e.fin=d.start\/e.fin=d.fin))) (λQ a9=>?_) (λH' ⟨bo,U⟩=>?_) (λH' ⟨bo,U⟩=>?_)
  .nofun;refine(_,qR.xy T,_,jT.xy T,_,jT.vk T,∅,λp ag=>(_,.inl (aE.of aM),rfl,rfl,?_));have s1:aS H (upd H p (.lst [.int d.start,.int d.fin])):=bk ag;rw[X7];by_cases ck:e.start=d.start\/e.start=d.fin
   .rw [if_pos (decide_eq_true ck)];exact a9 _ _ (s1,(decide_eq_true (.inl ck)).symm)
   .rw [if_neg (by simpa using ck)];refine(_,(qR.same s1).vk T,_,(jT.same s1).xy T,_,(jT.same s1).vk T,∅,λdY g4=>(_,.inl (aE.of aM),rfl,rfl,?_));rw[X7];refine a9 _ _ (s1.trans (bk g4),?_);rw[m3,decide_eq_true_eq,decide_eq_true_eq];exact(.inr,λz=>z.resolve_left ck)
  .nofun;have fv:=of_decide_eq_true U.symm;have:=q H' bo;unfold zp at this;rw[if_pos fv]at this;exact this
  .nofun;have fv:=of_decide_eq_false U.symm;refine(_,(qR.same bo).xy T,(a,d,n,_,rfl,jT.same bo,a0,?_));refine(_,(qR.same bo).vk T,(a,d,n,_,rfl,jT.same bo,a0,?_));refine(rfl,?_);have:=q H' bo;unfold zp at this;rw[if_neg fv]at this;rw[show(!decide (V.bC (lW n d.start d.fin e.start)=V.bC (lW n d.start d.fin e.fin)))=(lW n d.start d.fin e.start != lW n d.start d.fin e.fin)by
    cases lW n d.start d.fin e.start <;> cases lW n d.start d.fin e.fin <;> rfl]
   exact this
 .let(a,b,d,e,n,af,aj,bb,dt,bH,q):=h;exact(bH,a,b,d,e,n,af,aj,bb,dt,λH' bo=>(bo,q))
def abY(n:Int)(d e:bh):mt n d e=(decide (d.fin=e.fin)||zp n d e):=rfl
def V':cD P base T 3 t.D8 t.D9 rY (T' t):=by
 refine cK (q' T) λjj=>cK (asD T) λahW=>?_;exists T.E_.ok GE,9
 let(c,n,ds,i,j,d,e,rfl,C,a0,hd,he,bH,q):=h;let(_,ak,wl,aD,aq,aA,bG):=id C;refine(_,(aP (b9 (i:=3) GE.aD (eO (J 0) T.gH T.ni jj ao T.nv .nil cv (ah (J 1) aB)))
   (aP (b9 (i:=4) GE.aD (eO (J 0) T.gH T.ni jj ao T.nv .nil cv (ah (J 2) aB)))
   (a4 (cA (aaN (iz wf (bA (J 3) rfl) (bA (J 4) rfl) (cL _)) (vr (cJ ahW ao T.afh T.Ia.bM T.ao8 (ah (bA (J 0) rfl) (ah (J 3) (ah (J 4) aB)))))))))),?_)
 rw[abY]at q;nofun;refine(_,_,aq,iU _ _ _ ∅,(c,n,ds,i,d,rfl,C,hd,λa jT=>?_));nofun;refine(_,_,aq,iU _ _ _ ∅,(c,n,ds,j,e,rfl,C,he,λb qR=>?_));nofun;refine(_,jT.vk T,_,qR.vk T,rfl,?_);nofun;by_cases ck:d.fin=e.fin
 .rw [if_pos (decide_eq_true ck)];rw[decide_eq_true ck,vb]at q;exact q
 .rw [if_neg (by simpa using ck)];rw[decide_eq_false ck,nz]at q;exact(_,akS T aq,(a,b,d,e,n,rfl,jT,qR,a0,bH,q))
def XS(t:bO):bW:=λvs H Q _=>∃c n ds,∃i j:Nat,∃d e,vs=[⇑c,.str d.name,.str e.name]/\fz t H c n ds/\ds[i]?\d/\ds[j]?\e/\Q (.int (if d.off-e.near>0 then d.off-e.near else 0)) H
def agc:cD P base T 3 t.Gr t.D' rY (XS t):=by
 refine cK (q' T) λjj=>?_;exists T.H3.ok Nb,9
 let(c,n,ds,i,j,d,e,rfl,C,hd,he,q):=h;let(_,ak,wl,aD,aq,aA,bG):=id C;refine(_,(aP (b9 (i:=3) Nb.aD (eO (J 0) T.gH T.ni jj ao T.nv .nil cv (ah (J 1) aB)))
   (aP (b9 (i:=4) Nb.aD (eO (J 0) T.gH T.ni jj ao T.nv .nil cv (ah (J 2) aB)))
   (a4 (cA (gC (af2 rfl) rfl T.Lb PY (ah aK (ah (bQ mE (bA (J 3) rfl) (bA (J 4) rfl)) aB))))))),?_)
 nofun;refine(_,_,aq,iU _ _ _ ∅,(c,n,ds,i,d,rfl,C,hd,λa jT=>?_));nofun;refine(_,_,aq,iU _ _ _ ∅,(c,n,ds,j,e,rfl,C,he,λb qR=>?_));nofun;refine(_,jT.Ws T,_,qR.adz T,?_);nofun;exact q
def ip{α:Type}{xs:List α}{i:Nat}{x:α}(h:xs[i]?\x):xs.take (i+1)=xs.take i++[x]:=by
 rw[qJ,h];rfl
structure ST where
 lo:Int
 ai:Int
 mem:List Str
noncomputable def OA(r:ST)(m:Addr):dJ:=.tup [.int r.lo,.int r.ai,⇑m]
structure js(H:au)(p:Addr)(qs ms:List Addr)(rows:List ST):Prop where
 at_:H p\(.lst (qs.map V.ref))
 cF:↑qs=↑rows
 cB:↑ms=↑rows
 al:∀(i:Nat) (q m:Addr) (r:ST),qs[i]?\q->ms[i]?\m->rows[i]?\r->H q\(OA r m)/\H m\(.lst (a5 r.mem))
def js.same{p:Addr}{rows:List ST}(h:js H p qs ms rows)(s:aS H H'):js H' p qs ms rows:=
 (s _ _ h.at_,h.cF,h.cB,λi q m r a b c=>(s _ _ (h.al i q m r a b c).1,s _ _ (h.al i q m r a b c).2))
structure nA(H:au)(p:Addr)(ms:List Addr)(dN:List (List Str)):Prop where
 at_:H p\(.lst (ms.map V.ref))
 ln:↑ms=↑dN
 al:∀(i:Nat) (m:Addr) (x:List Str),ms[i]?\m->dN[i]?\x->H m\(.lst (a5 x))
def nA.same{p:Addr}(h:nA H p ms dN)(s:aS H H'):nA H' p ms dN:=
 (s _ _ h.at_,h.ln,λi m x a b=>s _ _ (h.al i m x a b))
noncomputable def n6(i:Nat)(kvs:List (Key×V))(ms:List Str):List (Key×V):=ms.foldl (λkvs x=>d0 kvs (bx x) (.int i)) kvs
noncomputable def h7(dN:List (List Str)):List (Key×V):=dN.zipIdx.foldl (λkvs e=>n6 e.2 kvs e.1) []
def ahM(kvs:List (Key×V))(k:Key)(v:V):↑(d0 kvs k v)<=↑kvs+1:=by
 unfold d0;split
 .rw [aO];omega
 .rw [dx];exact b1 _
def SE(i:Nat)(kvs:List (Key×V))(ms:List Str)(x:Str):n6 i kvs (ms++[x])=d0 (n6 i kvs ms) (bx x) (.int i):=by
 unfold n6;rw[q4];rfl
def agj(dN:List (List Str))(ms:List Str):h7 (dN++[ms])=n6 ↑dN (h7 dN) ms:=by
 unfold h7;rw[List.zipIdx_append,q4];simp
theorem J4(i:Nat)(x:Str):∀(ms:List Str) (kvs:List (Key×V)),c5 (n6 i kvs ms) (bx x)=if x∈ms then some (.int i)else c5 kvs (bx x)
 |[],kvs=>by simp[n6]
 | y :: ms,kvs=>by
  show c5 (n6 i (d0 kvs (bx y) (.int i)) ms) (bx x)=_;rw[J4 i x ms,abN];by_cases c:x∈ms
  .rw [if_pos c,if_pos (il _ c)]
  .rw[if_neg c];by_cases d:x=y
   .subst d;rw[if_pos rfl,if_pos (m4 ..)]
   .rw [if_neg (λe=>d (pP e)),if_neg (λe=>by
     rcases e_.mp e with e|e
     .exact d e
     .exact c e)]
def N4{dN:List (List Str)}{i:Nat}{ms:List Str}(h:dN[i]?\ms):h7 (dN.take (i+1))=n6 i (h7 (dN.take i)) ms:=by
 rw[ip h,agj,hb,amu (nM (b3.mp h).1)]
theorem UX{x:Str}:∀(n:Nat) (dN:List (List Str)),n<=↑dN->((c5 (h7 (dN.take n)) (bx x)).isSome=true↔∃ms∈dN.take n,x∈ms)
 |0,dN,_=>by simp[h7,c5]
 | n+1,dN,a0=>by
  have h:dN[n]?\dN[n]:=bq ();rw[N4 h,J4,ip h];have cp:=UX (x:=x) n dN ();by_cases c:x∈dN[n]
  .rw [if_pos c];exact(λ_=>(_,l3 _ (eg.mpr rfl),c),λ_=>rfl)
  .rw[if_neg c,cp];constructor
   .intro (ms,af,aj);exact(ms,xu _ af,aj)
   .rintro⟨ms,af,aj⟩;rcases ff.mp af with af|af
    .exact (ms,af,aj)
    .rw [eg.mp af]at aj;exact absurd aj c
theorem At(p:Str->Bool):∀xs:List Str,((xs.map λx=>if p x=true then some (V.str x)else none).flatMap DO)=a5 (xs.filter p)
 |[]=>rfl
 |x::xs=>by
  rw[e1,AO,At p xs];by_cases c:p x=true
  .rw [if_pos c,apy c];rfl
  .rw [if_neg c,ag2 c];rfl
noncomputable def told(rows:List ST)(x:Str):Bool:=rows.any λr=>r.mem.contains x
noncomputable def h3(ds:List bh)(rows:List ST):List Str:=(ds.map (·.name)).filter λx=>!told rows x
def Zi(rows:List ST)(x:Str):(c5 (h7 (rows.map (·.mem))) (bx x)).isSome=told rows x:=by
 rw[m3];have:=UX (x:=x) ↑(rows.map (·.mem)) (rows.map (·.mem)) (b1 _);rw[hE]at this;rw[this];unfold told;rw[uB];constructor
 .intro (ms,af,aj);let(r,ao,rfl):=cj.mp af;exact(r,ao,by simpa using aj)
 .intro (r,ao,h);exact(_,cj.mpr (r,ao,rfl),by simpa using h)
noncomputable def i_(d:bh):Str:=if d.k=2 then ab "trams" else ab "others"
def asM(t:bO):bW:=λvs H Q _=>∃c n ds,∃i:Nat,∃d,vs=[⇑c,.str d.name]/\fz t H c n ds/\ds[i]?\d/\d.k<3/\Q (.str (i_ d)) H
def wv:bW:=λvs H Q _=>∃p ms dN,vs=[⇑p]/\nA H p ms dN/\↑dN<=6/\(∀x∈dN,↑x<=12)/\∀h H',aS H H'->(aI H->aI H')->H h=none->H' h\(.aY (h7 dN))->Q ⇑h H'
def ap'(t:bO):bW:=λvs H Q _=>∃c n ds p qs ms rows,vs=[⇑c,⇑p]/\fz t H c n ds/\js H p qs ms rows/\↑rows<=6/\(∀r∈rows,↑r.mem<=12)/\∀l H',aS H H'->(aI H->aI H')->H l=none->H' l\(.lst (a5 (h3 ds rows)))->Q ⇑l H'
def SL:cD P base T 3 t.IT t.HY DJ (asM t):=by
 refine cK (q' T) λjj=>?_;exists T.zc.ok asf,9
 let(c,n,ds,i,d,rfl,C,hd,az,q):=h;let(_,ak,wl,aD,aq,_,_):=id C;refine(_,(a4 (cA (vN (dk wf (bA (eO (J 0) T.gH T.ni jj ao T.nv .nil cv (ah (J 1) aB)) rfl) di (cL _)) di di))),?_);nofun;refine(_,_,aq,iU _ _ _ ∅,c,n,ds,i,d,rfl,C,hd,λa W=>(a,rfl,_,W.am3 T,rfl,?_));unfold i_ at q;have Nc:∀k,k<3->decide (V.str (e4 k)=V.str (ab "tram"))=decide (k=2):=∅
 rw[Nc d.k az];by_cases cP:d.k=2
 .rw [if_pos (decide_eq_true cP)];rw[if_pos cP]at q;exact q
 .rw [if_neg (by simpa using cP)];rw[if_neg cP]at q;exact q
def Ql:cD P base T 1 t.Ln t.J_ ["members"] wv:=by
 exists T.zS.ok AL,9
 let(p,ms,dN,rfl,M,ou,GN,q):=h;have bp:=gI ao;refine(_,(aP (b9 (i:=1) AL.aD sf)
   (aP (fh fK rfl (Gu rfl T.G9 (ah (J 0) aB)) (mw (K:=K) (n:=2) rfl rfl (fJ (cy (i:=2) AL.aD) (fJ (cy (i:=3) AL.aD) mS))) (a4 (fh fK rfl (eQ (J 3)) (cy (i:=4) AL.aD) (a4 (mW bp (J 1) (J 4) (J 2) rfl)))))
   (a4 (cA (J 1))))),?_)
 nofun;intro h dQ;have s0:aS H (upd H h (.aY [])):=bk dQ;refine((_,aE.of (s0 _ _ M.at_)),?_);refine ey.enum (xs:=ms.map V.ref) (λi σ H'=>(∃x y z,σ=[~~~p,~~~h,x,y,z])/\aS H H'/\(aI H->aI H')/\H' h\(.aY (h7 (dN.take i)))/\↑(h7 (dN.take i))<=12*i) ?_ ?_ ?_ ?_
 .exact ((_,_,_,rfl),s0,λn=>n.upd,by rw[tD];exact aM,by rw[tD];simp[h7])
 .intro i σ H' ai (_,s1,_);exact aE.of (s1 _ _ M.at_)
 .rintro i v σ H' iZ aQ ⟨⟨x,y,z,rfl⟩,s1,b8,af,Ji⟩ qg;obtain⟨m,hm,rfl⟩:=b_ aQ;have Fh:i<↑dN:=by rw[<- M.ln];exact(b3.mp hm).1
  have A9:dN[i]?\dN[i]:=bq Fh;have em:=M.al i m _ hm A9;have mZ:=GN _ (ct A9);have s2:aS H' (upd H' iZ (.tup [.int i,⇑m])):=bk qg;refine D0 ?_;nofun;have abo:=s2 _ _ (s1 _ _ em);have aj:=s2 _ _ af;have nb:aI H->aI (upd H' iZ (.tup [.int i,⇑m])):=λn=>(b8 n).upd
  have Yq:=s1.trans s2;generalize upd H' iZ (.tup [.int i,⇑m])=ej at abo aj nb Yq s2⊢;refine((_,aE.of abo),?_);refine ey.list (xs:=a5 dN[i]) (λj σ ar=>(∃z,σ=[~~~p,~~~h,some (.int (i:Nat)),~~~m,z])/\aS H ar/\(aI H->aI ar)/\ar h\(.aY (n6 i (h7 (dN.take i)) (dN[i].take j)))/\↑(n6 i (h7 (dN.take i)) (dN[i].take j))<=12*i+j) ?_ ?_ ?_ ?_
  .exact ((_,rfl),Yq,nb,by rw[tD];exact aj,by rw[tD];exact Ji)
  .intro j σ ar aN (_,s3,_);exact aE.of (s3 _ _ em)
  .rintro j v σ ar aQ bl;ac_rfl
   let((z,rfl),s3,c7,bb,Rm):=bl;subst aW;unfold a5 at aQ;let(x,ae,rfl):=b_ aQ;have aN:j<↑dN[i]:=(b3.mp ae).1;have cE:=ahM (n6 i (h7 (dN.take i)) (dN[i].take j)) (bx x) (.int i);nofun;refine(_,h6.k (k:=bx x) bb (fW (show _<=1000 by omega) ∅),(_,rfl),s3.gW dQ,λn=>(c7 n).upd,?_,?_)
   .rw [aM,ip ae,SE]
   .rw [ip ae,SE];omega
  .rintro σ ar bl;ac_rfl
   let((z,rfl),s3,c7,bb,Rm):=bl;subst aW;rw[lc,hE,<- N4 A9]at bb Rm;exact((_,_,_,rfl),s3,c7,bb,())
 .rintro σ H' bl;ac_rfl
  let((x,y,z,rfl),s1,b8,af,_):=bl;subst aW;rw[aO,M.ln,hE]at af;nofun;exact q h H' s1 b8 dQ af
def Rx:cD P base T 2 t.HR t.bi l2 (ap' t):=by
 refine cK (Ql T) λzu=>cK (vg T) λlM=>?_;exists T.CJ.ok QZ,9
 let(c,n,ds,p,qs,ms,rows,rfl,C,R,hZ,xG,q):=h;have bp:=gI ao;let((_,e3),ak,wl,aD,aq,_,_):=id C;refine(_,(aP (rH (i:=2) QZ.aD rfl (oJ rfl) (cJ zu ao T.Ks T.zS.bM T.KW (ah (h_ rfl (eQ (J 1)) (Gc (sc:=bD (top 33)) rfl ∅) (N:=ji) (sel:=[none,none,none]) (g_ (M:=KC) ∅) (fT.of (λ_ _ _ _=>(mw (K:=K) (n:=3) rfl rfl (fJ (cy (i:=0) (eZ (N:=ji) ∅ rfl)) (fJ (cy (i:=1) (eZ (N:=ji) ∅ rfl)) (fJ (cy (i:=2) (eZ (N:=ji) ∅ rfl)) mS))))) (λ_ _ _ _=>(_,i',by walk_at "B")) (λ_ _ _ _=>(_,(J 2),by walk_at "B")))) aB)))
   (a4 (cA (h_ rfl (eQ (g0 (J 0) T.gH T.rU lM ao T.rI .nil cv)) (Gc (sc:=bD (top 33)) rfl ∅) (N:=["name","told"]) (sel:=[none,some 2]) (g_ (M:=KC) ∅) (fT.of (λ_ _ _ _=>(cy (i:=0) (eZ (N:=["name","told"]) ∅ rfl))) (λ_ _ _ _=>(_,(uj (Mx (HW bp (J 0) (J 1)))),by walk_at "B")) (λ_ _ _ _=>(_,(J 0),by walk_at "B"))))))),?_)
 simp only[dd];nofun;have j9:↑(qs.map V.ref)=↑rows:=by rw[aO,R.cF]
 refine((_,aE.of R.at_),?_);refine dB.nr (xs:=qs.map V.ref) (zs:=ms.map V.ref) (aE.of R.at_) (by rw[j9];exact c9 hZ ∅) (by rw[j9,aO,R.cB]) (λj v z N aQ aH bw=>?_) (λpm ob=>?_)
 .obtain⟨kf,eY,rfl⟩:=b_ aQ;obtain⟨Mb,lq,rfl⟩:=b_ aH;have aN:j<↑rows:=by rw[<- R.cF];exact(b3.mp eY).1
  have e:=(R.al j kf Mb _ eY lq (bq aN)).1;nofun;exact(_,de.of e,rfl,_,_,rfl,_,_,rfl,_,_,rfl,rfl,Sub.wQ,bw)
 .have sp:aS H (upd H pm (.lst (ms.map V.ref))):=bk ob;have np:aI H->aI (upd H pm (.lst (ms.map V.ref))):=λn=>n.upd
  have ep:(upd H pm (.lst (ms.map V.ref))) pm\(.lst (ms.map V.ref)):=aM;generalize upd H pm (.lst (ms.map V.ref))=ej at sp np ep⊢;refine⟨pm,ms,rows.map (·.mem),rfl,(ep,by rw[R.cB,aO],λi m x hm ae=>?_),by rw[aO];exact hZ,λx ae=>?_,λh H1 s1 b8 dQ af=>?_⟩
  .let(r,fw,rfl):=b_ ae;have hW:qs[i]?\(qs[i]'(by rw[R.cF];exact(b3.mp fw).1)):=bq _;exact sp _ _ (R.al i _ m r hW hm fw).2
  .let(r,fw,rfl):=cj.mp ae;exact xG r fw
  .have pI:=sp.trans s1;have A8:=C.same pI;refine(_,_,pI _ _ aq,iU _ _ _ ∅,c,n,ds,rfl,A8,λdv h8=>(dv,rfl,(_,aE.of aM),?_));have sB:=pI.trans (bk (o:=.lst (a5 (ds.map (·.name)))) h8);have aj:=(bk (o:=.lst (a5 (ds.map (·.name)))) h8) _ _ af;have kL:aI H->aI (upd H1 dv (.lst (a5 (ds.map (·.name))))):=λn=>(b8 (np n)).upd
   have oz:(upd H1 dv (.lst (a5 (ds.map (·.name))))) dv\(.lst (a5 (ds.map (·.name)))):=aM;generalize upd H1 dv (.lst (a5 (ds.map (·.name))))=hP at sB aj kL oz⊢;refine dB.yp (xs:=a5 (ds.map (·.name))) (ss:=(ds.map (·.name)).map λx=>if(!told rows x)=true then some (V.str x)else none) (aE.of oz) (by rw[lc,aO];exact c9 e3 ∅) (by rw[lc,aO]) (λi v o ys N aQ aX bw=>?_) (λl aG=>?_)
   .unfold a5 at aQ;let(x,ae,rfl):=b_ aQ;let(gm,eA,rfl):=b_ aX;rw[ae]at eA;cases eA;have bj:fj hP h (.str x) (c5 (h7 (rows.map (·.mem))) (bx x)):=fj.k (k:=bx x) aj;have c4:=Zi rows x;nofun;refine(Sub.name,_,bj,?_);rw[c4];by_cases cZ:(!told rows x)=true
    .rw [if_pos cZ];rw[if_pos cZ]at bw;exact bw
    .rw [if_neg cZ];rw[if_neg cZ]at bw;simpa using bw
   .rw [At];exact q l _ (sB.trans (bk aG)) (λn=>(kL n).upd) (sB.free aG) aM
noncomputable def AE(ds:List bh)(left:List Str)(f:Str):List Str:=left.filter λx=>decide ((jh ds x).map i_=(jh ds f).map i_)
noncomputable def tc(alike:List Str):List Str->Nat->List Str->Except Nat (List Str)
 |[],_,ms=>.ok ms
 |x::r,j,ms=>if x∈alike/\x∉ms then tc alike r (j+1) (ms++[x])else .error j
noncomputable def m_(ds:List bh)(left ws:List Str):Except Nat (List Str):=if aF ws 3∈left then tc (AE ds left (aF ws 3)) (ws.drop 4) 4 [aF ws 3]else .error 3
noncomputable def Ps(ds:List bh)(rows:List ST)(ws:List Str):Except Nat ST:=if aF ws 0∈[ab "stage"]then
 (lO (aF ws 1) 1 60).elim (.error 1) λlo=>(lO (aF ws 2) lo 60).elim (.error 2) λai=>match m_ ds (h3 ds rows) ws with
  | .error k=>.error k
  | .ok ms=>.ok (lo,ai,ms)else .error 0
theorem XH:∀{r:List Str} {j:Nat} {ms q3:List Str},tc alike r j ms=.ok q3->ms.Nodup->q3.Nodup/\(∃more,q3=ms++more)/\∀x∈q3,x∈ms\/x∈alike
 |[],j,ms,q3,h,aD=>by
  have h:sO ms=sO (ε:=Nat) q3:=h;cases h;exact(aD,([],by simp),λx ae=>.inl ae)
 | y::r,j,ms,q3,h,aD=>by
  unfold tc at h;split at h
  .rename_i c;let(af,(more,aj),bb):=XH h (z8.mpr (aD,by simp,λa aV b U e=>by
    rw[eg.mp U]at e;rw[e]at aV;exact c.2 aV))
   refine(af,(y::more,by rw[aj,oj];rfl),λx ae=>?_);rcases bb x ae with z|z
   .rcases ff.mp z with z|z
    .exact .inl z
    .rw [eg.mp z];exact .inr c.1
   .exact .inr z
  .cases h
def ahp(t:bO):bW:=λvs H Q _=>∃q row ws c n ds l left ms,vs=[⇑q,⇑c,⇑l]/\dC t H q row ws 3/\fz t H c n ds/\(∀d∈ds,d.k<3/\d.name≠ab "")/\H l\(.lst (a5 left))/\↑left<=12/\(∀x∈left,∃d∈ds,d.name=x)/\aI H/\m_ ds left ws=.ok ms /\
 ∀m H',c0 q H H'->aI H'->(∃u,H' q\u)->H' m\(.lst (a5 ms))->H m=none->Q ⇑m H'
def Uc(t:bO):bW:=λvs H Q _=>∃q row ws c n ds p qs ms rows s,vs=[⇑q,⇑c,⇑p]/\dC t H q row ws 0/\fz t H c n ds/\(∀d∈ds,d.k<3/\d.name≠ab "")/\js H p qs ms rows/\↑rows<=6/\(∀r∈rows,↑r.mem<=12)/\aI H/\Ps ds rows ws=.ok s /\
 ∀x m H',c0 q H H'->aI H'->H' x\(OA s m)->H' m\(.lst (a5 s.mem))->H x=none->H m=none->Q ⇑x H'
theorem nc{ds:List bh}(aD:(ds.map (·.name)).Nodup){i:Nat}{d:bh}(h:ds[i]?\d):jh ds d.name\d:=by
 unfold jh;cases e:ds.find? λx=>decide (x.name=d.name)with
 |none=>
  have:=QF.mp e d (ct h);simp at this
 |some x=>
  have af:x.name=d.name:=by simpa using List.find?_some e
  let(j,aN):=iH (List.mem_of_find?_eq_some e);have:=xe aD (b3.mp aN).1 (b3.mp h).1 (by rw[mr aN,mr h,af]);subst this;rw[aN]at h;exact h
def fz.Bt{t:bO}{q c:Addr}{n:Int}{k:Nat}(h:fz t H c n ds)(s:c0 q H H')(R:dC t H q row ws k):fz t H' c n ds:=by
 let(h0,hG,wl,aD,aq,(as,dp,ef,al),bG):=h;let(_,CQ,bc,f1,f2):=id R;refine(h0,hG,wl,aD,s _ _ (λz=>?_) aq,(as,s _ _ (bI dp f1 (by intro z;cases z)) dp,ef,λi b d U hd=>?_),s _ _ (bI bG f1 (by intro z;cases z)) bG)
 .subst z;rw[aq]at f1;have e:=dZ f1;injection e with _ _ eM;unfold qo nY at eM;injection eM with gk _;injection gk with ez _;exact absurd ez ∅
 .have W:=al i b d U hd;have a0:=WT W R;exact(W.1,W.2.imp λak e=>s _ _ a0 e)
def agw(h:j<↑ws):ws.drop j=aF ws j::ws.drop (j+1):=by
 rw[uJ h];unfold aF;rw[k5,bq h];rfl
def js.Bt{t:bO}{q p:Addr}{rows:List ST}{k:Nat}(h:js H p qs ms rows)(s:c0 q H H')(R:dC t H q row ws k):js H' p qs ms rows:=by
 let(_,CQ,bc,f1,f2):=id R;refine(s _ _ (bI h.at_ f1 (by intro z;cases z)) h.at_,h.cF,h.cB,λi q m r a b c=>?_);let(aq,aA):=h.al i q m r a b c;exact(s _ _ (bI aq f1 (by intro z;cases z)) aq,s _ _ (bI aA f1 (by intro z;cases z)) aA)
theorem amc:cD P base T 4 t.KV t.Kz KS (ahp t):=by
 refine cK (Dv T) λrZ=>cK (U' T) λQc=>cK (SL T) λG8=>?_;exists T.JW.ok FW,9
 let(q,row,ws,c,n,ds,l,left,YD,rfl,R,C,az,aG,n7,U3,bH,cS,lr):=h;refine(_,(aP (rH (i:=3) FW.aD rfl (oJ rfl) (eO (J 0) T.gJ T.zr rZ ao T.yM .nil cv (ah (J 2) aB)))
   (aP (rH (i:=4) FW.aD rfl (oJ rfl) (f_ (ah (J 3) aB)))
   (aP (CR (i:=5) FW.aD rfl (n2 rfl) rfl (eQ (J 2)) (Gc (sc:=bD (top 34)) rfl ∅) (N:=["name","crossing","first"]) (sel:=[none,some 1,some 3]) (g_ (M:=MU) ∅) (fT.of (λ_ _ _ _=>(cy (i:=0) (eZ (N:=["name","crossing","first"]) ∅ rfl))) (λ_ _ _ _=>(_,(uj (dk wf (cJ G8 ao T.MI T.zc.bM T.N6 (ah (J 1) (ah (J 0) aB))) (cJ G8 ao T.MI T.zc.bM T.N6 (ah (J 1) (ah (J 2) aB))) (cL _))),by walk_at "B")) (λ_ _ _ _=>(_,(J 0),by walk_at "B"))) rfl)
   (aP (Sb fK (pM (g0 (J 0) T.gJ T.Pi Qc ao T.YO .nil cv)) (a4 (dV (gq hJ kY lT kW (J 4) (ah (eO (J 0) T.gJ T.zr rZ ao T.yM .nil cv (ah (h_ rfl (eQ (J 5)) (Gc (sc:=bD (top 34)) rfl ∅) (N:=["name","members"]) (sel:=[none,some 4]) (g_ (M:=MU) ∅) (fT.of (λ_ _ _ _=>(cy (i:=0) (eZ (N:=["name","members"]) ∅ rfl))) (λ_ _ _ _=>(_,(uj (dk P5 (J 0) (J 1) (by with_unfolding_all rfl))),by walk_at "B")) (λ_ _ _ _=>(_,(J 0),by walk_at "B")))) aB)) aB)))))
   (a4 (cA (J 4))))))),?_)
 let(aH,ak,bc,aq,aA):=id R;unfold m_ at cS;split at cS
 case isFalse=>cases cS
 rename_i hT;let(i7,ke,rV):=U3 _ hT;have Yw:4<=↑ws:=Ny (k:=3) (by rw[<- rV];exact(az i7 ke).2);nofun;refine(_,_,aq,dC.no _ _ _ ∅,(q,row,ws,3,_,l,left,rfl,R,zv (),aE.of aG,hT,λH1 s1 b8 la=>?_));have kv:=b8 bH;have A8:=C.Bt s1 R;have Ji:H1 l\(.lst (a5 left)):=s1 _ _ (bI aG aq (by intro z;cases z)) aG;generalize hf:aF ws 3=f0 at cS hT rV⊢;let(rl,I1):=iH ke;nofun;refine(∅,λhc ou=>?_);let(Ep,Og,S3,f1,f2):=id la;have Q_:H hc=none:=by
  cases e:H hc with
  |none=>rfl
  |some u=>
   by_cases z:hc=q
   .rw [z,f1]at ou;cases ou
   .rw [s1 _ _ z e]at ou;cases ou
 have sB:aS H1 (upd H1 hc (.lst [V.str f0])):=bk ou;have Mk:(upd H1 hc (.lst [V.str f0])) hc\(.lst [V.str f0]):=aM;have kL:aI (upd H1 hc (.lst [V.str f0])):=kv.upd;generalize upd H1 hc (.lst [V.str f0])=hP at sB Mk kL⊢;have abz:=A8.same sB;have abm:=sB _ _ Ji;have eL:=C.1.1;refine((_,aE.of abm),?_);refine dB.yp (xs:=a5 left) (ss:=left.map λx=>if decide ((jh ds x).map i_=(jh ds f0).map i_)=true then some (V.str x)else none) (aE.of abm) (by rw[lc];exact c9 n7 ∅) (by rw[lc,aO]) (λi v o ys N aQ aX bw=>?_) (λal td=>?_)
 .unfold a5 at aQ;let(x,ae,rfl):=b_ aQ;let(gm,eA,rfl):=b_ aX;rw[ae]at eA;cases eA;let(eN,z7,rfl):=U3 x (ct ae);let(j,aN):=iH z7;rw[<- rV,nc eL aN,nc eL I1]at bw;nofun;refine(Sub.name,c,n,ds,j,eN,rfl,abz,aN,(az eN z7).1,c,n,ds,rl,i7,by rw[rV],abz,I1,(az i7 ke).1,rfl,?_);by_cases cZ:i_ eN=i_ i7
  .simp [cZ]at bw⊢;exact bw
  .simp [cZ]at bw⊢;exact bw
 rw[At];rw[show left.filter (λx=>decide ((jh ds x).map i_=(jh ds f0).map i_))=AE ds left f0 from rfl];have rn:↑(AE ds left f0)<=12:=by
  unfold AE;exact c9 (y6 ..) n7
 generalize AE ds left f0=alike at cS rn⊢;have kU:aS hP (upd hP al (.lst (a5 alike))):=bk td;have x4:(upd hP al (.lst (a5 alike))) al\(.lst (a5 alike)):=aM;have abi:aI (upd hP al (.lst (a5 alike))):=kL.upd;have aqZ:al≠hc:=λz=>by rw[z,Mk]at td;cases td
 generalize upd hP al (.lst (a5 alike))=JU at kU x4 abi⊢;have alp:c0 q H JU:=s1.trans (c0.of (sB.trans kU));refine wE (λσ H'=>∃ms:List Str,σ=[~~~q,~~~c,~~~l,some (.str f0),~~~hc,~~~al]/\c0 q H H'/\aI H'/\dC t H' q row ws (3+↑ms)/\H' hc\(.lst (a5 ms))/\H' al\(.lst (a5 alike))/\3+↑ms<=↑ws/\tc alike (ws.drop (3+↑ms)) (3+↑ms) ms=.ok YD) (λσ H'=>match H' hc with|some (.lst xs)=>↑ws-↑xs|_=>0) ?_ ?_
 .exact ([f0],rfl,alp,abi,la.same (sB.trans kU),kU _ _ Mk,x4,Yw,cS)
 rintro σ H' bl;ac_rfl
 let(ms,rfl,eU,b',fq,iQ,a2,Jt,gV):=bl;let(Te,wu,Lr,g1,g2):=id fq;have TU:hc≠q:=bI iQ g1 (by intro z;cases z);have alx:al≠q:=bI a2 g1 (by intro z;cases z);subst aW;refine(decide (3+↑ms<↑ws),λjc a9=>?_,λry=>?_,λry=>?_)
 .nofun;exact(_,_,g1,dC.no _ _ _ ∅,(q,row,ws,_,rfl,fq,_,rfl,a9))
 .have ry:=of_decide_eq_true ry;rw[agw ry]at gV;unfold tc at gV;nofun;refine(.inl (_,aE.of iQ),?_);refine(_,_,g1,dC.no _ _ _ ∅,(_,aE.of a2),?_);refine dB.yp (xs:=a5 alike) (ss:=alike.map λx=>if(!decide (x∈ms))=true then some (V.str x)else none) (aE.of a2) (by rw[lc];exact c9 rn ∅) (by rw[lc,aO]) (λi v o ys N aQ aX bw=>?_) (λcl qz=>?_)
  .unfold a5 at aQ;let(x,ae,rfl):=b_ aQ;let(gm,eA,rfl):=b_ aX;rw[ae]at eA;cases eA;nofun;refine(Sub.name,_,.inl (aE.of iQ),rfl,B2 ms,?_);rw[CG];by_cases cZ:x∈ms
   .simp [cZ]at bw⊢;exact bw
   .simp [cZ]at bw⊢;exact bw
  rw[At];have ve:aS H' (upd H' cl (.lst (a5 (alike.filter λx=>!decide (x∈ms))))):=bk qz;have Vp:(upd H' cl (.lst (a5 (alike.filter λx=>!decide (x∈ms))))) cl=some (.lst (a5 (alike.filter λx=>!decide (x∈ms)))):=aM;have Sk:aI (upd H' cl (.lst (a5 (alike.filter λx=>!decide (x∈ms))))):=b'.upd;generalize upd H' cl (.lst (a5 (alike.filter λx=>!decide (x∈ms))))=ZJ at ve Vp Sk⊢;split at gV
  case isFalse=>cases gV
  rename_i aw;refine(q,row,ws,3+↑ms,_,cl,_,rfl,fq.same ve,zv ry,aE.of Vp,nu.mpr (aw.1,by simpa using aw.2),λar s2 c7 oB=>?_)
  .have mY:ar hc\(.lst (a5 ms)):=s2 _ _ TU (ve _ _ iQ);have fo:ar al\(.lst (a5 alike)):=s2 _ _ alx (ve _ _ a2);let(DA,UR,XD,bS,cY):=id oB;have qW:XD≠hc:=λz=>by
    rw[z,mY]at cY;have e:=dZ cY;injection e with e;have:=congrArg sj e;rw[lc,lc]at this;omega
   refine(_,mY,fW (show ↑(a5 ms)<=1000 by rw[lc];have:=DA.1;omega) ∅,λb u U e=>?_,(c7 Sk).upd,(ms++[aF ws (3+↑ms)],(DA,UR,XD,?_,?_),?_,?_,?_,?_),?_)
   .rw [ax (du e Q_)];exact s2 _ _ U (ve _ _ (eU _ _ U e))
   .rw [ax (cT TU),dx];exact bS
   .rw [ax qW];exact cY
   .rw [aM];unfold a5;rw[fg];rfl
   .rw [ax aqZ];exact fo
   .rw [dx];show 3+(↑ms+1)<=_;omega
   .rw [dx];exact gV
   .rw [aM,iQ];show ↑ws-↑(a5 ms++[V.str (aF ws (3+↑ms))])<↑ws-↑(a5 ms);rw[dx,lc];show ↑ws-(↑ms+1)<_;omega
 .have ry:=of_decide_eq_false ry;rw[List.drop_of_length_le ()]at gV;replace gV:(sO ms:Except Nat (List Str))=.ok YD:=gV;cases gV;nofun;exact lr hc H' eU b' (_,g1) iQ Q_
theorem akg:cD P base T 6 t.Ed t.BU F6 (Uc t):=by
 refine cK (Dv T) λrZ=>cK (GD T) λoT=>cK (amc T) λacH=>cK (Rx T) λKf=>?_;exists T.P7.ok Iv,9
 let(q,row,ws,c,n,ds,p,qs,ms,rows,my,rfl,R,C,az,aix,hZ,xG,bH,cS,lr):=h;refine(_,(aP (dV (eO (J 0) T.gJ T.zr rZ ao T.yM .nil cv (ah (f_ (ah di aB)) aB)))
   (aP (b9 (i:=3) Iv.aD (eO (J 0) T.gJ T.r8 oT ao T.sU .nil cv (ah aK (ah (nd rfl T.Zg T.RH) aB))))
   (aP (b9 (i:=4) Iv.aD (eO (J 0) T.gJ T.r8 oT ao T.sU .nil cv (ah (J 3) (ah (nd rfl T.Zg T.RH) aB))))
   (a4 (cA (mj (ah (J 3) (ah (J 4) (ah (cJ acH ao T.af0 T.JW.bM T.aoP (ah (J 0) (ah (J 1) (ah (cJ Kf ao T.Wo T.CJ.bM T.RD (ah (J 1) (ah (J 2) aB))) aB)))) aB))))))))),?_)
 let(_,ak,bc,aq,aA):=id R;unfold Ps at cS;split at cS
 case isFalse=>cases cS
 rename_i hT;have cF:1<=↑ws:=Ny (k:=0) (by rw[eg.mp hT];ac_nf);cases EO:lO (aF ws 1) 1 60 with
 |none=>rw[EO]at cS;cases cS
 |some lo=>
 have rD:j8 (aF ws 1) 1 60=.int lo:=by rw[M9,EO];rfl
 rw[EO]at cS;replace cS:((lO (aF ws 2) lo 60).elim (.error 2) λai=>match m_ ds (h3 ds rows) ws with|.error k=>.error k|.ok ms=>.ok (lo,ai,ms):Except Nat ST)=.ok my:=cS;cases PT:lO (aF ws 2) lo 60 with
 |none=>rw[PT]at cS;cases cS
 |some ai=>
 have MJ:j8 (aF ws 2) lo 60=.int ai:=by rw[M9,PT];rfl
 rw[PT]at cS;replace cS:(match m_ ds (h3 ds rows) ws with|.error k=>.error k|.ok ms=>.ok ((lo,ai,ms):ST):Except Nat ST)=.ok my:=cS;cases hm:m_ ds (h3 ds rows) ws with
 |error k=>rw[hm]at cS;cases cS
 |ok aiU=>
 rw[hm]at cS;cases cS;have cB:=(MD rD).1;nofun;refine(_,_,aq,dC.no _ _ _ ∅,∅,λeX gv=>?_);have s0:aS H (upd H eX (.lst [V.str (ab "stage")])):=bk gv;refine(q,row,ws,0,_,eX,[ab "stage"],rfl,R.same s0,zv cF,aE.of aM,hT,λH1 s1 b8 la=>?_);let(_,Og,S3,f1,f2):=id la;have kv:=b8 bH.upd;have c2:c0 q H H1:=(c0.of s0).trans s1;nofun;refine(_,_,f1,dC.no _ _ _ ∅,(q,row,ws,1,_,1,60,lo,rfl,la,zv cB,rD,kv,λar s2 b' fq=>?_));have vZ:=b' kv;have eU:c0 q H ar:=c2.trans s2;let(_,wu,Lr,g1,g2):=id fq;nofun;refine(_,_,g1,dC.no _ _ _ ∅,(q,row,ws,2,_,lo,60,ai,rfl,fq,zv (MD MJ).1,MJ,vZ,λba s3 c7 oB=>?_));have HH:=(MD MJ).1;have MK:=c7 vZ;have fs:c0 q H ba:=eU.trans s3;have wx:=C.Bt fs R;have aek:=aix.Bt fs R;nofun;refine(c,n,ds,p,qs,ms,rows,rfl,wx,aek,hZ,xG,λl cm s4 dh aG CZ=>?_);have dq:c0 q H cm:=fs.trans (c0.of s4);have K7:=dh MK;have rB:↑(h3 ds rows)<=12:=by
  unfold h3;exact c9 (y6 ..) (by rw[aO];exact C.1.2)
 refine(q,row,ws,c,n,ds,l,h3 ds rows,aiU,rfl,oB.same s4,wx.same s4,az,CZ,rB,λx ae=>?_,K7,hm,λm cG s5 MX acW agJ JX=>?_)
 .let(d,hd,e):=cj.mp (nu.mp ae).1;exact(d,hd,e)
 let(_,_,_,aho,_):=oB.same s4;nofun;refine(∅,λx ae=>?_);have back:∀{y:Addr} {G:au},c0 q H G->G y=none->(∃u,G q\u)->H y=none:=λ{y G} lg aJ ⟨u,bp⟩=>by
  cases e:H y with
  |none=>rfl
  |some v=>
   by_cases c:y=q
   .subst c;rw[bp]at aJ;cases aJ
   .rw [lg _ _ c e]at aJ;cases aJ
 exact lr x m _ (dq.trans (s5.trans (c0.of (bk ae)))) MX.upd aM ((bk ae) _ _ agJ) (back (dq.trans s5) ae acW) (back dq JX (_,aho))
theorem ww[DecidableEq α]:∀{l l':List α},l.Nodup->(∀x∈l,x∈l')->↑l<=↑l'
 |[],_,_,_=>e0 _
 |a::l,l',h,aC=>by
  have aV:=aC a (m4 ..);have aj:=qp.mp h;have:=ww (l':=l'.erase a) aj.2 (λx ae=>(List.mem_erase_of_ne (λe=>aj.1 (by rw[<- e];exact ae))).mpr (aC x (il _ ae)));rw[List.length_erase_of_mem aV]at this;have ag:=aeR aV;rw[ih];omega
noncomputable def mh(rows:List ST)(x:Str):Option Nat:=match c5 (h7 (rows.map (·.mem))) (bx x)with
 |some (.int k)=>some k.toNat
 |_=>none
theorem Ri{x:Str}:∀(n:Nat) (dN:List (List Str)),n<=↑dN->(∃ms∈dN.take n,x∈ms)->∃(k:Nat) (ms:List Str),c5 (h7 (dN.take n)) (bx x)\(.int (k:Int))/\dN[k]?\ms/\x∈ms
 |0,dN,_,h=>by
  let(ms,af,_):=h;simp at af
 | n+1,dN,a0,h=>by
  have bj:dN[n]?\dN[n]:=bq ();rw[N4 bj,J4];by_cases c:x∈dN[n]
  .rw [if_pos c];exact(n,_,rfl,bj,c)
  .rw[if_neg c];refine Ri n dN () ?_;let(ms,af,aj):=h;rw[ip bj]at af;rcases ff.mp af with af|af
   .exact (ms,af,aj)
   .rw [eg.mp af]at aj;exact absurd aj c
def im{rows:List ST}{x:Str}(h:told rows x=true):∃(k:Nat) (r:ST),c5 (h7 (rows.map (·.mem))) (bx x)\(.int (k:Int))/\mh rows x\k/\rows[k]?\r/\x∈r.mem:=by
 unfold told at h;let(r,ao,ae):=uB.mp h;have:=Ri (x:=x) ↑(rows.map (·.mem)) (rows.map (·.mem)) (b1 _) (r.mem,by rw[hE];exact cj.mpr (r,ao,rfl),by simpa using ae);rw[hE]at this;let(k,ms,af,aj,bb):=this;let(d7,fw,rfl):=b_ aj;exact(k,d7,af,by unfold mh;rw[af];rfl,fw,bb)
noncomputable def AV(rows:List ST)(d:bh):Option (bh×Nat):=(mh rows d.name).bind λk=>(rows[k]?).bind λr=>if r.lo<d.least then some (p'p d k)else none
noncomputable def vW(ds:List bh)(rows:List ST):Option (bh×Nat):=ds.findSome? (AV rows)
noncomputable def qr(n:Int)(ds:List bh)(x y:Str):Bool:=match jh ds x,jh ds y with
 |some d,some e=>mt n d e
 |_,_=>false
noncomputable def qm(n:Int)(ds:List bh)(k:Nat)(x y:Str):Option (Str×Str×Nat):=if x≠y/\qr n ds x y=true then some (p'p x (p'p y k))else none
noncomputable def tV(n:Int)(ds:List bh)(e:ST×Nat):Option (Str×Str×Nat):=e.1.mem.findSome? λx=>e.1.mem.findSome? λy=>qm n ds e.2 x y
noncomputable def x6(n:Int)(ds:List bh)(rows:List ST):Option (Str×Str×Nat):=rows.zipIdx.findSome? (tV n ds)
def A6(ds:List bh):Prop:=∀d∈ds,al0 d.name/\d.k<3/\(0<=d.off/\d.off<=1000)
structure rM(ds:List bh)(rows:List ST):Prop where
 ln:↑rows<=6
 hc:∀r∈rows,↑r.mem<=12
 zH:∀r∈rows,∀x∈r.mem,∃d∈ds,d.name=x
def ZY(t:bO):bW:=λvs H Q _=>∃c n ds p qs ms rows,vs=[⇑c,⇑p]/\fz t H c n ds/\js H p qs ms rows/\rM ds rows/\h3 ds rows=[]/\∀H',aS H H'->(aI H->aI H')->Q .b5 H'
def W9(t:bO):bW:=λvs H Q _=>∃c n ds p qs ms rows,vs=[⇑c,⇑p]/\fz t H c n ds/\js H p qs ms rows/\rM ds rows/\h3 ds rows=[]/\vW ds rows=none/\∀H',aS H H'->(aI H->aI H')->Q .b5 H'
def Q4(t:bO):bW:=λvs H Q _=>∃c n ds p qs ms rows,vs=[⇑c,⇑p]/\fz t H c n ds/\0<n/\js H p qs ms rows/\rM ds rows/\aI H/\x6 n ds rows=none/\∀H',aS H H'->(aI H->aI H')->Q .b5 H'
def tQ(l:List Int)(v:Int):Prop:=v∈l/\∀k∈l,k<=v
noncomputable def vw(ds:List bh)(x:Str):Int:=((jh ds x).map bv).getD 0
noncomputable def x8(ds:List bh)(x:Str):Int:=((jh ds x).map n').getD 0
noncomputable def wc(ds:List bh)(x y:Str):Int:=match jh ds x,jh ds y with
 |some d,some e=>if d.off-e.near>0 then d.off-e.near else 0
 |_,_=>0
noncomputable def rX(n:Int)(ds:List bh)(s:List Str)(x:Str):List Int:=if x∈s then []else(s.filter λy=>qr n ds x y).map (wc ds x)
noncomputable def nf(n:Int)(ds:List bh)(f s:List Str):List Int:=[0]++f.map (vw ds)++s.map (x8 ds)++(ds.map (·.name)).flatMap (rX n ds s)
def yZ{d:bh}(h:qx.contains m=false):(pS d).lookup m=none:=w2 qx (Sw _) h
theorem YG(p:Str->Bool)(g:Str->Int):∀xs:List Str,((xs.map λx=>if p x=true then some (V.int (g x))else none).flatMap DO)=((xs.filter p).map g).map V.int
 |[]=>rfl
 |x::xs=>by
  rw[e1,AO,YG p g xs];by_cases c:p x=true
  .rw [if_pos c,apy c];rfl
  .rw [if_neg c,ag2 c];rfl
theorem Ll:∀b2:List Int,b2≠[]->∃m,m∈b2/\∀k∈b2,k<=m
 |[],h=>absurd rfl h
 |[x],_=>(x,by simp,λk az=>by rw[eg.mp az];exact tR _)
 | x::y::r,_=>by
  let(m,hm,al):=Ll (y::r) (by simp);by_cases c:x<=m
  .refine⟨m,il _ hm,fun k az=>?_⟩;rcases e_.mp az with rfl|az
   .exact c
   .exact al k az
  .refine⟨x,by simp,fun k az=>?_⟩;rcases e_.mp az with rfl|az
   .exact tR _
   .exact Int.le_trans (al k az) ()
def acb(t:bO):bW:=λvs H Q _=>∃c n ds hg aZ f s,vs=[⇑c,⇑hg,⇑aZ]/\fz t H c n ds/\0<n/\A6 ds/\H hg\(.lst (a5 f))/\H aZ\(.lst (a5 s))/\(∀x∈f,∃d∈ds,d.name=x)/\(∀x∈s,∃d∈ds,d.name=x)/\↑f<=12/\↑s<=12/\aI H/\∀v,tQ (nf n ds f s) v->Q (.int v) H
def ahB(t:bO):bW:=λvs H Q _=>∃c n ds hg aZ f s,vs=[⇑c,⇑hg,⇑aZ]/\fz t H c n ds/\0<n/\A6 ds/\H hg\(.lst (a5 f))/\H aZ\(.lst (a5 s))/\(∀x∈f,∃d∈ds,d.name=x)/\(∀x∈s,∃d∈ds,d.name=x)/\↑f<=12/\↑s<=12/\aI H/\∀v H',aS H H'->tQ (nf n ds f s) v->Q (.int v) H'
def aeX:cD P base T 3 t.Hr t.DN l2 (ZY t):=by
 refine cK (Rx T) λKf=>?_;exists T.Jh.ok YT,9
 let(c,n,ds,p,qs,ms,rows,rfl,C,R,I,fM,q):=h;refine(_,(aP (b9 (i:=2) YT.aD (cJ Kf ao T.Wo T.CJ.bM T.RD (ah (J 0) (ah (J 1) aB))))
   (a4 (d5 (lv (J 2) (λ_=>rfl)) (a4 qK) eV))),?_)
 nofun;refine(c,n,ds,p,qs,ms,rows,rfl,C,R,I.ln,I.hc,λl H1 s1 b8 aG cF=>?_);dsimp only;rw[fM]at cF;refine d8 false (λQ a9=>?_) (λz=>nomatch z) (λ_=>?_)
 .exact (_,rfl,_,.inl (_,aE.of cF,rfl),a9)
 .simp only[iR];exact q H1 s1 b8
def agF:cD P base T 3 t.Cg t.DE l2 (W9 t):=by
 refine cK (Ql T) λzu=>cK (vg T) λlM=>cK (q' T) λjj=>?_;exists T.Mw.ok GS,9
 let(c,n,ds,p,qs,ms,rows,rfl,C,R,I,Wg,A5,q):=h;have bp:=gI ao;let((eL,e3),ak,wl,aD,aq,_,_):=id C;refine(_,(aP (b9 (i:=2) GS.aD (cJ zu ao T.Ks T.zS.bM T.KW (ah (h_ rfl (eQ (J 1)) (Gc (sc:=bD (top 37)) rfl ∅) (N:=ji) (sel:=[none,none,none]) (g_ (M:=["crossing","rows","homes","name","number"]) ∅) (fT.of (λ_ _ _ _=>(mw (K:=K) (n:=3) rfl rfl (fJ (cy (i:=0) (eZ (N:=ji) ∅ rfl)) (fJ (cy (i:=1) (eZ (N:=ji) ∅ rfl)) (fJ (cy (i:=2) (eZ (N:=ji) ∅ rfl)) mS))))) (λ_ _ _ _=>(_,i',by walk_at "B")) (λ_ _ _ _=>(_,(J 2),by walk_at "B")))) aB)))
   (a4 (fh fK rfl (eQ (g0 (J 0) T.gH T.rU lM ao T.rI .nil cv)) (cy (i:=3) GS.aD) (aP (b9 (i:=4) GS.aD (iM bp (J 2) (J 3) (λ_ _=>rfl)))
   (a4 (d5 (dk nt (b7 fD (b7 dI (J 1) (J 4)) aK) (bA (eO (J 0) T.gH T.ni jj ao T.nv .nil cv (ah (J 3) aB)) rfl) (cL _)) (a4 qK) eV)))))),?_)
 nofun;have j9:↑(qs.map V.ref)=↑rows:=by rw[aO,R.cF]
 refine((_,aE.of R.at_),?_);refine dB.nr (xs:=qs.map V.ref) (zs:=ms.map V.ref) (aE.of R.at_) (by rw[j9];exact c9 I.ln ∅) (by rw[j9,aO,R.cB]) (λj v z N aQ aH bw=>?_) (λpm ob=>?_)
 .obtain⟨kf,eY,rfl⟩:=b_ aQ;obtain⟨Mb,lq,rfl⟩:=b_ aH;have aN:j<↑rows:=by rw[<- R.cF];exact(b3.mp eY).1
  have e:=(R.al j kf Mb _ eY lq (bq aN)).1;nofun;exact(_,de.of e,rfl,_,_,rfl,_,_,rfl,_,_,rfl,rfl,Sub.wQ,bw)
 .have sp:aS H (upd H pm (.lst (ms.map V.ref))):=bk ob;have np:aI H->aI (upd H pm (.lst (ms.map V.ref))):=λn=>n.upd
  have ep:(upd H pm (.lst (ms.map V.ref))) pm\(.lst (ms.map V.ref)):=aM;generalize upd H pm (.lst (ms.map V.ref))=ej at sp np ep⊢;refine⟨pm,ms,rows.map (·.mem),rfl,(ep,by rw[R.cB,aO],λi m x hm ae=>?_),by rw[aO];exact I.ln,λx ae=>?_,λh H1 s1 b8 dQ af=>?_⟩
  .let(r,fw,rfl):=b_ ae;have hW:qs[i]?\(qs[i]'(by rw[R.cF];exact(b3.mp fw).1)):=bq _;exact sp _ _ (R.al i _ m r hW hm fw).2
  .let(r,fw,rfl):=cj.mp ae;exact I.hc r fw
  .have pI:=sp.trans s1;have A8:=C.same pI;refine(_,_,pI _ _ aq,iU _ _ _ ∅,c,n,ds,rfl,A8,λdv h8=>(dv,rfl,(_,aE.of aM),?_));have sB:=pI.trans (bk (o:=.lst (a5 (ds.map (·.name)))) h8);have aj:=(bk (o:=.lst (a5 (ds.map (·.name)))) h8) _ _ af;have kL:aI H->aI (upd H1 dv (.lst (a5 (ds.map (·.name))))):=λn=>(b8 (np n)).upd
   have oz:(upd H1 dv (.lst (a5 (ds.map (·.name))))) dv\(.lst (a5 (ds.map (·.name)))):=aM;generalize upd H1 dv (.lst (a5 (ds.map (·.name))))=hP at sB aj kL oz⊢;refine ey.list (xs:=a5 (ds.map (·.name))) (λi σ H'=>(∃x y,σ=[~~~c,~~~p,~~~h,x,y])/\H'=hP/\vW ds rows=(ds.drop i).findSome? (AV rows)) ?_ ?_ ?_ ?_
   .exact ((_,_,rfl),rfl,rfl)
   .intro i σ H' ai (_,rfl,_);exact aE.of oz
   .rintro i v σ H' aQ bl;ac_rfl
    let((x,y,rfl),rfl,eD):=bl;subst aW;unfold a5 at aQ;let(nm,m2,rfl):=b_ aQ;let(d,hd,rfl):=b_ m2;let(ai,lY):=b3.mp hd;have ri:=ct hd;have c4:told rows d.name=true:=by
     have:=Zl.mp Wg d.name (cj.mpr (d,ri,rfl));simpa using this
    let(k,r,ar6,Bf,lG,c8):=im c4;have mP:k<↑rows:=(b3.mp lG).1;have oY:AV rows d=if r.lo<d.least then some (p'p d k)else none:=by
     unfold AV;rw[Bf,t2,lG,t2]
    rw[uJ ai,Lf,lY,oY]at eD;have bj:fj H' h (.str d.name) (some (.int (k:Int))):=by rw[<- ar6];exact fj.k (k:=bx d.name) aj
    have QV:qs[k]?\(qs[k]'(by rw[R.cF];exact mP)):=bq _;have ae3:ms[k]?\(ms[k]'(by rw[R.cB];exact mP)):=bq _;have anb:=sB _ _ (R.al k _ _ r QV ae3 lG).1;simp only[gz,dd,jM,jF];exists (λav ar=>ar=H'/\av=[~~~c,~~~p,~~~h,some (.str d.name),some (.int (k:Int))]),2
    .nofun;exact(_,bj,cC _ _ (rfl,rfl))
    intro cO ar (rfl,rfl);subst aW;dsimp only;refine d8 (decide (r.lo<d.least)) (λQ a9=>?_) (λU=>?_) (λU=>?_)
    .nofun;exact(_,aE.of (sB _ _ R.at_),_,cf (by rw[dF,QV];rfl),_,rfl,_,de.of anb,_,cf (j:=0) rfl,_,_,sB _ _ aq,iU _ _ _ ∅,c,n,ds,i,d,rfl,C.same sB,hd,λa W=>(a,rfl,_,W.arJ T,_,rfl,_,rfl,a9))
    .have U:=of_decide_eq_true U;rw[if_pos U]at eD;replace eD:vW ds rows\(p'p d k):=eD;rw[eD]at A5;cases A5
    .have U:=of_decide_eq_false U;rw[if_neg U]at eD;simp only[iR];exact((_,_,rfl),trivial,eD)
   .rintro σ H' bl;ac_rfl
    let((x,y,rfl),rfl,eD):=bl;subst aW;rw[lc,aO,w9]at eD;exact q _ sB kL
def apS:cD P base T 4 t.CN t.FJ l2 (Q4 t):=by
 refine cK (V' T) λPV=>?_;exists T.OE.ok Bz,9
 let(c,n,ds,p,qs,ms,rows,rfl,C,a0,R,I,bH,A5,q):=h;let((eL,e3),ak,wl,aD,aq,_,_):=id C;refine(_,(a4 (fh fK rfl (Gu rfl T.G9 (ah (J 1) aB)) (mw (K:=K) (n:=2) rfl rfl (fJ (cy (i:=2) Bz.aD) (fJ (cy (i:=3) Bz.aD) mS))) (a4 (fh fK rfl (eQ (b7 fD (J 3) aK)) (cy (i:=4) Bz.aD) (a4 (fh fK rfl (eQ (b7 fD (J 3) aK)) (cy (i:=5) Bz.aD) (a4 (d5 (gL.pt (r4 (dk ug (J 4) (J 5) (cL _)) (sJ (pM (cJ PV ao T.ZD T.E_.bM T.UK (ah (J 0) (ah (J 4) (ah (J 5) aB)))))))) (a4 qK) eV)))))))),?_);nofun;have Yt:∀{x:Str},(∃d∈ds,d.name=x)->∃(i:Nat) (d:bh),ds[i]?\d/\d.name=x/\jh ds x\d:=λ⟨d,hd,e⟩=>by
  let(i,ai):=iH hd;exact(i,d,ai,e,by rw[<- e];exact nc eL ai)
 refine((_,aE.of R.at_),?_);refine ey.enum (xs:=qs.map V.ref) (λi σ H'=>(∃x y z u,σ=[~~~c,~~~p,x,y,z,u])/\aS H H'/\aI H'/\x6 n ds rows=((rows.drop i).zipIdx i).findSome? (tV n ds)) ?_ ?_ ?_ ?_
 .exact ((_,_,_,_,rfl),aS.refl _,bH,rfl)
 .intro i σ H' ai (_,bo,_);exact aE.of (bo _ _ R.at_)
 .rintro i v σ H' iZ aQ ⟨⟨x,y,z,u,rfl⟩,bo,b8,eD⟩ qg;obtain⟨sG,hW,rfl⟩:=b_ aQ;have ai:i<↑rows:=by rw[<- R.cF];exact(b3.mp hW).1
  have kp:rows[i]?\rows[i]:=bq ai;have sN:ms[i]?\(ms[i]'(by rw[R.cB];exact ai)):=bq _;let(mX,em):=R.al i sG _ _ hW sN kp;generalize ms[i]'(by rw[R.cB];exact ai)=m at sN mX em;have xG:=ct kp;have hT:=I.zH _ xG;have ou:=I.hc _ xG;rw[uJ ai,List.zipIdx_cons,Lf]at eD;generalize avi:rows[i]=r at mX em hT ou eD;have s2:aS H' (upd H' iZ (.tup [.int i,⇑sG])):=bk qg;have sB:=bo.trans s2;have kL:aI (upd H' iZ (.tup [.int i,⇑sG])):=b8.upd;refine D0 ?_;generalize upd H' iZ (.tup [.int i,⇑sG])=hP at s2 sB kL⊢;have VM:=sB _ _ mX;have B':=sB _ _ em;nofun;refine(_,de.of VM,_,cf (j:=2) rfl,m,rfl,(_,aE.of B'),?_);generalize aqb:((rows.drop (i+1)).zipIdx (i+1)).findSome? (tV n ds)=rest at eD;refine ey.list (xs:=a5 r.mem) (λj σ ar=>(∃z u,σ=[~~~c,~~~p,some (.int (i:Int)),~~~sG,z,u])/\ar=hP/\tV n ds (p'p r i)=(r.mem.drop j).findSome? (λx=>r.mem.findSome? λy=>qm n ds i x y)) ?_ ?_ ?_ ?_
  .exact ((_,_,rfl),rfl,rfl)
  .intro j σ ar aN (_,rfl,_);exact aE.of B'
  .rintro j v σ ar aQ bl;ac_rfl
   let((z,u,rfl),rfl,hk):=bl;subst aW;unfold a5 at aQ;let(c2,pf,rfl):=b_ aQ;let(aN,aql):=b3.mp pf;rw[uJ aN,Lf,aql]at hk;let(i1,eN,z7,Nd,AR):=Yt (hT c2 (ct pf));generalize ate:(r.mem.drop (j+1)).findSome? (λx=>r.mem.findSome? λy=>qm n ds i x y)=atu at hk;nofun;refine(_,de.of VM,_,cf (j:=2) rfl,m,rfl,(_,aE.of B'),?_);refine ey.list (xs:=a5 r.mem) (λl σ ba=>(∃u,σ=[~~~c,~~~p,some (.int (i:Int)),~~~sG,some (.str c2),u])/\ba=ar/\(r.mem.findSome? λy=>qm n ds i c2 y)=(r.mem.drop l).findSome? (λy=>qm n ds i c2 y)) ?_ ?_ ?_ ?_
   .exact ((_,rfl),rfl,rfl)
   .intro l σ ba aG (_,rfl,_);exact aE.of B'
   .rintro l v σ ba aQ bl;ac_rfl
    let((u,rfl),rfl,fM):=bl;subst aW;unfold a5 at aQ;let(eU,u2,rfl):=b_ aQ;let(aG,mZ):=b3.mp u2;rw[uJ aG,Lf,mZ]at fM;let(i2,eP,hd2,pX,acP):=Yt (hT eU (ct u2));have C0:qr n ds c2 eU=mt n eN eP:=by unfold qr;rw[AR,acP]
    have aqL:qm n ds i c2 eU=if c2≠eU/\mt n eN eP=true then some (p'p c2 (p'p eU i))else none:=by unfold qm;rw[C0]
    rw[aqL]at fM;simp only[gz,jM,jF];refine d8 (decide (c2≠eU)&&mt n eN eP) (λQ a9=>?_) (λU=>?_) (λU=>?_)
    .nofun;by_cases cZ:c2=eU
     .rw [if_neg (by simp[cZ])];rw[decide_eq_false (λz=>z cZ),o6]at a9;exact a9
     .rw [if_pos (by simpa using cZ)];rw[decide_eq_true cZ,n0]at a9;exact(c,n,ds,i1,i2,eN,eP,by rw[Nd,pX],C.same sB,a0,z7,hd2,kL,_,rfl,a9)
    .rw [jP,decide_eq_true_eq]at U;rw[if_pos U]at fM;replace fM:(r.mem.findSome? λy=>qm n ds i c2 y)=some (p'p c2 (p'p eU i)):=fM;rw[fM]at hk;replace hk:tV n ds (p'p r i)\(p'p c2 (p'p eU i)):=hk;rw[hk]at eD;replace eD:x6 n ds rows\(p'p c2 (p'p eU i)):=eD;rw[eD]at A5;cases A5
    .have U:¬(c2≠eU/\mt n eN eP=true):=λz=>by
      rw[decide_eq_true z.1,z.2]at U;exact nomatch U
     rw[if_neg U]at fM;simp only[iR];exact((_,rfl),trivial,fM)
   .rintro σ ba bl;ac_rfl
    let((u,rfl),rfl,fM):=bl;subst aW;rw[lc,w9]at fM;replace fM:(r.mem.findSome? λy=>qm n ds i c2 y)=none:=fM;rw[fM]at hk;exact((_,_,rfl),rfl,hk)
  .rintro σ ar bl;ac_rfl
   let((z,u,rfl),rfl,hk):=bl;subst aW;rw[lc,w9]at hk;replace hk:tV n ds (p'p r i)=none:=hk;rw[hk]at eD;exact((_,_,_,_,rfl),sB,kL,eD)
 .rintro σ H' bl;ac_rfl
  let((x,y,z,u,rfl),bo,b8,eD):=bl;subst aW;rw[aO,R.cF,w9]at eD;exact q _ bo (λ_=>b8)
theorem af3:cD P base T 4 t.Ng t.LJ Lz (acb t):=by
 refine cz.forget (sp:=ahB t) ?_ λvs H Q E h=>?_
 .have PV:cz P w K mg base dy 3 t.D8 t.D9 rY (T' t):=V' T;have ac':cz P w K mg base dy 3 t.Gr t.D' rY (XS t):=agc T;have lM:cz P w K mg base dy 3 t.tO t.ad ["self"] (EP t):=(vg T).mono ∅;have jj:cz P w K mg base dy 3 t.ub t.x_ gQ (QX t):=(q' T).mono ∅;have Qm:nI P w K mg base dy 3 (sk t) "ready" ["self"] (xc t):=zN (ZN T) ∅;have MF:nI P w K mg base dy 3 (sk t) "fade" ["self"] (xC t):=zN (Xa T) ∅;exists T.Tk.ok ID,9
  let(c,n,ds,hg,aZ,f,s,rfl,C,a0,cw,hf,aC,fin,sin,oR,jU,bH,q):=h;let((eL,e3),ak,wl,aD,aq,_,_):=id C;refine(_,(aP (b9 (i:=3) ID.aD (f_ (ah aK aB)))
   (aP (dV (gq hJ yG E5 Do (J 3) (ah (h_ rfl (eQ (J 1)) (Gc (sc:=bD (top 32)) rfl ∅) (N:=CY) (sel:=[none,some 0]) (g_ (M:=El) ∅) (fT.of (λ_ _ _ _=>(cy (i:=0) (eZ (N:=CY) ∅ rfl))) (λ_ _ _ _=>(_,i',by walk_at "B")) (λ_ _ _ _=>(_,(Gp (eO (J 1) T.gH T.ni jj ao T.nv .nil cv (ah (J 0) aB)) MF ao cv),by walk_at "B")))) aB)))
   (aP (dV (gq hJ yG E5 Do (J 3) (ah (h_ rfl (eQ (J 2)) (Gc (sc:=bD (top 32)) rfl ∅) (N:=CY) (sel:=[none,some 0]) (g_ (M:=El) ∅) (fT.of (λ_ _ _ _=>(cy (i:=0) (eZ (N:=CY) ∅ rfl))) (λ_ _ _ _=>(_,i',by walk_at "B")) (λ_ _ _ _=>(_,(Gp (eO (J 1) T.gH T.ni jj ao T.nv .nil cv (ah (J 0) aB)) Qm ao cv),by walk_at "B")))) aB)))
   (aP (fh fK rfl (eQ (g0 (J 0) T.gH T.rU lM ao T.rI .nil cv)) (S7 (i:=4) ID.aD rfl (oJ rfl)) (a4 (d5 (dk P5 (J 4) (J 2) (by with_unfolding_all rfl)) (a4 (dV (gq hJ yG E5 Do (J 3) (ah (h_ rfl (eQ (J 2)) (Gc (sc:=bD (top 32)) rfl ∅) (N:=["other","crossing","one"]) (sel:=[none,some 0,some 4]) (g_ (M:=El) ∅) (fT.of (λ_ _ _ _=>(cy (i:=0) (eZ (N:=["other","crossing","one"]) ∅ rfl))) (λ_ _ _ _=>(_,(uj (pM (cJ PV ao T.ZD T.E_.bM T.UK (ah (J 1) (ah (J 2) (ah (J 0) aB)))))),by walk_at "B")) (λ_ _ _ _=>(_,(cJ ac' ao T.amV T.H3.bM T.aq0 (ah (J 1) (ah (J 2) (ah (J 0) aB)))),by walk_at "B")))) aB)))) eV)))
   (a4 (cA (gC (aaw rfl) rfl T.Lb PY (ah (J 3) aB)))))))),?_)
  exists (λav H'=>aS H H'/\aI H'/\∃dr,H dr=none/\H' dr\(.lst ([(0:Int)].map V.int))/\av=[~~~c,~~~hg,~~~aZ,~~~dr,none]),3
  .nofun;exact(∅,λdr lS=>cw _ _ (bk lS,bH.upd,dr,lS,aM,rfl))
  intro fO H1 (s1,b8,dr,lS,dp,rfl);subst aW;exists (λav H'=>aS H H'/\aI H'/\H' dr\(.lst (([0]++f.map (vw ds)).map V.int))/\av=[~~~c,~~~hg,~~~aZ,~~~dr,none]),5
  .nofun;refine(.inl (_,aE.of dp),(_,aE.of (s1 _ _ hf)),?_);refine dB.nr (xs:=a5 f) (zs:=(f.map (vw ds)).map V.int) (aE.of (s1 _ _ hf)) (by rw[lc];exact c9 oR ∅) (by rw[lc,aO,aO]) (λj v z N aQ aH bw=>?_) (λpl cE=>?_)
   .unfold a5 at aQ;let(x,ae,rfl):=b_ aQ;let(y,aJ,rfl):=b_ aH;let(gm,eA,rfl):=b_ aJ;rw[ae]at eA;cases eA;let(d,hd,rfl):=fin x (ct ae);let(i,ai):=iH hd;have Mn:vw ds d.name=bv d:=by unfold vw;rw[nc eL ai];rfl
    rw[Mn]at bw;nofun;refine(Sub.name,_,_,s1 _ _ aq,iU _ _ _ ∅,c,n,ds,i,d,rfl,C.same s1,ai,λa W=>?_);let(jB,Jk,qn):=id W;exact(a,rfl,_,_,_,qn,(_,jB,rfl),yZ ∅,a,d,rfl,W,rfl,bw)
   .refine (pl,rfl,_,(bk cE) _ _ dp,_,aM,?_,cC _ _ ((s1.trans (bk cE)).gW lS,(b8.upd).upd,by rw[aM,fg],rfl));rw[aO,aO,aO];exact c9 (show _<=13 by show 1+↑f<=13;omega) ∅
  intro cO ar (s2,b',ef,rfl);subst aW;exists (λav H'=>aS H H'/\aI H'/\H' dr\(.lst (([0]++f.map (vw ds)++s.map (x8 ds)).map V.int))/\av=[~~~c,~~~hg,~~~aZ,~~~dr,none]),5
  .nofun;refine(.inl (_,aE.of ef),(_,aE.of (s2 _ _ aC)),?_);refine dB.nr (xs:=a5 s) (zs:=(s.map (x8 ds)).map V.int) (aE.of (s2 _ _ aC)) (by rw[lc];exact c9 jU ∅) (by rw[lc,aO,aO]) (λj v z N aQ aH bw=>?_) (λpl cE=>?_)
   .unfold a5 at aQ;let(x,ae,rfl):=b_ aQ;let(y,aJ,rfl):=b_ aH;let(gm,eA,rfl):=b_ aJ;rw[ae]at eA;cases eA;let(d,hd,rfl):=sin x (ct ae);let(i,ai):=iH hd;have Mn:x8 ds d.name=n' d:=by unfold x8;rw[nc eL ai];rfl
    rw[Mn]at bw;nofun;refine(Sub.name,_,_,s2 _ _ aq,iU _ _ _ ∅,c,n,ds,i,d,rfl,C.same s2,ai,λa W=>?_);let(jB,Jk,qn):=id W;exact(a,rfl,_,_,_,qn,(_,jB,rfl),yZ ∅,a,d,rfl,W,rfl,bw)
   .refine (pl,rfl,_,(bk cE) _ _ ef,_,aM,?_,cC _ _ ((s2.trans (bk cE)).gW lS,(b'.upd).upd,by rw[aM,<- fg],rfl));rw[aO,aO,aO,dx,aO];exact c9 (show _<=25 by show 1+↑f+↑s<=25;omega) ∅
  intro fR ba (s3,c7,ik,rfl);subst aW;exists (λav H'=>aS H H'/\aI H'/\H' dr\(.lst ((nf n ds f s).map V.int))/\∃dq,av=[~~~c,~~~hg,~~~aZ,~~~dr,dq]),5
  .nofun;have wx:=C.same s3;refine(_,_,s3 _ _ aq,iU _ _ _ ∅,c,n,ds,rfl,wx,λdv h8=>(dv,rfl,(_,aE.of aM),?_));have sB:=s3.trans (bk (o:=.lst (a5 (ds.map (·.name)))) h8);have kL:aI (upd ba dv (.lst (a5 (ds.map (·.name))))):=c7.upd;have oz:(upd ba dv (.lst (a5 (ds.map (·.name))))) dv\(.lst (a5 (ds.map (·.name)))):=aM;have RV:=(bk (o:=.lst (a5 (ds.map (·.name)))) h8) _ _ ik;have af4:dv≠dr:=λz=>by rw[z,ik]at h8;cases h8
   generalize upd ba dv (.lst (a5 (ds.map (·.name))))=hP at sB kL oz RV⊢;refine ey.list (xs:=a5 (ds.map (·.name))) (λi σ H'=>(∃x,σ=[~~~c,~~~hg,~~~aZ,~~~dr,x])/\aS H H'/\aI H'/\H' dv\(.lst (a5 (ds.map (·.name))))/\H' dr\(.lst (([(0:Int)]++f.map (vw ds)++s.map (x8 ds)++((ds.map λd:bh=>d.name).take i).flatMap (rX n ds s)).map V.int))/\↑(((ds.map λd:bh=>d.name).take i).flatMap (rX n ds s))<=12*i) ?_ ?_ ?_ ?_
   .exact ((_,rfl),sB,kL,oz,by rw[tD,ade,oE];exact RV,by simp)
   .rintro i σ H' ai bl;ac_rfl
    let(_,_,_,e,_):=bl;subst aW;exact aE.of e
   .rintro i v σ H' aQ bl;ac_rfl
    let((dq,rfl),bo,dh,XB,gZ,CZ):=bl;subst aW;unfold a5 at aQ;let(nm,m2,rfl):=b_ aQ;have amQ:=m2;let(d,hd,rfl):=b_ amQ;have atI:i<12:=by have:=(b3.mp hd).1;omega
    have qy:=nc eL hd;simp only[gz,jM,jF];refine d8 (!decide (d.name∈s)) (λQ a9=>?_) (λU=>?_) (λU=>?_)
    .nofun;refine(_,.inl (aE.of (bo _ _ aC)),rfl,B2 s,?_);rw[CG];exact a9
    .have U:d.name∉s:=by simpa using U
     have u1:rX n ds s d.name=(s.filter λy=>qr n ds d.name y).map (wc ds d.name):=by unfold rX;rw[if_neg U]
     nofun;refine(.inl (_,aE.of gZ),(_,aE.of (bo _ _ aC)),?_);refine dB.yp (xs:=a5 s) (ss:=s.map λy=>if qr n ds d.name y=true then some (V.int (wc ds d.name y))else none) (aE.of (bo _ _ aC)) (by rw[lc];exact c9 jU ∅) (by rw[lc,aO]) (λl v o ys N aQ aX bw=>?_) (λpl cE=>?_)
     .unfold a5 at aQ;let(eU,u2,rfl):=b_ aQ;let(gm,eA,rfl):=b_ aX;rw[u2]at eA;cases eA;let(e,he,rfl):=sin eU (ct u2);let(j,aN):=iH he;have zP:=nc eL aN;have E1:qr n ds d.name e.name=mt n d e:=by unfold qr;rw[qy,zP]
      have C8:wc ds d.name e.name=if d.off-e.near>0 then d.off-e.near else 0:=by unfold wc;rw[qy,zP]
      rw[E1,C8]at bw;nofun;refine(Sub.name,c,n,ds,i,j,d,e,rfl,C.same bo,a0,hd,aN,dh,_,rfl,?_);cases C0:mt n d e with
      |true=>
       rw[if_pos rfl];rw[C0,if_pos rfl]at bw;exact(c,n,ds,i,j,d,e,rfl,C.same bo,hd,aN,bw)
      |false=>
       rw[if_neg ∅];rw[C0,if_neg ∅]at bw;simpa using bw
     .rw[YG (λy=>qr n ds d.name y) (wc ds d.name),<- u1];have qz:↑(rX n ds s d.name)<=12:=by rw[u1,aO];exact c9 (y6 ..) jU
      refine(pl,rfl,_,(bk cE) _ _ gZ,_,aM,?_,(_,rfl),(bo.trans (bk cE)).gW lS,(dh.upd).upd,by rw[ax af4];exact(bk cE) _ _ XB,?_,?_)
      .rw [aO,aO,dx,dx,dx,aO,aO];exact c9 (show _<=500 by show 1+↑f+↑s+_+_<=500;omega) ∅
      .rw [aM,ip m2,C2,<- fg];simp
      .rw [ip m2,C2,dx,AO,ade,oE];omega
    .have U:d.name∈s:=by simpa using U
     have u1:rX n ds s d.name=[]:=by unfold rX;rw[if_pos U]
     simp only[iR];refine((_,rfl),bo,dh,XB,?_,?_)
     .rw [ip m2,C2,AO,u1];simpa using gZ
     .rw [ip m2,C2,dx,AO,u1];show _+0<=_;omega
   .rintro σ H' bl;ac_rfl
    let((dq,rfl),bo,dh,_,gZ,_):=bl;subst aW;rw[lc,hE]at gZ;exact cC _ _ (bo,dh,gZ,_,rfl)
  intro km cm (s4,dh,gZ,dq,rfl);subst aW;nofun;let(rJ,af,aj):=Ll (nf n ds f s) (by unfold nf;simp);exact(_,aE.of gZ,rJ,af,aj,q rJ cm s4 (af,aj))
 .let(c,n,ds,hg,aZ,f,s,rfl,C,a0,cw,hf,aC,fin,sin,oR,jU,bH,q):=h;exact(bH,c,n,ds,hg,aZ,f,s,rfl,C,a0,cw,hf,aC,fin,sin,oR,jU,bH,λv H' bo aQ=>(bo,q v aQ))
noncomputable abbrev rR:List Str:=[ab "crossing",ab "many",ab "leasts",ab "mosts",ab "members",ab "sorts",ab "homes",ab "changes"]
noncomputable def me(c:Addr)(k:Nat)(le mo dA cI aX ch:Addr):List (Str×V):=[(p'p (ab "crossing") (V.ref c)),(p'p (ab "many") (V.int k)),(p'p (ab "leasts") (V.ref le)),(p'p (ab "mosts") (V.ref mo)),(p'p (ab "members") (V.ref dA)),(p'p (ab "sorts") (V.ref cI)),(p'p (ab "homes") (V.ref aX)),(p'p (ab "changes") (V.ref ch))]
def tw(c:Addr)(k:Nat)(le mo dA cI aX ch:Addr):(me c k le mo dA cI aX ch).map (·.1)=rR:=rfl
noncomputable def el(ds:List bh)(r:ST):Str:=((r.mem.head?.bind (jh ds)).map i_).getD (ab "")
noncomputable def stK(i j:Nat):List Key:=[sm (i:Int),sm (j:Int)]
def l0(n:Int)(ds:List bh)(rows:List ST)(i j:Nat)(kvs:List (List Key×V)):Prop:=↑kvs<=6*i+j/\∀(a b:Nat) (r s:ST),rows[a]?\r->rows[b]?\s->a≠b->a<i\/(a=i/\b<j)->∃v,c5 kvs (stK a b)\(.int v)/\tQ (nf n ds r.mem s.mem) v
section
variable(P:Program)(w:World)
def hs(t:bO)(H:au)(a c:Addr)(n:Int)(ds:List bh)(rows:List ST):Prop:=∃ak le mo dA cI aX ch ms kvs,H a\(.ins t.f' ak (me c ↑rows le mo dA cI aX ch))/\fz t H c n ds/\H le\(.lst (rows.map λr=>V.int r.lo))/\H mo\(.lst (rows.map λr=>V.int r.ai))/\nA H dA ms (rows.map (·.mem))/\H cI\(.lst (a5 (rows.map (el ds))))/\H aX\(.aY (h7 (rows.map (·.mem))))/\jr P w H ch kvs/\l0 n ds rows ↑rows 0 kvs
def Ww(t:bO):bW:=λvs H Q _=>∃a ak c n ds p qs ms rows,vs=[⇑a,⇑c,⇑p]/\H a\(.ins t.f' ak [])/\fz t H c n ds/\0<n/\A6 ds/\js H p qs ms rows/\rM ds rows/\(∀r∈rows,r.mem≠[])/\aI H /\
 ∀H',c0 a H H'->aI H'->hs P w t H' a c n ds rows->Q .b5 H'
end
def aos(h:stK a b=stK i j):a=i/\b=j:=by
 unfold stK at h;simp at h;omega
def l0.nil(n:Int)(ds:List bh)(rows:List ST):l0 n ds rows 0 0 []:=(e0 _,λa b r s _ _ _ h=>())
def l0.skip{n:Int}{rows:List ST}(h:l0 n ds rows i i kvs):l0 n ds rows i (i+1) kvs:=(by have:=h.1;omega,λa b r s ao aC rG aw=>h.2 a b r s ao aC rG ())
def l0.next{n:Int}{rows:List ST}(aG:↑rows<=6)(h:l0 n ds rows i ↑rows kvs):l0 n ds rows (i+1) 0 kvs:=(by have:=h.1;omega,λa b r s ao aC rG aw=>h.2 a b r s ao aC rG (by
 have:=(b3.mp aC).1
 omega))
def ack(kvs:List (List Key×V))(k:List Key)(v:V):↑(d0 kvs k v)<=↑kvs+1:=by
 unfold d0;split
 .rw [aO];omega
 .rw [dx];exact b1 _
def l0.put {n:Int} {rows:List ST} (h:l0 n ds rows i j kvs) (ao:rows[i]?\r) (aC:rows[j]?\s) (aQ:tQ (nf n ds r.mem s.mem) v):l0 n ds rows i (j+1) (d0 kvs (stK i j) (.int v)):=by
 refine(by have:=h.1;have:=ack kvs (stK i j) (.int v);omega,λa b d7 s' fw sY rG aw=>?_);rw[abN];by_cases c:stK a b=stK i j
 .rw [if_pos c];let(rfl,rfl):=aos c;rw[ao]at fw;rw[aC]at sY;cases fw;cases sY;exact(v,rfl,aQ)
 .rw [if_neg c];exact h.2 a b d7 s' fw sY rG (by
   rcases aw with z|⟨gj,ew⟩
   .exact .inl z
   .by_cases z:b=j
    .exact absurd (by rw[gj,z]) c
    .exact .inr (gj,()))
def js.wh{a p C ak:Addr}{rows:List ST}(h:js H p qs ms rows)(s:c0 a H H')(aV:H a\(.ins C ak [])):js H' p qs ms rows:=by
 refine(s _ _ (bI h.at_ aV (by intro z;cases z)) h.at_,h.cF,h.cB,λi q m r x y z=>?_);let(aq,aA):=h.al i q m r x y z;exact(s _ _ (bI aq aV (by intro z;cases z)) aq,s _ _ (bI aA aV (by intro z;cases z)) aA)
def Js{H:au}{p b C D ak kH:Addr}{x:Str×V}{aT:List (Str×V)}(ag:H p\(.ins C ak []))(U:H b\(.ins D kH (x::aT))):b≠p:=λz=>by
 subst z;rw[ag]at U;cases U
def anw{t:bO}{H H':au}{p a C ak:Addr}{d:bh}(ag:H p\(.ins C ak []))(lg:c0 p H H')(h:e8 t H a d):e8 t H' a d:=by
 let(af,kH,e):=h;exact(af,kH,lg _ _ (Js ag e) e)
def N7{t:bO}{H H':au}{p c C ak:Addr}{n:Int}{ds:List bh}(ag:H p\(.ins C ak []))(lg:c0 p H H')(h:fz t H c n ds):fz t H' c n ds:=by
 let(h0,kH,wl,aD,aq,(as,dp,ef,ik),bG):=h;exact(h0,kH,wl,aD,lg _ _ (Js ag aq) aq,(as,lg _ _ (bI dp ag (by intro z;cases z)) dp,ef,λi a d af aj=>anw ag lg (ik i a d af aj)),lg _ _ (bI bG ag (by intro z;cases z)) bG)
theorem nA.upd{b p:Addr}(h:nA H p ms dN)(U:H b\u)(bp:∀xs,u≠.lst xs):nA (upd H b o) p ms dN:=by
 refine(by rw[ax (bI h.at_ U (λz=>bp _ z.symm))];exact h.at_,h.ln,λi m x a c=>?_);have e:=h.al i m x a c;rw[ax (bI e U (λz=>bp _ z.symm))];exact e
section
variable{w:World}{K:bg}{mg:Str->Option Value}{t:bO}{H:au}{a c ak le mo dA cI aX ch:Addr}{k:Nat}
def Lx(T:Txt w K mg t)(e:H a\(.ins t.f' ak (me c k le mo dA cI aX ch))):fH K H a (ab "many") (.int k):=(_,ak,_,e,T.ku,T.Wc,gb rR 1 (tw ..) ∅ rfl)
def KX(T:Txt w K mg t)(e:H a\(.ins t.f' ak (me c k le mo dA cI aX ch))):fH K H a (ab "members") ⇑dA:=(_,ak,_,e,T.ku,T.OB,gb rR 4 (tw ..) ∅ rfl)
def Sa(T:Txt w K mg t)(e:H a\(.ins t.f' ak (me c k le mo dA cI aX ch))):fH K H a (ab "changes") ⇑ch:=(_,ak,_,e,T.ku,T.abx,gb rR 7 (tw ..) ∅ rfl)
end
theorem ahg:cD P base T 5 t.BE t.Cf CO (Ww P w t):=by
 refine cK (SL T) λG8=>cK (Ql T) λzu=>cK (af3 T) λao4=>?_;exists T.X_.ok Qt,9
 let(a,ak,c,n,ds,p,qs,ms,rows,rfl,aV,C,a0,cw,R,I,bX,bH,q):=h;have bp:=gI ao;have eL:=C.1.1;have j9:↑(qs.map V.ref)=↑rows:=by rw[aO,R.cF]
 have m5:↑(qs.map V.ref)<=sizeLine:=by rw[j9];exact c9 I.ln ∅
 refine(_,(aP (e6 (J 0) (J 1) rfl)
   (aP (e6 (J 0) (gC jn rfl T.ul je (ah (J 2) aB)) rfl)
   (aP (e6 (J 0) (h_ rfl (eQ (J 2)) (Gc (sc:=bD (eG (top 29) 0)) rfl ∅) (N:=ji) (sel:=[none,none,none]) (g_ (M:=AZ) ∅) (fT.of (λ_ _ _ _=>(mw (K:=K) (n:=3) rfl rfl (fJ (cy (i:=0) (eZ (N:=ji) ∅ rfl)) (fJ (cy (i:=1) (eZ (N:=ji) ∅ rfl)) (fJ (cy (i:=2) (eZ (N:=ji) ∅ rfl)) mS))))) (λ_ _ _ _=>(_,i',by walk_at "B")) (λ_ _ _ _=>(_,(J 0),by walk_at "B")))) rfl)
   (aP (e6 (J 0) (h_ rfl (eQ (J 2)) (Gc (sc:=bD (eG (top 29) 0)) rfl ∅) (N:=ji) (sel:=[none,none,none]) (g_ (M:=AZ) ∅) (fT.of (λ_ _ _ _=>(mw (K:=K) (n:=3) rfl rfl (fJ (cy (i:=0) (eZ (N:=ji) ∅ rfl)) (fJ (cy (i:=1) (eZ (N:=ji) ∅ rfl)) (fJ (cy (i:=2) (eZ (N:=ji) ∅ rfl)) mS))))) (λ_ _ _ _=>(_,i',by walk_at "B")) (λ_ _ _ _=>(_,(J 1),by walk_at "B")))) rfl)
   (aP (e6 (J 0) (h_ rfl (eQ (J 2)) (Gc (sc:=bD (eG (top 29) 0)) rfl ∅) (N:=ji) (sel:=[none,none,none]) (g_ (M:=AZ) ∅) (fT.of (λ_ _ _ _=>(mw (K:=K) (n:=3) rfl rfl (fJ (cy (i:=0) (eZ (N:=ji) ∅ rfl)) (fJ (cy (i:=1) (eZ (N:=ji) ∅ rfl)) (fJ (cy (i:=2) (eZ (N:=ji) ∅ rfl)) mS))))) (λ_ _ _ _=>(_,i',by walk_at "B")) (λ_ _ _ _=>(_,(J 2),by walk_at "B")))) rfl)
   (aP (e6 (J 0) (h_ rfl (eQ (J 2)) (Gc (sc:=bD (eG (top 29) 0)) rfl ∅) (N:=Cj) (sel:=[none,none,none,some 1]) (g_ (M:=AZ) ∅) (fT.of (λ_ _ _ _=>(mw (K:=K) (n:=3) rfl rfl (fJ (cy (i:=0) (eZ (N:=Cj) ∅ rfl)) (fJ (cy (i:=1) (eZ (N:=Cj) ∅ rfl)) (fJ (cy (i:=2) (eZ (N:=Cj) ∅ rfl)) mS))))) (λ_ _ _ _=>(_,i',by walk_at "B")) (λ_ _ _ _=>(_,(cJ G8 ao T.MI T.zc.bM T.N6 (ah (J 3) (ah (b7 dI (J 2) aK) aB))),by walk_at "B")))) rfl)
   (aP (e6 (J 0) (cJ zu ao T.Ks T.zS.bM T.KW (ah (bA (J 0) rfl) aB)) rfl)
   (aP (e6 (J 0) ahS rfl)
   (a4 (fh fK rfl (p2 rfl T.qh (ah (bA (J 0) rfl) aB)) (cy (i:=3) Qt.aD) (a4 (fh fK rfl (p2 rfl T.qh (ah (bA (J 0) rfl) aB)) (cy (i:=4) Qt.aD) (a4 (d5 (dk ug (J 3) (J 4) (cL _)) (a4 (aik bp (bA (J 0) rfl) (mj (ah (J 3) (ah (J 4) aB))) (cJ ao4 ao T.ar3 T.Tk.bM T.aoo (ah (J 1) (ah (b7 dI (bA (J 0) rfl) (J 3)) (ah (b7 dI (bA (J 0) rfl) (J 4)) aB)))) rfl)) eV)))))))))))))),?_)
 exists (λav H'=>c0 a H H'/\aI H'/\H' a\(.ins t.f' ak [(p'p (ab "crossing") (V.ref c))])/\av=[~~~a,~~~c,~~~p,none,none]),5
 .nofun;exact(_,_,_,aV,T.ku,T.Wn,∅,cC _ _ (λb u U e=>by rw[ax U];exact e,bH.upd,aM,rfl))
 intro fO H1 (c2,b8,a1,rfl);have la:=R.wh c2 aV;subst aW;exists (λav H'=>c0 a H H'/\aI H'/\H' a\(.ins t.f' ak [(p'p (ab "crossing") (V.ref c)),(p'p (ab "many") (V.int (↑rows:Int)))])/\av=[~~~a,~~~c,~~~p,none,none]),5
 .nofun;refine(_,.inl (aE.of la.at_),_,_,_,a1,T.ku,T.Wc,((∅:(1:Nat)<1000)),?_);rw[j9,show c_ (ab "many") (V.int (↑rows:Int)) [(p'p (ab "crossing") (V.ref c))]=[(p'p (ab "crossing") (V.ref c)),(p'p (ab "many") (V.int (↑rows:Int)))]from gf [ab "crossing"] rfl ∅];exact cC _ _ (λb u U e=>by rw[ax U];exact c2 _ _ U e,b8.upd,aM,rfl)
 intro cO ar (eU,b',a2,rfl);have fq:=R.wh eU aV;subst aW;exists (λav H'=>c0 a H H'/\aI H'/\∃le,H' a\(.ins t.f' ak [(p'p (ab "crossing") (V.ref c)),(p'p (ab "many") (V.int (↑rows:Int))),(p'p (ab "leasts") (V.ref le))])/\H' le\(.lst (rows.map λr=>V.int r.lo))/\av=[~~~a,~~~c,~~~p,none,none]),5
 .nofun;refine((_,aE.of fq.at_),?_);refine dB.nr (xs:=qs.map V.ref) (zs:=rows.map λr=>V.int r.lo) (aE.of fq.at_) m5 (by rw[j9,aO]) (λj v z N aQ aH bw=>?_) (λpl cE=>?_)
  .obtain⟨kf,eY,rfl⟩:=b_ aQ;have aN:j<↑rows:=by rw[<- R.cF];exact(b3.mp eY).1
   have lq:ms[j]?\(ms[j]'(by rw[R.cB];exact aN)):=bq _;have iA:rows[j]?\rows[j]:=bq aN;let(e,em):=fq.al j kf _ _ eY lq iA;let(r,fw,rfl):=b_ aH;rw[iA]at fw;cases fw;nofun;exact(_,de.of e,rfl,_,_,rfl,_,_,rfl,_,_,rfl,rfl,Sub.wQ,bw)
  .have q8:pl≠a:=λz=>by rw[z,a2]at cE;cases cE
   refine(_,_,_,(bk cE) _ _ a2,T.ku,T.Tm,((∅:(2:Nat)<1000)),?_);rw[show c_ (ab "leasts") (V.ref pl) [(p'p (ab "crossing") (V.ref c)),(p'p (ab "many") (V.int (↑rows:Int)))]=[(p'p (ab "crossing") (V.ref c)),(p'p (ab "many") (V.int (↑rows:Int))),(p'p (ab "leasts") (V.ref pl))]from gf [ab "crossing",ab "many"] rfl ∅];exact cC _ _ (λb u U e=>by rw[ax U];exact(bk cE) _ _ (eU _ _ U e),(b'.upd).upd,pl,aM,by rw[ax q8];exact aM,rfl)
 intro fR ba (fs,c7,le,fo,e5,rfl);have hle:le≠a:=bI e5 fo (by intro z;cases z);have oB:=R.wh fs aV;subst aW;exists (λav H'=>c0 a H H'/\aI H'/\∃mo,H' a\(.ins t.f' ak [(p'p (ab "crossing") (V.ref c)),(p'p (ab "many") (V.int (↑rows:Int))),(p'p (ab "leasts") (V.ref le)),(p'p (ab "mosts") (V.ref mo))])/\H' le\(.lst (rows.map λr=>V.int r.lo))/\H' mo\(.lst (rows.map λr=>V.int r.ai))/\av=[~~~a,~~~c,~~~p,none,none]),5
 .nofun;refine((_,aE.of oB.at_),?_);refine dB.nr (xs:=qs.map V.ref) (zs:=rows.map λr=>V.int r.ai) (aE.of oB.at_) m5 (by rw[j9,aO]) (λj v z N aQ aH bw=>?_) (λpl cE=>?_)
  .obtain⟨kf,eY,rfl⟩:=b_ aQ;have aN:j<↑rows:=by rw[<- R.cF];exact(b3.mp eY).1
   have lq:ms[j]?\(ms[j]'(by rw[R.cB];exact aN)):=bq _;have iA:rows[j]?\rows[j]:=bq aN;let(e,em):=oB.al j kf _ _ eY lq iA;let(r,fw,rfl):=b_ aH;rw[iA]at fw;cases fw;nofun;exact(_,de.of e,rfl,_,_,rfl,_,_,rfl,_,_,rfl,rfl,Sub.wQ,bw)
  .have q8:pl≠a:=λz=>by rw[z,fo]at cE;cases cE
   refine(_,_,_,(bk cE) _ _ fo,T.ku,T.XA,((∅:(3:Nat)<1000)),?_);rw[show c_ (ab "mosts") (V.ref pl) [(p'p (ab "crossing") (V.ref c)),(p'p (ab "many") (V.int (↑rows:Int))),(p'p (ab "leasts") (V.ref le))]=[(p'p (ab "crossing") (V.ref c)),(p'p (ab "many") (V.int (↑rows:Int))),(p'p (ab "leasts") (V.ref le)),(p'p (ab "mosts") (V.ref pl))]from gf [ab "crossing",ab "many",ab "leasts"] rfl ∅];exact cC _ _ (λb u U e=>by rw[ax U];exact(bk cE) _ _ (fs _ _ U e),(c7.upd).upd,pl,aM,by rw[ax hle];exact(bk cE) _ _ e5,by rw[ax q8];exact aM,rfl)
 intro km cm (dq,dh,mo,m8,f4,wK,rfl);have tI:mo≠a:=bI wK m8 (by intro z;cases z);have nP:=R.wh dq aV;subst aW;exists (λav H'=>c0 a H H'/\aI H'/\∃dA,H' a\(.ins t.f' ak [(p'p (ab "crossing") (V.ref c)),(p'p (ab "many") (V.int (↑rows:Int))),(p'p (ab "leasts") (V.ref le)),(p'p (ab "mosts") (V.ref mo)),(p'p (ab "members") (V.ref dA))])/\H' le\(.lst (rows.map λr=>V.int r.lo))/\H' mo\(.lst (rows.map λr=>V.int r.ai))/\H' dA\(.lst (ms.map V.ref))/\av=[~~~a,~~~c,~~~p,none,none]),5
 .nofun;refine((_,aE.of nP.at_),?_);refine dB.nr (xs:=qs.map V.ref) (zs:=ms.map V.ref) (aE.of nP.at_) m5 (by rw[j9,aO,R.cB]) (λj v z N aQ aH bw=>?_) (λpl cE=>?_)
  .obtain⟨kf,eY,rfl⟩:=b_ aQ;have aN:j<↑rows:=by rw[<- R.cF];exact(b3.mp eY).1
   have lq:ms[j]?\(ms[j]'(by rw[R.cB];exact aN)):=bq _;have iA:rows[j]?\rows[j]:=bq aN;let(e,em):=nP.al j kf _ _ eY lq iA;let(c3,vm,rfl):=b_ aH;rw[lq]at vm;cases vm;nofun;exact(_,de.of e,rfl,_,_,rfl,_,_,rfl,_,_,rfl,rfl,Sub.wQ,bw)
  .have q8:pl≠a:=λz=>by rw[z,m8]at cE;cases cE
   refine(_,_,_,(bk cE) _ _ m8,T.ku,T.OB,((∅:(4:Nat)<1000)),?_);rw[show c_ (ab "members") (V.ref pl) [(p'p (ab "crossing") (V.ref c)),(p'p (ab "many") (V.int (↑rows:Int))),(p'p (ab "leasts") (V.ref le)),(p'p (ab "mosts") (V.ref mo))]=[(p'p (ab "crossing") (V.ref c)),(p'p (ab "many") (V.int (↑rows:Int))),(p'p (ab "leasts") (V.ref le)),(p'p (ab "mosts") (V.ref mo)),(p'p (ab "members") (V.ref pl))]from gf [ab "crossing",ab "many",ab "leasts",ab "mosts"] rfl ∅];exact cC _ _ (λb u U e=>by rw[ax U];exact(bk cE) _ _ (dq _ _ U e),(dh.upd).upd,pl,aM,by rw[ax hle];exact(bk cE) _ _ f4,by rw[ax tI];exact(bk cE) _ _ wK,by rw[ax q8];exact aM,rfl)
 intro nW cG (eh,fC,dA,p6,fu,FG,fm,rfl);have tB:dA≠a:=bI fm p6 (by intro z;cases z);have xY:=N7 aV eh C;have tb:=R.wh eh aV;subst aW;exists (λav H'=>c0 a H H'/\aI H'/\∃cI,H' a\(.ins t.f' ak [(p'p (ab "crossing") (V.ref c)),(p'p (ab "many") (V.int (↑rows:Int))),(p'p (ab "leasts") (V.ref le)),(p'p (ab "mosts") (V.ref mo)),(p'p (ab "members") (V.ref dA)),(p'p (ab "sorts") (V.ref cI))])/\H' le\(.lst (rows.map λr=>V.int r.lo))/\H' mo\(.lst (rows.map λr=>V.int r.ai))/\H' dA\(.lst (ms.map V.ref))/\H' cI\(.lst (a5 (rows.map (el ds))))/\av=[~~~a,~~~c,~~~p,none,none]),5
 .nofun;refine((_,aE.of tb.at_),?_);refine dB.nr (xs:=qs.map V.ref) (zs:=a5 (rows.map (el ds))) (aE.of tb.at_) m5 (by rw[j9,lc,aO]) (λj v z N aQ aH bw=>?_) (λpl cE=>?_)
  .obtain⟨kf,eY,rfl⟩:=b_ aQ;have aN:j<↑rows:=by rw[<- R.cF];exact(b3.mp eY).1
   have lq:ms[j]?\(ms[j]'(by rw[R.cB];exact aN)):=bq _;have iA:rows[j]?\rows[j]:=bq aN;let(e,em):=tb.al j kf _ _ eY lq iA;unfold a5 at aH;let(y,aJ,rfl):=b_ aH;let(r,fw,rfl):=b_ aJ;rw[iA]at fw;cases fw;let(nm,as6,mH):=wd (bX _ (ct iA));let(d,hd,aar):=I.zH _ (ct iA) nm (by rw[mH];exact m4 ..);let(i,ai):=iH hd;have q_:el ds rows[j]=i_ d:=by
    unfold el;rw[mH];show((jh ds nm).map i_).getD _=_;rw[<- aar,nc eL ai];rfl
   rw[q_]at bw;rw[mH]at em;nofun;exact(_,de.of e,rfl,_,_,rfl,_,_,rfl,_,_,rfl,rfl,Sub.wQ,_,rfl,_,aE.of em,_,cf (j:=0) rfl,c,n,ds,i,d,by rw[aar],xY,ai,(cw d hd).2.1,bw)
  .have q8:pl≠a:=λz=>by rw[z,p6]at cE;cases cE
   refine(_,_,_,(bk cE) _ _ p6,T.ku,T.T1,((∅:(5:Nat)<1000)),?_);rw[show c_ (ab "sorts") (V.ref pl) [(p'p (ab "crossing") (V.ref c)),(p'p (ab "many") (V.int (↑rows:Int))),(p'p (ab "leasts") (V.ref le)),(p'p (ab "mosts") (V.ref mo)),(p'p (ab "members") (V.ref dA))]=[(p'p (ab "crossing") (V.ref c)),(p'p (ab "many") (V.int (↑rows:Int))),(p'p (ab "leasts") (V.ref le)),(p'p (ab "mosts") (V.ref mo)),(p'p (ab "members") (V.ref dA)),(p'p (ab "sorts") (V.ref pl))]from gf [ab "crossing",ab "many",ab "leasts",ab "mosts",ab "members"] rfl ∅];exact cC _ _ (λb u U e=>by rw[ax U];exact(bk cE) _ _ (eh _ _ U e),(fC.upd).upd,pl,aM,by rw[ax hle];exact(bk cE) _ _ fu,by rw[ax tI];exact(bk cE) _ _ FG,by rw[ax tB];exact(bk cE) _ _ fm,by rw[ax q8];exact aM,rfl)
 intro mb fl (dO,hB,cI,mK,oW,Xw,jw,kQ,rfl);have n3:cI≠a:=bI kQ mK (by intro z;cases z);have F3:=R.wh dO aV;have Tz:nA fl dA ms (rows.map (·.mem)):=(jw,by rw[R.cB,aO],λi m x hm ae=>by
  let(r,fw,rfl):=b_ ae;have hW:qs[i]?\(qs[i]'(by rw[R.cF];exact(b3.mp fw).1)):=bq _;exact(F3.al i _ m r hW hm fw).2)
 subst aW;exists (λav H'=>c0 a H H'/\aI H'/\∃aX,H' a\(.ins t.f' ak [(p'p (ab "crossing") (V.ref c)),(p'p (ab "many") (V.int (↑rows:Int))),(p'p (ab "leasts") (V.ref le)),(p'p (ab "mosts") (V.ref mo)),(p'p (ab "members") (V.ref dA)),(p'p (ab "sorts") (V.ref cI)),(p'p (ab "homes") (V.ref aX))])/\H' le\(.lst (rows.map λr=>V.int r.lo))/\H' mo\(.lst (rows.map λr=>V.int r.ai))/\nA H' dA ms (rows.map (·.mem))/\H' cI\(.lst (a5 (rows.map (el ds))))/\H' aX\(.aY (h7 (rows.map (·.mem))))/\av=[~~~a,~~~c,~~~p,none,none]),5
 .nofun;refine⟨_,(_,ak,_,mK,T.ku,T.OB,gb [ab "crossing",ab "many",ab "leasts",ab "mosts",ab "members",ab "sorts"] 4 rfl ∅ rfl),dA,ms,rows.map (·.mem),rfl,Tz,by rw[aO];exact I.ln,λx ae=>?_,λh H1 s1 aha dQ af=>?_⟩
  .let(r,fw,rfl):=cj.mp ae;exact I.hc r fw
  .have PI:h≠a:=bI af (s1 _ _ mK) (by intro z;cases z);refine(_,_,_,s1 _ _ mK,T.ku,T.UO,((∅:(6:Nat)<1000)),?_);rw[show c_ (ab "homes") (V.ref h) [(p'p (ab "crossing") (V.ref c)),(p'p (ab "many") (V.int (↑rows:Int))),(p'p (ab "leasts") (V.ref le)),(p'p (ab "mosts") (V.ref mo)),(p'p (ab "members") (V.ref dA)),(p'p (ab "sorts") (V.ref cI))]=[(p'p (ab "crossing") (V.ref c)),(p'p (ab "many") (V.int (↑rows:Int))),(p'p (ab "leasts") (V.ref le)),(p'p (ab "mosts") (V.ref mo)),(p'p (ab "members") (V.ref dA)),(p'p (ab "sorts") (V.ref cI)),(p'p (ab "homes") (V.ref h))]from gf [ab "crossing",ab "many",ab "leasts",ab "mosts",ab "members",ab "sorts"] rfl ∅];exact cC _ _ (λb u U e=>by rw[ax U];exact s1 _ _ (dO _ _ U e),(aha hB).upd,h,aM,by rw[ax hle];exact s1 _ _ oW,by rw[ax tI];exact s1 _ _ Xw,(Tz.same s1).upd (s1 _ _ mK) (by intro xs z;cases z),by rw[ax n3];exact s1 _ _ kQ,by rw[ax PI];exact af,rfl)
 intro lL eJ (eE,jA,aX,nK,m1,OS,Dr,nG,Nl,rfl);subst aW;exists (λav H'=>c0 a H H'/\aI H'/\∃ch,H ch=none/\H' a\(.ins t.f' ak (me c ↑rows le mo dA cI aX ch))/\H' le\(.lst (rows.map λr=>V.int r.lo))/\H' mo\(.lst (rows.map λr=>V.int r.ai))/\nA H' dA ms (rows.map (·.mem))/\H' cI\(.lst (a5 (rows.map (el ds))))/\H' aX\(.aY (h7 (rows.map (·.mem))))/\jr P w H' ch []/\(ch≠a/\ch≠le/\ch≠mo/\ch≠dA/\ch≠cI/\ch≠aX/\ch∉ms)/\av=[~~~a,~~~c,~~~p,none,none]),5
 .nofun;intro ch o iG ab0;have iP:ch≠a:=λz=>by rw[z,nK]at iG;cases iG
  have apH:H ch=none:=by
   cases e:H ch with
   |none=>rfl
   |some u=>rw[eE _ _ iP e]at iG;cases iG
  have w_:∀{b:Addr} {u:dJ},eJ b\u->ch≠b:=λe z=>by rw[<- z,iG]at e;cases e
  have aoC:ch∉ms:=λz=>by
   let(i,ai):=iH z;have h1:i<↑(rows.map (·.mem)):=by rw[<- Dr.ln];exact(b3.mp ai).1
   exact w_ (Dr.al i ch _ ai (bq h1)) rfl
  have kU:aS eJ (upd eJ ch (.ext (qB ch o))):=bk iG;refine(_,_,_,kU _ _ nK,T.ku,T.abx,((∅:(7:Nat)<1000)),?_);rw[show c_ (ab "changes") (V.ref ch) [(p'p (ab "crossing") (V.ref c)),(p'p (ab "many") (V.int (↑rows:Int))),(p'p (ab "leasts") (V.ref le)),(p'p (ab "mosts") (V.ref mo)),(p'p (ab "members") (V.ref dA)),(p'p (ab "sorts") (V.ref cI)),(p'p (ab "homes") (V.ref aX))]=me c ↑rows le mo dA cI aX ch from gf [ab "crossing",ab "many",ab "leasts",ab "mosts",ab "members",ab "sorts",ab "homes"] rfl ∅];have PI:aX≠a:=bI Nl nK (by intro z;cases z);exact cC _ _ (λb u U e=>by rw[ax U];exact kU _ _ (eE _ _ U e),(jA.upd).upd,ch,apH,aM,by rw[ax hle];exact kU _ _ m1,by rw[ax tI];exact kU _ _ OS,(Dr.same kU).upd (kU _ _ nK) (by intro xs z;cases z),by rw[ax n3];exact kU _ _ nG,by rw[ax PI];exact kU _ _ Nl,aqd ab0 (cT iP) (λxs z=>by rw[kU _ _ nK]at z;cases z),(iP,w_ m1,w_ OS,w_ Dr.at_,w_ nG,w_ Nl,aoC),rfl)
 intro vT gO (dT,rb,ch,iG,yv,f8,aeJ,am2,wX,C1,asn,uK,rfl);subst aW;nofun;have hZ:=I.ln;refine(_,Lx T yv,_,rfl,(),(),?_);rw[sz];refine ey.range (λi σ H'=>(∃x y,σ=[~~~a,~~~c,~~~p,x,y])/\c0 a H H'/\aI H'/\H' a\(.ins t.f' ak (me c ↑rows le mo dA cI aX ch))/\H' le\(.lst (rows.map λr=>V.int r.lo))/\H' mo\(.lst (rows.map λr=>V.int r.ai))/\nA H' dA ms (rows.map (·.mem))/\H' cI\(.lst (a5 (rows.map (el ds))))/\H' aX\(.aY (h7 (rows.map (·.mem))))/\∃kvs,jr P w H' ch kvs/\l0 n ds rows i 0 kvs) ((_,_,rfl),dT,rb,yv,f8,aeJ,am2,wX,C1,[],asn,l0.nil n ds rows) ?_ ?_
 .rintro i σ H' ai bl;ac_rfl
  let((x,y,rfl),pL,IS,D2,Mf,Om,As,HZ,NY,kvs,OT,P6):=bl;have kp:rows[i]?\rows[i]:=bq ai;have sN:ms[i]?\(ms[i]'(by rw[R.cB];exact ai)):=bq _;subst aW;nofun;refine(_,Lx T D2,_,rfl,(),(),?_);rw[sz];refine ey.range (λj σ ar=>(∃y,σ=[~~~a,~~~c,~~~p,some (.int (i:Int)),y])/\c0 a H ar/\aI ar/\ar a\(.ins t.f' ak (me c ↑rows le mo dA cI aX ch))/\ar le\(.lst (rows.map λr=>V.int r.lo))/\ar mo\(.lst (rows.map λr=>V.int r.ai))/\nA ar dA ms (rows.map (·.mem))/\ar cI\(.lst (a5 (rows.map (el ds))))/\ar aX\(.aY (h7 (rows.map (·.mem))))/\∃kvs,jr P w ar ch kvs/\l0 n ds rows i j kvs) ((_,rfl),pL,IS,D2,Mf,Om,As,HZ,NY,kvs,OT,P6) ?_ ?_
  .rintro j σ ar aN bl;ac_rfl
   let((y,rfl),jz,zB,uR,xI,GV,p0,Cw,GQ,kvs,B0,By):=bl;have iA:rows[j]?\rows[j]:=bq aN;have lq:ms[j]?\(ms[j]'(by rw[R.cB];exact aN)):=bq _;have adW:=p0.al i _ _ sN (by rw[dF,kp];rfl);have arz:=p0.al j _ _ lq (by rw[dF,iA];rfl);have t9:=cf (xs:=ms.map V.ref) (j:=i) (by rw[dF,sN];rfl);have JL:=cf (xs:=ms.map V.ref) (j:=j) (by rw[dF,lq];rfl);subst aW;simp only[gz,jM,jF,tj];by_cases qd:i=j
   .refine d8 false (λQ a9=>?_) (λz=>nomatch z) (λ_=>?_)
    .nofun;rw[decide_eq_true ()];exact a9
    .simp only[iR];subst qd;exact((_,rfl),jz,zB,uR,xI,GV,p0,Cw,GQ,kvs,B0,By.skip)
   .refine d8 true (λQ a9=>?_) (λ_=>?_) (λz=>nomatch z)
    .nofun;rw[decide_eq_false ()];exact a9
    .nofun;let(iP,ah',aiC,amH,anj,aiV,akn):=uK;refine(_,KX T uR,_,rfl,_,aE.of p0.at_,_,t9,_,KX T uR,_,rfl,_,aE.of p0.at_,_,JL,c,n,ds,_,_,_,_,rfl,N7 aV jz C,a0,cw,adW,arz,I.zH _ (ct kp),I.zH _ (ct iA),I.hc _ (ct kp),I.hc _ (ct iA),zB,λv aQ=>?_);refine(_,Sa T uR,∅,λiZ qg=>(ch,rfl,kvs,Of B0 (bk qg),stK i j,(show upd ar iZ (.tup [V.int (i:Int),V.int (j:Int)]) iZ\(dJ.tup [V.int (i:Int),V.int (j:Int)])from aM),fW (show ↑kvs<=100 by have:=By.1;omega) ∅,λo Px=>?_));have tA:aS ar (upd ar iZ (.tup [V.int (i:Int),V.int (j:Int)])):=bk qg;refine((_,rfl),λb u U e=>by rw[ax (du e iG)];exact tA _ _ (jz _ _ U e),(zB.upd).upd,by rw[ax (cT iP)];exact tA _ _ uR,by rw[ax (cT ah')];exact tA _ _ xI,by rw[ax (cT aiC)];exact tA _ _ GV,(by rw[ax (cT amH)];exact tA _ _ p0.at_,p0.ln,λk m x hm ae=>by rw[ax (λz=>akn (by rw[<- z];exact ct hm))];exact tA _ _ (p0.al k m x hm ae)),by rw[ax (cT anj)];exact tA _ _ Cw,by rw[ax (cT aiV)];exact tA _ _ GQ,_,Px,By.put kp iA aQ)
  .rintro σ ar bl;ac_rfl
   let((y,rfl),jz,zB,uR,xI,GV,p0,Cw,GQ,kvs,B0,By):=bl;subst aW;exact((_,_,rfl),jz,zB,uR,xI,GV,p0,Cw,GQ,kvs,B0,By.next hZ)
 .rintro σ H' bl;ac_rfl
  let((x,y,rfl),pL,IS,D2,Mf,Om,As,HZ,NY,kvs,OT,P6):=bl;subst aW;exact q _ pL IS (ak,le,mo,dA,cI,aX,ch,ms,kvs,D2,N7 aV pL C,Mf,Om,As,HZ,NY,OT,P6)
noncomputable def vD(ds:List bh):List (List Str)->Nat->List ST->Except (Nat×Nat) (List ST)
 |[],_,rows=>.ok rows
 |ws::r,i,rows=>if ↑rows=6 then .error (p'p i 0)else match Ps ds rows ws with
  | .error k=>.error (p'p i k)
  | .ok s=>vD ds r (i+1) (rows++[s])
def wS(P:Program)(w:World)(t:bO):bW:=λvs H Q _=>∃c n ds x rows,vs=[⇑c,.str x]/\fz t H c n ds/\0<n/\A6 ds/\(∀d∈ds,d.name≠ab "")/\↑x<=20000/\↑(ib x)<=100/\(∀r∈ib x,r≠[]/\↑r<=1000/\∀y∈r,↑y<=1000)/\aI H /\
 vD ds (ib x) 0 []=.ok rows/\h3 ds rows=[]/\vW ds rows=none/\x6 n ds rows=none/\∀a H',aS H H'->aI H'->hs P w t H' a c n ds rows->Q ⇑a H'
def aqq{left ws ms:List Str}(h:m_ ds left ws=.ok ms):ms≠[]/\ms.Nodup/\∀x∈ms,x∈left:=by
 unfold m_ at h;split at h
 .rename_i hT;let(af,(more,aj),bb):=XH h (by simp);refine(by rw[aj];simp,af,λx ae=>?_);rcases bb x ae with z|z
  .rw [eg.mp z];exact hT
  .exact (nu.mp z).1
 .cases h
theorem SX{rows:List ST}(h:Ps ds rows ws=.ok s):s.mem≠[]/\s.mem.Nodup/\∀x∈s.mem,x∈h3 ds rows:=by
 unfold Ps at h;split at h
 .cases aq:lO (aF ws 1) 1 60 with
  |none=>rw[aq]at h;cases h
  | some lo=>
   rw[aq]at h;replace h:((lO (aF ws 2) lo 60).elim (.error 2) λai=>match m_ ds (h3 ds rows) ws with|.error k=>.error k|.ok ms=>.ok ((lo,ai,ms):ST))=sO s:=h;cases aA:lO (aF ws 2) lo 60 with
   |none=>rw[aA]at h;cases h
   | some ai=>
    rw[aA]at h;replace h:(match m_ ds (h3 ds rows) ws with|.error k=>.error k|.ok ms=>.ok ((lo,ai,ms):ST))=sO s:=h;cases bG:m_ ds (h3 ds rows) ws with
    |error k=>rw[bG]at h;cases h
    |ok ms=>
     rw[bG]at h;replace h:sO ((lo,ai,ms):ST)=sO (ε:=Nat) s:=h;cases h;exact aqq bG
 .cases h
def rM.snoc{rows:List ST}(I:rM ds rows)(aG:↑ds<=12)(jw:↑rows≠6)(h:Ps ds rows ws=.ok s):rM ds (rows++[s])/\↑s.mem<=12:=by
 let(af,aj,bb):=SX h;have Yp:↑s.mem<=12:=by
  have:=ww aj bb;have dt:↑(h3 ds rows)<=↑ds:=by
   unfold h3;exact c9 (y6 ..) (by rw[aO];exact b1 _)
  omega
 refine((?_,λr ao=>?_,λr ao x ae=>?_),Yp)
 .have:=I.ln;rw[dx];show ↑rows+1<=6;omega
 .rcases ff.mp ao with z|z
  .exact I.hc r z
  .rw [eg.mp z];exact Yp
 .rcases ff.mp ao with z|z
  .exact I.zH r z x ae
  .rw [eg.mp z]at ae;let(d,hd,e):=cj.mp (nu.mp (bb x ae)).1;exact(d,hd,e)
theorem V0{xs:List Str}{qs:List Addr}(h:xs≠[]):a5 xs≠qs.map V.ref:=λe=>by
 let(y,r,rfl):=wd h;cases qs with
 |nil=>cases e
 |cons a b=>injection e with aq _;cases aq
def js.snoc{p x m:Addr}{rows:List ST}(R:js H p qs ms rows)(ae:H x\(OA s m))(hm:H m\(.lst (a5 s.mem)))(bX:∀r∈rows,r.mem≠[])(aC:s.mem≠[]):js (upd H p (.lst (qs.map V.ref++[V.ref x]))) p (qs++[x]) (ms++[m]) (rows++[s]):=by
 have kt:∀{b:Addr} {xs:List V},H b\(.tup xs)->upd H p (.lst (qs.map V.ref++[V.ref x])) b\(.tup xs):=λe=>by rw[ax (bI e R.at_ (by intro z;cases z))];exact e
 have aaA:∀{b:Addr} {xs:List Str},H b\(.lst (a5 xs))->xs≠[]->upd H p (.lst (qs.map V.ref++[V.ref x])) b\(.lst (a5 xs)):=λe h=>by
  rw[ax (bI e R.at_ (λz=>by injection z with z;exact V0 h z))];exact e
 refine(by rw[aM,fg];rfl,by rw[dx,dx,R.cF];rfl,by rw[dx,dx,R.cB];rfl,λi q c3 r a b c=>?_);have cF:=R.cF;have cB:=R.cB;rcases j4 c with⟨ck,cP⟩|⟨ck,rfl⟩
 .rcases j4 a with⟨_,a2⟩|⟨a1,_⟩
  .rcases j4 b with⟨_,gn⟩|⟨hj,_⟩
   .let(aq,aA):=R.al i q c3 r a2 gn cP;exact(kt aq,aaA aA (bX r (ct cP)))
   .omega
  .omega
 .rcases j4 a with⟨a1,_⟩|⟨_,rfl⟩
  .omega
  .rcases j4 b with⟨hj,_⟩|⟨_,rfl⟩
   .omega
   .exact (kt ae,aaA hm aC)
theorem afS:cD P base T 7 t.Ba t.yH Ae (wS P w t):=by
 have J1:cz P w K mg base dy 6 t.AN t.y0 ["text"] (Nr t):=(TN T).mono ∅;have acm:cz P w K mg base dy 6 t.Ed t.BU F6 (Uc t):=akg T;have ase:cz P w K mg base dy 6 t.Hr t.DN l2 (ZY t):=(aeX T).mono ∅;have adB:cz P w K mg base dy 6 t.Cg t.DE l2 (W9 t):=(agF T).mono ∅;have agm:cz P w K mg base dy 6 t.CN t.FJ l2 (Q4 t):=(apS T).mono ∅;have agK:cz P w K mg base dy 5 t.BE t.Cf CO (Ww P w t):=ahg T;exists T.IX.ok Oe,9
 let(c,n,ds,x,DV,rfl,C,a0,cw,bX,mZ,hZ,rn,bH,anh,hle,eD,cu,lr):=h;have Im:∀d∈ds,d.k<3/\d.name≠ab "":=λd hd=>((cw d hd).2.1,bX d hd)
 refine(_,(aP (b9 (i:=2) Oe.aD (f_ aB))
   (aP (fh fK rfl (eQ (cJ J1 ao T.RB T.BS.bM T.RN (ah (J 1) aB))) (cy (i:=3) Oe.aD) (aP (d5 (dk wf (gC jn rfl T.ul je (ah (J 2) aB)) (nd rfl T.ab7 T.ag_) (cL _)) (a4 qK) eV)
   (a4 (dV (gq hJ kY lT kW (J 2) (ah (cJ acm ao T.aid T.P7.bM T.af_ (ah (J 3) (ah (J 0) (ah (J 2) aB)))) aB))))))
   (aP (dV (cJ ase ao T.anq T.Jh.bM T.ac1 (ah (J 0) (ah (J 2) aB))))
   (aP (dV (cJ adB ao T.aeO T.Mw.bM T.akL (ah (J 0) (ah (J 2) aB))))
   (aP (dV (cJ agm ao T.akE T.OE.bM T.amB (ah (J 0) (ah (J 2) aB))))
   (a4 (cA (s7 T.amC agK ao rfl T.ab3 T.ape .nil cv (ah (J 0) (ah (J 2) aB)))))))))),?_)
 exists (λav H'=>aS H H'/\aI H'/\∃d3,H d3=none/\H' d3\(.lst [])/\av=[~~~c,some (.str x),~~~d3,none]),5
 .nofun;exact(e0 _,λd3 hZ=>cC _ _ (bk hZ,bH.upd,d3,hZ,aM,rfl))
 intro fO H1 (s1,b8,d3,Ei,dp,rfl);subst aW;simp only[dd];refine Db (λav H'=>aS H H'/\aI H'/\(∃qs ms rows,js H' d3 qs ms rows/\rM ds rows/\(∀r∈rows,r.mem≠[])/\rows=DV)/\∃fs,av=[~~~c,some (.str x),~~~d3,fs]) (λfx cC nT _ _=>?_) ?_
 .nofun;refine(x,rfl,mZ,λr ao=>(rn r ao).2,b8,λp ar Bb vZ RR=>?_);let(mv,ag,gv,m5,pT):=RR;refine(p,rfl,(_,aE.of ag),?_);have apJ:p≠d3:=λz=>by rw[z,dp]at gv;cases gv
  refine ey.list (xs:=mv.map V.ref) (λi σ H'=>(∃y,σ=[~~~c,some (.str x),~~~d3,y])/\aI H'/\aS H H'/\H' p\(.lst (mv.map V.ref)) /\
   (∃qs ms rows,js H' d3 qs ms rows/\rM ds rows/\(∀r∈rows,r.mem≠[])/\vD ds ((ib x).drop i) i rows=.ok DV) /\
   ∀(j:Nat) (q:Addr) (r:List Str),i<=j->mv[j]?\q->(ib x)[j]?\r->dC t H' q ((j:Nat):Int) r 0/\H q=none) ?_ ?_ ?_ ?_
  .refine ((_,rfl),vZ,s1.trans Bb,ag,([],[],[],(Bb _ _ dp,rfl,rfl,λi q m r h=>by simp at h),(e0 _,λr h=>by simp at h,λr h=>by simp at h),λr h=>by simp at h,anh),λj q r _ af aj=>?_);let(p9,eY):=pT j q r af aj;exact(p9,s1.free eY)
  .rintro i σ H' ai bl;ac_rfl
   let(_,_,_,h,_):=bl;subst aW;exact aE.of h
  .rintro i v σ H' aQ bl;ac_rfl
   let((y,rfl),mf,rd,j_,(qs,ms,rows,vc,gF,tB,cV),Rs):=bl;let(q,ay,rfl):=b_ aQ;let(ai,_):=b3.mp ay;have lF:i<↑(ib x):=()
   have ao:(ib x)[i]?\(ib x)[i]:=bq lF;let(pv,j9):=Rs i q _ (b1 _) ay ao;let(_,CQ,ats,hW,Ef):=id pv;subst aW;rw[uJ lF]at cV;unfold vD at cV;simp only[gz,dd,jM,jF];refine Gi (λav ba=>ba=H'/\↑rows≠6/\av=[~~~c,some (.str x),~~~d3,~~~q]) (λatD Px=>?_) λsv aW=>?_
   .refine d8 (decide (↑rows=6)) (λjc a9=>?_) (λU=>?_) (λU=>?_)
    .nofun;refine(_,.inl (aE.of vc.at_),?_);rw[aO,vc.cF];rw[show decide ((↑rows:Int)=6)=decide (↑rows=6)from decide_eq_decide.mpr ()];exact a9
    .have U:=of_decide_eq_true U;rw[if_pos U]at cV;cases cV
    .simp only[iR];exact Px _ _ (rfl,of_decide_eq_false U,rfl)
   intro fR ba (rfl,jw,rfl);subst aW;rw[if_neg jw]at cV;cases lU:Ps ds rows (ib x)[i]with
   |error k=>rw[lU]at cV;cases cV
   | ok s=>
    rw[lU]at cV;replace cV:vD ds ((ib x).drop (i+1)) (i+1) (rows++[s])=.ok DV:=cV;nofun;refine(.inl (_,aE.of vc.at_),q,_,(ib x)[i],c,n,ds,d3,qs,ms,rows,s,rfl,pv,C.same rd,Im,vc,gF.ln,gF.hc,mf,lU,?_);intro gm m cm s4 K7 acR JX auJ ath;have GG:=(SX lU).1;have nP:=vc.Bt s4 pv;have ap6:aS H cm:=zM rd s4 j9;have an0:=gF.snoc C.1.2 jw lU;have CZ:=gF.ln;refine(_,nP.at_,fW (show ↑(qs.map V.ref)<=6 by rw[aO,nP.cF];exact CZ) ∅,(_,rfl),K7.upd,ap6.gW Ei,by rw[ax apJ];exact s4 _ _ (bI j_ hW (by intro z;cases z)) j_,(qs++[gm],ms++[m],rows++[s],nP.snoc acR JX tB GG,an0.1,λr fw=>?_,cV),λj cW r aN af aj=>?_)
    .rcases ff.mp fw with z|z
     .exact tB r z
     .rw [eg.mp z];exact GG
    .let(p9,eY):=Rs j cW r () af aj;have tb:=p9.yF s4 (Np p9 pv ()) pv.ins;refine(?_,eY);let(aH,hG,bc,aq,aA):=tb;exact(aH,hG,bc,by rw[ax (bI aq nP.at_ (by intro z;cases z))];exact aq,by rw[ax (bI aA nP.at_ (λz=>by injection z with z;exact V0 (rn r (ct aj)).1 z))];exact aA)
  .rintro σ H' bl;ac_rfl
   let((y,rfl),mf,rd,j_,(qs,ms,rows,vc,gF,tB,cV),Rs):=bl;subst aW;rw[aO,m5,w9]at cV;replace cV:(sO rows:Except (Nat×Nat) (List ST))=.ok DV:=cV;exact cC _ _ (rd,mf,(qs,ms,rows,vc,gF,tB,Except.ok.inj cV),_,rfl)
 rintro cO ar bl;ac_rfl
 let(s2,b',(qs,ms,rows,fq,bz,tB,gV),fs,rfl):=bl;subst aW;subst gV;have Eo:=C.same s2;nofun;refine(c,n,ds,d3,qs,ms,rows,rfl,Eo,fq,bz,hle,λba s3 agM=>?_);have c7:=agM b';have abW:=s2.trans s3;refine(c,n,ds,d3,qs,ms,rows,rfl,Eo.same s3,fq.same s3,bz,hle,eD,λcm s4 apD=>?_);have dh:=apD c7;have Z1:=abW.trans s4;refine(c,n,ds,d3,qs,ms,rows,rfl,C.same Z1,a0,(fq.same s3).same s4,bz,dh,cu,λcG s5 aou a ak aV Af auE=>?_);have fC:=aou dh;have Ms:=Z1.trans s5;have sc:aS cG (upd (upd cG ak (.own a)) a (.ins t.f' ak [])):=((aS.refl cG).gW Af).gW aV;refine(a,ak,c,n,ds,d3,qs,ms,rows,rfl,aM,(C.same Ms).same sc,a0,cw,(((fq.same s3).same s4).same s5).same sc,bz,tB,(fC.upd).upd,λfl f9 hB dU=>(rfl,?_));exact lr a fl (zM (Ms.trans sc) f9 (Ms.free aV)) hB dU
def akQ(P:Program)(w:World)(t:bO):bW:=λvs H Q _=>∃a c n ds rows,∃i j:Nat,∃r s,vs=[⇑a,.int i,.int j]/\hs P w t H a c n ds rows/\rows[i]?\r/\rows[j]?\s/\i≠j/\aI H/\∀v,tQ (nf n ds r.mem s.mem) v->Q (.int v) H
def akq(P:Program)(w:World)(t:bO):bW:=λvs H Q _=>∃a c n ds rows,∃i j:Nat,∃r s,vs=[⇑a,.int i,.int j]/\hs P w t H a c n ds rows/\rows[i]?\r/\rows[j]?\s/\i≠j/\∀v H',aS H H'->tQ (nf n ds r.mem s.mem) v->Q (.int v) H'
def WP:cD P base T 1 t.Jx t.Jn FI (akQ P w t):=by
 refine cz.forget (sp:=akq P w t) ?_ λvs H Q E h=>?_
 .exists T.G3.ok ajM,9
  let(a,c,n,ds,rows,i,j,r,s',rfl,(ak,le,mo,dA,cI,aX,ch,ms,kvs,aq,_,_,_,_,_,_,amm,apq),ai,aN,qd,q):=h;have bp:=gI ao;let(v,aQ,GN):=apq.2 i j r s' ai aN qd (.inl (b3.mp ai).1);refine(_,(a4 (cA (alh bp (bA (J 0) rfl) (mj (ah (J 1) (ah (J 2) aB))) (λ_ _=>rfl)))),?_);nofun;exact(_,Sa T aq,∅,λp ag=>(ch,rfl,kvs,Of amm (bk ag),stK i j,aM,_,aQ,q v _ (bk ag) GN))
 .let(a,c,n,ds,rows,i,j,r,s',rfl,dU,ai,aN,qd,bH,q):=h;exact(bH,a,c,n,ds,rows,i,j,r,s',rfl,dU,ai,aN,qd,λv H' bo aQ=>(bo,q v aQ))
noncomputable abbrev nx:List Str:=[ab "stages",ab "showing",ab "lasted",ab "left",ab "sought",ab "gone",ab "waiting",ab "picked"]
noncomputable def gg(aZ:Addr)(dm:V)(aL lf bR dX:Int)(aF a8:Addr):List (Str×V):=[(p'p (ab "stages") (V.ref aZ)),(p'p (ab "showing") dm),(p'p (ab "lasted") (V.int aL)),(p'p (ab "left") (V.int lf)),(p'p (ab "sought") (V.int bR)),(p'p (ab "gone") (V.int dX)),(p'p (ab "waiting") (V.ref aF)),(p'p (ab "picked") (V.ref a8))]
def j1(aZ:Addr)(dm:V)(aL lf bR dX:Int)(aF a8:Addr):(gg aZ dm aL lf bR dX aF a8).map (·.1)=nx:=rfl
def aaF(aZ:Addr)(dm:V)(aL lf bR dX:Int)(aF a8:Addr)(v:V):c_ (ab "showing") v (gg aZ dm aL lf bR dX aF a8)=gg aZ v aL lf bR dX aF a8:=by
 unfold gg;simp only[c_];rw[if_neg ∅];rfl
def Tp(aZ:Addr)(dm:V)(aL lf bR dX:Int)(aF a8:Addr)(v:Int):c_ (ab "lasted") (.int v) (gg aZ dm aL lf bR dX aF a8)=gg aZ dm v lf bR dX aF a8:=by
 unfold gg;simp only[c_];rw[if_neg ∅,if_neg ∅];rfl
def agD(aZ:Addr)(dm:V)(aL lf bR dX:Int)(aF a8:Addr)(v:Int):c_ (ab "left") (.int v) (gg aZ dm aL lf bR dX aF a8)=gg aZ dm aL v bR dX aF a8:=by
 unfold gg;simp only[c_];rw[if_neg ∅,if_neg ∅,if_neg ∅];rfl
def EQ(aZ:Addr)(dm:V)(aL lf bR dX:Int)(aF a8:Addr)(v:Int):c_ (ab "sought") (.int v) (gg aZ dm aL lf bR dX aF a8)=gg aZ dm aL lf v dX aF a8:=by
 unfold gg;simp only[c_];rw[if_neg ∅,if_neg ∅,if_neg ∅,if_neg ∅];rfl
def aaZ(aZ:Addr)(dm:V)(aL lf bR dX:Int)(aF a8:Addr)(v:Int):c_ (ab "gone") (.int v) (gg aZ dm aL lf bR dX aF a8)=gg aZ dm aL lf bR v aF a8:=by
 unfold gg;simp only[c_];rw[if_neg ∅,if_neg ∅,if_neg ∅,if_neg ∅,if_neg ∅];rfl
section
variable{w:World}{K:bg}{mg:Str->Option Value}{t:bO}{H:au}{a c ak le mo dA cI aX ch:Addr}{k:Nat}
def F5(T:Txt w K mg t)(e:H a\(.ins t.f' ak (me c k le mo dA cI aX ch))):fH K H a (ab "crossing") ⇑c:=(_,ak,_,e,T.ku,T.Wn,gb rR 0 (tw ..) ∅ rfl)
def yt(T:Txt w K mg t)(e:H a\(.ins t.f' ak (me c k le mo dA cI aX ch))):fH K H a (ab "sorts") ⇑cI:=(_,ak,_,e,T.ku,T.T1,gb rR 5 (tw ..) ∅ rfl)
def Fu(T:Txt w K mg t)(e:H a\(.ins t.f' ak (me c k le mo dA cI aX ch))):fH K H a (ab "homes") ⇑aX:=(_,ak,_,e,T.ku,T.UO,gb rR 6 (tw ..) ∅ rfl)
end
def oa(aZ:Addr)(dm:V)(aL lf bR dX:Int)(aF a8:Addr)(h:nx.contains m=false):(gg aZ dm aL lf bR dX aF a8).lookup m=none:=w2 nx (j1 ..) h
section
variable{w:World}{K:bg}{mg:Str->Option Value}{t:bO}{H:au}{k aZ ak aF a8:Addr}{dm:V}{aL lf bR dX:Int}
def kq(T:Txt w K mg t)(e:H k\(.ins t.dE ak (gg aZ dm aL lf bR dX aF a8))):fH K H k (ab "stages") ⇑aZ:=(_,ak,_,e,T.ac,T.RK,gb nx 0 (j1 ..) ∅ rfl)
def r3(T:Txt w K mg t)(e:H k\(.ins t.dE ak (gg aZ dm aL lf bR dX aF a8))):fH K H k (ab "showing") dm:=(_,ak,_,e,T.ac,T.Ec,gb nx 1 (j1 ..) ∅ rfl)
def BQ(T:Txt w K mg t)(e:H k\(.ins t.dE ak (gg aZ dm aL lf bR dX aF a8))):fH K H k (ab "waiting") ⇑aF:=(_,ak,_,e,T.ac,T.aaQ,gb nx 6 (j1 ..) ∅ rfl)
def PQ(T:Txt w K mg t)(e:H k\(.ins t.dE ak (gg aZ dm aL lf bR dX aF a8))):fH K H k (ab "picked") ⇑a8:=(_,ak,_,e,T.ac,T.Zh,gb nx 7 (j1 ..) ∅ rfl)
def abP(T:Txt w K mg t)(e:H k\(.ins t.dE ak (gg aZ dm aL lf bR dX aF a8))):fH K H k (ab "lasted") (.int aL):=(_,ak,_,e,T.ac,T.Cz,gb nx 2 (j1 ..) ∅ rfl)
def Jo(T:Txt w K mg t)(e:H k\(.ins t.dE ak (gg aZ dm aL lf bR dX aF a8))):fH K H k (ab "left") (.int lf):=(_,ak,_,e,T.ac,T.OW,gb nx 3 (j1 ..) ∅ rfl)
def zd(T:Txt w K mg t)(e:H k\(.ins t.dE ak (gg aZ dm aL lf bR dX aF a8))):fH K H k (ab "sought") (.int bR):=(_,ak,_,e,T.ac,T.Oa,gb nx 4 (j1 ..) ∅ rfl)
def LW(T:Txt w K mg t)(e:H k\(.ins t.dE ak (gg aZ dm aL lf bR dX aF a8))):fH K H k (ab "gone") (.int dX):=(_,ak,_,e,T.ac,T.Ff,gb nx 5 (j1 ..) ∅ rfl)
end
section
variable{w:World}{K:bg}{mg:Str->Option Value}{t:bO}{H:au}{a c ak le mo dA cI aX ch:Addr}{k:Nat}
def anr(T:Txt w K mg t)(e:H a\(.ins t.f' ak (me c k le mo dA cI aX ch))):fH K H a (ab "leasts") ⇑le:=(_,ak,_,e,T.ku,T.Tm,gb rR 2 (tw ..) ∅ rfl)
def acx(T:Txt w K mg t)(e:H a\(.ins t.f' ak (me c k le mo dA cI aX ch))):fH K H a (ab "mosts") ⇑mo:=(_,ak,_,e,T.ku,T.XA,gb rR 3 (tw ..) ∅ rfl)
end
theorem hs.same{w:World}{t:bO}{a c:Addr}{n:Int}{rows:List ST}(h:hs P w t H a c n ds rows)(s:aS H H'):hs P w t H' a c n ds rows:=by
 let(ak,le,mo,dA,cI,aX,ch,ms,kvs,aq,aA,bG,eM,gk,ez,fE,k',lE):=h;exact(ak,le,mo,dA,cI,aX,ch,ms,kvs,s _ _ aq,aA.same s,s _ _ bG,s _ _ eM,gk.same s,s _ _ ez,s _ _ fE,Of k' s,lE)
noncomputable abbrev e':Str:=ab "trams"
noncomputable abbrev lR:Str:=ab "others"
structure gy where
 dm:Option Nat
 aL:Int
 lf:Nat
 bR:Nat
 dX:Int
 wt:List Str
 pt:Int
 po:Int
noncomputable def qY:Option Nat->V
 |none=>.b5
 |some i=>.int (i:Nat)
noncomputable def gX(xs:List Str):List (Key×V):=xs.map λx=>(p'p (bx x) (V.bC true))
noncomputable def m'(a b:Int):List (Key×V):=[(p'p (bx e') (.int a)),(p'p (bx lR) (.int b))]
def ft(t:bO)(H:au)(k aZ aF a8:Addr)(s:gy):Prop:=aF≠a8/\∃ak,H k\(.ins t.dE ak (gg aZ (qY s.dm) s.aL s.lf s.bR s.dX aF a8))/\H aF\(.aY (gX s.wt))/\H a8\(.aY (m' s.pt s.po))
def ft.same{t:bO}{k aZ aF a8:Addr}(h:ft t H k aZ aF a8 s)(e:aS H H'):ft t H' k aZ aF a8 s:=by
 let(h0,ak,af,aj,bb):=h;exact(h0,ak,e _ _ af,e _ _ aj,e _ _ bb)
def hS(k aF a8:Addr)(H H':au):Prop:=∀b u,b≠k->b≠aF->b≠a8->H b\u->H' b\u
def hS.trans{k aF a8:Addr}(a:hS k aF a8 H H1)(b:hS k aF a8 H1 ar):hS k aF a8 H ar:=λc u x y z e=>b c u x y z (a c u x y z e)
def hS.of{k aF a8:Addr}(a:aS H H1):hS k aF a8 H H1:=λc u _ _ _ e=>a c u e
def hS.yU{k aF a8:Addr}(a:hS k aF a8 H H1)(s:aS bU H)(af:bU k=none)(aj:bU aF=none)(bb:bU a8=none):aS bU H1:=λc u e=>a c u (du e af) (du e aj) (du e bb) (s c u e)
def apt:uf [] [(p'p (bx e') (V.int (-1))),(p'p (bx lR) (V.int (-1)))]=m' (-1) (-1):=by
 have h:(bx e':Key)≠bx lR:=λz=>absurd (pP z) ∅
 simp[uf,d0,m',h]
def aaY(h:s=e'\/s=lR):d0 (m' a b) (bx s) (.int v)=m' (if s=e' then v else a) (if s=e' then b else v):=by
 have af:e'≠lR:=∅
 rcases h with rfl|rfl
 .simp [d0,m',af,af.symm]
 .simp [d0,m',af,af.symm]
def ajS(h:s=e'\/s=lR):c5 (m' a b) (bx s)\(.int (if s=e' then a else b)):=by
 have af:e'≠lR:=∅
 rcases h with rfl|rfl
 .simp [c5,m',af,af.symm]
 .simp [c5,m',af,af.symm]
theorem aln(xs:List Str)(x:Str):(c5 (gX xs) (bx x)).isSome=decide (x∈xs):=by
 rw[m3,decide_eq_true_eq]
 induction xs with
 |nil=>simp[gX,c5]
 | cons y ys cp=>
  by_cases c:y=x
  .simp [gX,c5,c]
  .have c':x≠y:=λz=>c z.symm
   simp only[gX,c5,e1,oL]at cp⊢;simp[c,c']at cp⊢
   try exact cp
noncomputable def BC(ds:List bh)(r:ST):gy:=(some 0,1,0,0,0,[],if el ds r=e' then 0 else -1,if el ds r=e' then -1 else 0)
noncomputable def w0(rows:List ST)(i:Nat)(x:Str):Str:=if mh rows x\i then ab "free" else ab "stop"
section
variable(P:Program)(w:World)
def T3(t:bO):bW:=λvs H Q _=>∃k ak aZ c n ds rows r,vs=[⇑k,⇑aZ]/\H k\(.ins t.dE ak [])/\hs P w t H aZ c n ds rows/\rows[0]?\r/\(el ds r=e'\/el ds r=lR)/\aI H/\∀aF a8 H',c0 k H H'->aI H'->H aF=none->H a8=none->ft t H' k aZ aF a8 (BC ds r)->Q .b5 H'
def ajv(t:bO):bW:=λvs H Q _=>∃k aZ aF a8 s,∃i:Nat,∃c n ds rows,∃d:bh,vs=[⇑k,.str d.name]/\ft t H k aZ aF a8 s/\s.dm\i/\hs P w t H aZ c n ds rows/\told rows d.name=true/\Q (.str (w0 rows i d.name)) H
end
theorem aga:cD P base T 1 t.Bg t.Ci qZ (T3 P w t):=by
 exists T.abe.ok aq1,9
 let(k,ak,aZ,c,n,ds,rows,r,rfl,az,dU,h0,n3,bH,q):=h;let(kH,le,mo,dA,cI,aX,ch,ms,kvs,aq,C,bG,eM,gk,ez,fE,k',lE):=dU;have bp:=gI ao;refine(_,(aP (e6 (J 0) (J 1) rfl)
   (aP (e6 (J 0) aK rfl)
   (aP (e6 (J 0) aK rfl)
   (aP (e6 (J 0) aK rfl)
   (aP (e6 (J 0) aK rfl)
   (aP (e6 (J 0) aK rfl)
   (aP (e6 (J 0) sf rfl)
   (aP (e6 (J 0) (ant (Z9 di (Fb Em aK) (Z9 di (Fb Em aK) ai2)) rfl rfl (by simp) ∅) rfl)
   (a4 (mW bp (bA (J 0) rfl) (b7 dI (bA (J 1) rfl) aK) aK rfl)))))))))),?_)
 exists (λav H'=>c0 k H H'/\aI H'/\H' k\(.ins t.dE ak [(p'p (ab "stages") (V.ref aZ))])/\av=[~~~k,~~~aZ]),5
 .nofun;refine(_,_,_,az,T.ac,T.RK,((∅:(0:Nat)<1000)),?_);rw[show c_ (ab "stages") (V.ref aZ) ([]:List (Str×V))=[(p'p (ab "stages") (V.ref aZ))]from gf [] rfl ∅];exact cC _ _ (λb u U e=>by rw[ax U];exact e,bH.upd,aM,rfl)
 intro fO H1 (c2,b8,a1,rfl);subst aW;exists (λav H'=>c0 k H H'/\aI H'/\H' k\(.ins t.dE ak [(p'p (ab "stages") (V.ref aZ)),(p'p (ab "showing") (V.int 0))])/\av=[~~~k,~~~aZ]),5
 .nofun;refine(_,_,_,a1,T.ac,T.Ec,((∅:(1:Nat)<1000)),?_);rw[show c_ (ab "showing") (V.int 0) ([(p'p (ab "stages") (V.ref aZ))]:List (Str×V))=[(p'p (ab "stages") (V.ref aZ)),(p'p (ab "showing") (V.int 0))]from gf [ab "stages"] rfl ∅];exact cC _ _ (λb u U e=>by rw[ax U];exact c2 _ _ U e,b8.upd,aM,rfl)
 intro cO ar (eU,b',a2,rfl);subst aW;exists (λav H'=>c0 k H H'/\aI H'/\H' k\(.ins t.dE ak [(p'p (ab "stages") (V.ref aZ)),(p'p (ab "showing") (V.int 0)),(p'p (ab "lasted") (V.int 1))])/\av=[~~~k,~~~aZ]),5
 .nofun;refine(_,_,_,a2,T.ac,T.Cz,((∅:(2:Nat)<1000)),?_);rw[show c_ (ab "lasted") (V.int 1) ([(p'p (ab "stages") (V.ref aZ)),(p'p (ab "showing") (V.int 0))]:List (Str×V))=[(p'p (ab "stages") (V.ref aZ)),(p'p (ab "showing") (V.int 0)),(p'p (ab "lasted") (V.int 1))]from gf [ab "stages",ab "showing"] rfl ∅];exact cC _ _ (λb u U e=>by rw[ax U];exact eU _ _ U e,b'.upd,aM,rfl)
 intro fR ba (fs,c7,fo,rfl);subst aW;exists (λav H'=>c0 k H H'/\aI H'/\H' k\(.ins t.dE ak [(p'p (ab "stages") (V.ref aZ)),(p'p (ab "showing") (V.int 0)),(p'p (ab "lasted") (V.int 1)),(p'p (ab "left") (V.int 0))])/\av=[~~~k,~~~aZ]),5
 .nofun;refine(_,_,_,fo,T.ac,T.OW,((∅:(3:Nat)<1000)),?_);rw[show c_ (ab "left") (V.int 0) ([(p'p (ab "stages") (V.ref aZ)),(p'p (ab "showing") (V.int 0)),(p'p (ab "lasted") (V.int 1))]:List (Str×V))=[(p'p (ab "stages") (V.ref aZ)),(p'p (ab "showing") (V.int 0)),(p'p (ab "lasted") (V.int 1)),(p'p (ab "left") (V.int 0))]from gf [ab "stages",ab "showing",ab "lasted"] rfl ∅];exact cC _ _ (λb u U e=>by rw[ax U];exact fs _ _ U e,c7.upd,aM,rfl)
 intro km cm (dq,dh,m8,rfl);subst aW;exists (λav H'=>c0 k H H'/\aI H'/\H' k\(.ins t.dE ak [(p'p (ab "stages") (V.ref aZ)),(p'p (ab "showing") (V.int 0)),(p'p (ab "lasted") (V.int 1)),(p'p (ab "left") (V.int 0)),(p'p (ab "sought") (V.int 0))])/\av=[~~~k,~~~aZ]),5
 .nofun;refine(_,_,_,m8,T.ac,T.Oa,((∅:(4:Nat)<1000)),?_);rw[show c_ (ab "sought") (V.int 0) ([(p'p (ab "stages") (V.ref aZ)),(p'p (ab "showing") (V.int 0)),(p'p (ab "lasted") (V.int 1)),(p'p (ab "left") (V.int 0))]:List (Str×V))=[(p'p (ab "stages") (V.ref aZ)),(p'p (ab "showing") (V.int 0)),(p'p (ab "lasted") (V.int 1)),(p'p (ab "left") (V.int 0)),(p'p (ab "sought") (V.int 0))]from gf [ab "stages",ab "showing",ab "lasted",ab "left"] rfl ∅];exact cC _ _ (λb u U e=>by rw[ax U];exact dq _ _ U e,dh.upd,aM,rfl)
 intro nW cG (eh,fC,p6,rfl);subst aW;exists (λav H'=>c0 k H H'/\aI H'/\H' k\(.ins t.dE ak [(p'p (ab "stages") (V.ref aZ)),(p'p (ab "showing") (V.int 0)),(p'p (ab "lasted") (V.int 1)),(p'p (ab "left") (V.int 0)),(p'p (ab "sought") (V.int 0)),(p'p (ab "gone") (V.int 0))])/\av=[~~~k,~~~aZ]),5
 .nofun;refine(_,_,_,p6,T.ac,T.Ff,((∅:(5:Nat)<1000)),?_);rw[show c_ (ab "gone") (V.int 0) ([(p'p (ab "stages") (V.ref aZ)),(p'p (ab "showing") (V.int 0)),(p'p (ab "lasted") (V.int 1)),(p'p (ab "left") (V.int 0)),(p'p (ab "sought") (V.int 0))]:List (Str×V))=[(p'p (ab "stages") (V.ref aZ)),(p'p (ab "showing") (V.int 0)),(p'p (ab "lasted") (V.int 1)),(p'p (ab "left") (V.int 0)),(p'p (ab "sought") (V.int 0)),(p'p (ab "gone") (V.int 0))]from gf [ab "stages",ab "showing",ab "lasted",ab "left",ab "sought"] rfl ∅];exact cC _ _ (λb u U e=>by rw[ax U];exact eh _ _ U e,fC.upd,aM,rfl)
 intro mb fl (dO,hB,mK,rfl);subst aW;exists (λav H'=>c0 k H H'/\aI H'/\∃aF,H aF=none/\H' k\(.ins t.dE ak [(p'p (ab "stages") (V.ref aZ)),(p'p (ab "showing") (V.int 0)),(p'p (ab "lasted") (V.int 1)),(p'p (ab "left") (V.int 0)),(p'p (ab "sought") (V.int 0)),(p'p (ab "gone") (V.int 0)),(p'p (ab "waiting") (V.ref aF))])/\H' aF\(.aY [])/\av=[~~~k,~~~aZ]),5
 .nofun;intro aF qy;have Vi:aF≠k:=λz=>by rw[z,mK]at qy;cases qy
  have hF:H aF=none:=by
   cases e:H aF with
   |none=>rfl
   |some u=>have:=dO _ _ Vi e;rw[qy]at this;cases this
  refine(_,_,_,(bk qy) _ _ mK,T.ac,T.aaQ,((∅:(6:Nat)<1000)),?_);rw[show c_ (ab "waiting") (V.ref aF) ([(p'p (ab "stages") (V.ref aZ)),(p'p (ab "showing") (V.int 0)),(p'p (ab "lasted") (V.int 1)),(p'p (ab "left") (V.int 0)),(p'p (ab "sought") (V.int 0)),(p'p (ab "gone") (V.int 0))]:List (Str×V))=[(p'p (ab "stages") (V.ref aZ)),(p'p (ab "showing") (V.int 0)),(p'p (ab "lasted") (V.int 1)),(p'p (ab "left") (V.int 0)),(p'p (ab "sought") (V.int 0)),(p'p (ab "gone") (V.int 0)),(p'p (ab "waiting") (V.ref aF))]from gf [ab "stages",ab "showing",ab "lasted",ab "left",ab "sought",ab "gone"] rfl ∅];exact cC _ _ (λb u U e=>by rw[ax U];exact(bk qy) _ _ (dO _ _ U e),hB.upd.upd,aF,hF,aM,by rw[ax Vi];exact aM,rfl)
 intro lL eJ (eE,jA,aF,hF,nK,K5,rfl);subst aW;exists (λav H'=>c0 k H H'/\aI H'/\∃a8,H' k\(.ins t.dE ak (gg aZ (.int 0) 1 0 0 0 aF a8))/\H' aF\(.aY [])/\H' a8\(.aY (m' (-1) (-1)))/\a8≠aF/\H a8=none/\av=[~~~k,~~~aZ]),5
 .nofun;simp only[E2];nofun;intro a8 ow;have w7:a8≠k:=λz=>by rw[z,nK]at ow;cases ow
  have gT:a8≠aF:=λz=>by rw[z,K5]at ow;cases ow
  have gv:H a8=none:=by
   cases e:H a8 with
   |none=>rfl
   |some u=>have:=eE _ _ w7 e;rw[ow]at this;cases this
  refine(aM,[(p'p (bx (ab "trams")) (.int (-1))),(p'p (bx (ab "others")) (.int (-1)))],rfl,by show 2<=15;decide,_,_,_,(ax w7.symm).trans ((ax w7.symm).trans nK),T.ac,T.Zh,((∅:(7:Nat)<1000)),?_);rw[show c_ (ab "picked") (V.ref a8) ([(p'p (ab "stages") (V.ref aZ)),(p'p (ab "showing") (V.int 0)),(p'p (ab "lasted") (V.int 1)),(p'p (ab "left") (V.int 0)),(p'p (ab "sought") (V.int 0)),(p'p (ab "gone") (V.int 0)),(p'p (ab "waiting") (V.ref aF))]:List (Str×V))=gg aZ (.int 0) 1 0 0 0 aF a8 from gf [ab "stages",ab "showing",ab "lasted",ab "left",ab "sought",ab "gone",ab "waiting"] rfl ∅];refine cC _ _ (λb u U e=>?_,jA.upd.upd.upd,a8,aM,?_,(ax w7).trans (aM.trans (congrArg (λx=>some (dJ.aY x)) (apt))),gT,gv,rfl)
  .have:=eE _ _ U e;rw[ax U,ax (du this ow),ax (du this ow)];exact this
  .rw [ax (bI K5 nK (by intro z;cases z)),ax gT.symm,ax gT.symm];exact K5
 intro vT gO (dT,rb,a8,yv,aoN,W5,gT,ow,rfl);subst aW;nofun;refine(_,PQ T yv,_,yt T (dT _ _ (Js az aq) aq),_,rfl,_,aE.of (dT _ _ (bI ez az (by intro z;cases z)) ez),_,cf (j:=0) (uI (by rw[dF,h0];rfl)),_,rfl,_,h6.k (k:=bx (el ds r)) W5 (fW (show ↑(m' (-1) (-1))<=2 from b1 2) ∅),q aF a8 _ (λb u U e=>?_) rb.upd hF ow (gT.symm,ak,?_,?_,?_))
 .rw [ax (du e ow)];exact dT _ _ U e
 .rw [ax (bI yv W5 (by intro z;cases z))];exact yv
 .rw [ax gT.symm];exact aoN
 .rw [aM,aaY n3];rfl
def aoX:cD P base T 1 t.Fy t.K6 gQ (ajv P w t):=by
 exists T.YN.ok aqO,9
 let(k,aZ,aF,a8,s',i,c,n,ds,rows,d,rfl,(_,ak,bS,cY,da),hp,(kH,le,mo,dA,cI,aX,ch,ms,kvs,aq,C,bG,eM,gk,ez,fE,k',lE),c4,q):=h;have bp:=gI ao;let(j,r,aN,az,lG,_):=im c4;refine(_,(a4 (cA (vN (dk wf (iM bp (bA (bA (J 0) rfl) rfl) (J 1) (λ_ _=>rfl)) (bA (J 0) rfl) (cL _)) di di))),?_);rw[hp]at bS;nofun;have bj:=fj.k (k:=bx d.name) fE;rw[aN]at bj;refine(_,kq T bS,_,rfl,_,Fu T aq,_,rfl,_,bj,_,r3 T bS,rfl,?_);unfold w0 at q;rw[az]at q;by_cases hm:j=i
 .rw [if_pos (by rw[hm])]at q;rw[hm,if_pos (show decide (V.int ((i:Nat):Int)=qY (some i))=true from decide_eq_true rfl)];exact q
 .rw [if_neg (λz=>hm (dZ z))]at q;rw[if_neg (show ¬decide (V.int ((j:Nat):Int)=qY (some i))=true from λz=>hm (by have z:=of_decide_eq_true z;injection z with z;omega))];exact q
noncomputable def tG(n:Int)(ds:List bh)(rows:List ST)(i j:Nat):Int:=match rows[i]?,rows[j]? with
 |some r,some s=>((nf n ds r.mem s.mem).max?).getD 0
 |_,_=>0
def X1{n:Int}{rows:List ST}(ai:rows[i]?\r)(aN:rows[j]?\s)(h:tQ (nf n ds r.mem s.mem) v):tG n ds rows i j=v:=by
 unfold tG;rw[ai,aN];show((nf n ds r.mem s.mem).max?).getD 0=v;rw[(List.max?_eq_some_iff (xs:=nf n ds r.mem s.mem) (a:=v)).mpr (h.1,h.2)];rfl
noncomputable def wB(n:Int)(ds:List bh)(rows:List ST)(s:gy)(d:bh):Str:=if mh rows d.name\s.lf/\s.dX<bv d then ab "fade" else if mh rows d.name=some s.bR/\tG n ds rows s.lf s.bR-s.dX<=n' d then ab "ready" else ab "stop"
noncomputable def hy(n:Int)(ds:List bh)(rows:List ST)(s:gy)(d:bh):Str:=match s.dm with
 |some i=>w0 rows i d.name
 |none=>wB n ds rows s d
section
variable(P:Program)(w:World)
def aih(t:bO):bW:=λvs H Q _=>∃k aZ aF a8 s c n ds rows,∃i:Nat,∃d:bh,vs=[⇑k,.str d.name]/\ft t H k aZ aF a8 s/\hs P w t H aZ c n ds rows/\told rows d.name=true/\ds[i]?\d/\s.lf<↑rows/\s.bR<↑rows/\s.lf≠s.bR/\aI H/\Q (.str (wB n ds rows s d)) H
end
def ao0:cD P base T 3 t.C_ t.MZ gQ (aih P w t):=by
 refine cK (q' T) λjj=>cK (WP T) λKA=>?_;have Qm:nI P w K mg base dy 2 (sk t) "ready" ["self"] (xc t):=zN (ZN T) ∅;have MF:nI P w K mg base dy 2 (sk t) "fade" ["self"] (xC t):=zN (Xa T) ∅;exists T.Sz.ok KG,9
 let(k,aZ,aF,a8,s',c,n,ds,rows,i,d,rfl,(_,ak,bS,cY,da),dU,c4,hd,rB,X5,bX,bH,q):=h;let(kH,le,mo,dA,cI,aX,ch,ms,kvs,aq,C,bG,eM,gk,ez,fE,k',lE):=id dU;have bp:=gI ao;let((eL,e3),vU,wl,aD,ck,_,_):=id C;let(j,r,aN,az,lG,_):=im c4;have bj:=fj.k (k:=bx d.name) fE;rw[aN]at bj;refine(_,(aP (b9 (i:=2) KG.aD (eO (bA (bA (J 0) rfl) rfl) T.gH T.ni jj ao T.nv .nil cv (ah (J 1) aB)))
   (aP (b9 (i:=3) KG.aD (iM bp (bA (bA (J 0) rfl) rfl) (J 1) (λ_ _=>rfl)))
   (aP (d5 (gL.pt (r4 (dk wf (J 3) (bA (J 0) rfl) (cL _)) (sJ (dk nt (bA (J 0) rfl) (Gp (J 2) MF ao cv) (cL _))))) (a4 (cA di)) eV)
   (aP (d5 (gL.pt (r4 (dk wf (J 3) (bA (J 0) rfl) (cL _)) (sJ (dk ajl (bQ mE (cJ KA ao T.ZL T.G3.bM T.XT (ah (bA (J 0) rfl) (ah (bA (J 0) rfl) (ah (bA (J 0) rfl) aB)))) (bA (J 0) rfl)) (Gp (J 2) Qm ao cv) (cL _))))) (a4 (cA di)) eV)
   (a4 (cA di)))))),?_)
 exists (λav H'=>H'=H/\∃a,e8 t H a d/\av=[~~~k,some (.str d.name),~~~a,none]),5
 .nofun;exact(_,kq T bS,_,rfl,_,F5 T aq,_,rfl,_,_,ck,iU _ _ _ ∅,c,n,ds,i,d,rfl,C,hd,λa W=>cC _ _ (rfl,a,W,rfl))
 intro fO H1 (rfl,a,W,rfl);subst aW;exists (λav H'=>H'=H1/\av=[~~~k,some (.str d.name),~~~a,some (.int (j:Nat))]),5
 .nofun;exact(_,kq T bS,_,rfl,_,Fu T aq,_,rfl,_,bj,cC _ _ (rfl,rfl))
 intro cO ar (rfl,rfl);let(jB,Jk,qn):=id W;subst aW;unfold wB at q;rw[az]at q;simp only[dd];refine Db (λav H'=>H'=ar/\¬(some j\s'.lf/\s'.dX<bv d)/\av=[~~~k,some (.str d.name),~~~a,some (.int (j:Nat))]) (λfx cC nT _ _=>?_) ?_
 .refine d8 (decide (j=s'.lf)&&decide (s'.dX<bv d)) (λjc a9=>?_) (λU=>?_) (λU=>?_)
  .nofun;refine(_,Jo T bS,rfl,?_);by_cases cZ:j=s'.lf
   .rw [decide_eq_true cZ,n0]at a9;rw[if_pos (show decide (V.int ((j:Nat):Int)=V.int ((s'.lf:Nat):Int))=true from decide_eq_true (by rw[cZ]))];exact(_,LW T bS,_,_,_,qn,(_,jB,rfl),yZ ∅,a,d,rfl,W,rfl,_,rfl,_,rfl,a9)
   .rw [decide_eq_false cZ,o6]at a9;rw[if_neg (show ¬decide (V.int ((j:Nat):Int)=V.int ((s'.lf:Nat):Int))=true from λz=>cZ (by have z:=of_decide_eq_true z;injection z with z;omega))];exact a9
  .rw [jP,decide_eq_true_eq,decide_eq_true_eq]at U;rw[if_pos (by rw[U.1],U.2)]at q;nofun;rw[nT];exact q
  .simp only[iR];refine cC _ _ (rfl,λz=>?_,rfl);rw[decide_eq_true (dZ z.1),decide_eq_true z.2]at U;cases U
 intro fR ba (rfl,Nd,rfl);rw[if_neg Nd]at q;simp only[dd];refine Db (λav H'=>H'=ba/\¬(some j\s'.bR/\tG n ds rows s'.lf s'.bR-s'.dX<=n' d)/\av=[~~~k,some (.str d.name),~~~a,some (.int (j:Nat))]) (λfx cC nT _ _=>?_) ?_
 .refine d8 (decide (j=s'.bR)&&decide (tG n ds rows s'.lf s'.bR-s'.dX<=n' d)) (λjc a9=>?_) (λU=>?_) (λU=>?_)
  .nofun;refine(_,zd T bS,rfl,?_);by_cases cZ:j=s'.bR
   .rw [decide_eq_true cZ,n0]at a9;rw[if_pos (show decide (V.int ((j:Nat):Int)=V.int ((s'.bR:Nat):Int))=true from decide_eq_true (by rw[cZ]))];refine(_,kq T bS,_,Jo T bS,_,zd T bS,aZ,c,n,ds,rows,s'.lf,s'.bR,_,_,rfl,dU,bq rB,bq X5,bX,bH,λv aQ=>(_,LW T bS,_,rfl,_,rfl,_,_,_,qn,(_,jB,rfl),yZ ∅,a,d,rfl,W,rfl,_,rfl,?_));rw[X1 (bq rB) (bq X5) aQ]at a9;exact a9
   .rw [decide_eq_false cZ,o6]at a9;rw[if_neg (show ¬decide (V.int ((j:Nat):Int)=V.int ((s'.bR:Nat):Int))=true from λz=>cZ (by have z:=of_decide_eq_true z;injection z with z;omega))];exact a9
  .rw [jP,decide_eq_true_eq,decide_eq_true_eq]at U;rw[if_pos (by rw[U.1],U.2)]at q;nofun;rw[nT];exact q
  .simp only[iR];refine cC _ _ (rfl,λz=>?_,rfl);rw[decide_eq_true (dZ z.1),decide_eq_true z.2]at U;cases U
 intro km cm (rfl,pX,rfl);rw[if_neg pX]at q;nofun;exact q
def ass{ds:List bh}(h:(ds.map (·.name)).Nodup){i j:Nat}{d e:bh}(ai:ds[i]?\d)(aN:ds[j]?\e)(z:d.name=e.name):i=j:=by
 let(af,aq):=b3.mp ai;let(aj,aA):=b3.mp aN;have e:(ds.map (·.name))[i]'(by simpa using af)=(ds.map (·.name))[j]'(by simpa using aj):=by
  rw[vy,vy,aq,aA];exact z
 exact(sP h).mp e
noncomputable def hn(ds:List bh)(f:bh->Str):List (Key×V):=ds.map λd=>(p'p (bx d.name) (V.str (f d)))
def asP{ds:List bh}{f:bh->Str}(h:(ds.map (·.name)).Nodup){i:Nat}{d:bh}(hd:ds[i]?\d):d0 (hn (ds.take i) f) (bx d.name) (.str (f d))=hn (ds.take (i+1)) f:=by
 unfold d0;have no:((hn (ds.take i) f).any λc1=>decide (c1.1=bx d.name))=false:=by
  rw[KN];intro p ag;unfold hn at ag;let(e,he,rfl):=cj.mp ag;let(j,aN):=iH he;have l1:=(b3.mp aN).1;rw[hb]at l1;rw[r7 ()]at aN;simp only[decide_eq_true_eq];intro z;have:=ass h aN hd (pP z);omega
 rw[if_neg (by rw[no];exact gu),ip hd];unfold hn;rw[fg];rfl
theorem KF{ds:List bh}{f:bh->Str}(h:(ds.map (·.name)).Nodup){i:Nat}{d:bh}(hd:ds[i]?\d):c5 (hn ds f) (bx d.name)\(.str (f d)):=by
 have:∀(l:List bh),(l.map (·.name)).Nodup->d∈l->c5 (hn l f) (bx d.name)\(.str (f d)):=λl=>by
  induction l with
  |nil=>intro _ h;cases h
  | cons x l cp=>
   intro a0 hm;by_cases c:x.name=d.name
   .have:x=d:=by
     rcases e_.mp hm with e|e
     .exact e.symm
     .exact absurd (cj.mpr (d,e,c.symm)) (qp.mp a0).1
    subst this;simp[c5,hn]
   .have vm:d∈l:=by
     rcases e_.mp hm with e|e
     .exact absurd (by rw[e]) c
     .exact e
    have:=cp (qp.mp a0).2 vm;simp only[c5,hn,e1,oL]at this⊢;simp[c]at this⊢;exact this
 exact this ds h (ct hd)
def GB(rows:List ST)(s:gy):Prop:=s.dm=none->s.lf<↑rows/\s.bR<↑rows/\s.lf≠s.bR
def ajA(P:Program)(w:World)(t:bO):bW:=λvs H Q _=>∃k aZ aF a8 s c n ds rows,vs=[⇑k]/\ft t H k aZ aF a8 s/\hs P w t H aZ c n ds rows/\(∀d∈ds,told rows d.name=true)/\GB rows s/\aI H/\∀p H',aS H H'->aI H'->H p=none->H' p\(.aY (hn ds (hy n ds rows s)))->Q ⇑p H'
theorem W2:cD P base T 4 t.GU t.Oh ["self"] (ajA P w t):=by
 refine cK (vg T) λlM=>cK (aoX T) λac5=>cK (ao0 T) λasX=>?_;exists T.Wy.ok I8,9
 let(k,aZ,aF,a8,s',c,n,ds,rows,rfl,hi,dU,lS,alM,bH,q):=h;have bp:=gI ao;let(_,ak,bS,cY,da):=id hi;let(kH,le,mo,dA,cI,aX,ch,ms,kvs,aq,C,_):=id dU;let((eL,e3),vU,wl,aD,ck,_,_):=id C;refine(_,(aP (b9 (i:=1) I8.aD sf)
   (aP (fh fK rfl (eQ (g0 (bA (bA (J 0) rfl) rfl) T.gH T.rU lM ao T.rI .nil cv)) (cy (i:=2) I8.aD) (a4 (mW bp (J 1) (J 2) (vN (dk YH (bA (J 0) rfl) uo (cL _)) (eO (J 0) T.ac T.afZ ac5 ao T.acQ .nil cv (ah (J 2) aB)) (eO (J 0) T.ac T.aip asX ao T.ad3 .nil cv (ah (J 2) aB))) rfl)))
   (a4 (cA (J 1))))),?_)
 exists (λav H'=>aS H H'/\aI H'/\∃h2,H h2=none/\H' h2\(.aY [])/\av=[~~~k,~~~h2,none]),4
 .nofun;exact λh2 wa=>cw _ _ (bk wa,bH.upd,h2,wa,aM,rfl)
 intro fO H1 (s1,b8,h2,wa,dp,rfl);subst aW;nofun;refine(_,kq T (s1 _ _ bS),_,rfl,_,F5 T (s1 _ _ aq),_,rfl,_,_,s1 _ _ ck,iU _ _ _ ∅,c,n,ds,rfl,C.same s1,λdv h8=>(dv,rfl,(_,aE.of aM),?_));refine ey.list (xs:=a5 (ds.map (·.name))) (λi σ H'=>aS H H'/\aI H'/\H' dv\(.lst (a5 (ds.map (·.name))))/\H' h2\(.aY (hn (ds.take i) (hy n ds rows s')))/\∃y,σ=[~~~k,~~~h2,y]) ?_ ?_ ?_ ?_
 .exact (s1.trans (bk h8),b8.upd,aM,(bk h8) _ _ dp,_,rfl)
 .rintro i σ H' ai bl;ac_rfl
  let(_,_,h,_):=bl;subst aW;exact aE.of h
 .rintro i v σ H' aQ bl;ac_rfl
  let(s2,b',LN,wW,y,rfl):=bl;let(x,ae,rfl):=b_ aQ;let(d,hd,rfl):=b_ ae;have ri:=ct hd;have hlen:↑(hn (ds.take i) (hy n ds rows s'))<=12:=by unfold hn;rw[aO,hb];omega
  have Cv:upd H' h2 (.aY (d0 (hn (ds.take i) (hy n ds rows s')) (bx d.name) (.str (hy n ds rows s' d)))) dv\(.lst (a5 (ds.map (·.name)))):=by
   rw[ax (bI LN wW (by intro z;cases z))];exact LN
  have E7:upd H' h2 (.aY (d0 (hn (ds.take i) (hy n ds rows s')) (bx d.name) (.str (hy n ds rows s' d)))) h2\(.aY (hn (ds.take (i+1)) (hy n ds rows s'))):=by
   rw[aM,asP (f:=hy n ds rows s') eL hd]
  subst aW;nofun;refine(_,r3 T (s2 _ _ bS),?_);cases hp:s'.dm with
  |some rl=>
   have Nh:hy n ds rows s' d=w0 rows rl d.name:=by unfold hy;rw[hp]
   rw[Nh]at Cv E7;rw[if_pos (by rfl)];exact(_,_,s2 _ _ bS,oa _ _ _ _ _ _ _ _ ∅,k,aZ,aF,a8,s',rl,c,n,ds,rows,d,rfl,hi.same s2,hp,dU.same s2,lS d ri,_,h6.k (k:=bx d.name) wW (fW hlen ∅),s2.gW wa,b'.upd,Cv,E7,_,rfl)
  |none=>
   have Nh:hy n ds rows s' d=wB n ds rows s' d:=by unfold hy;rw[hp]
   rw[Nh]at Cv E7;let(g1,g2,g3):=alM hp;rw[if_neg (by intro z;cases z)];exact(_,_,s2 _ _ bS,oa _ _ _ _ _ _ _ _ ∅,k,aZ,aF,a8,s',c,n,ds,rows,i,d,rfl,hi.same s2,dU.same s2,lS d ri,hd,g1,g2,g3,b',_,h6.k (k:=bx d.name) wW (fW hlen ∅),s2.gW wa,b'.upd,Cv,E7,_,rfl)
 .rintro σ H' bl;ac_rfl
  let(s2,b',LN,wW,y,rfl):=bl;have jU:↑(a5 (ds.map (·.name)))=↑ds:=by unfold a5;simp
  subst aW;rw[jU,hE]at wW;nofun;exact q h2 H' s2 b' wa wW
def dB.VZ{d:Addr}(hf:H d\(.dg o (.aY kvs)))(aH:↑kvs<=sizeLine)(he:↑zs=↑kvs)
  (aC:∀(i:Nat) (k:Key) (v z:V) (N:V->au->Prop),kvs[i]?\(p'p k v)->zs[i]?\z->N z H->g (df k) d2 H λcO ar=>Sub d2 cO/\bV cO ar N) (hd:∀p,H p=none->Q ⇑p (upd H p (.lst zs))):dB (L4 d o kvs) g rO bV d2 Q H:=by
 refine dB.of (n:=↑kvs) (λi ys H'=>H'=H/\ys=zs.take i) aH (rfl,rfl) (λi ys H' ai ⟨gp,_⟩=>by subst gp;exact(hf,ai)) (λys H' ⟨gp,_⟩=>by subst gp;exact(hf,b1 _)) (λi ys H' ai ⟨_,e⟩=>by rw[e,hb];omega) (λi ys H' x ar ai ⟨aq,aA⟩ y=>?_) (λys H' ⟨aq,aA⟩ p ag=>?_)
 .obtain⟨bG,k,v,az,eM⟩:=y;subst aq bG eM;intro N bw;have gw:i<↑zs:=()
  have g9:zs[i]?\zs[i]:=bq gw;exact aC i k v zs[i] (λy cm=>N (ys++[y]) cm) az g9 (bw _ _ (rfl,by rw[aA,qJ,g9];rfl))
 .subst aq;rw[aA,<- he,hE];exact hd p ag
noncomputable def yy(ds:List bh)(rows:List ST)(x:Str):Str:=(((mh rows x).bind λj=>rows[j]?).map (el ds)).getD (ab "")
noncomputable def GX(ds:List bh)(rows:List ST)(xs:List Str):Bool:=xs.any λx=>decide (yy ds rows x=e')
section
variable(P:Program)(w:World)
def afC(t:bO):bW:=λvs H Q _=>∃bU k aZ aF a8 s c n ds rows,vs=[⇑k]/\ft t H k aZ aF a8 s/\hs P w t bU aZ c n ds rows/\aS bU H/\bU aF=none/\(∀x∈s.wt,told rows x=true)/\↑s.wt<=12/\∀H',aS H H'->(aI H->aI H')->Q (.bC (GX ds rows s.wt)) H'
end
def alv:cD P base T 1 t.Fg t.Kq ["self"] (afC P w t):=by
 exists T.aaG.ok amA,9
 let(bU,k,aZ,aF,a8,s',c,n,ds,rows,rfl,(_,ak,bS,cY,da),dU,s0,hF,c4,aG,q):=h;let(kH,le,mo,dA,cI,aX,ch,ms,kvs,aq,C,bG,eM,gk,ez,fE,k',lE):=id dU;have bp:=gI ao;refine(_,(a4 (cA (gC (akA rfl) rfl T.aj4 ajC (ah (ar1 (h_ rfl (wN (bA (J 0) rfl)) (Gc (sc:=bD (eG (top 42) 9)) rfl ∅) (N:=s6) (sel:=[none,some 0]) (g_ (M:=["self"]) ∅) (fT.of (λ_ _ _ _=>(cy (i:=0) (eZ (N:=s6) ∅ rfl))) (λ_ _ _ _=>(_,i',by walk_at "B")) (λ_ _ _ _=>(_,(iz wf (b7 dI (bA (bA (J 1) rfl) rfl) (iM bp (bA (bA (J 1) rfl) rfl) (J 0) (λ_ _=>rfl))) di (cL _)),by walk_at "B"))))) aB)))),?_);nofun;refine(aF,_,cY,_,BQ T bS,_,rfl,_,cY,λo=>?_);have g5:↑(gX s'.wt)=↑s'.wt:=by unfold gX;rw[aO]
 have my:aS bU (upd H aF (.dg o (.aY (gX s'.wt)))):=λb u e=>by rw[ax (du e hF)];exact s0 _ _ e
 have Fl:(upd H aF (.dg o (.aY (gX s'.wt)))) k\(.ins t.dE ak (gg aZ (qY s'.dm) s'.aL s'.lf s'.bR s'.dX aF a8)):=by rw[ax (bI bS cY (by intro z;cases z))];exact bS
 have oP:(upd H aF (.dg o (.aY (gX s'.wt)))) aF\(.dg o (.aY (gX s'.wt))):=aM;refine dB.VZ (zs:=(s'.wt.map λx=>decide (yy ds rows x=e')).map V.bC) oP (by rw[g5];exact c9 aG ∅) (by rw[aO,aO,g5]) (λi ajf v z N az aH bw=>?_) (λp ag=>?_)
 .unfold gX at az;let(x,ae,ex):=b_ az;cases ex;let(b,U,rfl):=b_ aH;let(gm,eA,rfl):=b_ U;rw[ae]at eA;cases eA;let(j,r,aN,hA,lG,_):=im (c4 x (ct ae));have aC:yy ds rows x=el ds r:=by unfold yy;rw[hA,t2,lG];rfl
  rw[aC]at bw;have bj:=fj.k (k:=bx x) (my _ _ fE);rw[aN]at bj;nofun;refine(Sub.name,_,kq T Fl,_,rfl,_,yt T (my _ _ aq),_,kq T Fl,_,rfl,_,Fu T (my _ _ aq),_,rfl,_,bj,_,rfl,_,_,rfl,aE.of (my _ _ ez),_,cf (uI (by rw[dF,lG];rfl)),rfl,?_);rw[show decide (V.str (el ds r)=V.str (ab "trams"))=decide (el ds r=e')from decide_eq_decide.mpr (λz=>by injection z,λz=>by rw[z])];exact bw
 .have gT:p≠aF:=λz=>by rw[z,oP]at ag;cases ag
  have Eg:H p=none:=by rw[ax gT]at ag;exact ag
  refine(o,by rw[ax (cT gT)];exact oP,p,rfl,_,aE.of (by rw[ax gT];exact aM),?_);have he:((s'.wt.map λx=>decide (yy ds rows x=e')).any id)=GX ds rows s'.wt:=by unfold GX;rw[ae1];rfl
  rw[he];refine q _ (λb u e=>?_) (λz=>((z.upd).upd).upd);by_cases cZ:b=aF
  .subst cZ;rw[cY]at e;cases e;exact aM
  .rw [ax cZ,ax (du e Eg),ax cZ];exact e
noncomputable def Ix(ds:List bh)(rows:List ST)(s:gy)(r:ST)(own:Bool):Bool:=s.wt.isEmpty||decide (s.aL<r.lo)||(decide (s.aL<r.ai)&&own && !GX ds rows s.wt)
def akZ(P:Program)(w:World)(t:bO):bW:=λvs H Q _=>∃bU k aZ aF a8 s c n ds rows,∃i:Nat,∃r own,vs=[⇑k,.bC own]/\ft t H k aZ aF a8 s/\s.dm\i/\rows[i]?\r/\hs P w t bU aZ c n ds rows/\aS bU H/\bU aF=none/\(∀x∈s.wt,told rows x=true)/\↑s.wt<=12/\∀H',aS H H'->(aI H->aI H')->Q (.bC (Ix ds rows s r own)) H'
theorem aeL:cD P base T 2 t.C9 t.KH sI (akZ P w t):=by
 refine cK (alv T) λad5=>?_;exists T.Yl.ok amr,9
 let(bU,k,aZ,aF,a8,s',c,n,ds,rows,i,r,own,rfl,hi,hp,kp,dU,s0,hF,c4,aG,q):=h;let(_,ak,bS,cY,da):=id hi;let(kH,le,mo,dA,cI,aX,ch,ms,kvs,aq,C,bG,eM,gk,ez,fE,k',lE):=id (dU.same s0);have bp:=gI ao;have m6:=bS;rw[hp]at m6;refine(_,(aP (d5 (gL.pt (tm (uL (lv (bA (J 0) rfl) (λ_=>rfl))) (uW (dk nt (bA (J 0) rfl) (b7 dI (bA (bA (J 0) rfl) rfl) (bA (J 0) rfl)) (cL _))))) (a4 (cA mN)) eV)
   (a4 (cA (xm (iz nt (bA (J 0) rfl) (b7 dI (bA (bA (J 0) rfl) rfl) (bA (J 0) rfl)) (cL _)) (xm (J 1) (vr (Uy (g0 (J 0) T.ac T.ir ad5 ao T.aq9 .nil cv)))))))),?_)
 simp only[dd];refine Db (λav H'=>H'=H/\(s'.wt.isEmpty||decide (s'.aL<r.lo))=false/\av=[~~~k,some (.bC own)]) (λfx cC nT _ _=>?_) ?_
 .refine d8 (s'.wt.isEmpty||decide (s'.aL<r.lo)) (λjc a9=>?_) (λU=>?_) (λU=>?_)
  .nofun;refine(_,BQ T bS,!s'.wt.isEmpty,.inr (.inr (_,cY,?_)),?_)
   .cases s'.wt <;> rfl
   .cases zP:s'.wt.isEmpty with
    |true=>
     rw[zP]at a9;exact a9
    |false=>
     rw[zP,nz]at a9;exact(_,abP T bS,_,kq T bS,_,rfl,_,anr T aq,_,r3 T m6,_,rfl,_,_,rfl,aE.of bG,_,cf (by rw[dF,kp];rfl),_,rfl,_,rfl,a9)
  .nofun;rw[nT];have:=q H (aS.refl H) (λz=>z);unfold Ix at this;rw[U,vb]at this;exact this
  .simp only[iR];exact cC _ _ (rfl,U,rfl)
 intro fO H1 (rfl,U,rfl);unfold Ix at q;rw[U]at q;nofun;refine(_,abP T bS,_,kq T bS,_,rfl,_,acx T aq,_,r3 T m6,_,rfl,_,_,rfl,aE.of eM,_,cf (by rw[dF,kp];rfl),_,rfl,_,rfl,?_);by_cases cZ:s'.aL<r.ai
 .rw[if_pos (decide_eq_true cZ)];rw[decide_eq_true cZ,n0,nz]at q;cases own with
  |true=>
   rw[if_pos rfl];rw[n0]at q;exact(_,_,bS,oa _ _ _ _ _ _ _ _ ∅,bU,k,aZ,aF,a8,s',c,n,ds,rows,rfl,hi,dU,s0,hF,c4,aG,λH' s1 b8=>(_,rfl,q H' s1 b8))
  |false=>
   rw[if_neg gu];rw[o6]at q;exact q _ (aS.refl _) (λz=>z)
 .rw [if_neg (by simpa using cZ)];rw[decide_eq_false cZ,o6,o6,nz]at q;exact q _ (aS.refl _) (λz=>z)
noncomputable def r2(n:Int)(ds:List bh)(rows:List ST)(s:gy)(m:List Str):gy:=if s.dX<tG n ds rows s.lf s.bR then s else {s with dm:=some s.bR,aL:=1,wt:=s.wt.filter λx=>!decide (x∈m)}
def aeY(ys:List Str)(x:Str):sE (gX ys) (bx x)=gX (ys.filter λy=>decide (y≠x)):=by
 unfold sE gX;rw[List.filter_map];congr 1;refine ahD λy _=>?_
 show decide ((bx y:Key)≠bx x)=decide (y≠x);exact decide_eq_decide.mpr (λz e=>z (by rw[e]),λz e=>z (pP e))
def akP{ms wt:List Str}{x:Str}(ae:ms[i]?\x):(wt.filter λy=>!decide (y∈ms.take (i+1)))=(wt.filter λy=>!decide (y∈ms.take i)).filter λy=>decide (y≠x):=by
 rw[ip ae,List.filter_filter];refine ahD λy _=>?_
 rw[m3];simp;exact(λz=>(z.2,z.1),λz=>(z.2,z.1))
def ae2(P:Program)(w:World)(t:bO):bW:=λvs H Q _=>∃bU k aZ aF a8 s c n ds rows r,vs=[⇑k]/\ft t H k aZ aF a8 s/\hs P w t bU aZ c n ds rows/\aS bU H/\bU k=none/\bU aF=none/\bU a8=none/\s.lf<↑rows/\rows[s.bR]?\r/\s.lf≠s.bR/\↑r.mem<=12/\aI H/\∀H',hS k aF a8 H H'->aI H'->ft t H' k aZ aF a8 (r2 n ds rows s r.mem)->Q .b5 H'
def aba:cD P base T 2 t.EY t.HX ["self"] (ae2 P w t):=by
 refine cK (WP T) λKA=>?_;exists T.Ul.ok abB,9
 let(bU,k,aZ,aF,a8,s',c,n,ds,rows,r,rfl,hi,dU,s0,jR,hF,gv,rB,kp,bX,ou,bH,q):=h;let(cV,ak,bS,cY,da):=id hi;let(kH,le,mo,dA,cI,aX,ch,ms,kvs,aq,C,bG,eM,gk,ez,fE,k',lE):=id (dU.same s0);have bp:=gI ao;refine(_,(aP (d5 (dk nt (bA (J 0) rfl) (cJ KA ao T.ZL T.G3.bM T.XT (ah (bA (J 0) rfl) (ah (bA (J 0) rfl) (ah (bA (J 0) rfl) aB)))) (cL _)) (a4 aiO) eV)
   (aP (e6 (J 0) (bA (J 0) rfl) rfl)
   (aP (e6 (J 0) aK rfl)
   (a4 (fh fK rfl (eQ (b7 dI (bA (bA (J 0) rfl) rfl) (bA (J 0) rfl))) (cy (i:=1) abB.aD) (a4 (dV (aqK (bA (J 0) rfl) (J 1) uo (rfl,rfl,rfl,rfl))))))))),?_)
 simp only[dd];refine Db (λav H'=>H'=H/\¬s'.dX<tG n ds rows s'.lf s'.bR/\av=[~~~k,none]) (λfx cC nT _ _=>?_) ?_
 .refine d8 (decide (s'.dX<tG n ds rows s'.lf s'.bR)) (λjc a9=>?_) (λU=>?_) (λU=>?_)
  .nofun;refine(_,LW T bS,_,kq T bS,_,Jo T bS,_,zd T bS,aZ,c,n,ds,rows,s'.lf,s'.bR,_,_,rfl,dU.same s0,bq rB,kp,bX,bH,λv aQ=>(_,rfl,_,rfl,?_));rw[X1 (bq rB) kp aQ]at a9;exact a9
  .nofun;rw[nT];refine q H (hS.of (aS.refl H)) bH ?_;unfold r2;rw[if_pos (of_decide_eq_true U)];exact hi
  .simp only[iR];exact cC _ _ (rfl,of_decide_eq_false U,rfl)
 intro fO H1 (rfl,U,rfl);unfold r2 at q;rw[if_neg U]at q;simp only[dd];exists (λav H'=>hS k aF a8 H1 H'/\aI H'/\ft t H' k aZ aF a8 {s' with dm:=some s'.bR}/\av=[~~~k,none]),2
 .nofun;refine⟨_,zd T bS,_,_,_,bS,T.ac,T.Ec,by rw[<- aO (f:=(·.1)),j1];decide,?_⟩;rw[aaF];exact cC _ _ (λb u af _ _ e=>by rw[ax af];exact e,bH.upd,(cV,ak,aM,by rw[ax (bI cY bS (by intro z;cases z))];exact cY,by rw[ax (bI da bS (by intro z;cases z))];exact da),rfl)
 intro cO ar (eU,b',(_,wu,a1,a2,fo),rfl);subst aW;simp only[dd];exists (λav H'=>hS k aF a8 H1 H'/\aI H'/\ft t H' k aZ aF a8 {s' with dm:=some s'.bR,aL:=1}/\av=[~~~k,none]),2
 .nofun;refine⟨_,_,_,a1,T.ac,T.Cz,by rw[<- aO (f:=(·.1)),j1];decide,?_⟩;rw[Tp];exact cC _ _ (λb u af aj bb e=>by rw[ax af];exact eU _ _ af aj bb e,b'.upd,(cV,wu,aM,by rw[ax (bI a2 a1 (by intro z;cases z))];exact a2,by rw[ax (bI fo a1 (by intro z;cases z))];exact fo),rfl)
 intro fR ba (fs,c7,EF,rfl);let(_,UR,hj,gn,n9):=id EF;have s3:aS bU ba:=fs.yU s0 jR hF gv;let(FR,aue,auP,at6,xW,tl,ati,q3,at7,xI,_,_,_,XU,_):=id dU;have f1:=s3 _ _ xI;have fu:=XU.same s3;have Wd:(rows.map (·.mem))[s'.bR]?\r.mem:=by rw[dF,kp];rfl
 have A9:s'.bR<↑q3:=by rw[fu.ln];exact(b3.mp Wd).1
 have hm:=bq A9;have Vs:=XU.al _ _ _ hm Wd;have em:=s3 _ _ Vs;subst aW;nofun;refine(_,kq T hj,_,rfl,_,KX T f1,_,zd T hj,_,rfl,_,_,rfl,aE.of fu.at_,_,cf (by rw[dF,hm];rfl),_,rfl,(_,aE.of em),?_);refine ey.list (xs:=a5 r.mem) (λi σ H'=>hS k aF a8 H1 H'/\aI H'/\ft t H' k aZ aF a8 {s' with dm:=some s'.bR,aL:=1,wt:=s'.wt.filter λy=>!decide (y∈r.mem.take i)}/\∃y,σ=[~~~k,y]) ?_ ?_ ?_ ?_
 .refine (fs,c7,?_,_,rfl);rw[show(s'.wt.filter λy=>!decide (y∈r.mem.take 0))=s'.wt by simp];exact EF
 .rintro i σ H' ai bl;ac_rfl
  let(dq,_,_,_):=bl;subst aW;exact aE.of (dq.yU s0 jR hF gv _ _ Vs)
 .rintro i v σ H' aQ bl;ac_rfl
  let(dq,dh,(_,wy,ck,cP,uQ),y,rfl):=bl;subst aW;unfold a5 at aQ;let(x,ae,rfl):=b_ aQ;have VK:=akP (wt:=s'.wt) ae;nofun;refine(_,BQ T ck,_,rfl,.inl (_,.inl cP),_,cP,bx x,rfl,λv aQ=>?_,λaQ=>?_)
  .refine (λb u af aj bb e=>by rw[ax aj];exact dq _ _ af aj bb e,dh.upd,?_,_,rfl);refine(cV,wy,by rw[ax (bI ck cP (by intro z;cases z))];exact ck,?_,by rw[ax (cT cV)];exact uQ);rw[aM,aeY,<- VK]
  .refine⟨dq,dh,?_,_,rfl⟩;have n_:x∉s'.wt.filter fun y=>!decide (y∈r.mem.take i):=fun z=>by
    have:=aln (s'.wt.filter λy=>!decide (y∈r.mem.take i)) x;rw[aQ,decide_eq_true z]at this;cases this
   have lF:(s'.wt.filter λy=>!decide (y∈r.mem.take i)).filter (λy=>decide (y≠x))=s'.wt.filter λy=>!decide (y∈r.mem.take i):=List.filter_eq_self.mpr λy aJ=>decide_eq_true (show y≠x from λz=>n_ (by rw[<- z];exact aJ))
   rw[VK,lF];exact(cV,wy,ck,cP,uQ)
 .rintro σ H' bl;ac_rfl
  let(dq,dh,uY,y,rfl):=bl;subst aW;rw[lc,hE]at uY;nofun;exact q H' dq dh uY
noncomputable def HE(s:gy)(i j:Nat)(cI:Str):gy:={s with dm:=none,lf:=i,bR:=j,dX:=0,pt:=if cI=e' then(j:Int)else s.pt,po:=if cI=e' then s.po else(j:Int)}
def aqg(P:Program)(w:World)(t:bO):bW:=λvs H Q _=>∃bU k aZ aF a8 s c n ds rows,∃i j:Nat,∃r,vs=[⇑k,.int (j:Nat)]/\ft t H k aZ aF a8 s/\s.dm\i/\hs P w t bU aZ c n ds rows/\aS bU H/\bU k=none/\bU aF=none/\bU a8=none/\i<↑rows/\rows[j]?\r/\i≠j/\↑r.mem<=12/\(el ds r=e'\/el ds r=lR)/\aI H/\∀H',hS k aF a8 H H'->aI H'->ft t H' k aZ aF a8 (r2 n ds rows (HE s i j (el ds r)) r.mem)->Q .b5 H'
def aiL:cD P base T 3 t.Fc t.IU Fn (aqg P w t):=by
 refine cK (aba T) λHz=>?_;exists T.Yg.ok apm,9
 let(bU,k,aZ,aF,a8,s',c,n,ds,rows,i,j,r,rfl,hi,hp,dU,s0,jR,hF,gv,h1,iA,qd,ou,n3,bH,q):=h;let(cV,ak,bS,cY,da):=id hi;let(kH,le,mo,dA,cI,aX,ch,ms,kvs,aq,C,bG,eM,gk,ez,fE,k',lE):=id (dU.same s0);have bp:=gI ao;refine(_,(aP (mW bp (bA (J 0) rfl) (b7 dI (bA (bA (J 0) rfl) rfl) (J 1)) (J 1) rfl)
   (aP (e6 (J 0) (bA (J 0) rfl) rfl)
   (aP (e6 (J 0) (J 1) rfl)
   (aP (e6 (J 0) aK rfl)
   (aP (e6 (J 0) uo rfl)
   (a4 (dV (g0 (J 0) T.ac T.Rv Hz ao T.SN .nil cv)))))))),?_)
 exists (λav H'=>hS k aF a8 H H'/\aI H'/\ft t H' k aZ aF a8 {s' with pt:=if el ds r=e' then(j:Int)else s'.pt,po:=if el ds r=e' then s'.po else(j:Int)}/\av=[~~~k,some (.int (j:Nat))]),5
 .nofun;refine(_,PQ T bS,_,kq T bS,_,rfl,_,yt T aq,_,rfl,_,aE.of ez,_,cf (uI (by rw[dF,iA];rfl)),_,rfl,_,h6.k (k:=bx (el ds r)) da (fW (show ↑(m' s'.pt s'.po)<=2 from b1 2) ∅),cC _ _ (λb u _ _ bb e=>by rw[ax bb];exact e,bH.upd,(cV,ak,by rw[ax (bI bS da (by intro z;cases z))];exact bS,by rw[ax cV];exact cY,by rw[aM,aaY n3]),rfl))
 intro fO H1 (c2,b8,(_,eN,a1,hj,ck),rfl);have Wb:=a1;subst aW;rw[show({s' with pt:=if el ds r=e' then(j:Int)else s'.pt,po:=if el ds r=e' then s'.po else(j:Int)}:gy).dm\i from hp]at Wb;exists (λav H'=>hS k aF a8 H H'/\aI H'/\ft t H' k aZ aF a8 {s' with pt:=if el ds r=e' then(j:Int)else s'.pt,po:=if el ds r=e' then s'.po else(j:Int),lf:=i}/\av=[~~~k,some (.int (j:Nat))]),5
 .nofun;refine⟨_,r3 T Wb,_,_,_,a1,T.ac,T.OW,by rw[<- aO (f:=(·.1)),j1];decide,?_⟩;rw[show qY (some i)=V.int (i:Nat)from rfl,agD];exact cC _ _ (λb u af aj bb e=>by rw[ax af];exact c2 _ _ af aj bb e,b8.upd,(cV,eN,aM,by rw[ax (bI hj a1 (by intro z;cases z))];exact hj,by rw[ax (bI ck a1 (by intro z;cases z))];exact ck),rfl)
 intro cO ar (eU,b',(_,eP,a2,gn,cP),rfl);subst aW;exists (λav H'=>hS k aF a8 H H'/\aI H'/\ft t H' k aZ aF a8 {s' with pt:=if el ds r=e' then(j:Int)else s'.pt,po:=if el ds r=e' then s'.po else(j:Int),lf:=i,bR:=j}/\av=[~~~k,some (.int (j:Nat))]),5
 .nofun;refine⟨_,_,_,a2,T.ac,T.Oa,by rw[<- aO (f:=(·.1)),j1];decide,?_⟩;rw[EQ];exact cC _ _ (λb u af aj bb e=>by rw[ax af];exact eU _ _ af aj bb e,b'.upd,(cV,eP,aM,by rw[ax (bI gn a2 (by intro z;cases z))];exact gn,by rw[ax (bI cP a2 (by intro z;cases z))];exact cP),rfl)
 intro fR ba (fs,c7,(_,nU,fo,n9,uQ),rfl);subst aW;exists (λav H'=>hS k aF a8 H H'/\aI H'/\ft t H' k aZ aF a8 {s' with pt:=if el ds r=e' then(j:Int)else s'.pt,po:=if el ds r=e' then s'.po else(j:Int),lf:=i,bR:=j,dX:=0}/\av=[~~~k,some (.int (j:Nat))]),5
 .nofun;refine⟨_,_,_,fo,T.ac,T.Ff,by rw[<- aO (f:=(·.1)),j1];decide,?_⟩;rw[aaZ];exact cC _ _ (λb u af aj bb e=>by rw[ax af];exact fs _ _ af aj bb e,c7.upd,(cV,nU,aM,by rw[ax (bI n9 fo (by intro z;cases z))];exact n9,by rw[ax (bI uQ fo (by intro z;cases z))];exact uQ),rfl)
 intro km cm (dq,dh,(_,pw,m8,pB,zw),rfl);subst aW;exists (λav H'=>hS k aF a8 H H'/\aI H'/\ft t H' k aZ aF a8 {s' with pt:=if el ds r=e' then(j:Int)else s'.pt,po:=if el ds r=e' then s'.po else(j:Int),lf:=i,bR:=j,dX:=0,dm:=none}/\av=[~~~k,some (.int (j:Nat))]),5
 .nofun;refine⟨_,_,_,m8,T.ac,T.Ec,by rw[<- aO (f:=(·.1)),j1];decide,?_⟩;rw[aaF];exact cC _ _ (λb u af aj bb e=>by rw[ax af];exact dq _ _ af aj bb e,dh.upd,(cV,pw,aM,by rw[ax (bI pB m8 (by intro z;cases z))];exact pB,by rw[ax (bI zw m8 (by intro z;cases z))];exact zw),rfl)
 intro nW cG (eh,fC,xi,rfl);let(_,atA,apf,_,_):=id xi;subst aW;nofun;exact(_,_,apf,oa _ _ _ _ _ _ _ _ ∅,bU,k,aZ,aF,a8,_,c,n,ds,rows,r,rfl,xi,dU,eh.yU s0 jR hF gv,jR,hF,gv,h1,iA,qd,ou,fC,λH' gm gE vz=>q H' (eh.trans gm) gE vz)
noncomputable abbrev asw:Str:=ab "Keeper.pick"++ab ".<locals>."++ab "<lambda>"
def aki:Gx "number" "many" "last" (ai1 (Y7 (eG (top 42) 10))):=(rfl,rfl,rfl,∅,rfl,rfl,rfl,∅,∅)
abbrev lu(Pt:Addr)(H:au):Prop:=Tab H Pt (an7 (Y7 (eG (top 42) 10))) asw
noncomputable def iY(ds:List bh)(rows:List ST)(j:Nat):Str:=((rows[j]?).map (el ds)).getD (ab "")
noncomputable def v_(rows:List ST)(x:Str):Nat:=(mh rows x).getD 0
noncomputable def nR(rows:List ST)(s:gy):List Nat:=s.wt.map (v_ rows)
noncomputable def vO(ds:List bh)(rows:List ST)(s:gy)(i:Nat):List Nat:=(nR rows s).filter λj=>!decide (iY ds rows j=iY ds rows i)
noncomputable def kF(ds:List bh)(rows:List ST)(s:gy)(i:Nat):List Nat:=if(vO ds rows s i).isEmpty then nR rows s else vO ds rows s i
noncomputable def xz(ds:List bh)(rows:List ST)(s:gy)(ch:List Nat):Int:=if iY ds rows (ch.headD 0)=e' then s.pt else s.po
noncomputable def Qf(last many m:Int):Int:=(m-last-1)%many
def Yu(ds:List bh)(rows:List ST)(s:gy)(i j:Nat):Prop:=j∈kF ds rows s i/\∀jl∈kF ds rows s i,Qf (xz ds rows s (kF ds rows s i)) ↑rows j<=Qf (xz ds rows s (kF ds rows s i)) ↑rows jl
def al_(P:Program)(w:World)(t:bO)(Pt:Addr):bW:=λvs H Q _=>∃bU k aZ aF a8 s c n ds rows,∃i:Nat,vs=[⇑k]/\ft t H k aZ aF a8 s/\s.dm\i/\i<↑rows/\hs P w t bU aZ c n ds rows/\aS bU H/\bU aF=none/\(∀x∈s.wt,told rows x=true)/\s.wt≠[]/\↑s.wt<=12/\(∀r∈rows,el ds r=e'\/el ds r=lR)/\lu Pt H/\aI H /\
 ∀(j:Nat) H',vh Pt H H'->aI H'->lu Pt H'->Yu ds rows s i j->Q (.int j) H'
def aqf{rows:List ST}{x:Str}(h:told rows x=true):v_ rows x<↑rows:=by
 let(j,r,aN,az,lG,_):=im h;unfold v_;rw[az];exact(b3.mp lG).1
def HB{rows:List ST}(h:∀x∈s.wt,told rows x=true):∀j∈nR rows s,j<↑rows:=λj aN=>by
 let(x,ae,rfl):=cj.mp aN;exact aqf (h x ae)
def XX{rows:List ST}(h:∀x∈s.wt,told rows x=true):∀j∈kF ds rows s i,j<↑rows:=λj aN=>by
 unfold kF at aN;split at aN
 .exact HB h j aN
 .exact HB h j (nu.mp aN).1
def aay{rows:List ST}(h:s.wt≠[]):kF ds rows s i≠[]:=by
 unfold kF;split
 .unfold nR;simpa using h
 .rename_i af;simpa using af
def NW{rows:List ST}(h:j<↑rows):(rows.map (el ds))[j]?\(iY ds rows j):=by
 unfold iY;rw[dF,bq h];rfl
noncomputable def lQ(ES:List Nat):List V:=ES.map λj=>V.int (j:Nat)
def apr(ES:List Nat):lQ ES=tE V.int (ES.map λj=>((j:Nat):Int)):=by
 unfold lQ;rw[oN];rfl
theorem Sn(p:Nat->Bool):∀xs:List Nat,((xs.map λx=>if p x=true then some (V.int (x:Nat))else none).flatMap DO)=lQ (xs.filter p)
 |[]=>rfl
 |x::xs=>by
  rw[e1,AO,Sn p xs];cases h:p x <;> simp[lQ,h]
theorem acs(cu:pe base t.qA Pt)(hM:base.BuiltinsAt mg Pt):cD P base T 2 t.Fp t.F9 ["self"] (al_ P w t Pt):=by
 have ahc:=T.alf;refine T.ZG.alF t_ (λvs H Q E h=>?_) (λfi kz A outer s H vs Q E ao h=>?_)
 .let(bU,k,aZ,aF,a8,s',c,n,ds,rows,i,rfl,_):=h;rfl
 let(bU,k,aZ,aF,a8,s',c,n,ds,rows,i,rfl,(cV,ak,bS,cY,da),hp,h1,dU,s0,hF,c4,bX,aG,n3,bZ,bH,q):=h;let(kH,le,mo,dA,cI,aX,ch,ms,kvs,aq,C,bG,eM,gk,ez,fE,k',lE):=id dU;have bp:=gI ao;refine(_,(aP (xV (CR (i:=1) t_.aD rfl (n2 rfl) rfl (wN (bA (J 0) rfl)) (Gc (sc:=bD (eG (top 42) 10)) rfl ∅) (N:=s6) (sel:=[none,some 0]) (g_ (M:=Mh) ∅) (fT.of (λ_ _ _ _=>(cy (i:=0) (eZ (N:=s6) ∅ rfl))) (λ_ _ _ _=>(_,i',by walk_at "B")) (λ_ _ _ _=>(_,(iM bp (bA (bA (J 1) rfl) rfl) (J 0) (λ_ _=>rfl)),by walk_at "B"))) rfl))
   (aP (rH (i:=2) t_.aD rfl (oJ rfl) (b7 dI (bA (bA (J 0) rfl) rfl) (bA (J 0) rfl)))
   (aP (CR (i:=3) t_.aD rfl (n2 rfl) rfl (eQ (J 1)) (Gc (sc:=bD (eG (top 42) 10)) rfl ∅) (N:=["number","self","same"]) (sel:=[none,some 0,some 2]) (g_ (M:=Mh) ∅) (fT.of (λ_ _ _ _=>(cy (i:=0) (eZ (N:=["number","self","same"]) ∅ rfl))) (λ_ _ _ _=>(_,(uj (dk ug (b7 dI (bA (bA (J 1) rfl) rfl) (J 0)) (J 2) (cL _))),by walk_at "B")) (λ_ _ _ _=>(_,(J 0),by walk_at "B"))) rfl)
   (aP (b9 (i:=4) t_.aD (vN (lv (J 3) (λ_=>rfl)) (J 3) (J 1)))
   (aP (rH (i:=5) t_.aD rfl (oJ rfl) (iM bp (bA (J 0) rfl) (b7 dI (bA (bA (J 0) rfl) rfl) (b7 dI (J 4) aK)) (λ_ _=>rfl)))
   (aP (rH (i:=6) t_.aD rfl (oJ rfl) (bA (bA (J 0) rfl) rfl))
   (a4 (cA (al4 (pr:="number") (y:="many") (z:="last") (i1:=6) (i2:=5) rfl rfl T.B5 (ah (J 4) aB) (kz.symm.trans ahc,cu,hM) ao aki rfl rfl rfl rfl rfl rfl rfl rfl (λ_ _ _ _=>rfl) (λ_ _ _ _=>(_,(bQ jQ (bQ mE (bQ mE (J 0) (J 2)) aK) (J 1)),by first|rfl|(dsimp only[vu];done)|(dsimp only[vu];exact rfl)))))))))))),?_)
 simp only[dd];exists (λav H'=>aS H H'/\aI H'/\∃wp,H wp=none/\H' wp\(.lst (lQ (nR rows s')))/\av=[~~~k,~~~wp,none,none,none,none,none]),2
 .nofun;refine(aF,_,cY,_,BQ T bS,_,rfl,_,cY,λo=>?_);have g5:↑(gX s'.wt)=↑s'.wt:=by unfold gX;rw[aO]
  have my:aS bU (upd H aF (.dg o (.aY (gX s'.wt)))):=λb u e=>by rw[ax (du e hF)];exact s0 _ _ e
  have Fl:(upd H aF (.dg o (.aY (gX s'.wt)))) k\(.ins t.dE ak (gg aZ (qY s'.dm) s'.aL s'.lf s'.bR s'.dX aF a8)):=by rw[ax (bI bS cY (by intro z;cases z))];exact bS
  have oP:(upd H aF (.dg o (.aY (gX s'.wt)))) aF\(.dg o (.aY (gX s'.wt))):=aM;refine dB.VZ (zs:=lQ (nR rows s')) oP (by rw[g5];exact c9 aG ∅) (by unfold lQ nR;rw[aO,aO,g5]) (λkh ajf v z N az aH bw=>?_) (λp ag=>?_)
  .unfold gX at az;let(x,ae,ex):=b_ az;cases ex;unfold lQ nR at aH;let(jl,U,rfl):=b_ aH;let(gm,eA,rfl):=b_ U;rw[ae]at eA;cases eA;let(j,r,aN,hA,lG,_):=im (c4 x (ct ae));have bj:=fj.k (k:=bx x) (my _ _ fE);rw[aN]at bj;have he:v_ rows x=j:=by unfold v_;rw[hA];rfl
   rw[he]at bw;nofun;exact(Sub.name,_,kq T Fl,_,rfl,_,Fu T (my _ _ aq),_,rfl,_,bj,bw)
  .have gT:p≠aF:=λz=>by rw[z,oP]at ag;cases ag
   have Eg:H p=none:=by rw[ax gT]at ag;exact ag
   refine(o,by rw[ax (cT gT)];exact oP,cC _ _ (λb u e=>?_,bH.upd.upd.upd,p,Eg,by rw[ax gT];exact aM,rfl));by_cases cZ:b=aF
   .subst cZ;rw[cY]at e;cases e;exact aM
   .rw [ax cZ,ax (du e Eg),ax cZ];exact e
 intro fO H1 (s1,b8,wp,aaE,dp,rfl);subst aW;simp only[dd];exists (λav H'=>H'=H1/\av=[~~~k,~~~wp,some (.str (iY ds rows i)),none,none,none,none]),2
 .nofun;have m6:=s1 _ _ bS;rw[hp]at m6;exact(_,kq T m6,_,rfl,_,yt T (s1 _ _ (s0 _ _ aq)),_,r3 T m6,_,rfl,_,_,rfl,aE.of (s1 _ _ (s0 _ _ ez)),_,cf (uI (NW h1)),cC _ _ (rfl,rfl))
 intro cO ar (rfl,rfl);subst aW;simp only[dd];exists (λav H'=>aS ar H'/\aI H'/\∃op,ar op=none/\H' op\(.lst (lQ (vO ds rows s' i)))/\av=[~~~k,~~~wp,some (.str (iY ds rows i)),~~~op,none,none,none]),2
 .nofun;refine((_,aE.of dp),?_);refine dB.yp (xs:=lQ (nR rows s')) (ss:=(nR rows s').map λj=>if(!decide (iY ds rows j=iY ds rows i))=true then some (V.int (j:Nat))else none) (aE.of dp) (by unfold lQ nR;rw[aO,aO];exact c9 aG ∅) (by unfold lQ;rw[aO,aO]) (λkh v o ys N aQ aX bw=>?_) (λl GF=>?_)
  .unfold lQ at aQ;let(j,aN,rfl):=b_ aQ;let(jl,hQ,rfl):=b_ aX;rw[aN]at hQ;cases hQ;have l1:=HB c4 j (ct aN);nofun;refine(Sub.name,_,kq T (s1 _ _ bS),_,rfl,_,yt T (s1 _ _ (s0 _ _ aq)),_,rfl,_,aE.of (s1 _ _ (s0 _ _ ez)),_,cf (uI (NW l1)),rfl,?_);by_cases cZ:iY ds rows j=iY ds rows i
   .rw [if_neg (by rw[cZ,decide_eq_true rfl];exact gu)];simp[cZ]at bw;exact bw
   .rw [if_pos (by rw[decide_eq_false (λz=>cZ (by injection z))];rfl)];simp[cZ]at bw;exact bw
  .rw [Sn];exact cC _ _ (bk GF,b8.upd,l,GF,aM,rfl)
 intro fR ba (s3,c7,op,auL,YR,rfl);have ik:=s3 _ _ dp;subst aW;simp only[dd];exists (λav H'=>H'=ba/\∃j3,ba j3\(.lst (lQ (kF ds rows s' i)))/\av=[~~~k,~~~wp,some (.str (iY ds rows i)),~~~op,~~~j3,none,none]),2
 .nofun;refine(!(vO ds rows s' i).isEmpty,.inl (_,aE.of YR,?_),?_)
  .unfold lQ;cases vO ds rows s' i <;> rfl
  .cases Uq:(vO ds rows s' i).isEmpty with
   |true=>
    rw[if_neg (by rw[acN];exact gu)];exact cC _ _ (rfl,wp,by unfold kF;rw[if_pos Uq];exact ik,rfl)
   |false=>
    rw[if_pos (by rfl)];exact cC _ _ (rfl,op,by unfold kF;rw[if_neg (by rw[Uq];exact gu)];exact YR,rfl)
 intro km cm (rfl,j3,zw,rfl);subst aW;simp only[dd];exists (λav H'=>H'=cm/\av=[~~~k,~~~wp,some (.str (iY ds rows i)),~~~op,~~~j3,some (.int (xz ds rows s' (kF ds rows s' i))),none]),2
 .nofun;have zg:=s3 _ _ (s1 _ _ bS);have wK:∀{b u},bU b\u->cm b\u:=λe=>s3 _ _ (s1 _ _ (s0 _ _ e))
  let(Ad,rest,iG):=wd (aay (ds:=ds) (rows:=rows) (i:=i) bX);have rP:Ad<↑rows:=XX c4 Ad (by rw[iG];exact .head _);have wA:=NW (ds:=ds) rP;have aqD:iY ds rows Ad=e'\/iY ds rows Ad=lR:=by
   unfold iY;rw[bq rP];exact n3 _ (mL rP)
  have w7:=ajS (a:=s'.pt) (b:=s'.po) aqD;have bj:=fj.k (k:=bx (iY ds rows Ad)) (s3 _ _ (s1 _ _ da));rw[w7]at bj;refine(_,PQ T zg,_,kq T zg,_,rfl,_,yt T (wK aq),_,aE.of zw,_,cf (j:=0) (by rw[iG];rfl),_,rfl,_,_,rfl,aE.of (wK ez),_,cf (uI wA),_,rfl,_,bj,cC _ _ (rfl,?_));unfold xz;rw[iG];rfl
 intro nW cG (rfl,rfl);subst aW;simp only[dd];exists (λav H'=>H'=cG/\av=[~~~k,~~~wp,some (.str (iY ds rows i)),~~~op,~~~j3,some (.int (xz ds rows s' (kF ds rows s' i))),some (.int ↑rows)]),2
 .nofun;exact(_,kq T (s3 _ _ (s1 _ _ bS)),_,rfl,_,Lx T (s3 _ _ (s1 _ _ (s0 _ _ aq))),cC _ _ (rfl,rfl))
 intro mb fl (rfl,rfl);subst aW;nofun;have af5:lu Pt fl:=(bZ.step s1).step s3;refine((kF ds rows s' i).map λj=>((j:Nat):Int),aE.of (by rw[<- apr];exact zw),by simpa using aay (ds:=ds) (rows:=rows) (i:=i) bX,af5,Qf (xz ds rows s' (kF ds rows s' i)) ↑rows,λar bo aj1 sF=>(λn a0=>((),rfl),λkh m hm U=>?_));rw[dF]at hm;let(j,aN,rfl):=CI.mp hm;refine q j ar (λb u fv e=>bo _ _ fv (s3 _ _ (s1 _ _ e))) (aj1 c7) sF (ct aN,λjl hQ=>?_);let(x,ae,ex):=O3 hQ;exact(U x (jl:Int) (by rw[dF,bq ae,ex];rfl)).1
def Tl(H H':au):Prop:=∀b o,(∀ps,o≠dJ.hz ps)->H b\o->H' b\o
def aoQ{pos:Pos}{q:Str}(bZ:Tab H Pt pos q)(s:vh Pt H H'):Tl H H':=λb o n e=>s b o (bZ.ne e n) e
def Tl.trans(a:Tl H H1)(b:Tl H1 ar):Tl H ar:=λc o n h=>b c o n (a c o n h)
theorem Tl.lst(s:Tl H H')(e:H b\(.lst xs)):H' b\(.lst xs):=s b _ (λ_ z=>by cases z) e
theorem Tl.tup(s:Tl H H')(e:H b\(.tup xs)):H' b\(.tup xs):=s b _ (λ_ z=>by cases z) e
theorem Tl.ins(s:Tl H H'){aT:List (Str×V)}(e:H b\(.ins C ak aT)):H' b\(.ins C ak aT):=s b _ (λ_ z=>by cases z) e
theorem Tl.aY(s:Tl H H')(e:H b\(.aY kvs)):H' b\(.aY kvs):=s b _ (λ_ z=>by cases z) e
def IN{K:bg}{ns:List Int}(S:Sc K a ns H)(s:Tl H H')(bH:aI H'):Sc K a ns H':=by
 refine(?_,bH);rcases S.Ar with⟨o,h⟩|h
 .exact .inl (o,s _ _ (λ_ z=>by cases z) h)
 .exact .inr h
def fz.r'{t:bO}{c:Addr}{n:Int}(h:fz t H c n ds)(s:Tl H H'):fz t H' c n ds:=by
 let(h0,ak,wl,aD,aq,(as,dp,ef,al),bG):=h;refine(h0,ak,wl,aD,s.ins aq,(as,s.lst dp,ef,λi b d U hd=>?_),s.aY bG);let(k,aeA,bF):=al i b d U hd;exact(k,aeA,s.ins bF)
theorem hs.r'{w:World}{t:bO}{a c:Addr}{n:Int}{rows:List ST}(h:hs P w t H a c n ds rows)(s:Tl H H'):hs P w t H' a c n ds rows:=by
 let(ak,le,mo,dA,cI,aX,ch,ms,kvs,aq,aA,bG,eM,gk,ez,fE,(o,aU,ep,xs,r),lE):=h;exact(ak,le,mo,dA,cI,aX,ch,ms,kvs,s.ins aq,aA.r' s,s.lst bG,s.lst eM,(s.lst gk.at_,gk.ln,λi m x a b=>s.lst (gk.al i m x a b)),s.lst ez,s.aY fE,
  (o,aU,ep,xs,s _ _ (λ_ z=>by cases z) r.at_,r.ex,r.dat,r.ent,r.aD,Paired.tu r.b2 λp q z=>(z.1,s.tup z.2.1,z.2.2),r.mB,r.ns),lE)
noncomputable def jf(H:au):au:=λb=>match H b with
 |some (.hz _)=>none
 |o=>o
def ahl{pos:Pos}{q:Str}(bZ:Tab H Pt pos q):jf H Pt=none:=by
 let(ps,e,_):=bZ;unfold jf;rw[e]
def WJ(h:H b=none):jf H b=none:=by
 unfold jf;rw[h]
def Qz(H:au):aS (jf H) H:=λb u e=>by
 unfold jf at e;split at e
 .cases e
 .exact e
set_option tactic.hygienic true in
def L_(H:au):Tl H (jf H):=λb u n e=>by
 unfold jf;split
 .rename_i ps h;rw[h]at e;cases e;exact absurd rfl (n ps)
 .exact e
structure sy(ds:List bh)(rows:List ST):Prop where
 dr:∀d∈ds,told rows d.name=true
 hc:∀r∈rows,↑r.mem<=12
 cI:∀r∈rows,el ds r=e'\/el ds r=lR
 dl:↑ds<=12
structure kI(ds:List bh)(rows:List ST)(s:gy):Prop where
 wn:s.wt.Nodup
 aF:∀x∈s.wt,x∈ds.map (·.name)
 dm:∀i,s.dm\i->i<↑rows/\∀x∈s.wt,mh rows x≠some i
 ch:s.dm=none->s.lf<↑rows/\s.bR<↑rows/\s.lf≠s.bR
theorem kI.told{rows:List ST}(k:kI ds rows s)(R:sy ds rows):∀x∈s.wt,told rows x=true:=λx ae=>by
 let(d,hd,rfl):=cj.mp (k.aF x ae);exact R.dr d hd
def kI.len{rows:List ST}(k:kI ds rows s)(R:sy ds rows):↑s.wt<=12:=by
 have:=k.wn.length_le_of_subset (l₂:=ds.map (·.name)) λx ae=>k.aF x ae
 rw[aO]at this;have:=R.dl;omega
def yj(n:Int)(ds:List bh)(rows:List ST)(s:gy)(own:Bool)(s':gy):Prop:=
 (s.dm=none/\∃r,rows[s.bR]?\r/\s'=r2 n ds rows {s with dX:=s.dX+1} r.mem) \/
 (∃i r,s.dm\i/\rows[i]?\r/\Ix ds rows s r own=true/\s'={s with aL:=s.aL+1}) \/
 (∃i r j zX,s.dm\i/\rows[i]?\r/\Ix ds rows s r own=false/\Yu ds rows s i j/\rows[j]?\zX/\s'=r2 n ds rows (HE s i j (el ds zX)) zX.mem)
def W'{rows:List ST}(c4:∀x∈s.wt,told rows x=true)(h:j∈kF ds rows s i):∃x∈s.wt,mh rows x\j:=by
 have hm:j∈nR rows s:=by
  unfold kF at h;split at h
  .exact h
  .exact (nu.mp h).1
 let(x,ae,rfl):=cj.mp hm;let(j,r,aN,az,lG,_):=im (c4 x ae);refine(x,ae,?_);unfold v_;rw[az];rfl
def VI{n:Int}{rows:List ST}(R:sy ds rows)(wn:s.wt.Nodup)(aF:∀x∈s.wt,x∈ds.map (·.name))(aC:s.dm=none)(aG:s.lf<↑rows)(ao:rows[s.bR]?\r)(bX:s.lf≠s.bR):kI ds rows (r2 n ds rows s r.mem):=by
 have jU:s.bR<↑rows:=(b3.mp ao).1;unfold r2;split
 .exact (wn,aF,λi h=>(by rw[aC]at h;cases h),λ_=>(aG,jU,bX))
 .refine (wn.filter _,λx ae=>aF x (nu.mp ae).1,λi h=>?_,λh=>by cases h);cases h;refine(jU,λx ae e=>?_);have eA:=nu.mp ae;let(d,hd,g6):=cj.mp (aF x eA.1);let(j,d7,aN,az,lG,hm):=im (R.dr d hd);rw[g6]at az hm;rw[az]at e;cases e;rw[ao]at lG;cases lG;have:=eA.2;simp[hm]at this
def aiN{n:Int}{rows:List ST}(R:sy ds rows)(k:kI ds rows s)(h:yj n ds rows s own s'):kI ds rows s':=by
 rcases h with⟨af,r,ao,rfl⟩|⟨i,r,af,ao,_,rfl⟩|⟨i,r,j,zX,af,ao,_,ag,aN,rfl⟩
 .let(a,b,c):=k.ch af;exact VI (s:={s with dX:=s.dX+1}) R k.wn k.aF af a ao c
 .exact (k.wn,k.aF,k.dm,k.ch)
 .let(a,b):=k.dm i af;let(x,ae,az):=W' (k.told R) ag.1;refine VI (s:=HE s i j (el ds zX)) R k.wn k.aF rfl a aN (λe=>?_);have e:i=j:=e;subst e;exact b x ae az
def QR(k aF a8 Pt:Addr)(H H':au):Prop:=∀b u,b≠k->b≠aF->b≠a8->b≠Pt->H b\u->H' b\u
def AB{t:bO}{k aZ aF a8 Pt:Addr}{pos:Pos}{q:Str}(hi:ft t H k aZ aF a8 s)(bZ:Tab H Pt pos q)(x:hS k aF a8 H H'):Tab H' Pt pos q:=by
 let(_,ak,bS,cY,da):=hi;let(ps,e,d):=bZ;refine(ps,x _ _ (bI e bS (by intro z;cases z)) (bI e cY (by intro z;cases z)) (bI e da (by intro z;cases z)) e,?_);rcases d with d|⟨c',d,br⟩
 .exact .inl d
 .exact .inr (c',d,x _ _ (bI br bS (by intro z;cases z)) (bI br cY (by intro z;cases z)) (bI br da (by intro z;cases z)) br)
def ft.r'{t:bO}{k aZ aF a8:Addr}(h:ft t H k aZ aF a8 s)(x:Tl H H'):ft t H' k aZ aF a8 s:=by
 let(h0,ak,bS,cY,da):=h;exact(h0,ak,x.ins bS,x.aY cY,x.aY da)
def ac3(P:Program)(w:World)(t:bO)(Pt:Addr):bW:=λvs H Q _=>∃bU k aZ aF a8 s c n ds rows own,vs=[⇑k,.bC own]/\ft t H k aZ aF a8 s/\hs P w t bU aZ c n ds rows/\aS bU H/\bU k=none/\bU aF=none/\bU a8=none/\bU Pt=none/\sy ds rows/\kI ds rows s/\lu Pt H/\aI H /\
 ∀s' H',yj n ds rows s own s'->QR k aF a8 Pt H H'->aI H'->lu Pt H'->ft t H' k aZ aF a8 s'->Q .b5 H'
theorem arM(cu:pe base t.qA Pt)(hM:base.BuiltinsAt mg Pt):cD P base T 4 t.FY t.MW sI (ac3 P w t Pt):=by
 refine cK (aba T) λHz=>cK (aeL T) λajG=>cK (aiL T) λahJ=>cK (acs T cu hM) λarW=>?_;exists T.Uk.ok am7,9
 let(bU,k,aZ,aF,a8,s',c,n,ds,rows,own,rfl,hi,dU,s0,jR,hF,gv,Ck,R,qt,bZ,bH,q):=h;let(cV,ak,bS,cY,da):=id hi;have bp:=gI ao;refine(_,(a4 (d5 (dk aps (bA (J 0) rfl) uo (cL _)) (aP (Bs (J 0) aK xX)
   (a4 (dV (g0 (J 0) T.ac T.Rv Hz ao T.SN .nil cv)))) (a4 (d5 (pM (eO (J 0) T.ac T.amG ajG ao T.asx .nil cv (ah (J 1) aB))) (a4 (Bs (J 0) aK xX)) (a4 (dV (eO (J 0) T.ac T.ai5 ahJ ao T.amf .nil cv (ah (g0 (J 0) T.ac T.ajY arW ao T.amg .nil cv) aB)))))))),?_)
 cases hp:s'.dm with
 |none=>
  rw[hp]at bS;let(g1,g2,g3):=qt.ch hp;have Iz:=bq g2;nofun;refine d8 true (λQ a9=>?_) (λ_=>?_) (λaw=>nomatch aw)
  .nofun;exact(_,r3 T bS,a9)
  simp only[dd];exists (λav H'=>hS k aF a8 H H'/\aI H'/\ft t H' k aZ aF a8 {s' with dX:=s'.dX+1}/\av=[~~~k,some (.bC own)]),2
  .nofun;refine⟨_,_,_,bS,T.ac,T.Ff,_,gb nx 5 (j1 ..) ∅ rfl,_,rfl,_,_,bS,by rw[<- aO (f:=(·.1)),j1];decide,?_⟩;rw[aaZ];exact cC _ _ (λb u af _ _ e=>by rw[ax af];exact e,bH.upd,(cV,ak,by rw[aM];exact congrArg (λz=>some (dJ.ins t.dE ak (gg aZ (qY z) s'.aL s'.lf s'.bR (s'.dX+1) aF a8))) hp.symm,by rw[ax (bI cY bS (by intro z;cases z))];exact cY,by rw[ax (bI da bS (by intro z;cases z))];exact da),rfl)
  intro fO H1 (c2,b8,Mt,rfl);let(_,eN,a1,hj,ck):=id Mt;subst aW;nofun;exact(_,_,a1,oa _ _ _ _ _ _ _ _ ∅,bU,k,aZ,aF,a8,_,c,n,ds,rows,_,rfl,Mt,dU,c2.yU s0 jR hF gv,jR,hF,gv,g1,Iz,g3,R.hc _ (mL g2),b8,λH' gm gE vz=>q _ H' (.inl (hp,_,Iz,rfl)) (λb u af aj bb _ e=>gm _ _ af aj bb (c2 _ _ af aj bb e)) gE (AB Mt (AB hi bZ c2) gm) vz)
 | some i=>
  rw[hp]at bS;let(g1,g2):=qt.dm i hp;have kp:=bq g1;nofun;refine d8 false (λQ a9=>?_) (λaw=>nomatch aw) (λ_=>?_)
  .nofun;exact(_,r3 T bS,a9)
  have c4:=qt.told R;have aG:=qt.len R;refine xa (λb H'=>aS H H'/\aI H'/\b=Ix ds rows s' rows[i] own) (λjc F0=>?_) ?_ ?_
  .nofun;exact(_,_,bS,oa _ _ _ _ _ _ _ _ ∅,bU,k,aZ,aF,a8,s',c,n,ds,rows,i,_,own,rfl,hi,hp,kp,dU,s0,hF,c4,aG,λH' s1 b8=>(_,rfl,F0 _ _ (s1,b8 bH,rfl)))
  .rintro H1 ⟨s1,b8,U⟩;have m6:=s1 _ _ bS;nofun;refine⟨_,_,_,m6,T.ac,T.Cz,_,gb nx 2 (j1 ..) ∅ rfl,_,rfl,_,_,m6,by rw[<- aO (f:=(·.1)),j1];decide,?_⟩;rw[Tp];have c2:hS k aF a8 H (upd H1 k (.ins t.dE ak (gg aZ (qY (some i)) (s'.aL+1) s'.lf s'.bR s'.dX aF a8))):=fun b u af _ _ e=>by rw[ax af];exact s1 _ _ e
   exact q {s' with aL:=s'.aL+1} _ (.inr (.inl (i,_,hp,kp,U.symm,rfl))) (λb u af aj bb _ e=>c2 _ _ af aj bb e) b8.upd (AB hi bZ c2) (cV,ak,by rw[aM];exact congrArg (λz=>some (dJ.ins t.dE ak (gg aZ (qY z) (s'.aL+1) s'.lf s'.bR s'.dX aF a8))) hp.symm,by rw[ax (bI cY bS (by intro z;cases z))];exact s1 _ _ cY,by rw[ax (bI da bS (by intro z;cases z))];exact s1 _ _ da)
  .rintro H1 ⟨s1,b8,U⟩;have m6:=s1 _ _ bS;have bX:s'.wt≠[]:=fun z=>by
    unfold Ix at U;rw[z]at U;simp at U
   nofun;refine(_,_,m6,oa _ _ _ _ _ _ _ _ ∅,_,_,m6,oa _ _ _ _ _ _ _ _ ∅,bU,k,aZ,aF,a8,s',c,n,ds,rows,i,rfl,hi.same s1,hp,g1,dU,s0.trans s1,hF,c4,bX,aG,R.cI,bZ.step s1,b8,λj ar bo b' sF ag=>?_);have Co:=(hi.same s1).r' (aoQ (bZ.step s1) bo);let(x,ae,az):=W' c4 ag.1;have l1:=XX c4 j ag.1;have iA:=bq l1;exact(bU,k,aZ,aF,a8,s',c,n,ds,rows,i,j,_,rfl,Co,hp,dU,λb u e=>bo _ _ (du e Ck) ((s0.trans s1) _ _ e),jR,hF,gv,g1,iA,λe=>g2 x ae (by rw[az,e]),R.hc _ (mL l1),R.cI _ (mL l1),b',λH' gm gE vz=>q _ H' (.inr (.inr (i,_,j,_,hp,kp,U.symm,ag,iA,rfl))) (λb u af aj bb dt e=>gm _ _ af aj bb (bo _ _ dt (s1 _ _ e))) gE (AB Co sF gm) vz)
noncomputable def ig(rows:List ST)(s:gy)(x:Str):Bool:=match s.dm with
 |some i=>decide (mh rows x\i)
 |none=>false
theorem PF(n:Int)(ds:List bh)(rows:List ST)(s:gy)(d:bh):decide (V.str (hy n ds rows s d)=V.str (ab "free"))=ig rows s d.name:=by
 have af:(V.str (ab "stop"):V)≠V.str (ab "free"):=λz=>absurd (V.str.inj z) ∅
 have aj:(V.str (ab "fade"):V)≠V.str (ab "free"):=λz=>absurd (V.str.inj z) ∅
 have bb:(V.str (ab "ready"):V)≠V.str (ab "free"):=λz=>absurd (V.str.inj z) ∅
 unfold hy ig;cases s.dm with
 | none=>
  show decide (V.str (wB n ds rows s d)=_)=false;unfold wB;split
  .exact decide_eq_false aj
  .split
   .exact decide_eq_false bb
   .exact decide_eq_false af
 |some i=>
  show decide (V.str (w0 rows i d.name)=_)=decide (mh rows d.name\i);unfold w0;split
  .rename_i h;rw[decide_eq_true rfl,decide_eq_true h]
  .rename_i h;rw[decide_eq_false af,decide_eq_false h]
noncomputable def PP(rows:List ST)(s:gy)(wt:List Str)(x:Str):List Str:=if ig rows s x=true\/x∈wt then wt else wt++[x]
noncomputable def pV(rows:List ST)(s:gy)(wt:List Str)(xs:List Str):List Str:=xs.foldl (PP rows s) wt
noncomputable def v3(rows:List ST)(s:gy)(xs:List Str):gy:={s with wt:=pV rows s s.wt xs}
def arS(wt:List Str)(x:Str):d0 (gX wt) (bx x) (.bC true)=gX (if x∈wt then wt else wt++[x]):=by
 unfold d0;have Hq:((gX wt).any λc1=>decide (c1.1=bx x))=decide (x∈wt):=by
  rw[m3,decide_eq_true_eq,uB];constructor
  .intro (p,ag,ae);let(y,aJ,rfl):=cj.mp ag;have:=pP (of_decide_eq_true ae);rw[<- this];exact aJ
  .exact λh=>((p'p (bx x) (V.bC true)),cj.mpr (x,h,rfl),decide_eq_true rfl)
 by_cases h:x∈wt
 .rw[if_pos (by rw[Hq];exact decide_eq_true h),if_pos h];unfold gX;rw[oN];refine Dy λy _=>?_
  show(if(bx y:Key)=bx x then(p'p (bx y:Key) (V.bC true))else(p'p (bx y) (V.bC true)))=_;split <;> rfl
 .rw [if_neg (by rw[Hq,decide_eq_false h];exact gu),if_neg h];unfold gX;rw[fg];rfl
def al6{ds:List bh}{rows:List ST}{s:gy}{wt:List Str}{x:Str}(ae:x∈ds.map (·.name))(k:kI ds rows {s with wt:=wt}):kI ds rows {s with wt:=PP rows s wt x}:=by
 unfold PP;split
 .exact k
 .rename_i h;have af:x∉wt:=λz=>h (.inr z)
  refine(?_,λy aJ=>?_,λi ai=>((k.dm i ai).1,λy aJ=>?_),k.ch)
  .show (wt++[x]).Nodup;rw[z8];exact(k.wn,by simp,λa aV b U e=>by rw[eg.mp U]at e;exact af (e ▸ aV))
  .rcases ff.mp aJ with aJ|aJ
   .exact k.aF y aJ
   .rw [eg.mp aJ];exact ae
  .rcases ff.mp aJ with aJ|aJ
   .exact (k.dm i ai).2 y aJ
   .rw [eg.mp aJ];intro e;refine h (.inl ?_);have ai:s.dm\i:=ai;unfold ig;rw[ai];exact decide_eq_true e
theorem Jj{ds:List bh}{rows:List ST}{s:gy}:∀(xs wt:List Str),(∀x∈xs,x∈ds.map (·.name))->kI ds rows {s with wt:=wt}->kI ds rows {s with wt:=pV rows s wt xs}
 |[],_,_,k=>k
 |x::xs,wt,h,k=>Jj xs (PP rows s wt x) (λy aJ=>h y (.tail _ aJ)) (al6 (h x (.head _)) k)
def Vj{rows:List ST}(h:∀x∈xs,x∈ds.map (·.name))(k:kI ds rows s):kI ds rows (v3 rows s xs):=Jj xs s.wt h k
def adD(rows:List ST)(s:gy)(wt xs:List Str)(x:Str):pV rows s wt (xs++[x])=PP rows s (pV rows s wt xs) x:=by
 unfold pV;rw[q4];rfl
def Sy(P:Program)(w:World)(K:bg)(t:bO)(Pt:Addr):bW:=λvs H Q _=>∃bU k aZ aF a8 s c n ds rows a xs,vs=[⇑k,⇑a]/\ft t H k aZ aF a8 s/\hs P w t bU aZ c n ds rows/\aS bU H/\bU k=none/\bU aF=none/\bU a8=none/\bU Pt=none/\sy ds rows/\kI ds rows s/\H a\(.lst (a5 xs))/\↑xs<=1000/\(∀x∈xs,x∈ds.map (·.name))/\lu Pt H/\aI H /\
 ∀p s' H',yj n ds rows (v3 rows s xs) (xs.any (ig rows s)) s'->QR k aF a8 Pt H H'->H p=none->H' p\(.aY (hn ds (hy n ds rows s)))->aI H'->lu Pt H'->ft t H' k aZ aF a8 s'->Q ⇑p H'
def TZ (cu:pe base t.qA Pt) (hM:base.BuiltinsAt mg Pt):cD P base T 5 t.Ao t.CW G' (Sy P w K t Pt):=by
 refine cK (q' T) λjj=>cK (W2 T) λJY=>cK (arM T cu hM) λapV=>?_;exists T.Yn.ok xE,9
 let(bU,k,aZ,aF,a8,s',c,n,ds,rows,a,xs,rfl,hi,dU,s0,jR,hF,gv,Ck,R,qt,aV,mZ,ru,bZ,bH,q):=h;let(cV,ak,bS,cY,da):=id hi;let(kH,le,mo,dA,cI,aX,ch,ms,kvs,aq,C,bG,eM,gk,ez,fE,k',lE):=id (dU.same s0);let((eL,e3),vU,wl,aD,ck,_,_):=id C;have bp:=gI ao;have qv:∀{i:Nat} {x:Str},xs[i]?\x->∃(j:Nat) (d:bh),ds[j]?\d/\d.name=x:=λ{i x} ae=>by
  let(d,hd,e):=cj.mp (ru x (ct ae));let(j,aN):=iH hd;exact(j,d,aN,e)
 refine(_,(aP (fh fK rfl (eQ (J 1)) (cy (i:=2) xE.aD) (a4 (dV (eO (bA (bA (J 0) rfl) rfl) T.gH T.ni jj ao T.nv .nil cv (ah (J 2) aB)))))
   (aP (b9 (i:=3) xE.aD (g0 (J 0) T.ac T.Ye JY ao T.ZK .nil cv))
   (aP (b9 (i:=4) xE.aD mN)
   (aP (fh fK rfl (eQ (J 1)) (cy (i:=2) xE.aD) (a4 (d5 (dk wf (iM bp (J 3) (J 2) (λ_ _=>rfl)) di (cL _)) (a4 (b9 (i:=4) xE.aD mN)) (a4 (mW bp (bA (J 0) rfl) (J 2) mN rfl)))))
   (aP (dV (eO (J 0) T.ac T.ano apV ao T.ajj .nil cv (ah (J 4) aB)))
   (a4 (cA (J 3)))))))),?_)
 exists (λav H'=>H'=H/\∃y,av=[~~~k,~~~a,y,none,none]),5
 .nofun;refine((_,aE.of aV),?_);refine ey.list (xs:=a5 xs) (λi σ H'=>H'=H/\∃y,σ=[~~~k,~~~a,y,none,none]) ?_ ?_ ?_ ?_
  .exact (rfl,_,rfl)
  .intro i σ H' ai (rfl,_);exact aE.of aV
  .intro i v σ H' aQ (rfl,y,rfl);unfold a5 at aQ;let(x,ae,rfl):=b_ aQ;let(j,d,hd,rfl):=qv ae;nofun;exact(_,kq T bS,_,rfl,_,F5 T aq,_,rfl,_,_,ck,iU _ _ _ ∅,c,n,ds,j,d,rfl,C,hd,λ_ _=>(rfl,_,rfl))
  .intro σ H' (rfl,y,rfl);exact cC _ _ (rfl,_,rfl)
 intro fO H1 (rfl,l_,rfl);subst aW;exists (λav H'=>aS H1 H'/\aI H'/\∃p,H1 p=none/\H' p\(.aY (hn ds (hy n ds rows s')))/\av=[~~~k,~~~a,l_,~~~p,none]),5
 .nofun;exact(_,_,bS,oa _ _ _ _ _ _ _ _ ∅,k,aZ,aF,a8,s',c,n,ds,rows,rfl,hi,dU.same s0,R.dr,qt.ch,bH,λp H' s2 b' ag j_=>cC _ _ (s2,b',p,ag,j_,rfl))
 intro cO ar (s2,b',p,pn,dY,rfl);subst aW;exists (λav H'=>H'=ar/\av=[~~~k,~~~a,l_,~~~p,some (.bC false)]),5
 .nofun;exact cC _ _ (rfl,rfl)
 intro fR ba (rfl,rfl);subst aW;exists (λav H'=>hS k aF a8 ba H'/\aI H'/\ft t H' k aZ aF a8 (v3 rows s' xs)/\∃y,av=[~~~k,~~~a,y,~~~p,some (.bC (xs.any (ig rows s')))]),5
 .have fo:=s2 _ _ aV;have hj:=s2 _ _ bS;have gn:=s2 _ _ cY;have n9:=s2 _ _ da;nofun;refine((_,aE.of fo),?_);refine ey.list (xs:=a5 xs) (λi σ H'=>hS k aF a8 ba H'/\aI H'/\ft t H' k aZ aF a8 {s' with wt:=pV rows s' s'.wt (xs.take i)}/\∃y,σ=[~~~k,~~~a,y,~~~p,some (.bC ((xs.take i).any (ig rows s')))]) ?_ ?_ ?_ ?_
  .exact (hS.of (aS.refl ba),b',hi.same s2,_,rfl)
  .intro i σ H' ai (gm,_);exact aE.of (gm _ _ (bI fo hj (by intro z;cases z)) (bI fo gn (by intro z;cases z)) (bI fo n9 (by intro z;cases z)) fo)
  .rintro i v σ H' aQ bl;ac_rfl
   let(gm,gE,(_,d',f1,f2,e5),y,rfl):=bl;subst aW;unfold a5 at aQ;let(x,ae,rfl):=b_ aQ;let(j,d,hd,rfl):=qv ae;have qN:=gm _ _ (bI dY hj (by intro z;cases z)) (λe=>by rw[e,cY]at pn;cases pn) (λe=>by rw[e,da]at pn;cases pn) dY;have bj:=fj.k (k:=bx d.name) qN;rw[KF (f:=hy n ds rows s') eL hd]at bj;have fM:↑(gX (pV rows s' s'.wt (xs.take i)))<=12:=by
    have:=(Jj (xs.take i) s'.wt (λx ae=>ru x (yW ae)) qt).len R;unfold gX;rw[aO];exact this
   have gV:pV rows s' s'.wt (xs.take (i+1))=PP rows s' (pV rows s' s'.wt (xs.take i)) d.name:=by rw[ip ae,adD]
   have iN:(xs.take (i+1)).any (ig rows s')=((xs.take i).any (ig rows s')||ig rows s' d.name):=by rw[ip ae,List.any_append];simp
   nofun;refine d8 (ig rows s' d.name) (λjc a9=>?_) (λU=>?_) (λU=>?_)
   .nofun;rw[<- PF n ds rows s' d]at a9;exact(_,bj,rfl,a9)
   .nofun;refine(gm,gE,(cV,d',f1,?_,e5),?_)
    .rw [gV];unfold PP;rw[if_pos (.inl U)];exact f2
    .rw [iN,U,FO]
   .nofun;refine(_,BQ T f1,_,rfl,_,h6.k (k:=bx d.name) f2 (fW fM ∅),λb u af aj bb e=>by rw[ax aj];exact gm _ _ af aj bb e,gE.upd,(cV,d',by rw[ax (bI f1 f2 (by intro z;cases z))];exact f1,?_,by rw[ax (cT cV)];exact e5),?_)
    .rw[aM,arS,gV];unfold PP;by_cases h:d.name∈pV rows s' s'.wt (xs.take i)
     .rw [if_pos h,if_pos (.inr h)]
     .rw [if_neg h,if_neg (λz=>z.elim (λz=>by rw[U]at z;cases z) h)]
    .rw [iN,U,aaa]
  .rintro σ H' bl;ac_rfl
   let(gm,gE,vz,y,rfl):=bl;subst aW;rw[lc,hE]at *;exact cC _ _ (gm,gE,vz,y,rfl)
 intro km cm (dq,dh,uY,avl,rfl);let(_,pw,f1,f2,e5):=id uY;have EF:=hi.same s2;have hj:=s2 _ _ bS;subst aW;nofun;refine(_,_,f1,oa _ _ _ _ _ _ _ _ ∅,bU,k,aZ,aF,a8,_,c,n,ds,rows,_,rfl,uY,dU,dq.yU (s0.trans s2) jR hF gv,jR,hF,gv,Ck,R,Vj ru qt,AB EF (bZ.step s2) dq,dh,λs5 cG aC eh fC w8 xi=>?_);have abc:p≠k:=bI dY hj (by intro z;cases z);have nw:p≠aF:=λe=>by rw[e,cY]at pn;cases pn
 have np:p≠a8:=λe=>by rw[e,da]at pn;cases pn
 have akK:p≠Pt:=λe=>by
  let(ps,br,_):=bZ;rw[e,br]at pn;cases pn
 exact q p s5 cG aC (λb u af aj bb dt e=>eh _ _ af aj bb dt (dq _ _ af aj bb (s2 _ _ e))) pn (eh _ _ abc nw np akK (dq _ _ abc nw np dY)) fC w8 xi
def QS{i:Int}(h:i.natAbs<100000):i.natAbs.log2<1920:=by
 by_cases h0:i.natAbs=0
 .rw [h0];decide
 .exact (aqA h0).mpr (aa4 h ∅)
def aez(K:bg):bW:=λvs H Q _=>∃(a:Addr) (ns:List Int) (k m:Int),vs=[⇑a,.int k,.int m]/\↑ns<=63/\aE K H a (ns.map V.int)/\(0<=k/\k<1000000)/\0<m/\Q (.int (dS ns k m)) H
def adZ:cD P base T 1 t.BL t.Be zT (aez K):=by
 exists T.fA.ok xn,9
 let(a,ns,k,m,rfl,hu,S,(h0,af),hm,q):=h;refine(_,(aP (b9 (i:=3) xn.aD (vN (dk oo (gC jn rfl T.ul je (ah (J 0) aB)) aK (cL _)) (b7 dI (J 0) (bQ jQ (J 1) (gC jn rfl T.ul je (ah (J 0) aB)))) aK))
   (aP (b9 (i:=4) xn.aD (bQ eK (bQ eK (bQ jQ (J 3) aK) (bQ kA (bQ kA aK (J 1)) (J 1))) aK))
   (a4 (cA (bQ jQ (bQ jQ (bQ kA (bQ jQ (bQ kA (J 4) aK) aK) aK) aK) (J 2)))))),?_)
 nofun;refine(_,.inl S,?_);rw[aO];have agA:(0:Int)<=k*k/\k*k<1000000*1000000:=(aiH h0 h0,arQ () af h0 ∅);have fin:∀i:Int,(0:Int)<1000003/\pQ 31 k/\pQ (31*k) k/\pQ (i%1000003+31*k*k+1) 48271/\(0:Int)<999983/\pQ ((i%1000003+31*k*k+1)*48271%999983) 7919/\(0:Int)<524287/\0<m:=by
  intro i;refine(∅,.inl ∅,.inr (),.inr ∅,∅,.inr ∅,∅,hm)
 by_cases c:(0:Int)<(↑ns:Int)
 .rw[if_pos (decide_eq_true c)];have az:0<=k%(↑ns:Int)/\k%(↑ns:Int)<(↑ns:Int):=(Eb _ (),ER _ c);refine(_,.inl S,by rw[aO];exact c,_,S,?_);rw[aO];have aN:(k%(↑ns:Int)).toNat<↑ns:=()
  refine(.int ns[(k%(↑ns:Int)).toNat],?_,_,rfl,?_)
  .have e:=cf (xs:=ns.map V.int) (j:=(k%(↑ns:Int)).toNat) (v:=.int ns[(k%(↑ns:Int)).toNat]) (by rw[dF,bq aN] <;> rfl);rwa[sa az.1]at e
  .obtain⟨f1,f2,e5,f4,fu,oW,m1,f8⟩:=fin ns[(k%(↑ns:Int)).toNat];refine⟨f1,f2,e5,f4,fu,oW,m1,f8,?_⟩;have e:dS ns k m=(((ns[(k%(↑ns:Int)).toNat]%1000003+31*k*k+1)*48271%999983*7919)%524287)%m:=by
    unfold dS;rw[if_pos c,k5,bq aN];rfl
   rw[<- e];exact q
 .rw[if_neg (by simpa using c)];let(f1,f2,e5,f4,fu,oW,m1,f8):=fin 0;refine(f1,f2,e5,f4,fu,oW,m1,f8,?_);have e:dS ns k m=(((0%1000003+31*k*k+1)*48271%999983*7919)%524287)%m:=by
   unfold dS;rw[if_neg c]
  rw[<- e];exact q
noncomputable def ins{α:Type}(l:List α)(i:Nat)(a:α):List α:=l.take i++a::l.drop i
def uC{l:List α}(ai:i<=↑l)(j:Nat):(ins l i a)[j]? = if j<i then l[j]? else if j=i then some a else l[j-1]?:=by
 unfold ins;have c4:↑(l.take i)=i:=by rw[hb];omega
 by_cases af:j<i
 .rw [if_pos af,nD (),r7 af]
 .rw[if_neg af,nj (),c4];by_cases aj:j=i
  .subst aj;rw[if_pos rfl];simp
  .rw [if_neg aj];let(k,rfl):=Nat.exists_eq_add_of_lt (Nat.lt_of_le_of_ne (alA af) (cT aj));rw[Nat.add_assoc,Nat.add_sub_cancel_left,xw,S8];rfl
def Zv{l:List α}(ai:i<=↑l):↑(ins l i a)=↑l+1:=by
 unfold ins;rw[dx,ih,hb,rp];omega
def asN{l:List α}(h:l.Nodup)(n:a∉l):(ins l i a).Nodup:=by
 unfold ins;rw[(ak3).nodup_iff,qp,WL];exact(n,h)
def pK{l:List α}{a x:α}(h:x∈ins l i a):x=a\/x∈l:=by
 unfold ins at h;rcases ff.mp h with z|z
 .exact .inr (yW z)
 .rcases e_.mp z with z|z
  .exact .inl z
  .exact .inr (Ds z)
def abh(f:α->β)(l:List α)(i:Nat)(a:α):(ins l i a).map f=ins (l.map f) i (f a):=by
 unfold ins;rw[fg,e1,Xt,List.map_drop]
def Va(x:Str)(rG:a<=b)(U:b<=↑x.cps.toList):(nh x (some (a:Int)) (some (b:Int))).cps.toList=(x.cps.toList.drop a).take (b-a):=by
 have ae:↑x=↑x.cps.toList:=by simp[vY]
 have e:=StrLaws.sliceText_nat x rG (by rw[ae];exact U);rw[show nh x (some (a:Int)) (some (b:Int))=xR x (some (a:Int)) (some (b:Int))from rfl,e]
def O2(x:Str)(U:b<=↑x.cps.toList):(nh x none (some (b:Int))).cps.toList=x.cps.toList.take b:=by
 have:nh x none (some (b:Int))=nh x (some ((0:Nat):Int)) (some (b:Int)):=by
  show xR x none (some (b:Int))=xR x (some ((0:Nat):Int)) (some (b:Int));unfold xR;rw[StrLaws.sliceIdx_none_lo];rfl
 rw[this,Va x (e0 _) U,ajh,Nat.sub_zero]
def ahr(x:Str)(aV:a<=↑x.cps.toList):(nh x (some (a:Int)) none).cps.toList=x.cps.toList.drop a:=by
 have ae:↑x=↑x.cps.toList:=by simp[vY]
 have:nh x (some (a:Int)) none=nh x (some (a:Int)) (some ((↑x.cps.toList:Nat):Int)):=by
  show xR x (some (a:Int)) none=xR x (some (a:Int)) (some ((↑x.cps.toList:Nat):Int));unfold xR;rw[StrLaws.sliceIdx_none_hi,<- ae]
 rw[this,Va x aV (b1 _)];exact NP (by rw[rp];exact b1 _)
noncomputable def yY(l:List Nat)(k:Nat):List Nat:=l.take (k+1)
noncomputable def qk(l:List Nat)(at_ f k:Nat):List Nat:=l.take at_++[97+(f+k)%26]++l.drop (at_+1)
noncomputable def qH(l:List Nat)(f k j:Nat):List Nat:=[97+(f+k)%26]++l.take j
def OF{l:List Nat}(aG:↑l=8)(al:∀c∈l,97<=c/\c<=122){k:Nat}(az:k<8):↑(yY l k)=k+1/\∀c∈yY l k,97<=c/\c<=122:=by
 unfold yY;exact(by rw[hb];omega,λc aw=>al c (yW aw))
def anV{l:List Nat}(aG:↑l=8)(al:∀c∈l,97<=c/\c<=122){a f k:Nat}(aV:a<8):↑(qk l a f k)=8/\∀c∈qk l a f k,97<=c/\c<=122:=by
 unfold qk;refine(by rw[dx,dx,hb,rp,qf];omega,λc aw=>?_);rcases ff.mp aw with aw|aw
 .rcases ff.mp aw with aw|aw
  .exact al c (yW aw)
  .rw [eg.mp aw];omega
 .exact al c (Ds aw)
def aot{l:List Nat}(aG:↑l=8)(al:∀c∈l,97<=c/\c<=122){f k j:Nat}(aN:j<8):(1<=↑(qH l f k j)/\↑(qH l f k j)<=8)/\∀c∈qH l f k j,97<=c/\c<=122:=by
 unfold qH;refine(by rw[dx,hb,qf];omega,λc aw=>?_);rcases ff.mp aw with aw|aw
 .rw [eg.mp aw];omega
 .exact al c (yW aw)
def ae7{l:List Nat}(aG:↑l=8)(aV:a<8)(ai:i<8)(aN:j<8)(e:qk l a f i=qk l a f j):i=j:=by
 have af:∀k,(qk l a f k)[a]?\(97+(f+k)%26):=λk=>by
  unfold qk;rw[oj,nj (by rw[hb];omega),hb,show a-min a ↑l=0 by omega];rfl
 have aj:=af i;rw[e,af j]at aj;have:=dZ aj;omega
def aky{l:List Nat}(ai:i<8)(aN:j<8)(e:qH l f i u=qH l f j v):i=j:=by
 unfold qH at e;have:=(Ay e).1;omega
def afu{k:Nat}(h:k<=↑xs):n5 xs none (some ((k:Nat):Int))=xs.take k:=by
 unfold n5;rw[gU.aiz,amu h,gU.ar0];simp
noncomputable def six:List Str:=[ab "stage",ab "tram",ab "car",ab "foot",ab "ring",ab "free"]
def asR{x:Str}{l:List Nat}(e:x.cps.toList=l)(h0:1<=↑l)(af:↑l<=8)(al:∀c∈l,97<=c/\c<=122):made x kG 8=true:=by
 have ae:↑x=↑x.cps.toList:=by simp[vY]
 exact asv (by rw[ae,e];exact h0) (by rw[ae,e];exact af) (by rw[e];exact al)
def NB(m:Nat)(xs:List Str):Prop:=↑xs=m/\xs.Nodup/\∀x∈xs,made x kG 8=true
def Xc(h0:0<=i)(af:i<26):∃c:Nat,fN (ab "abcdefghijklmnopqrstuvwxyz").cps.toList i\c/\c=97+i.toNat:=by
 have:∀k,k<26->fN (ab "abcdefghijklmnopqrstuvwxyz").cps.toList ((k:Nat):Int)\(97+k):=∅
 refine(97+i.toNat,?_,rfl);have e:=this i.toNat ();rwa[sa h0]at e
theorem Xq:∀ys:List Str,(eI ⟨#[]⟩ ys).cps.toList=(ys.map (·.cps.toList)).flatten
 |[]=>rfl
 |[a]=>by
  show a.cps.toList=_;simp
 |a::b::r=>by
  show(a++⟨#[]⟩++eI ⟨#[]⟩ (b::r)).cps.toList=_;rw[mx,og,mx,og,Xq (b::r)];simp
theorem UM(f:Nat->Nat)(n:Nat):(rS (ab "") ((gN n).map λi=>kn (f i))).cps.toList=(gN n).map f:=by
 rw[show rS (ab "") ((gN n).map λi=>kn (f i))=eI ⟨#[]⟩ ((gN n).map λi=>kn (f i))from y3 _ _,Xq,oN];have:((λx:Str=>x.cps.toList) ∘ λi=>kn (f i))=λi=>[f i]:=rfl
 rw[this]
 induction (gN n)with
 |nil=>rfl
 |cons a l cp=>rw[e1,ym,cp];rfl
def afJ:∀m,m<7->↑(six.take m)=m/\(six.take m).Nodup/\∀x∈six.take m,made x kG 8=true:=∅
def akM(K:bg)(a:Addr)(ns:List Int):bW:=λvs H Q _=>∃m:Nat,vs=[⇑a,.int m]/\Sc K a ns H/\(1<=m/\m<=8)/\∀p xs H',aS H H'->Sc K a ns H'->H p=none->H' p\(.lst (a5 xs))->NB m xs->Q ⇑p H'
def ahk (a:Addr) (ns:List Int) (hu:↑ns<=63):cD P base T 2 t.LM t.OL MH (akM K a ns):=by
 refine cK (zI T a ns hu) λfe=>?_;exists T.N1.ok tf,9
 let(m,rfl,S,hm,q):=h;have fM:↑(ab "abcdefghijklmnopqrstuvwxyz")=26:=∅
 refine(_,(aP (rH (i:=2) tf.aD rfl (oJ rfl) di)
   (aP (b9 (i:=3) tf.aD (gq vi Df C7 yT di (ah (h_ rfl (p2 rfl T.qh (ah aK aB)) (Gc (sc:=bD (top 66)) rfl ∅) (N:=["_law_k","_law_letters","_law_script"]) (sel:=[none,some 2,some 0]) (g_ (M:=["_law_script","_law_many","_law_letters","_law_base","_law_way","_law_at","_law_names_here","_law_k","_law_sign"]) ∅) (fT.of (λ_ _ _ _=>(cy (i:=0) (eZ (N:=["_law_k","_law_letters","_law_script"]) ∅ rfl))) (λ_ _ _ _=>(_,i',by walk_at "B")) (λ_ _ _ _=>(_,(b7 Lm (J 1) (cJ fe ao T.f7 T.fA.bM T.fZ (ah (J 2) (ah (bQ eK aK (J 0)) (ah aK aB))))),by walk_at "B")))) aB)))
   (aP (b9 (i:=4) tf.aD (cJ fe ao T.f7 T.fA.bM T.fZ (ah (J 0) (ah aK (ah aK aB)))))
   (aP (b9 (i:=5) tf.aD (cJ fe ao T.f7 T.fA.bM T.fZ (ah (J 0) (ah aK (ah aK aB)))))
   (aP (b9 (i:=6) tf.aD (f_ aB))
   (aP (d5 (gL.pt (r4 (dk wf (cJ fe ao T.f7 T.fA.bM T.fZ (ah (J 0) (ah aK (ah aK aB)))) aK (cL _)) (sJ (dk nt (J 1) aK (cL _))))) (a4 (cA (vp Z3 (f_ (ah di (ah di (ah di (ah di (ah di (ah di aB))))))) u' (vx (J 1))))) eV)
   (aP (fh fK rfl (p2 rfl T.qh (ah (J 1) aB)) (cy (i:=7) tf.aD) (aP (b9 (i:=8) tf.aD (b7 Lm (J 2) (bQ jQ (bQ eK (cJ fe ao T.f7 T.fA.bM T.fZ (ah (J 0) (ah aK (ah aK aB)))) (J 7)) aK)))
   (a4 (d5 (dk wf (J 4) aK (cL _)) (a4 (dV (gq hJ kY lT kW (J 6) (ah (bQ kT (bQ kT (vp Gk (J 3) u' (vx (J 5))) (J 8)) (vp Gk (J 3) (vx (bQ eK (J 5) aK)) u')) aB)))) (a4 (d5 (gL.pt (r4 (dk wf (J 4) aK (cL _)) (sJ (dk nt (J 1) aK (cL _))))) (a4 (dV (gq hJ kY lT kW (J 6) (ah (vp Gk (J 3) u' (vx (bQ eK (J 7) aK))) aB)))) (a4 (dV (gq hJ kY lT kW (J 6) (ah (bQ kT (J 8) (vp Gk (J 3) u' (vx (cJ fe ao T.f7 T.fA.bM T.fZ (ah (J 0) (ah (bQ eK aK (J 7)) (ah aK aB))))))) aB))))))))))
   (a4 (cA (J 6)))))))))),?_)
 exists (λav H'=>H'=H/\av=[~~~a,some (.int m),some (.str (ab "abcdefghijklmnopqrstuvwxyz")),none,none,none,none,none,none]),3
 .nofun;exact cw _ _ (rfl,rfl)
 intro fO H1 (rfl,rfl);subst aW;exists (λav H'=>aS H1 H'/\Sc K a ns H'/\∃aF:Str,↑aF.cps.toList=8/\(∀c∈aF.cps.toList,97<=c/\c<=122)/\av=[~~~a,some (.int m),some (.str (ab "abcdefghijklmnopqrstuvwxyz")),some (.str aF),none,none,none,none,none]),3
 .nofun;refine(∅,∅,?_);refine dB.aoE (n:=8) (λi=>V.str (kn (97+(dS ns (300+(i:Int)) 26).toNat))) ∅ (λi N ai bw=>?_) (λp ag=>?_)
  .have eN:=hU ns (300+(i:Int)) (m:=26) ∅;have eP:=hO ns (300+(i:Int)) (m:=26) ∅;let(c,aw,rfl):=Xc eN eP;(nofun; repeat (dsimp only[iv];nofun));exact(Sub.name,S,(),(),∅,by rw[fM];decide,_,aw,bw)
  .have e:(gN 8).map (λi:Nat=>V.str (kn (97+(dS ns (300+(i:Int)) 26).toNat)))=a5 ((gN 8).map λi:Nat=>kn (97+(dS ns (300+(i:Int)) 26).toNat)):=by unfold a5;rw[oN];rfl
   refine(p,rfl,(gN 8).map λi:Nat=>kn (97+(dS ns (300+(i:Int)) 26).toNat),by rw[<- e];exact aE.of aM,?_,?_)
   .have af:(tE (λx:Str=>↑x) ((gN 8).map λi:Nat=>kn (97+(dS ns (300+(i:Int)) 26).toNat))).sum=8:=by
     rw[oN];rfl
    rw[af,aO,xk];ac_nf
   .refine cw _ _ (bk ag,S.new ag,_,?_,λc aw=>?_,rfl)
    .rw [UM (λi:Nat=>97+(dS ns (300+(i:Int)) 26).toNat) 8,aO,xk]
    .rw [UM (λi:Nat=>97+(dS ns (300+(i:Int)) 26).toNat) 8]at aw;let(i,_,rfl):=cj.mp aw;have eN:=hU ns (300+(i:Int)) (m:=26) ∅;have eP:=hO ns (300+(i:Int)) (m:=26) ∅;omega
 intro cO ar (s2,oQ,aF,g5,yw,rfl);have FT:↑aF=8:=by
  have:↑aF=↑aF.cps.toList:=by simp[vY]
  omega
 have aku:=hU ns 310 (m:=3) ∅;have akC:=hO ns 310 (m:=3) ∅;subst aW;generalize qn:dS ns 310 3=way at aku akC;exists (λav H'=>H'=ar/\av=[~~~a,some (.int m),some (.str (ab "abcdefghijklmnopqrstuvwxyz")),some (.str aF),some (.int way),none,none,none,none]),3
 ·(nofun; repeat (dsimp only[iv];nofun));rw[qn];exact(oQ,(),(),∅,cw _ _ (rfl,rfl))
 intro fR ba (rfl,rfl);let(at_,qv,RT):∃at_:Nat,dS ns 311 8=(at_:Nat)/\at_<8:=by
  have eN:=hU ns 311 (m:=8) ∅;have eP:=hO ns 311 (m:=8) ∅;exact((dS ns 311 8).toNat,(),())
 subst aW;exists (λav H'=>H'=ba/\av=[~~~a,some (.int m),some (.str (ab "abcdefghijklmnopqrstuvwxyz")),some (.str aF),some (.int way),some (.int (at_:Nat)),none,none,none]),3
 ·(nofun; repeat (dsimp only[iv];nofun));rw[qv];exact(oQ,(),(),(),cw _ _ (rfl,rfl))
 intro km cm (rfl,rfl);let(f,hf,au4):∃f:Nat,dS ns 312 26=(f:Nat)/\f<26:=by
  have eN:=hU ns 312 (m:=26) ∅;have eP:=hO ns 312 (m:=26) ∅;exact((dS ns 312 26).toNat,(),())
 subst aW;exists (λav H'=>Sc K a ns H'/\aS cm H'/\∃d3,cm d3=none/\H' d3\(.lst [])/\av=[~~~a,some (.int m),some (.str (ab "abcdefghijklmnopqrstuvwxyz")),some (.str aF),some (.int way),some (.int (at_:Nat)),~~~d3,none,none]),3
 .nofun;exact(e0 _,λd3 hZ=>cw _ _ (oQ.new hZ,bk hZ,d3,hZ,aM,rfl))
 intro mb fl (zb,f9,d3,hZ,o8,rfl);subst aW;simp only[dd];refine Db (λav H'=>H'=fl/\av=[~~~a,some (.int m),some (.str (ab "abcdefghijklmnopqrstuvwxyz")),some (.str aF),some (.int way),some (.int (at_:Nat)),~~~d3,none,none]) (λfx cw nT _ _=>?_) ?_
 .refine d8 (decide (dS ns 313 8=0)&&decide (m<7)) (λQ a9=>?_) (λU=>?_) (λU=>?_)
  ·(nofun; repeat (dsimp only[iv];nofun));refine(zb,∅,∅,∅,?_);by_cases cZ:dS ns 313 8=0
   .rw [if_pos (decide_eq_true cZ),show decide ((m:Int)<7)=decide (m<7)from decide_eq_decide.mpr ()];rw[decide_eq_true cZ,n0]at a9;exact a9
   .rw [if_neg (by simpa using cZ)];rw[decide_eq_false cZ,o6]at a9;exact a9
  .rw [jP,decide_eq_true_eq,decide_eq_true_eq]at U;let(bS,cY,da):=afJ m U.2;nofun;refine(∅,λp ag=>(_,aE.of aM,λd1 kE=>?_));rw[nT];refine q d1 (six.take m) _ (s2.trans (f9.trans ((bk ag).trans (bk kE)))) ((zb.new ag).new kE) ((s2.trans (f9.trans (bk ag))).free kE) ?_ (bS,cY,da);rw[aM,afu (show m<=6 by omega)];unfold a5 six;rw[Xt];rfl
  .simp only[iR];exact cw _ _ (rfl,rfl)
 intro lL eJ (rfl,rfl);let(g,bj):∃g:Nat->List Nat,g=λk=>if way=0 then qk aF.cps.toList at_ f k else if way=1 then yY aF.cps.toList k else qH aF.cps.toList f k (dS ns (320+(k:Int)) 8).toNat:=(_,rfl)
 simp only[dd];exists (λav H'=>Sc K a ns H'/\aS cm H'/\(∃xs:List Str,H' d3\(.lst (a5 xs))/\xs.map (·.cps.toList)=(gN m).map g)/\∃eE dT,av=[~~~a,some (.int m),some (.str (ab "abcdefghijklmnopqrstuvwxyz")),some (.str aF),some (.int way),some (.int (at_:Nat)),~~~d3,eE,dT]),0
 .nofun;refine((),(),?_);refine ey.range (λi σ H'=>Sc K a ns H'/\aS cm H'/\(∃xs:List Str,H' d3\(.lst (a5 xs))/\xs.map (·.cps.toList)=(gN i).map g)/\∃eE dT,σ=[~~~a,some (.int m),some (.str (ab "abcdefghijklmnopqrstuvwxyz")),some (.str aF),some (.int way),some (.int (at_:Nat)),~~~d3,eE,dT]) (zb,f9,([],o8,rfl),_,_,rfl) ?_ ?_
  .rintro i σ H' ai bl;ac_rfl
   let(Bv,pF,(xs,pH,vH),eE,dT,rfl):=bl;have aty:i<8:=by have:i<(m:Int).toNat:=ai;omega
   have mZ:↑xs=i:=by have:=congrArg sj vH;rwa[aO,aO,xk]at this
   let(c,aw,rfl):=Xc (i:=((f:Int)+(i:Int))%26) (Eb _ ∅) (ER _ ∅);have aml:(((f:Int)+(i:Int))%26).toNat=(f+i)%26:=()
   subst aW;rw[aml]at aw;simp only[gz,dd,jM,jF,tj];exists (λav ia=>ia=H'/\av=[~~~a,some (.int m),some (.str (ab "abcdefghijklmnopqrstuvwxyz")),some (.str aF),some (.int way),some (.int (at_:Nat)),~~~d3,some (.int (i:Nat)),some (.str (kn (97+(f+i)%26)))]),0
   ·(nofun; repeat (dsimp only[iv];nofun));rw[hf];exact(Bv,∅,∅,∅,∅,by rw[fM];decide,_,aw,cw _ _ (rfl,rfl))
   intro aej ej (rfl,rfl);have nq:∀k:Nat,k<=1000->k<=sizeLine:=λk h=>c9 h ∅
   have HH:↑(kn (97+(f+i)%26))=1:=rfl;have put:∀nm:Str,nm.cps.toList=g i->Sc K a ns (upd ej d3 (.lst (a5 xs++[.str nm])))/\aS cm (upd ej d3 (.lst (a5 xs++[.str nm])))/\(∃ys:List Str,(upd ej d3 (.lst (a5 xs++[.str nm]))) d3\(.lst (a5 ys))/\ys.map (·.cps.toList)=(gN (i+1)).map g):=λnm m2=>by
    refine(Bv.set pH (λ_ _ z=>by cases z),pF.gW hZ,xs++[nm],?_,?_)
    .rw [aM];unfold a5;rw[fg];rfl
    .rw [fg,vH,Ah,fg,e1,p_,m2];rfl
   have Ld:↑(a5 xs)<sizeLine:=fW (show ↑(a5 xs)<=8 by unfold a5;rw[aO];omega) ∅;subst aW;dsimp only;refine d8 (decide (way=0)) (λQ a9=>?_) (λMV=>?_) (λKL=>?_)
   .nofun;exact a9
   .have hw:=of_decide_eq_true MV;have uE:g i=qk aF.cps.toList at_ f i:=by rw[bj];exact if_pos hw
    have cF:=xg aF none (some (at_:Int));have cB:=xg aF (some ((at_:Int)+1)) none;nofun;refine(.inl (_,aE.of pH),by rw[FT];decide,nq _ (),by rw[FT];decide,nq _ (by rw[ql];omega),_,pH,Ld,?_);let(d1,dY,qN):=put (nh aF none (some (at_:Int))++kn (97+(f+i)%26)++nh aF (some ((at_:Int)+1)) none) (by
     rw[uE];unfold qk;rw[mx,og,mx,og,O2 aF (),show((at_:Int)+1)=((at_+1:Nat):Int)by omega,ahr aF ()]
     rfl)
    exact(d1,dY,qN,_,rfl)
   .have hw:=of_decide_eq_false KL;refine d8 (decide (way=1)) (λQ a9=>?_) (λMV=>?_) (λKL=>?_)
    .nofun;by_cases ck:way=1
     .rw [if_pos (decide_eq_true ck),decide_eq_true (show(m:Int)<9 by omega)];rw[decide_eq_true ck]at a9;exact a9
     .rw [if_neg (by simpa using ck)];rw[decide_eq_false ck]at a9;exact a9
    .have AR:=of_decide_eq_true MV;have uE:g i=yY aF.cps.toList i:=by rw[bj];exact(if_neg hw).trans (if_pos AR)
     nofun;refine(.inl (_,aE.of pH),by rw[FT];decide,_,pH,Ld,?_);let(d1,dY,qN):=put (nh aF none (some ((i:Int)+1))) (by
      rw[uE,show((i:Int)+1)=((i+1:Nat):Int)by omega,O2 aF ()]
      rfl)
     exact(d1,dY,qN,_,rfl)
    .have AR:=of_decide_eq_false KL;have uE:g i=qH aF.cps.toList f i (dS ns (320+(i:Int)) 8).toNat:=by rw[bj];exact(if_neg hw).trans (if_neg AR)
     have eN:=hU ns (320+(i:Int)) (m:=8) ∅;have eP:=hO ns (320+(i:Int)) (m:=8) ∅;(nofun; repeat (dsimp only[iv];nofun));let(CF,Xn):∃CF:Nat,dS ns (320+(i:Int)) 8=(CF:Int):=(_,(sa eN).symm);rw[Xn]at uE eP;rw[Xn];rw[sz]at uE;have cF:=xg aF none (some (CF:Int));refine(.inl (_,aE.of pH),Bv,(),(),∅,by rw[FT];decide,nq _ (),_,pH,Ld,?_);let(d1,dY,qN):=put (kn (97+(f+i)%26)++nh aF none (some (CF:Int))) (by
      rw[uE];unfold qH;rw[mx,og,O2 aF ()]
      rfl)
     exact(d1,dY,qN,_,rfl)
  .rintro σ H' bl;ac_rfl
   let(Bv,pF,(xs,pH,vH),eE,dT,rfl):=bl;subst aW;exact cw _ _ (Bv,pF,(xs,pH,by rw[vH,show(m:Int).toNat=m by omega]),eE,dT,rfl)
 intro vT gO (ak1,iO,(xs,Mz,vH),eE,dT,rfl);have mZ:↑xs=m:=by have:=congrArg sj vH;rwa[aO,aO,xk]at this
 have s_:∀k:Nat,(dS ns (320+(k:Int)) 8).toNat<8:=λk=>by
  have eN:=hU ns (320+(k:Int)) (m:=8) ∅;have eP:=hO ns (320+(k:Int)) (m:=8) ∅;omega
 have afa:∀k,k<m->(1<=↑(g k)/\↑(g k)<=8)/\∀c∈g k,97<=c/\c<=122:=λk az=>by
  rw[bj];dsimp only;split
  .have:=anV g5 yw (f:=f) (k:=k) RT;exact((),this.2)
  .split
   .have:=OF g5 yw (k:=k) ();exact((),this.2)
   .exact aot g5 yw (s_ k)
 have aqj:∀i j,i<m->j<m->g i=g j->i=j:=λi j ai aN e=>by
  rw[bj]at e;dsimp only at e;by_cases cZ:way=0
  .rw [if_pos cZ,if_pos cZ]at e;exact ae7 g5 RT () () e
  .rw[if_neg cZ,if_neg cZ]at e;by_cases ck:way=1
   .rw [if_pos ck,if_pos ck]at e;have af:=OF g5 yw (k:=i) ();have aj:=OF g5 yw (k:=j) ();rw[e]at af;omega
   .rw [if_neg ck,if_neg ck]at e;exact aky () () e
 have JH:∀(i:Nat) (x:Str),xs[i]?\x->i<m/\x.cps.toList=g i:=λi x ae=>by
  have ai:i<m:=by rw[<- mZ];exact(b3.mp ae).1
  have e:=congrArg (λl=>l[i]?) vH
  try dsimp only at e
  rw[dF,ae,dF,List.getElem?_range ai]at e;exact(ai,dZ e)
 have N:NB m xs:=by
  refine(mZ,aoU.mpr λi j ai aN qd e=>?_,λx ae=>?_)
  .let(a1,a2):=JH i _ (bq ai);let(hj,gn):=JH j _ (bq aN);rw[e,gn]at a2;have:=aqj i j a1 hj a2.symm;omega
  .let(i,ai):=iH ae;let(a1,a2):=JH i _ ai;have:=afa i a1;exact asR a2 this.1.1 this.1.2 this.2
 subst aW;nofun;exact q d3 xs gO (s2.trans iO) ak1 (s2.free hZ) Mz N
noncomputable abbrev kj(d:bh):List V:=[.str (e4 d.k),.str d.name,.int d.start,.int d.fin,.int d.off,.int d.near,.int d.least]
def jb(H:au)(wl:Addr)(ds:List bh):Prop:=∃qs:List Addr,H wl\(.lst (qs.map V.ref))/\↑qs=↑ds/\∀(i:Nat) (q:Addr) (d:bh),qs[i]?\q->ds[i]?\d->H q\(.tup (kj d))
def jb.same(h:jb H wl ds)(s:aS H H'):jb H' wl ds:=by
 let(qs,aq,aA,al):=h;exact(qs,s _ _ aq,aA,λi q d af aj=>s _ _ (al i q d af aj))
def jb.snoc{H:au}{wl p:Addr}{ds:List bh}{d:bh}{qs:List Addr}(cF:H wl\(.lst (qs.map V.ref)))(cB:↑qs=↑ds)
  (al:∀(i:Nat) (q:Addr) (d:bh),qs[i]?\q->ds[i]?\d->H q\(.tup (kj d))) (ag:H p=none) :
  jb (upd (upd H p (.tup (kj d))) wl (.lst (qs.map V.ref++[⇑p]))) wl (ds++[d]):=by
 have gT:p≠wl:=(du cF ag).symm;refine(qs++[p],by rw[aM,fg];rfl,by rw[dx,dx,cB];rfl,λi q e af aj=>?_);rcases j4 af with⟨gj,ew⟩|⟨gj,rfl⟩
 .rcases j4 aj with⟨l_,iX⟩|⟨l_,_⟩
  .have:=al i q e ew iX;rw[ax (bI this cF (by intro z;cases z)),ax (du this ag)];exact this
  .omega
 .rcases j4 aj with⟨l_,iX⟩|⟨l_,rfl⟩
  .omega
  .rw [ax gT,aM]
def ahX{n s j:Int}(h0:0<=s)(af:s<n)(aj:0<=j)(bb:j<n-1):s≠(s+1+j)%n:=by
 by_cases c:s+1+j<n
 .rw [OQ () c];omega
 .rw [show s+1+j=(s+1+j-n)+n*1 by omega,Int.add_mul_emod_self_left,OQ () ()];omega
structure tN(n:Int)(ds:List bh):Prop where
 al:∀d∈ds,k9 n d/\True
 aD:(ds.map (·.name)).Nodup
def tN.aao{n:Int}(h:tN n ds)(a0:2<=n/\n<=99)(aG:1<=↑ds/\↑ds<=12):tW n ds:=(a0,aG,λd hd=>(h.al d hd).1,h.aD)
def VY(K:bg)(a:Addr)(ns:List Int):bW:=λvs H Q _=>∃most:Int,vs=[⇑a,.int most]/\(1<=most/\most<=8)/\Sc K a ns H /\
 ∀iZ wl n ds H',aS H H'->Sc K a ns H'->H' iZ\(.tup [.int n,⇑wl])->jb H' wl ds->tN n ds->(∀d∈ds,d.least<=4)->(4<=n/\n<=99)->(1<=↑ds/\(↑ds:Int)<=most)->Q ⇑iZ H'
def an9(h0:0<=i)(af:i<4):∃k:Nat,k<3/\fN [V.str (ab "car"),V.str (ab "car"),V.str (ab "foot"),V.str (ab "tram")] i\(.str (e4 k)):=by
 have:i=0\/i=1\/i=2\/i=3:=()
 rcases this with rfl|rfl|rfl|rfl
 .exact (0,∅,cf (j:=0) rfl)
 .exact (0,∅,cf (j:=1) rfl)
 .exact (1,∅,cf (j:=2) rfl)
 .exact (2,∅,cf (j:=3) rfl)
theorem at2(x y:V)(c:Bool):fN [x,y] (if c=true then 1 else 0)\(if c=true then y else x):=by
 cases c with
 |true=>exact cf (j:=1) rfl
 |false=>exact cf (j:=0) rfl
theorem alJ(a:Addr)(ns:List Int)(hu:↑ns<=63):cD P base T 3 t.Gd t.lm Gb (VY K a ns):=by
 refine cK (zI T a ns hu) λfe=>cK (ahk T a ns hu) λaqJ=>?_;exists T.cr.ok nS,9
 let(most,rfl,atU,S,q):=h;refine(_,(aP (b9 (i:=2) nS.aD (b7 dI (f_ (ah (bQ eK aK (cJ fe ao T.f7 T.fA.bM T.fZ (ah (J 0) (ah aK (ah aK aB))))) (ah aK aB))) (k8 XZ rfl T.Pp L3 (ah (iz wf (cJ fe ao T.f7 T.fA.bM T.fZ (ah (J 0) (ah aK (ah aK aB)))) aK (cL _)) aB))))
   (aP (b9 (i:=3) nS.aD (cJ aqJ ao T.acd T.N1.bM T.agY (ah (J 0) (ah (bQ eK aK (cJ fe ao T.f7 T.fA.bM T.fZ (ah (J 0) (ah aK (ah (J 1) aB))))) aB))))
   (aP (b9 (i:=4) nS.aD (f_ aB))
   (aP (fh fK rfl (p2 rfl T.qh (ah (gC jn rfl T.ul je (ah (J 3) aB)) aB)) (cy (i:=5) nS.aD) (aP (b9 (i:=6) nS.aD (cJ fe ao T.f7 T.fA.bM T.fZ (ah (J 0) (ah (bQ eK aK (bQ kA aK (J 5))) (ah (J 2) aB)))))
   (aP (b9 (i:=7) nS.aD (bQ jQ (bQ eK (bQ eK (J 6) aK) (cJ fe ao T.f7 T.fA.bM T.fZ (ah (J 0) (ah (bQ eK aK (bQ kA aK (J 5))) (ah (bQ mE (J 2) aK) aB))))) (J 2)))
   (aP (b9 (i:=8) nS.aD (b7 dI (f_ (ah di (ah di (ah di (ah di aB))))) (cJ fe ao T.f7 T.fA.bM T.fZ (ah (J 0) (ah (bQ eK aK (bQ kA aK (J 5))) (ah aK aB))))))
   (aP (b9 (i:=9) nS.aD (b7 dI (f_ (ah (cJ fe ao T.f7 T.fA.bM T.fZ (ah (J 0) (ah (bQ eK aK (bQ kA aK (J 5))) (ah aK aB)))) (ah aK aB))) (k8 XZ rfl T.Pp L3 (ah (iz wf (cJ fe ao T.f7 T.fA.bM T.fZ (ah (J 0) (ah (bQ eK aK (bQ kA aK (J 5))) (ah aK aB)))) aK (cL _)) aB))))
   (aP (b9 (i:=10) nS.aD (cJ fe ao T.f7 T.fA.bM T.fZ (ah (J 0) (ah (bQ eK aK (bQ kA aK (J 5))) (ah aK aB)))))
   (aP (d5 (gL.pt (r4 (dk wf (cJ fe ao T.f7 T.fA.bM T.fZ (ah (J 0) (ah aK (ah aK aB)))) aK (cL _)) (sJ (dk oo (cJ fe ao T.f7 T.fA.bM T.fZ (ah (J 0) (ah (bQ eK aK (J 5)) (ah aK aB)))) aK (cL _))))) (aP (b9 (i:=8) nS.aD di)
   (a4 (b9 (i:=9) nS.aD aK))) eV)
   (a4 (dV (gq hJ kY lT kW (J 4) (ah (mj (ah (J 8) (ah (b7 dI (J 3) (J 5)) (ah (J 6) (ah (J 7) (ah (J 9) (ah (J 10) (ah (bQ eK aK (cJ fe ao T.f7 T.fA.bM T.fZ (ah (J 0) (ah (bQ eK aK (bQ kA aK (J 5))) (ah aK aB))))) aB)))))))) aB)))))))))))
   (a4 (cA (mj (ah (J 2) (ah (J 4) aB))))))))),?_)
 exists (λav H'=>aS H H'/\Sc K a ns H'/\∃n:Int,(4<=n/\n<=99)/\av=[~~~a,some (.int most),some (.int n),none,none,none,none,none,none,none,none]),3
 .have eN:=hU ns 2 (m:=13) ∅;have eP:=hO ns 2 (m:=13) ∅;(nofun; repeat (dsimp only[iv];nofun));let(n,a0,uM):∃n:Int,(4<=n/\n<=99)/\(if decide (dS ns 3 6=0)=true then V.int 99 else V.int (4+dS ns 2 13))=V.int n:=by
   split
   .exact (99,∅,rfl)
   .exact (_,(),rfl)
  refine(S,∅,∅,∅,∅,λp ag=>(S.new ag,∅,∅,∅,_,aE.of aM,_,at2 _ _ _,?_));rw[uM];exact cw _ _ (bk ag,S.new ag,n,a0,rfl)
 intro amk bU (s0,u0,n,a0,rfl);let(m,akl,hm):∃m:Nat,1+dS ns 1 most=(m:Nat)/\(1<=m/\m<=8/\(m:Int)<=most):=by
  have eN:=hU ns 1 (m:=most) ();have eP:=hO ns 1 (m:=most) ();exact((1+dS ns 1 most).toNat,(),())
 subst aW;exists (λav H'=>aS bU H'/\Sc K a ns H'/\∃nl xs,H' nl\(.lst (a5 xs))/\NB m xs/\av=[~~~a,some (.int most),some (.int n),~~~nl,none,none,none,none,none,none,none]),3
 .nofun;refine(_,_,rfl,u0,∅,(),_,rfl,?_);rw[akl];exact(m,rfl,u0,(),λp xs H' s1 l9 _ e N=>cw _ _ (s1,l9,p,xs,e,N,rfl))
 intro fO H1 (s1,l9,nl,xs,uM,N,rfl);subst aW;exists (λav H'=>Sc K a ns H'/\aS H1 H'/\∃wl,H1 wl=none/\H' wl\(.lst [])/\av=[~~~a,some (.int most),some (.int n),~~~nl,~~~wl,none,none,none,none,none,none]),3
 .nofun;exact(e0 _,λwl g5=>cw _ _ (l9.new g5,bk g5,wl,g5,aM,rfl))
 intro fR ba (y',s3,wl,g5,ik,rfl);have Up:↑(a5 xs)=m:=by unfold a5;rw[aO,N.1]
 subst aW;nofun;refine(_,.inl (aE.of (s3 _ _ uM)),(),by rw[Up];omega,?_);rw[show((↑(a5 xs):Nat):Int).toNat=m by rw[Up];rfl];refine ey.range (λi σ H'=>Sc K a ns H'/\aS H1 H'/\(∃ds,jb H' wl ds/\↑ds=i/\(∀d∈ds,k9 n d/\d.least<=4)/\∀(j:Nat) (d:bh),ds[j]?\d->xs[j]?\d.name)/\∃eh dO eE dT pL jz,σ=[~~~a,some (.int most),some (.int n),~~~nl,~~~wl,eh,dO,eE,dT,pL,jz]) (y',s3,([],([],ik,rfl,λi q d h=>by simp at h),rfl,λd h=>by simp at h,λj d h=>by simp at h),_,_,_,_,_,_,rfl) ?_ ?_
 .rintro i σ H' ai bl;ac_rfl
  let(kO,s4,(ds,yu,e3,a6,m2),eh,dO,eE,dT,pL,jz,rfl):=bl;have Fh:i<m:=ai;have D7:xs[i]?\(xs[i]'(by rw[N.1];exact Fh)):=bq _;subst aW;generalize xs[i]'(by rw[N.1];exact Fh)=nm at D7;have ao9:=s4 _ _ uM;have ace:fN (a5 xs) ((i:Nat):Int)\(.str nm):=cf (by unfold a5;rw[dF,D7];rfl);simp only[gz,dd,jM,jF,tj];exists (λav ia=>ia=H'/\∃st:Int,(0<=st/\st<n)/\av=[~~~a,some (.int most),some (.int n),~~~nl,~~~wl,some (.int (i:Nat)),some (.int st),eE,dT,pL,jz]),0
  .have eN:=hU ns (10+7*(i:Int)) (m:=n) ();have eP:=hO ns (10+7*(i:Int)) (m:=n) ();(nofun; repeat (dsimp only[iv];nofun));exact(.inl (∅,∅),kO,(),(),(),cw _ _ (rfl,_,(eN,eP),rfl))
  intro aej ej (rfl,st,g7,rfl);subst aW;simp only[dd];exists (λav ia=>ia=ej/\∃gd:Int,(0<=gd/\gd<n)/\st≠gd/\av=[~~~a,some (.int most),some (.int n),~~~nl,~~~wl,some (.int (i:Nat)),some (.int st),some (.int gd),dT,pL,jz]),0
  .have eN:=hU ns (11+7*(i:Int)) (m:=n-1) ();have eP:=hO ns (11+7*(i:Int)) (m:=n-1) ();have m0:=Eb (st+1+dS ns (11+7*(i:Int)) (n-1)) (show n≠0 by omega);have iJ:=ER (st+1+dS ns (11+7*(i:Int)) (n-1)) (show 0<n by omega);(nofun; repeat (dsimp only[iv];nofun));exact(.inl (∅,∅),kO,(),(),(),(),cw _ _ (rfl,_,(m0,iJ),ahX g7.1 g7.2 eN (),rfl))
  intro auc hP (rfl,gd,O7,bX,rfl);subst aW;simp only[dd];exists (λav ia=>aS hP ia/\Sc K a ns ia/\∃k:Nat,k<3/\av=[~~~a,some (.int most),some (.int n),~~~nl,~~~wl,some (.int (i:Nat)),some (.int st),some (.int gd),some (.str (e4 k)),pL,jz]),0
  .have eN:=hU ns (12+7*(i:Int)) (m:=4) ∅;have eP:=hO ns (12+7*(i:Int)) (m:=4) ∅;let(k,az,qv):=an9 eN eP;(nofun; repeat (dsimp only[iv];nofun));exact(∅,λp ag=>(.inl (∅,∅),kO.new ag,(),(),∅,_,aE.of aM,_,qv,cw _ _ (bk ag,kO.new ag,k,az,rfl)))
  intro auA JU (kU,SC,iD,jR,rfl);subst aW;simp only[dd];exists (λav ia=>aS JU ia/\Sc K a ns ia/\∃u4:Int,(0<=u4/\u4<=30)/\av=[~~~a,some (.int most),some (.int n),~~~nl,~~~wl,some (.int (i:Nat)),some (.int st),some (.int gd),some (.str (e4 iD)),some (.int u4),jz]),0
  .have eN:=hU ns (13+7*(i:Int)) (m:=9) ∅;have eP:=hO ns (13+7*(i:Int)) (m:=9) ∅;(nofun; repeat (dsimp only[iv];nofun));let(v,aQ,uM):∃v:Int,(0<=v/\v<=30)/\(if decide (dS ns (14+7*(i:Int)) 12=0)=true then V.int 30 else V.int (dS ns (13+7*(i:Int)) 9))=V.int v:=by
    split
    .exact (30,∅,rfl)
    .exact (_,(),rfl)
   refine(.inl (∅,∅),SC,(),(),∅,∅,λp ag=>(.inl (∅,∅),SC.new ag,(),(),∅,_,aE.of aM,_,at2 _ _ _,?_));rw[uM];exact cw _ _ (bk ag,SC.new ag,v,aQ,rfl)
  intro auG ZJ (ve,yE,Xg,akr,rfl);subst aW;simp only[dd];exists (λav ia=>ia=ZJ/\∃KR:Int,(0<=KR/\KR<=5)/\av=[~~~a,some (.int most),some (.int n),~~~nl,~~~wl,some (.int (i:Nat)),some (.int st),some (.int gd),some (.str (e4 iD)),some (.int Xg),some (.int KR)]),0
  .have eN:=hU ns (15+7*(i:Int)) (m:=6) ∅;have eP:=hO ns (15+7*(i:Int)) (m:=6) ∅;(nofun; repeat (dsimp only[iv];nofun));exact(.inl (∅,∅),yE,(),(),∅,cw _ _ (rfl,_,(),rfl))
  intro auw ach (rfl,ne1,aco,rfl);subst aW;simp only[dd];exists (λav ia=>ia=ach/\∃(k:Nat) (u4:Int),k<3/\(0<=u4/\u4<=30)/\av=[~~~a,some (.int most),some (.int n),~~~nl,~~~wl,some (.int (i:Nat)),some (.int st),some (.int gd),some (.str (e4 k)),some (.int u4),some (.int ne1)]),0
  .refine d8 (decide (dS ns 9 6=0)&&decide (0<dS ns (60+(i:Int)) 4)) (λQ a9=>?_) (λ_=>?_) (λ_=>?_)
   ·(nofun; repeat (dsimp only[iv];nofun));refine(yE,(),(),∅,?_);by_cases cZ:dS ns 9 6=0
    .rw [if_pos (decide_eq_true cZ)];rw[decide_eq_true cZ,n0]at a9;exact(yE,(),(),∅,a9)
    .rw [if_neg (by simpa using cZ)];rw[decide_eq_false cZ,o6]at a9;exact a9
   .nofun;exact cw _ _ (rfl,1,0,∅,∅,rfl)
   .nofun;exact cw _ _ (rfl,iD,Xg,jR,akr,rfl)
  intro aus vJ (rfl,k,of2,az,aef,rfl);have kx:=kU.trans ve;have aq5:=kx _ _ ao9;have aok:=yu.same kx;have eN:=hU ns (16+7*(i:Int)) (m:=4) ∅;have eP:=hO ns (16+7*(i:Int)) (m:=4) ∅;let(yl,aoD,hle):∃yl:Int,1+dS ns (16+7*(i:Int)) 4=yl/\1<=yl/\yl<=4:=(_,rfl,(),());let(qs,cF,cB,al):=aok;subst aW;(nofun; repeat (dsimp only[iv];nofun));rw[aoD];refine(.inl (_,aE.of cF),_,aE.of aq5,_,ace,.inl (∅,∅),yE,(),(),∅,∅,λp ag=>?_);have cV:wl≠p:=du cF ag;have akT:=jb.snoc (d:=(k,nm,st,gd,of2,ne1,yl)) cF cB al ag;refine(_,by rw[ax cV];exact cF,fW (show ↑(qs.map V.ref)<=8 by rw[aO];omega) ∅,(yE.new ag).set (by rw[ax cV];exact cF) (λ_ _ z=>by cases z),((s4.trans kx).trans (bk ag)).gW g5,(ds++[(k,nm,st,gd,of2,ne1,yl)],akT,by rw[dx,e3];rfl,λd hd=>?_,λj d hd=>?_),?_)
  .rcases ff.mp hd with hd|hd
   .exact a6 d hd
   .rw [eg.mp hd];exact((az,N.2.2 nm (ct D7),(g7.1,g7.2),(O7.1,O7.2),bX,aef,(aco.1,by dsimp only;omega),(hle.1,by dsimp only;omega)),hle.2)
  .rcases j4 hd with⟨_,z⟩|⟨z,rfl⟩
   .exact m2 j d z
   .rw [z,e3];exact D7
  .repeat (first|exact(_,rfl)|refine((_,rfl),?_))
 .rintro σ H' bl;ac_rfl
  let(kO,s4,(ds,yu,e3,a6,m2),eh,dO,eE,dT,pL,jz,rfl):=bl;subst aW;nofun;refine(∅,λiZ qg=>?_);refine q iZ wl n ds _ (((s0.trans s1).trans s4).trans (bk qg)) (kO.new qg) aM (yu.same (bk qg)) (λd hd=>((a6 d hd).1,trivial),?_) (λd hd=>(a6 d hd).2) a0 ();have e:ds.map (·.name)=xs:=by
   refine List.ext_getElem? λj=>?_
   rw[dF];cases h:ds[j]? with
   |some d=>exact(m2 j d h).symm
   |none=>
    have:↑ds<=j:=anL.mp h;exact(anL.mpr (by rw[N.1];omega)).symm
  rw[e];exact N.2.1
def ahf(d:bh):((((e4 d.k++ab " ")++d.name)++ab " ")++rS (ab " ") [num d.start,num d.fin,num d.off,num d.near,num d.least])=eI c6 (No d):=by
 apply KB;have gk:(ab " ").cps.toList=[32]:=∅
 rw[show rS (ab " ") [num d.start,num d.fin,num d.off,num d.near,num d.least]=eI c6 [num d.start,num d.fin,num d.off,num d.near,num d.least]from y3 _ _];rw[mx,og,Dm,ti,ti];unfold No;simp only[mx,og,e1,p_,mD,gk,oj,AP,Qp]
def ab5(n:Int):ab "ring "++num n=eI c6 [ab "ring",num n]:=by
 apply KB;have aq:(ab "ring ").cps.toList=[114,105,110,103,32]:=∅
 have aA:(ab "ring").cps.toList=[114,105,110,103]:=∅
 rw[Dm,ti];simp only[mx,og,e1,p_,mD,aq,aA,AP,Qp]
theorem CS:∀{ys:List Str},(∀y∈ys,↑y<=B)->(ys.map (·.length)).sum<=↑ys*B
 |[],_=>by simp
 |a::r,h=>by
  have af:=h a (by simp);have aj:=CS (B:=B) (ys:=r) λy aJ=>h y (il _ aJ)
  rw[e1,Jw,ih,aeH];omega
def als{n:Int}(h:tW n ds):∀y∈(jd n ds).map (eI c6),↑y<=63:=λy aJ=>by
 let(r,ao,rfl):=cj.mp aJ;have:=rv c6 8 r λx ae=>(h.plain r ao x ae).1
 rw[se]at this;have aG:↑r<=7:=by
  rcases e_.mp ao with rfl|ao
  .simp
  .let(d,hd,rfl):=cj.mp ao;simp[No]
 omega
def WX(K:bg):bW:=λvs H Q _=>∃n wl ds,vs=[.int n,⇑wl]/\jb H wl ds/\tN n ds/\(2<=n/\n<=99)/\(1<=↑ds/\↑ds<=12)/\aI H/\Q (.str (rf n ds)) H
def ark(K:bg):bW:=λvs H Q _=>∃n wl ds,vs=[.int n,⇑wl]/\jb H wl ds/\tN n ds/\(2<=n/\n<=99)/\(1<=↑ds/\↑ds<=12)/\∀H',aS H H'->Q (.str (rf n ds)) H'
theorem apz:cD P base T 1 t.C6 t.Hc Ej (WX K):=by
 refine cz.forget (sp:=ark K) ?_ λvs H Q E h=>?_
 .exists T.HU.ok K0,9
  let(n,wl,ds,rfl,L,D,a0,aG,q):=h;refine(_,(aP (b9 (i:=2) K0.aD (f_ (ah (bQ kT di (k8 yK rfl T.ze Cl (ah (J 0) aB))) aB)))
   (aP (fh fK rfl (eQ (J 1)) (cy (i:=3) K0.aD) (a4 (dV (gq hJ kY lT kW (J 2) (ah (bQ kT (bQ kT (bQ kT (bQ kT (b7 fD (J 3) aK) di) (b7 fD (J 3) aK)) di) (gq vi Df C7 yT di (ah (h_ rfl (afX (vp apQ (J 3) (vx aK) u')) (Gc (sc:=bD (top 68)) rfl ∅) (N:=["_law_number"]) (sel:=[none]) (g_ (M:=["_law_places","_law_ways_here","_law_rows","_law_way"]) ∅) (fT.of (λ_ _ _ _=>(cy (i:=0) (eZ (N:=["_law_number"]) ∅ rfl))) (λ_ _ _ _=>(_,i',by walk_at "B")) (λ_ _ _ _=>(_,(k8 yK rfl T.ze Cl (ah (J 0) aB)),by walk_at "B")))) aB))) aB)))))
   (a4 (cA (gq vi Df C7 yT di (ah (J 2) aB)))))),?_)
  have cu:=D.aao a0 aG;let(qs,cF,cB,al):=L;have hlen:∀x:Str,rx x->↑x<=8:=λx h=>h.1
  have nq:∀k:Nat,k<=1000->k<=sizeLine:=λk h=>c9 h ∅
  have acM:↑(ab "ring ")=5:=∅
  have E9:↑(ab " ")=1:=∅
  nofun;have ava:↑(ab (toString n))<=8:=(mq (v:=n) () ()).1;refine(KU (),nq _ (by rw[acM];omega),∅,λd3 Ei=>?_);rw[ab5];have s0:aS H (upd H d3 (.lst [V.str (eI c6 [ab "ring",num n])])):=bk Ei;refine((_,aE.of (s0 _ _ cF)),?_);refine ey.list (xs:=qs.map V.ref) (λi σ H'=>aS H H'/\H' d3\(.lst (a5 ((jd n (ds.take i)).map (eI c6))))/\∃x,σ=[some (.int n),~~~wl,~~~d3,x]) ?_ ?_ ?_ ?_
  .exact (s0,aM,none,rfl)
  .intro i σ H' ai (bo,_,_);exact aE.of (bo _ _ cF)
  .rintro i v σ H' aQ bl;ac_rfl
   let(bo,ao,x,rfl):=bl;let(cW,ay,rfl):=b_ aQ;have lF:i<↑ds:=by rw[<- cB];exact(b3.mp ay).1
   have hd:ds[i]?\ds[i]:=bq lF;have ec:de K H' cW (kj ds[i]):=de.of (bo _ _ (al i cW _ ay hd));have hw:=(D.al _ (ct hd)).1;have hj:=hw.st;have gn:=hw.gd;have n9:=hw.of;have pB:=hw.Pn;have r_:=hw.le;have gj:=hlen _ (W4 ds[i].k);have ew:=hlen _ (H4 hw.nm);have uy:↑(num ds[i].start)<=8:=hlen _ (mq (v:=ds[i].start) () ());have Cm:↑(num ds[i].fin)<=8:=hlen _ (mq (v:=ds[i].fin) () ());have Hl:↑(num ds[i].off)<=8:=hlen _ (mq (v:=ds[i].off) () ());have atV:↑(num ds[i].least)<=8:=hlen _ (mq (v:=ds[i].least) () ());have au9:↑(num ds[i].near)<=8:=hlen _ (mq (v:=ds[i].near) () ());subst aW;nofun;refine(.inl (_,aE.of ao),?_);have Nn:fN (kj ds[i]) 0\(.str (e4 ds[i].k)):=cf (j:=0) rfl;have w4:fN (kj ds[i]) 1\(.str ds[i].name):=cf (j:=1) rfl;refine(_,ec,_,Nn,_,rfl,nq _ (),_,ec,_,w4,_,rfl,nq _ (by rw[ql];omega),nq _ (by simp only[ql];omega),?_);have IF:n5 (kj ds[i]) (some 2) none=[.int ds[i].start,.int ds[i].fin,.int ds[i].off,.int ds[i].near,.int ds[i].least]:=rfl;refine(_,ec,?_,λp ag=>((_,de.of aM),?_))
   .show ¬(gU.dH 7 0 (some 2)=0/\gU.dH 7 7 none=7);decide
   rw[IF];have au7:↑(rS (ab " ") [num ds[i].start,num ds[i].fin,num ds[i].off,num ds[i].near,num ds[i].least])<=50:=by
    rw[show rS (ab " ") [num ds[i].start,num ds[i].fin,num ds[i].off,num ds[i].near,num ds[i].least]=eI c6 [num ds[i].start,num ds[i].fin,num ds[i].off,num ds[i].near,num ds[i].least]from y3 _ _];have:=rv c6 8 [num ds[i].start,num ds[i].fin,num ds[i].off,num ds[i].near,num ds[i].least] (λy aJ=>by
     simp only[e_,r1,or_false]at aJ;rcases aJ with rfl|rfl|rfl|rfl|rfl <;> assumption)
    rw[se]at this;simp only[ih,yP]at this;omega
   refine dB.agP (xs:=[.int ds[i].start,.int ds[i].fin,.int ds[i].off,.int ds[i].near,.int ds[i].least]) (zs:=a5 [num ds[i].start,num ds[i].fin,num ds[i].off,num ds[i].near,num ds[i].least]) (de.of aM) (nq _ ((∅:5<=1000))) rfl (λj v z N aQ aH bw=>?_) (λdY g4=>?_)
   .have key:∃a:Int,v=.int a/\z=.str (num a)/\0<=a/\a<100:=by
     match j,aQ,aH with
     |0,aQ,aH=>cases aQ;cases aH;exact(_,rfl,rfl,hj.1,())
     |1,aQ,aH=>cases aQ;cases aH;exact(_,rfl,rfl,gn.1,())
     |2,aQ,aH=>cases aQ;cases aH;exact(_,rfl,rfl,n9.1,())
     |3,aQ,aH=>cases aQ;cases aH;exact(_,rfl,rfl,pB.1,())
     |4,aQ,aH=>cases aQ;cases aH;exact(_,rfl,rfl,(),())
     |k+5,aQ,aH=>simp at aQ
    let(a,rfl,rfl,auV,ato):=key;nofun;exact(Sub.name,KU (),bw)
   .nofun;have agl:d3≠dY:=by
     rintro rfl;rw[ax (du ao ag)]at g4;rw[g4]at ao;cases ao
    have hZ:(upd (upd H' p (.tup [.int ds[i].start,.int ds[i].fin,.int ds[i].off,.int ds[i].near,.int ds[i].least])) dY (.lst (a5 [num ds[i].start,num ds[i].fin,num ds[i].off,num ds[i].near,num ds[i].least]))) d3\(.lst (a5 ((jd n (ds.take i)).map (eI c6)))):=by
     rw[ax agl,ax (du ao ag)];exact ao
    have Bb:aS H' (upd (upd H' p (.tup [.int ds[i].start,.int ds[i].fin,.int ds[i].off,.int ds[i].near,.int ds[i].least])) dY (.lst (a5 [num ds[i].start,num ds[i].fin,num ds[i].off,num ds[i].near,num ds[i].least]))):=(bk ag).trans (bk g4);have VB:=aE.of (K:=K) (H:=upd (upd H' p (.tup [.int ds[i].start,.int ds[i].fin,.int ds[i].off,.int ds[i].near,.int ds[i].least])) dY (.lst (a5 [num ds[i].start,num ds[i].fin,num ds[i].off,num ds[i].near,num ds[i].least]))) (a:=dY) aM;generalize upd (upd H' p (.tup [.int ds[i].start,.int ds[i].fin,.int ds[i].off,.int ds[i].near,.int ds[i].least])) dY (.lst (a5 [num ds[i].start,num ds[i].fin,num ds[i].off,num ds[i].near,num ds[i].least]))=ar at hZ Bb VB⊢;refine(_,VB,?_,nq _ (by simp only[ql];omega),_,hZ,?_,?_,?_,_,rfl)
    .simp only[e1,p_,Jw,List.sum_nil,ih,yP];omega
    .rw [lc,aO];exact fW (show ↑(jd n (ds.take i))<=13 by unfold jd;rw[ih,aO,hb];omega) ∅
    .exact λb u e=>by rw[ax (du e Ei)];exact Bb _ _ (bo _ _ e)
    .rw [aM,ahf ds[i]];congr 2;unfold jd a5;simp;rw[qJ,dF,hd];rfl
  .rintro σ H' bl;ac_rfl
   let(bo,ao,x,rfl):=bl;subst aW;nofun;rw[aO,cB,hE]at ao;refine(_,aE.of ao,?_,?_)
   .have hu:∀y∈(jd n ds).map (eI c6),↑y<=63:=als cu;have atQ:↑((jd n ds).map (eI c6))<=13:=by
     unfold jd;rw[aO,ih,aO];omega
    have:=CS hu;rw[(∅:↑(ab "\n")=1)];omega
   .have:=q H' bo;unfold rf at this;rw[show rS (ab "\n") ((jd n ds).map (eI c6))=eI nl ((jd n ds).map (eI c6))from y3 _ _];exact this
 .let(n,wl,ds,af,aj,bb,dt,fm,bH,q):=h;exact(bH,n,wl,ds,af,aj,bb,dt,fm,λH' bo=>(bo,q))
def ap1(K:bg):bW:=λvs H Q _=>∃n a b d e,vs=[⇑a,⇑b,.int n]/\de K H a (kj d)/\de K H b (kj e)/\k9 n d/\k9 n e/\Q (.bC (mt n d e)) H
noncomputable def Uf(d e:bh):Bool:=decide (d.k=2)==decide (e.k=2)
def ao5(K:bg):bW:=λvs H Q _=>∃wl ds,∃i j:Nat,∃d e,vs=[⇑wl,.int i,.int j]/\jb H wl ds/\ds[i]?\d/\ds[j]?\e/\d.k<3/\e.k<3/\Q (.bC (Uf d e)) H
def agg:cD P base T 1 t.Qu t.Pg J' (ap1 K):=by
 exists T.P4.ok BW,9
 let(n,a,b,d,e,rfl,sx,w3,hd,he,q):=h;refine(_,(aP (d5 (dk wf (b7 fD (J 0) aK) (b7 fD (J 1) aK) (cL _)) (a4 (cA mN)) eV)
   (aP (d5 (gL.pt (tm (dk wf (b7 fD (J 0) aK) (b7 fD (J 1) aK) (cL _)) (tm (dk wf (b7 fD (J 0) aK) (b7 fD (J 1) aK) (cL _)) (uW (dk wf (b7 fD (J 0) aK) (b7 fD (J 1) aK) (cL _)))))) (a4 (cA mN)) eV)
   (aP (b9 (i:=3) BW.aD (bQ jQ (bQ mE (b7 fD (J 0) aK) (b7 fD (J 0) aK)) (J 2)))
   (aP (b9 (i:=4) BW.aD (bQ jQ (bQ mE (b7 fD (J 1) aK) (b7 fD (J 0) aK)) (J 2)))
   (aP (b9 (i:=5) BW.aD (bQ jQ (bQ mE (b7 fD (J 1) aK) (b7 fD (J 0) aK)) (J 2)))
   (a4 (cA (iz ug (iz nt (J 4) (J 3) (cL _)) (iz nt (J 5) (J 3) (cL _)) (cL _))))))))),?_)
 have a2:fN (kj d) 2\(.int d.start):=cf (j:=2) rfl;have fo:fN (kj d) 3\(.int d.fin):=cf (j:=3) rfl;have gn:fN (kj e) 2\(.int e.start):=cf (j:=2) rfl;have n9:fN (kj e) 3\(.int e.fin):=cf (j:=3) rfl;have f1:=hd.st;have f2:=hd.gd;have e5:=he.st;have f4:=he.gd;refine d8 (decide (d.fin=e.fin)) (λQ a9=>?_) (λc=>?_) (λc=>?_)
 .nofun;refine(_,sx,_,fo,_,w3,_,n9,rfl,?_);nofun;exact a9
 .nofun;unfold mt vv at q;rw[c,vb]at q;exact q
 .have c':=of_decide_eq_false c;nofun;refine d8 (decide (d.start=e.start)||(decide (d.start=e.fin)||decide (d.fin=e.start))) (λQ a9=>?_) (λU=>?_) (λU=>?_)
  .nofun;refine(_,sx,_,a2,_,w3,_,gn,rfl,?_);by_cases ck:d.start=e.start
   .rw [if_pos (by simp[ck])];rw[decide_eq_true ck,vb]at a9;exact a9
   .rw[if_neg (by simpa using ck)];refine(_,sx,_,a2,_,w3,_,n9,rfl,?_);by_cases cP:d.start=e.fin
    .rw [if_pos (by simp[cP])];rw[decide_eq_false ck,decide_eq_true cP,nz,vb]at a9;exact a9
    .rw [if_neg (by simpa using cP)];refine(_,sx,_,fo,_,w3,_,gn,rfl,?_);rw[decide_eq_false ck,decide_eq_false cP,nz,nz]at a9;rw[show decide (V.int d.fin=V.int e.start)=decide (d.fin=e.start)from decide_eq_decide.mpr (by simp)];exact a9
  .nofun;unfold mt vv at q;rw[c,nz,if_pos (by
    rw[yQ,yQ,decide_eq_true_eq,decide_eq_true_eq,decide_eq_true_eq]at U
    omega)]at q
   exact q
  .rw[z5,z5,decide_eq_false_iff_not,decide_eq_false_iff_not,decide_eq_false_iff_not]at U;have rV:0<n:=()
   have d1:0<(e.start-d.start)%n:=by rw[DK f1.1 f1.2 e5.1 e5.2];split <;> omega
   have dY:0<(e.fin-d.start)%n:=by rw[DK f1.1 f1.2 f4.1 f4.2];split <;> omega
   unfold mt vv lW at q;rw[c,nz,if_neg (),decide_eq_true d1,decide_eq_true dY,n0,n0]at q;nofun;refine(_,sx,_,fo,_,sx,_,a2,_,rfl,_,rfl,rV,_,w3,_,gn,_,sx,_,a2,_,rfl,_,rfl,rV,_,w3,_,n9,_,sx,_,a2,_,rfl,_,rfl,rV,?_);generalize decide ((e.start-d.start)%n<(d.fin-d.start)%n)=X at q⊢;generalize decide ((e.fin-d.start)%n<(d.fin-d.start)%n)=Y at q⊢;cases X <;> cases Y <;> exact q
def asT:cD P base T 1 t.K_ t.Ou PM (ao5 K):=by
 exists T.Ol.ok YW,9
 let(wl,ds,i,j,d,e,rfl,(qs,cF,cB,al),ai,aN,az,hA,q):=h;have hW:qs[i]?\(qs[i]'(by rw[cB];exact(b3.mp ai).1)):=bq _;have eY:qs[j]?\(qs[j]'(by rw[cB];exact(b3.mp aN).1)):=bq _;have CL:=al i _ d hW ai;have Ly:=al j _ e eY aN;have t9:=cf (xs:=qs.map V.ref) (j:=i) (by rw[dF,hW];rfl);have JL:=cf (xs:=qs.map V.ref) (j:=j) (by rw[dF,eY];rfl);refine(_,(aP (b9 (i:=3) YW.aD (iz wf (b7 fD (b7 dI (J 0) (J 1)) aK) di (cL _)))
   (a4 (cA (iz wf (J 3) (iz wf (b7 fD (b7 dI (J 0) (J 2)) aK) di (cL _)) (cL _))))),?_)
 nofun;refine(_,aE.of cF,_,t9,_,rfl,_,de.of CL,_,cf (j:=0) rfl,rfl,_,aE.of cF,_,JL,_,rfl,_,de.of Ly,_,cf (j:=0) rfl,rfl,?_);have af:∀k,k<3->decide (V.str (e4 k)=V.str (ab "tram"))=decide (k=2):=∅
 rw[af d.k az,af e.k hA];unfold Uf at q;rw[show decide (decide (d.k=2)=decide (e.k=2))=(decide (d.k=2)==decide (e.k=2))from rfl];exact q
structure lh(bU H:au)(gl:Addr)(qs:List Addr)(bN:List (List Nat)):Prop where
 af:H gl\(.lst (qs.map V.ref))
 aj:↑qs=↑bN
 bb:qs.Nodup
 dt:gl∉qs
 fm:∀(i:Nat) (q:Addr) (g:List Nat),qs[i]?\q->bN[i]?\g->H q\(.lst (g.map λk:Nat=>V.int k))
 jw:∀q∈qs,bU q=none
def lh.same(h:lh bU H gl qs bN)(s:aS H H'):lh bU H' gl qs bN:=
 (s _ _ h.af,h.aj,h.bb,h.dt,λi q g a b=>s _ _ (h.fm i q g a b),h.jw)
structure kb(n:Int)(ds:List bh)(m:Nat)(bN:List (List Nat)):Prop where
 ne:∀g∈bN,g≠[]
 pm:bN.flatten.Perm (gN m)
 Ey:∀g∈bN,∀i∈g,∀j∈g,i≠j->∀d e,ds[i]?\d->ds[j]?\e->mt n d e=false
 al:∀g∈bN,∀i∈g,∀j∈g,∀d e,ds[i]?\d->ds[j]?\e->Uf d e=true
def kb.nil(n:Int)(ds:List bh):kb n ds 0 []:=(by simp,by simp,by simp,by simp)
def yh:Uf y z=true↔(y.k=2↔z.k=2):=by
 unfold Uf;simp
def apU(h:Uf y z=true):Uf z y=true:=yh.mpr (yh.mp h).symm
def alG{x y z:bh}(h:Uf x y=true)(h':Uf y z=true):Uf x z=true:=yh.mpr ((yh.mp h).trans (yh.mp h'))
def lh.off{gl x:Addr}(h:lh bU H gl qs bN)(ae:x≠gl)(ay:x∉qs):lh bU (upd H x o) gl qs bN:=
 (by rw[ax (cT ae)];exact h.af,h.aj,h.bb,h.dt,λi q g a b=>by rw[ax (λz=>ay (by rw[<- z];exact ct a))];exact h.fm i q g a b,h.jw)
def abg(l:List α)(i:Nat)(a:α):(ins l i a).Perm (l++[a]):=by
 unfold ins;refine ak3.trans ?_;rw[WL];exact(anF (l₁:=[a]) (l₂:=l))
def XL:∀{l l':List (List α)},l.Perm l'->l.flatten.Perm l'.flatten:=λh=>h.flatten
theorem Yf:∀{bN:List (List Nat)} {j:Nat} {g g':List Nat} {k:Nat},bN[j]?\g->g'.Perm (g++[k])->(bN.set j g').flatten.Perm (bN.flatten++[k])
 |[],j,g,g',k,h,_=>by simp at h
 |p4::bN,0,g,g',k,h,p=>by
  cases(show p4=g by simpa using h);show(g'::bN).flatten.Perm _;rw[ym,ym,oj];refine(p.append_right _).trans ?_;rw[oj];exact aog p4 anF
 |p4::bN,j+1,g,g',k,h,p=>by
  rw[xw]at h;show(p4::bN.set j g').flatten.Perm _;rw[ym,ym,oj];exact aog p4 (Yf h p)
def kb.put {n:Int} (S:kb n ds m bN) {j p:Nat} {d:bh} (bj:bN[j]?\g) (hd:ds[m]?\d)
  (Gs:∀i∈g,∀e,ds[i]?\e->mt n e d=false/\mt n d e=false/\Uf e d=true):kb n ds (m+1) (bN.set j (ins g p m)):=by
 have qG:=ct bj;refine(λx ae=>?_,?_,λx ae i ai kh gw bX e br he iB=>?_,λx ae i ai kh gw e br he iB=>?_)
 .rcases WI ae with z|z
  .exact S.ne x z
  .rw [z];unfold ins;simp
 .rw [Ah];exact(Yf bj (abg g p m)).trans (S.pm.append_right [m])
 .rcases WI ae with z|z
  .exact S.Ey x z i ai kh gw bX e br he iB
  .rw[z]at ai gw;rcases pK ai with u|u
   .subst u;rw[hd]at he;cases he;rcases pK gw with v|v
    .exact absurd v.symm bX
    .exact (Gs kh v br iB).2.1
   .rcases pK gw with v|v
    .subst v;rw[hd]at iB;cases iB;exact(Gs i u e he).1
    .exact S.Ey g qG i u kh v bX e br he iB
 .rcases WI ae with z|z
  .exact S.al x z i ai kh gw e br he iB
  .rw[z]at ai gw;have self:∀y:bh,Uf y y=true:=λy=>by unfold Uf;simp
   have sym:∀y z:bh,Uf y z=true->Uf z y=true:=λy z h=>apU h
   rcases pK ai with u|u
   .subst u;rw[hd]at he;cases he;rcases pK gw with v|v
    .subst v;rw[hd]at iB;cases iB;exact self _
    .exact sym _ _ (Gs kh v br iB).2.2
   .rcases pK gw with v|v
    .subst v;rw[hd]at iB;cases iB;exact(Gs i u e he).2.2
    .exact S.al g qG i u kh v e br he iB
def kb.new{n:Int}(S:kb n ds m bN)(p:Nat):kb n ds (m+1) (ins bN p [m]):=by
 have self:∀y:bh,Uf y y=true:=λy=>by unfold Uf;simp
 refine(λx ae=>?_,?_,λx ae i ai kh gw bX e br he iB=>?_,λx ae i ai kh gw e br he iB=>?_)
 .rcases pK ae with z|z
  .rw [z];simp
  .exact S.ne x z
 .rw [Ah];refine(XL (abg bN p [m])).trans ?_;rw[aiS];simpa using S.pm.append_right [m]
 .rcases pK ae with z|z
  .rw [z]at ai gw;exact absurd ((eg.mp ai).trans (eg.mp gw).symm) bX
  .exact S.Ey x z i ai kh gw bX e br he iB
 .rcases pK ae with z|z
  .rw [z]at ai gw;rw[eg.mp ai]at he;rw[eg.mp gw,he]at iB;cases iB;exact self _
  .exact S.al x z i ai kh gw e br he iB
def lh.put{gl q:Addr}(h:lh bU H gl qs bN)(ay:qs[j]?\q)(aN:j<↑bN) :
  lh bU (upd H q (.lst (g'.map λk:Nat=>V.int k))) gl qs (bN.set j g'):=by
 let(af,aj,bb,dt,fm,jw):=h;have ng:gl≠q:=λz=>dt (by rw[z];exact ct ay)
 refine(by rw[ax ng];exact af,by rw[aqc];exact aj,bb,dt,λi r g a b=>?_,jw);by_cases c:i=j
 .subst c;rw[ay]at a;cases a;rw[GJ aN]at b;cases b;exact aM
 .rw[F2 (λe=>c e.symm)]at b;have bX:r≠q:=λe=>by
   subst e;let(a1,hj):=b3.mp a;let(a2,gn):=b3.mp ay;exact c ((sP bb).mp (hj.trans gn.symm))
  rw[ax bX];exact fm i r g a b
def lh.new{gl p:Addr}{k:Nat}(h:lh bU H gl qs bN)(h0:aS bU H)(ag:H p=none)(az:k<=↑bN) :
  lh bU (upd (upd H p (.lst (g.map λk:Nat=>V.int k))) gl (.lst ((ins qs k p).map V.ref))) gl (ins qs k p) (ins bN k g):=by
 have WY:gl≠p:=du h.af ag;have akm:p∉qs:=λz=>by
  let(i,ai):=iH z;have BF:i<↑bN:=by rw[<- h.aj];exact(b3.mp ai).1
  have e:=h.fm i p _ ai (bq BF);rw[ag]at e;cases e
 have Zt:k<=↑qs:=by rw[h.aj];exact az
 refine(aM,by rw[Zv Zt,Zv az,h.aj],asN h.bb akm,λz=>?_,λi q g' a b=>?_,λq ay=>?_)
 .rcases pK z with z|z
  .exact WY z
  .exact h.dt z
 .rw[uC Zt]at a;rw[uC az]at b;have keep:∀{i:Nat} {q:Addr} {g':List Nat},qs[i]?\q->bN[i]?\g'->upd (upd H p (.lst (g.map λk:Nat=>V.int k))) gl (.lst ((ins qs k p).map V.ref)) q=some (.lst (g'.map λk:Nat=>V.int k)):=λ{i q g'} a b=>by
   have e:=h.fm i q g' a b;have ng:q≠gl:=λz=>h.dt (by rw[<- z];exact ct a)
   rw[ax ng,ax (du e ag)];exact e
  by_cases ck:i<k
  .rw [if_pos ck]at a b;exact keep a b
  .rw[if_neg ck]at a b;by_cases cP:i=k
   .rw [if_pos cP]at a b;cases a;cases b;rw[ax (cT WY),aM]
   .rw [if_neg cP]at a b;exact keep a b
 .rcases pK ay with z|z
  .rw [z];exact h0.free ag
  .exact h.jw q z
structure iu where
 lo:Int
 ai:Int
 gr:List Nat
structure pG(H:au)(bJ:Addr)(qs ms:List Addr)(bf:List iu):Prop where
 at_:H bJ\(.lst (qs.map V.ref))
 cF:↑qs=↑bf
 cB:↑ms=↑bf
 al:∀(i:Nat) (q m:Addr) (s:iu),qs[i]?\q->ms[i]?\m->bf[i]?\s->H q\(.tup [.int s.lo,.int s.ai,⇑m])/\H m\(.lst (s.gr.map λk:Nat=>V.int k))
def pG.same(h:pG H bJ qs ms bf)(s:aS H H'):pG H' bJ qs ms bf:=
 (s _ _ h.at_,h.cF,h.cB,λi q m r a b c=>(s _ _ (h.al i q m r a b c).1,s _ _ (h.al i q m r a b c).2))
structure Fx(n:Int)(ds:List bh)(bf:List iu):Prop where
 bR:kb n ds ↑ds (bf.map (·.gr))
 le:∀s∈bf,∀i∈s.gr,∀d,ds[i]?\d->d.least<=s.lo
 bd:∀s∈bf,1<=s.lo/\s.lo<=21/\s.lo<=s.ai/\s.ai<=40
theorem kb.len{n:Int}(S:kb n ds m bN):↑bN<=m/\↑bN.flatten=m:=by
 have af:=S.pm.length_eq;rw[xk]at af;have:∀{bN:List (List Nat)},(∀g∈bN,g≠[])->↑bN<=↑bN.flatten:=λ{bN}=>by
  induction bN with
  |nil=>intro _;simp
  |cons g bN cp=>
   intro h;have a1:=cp λx ae=>h x (il _ ae)
   have a2:=VX.mpr (h g (by simp));rw[ym,dx,ih];omega
 have:=this S.ne;omega
def kb.lt{n:Int}(S:kb n ds m bN)(bj:g∈bN)(ai:i∈g):i<m:=sZ.mp (S.pm.mem_iff.mp (XM.mpr (g,bj,ai)))
def kb.NO{n:Int}(S:kb n ds m bN)(bj:g∈bN):↑g<=m:=by
 have af:=(ajX bj).length_le;have:=S.len.2;omega
def apg(h0:0<=i)(af:i<6):∃mo:Int,(1<=mo/\mo<=20)/\fN [V.int 4,V.int 4,V.int 4,V.int 4,V.int 4,V.int 20] i\(.int mo):=by
 have:i=0\/i=1\/i=2\/i=3\/i=4\/i=5:=()
 rcases this with rfl|rfl|rfl|rfl|rfl|rfl
 .exact (4,∅,cf (j:=0) rfl)
 .exact (4,∅,cf (j:=1) rfl)
 .exact (4,∅,cf (j:=2) rfl)
 .exact (4,∅,cf (j:=3) rfl)
 .exact (4,∅,cf (j:=4) rfl)
 .exact (20,∅,cf (j:=5) rfl)
def aaS(K:bg):bW:=λvs H Q _=>∃(a:Addr) (ns:List Int) (n:Int) (wl:Addr) (ds:List bh),vs=[⇑a,.int n,⇑wl]/\↑ns<=63/\aE K H a (ns.map V.int)/\aI H/\jb H wl ds/\tN n ds/\(∀d∈ds,d.least<=4)/\(1<=↑ds/\↑ds<=8) /\
 ∀bJ qs ms bf H',aS H H'->aI H'->pG H' bJ qs ms bf->Fx n ds bf->Q ⇑bJ H'
theorem aqU:cD P base T 2 t.FC t.D5 B3 (aaS K):=by
 refine cK (adZ T) λfe=>cK (agg T) λalQ=>cK (asT T) λaeU=>?_;exists T.Ki.ok md,9
 let(a,ns,n,wl,ds,rfl,hu,S,bH,L,D,hle,e3,q):=h;let(q2,cF,cB,MC):=id L;have j9:↑(q2.map V.ref)=↑ds:=by rw[aO,cB]
 have z1:∀(i:Nat) (d:bh),ds[i]?\d->∃ta,fN (q2.map V.ref) (i:Int)\⇑ta/\H ta\(.tup (kj d)):=λi d hd=>by
  have hW:q2[i]?\(q2[i]'(by rw[cB];exact(b3.mp hd).1)):=bq _;exact(_,cf (by rw[dF,hW];rfl),MC i _ d hW hd)
 refine(_,(aP (b9 (i:=3) md.aD (f_ aB))
   (aP (fh fK rfl (p2 rfl T.qh (ah (gC jn rfl T.ul je (ah (J 2) aB)) aB)) (cy (i:=4) md.aD) (aP (b9 (i:=5) md.aD (f_ aB))
   (aP (fh fK rfl (p2 rfl T.qh (ah (gC jn rfl T.ul je (ah (J 3) aB)) aB)) (cy (i:=6) md.aD) (aP (b9 (i:=7) md.aD (cJ aeU ao T.AC T.Ol.bM T.TD (ah (J 2) (ah (b7 dI (b7 dI (J 3) (J 6)) aK) (ah (J 4) aB)))))
   (aP (fh fK rfl (eQ (b7 dI (J 3) (J 6))) (cy (i:=8) md.aD) (a4 (b9 (i:=7) md.aD (xm (J 7) (vr (Uy (cJ alQ ao T.amn T.P4.bM T.ak' (ah (b7 dI (J 2) (J 8)) (ah (b7 dI (J 2) (J 4)) (ah (J 1) aB))))))))))
   (a4 (d5 (pM (J 7)) (a4 (dV (gq hJ kY lT kW (J 5) (ah (J 6) aB)))) eV)))))
   (a4 (d5 (gL.pt (r4 (dk oo (gC jn rfl T.ul je (ah (J 5) aB)) aK (cL _)) (sJ (dk oo (cJ fe ao T.f7 T.fA.bM T.fZ (ah (J 0) (ah (bQ eK aK (J 4)) (ah aK aB)))) aK (cL _))))) (aP (b9 (i:=6) md.aD (b7 dI (J 5) (cJ fe ao T.f7 T.fA.bM T.fZ (ah (J 0) (ah (bQ eK aK (J 4)) (ah (gC jn rfl T.ul je (ah (J 5) aB)) aB))))))
   (a4 (dV (gq hJ Tj aiX Tc (b7 dI (J 3) (J 6)) (ah (cJ fe ao T.f7 T.fA.bM T.fZ (ah (J 0) (ah (bQ eK aK (J 4)) (ah (bQ eK (gC jn rfl T.ul je (ah (b7 dI (J 3) (J 6)) aB)) aK) aB)))) (ah (J 4) aB)))))) (a4 (dV (gq hJ Tj aiX Tc (J 3) (ah (cJ fe ao T.f7 T.fA.bM T.fZ (ah (J 0) (ah (bQ eK aK (J 4)) (ah (bQ eK (gC jn rfl T.ul je (ah (J 3) aB)) aK) aB)))) (ah (f_ (ah (J 4) aB)) aB))))))))))
   (aP (b9 (i:=9) md.aD (f_ aB))
   (aP (fh fK rfl (p2 rfl T.qh (ah (gC jn rfl T.ul je (ah (J 3) aB)) aB)) (cy (i:=6) md.aD) (aP (b9 (i:=10) md.aD (bQ eK (gC (aaw rfl) rfl T.Lb PY (ah (h_ rfl (eQ (b7 dI (J 3) (J 6))) (Gc (sc:=bD (top 71)) rfl ∅) (N:=DC) (sel:=[none,some 2]) (g_ (M:=["_law_script","_law_places","_law_ways_here","_law_some","_law_k","_law_fits","_law_j","_law_good","_law_i","_law_stages_here","_law_low","_law_more"]) ∅) (fT.of (λ_ _ _ _=>(cy (i:=0) (eZ (N:=DC) ∅ rfl))) (λ_ _ _ _=>(_,i',by walk_at "B")) (λ_ _ _ _=>(_,(b7 fD (b7 dI (J 1) (J 0)) aK),by walk_at "B")))) aB)) (cJ fe ao T.f7 T.fA.bM T.fZ (ah (J 0) (ah (bQ eK aK (J 6)) (ah aK aB))))))
   (aP (d5 (dk wf (cJ fe ao T.f7 T.fA.bM T.fZ (ah (J 0) (ah (bQ eK aK (J 6)) (ah aK aB)))) aK (cL _)) (a4 (b9 (i:=10) md.aD (bQ eK (J 10) aK))) eV)
   (aP (b9 (i:=11) md.aD (b7 dI (f_ (ah aK (ah aK (ah aK (ah aK (ah aK (ah aK aB))))))) (cJ fe ao T.f7 T.fA.bM T.fZ (ah (J 0) (ah (bQ eK aK (J 6)) (ah aK aB))))))
   (a4 (dV (gq hJ kY lT kW (J 9) (ah (mj (ah (J 10) (ah (bQ eK (J 10) (cJ fe ao T.f7 T.fA.bM T.fZ (ah (J 0) (ah (bQ eK aK (J 6)) (ah (J 11) aB))))) (ah (b7 dI (J 3) (J 6)) aB)))) aB))))))))
   (a4 (cA (J 9))))))),?_)
 exists (λav H'=>aS H H'/\aI H'/\∃gl,H gl=none/\H' gl\(.lst [])/\av=[~~~a,some (.int n),~~~wl,~~~gl,none,none,none,none,none,none,none,none]),3
 .nofun;exact(e0 _,λgl wi=>cw _ _ (bk wi,bH.upd,gl,wi,aM,rfl))
 intro fO H1 (s1,b8,gl,wi,dp,rfl);subst aW;exists (λav H'=>aS H H'/\aI H'/\(∃qs bN,lh H H' gl qs bN/\kb n ds ↑ds bN)/\∃dq eh dO eE dT,av=[~~~a,some (.int n),~~~wl,~~~gl,dq,eh,dO,eE,dT,none,none,none]),3
 .nofun;refine⟨_,.inl (aE.of (s1 _ _ cF)),(),by rw[j9];omega,?_⟩;rw[show((↑(q2.map V.ref):Nat):Int).toNat=↑ds by rw[j9];rfl];refine ey.range (fun k σ H'=>aS H H'/\aI H'/\(∃qs bN,lh H H' gl qs bN/\kb n ds k bN)/\∃dq eh dO eE dT,σ=[~~~a,some (.int n),~~~wl,~~~gl,dq,eh,dO,eE,dT,none,none,none]) ⟨s1,b8,⟨[],[],⟨dp,rfl,Hu,by simp,fun i q g h=>by simp at h,fun q h=>by simp at h⟩,kb.nil n ds⟩,_,_,_,_,_,rfl⟩ ?_ ?_
  .rintro k σ H' az bl;ac_rfl
   let(s2,b',(qs,bN,G,ll),dq,eh,dO,eE,dT,rfl):=bl;have uD:ds[k]?\ds[k]:=bq az;subst aW;generalize atM:ds[k]=d at uD;have hd:=(D.al d (ct uD)).1;have asy:=ll.len;simp only[gz,dd,jM,jF,tj];exists (λav ar=>aS H' ar/\aI ar/\∃dj,H' dj=none/\ar dj\(.lst [])/\av=[~~~a,some (.int n),~~~wl,~~~gl,some (.int (k:Nat)),~~~dj,dO,eE,dT,none,none,none]),0
   .nofun;exact(e0 _,λdj oR=>cw _ _ (bk oR,b'.upd,dj,oR,aM,rfl))
   intro cO ar (s3,c7,dj,oR,ik,rfl);have ana:dj≠gl:=λe=>by rw[e,G.af]at oR;cases oR
   have akp:dj∉qs:=λz=>by
    let(i,ai):=iH z;have BF:i<↑bN:=by rw[<- G.aj];exact(b3.mp ai).1
    have e:=G.fm i dj _ ai (bq BF);rw[oR]at e;cases e
   subst aW;simp only[dd];exists (λav ba=>aS H' ba/\aI ba/\lh H ba gl qs bN/\(∃aT:List Nat,ba dj\(.lst (aT.map λk:Nat=>V.int k))/\↑aT<=↑bN/\∀f∈aT,∃g,bN[f]?\g/\∀i∈g,∀e,ds[i]?\e->mt n e d=false/\mt n d e=false/\Uf e d=true)/\∃dO eE dT,av=[~~~a,some (.int n),~~~wl,~~~gl,some (.int (k:Nat)),~~~dj,dO,eE,dT,none,none,none]),0
   .nofun;have ng:↑(qs.map V.ref)=↑bN:=by rw[aO,G.aj]
    refine(_,.inl (aE.of (s3 _ _ G.af)),(),by rw[ng];omega,?_);rw[show((↑(qs.map V.ref):Nat):Int).toNat=↑bN by rw[ng];rfl];refine ey.range (λj σ ba=>aS H' ba/\aI ba/\lh H ba gl qs bN/\(∃aT:List Nat,ba dj\(.lst (aT.map λk:Nat=>V.int k))/\↑aT<=j/\∀f∈aT,∃g,bN[f]?\g/\∀i∈g,∀e,ds[i]?\e->mt n e d=false/\mt n d e=false/\Uf e d=true)/\∃dO eE dT,σ=[~~~a,some (.int n),~~~wl,~~~gl,some (.int (k:Int)),~~~dj,dO,eE,dT,none,none,none]) (s3,c7,G.same s3,([],ik,b1 _,λf h=>by simp at h),_,_,_,rfl) ?_ ?_
    .rintro j σ ba aN bl;ac_rfl
     let(s4,dh,iC,(aT,gZ,yq,wb),dO,eE,dT,rfl):=bl;have rQ:bN[j]?\bN[j]:=bq aN;have eY:qs[j]?\(qs[j]'(by rw[G.aj];exact aN)):=bq _;subst aW;generalize qs[j]'(by rw[G.aj];exact aN)=kf at eY;generalize arc:bN[j]=g at rQ;have qG:=ct rQ;let(p4,Nx,aaK):=wd (ll.ne g qG);have hT:∀i∈g,∃e,ds[i]?\e:=λi ai=>(_,bq (aa4 (ll.lt qG ai) az))
     have qD:p4∈g:=by rw[aaK];exact m4 ..
     let(i7,ke):=hT p4 qD;have rC:=iC.fm j kf g eY rQ;have zR:=cf (xs:=qs.map V.ref) (j:=j) (by rw[dF,eY];rfl);have kx:=s2.trans s4;have yu:=L.same kx;have BV:=kx _ _ cF;simp only[gz,dd,jM,jF,tj];exists (λav cm=>cm=ba/\av=[~~~a,some (.int n),~~~wl,~~~gl,some (.int (k:Int)),~~~dj,some (.int (j:Int)),some (.bC (Uf i7 d)),dT,none,none,none]),0
     .nofun;exact(_,aE.of iC.af,_,zR,_,rfl,_,aE.of rC,_,by rw[aaK];exact cf (j:=0) rfl,wl,ds,p4,k,i7,d,rfl,yu,ke,uD,(D.al i7 (ct ke)).1.k,hd.k,cw _ _ (rfl,rfl))
     intro km cm (rfl,rfl);subst aW;simp only[dd];exists (λav cG=>cG=cm/\∃(nO:Bool) (dT:Option V),(nO=true->Uf i7 d=true/\∀i∈g,∀e,ds[i]?\e->mt n e d=false)/\av=[~~~a,some (.int n),~~~wl,~~~gl,some (.int (k:Int)),~~~dj,some (.int (j:Int)),some (.bC nO),dT,none,none,none]),0
     .nofun;refine(_,aE.of iC.af,_,zR,_,rfl,(_,aE.of rC),?_);refine ey.list (xs:=g.map λk:Nat=>V.int k) (λl σ cG=>cG=cm/\∃(nO:Bool) (dT:Option V),(nO=true->Uf i7 d=true/\∀i∈g.take l,∀e,ds[i]?\e->mt n e d=false)/\σ=[~~~a,some (.int n),~~~wl,~~~gl,some (.int (k:Int)),~~~dj,some (.int (j:Int)),some (.bC nO),dT,none,none,none]) ?_ ?_ ?_ ?_
      .exact (rfl,_,_,λz=>(z,λi h=>by simp at h),rfl)
      .intro l σ cG aG (rfl,_);exact aE.of rC
      .rintro l v σ cG aQ bl;ac_rfl
       let(rfl,nO,dT,ts,rfl):=bl;let(i,ai,rfl):=b_ aQ;let(e,he):=hT i (ct ai);let(fB,t9,HM):=z1 i e he;let(adg,ak_,arY):=z1 k d uD;have step:∀gn:Bool,(gn=true->nO=true/\mt n e d=false)->(gn=true->Uf i7 d=true/\∀i∈g.take (l+1),∀e,ds[i]?\e->mt n e d=false):=λgn h z=>by
        let(gj,ew):=h z;let(l_,iX):=ts gj;refine(l_,λkh gw br iB=>?_);rw[qJ,ai]at gw;rcases ff.mp gw with u|u
        .exact iX kh u br iB
        .rw [show kh=i by simpa using u,he]at iB;cases iB;exact ew
       subst aW;nofun;cases nO with
       |true=>
        rw[if_pos rfl];refine(_,aE.of BV,_,t9,_,aE.of BV,_,ak_,n,fB,adg,e,d,rfl,de.of (kx _ _ HM),de.of (kx _ _ arY),(D.al e (ct he)).1,hd,_,rfl,?_);exact(rfl,_,step _ (λz=>(rfl,by simpa using z)),rfl,_,rfl)
       |false=>
        rw[if_neg ∅];exact(false,(λz=>nomatch z),rfl,_,rfl)
      .rintro σ cG bl;ac_rfl
       let(rfl,nO,dT,ts,rfl):=bl;subst aW;rw[aO,hE]at ts;exact cw _ _ (rfl,nO,dT,ts,rfl)
     intro nW cG (rfl,nO,dT,ts,rfl);subst aW;dsimp only;refine d8 nO (λQ a9=>?_) (λU=>?_) (λU=>?_)
     .nofun;exact a9
     .obtain⟨l_,iX⟩:=ts U;nofun;refine⟨.inl ⟨_,aE.of gZ⟩,_,gZ,fW (show ↑(aT.map fun k:Nat=>V.int k)<=8 by rw[aO];omega) ∅,s4.gW oR,dh.upd,iC.off ana akp,⟨aT++[j],by rw[aM,fg];rfl,by rw[dx];show ↑aT+1<=j+1;omega,fun f hf=>?_⟩,?_⟩
      .rcases ff.mp hf with z|z
       .exact wb f z
       .rw [eg.mp z];refine(g,rQ,λi ai e he=>(iX i ai e he,?_,alG (ll.al g qG i ai p4 qD e i7 he ke) l_));have fk:=(D.al e (ct he)).1;have:=ad2 fk.st fk.gd hd.st hd.gd fk.ne hd.ne;exact(this.symm.trans (iX i ai e he):mt n d e=false)
      .exact (_,rfl)
     .simp only[iR];exact(s4,dh,iC,(aT,gZ,(),wb),_,_,_,rfl)
    .rintro σ ba bl;ac_rfl
     let(s4,dh,iC,(aT,gZ,yq,wb),dO,eE,dT,rfl):=bl;subst aW;exact cw _ _ (s4,dh,iC,(aT,gZ,yq,wb),_,_,_,rfl)
   intro fR ba (s4,dh,iC,(aT,gZ,yq,wb),dO,eE,dT,rfl);have kx:=s2.trans s4;have kO:=S.same kx;have ng:↑(qs.map V.ref)=↑bN:=by rw[aO,G.aj]
   subst aW;dsimp only;refine d8 (decide (0<↑aT)&&decide (0<dS ns (100+(k:Int)) 3)) (λQ a9=>?_) (λU=>?_) (λU=>?_)
   .nofun;refine(_,.inl (aE.of gZ),?_);rw[aO];by_cases cZ:0<↑aT
    .rw [if_pos (decide_eq_true ())];rw[decide_eq_true cZ,n0]at a9;exact(a,ns,_,_,rfl,hu,kO,((),()),∅,_,rfl,a9)
    .rw [if_neg (by rw[decide_eq_true_eq];omega)];rw[decide_eq_false cZ,o6]at a9;exact a9
   .rw[jP,decide_eq_true_eq]at U;have aq:=hU ns (110+(k:Int)) (m:=(↑aT:Int)) ();have aA:=hO ns (110+(k:Int)) (m:=(↑aT:Int)) ();let(u,bp):∃u:Nat,dS ns (110+(k:Int)) (↑aT:Int)=(u:Int):=(_,(sa aq).symm);have alL:u<↑aT:=()
    have Kb:aT[u]?\aT[u]:=bq alL;generalize auC:aT[u]=f at Kb;let(g,Gz,adM):=wb f (ct Kb);have MP:f<↑bN:=(b3.mp Gz).1;have AY:qs[f]?\(qs[f]'(by rw[G.aj];exact MP)):=bq _;generalize qs[f]'(by rw[G.aj];exact MP)=cU at AY;have Qk:=iC.fm f cU g AY Gz;have Zj:=cf (xs:=qs.map V.ref) (j:=f) (by rw[dF,AY];rfl);have apl:=cf (xs:=aT.map λk:Nat=>V.int k) (j:=u) (v:=.int (f:Int)) (by rw[dF,Kb];rfl);have atm:=ll.NO (ct Gz);have d1:=hU ns (160+(k:Int)) (m:=(↑g:Int)+1) ();have dY:=hO ns (160+(k:Int)) (m:=(↑g:Int)+1) ();nofun;let(v,aQ):∃v:Nat,dS ns (160+(k:Int)) ((↑g:Int)+1)=(v:Int):=(_,(sa d1).symm);refine(_,.inl (aE.of gZ),?_);rw[aO];refine(a,ns,_,_,rfl,hu,kO,((),()),(),?_);rw[bp];refine(_,_,rfl,aE.of gZ,_,apl,_,_,rfl,aE.of iC.af,_,Zj,.inl (_,aE.of Qk),_,_,rfl,aE.of iC.af,_,Zj,_,rfl,_,.inl (aE.of Qk),?_);rw[aO];refine(a,ns,_,_,rfl,hu,kO,((),()),(),cU,rfl,_,_,rfl,Qk,?_);rw[aQ,sz];have So:v<=↑g:=()
    have em:(g.map λk:Nat=>V.int k).take v++V.int (k:Int)::(g.map λk:Nat=>V.int k).drop v=(ins g v k).map λk:Nat=>V.int k:=(abh (λk:Nat=>V.int k) g v k).symm
    refine((),(),by rw[aO];omega,fW (show ↑(g.map λk:Nat=>V.int k)<=8 by rw[aO];omega) ∅,kx.gW (iC.jw cU (ct AY)),dh.upd,?_,_,rfl);rw[em];exact(qs,_,iC.put AY MP,ll.put Gz uD adM)
   .have d1:=hU ns (120+(k:Int)) (m:=(↑bN:Int)+1) ();have dY:=hO ns (120+(k:Int)) (m:=(↑bN:Int)+1) ();nofun;let(v,aQ):∃v:Nat,dS ns (120+(k:Int)) ((↑bN:Int)+1)=(v:Int):=(_,(sa d1).symm);refine(.inl (_,aE.of iC.af),_,.inl (aE.of iC.af),?_);rw[ng];refine(a,ns,_,_,rfl,hu,kO,((),()),(),∅,λp ag=>(_,_,rfl,(bk ag) _ _ iC.af,?_));rw[aQ,sz];have So:v<=↑bN:=()
    have em:(qs.map V.ref).take v++V.ref p::(qs.map V.ref).drop v=(ins qs v p).map V.ref:=(abh V.ref qs v p).symm;refine((),(),by rw[ng];omega,fW (show ↑(qs.map V.ref)<=8 by rw[ng];omega) ∅,(kx.trans (bk ag)).gW wi,(dh.upd).upd,?_,_,rfl);rw[em];exact(_,_,iC.new (g:=[k]) kx ag So,ll.new v)
  .rintro σ H' bl;ac_rfl
   let(s2,b',(qs,bN,G,ll),dq,eh,dO,eE,dT,rfl):=bl;subst aW;exact cw _ _ (s2,b',(qs,bN,G,ll),_,_,_,_,_,rfl)
 intro cO ar (s2,b',(qs,bN,G,ll),dq,eh,dO,eE,dT,rfl);subst aW;exists (λav H'=>aS ar H'/\aI H'/\∃bJ,ar bJ=none/\H' bJ\(.lst [])/\av=[~~~a,some (.int n),~~~wl,~~~gl,dq,eh,dO,eE,dT,~~~bJ,none,none]),3
 .nofun;exact(e0 _,λbJ jU=>cw _ _ (bk jU,b'.upd,bJ,jU,aM,rfl))
 intro fR ba (s3,c7,bJ,jU,ik,rfl);have asy:=ll.len;have ng:↑(qs.map V.ref)=↑bN:=by rw[aO,G.aj]
 subst aW;exists (λav H'=>aS ar H'/\aI H'/\(∃mc bf,pG H' bJ mc qs bf/\Fx n ds bf)/\∃dO dT jz tr,av=[~~~a,some (.int n),~~~wl,~~~gl,dq,eh,dO,eE,dT,~~~bJ,jz,tr]),3
 .nofun;refine(_,.inl (aE.of (s3 _ _ G.af)),(),by rw[ng];omega,?_);rw[show((↑(qs.map V.ref):Nat):Int).toNat=↑bN by rw[ng];rfl];refine ey.range (λj σ H'=>aS ar H'/\aI H'/\(∃(mc:List Addr) (bf:List iu),H' bJ\(.lst (mc.map V.ref))/\↑mc=j/\↑bf=j/\(∀(i:Nat) (q:Addr) (s:iu),mc[i]?\q->bf[i]?\s->∃m,qs[i]?\m/\H' q\(.tup [.int s.lo,.int s.ai,⇑m]))/\bf.map (·.gr)=bN.take j/\∀s∈bf,(∀i∈s.gr,∀d,ds[i]?\d->d.least<=s.lo)/\1<=s.lo/\s.lo<=21/\s.lo<=s.ai/\s.ai<=40)/\∃dO dT jz tr,σ=[~~~a,some (.int n),~~~wl,~~~gl,dq,eh,dO,eE,dT,~~~bJ,jz,tr]) (s3,c7,([],[],ik,rfl,rfl,λi q s h=>by simp at h,by rw[tD];rfl,λs h=>by simp at h),_,_,_,_,rfl) ?_ ?_
  .rintro j σ H' aN bl;ac_rfl
   let(s4,dh,(mc,bf,gZ,Ef,g7,td,zA,Ct),dO,dT,jz,tr,rfl):=bl;have rQ:bN[j]?\bN[j]:=bq aN;have eY:qs[j]?\(qs[j]'(by rw[G.aj];exact aN)):=bq _;subst aW;generalize qs[j]'(by rw[G.aj];exact aN)=kf at eY;generalize arc:bN[j]=g at rQ;have qG:=ct rQ;have hT:∀i∈g,∃e,ds[i]?\e:=λi ai=>(_,bq (ll.lt qG ai))
   have iC:=G.same s4;have rC:=iC.fm j kf g eY rQ;have zR:=cf (xs:=qs.map V.ref) (j:=j) (by rw[dF,eY];rfl);have kx:=s2.trans s4;have kO:=S.same kx;have BV:=kx _ _ cF;have as8:=ll.NO qG;let(aL,acu):∃aL:Nat->Int,aL=λi=>((ds[i]?).map (·.least)).getD 0:=(_,rfl)
   have LI:∀i e,ds[i]?\e->aL i=e.least:=λi e he=>by rw[acu];show((ds[i]?).map (·.least)).getD 0=_;rw[he];rfl
   let(rJ,XP,E1):=Ll (g.map aL) (λz=>ll.ne g qG (List.map_eq_nil_iff.mp z));have GN:1<=rJ/\rJ<=4:=by
    let(i,ai,rfl):=cj.mp XP;let(e,he):=hT i ai;rw[LI i e he];exact((D.al e (ct he)).1.le.1,hle e (ct he))
   have eN:=hU ns (130+(j:Int)) (m:=3) ∅;have eP:=hO ns (130+(j:Int)) (m:=3) ∅;simp only[gz,dd,jM,jF,tj];exists (λav cm=>aS H' cm/\aI cm/\∃lo:Int,(rJ<=lo/\lo<=rJ+2)/\av=[~~~a,some (.int n),~~~wl,~~~gl,dq,eh,some (.int (j:Int)),eE,dT,~~~bJ,some (.int lo),tr]),0
   .nofun;refine(_,aE.of iC.af,_,zR,_,rfl,(_,aE.of rC),?_);refine dB.nr (xs:=g.map λk:Nat=>V.int k) (zs:=(g.map aL).map V.int) (aE.of rC) (c9 (show ↑(g.map λk:Nat=>V.int k)<=8 by rw[aO];omega) ∅) (by rw[aO,aO,aO]) (λl v z N aQ aH bw=>?_) (λpl cE=>?_)
    .let(i,ai,rfl):=b_ aQ;let(y,aJ,rfl):=b_ aH;let(kh,gw,rfl):=b_ aJ;rw[ai]at gw;cases gw;let(e,he):=hT i (ct ai);let(fB,t9,HM):=z1 i e he;rw[LI i e he]at bw;nofun;exact(Sub.name,_,aE.of BV,_,t9,_,rfl,_,de.of (kx _ _ HM),_,cf (j:=6) rfl,bw)
    .have TO:=bk (o:=.lst ((g.map aL).map V.int)) cE;refine(_,rfl,_,aE.of aM,rJ,XP,E1,a,ns,_,_,rfl,hu,kO.same TO,((),()),∅,_,rfl,cw _ _ (TO,dh.upd,_,((),()),rfl))
   intro km cm (s5,fC,auv,EO,rfl);have O9:=kO.same s5;subst aW;simp only[dd];exists (λav cG=>cG=cm/\∃lo:Int,(rJ<=lo/\lo<=21)/\av=[~~~a,some (.int n),~~~wl,~~~gl,dq,eh,some (.int (j:Int)),eE,dT,~~~bJ,some (.int lo),tr]),0
   .refine d8 (decide (dS ns (150+(j:Int)) 12=0)) (λQ a9=>?_) (λ_=>?_) (λ_=>?_)
    .nofun;refine(a,ns,_,_,rfl,hu,O9,((),()),∅,rfl,?_);rw[show decide (V.int (dS ns (150+(j:Int)) 12)=V.int 0)=decide (dS ns (150+(j:Int)) 12=0)from decide_eq_decide.mpr (by simp)];exact a9
    .nofun;exact cw _ _ (rfl,_,(),rfl)
    .simp only[iR];exact cw _ _ (rfl,_,(),rfl)
   intro nW cG (rfl,lo,rD,rfl);have iJ:=hU ns (180+(j:Int)) (m:=6) ∅;have iQ:=hO ns (180+(j:Int)) (m:=6) ∅;subst aW;simp only[dd];exists (λav fl=>aS cG fl/\aI fl/\∃mo:Int,(1<=mo/\mo<=20)/\av=[~~~a,some (.int n),~~~wl,~~~gl,dq,eh,some (.int (j:Int)),eE,dT,~~~bJ,some (.int lo),some (.int mo)]),0
   .let(mo,tI,qv):=apg iJ iQ;nofun;exact(∅,λp ag=>(a,ns,_,_,rfl,hu,O9.same (bk ag),((),()),∅,_,_,rfl,aE.of aM,_,qv,cw _ _ (bk ag,fC.upd,mo,tI,rfl)))
   intro mb fl (f9,hB,mo,tI,rfl);have EL:=s5.trans f9;have zb:=O9.same f9;have o8:=EL _ _ gZ;have l_:=hU ns (140+(j:Int)) (m:=mo) ();have iX:=hO ns (140+(j:Int)) (m:=mo) ();subst aW;nofun;refine(.inl (_,aE.of o8),a,ns,_,_,rfl,hu,zb,((),()),(),_,rfl,_,aE.of (EL _ _ iC.af),_,zR,∅,λp ag=>(_,(bk ag) _ _ o8,fW (show ↑(mc.map V.ref)<=8 by rw[aO];omega) ∅,((s4.trans EL).trans (bk ag)).gW jU,(hB.upd).upd,(mc++[p],by rw[aM,fg];rfl,by rw[dx,Ef];rfl,bf++[(lo,lo+dS ns (140+(j:Int)) mo,g)],by rw[dx,g7];rfl,λi q s a1 a2=>?_,?_,λs aC=>?_),?_))
   .have qP:bJ≠p:=du o8 ag;rcases j4 a1 with⟨hj,gn⟩|⟨hj,rfl⟩
    .rcases j4 a2 with⟨ck,cP⟩|⟨ck,_⟩
     .let(m,hm,e):=td i q s gn cP;have ez:=EL _ _ e;refine(m,hm,?_);rw[ax (bI ez o8 (by intro z;cases z)),ax (du ez ag)];exact ez
     .omega
    .rcases j4 a2 with⟨ck,_⟩|⟨_,rfl⟩
     .omega
     .refine (kf,by rw[hj,Ef];exact eY,?_);rw[ax (cT qP),aM]
   .rw [fg,zA,qJ,rQ];rfl
   .rcases ff.mp aC with z|z
    .exact Ct s z
    .rw [eg.mp z];refine(λi ai e he=>?_,by show 1<=lo;omega,rD.2,by show lo<=lo+dS ns (140+(j:Int)) mo;omega,by show lo+dS ns (140+(j:Int)) mo<=40;omega);have:=E1 (aL i) (cj.mpr (i,ai,rfl));rw[LI i e he]at this;show e.least<=lo;omega
   .repeat (first|exact(_,rfl)|refine((_,rfl),?_))
  .rintro σ H' bl;ac_rfl
   let(s4,dh,(mc,bf,gZ,Ef,g7,td,zA,Ct),dO,dT,jz,tr,rfl):=bl;subst aW;rw[hE]at zA;have iC:=G.same s4;refine cw _ _ (s4,dh,(mc,bf,(gZ,(),by rw[G.aj];omega,λi q m s a1 a2 fo=>?_),(by rw[zA];exact ll,λs aC=>(Ct s aC).1,λs aC=>(Ct s aC).2)),_,_,_,_,rfl);let(c3,vm,e):=td i q s a1 fo;rw[a2]at vm;cases vm;refine(e,iC.fm i m s.gr a2 ?_);rw[<- zA,dF,fo];rfl
 intro km cm (s4,dh,(mc,bf,oC,arf),dO,dT,jz,tr,rfl);subst aW;nofun;exact q bJ mc qs bf cm (s2.trans s4) dh oC arf
noncomputable def ko(ds:List bh)(i:Nat):Str:=((ds[i]?).map (·.name)).getD (ab "")
noncomputable def fQ(ds:List bh)(s:iu):List Str:=s.gr.map (ko ds)
noncomputable def iK(ds:List bh)(s:iu):List Str:=[ab "stage",num s.lo,num s.ai]++fQ ds s
noncomputable def hH(ds:List bh)(bf:List iu):List (List Str):=bf.map (iK ds)
noncomputable def tX(ds:List bh)(bf:List iu):Str:=eI nl ((hH ds bf).map (eI c6))
structure LC(ds:List bh)(bf:List iu):Prop where
 ln:↑bf<=8
 bd:∀s∈bf,(0<=s.lo/\s.lo<1000)/\(0<=s.ai/\s.ai<1000)/\s.gr≠[]/\↑s.gr<=8/\∀i∈s.gr,∃d,ds[i]?\d
 nm:∀d∈ds,↑d.name<=8
def aro(ds:List bh)(s:iu)(h:s.gr≠[]):ab "stage "++num s.lo++ab " "++num s.ai++ab " "++eI c6 (fQ ds s)=eI c6 (iK ds s):=by
 apply KB;have aq:(ab "stage ").cps.toList=[115,116,97,103,101,32]:=∅
 have aA:(ab "stage").cps.toList=[115,116,97,103,101]:=∅
 have bG:(ab " ").cps.toList=[32]:=∅
 unfold iK fQ;let(i,r,aw):=wd h;rw[aw,Dm,ti];simp only[mx,og,ti,e1,p_,AP,Qp,mD,aq,aA,bG,oj]
def S4:bW:=λvs H Q _=>∃wl ds bJ qs ms bf,vs=[⇑wl,⇑bJ]/\jb H wl ds/\pG H bJ qs ms bf/\LC ds bf/\aI H/\Q (.str (tX ds bf)) H
def ahF:bW:=λvs H Q _=>∃wl ds bJ qs ms bf,vs=[⇑wl,⇑bJ]/\jb H wl ds/\pG H bJ qs ms bf/\LC ds bf/\∀H',aS H H'->Q (.str (tX ds bf)) H'
def amD:cD P base T 1 t.EU t.E' D3 S4:=by
 refine cz.forget (sp:=ahF) ?_ λvs H Q E h=>?_
 .exists T.JA.ok zz,9
  let(wl,ds,bJ,qs,ms,bf,rfl,(q2,cF,cB,MC),oC,X,q):=h;have amE:=X.ln;have z1:∀(i:Nat) (d:bh),ds[i]?\d->∃ta,fN (q2.map V.ref) (i:Int)\⇑ta/\H ta\(.tup (kj d)):=λi d hd=>by
   have hW:q2[i]?\(q2[i]'(by rw[cB];exact(b3.mp hd).1)):=bq _;exact(_,cf (by rw[dF,hW];rfl),MC i _ d hW hd)
  have Bi:∀k:Nat,k<=1000->k<=sizeLine:=λk h=>c9 h ∅
  refine(_,(aP (b9 (i:=2) zz.aD (f_ aB))
   (aP (fh fK rfl (eQ (J 1)) (mw (K:=K) (n:=3) rfl rfl (fJ (cy (i:=3) zz.aD) (fJ (cy (i:=4) zz.aD) (fJ (cy (i:=5) zz.aD) mS)))) (a4 (dV (gq hJ kY lT kW (J 2) (ah (bQ kT (bQ kT (bQ kT (bQ kT (bQ kT di (k8 yK rfl T.ze Cl (ah (J 3) aB))) di) (k8 yK rfl T.ze Cl (ah (J 4) aB))) di) (gq vi Df C7 yT di (ah (h_ rfl (eQ (J 5)) (Gc (sc:=bD (top 72)) rfl ∅) (N:=DC) (sel:=[none,some 0]) (g_ (M:=["_law_ways_here","_law_stages_here","_law_rows","_law_low","_law_high","_law_some"]) ∅) (fT.of (λ_ _ _ _=>(cy (i:=0) (eZ (N:=DC) ∅ rfl))) (λ_ _ _ _=>(_,i',by walk_at "B")) (λ_ _ _ _=>(_,(b7 fD (b7 dI (J 1) (J 0)) aK),by walk_at "B")))) aB))) aB)))))
   (a4 (cA (gq vi Df C7 yT di (ah (J 2) aB)))))),?_)
  exists (λav H'=>aS H H'/\∃d3,H d3=none/\H' d3\(.lst (a5 []))/\av=[~~~wl,~~~bJ,~~~d3,none,none,none]),3
  .nofun;exact(e0 _,λd3 hZ=>cw _ _ (bk hZ,d3,hZ,aM,rfl))
  intro fO H1 (s1,d3,hZ,dp,rfl);subst aW;exists (λav H'=>aS H H'/\H' d3\(.lst (a5 ((hH ds bf).map (eI c6))))/\∃fs dq eh,av=[~~~wl,~~~bJ,~~~d3,fs,dq,eh]),3
  .nofun;refine((_,aE.of (s1 _ _ oC.at_)),?_);refine ey.list (xs:=qs.map V.ref) (λi σ H'=>aS H H'/\H' d3\(.lst (a5 ((hH ds (bf.take i)).map (eI c6))))/\∃fs dq eh,σ=[~~~wl,~~~bJ,~~~d3,fs,dq,eh]) ?_ ?_ ?_ ?_
   .exact (s1,by rw[tD];exact dp,_,_,_,rfl)
   .intro i σ H' ai (bo,_);exact aE.of (bo _ _ oC.at_)
   .rintro i v σ H' aQ bl;ac_rfl
    let(bo,ef,fs,dq,eh,rfl):=bl;let(sG,hW,rfl):=b_ aQ;have ai:i<↑bf:=by rw[<- oC.cF];exact(b3.mp hW).1
    have wG:bf[i]?\bf[i]:=bq ai;have sN:ms[i]?\(ms[i]'(by rw[oC.cB];exact ai)):=bq _;let(aq,aA):=oC.al i sG _ _ hW sN wG;subst aW;generalize ms[i]'(by rw[oC.cB];exact ai)=m at sN aq aA;generalize auO:bf[i]=s at wG aq aA;let(Vd,aa6,bne,G_,xl):=X.bd s (ct wG);have af:=yB (n:=s.lo) () ();have aj:=yB (n:=s.ai) () ();have t1:↑(ab "stage ")=6:=∅
    have gG:↑(ab " ")=1:=∅
    have mH:∀y∈fQ ds s,↑y<=8:=λy aJ=>by
     let(k,az,rfl):=cj.mp aJ;let(d,hd):=xl k az;unfold ko;rw[hd];exact X.nm d (ct hd)
    have l1:↑(eI c6 (fQ ds s))<=100:=by
     have:=rv c6 8 (fQ ds s) mH;rw[se]at this;have aG:↑(fQ ds s)=↑s.gr:=by unfold fQ;rw[aO]
     have:↑(fQ ds s)*9<=72:=()
     omega
    nofun;refine(_,de.of (bo _ _ aq),rfl,_,_,rfl,_,_,rfl,_,_,rfl,rfl,.inl (_,aE.of ef),_,rfl,QS (),Bi _ (by rw[t1];omega),Bi _ (by simp only[ql,t1,gG];omega),_,rfl,QS (),Bi _ (by simp only[ql,t1,gG];omega),Bi _ (by simp only[ql,t1,gG];omega),m,rfl,(_,aE.of (bo _ _ aA)),?_);refine dB.nr (xs:=s.gr.map λk:Nat=>V.int k) (zs:=a5 (fQ ds s)) (aE.of (bo _ _ aA)) (c9 (show ↑(s.gr.map λk:Nat=>V.int k)<=8 by rw[aO];exact G_) ∅) (by rw[lc,aO];unfold fQ;rw[aO]) (λl v z N aQ aH bw=>?_) (λpl cE=>?_)
    .obtain⟨k,az,rfl⟩:=b_ aQ;unfold a5 fQ at aH;obtain⟨y,aJ,rfl⟩:=b_ aH;obtain⟨j2,hA,rfl⟩:=b_ aJ;rw[az]at hA;cases hA;obtain⟨d,hd⟩:=xl k (ct az);obtain⟨ta,aoj,eq⟩:=z1 k d hd;have acz:ko ds k=d.name:=by unfold ko;rw[hd];rfl
     rw[acz]at bw;nofun;exact(Sub.name,_,aE.of (bo _ _ cF),_,aoj,_,rfl,_,de.of (bo _ _ eq),_,cf (j:=1) rfl,bw)
    .have ou:↑(fQ ds s)<=8:=by unfold fQ;rw[aO];exact G_
     refine(pl,rfl,fQ ds s,aE.of aM,?_,?_)
     .have:=CS mH;rw[gG];omega
     .rw[show rS (ab " ") (fQ ds s)=eI c6 (fQ ds s)from y3 _ _];have xv:=aro ds s bne;have h1:↑(a5 ((hH ds (bf.take i)).map (eI c6)))<=8:=by
       unfold a5 hH;rw[aO,aO,aO,hb];omega
      refine(Bi _ (by simp only[ql,t1,gG];omega),_,(bk cE) _ _ ef,fW h1 ∅,(bo.trans (bk cE)).gW hZ,?_,?_)
      .rw [aM,xv,qJ,wG];unfold hH a5;rw[fg,fg,fg];rfl
      .repeat (first|exact(_,rfl)|refine((_,rfl),?_))
   .rintro σ H' bl;ac_rfl
    let(bo,ef,fs,dq,eh,rfl):=bl;subst aW;rw[aO,oC.cF,hE]at ef;exact cw _ _ (bo,ef,_,_,_,rfl)
  intro cO ar (s2,ef,fs,dq,eh,rfl);subst aW;nofun;have hM:∀y∈(hH ds bf).map (eI c6),↑y<=200:=λy aJ=>by
   let(r,fw,rfl):=cj.mp aJ;let(s,aC,rfl):=cj.mp fw;let(Vd,aa6,bne,G_,xl):=X.bd s aC;have af:=yB (n:=s.lo) () ();have aj:=yB (n:=s.ai) () ();have mH:∀y∈iK ds s,↑y<=8:=λy aJ=>by
    unfold iK at aJ;rcases ff.mp aJ with z|z
    .have z:y=ab "stage"\/y=num s.lo\/y=num s.ai:=by simpa using z
     rcases z with rfl|rfl|rfl
     .ac_nf
     .exact c9 af ∅
     .exact c9 aj ∅
    .let(k,az,rfl):=cj.mp z;let(d,hd):=xl k az;unfold ko;rw[hd];exact X.nm d (ct hd)
   have:=rv c6 8 (iK ds s) mH;rw[se]at this;have aG:↑(iK ds s)<=11:=by
    unfold iK fQ;rw[dx,aO];show 3+↑s.gr<=11;omega
   omega
  refine(_,aE.of ef,?_,?_)
  .have:=CS hM;rw[(∅:↑(ab "\n")=1)];have aG:↑((hH ds bf).map (eI c6))<=8:=by
    unfold hH;rw[aO,aO];exact amE
   omega
  .rw [show rS (ab "\n") ((hH ds bf).map (eI c6))=eI nl ((hH ds bf).map (eI c6))from y3 _ _];exact q _ s2
 .let(wl,ds,bJ,qs,ms,bf,rfl,L,oC,X,bH,q):=h;exact(bH,wl,ds,bJ,qs,ms,bf,rfl,L,oC,X,λH' bo=>(bo,q))
noncomputable def qi(ds:List bh)(s:iu):ST:=(s.lo,s.ai,fQ ds s)
noncomputable def d9(ds:List bh)(bf:List iu):List ST:=bf.map (qi ds)
def pC{d:bh}(h:ds[i]?\d):ko ds i=d.name:=by unfold ko;rw[h];rfl
def KK(aD:(ds.map (·.name)).Nodup)(ai:i<↑ds)(aN:j<↑ds)(e:ko ds i=ko ds j):i=j:=by
 rw[pC (bq ai),pC (bq aN)]at e;exact xe aD ai aN (by rw[mr (bq ai),mr (bq aN)];exact e)
structure e9(n:Int)(ds:List bh)(bf:List iu):Prop where
 aD:(ds.map (·.name)).Nodup
 nk:Fx n ds bf
 yb:↑ds<=6
 cF:1<=↑ds
 ok:∀d∈ds,k9 n d
def e9.dj{n:Int}(h:e9 n ds bf):(bf.map (·.gr)).flatten.Nodup:=h.nk.bR.pm.nodup_iff.mpr List.nodup_range
theorem e9.lt{n:Int}(h:e9 n ds bf)(aC:s∈bf)(ai:i∈s.gr):i<↑ds:=h.nk.bR.lt (cj.mpr (s,aC,rfl)) ai
theorem e9.len{n:Int}(h:e9 n ds bf):↑bf<=6:=by
 have:=h.nk.bR.len.1;rw[aO]at this;have:=h.yb;omega
def e9.lg{n:Int}(h:e9 n ds bf):LC ds bf:=by
 refine(by have:=h.len;omega,λs aC=>?_,λd hd=>((pd (h.ok d hd).nm).1).2);have b:=h.nk.bd s aC;have hm:s.gr∈bf.map (·.gr):=cj.mpr (s,aC,rfl);have bj:=h.nk.bR.NO hm;have:=h.yb;exact(((),()),((),()),h.nk.bR.ne _ hm,(),λi ai=>(_,bq (h.lt aC ai)))
def e9.amb{n:Int}(h:e9 n ds bf)(aC:s∈bf):(fQ ds s).Nodup:=by
 have ae:s.gr.Nodup:=h.dj.sublist (ajX (cj.mpr (s,aC,rfl)));unfold fQ;refine List.pairwise_map.mpr (avf (λ{a b} aV U rG e=>?_) ae);exact rG (KK h.aD (h.lt aC aV) (h.lt aC U) e)
theorem e9.told{n:Int}(h:e9 n ds bf)(aC:bf[i]?\s){x:Str}(ae:x∈fQ ds s):told (d9 ds (bf.take i)) x=false:=by
 cases e:My.told (d9 ds (bf.take i)) x with
 |false=>rfl
 |true=>
  exfalso;unfold My.told at e;let(r,ao,aw):=uB.mp e;let(s',sY,rfl):=cj.mp ao;have aw:x∈fQ ds s':=by simpa[qi]using aw
  let(k,az,rfl):=cj.mp ae;let(j2,hA,aq8):=cj.mp aw;have:=KK h.aD (h.lt (yW sY) hA) (h.lt (ct aC) az) aq8;subst this;let(ai,wG):=b3.mp aC;have hf:=h.dj;rw[<- WL i bf,fg,aiS,uJ ai,wG,e1,ym]at hf;exact(z8.mp hf).2.2 j2 (XM.mpr (s'.gr,cj.mpr (s',sY,rfl),hA)) j2 (xu _ az) rfl
theorem WM:∀{r:List Str} {j:Nat} {ms:List Str},(∀x∈r,x∈alike)->(ms++r).Nodup->tc alike r j ms=.ok (ms++r)
 |[],j,ms,_,_=>by
  show sO ms=_;rw[oE]
 |x::r,j,ms,aV,a0=>by
  unfold tc;have ae:x∉ms:=λz=>(z8.mp a0).2.2 x z x (m4 ..) rfl
  rw[if_pos (aV x (m4 ..),ae),WM (λy aJ=>aV y (il _ aJ)) (by rw[oj];exact a0),oj];rfl
def e9.left{n:Int}(h:e9 n ds bf)(aC:bf[i]?\s){x:Str}(ae:x∈fQ ds s):x∈h3 ds (d9 ds (bf.take i)):=by
 unfold h3;refine nu.mpr (?_,by rw[h.told aC ae];rfl);let(k,az,rfl):=cj.mp ae;have hA:=h.lt (ct aC) az;rw[pC (bq hA)];exact cj.mpr (_,mL hA,rfl)
def e9.asL{n:Int}(h:e9 n ds bf)(aC:bf[i]?\s):Ps ds (d9 ds (bf.take i)) (iK ds s)=.ok (qi ds s):=by
 have hm:=ct aC;have b:=h.nk.bd s hm;have bX:=h.nk.bR.ne s.gr (cj.mpr (s,hm,rfl));let(k,r,aw):=wd bX;have mH:fQ ds s=ko ds k::r.map (ko ds):=by unfold fQ;rw[aw];rfl
 have hw:iK ds s=ab "stage"::num s.lo::num s.ai::ko ds k::r.map (ko ds):=by unfold iK;rw[mH];rfl
 have cS:m_ ds (h3 ds (d9 ds (bf.take i))) (iK ds s)=.ok (fQ ds s):=by
  have hf:ko ds k∈fQ ds s:=by rw[mH];exact m4 ..
  have bb:aF (iK ds s) 3=ko ds k:=by rw[hw];rfl
  have dt:(iK ds s).drop 4=r.map (ko ds):=by rw[hw];rfl
  unfold m_;rw[bb,dt,if_pos (h.left aC hf),WM (λx ae=>?_) (by have:=h.amb hm;rw[mH]at this;exact this),mH]
  .rfl
  .have c8:x∈fQ ds s:=by rw[mH];exact il _ ae
   refine nu.mpr (h.left aC c8,decide_eq_true ?_);let(cY,amq,rfl):=cj.mp ae;have M':cY∈s.gr:=by rw[aw];exact il _ amq
   have aam:k∈s.gr:=by rw[aw];exact m4 ..
   have cF:=bq (h.lt hm aam);have cB:=bq (h.lt hm M');have al:=h.nk.bR.al s.gr (cj.mpr (s,hm,rfl)) cY M' k aam _ _ cB cF;show(jh ds (ko ds cY)).map i_=(jh ds (ko ds k)).map i_;rw[pC cF,pC cB,nc h.aD cF,nc h.aD cB];have:=yh.mp al;show some (i_ _)\(i_ _);unfold i_;by_cases c:(ds[cY]'(h.lt hm M')).k=2
   .rw [if_pos c,if_pos (this.mp c)]
   .rw [if_neg c,if_neg (λz=>c (this.mpr z))]
 have h0:aF (iK ds s) 0=ab "stage":=by rw[hw];rfl
 have af:aF (iK ds s) 1=num s.lo:=by rw[hw];rfl
 have aj:aF (iK ds s) 2=num s.ai:=by rw[hw];rfl
 have aq:lO (num s.lo) 1 60\s.lo:=ZQ (r9 () () () ());have aA:lO (num s.ai) s.lo 60\s.ai:=ZQ (r9 () () () ());unfold Ps;rw[h0,af,aj,cS,if_pos (eg.mpr rfl),aq];show(lO (num s.ai) s.lo 60).elim _ _=_;rw[aA];rfl
theorem e9.parse{n:Int}(h:e9 n ds bf):∀(m i:Nat),↑bf-i=m->i<=↑bf->vD ds ((hH ds bf).drop i) i (d9 ds (bf.take i))=.ok (d9 ds bf)
 |0,i,hm,ai=>by
  have:i=↑bf:=()
  subst this;have aG:↑(hH ds bf)=↑bf:=by unfold hH;rw[aO]
  rw[<- aG,w9,aG,hE];rfl
 |m+1,i,hm,ai=>by
  have gw:i<↑bf:=()
  have aC:bf[i]?\bf[i]:=bq gw;have aG:i<↑(hH ds bf):=by unfold hH;rw[aO];exact gw
  have bj:(hH ds bf)[i]=iK ds bf[i]:=(b3.mp (show(hH ds bf)[i]?\(iK ds bf[i])by unfold hH;rw[dF,aC];rfl)).2;rw[uJ aG,bj];unfold vD;have jw:=h.len;rw[if_neg (by unfold d9;rw[aO,hb];omega),h.asL aC];have cp:=h.parse m (i+1) () gw;rw[ip aC]at cp;unfold d9 at cp⊢;rw[fg]at cp;exact cp
theorem e9.none{n:Int}(h:e9 n ds bf):(h3 ds (d9 ds bf)).head? = v9/\vW ds (d9 ds bf)=v9/\x6 n ds (d9 ds bf)=v9:=by
 refine(?_,?_,?_)
 .have:h3 ds (d9 ds bf)=[]:=by
   unfold h3;refine Zl.mpr λx ae=>?_
   let(d,hd,rfl):=cj.mp ae;let(k,az):=iH hd;have mP:=(b3.mp az).1;have hf:=h.nk.bR.pm.mem_iff.mpr (sZ.mpr mP);let(g,bj,arI):=XM.mp hf;let(s,aC,rfl):=cj.mp bj;have:My.told (d9 ds bf) d.name=true:=by
    unfold My.told;refine uB.mpr (qi ds s,cj.mpr (s,aC,rfl),?_);have:d.name∈fQ ds s:=cj.mpr (k,arI,pC az);simpa[qi]using this
   rw[this];simp
  rw[this];rfl
 .unfold vW;refine JD.mpr λd hd=>?_
  unfold AV;cases az:mh (d9 ds bf) d.name with
  |none=>rfl
  | some k=>
   rw[t2];cases ao:(d9 ds bf)[k]? with
   |none=>rfl
   | some r=>
    rw[t2];have ae:My.told (d9 ds bf) d.name=true:=by
     have:=Zi (d9 ds bf) d.name;rw[<- this];unfold mh at az;cases e:c5 (h7 ((d9 ds bf).map (·.mem))) (bx d.name)with
     |none=>rw[e]at az;cases az
     |some v=>rfl
    let(j2,d7,_,hA,fw,hm):=im ae;rw[az]at hA;cases hA;rw[ao]at fw;cases fw;let(s,aC,rfl):=b_ ao;let(i,ai,CL):=cj.mp hm;have n1:=ct aC;have h1:=h.lt n1 ai;rw[pC (bq h1)]at CL;let(j,aN):=iH hd;have:i=j:=xe h.aD h1 (b3.mp aN).1 (by rw[mr (bq h1),mr aN,CL]);subst this;have:=h.nk.le s n1 i ai d aN;show(if s.lo<d.least then some (p'p d k)else v9)=v9;rw[if_neg (show ¬s.lo<d.least by omega)]
 .unfold x6;refine JD.mpr λe he=>?_
  let(r,k):=e;have ao:r∈d9 ds bf:=List.fst_mem_of_mem_zipIdx he;let(s,aC,rfl):=cj.mp ao;unfold tV;refine JD.mpr λx ae=>JD.mpr λy aJ=>?_
  let(i,ai,rfl):=cj.mp ae;let(j,aN,rfl):=cj.mp aJ;unfold qm;rw[if_neg];intro(gj,ew);have li:=bq (h.lt aC ai);have O1:=bq (h.lt aC aN);unfold qr at ew;rw[pC li,pC O1,nc h.aD li,nc h.aD O1]at ew;have:=h.nk.bR.Ey s.gr (cj.mpr (s,aC,rfl)) i ai j aN (λz=>gj (by rw[z])) _ _ li O1;replace ew:mt n _ _=true:=ew;rw[this]at ew;cases ew
def TR(P:Program)(w:World)(t:bO):bW:=λvs H Q _=>∃c n ds bf,vs=[⇑c,.str (tX ds bf)]/\fz t H c n ds/\(4<=n/\n<=99)/\e9 n ds bf/\aI H/\∀a H',aS H H'->aI H'->hs P w t H' a c n ds (d9 ds bf)->Q ⇑a H'
def e9.plain{n:Int}(h:e9 n ds bf):∀r∈hH ds bf,r≠[]/\↑r<=11/\∀x∈r,rx x:=λr ao=>by
 let(s,aC,rfl):=cj.mp ao;let(Vd,aa6,bne,G_,xl):=h.lg.bd s aC;refine(by unfold iK;simp,?_,λx ae=>?_)
 .unfold iK fQ;rw[dx,aO];show 3+↑s.gr<=11;omega
 .unfold iK at ae;rcases ff.mp ae with z|z
  .have z:x=ab "stage"\/x=num s.lo\/x=num s.ai:=by simpa using z
   rcases z with rfl|rfl|rfl
   .unfold rx;ac_nf
   .exact mq () ()
   .exact mq () ()
  .let(k,az,rfl):=cj.mp z;let(d,hd):=xl k az;rw[pC hd];exact H4 (h.ok d (ct hd)).nm
def e9.rows{n:Int}(h:e9 n ds bf)(bX:bf≠[]):ib (tX ds bf)=hH ds bf:=by
 unfold tX;exact Qx (by unfold hH;simpa using bX) (λr ao=>(h.plain r ao).1) (λr ao=>(h.plain r ao).2.2)
def e9.ne{n:Int}(h:e9 n ds bf):bf≠[]:=λe=>by
 have:=h.nk.bR.len.2;rw[e]at this;simp at this;have:=h.cF;omega
def e9.txt{n:Int}(h:e9 n ds bf):↑(tX ds bf)<=20000:=by
 have hM:∀y∈(hH ds bf).map (eI c6),↑y<=200:=λy aJ=>by
  let(r,ao,rfl):=cj.mp aJ;let(_,aj,bb):=h.plain r ao;have:=rv c6 8 r λx ae=>(bb x ae).1
  rw[se]at this;omega
 have:=rv nl 200 _ hM;rw[Br,aO]at this;have aG:↑(hH ds bf)<=6:=by unfold hH;rw[aO];exact h.len
 unfold tX;omega
def ajB:cD P base T 7 t.Ba t.yH Ae (TR P w t):=by
 refine(afS T).imp λvs H Q E h=>?_
 let(c,n,ds,bf,rfl,C,a0,X,bH,q):=h;let(gj,ew,uy):=X.none;have bX:∀d∈ds,d.name≠ab "":=λd hd e=>by
  have h:=(pd (X.ok d hd).nm).1.1;rw[e]at h;exact absurd h ∅
 have cw:A6 ds:=λd hd=>by
  let(af,aj):=pd (X.ok d hd).nm;exact((c9 af.2 ∅,λc aw=>by have:=aj c aw;omega),(X.ok d hd).k,(X.ok d hd).of.1,by have:=(X.ok d hd).of;omega)
 have ag:=X.parse ↑bf 0 rfl (e0 _);rw[ajh,tD,show d9 ds []=[]from rfl]at ag;refine(c,n,ds,_,_,rfl,C,(),cw,bX,X.txt,by rw[X.rows X.ne];unfold hH;rw[aO];have:=X.len;omega,λr ao=>?_,bH,by rw[X.rows X.ne];exact ag,ad4.mp gj,ew,uy,λa H' s' gE dU=>q a H' s' gE dU);rw[X.rows X.ne]at ao;let(af,aj,bb):=X.plain r ao;exact(af,(),λy aJ=>c9 (bb y aJ).1 ∅)
noncomputable def Jr(bf:List iu)(j:Nat):List Nat:=((bf[j]?).map (·.gr)).getD []
def acZ{x:iu}(h:bf[j]?\x):Jr bf j=x.gr:=by unfold Jr;rw[h];rfl
noncomputable def Xi(ds:List bh)(i:Nat):Bool:=decide ((ds[i]?).map (·.k)\2)
noncomputable def QP(ds:List bh)(bf:List iu)(j:Nat):Bool:=Xi ds ((Jr bf j).headD 0)
def e9.six{n:Int}{ds:List bh}{bf:List iu}(h:e9 n ds bf){j:Nat}(aN:j<↑bf):bf[j].gr≠[]/\↑bf[j].gr<=8:=by
 let(_,_,a,b,_):=h.lg.bd _ (mL aN);exact(a,b)
section
variable{n:Int}{ds:List bh}{bf:List iu}
def e9.tell(X:e9 n ds bf){d:bh}(hd:d∈ds):My.told (d9 ds bf) d.name=true:=by
 have h:h3 ds (d9 ds bf)=[]:=ad4.mp X.none.1;unfold h3 at h;have:=Zl.mp h d.name (cj.mpr (d,hd,rfl));simpa using this
def e9.sort(X:e9 n ds bf){j:Nat}(aN:j<↑bf):iY ds (d9 ds bf) j=if QP ds bf j=true then e' else lR:=by
 have ae:=bq aN;let(iD,r,e):=wd (X.six aN).1;have jR:iD∈bf[j].gr:=by rw[e];exact .head _
 have i7:=bq (X.lt (mL aN) jR);unfold iY d9;rw[dF,ae];show el ds (qi ds bf[j])=_;unfold el qi fQ;rw[e,e1,pC i7];show(((jh ds _).map i_).getD _)=_;rw[nc X.aD i7];show i_ _=_;unfold i_ QP Xi;rw[acZ ae,e];show _=if decide ((ds[iD]?).map (·.k)\2)=true then e' else lR;rw[i7,GW];by_cases h:(ds[iD]'(X.lt (mL aN) jR)).k=2
 .rw [if_pos h,if_pos (decide_eq_true (congrArg some h))]
 .rw [if_neg h,if_neg (λz=>h (dZ (of_decide_eq_true z)))]
end
def S_{ds:List bh}{bf:List iu}{j:Nat}{x:iu}(h:bf[j]?\x):(d9 ds bf)[j]?\(qi ds x):=by unfold d9;rw[dF,h];rfl
def jb.r'{H H':au}{wl:Addr}{ds:List bh}(h:jb H wl ds)(s:Tl H H'):jb H' wl ds:=by
 let(qs,aq,aA,bG):=h;exact(qs,s.lst aq,aA,λi q d a b=>s.tup (bG i q d a b))
def pG.r'{H H':au}{bJ:Addr}{qs ms:List Addr}{bf:List iu}(h:pG H bJ qs ms bf)(s:Tl H H'):pG H' bJ qs ms bf:=
 (s.lst h.at_,h.cF,h.cB,λi q m x a b c=>(s.tup (h.al i q m x a b c).1,s.lst (h.al i q m x a b c).2))
def e9.ab_{n:Int}{ds:List bh}{bf:List iu}(X:e9 n ds bf):sy ds (d9 ds bf):=by
 refine(λd hd=>X.tell hd,λr ao=>?_,λr ao=>?_,by have:=X.yb;omega)
 .let(x,ae,rfl):=cj.mp ao;show ↑(fQ ds x)<=12;unfold fQ;rw[aO];have:=(X.lg.bd x ae).2.2.2.1;omega
 .obtain⟨x,ae,rfl⟩:=cj.mp ao;obtain⟨j,aN,e⟩:=O3 ae;have:=X.sort aN;unfold iY at this;rw[S_ (bq aN),e]at this;have this:el ds (qi ds x)=_:=this;rw[this];split
  .exact .inl rfl
  .exact .inr rfl
unseal L2.ho L2.bu L2.fX L2.hC L2.iW L2.gL
section
open PySem.Spec PyProof.Rows
noncomputable def Itm(d:Addr)(o:Obj)(kvs:List (Key×V)):kd:=
 (λi H=>H d\(.dg o (.aY kvs))/\i<↑kvs,λi H v H'=>∃p k x,H p=none/\v=⇑p/\kvs[i]?\(p'p k x)/\H'=upd H p (.tup [df k,x]),λi H=>H d\(.dg o (.aY kvs))/\↑kvs<=i)
theorem alN{kvs:List (Key×V)}{vs:List (Key×Value)}(r:e7 kvs vs){i:Nat}{k:Key}{x:V}(h:kvs[i]?\(p'p k x)):∃u,vs[i]?\(p'p k u)/\bP x u:=by
 induction r generalizing i with
 |nil=>simp at h
 | cons ag _ cp=>
  cases i with
  |zero=>
   cases h;exact(_,congrArg some (Prod.ext ag.1.symm rfl),ag.2)
  |succ i=>exact cp h
def akB{P:Program}{w:World}{K:bg}{aU:List Expr}{ka}{pos:Pos}{d it:Addr}{o:Obj}{ep:Nat}{kvs:List (Key×V)}{vs:List (Key×Value)}(bX:d≠it)(rel:e7 kvs vs)
  (wR:∀h:Heap,h.get? d\o->h.DictAt (hK P w) d vs ep):rE P w K (.Tuple aU ka pos) (Itm d o kvs) [it] it (λi h=>∃ok dw,IsItemIter h it d i ↑vs ep ok dw)where
 mem:=by simp
 obj:=λi h ⟨ok,dw,he⟩ b U=>by
  have e:b=it:=by simpa using U
  subst e;exact(_,he,λv z=>by
   have h9:TY _=X3 v:=z;cases h9)
 keep:=λi h h' ⟨ok,dw,he⟩ k=>(ok,dw,k it (by simp) _ he)
 item:=by
  intro X cS hw fY aw i aa s σ H E I hf ⟨ok,dw,he⟩ bj;subst cS hw fY;let(ay,ae):=bj;have ke:s.heap.get? d\o:=(I.a6 d _ ay).1;let((k,x),R0):∃q,kvs[i]?\q:=(_,bq ae);let(u,bp,es):=alN rel R0;refine wpAny_pyNext_items_item he (wR _ ke) bp λkey af IG PB Hj Ep Bf=>(_,rfl,?_)
  refine wpAny_letOwnedTupleGo_items PB λaj Ow iE=>?_
  replace iE:w5 it af aj:=iE;have yA:it<↥s:=en he;have az:∀b o,b∉[it]->s.heap.get? b\o->aj.get? b\o:=λb o U q=>by
   have fv:b≠it:=λz=>U (by simp[z])
   exact iE.extBut _ _ fv (Bf b o fv q)
  have aR:Inv X aa σ H {s with heap:=aj,toks:=s.toks}:=I.Fs az hf;have ij:jG X aa H ↥s:=I.o1 (b1 _) (I.a6.fresh (b1 _));have vE:aj.get? ↥s=some {cls:=.type "tuple",data:=.seq #[key,u]}:=(iE.2 _ (xQ yA)).trans Hj;have bz:=aR.adopt (o:=.tup [df k,x]) ij ((by show 2<=sizeLine;decide,_,vE,rfl),[key,u],.cons (SS IG) (.cons es .nil),(_,vE,rfl,_,rfl));refine(.ref ↥s,_,bz,rfl,(_,k,x,ij.1,rfl,R0,rfl),(_,_,Ow),λb U=>?_);have e:b=it:=by simpa using U
  subst e;rw[ax (gs yA)];exact(hf b U).1
 done:=by
  intro X cS hw fY aw i aa s σ H E I hf ⟨ok,dw,he⟩ bj;subst cS hw fY;let(ay,ae):=bj;have ke:s.heap.get? d\o:=(I.a6 d _ ay).1;exact wpAny_pyNext_items_end (I.ok.hd aw) he (wR _ ke) (by rw[Tq];rw[<- ↑rel];exact ae) λh' bF=>(rfl,I.Fs (t':=s.toks) (λb o U q=>bF b o (λz=>U (by simp[z])) q) hf)
 self:=λ_ _ _ _ _ ⟨_,_,he⟩ h=>PySem.W.kcp_self he h
def V7(dr:TE):TI:=λσ H R=>dr σ H λx H1=>∃p d kvs,x=⇑p/\H1 p\(.ext (mR p d))/\H1 d\(.aY kvs)/\∀o,R (Itm d o kvs) (upd H1 d (.dg o (.aY kvs)))
def acL{ka}{l:Expr}{dr:TE}(aG:bu X l dr):p3 X (.Tuple aU ka xt) l (V7 dr):=by
 intro aa s σ H R I h;refine bE (aG aa s σ H _ I h) λv s1 ⟨x,H1,aR,bK,bT⟩=>?_
 let(p,d,kvs,e,ep,g6,q):=bT;subst e;cases bK;let(_,hd,vs,rel,cQ):=oH aR.a6 g6;let(Uv,dat):=cQ.dictAt;let(o,Bk,g,rest):=id dat;have bz:=Xz aR g6 g;have aQ:s1.heap.IsItemsView p d:=(aR.a6 p _ ep).1;refine wpAny_pyIter_items aQ dat ?_;refine(↥s1,[↥s1],_,_,_,rfl,bz.kept (t':=s1.toks) λb o e=>ea _ e,akB (gs (en g)) rel (λh e=>(o,Bk,e,rest)),(_,_,hl _ rfl),λb U=>?_,q o);have e:b=↥s1:=by simpa using U
 subst e;exact bz.o1 (b1 _) (bz.a6.fresh (b1 _))
end
seal L2.ho L2.bu L2.fX L2.hC L2.iW L2.gL
def y5(t:bO)(C:Addr):bW:=λvs H Q _=>∃p d n,vs=[⇑p,.int n]/\e8 t H p d/\C=t.gx d.k/\Q (.int (ht d n)) H
def ah8:cD P base T 1 t.Cb t.H0 mF (y5 t (t.gx 0)):=by
 exists T.Q1.ok ahu,9
 let(p,d,n,rfl,W,cu,q):=h;have az:=(T.cw_inj ∅ W.1 cu).symm;refine(_,(a4 (cA (gC (Ls rfl) rfl T.B5 KO (ah (J 1) (ah aK aB))))),?_);rw[show ht d n=(if 1<n then 1 else n)by unfold ht;simp only[az]]at q;nofun;exact q
def ab1:cD P base T 1 t.Gq t.PL mF (y5 t (t.gx 1)):=by
 exists T.abO.ok asS,9
 let(p,d,n,rfl,W,cu,q):=h;have az:=(T.cw_inj ∅ W.1 cu).symm;refine(_,(a4 (cA (J 1))),?_);rw[show ht d n=n by unfold ht;simp only[az]]at q;nofun;exact q
def aj3:cD P base T 1 t.Du t.OU mF (y5 t (t.gx 2)):=by
 exists T.Sr.ok arp,9
 let(p,d,n,rfl,W,cu,q):=h;have az:=(T.cw_inj ∅ W.1 cu).symm;refine(_,(a4 (cA (gC (Ls rfl) rfl T.B5 KO (ah (J 1) (ah aK aB))))),?_);rw[show ht d n=(if 1<n then 1 else n)by unfold ht;simp only[az]]at q;nofun;exact q
theorem asC(T:Txt w K mg t):nI P w K mg base dy 1 (sk t) "goes" mF (y5 t):=by
 refine⟨λC cu=>?_⟩;let(k,az,rfl):=cu
 match k,az with
 |0,_=>exact(_,_,T.E6,T.SB,ah8 T,T.adi)
 |1,_=>exact(_,_,T.Cn,T.alw,ab1 T,T.as5)
 |2,_=>exact(_,_,T.Dt,T.apL,aj3 T,T.ai8)
noncomputable def dR(ns:List Str)(f:Str->V):List (Key×V):=ns.map λx=>(p'p (bx x) (f x))
theorem sQ{ns:List Str}{x:Str}(h:x∈ns):c5 (dR ns f) (bx x)\(f x):=by
 induction ns with
 |nil=>cases h
 | cons y ys cp=>
  by_cases c:y=x
  .subst c;simp[dR,c5]
  .have hm:x∈ys:=by
    rcases e_.mp h with e|e
    .exact absurd e.symm c
    .exact e
   have:=cp hm;simp only[dR,c5,e1,oL]at this⊢;simp[c]at this⊢;exact this
theorem ad1{ns:List Str}{x:Str}(h:x∉ns):c5 (dR ns f) (bx x)=none:=by
 induction ns with
 |nil=>rfl
 |cons y ys cp=>
  have c:¬y=x:=λz=>h (z ▸ .head _)
  have:=cp (λz=>h (.tail _ z));simp only[dR,c5,e1,oL]at this⊢;simp[c]at this⊢;exact this
noncomputable def cH{α:Type}(f:Str->α)(x:Str)(a:α):Str->α:=λy=>if y=x then a else f y
def eC(f:Str->α)(x:Str)(a:α):cH f x a x=a:=if_pos rfl
def d_{x y:Str}(h:y≠x):cH f x a y=f y:=if_neg h
def N'{ns:List Str}{x:Str}(h:x∉ns):d0 (dR ns f) (bx x) (f x)=dR (ns++[x]) f:=by
 rw[ala _ (ad1 h)];unfold dR;rw[fg];rfl
def X2{ns:List Str}{x:Str}(h:x∈ns)(bj:∀y∈ns,g y=if y=x then v else f y):d0 (dR ns f) (bx x) v=dR ns g:=by
 unfold d0;have Hq:((dR ns f).any λc1=>decide (c1.1=bx x))=true:=uB.mpr ((p'p (bx x) (f x)),cj.mpr (x,h,rfl),decide_eq_true rfl);rw[if_pos Hq];unfold dR;rw[oN];refine Dy λy aJ=>?_
 show(if(bx y:Key)=bx x then(p'p (bx y:Key) v)else(p'p (bx y) (f y)))=(p'p (bx y) (g y));rw[bj y aJ];by_cases c:y=x
 .rw [if_pos (by rw[c]),if_pos c]
 .rw [if_neg (λz=>c (pP z)),if_neg c]
noncomputable def ed:List (Int×Int)->Int
 |[]=>0
 |p::ps=>p.2+ed ps
theorem QJ:∀(a b:List (Int×Int)),ed (a++b)=ed a+ed b
 |[],b=>by simp[ed]
 |p::a,b=>by rw[AP,ed,ed,QJ a b];omega
theorem xH:∀{l:List (Int×Int)},(∀p∈l,0<p.2)->0<=ed l
 |[],_=>tR _
 |p::l,h=>by
  have:=h p (.head _);have:=xH (l:=l) λq ay=>h q (.tail _ ay)
  rw[ed];omega
noncomputable def er:Int->List (Int×Int)->List (Int×Int)×List (Int×Int)
 |_,[]=>(p'p [] [])
 |left,p::ps=>if left<=0 then(p'p [] (p::ps))else if p.2<=left then(p'p (p::(er (left-p.2) ps).1) ((er (left-p.2) ps).2))else(p'p [(p'p p.1 left)] ((p'p p.1 (p.2-left))::ps))
theorem Ee(l:List (Int×Int)):er 0 l=(p'p [] l):=by
 cases l with
 |nil=>rfl
 |cons p l=>unfold er;rw[if_pos (tR _)]
theorem vq:∀(l:List (Int×Int)) (left:Int),(∀p∈l,0<p.2)->0<=left->left<=ed l->ed (er left l).1=left/\ed (er left l).2=ed l-left/\(∀p∈(er left l).1,0<p.2)/\(∀p∈(er left l).2,0<p.2)/\↑(er left l).1<=↑l/\↑(er left l).2<=↑l
 |[],left,_,h0,af=>by
  rw[ed]at af;have:left=0:=()
  subst this;exact(rfl,rfl,(λp h=>by cases h),(λp h=>by cases h),b1 _,b1 _)
 | p :: l,left,ag,h0,af=>by
  have gv:=ag p (.head _);have cE:∀q∈l,0<q.2:=λq ay=>ag q (.tail _ ay)
  rw[ed]at af;unfold er;by_cases c:left<=0
  .have:left=0:=()
   subst this;rw[if_pos c];exact(rfl,by simp,(λp h=>by cases h),ag,e0 _,b1 _)
  .rw[if_neg c];by_cases cP:p.2<=left
   .rw[if_pos cP];let(a,b,uQ,d,e,f):=vq l (left-p.2) cE () ();refine(?_,?_,λq ay=>?_,d,?_,?_)
    .show p.2+ed (er (left-p.2) l).1=left;omega
    .show ed (er (left-p.2) l).2=ed (p::l)-left;rw[ed];omega
    .rcases e_.mp ay with z|z
     .rw [z];exact gv
     .exact uQ q z
    .exact Ss e
    .exact Nat.le_succ_of_le f
   .rw[if_neg cP];refine(?_,?_,λq ay=>?_,λq ay=>?_,?_,b1 _)
    .show left+0=left;omega
    .show p.2-left+ed l=ed (p::l)-left;rw[ed];omega
    .rw [eg.mp ay];show 0<left;omega
    .rcases e_.mp ay with z|z
     .rw [z];show 0<p.2-left;omega
     .exact cE q z
    .exact Ss (e0 _)
noncomputable abbrev Os:List Str:=[ab "crossing",ab "keeper",ab "turn",ab "standing",ab "lots"]
noncomputable def mn(c k:Addr)(bY:Int)(cb ld:Addr):List (Str×V):=[(p'p (ab "crossing") (V.ref c)),(p'p (ab "keeper") (V.ref k)),(p'p (ab "turn") (V.int bY)),(p'p (ab "standing") (V.ref cb)),(p'p (ab "lots") (V.ref ld))]
def vK(c k:Addr)(bY:Int)(cb ld:Addr):(mn c k bY cb ld).map (·.1)=Os:=rfl
def ael(c k:Addr)(bY:Int)(cb ld:Addr)(v:Int):c_ (ab "turn") (.int v) (mn c k bY cb ld)=mn c k v cb ld:=by
 unfold mn;simp only[c_];rw[if_neg ∅,if_neg ∅];rfl
def qe(c k:Addr)(bY:Int)(cb ld:Addr)(h:Os.contains m=false):(mn c k bY cb ld).lookup m=none:=w2 Os (vK ..) h
section
variable{w:World}{K:bg}{mg:Str->Option Value}{t:bO}{H:au}{r c k ak cb ld:Addr}{bY:Int}
def vQ(T:Txt w K mg t)(e:H r\(.ins t.f3 ak (mn c k bY cb ld))):fH K H r (ab "crossing") ⇑c:=(_,ak,_,e,T.iw,T.Vr,gb Os 0 (vK ..) ∅ rfl)
def RO(T:Txt w K mg t)(e:H r\(.ins t.f3 ak (mn c k bY cb ld))):fH K H r (ab "keeper") ⇑k:=(_,ak,_,e,T.iw,T.Vw,gb Os 1 (vK ..) ∅ rfl)
def ag1(T:Txt w K mg t)(e:H r\(.ins t.f3 ak (mn c k bY cb ld))):fH K H r (ab "turn") (.int bY):=(_,ak,_,e,T.iw,T.Qs,gb Os 2 (vK ..) ∅ rfl)
def xS(T:Txt w K mg t)(e:H r\(.ins t.f3 ak (mn c k bY cb ld))):fH K H r (ab "standing") ⇑cb:=(_,ak,_,e,T.iw,T.Un,gb Os 3 (vK ..) ∅ rfl)
def Nz(T:Txt w K mg t)(e:H r\(.ins t.f3 ak (mn c k bY cb ld))):fH K H r (ab "lots") ⇑ld:=(_,ak,_,e,T.iw,T.abr,gb Os 4 (vK ..) ∅ rfl)
end
def ml(H:au)(l:Addr)(qs:List Addr)(ls:List (Int×Int)):Prop:=H l\(.lst (qs.map V.ref))/\↑qs=↑ls/\∀(i:Nat) (q:Addr) (x:Int×Int),qs[i]?\q->ls[i]?\x->H q\(.tup [.int x.1,.int x.2])
structure CK where
 c:Addr
 k:Addr
 aZ:Addr
 aF:Addr
 a8:Addr
 cb:Addr
 ld:Addr
 aL:Str->Addr
structure ix where
 bY:Int
 st:Str->Int
 lo:Str->List (Int×Int)
structure f5(t:bO)(ns:List Str)(H:au)(r:Addr)(o:CK)(s:gy)(v:ix):Prop where
 at_:∃ak,H r\(.ins t.f3 ak (mn o.c o.k v.bY o.cb o.ld))
 bM:ft t H o.k o.aZ o.aF o.a8 s
 cb:H o.cb\(.aY (dR ns λx=>.int (v.st x)))
 ld:H o.ld\(.aY (dR ns λx=>⇑(o.aL x)))
 tF:∀x∈ns,∃qs,ml H (o.aL x) qs (v.lo x)
 b8:o.cb≠o.ld
 b':o.cb≠o.aF
 c7:o.cb≠o.a8
 dh:o.ld≠o.aF
 fC:o.ld≠o.a8
 hB:r≠o.k
 inj:∀x∈ns,∀y∈ns,o.aL x=o.aL y->x=y
def Own(ns:List Str)(r:Addr)(o:CK)(b:Addr):Prop:=b=r\/b=o.k\/b=o.aF\/b=o.a8\/b=o.cb\/b=o.ld\/∃x∈ns,b=o.aL x
def hX(O:Addr->Prop)(H H':au):Prop:=∀b u,¬O b->H b\u->H' b\u
section
variable{t:bO}{ns:List Str}{H H':au}{r:Addr}{o:CK}{s:gy}{v:ix}
def ml.keep{l:Addr}(h:ml H l qs ls)(af:∀u,H l\u->H' l\u)(aj:∀q xs,H q\(.tup xs)->H' q\(.tup xs)):ml H' l qs ls:=
 (af _ h.1,h.2.1,λi q x a b=>aj _ _ (h.2.2 i q x a b))
theorem f5.keep(h:f5 t ns H r o s v)(af:∀b u,Own ns r o b->H b\u->H' b\u)(aj:∀q xs,H q\(.tup xs)->H' q\(.tup xs)):f5 t ns H' r o s v:=by
 let(ak,e):=h.at_;let(iD,jB,bS,cY,da):=h.bM;refine((ak,af _ _ (.inl rfl) e),(iD,jB,af _ _ (.inr (.inl rfl)) bS,af _ _ (.inr (.inr (.inl rfl))) cY,af _ _ (.inr (.inr (.inr (.inl rfl)))) da),af _ _ (.inr (.inr (.inr (.inr (.inl rfl))))) h.cb,af _ _ (.inr (.inr (.inr (.inr (.inr (.inl rfl)))))) h.ld,λx ae=>?_,h.b8,h.b',h.c7,h.dh,h.fC,h.hB,h.inj);let(qs,L):=h.tF x ae;exact(qs,L.keep (λu e=>af _ _ (.inr (.inr (.inr (.inr (.inr (.inr (x,ae,rfl))))))) e) aj)
def f5.same(h:f5 t ns H r o s v)(e:aS H H'):f5 t ns H' r o s v:=h.keep (λb u _=>e b u) (λq xs=>e q _)
def f5.has(h:f5 t ns H r o s v)(U:Own ns r o b):∃u,H b\u/\((∃a b c,u=.ins a b c)\/(∃k,u=.aY k)\/∃xs,u=.lst xs):=by
 let(ak,e):=h.at_;let(iD,jB,bS,cY,da):=h.bM;rcases U with rfl|rfl|rfl|rfl|rfl|rfl|⟨x,ae,rfl⟩
 .exact (_,e,.inl (_,_,_,rfl))
 .exact (_,bS,.inl (_,_,_,rfl))
 .exact (_,cY,.inr (.inl (_,rfl)))
 .exact (_,da,.inr (.inl (_,rfl)))
 .exact (_,h.cb,.inr (.inl (_,rfl)))
 .exact (_,h.ld,.inr (.inl (_,rfl)))
 .let(qs,L):=h.tF x ae;exact(_,L.1,.inr (.inr (_,rfl)))
def f5.off(h:f5 t ns H r o s v)(e:H b\u)(af:∀a b c,u≠.ins a b c)(aj:∀k,u≠.aY k)(bb:∀xs,u≠.lst xs):¬Own ns r o b:=λU=>by
 let(o_,br,k):=h.has U;rw[e]at br;cases br;rcases k with⟨a,b,c,z⟩|⟨k,z⟩|⟨xs,z⟩
 .exact af _ _ _ z
 .exact aj _ z
 .exact bb _ z
def hX.trans(a:hX O H1 ar)(b:hX O ar ba):hX O H1 ba:=λx u h e=>b x u h (a x u h e)
def hX.wide(a:hX O H1 ar)(h:∀b,O b->z0 b):hX z0 H1 ar:=λx u ae e=>a x u (λz=>ae (h x z)) e
end
noncomputable def kR(v:ix)(x:Str)(m:Int):ix:=if 0<m then {v with st:=cH v.st x (v.st x+m),lo:=cH v.lo x (v.lo x++[(p'p v.bY m)])}else v
noncomputable def vC(v:ix)(x:Str)(left:Int):ix:={v with st:=cH v.st x (v.st x-left),lo:=cH v.lo x (er left (v.lo x)).2}
def RL(left:Int)(p:Int×Int)(ps:List (Int×Int)):er left (p::ps)=if left<=0 then(p'p [] (p::ps))else if p.2<=left then(p'p (p::(er (left-p.2) ps).1) ((er (left-p.2) ps).2))else(p'p [(p'p p.1 left)] ((p'p p.1 (p.2-left))::ps)):=by rw[er]
def RU(t:bO):bW:=λvs H Q _=>∃ns r o s v x m,vs=[⇑r,.str x,.int m]/\f5 t ns H r o s v/\x∈ns/\↑ns<=12/\↑(v.lo x)<=1000/\aI H/\∀H',hX (λb=>b=o.cb\/b=o.aL x) H H'->aI H'->f5 t ns H' r o s (kR v x m)->Q .b5 H'
def sl(H:au)(p:Addr)(x:Str)(qs:List Addr)(ls:List (Int×Int)):Prop:=H p\(.lst (qs.map V.ref))/\↑qs=↑ls/\∀(i:Nat) (q:Addr) (y:Int×Int),qs[i]?\q->ls[i]?\y->H q\(.tup [.str x,.int y.1,.int y.2])
def apI{l q:Addr}(h:ml H l qs ls)(aq:H' l\(.lst (qs.map V.ref++[V.ref q])))(aA:H' q\(.tup [.int y.1,.int y.2]))(bG:∀b xs,H b\(.tup xs)->H' b\(.tup xs)):ml H' l (qs++[q]) (ls++[y]):=by
 refine(by rw[aq,fg];rfl,by rw[dx,dx,h.2.1];rfl,λi cW x ay ae=>?_);by_cases ck:i<↑qs
 .rw [nD ck]at ay;rw[nD (by rw[<- h.2.1];exact ck)]at ae;exact bG _ _ (h.2.2 i cW x ay ae)
 .have ai:i=↑qs:=by
   have:=(b3.mp ay).1;rw[dx,qf]at this;omega
  subst ai;rw[nj (b1 _),Cr]at ay;rw[h.2.1,nj (b1 _),Cr]at ae;cases ay;cases ae;exact aA
def ais{l q:Addr}{x:Str}(h:sl H l x qs ls)(aq:H' l\(.lst (qs.map V.ref++[V.ref q])))(aA:H' q\(.tup [.str x,.int y.1,.int y.2]))(bG:∀b xs,H b\(.tup xs)->H' b\(.tup xs)):sl H' l x (qs++[q]) (ls++[y]):=by
 refine(by rw[aq,fg];rfl,by rw[dx,dx,h.2.1];rfl,λi cW z ay ae=>?_);by_cases ck:i<↑qs
 .rw [nD ck]at ay;rw[nD (by rw[<- h.2.1];exact ck)]at ae;exact bG _ _ (h.2.2 i cW z ay ae)
 .have ai:i=↑qs:=by
   have:=(b3.mp ay).1;rw[dx,qf]at this;omega
  subst ai;rw[nj (b1 _),Cr]at ay;rw[h.2.1,nj (b1 _),Cr]at ae;cases ay;cases ae;exact aA
def f5.Yh{t:bO}{ns:List Str}(h:f5 t ns H r o s v){x:Str}(ae:x∈ns)(aq:H' o.cb\(.aY (dR ns λy=>.int (cH v.st x a y))))(aA:ml H' (o.aL x) qs ls)(bG:hX (λb=>b=o.cb\/b=o.aL x) H H'):f5 t ns H' r o s {v with st:=cH v.st x a,lo:=cH v.lo x ls}:=by
 let(ak,e):=h.at_;let(iD,jB,bS,cY,da):=h.bM;let(atX,TK):=h.tF x ae;have uA:∀{b:Addr} {u:dJ},H b\u->(∀kvs,u≠.aY kvs)->(∀xs,u≠.lst xs)->H' b\u:=λ{b u} bF af aj=>bG b u (λz=>by
  rcases z with rfl|rfl
  .rw [h.cb]at bF;exact af _ (dZ bF).symm
  .rw [TK.1]at bF;exact aj _ (dZ bF).symm) bF
 have Pw:∀{b:Addr} {kvs:List (Key×V)},H b\(.aY kvs)->b≠o.cb->H' b\(.aY kvs):=λ{b kvs} bF U=>bG b _ (λz=>by
  rcases z with z|rfl
  .exact U z
  .rw [TK.1]at bF;cases bF) bF
 refine((ak,uA e (λ_ z=>by cases z) (λ_ z=>by cases z)),(iD,jB,uA bS (λ_ z=>by cases z) (λ_ z=>by cases z),Pw cY (cT h.b'),Pw da (cT h.c7)),aq,Pw h.ld (cT h.b8),λy aJ=>?_,h.b8,h.b',h.c7,h.dh,h.fC,h.hB,h.inj);by_cases c:y=x
 .subst c;refine(qs,?_);show ml H' (o.aL y) qs (cH v.lo y ls y);rw[eC];exact aA
 .obtain⟨YX,WV⟩:=h.tF y aJ;refine⟨YX,?_⟩;show ml H' (o.aL y) YX (cH v.lo x ls y);rw[d_ c];refine WV.keep (fun u gA=>bG _ _ (fun z=>?_) gA) (fun q xs eq=>uA eq (fun _ z=>by cases z) (fun _ z=>by cases z));rcases z with z|z
  .have:=WV.1;rw[z,h.cb]at this;cases this
  .exact c (h.inj y aJ x ae z)
def Qy(P:Program)(w:World)(t:bO):bW:=λvs H Q _=>∃n ds r o s v,∃i:Nat,∃d:bh,vs=[⇑r,.str d.name]/\f5 t (ds.map (·.name)) H r o s v/\fz t H o.c n ds/\ds[i]?\d/\↑ds<=12/\↑(v.lo d.name)<=1000/\(∀p∈v.lo d.name,0<p.2)/\ed (v.lo d.name)=v.st d.name/\aI H /\
 ∀p qs H',hX (λb=>b=o.cb\/b=o.aL d.name) H H'->aI H'->H p=none->sl H' p d.name qs (er (ht d (v.st d.name)) (v.lo d.name)).1->f5 t (ds.map (·.name)) H' r o s (vC v d.name (ht d (v.st d.name)))->Q ⇑p H'
def T2:cD P base T 1 t.Bx t.GL yS (RU t):=by
 exists T.Wz.ok aoF,9
 let(ns,r,o,s',v,x,m,rfl,eT,ae,Bu,n7,bH,q):=h;have bp:=gI ao;refine(_,(a4 (d5 (dk oo (J 2) aK (cL _)) (aP (dV (gq hJ kY lT kW (iM bp (bA (J 0) rfl) (J 1) (λ_ _=>rfl)) (ah (mj (ah (bA (J 0) rfl) (ah (J 2) aB))) aB)))
   (a4 (RX bp (bA (J 0) rfl) (J 1) (J 2) xX (λ_ _ _=>rfl)))) eV)),?_)
 let(ak,e):=eT.at_;let(qs,L):=eT.tF x ae;have gl:=fj.k (k:=bx x) eT.ld;rw[sQ ae]at gl;refine d8 (decide (0<m)) (λjc a9=>?_) (λU=>?_) (λU=>?_)
 .nofun;exact a9
 .have hm:=of_decide_eq_true U;have mJ:o.aL x≠o.cb:=λz=>by have:=L.1;rw[z,eT.cb]at this;cases this
  have ua:r≠o.aL x:=λz=>by have:=L.1;rw[<- z,e]at this;cases this
  have J0:d0 (dR ns λy=>.int (v.st y)) (bx x) (.int (v.st x+m))=dR ns λy=>.int (cH v.st x (v.st x+m) y):=X2 ae (λy aJ=>by unfold cH;split <;> rfl)
  nofun;refine(_,Nz T e,_,rfl,_,gl,n2 (_,aE.of L.1),_,ag1 T e,∅,λp ag=>?_);have np:∀{b:Addr} {u:dJ},H b\u->b≠p:=λ{b u} e z=>by rw[z,ag]at e;cases e
  have qL:∀{b:Addr} {u a1 a2:dJ},b≠o.aL x->H b\u->upd (upd H p a1) (o.aL x) a2 b\u:=λ{b u a1 a2} af e=>by rw[ax af,ax (np e)];exact e
  refine(_,rfl,_,by rw[ax (np L.1)];exact L.1,by rw[aO,L.2.1];exact fW n7 ∅,_,xS T (qL ua e),_,rfl,_,by have:=fj.k (k:=bx x) (qL (cT mJ) eT.cb (a1:=.tup [.int v.bY,.int m]) (a2:=.lst (qs.map V.ref++[V.ref p])));rw[sQ ae]at this;exact this,_,rfl,_,h6.k (k:=bx x) (qL (cT mJ) eT.cb) (by unfold dR;rw[aO];exact fW Bu ∅),?_);rw[J0];have cI:hX (λb=>b=o.cb\/b=o.aL x) H (upd (upd (upd H p (.tup [.int v.bY,.int m])) (o.aL x) (.lst (qs.map V.ref++[V.ref p]))) o.cb (.aY (dR ns λy=>.int (cH v.st x (v.st x+m) y)))):=λb u U bF=>by
   rw[ax (λz=>U (.inl z))];exact qL (λz=>U (.inr z)) bF
  refine q _ cI bH.upd.upd.upd ?_;unfold kR;rw[if_pos hm];have qP:p≠o.cb:=λz=>by rw[z,eT.cb]at ag;cases ag
  have cE:p≠o.aL x:=λz=>by rw[z,L.1]at ag;cases ag
  exact eT.Yh ae aM (apI (y:=(p'p v.bY m)) L (by rw[ax mJ];exact aM) (by rw[ax qP,ax cE];exact aM) (λb xs bF=>cI b _ (λz=>by
   rcases z with rfl|rfl
   .rw [eT.cb]at bF;cases bF
   .rw [L.1]at bF;cases bF) bF)) cI
 .have hm:=of_decide_eq_false U;nofun;refine q H (λ_ _ _ e=>e) bH ?_;unfold kR;rw[if_neg hm];exact eT
theorem Y4:cD P base T 3 t.zG t.Ha gQ (Qy P w t):=by
 refine cK (q' T) λjj=>?_;have ajo:nI P w K mg base dy 2 (sk t) "goes" mF (y5 t):=zN (asC T) ∅;exists T.Vy.ok te,9
 let(n,ds,r,o,s',v,i,d,rfl,eT,C,hd,e3,n7,AX,yX,bH,q):=h;have bp:=gI ao;refine(_,(aP (b9 (i:=2) te.aD (akc (eO (bA (J 0) rfl) T.gH T.ni jj ao T.nv .nil cv (ah (J 1) aB)) ajo ao cv (ah (iM bp (bA (J 0) rfl) (J 1) (λ_ _=>rfl)) aB)))
   (aP (RX bp (bA (J 0) rfl) (J 1) (J 2) ajs (λ_ _ _=>rfl))
   (aP (b9 (i:=3) te.aD (iM bp (bA (J 0) rfl) (J 1) (λ_ _=>rfl)))
   (aP (b9 (i:=4) te.aD (f_ aB))
   (aP (Sb fK (dk oo (J 2) aK (cL _)) (aP (F7 (b7 dI (J 3) aK) (mw (K:=K) (n:=2) rfl rfl (fJ (cy (i:=5) te.aD) (fJ (cy (i:=6) te.aD) mS))))
   (aP (b9 (i:=7) te.aD (gC (Ls rfl) rfl T.B5 KO (ah (J 6) (ah (J 2) aB))))
   (aP (dV (gq hJ kY lT kW (J 4) (ah (mj (ah (J 1) (ah (J 5) (ah (J 7) aB)))) aB)))
   (aP (d5 (dk wf (J 7) (J 6) (cL _)) (a4 (dV (gq hJ Vv akD abt (J 3) (ah aK aB)))) (a4 (F7 (mj (ah (J 5) (ah (bQ mE (J 6) (J 7)) aB))) (VS (J 3) aK RF))))
   (a4 (acV (i:=2) te.aD rfl (n2 rfl) (J 7) ahz)))))))
   (a4 (cA (J 4)))))))),?_)
 have ae:d.name∈ds.map (·.name):=cj.mpr (d,ct hd,rfl);let(ak,e):=eT.at_;let(qs,L):=eT.tF _ ae;have bN:=fj.k (k:=bx d.name) eT.cb;rw[sQ ae]at bN;let((eL,auZ),vU,wl,aD,ck,_,_):=id C;exists (λav H'=>H'=H/\av=[~~~r,some (.str d.name),some (.int (ht d (v.st d.name))),none,none,none,none,none]),3
 .nofun;refine(_,vQ T e,_,rfl,_,_,ck,iU _ _ _ ∅,o.c,n,ds,i,d,rfl,C,hd,λa W=>?_);let(jB,Jk,qn):=id W;exact(a,rfl,_,_,_,qn,(_,jB,rfl),yZ ∅,_,xS T e,_,rfl,_,bN,a,d,_,rfl,W,rfl,cw _ _ (rfl,rfl))
 intro fO H1 (rfl,rfl);have Iw:0<=v.st d.name:=by rw[<- yX];exact xH AX
 have qD:0<=ht d (v.st d.name)/\ht d (v.st d.name)<=ed (v.lo d.name):=by
  rw[yX];unfold ht;split
  .omega
  .split <;> omega
 subst aW;generalize Wg:ht d (v.st d.name)=left at q qD⊢;have J0:d0 (dR (ds.map (·.name)) λy=>.int (v.st y)) (bx d.name) (.int (v.st d.name-left))=dR (ds.map (·.name)) λy=>.int (cH v.st d.name (v.st d.name-left) y):=X2 ae (λy aJ=>by unfold cH;split <;> rfl)
 have mJ:o.aL d.name≠o.cb:=λz=>by have:=L.1;rw[z,eT.cb]at this;cases this
 exists (λav H'=>H'=upd H1 o.cb (.aY (dR (ds.map (·.name)) λy=>.int (cH v.st d.name (v.st d.name-left) y)))/\av=[~~~r,some (.str d.name),some (.int left),none,none,none,none,none]),3
 .nofun;exact(_,xS T e,_,rfl,_,bN,_,rfl,_,h6.k (k:=bx d.name) eT.cb (by unfold dR;rw[aO,aO];exact fW e3 ∅),cw _ _ (by rw[J0],rfl))
 intro cO ar (rj,rfl);have q6:hX (λb=>b=o.cb\/b=o.aL d.name) H1 ar:=λb u U bF=>by rw[rj,ax (λz=>U (.inl z))];exact bF
 have b':aI ar:=by rw[rj];exact bH.upd
 have abG:ar o.cb\(.aY (dR (ds.map (·.name)) λy=>.int (cH v.st d.name (v.st d.name-left) y))):=by rw[rj];exact aM
 have qL:∀{b:Addr} {u:dJ},b≠o.cb->H1 b\u->ar b\u:=λ{b u} U bF=>by rw[rj,ax U];exact bF
 have L2:ml ar (o.aL d.name) qs (v.lo d.name):=L.keep (λu gA=>qL mJ gA) (λq xs eq=>qL (λz=>by rw[z,eT.cb]at eq;cases eq) eq);have aA:=qL (λz=>by rw[z,eT.cb]at e;cases e) e;have gl:=fj.k (k:=bx d.name) (qL (cT eT.b8) eT.ld);subst aW;rw[sQ ae]at gl;clear rj;exists (λav H'=>H'=ar/\av=[~~~r,some (.str d.name),some (.int left),some ⇑(o.aL d.name),none,none,none,none]),3
 .nofun;exact(_,Nz T aA,_,rfl,_,gl,cw _ _ (rfl,rfl))
 intro fR ba (rfl,rfl);subst aW;exists (λav H'=>aS ba H'/\aI H'/\∃wp,ba wp=none/\H' wp\(.lst [])/\av=[~~~r,some (.str d.name),some (.int left),some ⇑(o.aL d.name),~~~wp,none,none,none]),3
 .nofun;exact(e0 _,λwp cV=>cw _ _ (bk cV,b'.upd,wp,cV,aM,rfl))
 intro km cm (s4,dh,wp,cV,gZ,rfl);have g5:wp≠o.aL d.name:=λz=>by rw[z,L2.1]at cV;cases cV
 have JB:wp≠o.cb:=λz=>by rw[z,abG]at cV;cases cV
 subst aW;exists (λav H'=>hX (λb=>b=o.aL d.name\/b=wp) cm H'/\aI H'/\(∃qs ox,ml H' (o.aL d.name) qs (er left (v.lo d.name)).2/\sl H' wp d.name ox (er left (v.lo d.name)).1)/\∃iX kD fP kS,av=[~~~r,some (.str d.name),iX,some ⇑(o.aL d.name),~~~wp,kD,fP,kS]),3
 .refine wE (λav H'=>hX (λb=>b=o.aL d.name\/b=wp) cm H'/\aI H'/\∃(lf:Int) (ls ws:List (Int×Int)) (qs ox:List Addr),ml H' (o.aL d.name) qs ls/\sl H' wp d.name ox ws/\0<=lf/\lf<=ed ls/\(∀p∈ls,0<p.2)/\er left (v.lo d.name)=(p'p (ws++(er lf ls).1) ((er lf ls).2))/\∃kD fP kS,av=[~~~r,some (.str d.name),some (.int lf),some ⇑(o.aL d.name),~~~wp,kD,fP,kS]) (λav _=>match av[2]? with|some (some (V.int y))=>y.toNat|_=>0) (λ_ _ _ e=>e,dh,left,v.lo d.name,[],qs,[],L2.keep (λu gA=>s4 _ _ gA) (λq xs eq=>s4 _ _ eq),(gZ,rfl,λi q y h=>(by simp at h)),qD.1,qD.2,AX,rfl,_,_,_,rfl) ?_;rintro av H' bl;ac_rfl
  let(cI,mf,lf,ls,ws,mG,ox,Bo,g8,h0,af,j_,ec,kD,fP,kS,rfl):=bl;subst aW;refine(decide (0<lf),λQ a9=>?_,λc=>?_,λc=>?_)
  .nofun;exact a9
  .have rB:=of_decide_eq_true c;let(eX,sr,rfl):∃eX sr,ls=eX::sr:=by
    cases ls with
    |nil=>rw[ed]at af;omega
    |cons eX sr=>exact(eX,sr,rfl)
   let(fU,rK,rfl):∃fU rK,mG=fU::rK:=by
    cases mG with
    |nil=>have:=Bo.2.1;cases this
    |cons fU rK=>exact(fU,rK,rfl)
   have oS:=Bo.2.2 0 fU eX rfl rfl;have gv:=j_ eX (.head _);have ajO:↑ws<=1000:=by
    have h:=(vq (v.lo d.name) left AX qD.1 qD.2).2.2.2.2.1;rw[ec,dx]at h;omega
   rw[ed]at af;simp only[dd];exists (λcO ar=>ar=H'/\cO=[~~~r,some (.str d.name),some (.int lf),some ⇑(o.aL d.name),~~~wp,some (.int eX.1),some (.int eX.2),kS]),2
   .nofun;exact(_,aE.of Bo.1,_,cf (j:=0) rfl,_,rfl,_,de.of oS,rfl,_,_,rfl,_,_,rfl,rfl,cC _ _ (rfl,rfl))
   intro nW cG (rfl,rfl);subst aW;simp only[dd];exists (λcO ar=>ar=cG/\cO=[~~~r,some (.str d.name),some (.int lf),some ⇑(o.aL d.name),~~~wp,some (.int eX.1),some (.int eX.2),some (.int (if lf<eX.2 then lf else eX.2))]),2
   .nofun;exact cC _ _ (rfl,rfl)
   intro mb fl (rfl,rfl);subst aW;generalize n1:(if lf<eX.2 then lf else eX.2)=bo;have atg:0<bo/\bo<=lf/\bo<=eX.2/\(bo=eX.2\/bo=lf):=by
    rw[<- n1];split <;> omega
   simp only[dd];exists (λcO ar=>hX (λb=>b=wp) fl ar/\aI ar/\(∃ox,sl ar wp d.name ox (ws++[(p'p eX.1 bo)]))/\cO=[~~~r,some (.str d.name),some (.int lf),some ⇑(o.aL d.name),~~~wp,some (.int eX.1),some (.int eX.2),some (.int bo)]),2
   .nofun;refine(n2 (_,aE.of g8.1),∅,λp ag=>?_);have gT:p≠wp:=λz=>by rw[z,g8.1]at ag;cases ag
    have up:∀b u,b≠wp->fl b\u->upd (upd fl p (.tup [.str d.name,.int eX.1,.int bo])) wp (.lst (ox.map V.ref++[V.ref p])) b\u:=λb u U bF=>by rw[ax U,ax (λz=>by rw[z,ag]at bF;cases bF)];exact bF
    exact(_,by rw[ax (cT gT)];exact g8.1,by rw[aO,g8.2.1];exact fW ajO ∅,cC _ _ (up,mf.upd.upd,(_,ais (y:=(p'p eX.1 bo)) g8 aM (by rw[ax gT];exact aM) (λb xs bF=>up b _ (λz=>by rw[z,g8.1]at bF;cases bF) bF)),rfl))
   intro lL eJ (HJ,jA,(VF,y2),rfl);have oV:ml eJ (o.aL d.name) (fU::rK) (eX::sr):=Bo.keep (λu gA=>HJ _ _ (λz=>g5 z.symm) gA) (λq xs eq=>HJ _ _ (λz=>by rw[z,g8.1]at eq;cases eq) eq);have apT:hX (λb=>b=o.aL d.name\/b=wp) cm eJ:=cI.trans (HJ.wide λb z=>.inr z);subst aW;simp only[dd];exists (λcO ar=>hX (λb=>b=o.aL d.name) eJ ar/\aI ar/\(∃qs,ml ar (o.aL d.name) qs (if bo=eX.2 then sr else(p'p eX.1 (eX.2-bo))::sr))/\cO=[~~~r,some (.str d.name),some (.int lf),some ⇑(o.aL d.name),~~~wp,some (.int eX.1),some (.int eX.2),some (.int bo)]),2
   .refine d8 (decide (bo=eX.2)) (λjc a9=>?_) (λU=>?_) (λU=>?_)
    .nofun;exact a9
    .nofun;refine(n2 (_,aE.of oV.1),_,oV.1,∅,∅,0,seqIndex_of ∅ (by rw[aO,ih];omega),_,rfl,cC _ _ (λb u U bF=>by rw[ax U];exact bF,jA.upd,(rK,?_),rfl));rw[if_pos (of_decide_eq_true U)];exact(aM,Nat.succ.inj oV.2.1,λi q x ay ae=>by
      have:=oV.2.2 (i+1) q x ay ae;rw[ax (bI this oV.1 (by intro z;cases z))];exact this)
    .nofun;refine(∅,λp ag=>?_);have cE:p≠o.aL d.name:=λz=>by rw[z,oV.1]at ag;cases ag
     have up:∀b u,b≠o.aL d.name->eJ b\u->upd (upd eJ p (.tup [.int eX.1,.int (eX.2-bo)])) (o.aL d.name) (.lst (((fU::rK).map V.ref).set 0 (V.ref p))) b\u:=λb u U bF=>by rw[ax U,ax (λz=>by rw[z,ag]at bF;cases bF)];exact bF
     refine(_,by rw[ax (cT cE)];exact oV.1,0,?_,cC _ _ (up,jA.upd.upd,(p::rK,?_),rfl))
     .unfold oG;rw[if_pos ∅,if_pos (by rw[aO,ih];omega)];rfl
     .rw[if_neg (of_decide_eq_false U)];refine(aM,oV.2.1,λi q x ay ae=>?_);cases i with
      |zero=>
       cases ay;cases ae;rw[ax cE];exact aM
      |succ i=>
       have:=oV.2.2 (i+1) q x ay ae;exact up _ _ (bI this oV.1 (by intro z;cases z)) this
   intro vT gO (Ip,rb,(anM,ag0),rfl);subst aW;nofun;have ajd:sl gO wp d.name VF (ws++[(p'p eX.1 bo)]):=(Ip _ _ g5 y2.1,y2.2.1,λi q y ay aJ=>by
    have:=y2.2.2 i q y ay aJ;exact Ip _ _ (bI this oV.1 (by intro z;cases z)) this)
   unfold Y0;refine(_,_,rfl,rfl,apT.trans (Ip.wide λb z=>.inl z),rb,(lf-bo,_,_,anM,ag0,VF,ajd,(),?_,?_,?_,rfl,_,rfl),?_)
   .split
    .omega
    .rw [ed];show lf-bo<=eX.2-bo+ed sr;omega
   .split
    .exact λp ag=>j_ p (.tail _ ag)
    .intro p ag;rcases e_.mp ag with z|z
     .rw [z];show 0<eX.2-bo;omega
     .exact j_ p (.tail _ z)
   .rw[ec,RL,if_neg ()];by_cases cP:eX.2<=lf
    .have iE:bo=eX.2:=by rw[<- n1];split <;> omega
     rw[if_pos cP,if_pos iE,iE];simp
    .have iE:bo=lf:=by rw[<- n1];split <;> omega
     rw[if_neg cP,if_neg (),iE,Int.sub_self,Ee];simp
   .show (lf-bo).toNat<lf.toNat;omega
  .have rB:=of_decide_eq_false c;have:lf=0:=()
   subst this;rw[Ee,oE]at ec;rw[ec]at cw;exact cw _ _ (cI,mf,(mG,ox,Bo,g8),_,_,_,_,rfl)
 intro nW cG (jg,fC,(avd,arO,ajQ,jD),iX,kD,fP,kS,rfl);have abw:hX (λb=>b=o.cb\/b=o.aL d.name) H1 cG:=λb u U bF=>by
  have bG:=q6 b u U bF;exact jg b u (λz=>by
   rcases z with z|z
   .exact U (.inr z)
   .rw [z,cV]at bG;cases bG) (s4 _ _ bG)
 subst aW;nofun;refine q wp arO cG abw fC ?_ jD (eT.Yh ae (jg _ _ (λz=>by
  rcases z with z|z
  .exact mJ z.symm
  .exact JB z.symm) (s4 _ _ abG)) ajQ abw)
 cases z:H1 wp with
 |none=>rfl
 |some u=>
  have:=qL JB z;rw[cV]at this;cases this
section
variable(P:Program)(w:World)
def TV(t:bO):bW:=λvs H Q _=>∃bU r ak aZ c n ds rows mQ,vs=[⇑r,⇑aZ]/\H r\(.ins t.f3 ak [])/\hs P w t bU aZ c n ds rows/\aS bU H/\bU r=none/\rows[0]?\mQ/\(el ds mQ=e'\/el ds mQ=lR)/\aI H/\∀o H',c0 r H H'->aI H'->(∀b,Own (ds.map (·.name)) r o b->b≠r->H b=none)->o.aZ=aZ->o.c=c->f5 t (ds.map (·.name)) H' r o (BC ds mQ) (0,λ_=>0,λ_=>[])->Q .b5 H'
def Ev(t:bO):bW:=λvs H Q _=>∃ns r o s v n ds rows,vs=[⇑r]/\f5 t ns H r o s v/\hs P w t H o.aZ o.c n ds rows/\(∀d∈ds,told rows d.name=true)/\GB rows s/\aI H/\∀p H',aS H H'->aI H'->H p=none->H' p\(.aY (hn ds (hy n ds rows s)))->Q ⇑p H'
end
def aby(t:bO):bW:=λvs H Q _=>∃ns r o s v,vs=[⇑r]/\f5 t ns H r o s v/\↑ns<=12/\∀p H',aS H H'->(aI H->aI H')->H p=none->H' p\(.aY (dR ns λx=>.int (v.st x)))->Q ⇑p H'
def Sx:cD P base T 5 t.BG t.FD ["self"] (Ev P w t):=by
 refine cK (W2 T) λJY=>?_;exists T.R4.ok ZB,9
 let(ns,r,o,s',v,n,ds,rows,rfl,eT,dU,c4,az,bH,q):=h;have bp:=gI ao;let(ak,e):=eT.at_;let(_,jB,bS,_,_):=id eT.bM;refine(_,(a4 (cA (g0 (bA (J 0) rfl) T.ac T.Ye JY ao T.ZK .nil cv))),?_);nofun;exact(_,RO T e,_,rfl,_,_,bS,oa _ _ _ _ _ _ _ _ ∅,o.k,o.aZ,o.aF,o.a8,s',o.c,n,ds,rows,rfl,eT.bM,dU,c4,az,bH,λp H' bo nm ag j_=>q p H' bo nm ag j_)
def Sv:cD P base T 1 t.AS t.Dc ["self"] (aby t):=by
 exists T.Y2.ok anR,9
 let(ns,r,o,s',v,rfl,eT,Bu,q):=h;have bp:=gI ao;let(ak,e):=eT.at_;refine(_,(a4 (cA (k8 F4 rfl T.P8 Kp (ah (bA (J 0) rfl) aB)))),?_);nofun;exact(_,xS T e,_,rfl,_,eT.cb,λp ag=>q p _ (bk ag) (λn=>n.upd) ag aM)
theorem aeM:cD P base T 3 t.Bp t.Et qZ (TV P w t):=by
 have as0:cz P w K mg base dy 1 t.Bg t.Ci qZ (T3 P w t):=aga T;have lM:cz P w K mg base dy 2 t.tO t.ad ["self"] (EP t):=(vg T).mono ∅;exists T.WO.ok Sj,9
 let(bU,r,ak,aZ,c,n,ds,rows,mQ,rfl,wA,dU,s0,Rh,h0,n3,bH,q):=h;let(kH,le,mo,dA,cI,aX,ch,ms,kvs,aq,C,bG,eM,gk,ez,fE,k',lE):=id dU;have bp:=gI ao;refine(_,(aP (e6 (J 0) (bA (J 1) rfl) rfl)
   (aP (e6 (J 0) (s7 T.abT as0 ao rfl T.afA T.aiw .nil cv (ah (J 1) aB)) rfl)
   (aP (e6 (J 0) aK rfl)
   (aP (e6 (J 0) sf rfl)
   (aP (e6 (J 0) sf rfl)
   (a4 (fh fK rfl (eQ (g0 (bA (J 0) rfl) T.gH T.rU lM ao T.rI .nil cv)) (cy (i:=2) Sj.aD) (aP (mW bp (bA (J 0) rfl) (J 2) aK rfl)
   (a4 (mW bp (bA (J 0) rfl) (J 2) (f_ aB) rfl)))))))))),?_)
 exists (λav H'=>c0 r H H'/\aI H'/\H' r\(.ins t.f3 ak [(p'p (ab "crossing") (V.ref c))])/\av=[~~~r,~~~aZ,none]),5
 .nofun;refine(_,F5 T (s0 _ _ aq),?_);refine(_,_,_,wA,T.iw,T.Vr,((∅:(0:Nat)<1000)),?_);rw[show c_ (ab "crossing") (V.ref c) ([]:List (Str×V))=[(p'p (ab "crossing") (V.ref c))]from gf [] rfl ∅];exact cC _ _ (λb u U e=>by rw[ax U];exact e,bH.upd,aM,rfl)
 intro fO H1 (c2,b8,a1,rfl);subst aW;exists (λav H'=>c0 r H H'/\aI H'/\∃k aF a8,H k=none/\H aF=none/\H a8=none/\k≠r/\H' r\(.ins t.f3 ak [(p'p (ab "crossing") (V.ref c)),(p'p (ab "keeper") (V.ref k))])/\ft t H' k aZ aF a8 (BC ds mQ)/\av=[~~~r,~~~aZ,none]),5
 .nofun;intro k jB az uD adU;have lA:k≠r:=λz=>by rw[z,a1]at az;cases az
  have Hh:∀{b:Addr},b≠r->H1 b=none->H b=none:=λ{b} U e=>by
   cases z:H b with
   |none=>rfl
   |some u=>have:=c2 _ _ U z;rw[e]at this;cases this
  have bo:aS H1 (upd (upd H1 jB (.own k)) k (.ins t.dE jB [])):=(bk uD).trans (bk (by rw[ax (cT adU)];exact az));have PE:aS bU H1:=λb u e=>c2 _ _ (du e Rh) (s0 _ _ e)
  refine(k,jB,aZ,c,n,ds,rows,mQ,rfl,aM,dU.same (PE.trans bo),h0,n3,b8.upd.upd,λaF a8 ar eU b' qy ow hi=>(rfl,_,_,_,eU _ _ (cT lA) (bo _ _ a1),T.iw,T.Vw,((∅:(1:Nat)<1000)),?_));rw[show c_ (ab "keeper") (V.ref k) ([(p'p (ab "crossing") (V.ref c))]:List (Str×V))=[(p'p (ab "crossing") (V.ref c)),(p'p (ab "keeper") (V.ref k))]from gf [ab "crossing"] rfl ∅];have r5:=eU _ _ (cT lA) (bo _ _ a1);let(gj,ew,uy,Cm,Hl):=hi;have ux:aF≠r:=λz=>by rw[z,r5]at Cm;cases Cm
  have rg:a8≠r:=λz=>by rw[z,r5]at Hl;cases Hl
  exact cC _ _ (λb u U e=>by rw[ax U];exact eU _ _ (λz=>by rw[z]at e;rw[Hh lA az]at e;cases e) (bo _ _ (c2 _ _ U e)),b'.upd,k,aF,a8,Hh lA az,Hh ux (bo.free qy),Hh rg (bo.free ow),lA,aM,(gj,ew,by rw[ax lA];exact uy,by rw[ax ux];exact Cm,by rw[ax rg];exact Hl),rfl)
 intro cO ar (eU,b',k,aF,a8,jR,hF,gv,lA,a2,Co,rfl);subst aW;exists (λav H'=>c0 r ar H'/\aI H'/\H' r\(.ins t.f3 ak [(p'p (ab "crossing") (V.ref c)),(p'p (ab "keeper") (V.ref k)),(p'p (ab "turn") (V.int 0))])/\av=[~~~r,~~~aZ,none]),5
 .nofun;refine(_,_,_,a2,T.iw,T.Qs,((∅:(2:Nat)<1000)),?_);rw[show c_ (ab "turn") (V.int 0) ([(p'p (ab "crossing") (V.ref c)),(p'p (ab "keeper") (V.ref k))]:List (Str×V))=[(p'p (ab "crossing") (V.ref c)),(p'p (ab "keeper") (V.ref k)),(p'p (ab "turn") (V.int 0))]from gf [ab "crossing",ab "keeper"] rfl ∅];exact cC _ _ (λb u U e=>by rw[ax U];exact e,b'.upd,aM,rfl)
 intro fR ba (fs,c7,fo,rfl);subst aW;exists (λav H'=>c0 r ba H'/\aI H'/\∃cb,ba cb=none/\H' cb\(.aY [])/\H' r\(.ins t.f3 ak [(p'p (ab "crossing") (V.ref c)),(p'p (ab "keeper") (V.ref k)),(p'p (ab "turn") (V.int 0)),(p'p (ab "standing") (V.ref cb))])/\av=[~~~r,~~~aZ,none]),5
 .nofun;intro cb oY;have q_:cb≠r:=λz=>by rw[z,fo]at oY;cases oY
  refine(_,_,_,(bk oY) _ _ fo,T.iw,T.Un,((∅:(3:Nat)<1000)),?_);rw[show c_ (ab "standing") (V.ref cb) ([(p'p (ab "crossing") (V.ref c)),(p'p (ab "keeper") (V.ref k)),(p'p (ab "turn") (V.int 0))]:List (Str×V))=[(p'p (ab "crossing") (V.ref c)),(p'p (ab "keeper") (V.ref k)),(p'p (ab "turn") (V.int 0)),(p'p (ab "standing") (V.ref cb))]from gf [ab "crossing",ab "keeper",ab "turn"] rfl ∅];exact cC _ _ (λb u U e=>by rw[ax U];exact(bk oY) _ _ e,c7.upd.upd,cb,oY,by rw[ax q_];exact aM,aM,rfl)
 intro km cm (dq,dh,cb,oY,pB,m8,rfl);subst aW;exists (λav H'=>c0 r cm H'/\aI H'/\∃ld,cm ld=none/\H' ld\(.aY [])/\H' r\(.ins t.f3 ak (mn c k 0 cb ld))/\av=[~~~r,~~~aZ,none]),5
 .nofun;intro ld kZ;have ua:ld≠r:=λz=>by rw[z,m8]at kZ;cases kZ
  refine(_,_,_,(bk kZ) _ _ m8,T.iw,T.abr,((∅:(4:Nat)<1000)),?_);rw[show c_ (ab "lots") (V.ref ld) ([(p'p (ab "crossing") (V.ref c)),(p'p (ab "keeper") (V.ref k)),(p'p (ab "turn") (V.int 0)),(p'p (ab "standing") (V.ref cb))]:List (Str×V))=mn c k 0 cb ld from gf [ab "crossing",ab "keeper",ab "turn",ab "standing"] rfl ∅];exact cC _ _ (λb u U e=>by rw[ax U];exact(bk kZ) _ _ e,dh.upd.upd,ld,kZ,by rw[ax ua];exact aM,aM,rfl)
 intro nW cG (eh,fC,ld,kZ,r_,p6,rfl);have q_:cb≠r:=λz=>by rw[z,m8]at pB;cases pB
 have jU:cb≠ld:=λz=>by rw[z,kZ]at pB;cases pB
 have s5:=eh _ _ q_ pB;have Iu:c0 r H cG:=λb u U e=>eh _ _ U (dq _ _ U (fs _ _ U (eU _ _ U e)))
 have HV:c0 r ar cG:=λb u U e=>eh _ _ U (dq _ _ U (fs _ _ U e))
 let(cV,jB,bS,cY,da):=id Co;have ux:aF≠r:=λz=>by rw[z,a2]at cY;cases cY
 have rg:a8≠r:=λz=>by rw[z,a2]at da;cases da
 have xi:ft t cG k aZ aF a8 (BC ds mQ):=(cV,jB,HV _ _ lA bS,HV _ _ ux cY,HV _ _ rg da);have free:∀{b:Addr},b≠r->cG b=none->H b=none:=λ{b} U e=>by
  cases z:H b with
  |none=>rfl
  |some u=>have:=Iu _ _ U z;rw[e]at this;cases this
 have xY:fz t cG c n ds:=C.same (λb u e=>Iu _ _ (du e Rh) (s0 _ _ e));let((eL,e3),vU,wl,aD,ck,_,_):=id xY;have Zu:H cb=none:=by
  cases z:H cb with
  |none=>rfl
  |some u=>have:=fs _ _ q_ (eU _ _ q_ z);rw[oY]at this;cases this
 have ua:ld≠r:=λz=>by rw[z,p6]at r_;cases r_
 have Rp:H ld=none:=by
  cases z:H ld with
  |none=>rfl
  |some u=>have:=dq _ _ ua (fs _ _ ua (eU _ _ ua z));rw[kZ]at this;cases this
 have Gv:cb≠aF:=λz=>by have:=fs _ _ ux cY;rw[<- z,oY]at this;cases this
 have lZ:cb≠a8:=λz=>by have:=fs _ _ rg da;rw[<- z,oY]at this;cases this
 have Ug:ld≠aF:=λz=>by have:=dq _ _ ux (fs _ _ ux cY);rw[<- z,kZ]at this;cases this
 have aad:ld≠a8:=λz=>by have:=dq _ _ rg (fs _ _ rg da);rw[<- z,kZ]at this;cases this
 subst aW;nofun;refine(_,vQ T p6,_,rfl,_,_,ck,iU _ _ _ ∅,c,n,ds,rfl,xY,λdv h8=>(_,rfl,(_,aE.of aM),?_));have f9:=bk (o:=.lst (a5 (ds.map (·.name)))) h8;have hB:aI (upd cG dv (.lst (a5 (ds.map (·.name))))):=fC.upd;have ND:upd cG dv (.lst (a5 (ds.map (·.name)))) dv\(.lst (a5 (ds.map (·.name)))):=aM;generalize upd cG dv (.lst (a5 (ds.map (·.name))))=fl at *;have mK:=f9 _ _ p6;refine ey.list (xs:=a5 (ds.map (·.name))) (λi σ H'=>(∀b u,b≠cb->b≠ld->fl b\u->H' b\u)/\aI H'/\(∃aL:Str->Addr,H' cb\(.aY (dR ((ds.map (·.name)).take i) λ_=>.int 0))/\H' ld\(.aY (dR ((ds.map (·.name)).take i) λx=>⇑(aL x)))/\(∀x∈(ds.map (·.name)).take i,fl (aL x)=none/\H' (aL x)\(.lst []))/\∀x∈(ds.map (·.name)).take i,∀y∈(ds.map (·.name)).take i,aL x=aL y->x=y)/\∃y,σ=[~~~r,~~~aZ,y]) ?_ ?_ ?_ ?_
 .exact (λb u _ _ e=>e,hB,(λ_=>0,f9 _ _ s5,f9 _ _ r_,(λx h=>by simp at h),(λx h=>by simp at h)),_,rfl)
 .intro i σ H' ai (kQ,_);exact aE.of (kQ _ _ (bI ND (f9 _ _ s5) (by intro z;cases z)) (bI ND (f9 _ _ r_) (by intro z;cases z)) ND)
 .rintro i OH σ H' tP bl;ac_rfl
  let(kQ,jA,(aL,eN,eP,nU,pw),y,rfl):=bl;subst aW;unfold a5 at tP;let(x,ae,rfl):=b_ tP;have n_:x∉(ds.map (·.name)).take i:=λz=>by
   let(j,aN):=iH z;have zl:j<i:=by
    have:=(b3.mp aN).1;rw[hb]at this;omega
   rw[r7 zl]at aN;let(d1,dY):=b3.mp aN;let(bT,cX):=b3.mp ae;have:=(sP (h₀:=d1) (h₁:=bT) eL).mp (dY.trans cX.symm);omega
  have cc:∀{y:Str},y∈(ds.map (·.name)).take i->y≠x:=λ{y} aJ z=>n_ (z ▸ aJ)
  have h1:↑((ds.map (·.name)).take i)<=12:=by rw[hb,aO];omega
  have nK:=kQ _ _ (λz=>by rw[z,f9 _ _ s5]at mK;cases mK) (λz=>by rw[z,f9 _ _ r_]at mK;cases mK) mK;rw[ip ae];simp only[gz,dd,jM,jF];have d1:d0 (dR ((ds.map (·.name)).take i) λ_=>V.int 0) (bx x) (V.int 0)=dR ((ds.map (·.name)).take i++[x]) λ_=>V.int 0:=N' (f:=λ_=>V.int 0) n_
  nofun;refine(_,xS T nK,_,rfl,_,h6.k (k:=bx x) eN (by unfold dR;rw[aO];exact fW h1 ∅),e0 _,λp ag=>?_);rw[d1]at ag⊢;have iO:∀{b:Addr} {u:dJ},b≠cb->H' b\u->upd H' cb (.aY (dR ((ds.map (·.name)).take i++[x]) λ_=>V.int 0)) b=some u:=λ{b u} U e=>by rw[ax U];exact e
  have Z2:upd H' cb (.aY (dR ((ds.map (·.name)).take i++[x]) λ_=>V.int 0)) cb=some (.aY (dR ((ds.map (·.name)).take i++[x]) λ_=>V.int 0)):=aM;have rb:aI (upd H' cb (.aY (dR ((ds.map (·.name)).take i++[x]) λ_=>V.int 0))):=jA.upd;generalize upd H' cb (.aY (dR ((ds.map (·.name)).take i++[x]) λ_=>V.int 0))=gO at *;have np:∀{b:Addr} {u:dJ},gO b\u->b≠p:=λ{b u} e z=>by rw[z,ag]at e;cases e
  have C1:=iO (cT jU) eP;have dY:d0 (dR ((ds.map (·.name)).take i) λy=>V.ref (aL y)) (bx x) (V.ref p)=dR ((ds.map (·.name)).take i++[x]) λy=>V.ref (cH aL x p y):=by
   have eq:(dR ((ds.map (·.name)).take i) λy=>V.ref (aL y))=dR ((ds.map (·.name)).take i) λy=>V.ref (cH aL x p y):=by
    unfold dR;exact Dy λy aJ=>by
     show(p'p (bx y:Key) (V.ref (aL y)))=(p'p (bx y) (V.ref (cH aL x p y)));rw[d_ (cc aJ)]
   have:=N' (f:=λy=>V.ref (cH aL x p y)) n_;rw[eq];rw[show(V.ref (cH aL x p x))=V.ref p by rw[eC]]at this;exact this
  have cE:p≠ld:=λz=>np C1 z.symm
  have qP:p≠cb:=λz=>np Z2 z.symm
  have Mr:fl p=none:=by
   cases z:fl p with
   |none=>rfl
   |some u=>have:=iO qP (kQ _ _ qP cE z);rw[ag]at this;cases this
  have fin:∀{b:Addr} {u fk qU:dJ},b≠ld->gO b\u->upd (upd gO p fk) ld qU b\u:=λ{b u fk qU} af e=>by rw[ax af,ax (np e)];exact e
  refine(_,Nz T (bk ag _ _ (iO (cT q_) nK)),_,rfl,_,h6.k (k:=bx x) (bk ag _ _ C1) (by unfold dR;rw[aO];exact fW h1 ∅),λb u af aj e=>fin aj (iO af (kQ _ _ af aj e)),rb.upd.upd,fin jU Z2,(cH aL x p,by rw[aM,dY],λy aJ=>?_,λy aJ z aH e=>?_),_,rfl)
  .rcases ff.mp aJ with m|m
   .rw [d_ (cc m)];let(f1,f2):=nU y m;exact(f1,fin (bI f2 eP (by intro z;cases z)) (iO (bI f2 eN (by intro z;cases z)) f2))
   .rw [eg.mp m,eC];exact(Mr,by rw[ax cE];exact aM)
  .have old:∀y∈(ds.map (·.name)).take i,aL y≠p:=λy aJ=>np (iO (bI (nU y aJ).2 eN (by intro z;cases z)) (nU y aJ).2)
   rcases ff.mp aJ with m|m <;> rcases ff.mp aH with c3|c3
   .rw [d_ (cc m),d_ (cc c3)]at e;exact pw y m z c3 e
   .rw [d_ (cc m),eg.mp c3,eC]at e;exact absurd e (old y m)
   .rw [d_ (cc c3),eg.mp m,eC]at e;exact absurd e.symm (old z c3)
   .rw [eg.mp m,eg.mp c3]
 .rintro σ H' bl;ac_rfl
  let(kQ,jA,(aL,eN,eP,nU,pw),y,rfl):=bl;subst aW;rw[lc,hE]at eN eP nU pw;have C4:∀{b:Addr} {u:dJ},b≠cb->b≠ld->cG b\u->H' b\u:=λ{b u} af aj e=>kQ _ _ af aj (f9 _ _ e)
  have Xe:∀x∈ds.map (·.name),cG (aL x)=none:=λx ae=>f9.free (nU x ae).1
  have Iz:r≠cb:=cT q_;let(_,JM,adI,acv,aja):=id xi;have knd:∀{b:Addr} {u:dJ},cG b\u->(∀kvs,u≠.aY kvs)->H' b\u:=λ{b u} e af=>C4 (λz=>by rw[z,s5]at e;exact af _ (dZ e).symm) (λz=>by rw[z,r_]at e;exact af _ (dZ e).symm) e
  nofun;refine q (c,k,aZ,aF,a8,cb,ld,aL) H' (λb u U e=>?_) jA (λb U OX=>?_) rfl rfl ((ak,knd p6 (λ_ z=>by cases z)),(cV,JM,knd adI (λ_ z=>by cases z),C4 (cT Gv) (cT Ug) acv,C4 (cT lZ) (cT aad) aja),eN,eP,λx ae=>([],(nU x ae).2,rfl,λi q y h=>(by simp at h)),jU,Gv,lZ,Ug,aad,cT lA,pw)
  .exact C4 (du e Zu) (du e Rp) (Iu _ _ U e)
  .rcases U with z|z|z|z|z|z|⟨x,ae,z⟩
   .exact absurd z OX
   .rw [z];exact jR
   .rw [z];exact hF
   .rw [z];exact gv
   .rw [z];exact Zu
   .rw [z];exact Rp
   .rw [z]at OX⊢;exact free OX (Xe x ae)
noncomputable def stC(st:Str->Int)(a_:List (Str×Int)):Str->Int:=a_.foldl (λst p=>cH st p.1 (st p.1+p.2)) st
noncomputable def qQ(st:Str->Int)(ws:List (Str×Int×Int)):Str->Int:=ws.foldl (λst p=>cH st p.1 (st p.1-p.2.2)) st
def agH(st:Str->Int)(a_:List (Str×Int))(p:Str×Int):stC st (a_++[p])=cH (stC st a_) p.1 (stC st a_ p.1+p.2):=by unfold stC;rw[q4];rfl
def akH(st:Str->Int)(a b:List (Str×Int×Int)):qQ st (a++b)=qQ (qQ st a) b:=by unfold qQ;rw[q4]
theorem TL{x:Str}:∀(ls:List (Int×Int)) (st:Str->Int),qQ st (ls.map λy=>(p'p x y))=cH st x (st x-ed ls)
 |[],st=>by
  funext y;show st y=cH st x (st x-ed []) y;unfold cH;rw[ed];split
  .rename_i e;rw[e];omega
  .rfl
 |p::ls,st=>by
  rw[e1];show qQ (cH st x (st x-p.2)) (ls.map λy=>(p'p x y))=_;rw[TL ls,eC];funext y;unfold cH;rw[ed];split
  .omega
  .rfl
structure zi(ns:List Str)(bY:Int)(v:ix):Prop where
 pos:∀x∈ns,∀p∈v.lo x,0<p.2
 sum:∀x∈ns,ed (v.lo x)=v.st x
 len:∀x∈ns,(↑(v.lo x):Int)<=bY
structure l5(ns:List Str)(v:ix)(done:List Str):Prop where
 pos:∀x∈ns,∀p∈v.lo x,0<p.2
 sum:∀x∈ns,ed (v.lo x)=v.st x
 len:∀x∈ns,(↑(v.lo x):Int)<=v.bY+1/\(x∉done->(↑(v.lo x):Int)<=v.bY)
def l5.zero{ns:List Str}(h:zi ns v.bY v):l5 ns v []:=(h.pos,h.sum,λx ae=>(by have:=h.len x ae;omega,λ_=>h.len x ae))
def l5.abJ {ns:List Str} {done:List Str} (h:l5 ns v done) {x:Str} (ae:x∉done):l5 ns (kR v x m) (done++[x]):=by
 unfold kR;split
 .rename_i hm;refine(λy aJ p ag=>?_,λy aJ=>?_,λy aJ=>?_)
  .by_cases c:y=x
   .subst c;have ag:p∈cH v.lo y (v.lo y++[(p'p v.bY m)]) y:=ag;rw[eC]at ag;rcases ff.mp ag with z|z
    .exact h.pos y aJ p z
    .rw [eg.mp z];exact hm
   .have ag:p∈cH v.lo x (v.lo x++[(p'p v.bY m)]) y:=ag;rw[d_ c]at ag;exact h.pos y aJ p ag
  .by_cases c:y=x
   .subst c;show ed (cH v.lo y (v.lo y++[(p'p v.bY m)]) y)=cH v.st y (v.st y+m) y;rw[eC,eC,QJ,h.sum y aJ];show v.st y+(m+0)=_;omega
   .show ed (cH v.lo x (v.lo x++[(p'p v.bY m)]) y)=cH v.st x (v.st x+m) y;rw[d_ c,d_ c];exact h.sum y aJ
  .by_cases c:y=x
   .subst c;show(↑(cH v.lo y (v.lo y++[(p'p v.bY m)]) y):Int)<=v.bY+1/\_;rw[eC,dx,qf];have:=(h.len y aJ).2 ae;exact((),λz=>absurd (l3 _ (eg.mpr rfl)) z)
   .show (↑(cH v.lo x (v.lo x++[(p'p v.bY m)]) y):Int)<=v.bY+1/\(y∉done++[x]->(↑(cH v.lo x (v.lo x++[(p'p v.bY m)]) y):Int)<=v.bY);rw[d_ c];exact((h.len y aJ).1,λz=>(h.len y aJ).2 λu=>z (xu _ u))
 .exact (h.pos,h.sum,λy aJ=>((h.len y aJ).1,λz=>(h.len y aJ).2 λu=>z (xu _ u)))
def agu{x:Str}(hm:0<=m):(kR v x m).st=cH v.st x (v.st x+m):=by
 unfold kR;split
 .rfl
 .funext y;unfold cH;split
  .rename_i e;rw[e];omega
  .rfl
def Tg(v:ix)(x:Str)(m:Int):(kR v x m).bY=v.bY:=by unfold kR;split <;> rfl
def l5.go{ns:List Str}{done:List Str}(h:l5 ns v done){x:Str}(ae:x∈ns){left:Int}(h0:0<=left)(af:left<=v.st x):l5 ns (vC v x left) done:=by
 let(a,b,c,d,e,f):=vq (v.lo x) left (h.pos x ae) h0 (by rw[h.sum x ae];exact af);refine(λy aJ p ag=>?_,λy aJ=>?_,λy aJ=>?_)
 .by_cases cP:y=x
  .subst cP;have ag:p∈cH v.lo y (er left (v.lo y)).2 y:=ag;rw[eC]at ag;exact d p ag
  .have ag:p∈cH v.lo x (er left (v.lo x)).2 y:=ag;rw[d_ cP]at ag;exact h.pos y aJ p ag
 .by_cases cP:y=x
  .subst cP;show ed (cH v.lo y (er left (v.lo y)).2 y)=cH v.st y (v.st y-left) y;rw[eC,eC,b,h.sum y aJ]
  .show ed (cH v.lo x (er left (v.lo x)).2 y)=cH v.st x (v.st x-left) y;rw[d_ cP,d_ cP];exact h.sum y aJ
 .by_cases cP:y=x
  .subst cP;show(↑(cH v.lo y (er left (v.lo y)).2 y):Int)<=v.bY+1/\(y∉done->(↑(cH v.lo y (er left (v.lo y)).2 y):Int)<=v.bY);rw[eC];let(cF,cB):=h.len y aJ;exact((),λz=>by have:=cB z;omega)
  .show (↑(cH v.lo x (er left (v.lo x)).2 y):Int)<=v.bY+1/\(y∉done->(↑(cH v.lo x (er left (v.lo x)).2 y):Int)<=v.bY);rw[d_ cP];exact h.len y aJ
noncomputable def dz(a_:List (Str×Int)):List (Key×V):=a_.map λp=>(p'p (bx p.1) (V.int p.2))
theorem adX(aD:(a_.map (·.1)).Nodup){p:Str×Int}(h:p∈a_):c5 (dz a_) (bx p.1)\(.int p.2):=by
 induction a_ with
 |nil=>cases h
 | cons y ys cp=>
  rw[e1,qp]at aD;rcases e_.mp h with e|e
  .subst e;simp[dz,c5]
  .have c:¬y.1=p.1:=λz=>aD.1 (z ▸ cj.mpr (p,e,rfl))
   have:=cp aD.2 e;simp only[dz,c5,e1,oL]at this⊢;simp[c]at this⊢;exact this
def ja(H:au)(p:Addr)(qs:List Addr)(ws:List (Str×Int×Int)):Prop:=H p\(.lst (qs.map V.ref))/\↑qs=↑ws/\∀(i:Nat) (q:Addr) (y:Str×Int×Int),qs[i]?\q->ws[i]?\y->H q\(.tup [.str y.1,.int y.2.1,.int y.2.2])
def aq2{p b:Addr}{x:Str}(h:ja H p qs ws)(g:sl H b x ox ls)(aq:H' p\(.lst (qs.map V.ref++ox.map V.ref)))(bG:∀b xs,H b\(.tup xs)->H' b\(.tup xs)):ja H' p (qs++ox) (ws++ls.map λy=>(p'p x y)):=by
 refine(by rw[aq,fg],by rw[dx,dx,aO,h.2.1,g.2.1],λi q y ay aJ=>?_);by_cases ck:i<↑qs
 .rw [nD ck]at ay;rw[nD (by rw[<- h.2.1];exact ck)]at aJ;exact bG _ _ (h.2.2 i q y ay aJ)
 .rw [nj ()]at ay;rw[nj (by rw[<- h.2.1];omega),<- h.2.1]at aJ;let(z,aH,rfl):=b_ aJ;exact bG _ _ (g.2.2 _ q z ay aH)
noncomputable def jo(v:ix)(a_:List (Str×Int)):ix:=a_.foldl (λv p=>kR v p.1 p.2) v
noncomputable def l8(fr:Str->Bool)(z:ix×List (Str×Int×Int))(d:bh):ix×List (Str×Int×Int):=if fr d.name=true then(p'p (vC z.1 d.name (ht d (z.1.st d.name))) (z.2++(er (ht d (z.1.st d.name)) (z.1.lo d.name)).1.map λy=>(p'p d.name y)))else z
noncomputable def lb(fr:Str->Bool)(ds:List bh)(v:ix):ix×List (Str×Int×Int):=ds.foldl (l8 fr) (p'p v [])
noncomputable def wP(ns:List Str)(st:Str->Int):List Str:=ns.filter λx=>decide (0<st x)
def WG(P:Program)(w:World)(K:bg)(t:bO)(Pt:Addr):bW:=λvs H Q _=>∃bU r o s v n ds rows ca a_,vs=[⇑r,⇑ca]/\f5 t (ds.map (·.name)) H r o s v/\hs P w t bU o.aZ o.c n ds rows/\aS bU H/\(∀b,Own (ds.map (·.name)) r o b->bU b=none)/\bU Pt=none/\sy ds rows/\kI ds rows s/\zi (ds.map (·.name)) v.bY v/\0<=v.bY/\v.bY<=100/\H ca\(.aY (dz a_))/\(a_.map (·.1)).Nodup/\(∀p∈a_,p.1∈ds.map (·.name)/\0<=p.2)/\¬Own (ds.map (·.name)) r o ca/\bU ca=none/\lu Pt H/\aI H /\
 ∀p qs ws s' gP H',yj n ds rows (v3 rows s (wP (ds.map (·.name)) (stC v.st a_))) ((wP (ds.map (·.name)) (stC v.st a_)).any (ig rows s)) s'->hX (λb=>Own (ds.map (·.name)) r o b\/b=Pt) H H'->aI H'->lu Pt H'->H p=none->ja H' p qs ws->(∀y∈ws,y.1∈ds.map (·.name))->↑ws<=2000->gP.bY=v.bY+1->gP.st=qQ (stC v.st a_) ws->lb (ig rows s) ds (jo v a_)=(p'p ({gP with bY:=v.bY}) ws)->zi (ds.map (·.name)) gP.bY gP->f5 t (ds.map (·.name)) H' r o s' gP->Q ⇑p H'
theorem ags(cu:pe base t.qA Pt)(hM:base.BuiltinsAt mg Pt):cD P base T 6 t.tY t.wk xP (WG P w K t Pt):=by
 refine cK (q' T) λjj=>cK (vg T) λlM=>cK (T2 T) λHP=>cK (Y4 T) λLQ=>cK (TZ T cu hM) λLa=>?_;exists T.Lv.ok nZ,9
 let(bU,r,o,s',v,n,ds,rows,ca,a_,rfl,eT,dU,s0,Dw,Z0,R,qt,sH,Ck,Hj,iP,ki,hY,u_,Qe,bZ,bH,q):=h;have bp:=gI ao;let(kH,le,mo,dA,cI,aX,ch,ms,kvs,aq,C,bG,eM,gk,ez,fE,k',lE):=id dU;let((eL,e3),vU,wl,aD,ck,_,_):=id C;have qz:↑a_<=12:=by
  have:=ki.length_le_of_subset (l₂:=ds.map (·.name)) λx ae=>by
   let(p,ag,rfl):=cj.mp ae;exact(hY p ag).1
  rw[aO,aO]at this;omega
 let(ak,e):=eT.at_;refine(_,(aP (xV (fh fK rfl (wN (J 1)) (cy (i:=2) nZ.aD) (a4 (dV (eO (bA (J 0) rfl) T.gH T.ni jj ao T.nv .nil cv (ah (J 2) aB))))))
   (aP (xV (fh fK rfl (wN (J 1)) (cy (i:=2) nZ.aD) (a4 (dV (eO (J 0) T.iw T.Wa HP ao T.X0 .nil cv (ah (J 2) (ah (iM bp (J 1) (J 2) (λ_ _=>rfl)) aB)))))))
   (aP (b9 (i:=3) nZ.aD (eO (bA (J 0) rfl) T.ac T.Q8 La ao T.R3 .nil cv (ah (h_ rfl (eQ (g0 (bA (J 0) rfl) T.gH T.rU lM ao T.rI .nil cv)) (Gc (sc:=bD (eG (top 44) 3)) rfl ∅) (N:=s6) (sel:=[none,some 0]) (g_ (M:=Iy) ∅) (fT.of (λ_ _ _ _=>(cy (i:=0) (eZ (N:=s6) ∅ rfl))) (λ_ _ _ _=>(_,(uj (dk oo (iM bp (bA (J 1) rfl) (J 0) (λ_ _=>rfl)) aK (cL _))),by walk_at "B")) (λ_ _ _ _=>(_,(J 0),by walk_at "B")))) aB)))
   (aP (b9 (i:=4) nZ.aD (f_ aB))
   (aP (fh fK rfl (eQ (g0 (bA (J 0) rfl) T.gH T.rU lM ao T.rI .nil cv)) (cy (i:=2) nZ.aD) (a4 (d5 (dk wf (iM bp (J 3) (J 2) (λ_ _=>rfl)) di (cL _)) (a4 (dV (gq hJ yG E5 Do (J 4) (ah (eO (J 0) T.iw T.ut LQ ao T.Ux .nil cv (ah (J 2) aB)) aB)))) eV)))
   (aP (Bs (J 0) aK xX)
   (a4 (cA (J 4))))))))),?_)
 have qv:∀{x:Str},x∈ds.map (·.name)->∃(j:Nat) (d:bh),ds[j]?\d/\d.name=x:=λ{x} h=>by
  let(d,hd,e):=cj.mp h;let(j,aN):=iH hd;exact(j,d,aN,e)
 have mP:↑(dz a_)=↑a_:=by unfold dz;rw[aO]
 exists (λav H'=>H'=H/\∃y,av=[~~~r,~~~ca,y,none,none]),3
 .nofun;refine(ca,_,iP,_,iP,λb0=>?_);have aiZ:upd (upd H ca (.dg b0 (.aY (dz a_)))) ca (.aY (dz a_))=H:=by
   funext b;by_cases c:b=ca
   .rw [c,aM,iP]
   .rw [ax c,ax c]
  have eb:∀{b:Addr} {u:dJ},b≠ca->H b\u->upd H ca (.dg b0 (.aY (dz a_))) b\u:=λ{b u} U e=>by rw[ax U];exact e
  have BH:aS bU (upd H ca (.dg b0 (.aY (dz a_)))):=λb u e=>eb (du e Qe) (s0 _ _ e)
  have k6:upd H ca (.dg b0 (.aY (dz a_))) ca\(.dg b0 (.aY (dz a_))):=aM;generalize upd H ca (.dg b0 (.aY (dz a_)))=wo at *;refine ey.of (n:=↑a_) (λi σ H'=>H'=wo/\∃y,σ=[~~~r,~~~ca,y,none,none]) (rfl,_,rfl) (λi σ H' ai h=>?_) (λσ H' h=>?_) ?_ ?_
  .rw [h.1];exact(k6,by rw[mP];exact ai)
  .rw [h.1];exact(k6,by rw[mP];exact b1 _)
  .intro i σ H' x ia ai (rfl,y,rfl) (rfl,k,ED,kN,rfl);unfold dz at kN;let(p,ag,ep):=b_ kN;cases ep;let(j,d,hd,g6):=qv (hY p (ct ag)).1;simp only[gz,jM,jF];nofun;refine(_,vQ T (eb (λz=>u_ (.inl z.symm)) e),_,rfl,_,_,BH _ _ ck,iU _ _ _ ∅,o.c,n,ds,j,d,by rw[g6];rfl,C.same BH,hd,λa W=>(rfl,_,rfl))
  .intro σ H' (rfl,y,rfl);refine(b0,k6,?_);rw[aiZ];exact cw _ _ (rfl,y,rfl)
 intro fO H1 (rfl,l_,rfl);subst aW;exists (λav H'=>hX (Own (ds.map (·.name)) r o) H1 H'/\aI H'/\(∃v1,f5 t (ds.map (·.name)) H' r o s' v1/\l5 (ds.map (·.name)) v1 (a_.map (·.1))/\v1.bY=v.bY/\v1.st=stC v.st a_/\v1=jo v a_)/\∃y,av=[~~~r,~~~ca,y,none,none]),3
 .nofun;refine(ca,_,iP,_,iP,λb0=>?_);have eb:∀{b:Addr} {u:dJ},b≠ca->H1 b\u->upd H1 ca (.dg b0 (.aY (dz a_))) b\u:=λ{b u} U e=>by rw[ax U];exact e
  have k6:upd H1 ca (.dg b0 (.aY (dz a_))) ca\(.dg b0 (.aY (dz a_))):=aM;have f6:aI (upd H1 ca (.dg b0 (.aY (dz a_)))):=bH.upd;generalize upd H1 ca (.dg b0 (.aY (dz a_)))=wo at *;have af1:f5 t (ds.map (·.name)) wo r o s' v:=eT.keep (λb u U e=>eb (λz=>u_ (by rw[<- z];exact U)) e) (λq xs e=>eb (λz=>by rw[z,iP]at e;cases e) e);refine ey.of (n:=↑a_) (λi σ H'=>hX (Own (ds.map (·.name)) r o) wo H'/\aI H'/\(∃v1,f5 t (ds.map (·.name)) H' r o s' v1/\l5 (ds.map (·.name)) v1 ((a_.take i).map (·.1))/\v1.bY=v.bY/\v1.st=stC v.st (a_.take i)/\v1=jo v (a_.take i))/\∃y,σ=[~~~r,~~~ca,y,none,none]) (λ_ _ _ e=>e,f6,(v,af1,l5.zero sH,rfl,rfl,rfl),_,rfl) (λi σ H' ai h=>?_) (λσ H' h=>?_) ?_ ?_
  .exact (h.1 _ _ u_ k6,by rw[mP];exact ai)
  .exact (h.1 _ _ u_ k6,by rw[mP];exact b1 _)
  .rintro i σ H' x ia ai ⟨xW,gE,⟨v1,vn,y9,P_,Hf,yg⟩,y,rfl⟩ ⟨rfl,k,ED,kN,rfl⟩;unfold dz at kN;obtain⟨p,ag,ep⟩:=b_ kN;cases ep;have ob:=ct ag;have aeP:p.1∉(a_.take i).map (·.1):=fun z=>by
    let(jW,j_,br):=cj.mp z;let(j,aN):=iH j_;have zl:j<i:=by
     have:=(b3.mp aN).1;rw[hb]at this;omega
    rw[r7 zl]at aN;let(d1,dY):=b3.mp aN;let(bT,cX):=b3.mp ag;have:=(sP (xs:=a_.map (·.1)) (i:=j) (j:=i) (h₀:=by rw[aO];exact d1) (h₁:=by rw[aO];exact bT) ki).mp (by rw[vy,vy,dY,cX,br]);omega
   let(Og,adq):=vn.at_;have ao7:fj ia ca (.str p.1) (some (.int p.2)):=.inl (dz a_,bx p.1,.inr (b0,xW _ _ u_ k6),rfl,(adX ki ob).symm);have hlen:=y9.len p.1 (hY p ob).1;simp only[gz,jM,jF];nofun;refine⟨_,_,adq,qe _ _ _ _ _ ∅,_,ao7,ds.map (·.name),r,o,s',v1,p.1,p.2,rfl,vn,(hY p ob).1,by rw[aO];exact e3,(),gE,λar q6 b' sh=>(xW.trans (q6.wide λb z=>?_),b',(_,sh,?_,by rw[Tg];exact P_,?_,?_),_,rfl)⟩
   .rcases z with z|z
    .exact .inr (.inr (.inr (.inr (.inl z))))
    .exact .inr (.inr (.inr (.inr (.inr (.inr (p.1,(hY p ob).1,z))))))
   .rw [ip ag,fg];exact y9.abJ aeP
   .rw [agu (hY p ob).2,ip ag,agH,Hf]
   .rw [ip ag,yg];unfold jo;rw[q4];rfl
  .rintro σ H' bl;ac_rfl
   let(xW,gE,(v1,vn,y9,P_,Hf,yg),y,rfl):=bl;subst aW;rw[hE]at y9 Hf yg;have R8:=xW _ _ u_ k6;refine(b0,R8,cw _ _ (λb u U bF=>?_,gE.upd,(v1,vn.keep (λb u U bF=>?_) (λq xs bF=>?_),y9,P_,Hf,yg),y,rfl))
   .by_cases c:b=ca
    .rw [c,aM];rw[c,iP]at bF;exact bF
    .rw [ax c];exact xW _ _ U (eb c bF)
   .rw [ax (λz=>u_ (by rw[<- z];exact U))];exact bF
   .rw [ax (λz=>by rw[z,R8]at bF;cases bF)];exact bF
 intro cO ar (q6,b',(v1,sh,agE,vE,QY,yg),iX,rfl);have Cx:aS bU ar:=λb u bF=>q6 _ _ (λz=>by rw[Dw b z]at bF;cases bF) (s0 _ _ bF)
 let(wu,aA):=sh.at_;let(auU,atr,asZ,au6,avb):=id sh.bM;have Eo:=C.same Cx;have aa_:¬Own (ds.map (·.name)) r o Pt:=by
  let(ps,e,cQ):=bZ;exact eT.off e (λ_ _ _ z=>by cases z) (λ_ z=>by cases z) (λ_ z=>by cases z)
 have sF:lu Pt ar:=by
  let(ps,e,cQ):=bZ;refine(ps,q6 _ _ aa_ e,?_);rcases cQ with cQ|⟨c',cQ,br⟩
  .exact .inl cQ
  .exact .inr (c',cQ,q6 _ _ (eT.off br (λ_ _ _ z=>by cases z) (λ_ z=>by cases z) (λ_ z=>by cases z)) br)
 have u3:∀{b:Addr},Own (ds.map (·.name)) r o b->bU b=none:=λ{b} U=>Dw b U
 subst aW;exists (λav H'=>hX (λb=>Own (ds.map (·.name)) r o b\/b=Pt) ar H'/\aI H'/\lu Pt H'/\(∃rT j3,yj n ds rows (v3 rows s' (wP (ds.map (·.name)) (stC v.st a_))) ((wP (ds.map (·.name)) (stC v.st a_)).any (ig rows s')) rT/\f5 t (ds.map (·.name)) H' r o rT v1/\ar j3=none/\H' j3\(.aY (hn ds (hy n ds rows s')))/\av=[~~~r,~~~ca,iX,~~~j3,none])),3
 .have bN:∀x∈ds.map (·.name),∀H',aS ar H'->fj H' o.cb (.str x) (some (.int (v1.st x))):=λx ae H' bo=>by
   have:=fj.k (k:=bx x) (bo _ _ sh.cb);rw[sQ ae]at this;exact this
  nofun;refine(_,RO T aA,_,rfl,_,_,asZ,oa _ _ _ _ _ _ _ _ ∅,_,vQ T aA,_,rfl,_,_,Cx _ _ ck,iU _ _ _ ∅,o.c,n,ds,rfl,Eo,λdv h8=>(_,rfl,(_,aE.of aM),?_));have q7:=bk (o:=.lst (a5 (ds.map (·.name)))) h8;have oz:upd ar dv (.lst (a5 (ds.map (·.name)))) dv\(.lst (a5 (ds.map (·.name)))):=aM;have O_:aI (upd ar dv (.lst (a5 (ds.map (·.name))))):=b'.upd;generalize upd ar dv (.lst (a5 (ds.map (·.name))))=ba at *;refine dB.yp (xs:=a5 (ds.map (·.name))) (ss:=(ds.map (·.name)).map λx=>if decide (0<stC v.st a_ x)=true then some (V.str x)else none) (aE.of oz) (by rw[lc,aO];exact c9 e3 ∅) (by rw[lc,aO]) (λi ED dw ys N aQ aX bw=>?_) (λl aG=>?_)
  .unfold a5 at aQ;let(x,ae,rfl):=b_ aQ;let(gm,eA,rfl):=b_ aX;rw[ae]at eA;cases eA;nofun;refine(Sub.name,_,xS T (q7 _ _ aA),_,rfl,_,bN x (ct ae) _ q7,_,rfl,?_);rw[QY];by_cases cZ:0<stC v.st a_ x
   .simp [cZ]at bw⊢;exact bw
   .simp [cZ]at bw⊢;exact bw
  .rw[At];have vf:=q7.trans (bk (o:=.lst (a5 ((ds.map (·.name)).filter λx=>decide (0<stC v.st a_ x)))) aG);refine⟨bU,o.k,o.aZ,o.aF,o.a8,s',o.c,n,ds,rows,l,wP (ds.map (·.name)) (stC v.st a_),rfl,sh.bM.same vf,dU,Cx.trans vf,u3 (.inr (.inl rfl)),u3 (.inr (.inr (.inl rfl))),u3 (.inr (.inr (.inr (.inl rfl)))),Z0,R,qt,aM,?_,λx ae=>(nu.mp ae).1,sF.step vf,O_.upd,λj3 rT cm t4 Y3 BO afy dh aop uY=>cw _ _ (λb u U bF=>?_,dh,aop,(rT,j3,t4,?_,vf.free BO,afy,rfl))⟩
   .refine c9 (y6 _ _) ?_;rw[aO];omega
   .have fv:¬Own (ds.map (·.name)) r o b:=λz=>U (.inl z)
    exact Y3 _ _ (λz=>fv (.inr (.inl z))) (λz=>fv (.inr (.inr (.inl z)))) (λz=>fv (.inr (.inr (.inr (.inl z))))) (λz=>U (.inr z)) (vf _ _ bF)
   .have jV:=sh.same vf;let(avh,jH,_):=sF.step vf;have Ac:∀{b:Addr} {u:dJ},b≠o.k->b≠o.aF->b≠o.a8->(∀ps,u≠.hz ps)->upd ba l (.lst (a5 ((ds.map (·.name)).filter λx=>decide (0<stC v.st a_ x)))) b=some u->cm b\u:=λ{b u} af aj bb dt bF=>Y3 _ _ af aj bb (λz=>by rw[z,jH]at bF;exact dt _ (dZ bF).symm) bF
    let(wy,eM):=jV.at_;let(_,aun,iJ,iQ,mY):=id jV.bM;refine((wy,Ac jV.hB (bI eM iQ (by intro z;cases z)) (bI eM mY (by intro z;cases z)) (λ_ z=>by cases z) eM),uY,Ac (bI jV.cb iJ (by intro z;cases z)) jV.b' jV.c7 (λ_ z=>by cases z) jV.cb,Ac (bI jV.ld iJ (by intro z;cases z)) jV.dh jV.fC (λ_ z=>by cases z) jV.ld,λx ae=>?_,jV.b8,jV.b',jV.c7,jV.dh,jV.fC,jV.hB,jV.inj);let(qs,L):=jV.tF x ae;exact(qs,L.keep (λu gA=>Ac (bI L.1 iJ (by intro z;cases z)) (bI L.1 iQ (by intro z;cases z)) (bI L.1 mY (by intro z;cases z)) (λps z=>by rw[L.1,z]at gA;cases gA) gA) (λq xs eq=>Ac (bI eq iJ (by intro z;cases z)) (bI eq iQ (by intro z;cases z)) (bI eq mY (by intro z;cases z)) (λps z=>by cases z) eq))
 intro fR ba (PC,c7,TJ,rT,j3,t4,uZ,aqQ,BO,rfl);have W_:aS bU ba:=λb u bF=>PC _ _ (λz=>by
  rcases z with z|z
  .rw [Dw b z]at bF;cases bF
  .rw [z,Z0]at bF;cases bF) (Cx _ _ bF)
 have aqv:¬Own (ds.map (·.name)) r o j3:=λz=>by
  let(u,gA,_):=sh.has z;rw[aqQ]at gA;cases gA
 subst aW;exists (λav H'=>aS ba H'/\aI H'/\∃wp,ba wp=none/\H' wp\(.lst [])/\av=[~~~r,~~~ca,iX,~~~j3,~~~wp]),3
 .nofun;exact(e0 _,λwp cV=>cw _ _ (bk cV,c7.upd,wp,cV,aM,rfl))
 intro km cm (s4,dh,wp,cV,gZ,rfl);have wpOwn:¬Own (ds.map (·.name)) r o wp:=λz=>by
  let(u,gA,_):=uZ.has z;rw[cV]at gA;cases gA
 have Lc:aS bU cm:=W_.trans s4;have I6:=uZ.same s4;let(wy,ada):=I6.at_;subst aW;exists (λav H'=>hX (λb=>Own (ds.map (·.name)) r o b\/b=wp) cm H'/\aI H'/\(∃v2 ws qs,f5 t (ds.map (·.name)) H' r o rT v2/\l5 (ds.map (·.name)) v2 (a_.map (·.1))/\v2.bY=v.bY/\v2.st=qQ (stC v.st a_) ws/\ja H' wp qs ws/\(∀y∈ws,y.1∈ds.map (·.name))/\↑ws<=2000/\lb (ig rows s') ds (jo v a_)=(p'p v2 ws))/\∃y,av=[~~~r,~~~ca,y,~~~j3,~~~wp]),3
 .nofun;refine(_,vQ T ada,_,rfl,_,_,Lc _ _ ck,iU _ _ _ ∅,o.c,n,ds,rfl,C.same Lc,λdv h8=>(_,rfl,(_,aE.of aM),?_));have q7:=bk (o:=.lst (a5 (ds.map (·.name)))) h8;have oz:upd cm dv (.lst (a5 (ds.map (·.name)))) dv\(.lst (a5 (ds.map (·.name)))):=aM;have O_:aI (upd cm dv (.lst (a5 (ds.map (·.name))))):=dh.upd;have ap3:¬Own (ds.map (·.name)) r o dv:=λz=>by
   let(u,gA,_):=I6.has z;rw[h8]at gA;cases gA
  have gT:dv≠wp:=λz=>by rw[z,gZ]at h8;cases h8
  have alP:j3≠wp:=λz=>by rw[z,cV]at BO;cases BO
  generalize upd cm dv (.lst (a5 (ds.map (·.name))))=cG at *;refine ey.list (xs:=a5 (ds.map (·.name))) (λi σ H'=>hX (λb=>Own (ds.map (·.name)) r o b\/b=wp) cG H'/\aI H'/\(∃v2 ws qs,f5 t (ds.map (·.name)) H' r o rT v2/\l5 (ds.map (·.name)) v2 (a_.map (·.1))/\v2.bY=v.bY/\v2.st=qQ (stC v.st a_) ws/\ja H' wp qs ws/\(∀y∈ws,y.1∈ds.map (·.name))/\↑ws<=101*i/\lb (ig rows s') (ds.take i) (jo v a_)=(p'p v2 ws))/\∃y,σ=[~~~r,~~~ca,y,~~~j3,~~~wp]) ?_ ?_ ?_ ?_
  .exact (λ_ _ _ e=>e,O_,(v1,[],[],I6.same q7,agE,vE,QY,(q7 _ _ gZ,rfl,λi q y h=>(by simp at h)),(λy h=>by cases h),e0 _,by rw[yg];rfl),_,rfl)
  .intro i σ H' ai (jg,_);exact aE.of (jg _ _ (λz=>by
    rcases z with z|z
    .exact ap3 z
    .exact gT z) oz)
  .rintro i OH σ H' tP bl;ac_rfl
   let(jg,fC,(v2,ws,qs,gD,lD,uk,xh,jD,yf,Hp,ie),y,rfl):=bl;subst aW;unfold a5 at tP;let(x,ae,rfl):=b_ tP;have c8:=ct ae;have h1:i<12:=by have:=(b3.mp ae).1;rw[aO]at this;omega
   let(d,hd,rfl):=b_ ae;have anC:H' j3\(.aY (hn ds (hy n ds rows s'))):=jg _ _ (λz=>by
    rcases z with z|z
    .exact aqv z
    .exact alP z) (q7 _ _ (s4 _ _ BO))
   have QU:=fj.k (k:=bx d.name) anC;rw[KF (f:=hy n ds rows s') eL hd]at QU;have ahO:aS bU H':=λb u bF=>jg _ _ (λz=>by
    rcases z with z|z
    .rw [Dw b z]at bF;cases bF
    .have:=W_ _ _ bF;rw[z,cV]at this;cases this) (q7 _ _ (Lc _ _ bF))
   simp only[gz,jM,jF];refine d8 (ig rows s' d.name) (λjc a9=>?_) (λU=>?_) (λU=>?_)
   .nofun;refine(_,QU,rfl,?_);rw[PF];exact a9
   .have Iw:0<=v2.st d.name:=by rw[<- lD.sum d.name c8];exact xH (lD.pos d.name c8)
    have bj:0<=ht d (v2.st d.name)/\ht d (v2.st d.name)<=v2.st d.name:=by
     unfold ht;split
     .omega
     .split <;> omega
    have rD:=(lD.len d.name c8).1;let(t1,_,_,_,atB,_):=vq (v2.lo d.name) (ht d (v2.st d.name)) (lD.pos d.name c8) bj.1 (by rw[lD.sum d.name c8];exact bj.2);let(Ea,oI):=gD.at_;nofun;refine(n2 (_,aE.of jD.1),_,_,oI,qe _ _ _ _ _ ∅,n,ds,r,o,rT,v2,i,d,rfl,gD,C.same ahO,hd,e3,(),lD.pos d.name c8,lD.sum d.name c8,fC,λp ox fl Md hB ag g8 z9=>?_);have uA:∀b,(b=o.cb\/b=o.aL d.name)->Own (ds.map (·.name)) r o b:=λb z=>by
     rcases z with z|z
     .exact .inr (.inr (.inr (.inr (.inl z))))
     .exact .inr (.inr (.inr (.inr (.inr (.inr (d.name,c8,z))))))
    have o8:=Md _ _ (λz=>wpOwn (uA _ z)) jD.1;have yn:ja fl wp qs ws:=(o8,jD.2.1,λi q y ay aJ=>by
     have:=jD.2.2 i q y ay aJ;exact Md _ _ (λz=>gD.off this (λ_ _ _ z=>by cases z) (λ_ z=>by cases z) (λ_ z=>by cases z) (uA _ z)) this)
    refine(p,rfl,_,o8,_,g8.1,?_,λb u U bF=>?_,hB.upd,(_,z9.keep (λb u U bF=>?_) (λq xs bF=>?_),lD.go c8 bj.1 bj.2,uk,_,?_,_,aq2 yn g8 aM (λb xs bF=>?_),λy aJ=>?_,?_,?_),_,rfl)
    .rw [aO,aO,jD.2.1,g8.2.1];exact c9 (show _<=5000 by omega) ∅
    .rw [ax (λz=>U (.inr z))];exact Md _ _ (λz=>U (.inl (uA _ z))) (jg _ _ U bF)
    .rw [ax (λz=>wpOwn (by rw[<- z];exact U))];exact bF
    .rw [ax (bI bF o8 (by intro z;cases z))];exact bF
    .rw [akH,<- xh,TL,t1];rfl
    .rw [ax (bI bF o8 (by intro z;cases z))];exact bF
    .rcases ff.mp aJ with z|z
     .exact yf y z
     .let(oy,_,rfl):=cj.mp z;exact c8
    .rw [dx,aO];omega
    .rw [ip hd];unfold lb at ie⊢;rw[q4,ie];show l8 (ig rows s') (p'p v2 ws) d=_;unfold l8;rw[if_pos U]
   .nofun;refine(jg,fC,(v2,gD,lD,uk,ws,xh,qs,jD,yf,(),?_),_,rfl);rw[ip hd];unfold lb at ie⊢;rw[q4,ie];show l8 (ig rows s') (p'p v2 ws) d=_;unfold l8;rw[if_neg (by rw[U];decide)]
  .rintro σ H' bl;ac_rfl
   let(jg,fC,(v2,ws,qs,gD,lD,uk,xh,jD,yf,Hp,ie),y,rfl):=bl;subst aW;rw[lc,aO]at Hp ie;rw[hE]at ie;exact cw _ _ (λb u U bF=>jg _ _ U (q7 _ _ bF),fC,(v2,ws,qs,gD,lD,uk,xh,jD,yf,(),ie),y,rfl)
 intro nW cG (jg,fC,(v2,ws,qs,gD,lD,uk,xh,jD,yf,Hp,ie),kD,rfl);let(Ea,oI):=gD.at_;let(_,JM,iJ,iQ,mY):=id gD.bM;have fin:∀{b:Addr} {u:dJ},¬Own (ds.map (·.name)) r o b->ba b\u->upd cG r (.ins t.f3 Ea (mn o.c o.k (v2.bY+1) o.cb o.ld)) b\u:=λ{b u} U bF=>by
  rw[ax (λz=>U (.inl z))];exact jg _ _ (λz=>by
   rcases z with z|z
   .exact U z
   .rw [z,cV]at bF;cases bF) (s4 _ _ bF)
 subst aW;nofun;refine(_,_,_,oI,T.iw,T.Qs,_,gb Os 2 (vK ..) ∅ rfl,_,rfl,_,_,oI,((∅:(5:Nat)<1000)),?_);rw[ael];have wr:wp≠r:=λz=>wpOwn (.inl z)
 have aaE:H1 wp=none:=by
  cases aH:H1 wp with
  |none=>rfl
  | some u=>
   have:=PC wp u (λz=>by
    rcases z with z|z
    .exact wpOwn z
    .let(ps,e,_):=TJ;rw[<- z,cV]at e;cases e) (q6 wp u wpOwn aH)
   rw[cV]at this;cases this
 refine q wp qs ws rT {v2 with bY:=v2.bY+1} _ t4 (λb u U bF=>fin (λz=>U (.inl z)) (PC _ _ U (q6 _ _ (λz=>U (.inl z)) bF))) fC.upd ?_ aaE (by rw[ax wr];exact jD.1,jD.2.1,λi q y ay aJ=>?_) yf Hp (by rw[uk]) xh (by rw[ie,<- uk]) (lD.pos,lD.sum,λx ae=>(lD.len x ae).1) ((Ea,aM),((gD.bM).1,JM,?_,?_,?_),?_,?_,λx ae=>?_,gD.b8,gD.b',gD.c7,gD.dh,gD.fC,gD.hB,gD.inj)
 .obtain⟨ps,e,cQ⟩:=TJ;refine⟨ps,fin aa_ e,?_⟩;rcases cQ with cQ|⟨c',cQ,br⟩
  .exact .inl cQ
  .exact .inr (c',cQ,fin (uZ.off br (λ_ _ _ z=>by cases z) (λ_ z=>by cases z) (λ_ z=>by cases z)) br)
 .have:=jD.2.2 i q y ay aJ;rw[ax (bI this oI (by intro z;cases z))];exact this
 .rw [ax (cT gD.hB)];exact iJ
 .rw [ax (bI iQ oI (by intro z;cases z))];exact iQ
 .rw [ax (bI mY oI (by intro z;cases z))];exact mY
 .rw [ax (bI gD.cb oI (by intro z;cases z))];exact gD.cb
 .rw [ax (bI gD.ld oI (by intro z;cases z))];exact gD.ld
 .let(mG,L):=gD.tF x ae;exact(mG,L.keep (λu gA=>by rw[ax (bI L.1 oI (by intro z;cases z))];exact gA) (λq xs eq=>by rw[ax (bI eq oI (by intro z;cases z))];exact eq))
def Y1(P:Program)(w:World)(K:bg)(t:bO):bW:=λvs H Q E=>∃bU r o s v n ds ca a_ i p,vs=[⇑r,⇑ca]/\f5 t (ds.map (·.name)) H r o s v/\fz t bU o.c n ds/\aS bU H/\bU ca=none/\H ca\(.aY (dz a_))/\(∀q∈a_,nQ q.1)/\a_[i]?\p/\(∀(j:Nat) (q:Str×Int),j<i->a_[j]?\q->q.1∈ds.map (·.name))/\qM ds p.1/\aI H/\ca≠r /\
 ∀ak H',(∀b u,b≠ca->H b\u->H' b\u)->aI H'->H' ak\(.ext (k4 ak [(ab "name",.str p.1)]))->E ⇑t.mz (some ak) H'
def amS(T:Txt w K mg t)(cu:pe base t.qA Pt)(hM:base.BuiltinsAt mg Pt):cz P w K mg base (mm P w) 6 t.tY t.wk xP (Y1 P w K t):=by
 have am1:cz P w K mg base (mm P w) 5 t.ub t.x_ gQ (Vg t):=(ajp T).mono ∅;have lM:cz P w K mg base dy 5 t.tO t.ad ["self"] (EP t):=(vg T).mono ∅;have HP:cz P w K mg base dy 5 t.Bx t.GL yS (RU t):=(T2 T).mono ∅;have LQ:cz P w K mg base dy 5 t.zG t.Ha gQ (Qy P w t):=(Y4 T).mono ∅;have La:cz P w K mg base dy 5 t.Ao t.CW G' (Sy P w K t Pt):=TZ T cu hM;exists T.Lv.Pf nZ,9
 let(bU,r,o,s',v,n,ds,ca,a_,rl,eX,rfl,eT,C,s0,Qe,iP,n1,gv,aiF,g7,bH,yL,q):=h;have bp:=gI ao;let((eL,e3),vU,wl,aD,ck,_,_):=id C;let(ak,e):=eT.at_;refine(_,(aP (xV (fh (JK (rfl,rfl)) rfl (wN (J 1)) (cy (i:=2) nZ.aD) (a4 (dV (eO (bA (J 0) rfl) T.gH T.ni am1 ao T.nv .nil Tx (ah (J 2) aB))))))
   (aP (xV (fh (JK (rfl,rfl)) rfl (wN (J 1)) (cy (i:=2) nZ.aD) (a4 (dV (eO (J 0) T.iw T.Wa HP ao T.X0 .nil cv (ah (J 2) (ah (iM bp (J 1) (J 2) (λ_ _=>rfl)) aB)))))))
   (aP (b9 (i:=3) nZ.aD (eO (bA (J 0) rfl) T.ac T.Q8 La ao T.R3 .nil cv (ah (h_ rfl (eQ (g0 (bA (J 0) rfl) T.gH T.rU lM ao T.rI .nil cv)) (Gc (sc:=bD (eG (top 44) 3)) rfl ∅) (N:=s6) (sel:=[none,some 0]) (g_ (M:=Iy) ∅) (fT.of (λ_ _ _ _=>(cy (i:=0) (eZ (N:=s6) ∅ rfl))) (λ_ _ _ _=>(_,(uj (dk oo (iM bp (bA (J 1) rfl) (J 0) (λ_ _=>rfl)) aK (cL _))),by walk_at "B")) (λ_ _ _ _=>(_,(J 0),by walk_at "B")))) aB)))
   (aP (b9 (i:=4) nZ.aD (f_ aB))
   (aP (fh (JK (rfl,rfl)) rfl (eQ (g0 (bA (J 0) rfl) T.gH T.rU lM ao T.rI .nil cv)) (cy (i:=2) nZ.aD) (a4 (d5 (dk wf (iM bp (J 3) (J 2) (λ_ _=>rfl)) di (cL _)) (a4 (dV (gq hJ yG E5 Do (J 4) (ah (eO (J 0) T.iw T.ut LQ ao T.Ux .nil cv (ah (J 2) aB)) aB)))) eV)))
   (aP (Bs (J 0) aK xX)
   (a4 (cA (J 4))))))))),?_)
 have mP:↑(dz a_)=↑a_:=by unfold dz;rw[aO]
 simp only[dd];refine Db (λav H'=>False) (λfx cw _ _ _=>?_) (λ_ _ z=>z.elim);nofun;refine(ca,_,iP,_,iP,λb0=>?_);have eb:∀{b:Addr} {u:dJ},b≠ca->H b\u->upd H ca (.dg b0 (.aY (dz a_))) b\u:=λ{b u} U e=>by rw[ax U];exact e
 have k6:upd H ca (.dg b0 (.aY (dz a_))) ca\(.dg b0 (.aY (dz a_))):=aM;have f6:aI (upd H ca (.dg b0 (.aY (dz a_)))):=bH.upd;have BH:aS bU (upd H ca (.dg b0 (.aY (dz a_)))):=λb u e=>eb (du e Qe) (s0 _ _ e)
 have aiu:=C.same BH;generalize upd H ca (.dg b0 (.aY (dz a_)))=wo at *;have I1:=(b3.mp gv).1;refine ey.of (n:=rl+1) (λi σ H'=>H'=wo/\i<=rl/\∃y,σ=[~~~r,~~~ca,y,none,none]) (rfl,e0 _,_,rfl) (λi σ H' ai h=>?_) (λσ H' h=>?_) ?_ ?_
 .rw [h.1];exact(k6,by rw[mP];omega)
 .exact absurd h.2.1 ()
 .rintro i σ H' x ia ai ⟨rfl,aa7,y,rfl⟩ ⟨rfl,k,ED,kN,rfl⟩;unfold dz at kN;obtain⟨p,ag,ep⟩:=b_ kN;cases ep;simp only[gz,jM,jF];nofun;refine⟨_,vQ T (eb (cT yL) e),_,rfl,_,_,BH _ _ ck,iU _ _ _ ∅,o.c,n,ds,p.1,rfl,aiu,n1 p (ct ag),?_⟩;by_cases ci:i<rl
  .let(d,hd,g6):=cj.mp (aiF i p ci ag);let(j,aN):=iH hd;exact .inl (j,d,aN,g6.symm,λa W=>(rfl,(),_,rfl))
  .have:i=rl:=()
   subst this;rw[gv]at ag;cases ag;exact .inr (g7,λhG ba bo nm hd=>q hG ba (λb u U bF=>bo _ _ (eb U bF)) (nm f6) hd)
 .rintro σ H' bl;ac_rfl
  let(rfl,aa7,y,rfl):=bl;subst aW;exact absurd aa7 ()
def aqw(h0:0<=i)(af:i<4):∃r:Int,(2<=r/\r<=20)/\fN [V.int 2,V.int 4,V.int 9,V.int 20] i\(.int r):=by
 have:i=0\/i=1\/i=2\/i=3:=()
 rcases this with rfl|rfl|rfl|rfl
 .exact (2,∅,cf (j:=0) rfl)
 .exact (4,∅,cf (j:=1) rfl)
 .exact (9,∅,cf (j:=2) rfl)
 .exact (20,∅,cf (j:=3) rfl)
def asz(h0:0<=i)(af:i<4):∃r:Int,(5<=r/\r<=6)/\fN [V.int 5,V.int 5,V.int 5,V.int 6] i\(.int r):=by
 have:i=0\/i=1\/i=2\/i=3:=()
 rcases this with rfl|rfl|rfl|rfl
 .exact (5,∅,cf (j:=0) rfl)
 .exact (5,∅,cf (j:=1) rfl)
 .exact (5,∅,cf (j:=2) rfl)
 .exact (6,∅,cf (j:=3) rfl)
def ahP(h0:0<=i)(af:i<6)(aH:0<=z/\z<=1000000000):∃r:Int,(0<=r/\r<=1000000000)/\fN [V.int 0,V.int 1,V.int 1,V.int 2,V.int 3,V.int z] i\(.int r):=by
 have:i=0\/i=1\/i=2\/i=3\/i=4\/i=5:=()
 rcases this with rfl|rfl|rfl|rfl|rfl|rfl
 .exact (0,∅,cf (j:=0) rfl)
 .exact (1,∅,cf (j:=1) rfl)
 .exact (1,∅,cf (j:=2) rfl)
 .exact (2,∅,cf (j:=3) rfl)
 .exact (3,∅,cf (j:=4) rfl)
 .exact (z,aH,cf (j:=5) rfl)
def Mo{x:Str}(h:x∉a_.map (·.1)):d0 (dz a_) (bx x) (.int m)=dz (a_++[(p'p x m)]):=by
 have n_:((dz a_).any λc1=>decide (c1.1=bx x))=false:=by
  rw[KN];intro p ag z;let(b,U,rfl):=cj.mp ag;exact h (cj.mpr (b,U,pP (of_decide_eq_true z)))
 unfold d0;rw[if_neg (by rw[n_];exact gu)];unfold dz;rw[fg];rfl
def aan(K:bg)(a:Addr)(ns:List Int):bW:=λvs H Q _=>∃(turn:Nat) (wl:Addr) (ds:List bh),vs=[⇑a,.int turn,⇑wl]/\Sc K a ns H/\turn<=100/\jb H wl ds/\(ds.map (·.name)).Nodup/\1<=↑ds/\↑ds<=12 /\
 ∀p a_ H',aS H H'->aI H'->H p=none->H' p\(.aY (dz a_))->(a_.map (·.1)).Nodup->(∀q∈a_,q.1∈ds.map (·.name)/\0<=q.2/\q.2<=1000000000)->Q ⇑p H'
def ajz (a:Addr) (ns:List Int) (hu:↑ns<=63):cD P base T 2 t.DF t.EG Cc (aan K a ns):=by
 refine cK (zI T a ns hu) λfe=>?_;exists T.MY.ok xN,9
 let(turn,wl,ds,rfl,S,Bh,Kw,eL,z7,e3,q):=h;let(qs,rt,zW,x7):=Kw;have bp:=gI ao;refine(_,(aP (b9 (i:=3) xN.aD (b7 dI (f_ (ah aK (ah aK (ah aK (ah aK aB))))) (cJ fe ao T.f7 T.fA.bM T.fZ (ah (J 0) (ah aK (ah aK aB))))))
   (aP (b9 (i:=4) xN.aD sf)
   (aP (fh fK rfl (p2 rfl T.qh (ah (gC jn rfl T.ul je (ah (J 2) aB)) aB)) (cy (i:=5) xN.aD) (aP (b9 (i:=6) xN.aD (b7 fD (b7 dI (J 2) (bQ jQ (bQ eK (J 5) (J 1)) (gC jn rfl T.ul je (ah (J 2) aB)))) aK))
   (a4 (d5 (dk wf (cJ fe ao T.f7 T.fA.bM T.fZ (ah (J 0) (ah (bQ eK (bQ eK aK (bQ kA aK (J 1))) (J 5)) (ah (J 3) aB)))) aK (cL _)) (aP (b9 (i:=7) xN.aD (b7 dI (f_ (ah aK (ah aK (ah aK (ah aK aB))))) (cJ fe ao T.f7 T.fA.bM T.fZ (ah (J 0) (ah aK (ah aK aB))))))
   (a4 (mW bp (J 4) (J 6) (b7 dI (f_ (ah aK (ah aK (ah aK (ah aK (ah aK (ah (bQ aqF aK aK) aB))))))) (cJ fe ao T.f7 T.fA.bM T.fZ (ah (J 0) (ah (bQ eK (bQ eK aK (bQ kA aK (J 1))) (J 5)) (ah (J 7) aB))))) rfl))) eV))))
   (a4 (cA (J 4)))))),?_)
 exists (λav H'=>aS H H'/\Sc K a ns H'/\∃pU:Int,(2<=pU/\pU<=20)/\av=[~~~a,some (.int turn),~~~wl,some (.int pU),none,none,none,none]),3
 ·(nofun; repeat (dsimp only[iv];nofun));refine(∅,λp ag=>(S.new ag,∅,∅,∅,?_));let(r,zJ,r5):=aqw (hU ns 4 (m:=4) ∅) (hO ns 4 (m:=4) ∅);exact(_,aE.of aM,_,r5,cw _ _ (bk ag,S.new ag,r,zJ,rfl))
 intro fO H1 (s1,l9,pU,nT,rfl);subst aW;exists (λav H'=>aS H H'/\Sc K a ns H'/\∃p,H p=none/\H' p\(.aY [])/\av=[~~~a,some (.int turn),~~~wl,some (.int pU),~~~p,none,none,none]),3
 .nofun;exact λp ag=>cw _ _ (s1.trans (bk ag),l9.new ag,p,s1.free ag,aM,rfl)
 intro cO ar (s2,oQ,p,ag,dY,rfl);subst aW;simp only[dd];have m5:↑(qs.map V.ref)=↑ds:=by rw[aO,zW]
 exists (λav H'=>aS H H'/\Sc K a ns H'/\∃a_,H' p\(.aY (dz a_))/\(a_.map (·.1)).Nodup/\(∀q∈a_,q.1∈ds.map (·.name)/\0<=q.2/\q.2<=1000000000)/\∃kD fP kS,av=[~~~a,some (.int turn),~~~wl,some (.int pU),~~~p,kD,fP,kS]),0
 .have ef:=s2 _ _ rt;nofun;refine(_,.inl (aE.of ef),(),(),?_);rw[m5,sz];refine ey.range (λi σ H'=>aS H H'/\Sc K a ns H'/\∃a_,H' p\(.aY (dz a_))/\(a_.map (·.1)).Nodup/\↑a_<=i/\(∀q∈a_,(0<=q.2/\q.2<=1000000000)/\∃j,j<i/\∃d,ds[(j+turn)%↑ds]?\d/\d.name=q.1)/\∃kD fP kS,σ=[~~~a,some (.int turn),~~~wl,some (.int pU),~~~p,kD,fP,kS]) (s2,oQ,[],dY,Hu,e0 _,(λq h=>by cases h),_,_,_,rfl) ?_ ?_
  .rintro i σ H' ai bl;ac_rfl
   let(s',v5,a_,jW,ki,apa,hY,kD,fP,kS,rfl):=bl;have ai:i<↑ds:=ai;have hm:(i+turn)%↑ds<↑ds:=Nat.mod_lt _ ();have hd:=bq hm;have ay:=bq (show(i+turn)%↑ds<↑qs by omega);have acA:=s' _ _ (x7 _ _ _ ay hd);have ei:=s' _ _ rt;have wZ:ds[(i+turn)%↑ds].name∉a_.map (·.1):=λz=>by
    let(cW,hR,br):=cj.mp z;let(_,j,aN,d,ro,g6):=hY cW hR;let(d1,dY):=b3.mp ro;have:=(sP (xs:=ds.map (·.name)) (i:=(j+turn)%↑ds) (j:=(i+turn)%↑ds) (h₀:=by rw[aO];exact d1) (h₁:=by rw[aO];exact hm) eL).mp (by rw[vy,vy,dY,g6,br]);have hQ:j<↑ds:=()
    have aq:=ag7 (j+turn) ↑ds;have aA:=ag7 (i+turn) ↑ds;rw[this]at aq;generalize (j+turn) / ↑ds=sC at aq;generalize (i+turn) / ↑ds=uq at aA;rcases art sC uq with c|c|c
    .have:↑ds*(sC+1)<=↑ds*uq:=ahi _ c;rw[anz]at this;omega
    .subst c;omega
    .have:↑ds*(uq+1)<=↑ds*sC:=ahi _ c;rw[anz]at this;omega
   subst aW;simp only[gz,dd,jM,jF,tj];exists (λav H1=>H1=H'/\av=[~~~a,some (.int turn),~~~wl,some (.int pU),~~~p,some (.int i),some (.str ds[(i+turn)%↑ds].name),kS]),2
   .nofun;refine(_,.inl (aE.of ei),by rw[m5];omega,_,aE.of ei,_,?_,_,rfl,_,de.of acA,_,cf (j:=1) rfl,cC _ _ (rfl,rfl));rw[m5,show((i:Int)+(turn:Int))%(↑ds:Int)=(((i+turn)%↑ds:Nat):Int)from rfl];exact cf (by rw[dF,ay];rfl)
   intro fR ba (rfl,rfl);subst aW;dsimp only;refine d8 (decide (dS ns (400+17*turn+(i:Int)) pU=0)) (λjc a9=>?_) (λU=>?_) (λU=>?_)
   ·(nofun; repeat (dsimp only[iv];nofun));exact(.inr ((),()),v5,(),(),(),a9)
   .simp only[dd];exists (λav H1=>aS H H1/\Sc K a ns H1/\H1 p\(.aY (dz a_))/\∃mo:Int,(5<=mo/\mo<=6)/\av=[~~~a,some (.int turn),~~~wl,some (.int pU),~~~p,some (.int i),some (.str ds[(i+turn)%↑ds].name),some (.int mo)]),2
    ·(nofun; repeat (dsimp only[iv];nofun));refine(∅,λd1 kE=>(v5.new kE,∅,∅,∅,?_));let(r,zJ,r5):=asz (hU ns 6 (m:=4) ∅) (hO ns 6 (m:=4) ∅);exact(_,aE.of aM,_,r5,cC _ _ (s'.trans (bk kE),v5.new kE,(bk kE) _ _ jW,r,zJ,rfl))
    intro km cm (s4,kO,Rw,mo,tI,rfl);subst aW;(nofun; repeat (dsimp only[iv];nofun));refine(?_,∅,λd1 kE=>(.inr ((),()),kO.new kE,(),(),(),?_))
    .exact (∅,∅,∅)
    have g1:=hU ns (900+11*(turn:Int)+(i:Int)) (m:=mo) ();have g2:=hO ns (900+11*(turn:Int)+(i:Int)) (m:=mo) ();let(r,wA,zJ):=ahP (z:=10 ^ Int.toNat 9) g1 () ∅;refine(_,aE.of aM,_,zJ,_,h6.k (k:=bx ds[(i+turn)%↑ds].name) (bk kE _ _ Rw) (by unfold dz;rw[aO];exact fW (show ↑a_<=12 by omega) ∅),(s4.trans (bk kE)).gW ag,(kO.new kE).set (bk kE _ _ Rw) (by intro _ _ z;cases z),a_++[(p'p (ds[(i+turn)%↑ds].name) r)],by rw[aM,Mo wZ],?_,by rw[dx,qf];omega,λq ay=>?_,_,rfl)
    .rw[fg,z8];refine(ki,by simp,λx ae y aJ e=>?_);have aJ:y=ds[(i+turn)%↑ds].name:=by simpa using aJ
     exact wZ (aJ ▸ e ▸ ae)
    .rcases ff.mp ay with z|z
     .let(h0,j,aN,rest):=hY q z;exact(h0.1,h0.2,j,(),rest)
     .rw [eg.mp z];exact(wA.1,wA.2,i,(),_,hd,rfl)
   .nofun;exact(s',v5,a_,jW,ki,(),λq ay=>((hY q ay).1.1,(hY q ay).1.2,by let(j,aN,r):=(hY q ay).2;exact(j,(),r)),_,rfl)
  .rintro σ H' bl;ac_rfl
   let(s',v5,a_,jW,ki,apa,hY,kD,fP,kS,rfl):=bl;subst aW;refine cw _ _ (s',v5,a_,jW,ki,λq ay=>?_,_,_,_,rfl);let(h0,j,_,d,hd,g6):=hY q ay;exact(g6 ▸ cj.mpr (d,ct hd,rfl),h0)
 intro fR ba (s3,y',a_,qN,ki,hY,kD,fP,kS,rfl);subst aW;nofun;exact q p a_ ba s3 y'.2 ag qN ki hY
unseal L2.ho L2.bu L2.fX L2.hC L2.iW L2.gL
section
open PySem.Spec PyProof.Rows
theorem aq4(aw:X.calm=true):ky X (.builtin "sum") (λxs H Q=>∃l b2,xs=[⇑l]/\aE X.K H l (tE V.int b2)/\(∀k∈b2,0<=k/\k<=1000000000)/\↑b2<=1000/\Q (.int b2.sum) H):=by
 intro aa s σ H xs us Q I r h;let(l,b2,rfl,ay,az,aG,q):=h;let(u,rfl,es):=lz r;cases es;let(a',cM,pl,aH):=I.list ay;let(xs,aq,aA):=Rf cM;have h1:a'.toArray=intItems xs.toArray:=by rw[aq];unfold intItems;simp
 have mJ:s.heap.IsList l (intItems xs.toArray):=by rw[<- h1];exact pl.isList
 have mZ:↑xs=↑b2:=by rw[<- aA,aO]
 have a0:∀i,i<↑b2->b2[i]?\(numAt xs.toArray i):=λi ai=>by
  rw[numAt_eq,k5];show b2[i]?\(((xs.map (·.1))[i]?).getD 0);rw[aA,bq ai];rfl
 have qP:∀n,n<=↑b2->preSum (numAt xs.toArray) n=(b2.take n).sum/\0<=(b2.take n).sum/\(b2.take n).sum<=1000000000*(n:Int):=λn=>by
  induction n with
  |zero=>intro _;exact(by simp[preSum],by simp,by simp)
  | succ n cp=>
   intro WC;let(i1,i2,atL):=cp ();have e:=a0 n ();have aQ:=az _ (ct e);have aU:(b2.take (n+1)).sum=(b2.take n).sum+numAt xs.toArray n:=by
    rw[qJ,e,List.sum_append];simp
   refine(?_,(),());show preSum (numAt xs.toArray) n+numAt xs.toArray n=_;rw[i1,aU]
 have hsz:xs.toArray.size=↑b2:=by rw[eB,mZ]
 refine sum_intList (I.ok.hd aw) mJ (λj aN=>?_) λh' tk t' k=>(.int b2.sum,H,I.kept k,(t',?_),q)
 .rw [hsz]at aN;have e:=a0 j aN;have aQ:=az _ (ct e);let(d1,dY,qN):=qP (j+1) ();unfold InLong;rw[d1];omega
 .rw [hsz,(qP _ (b1 _)).1,hE]
end
seal L2.ho L2.bu L2.fX L2.hC L2.iW L2.gL
structure gS(H:au)(ns:List Str)(ld:Addr)(aL:Str->Addr)(cU:Str->List Addr)(lo:Str->List (Int×Int)):Prop where
 d:H ld\(.aY (dR ns λx=>⇑(aL x)))
 l:∀x∈ns,H (aL x)\(.lst ((cU x).map V.ref))
 n:∀x∈ns,↑(cU x)=↑(lo x)
 q:∀x∈ns,∀(i:Nat) (q:Addr) (y:Int×Int),(cU x)[i]?\q->(lo x)[i]?\y->H q\(.lst [.int y.1,.int y.2])
 inj:∀x∈ns,∀y∈ns,aL x=aL y->x=y
 aD:∀x∈ns,(cU x).Nodup
 s_:∀x∈ns,∀y∈ns,x≠y->∀q∈cU x,q∉cU y
 ne:∀x∈ns,∀y∈ns,aL x∉cU y
def hh(ns:List Str)(ld:Addr)(aL:Str->Addr)(cU:Str->List Addr)(b:Addr):Prop:=b=ld\/∃x∈ns,b=aL x\/b∈cU x
def gS.keep{ns:List Str}{ld:Addr}{aL:Str->Addr}{lo:Str->List (Int×Int)}(h:gS H ns ld aL cU lo)(k:∀b u,hh ns ld aL cU b->H b\u->H' b\u):gS H' ns ld aL cU lo:=
 (k _ _ (.inl rfl) h.d,λx ae=>k _ _ (.inr (x,ae,.inl rfl)) (h.l x ae),h.n,λx ae i q y a b=>k _ _ (.inr (x,ae,.inr (ct a))) (h.q x ae i q y a b),h.inj,h.aD,h.s_,h.ne)
def gS.same{ns:List Str}{ld:Addr}{aL:Str->Addr}{lo:Str->List (Int×Int)}(h:gS H ns ld aL cU lo)(s:aS H H'):gS H' ns ld aL cU lo:=h.keep λb u _ e=>s b u e
def gS.sq{ns:List Str}{ld:Addr}{aL:Str->Addr}{lo:Str->List (Int×Int)}(h:gS H ns ld aL cU lo)(U:hh ns ld aL cU b):(∃kvs,H b\(.aY kvs))\/∃xs,H b\(.lst xs):=by
 rcases U with rfl|⟨x,ae,rfl|ay⟩
 .exact .inl (_,h.d)
 .exact .inr (_,h.l x ae)
 .obtain⟨i,ai⟩:=iH ay;have BF:i<↑(lo x):=by rw[<- h.n x ae];exact(b3.mp ai).1
  exact .inr (_,h.q x ae i b _ ai (bq BF))
def gS.cut{ns:List Str}{ld:Addr}{aL:Str->Addr}{lo:Str->List (Int×Int)}(h:gS H ns ld aL cU lo){x:Str}(ae:x∈ns)(k:Nat):gS (upd H (aL x) (.lst (((cU x).drop k).map V.ref))) ns ld aL (cH cU x ((cU x).drop k)) (cH lo x ((lo x).drop k)):=by
 have iS:∀y,∀q∈cH cU x ((cU x).drop k) y,q∈cU y:=λy q ay=>by
  by_cases c:y=x
  .subst c;rw[eC]at ay;exact Ds ay
  .rw [d_ c]at ay;exact ay
 have bX:∀{b:Addr} {u:dJ},b≠aL x->H b\u->upd H (aL x) (.lst (((cU x).drop k).map V.ref)) b\u:=λU e=>by rw[ax U];exact e
 refine(bX (bI h.d (h.l x ae) (by intro z;cases z)) h.d,λy aJ=>?_,λy aJ=>?_,λy aJ i q z a b=>?_,h.inj,λy aJ=>?_,λy aJ z aH n q ay=>?_,λy aJ z aH hm=>h.ne y aJ z aH (iS z _ hm))
 .by_cases c:y=x
  .subst c;rw[aM,eC]
  .rw [d_ c];exact bX (λe=>c (h.inj y aJ x ae e)) (h.l y aJ)
 .by_cases c:y=x
  .subst c;rw[eC,eC,rp,rp,h.n y aJ]
  .rw [d_ c,d_ c];exact h.n y aJ
 .have ay:=iS y q (ct a);refine bX (λe=>h.ne x ae y aJ (by rw[<- e];exact ay)) ?_;by_cases c:y=x
  .subst c;rw[eC,S8]at a b;exact h.q y aJ _ q z a b
  .rw [d_ c]at a b;exact h.q y aJ i q z a b
 .by_cases c:y=x
  .subst c;rw[eC];exact(List.drop_sublist _ _).nodup (h.aD y aJ)
  .rw [d_ c];exact h.aD y aJ
 .exact λhm=>h.s_ y aJ z aH n q (iS y q ay) (iS z q hm)
theorem gS.less{ns:List Str}{ld:Addr}{aL:Str->Addr}{lo:Str->List (Int×Int)}(h:gS H ns ld aL cU lo){x:Str}(ae:x∈ns){q:Addr}(ay:(cU x)[0]?\q)(aJ:(lo x)[0]?\y):gS (upd H q (.lst [.int y.1,.int v])) ns ld aL cU (cH lo x ((p'p y.1 v)::(lo x).drop 1)):=by
 have Sf:=ct ay;have auh:0<↑(lo x):=(b3.mp aJ).1;have bX:∀{b:Addr} {u:dJ},b≠q->H b\u->upd H q (.lst [.int y.1,.int v]) b\u:=λU e=>by rw[ax U];exact e
 refine(bX (bI h.d (h.q x ae 0 q y ay aJ) (by intro z;cases z)) h.d,λz aH=>bX (λe=>h.ne z aH x ae (by rw[e];exact Sf)) (h.l z aH),λz aH=>?_,λz aH i cW oy a b=>?_,h.inj,h.aD,h.s_,h.ne)
 .by_cases c:z=x
  .subst c;rw[eC,ih,rp,h.n z aH];omega
  .rw [d_ c];exact h.n z aH
 .by_cases c:z=x
  .subst c;rw[eC]at b
   match i,a,b with
   |0,a,b=>
    rw[ay]at a;cases a;cases b;rw[aM]
   |i+1,a,b=>
    rw[xw,S8,Nat.add_comm]at b;refine bX (λe=>?_) (h.q z aH (i+1) cW oy a b);rw[e]at a;let(a1,hj):=b3.mp a;let(a2,gn):=b3.mp ay;have:=(sP (h.aD z aH)).mp (hj.trans gn.symm);omega
  .rw [d_ c]at b;exact bX (λe=>h.s_ z aH x ae c cW (ct a) (by rw[e];exact Sf)) (h.q z aH i cW oy a b)
def gS.congr{ns:List Str}{ld:Addr}{aL:Str->Addr}{lo abu:Str->List (Int×Int)}(h:gS H ns ld aL cU lo)(e:∀x∈ns,abu x=lo x)(aA:∀x∈ns,F1 x=cU x):gS H ns ld aL F1 abu:=
 (h.d,λx ae=>by rw[aA x ae];exact h.l x ae,λx ae=>by rw[e x ae,aA x ae];exact h.n x ae,λx ae i q y a b=>by rw[e x ae]at b;rw[aA x ae]at a;exact h.q x ae i q y a b,h.inj,λx ae=>by rw[aA x ae];exact h.aD x ae,λx ae y aJ n=>by rw[aA x ae,aA y aJ];exact h.s_ x ae y aJ n,λx ae y aJ=>by rw[aA y aJ];exact h.ne x ae y aJ)
theorem JC:∀(l:List (Int×Int)),(∀p∈l,0<p.2)->er (ed l) l=(p'p l [])
 |[],_=>rfl
 |p::l,h=>by
  have ag:=h p (by simp);have aG:=xH (l:=l) λq ay=>h q (il _ ay)
  have cp:=JC l λq ay=>h q (il _ ay)
  show er (p.2+ed l) (p::l)=_;unfold er;rw[if_neg (),if_pos (),show p.2+ed l-p.2=ed l by omega,cp]
theorem wT{k:Nat}(az:k<3):decide (V.str (e4 k)=V.str (ab "foot"))=decide (k=1):=by
 refine decide_eq_decide.mpr (λe=>?_,λe=>by rw[e];rfl);have e:=V.str.inj e
 match k,az,e with
 |0,_,e=>exact absurd e ∅
 |1,_,_=>rfl
 |2,_,e=>exact absurd e ∅
def Yd{p b:Addr}(h:ja H p qs ws)(U:H b=none):ja (upd (upd H b (.tup [.str y.1,.int y.2.1,.int y.2.2])) p (.lst (qs.map V.ref++[⇑b]))) p (qs++[b]) (ws++[y]):=by
 have tU:b≠p:=(du h.1 U).symm;refine(by rw[aM,fg];rfl,by rw[dx,dx,h.2.1];rfl,λi q z a c=>?_);rcases j4 a with⟨gj,ew⟩|⟨gj,rfl⟩
 .rcases j4 c with⟨_,iX⟩|⟨l_,_⟩
  .have k:=h.2.2 i q z ew iX;rw[ax (bI k h.1 (by intro z;cases z)),ax (du k U)];exact k
  .have:=h.2.1;omega
 .rcases j4 c with⟨l_,_⟩|⟨_,rfl⟩
  .have:=h.2.1;omega
  .rw [ax tU,aM]
structure v7(ns:List Str)(v:ix):Prop where
 pos:∀x∈ns,∀p∈v.lo x,0<p.2
 sum:∀x∈ns,ed (v.lo x)=v.st x
 len:∀x∈ns,↑(v.lo x)<=200
def v7.go{ns:List Str}(h:v7 ns v){x:Str}{left:Int}(h0:0<=left)(af:left<=v.st x):v7 ns (vC v x left):=by
 refine(λy aJ=>?_,λy aJ=>?_,λy aJ=>?_)
 .show ∀p∈cH v.lo x (er left (v.lo x)).2 y,0<p.2;by_cases c:y=x
  .subst c;rw[eC];exact(vq (v.lo y) left (h.pos y aJ) h0 (by rw[h.sum y aJ];exact af)).2.2.2.1
  .rw [d_ c];exact h.pos y aJ
 .show ed (cH v.lo x (er left (v.lo x)).2 y)=cH v.st x (v.st x-left) y;by_cases c:y=x
  .subst c;rw[eC,eC,(vq (v.lo y) left (h.pos y aJ) h0 (by rw[h.sum y aJ];exact af)).2.1,h.sum y aJ]
  .rw [d_ c,d_ c];exact h.sum y aJ
 .show ↑(cH v.lo x (er left (v.lo x)).2 y)<=200;by_cases c:y=x
  .subst c;rw[eC];exact c9 (vq (v.lo y) left (h.pos y aJ) h0 (by rw[h.sum y aJ];exact af)).2.2.2.2.2 (h.len y aJ)
  .rw [d_ c];exact h.len y aJ
def Ym:bW:=λvs H Q _=>∃(wl:Addr) (ds:List bh) (ld:Addr) (aL:Str->Addr) (cU:Str->List Addr) (v:ix) (fp:Addr) (f:bh->Str) (fr:Str->Bool),vs=[⇑wl,⇑ld,⇑fp]/\jb H wl ds/\(ds.map (·.name)).Nodup/\(∀d∈ds,d.k<3)/\↑ds<=12/\gS H (ds.map (·.name)) ld aL cU v.lo/\v7 (ds.map (·.name)) v/\H fp\(.aY (hn ds f))/\(∀d∈ds,decide (f d=ab "free")=fr d.name)/\¬hh (ds.map (·.name)) ld aL cU wl/\¬hh (ds.map (·.name)) ld aL cU fp/\aI H /\
 ∀p qs F1 H',(∀b u,¬hh (ds.map (·.name)) ld aL cU b->H b\u->H' b\u)->aI H'->H p=none->gS H' (ds.map (·.name)) ld aL F1 (lb fr ds v).1.lo->(∀x,∀q∈F1 x,q∈cU x)->ja H' p qs (lb fr ds v).2->Q ⇑p H'
set_option tactic.hygienic true in
theorem aiT:cD P base T 1 t.Fi t.G4 F8 Ym:=by
 exists T.NL.ok z4,9
 let(wl,ds,ld,aL,cU,v,fp,f,fr,rfl,(ws,cF,cB,ajr),aD,Im,e3,lC,arE,NU,oA,arv,ar_,bH,q):=h;have bp:=gI ao;refine(_,(aP (b9 (i:=3) z4.aD (f_ aB))
   (aP (fh fK rfl (eQ (J 0)) (cy (i:=4) z4.aD) (aP (b9 (i:=5) z4.aD (iM bp (J 1) (b7 fD (J 4) aK) (λ_ _=>rfl)))
   (aP (d5 (gL.pt (tm (dk ug (iM bp (J 2) (b7 fD (J 4) aK) (λ_ _=>rfl)) di (cL _)) (uW (dk wf (gC jn rfl T.ul je (ah (J 5) aB)) aK (cL _))))) (a4 ai0) eV)
   (a4 (d5 (dk wf (b7 fD (J 4) aK) di (cL _)) (aP (fh fK rfl (eQ (J 5)) (cy (i:=6) z4.aD) (a4 (dV (gq hJ kY lT kW (J 3) (ah (mj (ah (b7 fD (J 4) aK) (ah (b7 dI (J 6) aK) (ah (b7 dI (J 6) aK) aB)))) aB)))))
   (a4 (dV (o2 hJ Ua aoI Zk (J 5))))) (aP (dV (gq hJ kY lT kW (J 3) (ah (mj (ah (b7 fD (J 4) aK) (ah (b7 dI (b7 dI (J 5) aK) aK) (ah aK aB)))) aB)))
   (aP (F7 (bQ mE (b7 dI (b7 dI (J 5) aK) aK) aK) (VS (b7 dI (J 5) aK) aK RF))
   (a4 (d5 (dk wf (b7 dI (b7 dI (J 5) aK) aK) aK (cL _)) (a4 (dV (gq hJ Vv akD abt (J 5) (ah aK aB)))) eV)))))))))
   (a4 (cA (J 3))))),?_)
 have nq:∀k:Nat,k<=10000->k<sizeLine:=λk h=>fW h ∅
 exists (λav H'=>aS H H'/\aI H'/\∃wp,H wp=none/\H' wp\(.lst [])/\av=[~~~wl,~~~ld,~~~fp,~~~wp,none,none,none]),4
 .nofun;exact(e0 _,λwp cV=>cw _ _ (bk cV,bH.upd,wp,cV,aM,rfl))
 intro fO H1 (s1,b8,wp,cV,dp,rfl);have apZ:¬hh (ds.map (·.name)) ld aL cU wp:=λz=>by
  rcases lC.sq z with⟨_,e⟩|⟨_,e⟩ <;> rw[cV]at e <;> cases e
 have arU:∀{b:Addr} {xs:List V},H b\(.tup xs)->¬hh (ds.map (·.name)) ld aL cU b:=λ{b xs} e z=>by
  rcases lC.sq z with⟨_,br⟩|⟨_,br⟩ <;> rw[e]at br <;> cases br
 subst aW;exists (λav H'=>(∀b u,¬hh (ds.map (·.name)) ld aL cU b->H b\u->H' b\u)/\aI H'/\(∃v2 bN iL qs,lb fr ds v=(p'p v2 bN)/\gS H' (ds.map (·.name)) ld aL iL v2.lo/\(∀x,∀q∈iL x,q∈cU x)/\ja H' wp qs bN)/\∃dq eh dO,av=[~~~wl,~~~ld,~~~fp,~~~wp,dq,eh,dO]),3
 .nofun;refine((_,aE.of (s1 _ _ cF)),?_);refine ey.list (xs:=ws.map V.ref) (λi σ H'=>(∀b u,¬hh (ds.map (·.name)) ld aL cU b->H b\u->H' b\u)/\aI H'/\(∃v2 bN iL qs,lb fr (ds.take i) v=(p'p v2 bN)/\gS H' (ds.map (·.name)) ld aL iL v2.lo/\v7 (ds.map (·.name)) v2/\(∀x,∀q∈iL x,q∈cU x)/\ja H' wp qs bN/\↑bN<=200*i/\wp∉qs)/\∃dq eh dO,σ=[~~~wl,~~~ld,~~~fp,~~~wp,dq,eh,dO]) ?_ ?_ ?_ ?_
  .exact (λb u _ e=>s1 _ _ e,b8,(v,[],cU,[],rfl,lC.same s1,arE,λ_ _ h=>h,(dp,rfl,λi q y h=>(by simp at h)),e0 _,r1),_,_,_,rfl)
  .intro i σ H' ai (cI,_);exact aE.of (cI _ _ arv cF)
  .rintro i OH σ H' tP bl;ac_rfl
   let(cI,b',(v2,bN,iL,qs,ie,ma,kB,iS,g8,wi,vF),dq,eh,dO,rfl):=bl;let(fB,U9,rfl):=b_ tP;have lF:i<↑ds:=by rw[<- cB];exact(b3.mp U9).1
   have lY:ds[i]?\ds[i]:=bq lF;have ZO:=ajr i _ _ U9 lY;have lU:=cI _ _ (arU ZO) ZO;have ri:=ct lY;have zk:lb fr (ds.take (i+1)) v=l8 fr (p'p v2 bN) ds[i]:=by
    rw[ip lY];unfold lb at ie⊢;rw[q4,ie];rfl
   subst aW;generalize ds[i]=d at lY lU ri zk;have c8:d.name∈ds.map (·.name):=cj.mpr (d,ri,rfl);have r5:=cI _ _ ar_ NU;have Nx:=fj.k (k:=bx d.name) r5;rw[KF (f:=f) aD lY]at Nx;have gl:=fj.k (k:=bx d.name) ma.d;rw[sQ c8]at gl;have n7:=ma.l d.name c8;have p8:=ma.n d.name c8;have mJ:=kB.len d.name c8;have ec:de K H' fB (kj d):=de.of lU;have Nn:fN (kj d) 0\(.str (e4 d.k)):=cf (j:=0) rfl;have w4:fN (kj d) 1\(.str d.name):=cf (j:=1) rfl;simp only[gz,dd,jM,jF];exists (λav ar=>ar=H'/\av=[~~~wl,~~~ld,~~~fp,~~~wp,~~~fB,some ⇑(aL d.name),dO]),1
   .nofun;exact(_,ec,_,w4,_,gl,cw _ _ (rfl,rfl))
   intro cO ar (rfl,rfl);subst aW;simp only[dd];refine d8 (!fr d.name||decide (↑(v2.lo d.name)=0)) (λjc a9=>?_) (λU=>?_) (λU=>?_)
   .nofun;refine(_,ec,_,w4,_,Nx,rfl,?_);rw[show decide (V.str (f d)=V.str (ab "free"))=fr d.name from(decide_eq_decide.mpr (λe=>V.str.inj e,λe=>by rw[e])).trans (oA d ri)];cases hf:fr d.name with
    |false=>
     rw[hf]at a9;exact a9
    |true=>
     rw[hf]at a9;refine(_,.inl (aE.of n7),?_);rw[aO,p8,show decide ((↑(v2.lo d.name):Int)=0)=decide (↑(v2.lo d.name)=0)from decide_eq_decide.mpr ()];exact a9
   .nofun;by_cases hf:fr d.name=true
    .have IM:v2.lo d.name=[]:=by
      rw[hf]at U;have:decide (↑(v2.lo d.name)=0)=true:=U;exact List.length_eq_zero_iff.mp (of_decide_eq_true this)
     have GG:v2.st d.name=0:=by rw[<- kB.sum d.name c8,IM];rfl
     have qD:ht d (v2.st d.name)=0:=by
      rw[GG];unfold ht;split
      .rfl
      .rw [if_neg ∅]
     have lH:lb fr (ds.take (i+1)) v=(p'p (vC v2 d.name 0) bN):=by
      rw[zk];unfold l8;rw[if_pos hf];dsimp only;rw[qD,IM];show(p'p _ (bN++[]))=_;rw[oE]
     refine(cI,b',(_,_,lH,iL,ma.congr (λx ae=>?_) (λ_ _=>rfl),kB.go (tR _) (),iS,qs,g8,(),vF),_,rfl);show cH v2.lo d.name (er 0 (v2.lo d.name)).2 x=v2.lo x;rw[Ee];by_cases c:x=d.name
     .rw [c,eC]
     .rw [d_ c]
    .have lH:lb fr (ds.take (i+1)) v=(p'p v2 bN):=by
      rw[zk];unfold l8;rw[if_neg hf]
     exact(cI,b',(_,_,lH,iL,ma,kB,iS,qs,g8,(),vF),_,rfl)
   rw[z5,Bool.not_eq_false',decide_eq_false_iff_not]at U;simp only[iR,dd];let(hf,IM):=U;have Iw:0<=v2.st d.name:=by rw[<- kB.sum d.name c8];exact xH (kB.pos d.name c8)
   have bM:∀{ba:au},(∀b u,¬hh (ds.map (·.name)) ld aL cU b->b≠wp->ar b\u->ba b\u)->∀b u,¬hh (ds.map (·.name)) ld aL cU b->H b\u->ba b\u:=λ{ba} k b u U e=>k b u U (du e cV) (cI b u U e)
   have as9:∀{b:Addr} {xs:List V},ar b\(.tup xs)->¬hh (ds.map (·.name)) ld aL iL b:=λ{b xs} e z=>by
    rcases ma.sq z with⟨_,br⟩|⟨_,br⟩ <;> rw[e]at br <;> cases br
   have u6:¬hh (ds.map (·.name)) ld aL iL wp:=λz=>apZ (by
    rcases z with z|⟨x,ae,z|z⟩
    .exact .inl z
    .exact .inr (x,ae,.inl z)
    .exact .inr (x,ae,.inr (iS x _ z)))
   refine d8 (decide (d.k=1)) (λjc a9=>?_) (λaz=>?_) (λaz=>?_)
   .nofun;refine(_,ec,_,Nn,rfl,?_);rw[wT (Im d ri)];exact a9
   .have az:=of_decide_eq_true az;have bj:ht d (v2.st d.name)=v2.st d.name:=by
     unfold ht;split
     .rfl
     .rename_i h;exact absurd az h
    have lH:lb fr (ds.take (i+1)) v=(p'p (vC v2 d.name (v2.st d.name)) (bN++(v2.lo d.name).map λy=>(p'p d.name y))):=by
     rw[zk];unfold l8;rw[if_pos hf];dsimp only;rw[bj,<- kB.sum d.name c8,JC _ (kB.pos d.name c8)]
    simp only[dd];exists (λav ba=>(∀b u,b≠wp->ar b\u->ba b\u)/\aI ba/\(∃mG,ja ba wp mG (bN++(v2.lo d.name).map λy=>(p'p d.name y))/\wp∉mG)/\∃dO,av=[~~~wl,~~~ld,~~~fp,~~~wp,~~~fB,some ⇑(aL d.name),dO]),1
    .have Al:aL d.name≠wp:=λz=>u6 (.inr (_,c8,.inl z.symm))
     nofun;refine((_,aE.of n7),?_);refine ey.list (xs:=(iL d.name).map V.ref) (λj σ ba=>(∀b u,b≠wp->ar b\u->ba b\u)/\aI ba/\(∃mG,ja ba wp mG (bN++((v2.lo d.name).take j).map λy=>(p'p d.name y))/\wp∉mG)/\∃dO,σ=[~~~wl,~~~ld,~~~fp,~~~wp,~~~fB,some ⇑(aL d.name),dO]) ?_ ?_ ?_ ?_
     .exact (λ_ _ _ e=>e,b',(qs,by rw[tD,p_,oE];exact g8,vF),_,rfl)
     .intro j σ ba aN (da,_);exact aE.of (da _ _ Al n7)
     .rintro j gP σ ba J2 bl;ac_rfl
      let(da,c7,(qa,k_,si),ZZ,rfl):=bl;let(kf,eY,rfl):=b_ J2;have l1:j<↑(v2.lo d.name):=by rw[<- p8];exact(b3.mp eY).1
      have JV:(v2.lo d.name)[j]?\(v2.lo d.name)[j]:=bq l1;have E4:=ma.q d.name c8 j kf _ eY JV;subst aW;generalize (v2.lo d.name)[j]=y at JV E4;have rC:=da _ _ (λz=>u6 (.inr (_,c8,.inr (by rw[<- z];exact ct eY)))) E4;have ar':=da _ _ (bI lU g8.1 (by intro z;cases z)) lU;simp only[gz,jM,jF];nofun;refine(.inl (_,aE.of k_.1),_,de.of ar',_,w4,_,aE.of rC,_,cf (j:=0) rfl,_,aE.of rC,_,cf (j:=1) rfl,∅,λp ag=>?_);have gT:wp≠p:=du k_.1 ag;have m5:↑qa<=5000:=by
       rw[k_.2.1,dx,aO,hb];omega
      refine(_,by rw[ax gT];exact k_.1,nq _ (by rw[aO];omega),λb u U e=>?_,c7.upd.upd,(qa++[p],?_,λhm=>?_),_,rfl)
      .rw [ax U];exact(bk ag) _ _ (da b u U e)
      .rw [ip JV,fg,<- oj];exact Yd (y:=(p'p d.name y)) k_ ag
      .rcases ff.mp hm with z|z
       .exact si z
       .exact gT (eg.mp z)
     .rintro σ ba bl;ac_rfl
      let(da,c7,(qa,k_,si),ZZ,rfl):=bl;subst aW;rw[aO,p8,hE]at k_;exact cw _ _ (da,c7,(qa,k_,si),_,rfl)
    intro fR ba (da,c7,(qa,k_,si),ZZ,rfl);have rA:=ma.keep (H':=ba) λb u U e=>da b u (λz=>u6 (by rw[<- z];exact U)) e
    have qT:=rA.cut c8 ↑(v2.lo d.name);subst aW;nofun;have Al:wp≠aL d.name:=λz=>u6 (.inr (_,c8,.inl z))
    have aq:(iL d.name).drop ↑(v2.lo d.name)=[]:=List.drop_eq_nil_of_le ();rw[aq]at qT;refine(.inl (_,aE.of (rA.l _ c8)),_,rA.l _ c8,λb u U e=>?_,c7.upd,(_,_,lH,_,qT.congr (λx ae=>?_) (λ_ _=>rfl),kB.go Iw (tR _),λx cW hR=>?_,qa,(by rw[ax Al];exact k_.1,k_.2.1,λj cW oy a b=>?_),?_,si),_,rfl)
    .rw [ax (λz=>U (.inr (_,c8,.inl z)))];exact da b u (du e cV) (cI b u U e)
    .show cH v2.lo d.name (er (v2.st d.name) (v2.lo d.name)).2 x=cH v2.lo d.name ((v2.lo d.name).drop ↑(v2.lo d.name)) x;rw[<- kB.sum d.name c8,JC _ (kB.pos d.name c8),w9]
    .by_cases c:x=d.name
     .subst c;rw[eC]at hR;cases hR
     .rw [d_ c]at hR;exact iS x cW hR
    .have k:=k_.2.2 j cW oy a b;rw[ax (bI k (rA.l _ c8) (by intro z;cases z))];exact k
    .rw [dx,aO];omega
   .have az:=of_decide_eq_false az;let(y,sM):∃y,(v2.lo d.name)[0]?\y:=(_,bq ());let(fU,oS):∃q,(iL d.name)[0]?\q:=(_,bq ());have E4:=ma.q d.name c8 0 fU y oS sM;have rD:v2.lo d.name=y::(v2.lo d.name).drop 1:=by
     cases h:v2.lo d.name with
     |nil=>rw[h]at sM;cases sM
     |cons a r=>rw[h]at sM;cases sM;rfl
    have hyp:=kB.pos d.name c8 y (ct sM);have yX:=kB.sum d.name c8;have aqb:0<=ed ((v2.lo d.name).drop 1):=xH λp ag=>kB.pos d.name c8 p (Ds ag)
    have Vx:1<=v2.st d.name:=by
     rw[rD]at yX;have:y.2+ed ((v2.lo d.name).drop 1)=v2.st d.name:=yX;omega
    have bj:ht d (v2.st d.name)=1:=by
     unfold ht;split
     .rename_i h;exact absurd h az
     .by_cases c:1<v2.st d.name
      .rw [if_pos c]
      .rw [if_neg c];omega
    have rr:er 1 (v2.lo d.name)=(p'p [(p'p y.1 1)] (if y.2=1 then(v2.lo d.name).drop 1 else(p'p y.1 (y.2-1))::(v2.lo d.name).drop 1)):=by
     rw[rD];unfold er;rw[if_neg ∅];by_cases c:y.2=1
     .rw [if_pos (),c,(∅:(1:Int)-1=0),Ee,if_pos rfl,<- c];rfl
     .rw [if_neg (),if_neg c];rfl
    have lH:lb fr (ds.take (i+1)) v=(p'p (vC v2 d.name 1) (bN++[(p'p d.name (p'p y.1 1))])):=by
     rw[zk];unfold l8;rw[if_pos hf];dsimp only;rw[bj,rr];rfl
    have DZ:fN ((iL d.name).map V.ref) 0\⇑fU:=cf (j:=0) (by rw[dF,oS];rfl);simp only[dd];exists (λav ba=>(∀b u,b≠wp->ar b\u->ba b\u)/\aI ba/\(∃mG,ja ba wp mG (bN++[(p'p d.name (p'p y.1 1))])/\wp∉mG)/\av=[~~~wl,~~~ld,~~~fp,~~~wp,~~~fB,some ⇑(aL d.name),dO]),1
    .nofun;refine(.inl (_,aE.of g8.1),_,ec,_,w4,_,aE.of n7,_,DZ,_,rfl,_,aE.of E4,_,cf (j:=0) rfl,∅,λp ag=>?_);have gT:wp≠p:=du g8.1 ag;refine(_,by rw[ax gT];exact g8.1,nq _ (by rw[aO,g8.2.1];omega),cw _ _ (λb u U e=>?_,b'.upd.upd,(qs++[p],Yd (y:=(p'p d.name (p'p y.1 1))) g8 ag,λhm=>?_),rfl))
     .rw [ax U];exact(bk ag) _ _ e
     .rcases ff.mp hm with z|z
      .exact vF z
      .exact gT (eg.mp z)
    intro fR ba (da,c7,(qa,k_,si),rfl);have rA:=ma.keep (H':=ba) λb u U e=>da b u (λz=>u6 (by rw[<- z];exact U)) e
    have eq3:=rA.q d.name c8 0 fU y oS sM;have qT:=rA.less c8 (v:=y.2-1) oS sM;have arw:wp≠fU:=λz=>u6 (.inr (_,c8,.inr (by rw[z];exact ct oS)))
    subst aW;simp only[dd];exists (λav cm=>cm=upd ba fU (.lst [.int y.1,.int (y.2-1)])/\av=[~~~wl,~~~ld,~~~fp,~~~wp,~~~fB,some ⇑(aL d.name),dO]),1
    .nofun;exact(_,aE.of (rA.l _ c8),_,DZ,_,rfl,_,aE.of eq3,_,cf (j:=1) rfl,_,rfl,_,aE.of (rA.l _ c8),_,DZ,_,rfl,_,eq3,1,rfl,cw _ _ (rfl,rfl))
    intro km cm (rfl,rfl);have zg:∀b u,¬hh (ds.map (·.name)) ld aL cU b->b≠wp->ar b\u->upd ba fU (.lst [.int y.1,.int (y.2-1)]) b\u:=λb u U hw e=>by
     rw[ax (λz=>U (.inr (_,c8,.inr (iS _ _ (by rw[z];exact ct oS)))))];exact da b u hw e
    have He:ja (upd ba fU (.lst [.int y.1,.int (y.2-1)])) wp qa (bN++[(p'p d.name (p'p y.1 1))]):=(by rw[ax arw];exact k_.1,k_.2.1,λj cW oy a b=>by
     have k:=k_.2.2 j cW oy a b;rw[ax (bI k eq3 (by intro z;cases z))];exact k)
    have eq4:upd ba fU (.lst [.int y.1,.int (y.2-1)]) fU\(.lst [.int y.1,.int (y.2-1)]):=aM;have dh:aI (upd ba fU (.lst [.int y.1,.int (y.2-1)])):=c7.upd;subst aW;generalize upd ba fU (.lst [.int y.1,.int (y.2-1)])=cG at *;dsimp only;refine d8 (decide (y.2=1)) (λjc a9=>?_) (λaw=>?_) (λaw=>?_)
    .nofun;refine(_,aE.of (qT.l _ c8),_,DZ,_,rfl,_,aE.of eq4,_,cf (j:=1) rfl,rfl,?_);rw[show decide (V.int (y.2-1)=V.int 0)=decide (y.2=1)from decide_eq_decide.mpr (λe=>by have:=V.int.inj e;omega,λe=>by rw[e];rfl)];exact a9
    .have aw:=of_decide_eq_true aw;nofun;have vS:=qT.cut c8 1;have hle:((iL d.name).map V.ref).eraseIdx 0=((iL d.name).drop 1).map V.ref:=by
      cases iL d.name <;> rfl
     rw[<- hle]at vS;have Al:wp≠aL d.name:=λz=>u6 (.inr (_,c8,.inl z))
     refine(.inl (_,aE.of (qT.l _ c8)),_,qT.l _ c8,∅,∅,0,seqIndex_of ∅ (by rw[aO];omega),_,by rw[dF,oS];rfl,bM λb u U hw e=>?_,dh.upd,(_,_,lH,_,vS.congr (λx ae=>?_) (λ_ _=>rfl),kB.go ∅ Vx,λx cW hR=>?_,qa,(by rw[ax Al];exact He.1,He.2.1,λj cW oy a b=>?_),by rw[dx,qf];omega,si),_,rfl)
     .rw [ax (λz=>U (.inr (_,c8,.inl z)))];exact zg b u U hw e
     .show cH v2.lo d.name (er 1 (v2.lo d.name)).2 x=cH (cH v2.lo d.name ((p'p y.1 (y.2-1))::(v2.lo d.name).drop 1)) d.name ((cH v2.lo d.name ((p'p y.1 (y.2-1))::(v2.lo d.name).drop 1) d.name).drop 1) x;rw[rr,if_pos aw,eC];by_cases c:x=d.name
      .rw [c,eC,eC];rfl
      .rw [d_ c,d_ c,d_ c]
     .by_cases c:x=d.name
      .subst c;rw[eC]at hR;exact iS _ _ (Ds hR)
      .rw [d_ c]at hR;exact iS x cW hR
     .have k:=He.2.2 j cW oy a b;rw[ax (bI k (qT.l _ c8) (by intro z;cases z))];exact k
    .have aw:=of_decide_eq_false aw;nofun;refine(bM zg,dh,(_,_,lH,iL,qT.congr (λx ae=>?_) (λ_ _=>rfl),kB.go ∅ Vx,iS,qa,He,by rw[dx,qf];omega,si),_,rfl);show cH v2.lo d.name (er 1 (v2.lo d.name)).2 x=cH v2.lo d.name ((p'p y.1 (y.2-1))::(v2.lo d.name).drop 1) x;rw[rr,if_neg aw]
  .rintro σ H' bl;ac_rfl
   let(cI,b',(v2,bN,iL,qs,ie,ma,kB,iS,g8,wi,vF),dq,eh,dO,rfl):=bl;subst aW;rw[aO,cB,hE]at ie;exact cw _ _ (cI,b',(v2,bN,iL,qs,ie,ma,iS,g8),_,_,_,rfl)
 intro cO ar (cI,b',(v2,bN,iL,qs,ie,ma,iS,g8),dq,eh,dO,rfl);subst aW;nofun;refine q wp qs iL ar cI b' cV ?_ iS ?_
 .rw [ie];exact ma
 .rw [ie];exact g8
unseal L2.ho L2.bu L2.fX L2.hC L2.iW L2.gL
section
open PySem.Spec PyProof.Rows
variable{X:a3}
def aae:V->List V->au->cR->Prop:=λx vs H Q=>∃z,x=.str z/\vs=[]/\Q3 ↑(xd z)=false/\Q (.str (xd z)) H
def anY:vA X "str.upper" aae:=by
 intro aa s σ H x xs v us Q I a7 cM h;let(z,rfl,rfl,aH,q):=h;let(t,rfl):=a7;cases cM;exact PySem.SC.upper aH (.str _,H,I.tok _,(_,rfl),q)
end
noncomputable def lK(x:Str):Str:=⟨(x.cps.toList.map λc=>c-32).toArray⟩
theorem Wj:∀l:List Nat,(∀c∈l,97<=c/\c<=122)->xd ⟨l.toArray⟩=⟨(l.map λc=>c-32).toArray⟩
 |[],_=>∅
 |c::l,h=>by
  have aw:=h c (.head _);have e:(⟨(c::l).toArray⟩:Str)=⟨#[c]⟩++⟨l.toArray⟩:=ar8 (by rw[mx];simp);rw[e,aup,avr (),if_pos aw,Wj l λx ae=>h x (.tail _ ae)];exact ar8 (by rw[mx];simp)
def arK{x:Str}(h:made x kG 8=true):xd x=lK x/\Q3 ↑(xd x)=false:=by
 let((aj,bb),af):=pd h;have e:xd x=lK x:=by
  have:=Wj x.cps.toList af;rw[Array.toArray_toList]at this;rw[show(⟨x.cps⟩:Str)=x from rfl]at this;rw[this];rfl
 refine(e,?_);rw[e];have aG:↑(lK x)=↑x:=by
  unfold lK;show((x.cps.toList.map λc=>c-32).toArray).size=x.cps.size;simp
 unfold Q3;rw[aG];exact decide_eq_false (Za.mpr (c9 bb ∅))
section
open PySem.Spec PyProof.Rows
variable{X:a3}
def adR:fq:=λx y H Q=>∃a b kvs,x=⇑a/\y=⇑b/\H a\(.aY kvs)/\H b\(.aY kvs)/\(kvs.map (·.1)).Nodup/\(∀c1∈kvs,l7 c1.2=true)/\Q (.bC false) H
def alX(bp:X.A.units+1<cLine):hL X (compareOp .NotEq) adR:=by
 intro aa s σ H x y v u Q I a7 bt h;let(a,b,kvs,rfl,rfl,dP,bF,aD,dj,q):=h;cases a7;cases bt;let(_,aL,ao_,hq,wR):=oH I.a6 dP;let(_,agX,tC,x1,db):=oH I.a6 bF;have aG:↑ao_=↑tC:=hq.length.symm.trans ↑x1;refine PySem.W.keq_ne (r:=true) aL agX wR db () (λ_=>adk aD dj x1 hq λ_ h=>h) ?_;rw[aG,beq_self_eq_true];exact(.bC false,H,I,rfl,q)
end
seal L2.ho L2.bu L2.fX L2.hC L2.iW L2.gL
def eq_str{K:bg}{H:au}{k:Nat}(x:Str):gh K H k (.str x) (.str x) true:=by
 have:=gh.flat (K:=K) (H:=H) (k:=k) (x:=.str x) (y:=.str x) rfl rfl;rwa[show kJ (.str x) (.str x)=true by simp[kJ]]at this
def zE{H H':au}{l:Addr}{as:List Addr}{kvs:List (Key×V)}(h:DT H H' l as kvs)(bH:aI H):aI H':=λb o e=>by
 rcases h.only b o e with z|rfl|⟨q,_,rfl⟩
 .exact bH b o z
 .rfl
 .rfl
def ny(H:au)(l:Addr)(ds:List bh)(f:bh->Str):Prop:=∃as:List Addr,H l\(.lst (as.map V.ref))/\↑as=↑ds/\∀(m:Nat) (a:Addr) (d:bh),as[m]?\a->ds[m]?\d->H a\(.tup [.str d.name,.str (f d)])
def ny.of{l:Addr}(h:DT H H' l as (hn ds f)):ny H' l ds f:=
 (as,h.at_,by rw[h.len];unfold hn;rw[aO],λm a d aV hd=>h.al m a (p'p (bx d.name) (.str (f d))) aV (by unfold hn;rw[dF,hd];rfl))
def ny.keep{l:Addr}(h:ny H l ds f)(af:∀u,H l\u->H' l\u)(aj:∀q xs,H q\(.tup xs)->H' q\(.tup xs)):ny H' l ds f:=by
 let(as,a1,a2,fo):=h;exact(as,af _ a1,a2,λm a d aV hd=>aj _ _ (fo m a d aV hd))
theorem ny.eq2{K:bg}{l cB:Addr}(h:ny H l ds f)(g:ny H cB ds f):gh K H 2 ⇑l ⇑cB true:=by
 let(as,aq,af,a1):=h;let(qs,aA,aj,a2):=g;have:=gh.lst (k:=1) (e:=λ_=>true) (aE.of (K:=K) aq) (aE.of aA) (by rw[aO,aO,af,aj]) (λj x y ae aJ=>by
  let(a,aV,rfl):=b_ ae;let(q,ay,rfl):=b_ aJ;have aN:j<↑ds:=by rw[<- af];exact(b3.mp aV).1
  have hd:ds[j]?\ds[j]:=bq aN;have:=gh.tup (k:=0) (e:=λ_=>true) (de.of (K:=K) (a1 j a _ aV hd)) (de.of (a2 j q _ ay hd)) (λj x y af aj=>by
   match j,af,aj with
   |0,af,aj=>cases af;cases aj;exact eq_str _
   |1,af,aj=>cases af;cases aj;exact eq_str _
   |j+2,af,_=>simp at af)
  exact this)
 rwa[show((gN ↑(as.map V.ref)).all λ_=>true)=true from oX.mpr λ_ _=>rfl]at this
def F4:ky X (.type "dict") (λxs H Q=>∃d kvs,xs=[⇑d]/\H d\(.aY kvs)/\∀p,H p=none->Q ⇑p (upd H p (.aY kvs))):=by
 intro aa s σ H xs us Q I r h;let(d,kvs,rfl,g6,q):=h;let(u,rfl,es):=lz r;cases es;exact Xr I (.inl g6) λp s' ag gF=>(⇑p,_,gF,rfl,q p ag)
def QC{n:Int}(h:∀d∈ds,k9 n d)(aJ:¬((1<=↑y/\↑y<=8)/\∀c∈y.cps.toList,97<=c/\c<=122)):qM ds y:=λd hd e=>aJ (by rw[<- e];exact pd (h d hd).nm)
def Rb{n:Int}(h:∀d∈ds,k9 n d){c:Nat}(aG:↑y<=40)(aw:c∈y.cps.toList)(a0:c<97)(aC:∀c∈y.cps.toList,c<=1000):nQ y/\qM ds y:=
 (((),λc aw=>by have:=aC c aw;omega),QC h λz=>by have:=z.2 c aw;omega)
def zj{x:Str}(h:made x kG 8=true):↑x<=8/\1<=↑x/\∀c∈x.cps.toList,c<=1000:=by
 let((af,aj),bb):=pd h;exact(aj,af,λc aw=>by have:=bb c aw;omega)
theorem ab6{n:Int}(h:∀d∈ds,k9 n d){x:Str}(ae:made x kG 8=true):nQ (lK x)/\qM ds (lK x):=by
 let((af,aj),bb):=pd ae;have e:(lK x).cps.toList=x.cps.toList.map λc=>c-32:=by unfold lK;simp
 have Vc:↑(lK x)=↑x:=by
  show(lK x).cps.size=x.cps.size;rw[<- so,e,aO,so]
 let(c,r,aw):∃c r,x.cps.toList=c::r:=by
  cases dQ:x.cps.toList with
  |nil=>
   have:x.cps.size=0:=by rw[<- so,dQ];rfl
   have af:1<=x.cps.size:=af;omega
  |cons c r=>exact(c,r,rfl)
 have uK:=bb c (by rw[aw];exact .head _);refine Rb h (c:=c-32) (by rw[Vc];omega) (by rw[e,aw];exact .head _) () λz aH=>?_
 rw[e]at aH;let(h9,g9,rfl):=cj.mp aH;have:=bb h9 g9;omega
def aca{n:Int}(h:∀d∈ds,k9 n d){x:Str}(ae:made x kG 8=true):nQ (ab "A"++x)/\qM ds (ab "A"++x):=by
 let(af,_,bb):=zj ae;have e:(ab "A"++x).cps.toList=65::x.cps.toList:=by rw[mx,og];rfl
 have Vc:↑(ab "A"++x)=↑x+1:=by
  show(ab "A"++x).cps.size=x.cps.size+1;rw[<- so,e,ih,so]
 refine Rb h (c:=65) () (by rw[e];exact .head _) ∅ λz aH=>?_
 rw[e]at aH;rcases e_.mp aH with z|z
 .omega
 .exact bb _ z
def XV{n:Int}(h:∀d∈ds,k9 n d):nQ (ab "")/\qM ds (ab ""):=
 ((∅,λc aw=>by rw[(∅:(ab "").cps.toList=[])]at aw;cases aw),QC h λz=>absurd z.1.1 ∅)
def Ti(h:xs[↑xs-1]?\v):fN xs (-1)\v:=by
 have aG:0<↑xs:=by have:=(b3.mp h).1;omega
 unfold fN oG;rw[if_neg ∅,if_pos ()];rw[show((-1+(↑xs:Int)).toNat)=↑xs-1 by omega];exact h
def asK(h0:0<=i)(af:i<3){p:Str->Prop}(eX:p v0)(d1:p v1)(dY:p v2):∃y,p y/\fN [V.str v0,V.str v1,V.str v2] i\(.str y):=by
 have:i=0\/i=1\/i=2:=()
 rcases this with rfl|rfl|rfl
 .exact (v0,eX,cf (j:=0) rfl)
 .exact (v1,d1,cf (j:=1) rfl)
 .exact (v2,dY,cf (j:=2) rfl)
noncomputable def px:Str:=ab "zzzzzzzzz"
noncomputable def R_(x:Str):Str:=ab "no "++x
def l4(H:au)(l:Addr)(ns:List Str)(f:Str->Int):Prop:=∃as:List Addr,H l\(.lst (as.map V.ref))/\↑as=↑ns/\∀(m:Nat) (a:Addr) (x:Str),as[m]?\a->ns[m]?\x->H a\(.tup [.str x,.int (f x)])
def l4.of{l:Addr}{ns:List Str}(h:DT H H' l as (dR ns λx=>.int (f x))):l4 H' l ns f:=
 (as,h.at_,by rw[h.len];unfold dR;rw[aO],λm a x aV hd=>h.al m a (p'p (bx x) (.int (f x))) aV (by unfold dR;rw[dF,hd];rfl))
def l4.same{l:Addr}{ns:List Str}(h:l4 H l ns f)(s:aS H H'):l4 H' l ns f:=by
 let(as,a1,a2,fo):=h;exact(as,s _ _ a1,a2,λm a d aV hd=>s _ _ (fo m a d aV hd))
def eq_int{K:bg}{k:Nat}(x:Int):gh K H k (.int x) (.int x) true:=by
 have:=gh.flat (K:=K) (H:=H) (k:=k) (x:=.int x) (y:=.int x) rfl rfl;rwa[show kJ (.int x) (.int x)=true by simp[kJ]]at this
theorem l4.eq2{K:bg}{l cB:Addr}{ns:List Str}(h:l4 H l ns f)(g:l4 H cB ns f):gh K H 2 ⇑l ⇑cB true:=by
 let(as,aq,af,a1):=h;let(qs,aA,aj,a2):=g;have:=gh.lst (k:=1) (e:=λ_=>true) (aE.of (K:=K) aq) (aE.of aA) (by rw[aO,aO,af,aj]) (λj x y ae aJ=>by
  let(a,aV,rfl):=b_ ae;let(q,ay,rfl):=b_ aJ;have aN:j<↑ns:=by rw[<- af];exact(b3.mp aV).1
  have hd:ns[j]?\ns[j]:=bq aN;exact gh.tup (k:=0) (e:=λ_=>true) (de.of (K:=K) (a1 j a _ aV hd)) (de.of (a2 j q _ ay hd)) (λj x y af aj=>by
   match j,af,aj with
   |0,af,aj=>cases af;cases aj;exact eq_str _
   |1,af,aj=>cases af;cases aj;exact eq_int _
   |j+2,af,_=>simp at af))
 rwa[show((gN ↑(as.map V.ref)).all λ_=>true)=true from oX.mpr λ_ _=>rfl]at this
theorem ac8{K:bg}{b gn l cB dp ef:Addr}{ns:List Str}(af:H b\(.tup [⇑l,⇑dp]))(aj:H gn\(.tup [⇑cB,⇑ef]))(i1:ny H l ds f)(i2:ny H cB ds f)(aq:l4 H dp ns g)(aA:l4 H ef ns g):gh K H 8 ⇑b ⇑gn true:=
 gh.tup (k:=7) (e:=λ_=>true) (de.of (K:=K) af) (de.of aj) (λj x y a b=>by
  match j,a,b with
  |0,a,b=>cases a;cases b;exact(i1.eq2 i2).mono ∅
  |1,a,b=>cases a;cases b;exact(aq.eq2 aA).mono ∅
  |j+2,a,_=>simp at a)
def aeb{x:Str}(ae:made x kG 8=true):lK x≠px:=λz=>by
 let((af,aj),bb):=pd ae;have e:↑(lK x)=↑x:=by
  show(lK x).cps.size=x.cps.size;unfold lK;simp
 have:↑(lK x)=9:=by rw[z];ac_nf
 omega
def acq{x:Str}:ab "A"++x≠px:=λz=>by
 have e:(ab "A"++x).cps.toList=65::x.cps.toList:=by rw[mx,og];rfl
 rw[z,(∅:px.cps.toList=[122,122,122,122,122,122,122,122,122])]at e;cases e
def VQ(P:Program)(w:World)(K:bg)(t:bO)(a:Addr)(ns:List Int):bW:=λvs H Q _=>∃turn:Int,∃r o s v wl ca a_ n ds rows,vs=[⇑a,.int turn,⇑r,⇑wl,⇑ca]/\Sc K a ns H/\(0<=turn/\turn<=100)/\jb H wl ds/\(∀d∈ds,k9 n d)/\(1<=↑ds/\↑ds<=12)/\f5 t (ds.map (·.name)) H r o s v/\hs P w t H o.aZ o.c n ds rows/\(∀d∈ds,told rows d.name=true)/\GB rows s/\H ca\(.aY (dz a_))/\(a_.map (·.1)).Nodup/\(∀p∈a_,p.1∈ds.map (·.name))/\∀H',aS H H'->aI H'->Q (.bC true) H'
def aqs{x:Str}(h:made x kG 8=true):nQ x:=by
 let(af,_,bb):=zj h;exact((),λc aw=>by have:=bb c aw;omega)
def asO (a:Addr) (ns:List Int) (hu:↑ns<=63) (cu:pe base t.qA Pt) (hM:base.BuiltinsAt mg Pt):cD P base T 7 t.Ho t.FP D1 (VQ P w K t a ns):=by
 refine cK (zI T a ns hu) λfe=>cK (Sx T) λGw=>cK (Sv T) λFQ=>?_;have ahK:cz P w K mg base (mm P w) 6 t.tY t.wk xP (Y1 P w K t):=amS T cu hM;exists T.H2.ok t6,9
 let(turn,r,o,s',v,wl,ca,a_,n,ds,rows,rfl,S,Bh,Kw,a6,e3,eT,dU,lS,lA,iP,eL,ru,q):=h;let(qs,rt,zW,x7):=Kw;have bp:=gI ao;have yo:=Ta ao;refine(_,(aP (b9 (i:=5) t6.aD (k8 F4 rfl T.P8 Kp (ah (J 4) aB)))
   (aP (b9 (i:=6) t6.aD (b7 dI (f_ (ah di (ah (o2 vi PySem.F.slot_str_upper PySem.F.type_str_upper anY (b7 fD (b7 dI (J 3) aK) aK)) (ah (bQ kT di (b7 fD (b7 dI (J 3) (Fb Em aK)) aK)) aB)))) (cJ fe ao T.f7 T.fA.bM T.fZ (ah (J 0) (ah (bQ eK aK (J 1)) (ah aK aB))))))
   (aP (mW bp (J 5) (J 6) (cJ fe ao T.f7 T.fA.bM T.fZ (ah (J 0) (ah (bQ eK aK (J 1)) (ah aK aB)))) rfl)
   (aP (mW bp (J 5) di aK rfl)
   (aP (b9 (i:=7) t6.aD (mj (ah (k8 (Bc rfl) rfl T.yi xo (ah (o2 sg x9 zQ jp (g0 (J 2) T.iw T.OG Gw ao T.IC .nil cv)) aB)) (ah (k8 (Bc rfl) rfl T.yi xo (ah (o2 sg x9 zQ jp (g0 (J 2) T.iw T.Ml FQ ao T.Qq .nil cv)) aB)) aB))))
   (aP (b9 (i:=8) t6.aD di)
   (aP (afR (i:=9) (λ_ _=>(_,(a4 (dV (aqT (J 2) T.iw T.Vo ahK ao T.ZF .nil amT (ah (J 5) aB)))),by first|rfl|(dsimp only[a3.jZ,a3.a0];done)|(dsimp only[a3.jZ,a3.a0];exact rfl))) rfl T.YE (λ_=>(_,(a4 (b9 (i:=8) t6.aD (bQ kT di (an_ (J 9) rfl)))),by first|rfl|(dsimp only[a3.jZ,a3.a0];done)|(dsimp only[a3.jZ,a3.a0];exact rfl))) t6.aD rfl rfl)
   (a4 (cA (xm (iz wf (J 8) (bQ kT di (J 6)) (cL _)) (vr (iz (aoq yo) (J 7) (mj (ah (k8 (Bc rfl) rfl T.yi xo (ah (o2 sg x9 zQ jp (g0 (J 2) T.iw T.OG Gw ao T.IC .nil cv)) aB)) (ah (k8 (Bc rfl) rfl T.yi xo (ah (o2 sg x9 zQ jp (g0 (J 2) T.iw T.Ml FQ ao T.Qq .nil cv)) aB)) aB))) (cL _))))))))))))),?_)
 let(i7,ke):∃d,ds[0]?\d:=(_,bq (show 0<↑ds by omega));let(FR,VO):∃d,ds[↑ds-1]?\d:=(_,bq (show ↑ds-1<↑ds by omega));have CD:=(a6 i7 (ct ke)).nm;have SJ:=(a6 FR (ct VO)).nm;let(sC,fU):∃q,qs[0]?\q:=(_,bq (show 0<↑qs by omega));let(uq,QO):∃q,qs[↑ds-1]?\q:=(_,bq (show ↑ds-1<↑qs by omega));have t0:=x7 0 _ _ fU ke;have tz:=x7 _ _ _ QO VO;let(oh,zV):=arK CD;have small:∀k:Nat,k<=10000->k<=sizeLine:=λk h=>c9 h ∅
 exists (λav H'=>aS H H'/\Sc K a ns H'/\∃ag,H ag=none/\H' ag\(.aY (dz a_))/\av=[~~~a,some (.int turn),~~~r,~~~wl,~~~ca,~~~ag,none,none,none,none]),3
 .nofun;exact(_,iP,λl aG=>cw _ _ (bk aG,S.new aG,l,aG,aM,rfl))
 intro amk bU (s0,u0,ag,rq,gv,rfl);subst aW;exists (λav H'=>aS bU H'/\Sc K a ns H'/\∃y,((nQ y/\qM ds y)/\y≠px)/\av=[~~~a,some (.int turn),~~~r,~~~wl,~~~ca,~~~ag,some (.str y),none,none,none]),3
 ·(nofun; repeat (dsimp only[iv];nofun));simp only[aae];nofun;have Xe:=(zj CD).1;have auk:=(zj SJ).1;have ajT:fN (qs.map V.ref) 0\⇑sC:=cf (j:=0) (by rw[dF,fU];rfl);have apA:fN (qs.map V.ref) (-1)\⇑uq:=Ti (by rw[aO,zW,dF,QO];rfl);have atH:↑(ab "A")=1:=∅
  refine(_,aE.of (s0 _ _ rt),_,ajT,_,rfl,_,de.of (s0 _ _ t0),_,cf (j:=1) rfl,trivial,_,rfl,zV,_,aE.of (s0 _ _ rt),_,apA,_,rfl,_,de.of (s0 _ _ tz),_,cf (j:=1) rfl,_,rfl,small _ (),∅,λp ag=>(u0.new ag,(),(),∅,?_));let(y,aJ,asq):=asK (hU ns (1500+turn) (m:=3) ∅) (hO ns (1500+turn) (m:=3) ∅) (p:=λy=>(nQ y/\qM ds y)/\y≠px) (XV a6,∅) (v1:=xd i7.name) (by rw[oh];exact ab6 a6 CD,by rw[oh];exact aeb CD) (aca a6 SJ,acq);exact(_,aE.of aM,_,asq,cw _ _ (bk ag,u0.new ag,y,aJ,rfl))
 intro fO H1 (s1,l9,y,((P9,R7),alb),rfl);have kE:=s1 _ _ gv;have PE:=s0.trans s1;have apc:y∉a_.map (·.1):=λz=>by
  let(p,ag,rfl):=cj.mp z;let(d,hd,e):=cj.mp (ru p ag);exact R7 d hd e
 have aoZ:↑a_<=12:=by
  have:=ww (l':=ds.map (·.name)) eL (λx ae=>by
   let(p,ag,rfl):=cj.mp ae;exact ru p ag)
  rw[aO,aO]at this;omega
 subst aW;exists (λav H'=>aS H H'/\Sc K a ns H'/\(∃g,H' ag\(.aY (dz (a_++[(p'p y g)]))))/\av=[~~~a,some (.int turn),~~~r,~~~wl,~~~ca,~~~ag,some (.str y),none,none,none]),3
 ·(nofun; repeat (dsimp only[iv];nofun));refine(l9,(),(),∅,_,h6.k (k:=bx y) kE (by unfold dz;rw[aO];exact fW aoZ ∅),cw _ _ (PE.gW rq,l9.set kE (by intro _ _ z;cases z),(dS ns (1600+turn) 3,?_),rfl));rw[aM,Mo apc]
 intro cO ar (s2,oQ,(g,g4),rfl);have Rr:↑px=9:=∅
 have zn:px∉(a_++[(p'p y g)]).map (·.1):=λz=>by
  rw[fg]at z;rcases ff.mp z with z|z
  .let(p,ag,e):=cj.mp z;let(d,hd,br):=cj.mp (ru p ag);have:=(zj (a6 d hd).nm).1;rw[br,e,Rr]at this;omega
  .exact alb (eg.mp z).symm
 have ane:nQ px:=(by rw[Rr];decide,∅);subst aW;exists (λav H'=>aS H H'/\Sc K a ns H'/\H' ag\(.aY (dz ((a_++[(p'p y g)])++[(p'p px 1)])))/\av=[~~~a,some (.int turn),~~~r,~~~wl,~~~ca,~~~ag,some (.str y),none,none,none]),3
 .nofun;refine(_,h6.k (k:=bx px) g4 (by unfold dz;rw[aO,dx,qf];exact fW (show _<=13 by omega) ∅),cw _ _ (s2.gW rq,oQ.set g4 (by intro _ _ z;cases z),?_,rfl));rw[aM,Mo zn]
 intro fR ba (s3,y',BA,rfl);subst aW;exists (λav H'=>aS ba H'/\aI H'/\∃tp l dp,H' tp\(.tup [⇑l,⇑dp])/\ny H' l ds (hy n ds rows s')/\l4 H' dp (ds.map (·.name)) v.st/\av=[~~~a,some (.int turn),~~~r,~~~wl,~~~ca,~~~ag,some (.str y),~~~tp,none,none]),3
 .nofun;have uZ:=eT.same s3;let(sS,mX):=uZ.at_;refine⟨_,_,mX,qe _ _ _ _ _ ∅,(ds.map (·.name)),r,o,s',v,n,ds,rows,rfl,uZ,dU.same s3,lS,lA,y'.bH,λp H1 nX z2 ag j_=>(.inr (.inr (.inl (.inl (_,j_)))),p,rfl,_,j_,λcW ay=>(_,aM,_,(bk ay) _ _ j_,λl as ar t7=>?_))⟩;have yc:=(nX.trans (bk ay)).trans t7.same;have KI:=zE t7 z2.upd;have yI:=uZ.same yc;let(WQ,eq):=yI.at_;refine⟨_,_,eq,qe _ _ _ _ _ ∅,(ds.map (·.name)),r,o,_,_,rfl,yI,by rw[aO];exact e3.2,λjW cm A7 zC xZ rz=>(.inr (.inr (.inl (.inl (_,rz)))),jW,rfl,_,rz,λcX jN=>(_,aM,_,(bk jN) _ _ rz,λcB T8 cG o3=>(∅,λtp tU=>?_)))⟩;have s8:=((A7.trans (bk jN)).trans o3.same).trans (bk (o:=.tup [⇑l,⇑cB]) tU);exact cw _ _ (yc.trans s8,(zE o3 (zC KI).upd).upd,tp,l,cB,aM,(ny.of t7).keep (λu e=>s8 _ _ e) (λq xs e=>s8 _ _ e),(l4.of o3).same (bk tU),rfl)
 intro km cm (s4,dh,tp,Yw,gZ,XR,Sl,acy,rfl);subst aW;exists (λav H'=>H'=cm/\av=[~~~a,some (.int turn),~~~r,~~~wl,~~~ca,~~~ag,some (.str y),~~~tp,some (.str (ab "none")),none]),3
 .nofun;exact cw _ _ (rfl,rfl)
 intro nW cG (rfl,rfl);subst aW;exists (λav H'=>aS H H'/\(∀b u,b≠ag->cG b\u->H' b\u)/\aI H'/\∃aai,av=[~~~a,some (.int turn),~~~r,~~~wl,~~~ca,~~~ag,some (.str y),~~~tp,some (.str (R_ y)),aai]),3
 .nofun;have M6:=s3.trans s4;have gD:=eT.same M6;let(sS,mX):=gD.at_;let(_,_,_,_,_,_,_,_,_,_,aab,_):=id dU;have rg:ag≠r:=λz=>by
   let(_,e):=eT.at_;rw[<- z,rq]at e;cases e
  refine(_,_,mX,qe _ _ _ _ _ ∅,H,r,o,s',v,n,ds,ag,(a_++[(p'p y g)])++[(p'p px 1)],↑a_,(p'p y g),rfl,gD,aab,M6,rq,s4 _ _ BA,λp ag=>?_,?_,λj p aN ag=>?_,R7,dh,rg,λat8 H' bo asm hd=>?_)
  .rcases ff.mp ag with ag|ag
   .rcases ff.mp ag with ag|ag
    .let(d,hd,e):=cj.mp (ru p ag);rw[<- e];exact aqs (a6 d hd).nm
    .rw [eg.mp ag];exact P9
   .rw [eg.mp ag];exact ane
  .rw [oj,nj (b1 _),Cr];rfl
  .rw [oj,nD aN]at ag;exact ru p (ct ag)
  nofun;refine(_,rfl,T.aqI,λe he=>?_);nofun;exact(_,_,he,_,hd,T.EV,T.Z6,_,rfl,_,rfl,small _ (by have:↑(p'p y g).fst<=1000:=P9.1;rw[(∅:↑(ab "no ")=3)];omega),cw _ _ (λb u e=>bo _ _ (du e rq) (M6 _ _ e),λb u U e=>bo _ _ U e,asm,_,rfl))
 intro mb fl (f9,kQ,hB,aai,rfl);subst aW;nofun;refine(small _ (by have:=P9.1;rw[(∅:↑(ab "no ")=3)];omega),?_);rw[show decide (R_ y=ab "no "++y)=true from decide_eq_true rfl,if_pos rfl];have z9:=eT.same f9;let(sS,mX):=z9.at_;refine⟨_,_,mX,qe _ _ _ _ _ ∅,(ds.map (·.name)),r,o,s',v,n,ds,rows,rfl,z9,dU.same f9,lS,lA,hB,λp H1 nX z2 as_ PK=>(.inr (.inr (.inl (.inl (_,PK)))),p,rfl,_,PK,λcW ay=>(_,aM,_,(bk ay) _ _ PK,λl as ar t7=>?_))⟩;have yc:=(nX.trans (bk ay)).trans t7.same;have KI:=zE t7 z2.upd;have yI:=z9.same yc;let(WQ,eq):=yI.at_;refine⟨_,_,eq,qe _ _ _ _ _ ∅,(ds.map (·.name)),r,o,_,_,rfl,yI,by rw[aO];exact e3.2,λjW cm A7 zC xZ rz=>(.inr (.inr (.inl (.inl (_,rz)))),jW,rfl,_,rz,λcX jN=>(_,aM,_,(bk jN) _ _ rz,λcB T8 Us o3=>(∅,λagd tU=>?_)))⟩;have s8:=((A7.trans (bk jN)).trans o3.same).trans (bk (o:=.tup [⇑l,⇑cB]) tU);have adh:tp≠ag:=bI XR (s4 _ _ BA) (by intro z;cases z);have AJ:∀{b:Addr} {u:dJ},b≠ag->cG b\u->upd Us agd (.tup [⇑l,⇑cB]) b\u:=λ{b u} U e=>(yc.trans s8) _ _ (kQ _ _ U e)
 have abM:∀{q:Addr} {xs:List V},cG q\(.tup xs)->q≠ag:=λ{q xs} e=>bI e (s4 _ _ BA) (by intro z;cases z)
 refine(_,ac8 (AJ adh XR) aM (Sl.keep (λu e=>AJ ?_ e) (λq xs e=>AJ (abM e) e)) ((ny.of t7).keep (λu e=>s8 _ _ e) (λq xs e=>s8 _ _ e)) ?_ ((l4.of o3).same (bk tU)),q _ (f9.trans (yc.trans s8)) (zE o3 (zC KI).upd).upd)
 .let(RM,a1,_):=id Sl;exact bI a1 (s4 _ _ BA) (by intro z;cases z)
 .let(RM,a1,a2,fo):=acy;exact(RM,AJ (bI a1 (s4 _ _ BA) (by intro z;cases z)) a1,a2,λm b x af aj=>AJ (abM (fo m b x af aj)) (fo m b x af aj))
def aqN{ns:List Str}(aD:ns.Nodup){x:Str}(ae:ns[i]?\x):x∉ns.take i:=λz=>by
 let(j,aN):=iH z;have zl:j<i:=by
  have:=(b3.mp aN).1;rw[hb]at this;omega
 rw[r7 zl]at aN;let(d1,dY):=b3.mp aN;let(bT,cX):=b3.mp ae;have:=(sP (h₀:=d1) (h₁:=bT) aD).mp (dY.trans cX.symm);omega
def gS.add {ns:List Str} {ld:Addr} {aL:Str->Addr} {lo:Str->List (Int×Int)} (h:gS H ns ld aL cU lo) {x:Str} (ae:x∈ns) {q:Addr} (ay:H q=none):gS (upd (upd H q (.lst [.int y.1,.int y.2])) (aL x) (.lst ((cU x).map V.ref++[⇑q]))) ns ld aL (cH cU x (cU x++[q])) (cH lo x (lo x++[y])):=by
 have old:∀{b:Addr},hh ns ld aL cU b->b≠q:=λ{b} U z=>by
  rcases h.sq U with⟨_,e⟩|⟨_,e⟩ <;> rw[z,ay]at e <;> cases e
 have iS:∀z,∀b∈cH cU x (cU x++[q]) z,b∈cU z\/(z=x/\b=q):=λz b U=>by
  by_cases c:z=x
  .subst c;rw[eC]at U;rcases ff.mp U with m|m
   .exact .inl m
   .exact .inr (rfl,eg.mp m)
  .rw [d_ c]at U;exact .inl U
 have bX:∀{b:Addr} {u:dJ},b≠aL x->b≠q->H b\u->upd (upd H q (.lst [.int y.1,.int y.2])) (aL x) (.lst ((cU x).map V.ref++[⇑q])) b\u:=λaf aj e=>by rw[ax af,ax aj];exact e
 have ajk:aL x≠q:=old (.inr (x,ae,.inl rfl));refine(bX (bI h.d (h.l x ae) (by intro z;cases z)) (old (.inl rfl)) h.d,λz aH=>?_,λz aH=>?_,λz aH i b oy aq aA=>?_,h.inj,λz aH=>?_,λz aH u bp n b U fv=>?_,λz aH u bp hm=>?_)
 .by_cases c:z=x
  .subst c;rw[aM,eC,fg];rfl
  .rw [d_ c];exact bX (λe=>c (h.inj z aH x ae e)) (old (.inr (z,aH,.inl rfl))) (h.l z aH)
 .by_cases c:z=x
  .subst c;rw[eC,eC,dx,dx,h.n z aH];rfl
  .rw [d_ c,d_ c];exact h.n z aH
 .by_cases c:z=x
  .subst c;rw[eC]at aq aA;rcases j4 aq with⟨_,f1⟩|⟨f1,rfl⟩
   .rcases j4 aA with⟨_,f2⟩|⟨f2,_⟩
    .exact bX (λe=>h.ne z aH z aH (by rw[<- e];exact ct f1)) (old (.inr (z,aH,.inr (ct f1)))) (h.q z aH i b oy f1 f2)
    .have:=(b3.mp f1).1;have:=h.n z aH;omega
   .rcases j4 aA with⟨f2,_⟩|⟨_,rfl⟩
    .have:=h.n z aH;omega
    .rw [ax (cT ajk),aM]
  .rw [d_ c]at aq aA;exact bX (λe=>h.ne x ae z aH (by rw[<- e];exact ct aq)) (old (.inr (z,aH,.inr (ct aq)))) (h.q z aH i b oy aq aA)
 .by_cases c:z=x
  .subst c;rw[eC];refine z8.mpr (h.aD z aH,by simp,λb U c aw e=>?_);rw[eg.mp aw]at e;exact old (.inr (z,aH,.inr U)) e
  .rw [d_ c];exact h.aD z aH
 .rcases iS z b U with m|⟨rfl,rfl⟩
  .rcases iS u b fv with c3|⟨rfl,rfl⟩
   .exact h.s_ z aH u bp n b m c3
   .exact old (.inr (z,aH,.inr m)) rfl
  .rcases iS u b fv with c3|⟨rfl,_⟩
   .exact old (.inr (u,bp,.inr c3)) rfl
   .exact n rfl
 .rcases iS u (aL z) hm with m|⟨rfl,e⟩
  .exact h.ne z aH u bp m
  .exact old (.inr (z,aH,.inl rfl)) e
def aj7(v:ix)(a_:List (Str×Int))(p:Str×Int):jo v (a_++[p])=kR (jo v a_) p.1 p.2:=by unfold jo;rw[q4];rfl
theorem Ij:∀(a_:List (Str×Int)) (v:ix),(jo v a_).bY=v.bY
 |[],_=>rfl
 |p::a_,v=>(Ij a_ (kR v p.1 p.2)).trans (Tg v p.1 p.2)
theorem Pu{ns:List Str}:∀(a_:List (Str×Int)) (v:ix) (done:List Str),l5 ns v done->(a_.map (·.1)).Nodup->(∀p∈a_,p.1∉done)->l5 ns (jo v a_) (done++a_.map (·.1))
 |[],v,done,h,_,_=>by rw[p_,oE];exact h
 | p::a_,v,done,h,aD,hd=>by
  rw[e1,qp]at aD;have:=Pu a_ (kR v p.1 p.2) (done++[p.1]) (h.abJ (hd p (.head _))) aD.2 (λz aH m=>by
   rcases ff.mp m with m|m
   .exact hd z (.tail _ aH) m
   .exact aD.1 (by rw[<- eg.mp m];exact cj.mpr (z,aH,rfl)))
  rw[oj]at this;exact this
theorem ja.eq{K:bg}{p dY:Addr}(h:ja H p qs ws)(g:ja H dY rK ws):gh K H 8 ⇑p ⇑dY true:=by
 let(aq,af,a1):=h;let(aA,aj,a2):=g;have:=gh.lst (k:=7) (e:=λ_=>true) (aE.of (K:=K) aq) (aE.of aA) (by rw[aO,aO,af,aj]) (λj x y ae aJ=>by
  let(a,aV,rfl):=b_ ae;let(q,ay,rfl):=b_ aJ;have aN:j<↑ws:=by rw[<- af];exact(b3.mp aV).1
  have hd:ws[j]?\ws[j]:=bq aN;exact gh.tup (k:=6) (e:=λ_=>true) (de.of (K:=K) (a1 j a _ aV hd)) (de.of (a2 j q _ ay hd)) (λj x y af aj=>by
   match j,af,aj with
   |0,af,aj=>cases af;cases aj;exact eq_str _
   |1,af,aj=>cases af;cases aj;exact eq_int _
   |2,af,aj=>cases af;cases aj;exact eq_int _
   |j+3,af,_=>simp at af))
 rwa[show((gN ↑(qs.map V.ref)).all λ_=>true)=true from oX.mpr λ_ _=>rfl]at this
structure vL(t:bO)(ds:List bh)(rows:List ST)(ej:au)(Pt bK:Addr)(fk:CK)(ld:Addr)(aL:Str->Addr)(cU:Str->List Addr)(s:gy)(v:ix)(H:au):Prop where
 bH:aI H
 bo:aS (jf ej) H
 bZ:lu Pt H
 hq:f5 t (ds.map (·.name)) H bK fk s v
 ln:gS H (ds.map (·.name)) ld aL cU v.lo
 yx:∀b,hh (ds.map (·.name)) ld aL cU b->¬Own (ds.map (·.name)) bK fk b/\b≠Pt/\jf ej b=none
 xb:zi (ds.map (·.name)) v.bY v
 t0:0<=v.bY
 Dh:kI ds rows s
 wU:∀x∈ds.map (·.name),∀p∈v.lo x,p.2<=1000000000
theorem vL.same{t:bO}{rows:List ST}{ld:Addr}{aL:Str->Addr}(h:vL t ds rows ej Pt bK fk ld aL cU s v H)(e:aS H H')(bH:aI H'):vL t ds rows ej Pt bK fk ld aL cU s v H':=
 (bH,h.bo.trans e,h.bZ.step e,h.hq.same e,h.ln.same e,h.yx,h.xb,h.t0,h.Dh,h.wU)
def vL.out{t:bO}{rows:List ST}{ld:Addr}{aL:Str->Addr}(h:vL t ds rows ej Pt bK fk ld aL cU s v H)(e:H b=none):¬(Own (ds.map (·.name)) bK fk b\/b=Pt)/\jf ej b=none/\¬hh (ds.map (·.name)) ld aL cU b:=by
 refine(λz=>?_,h.bo.free e,λz=>?_)
 .rcases z with z|z
  .let(u,gA,_):=h.hq.has z;rw[e]at gA;cases gA
  .let(ps,br,_):=h.bZ;rw[<- z,e]at br;cases br
 .rcases h.ln.sq z with⟨_,br⟩|⟨_,br⟩ <;> rw[e]at br <;> cases br
theorem Z5:∀(l:List (Int×Int)) (left:Int),(∀p∈l,p.2<=B)->∀p∈(er left l).2,p.2<=B
 |[],_,_=>λp ag=>by cases ag
 | x::l,left,h=>λp ag=>by
  rw[RL]at ag;have h0:=h x (.head _);have aG:∀p∈l,p.2<=B:=λp m=>h p (.tail _ m)
  split at ag
  .exact h p ag
  .split at ag
   .exact Z5 l _ aG p ag
   .rcases e_.mp ag with e|e
    .rw [e];show x.2-left<=B;omega
    .exact aG p e
theorem Xy{ns:List Str}:∀(a_:List (Str×Int)) (v:ix),(∀x∈ns,∀p∈v.lo x,p.2<=B)->(∀q∈a_,q.2<=B)->∀x∈ns,∀p∈(jo v a_).lo x,p.2<=B
 |[],_,h,_=>h
 | q :: a_,v,h,ay=>Xy a_ (kR v q.1 q.2) (λx ae p ag=>by
   unfold kR at ag;split at ag
   .have ag:p∈cH v.lo q.1 (v.lo q.1++[(p'p v.bY q.2)]) x:=ag;by_cases c:x=q.1
    .subst c;rw[eC]at ag;rcases ff.mp ag with m|m
     .exact h _ ae p m
     .rw [eg.mp m];exact ay q (.head _)
    .rw [d_ c]at ag;exact h x ae p ag
   .exact h x ae p ag) (λz m=>ay z (.tail _ m))
theorem ZC{ns:List Str}(fr:Str->Bool):∀(ds:List bh) (z:ix×List (Str×Int×Int)),(∀x∈ns,∀p∈z.1.lo x,p.2<=B)->∀x∈ns,∀p∈(ds.foldl (l8 fr) z).1.lo x,p.2<=B
 |[],_,h=>h
 | d::ds,z,h=>ZC fr ds (l8 fr z d) (λx ae p ag=>by
   unfold l8 at ag;split at ag
   .have ag:p∈cH z.1.lo d.name (er (ht d (z.1.st d.name)) (z.1.lo d.name)).2 x:=ag;by_cases c:x=d.name
    .subst c;rw[eC]at ag;exact Z5 _ _ (h _ ae) p ag
    .rw [d_ c]at ag;exact h x ae p ag
   .exact h x ae p ag)
theorem RY:∀(l:List (Int×Int)),(l.map (·.2)).sum=ed l
 |[]=>rfl
 |p::l=>by rw[e1,Jw,RY l];rfl
def aqo(h:(a_.map (·.1)).Nodup):((dz a_).map (·.1)).Nodup:=by
 have e:(dz a_).map (·.1)=(a_.map (·.1)).map bx:=by unfold dz;rw[oN,oN];rfl
 rw[e];exact atk _ (λa b h e=>h (pP e)) h
def aax(K:bg)(Pt:Addr):bW:=λvs H Q _=>∃a ns,vs=[⇑a]/\Sc K a ns H/\↑ns<=63/\lu Pt H/\∀H',Q (.bC true) H'
theorem aiQ {Pt:Addr} (cu:pe base t.qA Pt) (hM:base.BuiltinsAt mg Pt):cD P base T 12 t.Kj t.DM ["_law_script"] (aax K Pt):=by
 exists T.ahb.ok k0,9
 let(a,ns,rfl,u0,hu,alg,q):=h;have bp:=gI ao;have yo:=Ta ao;have fe:cz P w K mg base dy 11 t.BL t.Be zT (iv K a ns):=(zI T a ns hu).mono ∅;have ain:cz P w K mg base dy 11 t.Gd t.lm Gb (VY K a ns):=(alJ T a ns hu).mono ∅;have aji:cz P w K mg base dy 11 t.C6 t.Hc Ej (WX K):=(apz T).mono ∅;have ak2:cz P w K mg base dy 11 t.Eh t.BZ ["text"] (Rj t):=(ac9 T).mono ∅;have adm:cz P w K mg base dy 11 t.FC t.D5 B3 (aaS K):=(aqU T).mono ∅;have afs:cz P w K mg base dy 11 t.EU t.E' D3 S4:=(amD T).mono ∅;have ahE:cz P w K mg base dy 11 t.Ba t.yH Ae (TR P w t):=(ajB T).mono ∅;have an2:cz P w K mg base dy 11 t.DF t.EG Cc (aan K a ns):=(ajz T a ns hu).mono ∅;have adO:cz P w K mg base dy 10 t.Bp t.Et qZ (TV P w t):=(aeM T).mono ∅;have Gw:cz P w K mg base dy 11 t.BG t.FD ["self"] (Ev P w t):=(Sx T).mono ∅;have FQ:cz P w K mg base dy 11 t.AS t.Dc ["self"] (aby t):=(Sv T).mono ∅;have aes:cz P w K mg base dy 11 t.tY t.wk xP (WG P w K t Pt):=(ags T cu hM).mono ∅;have ajR:cz P w K mg base dy 11 t.Ho t.FP D1 (VQ P w K t a ns):=(asO T a ns hu cu hM).mono ∅;have aew:cz P w K mg base dy 11 t.Fi t.G4 F8 Ym:=(aiT T).mono ∅;refine(_,(aP (F7 (cJ ain ao T.WF T.cr.bM T.alD (ah (J 0) (ah aK aB))) (mw (K:=K) (n:=2) rfl rfl (fJ (cy (i:=1) k0.aD) (fJ (cy (i:=2) k0.aD) mS))))
   (aP (b9 (i:=3) k0.aD (cJ adm ao T.aqB T.Ki.bM T.ahG (ah (J 0) (ah (J 1) (ah (J 2) aB)))))
   (aP (b9 (i:=4) k0.aD (s7 T.asr adO ao rfl T.alc T.aex .nil cv (ah (cJ ahE ao T.amv T.IX.bM T.ak7 (ah (cJ ak2 ao T.ahR T.Ju.bM T.ak8 (ah (cJ aji ao T.ahQ T.HU.bM T.acY (ah (J 1) (ah (J 2) aB))) aB)) (ah (cJ afs ao T.agZ T.JA.bM T.arP (ah (J 2) (ah (J 3) aB))) aB))) aB)))
   (aP (rH (i:=5) k0.aD rfl (oJ rfl) sf)
   (aP (fh fK rfl (eQ (J 2)) (cy (i:=6) k0.aD) (a4 (mW bp (J 5) (b7 fD (J 6) aK) (f_ aB) rfl)))
   (aP (fh fK rfl (p2 rfl T.qh (ah aK aB)) (cy (i:=7) k0.aD) (aP (b9 (i:=8) k0.aD (cJ an2 ao T.aoA T.MY.bM T.apW (ah (J 0) (ah (J 7) (ah (J 2) aB)))))
   (aP (d5 (gL.pt (r4 (dk wf (cJ fe ao T.f7 T.fA.bM T.fZ (ah (J 0) (ah (bQ eK aK (J 7)) (ah aK aB)))) aK (cL _)) (sJ (uL (pM (cJ ajR ao T.afm T.H2.bM T.aeg (ah (J 0) (ah (J 7) (ah (J 4) (ah (J 2) (ah (J 8) aB))))))))))) (a4 (cA mN)) eV)
   (aP (b9 (i:=9) k0.aD (g0 (J 4) T.iw T.OG Gw ao T.IC .nil cv))
   (aP (b9 (i:=10) k0.aD (k8 F4 rfl T.P8 Kp (ah (J 8) aB)))
   (aP (b9 (i:=11) k0.aD (eO (J 4) T.iw T.Vo aes ao T.ZF .nil cv (ah (J 10) aB)))
   (aP (d5 (gL.pt (tm (dk (alX bp) (J 10) (J 8) (cL _)) (uW (uL (pM (gC anD rfl T.aq7 agQ (ah (J 11) (ah (agV (v:=.ty "list") rfl T.yi xo rfl) aB)))))))) (a4 (cA mN)) eV)
   (aP (xV (fh fK rfl (acL (o2 sg x9 zQ jp (J 8))) (mw (K:=K) (n:=2) rfl rfl (fJ (cy (i:=12) k0.aD) (fJ (cy (i:=13) k0.aD) mS))) (a4 (d5 (dk oo (J 13) aK (cL _)) (a4 (dV (gq hJ kY lT kW (iM bp (J 5) (J 12) (λ_ _=>rfl)) (ah (f_ (ah (J 7) (ah (J 13) aB))) aB)))) eV))))
   (aP (d5 (dk (Xm yo) (J 11) (cJ aew ao T.aoK T.NL.bM T.aie (ah (J 2) (ah (J 5) (ah (J 9) aB)))) (cL _)) (a4 (cA mN)) eV)
   (aP (dV (o2 sg Xd amx Xj (J 10)))
   (aP (dV (o2 hJ Ua aoI Zk (J 11)))
   (aP (dV (o2 sg Xd amx Xj (J 9)))
   (aP (CR (i:=14) k0.aD rfl (n2 rfl) rfl (eQ (J 2)) (Gc (sc:=bD (top 76)) rfl ∅) (N:=N9) (sel:=[none,some 5]) (g_ (M:=["_law_script","_law_places","_law_ways_here","_law_stages_here","_law_road","_law_lines","_law_way","_law_turn","_law_comings_here","_law_row","_law_handed","_law_found","_law_name","_law_many","_law_due","_law_stood"]) ∅) (fT.of (λ_ _ _ _=>(cy (i:=0) (eZ (N:=N9) ∅ rfl))) (λ_ _ _ _=>(_,i',by walk_at "B")) (λ_ _ _ _=>(_,(mj (ah (b7 fD (J 0) aK) (ah (gC (aq4 rfl) rfl T.as3 akd (ah (h_ rfl (eQ (iM bp (J 1) (b7 fD (J 0) aK) (λ_ _=>rfl))) (Gc (sc:=_) rfl (by first|ac_nf|exact rfl)) (N:=["_law_one"]) (sel:=[none]) (g_ (M:=N9) ∅) (fT.of (λ_ _ _ _=>(cy (i:=0) (eZ (N:=["_law_one"]) ∅ rfl))) (λ_ _ _ _=>(_,i',by walk_at "B")) (λ_ _ _ _=>(_,(b7 dI (J 0) aK),by walk_at "B")))) aB)) aB))),by walk_at "B"))) rfl)
   (aP (b9 (i:=15) k0.aD (g0 (J 4) T.iw T.Ml FQ ao T.Qq .nil cv))
   (aP (d5 (dk (Xm yo) (k8 (Bc rfl) rfl T.yi xo (ah (o2 sg x9 zQ jp (J 15)) aB)) (J 14) (cL _)) (a4 (cA mN)) eV)
   (a4 (mW bp (J 15) (b7 fD (b7 dI (J 2) aK) aK) (Fb Em aK) rfl)))))))))))))))))
   (a4 (cA mN)))))))),?_)
 exists (λav H'=>aS H H'/\Sc K a ns H'/\∃wl n ds,jb H' wl ds/\tN n ds/\(∀d∈ds,d.least<=4)/\(4<=n/\n<=99)/\(1<=↑ds/\↑ds<=6)/\av=[~~~a,some (.int n),~~~wl,none,none,none,none,none,none,none,none,none,none,none,none,none]),3
 .nofun;exact(5,rfl,∅,u0,λiZ wl n ds H' s1 l9 aq L D hle a0 aG=>(iZ,rfl,_,de.of aq,rfl,_,_,rfl,_,_,rfl,rfl,cw _ _ (s1,l9,wl,n,ds,L,D,hle,a0,(),rfl)))
 intro fO H1 (s1,l9,wl,n,ds,L,D,hle,a0,e3,rfl);have ac0:∀{bf:List iu},Fx n ds bf->e9 n ds bf:=λh=>(D.aD,h,e3.2,e3.1,λd hd=>(D.al d hd).1)
 subst aW;exists (λav H'=>aS H1 H'/\Sc K a ns H'/\∃d1 bT iJ c2,pG H' d1 bT iJ c2/\e9 n ds c2/\av=[~~~a,some (.int n),~~~wl,~~~d1,none,none,none,none,none,none,none,none,none,none,none,none]),3
 .nofun;exact(a,ns,n,wl,ds,rfl,hu,l9.seq,l9.bH,L,D,hle,(),λd1 bT iJ c2 H' s3 c7 Lp ab2=>cw _ _ (s3,l9.same s3 c7,d1,bT,iJ,c2,Lp,ac0 ab2,rfl))
 intro cO ar (s2,oQ,d1,bT,iJ,c2,Lp,X,rfl);have L2:=L.same s2;have R:=X.ab_;have bX:0<↑c2:=VX.mpr X.ne;have VE:=bq bX;have n3:=R.cI _ (cj.mpr (_,mL bX,rfl));subst aW;exists (λav hP=>∃ej p' c bK fk,aS ar ej/\Sc K a ns ej/\hs P w t ej p' c n ds (d9 ds c2)/\aS ej hP/\aI hP/\(∀b,Own (ds.map (·.name)) bK fk b->ej b=none)/\fk.aZ=p'/\fk.c=c/\f5 t (ds.map (·.name)) hP bK fk (BC ds (qi ds c2[0])) (0,λ_=>0,λ_=>[])/\av=[~~~a,some (.int n),~~~wl,~~~d1,~~~bK,none,none,none,none,none,none,none,none,none,none,none]),3
 .nofun;refine(n,wl,ds,rfl,L2,D,(),(),oQ.bH,n,ds,rfl,D.aao () (),oQ.bH,λc H' s3 c7 wx=>(wl,ds,d1,bT,iJ,c2,rfl,L2.same s3,Lp.same s3,X.lg,c7,c,n,ds,c2,rfl,wx,a0,X,c7,λp' ej s5 fC dU=>?_));intro r sS ao Af aeq;have bo:aS ej (upd (upd ej sS (.own r)) r (.ins t.f3 sS [])):=(bk Af).trans (bk (by rw[ax (cT aeq)];exact ao));refine(ej,r,sS,p',c,n,ds,_,_,rfl,aM,dU,bo,ao,S_ VE,n3,fC.upd.upd,λo H' aiY aks fr ah1 aw eT=>(rfl,cw _ _ (ej,p',c,r,o,s3.trans s5,oQ.same (s3.trans s5) fC,dU,λb u e=>aiY _ _ (du e ao) (bo _ _ e),aks,λb U=>?_,ah1,aw,eT,rfl)));by_cases z:b=r
  .rw [z];exact ao
  .exact bo.free (fr b U z)
 intro fR hP (ej,p',c,bK,fk,pI,Sg,dU,sB,kL,acf,ML,JZ,vn,rfl);subst aW;exists (λav H'=>∃ld,hP ld=none/\aS hP H'/\aI H'/\H' ld\(.aY [])/\av=[~~~a,some (.int n),~~~wl,~~~d1,~~~bK,~~~ld,none,none,none,none,none,none,none,none,none,none]),3
 .nofun;exact λld kZ=>cw _ _ (ld,kZ,bk kZ,kL.upd,aM,rfl)
 intro km vJ (ld,kZ,my,abZ,oP,rfl);have an3:aS ej vJ:=sB.trans my;have eL:(ds.map (·.name)).Nodup:=D.aD;let(ta,rt,zW,x7):=(L2.same pI).same an3;subst aW;exists (λav H'=>aS hP H'/\aI H'/\(∃aL:Str->Addr,H' ld\(.aY (dR (ds.map (·.name)) λx=>⇑(aL x)))/\(∀x∈ds.map (·.name),vJ (aL x)=none/\H' (aL x)\(.lst []))/\∀x∈ds.map (·.name),∀y∈ds.map (·.name),aL x=aL y->x=y)/\∃fP,av=[~~~a,some (.int n),~~~wl,~~~d1,~~~bK,~~~ld,fP,none,none,none,none,none,none,none,none,none]),3
 .nofun;refine((_,aE.of rt),?_);refine ey.list (xs:=ta.map V.ref) (λi σ H'=>c0 ld vJ H'/\aI H'/\(∃aL:Str->Addr,H' ld\(.aY (dR ((ds.map (·.name)).take i) λx=>⇑(aL x)))/\(∀x∈(ds.map (·.name)).take i,vJ (aL x)=none/\H' (aL x)\(.lst []))/\∀x∈(ds.map (·.name)).take i,∀y∈(ds.map (·.name)).take i,aL x=aL y->x=y)/\∃fP,σ=[~~~a,some (.int n),~~~wl,~~~d1,~~~bK,~~~ld,fP,none,none,none,none,none,none,none,none,none]) (λ_ _ _ e=>e,abZ,(λ_=>0,oP,(λx h=>by simp at h),(λx h=>by simp at h)),_,rfl) ?_ ?_ ?_
  .intro i σ H' ai (dO,_);exact aE.of (dO _ _ (bI rt oP (by intro z;cases z)) rt)
  .rintro i v σ H' aQ bl;ac_rfl
   let(dO,hB,(aL,eP,nU,pw),fP,rfl):=bl;let(sC,pT,rfl):=b_ aQ;have h1:i<↑ds:=by have:=(b3.mp pT).1;omega
   have lY:=bq h1;have qW:=x7 i _ _ pT lY;have ae:(ds.map (·.name))[i]?\ds[i].name:=by rw[dF,lY];rfl
   subst aW;generalize ds[i]=d at lY qW ae;have n_:=aqN eL ae;have cc:∀{y:Str},y∈(ds.map (·.name)).take i->y≠d.name:=λ{y} aJ z=>n_ (z ▸ aJ)
   simp only[gz,jM,jF];have ap2:↑((ds.map (·.name)).take i)<=12:=by rw[hb,aO];omega
   rw[ip ae];nofun;refine(e0 _,λp ag=>?_);have np:∀{b:Addr} {u:dJ},H' b\u->b≠p:=λ{b u} e z=>by rw[z,ag]at e;cases e
   have cE:p≠ld:=λz=>np eP z.symm
   have Mr:vJ p=none:=by
    cases z:vJ p with
    |none=>rfl
    |some u=>have:=dO _ _ cE z;rw[ag]at this;cases this
   have dY:d0 (dR ((ds.map (·.name)).take i) λy=>V.ref (aL y)) (bx d.name) (V.ref p)=dR ((ds.map (·.name)).take i++[d.name]) λy=>V.ref (cH aL d.name p y):=by
    have eq:(dR ((ds.map (·.name)).take i) λy=>V.ref (aL y))=dR ((ds.map (·.name)).take i) λy=>V.ref (cH aL d.name p y):=by
     unfold dR;exact Dy λy aJ=>by
      show(p'p (bx y:Key) (V.ref (aL y)))=(p'p (bx y) (V.ref (cH aL d.name p y)));rw[d_ (cc aJ)]
    have:=N' (f:=λy=>V.ref (cH aL d.name p y)) n_;rw[eq];rw[show(V.ref (cH aL d.name p d.name))=V.ref p by rw[eC]]at this;exact this
   have fin:∀{b:Addr} {u fk qU:dJ},b≠ld->H' b\u->upd (upd H' p fk) ld qU b\u:=λ{b u fk qU} af e=>by rw[ax af,ax (np e)];exact e
   refine(_,de.of ((bk ag) _ _ (dO _ _ (bI qW oP (by intro z;cases z)) qW)),_,cf (j:=1) rfl,_,h6.k (k:=bx d.name) ((bk ag) _ _ eP) (by unfold dR;rw[aO];exact fW ap2 ∅),λb u U e=>fin U (dO _ _ U e),hB.upd.upd,(cH aL d.name p,by rw[aM,dY],λy aJ=>?_,λy aJ z aH e=>?_),_,rfl)
   .rcases ff.mp aJ with m|m
    .rw [d_ (cc m)];let(f1,f2):=nU y m;exact(f1,fin (bI f2 eP (by intro z;cases z)) f2)
    .rw [eg.mp m,eC];exact(Mr,by rw[ax cE];exact aM)
   .have old:∀y∈(ds.map (·.name)).take i,aL y≠p:=λy aJ=>np (nU y aJ).2
    rcases ff.mp aJ with m|m <;> rcases ff.mp aH with c3|c3
    .rw [d_ (cc m),d_ (cc c3)]at e;exact pw y m z c3 e
    .rw [d_ (cc m),eg.mp c3,eC]at e;exact absurd e (old y m)
    .rw [d_ (cc c3),eg.mp m,eC]at e;exact absurd e.symm (old z c3)
    .rw [eg.mp m,eg.mp c3]
  .rintro σ H' bl;ac_rfl
   let(dO,hB,yb,fP,rfl):=bl;subst aW;rw[aO,zW,NP (by rw[aO];exact b1 _)]at yb;exact cw _ _ (λb u e=>dO _ _ (du e kZ) (my _ _ e),hB,yb,fP,rfl)
 intro nW NM (Sh,apO,(aL,cF,cB,HH),fP,rfl);have aat:aS ej NM:=sB.trans Sh;have Kt:lu Pt ej:=alg.step ((s1.trans s2).trans pI);have adw:aS (jf ej) NM:=(Qz ej).trans aat;have Wu:jf ej Pt=none:=ahl Kt;have hlen:↑(d9 ds c2)=↑c2:=by unfold d9;rw[aO]
 have Pe:=dU.r' (L_ ej);have rN:=(L2.same pI).r' (L_ ej);have M1:Sc K a ns (jf ej):=IN Sg (L_ ej) (λb u e=>Sg.2 b u (Qz ej _ _ e));have b8:∀{b:Addr},hP b=none->¬Own (ds.map (·.name)) bK fk b:=λ{b} e U=>by
  let(u,gA,_):=vn.has U;rw[e]at gA;cases gA
 have S1:∀b,Own (ds.map (·.name)) bK fk b->jf ej b=none:=λb U=>WJ (acf b U)
 have Bu:↑(ds.map (·.name))<=12:=by rw[aO];omega
 have a6:∀d∈ds,k9 n d:=λd hd=>(D.al d hd).1
 have aow:gS NM (ds.map (·.name)) ld aL (λ_=>[]) λ_=>[]:=(cF,λx ae=>(cB x ae).2,λ_ _=>rfl,λx ae i q y h=>(by simp at h),HH,λ_ _=>Hu,λx ae y aJ n q h=>(by cases h),λx ae y aJ h=>(by cases h))
 have aqC:∀{b:Addr},hP b=none->b≠Pt:=λ{b} e z=>by
  let(ps,br,_):=Kt.step sB;rw[<- z,e]at br;cases br
 have aeB:∀b,hh (ds.map (·.name)) ld aL (λ_=>[]) b->¬Own (ds.map (·.name)) bK fk b/\b≠Pt/\jf ej b=none:=λb U=>by
  have e:hP b=none:=by
   rcases U with rfl|⟨x,ae,rfl|h⟩
   .exact kZ
   .exact my.free (cB x ae).1
   .cases h
  exact(b8 e,aqC e,WJ (sB.free e))
 subst aW;simp only[dd];refine Db (λav H'=>True) (λfx cw nT _ _=>?_) ?_
 .nofun;refine⟨∅,∅,?_⟩;refine ey.range (fun j σ H'=>(∃s v cU,vL t ds (d9 ds c2) ej Pt bK fk ld aL cU s v H'/\v.bY=j)/\∃fP kS SF J5 Dz yJ pY qu oO oc,σ=[~~~a,some (.int n),~~~wl,~~~d1,~~~bK,~~~ld,fP,kS,SF,J5,Dz,yJ,pY,qu,oO,oc]) ?_ ?_ ?_
  .refine ((_,(0,λ_=>0,λ_=>[]),_,(apO,adw,Kt.step aat,vn.same Sh,aow,aeB,((λx ae p ag=>by cases ag),(λx ae=>rfl),(λx ae=>tR _)),tR _,(Hu,λx h=>(by cases h),λi h=>(by cases h;exact(by rw[hlen];exact bX,λx h=>(by cases h))),λh=>(by cases h)),λx ae p ag=>(by cases ag)),rfl),_,_,_,_,_,_,_,_,_,_,rfl)
  .rintro j σ H' aN bl;ac_rfl
   let((s,v,cU,I,Xo),fP,kS,SF,J5,Dz,yJ,pY,qu,oO,oc,rfl):=bl;have aN:j<50:=aN;subst aW;simp only[gz,dd,jM,jF,tj];refine qb (λav H1=>aS H' H1/\aI H1/\∃ca a_,H' ca=none/\H1 ca\(.aY (dz a_))/\(a_.map (·.1)).Nodup/\(∀q∈a_,q.1∈(ds.map (·.name))/\0<=q.2/\q.2<=1000000000)/\av=[~~~a,some (.int n),~~~wl,~~~d1,~~~bK,~~~ld,fP,some (.int j),~~~ca,J5,Dz,yJ,pY,qu,oO,oc]) (λfx cC=>?_) ?_
   .nofun;exact(j,wl,ds,rfl,M1.same I.bo I.bH,(),rN.same I.bo,eL,(),(),λca a_ H1 bo nm iP aeV ki hY=>cC _ _ (bo,nm,ca,a_,iP,aeV,ki,hY,rfl))
   rintro fO t8 bl;ac_rfl
   let(t1,CC,ca,a_,iP,W7,ki,hY,rfl):=bl;have aR:=I.same t1 CC;have lA:GB (d9 ds c2) s:=λh=>I.Dh.ch h
   subst aW;simp only[dd];refine xa (λnL cm=>nL=false/\aS t8 cm/\aI cm) (λjc a9=>?_) (λcm r=>(by cases r.1)) (λcm r=>?_)
   ·(nofun; repeat (dsimp only[iv];nofun));refine(M1.same aR.bo CC,(),(),∅,?_);by_cases cZ:dS ns (1400+(j:Int)) 9=0
    .rw [if_pos (decide_eq_true cZ)];exact(j,bK,fk,s,v,wl,ca,a_,n,ds,d9 ds c2,rfl,M1.same aR.bo CC,(),rN.same aR.bo,a6,(),aR.hq,by rw[ML,JZ];exact Pe.same aR.bo,R.dr,lA,W7,ki,λp ag=>(hY p ag).1,λar alC acX=>(_,rfl,a9 _ _ (rfl,alC,acX)))
    .rw [if_neg (λz=>cZ (of_decide_eq_true z))];exact a9 _ _ (rfl,λ_ _ e=>e,CC)
   let(_,gG,Z7):=r;have bz:=aR.same gG Z7;have YF:=gG _ _ W7;simp only[iR,dd];refine qb (λav cG=>aS cm cG/\aI cG/\∃fp,cm fp=none/\cG fp\(.aY (hn ds (hy n ds (d9 ds c2) s)))/\av=[~~~a,some (.int n),~~~wl,~~~d1,~~~bK,~~~ld,fP,some (.int j),~~~ca,~~~fp,Dz,yJ,pY,qu,oO,oc]) (λfx cC=>?_) ?_
   .nofun;let(sS,mX):=bz.hq.at_;exact⟨_,_,mX,qe _ _ _ _ _ ∅,(ds.map (·.name)),bK,fk,s,v,n,ds,d9 ds c2,rfl,bz.hq,by rw[ML,JZ];exact Pe.same bz.bo,R.dr,lA,Z7,λp H1 nX z2 ag j_=>cC _ _ (nX,z2,p,ag,j_,rfl)⟩
   rintro fR wq bl;ac_rfl
   let(t3,UH,fp,NU,VU,rfl):=bl;have d4:=bz.same t3 UH;subst aW;simp only[dd];refine qb (λav cG=>aS wq cG/\aI cG/\∃ag,wq ag=none/\cG ag\(.aY (dz a_))/\av=[~~~a,some (.int n),~~~wl,~~~d1,~~~bK,~~~ld,fP,some (.int j),~~~ca,~~~fp,~~~ag,yJ,pY,qu,oO,oc]) (λfx cC=>?_) ?_
   .nofun;exact(_,t3 _ _ YF,λl aG=>cC _ _ (bk aG,UH.upd,l,aG,aM,rfl))
   rintro km uU bl;ac_rfl
   let(HO,Wr,ag,rq,xZ,rfl):=bl;have gc:=d4.same HO Wr;have aq_:=HO _ _ (t3 _ _ YF);have ak9:=HO _ _ VU;subst aW;simp only[dd];have yk:=d4.out rq;have Jq:=I.out iP;have Fe:=bz.out NU;refine qb (λav cG=>∃wp qs ws s' gP,yj n ds (d9 ds c2) (v3 (d9 ds c2) s (wP (ds.map (·.name)) (stC v.st a_))) ((wP (ds.map (·.name)) (stC v.st a_)).any (ig (d9 ds c2) s)) s'/\hX (λb=>Own (ds.map (·.name)) bK fk b\/b=Pt) uU cG/\aI cG/\lu Pt cG/\uU wp=none/\ja cG wp qs ws/\gP.bY=v.bY+1/\lb (ig (d9 ds c2) s) ds (jo v a_)=(p'p ({gP with bY:=v.bY}) ws)/\zi (ds.map (·.name)) gP.bY gP/\f5 t (ds.map (·.name)) cG bK fk s' gP/\av=[~~~a,some (.int n),~~~wl,~~~d1,~~~bK,~~~ld,fP,some (.int j),~~~ca,~~~fp,~~~ag,~~~wp,pY,qu,oO,oc]) (λfx cC=>?_) ?_
   .nofun;let(sS,mX):=gc.hq.at_;exact(_,_,mX,qe _ _ _ _ _ ∅,jf ej,bK,fk,s,v,n,ds,d9 ds c2,ag,a_,rfl,gc.hq,by rw[ML,JZ];exact Pe,gc.bo,S1,Wu,R,I.Dh,I.xb,I.t0,(),xZ,ki,λq ay=>((hY q ay).1,(hY q ay).2.1),λz=>yk.1 (.inl z),yk.2.1,gc.bZ,Wr,λwp qs ws s' gP cG t4 jg fC w8 cV g8 JB g5 Bh g7 ie sH gD=>cC _ _ (wp,qs,ws,s',gP,t4,jg,fC,w8,cV,g8,Bh,ie,sH,gD,rfl))
   rintro nW i0 bl;ac_rfl
   let(wp,qs,ws,s',gP,t4,jg,afd,w8,cV,jD,Bh,ie,sH,gD,rfl):=bl;have EH:=gc.out cV;have TB:gS i0 (ds.map (·.name)) ld aL cU v.lo:=gc.ln.keep λb u U e=>jg _ _ (λz=>z.elim (I.yx b U).1 (I.yx b U).2.1) e
   have xU:=jg _ _ Jq.1 aq_;have YZ:=jg _ _ Fe.1 ak9;have JJ:=jg _ _ yk.1 xZ;have IA:aS (jf ej) i0:=λb u e=>jg _ _ (λz=>by
    rcases z with z|z
    .rw [S1 b z]at e;cases e
    .rw [z,Wu]at e;cases e) (gc.bo _ _ e)
   subst aW;simp only[dd];refine xa (λnL fl=>nL=false/\i0=fl) (λjc a9=>?_) (λfl r=>(by cases r.1)) (λfl r=>?_)
   .nofun;refine(ag,ca,dz a_,rfl,rfl,JJ,xU,?_,λc1 kN=>?_,_,rfl,?_)
    .exact aqo ki
    .let(_,_,rfl):=cj.mp kN;rfl
    .rw [if_neg ∅];exact(_,mC.lst jD.1,_,rfl,a9 _ _ (rfl,rfl))
   let(_,rfl):=r;have C3:∀x∈(ds.map (·.name)),ca≠aL x:=λx ae z=>Jq.2.2 (.inr (x,ae,.inl z))
   simp only[iR,dd];refine qb (λav fl=>(∃jL,gS fl (ds.map (·.name)) ld aL jL (jo v a_).lo/\(∀x,∀q∈jL x,q∈cU x\/i0 q=none)/\(∀b u,(∀x∈(ds.map (·.name)),b≠aL x)->i0 b\u->fl b\u)/\aI fl)/\∃pY qu,av=[~~~a,some (.int n),~~~wl,~~~d1,~~~bK,~~~ld,fP,some (.int j),~~~ca,~~~fp,~~~ag,~~~wp,pY,qu,oO,oc]) (λfx cC=>?_) ?_
   .nofun;refine⟨ca,_,xU,?_⟩;simp only[V7];nofun;refine⟨.inr (.inr (.inl (.inl ⟨_,xU⟩))),_,xU,fun q ay=>⟨_,aM,_,(bk ay) _ _ xU,fun b0=>?_⟩⟩;have eb:∀{b:Addr} {u:dJ},b≠ca->i0 b\u->upd (upd i0 q (.ext (mR q ca))) ca (.dg b0 (.aY (dz a_))) b\u:=fun {b u} U e=>by rw[ax U];exact(bk ay) _ _ e
    have k6:upd (upd i0 q (.ext (mR q ca))) ca (.dg b0 (.aY (dz a_))) ca\(.dg b0 (.aY (dz a_))):=aM;have f6:aI (upd (upd i0 q (.ext (mR q ca))) ca (.dg b0 (.aY (dz a_)))):=afd.upd.upd;generalize upd (upd i0 q (.ext (mR q ca))) ca (.dg b0 (.aY (dz a_)))=za at *;have mP:↑(dz a_)=↑a_:=by unfold dz;rw[aO]
    have ahd:∀{b:Addr},za b=none->i0 b=none:=λ{b} e=>by
     cases aH:i0 b with
     |none=>rfl
     |some u=>
      by_cases c:b=ca
      .rw [c,k6]at e;cases e
      .rw [eb c aH]at e;cases e
    refine ey.of (n:=↑a_) (λi σ H'=>(∃jL,gS H' (ds.map (·.name)) ld aL jL (jo v (a_.take i)).lo/\(∀x,∀q∈jL x,q∈cU x\/za q=none)/\(∀b u,(∀x∈(ds.map (·.name)),b≠aL x)->za b\u->H' b\u)/\aI H')/\∃pY qu,σ=[~~~a,some (.int n),~~~wl,~~~d1,~~~bK,~~~ld,fP,some (.int j),~~~ca,~~~fp,~~~ag,~~~wp,pY,qu,oO,oc]) ((cU,TB.keep (λb u U e=>eb (λz=>Jq.2.2 (z ▸ U)) e),λx q h=>.inl h,λ_ _ _ e=>e,f6),_,_,rfl) (λi σ H' ai h=>(by let((_,_,_,j2,_),_):=h;exact j2 _ _ C3 k6,by rw[mP];exact ai)) (λσ H' h=>(by let((_,_,_,j2,_),_):=h;exact j2 _ _ C3 k6,by rw[mP];exact b1 _)) ?_ ?_
    .rintro i σ H' x ia ai ⟨⟨jL,lC,uH,j2,gE⟩,tZ,vt,rfl⟩ ⟨pt,ka,OH,asi,rfl,kN,rfl⟩;unfold dz at kN;obtain⟨pp,Ek,ep⟩:=b_ kN;cases ep;have ob:=ct Ek;have UP:=bk (o:=.tup [df (bx pp.1),V.int pp.2]) asi;have t5:=lC.same UP;have xJ:aI (upd H' pt (.tup [df (bx pp.1),V.int pp.2])):=gE.upd;have BK:∀b u,(∀x∈(ds.map (·.name)),b≠aL x)->za b\u->upd H' pt (.tup [df (bx pp.1),V.int pp.2]) b\u:=fun b u h e=>UP _ _ (j2 b u h e)
     have ads:upd H' pt (.tup [df (bx pp.1),V.int pp.2]) pt\(.tup [df (bx pp.1),V.int pp.2]):=aM;generalize upd H' pt (.tup [df (bx pp.1),V.int pp.2])=aua at *;have bN:=fj.k (k:=bx pp.1) t5.d;rw[sQ (hY pp ob).1]at bN;rw[ip Ek,aj7];have aeh:(jo v (a_.take i)).bY=(j:Int):=(Ij _ _).trans Xo;nofun;refine(_,de.of ads,rfl,_,_,rfl,_,_,rfl,rfl,?_);refine d8 (decide (0<pp.2)) (λjc a9=>?_) (λU=>?_) (λU=>?_)
     .nofun;exact a9
     .have hm:0<pp.2:=of_decide_eq_true U;unfold kR;rw[if_pos hm,aeh];nofun;have c8:=(hY pp ob).1;have ara:=Pu (ns:=(ds.map (·.name))) (a_.take i) v [] (.zero I.xb) (by rw[Xt];exact(adG _ _).nodup ki) (λ_ _ h=>by cases h);have p8:↑((jL pp.1).map V.ref)<sizeLine:=by
       rw[aO,t5.n _ c8];have:=(ara.len _ c8).1;exact fW (show _<=200 by omega) ∅
      refine(_,bN,.inl (_,aE.of (t5.l _ c8)),∅,λcX jN=>(_,rfl,_,(bk jN) _ _ (t5.l _ c8),p8,(_,t5.add c8 (y:=(p'p (j:Int) pp.2)) jN,λgm cW hR=>?_,λb u U e=>?_,xJ.upd.upd),_,rfl))
      .by_cases c:gm=pp.1
       .subst c;rw[eC]at hR;rcases ff.mp hR with m|m
        .exact uH _ _ m
        .rw[eg.mp m];refine .inr ?_;cases aH:za cX with
         |none=>rfl
         |some u=>
          have:=BK cX u (λx ae z=>by rw[z,t5.l x ae]at jN;cases jN) aH;rw[jN]at this;cases this
       .rw [d_ c]at hR;exact uH _ _ hR
      .rw [ax (U _ c8)];exact(bk jN) _ _ (BK b u U e)
     .unfold kR;rw[if_neg (λz=>by rw[decide_eq_true z]at U;cases U)];nofun;exact((jL,t5,uH,BK,xJ),_,rfl)
    .rintro σ H' bl;ac_rfl
     let((jL,lC,uH,j2,gE),tZ,vt,rfl):=bl;subst aW;rw[hE]at lC;refine(b0,j2 _ _ C3 k6,cC _ _ ((jL,lC.keep (λb u U e=>?_),λx q h=>(uH x q h).imp id ahd,λb u U e=>?_,gE.upd),_,_,rfl))
     .have apw:b≠ca:=λz=>by
       rcases lC.sq U with⟨_,br⟩|⟨_,br⟩ <;> rw[z,j2 _ _ C3 k6]at br <;> cases br
      rw[ax apw];exact e
     .by_cases c:b=ca
      .rw [c,aM];rw[c,xU]at e;exact e
      .rw [ax c];exact j2 _ _ U (eb c e)
   rintro mb B1 bl;ac_rfl
   let((jL,vS,uH,kQ,aqa),tZ,vt,rfl):=bl;have Th:∀{b:Addr},hh (ds.map (·.name)) ld aL jL b->hh (ds.map (·.name)) ld aL cU b\/i0 b=none:=λ{b} U=>by
    rcases U with z|⟨x,ae,z|z⟩
    .exact .inl (.inl z)
    .exact .inl (.inr (x,ae,.inl z))
    .exact (uH x b z).imp (λm=>.inr (x,ae,.inr m)) id
   have F':∀b,hh (ds.map (·.name)) ld aL jL b->¬Own (ds.map (·.name)) bK fk b/\b≠Pt/\jf ej b=none:=λb U=>by
    rcases Th U with z|z
    .exact I.yx b z
    .refine⟨fun m=>?_,fun m=>?_,IA.free z⟩
     .let(u,gA,_):=gD.has m;rw[z]at gA;cases gA
     .let(ps,br,_):=w8;rw[<- m,z]at br;cases br
   have Fo:∀{b:Addr} {u:dJ},(∀xs,u≠.lst xs)->i0 b\u->B1 b\u:=λ{b u} h e=>kQ _ _ (λx ae z=>by subst z;rw[TB.l x ae]at e;exact h _ (dZ e).symm) e
   have aet:aS (jf ej) B1:=λb u e=>kQ _ _ (λx ae z=>by
    have:=(I.yx (aL x) (.inr (x,ae,.inl rfl))).2.2;rw[<- z,e]at this;cases this) (IA _ _ e)
   have XO:=Fo (λ_ z=>by cases z) YZ;have anE:=Fo (λ_ z=>by cases z) JJ;have aaq:=kQ _ _ (λx ae z=>EH.2.2 (.inr (x,ae,.inl z))) jD.1;have yn:ja B1 wp qs ws:=(aaq,jD.2.1,λi q y a b=>Fo (λ_ z=>by cases z) (jD.2.2 i q y a b));have nl:∀{b:Addr} {u:dJ},¬hh (ds.map (·.name)) ld aL cU b->i0 b\u->¬hh (ds.map (·.name)) ld aL jL b:=λ{b u} h e z=>by
    rcases Th z with m|m
    .exact h m
    .rw [e]at m;cases m
   have P0:=nl Fe.2.2 YZ;have SH:=nl yk.2.2 JJ;have OO:=nl EH.2.2 jD.1;have NI:=Pu (ns:=(ds.map (·.name))) a_ v [] (.zero I.xb) ki (λ_ _ h=>by cases h);have atd:=Ij a_ v;have aqp:v7 (ds.map (·.name)) (jo v a_):=(NI.pos,NI.sum,λx ae=>by have:=(NI.len x ae).1;omega);subst aW;simp only[dd];refine xa (λnL eJ=>nL=false/\(∃rF,gS eJ (ds.map (·.name)) ld aL rF gP.lo/\∀x,∀q∈rF x,q∈jL x)/\(∀b u,¬hh (ds.map (·.name)) ld aL jL b->B1 b\u->eJ b\u)/\aI eJ) (λjc a9=>?_) (λeJ r=>(by cases r.1)) (λeJ r=>?_)
   .nofun;refine(wl,ds,ld,aL,jL,jo v a_,fp,hy n ds (d9 ds c2) s,ig (d9 ds c2) s,rfl,rN.same aet,eL,λd hd=>(a6 d hd).k,(),vS,aqp,XO,λd hd=>?_,λz=>?_,P0,aqa,λp auu rF eJ nG jA yR GZ M8 Zy=>?_)
    .exact (decide_eq_decide.mpr (congrArg V.str,V.str.inj)).trans (PF n ds (d9 ds c2) s d)
    .let(_,e,_):=rN;rw[(F' wl z).2.2]at e;cases e
    .rw[ie]at GZ Zy;have y2:ja eJ wp qs ws:=(nG _ _ OO yn.1,yn.2.1,λi q y a b=>nG _ _ (λz=>by
      have ez:=yn.2.2 i q y a b;rcases vS.sq z with⟨_,br⟩|⟨_,br⟩ <;> rw[ez]at br <;> cases br) (yn.2.2 i q y a b))
     exact(_,rfl,_,y2.eq Zy,a9 _ _ (rfl,(rF,GZ,M8),nG,jA))
   let(_,(rF,GZ,M8),nG,ali):=r;have yR:=nG _ _ SH anE;have Qh:=nG _ _ P0 XO;have EM:=nG _ _ OO aaq;have aed:ag≠wp:=bI yR EM (by intro z;cases z);have alY:fp≠wp:=bI Qh EM (by intro z;cases z);have aev:fp≠ag:=λz=>by rw[<- z,VU]at rq;cases rq
   simp only[iR,dd];refine qb (λav gO=>gO=upd eJ ag (.aY [])/\av=[~~~a,some (.int n),~~~wl,~~~d1,~~~bK,~~~ld,fP,some (.int j),~~~ca,~~~fp,~~~ag,~~~wp,tZ,vt,oO,oc]) (λfx cC=>?_) ?_
   .nofun;exact(.inr (.inr (.inl (.inl (_,yR)))),_,yR,cC _ _ (rfl,rfl))
   intro _ _ (rfl,rfl);simp only[dd];refine qb (λav gO=>gO=upd (upd eJ ag (.aY [])) wp (.lst [])/\av=[~~~a,some (.int n),~~~wl,~~~d1,~~~bK,~~~ld,fP,some (.int j),~~~ca,~~~fp,~~~ag,~~~wp,tZ,vt,oO,oc]) (λfx cC=>?_) ?_
   .have W6:upd eJ ag (.aY []) wp\(.lst (qs.map V.ref)):=by rw[ax (cT aed)];exact EM
    nofun;exact(.inl (_,aE.of W6),_,W6,cC _ _ (rfl,rfl))
   intro _ _ (rfl,rfl);simp only[dd];refine qb (λav gO=>gO=upd (upd (upd eJ ag (.aY [])) wp (.lst [])) fp (.aY [])/\av=[~~~a,some (.int n),~~~wl,~~~d1,~~~bK,~~~ld,fP,some (.int j),~~~ca,~~~fp,~~~ag,~~~wp,tZ,vt,oO,oc]) (λfx cC=>?_) ?_
   .have Xp:upd (upd eJ ag (.aY [])) wp (.lst []) fp\(.aY (hn ds (hy n ds (d9 ds c2) s))):=by rw[ax alY,ax aev];exact Qh
    nofun;exact(.inr (.inr (.inl (.inl (_,Xp)))),_,Xp,cC _ _ (rfl,rfl))
   intro _ _ (rfl,rfl);have wX:∀b u,b≠ag->b≠wp->b≠fp->eJ b\u->upd (upd (upd eJ ag (.aY [])) wp (.lst [])) fp (.aY []) b\u:=λb u af aj bb e=>by rw[ax bb,ax aj,ax af];exact e
   have LB:aI (upd (upd (upd eJ ag (.aY [])) wp (.lst [])) fp (.aY [])):=ali.upd.upd.upd;generalize upd (upd (upd eJ ag (.aY [])) wp (.lst [])) fp (.aY [])=BI at wX LB⊢;have MG:∀{b:Addr} {u:dJ},(∀k,u≠.aY k)->(∀xs,u≠.lst xs)->i0 b\u->BI b\u:=λ{b u} af aj e=>by
    have ez:=Fo aj e;have fE:=nG _ _ (λz=>by
     rcases vS.sq z with⟨_,br⟩|⟨_,br⟩ <;> rw[ez]at br
     .exact af _ (dZ br)
     .exact aj _ (dZ br)) ez
    exact wX _ _ (λz=>by rw[z,yR]at fE;exact af _ (dZ fE).symm) (λz=>by rw[z,EM]at fE;exact aj _ (dZ fE).symm) (λz=>by rw[z,Qh]at fE;exact af _ (dZ fE).symm) fE
   have C':∀{b:Addr},hh (ds.map (·.name)) ld aL rF b->hh (ds.map (·.name)) ld aL jL b:=λ{b} U=>by
    rcases U with z|⟨x,ae,z|z⟩
    .exact .inl z
    .exact .inr (x,ae,.inl z)
    .exact .inr (x,ae,.inr (M8 x b z))
   have Zo:∀{b:Addr} {u:dJ},¬hh (ds.map (·.name)) ld aL jL b->b≠ag->b≠wp->b≠fp->i0 b\u->BI b\u:=λ{b u} h0 af aj bb e=>wX _ _ af aj bb (nG _ _ h0 (kQ _ _ (λx ae z=>h0 (.inr (x,ae,.inl z))) e))
   have CT:∀{b:Addr} {u:dJ},jf ej b\u->¬hh (ds.map (·.name)) ld aL jL b/\b≠ag/\b≠wp/\b≠fp:=λ{b u} e=>(λz=>(by rw[(F' b z).2.2]at e;cases e),λz=>(by rw[z,yk.2.1]at e;cases e),λz=>(by rw[z,EH.2.1]at e;cases e),λz=>(by rw[z,Fe.2.1]at e;cases e))
   have agI:∀x∈wP (ds.map (·.name)) (stC v.st a_),x∈(ds.map (·.name)):=λx ae=>(nu.mp ae).1
   have mI:vL t ds (d9 ds c2) ej Pt bK fk ld aL rF s' gP BI:=by
    refine(LB,λb u e=>Zo (CT e).1 (CT e).2.1 (CT e).2.2.1 (CT e).2.2.2 (IA _ _ e),?_,gD.keep (λb u U e=>Zo (λz=>(F' b z).1 U) (λz=>yk.1 (.inl (z ▸ U))) (λz=>EH.1 (.inl (z ▸ U))) (λz=>Fe.1 (.inl (z ▸ U))) e) (λq xs e=>MG (λ_ z=>by cases z) (λ_ z=>by cases z) e),GZ.keep (λb u U e=>wX _ _ (λz=>SH (z ▸ C' U)) (λz=>OO (z ▸ C' U)) (λz=>P0 (z ▸ C' U)) e),λb U=>F' b (C' U),sH,by have:=I.t0;omega,aiN R (Vj agI I.Dh) t4,?_)
    .obtain⟨ps,e,cQ⟩:=w8;refine⟨ps,MG (fun _ z=>by cases z) (fun _ z=>by cases z) e,?_⟩;rcases cQ with cQ|⟨c',cQ,br⟩
     .exact .inl cQ
     .exact .inr (c',cQ,MG (λ_ z=>by cases z) (λ_ z=>by cases z) br)
    .have:=ZC (ig (d9 ds c2) s) ds (p'p (jo v a_) []) (Xy a_ v I.wU (λq ay=>(hY q ay).2.2));rw[show ds.foldl (l8 (ig (d9 ds c2) s)) (p'p (jo v a_) [])=(p'p ({gP with bY:=v.bY}) ws)from ie]at this;exact this
   simp only[dd];refine qb (λav JT=>aS BI JT/\aI JT/\∃h2,l4 JT h2 (ds.map (·.name)) gP.st/\av=[~~~a,some (.int n),~~~wl,~~~d1,~~~bK,~~~ld,fP,some (.int j),~~~ca,~~~fp,~~~ag,~~~wp,tZ,vt,~~~h2,oc]) (λfx cC=>?_) ?_
   .obtain⟨Cd,Cp,WH,Ig⟩:=rN.same mI.bo;nofun;refine⟨⟨_,aE.of Cp⟩,?_⟩;refine dB.list (xs:=Cd.map V.ref) (fun i ys H'=>aS BI H'/\aI H'/\∃as:List Addr,ys=as.map V.ref/\↑as=i/\∀(m:Nat) (b:Addr) (x:Str),as[m]?\b->(ds.map (·.name))[m]?\x->H' b\(.tup [.str x,.int (gP.st x)])) (by rw[aO];exact c9 (show _<=12 by omega) ∅) ⟨fun _ _ e=>e,LB,[],rfl,rfl,fun m b x h=>(by simp at h)⟩ (fun i ys H' ai ⟨bo,nm,as,aq,aA,bG⟩=>⟨aE.of (bo _ _ Cp),by rw[aq,aO,aA];exact b1 _⟩) (fun i x ys H' ae cS=>?_) (fun ys H' cS p ag=>?_)
    .obtain⟨bo,nm,as,aq,aA,bG⟩:=cS;obtain⟨sC,pT,rfl⟩:=b_ ae;have h1:i<↑ds:=by have:=(b3.mp pT).1;omega
     have lY:=bq h1;have qW:=bo _ _ (Ig i _ _ pT lY);have eA:(ds.map (·.name))[i]?\ds[i].name:=by rw[dF,lY];rfl
     generalize ds[i]=d at lY qW eA;have c8:=ct eA;have lC:=mI.ln.same bo;have bN:=fj.k (k:=bx d.name) lC.d;rw[sQ c8]at bN;intro N bw;have atJ:=sH.len _ c8;have p8:=lC.n _ c8;have aoR:↑(gP.lo d.name)<=200:=()
     nofun;refine(Sub.name,_,de.of qW,_,cf (j:=1) rfl,_,de.of qW,_,cf (j:=1) rfl,_,bN,_,rfl,(_,aE.of (lC.l _ c8)),?_);refine dB.nr (xs:=(rF d.name).map V.ref) (zs:=((gP.lo d.name).map (·.2)).map V.int) (aE.of (lC.l _ c8)) (by rw[aO,p8];exact c9 aoR ∅) (by rw[aO,aO,aO,p8]) (λk x z aur ae aH apM=>?_) (λp ag=>?_)
     .let(uq,alz,rfl):=b_ ae;let(ka,az,rfl):=b_ aH;let(y,aJ,rfl):=b_ az;have e:=lC.q _ c8 k uq y alz aJ;nofun;exact(Sub.name,_,aE.of e,_,cf (j:=1) rfl,apM)
     .refine⟨p,rfl,(gP.lo d.name).map (·.2),aE.of aM,λk az=>?_,by rw[aO];omega,∅,λdY g4=>bw _ _ ((bo.trans (bk ag)).trans (bk g4),nm.upd.upd,as++[dY],by rw[aq,fg];rfl,by rw[dx,aA];rfl,λm b x af aj=>?_)⟩
      .let(y,aJ,rfl):=cj.mp az;exact(Int.le_of_lt (sH.pos _ c8 y aJ),mI.wU _ c8 y aJ)
      .rcases j4 af with⟨_,ew⟩|⟨gj,rfl⟩
       .exact ((bk ag).trans (bk g4)) _ _ (bG m b x ew aj)
       .rw [gj,aA,eA]at aj;cases aj;rw[aM,RY,sH.sum _ c8]
    .let(bo,nm,as,aq,aA,bG):=cS;subst aq;exact cC _ _ (bo.trans (bk ag),nm.upd,p,(as,aM,by rw[aA,aO,aO,WH],λm b x af aj=>(bk ag) _ _ (bG m b x af aj)),rfl)
   rintro auM RZ bl;ac_rfl
   let(an1,VL,h2,ale,rfl):=bl;have yr:=mI.same an1 VL;subst aW;simp only[dd];refine qb (λav MT=>aS RZ MT/\aI MT/\∃Gh,RZ Gh=none/\MT Gh\(.aY (dR (ds.map (·.name)) λx=>.int (gP.st x)))/\av=[~~~a,some (.int n),~~~wl,~~~d1,~~~bK,~~~ld,fP,some (.int j),~~~ca,~~~fp,~~~ag,~~~wp,tZ,vt,~~~h2,~~~Gh]) (λfx cC=>?_) ?_
   .nofun;let(WQ,eq):=yr.hq.at_;exact⟨_,_,eq,qe _ _ _ _ _ ∅,(ds.map (·.name)),bK,fk,_,_,rfl,yr.hq,Bu,λjW cm A7 zC xZ rz=>cC _ _ (A7,zC VL,jW,xZ,rz,rfl)⟩
   rintro atp am8 bl;ac_rfl
   let(M0,aoV,Gh,akb,Hm,rfl):=bl;subst aW;simp only[dd];refine xa (λnL ME=>nL=false/\aS am8 ME/\aI ME) (λjc a9=>?_) (λME r=>(by cases r.1)) (λauf r=>?_)
   .nofun;refine(.inr (.inr (.inl (.inl (_,Hm)))),_,Hm,λcX jN=>(_,aM,_,(bk jN) _ _ Hm,λcB T8 Us o3=>?_));have Rq:=(bk jN).trans o3.same;exact(_,((l4.of o3).eq2 (ale.same (M0.trans Rq))).mono ∅,a9 _ _ (rfl,Rq,zE o3 aoV.upd))
   let(_,LG,anB):=r;simp only[iR];let(Cd,Cp,WH,Ig):=(rN.same yr.bo).same (M0.trans LG);let(i7,ke):∃d,ds[0]?\d:=(_,bq (show 0<↑ds by omega));let(sC,fU):∃q,Cd[0]?\q:=(_,bq (show 0<↑Cd by omega));nofun;refine(_,aE.of Cp,_,cf (j:=0) (by rw[dF,fU];rfl),_,rfl,_,de.of (Ig 0 _ _ fU ke),_,cf (j:=1) rfl,_,h6.k (k:=bx i7.name) (LG _ _ Hm) (by unfold dR;rw[aO];exact fW Bu ∅),?_);exact((s',gP,rF,yr.same ((M0.trans LG).gW akb) anB.upd,by rw[Bh,Xo];rfl),_,rfl)
  .rintro σ H' _;exact cw _ _ trivial
 rintro mb avm _;nofun;exact q _
end My
end
section
local macro_rules|`(universe $x*)=>do return Lean.mkNullNode (← x.mapM fun i=>`(command|theorem $(Lean.mkIdent (`PySem.W.Fast ++ i.getId)):ident:True:=⟨⟩))
universe tw1760192931427877044 tw7416554790924283444 tw14303020304743341828 tw15823853225372611521 tw17967019572390085122 tw11971071751345897898 tw7109188330299322909 tw8847766974037246239 tw13679883617982088276 tw11679556711095226929 tw8742681086099493980 tw2274365866321921528 tw10999087535720515278 tw14691020569585625924 tw11813502264373171285 tw7430939389277586532 tw17455768436634972784 tw8135523453292901599 tw14605527275022354669 tw5663746936515473793 tw7678094804598591307 tw6261617829197843023 tw2208041696872162557 tw3428361086136882236 tw15310060517633181569 tw5506608773514107692 tw12089590527398163037 tw10941247839530113612 tw8807352717232537749 tw8589579789812312116 tw8080059272211345521 tw17581921256325688049 tw17077869697935640742 tw5060944861951099085 tw12994953647024778155 tw9253749782711966619 tw16394826202861330781 tw9964650270324231613 tw16095146873626219512 tw3252321287106127408 tw9802072774576551410 tw15107983375676789638 tw9305255559859045402 tw5078120472643027112 tw5083807338568155892 tw1238643187518126336 tw4930302484396526344 tw15090679218976943504 tw11167747523089017673 tw3672297974427727396 tw15488674738572450741 tw17457397037480723038 tw351720774530408901 tw18221619553514696606 tw13688134535632873707 tw3842480333670292107 tw4429776458132387903 tw2248707006402640430 tw12803442831257652006 tw13231720203273032000 tw14247588933180524232 tw18445852420068336955 tw15164894567074685229 tw6045425132792562483 tw12404043541812367505 tw13990640106901500832 tw12560930803447647301 tw8577114078101769373 tw4022167560350197393 tw10355964004477546954 tw9125715553432449682 tw4546559357654603889 tw11409311368050016238 tw9417469825021736028 tw2259429924743115543 tw14056603513870684609 tw6679544241735353204 tw15533802439356853285 tw15741973791524170337 tw7191361864122394024 tw14393633667359125109 tw1399203499047359549 tw16503332169540533127 tw13767299018419559318 tw15529301179408331335 tw9573358118199757598 tw11279135448777409753 tw1241234248710352586 tw2873675538284349017 tw8137398547882998721 tw14953674339563420778 tw400272919474887342 tw13824600462488953276 tw14756558557307192432 tw17611224561785346600 tw17162347238928025968 tw4012993274469335440 tw16949943543798304651 tw18352351895614537416 tw14358872758975556719 tw9165021697272549297 tw9723871358131273717 tw11471983533573878373 tw3105206648396377745 tw11416975015750038574 tw1029011456026974616 tw3811220156649633324 tw7235145138861390215 tw13258509635476109126 tw783906391480726333 tw13620087575935976364 tw1646742406737192883 tw11252088520933882104 tw9279132822837411668 tw14952151119948337033 tw5469549404755973639 tw7020991368873315400 tw10157626619802226883 tw13866087257582913566 tw15911464473669605818 tw9035024143430599174 tw1427436801666456393 tw2110427105795385722 tw10409020483174533497 tw15943006885142791693 tw4944717180113240624 tw4743258544570086803 tw9653651057355996683 tw7940848661687472626 tw14066742019130880957 tw7760493228499933662 tw2705823794464366323 tw6917669130553240944 tw16409689690400860441 tw1795476939348350402 tw3948681238216929088 tw1931463422227275077 tw535329532486740662 tw17033646290885560075 tw261604931059447634 tw17638581448268100075 tw10044826593619526847 tw12184278317130464176 tw4062020919055083057 tw6405936160897909991 tw5313028492041079180 tw11332716847084842175 tw858905523046413127 tw3655730998100845474 tw15759959489943215182 tw11124358101703698616 tw3180368867771467776 tw16657301428914541551 tw17021969604589769403 tw1305506927750004235 tw4592850106576896776 tw680407468080797925 tw12408879958240219082 tw1979995210307283697 tw6289510934241396194 tw1588879670718504913 tw13004389074976273571 tw3426056598566025003 tw2105853616479844055 tw15653576015194821118 tw8750758294779176638 tw4856860898387383081 tw10681532624810699869 tw18415733673842190963 tw13995275245492965577 tw5104986432625142209 tw675993232758241095 tw3249628486153003625 tw16637016293543481678 tw5638758068956513883 tw4685704377911147717 tw3765281623739733161 tw8749829802048849101 tw5740175396870359799 tw4600694585585569441 tw2125425931886489627 tw7230061042557182870 tw9958375144547270463 tw12957296083421312416 tw859396294681055991 tw8728377323265854654 tw6046010476803910658 tw11666469602795171856 tw9860346715646855793 tw16160638689324100849 tw2930608473200424256 tw16521878458797283769 tw9482739163076373645 tw16538656205952732183 tw7644782859620626498 tw6697132393881625538 tw16783219579278933148 tw8327387771645065067 tw7830179494034782831 tw17715225343009401913 tw251239299852486074 tw4471942731584479944 tw13030849053274312586 tw9473434720305948356 tw10051796730940419440 tw8530752547333192762 tw13611068900616126211 tw16075972511412348568 tw2634332595846147504 tw9847603590112260152 tw11019212978353464536 tw10452991806496484041 tw11051924498476130335 tw14283875568580291842 tw4923772128878322712 tw16105348345047739327 tw1655796172649360052 tw18243006573576422949 tw2023851920669840398 tw7975107564500126052 tw6272316107609968632 tw4794169678356473921 tw13029257201346572564 tw4036946657629091308 tw16886307939766589079 tw10488349507818709817 tw251309382415354599 tw8279578175502846109 tw10819457458432002693 tw4301374941520116773 tw11915868821499784341 tw3231980648253584830 tw17426480481770330039 tw5366705631275590894 tw6399847941683401928 tw8384939896424986569 tw1816430066043343099 tw3948095229838641162 tw11096232362444912927 tw2755787774070315218 tw10964436332005895320 tw9321227117984594496 tw13662863907192611023 tw2669275707505640532 tw13110269154113790646 tw917950818360406426 tw7143431634118170196 tw3494950714522311375 tw17518758136067941798 tw2522889080447291740 tw5553710823783619135 tw1659101731830487985 tw13285072760840059021 tw15732536703416649029 tw9886708988732009105 tw15200521046763832262 tw4626372126943449395 tw12776866647531731014 tw5197600105835193259 tw16426687315511139537 tw7191485950119081478 tw12973939552480690367 tw12596426782159019490 tw11283102177076170950 tw12824626398506806979 tw13143640966105128026 tw15823442396022224530 tw7835837052130436486 tw261780733396279940 tw15391603423325532696 tw13114846533770167575 tw10536500765035718401 tw14248517388886440893 tw11744191355061239335 tw7575710586747917252 tw6487450552812129724 tw6956361003725780590 tw11306288310277075544 tw17184624690311124117 tw17636722869042830760 tw12642961922191985663 tw2066793539882372714 tw5667885020592836782 tw11955527875539496084 tw4856205796916599390 tw5766395975683194585 tw10115894162927445463 tw16432470073958765779 tw10974103131440414762 tw6558758303049304803 tw2012419687330413220 tw4278801883529382467 tw4430200969866378371 tw15447564739680978073 tw2478083062903905062 tw4944957662514318636 tw10543529296212235788 tw10798997039075276230 tw817715642544689751 tw3214653708279920895 tw16773894225595523490 tw15508824846499668400 tw4143350423603009277 tw17595013716303888699 tw13901336937395817879 tw10244365851360120835 tw17909891987757487537 tw8475497065025864793 tw3089302490313648026 tw13076163296997166500 tw2525475950071220020 tw11026113109214280285 tw17498854697445094677 tw11913548926512081665 tw2680416450555819460 tw2833636206711067037 tw2308436887475580470 tw3086757994541712393 tw12387643785042181615 tw14272033713227756231 tw6983567286929157740 tw5542930981303659104 tw7884721203360692044 tw7223637222844031911 tw7918443622917937860 tw5276720083678458991 tw3519397725014470099 tw3480067315288891608 tw11937530291461575948 tw9730138210671665591 tw4189141930436606114 tw663953288207629766 tw467003453528784824 tw13758449225149108627 tw7791541663672427496 tw16530928596503688481 tw7464017064513490335 tw14568092735203528939 tw487299275293545444 tw13173300450845945616 tw8989065146996871352 tw11065381665770502107 tw4275077027755513045 tw9170904325275177872 tw98225036252874649 tw9289037411665338604 tw5714910639702988022 tw17129910121352500736 tw17979230285684520003 tw169435874156535390 tw76466916944128343 tw594595712001849119 tw876797634021085727 tw5722361086240437839 tw7580634934113125616 tw8694519416580966188 tw15632616311148678029 tw16559757870487765772 tw15865980366873324649 tw9292707605020289971 tw12161934132518164598 tw10036436543898987380 tw10303953867482067359 tw2992281153120167176 tw15626674349012294270 tw11302724032165364351 tw5348320825742565758 tw14323127424301514199 tw5393132853090484345 tw142016762695389802 tw12858186247346639481 tw13819385271097352013 tw9137701453612355338 tw5220700434404576932 tw14353687146060794588 tw1039559905397836405 tw13484448391264613819 tw7839726925158034463 tw603546101217990723 tw5849522741470382262 tw10565858352030961102 tw13617343794099602228 tw1820343830811962010 tw7997868934584587388 tw2122126510830971437 tw3364295596024140243 tw17134586729303050395 tw11435174257983728636 tw17239570754047088752 tw1137379875669307131 tw10605862911157193460 tw403274061164643294 tw3724712342635081622 tw4207626706920897287 tw16132737558805604068 tw2750043698003835777 tw5806251169707813540 tw1893797321907525432 tw16123254871973330860 tw7731005511631782606 tw9106852925212610500 tw14423379993129246749 tw2061359223490320944 tw4791582742267351811 tw9975268679202746259 tw4071657081863706738 tw5212103318301581519 tw3855180226708978446 tw16302980312107241812 tw7390569657635153126 tw14330813271434346447 tw15315249414151823754 tw3428630315429137989 tw5281190108351246010 tw1705218008382013030 tw10331385006470679858 tw3114948747308132241 tw7458445422141273858 tw15242062273554172235 tw15396750534472826000 tw10355450106797181087 tw15473583818856325126 tw6136939482405134266 tw11663009556657466460 tw15156680102854974885 tw11398248540915750431 tw2684650798054421201 tw43337599853587598 tw9860803076240524167 tw10752040325951684614 tw4284269556801422718 tw14473806095813916520 tw93038589607514626 tw4119751154827596932 tw7633600897156063411 tw5982317411093031157 tw11654023823849949453 tw15318517171116797649 tw15864797570760119342 tw9592566992813847831 tw18126819565190862573 tw10623192769414590878 tw1456234772009231242 tw7889453654785796734 tw9366462172322357960 tw4958330017615835262 tw11516046735890497704 tw2459844759195890988 tw8327871755670713263 tw10460207470691534624 tw616771358090825903 tw5101765245770659686 tw3461732975073379710 tw3201648857073063452 tw16273785432698333144 tw16545709194940515086 tw9103415442723167466 tw3709839101560586265 tw6242313317143904600 tw8505672129207205642 tw8531266763573574197 tw11964739769544710482 tw5008314076191532585 tw18038493197908155888 tw15562992818521965781 tw9794111165869950103 tw2189638613113292937 tw14705250382468126915 tw11885211256013285045 tw6436198417758362831 tw12939411251497522148 tw6353559912554831260 tw11382475686393091408 tw14290900926241743322 tw9522266755958300426 tw2262854209731646623 tw12805093331448164512 tw7328018221508944650 tw6853486579285041960 tw2521767935024162457 tw2312460744767510898 tw13931527830929959045 tw761327527028909570 tw2067843810519928627 tw4297677132530188146 tw16743313578083666567 tw7550053552791064447 tw5681184334424263439 tw15806558505285818797 tw7348746381117825881 tw2482530361682861652 tw11766593437974051107 tw10070918097843208586 tw14074782066525208481 tw2101356876379923510 tw4183600110942812105 tw1361464471301953269 tw13031699187655179574 tw5526023387543116915 tw4807345149916562023 tw17128773928210419912 tw12584362521995731145 tw5776417419489480206 tw1691441326689395423 tw1556770230119759621 tw18134904533032408940 tw9631877474972717099 tw15263836406066404493 tw4190078931028716563 tw15221771066455800923 tw31105508926177192 tw7572961496044327590 tw15768070254803568511 tw11274720352948585262 tw8870780016553913837 tw5471390792741446464 tw15674829341381179391 tw6257273830906827113 tw5608922957199658079 tw17089749455903536685 tw13192204545490781207 tw1739535786698045671 tw12500075004365246488 tw11480793778103394510 tw15714948397093084095 tw7974875604536684638 tw7666440518849879616 tw17511595550598790710 tw14245595563446106478 tw10623411936677390254 tw12917459547511468295 tw6773251753823435583 tw10872631096429056801 tw921934586556526561 tw18369894012637065169 tw6941722267208596826 tw9282541156929415540 tw5486967184168523076 tw11321544071166111771 tw8714448198352541782 tw9897615486808951375 tw13722825623508232769 tw15944626402060932090 tw3745678771405253012 tw11247721035569639270 tw623748087054575043 tw1977467291486766627 tw10459699551026303418 tw13943504987340741738 tw8350656875816512186 tw448379246919068423 tw17339734603961984177 tw4052748824436935486 tw17713376332661378604 tw7290282841334279598 tw2169384829310120544 tw6494743043614717624 tw13550788459842051545 tw18263872707072130242 tw2639136208440723145 tw18125673590566714942 tw5125261441021846210 tw15100015351955125480 tw15649928824420486828 tw10009335959928078826 tw14152183309338110394 tw16148067380441598411 tw3444000469560672328 tw15146630462781512041 tw13101169880451925415 tw18424343058217373491 tw17510956578121560854 tw13688918919052590994 tw8308029662577314667 tw225986786431180417 tw15706662099878980347 tw823578277859017487 tw4063693612185875376 tw10287072134590866814 tw4475185050733587798 tw5176394415910471740 tw14181587439151936601 tw3306561159339251007 tw7644828794289919211 tw1595870761482294903 tw6480939133404129717 tw8723987556445677774 tw6658660559464404428 tw16734863308312325364 tw2131591130556726333 tw1097287763044275662 tw15537887489331947550 tw5570662324740813338 tw11683175300200859443 tw11741378034566335073 tw439508244853533438 tw15140036020196764679 tw6327694850320901983 tw1914173988771884567 tw17794887489336224964 tw10222009576341633110 tw39614261823022622 tw4851902550030101765 tw12181097024890977976 tw15535293614708218501 tw7691837357611591146
end
open PySem PySem.W PyProof.Rows
set_option tactic.hygienic true
set_option maxRecDepth 100000 in
set_option maxHeartbeats 0 in
theorem PySem.Challenge.cw_lampway_k50_whole_road_counts_holds : PySem.Challenge.rw_lampway_k50_whole_road_counts.Holds := by
 w_on;o_law;k_head;(case hw=>w_witness2)
 k_fill
 refine L2.alj (l:=PySem.Challenge.rw_lampway_k50_whole_road_counts) (n:=63) (k:=12) (x:="_law_script") (CX:=L2.dy) (sp:=My.aax) rfl (by decide) rfl ⟨rfl,by decide,by decide⟩ (fun w h Y=>PySem.W.km_in_of Y) (fun w h Y=>PySem.W.km_tabs_of Y _ (List.Mem.head _)) (by intro p;kernel_rfl) ?F ?S ?C
 case F=>
  intro w mg hg h fF G zy ag;have T:∃t,My.Txt w (L2.HL fF) mg t/\afI (L2.HL fF) t.qA (L2.Uo ag)=true:=by
   dsimp only[L2.HL,L2.Uo];refine' ⟨My.bO.mk,⟨⟨?mqaa,?Fqab,?mqac,?Fqad,?mqae,?Fqaf,?mqag,?Fqah,?mqai,?Fqaj,?mqak,?Fqal,?mqam,?Fqan,?mqao,?Fqap,?mqaq,?Fqar,?mqas,?Fqat⟩,⟨?mqau,?Fqav,?mqaw,?Fqax,?mqay,?Fqaz,?mqba,?Fqbb,?mqbc,?Fqbd,?mqbe,?Fqbf,?mqbg,?Fqbh,?mqbi,?Fqbj,?mqbk,?Fqbl,?mqbm,?Fqbn⟩,⟨?mqbo,?Fqbp,?mqbq,?Fqbr,?mqbs,?Fqbt,?mqbu,?Fqbv,?mqbw,?Fqbx,?mqby,?Fqbz,?mqca,?Fqcb,?mqcc,?Fqcd,?mqce,?Fqcf,?mqcg,?Fqch⟩,⟨?mqci,?Fqcj,?mqck,?Fqcl,?mqcm,?Fqcn,?mqco,?Fqcp,?mqcq,?Fqcr,?mqcs,?Fqct,?mqcu,?Fqcv,?mqcw,?Fqcx,?mqcy,?Fqcz,?mqda,?eqdb⟩,⟨?Fqdc,?mqdd,?eqde,?Fqdf,?eqdg,?Fqdh,?eqdi,?Fqdj,?eqdk,?Fqdl,?eqdm,?Fqdn,?eqdo,?Fqdp,?eqdq,?Fqdr,?mqds,?eqdt,?Fqdu,?mqdv⟩,⟨?eqdw,?Fqdx,?eqdy,?Fqdz,?eqea,?Fqeb,?eqec,?Fqed,?eqee,?Fqef,?eqeg,?Fqeh,?eqei,?Fqej,?eqek,?Fqel,?eqem,?Fqen,?eqeo,?Fqep⟩,⟨?eqeq,?Fqer,?eqes,?Fqet,?mqeu,?eqev,?Fqew,?eqex,?Fqey,?eqez,?Fqfa,?eqfb,?Fqfc,?eqfd,?Fqfe,?eqff,?Fqfg,?mqfh,?eqfi,?Fqfj⟩,⟨?mqfk,?eqfl,?Fqfm,?eqfn,?Fqfo,?eqfp,?Fqfq,?eqfr,?Fqfs,?mqft,?eqfu,?Fqfv,?eqfw,?Fqfx,?eqfy,?Fqfz,?eqga,?Fqgb,?mqgc,?eqgd⟩,⟨?Fqge,?eqgf,?Fqgg,?eqgh,?Fqgi,?eqgj,?Fqgk,?mqgl,?eqgm,?Fqgn,?eqgo,?Fqgp,?eqgq,?Fqgr,?eqgs,?Fqgt,?sqgu,?sqgv,?sqgw,?sqgx⟩,⟨?sqgy,?sqgz,?sqha,?sqhb,?nqhc,?nqhd,?nqhe,?sqhf,?sqhg,?nqhh,?nqhi,?nqhj,?nqhk,?nqhl,?nqhm,?nqhn,?nqho,?sqhp,?sqhq,?sqhr⟩,⟨?sqhs,?sqht,?sqhu,?sqhv,?sqhw,?sqhx,?sqhy,?sqhz,?sqia,?sqib,?nqic,?nqid,?nqie,?nqif,?nqig,?nqih,?nqii,?nqij,?sqik,?sqil⟩,⟨?sqim,?sqin,?sqio,?sqip,?sqiq,?nqir,?nqis,?nqit,?nqiu,?nqiv,?sqiw,?sqix,?sqiy,?sqiz,?sqja,?sqjb,?nqjc,?nqjd,?nqje,?nqjf⟩,⟨?nqjg,?nqjh,?nqji,?sqjj,?sqjk,?sqjl,?sqjm,?sqjn,?nqjo,?nqjp,?nqjq,?nqjr,?nqjs,?nqjt,?nqju,?sqjv,?sqjw,?sqjx,?sqjy,?sqjz⟩,⟨?nqka,?nqkb,?nqkc,?nqkd,?nqke,?nqkf,?nqkg,?sqkh,?sqki,?sqkj,?sqkk,?sqkl,?nqkm,?nqkn,?nqko,?mqkp,?sqkq,?xqkr,?Xqks,?nqkt⟩,⟨?rqku,?rqkv,?dqkw,?dqkx,?dqky,?sqkz,?mqla,?vqlb,?mqlc,?vqld,?mqle,?vqlf,?mqlg,?vqlh,?mqli,?vqlj,?mqlk,?vqll,?mqlm,?vqln⟩,⟨?mqlo,?vqlp,?mqlq,?vqlr,?mqls,?vqlt,?mqlu,?vqlv,?mqlw,?vqlx,?bqly,?bqlz,?bqma,?bqmb,?bqmc,?bqmd,?bqme,?bqmf,?bqmg,?bqmh⟩,⟨?bqmi,?bqmj,?bqmk,?cqml,?lqmm⟩⟩,?zcc⟩
   case mqaa|mqac|mqae|mqag|mqai|mqak|mqam|mqao|mqaq|mqas|mqau|mqaw|mqay|mqba|mqbc|mqbe|mqbg|mqbi|mqbk|mqbm|mqbo|mqbq|mqbs|mqbu|mqbw|mqby|mqca|mqcc|mqce|mqcg|mqci|mqck|mqcm|mqco|mqcq|mqcs|mqcu|mqcw|mqcy|mqda|mqdd|mqds|mqdv|mqeu|mqfh|mqfk|mqft|mqgc|mqgl|mqkp|mqla|mqlc|mqle|mqlg|mqli|mqlk|mqlm|mqlo|mqlq|mqls|mqlu|mqlw=>(try dsimp only);refine' PySem.W.mg_of fF G ?z;case z=>k_is
   case eqdb|eqde|eqdg|eqdi|eqdk|eqdm|eqdo|eqdq|eqdt|eqdw|eqdy|eqea|eqec|eqee|eqeg|eqei|eqek|eqem|eqeo|eqeq|eqes|eqev|eqex|eqez|eqfb|eqfd|eqff|eqfi|eqfl|eqfn|eqfp|eqfr|eqfu|eqfw|eqfy|eqga|eqgd|eqgf|eqgh|eqgj|eqgm|eqgo|eqgq|eqgs=>(try dsimp only);k_is
   case sqgu|sqgv|sqgw|sqgx|sqgy|sqgz|sqha|sqhb|sqhf|sqhg|sqhp|sqhq|sqhr|sqhs|sqht|sqhu|sqhv|sqhw|sqhx|sqhy|sqhz|sqia|sqib|sqik|sqil|sqim|sqin|sqio|sqip|sqiq|sqiw|sqix|sqiy|sqiz|sqja|sqjb|sqjj|sqjk|sqjl|sqjm|sqjn|sqjv|sqjw|sqjx|sqjy|sqjz|sqkh|sqki|sqkj|sqkk|sqkl|sqkq|sqkz=>(try dsimp only);constructor <;> k_is
   case Fqab|Fqad|Fqaf|Fqah|Fqaj|Fqal|Fqan|Fqap|Fqar|Fqat|Fqav|Fqax|Fqaz|Fqbb|Fqbd|Fqbf|Fqbh|Fqbj|Fqbl|Fqbn|Fqbp|Fqbr|Fqbt|Fqbv|Fqbx|Fqbz|Fqcb|Fqcd|Fqcf|Fqch|Fqcj|Fqcl|Fqcn|Fqcp|Fqcr|Fqct|Fqcv|Fqcx|Fqcz|Fqdc|Fqdf|Fqdh|Fqdj|Fqdl|Fqdn|Fqdp|Fqdr|Fqdu|Fqdx|Fqdz|Fqeb|Fqed|Fqef|Fqeh|Fqej|Fqel|Fqen|Fqep|Fqer|Fqet|Fqew|Fqey|Fqfa|Fqfc|Fqfe|Fqfg|Fqfj|Fqfm|Fqfo|Fqfq|Fqfs|Fqfv|Fqfx|Fqfz|Fqgb|Fqge|Fqgg|Fqgi|Fqgk|Fqgn|Fqgp|Fqgr|Fqgt=>(try dsimp only);refine' L2.acK ?x ?y ?z;(case x=>k_is);(case y=>k_is);(case z=>k_is)
   case cqml=>(try dsimp only);(try rfl)
   case nqhc|nqhd|nqhe|nqhh|nqhi|nqhj|nqhk|nqhl|nqhm|nqhn|nqho|nqic|nqid|nqie|nqif|nqig|nqih|nqii|nqij|nqir|nqis|nqit|nqiu|nqiv|nqjc|nqjd|nqje|nqjf|nqjg|nqjh|nqji|nqjo|nqjp|nqjq|nqjr|nqjs|nqjt|nqju|nqka|nqkb|nqkc|nqkd|nqke|nqkf|nqkg|nqkm|nqkn|nqko|nqkt=>(try dsimp only);unfold L2.dc;k_is
   case rqku|rqkv=>(try dsimp only);kernel_rfl
   case xqkr=>(try dsimp only);refine' ⟨?_,by kernel_rfl,?_,?_,?_⟩ <;> k_is
   case Xqks=>(try dsimp only);refine' L2.anW ?x (by kernel_rfl) ?y;(case x=>k_is);(case y=>k_is)
   case dqkw|dqkx|dqky=>(try dsimp only);decide
   case vqlb|vqld|vqlf|vqlh|vqlj|vqll|vqln|vqlp|vqlr|vqlt|vqlv|vqlx=>(try dsimp only);exact⟨_,rfl⟩
   case bqly|bqlz|bqma|bqmb|bqmc|bqmd|bqme|bqmf|bqmg|bqmh|bqmi|bqmj|bqmk=>(try dsimp only);refine' PySem.W.mg_none_of fF G ?z;case z=>k_is
   case lqmm=>(try dsimp only);exact fun _ _=>.of_eq rfl
   case zcc=>(try dsimp only);kernel_rfl
  obtain⟨t,T,uK⟩:=T;have gp:=zy.symm.trans T.aii;cases gp;exact⟨t.DM,t.qA,T.ad6,uK,fun base auH nb cu hM=>My.aiQ T cu hM⟩
 case S=>exact fun K H a Pt ns aG m7 eD=>⟨a,ns,rfl,L2.Sc.arb m7 eD,aG,⟨#[],m7.1,.inl rfl⟩,fun _=>rfl⟩
 case C=>exact fun _ _ _ _ z=>z
